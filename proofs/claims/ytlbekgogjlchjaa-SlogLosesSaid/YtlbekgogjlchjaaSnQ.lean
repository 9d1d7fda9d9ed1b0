/-
  What functions of the program do, told of abstract states. Conditions: as each theorem says.
-/
import Derived.Test.YtlbekgogjlchjaaSnP
namespace Go.Proofs.Ytlbekgogjlchjaa.Pk
open Go Go.Proofs Go.Proofs.Ytlbekgogjlchjaa.Ab
set_option linter.unusedVariables false
set_option linter.unusedSimpArgs false
theorem LogS.onZ {h0 h h' : AHeap} {L : Nat} {room : Int} {n : Nat} {rs : Nat → NR} {dv nv pv : V} {ow : Nat → Nat} {s : LS} (w : LogS h0 h L room n rs dv nv pv ow s) {own : Nat → Prop} (k : Keep h h' own) (ho : ∀ x, own x → ow x = 0 ∧ h0.n ≤ x) : LogS h0 h' L room n rs dv nv pv ow s :=
  ⟨w.keep.trans k fun x hx hh => by have := (ho x hh).2; omega, w.new, w.owL, (k.get L w.lt (fun hh => by have := (ho L hh).1; rw [w.owL] at this; cases this)).trans w.get,
    w.dk.keep k fun x hx hh => by have := (ho x hh).1; have := w.owd x hx; omega, w.nk.keep k fun x hx hh => by have := (ho x hh).1; have := w.own_ x hx; omega, w.pk.keep k fun x hx hh => by have := (ho x hh).1; have := w.owp x hx; omega, w.owd, w.own_, w.owp, w.ns.on k fun x hx => by rw [(ho x hx).1]; decide, w.rok, w.rl⟩
theorem RVal.ne {h h' : AHeap} {ow : Nat → Nat} {rv : V} {l : List Bool} (r : RVal h ow rv l) {own : Nat → Prop} (k : Keep h h' own) (hne : ∀ x, idOf rv = some x → ¬ own x) : RVal h' ow rv l := by
  rcases r.v with e | o
  · exact ⟨.inl e, r.ow⟩
  · exact ⟨.inr (o.keep k hne), r.ow⟩
theorem bV_set (l : List Bool) (k : Nat) (b : Bool) : bV (l.set k b) = (bV l).set k (.bool b) := by
  have e : ∀ l : List Bool, bV l = l.map V.bool := fun l => by
    unfold bV boE
    induction l with
    | nil => rfl
    | cons b l ih => simp [ih]
  rw [e, e, List.map_set]
theorem bo_set {h : AHeap} {v : V} {l : List Bool} (o : Own h 4 1 v (bV l)) {k : Nat} (hk : k < l.length) (b : Bool) : ∃ j ob, aIndexAddr Try.prog 55 v (.int .i64 (k : Int)) = some (.ptr j k) ∧ setC (some 1) (h.get j) k [.bool b] = some ob ∧ Own (h.set j ob) 4 1 v (bV (l.set k b)) ∧ Keep h (h.set j ob) (isId v) ∧ idOf v = some j := by
  have hk' : k < (bV l).length := by rw [bV_len]; exact hk
  obtain ⟨j, x1, x2, _, x4⟩ := own_elem (P := Try.prog) (t := 55) (kk := .i64) ss_55 o (k := k) hk'
  obtain ⟨ob, z1, z2, z3⟩ := x4 (.bool b) rfl
  exact ⟨j, ob, x1, z1, by rw [bV_set]; exact z2, z3, x2⟩
theorem three_a {k : Nat} (hk : k < 3) : 3 / 2 + 1 ≤ cntN (rch ([true, true, true].set k false)) 3 ∧ ∃ q, q < 3 ∧ q ≠ k ∧ rch ([true, true, true].set k false) q = true := by
  have : k = 0 ∨ k = 1 ∨ k = 2 := by omega
  rcases this with rfl | rfl | rfl
  · exact ⟨by decide, 1, by decide, by decide, by decide⟩
  · exact ⟨by decide, 0, by decide, by decide, by decide⟩
  · exact ⟨by decide, 0, by decide, by decide, by decide⟩
theorem three_b {k : Nat} (hk : k < 3) : 3 / 2 + 1 ≤ cntN (rch ((([true, true, true].set k false).set k true).set ((k + 1) % 3) false)) 3 ∧ ∃ q, q < 3 ∧ rch ((([true, true, true].set k false).set k true).set ((k + 1) % 3) false) q = true := by
  have : k = 0 ∨ k = 1 ∨ k = 2 := by omega
  rcases this with rfl | rfl | rfl
  · exact ⟨by decide, 0, by decide, by decide⟩
  · exact ⟨by decide, 0, by decide, by decide⟩
  · exact ⟨by decide, 1, by decide, by decide⟩
theorem Good.lose {n : Nat} {nd : Nds} {E : Int} {R : List (List Nat)} {B : Nat} (w : Good n nd E R B) (hE : 0 ≤ E) (k : Nat) : Good n (updN nd k []) E R B := by
  refine ⟨fun q hq => ?_, fun q hq => ?_, fun q hq i c hc => ?_⟩
  · by_cases e : q = k
    · subst e; rw [updN_same]; exact hE
    · rw [updN_ne e]; exact w.ep q hq
  · by_cases e : q = k
    · subst e; rw [updN_same]; exact Nat.zero_le _
    · rw [updN_ne e]; exact w.use_ q hq
  · by_cases e : q = k
    · subst e; rw [updN_same] at hc; cases hc
    · rw [updN_ne e] at hc; exact w.cel q hq i c hc
/-- Whatever is appended to a log whose nodes are all reached: it stays open, and each node has all. -/
theorem app_all {room : Int} {n : Nat} {rc : Nat → Bool} {s : LS} {b : List Nat} {B : Nat} (w : Good n s.nd s.ep s.row B) (ho : s.op = true) (hE : 0 ≤ s.ep ∧ s.ep ≤ 1048576) (hl : s.row.length < 4096) (hB : ((B + (60 + 2048) : Nat) : Int) ≤ room) (hq : n / 2 + 1 ≤ cntN rc n) (hr : ∀ q, q < n → rc q = true) (hf : ∀ q, q < n → Full s.row (s.nd q)) :
    Good n (appL room n rc b s).1.nd (appL room n rc b s).1.ep (appL room n rc b s).1.row (B + (54 + 2048)) ∧ (appL room n rc b s).1.op = true ∧ (appL room n rc b s).1.ep = s.ep ∧ (appL room n rc b s).1.row.length ≤ s.row.length + 1 ∧ ∀ q, q < n → Full (appL room n rc b s).1.row ((appL room n rc b s).1.nd q) := by
  by_cases hb : b.length = 0 ∨ 2048 < b.length
  · rw [app_range ho hb]
    exact ⟨w.rise (Int.le_refl _) (Nat.le_add_right _ _), ho, rfl, Nat.le_succ _, hf⟩
  · obtain ⟨g, fu, ep, A⟩ := w.app (room := room) (rc := rc) (b := b) (M := 2048) ho (by decide) hE (by omega) (by omega) hl hB
    rw [if_pos hq] at A
    obtain ⟨_, row, op⟩ := A
    refine ⟨by rw [row, ep]; exact g, op, ep, by rw [row, List.length_append]; simp, fun q hq => ?_⟩
    rw [row]
    exact fu q hq (hr q hq) (hf q hq)
set_option maxHeartbeats 8000000 in
set_option maxRecDepth 20000 in
theorem slogLoses (l : List (List Nat)) (hl : l.length ≤ 2 ^ 47) (hb : ∀ b ∈ l, ∀ x ∈ b, x < 256) (node : Nat) (hnd : node < 256) (h : AHeap) : SCalls Try.prog 10 [.imm l.length (rowV l), .int .u8 (node : Int)] h (fun r h' => r = .bool true) := by
  have n0 : ((0 : Int) != 0) = false := rfl
  have z0 : ((0 : Int) == 0) = true := rfl
  refine SCalls.enterI (c := _) Try.func10 rfl (by kernel_rfl) (by simp) ?_
  simp only [wpA_region, wpA_seq, seqQ_normal, goI_out, goI_ops, opsA_nil, opsA_cons, stepA_assign, stepA_call, eval_const, absV_bool, List.map_nil]
  refine callI_pure cal23 (shown10 h) ?_
  simp only [wpA_region, wpA_seq, seqQ_normal, goI_out, goI_ops, opsA_nil, opsA_cons, stepA_assign, stepA_call, eval_tmp, eval_const, put_some, enterF_succ, absV_int, Nat.reduceEqDiff, List.map_cons, List.map_nil, if_true, if_false]
  refine callI_of cal24 (logNew h 3 (.inr (.inl rfl)) 1048576 (by decide)) fun r1 h1 ⟨L, rs, dv, nv, ow, e1, w1⟩ => ?_
  subst e1
  have k2 : Keep h1 (h1.push (.cells (bV [true, true, true]) 4 none)) none_ := Keep.push _ _ _
  have w2 := w1.on k2
  have r2 := rv_new (h := h1) [true, true, true] (w1.ns.zero (Nat.le_refl _)) (by simp)
  have n2 : h1.n < (h1.push (.cells (bV [true, true, true]) 4 none)).n := Nat.lt_succ_self _
  simp only [wpA_skip, wpA_region, wpA_seq, wpA_cond, condI_false, seqQ_normal, goI_out, goI_ops, opsA_nil, opsA_cons, opsA_guardS, gvI_same, slotAt_zero, slotAt_succ, stepA_move, stepA_assign, stepA_pick, stepA_buildSlice, stepA_binOp, stepA_extract, stepA_call, thenV_some, thenH_some, pickV_false, extV_zero, extV_succ, eval_tmp, eval_const, put_some, enterF_succ, aBin_neq, ptr_nil_eql, absV_int, absV_bool, absV_pnil, bne_self_eq_false, Nat.reduceEqDiff, List.map_cons, List.map_nil, if_true, if_false, kt_51, litB3]
  generalize h1.push (.cells (bV [true, true, true]) 4 none) = h2 at w2 r2 n2 ⊢
  have hj1 := w1.keep.n
  generalize h1.n = ja at r2 n2 hj1 ⊢
  refine callI_of cal26 (logOpen w2 (by decide) (by decide) [true, true, true] r2 (by simp)) fun x h3 ⟨s3, e3, rs3, pv3, ow3, O3, ex, w3, ep3, f3⟩ => ?_
  subst ex
  obtain ⟨rfl, row3, op3, _, g3, fu3, _⟩ := (good0 3).open_ (M := 2048) O3 (by decide) (by decide) (by simp) (by simp) (by decide) (.inl rfl) (by simp)
  have r3 := r2.fr f3
  have ep3' : s3.ep = 1 := ep3
  have all3 : ∀ q, q < 3 → rch [true, true, true] q = true := fun q hq => by
    have : q = 0 ∨ q = 1 ∨ q = 2 := by omega
    rcases this with rfl | rfl | rfl <;> rfl
  have hja3 : ja < h3.n := Nat.lt_of_lt_of_le n2 f3.keep.n
  simp only [wpA_skip, wpA_region, wpA_seq, wpA_cond, wpA_block, wpA_loop, condI_false, seqQ_normal, goI_out, goI_ops, opsA_nil, opsA_cons, stepA_assign, stepA_binOp, thenV_some, eval_tmp, eval_const, put_some, enterF_succ, aBin_neq, absV_int, bne_self_eq_false, Nat.reduceEqDiff, if_true, if_false]
  refine SWp.loopG (α := Nat × (Nat → NR) × V × (Nat → Nat) × LS) (fun x f h' => f 0 = .imm l.length (rowV l) ∧ f 1 = .int .u8 (node : Int) ∧ f 5 = .bool true ∧ f 6 = .ptr L 0 ∧ f 8 = .sl ja 0 3 3 ∧ f 9 = .int .i64 (x.1 : Nat) ∧ x.1 ≤ 30 ∧ LogS h h' L 1048576 3 x.2.1 dv nv x.2.2.1 x.2.2.2.1 x.2.2.2.2 ∧ RVal h' x.2.2.2.1 (.sl ja 0 3 3) [true, true, true] ∧ ja < h'.n ∧
      Good 3 x.2.2.2.2.nd x.2.2.2.2.ep x.2.2.2.2.row (54 + x.1 * 2102) ∧ x.2.2.2.2.op = true ∧ x.2.2.2.2.ep = 1 ∧ x.2.2.2.2.row.length ≤ x.1 ∧ ∀ q, q < 3 → Full x.2.2.2.2.row (x.2.2.2.2.nd q)) (fun x => 30 - x.1) (0, rs3, pv3, ow3, s3)
    ⟨rfl, rfl, rfl, rfl, rfl, rfl, Nat.zero_le _, w3, r3, hja3, by rw [row3, ep3']; exact g3, op3, ep3', by rw [row3]; exact Nat.le_refl _, fun q hq => by rw [row3]; exact fu3 q hq (all3 q hq)⟩ ?_
  rintro ⟨i, rs4, pv4, ow4, s⟩ f h4 ⟨f0, f1, f5, f6, f8, f9, hi, w4, r4, n4, g4, op4, ep4, rl4, fu4⟩
  simp only at f9 hi w4 r4 g4 op4 ep4 rl4 fu4
  refine wpI_sound (by kernel_rfl) ?_
  by_cases hlt : i < l.length ∧ i < 30
  · obtain ⟨hlt, hlt2⟩ := hlt
    have d1 : decide ((i : Int) < ((l.length : Nat) : Int)) = true := decide_eq_true (by omega)
    have d2 : decide ((i : Int) < 30) = true := decide_eq_true (by omega)
    have hw : IntKind.i64.wrap ((i : Int) + 1) = ((i + 1 : Nat) : Int) := by rw [Go.IntWalk.i64_in _ (by omega)]; rfl
    have x1 := ro_ix hlt
    have hbb := hb _ (List.getElem_mem hlt)
    generalize l[i] = b at x1 hbb
    obtain ⟨g5, op5, ep5, rl5, fu5⟩ := app_all (room := 1048576) (rc := rch [true, true, true]) (b := b) g4 op4 (by omega) (by omega) (by omega) (by decide) all3 fu4
    simp only [wpA_skip, wpA_region, wpA_seq, wpA_cond, wpA_block, condI_true, seqQ_normal, goI_out, goI_ops, opsA_nil, opsA_cons, opsA_guardS, gvI_same, slotAt_zero, slotAt_succ, stepA_move, stepA_pick, stepA_load, stepA_binOp, stepA_indexAddr, stepA_len, stepA_call, thenV_some, pickV_true, eval_tmp, eval_const, put_some, aBin_lss, absV_int, absV_bool, aLoad_eq, loadGo_one, aPlace_at, aLen_imm, Nat.reduceEqDiff, reduceCtorEq, List.map_cons, List.map_nil, if_true, if_false, kt_54, lt_30, f0, f6, f8, f9, d1, d2, x1]
    refine callI_of cal25 (logAppend w4 (by decide) b hbb [true, true, true] r4 (by simp)) fun x h5 ⟨ex, rs5, pv5, ow5, w5, fr5⟩ => ?_
    subst ex
    simp only [wpA_region, seqQ_normal, blkQ_normal, endI_mk, andThen_normal, goI_out, goI_ops, opsA_nil, opsA_cons, stepA_move, stepA_assign, stepA_binOp, thenV_some, eval_tmp, eval_const, put_some, aBin_add, absV_int, Nat.reduceEqDiff, if_true, if_false, f9, hw]
    exact hid_mk ⟨(i + 1, rs5, pv5, ow5, (appL 1048576 3 (rch [true, true, true]) b s).1), ⟨f0, f1, f5, f6, f8, rfl, by simp only; omega, w5, r4.fr fr5, Nat.lt_of_lt_of_le n4 fr5.keep.n, g5.rise (Int.le_refl _) (by simp only; omega), op5, ep5.trans ep4, by simp only; omega, fu5⟩, by simp only; omega⟩
  have hend : decide ((i : Int) < ((l.length : Nat) : Int)) = false ∨ (decide ((i : Int) < ((l.length : Nat) : Int)) = true ∧ decide ((i : Int) < 30) = false) := by
    simp only [decide_eq_false_iff_not, decide_eq_true_eq]
    omega
  have hrb : ∀ b ∈ s.row, b.length ≤ 2048 := fun b hb => (w4.rok b hb).1
  have hm1 : (node : Int).tmod 3 = ((node % 3 : Nat) : Int) := by rw [Int.tmod_eq_emod_of_nonneg (by omega)]; omega
  have hk3 : node % 3 < 3 := Nat.mod_lt _ (by decide)
  generalize node % 3 = k at hm1 hk3
  have wu : IntKind.u8.wrap (k : Int) = (k : Int) := by rw [IntKind.wrap_u8]; omega
  have wi : IntKind.i64.wrap (k : Int) = (k : Int) := Go.IntWalk.i64_in _ (by omega)
  have hB : ∀ B X : Nat, B ≤ 54 + 30 * 2102 + 2 * (54 + 30 * 2102) → X ≤ 30 → ((B + 54 + X * (54 + 2048) + (60 + 2048) : Nat) : Int) ≤ 1048576 := fun B X h1 h2 => by omega
  rcases hend with d1 | ⟨d1, d2⟩
  all_goals first | simp only [wpA_region, wpA_seq, wpA_cond, wpA_exit, condI_false, seqQ_normal, seqQ_exit, blkQ_exit, endI_mk, goE, andThen_exit, goI_out, goI_ops, opsA_nil, opsA_cons, opsA_guardS, gvI_same, slotAt_zero, slotAt_succ, stepA_move, stepA_pick, stepA_binOp, stepA_len, stepA_call, thenV_some, pickV_true, eval_tmp, eval_const, put_some, aBin_lss, absV_int, absV_bool, aLen_imm, Nat.reduceEqDiff, reduceCtorEq, List.map_cons, List.map_nil, if_true, if_false, kt_54, f0, f6, f9, d1, d2] | simp only [wpA_region, wpA_seq, wpA_cond, wpA_exit, condI_false, seqQ_normal, seqQ_exit, blkQ_exit, endI_mk, goE, andThen_exit, goI_out, goI_ops, opsA_nil, opsA_cons, opsA_guardS, gvI_ft, slotAt_zero, slotAt_succ, stepA_move, stepA_pick, stepA_binOp, stepA_len, stepA_call, thenV_some, pickV_false, eval_tmp, eval_const, put_some, aBin_lss, absV_bool, aLen_imm, Nat.reduceEqDiff, reduceCtorEq, List.map_cons, List.map_nil, if_true, if_false, kt_54, f0, f6, f9, d1]
  all_goals
    refine callI_of cal27 (pRow10 w4) fun vw h5 acc5 => ?_
    have w5 := w4.on acc5.keep
    have r5 := r4.fr (LFr.none ow4 acc5.keep)
    have K5 : KV h5 ow4 vw s.row := ⟨acc5.own, fun x hx => w4.ns.zero (acc5.new x hx)⟩
    simp only [wpA_region, wpA_seq, seqQ_normal, goI_out, goI_ops, opsA_nil, opsA_cons, stepA_move, stepA_assign, stepA_binOp, stepA_convert, stepA_call, thenV_some, thenC_some, eval_tmp, eval_const, put_some, absV_int, Nat.reduceEqDiff, List.map_cons, List.map_nil, if_true, if_false, f1, f6, aBin_rem (show (3 : Int) ≠ 0 by decide), hm1, aConv_int it_5 it_3, wi]
    refine callI_of cal31 (logLose w5 (by decide) hk3) fun x h6 ⟨ex, rs6, ow6, w6, f6'⟩ => ?_
    subst ex
    have K6 := K5.fr f6'
    have r6 := r5.fr f6'
    have g6 := g4.lose (by omega) k
    have k7 : Keep h6 (h6.push (.cells (bV [true, true, true]) 4 none)) none_ := Keep.push _ _ _
    have w7 := w6.on k7
    have K7 := K6.fr (LFr.none ow6 k7)
    have r7 := r6.fr (LFr.none ow6 k7)
    have t7 := rv_new (h := h6) [true, true, true] (w6.ns.zero (Nat.le_refl _)) (by simp)
    have lw := K6.own.lt
    have n6 : ja < h6.n := by have := f6'.keep.n; have := acc5.keep.n; omega
    have n7 : h6.n < (h6.push (.cells (bV [true, true, true]) 4 none)).n := Nat.lt_succ_self _
    have hj6 := w6.keep.n
    have hz6 := w6.ns.zero (Nat.le_refl _)
    simp only [wpA_region, wpA_seq, seqQ_normal, goI_out, goI_ops, opsA_nil, opsA_cons, stepA_move, stepA_assign, stepA_buildSlice, stepA_indexAddr, thenH_some, eval_tmp, eval_const, put_some, absV_bool, aIndexAddr_eq, ixGo_sl, Nat.reduceEqDiff, List.map_cons, List.map_nil, Nat.zero_add, if_true, if_false, as_55, ss_55, litB3]
    generalize h6.push (.cells (bV [true, true, true]) 4 none) = h7 at w7 K7 r7 t7 n7 ⊢
    generalize h6.n = jt at t7 n6 n7 hj6 hz6 lw ⊢
    have to7 : Own h7 4 1 (.sl jt 0 3 3) (bV [true, true, true]) := t7.v.resolve_left (by intro e; cases e)
    have qix : ∀ a : Nat, a < 3 → (if 0 ≤ (a : Int) ∧ (a : Int) < ((3 : Nat) : Int) then some (V.ptr jt ((a : Int).toNat * 1)) else none) = some (V.ptr jt a) := fun a ha => by rw [if_pos ⟨by omega, by omega⟩]; simp
    have x8 := qix k hk3
    obtain ⟨j8, ob8, _, s8, to8, k8, e8⟩ := bo_set to7 (k := k) (by simpa using hk3) false
    have e8' : jt = j8 := by simpa [idOf] using e8
    subst e8'
    have w8 := w7.onZ k8 (fun x hx => by have : jt = x := by simpa [isId, idOf] using hx
                                         subst this; exact ⟨hz6, hj6⟩)
    have ntw : ∀ x, idOf vw = some x → ¬ isId (.sl jt 0 3 3) x := fun x hx hh => by have := lw x hx; have : jt = x := by simpa [isId, idOf] using hh
                                                                                    omega
    have K8 : KV (h7.set jt ob8) ow6 vw s.row := ⟨K7.own.keep k8 ntw, K7.z⟩
    have nta : ∀ x, idOf (.sl ja 0 3 3) = some x → ¬ isId (.sl jt 0 3 3) x := fun x hx hh => by
      have h8 : ja = x := by simpa [idOf] using hx
      have h9 : jt = x := by simpa [isId, idOf] using hh
      omega
    have zt : ∀ x, isId (.sl jt 0 3 3) x → x = jt := fun x hh => by
      have h9 : jt = x := by simpa [isId, idOf] using hh
      exact h9.symm
    have r8 : RVal (h7.set jt ob8) ow6 (.sl ja 0 3 3) [true, true, true] := r7.ne k8 nta
    have t8 : RVal (h7.set jt ob8) ow6 (.sl jt 0 3 3) ([true, true, true].set k false) := ⟨.inr to8, fun x hx => by rw [zt x hx]; exact hz6⟩
    have n8 : jt < (h7.set jt ob8).n := n7
    simp only [wpA_region, wpA_seq, seqQ_normal, goI_out, goI_ops, opsA_nil, opsA_cons, stepA_move, stepA_store, stepA_call, thenV_some, thenS_some, eval_tmp, eval_const, put_some, put_none, absV_bool, cells_bool, aStore_eq, storeGo_ptr, Nat.reduceEqDiff, List.map_cons, List.map_nil, Option.map_some, if_true, if_false, zt_4, f6, x8, s8]
    generalize h7.set jt ob8 = h8 at w8 K8 r8 t8 n8 ⊢
    refine callI_of cal26 (logOpen w8 (by simp only; omega) (by decide) _ t8 (by simp)) fun x h9 ⟨s9, e9, rs9, pv9, ow9, O9, ex, w9, ep9, f9'⟩ => ?_
    subst ex
    have ep9' : s9.ep = 2 := by rw [ep9]; show s.ep + 1 = 2; omega
    obtain ⟨ta1, qa, qa1, qa2, qa3⟩ := three_a hk3
    obtain ⟨rfl, row9, op9, _, g9, fu9, keep9⟩ := g6.open_ (M := 2048) O9 (by decide) (by simp only; omega) (by omega) hrb ta1 (.inr ⟨qa, qa1, qa3, by show Full s.row (updN s.nd k [] qa); rw [updN_ne qa2]; exact fu4 qa qa1⟩) (hB _ _ (by omega) (by omega))
    have K9 := K8.fr f9'
    have r9 := r8.fr f9'
    have t9 := t8.fr f9'
    have n9 : jt < h9.n := Nat.lt_of_lt_of_le n8 f9'.keep.n
    simp only [wpA_region, wpA_seq, seqQ_normal, goI_out, goI_ops, opsA_nil, opsA_cons, stepA_move, stepA_assign, stepA_call, eval_tmp, put_some, put_none, Nat.reduceEqDiff, List.map_cons, List.map_nil, if_true, if_false, f6]
    refine callI_of cal27 (pRow10 w9) fun va h10 acc10 => ?_
    have w10 := w9.on acc10.keep
    have K10 := K9.fr (LFr.none ow9 acc10.keep)
    have r10 := r9.fr (LFr.none ow9 acc10.keep)
    have t10 := t9.fr (LFr.none ow9 acc10.keep)
    have A10 : KV h10 ow9 va s.row := ⟨by rw [← row9]; exact acc10.own, fun x hx => w9.ns.zero (acc10.new x hx)⟩
    have nva : ∀ x, idOf va = some x → x ≠ jt := fun x hx => by have := acc10.new x hx; omega
    simp only [wpA_region, wpA_seq, seqQ_normal, goI_out, goI_ops, opsA_nil, opsA_cons, stepA_move, stepA_assign, stepA_call, eval_tmp, put_some, put_none, Nat.reduceEqDiff, List.map_cons, List.map_nil, if_true, if_false, f6, f8]
    refine callI_of cal26 (logOpen w10 (by omega) (by decide) _ r10 (by simp)) fun x h11 ⟨s11, e11, rs11, pv11, ow11, O11, ex, w11, ep11, f11⟩ => ?_
    subst ex
    have ep11' : s11.ep = 3 := by rw [ep11, ep9']; rfl
    have G9 : Good 3 s9.nd s9.ep s.row (54 + i * 2102 + 54 + s.row.length * (54 + 2048)) := by rw [ep9]; exact g9
    obtain ⟨rfl, row11, op11, _, g11, fu11, _⟩ := G9.open_ (M := 2048) O11 (by decide) (by omega) (by omega) hrb (by decide) (.inr ⟨qa, qa1, all3 qa qa1, fu9 qa qa1 qa3⟩) (hB _ _ (by omega) (by omega))
    have K11 := K10.fr f11
    have A11 := A10.fr f11
    have t11 := t10.fr f11
    have to11 : Own h11 4 1 (.sl jt 0 3 3) (bV ([true, true, true].set k false)) := t11.v.resolve_left (by intro e; cases e)
    obtain ⟨j12, ob12, _, s12, to12, k12, e12⟩ := bo_set to11 (k := k) (by simpa using hk3) true
    have e12' : jt = j12 := by simpa [idOf] using e12
    subst e12'
    have hz11 : ow11 jt = 0 := t11.ow jt rfl
    have w12 := w11.onZ k12 (fun x hx => by rw [zt x hx]; exact ⟨hz11, hj6⟩)
    have K12 : KV (h11.set jt ob12) ow11 vw s.row := ⟨K11.own.keep k12 ntw, K11.z⟩
    have A12 : KV (h11.set jt ob12) ow11 va s.row := ⟨A11.own.keep k12 (fun x hx hh => nva x hx (zt x hh)), A11.z⟩
    simp only [wpA_region, wpA_seq, seqQ_normal, goI_out, goI_ops, opsA_nil, opsA_cons, stepA_move, stepA_assign, stepA_store, stepA_binOp, stepA_indexAddr, thenV_some, thenS_some, eval_tmp, eval_const, put_some, put_none, aBin_add, absV_int, absV_bool, cells_bool, aStore_eq, storeGo_ptr, aIndexAddr_eq, ixGo_sl, Nat.reduceEqDiff, Option.map_some, Nat.zero_add, if_true, if_false, as_55, ss_55, zt_4, x8, s12]
    generalize h11.set jt ob12 = h12 at w12 K12 A12 to12 ⊢
    have hk1 : ((k : Int) + 1).tmod 3 = (((k + 1) % 3 : Nat) : Int) := by rw [Int.tmod_eq_emod_of_nonneg (by omega)]; omega
    have hwk : IntKind.i64.wrap ((k : Int) + 1) = (k : Int) + 1 := Go.IntWalk.i64_in _ (by omega)
    have hk13 : (k + 1) % 3 < 3 := Nat.mod_lt _ (by decide)
    have x13 := qix ((k + 1) % 3) hk13
    obtain ⟨j13, ob13, _, s13, to13, k13, e13⟩ := bo_set to12 (k := (k + 1) % 3) (by simpa using hk13) false
    have e13' : jt = j13 := by simpa [idOf] using e13
    subst e13'
    have w13 := w12.onZ k13 (fun x hx => by rw [zt x hx]; exact ⟨hz11, hj6⟩)
    have K13 : KV (h12.set jt ob13) ow11 vw s.row := ⟨K12.own.keep k13 ntw, K12.z⟩
    have A13 : KV (h12.set jt ob13) ow11 va s.row := ⟨A12.own.keep k13 (fun x hx hh => nva x hx (zt x hh)), A12.z⟩
    have t13 : RVal (h12.set jt ob13) ow11 (.sl jt 0 3 3) ((([true, true, true].set k false).set k true).set ((k + 1) % 3) false) := ⟨.inr to13, fun x hx => by rw [zt x hx]; exact hz11⟩
    simp only [wpA_region, wpA_seq, seqQ_normal, goI_out, goI_ops, opsA_nil, opsA_cons, stepA_move, stepA_store, stepA_indexAddr, stepA_call, thenV_some, thenS_some, eval_tmp, eval_const, put_some, put_none, absV_bool, cells_bool, aStore_eq, storeGo_ptr, aIndexAddr_eq, ixGo_sl, Nat.reduceEqDiff, List.map_cons, List.map_nil, Option.map_some, Nat.zero_add, if_true, if_false, as_55, ss_55, zt_4, f6, hwk, aBin_rem (show (3 : Int) ≠ 0 by decide), hk1, x13, s13]
    generalize h12.set jt ob13 = h13 at w13 K13 A13 t13 ⊢
    refine callI_of cal26 (logOpen w13 (by omega) (by decide) _ t13 (by simp)) fun x h14 ⟨s14, e14, rs14, pv14, ow14, O14, ex, w14, ep14, f14⟩ => ?_
    subst ex
    obtain ⟨tb1, qb, qb1, qb2⟩ := three_b hk3
    have G11 : Good 3 s11.nd s11.ep s.row (54 + i * 2102 + 54 + s.row.length * (54 + 2048) + 54 + s.row.length * (54 + 2048)) := by rw [ep11]; exact g11
    obtain ⟨rfl, row14, op14, _, g14, fu14, _⟩ := G11.open_ (M := 2048) O14 (by decide) (by omega) (by omega) hrb tb1 (.inr ⟨qb, qb1, qb2, fu11 qb qb1 (all3 qb qb1)⟩) (hB _ _ (by omega) (by omega))
    have K14 := K13.fr f14
    have A14 := A13.fr f14
    have hL1 := pLists A14.own K14.own (by omega) (by omega) (fun x hx => (w4.rok x hx).2) (fun x hx => (w4.rok x hx).2)
    rw [decide_eq_true rfl] at hL1
    simp only [wpA_region, wpA_seq, seqQ_normal, goI_out, goI_ops, opsA_nil, opsA_cons, opsA_guardS, gvI_same, slotAt_zero, slotAt_succ, stepA_move, stepA_assign, stepA_pick, stepA_binOp, stepA_call, thenV_some, pickV_true, eval_tmp, eval_const, put_some, put_none, aBin_eql, absV_int, absV_bool, beq_self_eq_true, Nat.reduceEqDiff, List.map_cons, List.map_nil, if_true, if_false, f5]
    refine callI_pure cal30 hL1 ?_
    simp only [goI_ops, opsA_cons, opsA_guardS, gvI_same, slotAt_zero, slotAt_succ, stepA_move, stepA_pick, stepA_call, thenV_some, pickV_true, eval_tmp, eval_const, put_some, put_none, absV_bool, Nat.reduceEqDiff, List.map_cons, List.map_nil, if_true, if_false, f6]
    refine callI_of cal27 (pRow10 w14) fun vb h15 acc15 => ?_
    have K15 := K14.fr (LFr.none ow14 acc15.keep)
    have hL2 := pLists (show Own h15 30 1 vb (rowV s.row) by rw [← row14]; exact acc15.own) K15.own (by omega) (by omega) (fun x hx => (w4.rok x hx).2) (fun x hx => (w4.rok x hx).2)
    rw [decide_eq_true rfl] at hL2
    simp only [goI_ops, opsA_guardS, gvI_same, slotAt_zero, slotAt_succ, stepA_move, stepA_call, eval_tmp, put_some, put_none, Nat.reduceEqDiff, List.map_cons, List.map_nil, if_true, if_false]
    refine callI_pure cal30 hL2 ?_
    simp only [wpA_ret, seqQ_normal, endI_mk, goI_out, goI_ops, opsA_nil, opsA_cons, stepA_assign, stepA_pick, thenV_some, pickV_true, eval_tmp, eval_const, put_some, put_none, absV_bool, Nat.reduceEqDiff, if_true, if_false, retA_ret, Try.results10, resultsA_1]
    exact hid_mk rfl
end Go.Proofs.Ytlbekgogjlchjaa.Pk
