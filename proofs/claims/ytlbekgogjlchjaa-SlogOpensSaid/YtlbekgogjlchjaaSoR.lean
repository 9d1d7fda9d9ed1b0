/-
  What functions of the program do, told of abstract states. Conditions: as each theorem says.
-/
import Derived.Test.YtlbekgogjlchjaaSoQ
namespace Go.Proofs.Ytlbekgogjlchjaa.Pk
open Go Go.Proofs Go.Proofs.Ytlbekgogjlchjaa.Ab
set_option linter.unusedVariables false
set_option linter.unusedSimpArgs false
theorem u8_ix {l : List Nat} {i : Nat} (hi : i < l.length) : aIndexAddr Try.prog 30 (.imm l.length (bytesV l)) (.int .i64 (i : Int)) = some (.at (.int .u8 (l[i] : Nat) :: bytesV (l.drop (i + 1)))) := by
  have h := index_imm (P := Try.prog) (t := 30) (k := .i64) (i := (i : Int)) (n := l.length) (cs := bytesV l) ss_30 (by omega) (by omega) (by rw [bytesV_length]; omega)
  rw [h, Int.toNat_natCast, Nat.mul_one]
  unfold bytesV
  rw [← List.map_drop, List.drop_eq_getElem_cons hi]
  rfl
theorem three_c {k : Nat} (hk : k < 3) (b : Bool) : 3 / 2 + 1 ≤ cntN (rch ([true, true, true].set k b)) 3 ∧ ∃ q, q < 3 ∧ rch ([true, true, true].set k b) q = true := by
  have : k = 0 ∨ k = 1 ∨ k = 2 := by omega
  rcases this with rfl | rfl | rfl
  · exact ⟨by cases b <;> decide, 1, by decide, by cases b <;> decide⟩
  · exact ⟨by cases b <;> decide, 0, by decide, by cases b <;> decide⟩
  · exact ⟨by cases b <;> decide, 0, by decide, by cases b <;> decide⟩
set_option maxHeartbeats 8000000 in
set_option maxRecDepth 20000 in
theorem slogOpens (l : List (List Nat)) (hl : l.length ≤ 2 ^ 47) (hb : ∀ b ∈ l, ∀ x ∈ b, x < 256) (who : List Nat) (hwl : who.length ≤ 2 ^ 47) (hwb : ∀ x ∈ who, x < 256) (h : AHeap) : SCalls Try.prog 12 [.imm l.length (rowV l), .imm who.length (bytesV who)] h (fun r h' => r = .bool true) := by
  have n0 : ((0 : Int) != 0) = false := rfl
  have z0 : ((0 : Int) == 0) = true := rfl
  refine SCalls.enterI (c := _) Try.func12 rfl (by kernel_rfl) (by simp) ?_
  simp only [wpA_region, wpA_seq, seqQ_normal, goI_out, goI_ops, opsA_nil, opsA_cons, stepA_assign, stepA_call, eval_const, absV_bool, List.map_nil]
  refine callI_pure cal23 (shown10 h) ?_
  simp only [wpA_region, wpA_seq, seqQ_normal, goI_out, goI_ops, opsA_nil, opsA_cons, stepA_assign, stepA_call, eval_tmp, eval_const, put_some, enterF_succ, absV_int, Nat.reduceEqDiff, List.map_cons, List.map_nil, if_true, if_false]
  refine callI_of cal24 (logNew h 3 (.inr (.inl rfl)) 1048576 (by decide)) fun r1 h1 ⟨L, rs, dv, nv, ow, e1, w1⟩ => ?_
  subst e1
  have k2 : Keep h1 (h1.push (.cells (bV [true, true, true]) 4 none)) none_ := Keep.push _ _ _
  have w2 := w1.on k2
  have r2 := rv_new (h := h1) [true, true, true] (w1.ns.zero (Nat.le_refl _)) (by simp)
  have n2 : h1.n < (h1.push (.cells (bV [true, true, true]) 4 none)).n := Nat.lt_succ_self _
  simp only [wpA_region, wpA_seq, seqQ_normal, goI_out, goI_ops, opsA_nil, opsA_cons, opsA_guardS, gvI_same, slotAt_zero, slotAt_succ, stepA_move, stepA_assign, stepA_pick, stepA_buildSlice, stepA_binOp, stepA_extract, stepA_call, thenV_some, thenH_some, pickV_false, extV_zero, extV_succ, eval_tmp, eval_const, put_some, enterF_succ, aBin_neq, ptr_nil_eql, absV_int, absV_bool, absV_pnil, bne_self_eq_false, Nat.reduceEqDiff, List.map_cons, List.map_nil, if_true, if_false, kt_51, litB3]
  generalize h1.push (.cells (bV [true, true, true]) 4 none) = h2 at w2 r2 n2 ⊢
  have hj1 := w1.keep.n
  generalize h1.n = ja at r2 n2 hj1 ⊢
  refine callI_of cal26 (logOpen w2 (by decide) (by decide) [true, true, true] r2 (by simp)) fun x h3 ⟨s3, e3, rs3, pv3, ow3, O3, ex, w3, ep3, f3⟩ => ?_
  subst ex
  obtain ⟨rfl, row3, op3, _, g3, fu3, _⟩ := (good0 3).open_ (M := 2048) O3 (by decide) (by decide) (by simp) (by simp) (by decide) (.inl rfl) (by simp)
  have r3 := r2.fr f3
  have ep3' : s3.ep = 1 := ep3
  have all3 : ∀ q, q < 3 → rch [true, true, true] q = true := fun q hq => by
    have : q = 0 ∨ q = 1 ∨ q = 2 := by omega
    rcases this with rfl | rfl | rfl <;> rfl
  have hja3 : ja < h3.n := Nat.lt_of_lt_of_le n2 f3.keep.n
  simp only [wpA_skip, wpA_region, wpA_seq, wpA_cond, wpA_block, wpA_loop, condI_false, seqQ_normal, goI_out, goI_ops, opsA_nil, opsA_cons, opsA_guardS, gvI_same, slotAt_zero, slotAt_succ, stepA_assign, stepA_pick, stepA_binOp, thenV_some, pickV_false, eval_tmp, eval_const, put_some, enterF_succ, aBin_neq, absV_int, absV_bool, bne_self_eq_false, Nat.reduceEqDiff, if_true, if_false]
  refine SWp.loopG (α := Nat × (Nat → NR) × V × (Nat → Nat) × LS) (fun x f h' => f 0 = .imm l.length (rowV l) ∧ f 1 = .imm who.length (bytesV who) ∧ f 5 = .bool true ∧ f 6 = .ptr L 0 ∧ f 8 = .sl ja 0 3 3 ∧ f 9 = .int .i64 (x.1 : Nat) ∧ x.1 ≤ 20 ∧ LogS h h' L 1048576 3 x.2.1 dv nv x.2.2.1 x.2.2.2.1 x.2.2.2.2 ∧ RVal h' x.2.2.2.1 (.sl ja 0 3 3) [true, true, true] ∧ ja < h'.n ∧
      Good 3 x.2.2.2.2.nd x.2.2.2.2.ep x.2.2.2.2.row (54 + x.1 * 2102) ∧ x.2.2.2.2.op = true ∧ x.2.2.2.2.ep = 1 ∧ x.2.2.2.2.row.length ≤ x.1 ∧ ∀ q, q < 3 → Full x.2.2.2.2.row (x.2.2.2.2.nd q)) (fun x => 20 - x.1) (0, rs3, pv3, ow3, s3)
    ⟨rfl, rfl, rfl, rfl, rfl, rfl, Nat.zero_le _, w3, r3, hja3, by rw [row3, ep3']; exact g3, op3, ep3', by rw [row3]; exact Nat.le_refl _, fun q hq => by rw [row3]; exact fu3 q hq (all3 q hq)⟩ ?_
  rintro ⟨i, rs4, pv4, ow4, s⟩ f h4 ⟨f0, f1, f5, f6, f8, f9, hi, w4, r4, n4, g4, op4, ep4, rl4, fu4⟩
  simp only at f9 hi w4 r4 g4 op4 ep4 rl4 fu4
  refine wpI_sound (by kernel_rfl) ?_
  by_cases hlt : i < l.length ∧ i < 20
  · obtain ⟨hlt, hlt2⟩ := hlt
    have d1 : decide ((i : Int) < ((l.length : Nat) : Int)) = true := decide_eq_true (by omega)
    have d2 : decide ((i : Int) < 20) = true := decide_eq_true (by omega)
    have hw : IntKind.i64.wrap ((i : Int) + 1) = ((i + 1 : Nat) : Int) := by rw [Go.IntWalk.i64_in _ (by omega)]; rfl
    have x1 := ro_ix hlt
    have hbb := hb _ (List.getElem_mem hlt)
    generalize l[i] = b at x1 hbb
    obtain ⟨g5, op5, ep5, rl5, fu5⟩ := app_all (room := 1048576) (rc := rch [true, true, true]) (b := b) g4 op4 (by omega) (by omega) (by omega) (by decide) all3 fu4
    simp only [wpA_skip, wpA_region, wpA_seq, wpA_cond, wpA_block, condI_true, seqQ_normal, goI_out, goI_ops, opsA_nil, opsA_cons, opsA_guardS, gvI_same, slotAt_zero, slotAt_succ, stepA_move, stepA_pick, stepA_load, stepA_binOp, stepA_indexAddr, stepA_len, stepA_call, thenV_some, pickV_true, eval_tmp, eval_const, put_some, aBin_lss, absV_int, absV_bool, aLoad_eq, loadGo_one, aPlace_at, aLen_imm, Nat.reduceEqDiff, reduceCtorEq, List.map_cons, List.map_nil, if_true, if_false, kt_54, lt_30, f0, f6, f8, f9, d1, d2, x1]
    refine callI_of cal25 (logAppend w4 (by decide) b hbb [true, true, true] r4 (by simp)) fun x h5 ⟨ex, rs5, pv5, ow5, w5, fr5⟩ => ?_
    subst ex
    simp only [wpA_region, seqQ_normal, blkQ_normal, endI_mk, andThen_normal, goI_out, goI_ops, opsA_nil, opsA_cons, stepA_move, stepA_assign, stepA_binOp, thenV_some, eval_tmp, eval_const, put_some, aBin_add, absV_int, Nat.reduceEqDiff, if_true, if_false, f9, hw]
    exact hid_mk ⟨(i + 1, rs5, pv5, ow5, (appL 1048576 3 (rch [true, true, true]) b s).1), ⟨f0, f1, f5, f6, f8, rfl, by simp only; omega, w5, r4.fr fr5, Nat.lt_of_lt_of_le n4 fr5.keep.n, g5.rise (Int.le_refl _) (by simp only; omega), op5, ep5.trans ep4, by simp only; omega, fu5⟩, by simp only; omega⟩
  have hend : decide ((i : Int) < ((l.length : Nat) : Int)) = false ∨ (decide ((i : Int) < ((l.length : Nat) : Int)) = true ∧ decide ((i : Int) < 20) = false) := by
    simp only [decide_eq_false_iff_not, decide_eq_true_eq]
    omega
  have hrb : ∀ b ∈ s.row, b.length ≤ 2048 := fun b hb => (w4.rok b hb).1
  rcases hend with d1 | ⟨d1, d2⟩
  all_goals first | simp only [wpA_region, wpA_seq, wpA_cond, wpA_exit, condI_false, seqQ_normal, seqQ_exit, blkQ_exit, endI_mk, goE, andThen_exit, goI_out, goI_ops, opsA_nil, opsA_cons, opsA_guardS, gvI_same, slotAt_zero, slotAt_succ, stepA_move, stepA_pick, stepA_binOp, stepA_len, stepA_call, thenV_some, pickV_true, eval_tmp, eval_const, put_some, aBin_lss, absV_int, absV_bool, aLen_imm, Nat.reduceEqDiff, reduceCtorEq, List.map_cons, List.map_nil, if_true, if_false, kt_54, f0, f6, f9, d1, d2] | simp only [wpA_region, wpA_seq, wpA_cond, wpA_exit, condI_false, seqQ_normal, seqQ_exit, blkQ_exit, endI_mk, goE, andThen_exit, goI_out, goI_ops, opsA_nil, opsA_cons, opsA_guardS, gvI_ft, slotAt_zero, slotAt_succ, stepA_move, stepA_pick, stepA_binOp, stepA_len, stepA_call, thenV_some, pickV_false, eval_tmp, eval_const, put_some, aBin_lss, absV_bool, aLen_imm, Nat.reduceEqDiff, reduceCtorEq, List.map_cons, List.map_nil, if_true, if_false, kt_54, f0, f6, f9, d1]
  all_goals
    refine callI_of cal27 (pRow10 w4) fun vw h5 acc5 => ?_
    have w5 := w4.on acc5.keep
    have K5 : KV h5 ow4 vw s.row := ⟨acc5.own, fun x hx => w4.ns.zero (acc5.new x hx)⟩
    simp only [wpA_region, wpA_seq, wpA_block, wpA_loop, seqQ_normal, goI_out, goI_ops, opsA_nil, opsA_cons, stepA_assign, eval_tmp, eval_const, put_some, absV_int, Nat.reduceEqDiff, if_true, if_false]
    refine SWp.loopG (α := Nat × (Nat → NR) × V × (Nat → Nat) × LS) (fun x f h' => f 1 = .imm who.length (bytesV who) ∧ f 5 = .bool true ∧ f 6 = .ptr L 0 ∧ f 10 = vw ∧ f 11 = .int .i64 (x.1 : Nat) ∧ x.1 ≤ 20 ∧ LogS h h' L 1048576 3 x.2.1 dv nv x.2.2.1 x.2.2.2.1 x.2.2.2.2 ∧ KV h' x.2.2.2.1 vw s.row ∧ x.2.2.2.2.row = s.row ∧
        Good 3 x.2.2.2.2.nd x.2.2.2.2.ep s.row (54 + 20 * 2102 + x.1 * (54 + 20 * 2102)) ∧ x.2.2.2.2.ep = 1 + (x.1 : Int) ∧ ∀ q, q < 3 → Full s.row (x.2.2.2.2.nd q)) (fun x => 20 - x.1) (0, rs4, pv4, ow4, s)
      ⟨f1, f5, f6, rfl, rfl, Nat.zero_le _, w5, K5, rfl, g4.rise (Int.le_refl _) (by omega), by simp only; omega, fu4⟩ ?_
    rintro ⟨j, rs6, pv6, ow6, s6⟩ f h6 ⟨f1, f5, f6, f10, f11, hj, w6, K6, row6, g6, ep6, fu6⟩
    simp only at f11 hj w6 K6 row6 g6 ep6 fu6
    refine wpI_sound (by kernel_rfl) ?_
    by_cases hlt : j < who.length ∧ j < 20
    · obtain ⟨hlt, hlt2⟩ := hlt
      have d1 : decide ((j : Int) < ((who.length : Nat) : Int)) = true := decide_eq_true (by omega)
      have d2 : decide ((j : Int) < 20) = true := decide_eq_true (by omega)
      have hw : IntKind.i64.wrap ((j : Int) + 1) = ((j + 1 : Nat) : Int) := by rw [Go.IntWalk.i64_in _ (by omega)]; rfl
      have x1 := u8_ix hlt
      have hbb := hwb _ (List.getElem_mem hlt)
      generalize who[j] = v at x1 hbb
      have k7 : Keep h6 (h6.push (.cells (bV [true, true, true]) 4 none)) none_ := Keep.push _ _ _
      have w7 := w6.on k7
      have K7 := K6.fr (LFr.none ow6 k7)
      have t7 := rv_new (h := h6) [true, true, true] (w6.ns.zero (Nat.le_refl _)) (by simp)
      have lw := K6.own.lt
      have hj6 := w6.keep.n
      have hz6 := w6.ns.zero (Nat.le_refl _)
      simp only [wpA_skip, wpA_region, wpA_seq, wpA_cond, wpA_block, wpA_draw, condI_true, seqQ_normal, goI_out, goI_ops, opsA_nil, opsA_cons, opsA_guardS, gvI_same, slotAt_zero, slotAt_succ, stepA_move, stepA_assign, stepA_pick, stepA_buildSlice, stepA_binOp, stepA_len, thenV_some, thenH_some, pickV_true, eval_tmp, eval_const, put_some, aBin_lss, absV_int, absV_bool, aLen_imm, Nat.reduceEqDiff, List.map_cons, List.map_nil, if_true, if_false, kt_30, f1, f11, d1, d2, litB3]
      generalize h6.push (.cells (bV [true, true, true]) 4 none) = h7 at w7 K7 t7 ⊢
      generalize h6.n = jt at t7 hj6 hz6 lw ⊢
      have hm3 : (v : Int).tmod 3 = ((v % 3 : Nat) : Int) := by rw [Int.tmod_eq_emod_of_nonneg (by omega)]; omega
      have hm2 : (v : Int).tmod 2 = ((v % 2 : Nat) : Int) := by rw [Int.tmod_eq_emod_of_nonneg (by omega)]; omega
      have hk3 : v % 3 < 3 := Nat.mod_lt _ (by decide)
      have wi : IntKind.i64.wrap (v : Int) = (v : Int) := Go.IntWalk.i64_in _ (by omega)
      generalize v % 3 = k at hm3 hk3
      generalize hbv : (((v % 2 : Nat) : Int) == 0) = bv
      have to7 : Own h7 4 1 (.sl jt 0 3 3) (bV [true, true, true]) := t7.v.resolve_left (by intro e; cases e)
      have qix : (if 0 ≤ (k : Int) ∧ (k : Int) < ((3 : Nat) : Int) then some (V.ptr jt ((k : Int).toNat * 1)) else none) = some (V.ptr jt k) := by rw [if_pos ⟨by omega, by omega⟩]; simp
      obtain ⟨j8, ob8, _, s8, to8, k8, e8⟩ := bo_set to7 (k := k) (by simpa using hk3) bv
      have e8' : jt = j8 := by simpa [idOf] using e8
      subst e8'
      have zt : ∀ x, isId (.sl jt 0 3 3) x → x = jt := fun x hh => by
        have h9 : jt = x := by simpa [isId, idOf] using hh
        exact h9.symm
      have w8 := w7.onZ k8 (fun x hx => by rw [zt x hx]; exact ⟨hz6, hj6⟩)
      have K8 : KV (h7.set jt ob8) ow6 vw s.row := ⟨K7.own.keep k8 (fun x hx hh => by have := lw x hx; have := zt x hh; omega), K7.z⟩
      have t8 : RVal (h7.set jt ob8) ow6 (.sl jt 0 3 3) ([true, true, true].set k bv) := ⟨.inr to8, fun x hx => by rw [zt x hx]; exact hz6⟩
      refine SWp.drawnS none_ [14] (.q 0 (.q 1 (.q 2 (.q 3 (.q 4 (.q 5 (.q 6 (.q 7 (.q 8 (.q 9 (.q 10 (.q 11 (.q 12 (.q 13 (.a 14 .done))))))))))))))) (by kernel_rfl) (by kernel_rfl) (by kernel_rfl) ?_
      simp only [siI_done, siI_q, siI_a, sqI_some, saI_some, mOk_none', implies_true, qI_nil, qI_cons, thenQ_some, q_move, q_load, q_binOp, q_convert, q_indexAddr, wpA_region, wpA_seq, seqQ_normal, goI_out, goI_ops, goI_mk, opsA_nil, opsA_cons, stepA_move, stepA_store, stepA_call, thenS_some, eval_tmp, eval_const, put_some, put_none, aBin_eql, absV_int, cells_bool, aLoad_eq, loadGo_one, aPlace_at, aStore_eq, storeGo_ptr, aIndexAddr_eq, ixGo_sl, List.getElem?_cons_zero, List.getElem?_cons_succ, Nat.reduceEqDiff, List.map_cons, List.map_nil, Option.map_some, Nat.zero_add, true_and, if_true, if_false, as_55, lt_5, ss_55, zt_4, f1, f6, f11, x1, aConv_int it_5 it_3, wi, aBin_rem (show (3 : Int) ≠ 0 by decide), aBin_rem (show (2 : Int) ≠ 0 by decide), hm3, hm2, hbv, qix, s8]
      have hE8 := logEpoch w8
      have n8 : jt < (h7.set jt ob8).n := to8.lt jt rfl
      generalize h7.set jt ob8 = h8 at w8 K8 t8 hE8 n8 ⊢
      refine callI_pure cal34 hE8 ?_
      have hw2 : IntKind.i64.wrap (s6.ep + 1) = s6.ep + 1 := Go.IntWalk.i64_in _ (by omega)
      simp only [wpA_region, wpA_seq, seqQ_normal, goI_out, goI_ops, opsA_nil, opsA_cons, stepA_move, stepA_assign, stepA_call, eval_tmp, put_some, put_none, Nat.reduceEqDiff, List.map_cons, List.map_nil, if_true, if_false, f6]
      refine callI_of cal26 (logOpen w8 (by omega) (by decide) _ t8 (by simp)) fun x h9 ⟨s9, e9, rs9, pv9, ow9, O9, ex, w9, ep9, f9'⟩ => ?_
      subst ex
      obtain ⟨tc1, qa, qa1, qa3⟩ := three_c hk3 bv
      obtain ⟨rfl, row9, op9, _, g9, _, keep9⟩ := g6.open_ (M := 2048) O9 (by decide) (by omega) (by omega) hrb tc1 (.inr ⟨qa, qa1, qa3, fu6 qa qa1⟩) (by omega)
      have K9 := K8.fr f9'
      have hE9 := logEpoch w9
      rw [ep9] at hE9
      have zz : (s6.ep + 1 != s6.ep + 1) = false := by simp
      have n0 : ((0 : Int) != 0) = false := rfl
      simp only [goI_ops, opsA_cons, opsA_guardS, gvI_same, slotAt_zero, slotAt_succ, stepA_move, stepA_binOp, stepA_call, thenV_some, eval_tmp, eval_const, put_some, put_none, aBin_neq, absV_int, bne_self_eq_false, Nat.reduceEqDiff, List.map_cons, List.map_nil, if_true, if_false, f6]
      refine callI_pure cal34 hE9 ?_
      simp only [goI_ops, opsA_cons, opsA_guardS, gvI_same, slotAt_zero, slotAt_succ, stepA_move, stepA_pick, stepA_binOp, stepA_call, thenV_some, pickV_false, eval_tmp, eval_const, put_some, put_none, aBin_add, aBin_neq, absV_int, absV_bool, bne_self_eq_false, Nat.reduceEqDiff, List.map_cons, List.map_nil, if_true, if_false, f6, hw2]
      refine callI_of cal27 (pRow10 w9) fun va h10 acc10 => ?_
      have w10 := w9.on acc10.keep
      have K10 := K9.fr (LFr.none ow9 acc10.keep)
      have hL1 := pLists (show Own h10 30 1 va (rowV s.row) by rw [← row9]; exact acc10.own) K10.own (by omega) (by omega) (fun x hx => (w4.rok x hx).2) (fun x hx => (w4.rok x hx).2)
      rw [decide_eq_true rfl] at hL1
      simp only [goI_ops, opsA_guardS, gvI_same, slotAt_zero, slotAt_succ, stepA_move, stepA_call, eval_tmp, put_some, put_none, Nat.reduceEqDiff, List.map_cons, List.map_nil, if_true, if_false, f10]
      refine callI_pure cal30 hL1 ?_
      simp only [wpA_skip, wpA_region, wpA_cond, condI_false, seqQ_normal, blkQ_normal, endI_mk, andThen_normal, goI_out, goI_ops, opsA_nil, opsA_cons, opsA_guardS, gvI_same, slotAt_zero, slotAt_succ, stepA_move, stepA_assign, stepA_pick, stepA_binOp, stepA_unOp, thenV_some, pickV_false, eval_tmp, eval_const, put_some, put_none, aBin_add, aUn_not, absV_int, absV_bool, Nat.reduceEqDiff, if_true, if_false, Bool.not_true, f11, hw]
      exact hid_mk ⟨(j + 1, rs9, pv9, ow9, s9), ⟨f1, f5, f6, f10, rfl, by simp only; omega, w10, K10, row9, by rw [ep9]; exact g9.rise (Int.le_refl _) (by simp only; omega), by simp only; omega, fun q hq => keep9 q hq (fu6 q hq)⟩, by simp only; omega⟩
    · have hend2 : decide ((j : Int) < ((who.length : Nat) : Int)) = false ∨ (decide ((j : Int) < ((who.length : Nat) : Int)) = true ∧ decide ((j : Int) < 20) = false) := by
        simp only [decide_eq_false_iff_not, decide_eq_true_eq]
        omega
      rcases hend2 with d1 | ⟨d1, d2⟩
      all_goals first | simp only [wpA_region, wpA_seq, wpA_cond, wpA_exit, wpA_ret, condI_false, seqQ_normal, seqQ_exit, blkQ_exit, endI_mk, goE, andThen_exit, goI_out, goI_ops, opsA_nil, opsA_cons, opsA_guardS, gvI_same, gvI_ft, slotAt_zero, slotAt_succ, stepA_move, stepA_assign, stepA_pick, stepA_binOp, stepA_len, thenV_some, pickV_true, pickV_false, eval_tmp, eval_const, put_some, aBin_lss, absV_int, absV_bool, aLen_imm, Nat.reduceEqDiff, if_true, if_false, kt_30, f1, f5, f11, d1, d2, retA_ret, Try.results12, resultsA_1] | simp only [wpA_region, wpA_seq, wpA_cond, wpA_exit, wpA_ret, condI_false, seqQ_normal, seqQ_exit, blkQ_exit, endI_mk, goE, andThen_exit, goI_out, goI_ops, opsA_nil, opsA_cons, opsA_guardS, gvI_ft, slotAt_zero, slotAt_succ, stepA_move, stepA_assign, stepA_pick, stepA_binOp, stepA_len, thenV_some, pickV_false, eval_tmp, eval_const, put_some, aBin_lss, absV_bool, aLen_imm, Nat.reduceEqDiff, if_true, if_false, kt_30, f1, f5, f11, d1, retA_ret, Try.results12, resultsA_1]
      all_goals exact hid_mk rfl
end Go.Proofs.Ytlbekgogjlchjaa.Pk
