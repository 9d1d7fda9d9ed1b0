/-
  What functions of the program do, told of abstract states. Conditions: as each theorem says.
-/
import Derived.Test.YtlbekgogjlchjaaMbD
import Derived.Test.YtlbekgogjlchjaaAbD
namespace Go.Proofs.Ytlbekgogjlchjaa.Pk
open Go Go.Proofs Go.Proofs.Ytlbekgogjlchjaa.Ab
set_option linter.unusedVariables false
set_option linter.unusedSimpArgs false
/-! ### A new log -/
theorem NodesS.add {h h' : AHeap} {room : Int} {n : Nat} {rs : Nat → NR} {nd : Nds} {ow : Nat → Nat} (w : NodesS h room n rs nd ow) {own : Nat → Prop} (k : Keep h h' own) (hn : ∀ x, own x → ow x < 5) {r' : NR} {l' : Pays} (d : NdB h' room r' l') (hx : ∀ x, NP r' x → h.n ≤ x) :
    NodesS h' room (n + 1) (updN rs n r') (updN nd n l') (owN ow h.n (NP r') (n + 5)) := by
  refine ⟨fun p hp => ?_, fun p hp x hx2 => ?_, owN_old k.n d.lt⟩
  · by_cases e : p = n
    · subst e; rw [updN_same, updN_same]; exact d
    · rw [updN_ne e, updN_ne e]
      exact (w.nd p (by omega)).keep k fun x h1 h2 => by have := w.ond p (by omega) x h1; have := hn x h2; omega
  · by_cases e : p = n
    · subst e
      rw [updN_same] at hx2
      exact owN_new (hx x hx2) hx2
    · rw [updN_ne e] at hx2
      rw [owN_lt ((w.nd p (by omega)).lt x hx2)]; exact w.ond p (by omega) x hx2
theorem ptrs_succ (f : Nat → Nat) (n : Nat) : ptrs f (n + 1) = ptrs f n ++ [V.ptr (f n) 0] := by unfold ptrs; rw [List.range_succ, List.map_append]; rfl
def newLS : LS := ⟨fun _ => [], false, 0, []⟩
theorem updN_nil (n : Nat) : updN (fun _ => ([] : Pays)) n [] = fun _ => [] := by
  funext x; unfold updN; split <;> rfl
theorem LogS.nothing {h : AHeap} {room : Int} (rs : Nat → NR) : LogS h (h.push (.cells [.snil, .snil, .bool false, .int .i64 0, .snil] 94 none)) h.n room 0 rs .snil .snil .snil (fun x => if x = h.n then 1 else 0) newLS := by
  refine ⟨Keep.push _ _ _, fun x hx => ?_, if_pos rfl, get_push_new, Own.snil _ _ _, Own.snil _ _ _, Own.snil _ _ _, fun x hx => (by cases hx), fun x hx => (by cases hx), fun x hx => (by cases hx), ⟨fun q hq => absurd hq (Nat.not_lt_zero _), fun q hq => absurd hq (Nat.not_lt_zero _), fun x hx => ?_⟩, fun b hb => (by cases hb), Nat.zero_le _⟩
  · by_cases e : x = h.n
    · omega
    · simp only [if_neg e] at hx; exact absurd rfl hx
  · by_cases e : x = h.n
    · simp only [push_n]; omega
    · simp only [if_neg e] at hx; exact absurd rfl hx
open Classical in
noncomputable def owNew (ow : Nat → Nat) (n0 : Nat) (D N P : Nat → Prop) (n : Nat) : Nat → Nat := fun x => if D x then 2 else if N x then 3 else if P x then n + 5 else if x < n0 then ow x else 0
/-- The lists of disks and of nodes grow. -/
theorem LogS.more {h0 h h1 h2 h4 h5 : AHeap} {L d : Nat} {room : Int} {n : Nat} {rs : Nat → NR} {dv nv dv' nv' : V} {ow : Nat → Nat} {r' : NR} (w : LogS h0 h L room n rs dv nv .snil ow newLS) (k1 : Keep h h1 none_) (hd : d = h.n) (hd1 : h.n < h1.n)
    (k2 : Keep h1 h2 (isId dv)) (od : Own h2 24 1 dv' (ptrs (fun q => (rs q).i) n ++ [.ptr d 0])) (n1 : NewOr h1 dv dv') {o3 : AObj}
    (k4 : Keep (h2.set L o3) h4 (fun x => x = d)) (dn : NdB h4 room r' []) (hi : r'.i = d) (hx : ∀ x, NP r' x → x = d ∨ h2.n ≤ x)
    (k5 : Keep h4 h5 (isId nv)) (on : Own h5 28 1 nv' (ptrs (fun q => (rs q).a) n ++ [.ptr r'.a 0])) (n2 : NewOr h4 nv nv') :
    LogS h0 (h5.set L (.cells [dv', nv', .bool false, .int .i64 0, .snil] 94 none)) L room (n + 1) (updN rs n r') dv' nv' .snil (owNew ow h.n (isId dv') (isId nv') (NP r') n) newLS := by
  have kn0 := w.keep.n
  have kn1 := k1.n
  have kn2 := k2.n
  have kn4 := k4.n
  simp only [set_n] at kn4
  have kn5 := k5.n
  have hL := w.lt
  have odl := od.lt
  have onl := on.lt
  have tL := w.owL
  have tdv : ∀ x, isId dv x → ow x = 2 ∧ x < h.n := fun x hh => ⟨w.owd x hh, w.dk.lt x hh⟩
  have tnv : ∀ x, isId nv x → ow x = 3 ∧ x < h.n := fun x hh => ⟨w.own_ x hh, w.nk.lt x hh⟩
  have tD : ∀ x, isId dv' x → (x < h.n ∧ ow x = 2) ∨ (h1.n ≤ x ∧ x < h2.n) := fun x hh => by
    rcases n1 with e | e
    · have := tdv x (show idOf dv = some x by rw [← e]; exact hh)
      exact .inl ⟨this.2, this.1⟩
    · exact .inr ⟨e x hh, odl x hh⟩
  have tN : ∀ x, isId nv' x → (x < h.n ∧ ow x = 3) ∨ (h4.n ≤ x ∧ x < h5.n) := fun x hh => by
    rcases n2 with e | e
    · have := tnv x (show idOf nv = some x by rw [← e]; exact hh)
      exact .inl ⟨this.2, this.1⟩
    · exact .inr ⟨e x hh, onl x hh⟩
  have tP : ∀ x, NP r' x → (x = d ∨ h2.n ≤ x) ∧ x < h4.n := fun x hh => ⟨hx x hh, dn.lt x hh⟩
  have DN : ∀ x, isId dv' x → ¬ isId nv' x := fun x a b => by have := tD x a; have := tN x b; omega
  have DP : ∀ x, isId dv' x → ¬ NP r' x := fun x a b => by have := tD x a; have := tP x b; omega
  have NPn : ∀ x, isId nv' x → ¬ NP r' x := fun x a b => by have := tN x a; have := tP x b; omega
  have e1 : ∀ x, isId dv' x → owNew ow h.n (isId dv') (isId nv') (NP r') n x = 2 := fun x hh => by unfold owNew; rw [if_pos hh]
  have e2 : ∀ x, isId nv' x → owNew ow h.n (isId dv') (isId nv') (NP r') n x = 3 := fun x hh => by unfold owNew; rw [if_neg (fun a => DN x a hh), if_pos hh]
  have e3 : ∀ x, NP r' x → owNew ow h.n (isId dv') (isId nv') (NP r') n x = n + 5 := fun x hh => by unfold owNew; rw [if_neg (fun a => DP x a hh), if_neg (fun a => NPn x a hh), if_pos hh]
  have e4 : ∀ x, x < h.n → owNew ow h.n (isId dv') (isId nv') (NP r') n x = ow x := fun x hh => by
    unfold owNew
    by_cases a : isId dv' x
    · rw [if_pos a]; have := tD x a; omega
    rw [if_neg a]
    by_cases b : isId nv' x
    · rw [if_pos b]; have := tN x b; omega
    rw [if_neg b, if_neg (fun c => by have := tP x c; omega), if_pos hh]
  have e5 : ∀ x, owNew ow h.n (isId dv') (isId nv') (NP r') n x ≠ 0 → x < h5.n := fun x hh => by
    unfold owNew at hh
    split at hh
    · rename_i a; have := tD x a; omega
    split at hh
    · rename_i b; exact onl x b
    split at hh
    · rename_i c; have := tP x c; omega
    split at hh
    · omega
    · exact absurd rfl hh
  have kS : ∀ (hh : AHeap) (o : AObj), Keep hh (hh.set L o) (· = L) := fun hh o => Keep.set _ _ _
  have KA : Keep h (h5.set L (.cells [dv', nv', .bool false, .int .i64 0, .snil] 94 none)) (fun x => x = L ∨ isId dv x ∨ isId nv x) :=
    (((((k1.up (o := fun x => x = L ∨ isId dv x ∨ isId nv x)).trans k2 fun x hx hh => .inr (.inl hh)).trans (kS _ o3) fun x hx hh => .inl hh).trans k4 fun x hx hh => by have : x = d := hh; omega).trans k5 fun x hx hh => .inr (.inr hh)).trans (kS _ _) fun x hx hh => .inl hh
  refine ⟨w.keep.trans KA fun x hx hh => ?_, fun x hx => ?_, (e4 L hL).trans tL, get_set_same, ?_, ?_, Own.snil _ _ _, e1, e2, fun x hx => (by cases hx), ⟨fun p hp => ?_, fun p hp x hx2 => ?_, e5⟩, fun b hb => (by cases hb), Nat.zero_le _⟩
  · have h3 := w.new x
    rcases hh with hh | hh | hh
    · rw [hh] at hx; have := w.new L (by omega); omega
    · have := tdv x hh; have := h3 (by omega); omega
    · have := tnv x hh; have := h3 (by omega); omega
  · by_cases hl : x < h.n
    · rw [e4 x hl] at hx; exact w.new x hx
    · omega
  · have hp : ptrs (fun q => (updN rs n r' q).i) (n + 1) = ptrs (fun q => (rs q).i) n ++ [.ptr d 0] := by
      rw [ptrs_succ, ptrs_congr (g := fun q => (rs q).i) fun q hq => by rw [updN_ne (by omega)]]
      simp only [updN_same, hi]
    rw [hp]
    exact (((od.keep (kS _ o3) fun x a b => by have := tD x a; have : x = L := b; subst this; omega).keep k4 fun x a b => by have := tD x a; have : x = d := b; omega).keep k5 fun x a b => by have := tD x a; have := tnv x b; omega).keep (kS _ _) fun x a b => by have := tD x a; have : x = L := b; subst this; omega
  · have hp : ptrs (fun q => (updN rs n r' q).a) (n + 1) = ptrs (fun q => (rs q).a) n ++ [.ptr r'.a 0] := by
      rw [ptrs_succ, ptrs_congr (g := fun q => (rs q).a) fun q hq => by rw [updN_ne (by omega)]]
      simp only [updN_same]
    rw [hp]
    exact on.keep (kS _ _) fun x a b => by have := tN x a; have : x = L := b; subst this; omega
  · by_cases e : p = n
    · subst e
      rw [updN_same]
      exact (dn.keep k5 fun x a b => by have := tP x a; have := tnv x b; omega).keep (kS _ _) fun x a b => by have := tP x a; have : x = L := b; omega
    · rw [updN_ne e]
      exact (w.ns.nd p (by omega)).keep KA fun x a b => by
        have h3 := w.ns.ond p (by omega) x a
        rcases b with b | b | b
        · subst b; omega
        · have := tdv x b; omega
        · have := tnv x b; omega
  · by_cases e : p = n
    · subst e; rw [updN_same] at hx2; exact e3 x hx2
    · rw [updN_ne e] at hx2
      rw [e4 x ((w.ns.nd p (by omega)).lt x hx2)]
      exact w.ns.ond p (by omega) x hx2
set_option maxHeartbeats 2000000 in
set_option maxRecDepth 20000 in
theorem logNew (h : AHeap) (n : Nat) (hn : n = 1 ∨ n = 3 ∨ n = 5 ∨ n = 7) (room : Int) (hr : 0 ≤ room ∧ room ≤ 1048576) :
    SCalls Try.prog 24 [.int .i64 (n : Int), .int .i64 room] h (fun x h' => ∃ L rs dv nv ow, x = .tuple [.ptr L 0, .int .i64 0] ∧ LogS h h' L room n rs dv nv .snil ow newLS) := by
  have c1 : decide ((n : Int) < 1) = false := decide_eq_false (by omega)
  have c2 : decide ((7 : Int) < (n : Int)) = false := decide_eq_false (by omega)
  have c3 : (n : Int).tmod 2 = 1 := by rw [Int.tmod_eq_emod_of_nonneg (by omega)]; omega
  have d0 : ∀ (a b c d e : V), dropC (AObj.cells [a, b, c, d, e] 94 none) 0 = some [a, b, c, d, e] := fun _ _ _ _ _ => rfl
  have d1 : ∀ (a b c d e : V), dropC (AObj.cells [a, b, c, d, e] 94 none) 1 = some [b, c, d, e] := fun _ _ _ _ _ => rfl
  have s0 : ∀ (a b c d e x : V), x.one = true → setC (some 1) (AObj.cells [a, b, c, d, e] 94 none) 0 [x] = some (.cells [x, b, c, d, e] 94 none) := fun a b c d e x hx => by rw [setC_one hx]; rfl
  have s1 : ∀ (a b c d e x : V), x.one = true → setC (some 1) (AObj.cells [a, b, c, d, e] 94 none) 1 [x] = some (.cells [a, x, c, d, e] 94 none) := fun a b c d e x hx => by rw [setC_one hx]; rfl
  refine SCalls.enterI (c := _) Try.func24 rfl (by kernel_rfl) (by simp) ?_
  simp only [wpA_skip, wpA_region, wpA_seq, wpA_cond, wpA_block, wpA_loop, condI_false, seqQ_normal, goI_out, goI_ops, opsA_nil, opsA_cons, opsA_guardS, gvI_same, slotAt_zero, slotAt_succ, stepA_move, stepA_assign, stepA_pick, stepA_box, stepA_build, stepA_binOp, thenV_some, thenH_some, pickV_false, eval_tmp, eval_const, put_some, enterF_zero, enterF_succ, aBin_eql, aBin_lss, aBin_gtr, absV_int, absV_bool, absV_pnil, cells_agg, aBox_eq, aBuild_go, aFill_nil, buildGo_struct, Int.reduceBEq, Nat.reduceEqDiff, reduceCtorEq, List.map_nil, Option.map_some, if_true, if_false, pl_94, zc_94, c1, c2, aBin_rem (show (2 : Int) ≠ 0 by decide), c3]
  refine SWp.loopG (α := Nat × (Nat → NR) × V × V × (Nat → Nat)) (fun x f h' => f 0 = .int .i64 (n : Int) ∧ f 1 = .int .i64 room ∧ f 6 = .ptr h.n 0 ∧ f 22 = .int .i64 (n : Int) ∧ f 23 = .int .i64 (x.1 : Nat) ∧ x.1 ≤ n ∧ LogS h h' h.n room x.1 x.2.1 x.2.2.1 x.2.2.2.1 .snil x.2.2.2.2 newLS) (fun x => n - x.1) (0, fun _ => ⟨0, 0, 0, 0, 0, .snil, .snil, 0⟩, .snil, .snil, fun x => if x = h.n then 1 else 0)
    ⟨rfl, rfl, rfl, rfl, rfl, Nat.zero_le _, LogS.nothing _⟩ ?_
  rintro ⟨i, rs, dv, nv, ow⟩ f h1 ⟨f0, f1, f6, f22, f23, hi, w⟩
  simp only at f23 hi w
  refine wpI_sound (by kernel_rfl) ?_
  by_cases hlt : i < n
  · have e1 : decide ((i : Int) < (n : Int)) = true := decide_eq_true (by omega)
    have hw : IntKind.i64.wrap ((i : Int) + 1) = ((i + 1 : Nat) : Int) := by rw [Go.IntWalk.i64_in _ (by omega)]; rfl
    have n0 : ((0 : Int) != 0) = false := rfl
    simp only [wpA_skip, wpA_region, wpA_seq, wpA_cond, wpA_block, condI_true, seqQ_normal, goI_out, goI_ops, opsA_nil, opsA_cons, stepA_move, stepA_binOp, stepA_call, thenV_some, eval_tmp, put_some, aBin_lss, Nat.reduceEqDiff, List.map_cons, List.map_nil, if_true, if_false, f1, f22, f23, e1]
    refine callI_of cal14 (dNew h1 room hr.1 hr.2) fun x h2 ⟨ex, dk, k2⟩ => ?_
    subst ex
    have g2 : h2.get h.n = .cells [dv, nv, .bool false, .int .i64 0, .snil] 94 none := (k2.get h.n w.lt fun hh => hh).trans w.get
    have hlt2 := dk.lt
    have dk2 : Own h2 24 1 dv (ptrs (fun q => (rs q).i) i) := w.dk.keepN k2
    have nk2 : Own h2 28 1 nv (ptrs (fun q => (rs q).a) i) := w.nk.keepN k2
    obtain ⟨dv', h3, ea, o3, k3, nw3⟩ := append_elemM (P := Try.prog) sl_91 (by decide) dk2 (xs := [.ptr h1.n 0]) rfl rfl (fun m hm => by
      change m * 1 = (ptrs (fun q => (rs q).i) i).length + 1 at hm
      rw [ptrs_len] at hm
      exact ⟨by simp only [lim]; omega, by simp only [lim]; omega⟩)
    have lit : aBuildSlice Try.prog 91 1 [(0, .ptr h1.n 0)] h2 = some (.sl h2.n 0 1 1, h2.push (.cells [.ptr h1.n 0] 24 none)) := by rw [buildSlice_go sl_91]; rfl
    obtain ⟨vc, v1⟩ := one_of_own o3
    have kn2 := k2.n
    have kn3 := k3.n
    have tdv := w.owd
    have tnv := w.own_
    have hL := w.lt
    have nLd : ¬ isId dv h.n := fun e => by have := tdv _ e; rw [w.owL] at this; cases this
    have g3 : h3.get h.n = .cells [dv, nv, .bool false, .int .i64 0, .snil] 94 none := (k3.get h.n (by omega) nLd).trans g2
    have u0 := s0 dv nv (.bool false) (.int .i64 0) .snil dv' v1
    have u1 := s1 dv' nv (.bool false) (.int .i64 0) .snil
    have dk3 : IsDisk h3 (.ptr h1.n 0) room [] 0 h1.n .snil := dk.keep k3 fun x hx hh => by
      rcases hx with hx | hx
      · have := w.dk.lt x hh; omega
      · cases hx
    have kS : ∀ (hh : AHeap) (o : AObj), Keep hh (hh.set h.n o) (· = h.n) := fun hh o => Keep.set _ _ _
    have dk4 : IsDisk (h3.set h.n (.cells [dv', nv, .bool false, .int .i64 0, .snil] 94 none)) (.ptr h1.n 0) room [] 0 h1.n .snil := dk3.keep (kS _ _) fun x hx hh => by
      rcases hx with hx | hx
      · have : x = h.n := hh; omega
      · cases hx
    have nk4 : Own (h3.set h.n (.cells [dv', nv, .bool false, .int .i64 0, .snil] 94 none)) 28 1 nv (ptrs (fun q => (rs q).a) i) := (nk2.keep k3 fun x hx hh => by have := tdv x hh; have := tnv x hx; omega).keep (kS _ _) fun x hx hh => by have := tnv x hx; rw [show x = h.n from hh, w.owL] at this; cases this
    have g4 : (h3.set h.n (.cells [dv', nv, .bool false, .int .i64 0, .snil] 94 none)).get h.n = .cells [dv', nv, .bool false, .int .i64 0, .snil] 94 none := get_set_same
    have more := @LogS.more h h1 h2 h3
    simp only [wpA_skip, wpA_region, wpA_seq, wpA_cond, wpA_draw, condI_false, seqQ_normal, goI_out, goI_ops, opsA_nil, opsA_cons, stepA_move, stepA_assign, stepA_buildSlice, stepA_load, stepA_store, stepA_nilCheck, stepA_binOp, stepA_fieldAddr, stepA_extract, stepA_append, thenV_some, thenH_some, thenS_some, nilV_ptr, extV_zero, extV_succ, eval_tmp, eval_const, put_some, aBin_neq, absV_int, aField_eq, fieldGo_ptr, aLoad_eq, loadGo_one, aPlace_ptr, aStore_eq, storeGo_ptr, bne_self_eq_false, Nat.reduceEqDiff, List.map_cons, List.map_nil, Option.map_some, Nat.add_zero, if_true, if_false, ft_94_0, lt_91, zt_91, f6, g2, d0, lit, ea, g3, vc, u0]
    generalize hh4 : h3.set h.n (.cells [dv', nv, .bool false, .int .i64 0, .snil] 94 none) = h4 at dk4 nk4 g4 ⊢
    have hn4 : h4.n = h3.n := by rw [← hh4]; rfl
    have m1 : (h.n = h1.n) = False := eq_false (by omega)
    have m2 : ¬ idOf nv = some h.n := fun e => by have := tnv _ e; rw [w.owL] at this; cases this
    refine SWp.drawnS (fun x => x = h1.n ∨ idOf nv = some x) [6, 7, 8, 11] (.q 0 (.q 1 (.q 2 (.q 3 (.q 4 (.q 5 (.e 6 (.e 7 (.e 8 (.q 9 (.q 10 (.a 11 .done))) .stop) .stop) .stop))))))) (by kernel_rfl) (by kernel_rfl) (by kernel_rfl) ?_
    simp only [mOk_move, mOk_nilCheck, mOk_fieldAddr, mOk_load, mOkV_ptr, nne2, nne3, nne4, nne1', nne2', siI_stop, siI_q, siI_e, sqI_some, seI_some, true_implies, implies_true, qI_nil, qI_cons, thenQ_some, q_move, q_load, q_nilCheck, q_fieldAddr, goI_mk, opsA_cons, stepA_call, nilV_ptr, eval_tmp, put_some, put_none, aField_eq, fieldGo_ptr, aLoad_eq, loadGo_one, aPlace_ptr, List.getElem?_cons_zero, List.getElem?_cons_succ, Nat.reduceEqDiff, List.map_cons, List.map_nil, Nat.zero_add, and_true, true_and, if_true, if_false, ft_94_1, lt_92, f6, g4, d1, m1, m2]
    refine ⟨fun hh => hh.elim id id, ?_⟩
    refine callI_of cal15 (nbOpen (l := []) (h := h4) dk4 NOk.nil (by simp)) fun x h5 ⟨r', ex, dn, ei, k5, hx⟩ => ?_
    subst ex
    have k5' : Keep h4 h5 (fun x => x = h1.n) := k5.mono fun x hh => by
      rcases hh with hh | hh
      · exact hh
      · cases hh
    have nk5 : Own h5 28 1 nv (ptrs (fun q => (rs q).a) i) := nk4.keep k5' fun x hx hh => by have := w.nk.lt x hx; have : x = h1.n := hh; omega
    obtain ⟨nv', h6, eb, o6, k6, nw6⟩ := append_elemM (P := Try.prog) sl_92 (by decide) nk5 (xs := [.ptr r'.a 0]) rfl rfl (fun m hm => by
      change m * 1 = (ptrs (fun q => (rs q).a) i).length + 1 at hm
      rw [ptrs_len] at hm
      exact ⟨by simp only [lim]; omega, by simp only [lim]; omega⟩)
    have litb : aBuildSlice Try.prog 92 1 [(0, .ptr r'.a 0)] h5 = some (.sl h5.n 0 1 1, h5.push (.cells [.ptr r'.a 0] 28 none)) := by rw [buildSlice_go sl_92]; rfl
    obtain ⟨wc, w1⟩ := one_of_own o6
    have kn5 := k5.n
    have g5 : h5.get h.n = .cells [dv', nv, .bool false, .int .i64 0, .snil] 94 none := (k5'.get h.n (by omega) (by omega)).trans g4
    have g6 : h6.get h.n = .cells [dv', nv, .bool false, .int .i64 0, .snil] 94 none := (k6.get h.n (by omega) m2).trans g5
    have u1' := u1 nv' w1
    have mo := more (r' := r') (o3 := .cells [dv', nv, .bool false, .int .i64 0, .snil] 94 none) (h4 := h5) (h5 := h6) (nv' := nv') w k2 rfl (by omega) k3 o3 nw3 (by rw [hh4]; exact k5') dn ei (fun x hh => by
      rcases hx x hh with h7 | h7
      · rcases h7 with h7 | h7
        · exact .inl h7
        · cases h7
      · exact .inr (by omega)) k6 o6 nw6
    have kM : Keep h4 h5 (fun x => x = h1.n ∨ idOf nv = some x) := k5'.mono fun _ hh => .inl hh
    have kM2 : Keep h4 h6 (fun x => x = h1.n ∨ idOf nv = some x) := kM.trans k6 fun _ _ hh => .inr hh
    simp only [mOk_nilCheck, mOk_fieldAddr, nne2, nne3, nne4, nne1', nne2', nne3', siI_stop, siI_q, siI_a, siI_e, sqI_some, saI_some, seI_some, implies_true, qI_nil, qI_cons, thenQ_some, q_nilCheck, q_fieldAddr, goI_ops, goI_mk, opsA_nil, opsA_cons, stepA_buildSlice, stepA_store, stepA_append, thenH_some, nilV_ptr, eval_tmp, put_some, put_none, aField_eq, fieldGo_ptr, aStore_eq, List.getElem?_cons_zero, List.getElem?_cons_succ, Bool.false_eq_true, Nat.reduceEqDiff, List.map_cons, List.map_nil, Nat.zero_add, and_true, true_and, if_true, if_false, ft_94_1, zt_92, litb, eb, kM, kM2]
    simp only [nne2, nne3, nne4, nne1', nne2', nne3', siI_done, wpA_region, seqQ_normal, blkQ_normal, endI_mk, andThen_normal, goI_out, goI_ops, goI_mk, opsA_nil, opsA_cons, stepA_move, stepA_binOp, thenV_some, thenS_some, eval_tmp, eval_const, put_some, put_none, aBin_add, absV_int, storeGo_ptr, Nat.reduceEqDiff, Option.map_some, if_true, if_false, g6, wc, u1', f23, hw]
    exact ⟨kM.then_push _, hid_mk ⟨(i + 1, updN rs i r', dv', nv', _), ⟨f0, f1, f6, f22, rfl, hlt, mo⟩, by simp only; omega⟩⟩
  · have e1 : decide ((i : Int) < (n : Int)) = false := decide_eq_false (by omega)
    have hin : i = n := by omega
    subst hin
    simp only [wpA_region, wpA_seq, wpA_cond, wpA_exit, wpA_ret, condI_false, seqQ_normal, seqQ_exit, blkQ_exit, endI_mk, goE, andThen_exit, goI_out, goI_ops, opsA_nil, opsA_cons, stepA_move, stepA_assign, stepA_binOp, thenV_some, eval_tmp, eval_const, put_some, aBin_lss, absV_int, Nat.reduceEqDiff, if_true, if_false, f6, f22, f23, e1, retA_ret, Try.results24, resultsA_2]
    exact hid_mk ⟨h.n, rs, dv, nv, ow, rfl, w⟩
end Go.Proofs.Ytlbekgogjlchjaa.Pk
namespace Go.Proofs.Ytlbekgogjlchjaa.Pk
open Go Go.Proofs Go.Proofs.Ytlbekgogjlchjaa.Ab
set_option linter.unusedVariables false
set_option linter.unusedSimpArgs false
/-! ### No log -/
theorem zLen (h : AHeap) : Pure Try.prog 33 [.pnil] h (.int .i64 0) := by
  refine SCalls.enterI (c := _) Try.func33 rfl (by kernel_rfl) (by simp) ?_
  simp only [wpA_region, wpA_seq, wpA_cond, wpA_ret, condI_true, seqQ_normal, seqQ_ret, endI_mk, goI_out, goI_ops, opsA_nil, opsA_cons, stepA_move, stepA_assign, stepA_binOp, thenV_some, eval_tmp, eval_const, put_some, enterF_zero, enterF_succ, nil_nil_eql, absV_int, absV_pnil, Nat.reduceEqDiff, reduceCtorEq, if_true, if_false, kt_51, retA_ret, Try.results33, resultsA_1]
  exact hid_mk ⟨rfl, rfl⟩
theorem zEp (h : AHeap) : Pure Try.prog 34 [.pnil] h (.int .i64 0) := by
  refine SCalls.enterI (c := _) Try.func34 rfl (by kernel_rfl) (by simp) ?_
  simp only [wpA_region, wpA_seq, wpA_cond, wpA_ret, condI_true, seqQ_normal, seqQ_ret, endI_mk, goI_out, goI_ops, opsA_nil, opsA_cons, stepA_move, stepA_assign, stepA_binOp, thenV_some, eval_tmp, eval_const, put_some, enterF_zero, enterF_succ, nil_nil_eql, absV_int, absV_pnil, Nat.reduceEqDiff, reduceCtorEq, if_true, if_false, kt_51, retA_ret, Try.results34, resultsA_1]
  exact hid_mk ⟨rfl, rfl⟩
theorem zOpen (h : AHeap) (r : V) : Pure Try.prog 26 [.pnil, r] h (.int .i64 8) := by
  refine SCalls.enterI (c := _) Try.func26 rfl (by kernel_rfl) (by simp) ?_
  simp only [wpA_region, wpA_seq, wpA_cond, wpA_ret, condI_true, seqQ_normal, seqQ_ret, endI_mk, goI_out, goI_ops, opsA_nil, opsA_cons, stepA_move, stepA_assign, stepA_binOp, thenV_some, eval_tmp, eval_const, put_some, enterF_zero, enterF_succ, nil_nil_eql, absV_int, absV_pnil, Nat.reduceEqDiff, reduceCtorEq, if_true, if_false, kt_51, retA_ret, Try.results26, resultsA_1]
  exact hid_mk ⟨rfl, rfl⟩
set_option maxRecDepth 10000 in
theorem zAppend (h : AHeap) (b r : V) : Pure Try.prog 25 [.pnil, b, r] h (.tuple [.int .i64 0, .int .i64 8]) := by
  refine SCalls.enterI (c := _) Try.func25 rfl (by kernel_rfl) (by simp) ?_
  simp only [wpA_region, wpA_seq, wpA_cond, wpA_ret, condI_true, seqQ_normal, seqQ_ret, endI_mk, goI_out, goI_ops, opsA_nil, opsA_cons, opsA_guardS, gvI_tf, slotAt_zero, slotAt_succ, stepA_move, stepA_assign, stepA_pick, stepA_binOp, thenV_some, pickV_true, eval_tmp, eval_const, put_some, enterF_zero, enterF_succ, nil_nil_eql, absV_int, absV_bool, absV_pnil, Nat.reduceEqDiff, reduceCtorEq, if_true, if_false, kt_51, retA_ret, Try.results25, resultsA_2]
  exact hid_mk ⟨rfl, rfl⟩
set_option maxRecDepth 10000 in
theorem zGet (h : AHeap) (i : Int) : Pure Try.prog 32 [.pnil, .int .i64 i] h (.tuple [.snil, .int .i64 2]) := by
  refine SCalls.enterI (c := _) Try.func32 rfl (by kernel_rfl) (by simp) ?_
  by_cases h1 : i < 0
  · have c1 : decide (i < 0) = true := decide_eq_true h1
    simp only [wpA_region, wpA_seq, wpA_cond, wpA_ret, condI_true, seqQ_normal, seqQ_ret, endI_mk, goI_out, goI_ops, opsA_nil, opsA_cons, opsA_guardS, gvI_tf, slotAt_zero, slotAt_succ, stepA_move, stepA_assign, stepA_pick, stepA_binOp, thenV_some, pickV_true, eval_tmp, eval_const, put_some, enterF_zero, enterF_succ, aBin_lss, absV_int, absV_bool, absV_snil, Nat.reduceEqDiff, if_true, if_false, c1, retA_ret, Try.results32, resultsA_2]
    exact hid_mk ⟨rfl, rfl⟩
  · have c1 : decide (i < 0) = false := decide_eq_false h1
    have c2 : decide ((0 : Int) ≤ i) = true := decide_eq_true (by omega)
    simp only [wpA_region, wpA_seq, seqQ_normal, goI_out, goI_ops, opsA_nil, opsA_cons, opsA_guardS, gvI_same, slotAt_zero, slotAt_succ, stepA_move, stepA_assign, stepA_binOp, stepA_call, thenV_some, eval_tmp, eval_const, put_some, enterF_zero, enterF_succ, aBin_lss, absV_int, absV_snil, Nat.reduceEqDiff, reduceCtorEq, List.map_cons, List.map_nil, if_true, if_false, c1]
    refine callI_pure cal33 (zLen h) ?_
    simp only [wpA_region, wpA_seq, wpA_cond, wpA_ret, condI_true, seqQ_normal, seqQ_ret, endI_mk, goI_out, goI_ops, opsA_nil, opsA_cons, opsA_guardS, gvI_same, slotAt_zero, slotAt_succ, stepA_assign, stepA_pick, stepA_binOp, thenV_some, pickV_false, eval_tmp, eval_const, put_some, enterF_succ, aBin_geq, absV_int, absV_bool, absV_snil, Nat.reduceEqDiff, if_true, if_false, c2, retA_ret, Try.results32, resultsA_2]
    exact hid_mk ⟨rfl, rfl⟩
theorem zRestart (h : AHeap) (i : Int) (fv : V) : Pure Try.prog 54 [.pnil, .int .i64 i, fv] h (.int .i64 1) := by
  refine SCalls.enterI (c := _) Try.func54 rfl (by kernel_rfl) (by simp) ?_
  simp only [wpA_region, wpA_seq, wpA_cond, wpA_ret, condI_true, seqQ_normal, seqQ_ret, endI_mk, goI_out, goI_ops, opsA_nil, opsA_cons, opsA_guardS, gvI_tf, slotAt_zero, slotAt_succ, stepA_move, stepA_assign, stepA_pick, stepA_binOp, thenV_some, pickV_true, eval_tmp, eval_const, put_some, enterF_zero, enterF_succ, nil_nil_eql, absV_int, absV_bool, absV_pnil, Nat.reduceEqDiff, reduceCtorEq, if_true, if_false, kt_51, retA_ret, Try.results54, resultsA_1]
  exact hid_mk ⟨rfl, rfl⟩
theorem zCrash (h : AHeap) (i k t : Int) : Pure Try.prog 29 [.pnil, .int .i64 i, .int .i64 k, .int .i64 t] h (.int .i64 1) := by
  refine Pure.val (Clo.int _ _) ?_
  refine SCalls.enterI (c := _) Try.func29 rfl (by kernel_rfl) (by simp) ?_
  simp only [wpA_region, wpA_seq, seqQ_normal, goI_out, goI_ops, opsA_nil, opsA_cons, stepA_move, stepA_assign, stepA_box, stepA_makeFunc, stepA_call, thenH_some, eval_tmp, eval_const, put_some, enterF_zero, enterF_succ, absV_int, cells_int, aBox_eq, push_n, Nat.reduceEqDiff, reduceCtorEq, List.map_cons, List.map_nil, Option.map_some, if_true, if_false]
  refine callI_pure cal54 (zRestart _ i _) ?_
  simp only [wpA_ret, seqQ_normal, endI_mk, goI_out, goI_ops, opsA_nil, opsA_cons, stepA_assign, eval_tmp, put_some, enterF_succ, Nat.reduceEqDiff, if_true, if_false, retA_ret, Try.results29, resultsA_1]
  exact hid_mk ⟨rfl, (Keep.push _ _ _).then_push _⟩
theorem zLose (h : AHeap) (i : Int) : Pure Try.prog 31 [.pnil, .int .i64 i] h (.int .i64 1) := by
  refine SCalls.enterI (c := _) Try.func31 rfl (by kernel_rfl) (by simp) ?_
  simp only [wpA_region, wpA_seq, seqQ_normal, goI_out, goI_ops, opsA_nil, opsA_cons, stepA_move, stepA_assign, stepA_call, eval_tmp, eval_const, eval_func, put_some, enterF_zero, enterF_succ, absV_int, Nat.reduceEqDiff, reduceCtorEq, List.map_cons, List.map_nil, if_true, if_false]
  refine callI_pure cal54 (zRestart _ i _) ?_
  simp only [wpA_ret, seqQ_normal, endI_mk, goI_out, goI_ops, opsA_nil, opsA_cons, stepA_assign, eval_tmp, put_some, enterF_succ, Nat.reduceEqDiff, if_true, if_false, retA_ret, Try.results31, resultsA_1]
  exact hid_mk ⟨rfl, rfl⟩
/-! ### The law's rows -/
theorem rowV_snoc (l : List (List Nat)) (b : List Nat) : rowV (l ++ [b]) = rowV l ++ [.imm b.length (bytesV b)] := by unfold rowV; rw [List.map_append]; rfl
theorem litRow (h : AHeap) (v : V) (h1 : v.one = true) (h2 : v.cells = some [v]) : aBuildSlice Try.prog 54 1 [(0, v)] h = some (.sl h.n 0 1 1, h.push (.cells [v] 30 none)) := by rw [buildSlice_go sl_54]; cases v <;> simp [V.one] at h1 <;> simp [V.cells] at h2 <;> rfl
set_option maxHeartbeats 1000000 in
set_option maxRecDepth 10000 in
theorem pRow10 {h0 h : AHeap} {L : Nat} {room : Int} {n : Nat} {rs : Nat → NR} {dv nv pv : V} {ow : Nat → Nat} {s : LS} (w : LogS h0 h L room n rs dv nv pv ow s) :
    SCalls Try.prog 27 [.ptr L 0] h (fun r h' => Acc h h' 30 1 r (rowV s.row)) := by
  have hrl := w.rl
  refine SCalls.enterI (c := _) Try.func27 rfl (by kernel_rfl) (by simp) ?_
  simp only [wpA_region, wpA_seq, wpA_block, wpA_loop, seqQ_normal, goI_out, goI_ops, opsA_nil, opsA_cons, stepA_assign, eval_const, absV_int, absV_snil]
  refine SWp.loopG (α := Nat) (fun i f h' => f 0 = .ptr L 0 ∧ f 4 = .int .i64 (i : Nat) ∧ i ≤ s.row.length ∧ Acc h h' 30 1 (f 3) (rowV (s.row.take i))) (fun i => s.row.length - i) 0
    ⟨rfl, rfl, Nat.zero_le _, Acc.nil (Keep.refl _ _)⟩ ?_
  rintro i f h1 ⟨f0, f4, hi, acc⟩
  have w1 := w.on acc.keep
  refine wpI_sound (by kernel_rfl) ?_
  simp only [wpA_region, wpA_seq, goI_ops, opsA_cons, stepA_move, stepA_call, eval_tmp, put_some, Nat.reduceEqDiff, reduceCtorEq, List.map_cons, List.map_nil, if_true, if_false, f0, f4]
  refine callI_pure cal33 (logLen w1) ?_
  by_cases hlt : i < s.row.length
  · have c1 : decide ((i : Int) < ((s.row.length : Nat) : Int)) = true := decide_eq_true (by omega)
    have c2 : decide ((i : Int) < 5000) = true := decide_eq_true (by omega)
    have hw : IntKind.i64.wrap ((i : Int) + 1) = ((i + 1 : Nat) : Int) := by rw [Go.IntWalk.i64_in _ (by omega)]; rfl
    have z1 : ((0 : Int) == 0) = true := rfl
    have htk := List.take_succ_eq_append_getElem hlt
    have hg := logGet w1 hlt
    generalize s.row[i] = b at hg htk
    obtain ⟨v, h2, ea, o2, k2, nw2⟩ := append_elemM (P := Try.prog) sl_54 (by decide) acc.own (xs := [.imm b.length (bytesV b)]) rfl rfl (fun m hm => by
      change m * 1 = (rowV (s.row.take i)).length + 1 at hm
      rw [rowV_len, List.length_take] at hm
      exact ⟨by simp only [lim]; omega, by simp only [lim]; omega⟩)
    have lit := litRow h1 (.imm b.length (bytesV b)) rfl rfl
    have a2 := acc.step o2 k2 nw2
    simp only [wpA_skip, wpA_region, wpA_seq, wpA_cond, wpA_block, condI_true, seqQ_normal, goI_out, goI_ops, opsA_nil, opsA_cons, opsA_guardS, gvI_same, slotAt_zero, slotAt_succ, stepA_move, stepA_pick, stepA_binOp, stepA_call, thenV_some, pickV_true, eval_tmp, eval_const, put_some, aBin_lss, absV_int, absV_bool, Nat.reduceEqDiff, reduceCtorEq, List.map_cons, List.map_nil, if_true, if_false, f0, f4, c1, c2]
    refine callI_pure cal32 hg ?_
    simp only [wpA_region, wpA_seq, wpA_cond, condI_true, seqQ_normal, blkQ_normal, endI_mk, andThen_normal, goI_out, goI_ops, opsA_nil, opsA_cons, stepA_move, stepA_assign, stepA_buildSlice, stepA_binOp, stepA_extract, stepA_append, thenV_some, thenH_some, extV_zero, extV_succ, eval_tmp, eval_const, put_some, aBin_add, aBin_eql, absV_int, beq_self_eq_true, Nat.reduceEqDiff, List.map_cons, List.map_nil, if_true, if_false, f4, lit, ea, hw]
    exact hid_mk ⟨i + 1, ⟨f0, rfl, hlt, by rw [htk, rowV_snoc]; exact a2⟩, by omega⟩
  · have c1 : decide ((i : Int) < ((s.row.length : Nat) : Int)) = false := decide_eq_false (by omega)
    rw [List.take_of_length_le (by omega)] at acc
    simp only [wpA_region, wpA_seq, wpA_cond, wpA_exit, wpA_ret, condI_false, seqQ_normal, seqQ_exit, blkQ_exit, endI_mk, goE, andThen_exit, goI_out, goI_ops, opsA_nil, opsA_cons, opsA_guardS, gvI_ft, slotAt_zero, slotAt_succ, stepA_move, stepA_assign, stepA_pick, stepA_binOp, thenV_some, pickV_false, eval_tmp, eval_const, put_some, aBin_lss, absV_bool, Nat.reduceEqDiff, if_true, if_false, c1, retA_ret, Try.results27, resultsA_1]
    exact hid_mk acc
set_option maxHeartbeats 1000000 in
set_option maxRecDepth 10000 in
theorem pLists {h : AHeap} {va vb : V} {a b : List (List Nat)} (oa : Own h 30 1 va (rowV a)) (ob : Own h 30 1 vb (rowV b)) (ha : a.length ≤ 2 ^ 40) (hb : b.length ≤ 2 ^ 40) (ba : ∀ x ∈ a, ∀ y ∈ x, y < 256) (bb : ∀ x ∈ b, ∀ y ∈ x, y < 256) :
    Pure Try.prog 30 [va, vb] h (.bool (decide (a = b))) := by
  have la := row_len oa
  have lb := row_len ob
  refine SCalls.enterI (c := _) Try.func30 rfl (by kernel_rfl) (by simp) ?_
  by_cases hl : a.length = b.length
  case neg =>
    have c1 : (((a.length : Nat) : Int) != ((b.length : Nat) : Int)) = true := by simp; omega
    have e : decide (a = b) = false := decide_eq_false fun e => hl (by rw [e])
    simp only [wpA_region, wpA_seq, wpA_cond, wpA_ret, condI_true, seqQ_normal, seqQ_ret, endI_mk, goI_out, goI_ops, opsA_nil, opsA_cons, stepA_move, stepA_assign, stepA_binOp, stepA_len, thenV_some, eval_tmp, eval_const, put_some, enterF_zero, enterF_succ, aBin_neq, absV_bool, Nat.reduceEqDiff, reduceCtorEq, if_true, if_false, la, lb, c1, retA_ret, Try.results30, resultsA_1]
    exact hid_mk ⟨by rw [e], rfl⟩
  have c1 : (((a.length : Nat) : Int) != ((b.length : Nat) : Int)) = false := by simp [hl]
  simp only [wpA_skip, wpA_region, wpA_seq, wpA_cond, wpA_block, wpA_loop, condI_false, seqQ_normal, goI_out, goI_ops, opsA_nil, opsA_cons, stepA_move, stepA_assign, stepA_binOp, stepA_len, thenV_some, eval_tmp, eval_const, put_some, enterF_zero, enterF_succ, aBin_neq, absV_int, absV_bool, Nat.reduceEqDiff, reduceCtorEq, if_true, if_false, la, lb, c1]
  refine SWp.loopG (α := Nat) (fun i f h' => f 0 = va ∧ f 1 = vb ∧ f 5 = .int .i64 (i : Nat) ∧ i ≤ a.length ∧ h' = h ∧ ∀ k, (h1 : k < a.length) → (h2 : k < b.length) → k < i → a[k] = b[k]) (fun i => a.length - i) 0
    ⟨rfl, rfl, rfl, Nat.zero_le _, rfl, fun k _ _ hk => by omega⟩ ?_
  rintro i f h1 ⟨f0, f1, f5, hi, rfl, eq⟩
  refine wpI_sound (by kernel_rfl) ?_
  by_cases hlt : i < a.length
  · have d1 : decide ((i : Int) < ((a.length : Nat) : Int)) = true := decide_eq_true (by omega)
    have hw : IntKind.i64.wrap ((i : Int) + 1) = ((i + 1 : Nat) : Int) := by rw [Go.IntWalk.i64_in _ (by omega)]; rfl
    obtain ⟨j, r1, x1, y1⟩ := row_at oa hlt
    obtain ⟨j2, r2, x2, y2⟩ := row_at ob (show i < b.length by omega)
    have es := strB_eq (ba _ (List.getElem_mem hlt)) (bb _ (List.getElem_mem (h := show i < b.length by omega)))
    simp only [wpA_skip, wpA_region, wpA_seq, wpA_cond, wpA_block, wpA_draw, condI_true, seqQ_normal, goI_out, goI_ops, opsA_nil, opsA_cons, stepA_move, stepA_binOp, stepA_len, thenV_some, eval_tmp, put_some, aBin_lss, Nat.reduceEqDiff, reduceCtorEq, if_true, if_false, f0, f5, la, d1]
    refine SWp.drawnS none_ [] (.q 0 (.q 1 (.q 2 (.q 3 (.q 4 (.q 5 (.q 6 (.q 7 (.q 8 (.q 9 (.q 10 .done))))))))))) (by kernel_rfl) (by kernel_rfl) (by kernel_rfl) ?_
    by_cases he : a[i] = b[i]
    · have ed : decide (a[i] = b[i]) = true := decide_eq_true he
      rw [ed] at es
      simp only [siI_done, siI_q, sqI_some, mOk_none', implies_true, qI_nil, qI_cons, thenQ_some, q_move, q_load, q_binOp, q_convert, q_indexAddr, wpA_skip, wpA_region, wpA_cond, condI_false, seqQ_normal, blkQ_normal, endI_mk, andThen_normal, goI_out, goI_ops, goI_mk, opsA_nil, opsA_cons, stepA_move, stepA_assign, stepA_binOp, thenV_some, eval_tmp, eval_const, put_some, aBin_add, aBin_str_neq, absV_int, aLoad_eq, loadGo_one, aPlace_ptr, List.getElem?_cons_zero, List.getElem?_cons_succ, Nat.reduceEqDiff, reduceCtorEq, true_and, if_true, if_false, Bool.not_true, lt_30, f0, f1, f5, x1, x2, y1, y2, convB, es, hw]
      exact hid_mk ⟨i + 1, ⟨f0, f1, rfl, hlt, rfl, fun k h3 h4 hk => by
        by_cases e : k = i
        · subst e; exact he
        · exact eq k h3 h4 (by omega)⟩, by omega⟩
    · have ed : decide (a[i] = b[i]) = false := decide_eq_false he
      rw [ed] at es
      have e : decide (a = b) = false := decide_eq_false fun e => he (by subst e; rfl)
      simp only [siI_done, siI_q, sqI_some, mOk_none', implies_true, qI_nil, qI_cons, thenQ_some, q_move, q_load, q_binOp, q_convert, q_indexAddr, wpA_region, wpA_seq, wpA_cond, wpA_ret, condI_true, seqQ_normal, seqQ_ret, blkQ_ret, endI_mk, goE, andThen_ret, goI_out, goI_ops, goI_mk, opsA_nil, opsA_cons, stepA_assign, eval_tmp, eval_const, put_some, aBin_str_neq, absV_bool, aLoad_eq, loadGo_one, aPlace_ptr, List.getElem?_cons_zero, List.getElem?_cons_succ, Nat.reduceEqDiff, reduceCtorEq, true_and, if_true, if_false, Bool.not_false, lt_30, f0, f1, f5, x1, x2, y1, y2, convB, es, retA_ret, Try.results30, resultsA_1]
      exact hid_mk ⟨by rw [e], rfl⟩
  · have d1 : decide ((i : Int) < ((a.length : Nat) : Int)) = false := decide_eq_false (by omega)
    have e : decide (a = b) = true := decide_eq_true (List.ext_getElem hl fun k h3 h4 => eq k h3 h4 (by omega))
    simp only [wpA_region, wpA_seq, wpA_cond, wpA_exit, wpA_ret, condI_false, seqQ_normal, seqQ_exit, blkQ_exit, endI_mk, goE, andThen_exit, goI_out, goI_ops, opsA_nil, opsA_cons, stepA_move, stepA_assign, stepA_binOp, stepA_len, thenV_some, eval_tmp, eval_const, put_some, aBin_lss, absV_bool, Nat.reduceEqDiff, reduceCtorEq, if_true, if_false, f0, f5, la, d1, retA_ret, Try.results30, resultsA_1]
    exact hid_mk ⟨by rw [e], rfl⟩
set_option maxHeartbeats 1000000 in
set_option maxRecDepth 10000 in
/-- Does a row begin with another one? -/
theorem pBegins {h : AHeap} {va vb : V} {a b : List (List Nat)} (oa : Own h 30 1 va (rowV a)) (ob : Own h 30 1 vb (rowV b)) (ha : a.length ≤ 2 ^ 40) (hb : b.length ≤ 2 ^ 40) (ba : ∀ x ∈ a, ∀ y ∈ x, y < 256) (bb : ∀ x ∈ b, ∀ y ∈ x, y < 256) (hp : b <+: a) :
    Pure Try.prog 28 [va, vb] h (.bool true) := by
  have la := row_len oa
  have lb := row_len ob
  have hle := hp.length_le
  have c1 : decide (((b.length : Nat) : Int) ≤ ((a.length : Nat) : Int)) = true := decide_eq_true (by omega)
  obtain ⟨v2, s1, o2, _⟩ := own_to (P := Try.prog) (t := 54) (k := .i64) sl_54 (by decide) oa (n := b.length) (by rw [rowV_len]; show b.length * 1 ≤ _; omega)
  have o2' : Own h 30 1 v2 (rowV b) := by
    have : (rowV a).take (b.length * 1) = rowV b := by
      unfold rowV
      rw [Nat.mul_one, ← List.map_take, List.prefix_iff_eq_take.1 hp, List.length_take, Nat.min_eq_left hle]
    rw [← this]
    exact o2
  have hL := pLists o2' ob hb hb bb bb
  rw [decide_eq_true rfl] at hL
  refine SCalls.enterI (c := _) Try.func28 rfl (by kernel_rfl) (by simp) ?_
  simp only [wpA_region, wpA_seq, seqQ_normal, goI_out, goI_ops, opsA_nil, opsA_cons, opsA_guardS, gvI_same, slotAt_zero, slotAt_succ, stepA_move, stepA_assign, stepA_binOp, stepA_slice, stepA_len, stepA_call, thenV_some, eval_tmp, eval_const, put_some, enterF_zero, enterF_succ, aBin_geq, absV_bool, Nat.reduceEqDiff, reduceCtorEq, List.map_cons, List.map_nil, Option.map_some, Option.map_none, if_true, if_false, la, lb, c1, s1]
  refine callI_pure cal30 hL ?_
  simp only [wpA_ret, seqQ_normal, endI_mk, goI_out, goI_ops, opsA_nil, opsA_cons, stepA_assign, stepA_pick, thenV_some, pickV_true, eval_tmp, eval_const, put_some, enterF_succ, absV_bool, Nat.reduceEqDiff, if_true, if_false, retA_ret, Try.results28, resultsA_1]
  exact hid_mk ⟨rfl, rfl⟩
end Go.Proofs.Ytlbekgogjlchjaa.Pk
namespace Go.Proofs.Ytlbekgogjlchjaa.Pk
open Go Go.Proofs Go.Proofs.Ytlbekgogjlchjaa.Ab
set_option linter.unusedVariables false
set_option linter.unusedSimpArgs false
theorem litB2 (h : AHeap) (a b : Bool) : aBuildSlice Try.prog 55 2 [(0, .bool a), (1, .bool b)] h = some (.sl h.n 0 2 2, h.push (.cells (bV [a, b]) 4 none)) := by rw [buildSlice_go sl_55]; rfl
theorem litB1 (h : AHeap) (a : Bool) : aBuildSlice Try.prog 55 1 [(0, .bool a)] h = some (.sl h.n 0 1 1, h.push (.cells (bV [a]) 4 none)) := by rw [buildSlice_go sl_55]; rfl
theorem litB3 (h : AHeap) (a b c : Bool) : aBuildSlice Try.prog 55 3 [(0, .bool a), (1, .bool b), (2, .bool c)] h = some (.sl h.n 0 3 3, h.push (.cells (bV [a, b, c]) 4 none)) := by rw [buildSlice_go sl_55]; rfl
theorem rv_new {h : AHeap} {ow : Nat → Nat} (l : List Bool) (hz : ow h.n = 0) (hl : l.length < 1000) : RVal (h.push (.cells (bV l) 4 none)) ow (.sl h.n 0 l.length l.length) l :=
  ⟨.inr (Own.fresh' (bV l) l.length (by rw [bV_len, Nat.mul_one]) (by unfold unk; omega)), fun x hx => by simp only [idOf, Option.some.injEq] at hx; rw [← hx]; exact hz⟩
theorem logAppend1 {h0 h : AHeap} {L : Nat} {room : Int} {n : Nat} {rs : Nat → NR} {dv nv pv : V} {ow : Nat → Nat} {s : LS} (w : LogS h0 h L room n rs dv nv pv ow s) (hn : n ≤ 2 ^ 10) (c : Nat) (hc : c < 256) (reach : List Bool) {rv : V} (rvl : RVal h ow rv reach) (hr : reach.length ≤ 2 ^ 47) :
    SCalls Try.prog 25 [.ptr L 0, .sl h.n 0 1 1, rv] (h.push (.cells [.int .u8 (c : Int)] 5 none)) (fun x h' => x = .tuple [.int .i64 ((appL room n (rch reach) [c] s).2.1 : Nat), .int .i64 (appL room n (rch reach) [c] s).2.2] ∧ ∃ rs' pv' ow', LogS h0 h' L room n rs' dv nv pv' ow' (appL room n (rch reach) [c] s).1 ∧ LFr h h' ow ow') := by
  obtain ⟨h2, cc, k2⟩ := Cast.lit (h := h) (c := [.int .u8 (c : Int)]) (e := 5) (n := 1) (sz := 1) rfl (by decide) (by decide)
  refine SCalls.args (CastL.cons (Cast.refl _ _) (CastL.cons cc (CastL.refl _ _))) ((logAppend (w.on k2) hn [c] (by simpa using hc) reach (rvl.fr (LFr.none ow k2)) hr).mono fun x h' ⟨e, rs', pv', ow', w', f⟩ => ⟨e, rs', pv', ow', w', (LFr.none ow k2).trans f⟩)
/-- Append of a literal, reach being a literal, too. -/
theorem logAppend2 {h0 h : AHeap} {L : Nat} {room : Int} {n : Nat} {rs : Nat → NR} {dv nv pv : V} {ow : Nat → Nat} {s : LS} (w : LogS h0 h L room n rs dv nv pv ow s) (hn : n ≤ 2 ^ 10) (c : Nat) (hc : c < 256) (b : Bool) :
    SCalls Try.prog 25 [.ptr L 0, .sl h.n 0 1 1, .sl (h.n + 1) 0 1 1] ((h.push (.cells [.int .u8 (c : Int)] 5 none)).push (.cells (bV [b]) 4 none)) (fun x h' => x = .tuple [.int .i64 ((appL room n (rch [b]) [c] s).2.1 : Nat), .int .i64 (appL room n (rch [b]) [c] s).2.2] ∧ ∃ rs' pv' ow', LogS h0 h' L room n rs' dv nv pv' ow' (appL room n (rch [b]) [c] s).1 ∧ LFr h h' ow ow') := by
  have oA : Own ((h.push (.cells [.int .u8 (c : Int)] 5 none)).push (.cells (bV [b]) 4 none)) 5 1 (.sl h.n 0 1 1) [.int .u8 (c : Int)] := (Own.fresh' _ 1 rfl (by decide)).keepN (Keep.push _ _ _)
  obtain ⟨h2, cc, k2⟩ := Cast.own oA (n := 1) rfl (by decide)
  have kh : Keep h h2 none_ := ((Keep.push _ _ none_).then_push _).trans k2 fun x hx hh => by simp only [isId, idOf, Option.some.injEq] at hh; omega
  have rv0 : RVal ((h.push (.cells [.int .u8 (c : Int)] 5 none)).push (.cells (bV [b]) 4 none)) ow (.sl (h.n + 1) 0 1 1) [b] := rv_new (h := h.push (.cells [.int .u8 (c : Int)] 5 none)) [b] (w.ns.zero (by simp only [push_n]; omega)) (by simp)
  have rv2 : RVal h2 ow (.sl (h.n + 1) 0 1 1) [b] := by
    rcases rv0.v with e | o
    · cases e
    · exact ⟨.inr (o.keep k2 fun x hx hh => by simp only [isId, idOf, Option.some.injEq] at hh hx; omega), rv0.ow⟩
  exact SCalls.args (CastL.cons (Cast.refl _ _) (CastL.cons cc (CastL.refl _ _))) ((logAppend (w.on kh) hn [c] (by simpa using hc) [b] rv2 (by simp)).mono fun x h' ⟨e, rs', pv', ow', w', f⟩ => ⟨e, rs', pv', ow', w', (LFr.none ow kh).trans f⟩)
theorem good0 (n : Nat) : Good n newLS.nd newLS.ep [] 0 := Good.start n _ [] fun q hq => ⟨fun k => rfl, Int.le_refl _, Nat.le_refl _⟩
set_option maxHeartbeats 2000000 in
set_option maxRecDepth 20000 in
theorem shown10 (h : AHeap) : Pure Try.prog 23 [] h (.bool true) := by
  refine Pure.val (Clo.bool _) ?_
  have n0 : ((0 : Int) != 0) = false := rfl
  refine SCalls.enterI (c := _) Try.func23 rfl (by kernel_rfl) (by simp) ?_
  simp only [wpA_region, wpA_seq, seqQ_normal, goI_out, goI_ops, opsA_nil, opsA_cons, stepA_assign, stepA_call, eval_const, absV_int, absV_bool, List.map_cons, List.map_nil]
  refine callI_of cal24 (logNew h 3 (.inr (.inl rfl)) 1000 (by decide)) fun r1 h1 ⟨L, rs, dv, nv, ow, e1, w1⟩ => ?_
  subst e1
  have k2 : Keep h1 (h1.push (.cells (bV [true, true]) 4 none)) none_ := Keep.push _ _ _
  have w2 := w1.on k2
  have r2 := rv_new (h := h1) [true, true] (w1.ns.zero (Nat.le_refl _)) (by simp)
  simp only [wpA_skip, wpA_region, wpA_seq, wpA_cond, condI_false, seqQ_normal, goI_out, goI_ops, opsA_nil, opsA_cons, opsA_guardS, gvI_same, slotAt_zero, slotAt_succ, stepA_move, stepA_assign, stepA_pick, stepA_buildSlice, stepA_binOp, stepA_extract, stepA_call, thenV_some, thenH_some, pickV_false, extV_zero, extV_succ, eval_tmp, eval_const, put_some, aBin_neq, ptr_nil_eql, absV_int, absV_bool, absV_pnil, bne_self_eq_false, Nat.reduceEqDiff, reduceCtorEq, List.map_cons, List.map_nil, if_true, if_false, kt_51, litB2]
  generalize h1.push (.cells (bV [true, true]) 4 none) = h2 at w2 r2 ⊢
  refine callI_of cal26 (logOpen w2 (by decide) (by decide) [true, true] r2 (by simp)) fun x h3 ⟨s3, e3, rs3, pv3, ow3, O3, ex, w3, ep3, f3⟩ => ?_
  subst ex
  obtain ⟨rfl, row3, op3, _, g3, fu3, _⟩ := (good0 3).open_ (M := 1) O3 (by decide) (by decide) (by simp) (by simp) (by decide) (.inl rfl) (by simp)
  have r3 := r2.fr f3
  have ep3' : s3.ep = 1 := ep3
  simp only [wpA_region, wpA_seq, seqQ_normal, goI_out, goI_ops, opsA_nil, opsA_cons, stepA_move, stepA_assign, stepA_buildSlice, stepA_call, thenH_some, eval_tmp, eval_const, put_some, absV_int, Nat.reduceEqDiff, reduceCtorEq, List.map_cons, List.map_nil, if_true, if_false, lit1b]
  refine callI_of cal25 (logAppend1 w3 (by decide) 7 (by decide) [true, true] r3 (by simp)) fun x h4 ⟨ex, rs4, pv4, ow4, w4, f4⟩ => ?_
  subst ex
  have G3 : Good 3 s3.nd s3.ep s3.row (0 + 54 + 0) := by rw [row3, ep3']; exact g3
  obtain ⟨g4, fu4, ep4, A4⟩ := G3.app (room := 1000) (rc := rch [true, true]) (b := [7]) (M := 1) op3 (by decide) (by omega) (by simp) (by simp) (by rw [row3]; simp) (by simp)
  rw [if_pos (by decide)] at A4
  obtain ⟨a4, row4, op4⟩ := A4
  rw [a4, row3]
  simp only [wpA_region, wpA_seq, seqQ_normal, goI_out, goI_ops, opsA_nil, opsA_cons, stepA_move, stepA_assign, stepA_buildSlice, stepA_extract, stepA_call, thenV_some, thenH_some, extV_zero, extV_succ, eval_tmp, eval_const, put_some, absV_int, absV_bool, push_n, Nat.reduceEqDiff, reduceCtorEq, List.map_cons, List.map_nil, List.length_nil, if_true, if_false, lit1b, litB1]
  generalize (appL 1000 3 (rch [true, true]) [7] s3).1 = s4 at w4 g4 fu4 ep4 row4 op4
  refine callI_of cal25 (logAppend2 w4 (by decide) 8 (by decide) true) fun x h5 ⟨ex, rs5, pv5, ow5, w5, f5⟩ => ?_
  subst ex
  have G4 : Good 3 s4.nd s4.ep s4.row (0 + 54 + 0 + (54 + 1)) := by rw [row4, ep4]; exact g4
  obtain ⟨g5, fu5, ep5, A5⟩ := G4.app (room := 1000) (rc := rch [true]) (b := [8]) (M := 1) op4 (by decide) (by omega) (by simp) (by simp) (by rw [row4, row3]; simp) (by simp)
  rw [if_neg (by decide)] at A5
  obtain ⟨a5, row5, op5⟩ := A5
  rw [a5]
  generalize (appL 1000 3 (rch [true]) [8] s4).1 = s5 at w5 g5 fu5 ep5 row5 op5
  have k6 : Keep h5 (h5.push (.cells (bV [true, false, true]) 4 none)) none_ := Keep.push _ _ _
  have w6 := w5.on k6
  have r6 := rv_new (h := h5) [true, false, true] (w5.ns.zero (Nat.le_refl _)) (by simp)
  simp only [wpA_region, wpA_seq, seqQ_normal, goI_out, goI_ops, opsA_nil, opsA_cons, stepA_move, stepA_assign, stepA_buildSlice, stepA_extract, stepA_call, thenV_some, thenH_some, extV_zero, extV_succ, eval_tmp, eval_const, put_some, absV_bool, Nat.reduceEqDiff, reduceCtorEq, List.map_cons, List.map_nil, if_true, if_false, litB3]
  generalize h5.push (.cells (bV [true, false, true]) 4 none) = h6 at w6 r6 ⊢
  refine callI_of cal26 (logOpen w6 (by omega) (by decide) [true, false, true] r6 (by simp)) fun x h7 ⟨s7, e7, rs7, pv7, ow7, O7, ex, w7, ep7, f7⟩ => ?_
  subst ex
  have hrow : s4.row ++ [[8]] = [[7], [8]] := by rw [row4, row3]; rfl
  have full0 : Full (s4.row ++ [[8]]) (s5.nd 0) := fu5 0 (by decide) rfl (by rw [row4]; exact fu4 0 (by decide) rfl (by rw [row3]; exact fu3 0 (by decide) rfl))
  obtain ⟨rfl, row7, op7, _, g7, _, _⟩ := (show Good 3 s5.nd s5.ep (s4.row ++ [[8]]) _ by rw [ep5]; exact g5).open_ (M := 1) O7 (by decide) (by omega) (by rw [hrow]; decide) (by rw [hrow]; decide) (by decide) (.inr ⟨0, by decide, rfl, full0⟩) (by rw [hrow]; decide)
  have hlen := logLen w7
  rw [row7, hrow] at hlen
  have hep := logEpoch w7
  rw [ep7, ep5, ep4, ep3'] at hep
  have z0 : ((0 : Int) == 0) = true := rfl
  have z1 : (((0 : Nat) : Int) == 0) = true := rfl
  have z8 : ((8 : Int) == 8) = true := rfl
  have zl : ((([[7], [8]] : List (List Nat)).length : Nat) : Int) = 2 := rfl
  rw [zl] at hlen
  have z2 : ((2 : Int) == 2) = true := rfl
  have z11 : (1 : Int) + 1 = 2 := rfl
  rw [z11] at hep
  have hln : (([] : List (List Nat)).length : Nat) = 0 := rfl
  simp only [wpA_region, wpA_seq, seqQ_normal, goI_out, goI_ops, opsA_nil, opsA_cons, opsA_guardS, gvI_same, slotAt_zero, slotAt_succ, stepA_move, stepA_assign, stepA_pick, stepA_binOp, stepA_call, thenV_some, pickV_true, eval_tmp, eval_const, put_some, aBin_eql, absV_int, absV_bool, beq_self_eq_true, Nat.reduceEqDiff, reduceCtorEq, List.map_cons, List.map_nil, if_true, if_false, z1]
  refine callI_pure cal33 hlen ?_
  simp only [goI_ops, opsA_cons, opsA_guardS, gvI_same, slotAt_zero, slotAt_succ, stepA_move, stepA_pick, stepA_binOp, stepA_call, thenV_some, pickV_true, eval_tmp, eval_const, put_some, aBin_eql, absV_int, absV_bool, beq_self_eq_true, Nat.reduceEqDiff, reduceCtorEq, List.map_cons, List.map_nil, if_true, if_false]
  refine callI_pure cal34 hep ?_
  simp only [wpA_ret, seqQ_normal, endI_mk, goI_out, goI_ops, opsA_nil, opsA_cons, opsA_guardS, gvI_same, slotAt_zero, slotAt_succ, stepA_assign, stepA_pick, stepA_binOp, thenV_some, pickV_true, eval_tmp, eval_const, put_some, aBin_eql, absV_int, absV_bool, beq_self_eq_true, Nat.reduceEqDiff, reduceCtorEq, if_true, if_false, retA_ret, Try.results23, resultsA_1]
  exact hid_mk ⟨rfl, w7.keep⟩
set_option maxRecDepth 20000 in
theorem slogNobody (i : Int) (reach : V) (h : AHeap) : SCalls Try.prog 11 [.int .i64 i, reach] h (fun r h' => r = .bool true) := by
  have z8 : ((8 : Int) == 8) = true := rfl
  have z2 : ((2 : Int) == 2) = true := rfl
  have z1 : ((1 : Int) == 1) = true := rfl
  have z0 : ((0 : Int) == 0) = true := rfl
  refine SCalls.enterI (c := _) Try.func11 rfl (by kernel_rfl) (by simp) ?_
  simp only [wpA_region, wpA_seq, seqQ_normal, goI_out, goI_ops, opsA_nil, opsA_cons, stepA_assign, stepA_call, eval_const, absV_bool, List.map_nil]
  refine callI_pure cal23 (shown10 h) ?_
  simp only [wpA_region, wpA_seq, seqQ_normal, goI_out, goI_ops, opsA_nil, opsA_cons, stepA_move, stepA_assign, stepA_buildSlice, stepA_call, thenH_some, eval_tmp, eval_const, put_some, enterF_zero, enterF_succ, absV_int, absV_pnil, Nat.reduceEqDiff, List.map_cons, List.map_nil, if_true, if_false, lit1b]
  refine callI_pure cal25 (zAppend _ _ _) ?_
  simp only [wpA_region, wpA_seq, seqQ_normal, goI_out, goI_ops, opsA_nil, opsA_cons, stepA_move, stepA_assign, stepA_extract, stepA_call, thenV_some, extV_zero, extV_succ, eval_tmp, put_some, enterF_zero, enterF_succ, Nat.reduceEqDiff, reduceCtorEq, List.map_cons, List.map_nil, if_true, if_false]
  refine callI_pure cal32 (zGet _ i) ?_
  simp only [wpA_region, wpA_seq, seqQ_normal, goI_out, goI_ops, opsA_nil, opsA_cons, opsA_guardS, gvI_same, slotAt_zero, slotAt_succ, stepA_move, stepA_assign, stepA_pick, stepA_binOp, stepA_extract, stepA_call, thenV_some, pickV_true, extV_zero, extV_succ, eval_tmp, eval_const, put_some, enterF_zero, enterF_succ, aBin_eql, absV_int, absV_bool, beq_self_eq_true, Nat.reduceEqDiff, List.map_cons, List.map_nil, if_true, if_false]
  refine callI_pure cal26 (zOpen _ _) ?_
  simp only [goI_ops, opsA_cons, opsA_guardS, gvI_same, slotAt_zero, slotAt_succ, stepA_move, stepA_pick, stepA_binOp, stepA_call, thenV_some, pickV_true, eval_tmp, eval_const, put_some, enterF_zero, enterF_succ, aBin_eql, absV_int, absV_bool, beq_self_eq_true, Nat.reduceEqDiff, reduceCtorEq, List.map_cons, List.map_nil, if_true, if_false]
  refine callI_pure cal29 (zCrash _ i 0 0) ?_
  simp only [goI_ops, opsA_cons, opsA_guardS, gvI_same, slotAt_zero, slotAt_succ, stepA_move, stepA_pick, stepA_binOp, stepA_call, thenV_some, pickV_true, eval_tmp, eval_const, put_some, enterF_zero, enterF_succ, aBin_eql, absV_int, absV_bool, beq_self_eq_true, Nat.reduceEqDiff, reduceCtorEq, List.map_cons, List.map_nil, if_true, if_false]
  refine callI_pure cal31 (zLose _ i) ?_
  simp only [goI_ops, opsA_cons, opsA_guardS, gvI_same, slotAt_zero, slotAt_succ, stepA_move, stepA_pick, stepA_binOp, stepA_call, thenV_some, pickV_true, eval_tmp, eval_const, put_some, enterF_succ, aBin_eql, absV_int, absV_bool, beq_self_eq_true, Nat.reduceEqDiff, List.map_cons, List.map_nil, if_true, if_false]
  refine callI_pure cal33 (zLen _) ?_
  simp only [goI_ops, opsA_cons, opsA_guardS, gvI_same, slotAt_zero, slotAt_succ, stepA_move, stepA_pick, stepA_binOp, stepA_call, thenV_some, pickV_true, eval_tmp, eval_const, put_some, enterF_succ, aBin_eql, absV_int, absV_bool, beq_self_eq_true, Nat.reduceEqDiff, List.map_cons, List.map_nil, if_true, if_false]
  refine callI_pure cal34 (zEp _) ?_
  simp only [wpA_ret, seqQ_normal, endI_mk, goI_out, goI_ops, opsA_nil, opsA_cons, opsA_guardS, gvI_same, slotAt_zero, slotAt_succ, stepA_assign, stepA_pick, stepA_binOp, thenV_some, pickV_true, eval_tmp, eval_const, put_some, enterF_succ, aBin_eql, absV_int, absV_bool, beq_self_eq_true, Nat.reduceEqDiff, if_true, if_false, retA_ret, Try.results11, resultsA_1]
  exact hid_mk rfl
end Go.Proofs.Ytlbekgogjlchjaa.Pk
