/-
  What functions of the program do, told of abstract states. Conditions: as each theorem says.
-/
import Derived.Test.YthnleejpeocaeaaDoorFlJ
namespace Go.Proofs.YthnleejpeocaeaaDoor.Pk
open Go Go.Proofs Go.Proofs.YthnleejpeocaeaaDoor.Ab
set_option linter.unusedVariables false
set_option linter.unusedSimpArgs false
def zt (n : Nat) : PS := ([], List.replicate n 0)
theorem thrZ (L : List Vx) (hL : L.length ≤ 8) (hok : ∀ v ∈ L, OkE v.e) (r : Rec) (hr : recIn r) (G : AHeap) (b : Nat) (hb : b < G.n) (hg : G.get b = .cells (i64V (List.replicate L.length 0)) 3 none) :
    SCalls Tryd.prog 13 [.agg [.snil, .sl b 0 L.length L.length, .int .i64 (-1), .int .i64 0], .imm L.length (L.flatMap encX), .int .i64 0, .agg (recE r)] G (fun q h' => ∃ v', q = .agg [v', .sl b 0 L.length L.length, .int .i64 (passX L 0 r (zt L.length)).1.1, .int .i64 (passX L 0 r (zt L.length)).1.2] ∧ Keep G h' (own2 b .snil) ∧ NewOr G .snil v' ∧ (v'.one = true ∧ v'.cells = some [v']) ∧ ((passX L 0 r (zt L.length)).1.2 = 0 → Sv b (passX L 0 r (zt L.length)).2 v' h')) :=
  throughC b L hL hok L 0 rfl (by omega) r hr (zt L.length) .snil (by simp [zt]) (by
      have : 4 ^ L.length ≤ 4 ^ 8 := Nat.pow_le_pow_right (by decide) hL
      simp only [zt, List.length_nil, Nat.zero_add]
      omega) G ⟨hb, Own.snil _ _ _, by simp [idOf], hg⟩
set_option maxHeartbeats 2000000 in
set_option maxRecDepth 10000 in
theorem pChainR (L : List Vx) (hL : L.length ≤ 8) (hok : ∀ v ∈ L, OkE v.e) (r : Rec) (hr : recIn r) (h : AHeap) : Pure Tryd.prog 7 [.imm L.length (L.flatMap encX), .agg (recE r)] h (chV (chainX L r)) := by
  refine Pure.of (chV_clo _) ?_
  refine SCalls.enterI (c := _) Tryd.func7 rfl (by kernel_rfl) (by simp) ?_
  have hcr : (V.agg (recE r)).cells = some (recE r) := rfl
  have mk : ∀ H : AHeap, aMake Tryd.prog 42 (.int .i64 ((L.length : Nat) : Int)) (.int .i64 ((L.length : Nat) : Int)) H = some (.sl H.n 0 L.length L.length, H.push (.cells (i64V (List.replicate L.length 0)) 3 none)) := fun H => by
    rw [make_go sl_42 (Nat.le_refl _) (by simp only; omega) (by omega), made_one]
    simp [i64V]
  simp only [wpA_region, wpA_seq, wpA_draw, seqQ_normal, goI_out, goI_ops, opsA_nil, opsA_cons, stepA_assign, stepA_box, thenH_some, eval_tmp, eval_const, enterF_zero, enterF_succ, absV_int, absV_snil, aBox_eq, Int.reduceNeg, Option.map_some, hcr]
  refine SWp.drawnS none_ [2, 6, 7, 8] (.q 0 (.q 1 (.q 4 (.q 5 (.e 2 (.q 3 (.e 6 (.e 7 (.a 8 .done) .stop) (.e 7 (.e 6 (.a 8 .done) .stop) .stop))) (.e 7 (.e 2 (.q 3 (.e 6 (.a 8 .done) .stop)) .stop) .stop)))))) (by kernel_rfl) (by kernel_rfl) (by kernel_rfl) ?_
  obtain ⟨H, hH⟩ : ∃ x, x = h.push (.cells (recE r) 24 none) := ⟨_, rfl⟩
  have g3 : H.get h.n = .cells (recE r) 24 none := by rw [hH]; exact get_push_new
  have kH : Keep h H none_ := by rw [hH]; exact Keep.push _ _ _
  have nH : H.n = h.n + 1 := by rw [hH]; rfl
  have r0 : dropC (AObj.cells (recE r) 24 none) 0 = some (recE r) := rfl
  have lr0 : loadGo (some (some 3)) (some (recE r)) = some (.agg (recE r)) := rfl
  rw [← hH]
  clear hH
  simp only [siI_stop, siI_q, siI_e, sqI_some, seI_some, mOk_none', keepT1, keepT2, implies_true, qI_nil, qI_cons, thenQ_some, q_move, q_load, q_build, q_len, goI_ops, goI_mk, opsA_nil, opsA_cons, stepA_alloc, stepA_makeSlice, stepA_call, thenH_some, eval_tmp, eval_const, put_some, enterF_zero, enterF_succ, absV_int, cells_int, cells_sl, aLoad_eq, aPlace_ptr, setAll_nil, setAll_cons, aAlloc_eq, aLen_imm, aBuild_go, aFill_nil, aFill_cons, fillGo_some, buildGo_struct, push_n, List.getElem?_cons_zero, List.getElem?_cons_succ, Int.reduceNeg, Bool.false_eq_true, Nat.reduceEqDiff, Nat.reduceAdd, Nat.reduceLeDiff, reduceCtorEq, List.map_cons, List.map_nil, Option.map_some, Nat.zero_add, List.length_cons, List.length_nil, List.set_cons_zero, List.set_cons_succ, and_true, true_and, and_self, if_true, if_false, kt_22, lt_24, pl_49, zc_49, mk, g3, r0, lr0]
  obtain ⟨p, hp⟩ : ∃ p, p = passX L 0 r (zt L.length) := ⟨_, rfl⟩
  have hG : chainX L r = if p.1.2 ≠ 0 then ([], p.1) else (p.2.1, p.1.1, 0) := by rw [hp]; rfl
  have ok1 := passX_ok1 L 0 r (zt L.length)
  rw [← hp] at ok1
  refine ⟨⟨?_, ?_⟩, ?_⟩
  · obtain ⟨G, hGG⟩ : ∃ x, x = H.push (.cells (i64V (List.replicate L.length 0)) 3 none) := ⟨_, rfl⟩
    have gb : G.get (H.n) = .cells (i64V (List.replicate L.length 0)) 3 none := by rw [hGG]; exact get_push_new

    have kG : Keep H G none_ := by rw [hGG]; exact Keep.push _ _ _
    have nG : G.n = H.n + 1 := by rw [hGG]; rfl
    rw [← hGG]
    clear hGG
    refine callI_of cal13 (thrZ L hL hok r hr G (H.n) (by omega) gb) (fun q h' ⟨v', e1, k', nw, ⟨u1, u2⟩, sv⟩ => ?_)
    subst e1
    rw [← hp] at sv ⊢
    have n' := k'.n
    have kF2 : Keep H h' none_ := kG.trans k' fun j hj q => by
      rcases q with q | q
      · omega
      · simp [idOf] at q
    have kF : Keep h h' none_ := kH.trans' kF2
    have idn : ∀ j, idOf v' = some j → G.n ≤ j := fun j hj => by
      rcases nw with q | q
      · rw [q] at hj; simp [idOf] at hj
      · exact q j hj

    by_cases he : p.1.2 = 0
    · have ce : (p.1.2 != 0) = false := by simp [he]
      rw [if_neg (by simp [he])] at hG
      have s1 := (sv he).on (Keep.push h' (.cells [v', .sl (H.n) 0 L.length L.length, .int .i64 p.1.1, .int .i64 p.1.2] 49 none) none_)
      obtain ⟨h2, cc, kk⟩ := Acc.cast (h0 := h) ⟨s1.own, kF.then_push _, fun k hk => by have := idn k hk; omega⟩ (n := p.2.1.length) (recs_len _) (by decide)
      simp only [siI_done, siI_stop, siI_a, siI_e, saI_some, seI_some, wpA_skip, wpA_region, wpA_seq, wpA_cond, wpA_ret, condI_false, seqQ_normal, endI_mk, goI_out, goI_ops, goI_mk, opsA_nil, opsA_cons, stepA_assign, stepA_alloc, stepA_load, stepA_store, stepA_binOp, stepA_fieldAddr, thenV_some, thenH_some, thenS_some, eval_tmp, eval_const, put_some, put_none, enterF_succ, aBin_neq, absV_int, cells_agg, one_int, one_sl, all_nil, all_cons, aField_eq, fieldGo_ptr, aLoad_eq, loadGo_one, aPlace_ptr, dropC_cells, aStore_eq, storeGo_ptr, setC_row, setAll_nil, setAll_cons, aAlloc_eq, get_push_new, set_push, List.getElem?_cons_zero, List.getElem?_cons_succ, Int.reduceNeg, Nat.reduceEqDiff, Nat.reduceAdd, Nat.reduceLeDiff, Option.map_some, Nat.add_zero, Nat.zero_add, Nat.zero_le, List.length_cons, List.length_nil, List.drop_zero, List.drop_succ_cons, List.set_cons_zero, List.set_cons_succ, and_true, if_true, if_false, Bool.and_self, Nat.le_refl, ft_49_0, ft_49_3, lt_28, lt_3, zc_49, zt_49, u1, ce]
      try (refine And.intro kF2 ?_)
      try (refine And.intro (kF2.then_push _) ?_)
      simp only [put_some, put_none, enterF_succ, Int.reduceNeg, Nat.reduceEqDiff, if_true, if_false, retA_ret, Tryd.results7, resultsA_3]
      exact hid_mk ⟨h2, by rw [show chainX L r = (p.2.1, -1, 0) by rw [hG, ok1 he]]; exact Cast.tuple (CastL.cons cc (CastL.refl _ _)), kk⟩
    · have ce : (p.1.2 != 0) = true := by simp [he]
      rw [if_pos he] at hG
      simp only [siI_done, siI_stop, siI_a, siI_e, saI_some, seI_some, wpA_region, wpA_seq, wpA_cond, wpA_draw, condI_true, seqQ_normal, goI_out, goI_ops, goI_mk, opsA_nil, opsA_cons, stepA_alloc, stepA_load, stepA_store, stepA_binOp, stepA_fieldAddr, thenV_some, thenH_some, thenS_some, eval_tmp, eval_const, put_some, put_none, enterF_succ, aBin_neq, absV_int, cells_agg, one_int, one_sl, all_nil, all_cons, aField_eq, fieldGo_ptr, aLoad_eq, loadGo_one, aPlace_ptr, dropC_cells, aStore_eq, storeGo_ptr, setC_row, setAll_nil, setAll_cons, aAlloc_eq, get_push_new, set_push, List.getElem?_cons_zero, List.getElem?_cons_succ, Int.reduceNeg, Nat.reduceEqDiff, Nat.reduceAdd, Nat.reduceLeDiff, Option.map_some, Nat.zero_add, List.length_cons, List.length_nil, List.drop_zero, List.drop_succ_cons, List.set_cons_zero, List.set_cons_succ, and_true, if_true, if_false, Bool.and_self, Nat.le_refl, ft_49_3, lt_3, zc_49, zt_49, u1, ce]
      try (refine And.intro kF2 ?_)
      try (refine And.intro (kF2.then_push _) ?_)
      refine SWp.drawnI [] (by kernel_rfl) (by kernel_rfl) (by kernel_rfl) ?_
      simp only [gI_nil, gI_cons, goI_rest, ggI_true, wantedA_none, idleOp, Bool.or_false, List.contains_nil, wpA_ret, seqQ_normal, seqQ_ret, endI_mk, goI_out, stepA_assign, stepA_load, stepA_fieldAddr, thenV_some, eval_tmp, eval_const, put_some, put_none, enterF_succ, absV_snil, aField_eq, fieldGo_ptr, aLoad_eq, loadGo_one, aPlace_ptr, dropC_cells, get_push_new, Int.reduceNeg, Nat.reduceEqDiff, Nat.reduceAdd, Nat.reduceLeDiff, Nat.zero_add, List.length_cons, List.length_nil, List.drop_zero, List.drop_succ_cons, if_true, if_false, ft_49_2, ft_49_3, lt_3, retA_ret, Tryd.results7, resultsA_3]
      exact hid_mk ⟨_, by rw [hG]; exact Cast.tuple (CastL.cons (Cast.nil0 _) (CastL.refl _ _)), kF.then_push _⟩
  · obtain ⟨G, hGG⟩ : ∃ x, x = (H.push (.cells (i64V (List.replicate L.length 0)) 3 none)).push (.cells [.snil, .snil, .int .i64 0, .int .i64 0] 49 none) := ⟨_, rfl⟩
    have gb : G.get (H.n) = .cells (i64V (List.replicate L.length 0)) 3 none := by rw [hGG]; exact get_push2'
    have gw0 : G.get (H.n + 1) = .cells [.snil, .snil, .int .i64 0, .int .i64 0] 49 none := by rw [hGG]; exact get_push2
    have kG : Keep H G none_ := by rw [hGG]; exact (Keep.push _ _ _).then_push _
    have nG : G.n = H.n + 2 := by rw [hGG]; rfl
    rw [← hGG]
    clear hGG
    refine callI_of cal13 (thrZ L hL hok r hr G (H.n) (by omega) gb) (fun q h' ⟨v', e1, k', nw, ⟨u1, u2⟩, sv⟩ => ?_)
    subst e1
    rw [← hp] at sv ⊢
    have n' := k'.n
    have kF2 : Keep H h' none_ := kG.trans k' fun j hj q => by
      rcases q with q | q
      · omega
      · simp [idOf] at q
    have kF : Keep h h' none_ := kH.trans' kF2
    have idn : ∀ j, idOf v' = some j → G.n ≤ j := fun j hj => by
      rcases nw with q | q
      · rw [q] at hj; simp [idOf] at hj
      · exact q j hj
    have gw : h'.get (H.n + 1) = .cells [.snil, .snil, .int .i64 0, .int .i64 0] 49 none := (k'.get _ (by omega) (fun q => by rcases q with q | q; omega; simp [idOf] at q)).trans gw0
    by_cases he : p.1.2 = 0
    · have ce : (p.1.2 != 0) = false := by simp [he]
      rw [if_neg (by simp [he])] at hG
      have s1 := (sv he).keep (Keep.set h' (H.n + 1) (.cells [v', .sl (H.n) 0 L.length L.length, .int .i64 p.1.1, .int .i64 p.1.2] 49 none)) (by omega) (fun j hj q => by have := idn j hj; omega)
      obtain ⟨h2, cc, kk⟩ := Acc.cast (h0 := h) ⟨s1.own, kF.setNew (by omega) _, fun k hk => by have := idn k hk; omega⟩ (n := p.2.1.length) (recs_len _) (by decide)
      simp only [siI_done, siI_a, saI_some, wpA_skip, wpA_region, wpA_seq, wpA_cond, wpA_ret, condI_false, seqQ_normal, endI_mk, goI_out, goI_ops, goI_mk, opsA_nil, opsA_cons, stepA_assign, stepA_load, stepA_store, stepA_binOp, stepA_fieldAddr, thenV_some, thenS_some, eval_tmp, eval_const, put_some, put_none, enterF_succ, aBin_neq, absV_int, cells_agg, one_int, one_sl, all_nil, all_cons, aField_eq, fieldGo_ptr, aLoad_eq, loadGo_one, aPlace_ptr, dropC_cells, aStore_eq, storeGo_ptr, setC_row, setAll_nil, setAll_cons, get_set_same, List.getElem?_cons_zero, List.getElem?_cons_succ, Int.reduceNeg, Nat.reduceEqDiff, Nat.reduceAdd, Nat.reduceLeDiff, Option.map_some, Nat.add_zero, Nat.zero_add, Nat.zero_le, List.length_cons, List.length_nil, List.drop_zero, List.drop_succ_cons, List.set_cons_zero, List.set_cons_succ, if_true, if_false, Bool.and_self, Nat.le_refl, ft_49_0, ft_49_3, lt_28, lt_3, zt_49, gw, u1, ce]
      try (refine And.intro kF2 ?_)
      try (refine And.intro (kF2.then_push _) ?_)
      simp only [put_some, put_none, enterF_succ, Int.reduceNeg, Nat.reduceEqDiff, if_true, if_false, retA_ret, Tryd.results7, resultsA_3]
      exact hid_mk ⟨h2, by rw [show chainX L r = (p.2.1, -1, 0) by rw [hG, ok1 he]]; exact Cast.tuple (CastL.cons cc (CastL.refl _ _)), kk⟩
    · have ce : (p.1.2 != 0) = true := by simp [he]
      rw [if_pos he] at hG
      simp only [siI_done, siI_a, saI_some, wpA_region, wpA_seq, wpA_cond, wpA_draw, condI_true, seqQ_normal, goI_out, goI_ops, goI_mk, opsA_nil, opsA_cons, stepA_load, stepA_store, stepA_binOp, stepA_fieldAddr, thenV_some, thenS_some, eval_tmp, eval_const, put_some, put_none, enterF_succ, aBin_neq, absV_int, cells_agg, one_int, one_sl, all_nil, all_cons, aField_eq, fieldGo_ptr, aLoad_eq, loadGo_one, aPlace_ptr, dropC_cells, aStore_eq, storeGo_ptr, setC_row, setAll_nil, setAll_cons, get_set_same, List.getElem?_cons_zero, List.getElem?_cons_succ, Int.reduceNeg, Nat.reduceEqDiff, Nat.reduceAdd, Nat.reduceLeDiff, Option.map_some, Nat.zero_add, List.length_cons, List.length_nil, List.drop_zero, List.drop_succ_cons, List.set_cons_zero, List.set_cons_succ, if_true, if_false, Bool.and_self, Nat.le_refl, ft_49_3, lt_3, zt_49, gw, u1, ce]
      try (refine And.intro kF2 ?_)
      try (refine And.intro (kF2.then_push _) ?_)
      refine SWp.drawnI [] (by kernel_rfl) (by kernel_rfl) (by kernel_rfl) ?_
      simp only [gI_nil, gI_cons, goI_rest, ggI_true, wantedA_none, idleOp, Bool.or_false, List.contains_nil, wpA_ret, seqQ_normal, seqQ_ret, endI_mk, goI_out, stepA_assign, stepA_load, stepA_fieldAddr, thenV_some, eval_tmp, eval_const, put_some, put_none, enterF_succ, absV_snil, aField_eq, fieldGo_ptr, aLoad_eq, loadGo_one, aPlace_ptr, dropC_cells, get_set_same, Int.reduceNeg, Nat.reduceEqDiff, Nat.reduceAdd, Nat.reduceLeDiff, Nat.zero_add, List.length_cons, List.length_nil, List.drop_zero, List.drop_succ_cons, if_true, if_false, ft_49_2, ft_49_3, lt_3, retA_ret, Tryd.results7, resultsA_3]
      exact hid_mk ⟨_, by rw [hG]; exact Cast.tuple (CastL.cons (Cast.nil0 _) (CastL.refl _ _)), kF.setNew (by omega) _⟩
  · obtain ⟨G, hGG⟩ : ∃ x, x = (H.push (.cells [.snil, .snil, .int .i64 0, .int .i64 0] 49 none)).push (.cells (i64V (List.replicate L.length 0)) 3 none) := ⟨_, rfl⟩
    have gb : G.get (H.n + 1) = .cells (i64V (List.replicate L.length 0)) 3 none := by rw [hGG]; exact get_push2
    have gw0 : G.get (H.n) = .cells [.snil, .snil, .int .i64 0, .int .i64 0] 49 none := by rw [hGG]; exact get_push2'
    have kG : Keep H G none_ := by rw [hGG]; exact (Keep.push _ _ _).then_push _
    have nG : G.n = H.n + 2 := by rw [hGG]; rfl
    rw [← hGG]
    clear hGG
    refine callI_of cal13 (thrZ L hL hok r hr G (H.n + 1) (by omega) gb) (fun q h' ⟨v', e1, k', nw, ⟨u1, u2⟩, sv⟩ => ?_)
    subst e1
    rw [← hp] at sv ⊢
    have n' := k'.n
    have kF2 : Keep H h' none_ := kG.trans k' fun j hj q => by
      rcases q with q | q
      · omega
      · simp [idOf] at q
    have kF : Keep h h' none_ := kH.trans' kF2
    have idn : ∀ j, idOf v' = some j → G.n ≤ j := fun j hj => by
      rcases nw with q | q
      · rw [q] at hj; simp [idOf] at hj
      · exact q j hj
    have gw : h'.get (H.n) = .cells [.snil, .snil, .int .i64 0, .int .i64 0] 49 none := (k'.get _ (by omega) (fun q => by rcases q with q | q; omega; simp [idOf] at q)).trans gw0
    by_cases he : p.1.2 = 0
    · have ce : (p.1.2 != 0) = false := by simp [he]
      rw [if_neg (by simp [he])] at hG
      have s1 := (sv he).keep (Keep.set h' (H.n) (.cells [v', .sl (H.n + 1) 0 L.length L.length, .int .i64 p.1.1, .int .i64 p.1.2] 49 none)) (by omega) (fun j hj q => by have := idn j hj; omega)
      obtain ⟨h2, cc, kk⟩ := Acc.cast (h0 := h) ⟨s1.own, kF.setNew (by omega) _, fun k hk => by have := idn k hk; omega⟩ (n := p.2.1.length) (recs_len _) (by decide)
      simp only [siI_done, siI_a, saI_some, wpA_skip, wpA_region, wpA_seq, wpA_cond, wpA_ret, condI_false, seqQ_normal, endI_mk, goI_out, goI_ops, goI_mk, opsA_nil, opsA_cons, stepA_assign, stepA_load, stepA_store, stepA_binOp, stepA_fieldAddr, thenV_some, thenS_some, eval_tmp, eval_const, put_some, put_none, enterF_succ, aBin_neq, absV_int, cells_agg, one_int, one_sl, all_nil, all_cons, aField_eq, fieldGo_ptr, aLoad_eq, loadGo_one, aPlace_ptr, dropC_cells, aStore_eq, storeGo_ptr, setC_row, setAll_nil, setAll_cons, get_set_same, List.getElem?_cons_zero, List.getElem?_cons_succ, Int.reduceNeg, Nat.reduceEqDiff, Nat.reduceAdd, Nat.reduceLeDiff, Option.map_some, Nat.add_zero, Nat.zero_add, Nat.zero_le, List.length_cons, List.length_nil, List.drop_zero, List.drop_succ_cons, List.set_cons_zero, List.set_cons_succ, if_true, if_false, Bool.and_self, Nat.le_refl, ft_49_0, ft_49_3, lt_28, lt_3, zt_49, gw, u1, ce]
      try (refine And.intro kF2 ?_)
      try (refine And.intro (kF2.then_push _) ?_)
      simp only [put_some, put_none, enterF_succ, Int.reduceNeg, Nat.reduceEqDiff, if_true, if_false, retA_ret, Tryd.results7, resultsA_3]
      exact hid_mk ⟨h2, by rw [show chainX L r = (p.2.1, -1, 0) by rw [hG, ok1 he]]; exact Cast.tuple (CastL.cons cc (CastL.refl _ _)), kk⟩
    · have ce : (p.1.2 != 0) = true := by simp [he]
      rw [if_pos he] at hG
      simp only [siI_done, siI_a, saI_some, wpA_region, wpA_seq, wpA_cond, wpA_draw, condI_true, seqQ_normal, goI_out, goI_ops, goI_mk, opsA_nil, opsA_cons, stepA_load, stepA_store, stepA_binOp, stepA_fieldAddr, thenV_some, thenS_some, eval_tmp, eval_const, put_some, put_none, enterF_succ, aBin_neq, absV_int, cells_agg, one_int, one_sl, all_nil, all_cons, aField_eq, fieldGo_ptr, aLoad_eq, loadGo_one, aPlace_ptr, dropC_cells, aStore_eq, storeGo_ptr, setC_row, setAll_nil, setAll_cons, get_set_same, List.getElem?_cons_zero, List.getElem?_cons_succ, Int.reduceNeg, Nat.reduceEqDiff, Nat.reduceAdd, Nat.reduceLeDiff, Option.map_some, Nat.zero_add, List.length_cons, List.length_nil, List.drop_zero, List.drop_succ_cons, List.set_cons_zero, List.set_cons_succ, if_true, if_false, Bool.and_self, Nat.le_refl, ft_49_3, lt_3, zt_49, gw, u1, ce]
      try (refine And.intro kF2 ?_)
      try (refine And.intro (kF2.then_push _) ?_)
      refine SWp.drawnI [] (by kernel_rfl) (by kernel_rfl) (by kernel_rfl) ?_
      simp only [gI_nil, gI_cons, goI_rest, ggI_true, wantedA_none, idleOp, Bool.or_false, List.contains_nil, wpA_ret, seqQ_normal, seqQ_ret, endI_mk, goI_out, stepA_assign, stepA_load, stepA_fieldAddr, thenV_some, eval_tmp, eval_const, put_some, put_none, enterF_succ, absV_snil, aField_eq, fieldGo_ptr, aLoad_eq, loadGo_one, aPlace_ptr, dropC_cells, get_set_same, Int.reduceNeg, Nat.reduceEqDiff, Nat.reduceAdd, Nat.reduceLeDiff, Nat.zero_add, List.length_cons, List.length_nil, List.drop_zero, List.drop_succ_cons, if_true, if_false, ft_49_2, ft_49_3, lt_3, retA_ret, Tryd.results7, resultsA_3]
      exact hid_mk ⟨_, by rw [hG]; exact Cast.tuple (CastL.cons (Cast.nil0 _) (CastL.refl _ _)), kF.setNew (by omega) _⟩
end Go.Proofs.YthnleejpeocaeaaDoor.Pk
