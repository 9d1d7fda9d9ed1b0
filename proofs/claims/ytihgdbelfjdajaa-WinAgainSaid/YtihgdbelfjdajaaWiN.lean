/-
  What functions of the program do, told of abstract states. Conditions: as each theorem says.
-/
import Derived.Test.YtihgdbelfjdajaaWiM
namespace Go.Proofs.Ytihgdbelfjdajaa.Pk
open Go Go.Proofs Go.Proofs.Ytihgdbelfjdajaa.Ab
set_option linter.unusedVariables false
set_option linter.unusedSimpArgs false
set_option maxRecDepth 20000 in
theorem winIs (h : AHeap) (i m cl : Nat) (room size fr : Int) (es : List (Nat × V × V)) (k : IsWin h i m room size es cl) (h0 : 0 ≤ fr) (h1 : fr ≤ 1099511627776) (hf : frW size fr = fr) :
    Pure Try.prog 20 [.ptr i 0, .int .i64 fr, .int .i64 (fr + size)] h (.bool true) := by
  refine Pure.val (Clo.bool _) ?_
  refine SCalls.enterI (c := _) Try.func20 rfl (by kernel_rfl) (by simp) ?_
  have gi := k.get
  have d1 : decide (0 ≤ fr) = true := decide_eq_true h0
  simp only [wpA_region, wpA_seq, seqQ_normal, goI_out, goI_ops, opsA_nil, opsA_cons, opsA_guardS, gvI_same, slotAt_zero, slotAt_succ, stepA_move, stepA_assign, stepA_binOp, stepA_call, thenV_some, eval_tmp, eval_const, put_some, enterF_zero, enterF_succ, aBin_geq, absV_int, absV_bool, Nat.reduceEqDiff, reduceCtorEq, List.map_cons, List.map_nil, if_true, if_false, d1]
  refine callI_pure cal14 (winStart h i m cl room size fr es k) ?_
  rw [startW_ok h0 h1, hf]
  have hw : IntKind.i64.wrap (fr + size) = fr + size := Go.IntWalk.i64_in _ (by have := k.s1; have := k.s2; omega)
  have e1 : (fr == fr) = true := by simp
  have e2 : (fr + size == fr + size) = true := by simp
  simp only [wpA_ret, seqQ_normal, endI_mk, goI_out, goI_ops, opsA_nil, opsA_cons, opsA_guardS, gvI_same, slotAt_zero, slotAt_succ, stepA_move, stepA_assign, stepA_pick, stepA_load, stepA_nilCheck, stepA_binOp, stepA_fieldAddr, thenV_some, pickV_true, nilV_ptr, eval_tmp, eval_const, put_some, enterF_zero, enterF_succ, aBin_add, aBin_eql, absV_bool, aField_eq, fieldGo_ptr, aLoad_eq, loadGo_one, aPlace_ptr, dropC_cells, beq_self_eq_true, Nat.reduceEqDiff, Nat.reduceAdd, Nat.reduceLeDiff, reduceCtorEq, Nat.zero_add, List.length_cons, List.length_nil, List.drop_zero, List.drop_succ_cons, if_true, if_false, ft_49_1, lt_2, gi, hw, retA_ret, Try.results20, resultsA_1]
  exact hid_mk ⟨rfl, Keep.refl _ _⟩
set_option maxHeartbeats 1000000 in
set_option maxRecDepth 20000 in
theorem winDoSet (h : AHeap) (i m cl : Nat) (room size key fr val : Int) (l : Ent) (k : IsWin h i m room size (wE l) cl) (h0 : 0 ≤ fr) (h1 : fr ≤ 1099511627776) (hf : frW size fr = fr) (hr : (kget l (key, fr)).isSome = true ∨ (l.length : Int) < room) :
    SCalls Try.prog 9 [.ptr i 0, .agg (chgE ⟨key, fr, fr + size, val, false⟩)] h (fun r h' => r = .int .i64 0 ∧ IsWin h' i m room size (wE (kset cl l (key, fr) val)) (kclk cl l (key, fr)) ∧ Keep h h' (fun q => q = m)) := by
  refine SCalls.enterI (c := _) Try.func9 rfl (by kernel_rfl) (by simp) ?_
  have hcc : (V.agg (chgE ⟨key, fr, fr + size, val, false⟩)).cells = some [.int .i64 key, .int .i64 fr, .int .i64 (fr + size), .int .i64 val, .bool false] := rfl
  simp only [wpA_region, wpA_seq, seqQ_normal, goI_out, goI_ops, opsA_nil, opsA_cons, stepA_move, stepA_assign, stepA_box, stepA_call, thenH_some, eval_tmp, eval_const, put_some, enterF_zero, enterF_succ, absV_int, aBox_eq, Nat.reduceEqDiff, reduceCtorEq, List.map_cons, List.map_nil, Option.map_some, if_true, if_false, hcc]
  have kH : Keep h (h.push (.cells [.int .i64 key, .int .i64 fr, .int .i64 (fr + size), .int .i64 val, .bool false] 30 none)) none_ := Keep.push _ _ _
  have k1 := k.keepN kH
  refine callI_pure cal16 (winMiss _ i m cl room size _ k1) ?_
  simp only [wpA_skip, wpA_region, wpA_seq, wpA_cond, condI_false, seqQ_normal, goI_out, goI_ops, opsA_nil, opsA_cons, stepA_move, stepA_load, stepA_fieldAddr, stepA_call, thenV_some, eval_tmp, put_some, enterF_zero, enterF_succ, aField_eq, fieldGo_ptr, aLoad_eq, loadGo_one, aPlace_ptr, dropC_cells, get_push_new, Nat.reduceEqDiff, Nat.reduceAdd, Nat.reduceLeDiff, reduceCtorEq, List.map_cons, List.map_nil, Nat.zero_add, List.length_cons, List.length_nil, List.drop_zero, List.drop_succ_cons, if_true, if_false, ft_30_1, ft_30_2, lt_2]
  refine callI_pure cal20 (winIs _ i m cl room size fr _ k1 h0 h1 hf) ?_
  simp only [wpA_skip, wpA_region, wpA_seq, wpA_cond, condI_true, condI_false, seqQ_normal, goI_out, goI_ops, opsA_nil, opsA_cons, opsA_guardS, gvI_same, gvI_ft, slotAt_zero, slotAt_succ, stepA_move, stepA_pick, stepA_load, stepA_unOp, stepA_fieldAddr, stepA_call, thenV_some, pickV_false, eval_tmp, eval_const, put_some, enterF_zero, enterF_succ, aUn_not, absV_bool, aField_eq, fieldGo_ptr, aLoad_eq, loadGo_one, aPlace_ptr, dropC_cells, get_push_new, Nat.reduceEqDiff, Nat.reduceAdd, Nat.reduceLeDiff, reduceCtorEq, List.map_cons, List.map_nil, Nat.add_zero, Nat.zero_add, Nat.zero_le, List.length_cons, List.length_nil, List.drop_zero, List.drop_succ_cons, if_true, if_false, Bool.not_true, Bool.not_false, ft_30_0, ft_30_1, ft_30_3, ft_30_4, lt_2, lt_4]
  refine callI_of cal10 (winPutOk _ i m cl room size key fr val l k1 (by rw [hf]; exact hr) h0 h1) fun r h2 ⟨e2, k2, p2⟩ => ?_
  subst e2
  rw [hf] at *
  have st : ∀ c : Chg, setC (some 5) (AObj.cells [.int .i64 0, .int .i64 0, .int .i64 0, .int .i64 0, .bool false] 30 none) 0 (chgE c) = some (.cells (chgE c) 30 none) := fun _ => rfl
  have cc : ∀ c : Chg, (V.agg (chgE c)).cells = some (chgE c) := fun _ => rfl
  simp only [wpA_region, wpA_seq, wpA_ret, seqQ_normal, seqQ_ret, endI_mk, goI_out, goI_ops, opsA_nil, opsA_cons, stepA_move, stepA_assign, stepA_alloc, stepA_store, stepA_extract, thenV_some, thenH_some, thenS_some, extV_zero, extV_succ, eval_tmp, put_some, put_none, enterF_succ, aStore_eq, storeGo_ptr, aAlloc_eq, get_push_new, set_push, Nat.reduceEqDiff, Option.map_some, if_true, if_false, zc_30, zt_30, st, cc, retA_ret, Try.results9, resultsA_1]
  exact hid_mk ⟨rfl, k2.keepN (Keep.push _ _ _), ((kH.up).trans' p2).then_push _⟩
set_option maxHeartbeats 1000000 in
set_option maxRecDepth 20000 in
theorem winDoDel (h : AHeap) (i m cl : Nat) (room size key fr : Int) (l : Ent) (k : IsWin h i m room size (wE l) cl) (h0 : 0 ≤ fr) (h1 : fr ≤ 1099511627776) (hf : frW size fr = fr) (hr : (kget l (key, fr)).isSome = true) :
    SCalls Try.prog 9 [.ptr i 0, .agg (chgE ⟨key, fr, fr + size, 0, true⟩)] h (fun r h' => r = .int .i64 0 ∧ IsWin h' i m room size (wE (kdel l (key, fr))) cl ∧ Keep h h' (fun q => q = m)) := by
  refine SCalls.enterI (c := _) Try.func9 rfl (by kernel_rfl) (by simp) ?_
  have hcc : (V.agg (chgE ⟨key, fr, fr + size, 0, true⟩)).cells = some [.int .i64 key, .int .i64 fr, .int .i64 (fr + size), .int .i64 0, .bool true] := rfl
  simp only [wpA_region, wpA_seq, seqQ_normal, goI_out, goI_ops, opsA_nil, opsA_cons, stepA_move, stepA_assign, stepA_box, stepA_call, thenH_some, eval_tmp, eval_const, put_some, enterF_zero, enterF_succ, absV_int, aBox_eq, Nat.reduceEqDiff, reduceCtorEq, List.map_cons, List.map_nil, Option.map_some, if_true, if_false, hcc]
  have kH : Keep h (h.push (.cells [.int .i64 key, .int .i64 fr, .int .i64 (fr + size), .int .i64 0, .bool true] 30 none)) none_ := Keep.push _ _ _
  have k1 := k.keepN kH
  refine callI_pure cal16 (winMiss _ i m cl room size _ k1) ?_
  simp only [wpA_skip, wpA_region, wpA_seq, wpA_cond, condI_false, seqQ_normal, goI_out, goI_ops, opsA_nil, opsA_cons, stepA_move, stepA_load, stepA_fieldAddr, stepA_call, thenV_some, eval_tmp, put_some, enterF_zero, enterF_succ, aField_eq, fieldGo_ptr, aLoad_eq, loadGo_one, aPlace_ptr, dropC_cells, get_push_new, Nat.reduceEqDiff, Nat.reduceAdd, Nat.reduceLeDiff, reduceCtorEq, List.map_cons, List.map_nil, Nat.zero_add, List.length_cons, List.length_nil, List.drop_zero, List.drop_succ_cons, if_true, if_false, ft_30_1, ft_30_2, lt_2]
  refine callI_pure cal20 (winIs _ i m cl room size fr _ k1 h0 h1 hf) ?_
  have z0 : ((0 : Int) != 0) = false := rfl
  have pc : ∀ a b : Int, (V.agg [.int .i64 a, .int .i64 b]).cells = some [.int .i64 a, .int .i64 b] := fun _ _ => rfl
  simp only [wpA_skip, wpA_region, wpA_seq, wpA_cond, wpA_draw, condI_false, seqQ_normal, goI_out, goI_ops, opsA_nil, opsA_cons, opsA_guardS, gvI_same, slotAt_zero, slotAt_succ, stepA_move, stepA_pick, stepA_alloc, stepA_build, stepA_load, stepA_store, stepA_binOp, stepA_unOp, stepA_fieldAddr, thenV_some, thenH_some, thenS_some, pickV_true, pickV_false, eval_tmp, eval_const, put_some, enterF_succ, aBin_neq, aUn_not, absV_int, absV_bool, cells_int, one_int, all_nil, all_cons, aField_eq, fieldGo_ptr, aLoad_eq, loadGo_one, aPlace_ptr, dropC_cells, aStore_eq, storeGo_ptr, setC_row, setAll_nil, setAll_cons, aAlloc_eq, aBuild_go, aFill_nil, aFill_cons, fillGo_some, buildGo_struct, push_n, get_push_new, get_push2, set_push2, List.getElem?_cons_zero, List.getElem?_cons_succ, bne_self_eq_false, Nat.reduceEqDiff, Nat.reduceAdd, Nat.reduceLeDiff, List.map_cons, List.map_nil, Option.map_some, Nat.add_zero, Nat.zero_add, Nat.zero_le, List.length_cons, List.length_nil, List.drop_zero, List.drop_succ_cons, List.set_cons_zero, List.set_cons_succ, and_self, if_true, if_false, Bool.and_self, Bool.not_true, Nat.le_refl, ft_30_0, ft_30_1, ft_30_3, ft_30_4, lt_2, lt_4, pl_51, zc_51, zt_51, pc]
  generalize hH : (h.push (.cells [.int .i64 key, .int .i64 fr, .int .i64 (fr + size), .int .i64 0, .bool true] 30 none)).push (.cells [.int .i64 key, .int .i64 fr] 51 none) = H
  have kK : Keep h H none_ := by rw [← hH]; exact kH.then_push _
  have k2 := k.keepN kK
  have gi := k2.get
  have gm := k2.map
  have g1 : H.get (h.n + 1) = .cells [.int .i64 key, .int .i64 fr] 51 none := by rw [← hH]; exact get_push_new
  have lp : loadGo (some (some 2)) (some [.int .i64 key, .int .i64 fr]) = some (.agg [.int .i64 key, .int .i64 fr]) := rfl
  have hlk := lookW l key fr gm
  rw [hr] at hlk
  have hdl := delW l key fr gm
  refine SWp.drawnS none_ [] (.q 0 (.q 1 (.q 2 (.q 3 (.q 4 (.q 5 (.q 6 (.q 7 (.q 8 (.q 9 (.q 10 .done))))))))))) (by kernel_rfl) (by kernel_rfl) (by kernel_rfl) ?_
  simp only [siI_done, siI_q, sqI_some, mOk_none', implies_true, qI_nil, qI_cons, thenQ_some, q_move, q_assign, q_load, q_nilCheck, q_fieldAddr, q_lookup, q_extract, wpA_skip, wpA_region, wpA_seq, wpA_cond, wpA_draw, condI_false, seqQ_normal, goI_out, goI_ops, goI_mk, opsA_nil, opsA_cons, stepA_move, stepA_unOp, thenV_some, nilV_ptr, extV_zero, extV_succ, eval_tmp, put_some, put_none, enterF_zero, enterF_succ, aUn_not, aField_eq, fieldGo_ptr, aLoad_eq, loadGo_one, aPlace_ptr, dropC_cells, List.getElem?_cons_zero, List.getElem?_cons_succ, Nat.reduceEqDiff, Nat.reduceAdd, Nat.reduceLeDiff, reduceCtorEq, Nat.zero_add, Nat.zero_le, List.length_cons, List.length_nil, List.drop_zero, List.drop_succ_cons, true_and, if_true, if_false, Bool.not_true, ft_49_2, lt_47, lt_51, gi, g1, lp, hlk]
  refine SWp.drawnS none_ [5] (.q 0 (.q 1 (.q 2 (.q 3 (.q 4 (.a 5 .done)))))) (by kernel_rfl) (by kernel_rfl) (by kernel_rfl) ?_
  simp only [siI_done, siI_q, siI_a, sqI_some, saI_some, mOk_none', implies_true, qI_nil, qI_cons, thenQ_some, q_move, q_load, q_nilCheck, q_fieldAddr, wpA_region, wpA_seq, wpA_ret, seqQ_normal, endI_mk, goI_out, goI_ops, goI_mk, opsA_nil, opsA_cons, stepA_assign, stepA_delete, thenH_some, nilV_ptr, eval_tmp, eval_const, put_some, put_none, enterF_zero, enterF_succ, absV_int, aField_eq, fieldGo_ptr, aLoad_eq, loadGo_one, aPlace_ptr, dropC_cells, List.getElem?_cons_zero, List.getElem?_cons_succ, Nat.reduceEqDiff, Nat.reduceAdd, Nat.reduceLeDiff, reduceCtorEq, Option.map_some, Nat.zero_add, Nat.zero_le, List.length_cons, List.length_nil, List.drop_zero, List.drop_succ_cons, true_and, if_true, if_false, ft_49_2, lt_47, lt_51, gi, g1, lp, hdl, retA_ret, Try.results9, resultsA_1]
  have kS : Keep H (H.set m (.map (wE (kdel l (key, fr))) cl)) (fun q => q = m) := Keep.set _ _ _
  exact hid_mk ⟨rfl, ⟨(kS.get i k2.lt (by exact k.ne)).trans gi, get_set_same, k.ne, k2.lt, k2.ml, k.s1, k.s2⟩, (kK.up).trans' kS⟩
end Go.Proofs.Ytihgdbelfjdajaa.Pk
