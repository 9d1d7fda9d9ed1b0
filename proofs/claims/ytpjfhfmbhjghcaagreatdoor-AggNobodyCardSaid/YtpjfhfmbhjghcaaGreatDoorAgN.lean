/-
  What functions of the program do, told of abstract states. Conditions: as each theorem says.
-/
import Derived.Test.YtpjfhfmbhjghcaaGreatDoorAgD
namespace Go.Proofs.YtpjfhfmbhjghcaaGreatDoor.Pk
open Go Go.Proofs Go.Proofs.YtpjfhfmbhjghcaaGreatDoor.Ab
set_option linter.unusedVariables false
set_option linter.unusedSimpArgs false
set_option maxRecDepth 10000
/-! ### The store that is nil -/
theorem agNilMiss (h : AHeap) : Pure Tryz.prog 37 [.pnil] h (.bool true) := by
  refine SCalls.enterI (c := _) Tryz.func37 rfl (by kernel_rfl) (by simp) ?_
  simp only [wpA_region, wpA_seq, wpA_ret, seqQ_normal, endI_mk, goI_out, goI_ops, opsA_nil, opsA_cons, opsA_guardS, gvI_tf, slotAt_zero, slotAt_succ, stepA_move, stepA_assign, stepA_pick, stepA_binOp, thenV_some, pickV_true, eval_tmp, eval_const, put_some, enterF_zero, enterF_succ, nil_nil_eql, absV_bool, absV_pnil, Nat.reduceEqDiff, reduceCtorEq, if_true, if_false, kt_31, retA_ret, Tryz.results37, resultsA_1]
  exact hid_mk ⟨rfl, rfl⟩
set_option maxRecDepth 10000 in
theorem agNilApply (r : Rec) (h : AHeap) : Pure Tryz.prog 16 [.pnil, .agg (recE r)] h (.tuple [.agg [.int .i64 0, .int .i64 0, .int .i64 0], .snil, .int .i64 3]) := by
  refine Pure.val (Clo.tuple (CloL.cons (Clo.agg (recE_clo ⟨0, 0, 0⟩)) (CloL.cons Clo.snil (CloL.cons (Clo.int _ _) CloL.nil)))) ?_
  obtain ⟨rk, rv, rt⟩ := r
  refine SCalls.enterI (c := _) Tryz.func16 rfl (by kernel_rfl) (by simp) ?_
  unfold recE
  simp only [wpA_region, wpA_seq, seqQ_normal, goI_out, goI_ops, opsA_nil, opsA_cons, stepA_move, stepA_assign, stepA_alloc, stepA_box, stepA_call, thenH_some, eval_tmp, eval_const, put_some, enterF_zero, enterF_succ, absV_int, absV_snil, cells_agg, aAlloc_eq, aBox_eq, push_n, Nat.reduceEqDiff, reduceCtorEq, List.map_cons, List.map_nil, Option.map_some, if_true, if_false, zc_38]
  refine callI_pure cal37 (agNilMiss _) ?_
  simp only [wpA_region, wpA_seq, wpA_cond, wpA_ret, condI_true, seqQ_normal, seqQ_ret, endI_mk, goI_out, goI_ops, opsA_nil, opsA_cons, stepA_assign, stepA_build, stepA_store, thenV_some, thenS_some, eval_tmp, eval_const, put_some, put_none, enterF_succ, absV_int, absV_snil, cells_agg, one_int, all_nil, all_cons, aLoad_eq, loadGo_row, aPlace_ptr, dropC_cells, aStore_eq, storeGo_ptr, setC_row, setAll_nil, setAll_cons, aBuild_go, aFill_nil, buildGo_struct, get_push2, set_push2, Nat.reduceEqDiff, Nat.reduceAdd, List.map_nil, Option.map_some, Nat.zero_add, Nat.zero_le, List.length_cons, List.length_nil, List.drop_zero, List.take_succ_cons, List.take_nil, List.set_cons_zero, List.set_cons_succ, if_true, if_false, Bool.and_self, Nat.le_refl, lt_38, pl_38, zc_38, zt_38, retA_ret, Tryz.results16, resultsC_3, resultA_tmp, resultA_cell, res3_some]
  exact hid_mk ⟨rfl, (Keep.push h _ none_).then_push _⟩
theorem agNilValue (key : Int) (h : AHeap) : Pure Tryz.prog 21 [.pnil, .int .i64 key] h (.int .i64 0) := by
  refine SCalls.enterI (c := _) Tryz.func21 rfl (by kernel_rfl) (by simp) ?_
  simp only [wpA_region, wpA_seq, seqQ_normal, goI_out, goI_ops, opsA_nil, opsA_cons, stepA_move, stepA_assign, stepA_call, eval_tmp, eval_const, put_some, enterF_zero, enterF_succ, absV_int, Nat.reduceEqDiff, reduceCtorEq, List.map_cons, List.map_nil, if_true, if_false]
  refine callI_pure cal37 (agNilMiss _) ?_
  simp only [wpA_region, wpA_seq, wpA_cond, wpA_ret, condI_true, seqQ_normal, seqQ_ret, endI_mk, goI_out, goI_ops, opsA_nil, opsA_cons, stepA_assign, eval_tmp, eval_const, put_some, enterF_succ, absV_int, Nat.reduceEqDiff, if_true, if_false, retA_ret, Tryz.results21, resultsA_1]
  exact hid_mk ⟨rfl, rfl⟩
theorem agNilLate (r : Rec) (m : Int) (h : AHeap) : Pure Tryz.prog 20 [.pnil, .agg (recE r), .int .i64 m] h (.bool false) := by
  refine Pure.val (Clo.bool _) ?_
  obtain ⟨rk, rv, rt⟩ := r
  refine SCalls.enterI (c := _) Tryz.func20 rfl (by kernel_rfl) (by simp) ?_
  unfold recE
  simp only [wpA_region, wpA_seq, seqQ_normal, goI_out, goI_ops, opsA_nil, opsA_cons, stepA_move, stepA_assign, stepA_box, stepA_call, thenH_some, eval_tmp, eval_const, put_some, enterF_zero, enterF_succ, absV_bool, cells_agg, aBox_eq, Nat.reduceEqDiff, reduceCtorEq, List.map_cons, List.map_nil, Option.map_some, if_true, if_false]
  refine callI_pure cal37 (agNilMiss _) ?_
  simp only [wpA_region, wpA_seq, wpA_cond, wpA_ret, condI_true, seqQ_normal, seqQ_ret, endI_mk, goI_out, goI_ops, opsA_nil, opsA_cons, opsA_guardS, gvI_tf, slotAt_zero, slotAt_succ, stepA_move, stepA_assign, stepA_pick, thenV_some, pickV_true, eval_tmp, eval_const, put_some, enterF_succ, absV_bool, Nat.reduceEqDiff, if_true, if_false, retA_ret, Tryz.results20, resultsA_1]
  exact hid_mk ⟨rfl, Keep.push h _ none_⟩
theorem agNilExpire (m : Int) (h : AHeap) : Pure Tryz.prog 15 [.pnil, .int .i64 m] h .snil := by
  refine SCalls.enterI (c := _) Tryz.func15 rfl (by kernel_rfl) (by simp) ?_
  simp only [wpA_region, wpA_seq, seqQ_normal, goI_out, goI_ops, opsA_nil, opsA_cons, stepA_move, stepA_assign, stepA_call, eval_tmp, eval_const, put_some, enterF_zero, enterF_succ, absV_snil, Nat.reduceEqDiff, reduceCtorEq, List.map_cons, List.map_nil, if_true, if_false]
  refine callI_pure cal37 (agNilMiss _) ?_
  simp only [wpA_region, wpA_seq, wpA_cond, wpA_ret, condI_true, seqQ_normal, seqQ_ret, endI_mk, goI_out, goI_ops, opsA_nil, opsA_cons, stepA_assign, eval_tmp, eval_const, put_some, enterF_succ, absV_snil, Nat.reduceEqDiff, if_true, if_false, retA_ret, Tryz.results15, resultsA_1]
  exact hid_mk ⟨rfl, rfl⟩
theorem agNilDo (c : Chg) (h : AHeap) : Pure Tryz.prog 17 [.pnil, .agg (chgE c)] h (.int .i64 3) := by
  refine Pure.val (Clo.int _ _) ?_
  refine SCalls.enterI (c := _) Tryz.func17 rfl (by kernel_rfl) (by simp) ?_
  unfold chgE
  simp only [wpA_region, wpA_seq, seqQ_normal, goI_out, goI_ops, opsA_nil, opsA_cons, stepA_move, stepA_assign, stepA_box, stepA_call, thenH_some, eval_tmp, eval_const, put_some, enterF_zero, enterF_succ, absV_int, cells_agg, aBox_eq, Nat.reduceEqDiff, reduceCtorEq, List.map_cons, List.map_nil, Option.map_some, if_true, if_false]
  refine callI_pure cal37 (agNilMiss _) ?_
  simp only [wpA_region, wpA_seq, wpA_cond, wpA_ret, condI_true, seqQ_normal, seqQ_ret, endI_mk, goI_out, goI_ops, opsA_nil, opsA_cons, stepA_assign, eval_tmp, eval_const, put_some, enterF_succ, absV_int, Nat.reduceEqDiff, if_true, if_false, retA_ret, Tryz.results17, resultsA_1]
  exact hid_mk ⟨rfl, Keep.push h _ none_⟩
theorem agNilList (h : AHeap) : Pure Tryz.prog 19 [.pnil] h .snil := by
  refine SCalls.enterI (c := _) Tryz.func19 rfl (by kernel_rfl) (by simp) ?_
  simp only [wpA_region, wpA_seq, seqQ_normal, goI_out, goI_ops, opsA_nil, opsA_cons, stepA_move, stepA_assign, stepA_call, eval_tmp, eval_const, put_some, enterF_zero, enterF_succ, absV_snil, Nat.reduceEqDiff, reduceCtorEq, List.map_cons, List.map_nil, if_true, if_false]
  refine callI_pure cal37 (agNilMiss _) ?_
  simp only [wpA_region, wpA_seq, wpA_cond, wpA_ret, condI_true, seqQ_normal, seqQ_ret, endI_mk, goI_out, goI_ops, opsA_nil, opsA_cons, stepA_assign, eval_tmp, eval_const, put_some, enterF_succ, absV_snil, Nat.reduceEqDiff, if_true, if_false, retA_ret, Tryz.results19, resultsA_1]
  exact hid_mk ⟨rfl, rfl⟩
set_option maxRecDepth 10000 in
set_option maxHeartbeats 1000000 in
theorem aggNobody (r : Rec) (m : Int) (h : AHeap) (hg : KG h) : SCalls Tryz.prog 6 [.agg (recE r), .int .i64 m] h (fun q h' => q = .bool true) := by
  obtain ⟨rk, rv, rt⟩ := r
  refine SCalls.enterI (c := _) Tryz.func6 rfl (by kernel_rfl) (by simp) ?_
  have pA := fun H => agNilApply ⟨rk, rv, rt⟩ H
  have pL := fun H => agNilLate ⟨rk, rv, rt⟩ m H
  have pD := fun H => agNilDo ⟨0, 0, 0, 0, false⟩ H
  unfold recE at *
  unfold chgE at pD
  have kR : Keep h (h.push (.cells [.int .i64 rk, .int .i64 rv, .int .i64 rt] 38 none)) none_ := Keep.push _ _ _
  simp only [wpA_region, wpA_seq, seqQ_normal, goI_out, goI_ops, opsA_nil, opsA_cons, stepA_assign, stepA_box, stepA_call, thenH_some, eval_tmp, eval_const, enterF_zero, absV_bool, cells_agg, aBox_eq, List.map_nil, Option.map_some]
  refine callI_pure cal12 (pShown18 _ (hg.keep kR)) ?_
  simp only [wpA_region, wpA_seq, seqQ_normal, goI_out, goI_ops, opsA_nil, opsA_cons, stepA_move, stepA_assign, stepA_load, stepA_call, thenV_some, eval_tmp, eval_const, put_some, enterF_succ, absV_pnil, aLoad_eq, loadGo_row, aPlace_ptr, dropC_cells, get_push_new, Nat.reduceEqDiff, Nat.reduceAdd, List.map_cons, List.map_nil, Nat.zero_add, Nat.zero_le, List.length_cons, List.length_nil, List.drop_zero, List.take_succ_cons, List.take_nil, if_true, if_false, Nat.le_refl, lt_38]
  refine callI_pure cal16 (pA _) ?_
  simp only [wpA_region, wpA_seq, seqQ_normal, goI_out, goI_ops, opsA_nil, opsA_cons, opsA_guardS, gvI_same, slotAt_zero, slotAt_succ, stepA_move, stepA_assign, stepA_pick, stepA_alloc, stepA_load, stepA_store, stepA_binOp, stepA_fieldAddr, stepA_extract, stepA_len, stepA_call, thenV_some, thenH_some, thenS_some, pickV_true, extV_zero, extV_succ, eval_tmp, eval_const, put_some, put_none, enterF_succ, aBin_eql, absV_int, absV_bool, cells_agg, one_int, all_nil, all_cons, aField_eq, fieldGo_ptr, aLoad_eq, loadGo_one, aPlace_ptr, dropC_cells, aStore_eq, storeGo_ptr, setC_row, setAll_nil, setAll_cons, aAlloc_eq, aLen_snil, push_n, get_push2, get_push2', set_push2, beq_self_eq_true, Nat.reduceEqDiff, Nat.reduceAdd, List.map_cons, List.map_nil, Option.map_some, Nat.add_zero, Nat.zero_add, Nat.zero_le, List.length_cons, List.length_nil, List.drop_zero, List.set_cons_zero, List.set_cons_succ, if_true, if_false, Bool.and_self, Nat.le_refl, ft_38_0, kt_35, lt_2, zc_38, zt_38]
  refine callI_pure cal21 (agNilValue _ _) ?_
  simp only [goI_ops, opsA_cons, opsA_guardS, gvI_same, slotAt_zero, slotAt_succ, stepA_move, stepA_pick, stepA_load, stepA_binOp, stepA_call, thenV_some, pickV_true, eval_tmp, eval_const, put_some, put_none, enterF_zero, enterF_succ, aBin_eql, absV_int, absV_bool, aLoad_eq, loadGo_row, aPlace_ptr, dropC_cells, get_push2', beq_self_eq_true, Nat.reduceEqDiff, Nat.reduceAdd, List.map_cons, List.map_nil, Nat.zero_add, Nat.zero_le, List.length_cons, List.length_nil, List.drop_zero, List.take_succ_cons, List.take_nil, if_true, if_false, Nat.le_refl, lt_38]
  refine callI_pure cal20 (pL _) ?_
  simp only [goI_ops, opsA_cons, opsA_guardS, gvI_same, slotAt_zero, slotAt_succ, stepA_move, stepA_pick, stepA_unOp, stepA_call, thenV_some, pickV_true, eval_tmp, eval_const, put_some, put_none, enterF_zero, enterF_succ, aUn_not, absV_bool, Nat.reduceEqDiff, List.map_cons, List.map_nil, if_true, if_false, Bool.not_false]
  refine callI_pure cal15 (agNilExpire _ _) ?_
  simp only [goI_ops, opsA_cons, opsA_guardS, gvI_same, slotAt_zero, slotAt_succ, stepA_move, stepA_pick, stepA_build, stepA_binOp, stepA_len, stepA_call, thenV_some, pickV_true, eval_tmp, eval_const, put_some, put_none, enterF_succ, aBin_eql, absV_int, absV_bool, aLen_snil, aBuild_go, aFill_nil, buildGo_struct, beq_self_eq_true, Nat.reduceEqDiff, List.map_cons, List.map_nil, Option.map_some, if_true, if_false, kt_35, pl_40, zc_40]
  refine callI_pure cal17 (pD _) ?_
  simp only [goI_ops, opsA_cons, opsA_guardS, gvI_same, slotAt_zero, slotAt_succ, stepA_move, stepA_pick, stepA_binOp, stepA_call, thenV_some, pickV_true, eval_tmp, eval_const, put_some, put_none, enterF_succ, aBin_eql, absV_int, absV_bool, beq_self_eq_true, Nat.reduceEqDiff, List.map_cons, List.map_nil, if_true, if_false]
  refine callI_pure cal19 (agNilList _) ?_
  simp only [wpA_ret, seqQ_normal, endI_mk, goI_out, goI_ops, opsA_nil, opsA_cons, opsA_guardS, gvI_same, slotAt_zero, slotAt_succ, stepA_assign, stepA_pick, stepA_binOp, stepA_len, thenV_some, pickV_true, eval_tmp, eval_const, put_some, put_none, enterF_succ, aBin_eql, absV_int, absV_bool, aLen_snil, beq_self_eq_true, Nat.reduceEqDiff, if_true, if_false, kt_35, retA_ret, Tryz.results6, resultsA_1]
  exact hid_mk rfl
end Go.Proofs.YtpjfhfmbhjghcaaGreatDoor.Pk
