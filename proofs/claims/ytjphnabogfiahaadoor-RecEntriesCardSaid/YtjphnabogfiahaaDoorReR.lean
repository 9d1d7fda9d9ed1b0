/-
  What functions of the program do, told of abstract states. Conditions: as each theorem says.
-/
import Derived.Test.YtjphnabogfiahaaDoorReI
import Derived.Test.YtjphnabogfiahaaDoorPaQ
import Derived.Test.YtjphnabogfiahaaDoorAbD
namespace Go.Proofs.YtjphnabogfiahaaDoor.Pk
open Go Go.Proofs Go.Proofs.YtjphnabogfiahaaDoor.Ab
set_option linter.unusedVariables false
set_option linter.unusedSimpArgs false

theorem mOk_is {a b : Nat} (h : b ≠ a) : (true = true → mOk (fun x => x = a) (some b)) = True := eq_true fun _ i hi => by cases hi; exact h
theorem rTime (t : Int) (h : AHeap) : Pure Tryd.prog 26 [.int .i64 t] h (.bool (timeOk t)) := by
  refine SCalls.enterI (c := _) Tryd.func26 rfl (by kernel_rfl) (by simp) ?_
  by_cases h1 : 0 ≤ t
  · simp only [wpA_region, wpA_seq, wpA_ret, seqQ_normal, endI_mk, goI_out, goI_ops, opsA_nil, opsA_cons, opsA_guardS, gvI_same, slotAt_zero, slotAt_succ, stepA_move, stepA_assign, stepA_pick, stepA_binOp, thenV_some, pickV_true, eval_tmp, eval_const, put_some, enterF_zero, enterF_succ, aBin_leq, aBin_geq, absV_int, absV_bool, decide_true, Nat.reduceEqDiff, reduceCtorEq, if_true, if_false, h1, retA_ret, Tryd.results26, resultsA_1]
    exact hid_mk ⟨by simp [timeOk, h1], rfl⟩
  · simp only [wpA_region, wpA_seq, wpA_ret, seqQ_normal, endI_mk, goI_out, goI_ops, opsA_nil, opsA_cons, opsA_guardS, gvI_ft, slotAt_zero, slotAt_succ, stepA_move, stepA_assign, stepA_pick, stepA_binOp, thenV_some, pickV_false, eval_tmp, eval_const, put_some, enterF_zero, enterF_succ, aBin_geq, absV_int, absV_bool, decide_false, Nat.reduceEqDiff, reduceCtorEq, if_true, if_false, h1, retA_ret, Tryd.results26, resultsA_1]
    exact hid_mk ⟨by simp [timeOk, h1], rfl⟩
theorem rRecord (r : Rcd) (h : AHeap) (hr : rIn r) :
    Pure Tryd.prog 13 [.agg (rcdE r)] h (.imm (encR r).length (bytesV (encR r))) := by
  refine Pure.val (Clo.imm (bytesV_clo _)) ?_
  refine SCalls.enterI (c := _) Tryd.func13 rfl (by kernel_rfl) (by simp) ?_
  have hcl : (V.agg (rcdE r)).cells = some [.int .i64 r.k, .int .i64 r.v, .int .i64 r.t] := rfl
  simp only [wpA_region, wpA_seq, wpA_draw, seqQ_normal, goI_out, goI_ops, opsA_nil, opsA_cons, stepA_assign, stepA_box, thenH_some, eval_tmp, eval_const, enterF_zero, absV_snil, aBox_eq, Option.map_some, hcl]
  obtain ⟨H, hH⟩ : ∃ y, y = h.push (.cells [.int .i64 r.k, .int .i64 r.v, .int .i64 r.t] 23 none) := ⟨_, rfl⟩
  have hg : H.get h.n = .cells [.int .i64 r.k, .int .i64 r.v, .int .i64 r.t] 23 none := by rw [hH]; exact get_push_new
  have kH : Keep h H none_ := by rw [hH]; exact Keep.push _ _ _
  rw [← hH]
  have l1 := zz_le hr.1
  have l2 := zz_le hr.2.1
  refine SWp.drawnS none_ [] (.q 0 (.q 1 (.c 2 (.q 3 (.q 4 (.c 5 (.q 6 (.q 7 (.c 8 (.q 9 .done)))))))))) (by kernel_rfl) (by kernel_rfl) (by kernel_rfl) ?_
  simp only [siI_q, sqI_some, mOk_none', implies_true, qI_nil, qI_cons, thenQ_some, q_load, q_fieldAddr, goI_mk, eval_tmp, put_some, enterF_succ, aField_eq, fieldGo_ptr, aLoad_eq, loadGo_one, aPlace_ptr, dropC_cells, List.getElem?_cons_zero, List.getElem?_cons_succ, Nat.reduceEqDiff, Nat.reduceAdd, Nat.add_zero, Nat.zero_add, Nat.zero_le, List.length_cons, List.length_nil, List.drop_zero, true_and, if_true, if_false, ft_23_0, lt_2, hg]
  refine siI_c rfl rfl rfl (fun h' hk => rInt .snil [] r.k h' (Rd.snil _) (by simp) hr.1.1 hr.1.2) ?_
  simp only [siI_q, sqI_some, mOk_none', implies_true, qI_nil, qI_cons, thenQ_some, q_load, q_fieldAddr, goI_mk, eval_tmp, put_some, enterF_succ, aField_eq, fieldGo_ptr, aLoad_eq, loadGo_one, aPlace_ptr, dropC_cells, List.getElem?_cons_zero, List.getElem?_cons_succ, Nat.reduceEqDiff, Nat.reduceAdd, Nat.reduceLeDiff, Nat.zero_add, List.length_cons, List.length_nil, List.drop_zero, List.drop_succ_cons, List.nil_append, true_and, if_true, if_false, ft_23_1, lt_2, hg]
  refine siI_c rfl rfl rfl (fun h' hk => rInt _ _ r.v h' (Rd.imm h' _) (by simp; omega) hr.2.1.1 hr.2.1.2) ?_
  simp only [siI_q, sqI_some, mOk_none', implies_true, qI_nil, qI_cons, thenQ_some, q_load, q_fieldAddr, goI_mk, eval_tmp, put_some, enterF_succ, aField_eq, fieldGo_ptr, aLoad_eq, loadGo_one, aPlace_ptr, dropC_cells, List.getElem?_cons_zero, List.getElem?_cons_succ, Nat.reduceEqDiff, Nat.reduceAdd, Nat.reduceLeDiff, Nat.zero_add, List.length_cons, List.length_nil, List.drop_zero, List.drop_succ_cons, true_and, if_true, if_false, ft_23_2, lt_2, hg]
  refine siI_c rfl rfl rfl (fun h' hk => rInt _ _ r.t h' (Rd.imm h' _) (by simp; omega) hr.2.2.1 hr.2.2.2) ?_
  simp only [siI_done, siI_q, sqI_some, mOk_none', implies_true, qI_nil, qI_cons, q_assign, wpA_ret, seqQ_normal, endI_mk, goI_out, goI_mk, eval_tmp, put_some, enterF_succ, List.getElem?_cons_zero, List.getElem?_cons_succ, Nat.reduceEqDiff, true_and, if_true, if_false, retA_ret, Tryd.results13, resultsA_1]
  refine hid_mk ⟨?_, kH⟩
  rw [encR_eq]
  simp only [List.append_assoc]
/-- What is left of the bytes behind three numbers. -/
def threeR (bs : List Nat) : List Nat := if (nums 3 bs []).2.2 = 0 then (nums 3 bs []).2.1 else bs
def threeV (bs : List Nat) : V := .tuple [.agg (rcdE (recQ (nums 3 bs []))), .imm (threeR bs).length (bytesV (threeR bs)), .int .i64 ((nums 3 bs []).2.2 : Nat)]
theorem three_1 {bs : List Nat} (h : (dec bs 0 0).2.2 ≠ 0) : nums 3 bs [] = ([], [], (dec bs 0 0).2.2) := nums_err h
set_option maxHeartbeats 2000000 in
set_option maxRecDepth 10000 in
theorem rThree (bs : List Nat) (h : AHeap) (hb : ∀ b ∈ bs, b < 256) (hc : bs.length ≤ 2 ^ 47) : Pure Tryd.prog 25 [.imm bs.length (bytesV bs)] h (threeV bs) := by
  refine Pure.val (Clo.tuple (CloL.cons (Clo.agg (rcdE_clo _)) (CloL.cons (Clo.imm (bytesV_clo _)) (CloL.cons (Clo.int _ _) CloL.nil)))) ?_
  refine SCalls.enterI (c := _) Tryd.func25 rfl (by kernel_rfl) (by simp) ?_
  simp only [wpA_region, wpA_seq, seqQ_normal, goI_out, goI_ops, opsA_nil, opsA_cons, stepA_move, stepA_assign, stepA_alloc, stepA_call, thenH_some, eval_tmp, eval_const, put_some, enterF_zero, enterF_succ, absV_int, absV_snil, aAlloc_eq, Nat.reduceEqDiff, reduceCtorEq, List.map_cons, List.map_nil, Option.map_some, if_true, if_false, zc_23]
  refine callI_pure cal35 (ReadUint bs _ hb hc) ?_
  rw [gotC_eq]
  generalize hd : dec bs 0 0 = d1
  have nz : ∀ n : Nat, (((n : Nat) : Int) != 0) = !decide (n = 0) := fun n => by rw [Bool.eq_iff_iff]; simp
  by_cases e1 : d1.2.2 = 0
  rotate_left
  · have hn := three_1 (bs := bs) (by rw [hd]; exact e1)
    simp only [wpA_region, wpA_seq, wpA_cond, wpA_draw, condI_true, seqQ_normal, goI_out, goI_ops, opsA_nil, opsA_cons, stepA_alloc, stepA_load, stepA_store, stepA_binOp, stepA_fieldAddr, thenV_some, thenH_some, thenS_some, eval_tmp, eval_const, put_some, put_none, enterF_succ, aBin_neq, absV_int, cells_agg, one_int, one_imm, all_nil, all_cons, aField_eq, fieldGo_ptr, aLoad_eq, loadGo_one, aPlace_ptr, dropC_cells, aStore_eq, storeGo_ptr, setC_row, setAll_nil, setAll_cons, aAlloc_eq, push_n, get_push2, set_push2, decide_false, Nat.reduceEqDiff, Nat.reduceAdd, Nat.reduceLeDiff, Option.map_some, Nat.zero_add, List.length_cons, List.length_nil, List.drop_zero, List.drop_succ_cons, List.set_cons_zero, List.set_cons_succ, if_true, if_false, Bool.and_self, Bool.not_false, Nat.le_refl, ft_69_2, lt_3, zc_69, zt_69, nz, e1]
    refine SWp.drawnS (fun x => x = h.n) [4] (.q 0 (.q 1 (.q 2 (.q 3 (.e 4 (.q 5 (.q 6 .done)) .stop))))) (by kernel_rfl) (by kernel_rfl) (by kernel_rfl) ?_
    simp only [mOk_move, mOk_assign, mOk_build, mOk_fieldAddr, mOk_load, mOkV_ptr, Nat.add_eq_left, nne2, nne3, nne4, nne1', nne2', nne3', not_false_eq_true, siI_done, siI_stop, siI_q, siI_e, sqI_some, seI_some, keepT0, implies_true, qI_nil, qI_cons, thenQ_some, q_move, q_assign, q_load, q_build, q_fieldAddr, wpA_ret, seqQ_normal, seqQ_ret, endI_mk, goI_out, goI_ops, goI_mk, opsA_nil, opsA_cons, stepA_store, thenS_some, eval_tmp, put_some, put_none, enterF_zero, enterF_succ, cells_agg, one_int, all_nil, all_cons, aField_eq, fieldGo_ptr, aLoad_eq, loadGo_one, loadGo_row, aPlace_ptr, dropC_cells, aStore_eq, storeGo_ptr, setC_row, setAll_nil, setAll_cons, aBuild_go, aFill_nil, buildGo_struct, get_push2, get_push2', set_push2', List.getElem?_cons_zero, List.getElem?_cons_succ, Bool.false_eq_true, Nat.reduceEqDiff, Nat.reduceAdd, Nat.reduceLeDiff, reduceCtorEq, List.map_nil, Option.map_some, Nat.zero_add, Nat.zero_le, List.length_cons, List.length_nil, List.drop_zero, List.drop_succ_cons, List.take_succ_cons, List.take_nil, List.set_cons_zero, List.set_cons_succ, and_true, true_and, if_true, if_false, Bool.and_self, Nat.le_refl, ft_69_2, lt_23, lt_3, pl_23, zc_23, zt_23, retA_ret, Tryd.results25, resultsC_3, resultA_tmp, resultA_cell, res3_some]
    exact hid_mk ⟨by rw [threeV, threeR, hn, hd, recQ, if_neg (by simpa using e1), if_neg (by simpa using e1)]; rfl, (Keep.push _ _ _).then_push _⟩
  have n1 : nums 3 bs [] = nums 2 (bs.drop d1.2.1) [d1.1] := by rw [← hd]; exact nums_ok (by rw [hd]; exact e1)
  simp only [wpA_skip, wpA_region, wpA_seq, wpA_cond, condI_false, seqQ_normal, goI_out, goI_ops, opsA_nil, opsA_cons, stepA_alloc, stepA_load, stepA_store, stepA_binOp, stepA_fieldAddr, stepA_call, thenV_some, thenH_some, thenS_some, eval_tmp, eval_const, put_some, put_none, enterF_succ, aBin_neq, absV_int, cells_agg, one_int, one_imm, all_nil, all_cons, aField_eq, fieldGo_ptr, aLoad_eq, loadGo_one, aPlace_ptr, dropC_cells, aStore_eq, storeGo_ptr, setC_row, setAll_nil, setAll_cons, aAlloc_eq, push_n, get_push2, set_push2, decide_true, Nat.reduceEqDiff, Nat.reduceAdd, Nat.reduceLeDiff, List.map_cons, List.map_nil, Option.map_some, Nat.zero_add, List.length_cons, List.length_nil, List.drop_zero, List.drop_succ_cons, List.set_cons_zero, List.set_cons_succ, if_true, if_false, Bool.and_self, Bool.not_true, Nat.le_refl, ft_69_1, ft_69_2, lt_24, lt_3, zc_69, zt_69, nz, e1]
  refine callI_pure cal35 (ReadUint (bs.drop d1.2.1) _ (mem_drop hb _) (by simp; omega)) ?_
  rw [gotC_eq]
  generalize hd2 : dec (bs.drop d1.2.1) 0 0 = d2
  by_cases e2 : d2.2.2 = 0
  rotate_left
  · have hn : nums 3 bs [] = ([], [], d2.2.2) := by rw [n1, ← hd2]; exact nums_err (by rw [hd2]; exact e2)
    simp only [wpA_region, wpA_seq, wpA_cond, wpA_draw, condI_true, seqQ_normal, goI_out, goI_ops, opsA_nil, opsA_cons, stepA_alloc, stepA_load, stepA_store, stepA_binOp, stepA_fieldAddr, thenV_some, thenH_some, thenS_some, eval_tmp, eval_const, put_some, put_none, enterF_succ, aBin_neq, absV_int, cells_agg, one_int, one_imm, all_nil, all_cons, aField_eq, fieldGo_ptr, aLoad_eq, loadGo_one, aPlace_ptr, dropC_cells, aStore_eq, storeGo_ptr, setC_row, setAll_nil, setAll_cons, aAlloc_eq, push_n, get_push3c, set_push3c, decide_false, Nat.reduceEqDiff, Nat.reduceAdd, Nat.reduceLeDiff, Option.map_some, Nat.zero_add, List.length_cons, List.length_nil, List.drop_zero, List.drop_succ_cons, List.set_cons_zero, List.set_cons_succ, if_true, if_false, Bool.and_self, Bool.not_false, Nat.le_refl, ft_69_2, lt_3, zc_69, zt_69, nz, e2]
    refine SWp.drawnS (fun x => x = h.n) [4] (.q 0 (.q 1 (.q 2 (.q 3 (.e 4 (.q 5 (.q 6 .done)) .stop))))) (by kernel_rfl) (by kernel_rfl) (by kernel_rfl) ?_
    simp only [mOk_move, mOk_assign, mOk_build, mOk_fieldAddr, mOk_load, mOkV_ptr, nne2, nne3, nne4, nne1', nne2', nne3', not_false_eq_true, siI_done, siI_stop, siI_q, siI_e, sqI_some, seI_some, keepT0, implies_true, qI_nil, qI_cons, thenQ_some, q_move, q_assign, q_load, q_build, q_fieldAddr, wpA_ret, seqQ_normal, seqQ_ret, endI_mk, goI_out, goI_ops, goI_mk, opsA_nil, opsA_cons, stepA_store, thenS_some, eval_tmp, put_some, put_none, enterF_zero, enterF_succ, cells_agg, one_int, all_nil, all_cons, aField_eq, fieldGo_ptr, aLoad_eq, loadGo_one, loadGo_row, aPlace_ptr, dropC_cells, aStore_eq, storeGo_ptr, setC_row, setAll_nil, setAll_cons, aBuild_go, aFill_nil, buildGo_struct, get_push3a, get_push3c, set_push3a, List.getElem?_cons_zero, List.getElem?_cons_succ, Bool.false_eq_true, Nat.reduceEqDiff, Nat.reduceAdd, Nat.reduceLeDiff, reduceCtorEq, List.map_nil, Option.map_some, Nat.zero_add, Nat.zero_le, List.length_cons, List.length_nil, List.drop_zero, List.drop_succ_cons, List.take_succ_cons, List.take_nil, List.set_cons_zero, List.set_cons_succ, and_true, true_and, if_true, if_false, Bool.and_self, Nat.le_refl, ft_69_2, lt_23, lt_3, pl_23, zc_23, zt_23, retA_ret, Tryd.results25, resultsC_3, resultA_tmp, resultA_cell, res3_some]
    exact hid_mk ⟨by rw [threeV, threeR, hn, recQ, if_neg e2, if_neg e2]; rfl, ((Keep.push _ _ _).then_push _).then_push _⟩
  have n2 : nums 3 bs [] = nums 1 ((bs.drop d1.2.1).drop d2.2.1) [d1.1, d2.1] := by rw [n1, ← hd2]; exact nums_ok (by rw [hd2]; exact e2)
  simp only [wpA_skip, wpA_region, wpA_seq, wpA_cond, condI_false, seqQ_normal, goI_out, goI_ops, opsA_nil, opsA_cons, stepA_alloc, stepA_load, stepA_store, stepA_binOp, stepA_fieldAddr, stepA_call, thenV_some, thenH_some, thenS_some, eval_tmp, eval_const, put_some, put_none, enterF_succ, aBin_neq, absV_int, cells_agg, one_int, one_imm, all_nil, all_cons, aField_eq, fieldGo_ptr, aLoad_eq, loadGo_one, aPlace_ptr, dropC_cells, aStore_eq, storeGo_ptr, setC_row, setAll_nil, setAll_cons, aAlloc_eq, push_n, get_push3c, set_push3c, decide_true, Nat.reduceEqDiff, Nat.reduceAdd, Nat.reduceLeDiff, List.map_cons, List.map_nil, Option.map_some, Nat.zero_add, List.length_cons, List.length_nil, List.drop_zero, List.drop_succ_cons, List.set_cons_zero, List.set_cons_succ, if_true, if_false, Bool.and_self, Bool.not_true, Nat.le_refl, ft_69_1, ft_69_2, lt_24, lt_3, zc_69, zt_69, nz, e2]
  refine callI_pure cal35 (ReadUint ((bs.drop d1.2.1).drop d2.2.1) _ (mem_drop (mem_drop hb _) _) (by simp; omega)) ?_
  rw [gotC_eq]
  generalize hd3 : dec ((bs.drop d1.2.1).drop d2.2.1) 0 0 = d3
  by_cases e3 : d3.2.2 = 0
  rotate_left
  · have hn : nums 3 bs [] = ([], [], d3.2.2) := by rw [n2, ← hd3]; exact nums_err (by rw [hd3]; exact e3)
    simp only [wpA_region, wpA_seq, wpA_cond, wpA_draw, condI_true, seqQ_normal, goI_out, goI_ops, opsA_nil, opsA_cons, stepA_alloc, stepA_load, stepA_store, stepA_binOp, stepA_fieldAddr, thenV_some, thenH_some, thenS_some, eval_tmp, eval_const, put_some, put_none, enterF_succ, aBin_neq, absV_int, cells_agg, one_int, one_imm, all_nil, all_cons, aField_eq, fieldGo_ptr, aLoad_eq, loadGo_one, aPlace_ptr, dropC_cells, aStore_eq, storeGo_ptr, setC_row, setAll_nil, setAll_cons, aAlloc_eq, push_n, get_push4d, set_push4d, decide_false, Nat.reduceEqDiff, Nat.reduceAdd, Nat.reduceLeDiff, Option.map_some, Nat.zero_add, List.length_cons, List.length_nil, List.drop_zero, List.drop_succ_cons, List.set_cons_zero, List.set_cons_succ, if_true, if_false, Bool.and_self, Bool.not_false, Nat.le_refl, ft_69_2, lt_3, zc_69, zt_69, nz, e3]
    refine SWp.drawnS (fun x => x = h.n) [4] (.q 0 (.q 1 (.q 2 (.q 3 (.e 4 (.q 5 (.q 6 .done)) .stop))))) (by kernel_rfl) (by kernel_rfl) (by kernel_rfl) ?_
    simp only [mOk_move, mOk_assign, mOk_build, mOk_fieldAddr, mOk_load, mOkV_ptr, nne2, nne3, nne4, nne1', nne2', nne3', not_false_eq_true, siI_done, siI_stop, siI_q, siI_e, sqI_some, seI_some, keepT0, implies_true, qI_nil, qI_cons, thenQ_some, q_move, q_assign, q_load, q_build, q_fieldAddr, wpA_ret, seqQ_normal, seqQ_ret, endI_mk, goI_out, goI_ops, goI_mk, opsA_nil, opsA_cons, stepA_store, thenS_some, eval_tmp, put_some, put_none, enterF_zero, enterF_succ, cells_agg, one_int, all_nil, all_cons, aField_eq, fieldGo_ptr, aLoad_eq, loadGo_one, loadGo_row, aPlace_ptr, dropC_cells, aStore_eq, storeGo_ptr, setC_row, setAll_nil, setAll_cons, aBuild_go, aFill_nil, buildGo_struct, get_push4a, get_push4d, set_push4a, List.getElem?_cons_zero, List.getElem?_cons_succ, Bool.false_eq_true, Nat.reduceEqDiff, Nat.reduceAdd, Nat.reduceLeDiff, reduceCtorEq, List.map_nil, Option.map_some, Nat.zero_add, Nat.zero_le, List.length_cons, List.length_nil, List.drop_zero, List.drop_succ_cons, List.take_succ_cons, List.take_nil, List.set_cons_zero, List.set_cons_succ, and_true, true_and, if_true, if_false, Bool.and_self, Nat.le_refl, ft_69_2, lt_23, lt_3, pl_23, zc_23, zt_23, retA_ret, Tryd.results25, resultsC_3, resultA_tmp, resultA_cell, res3_some]
    exact hid_mk ⟨by rw [threeV, threeR, hn, recQ, if_neg e3, if_neg e3]; rfl, (((Keep.push _ _ _).then_push _).then_push _).then_push _⟩
  have n3 : nums 3 bs [] = ([d1.1, d2.1, d3.1], ((bs.drop d1.2.1).drop d2.2.1).drop d3.2.1, 0) := by rw [n2, ← hd3]; exact nums_ok (by rw [hd3]; exact e3)
  simp only [wpA_skip, wpA_region, wpA_seq, wpA_cond, wpA_draw, condI_false, seqQ_normal, goI_out, goI_ops, opsA_nil, opsA_cons, stepA_alloc, stepA_load, stepA_store, stepA_binOp, stepA_fieldAddr, thenV_some, thenH_some, thenS_some, eval_tmp, eval_const, put_some, put_none, enterF_succ, aBin_neq, absV_int, cells_agg, one_int, one_imm, all_nil, all_cons, aField_eq, fieldGo_ptr, aLoad_eq, loadGo_one, aPlace_ptr, dropC_cells, aStore_eq, storeGo_ptr, setC_row, setAll_nil, setAll_cons, aAlloc_eq, push_n, get_push4d, set_push4d, decide_true, Nat.reduceEqDiff, Nat.reduceAdd, Nat.reduceLeDiff, Option.map_some, Nat.zero_add, List.length_cons, List.length_nil, List.drop_zero, List.drop_succ_cons, List.set_cons_zero, List.set_cons_succ, if_true, if_false, Bool.and_self, Bool.not_true, Nat.le_refl, ft_69_2, lt_3, zc_69, zt_69, nz, e3]
  refine SWp.drawnS (fun x => x = h.n) [12] (.q 0 (.q 1 (.c 2 (.q 3 (.q 4 (.c 5 (.q 6 (.q 7 (.c 8 (.q 9 (.q 10 (.q 11 (.e 12 (.q 13 (.q 14 .done)) .stop))))))))))))) (by kernel_rfl) (by kernel_rfl) (by kernel_rfl) ?_
  simp only [mOk_fieldAddr, mOk_load, mOkV_ptr, Nat.add_eq_left, nne2, nne3, nne1', nne2', nne3', not_false_eq_true, siI_q, sqI_some, implies_true, qI_nil, qI_cons, thenQ_some, q_load, q_fieldAddr, goI_mk, eval_tmp, put_some, put_none, enterF_succ, aField_eq, fieldGo_ptr, aLoad_eq, loadGo_one, aPlace_ptr, dropC_cells, get_push4b, List.getElem?_cons_zero, List.getElem?_cons_succ, Nat.reduceEqDiff, Nat.reduceAdd, reduceCtorEq, Nat.add_zero, Nat.zero_add, Nat.zero_le, List.length_cons, List.length_nil, List.drop_zero, true_and, if_true, if_false, ft_69_0, lt_63]
  trace_state
  have q1 : d1.1 < 2 ^ 64 := by rw [← hd]; exact dec_lt bs 0 0 (by omega) (by decide) hb
  have q2 : d2.1 < 2 ^ 64 := by rw [← hd2]; exact dec_lt _ 0 0 (by omega) (by decide) (mem_drop hb _)
  have q3 : d3.1 < 2 ^ 64 := by rw [← hd3]; exact dec_lt _ 0 0 (by omega) (by decide) (mem_drop (mem_drop hb _) _)
  refine siI_c rfl rfl rfl (fun h' _ => signed d1.1 h' q1) ?_
  simp only [mOk_fieldAddr, mOk_load, mOkV_ptr, nne2, nne3, nne4, nne1', nne2', nne3', not_false_eq_true, siI_q, sqI_some, implies_true, qI_nil, qI_cons, thenQ_some, q_load, q_fieldAddr, goI_mk, eval_tmp, put_some, put_none, enterF_succ, aField_eq, fieldGo_ptr, aLoad_eq, loadGo_one, aPlace_ptr, dropC_cells, get_push4c, List.getElem?_cons_zero, List.getElem?_cons_succ, Nat.reduceEqDiff, Nat.reduceAdd, Nat.add_zero, Nat.zero_add, Nat.zero_le, List.length_cons, List.length_nil, List.drop_zero, true_and, if_true, if_false, ft_69_0, lt_63]
  refine siI_c rfl rfl rfl (fun h' _ => signed d2.1 h' q2) ?_
  simp only [mOk_fieldAddr, mOk_load, mOkV_ptr, nne2, nne3, nne4, nne1', nne2', nne3', not_false_eq_true, siI_q, sqI_some, implies_true, qI_nil, qI_cons, thenQ_some, q_load, q_fieldAddr, goI_mk, eval_tmp, put_some, put_none, enterF_succ, aField_eq, fieldGo_ptr, aLoad_eq, loadGo_one, aPlace_ptr, dropC_cells, get_push4d, List.getElem?_cons_zero, List.getElem?_cons_succ, Nat.reduceEqDiff, Nat.reduceAdd, Nat.add_zero, Nat.zero_add, Nat.zero_le, List.length_cons, List.length_nil, List.drop_zero, true_and, if_true, if_false, ft_69_0, lt_63]
  refine siI_c rfl rfl rfl (fun h' _ => signed d3.1 h' q3) ?_
  simp only [keepS4, mOk_assign, mOk_build, mOk_fieldAddr, mOk_load, mOkV_ptr, nne2, nne3, nne4, nne1', nne2', nne3', not_false_eq_true, siI_done, siI_stop, siI_q, siI_e, sqI_some, seI_some, implies_true, qI_nil, qI_cons, thenQ_some, q_assign, q_load, q_build, q_fieldAddr, wpA_ret, seqQ_normal, endI_mk, goI_out, goI_ops, goI_mk, opsA_nil, opsA_cons, stepA_store, thenS_some, eval_tmp, eval_const, put_some, put_none, enterF_succ, absV_int, cells_int, cells_agg, one_int, all_nil, all_cons, aField_eq, fieldGo_ptr, aLoad_eq, loadGo_one, loadGo_row, aPlace_ptr, dropC_cells, aStore_eq, storeGo_ptr, setC_row, setAll_nil, setAll_cons, aBuild_go, aFill_nil, aFill_cons, fillGo_some, buildGo_struct, get_push4a, get_push4d, set_push4a, List.getElem?_cons_zero, List.getElem?_cons_succ, Bool.false_eq_true, Nat.reduceEqDiff, Nat.reduceAdd, Nat.reduceLeDiff, List.map_cons, List.map_nil, Option.map_some, Nat.zero_add, Nat.zero_le, List.length_cons, List.length_nil, List.drop_zero, List.drop_succ_cons, List.take_succ_cons, List.take_nil, List.set_cons_zero, List.set_cons_succ, and_true, true_and, and_self, if_true, if_false, Bool.and_self, Nat.le_refl, ft_69_1, lt_23, lt_24, pl_23, zc_23, zt_23, retA_ret, Tryd.results25, resultsC_3, resultA_tmp, resultA_cell, res3_some]
  refine hid_mk ⟨by rw [threeV, threeR, n3, recQ]; simp only [if_pos, rcdOf, rcdE, List.getD_cons_zero, List.getD_cons_succ]; rfl, ?_⟩
  exact (((Keep.push _ _ _).then_push _).then_push _).then_push _
set_option maxHeartbeats 2000000 in
set_option maxRecDepth 10000 in
theorem rToRecord (bs : List Nat) (h : AHeap) (hb : ∀ b ∈ bs, b < 256) (hc : bs.length ≤ 2 ^ 47) :
    Pure Tryd.prog 11 [.imm bs.length (bytesV bs)] h (.tuple [.agg (rcdE (recD bs).1), .int .i64 ((recD bs).2 : Nat)]) := by
  refine Pure.val (Clo.tuple (CloL.cons (Clo.agg (rcdE_clo _)) (CloL.cons (Clo.int _ _) CloL.nil))) ?_
  refine SCalls.enterI (c := _) Tryd.func11 rfl (by kernel_rfl) (by simp) ?_
  simp only [wpA_region, wpA_seq, seqQ_normal, goI_out, goI_ops, opsA_nil, opsA_cons, stepA_move, stepA_assign, stepA_alloc, stepA_call, thenH_some, eval_tmp, eval_const, put_some, enterF_zero, enterF_succ, absV_int, aAlloc_eq, Nat.reduceEqDiff, reduceCtorEq, List.map_cons, List.map_nil, Option.map_some, if_true, if_false, zc_23]
  refine callI_pure cal25 (rThree bs _ hb hc) ?_
  have hR : (nums 3 bs []).2.2 = 0 → recQ (nums 3 bs []) = rcdOf (nums 3 bs []).1 := fun h => by rw [recQ, if_pos h]
  unfold threeV
  generalize hx : recQ (nums 3 bs []) = x at hR
  have hcr : (V.agg (rcdE x)).cells = some [.int .i64 x.k, .int .i64 x.v, .int .i64 x.t] := rfl
  have nz : ∀ n : Nat, (((n : Nat) : Int) != 0) = !decide (n = 0) := fun n => by rw [Bool.eq_iff_iff]; simp
  by_cases he : (nums 3 bs []).2.2 = 0
  rotate_left
  · simp only [wpA_region, wpA_seq, wpA_cond, wpA_ret, condI_true, seqQ_normal, seqQ_ret, endI_mk, goI_out, goI_ops, opsA_nil, opsA_cons, stepA_move, stepA_assign, stepA_alloc, stepA_build, stepA_store, stepA_binOp, stepA_extract, thenV_some, thenH_some, thenS_some, extV_zero, extV_succ, eval_tmp, eval_const, put_some, put_none, enterF_succ, aBin_neq, absV_int, cells_agg, one_int, all_nil, all_cons, aLoad_eq, loadGo_row, aPlace_ptr, dropC_cells, aStore_eq, storeGo_ptr, setC_row, setAll_nil, setAll_cons, aAlloc_eq, aBuild_go, aFill_nil, buildGo_struct, push_n, get_push2, get_push2', set_push2, set_push2', decide_false, Nat.reduceEqDiff, Nat.reduceAdd, List.map_nil, Option.map_some, Nat.zero_add, Nat.zero_le, List.length_cons, List.length_nil, List.drop_zero, List.take_succ_cons, List.take_nil, List.set_cons_zero, List.set_cons_succ, if_true, if_false, Bool.and_self, Bool.not_false, Nat.le_refl, lt_23, pl_23, zc_23, zt_23, hcr, nz, he, retA_ret, Tryd.results11, resultsC_2, resultA_tmp, resultA_cell, res2_some]
    exact hid_mk ⟨by rw [recD, if_pos he]; rfl, (Keep.push _ _ _).then_push _⟩
  have hD : recD bs = if timeOk x.t = false then (zR, 2) else if (nums 3 bs []).2.1 ≠ [] then (zR, 5) else (x, 0) := by
    rw [recD, if_neg (by omega), hR he]
  have hT : threeR bs = (nums 3 bs []).2.1 := by rw [threeR, if_pos he]
  rw [hD, hT]
  generalize (nums 3 bs []).2.1 = rest
  simp only [wpA_skip, wpA_region, wpA_seq, wpA_cond, condI_false, seqQ_normal, goI_out, goI_ops, opsA_nil, opsA_cons, stepA_move, stepA_assign, stepA_alloc, stepA_load, stepA_store, stepA_binOp, stepA_fieldAddr, stepA_extract, stepA_call, thenV_some, thenH_some, thenS_some, extV_zero, extV_succ, eval_tmp, eval_const, put_some, put_none, enterF_succ, aBin_neq, absV_int, one_int, all_nil, all_cons, aField_eq, fieldGo_ptr, aLoad_eq, loadGo_one, aPlace_ptr, dropC_cells, aStore_eq, storeGo_ptr, setC_row, setAll_nil, setAll_cons, aAlloc_eq, push_n, get_push2, set_push2, decide_true, Nat.reduceEqDiff, Nat.reduceAdd, Nat.reduceLeDiff, List.map_cons, List.map_nil, Option.map_some, Nat.zero_add, List.length_cons, List.length_nil, List.drop_zero, List.drop_succ_cons, List.set_cons_zero, List.set_cons_succ, if_true, if_false, Bool.and_self, Bool.not_true, Nat.le_refl, ft_23_2, lt_2, zc_23, zt_23, hcr, nz, he]
  refine callI_pure cal26 (rTime x.t _) ?_
  cases hti : timeOk x.t
  · simp only [wpA_region, wpA_seq, wpA_cond, wpA_ret, condI_true, seqQ_normal, seqQ_ret, endI_mk, goI_out, goI_ops, opsA_nil, opsA_cons, stepA_assign, stepA_build, stepA_store, stepA_unOp, thenV_some, thenS_some, eval_tmp, eval_const, put_some, put_none, enterF_succ, aUn_not, absV_int, cells_agg, one_int, all_nil, all_cons, aLoad_eq, loadGo_row, aPlace_ptr, dropC_cells, aStore_eq, storeGo_ptr, setC_row, setAll_nil, setAll_cons, aBuild_go, aFill_nil, buildGo_struct, get_push2', set_push2', Nat.reduceEqDiff, Nat.reduceAdd, List.map_nil, Option.map_some, Nat.zero_add, Nat.zero_le, List.length_cons, List.length_nil, List.drop_zero, List.take_succ_cons, List.take_nil, List.set_cons_zero, List.set_cons_succ, if_true, if_false, Bool.and_self, Bool.not_false, Nat.le_refl, lt_23, pl_23, zc_23, zt_23, retA_ret, Tryd.results11, resultsC_2, resultA_tmp, resultA_cell, res2_some]
    exact hid_mk ⟨rfl, (Keep.push _ _ _).then_push _⟩
  by_cases hre : rest = []
  · have hd : (((rest.length : Nat) : Int) != 0) = false := by rw [hre]; rfl
    simp only [wpA_skip, wpA_region, wpA_seq, wpA_cond, wpA_ret, condI_false, seqQ_normal, endI_mk, goI_out, goI_ops, opsA_nil, opsA_cons, stepA_move, stepA_assign, stepA_load, stepA_store, stepA_binOp, stepA_unOp, stepA_len, thenV_some, thenS_some, eval_tmp, eval_const, put_some, put_none, enterF_succ, aBin_neq, aUn_not, absV_int, cells_agg, one_int, all_nil, all_cons, aLoad_eq, loadGo_row, aPlace_ptr, dropC_cells, aStore_eq, storeGo_ptr, setC_row, setAll_nil, setAll_cons, aLen_imm, get_push2, get_push2', set_push2', Nat.reduceEqDiff, Nat.reduceAdd, Option.map_some, Nat.zero_add, Nat.zero_le, List.length_cons, List.length_nil, List.drop_zero, List.take_succ_cons, List.take_nil, List.set_cons_zero, List.set_cons_succ, if_true, if_false, Bool.and_self, Bool.not_true, Nat.le_refl, kt_24, lt_23, zt_23, hd, retA_ret, Tryd.results11, resultsC_2, resultA_tmp, resultA_cell, res2_some]
    exact hid_mk ⟨by simp [hre, rcdE], (Keep.push _ _ _).then_push _⟩
  · have hd : (((rest.length : Nat) : Int) != 0) = true := by
      have := List.length_pos_iff.2 hre
      simp; omega
    simp only [wpA_skip, wpA_region, wpA_seq, wpA_cond, wpA_ret, condI_true, condI_false, seqQ_normal, seqQ_ret, endI_mk, goI_out, goI_ops, opsA_nil, opsA_cons, stepA_move, stepA_assign, stepA_build, stepA_store, stepA_binOp, stepA_unOp, stepA_len, thenV_some, thenS_some, eval_tmp, eval_const, put_some, put_none, enterF_succ, aBin_neq, aUn_not, absV_int, cells_agg, one_int, all_nil, all_cons, aLoad_eq, loadGo_row, aPlace_ptr, dropC_cells, aStore_eq, storeGo_ptr, setC_row, setAll_nil, setAll_cons, aLen_imm, aBuild_go, aFill_nil, buildGo_struct, get_push2', set_push2', Nat.reduceEqDiff, Nat.reduceAdd, List.map_nil, Option.map_some, Nat.zero_add, Nat.zero_le, List.length_cons, List.length_nil, List.drop_zero, List.take_succ_cons, List.take_nil, List.set_cons_zero, List.set_cons_succ, if_true, if_false, Bool.and_self, Bool.not_true, Nat.le_refl, kt_24, lt_23, pl_23, zc_23, zt_23, hd, retA_ret, Tryd.results11, resultsC_2, resultA_tmp, resultA_cell, res2_some]
    exact hid_mk ⟨by simp [hre, rcdE, zR], (Keep.push _ _ _).then_push _⟩
set_option maxHeartbeats 2000000 in
set_option maxRecDepth 10000 in
theorem recRecords (r : Rcd) (bs : List Nat) (hr : rIn r) (hb : ∀ b ∈ bs, b < 256) (hc : bs.length ≤ 2 ^ 47) (h : AHeap) (hu : KU h) :
    SCalls Tryd.prog 3 [.agg (rcdE r), .imm bs.length (bytesV bs)] h (fun v h' => v = .bool true) := by
  refine SCalls.enterI (c := _) Tryd.func3 rfl (by kernel_rfl) (by simp) ?_
  have hcr : ∀ q : Rcd, (V.agg (rcdE q)).cells = some [.int .i64 q.k, .int .i64 q.v, .int .i64 q.t] := fun _ => rfl
  simp only [wpA_region, wpA_seq, seqQ_normal, goI_out, goI_ops, opsA_nil, opsA_cons, stepA_assign, stepA_box, stepA_call, thenH_some, eval_tmp, eval_const, enterF_zero, absV_bool, aBox_eq, List.map_nil, Option.map_some, hcr]
  refine callI_pure cal9 (pShown3 _ (by unfold KU; simp only [push_glob]; exact hu)) ?_
  simp only [wpA_region, wpA_seq, seqQ_normal, goI_out, goI_ops, opsA_nil, opsA_cons, stepA_move, stepA_assign, stepA_call, eval_tmp, put_some, enterF_zero, enterF_succ, Nat.reduceEqDiff, List.map_cons, List.map_nil, if_true, if_false]
  refine callI_pure cal10 (pToRecord _ bs _ (Rd.imm _ bs) hb hc) ?_
  simp only [wpA_region, wpA_seq, seqQ_normal, goI_out, goI_ops, opsA_nil, opsA_cons, stepA_move, stepA_assign, stepA_alloc, stepA_store, stepA_extract, stepA_call, thenV_some, thenH_some, thenS_some, extV_zero, extV_succ, eval_tmp, put_some, put_none, enterF_zero, enterF_succ, one_int, all_nil, all_cons, aStore_eq, storeGo_ptr, setC_row, setAll_nil, setAll_cons, aAlloc_eq, push_n, get_push2, set_push2, Nat.reduceEqDiff, Nat.reduceAdd, List.map_cons, List.map_nil, Option.map_some, Nat.zero_add, List.length_cons, List.length_nil, List.set_cons_zero, List.set_cons_succ, if_true, if_false, Bool.and_self, Nat.le_refl, zc_23, zt_23, hcr]
  refine callI_pure cal11 (rToRecord bs _ hb hc) ?_
  simp only [wpA_seq, wpA_draw, seqQ_normal, goI_out, goI_ops, opsA_nil, opsA_cons, stepA_move, stepA_assign, stepA_alloc, stepA_store, stepA_extract, thenV_some, thenH_some, thenS_some, extV_zero, extV_succ, eval_tmp, put_some, put_none, enterF_succ, one_int, all_nil, all_cons, aStore_eq, storeGo_ptr, setC_row, setAll_nil, setAll_cons, aAlloc_eq, push_n, get_push3c, set_push3c, Nat.reduceEqDiff, Nat.reduceAdd, Option.map_some, Nat.zero_add, List.length_cons, List.length_nil, List.set_cons_zero, List.set_cons_succ, if_true, if_false, Bool.and_self, Nat.le_refl, zc_23, zt_23, hcr]
  have hl3 : (if 3 ≤ [V.int .i64 r.k, V.int .i64 r.v, V.int .i64 r.t].length then some (V.agg (List.take 3 [V.int .i64 r.k, V.int .i64 r.v, V.int .i64 r.t])) else none) = some (.agg (rcdE r)) := rfl
  have hG : ∀ s : ByteArray, (s.toList == s.toList) = true := fun s => by simp
  have hq := rcd_eql (recD bs).1 (recD bs).1 (xo := .tmp 32) (yo := .tmp 33)
  have hgo : ∀ n : Int, (n == n) = true := fun n => by simp
  rw [decide_eq_true rfl] at hq
  refine SWp.drawnS none_ [] (.q 0 (.q 1 (.q 2 (.c 3 (.q 4 (.q 5 (.c 6 (.q 7 (.q 8 (.q 9 (.q 10 (.q 11 (.q 12 (.q 13 (.q 14 (.q 15 (.q 16 (.q 17 (.q 18 (.q 19 (.q 20 .done))))))))))))))))))))) (by kernel_rfl) (by kernel_rfl) (by kernel_rfl) ?_
  simp only [siI_q, sqI_some, mOk_none', implies_true, qI_nil, qI_cons, qI_guard, qgI_same, thenQ_some, q_move, q_load, goI_mk, slotAt_zero, slotAt_succ, eval_tmp, put_some, put_none, enterF_succ, aLoad_eq, loadGo_row, aPlace_ptr, dropC_cells, get_push3a, List.getElem?_cons_zero, List.getElem?_cons_succ, Nat.reduceEqDiff, Nat.reduceAdd, Nat.zero_add, Nat.zero_le, List.length_cons, List.length_nil, List.drop_zero, List.take_succ_cons, List.take_nil, true_and, if_true, if_false, Nat.le_refl, lt_23]
  refine siI_c rfl rfl rfl (fun h' _ => pRecord r h' hr) ?_
  simp only [siI_q, sqI_some, mOk_none', implies_true, qI_nil, qI_guard, qgI_same, thenQ_some, q_load, q_convert, goI_mk, slotAt_zero, slotAt_succ, eval_tmp, put_some, put_none, enterF_succ, aLoad_eq, loadGo_row, aPlace_ptr, dropC_cells, get_push3a, List.getElem?_cons_zero, List.getElem?_cons_succ, Nat.reduceEqDiff, Nat.reduceAdd, Nat.zero_add, Nat.zero_le, List.length_cons, List.length_nil, List.drop_zero, List.take_succ_cons, List.take_nil, true_and, if_true, if_false, Nat.le_refl, lt_23, convB]
  refine siI_c rfl rfl rfl (fun h' _ => rRecord r h' hr) ?_
  simp only [siI_done, siI_q, sqI_some, mOk_none', implies_true, qI_nil, qI_cons, qI_guard, qgI_same, thenQ_some, q_move, q_assign, q_pick, q_load, q_binOp, q_convert, wpA_ret, seqQ_normal, endI_mk, goI_out, goI_mk, slotAt_zero, slotAt_succ, pickV_true, eval_tmp, eval_const, put_some, put_none, enterF_succ, aBin_eql, aBin_str_eql, absV_bool, aLoad_eq, loadGo_row, aPlace_ptr, dropC_cells, get_push3b, get_push3c, List.getElem?_cons_zero, List.getElem?_cons_succ, beq_self_eq_true, Nat.reduceEqDiff, Nat.reduceAdd, Nat.zero_add, Nat.zero_le, List.length_cons, List.length_nil, List.drop_zero, List.take_succ_cons, List.take_nil, true_and, if_true, if_false, Nat.le_refl, lt_23, convB, hq, retA_ret, Tryd.results3, resultsA_1]
  exact hid_mk rfl
end Go.Proofs.YtjphnabogfiahaaDoor.Pk
