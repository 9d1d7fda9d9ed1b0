/-
  What functions of the program do, told of abstract states. Conditions: as each theorem says.
-/
import Derived.Test.YtecabknnggamhaaKvF
namespace Go.Proofs.Ytecabknnggamhaa.Pk
open Go Go.Proofs Go.Proofs.Ytecabknnggamhaa.Ab
set_option linter.unusedVariables false
set_option linter.unusedSimpArgs false

def badC (c : Chg) : Bool := c.fr != 0 || c.to != 0 || (c.del && c.val != 0)
def doL (room : Int) (l : List Pr) (c : Chg) : List Pr := if badC c then l else if c.del then rm l c.key else putL room l c.key c.val
def doE (room : Int) (l : List Pr) (c : Chg) : Int := if badC c then 5 else if c.del then delE l c.key else putE room l c.key
theorem NewOr.later {h H : AHeap} {v v' : V} (d : NewOr H v v') (hn : h.n ≤ H.n) : NewOr h v v' := by
  rcases d with d | d
  · exact .inl d
  · exact .inr fun q hq => Nat.le_trans hn (d q hq)
set_option maxHeartbeats 1000000 in
set_option maxRecDepth 10000 in
theorem kvDo (h : AHeap) (i : Nat) (v : V) (room : Int) (c : Chg) (l : List Pr) (k : IsKv h i v room l) :
    SCalls Try.prog 21 [.ptr i 0, .agg (chgE c)] h (fun r h' => ∃ v', r = .int .i64 (doE room l c) ∧ IsKv h' i v' room (doL room l c) ∧ Keep h h' (kvO i v) ∧ NewOr h v v') := by
  refine SCalls.enterI (c := _) Try.func21 rfl (by kernel_rfl) (by simp) ?_
  obtain ⟨ck, cf, ct, cv, cd⟩ := c
  have hcc : (V.agg (chgE ⟨ck, cf, ct, cv, cd⟩)).cells = some [.int .i64 ck, .int .i64 cf, .int .i64 ct, .int .i64 cv, .bool cd] := rfl
  have kH : Keep h (h.push (.cells [.int .i64 ck, .int .i64 cf, .int .i64 ct, .int .i64 cv, .bool cd] 30 none)) none_ := Keep.push _ _ _
  have kk := k.keepN kH
  have hn : h.n ≤ (h.push (.cells [.int .i64 ck, .int .i64 cf, .int .i64 ct, .int .i64 cv, .bool cd] 30 none)).n := kH.n
  have end0 : badC ⟨ck, cf, ct, cv, cd⟩ = true → ∃ v', (V.int .i64 5) = .int .i64 (doE room l ⟨ck, cf, ct, cv, cd⟩) ∧ IsKv (h.push (.cells [.int .i64 ck, .int .i64 cf, .int .i64 ct, .int .i64 cv, .bool cd] 30 none)) i v' room (doL room l ⟨ck, cf, ct, cv, cd⟩) ∧ Keep h (h.push (.cells [.int .i64 ck, .int .i64 cf, .int .i64 ct, .int .i64 cv, .bool cd] 30 none)) (kvO i v) ∧ NewOr h v v' := fun hb =>
    ⟨v, by rw [doE, hb]; rfl, by rw [doL, hb]; exact kk, kH.up, .inl rfl⟩
  cases hf : (cf != 0)
  rotate_left
  · simp only [wpA_region, wpA_seq, wpA_cond, wpA_ret, condI_true, seqQ_normal, seqQ_ret, endI_mk, goI_out, goI_ops, opsA_nil, opsA_cons, opsA_guardS, gvI_tf, gvI_u, slotAt_zero, slotAt_succ, stepA_move, stepA_assign, stepA_pick, stepA_box, stepA_load, stepA_binOp, stepA_fieldAddr, thenV_some, thenH_some, pickV_true, eval_tmp, eval_const, put_some, enterF_zero, enterF_succ, aBin_neq, absV_int, absV_bool, aField_eq, fieldGo_ptr, aLoad_eq, loadGo_one, aPlace_ptr, dropC_cells, aBox_eq, get_push_new, Nat.reduceEqDiff, Nat.reduceAdd, Nat.reduceLeDiff, Option.map_some, Nat.zero_add, List.length_cons, List.length_nil, List.drop_zero, List.drop_succ_cons, if_true, if_false, ft_30_1, lt_2, hcc, hf, retA_ret, Try.results21, resultsA_1]
    exact hid_mk (end0 (by simp [badC, hf]))
  cases ht : (ct != 0)
  rotate_left
  · simp only [wpA_region, wpA_seq, wpA_cond, wpA_ret, condI_true, seqQ_normal, seqQ_ret, endI_mk, goI_out, goI_ops, opsA_nil, opsA_cons, opsA_guardS, gvI_same, gvI_tf, gvI_u, slotAt_zero, slotAt_succ, stepA_move, stepA_assign, stepA_pick, stepA_box, stepA_load, stepA_binOp, stepA_fieldAddr, thenV_some, thenH_some, pickV_true, pickV_false, eval_tmp, eval_const, put_some, enterF_zero, enterF_succ, aBin_neq, absV_int, absV_bool, aField_eq, fieldGo_ptr, aLoad_eq, loadGo_one, aPlace_ptr, dropC_cells, aBox_eq, get_push_new, Nat.reduceEqDiff, Nat.reduceAdd, Nat.reduceLeDiff, Option.map_some, Nat.zero_add, List.length_cons, List.length_nil, List.drop_zero, List.drop_succ_cons, if_true, if_false, ft_30_1, ft_30_2, lt_2, hcc, hf, ht, retA_ret, Try.results21, resultsA_1]
    exact hid_mk (end0 (by simp [badC, hf, ht]))
  cases cd
  · have hb : badC ⟨ck, cf, ct, cv, false⟩ = false := by simp [badC, hf, ht]
    simp only [wpA_skip, wpA_region, wpA_seq, wpA_cond, condI_false, seqQ_normal, goI_out, goI_ops, opsA_nil, opsA_cons, opsA_guardS, gvI_same, gvI_ft, slotAt_zero, slotAt_succ, stepA_move, stepA_assign, stepA_pick, stepA_box, stepA_load, stepA_binOp, stepA_fieldAddr, stepA_call, thenV_some, thenH_some, pickV_false, eval_tmp, eval_const, put_some, enterF_zero, enterF_succ, aBin_neq, absV_int, absV_bool, aField_eq, fieldGo_ptr, aLoad_eq, loadGo_one, aPlace_ptr, dropC_cells, aBox_eq, get_push_new, Nat.reduceEqDiff, Nat.reduceAdd, Nat.reduceLeDiff, reduceCtorEq, List.map_cons, List.map_nil, Option.map_some, Nat.add_zero, Nat.zero_add, Nat.zero_le, List.length_cons, List.length_nil, List.drop_zero, List.drop_succ_cons, if_true, if_false, ft_30_0, ft_30_1, ft_30_2, ft_30_3, ft_30_4, lt_2, lt_4, hcc, hf, ht]
    refine callI_of cal17 (kvPut _ i v room ck cv l kk) fun r h2 ⟨v', e2, k2, kp, d2⟩ => ?_
    subst e2
    simp only [wpA_region, wpA_seq, wpA_ret, seqQ_normal, endI_mk, goI_out, goI_ops, opsA_nil, opsA_cons, stepA_move, stepA_assign, stepA_extract, thenV_some, extV_zero, extV_succ, eval_tmp, put_some, enterF_succ, Nat.reduceEqDiff, if_true, if_false, retA_ret, Try.results21, resultsA_1]
    refine hid_mk ⟨v', by rw [doE, hb]; rfl, by rw [doL, hb]; exact k2, (kH.up).trans' kp, NewOr.later d2 hn⟩
  cases hv : (cv != 0)
  rotate_left
  · simp only [wpA_region, wpA_seq, wpA_cond, wpA_ret, condI_true, seqQ_normal, seqQ_ret, endI_mk, goI_out, goI_ops, opsA_nil, opsA_cons, opsA_guardS, gvI_same, slotAt_zero, slotAt_succ, stepA_move, stepA_assign, stepA_pick, stepA_box, stepA_load, stepA_binOp, stepA_fieldAddr, thenV_some, thenH_some, pickV_true, pickV_false, eval_tmp, eval_const, put_some, enterF_zero, enterF_succ, aBin_neq, absV_int, absV_bool, aField_eq, fieldGo_ptr, aLoad_eq, loadGo_one, aPlace_ptr, dropC_cells, aBox_eq, get_push_new, Nat.reduceEqDiff, Nat.reduceAdd, Nat.reduceLeDiff, Option.map_some, Nat.zero_add, List.length_cons, List.length_nil, List.drop_zero, List.drop_succ_cons, if_true, if_false, ft_30_1, ft_30_2, ft_30_3, ft_30_4, lt_2, lt_4, hcc, hf, ht, hv, retA_ret, Try.results21, resultsA_1]
    exact hid_mk (end0 (by simp [badC, hf, ht, hv]))
  have hb : badC ⟨ck, cf, ct, cv, true⟩ = false := by simp [badC, hf, ht, hv]
  simp only [wpA_skip, wpA_region, wpA_seq, wpA_cond, condI_true, condI_false, seqQ_normal, goI_out, goI_ops, opsA_nil, opsA_cons, opsA_guardS, gvI_same, slotAt_zero, slotAt_succ, stepA_move, stepA_assign, stepA_pick, stepA_box, stepA_load, stepA_binOp, stepA_fieldAddr, stepA_call, thenV_some, thenH_some, pickV_true, pickV_false, eval_tmp, eval_const, put_some, enterF_zero, enterF_succ, aBin_neq, absV_int, absV_bool, aField_eq, fieldGo_ptr, aLoad_eq, loadGo_one, aPlace_ptr, dropC_cells, aBox_eq, get_push_new, Nat.reduceEqDiff, Nat.reduceAdd, Nat.reduceLeDiff, reduceCtorEq, List.map_cons, List.map_nil, Option.map_some, Nat.add_zero, Nat.zero_add, Nat.zero_le, List.length_cons, List.length_nil, List.drop_zero, List.drop_succ_cons, if_true, if_false, ft_30_0, ft_30_1, ft_30_2, ft_30_3, ft_30_4, lt_2, lt_4, hcc, hf, ht, hv]
  refine callI_of cal20 (kvDel _ i v room ck l kk) fun r h2 ⟨v', e2, k2, kp, d2⟩ => ?_
  subst e2
  simp only [wpA_region, wpA_seq, wpA_ret, seqQ_normal, endI_mk, goI_out, goI_ops, opsA_nil, opsA_cons, stepA_move, stepA_assign, stepA_extract, thenV_some, extV_zero, extV_succ, eval_tmp, put_some, enterF_succ, Nat.reduceEqDiff, if_true, if_false, retA_ret, Try.results21, resultsA_1]
  refine hid_mk ⟨v', by rw [doE, hb]; rfl, by rw [doL, hb]; exact k2, (kH.up).trans' kp, NewOr.later d2 hn⟩
/-! ### New -/
theorem kvNew (h : AHeap) (room : Int) (h1 : 1 ≤ room) (h2 : room ≤ 1024) : SCalls Try.prog 16 [.int .i64 room] h (fun r h' => r = .tuple [.ptr h.n 0, .int .i64 0] ∧ IsKv h' h.n .snil room [] ∧ Keep h h' none_) := by
  refine SCalls.enterI (c := _) Try.func16 rfl (by kernel_rfl) (by simp) ?_
  have d1 : decide (room < 1) = false := decide_eq_false (by omega)
  have d2 : decide (1024 < room) = false := decide_eq_false (by omega)
  simp only [wpA_skip, wpA_region, wpA_seq, wpA_cond, wpA_ret, condI_false, seqQ_normal, endI_mk, goI_out, goI_ops, opsA_nil, opsA_cons, opsA_guardS, gvI_same, slotAt_zero, slotAt_succ, stepA_move, stepA_assign, stepA_pick, stepA_box, stepA_build, stepA_binOp, thenV_some, thenH_some, pickV_false, eval_tmp, eval_const, put_some, enterF_zero, enterF_succ, aBin_lss, aBin_gtr, absV_int, absV_bool, absV_pnil, cells_int, cells_agg, setAll_nil, setAll_cons, aBox_eq, aBuild_go, aFill_nil, aFill_cons, fillGo_some, buildGo_struct, List.getElem?_cons_zero, Nat.reduceEqDiff, Nat.reduceAdd, Nat.reduceLeDiff, reduceCtorEq, List.map_cons, List.map_nil, Option.map_some, Nat.zero_add, List.length_cons, List.length_nil, List.set_cons_zero, and_self, if_true, if_false, pl_89, zc_89, d1, d2, retA_ret, Try.results16, resultsA_2]
  exact hid_mk ⟨rfl, ⟨by rw [push_n]; omega, get_push_new, .inl ⟨.inl rfl, rfl⟩, by simp [idOf], List.Pairwise.nil, by simp; omega, h2⟩, Keep.push _ _ _⟩
theorem kvNewBad (h : AHeap) (room : Int) (hb : room < 1 ∨ 1024 < room) : Pure Try.prog 16 [.int .i64 room] h (.tuple [.pnil, .int .i64 1]) := by
  refine SCalls.enterI (c := _) Try.func16 rfl (by kernel_rfl) (by simp) ?_
  by_cases h1 : room < 1
  · have d1 : decide (room < 1) = true := decide_eq_true h1
    simp only [wpA_region, wpA_seq, wpA_cond, wpA_ret, condI_true, seqQ_normal, seqQ_ret, endI_mk, goI_out, goI_ops, opsA_nil, opsA_cons, opsA_guardS, gvI_tf, slotAt_zero, slotAt_succ, stepA_move, stepA_assign, stepA_pick, stepA_binOp, thenV_some, pickV_true, eval_tmp, eval_const, put_some, enterF_zero, enterF_succ, aBin_lss, absV_int, absV_bool, absV_pnil, Nat.reduceEqDiff, reduceCtorEq, if_true, if_false, d1, retA_ret, Try.results16, resultsA_2]
    exact hid_mk ⟨rfl, rfl⟩
  · have d1 : decide (room < 1) = false := decide_eq_false h1
    have d2 : decide (1024 < room) = true := decide_eq_true (by omega)
    simp only [wpA_region, wpA_seq, wpA_cond, wpA_ret, condI_true, seqQ_normal, seqQ_ret, endI_mk, goI_out, goI_ops, opsA_nil, opsA_cons, opsA_guardS, gvI_same, slotAt_zero, slotAt_succ, stepA_move, stepA_assign, stepA_pick, stepA_binOp, thenV_some, pickV_false, eval_tmp, eval_const, put_some, enterF_zero, enterF_succ, aBin_lss, aBin_gtr, absV_int, absV_bool, absV_pnil, Nat.reduceEqDiff, reduceCtorEq, if_true, if_false, d1, d2, retA_ret, Try.results16, resultsA_2]
    exact hid_mk ⟨rfl, rfl⟩
/-! ### A store that is nil -/
theorem kvGetNil (h : AHeap) (key : Int) : Pure Try.prog 23 [.pnil, .int .i64 key] h (.tuple [.int .i64 0, .bool false]) := by
  refine SCalls.enterI (c := _) Try.func23 rfl (by kernel_rfl) (by simp) ?_
  simp only [wpA_region, wpA_seq, seqQ_normal, goI_out, goI_ops, opsA_nil, opsA_cons, stepA_move, stepA_assign, stepA_call, eval_tmp, eval_const, put_some, enterF_zero, enterF_succ, absV_int, absV_bool, Nat.reduceEqDiff, reduceCtorEq, List.map_cons, List.map_nil, if_true, if_false]
  refine callI_pure cal42 (pFindNil h key) ?_
  simp only [wpA_region, wpA_seq, wpA_cond, wpA_ret, condI_true, seqQ_normal, seqQ_ret, endI_mk, goI_out, goI_ops, opsA_nil, opsA_cons, stepA_move, stepA_assign, stepA_unOp, stepA_extract, thenV_some, extV_zero, extV_succ, eval_tmp, eval_const, put_some, enterF_succ, aUn_not, absV_int, absV_bool, Nat.reduceEqDiff, if_true, if_false, Bool.not_false, retA_ret, Try.results23, resultsA_2]
  exact hid_mk ⟨rfl, rfl⟩
set_option maxRecDepth 10000 in
theorem kvPutNil (h : AHeap) (key val : Int) : Pure Try.prog 17 [.pnil, .int .i64 key, .int .i64 val] h (.tuple [.agg (chgE zC), .int .i64 3]) := by
  refine Pure.val (Clo.tuple (CloL.cons (Clo.agg (chgE_clo _)) (CloL.cons (Clo.int _ _) CloL.nil))) ?_
  refine SCalls.enterI (c := _) Try.func17 rfl (by kernel_rfl) (by simp) ?_
  simp only [wpA_region, wpA_seq, seqQ_normal, goI_out, goI_ops, opsA_nil, opsA_cons, stepA_move, stepA_assign, stepA_alloc, stepA_build, stepA_store, stepA_call, thenV_some, thenH_some, thenS_some, eval_tmp, eval_const, put_some, put_none, enterF_zero, enterF_succ, absV_int, cells_int, cells_agg, one_int, all_nil, all_cons, aStore_eq, storeGo_ptr, setC_row, setAll_nil, setAll_cons, aAlloc_eq, aBuild_go, aFill_nil, aFill_cons, fillGo_some, buildGo_struct, push_n, get_push2, set_push2, List.getElem?_cons_zero, List.getElem?_cons_succ, Nat.reduceEqDiff, Nat.reduceAdd, Nat.reduceLeDiff, reduceCtorEq, List.map_cons, List.map_nil, Option.map_some, Nat.zero_add, List.length_cons, List.length_nil, List.set_cons_zero, List.set_cons_succ, and_self, if_true, if_false, Bool.and_self, Nat.le_refl, pl_91, zc_30, zc_91, zt_91]
  refine callI_pure cal42 (pFindNil _ key) ?_
  simp only [wpA_region, wpA_seq, wpA_cond, wpA_block, wpA_draw, condI_false, seqQ_normal, goI_out, goI_ops, opsA_nil, opsA_cons, stepA_move, stepA_assign, stepA_extract, thenV_some, extV_zero, extV_succ, eval_tmp, put_some, put_none, enterF_succ, Nat.reduceEqDiff, if_true, if_false]
  refine SWp.drawnS none_ [] (.q 0 (.q 1 (.q 2 (.q 3 (.q 4 (.q 5 (.q 6 (.q 7 (.q 8 (.q 9 (.q 10 (.q 11 (.q 12 (.q 13 (.q 14 .done))))))))))))))) (by kernel_rfl) (by kernel_rfl) (by kernel_rfl) ?_
  simp only [siI_done, siI_q, sqI_some, mOk_none', implies_true, qI_nil, qI_cons, qI_guard, qgI_tf, thenQ_some, q_move, q_assign, q_pick, q_binOp, wpA_region, wpA_seq, wpA_cond, wpA_ret, condI_true, seqQ_normal, seqQ_ret, blkQ_ret, endI_mk, goI_out, goI_ops, goI_mk, opsA_nil, opsA_cons, slotAt_zero, slotAt_succ, stepA_assign, stepA_build, stepA_store, thenV_some, thenS_some, pickV_true, eval_tmp, eval_const, put_some, put_none, enterF_zero, enterF_succ, nil_nil_eql, absV_int, absV_bool, absV_pnil, cells_agg, one_int, one_bool, all_nil, all_cons, aLoad_eq, loadGo_row, aPlace_ptr, dropC_cells, aStore_eq, storeGo_ptr, setC_row, setAll_nil, setAll_cons, aBuild_go, aFill_nil, buildGo_struct, get_push2', set_push2', List.getElem?_cons_zero, List.getElem?_cons_succ, Nat.reduceEqDiff, Nat.reduceAdd, reduceCtorEq, List.map_nil, Option.map_some, Nat.zero_add, Nat.zero_le, List.length_cons, List.length_nil, List.drop_zero, List.take_succ_cons, List.take_nil, List.set_cons_zero, List.set_cons_succ, true_and, if_true, if_false, Bool.and_self, Nat.le_refl, kt_24, lt_30, pl_30, zc_30, zt_30, retA_ret, Try.results17, resultsC_2, resultA_tmp, resultA_cell, res2_some]
  exact hid_mk ⟨rfl, (Keep.push _ _ _).then_push _⟩
theorem kvDelNil (h : AHeap) (key : Int) : Pure Try.prog 20 [.pnil, .int .i64 key] h (.tuple [.agg (chgE zC), .int .i64 6]) := by
  refine Pure.val (Clo.tuple (CloL.cons (Clo.agg (chgE_clo _)) (CloL.cons (Clo.int _ _) CloL.nil))) ?_
  refine SCalls.enterI (c := _) Try.func20 rfl (by kernel_rfl) (by simp) ?_
  simp only [wpA_region, wpA_seq, seqQ_normal, goI_out, goI_ops, opsA_nil, opsA_cons, stepA_move, stepA_assign, stepA_alloc, stepA_call, thenH_some, eval_tmp, eval_const, put_some, enterF_zero, enterF_succ, absV_int, aAlloc_eq, Nat.reduceEqDiff, reduceCtorEq, List.map_cons, List.map_nil, Option.map_some, if_true, if_false, zc_30]
  refine callI_pure cal42 (pFindNil _ key) ?_
  simp only [wpA_region, wpA_seq, wpA_cond, wpA_ret, condI_true, seqQ_normal, seqQ_ret, endI_mk, goI_out, goI_ops, opsA_nil, opsA_cons, stepA_move, stepA_assign, stepA_build, stepA_store, stepA_unOp, stepA_extract, thenV_some, thenS_some, extV_zero, extV_succ, eval_tmp, eval_const, put_some, put_none, enterF_succ, aUn_not, absV_int, cells_agg, one_int, one_bool, all_nil, all_cons, aLoad_eq, loadGo_row, aPlace_ptr, dropC_cells, aStore_eq, storeGo_ptr, setC_row, setAll_nil, setAll_cons, aBuild_go, aFill_nil, buildGo_struct, get_push_new, set_push, Nat.reduceEqDiff, Nat.reduceAdd, List.map_nil, Option.map_some, Nat.zero_add, Nat.zero_le, List.length_cons, List.length_nil, List.drop_zero, List.take_succ_cons, List.take_nil, List.set_cons_zero, List.set_cons_succ, if_true, if_false, Bool.and_self, Bool.not_false, Nat.le_refl, lt_30, pl_30, zc_30, zt_30, retA_ret, Try.results20, resultsC_2, resultA_tmp, resultA_cell, res2_some]
  exact hid_mk ⟨rfl, Keep.push _ _ _⟩
theorem kvDoNil (h : AHeap) (key : Int) : Pure Try.prog 21 [.pnil, .agg [.int .i64 key, .int .i64 0, .int .i64 0, .int .i64 0, .bool false]] h (.int .i64 3) := by
  refine Pure.val (Clo.int _ _) ?_
  refine SCalls.enterI (c := _) Try.func21 rfl (by kernel_rfl) (by simp) ?_
  simp only [wpA_skip, wpA_region, wpA_seq, wpA_cond, condI_false, seqQ_normal, goI_out, goI_ops, opsA_nil, opsA_cons, opsA_guardS, gvI_same, gvI_ft, slotAt_zero, slotAt_succ, stepA_move, stepA_assign, stepA_pick, stepA_box, stepA_load, stepA_binOp, stepA_fieldAddr, stepA_call, thenV_some, thenH_some, pickV_false, eval_tmp, eval_const, put_some, enterF_zero, enterF_succ, aBin_neq, absV_int, absV_bool, cells_agg, aField_eq, fieldGo_ptr, aLoad_eq, loadGo_one, aPlace_ptr, dropC_cells, aBox_eq, get_push_new, bne_self_eq_false, Nat.reduceEqDiff, Nat.reduceAdd, Nat.reduceLeDiff, reduceCtorEq, List.map_cons, List.map_nil, Option.map_some, Nat.add_zero, Nat.zero_add, Nat.zero_le, List.length_cons, List.length_nil, List.drop_zero, List.drop_succ_cons, if_true, if_false, ft_30_0, ft_30_1, ft_30_2, ft_30_3, ft_30_4, lt_2, lt_4]
  refine callI_pure cal17 (kvPutNil _ key 0) ?_
  simp only [wpA_region, wpA_seq, wpA_ret, seqQ_normal, endI_mk, goI_out, goI_ops, opsA_nil, opsA_cons, stepA_move, stepA_assign, stepA_extract, thenV_some, extV_zero, extV_succ, eval_tmp, put_some, enterF_succ, Nat.reduceEqDiff, if_true, if_false, retA_ret, Try.results21, resultsA_1]
  exact hid_mk ⟨rfl, Keep.push _ _ _⟩
theorem kvLenNil (h : AHeap) : Pure Try.prog 22 [.pnil] h (.int .i64 0) := by
  refine SCalls.enterI (c := _) Try.func22 rfl (by kernel_rfl) (by simp) ?_
  simp only [wpA_region, wpA_seq, wpA_cond, wpA_ret, condI_true, seqQ_normal, seqQ_ret, endI_mk, goI_out, goI_ops, opsA_nil, opsA_cons, stepA_move, stepA_assign, stepA_binOp, thenV_some, eval_tmp, eval_const, put_some, enterF_zero, enterF_succ, nil_nil_eql, absV_int, absV_pnil, Nat.reduceEqDiff, reduceCtorEq, if_true, if_false, kt_24, retA_ret, Try.results22, resultsA_1]
  exact hid_mk ⟨rfl, rfl⟩
theorem kvListNil (h : AHeap) : Pure Try.prog 19 [.pnil] h .snil := by
  refine SCalls.enterI (c := _) Try.func19 rfl (by kernel_rfl) (by simp) ?_
  simp only [wpA_region, wpA_seq, wpA_cond, wpA_ret, condI_true, seqQ_normal, seqQ_ret, endI_mk, goI_out, goI_ops, opsA_nil, opsA_cons, stepA_move, stepA_assign, stepA_binOp, thenV_some, eval_tmp, eval_const, put_some, enterF_zero, enterF_succ, nil_nil_eql, absV_pnil, absV_snil, Nat.reduceEqDiff, reduceCtorEq, if_true, if_false, kt_24, retA_ret, Try.results19, resultsA_1]
  exact hid_mk ⟨rfl, rfl⟩
/-! ### The examples -/
set_option maxHeartbeats 2000000 in
set_option maxRecDepth 10000 in
theorem pShown12 (h : AHeap) : Pure Try.prog 15 [] h (.bool true) := by
  refine Pure.val (Clo.bool _) ?_
  refine SCalls.enterI (c := _) Try.func15 rfl (by kernel_rfl) (by simp) ?_
  simp only [wpA_region, wpA_seq, seqQ_normal, goI_out, goI_ops, opsA_nil, opsA_cons, stepA_assign, stepA_call, eval_const, absV_int, absV_bool, List.map_cons, List.map_nil]
  refine callI_of cal16 (kvNew h 2 (by decide) (by decide)) fun r h1 ⟨e1, k1, p1⟩ => ?_
  subst e1
  simp only [wpA_skip, wpA_region, wpA_seq, wpA_cond, condI_false, seqQ_normal, goI_out, goI_ops, opsA_nil, opsA_cons, opsA_guardS, gvI_same, slotAt_zero, slotAt_succ, stepA_move, stepA_assign, stepA_pick, stepA_binOp, stepA_extract, stepA_call, thenV_some, pickV_false, extV_zero, extV_succ, eval_tmp, eval_const, put_some, aBin_neq, ptr_nil_eql, absV_int, absV_bool, absV_pnil, bne_self_eq_false, Nat.reduceEqDiff, reduceCtorEq, List.map_cons, List.map_nil, if_true, if_false, kt_24]
  refine callI_of cal17 (kvPut h1 h.n .snil 2 2 7 [] k1) fun r h2 ⟨v2, e2, k2, p2, d2⟩ => ?_
  subst e2
  have q2 : Keep h h2 none_ := p1.trans p2 fun q hq hh => by
    rcases hh with hh | hh
    · omega
    · cases hh
  simp only [wpA_region, wpA_seq, seqQ_normal, goI_out, goI_ops, opsA_nil, opsA_cons, stepA_move, stepA_call, eval_tmp, eval_const, put_some, absV_int, Nat.reduceEqDiff, reduceCtorEq, List.map_cons, List.map_nil, if_true, if_false]
  refine callI_of cal17 (kvPut h2 h.n v2 2 1 8 _ k2) fun r h3 ⟨v3, e3, k3, p3, d3⟩ => ?_
  subst e3
  have n1 : h.n ≤ h1.n := p1.n
  have i2 : ∀ q, idOf v2 = some q → h.n ≤ q := fun q hq => by
    rcases d2 with d2 | d2
    · rw [d2] at hq; cases hq
    · exact Nat.le_trans n1 (d2 q hq)
  have q3 : Keep h h3 none_ := q2.trans p3 fun q hq hh => by
    rcases hh with hh | hh
    · omega
    · have := i2 q hh; omega
  have i3 : ∀ q, idOf v3 = some q → h.n ≤ q := fun q hq => by
    rcases d3 with d3 | d3
    · rw [d3] at hq; exact i2 q hq
    · exact Nat.le_trans q2.n (d3 q hq)
  have cc : ∀ c : Chg, (V.agg (chgE c)).cells = some (chgE c) := fun _ => rfl
  have st : ∀ c : Chg, setC (some 5) (AObj.cells [V.int .i64 0, V.int .i64 0, V.int .i64 0, V.int .i64 0, V.bool false] 30 none) 0 (chgE c) = some (.cells (chgE c) 30 none) := fun _ => rfl
  simp only [wpA_region, wpA_seq, seqQ_normal, goI_out, goI_ops, opsA_nil, opsA_cons, stepA_move, stepA_assign, stepA_alloc, stepA_store, stepA_extract, stepA_call, thenV_some, thenH_some, thenS_some, extV_zero, extV_succ, eval_tmp, eval_const, put_some, put_none, absV_int, aStore_eq, storeGo_ptr, aAlloc_eq, get_push_new, set_push, Nat.reduceEqDiff, reduceCtorEq, List.map_cons, List.map_nil, Option.map_some, if_true, if_false, zc_30, zt_30, cc, st]
  have k3' := k3.keepN (Keep.push h3 (.cells (chgE (putX 2 (putL 2 [] 2 7) 1 8)) 30 none) none_)
  refine callI_of cal17 (kvPut _ h.n v3 2 3 9 _ k3') fun r h4 ⟨v4, e4, k4, p4, d4⟩ => ?_
  subst e4
  have q4 : Keep h h4 none_ := (q3.then_push _).trans p4 fun q hq hh => by
    rcases hh with hh | hh
    · omega
    · have := i3 q hh; omega
  have i4 : ∀ q, idOf v4 = some q → h.n ≤ q := fun q hq => by
    rcases d4 with d4 | d4
    · rw [d4] at hq; exact i3 q hq
    · exact Nat.le_trans (q3.then_push _).n (d4 q hq)
  simp only [wpA_region, wpA_seq, seqQ_normal, goI_out, goI_ops, opsA_nil, opsA_cons, stepA_move, stepA_assign, stepA_alloc, stepA_store, stepA_extract, stepA_call, thenV_some, thenH_some, thenS_some, extV_zero, extV_succ, eval_tmp, eval_const, put_some, put_none, absV_int, aStore_eq, storeGo_ptr, aAlloc_eq, get_push_new, set_push, Nat.reduceEqDiff, reduceCtorEq, List.map_cons, List.map_nil, Option.map_some, if_true, if_false, zc_30, zt_30, cc, st]
  have k4' := k4.keepN (Keep.push h4 (.cells (chgE (putX 2 (putL 2 (putL 2 [] 2 7) 1 8) 3 9)) 30 none) none_)
  refine callI_of cal20 (kvDel _ h.n v4 2 2 _ k4') fun r h5 ⟨v5, e5, k5, p5, d5⟩ => ?_
  subst e5
  have q5 : Keep h h5 none_ := (q4.then_push _).trans p5 fun q hq hh => by
    rcases hh with hh | hh
    · omega
    · have := i4 q hh; omega
  have z1 : putE 2 (putL 2 [] 2 7) 1 = 0 := by decide
  have z2 : putE 2 (putL 2 (putL 2 [] 2 7) 1 8) 3 = 3 := by decide
  have z3 : delE (putL 2 (putL 2 (putL 2 [] 2 7) 1 8) 3 9) 2 = 0 := by decide
  have z4 : listC (rm (putL 2 (putL 2 (putL 2 [] 2 7) 1 8) 3 9) 2) = [⟨1, 0, 0, 8, false⟩] := by decide
  simp only [wpA_region, wpA_seq, seqQ_normal, goI_out, goI_ops, opsA_nil, opsA_cons, opsA_guardS, gvI_same, slotAt_zero, slotAt_succ, stepA_move, stepA_assign, stepA_pick, stepA_alloc, stepA_store, stepA_binOp, stepA_extract, stepA_call, thenV_some, thenH_some, thenS_some, pickV_true, extV_zero, extV_succ, eval_tmp, eval_const, put_some, put_none, aBin_eql, absV_int, absV_bool, aStore_eq, storeGo_ptr, aAlloc_eq, get_push_new, set_push, beq_self_eq_true, Nat.reduceEqDiff, reduceCtorEq, List.map_cons, List.map_nil, Option.map_some, if_true, if_false, zc_30, zt_30, cc, st, z1, z2, z3]
  have k5' := k5.keepN (Keep.push h5 (.cells (chgE (delX (putL 2 (putL 2 (putL 2 [] 2 7) 1 8) 3 9) 2)) 30 none) none_)
  refine callI_pure cal19 (kvList _ h.n v5 2 _ k5') ?_
  rw [z4]
  have hlit : ∀ H : AHeap, aBuildSlice Try.prog 34 1 [(0, .agg [.int .i64 1, .int .i64 0, .int .i64 0, .int .i64 8, .bool false])] H = some (.sl H.n 0 1 1, H.push (.cells (chgE ⟨1, 0, 0, 8, false⟩) 30 none)) := fun H => lit1c H ⟨1, 0, 0, 8, false⟩
  simp only [goI_ops, opsA_guardS, gvI_same, slotAt_zero, slotAt_succ, stepA_build, stepA_buildSlice, stepA_call, thenV_some, thenH_some, eval_tmp, eval_const, put_some, put_none, absV_int, cells_int, setAll_nil, setAll_cons, aBuild_go, aFill_nil, aFill_cons, fillGo_some, buildGo_struct, push_n, List.getElem?_cons_zero, List.getElem?_cons_succ, Nat.reduceEqDiff, Nat.reduceAdd, Nat.reduceLeDiff, reduceCtorEq, List.map_cons, List.map_nil, Option.map_some, Nat.zero_add, List.length_cons, List.length_nil, List.set_cons_zero, List.set_cons_succ, and_self, if_true, if_false, pl_30, zc_30, hlit]
  obtain ⟨hX, cX, kX⟩ := Cast.lit (h := h5.push (.cells (chgE (delX (putL 2 (putL 2 (putL 2 [] 2 7) 1 8) 3 9) 2)) 30 none)) (c := chgE ⟨1, 0, 0, 8, false⟩) (e := 30) (n := 1) (sz := 5) rfl (by decide) (by decide)
  refine callI_of cal18 (SCalls.args (CastL.cons (Cast.refl _ _) (CastL.cons cX (CastL.refl [] hX))) (pChgsEq [⟨1, 0, 0, 8, false⟩] [⟨1, 0, 0, 8, false⟩] hX (by decide))) fun r h6 ⟨e6, e6'⟩ => ?_
  subst e6 e6'
  simp only [wpA_ret, seqQ_normal, endI_mk, goI_out, goI_ops, opsA_nil, opsA_cons, stepA_assign, stepA_pick, thenV_some, pickV_true, eval_tmp, eval_const, put_some, put_none, absV_bool, decide_true, Nat.reduceEqDiff, reduceCtorEq, if_true, if_false, decide_true, retA_ret, Try.results15, resultsA_1]
  exact hid_mk ⟨rfl, (q5.then_push _).trans' kX⟩
set_option maxHeartbeats 1000000 in
set_option maxRecDepth 10000 in
theorem kvNobody (key val : Int) (h : AHeap) : SCalls Try.prog 7 [.int .i64 key, .int .i64 val] h (fun r h' => r = .bool true) := by
  refine SCalls.enterI (c := _) Try.func7 rfl (by kernel_rfl) (by simp) ?_
  simp only [wpA_region, wpA_seq, seqQ_normal, goI_out, goI_ops, opsA_nil, opsA_cons, stepA_assign, stepA_call, eval_const, absV_bool, List.map_nil]
  refine callI_pure cal15 (pShown12 h) ?_
  simp only [wpA_region, wpA_seq, seqQ_normal, goI_out, goI_ops, opsA_nil, opsA_cons, stepA_move, stepA_assign, stepA_call, eval_tmp, eval_const, put_some, enterF_zero, enterF_succ, absV_pnil, Nat.reduceEqDiff, reduceCtorEq, List.map_cons, List.map_nil, if_true, if_false]
  refine callI_pure cal23 (kvGetNil h key) ?_
  simp only [wpA_region, wpA_seq, seqQ_normal, goI_out, goI_ops, opsA_nil, opsA_cons, stepA_move, stepA_assign, stepA_extract, stepA_call, thenV_some, extV_zero, extV_succ, eval_tmp, put_some, enterF_zero, enterF_succ, Nat.reduceEqDiff, reduceCtorEq, List.map_cons, List.map_nil, if_true, if_false]
  refine callI_pure cal17 (kvPutNil h key val) ?_
  simp only [wpA_region, wpA_seq, seqQ_normal, goI_out, goI_ops, opsA_nil, opsA_cons, stepA_move, stepA_assign, stepA_alloc, stepA_store, stepA_extract, stepA_call, thenV_some, thenH_some, thenS_some, extV_zero, extV_succ, eval_tmp, put_some, put_none, enterF_zero, enterF_succ, cells_agg, one_int, one_bool, all_nil, all_cons, aStore_eq, storeGo_ptr, setC_row, setAll_nil, setAll_cons, aAlloc_eq, get_push_new, set_push, Nat.reduceEqDiff, Nat.reduceAdd, reduceCtorEq, List.map_cons, List.map_nil, Option.map_some, Nat.zero_add, List.length_cons, List.length_nil, List.set_cons_zero, List.set_cons_succ, if_true, if_false, Bool.and_self, Nat.le_refl, zc_30, zt_30, zC, chgE]
  refine callI_pure cal20 (kvDelNil _ key) ?_
  simp only [wpA_region, wpA_seq, seqQ_normal, goI_out, goI_ops, opsA_nil, opsA_cons, opsA_guardS, gvI_same, slotAt_zero, slotAt_succ, stepA_move, stepA_assign, stepA_pick, stepA_alloc, stepA_build, stepA_store, stepA_binOp, stepA_unOp, stepA_extract, stepA_call, thenV_some, thenH_some, thenS_some, pickV_true, extV_zero, extV_succ, eval_tmp, eval_const, put_some, put_none, enterF_zero, enterF_succ, aBin_eql, aUn_not, absV_int, absV_bool, cells_int, cells_agg, one_int, one_bool, all_nil, all_cons, aStore_eq, storeGo_ptr, setC_row, setAll_nil, setAll_cons, aAlloc_eq, aBuild_go, aFill_nil, aFill_cons, fillGo_some, buildGo_struct, push_n, get_push2, set_push2, List.getElem?_cons_zero, beq_self_eq_true, Nat.reduceEqDiff, Nat.reduceAdd, Nat.reduceLeDiff, reduceCtorEq, List.map_cons, List.map_nil, Option.map_some, Nat.zero_add, List.length_cons, List.length_nil, List.set_cons_zero, List.set_cons_succ, and_self, if_true, if_false, Bool.and_self, Bool.not_false, Nat.le_refl, pl_30, zc_30, zt_30, zC, chgE]
  refine callI_pure cal21 (kvDoNil _ key) ?_
  simp only [goI_ops, opsA_cons, opsA_guardS, gvI_same, slotAt_zero, slotAt_succ, stepA_move, stepA_pick, stepA_binOp, stepA_call, thenV_some, pickV_true, eval_tmp, eval_const, put_some, put_none, enterF_succ, aBin_eql, absV_int, absV_bool, beq_self_eq_true, Nat.reduceEqDiff, List.map_cons, List.map_nil, if_true, if_false]
  refine callI_pure cal22 (kvLenNil _) ?_
  simp only [goI_ops, opsA_cons, opsA_guardS, gvI_same, slotAt_zero, slotAt_succ, stepA_move, stepA_pick, stepA_binOp, stepA_call, thenV_some, pickV_true, eval_tmp, eval_const, put_some, put_none, enterF_succ, aBin_eql, absV_int, absV_bool, beq_self_eq_true, Nat.reduceEqDiff, List.map_cons, List.map_nil, if_true, if_false]
  refine callI_pure cal19 (kvListNil _) ?_
  simp only [wpA_ret, seqQ_normal, endI_mk, goI_out, goI_ops, opsA_nil, opsA_cons, opsA_guardS, gvI_same, slotAt_zero, slotAt_succ, stepA_assign, stepA_pick, stepA_binOp, stepA_len, thenV_some, pickV_true, eval_tmp, eval_const, put_some, put_none, enterF_succ, aBin_eql, absV_int, absV_bool, aLen_snil, beq_self_eq_true, Nat.reduceEqDiff, if_true, if_false, kt_34, retA_ret, Try.results7, resultsA_1]
  exact hid_mk rfl
end Go.Proofs.Ytecabknnggamhaa.Pk
