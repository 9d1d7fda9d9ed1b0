/-
  What functions of the program do, told of abstract states. Conditions: as each theorem says.
-/
import Derived.Test.YtpmmbcifhallbaaDoorCuG
import Derived.Test.YtpmmbcifhallbaaDoorTpQ
namespace Go.Proofs.YtpmmbcifhallbaaDoor.Pk
open Go Go.Proofs Go.Proofs.YtpmmbcifhallbaaDoor.Ab
set_option linter.unusedVariables false
set_option linter.unusedSimpArgs false

def logX (p : Int) (l : List Vx) (k v q : Int) : Int := if (chkT p l).2 = 0 ∧ 0 ≤ k ∧ k ≤ 2 ∧ 0 ≤ v ∧ v < l.length ∧ 0 ≤ q ∧ q < p then (k * (l.length : Int) + v) * p + q else -1
theorem log_rng {n k v p : Int} (k0 : 0 ≤ k) (k2 : k ≤ 2) (n24 : 0 ≤ n ∧ n ≤ 24) (v0 : 0 ≤ v) (vn : v < n) (hp : 1 ≤ p ∧ p ≤ 8) : 0 ≤ k * n ∧ k * n ≤ 48 ∧ 0 ≤ (k * n + v) * p ∧ (k * n + v) * p ≤ 600 ∧ (0 ≤ k * n * p ∧ k * n * p ≤ 600) ∧ (0 ≤ v * p ∧ v * p ≤ 600) := by
  have hk : k = 0 ∨ k = 1 ∨ k = 2 := by omega
  have hP : p = 1 ∨ p = 2 ∨ p = 3 ∨ p = 4 ∨ p = 5 ∨ p = 6 ∨ p = 7 ∨ p = 8 := by omega
  rcases hk with rfl | rfl | rfl <;> rcases hP with rfl | rfl | rfl | rfl | rfl | rfl | rfl | rfl <;> omega
theorem pMay16 (l : List Vx) (p : Int) (hok : OkT l) (h : AHeap) : Pure Tryd.prog 56 [.agg (topE l p)] h (.bool ((chkT p l).2 == 0)) := by
  refine Pure.val (Clo.bool _) ?_
  have hc : (V.agg (topE l p)).cells = some [.imm l.length (l.flatMap encX), .int .i64 p] := rfl
  obtain ⟨H, hH⟩ : ∃ x, x = h.push (.cells [.imm l.length (l.flatMap encX), .int .i64 p] 24 none) := ⟨_, rfl⟩
  have gt : H.get h.n = .cells [.imm l.length (l.flatMap encX), .int .i64 p] 24 none := by rw [hH]; exact get_push_new
  have kH : Keep h H none_ := by rw [hH]; exact Keep.push _ _ _
  refine SCalls.enterI (c := _) Tryd.func56 rfl (by kernel_rfl) (by simp) ?_
  simp only [wpA_region, wpA_seq, seqQ_normal, goI_out, goI_ops, opsA_nil, opsA_cons, stepA_assign, stepA_box, stepA_load, stepA_call, thenV_some, thenH_some, eval_tmp, eval_const, put_some, enterF_zero, enterF_succ, absV_bool, aLoad_eq, loadGo_row, aPlace_ptr, dropC_cells, aBox_eq, Nat.reduceEqDiff, Nat.reduceAdd, List.map_cons, List.map_nil, Option.map_some, Nat.zero_add, Nat.zero_le, List.length_cons, List.length_nil, List.drop_zero, List.take_succ_cons, List.take_nil, if_true, if_false, Nat.le_refl, lt_24, hc, ← hH, gt]
  refine callI_pure cal17 (pCheckR l p hok H) ?_
  simp only [wpA_region, wpA_seq, wpA_ret, seqQ_normal, endI_mk, goI_out, goI_ops, opsA_nil, opsA_cons, stepA_move, stepA_assign, stepA_binOp, stepA_extract, thenV_some, extV_zero, extV_succ, eval_tmp, eval_const, put_some, enterF_succ, aBin_eql, absV_int, Nat.reduceEqDiff, if_true, if_false, chkA, retA_ret, Tryd.results56, resultsA_1]
  exact hid_mk ⟨rfl, kH⟩
set_option maxHeartbeats 1000000 in
set_option maxRecDepth 10000 in
theorem pLog (l : List Vx) (p k v q : Int) (hok : OkT l) (h : AHeap) (hg : TG h) : Pure Tryd.prog 35 [.agg (topE l p), .int .i64 k, .int .i64 v, .int .i64 q] h (.int .i64 (logX p l k v q)) := by
  refine Pure.val (Clo.int _ _) ?_
  have hc : (V.agg (topE l p)).cells = some [.imm l.length (l.flatMap encX), .int .i64 p] := rfl
  obtain ⟨H, hH⟩ : ∃ x, x = h.push (.cells [.imm l.length (l.flatMap encX), .int .i64 p] 24 none) := ⟨_, rfl⟩
  have gt : H.get h.n = .cells [.imm l.length (l.flatMap encX), .int .i64 p] 24 none := by rw [hH]; exact get_push_new
  have kH : Keep h H none_ := by rw [hH]; exact Keep.push _ _ _
  refine SCalls.enterI (c := _) Tryd.func35 rfl (by kernel_rfl) (by simp) ?_
  simp only [wpA_region, wpA_seq, seqQ_normal, goI_out, goI_ops, opsA_nil, opsA_cons, stepA_assign, stepA_box, stepA_load, stepA_call, thenV_some, thenH_some, eval_tmp, eval_const, put_some, enterF_zero, enterF_succ, absV_int, aLoad_eq, loadGo_row, aPlace_ptr, dropC_cells, aBox_eq, Int.reduceNeg, Nat.reduceEqDiff, Nat.reduceAdd, List.map_cons, List.map_nil, Option.map_some, Nat.zero_add, Nat.zero_le, List.length_cons, List.length_nil, List.drop_zero, List.take_succ_cons, List.take_nil, if_true, if_false, Nat.le_refl, lt_24, hc, ← hH, gt]
  refine callI_pure cal59 (pValid l p hok H (hg.keep kH)) ?_
  by_cases h0 : (chkT p l).2 = 0
  rotate_left
  · have c2 : ((chkT p l).2 == 0) = false := by simp [h0]
    have hG : logX p l k v q = -1 := if_neg (fun hh => h0 hh.1)
    simp only [wpA_region, wpA_seq, wpA_cond, wpA_ret, condI_true, seqQ_normal, seqQ_ret, endI_mk, goI_out, goI_ops, opsA_nil, opsA_cons, opsA_guardS, gvI_tf, slotAt_zero, slotAt_succ, stepA_move, stepA_assign, stepA_pick, stepA_unOp, thenV_some, pickV_true, eval_tmp, eval_const, put_some, enterF_succ, aUn_not, absV_int, absV_bool, Int.reduceNeg, Nat.reduceEqDiff, if_true, if_false, Bool.not_false, c2, retA_ret, Tryd.results35, resultsA_1]
    exact hid_mk ⟨by rw [hG], kH⟩
  have c2 : ((chkT p l).2 == 0) = true := by simp [h0]
  by_cases n0 : k < 0
  · have d0 : decide (k < 0) = true := by simpa using n0
    have hG : logX p l k v q = -1 := if_neg (by omega)
    simp only [wpA_region, wpA_seq, wpA_cond, wpA_ret, condI_true, seqQ_normal, seqQ_ret, endI_mk, goI_out, goI_ops, opsA_nil, opsA_cons, opsA_guardS, gvI_same, gvI_tf, slotAt_zero, slotAt_succ, stepA_move, stepA_assign, stepA_pick, stepA_binOp, stepA_unOp, thenV_some, pickV_true, pickV_false, eval_tmp, eval_const, put_some, enterF_zero, enterF_succ, aBin_lss, aUn_not, absV_int, absV_bool, Int.reduceNeg, Nat.reduceEqDiff, if_true, if_false, Bool.not_true, c2, d0, retA_ret, Tryd.results35, resultsA_1]
    exact hid_mk ⟨by rw [hG], kH⟩
  have d0 : decide (k < 0) = false := by simpa using n0
  by_cases n1 : 3 ≤ k
  · have d1 : decide (3 ≤ k) = true := by simpa using n1
    have hG : logX p l k v q = -1 := if_neg (by omega)
    simp only [wpA_region, wpA_seq, wpA_cond, wpA_ret, condI_true, seqQ_normal, seqQ_ret, endI_mk, goI_out, goI_ops, opsA_nil, opsA_cons, opsA_guardS, gvI_same, gvI_tf, slotAt_zero, slotAt_succ, stepA_move, stepA_assign, stepA_pick, stepA_binOp, stepA_unOp, thenV_some, pickV_true, pickV_false, eval_tmp, eval_const, put_some, enterF_zero, enterF_succ, aBin_lss, aBin_geq, aUn_not, absV_int, absV_bool, Int.reduceNeg, Nat.reduceEqDiff, if_true, if_false, Bool.not_true, c2, d0, d1, retA_ret, Tryd.results35, resultsA_1]
    exact hid_mk ⟨by rw [hG], kH⟩
  have d1 : decide (3 ≤ k) = false := by simpa using n1
  by_cases n2 : v < 0
  · have d2 : decide (v < 0) = true := by simpa using n2
    have hG : logX p l k v q = -1 := if_neg (by omega)
    simp only [wpA_region, wpA_seq, wpA_cond, wpA_ret, condI_true, seqQ_normal, seqQ_ret, endI_mk, goI_out, goI_ops, opsA_nil, opsA_cons, opsA_guardS, gvI_same, gvI_tf, slotAt_zero, slotAt_succ, stepA_move, stepA_assign, stepA_pick, stepA_binOp, stepA_unOp, thenV_some, pickV_true, pickV_false, eval_tmp, eval_const, put_some, enterF_zero, enterF_succ, aBin_lss, aBin_geq, aUn_not, absV_int, absV_bool, Int.reduceNeg, Nat.reduceEqDiff, if_true, if_false, Bool.not_true, c2, d0, d1, d2, retA_ret, Tryd.results35, resultsA_1]
    exact hid_mk ⟨by rw [hG], kH⟩
  have d2 : decide (v < 0) = false := by simpa using n2
  by_cases n3 : ((l.length : Nat) : Int) ≤ v
  · have d3 : decide (((l.length : Nat) : Int) ≤ v) = true := by simpa using n3
    have hG : logX p l k v q = -1 := if_neg (by omega)
    simp only [wpA_region, wpA_seq, wpA_cond, wpA_ret, condI_true, seqQ_normal, seqQ_ret, endI_mk, goI_out, goI_ops, opsA_nil, opsA_cons, opsA_guardS, gvI_same, gvI_tf, slotAt_zero, slotAt_succ, stepA_move, stepA_assign, stepA_pick, stepA_load, stepA_binOp, stepA_unOp, stepA_fieldAddr, stepA_len, thenV_some, pickV_true, pickV_false, eval_tmp, eval_const, put_some, enterF_zero, enterF_succ, aBin_lss, aBin_geq, aUn_not, absV_int, absV_bool, aField_eq, fieldGo_ptr, aLoad_eq, loadGo_one, aPlace_ptr, dropC_cells, aLen_imm, Int.reduceNeg, Nat.reduceEqDiff, Nat.reduceAdd, Nat.add_zero, Nat.zero_add, Nat.zero_le, List.length_cons, List.length_nil, List.drop_zero, if_true, if_false, Bool.not_true, ft_24_0, kt_22, lt_22, c2, gt, d0, d1, d2, d3, retA_ret, Tryd.results35, resultsA_1]
    exact hid_mk ⟨by rw [hG], kH⟩
  have d3 : decide (((l.length : Nat) : Int) ≤ v) = false := by simpa using n3
  by_cases n4 : q < 0
  · have d4 : decide (q < 0) = true := by simpa using n4
    have hG : logX p l k v q = -1 := if_neg (by omega)
    simp only [wpA_region, wpA_seq, wpA_cond, wpA_ret, condI_true, seqQ_normal, seqQ_ret, endI_mk, goI_out, goI_ops, opsA_nil, opsA_cons, opsA_guardS, gvI_same, gvI_tf, slotAt_zero, slotAt_succ, stepA_move, stepA_assign, stepA_pick, stepA_load, stepA_binOp, stepA_unOp, stepA_fieldAddr, stepA_len, thenV_some, pickV_true, pickV_false, eval_tmp, eval_const, put_some, enterF_zero, enterF_succ, aBin_lss, aBin_geq, aUn_not, absV_int, absV_bool, aField_eq, fieldGo_ptr, aLoad_eq, loadGo_one, aPlace_ptr, dropC_cells, aLen_imm, Int.reduceNeg, Nat.reduceEqDiff, Nat.reduceAdd, Nat.add_zero, Nat.zero_add, Nat.zero_le, List.length_cons, List.length_nil, List.drop_zero, if_true, if_false, Bool.not_true, ft_24_0, kt_22, lt_22, c2, gt, d0, d1, d2, d3, d4, retA_ret, Tryd.results35, resultsA_1]
    exact hid_mk ⟨by rw [hG], kH⟩
  have d4 : decide (q < 0) = false := by simpa using n4
  by_cases n5 : p ≤ q
  · have d5 : decide (p ≤ q) = true := by simpa using n5
    have hG : logX p l k v q = -1 := if_neg (by omega)
    simp only [wpA_region, wpA_seq, wpA_cond, wpA_ret, condI_true, seqQ_normal, seqQ_ret, endI_mk, goI_out, goI_ops, opsA_nil, opsA_cons, opsA_guardS, gvI_same, slotAt_zero, slotAt_succ, stepA_move, stepA_assign, stepA_pick, stepA_load, stepA_binOp, stepA_unOp, stepA_fieldAddr, stepA_len, thenV_some, pickV_false, eval_tmp, eval_const, put_some, enterF_zero, enterF_succ, aBin_lss, aBin_geq, aUn_not, absV_int, absV_bool, aField_eq, fieldGo_ptr, aLoad_eq, loadGo_one, aPlace_ptr, dropC_cells, aLen_imm, Int.reduceNeg, Nat.reduceEqDiff, Nat.reduceAdd, Nat.reduceLeDiff, Nat.add_zero, Nat.zero_add, Nat.zero_le, List.length_cons, List.length_nil, List.drop_zero, List.drop_succ_cons, if_true, if_false, Bool.not_true, ft_24_0, ft_24_1, kt_22, lt_22, lt_3, c2, gt, d0, d1, d2, d3, d4, d5, retA_ret, Tryd.results35, resultsA_1]
    exact hid_mk ⟨by rw [hG], kH⟩
  have d5 : decide (p ≤ q) = false := by simpa using n5
  obtain ⟨_, hp, _, l24, _⟩ := chk_ok h0
  have hG : logX p l k v q = (k * (l.length : Int) + v) * p + q := if_pos ⟨h0, by omega, by omega, by omega, by omega, by omega, by omega⟩
  obtain ⟨b1, b2, b3, b4, b5, b6⟩ := log_rng (n := (l.length : Int)) (k := k) (v := v) (p := p) (by omega) (by omega) (by omega) (by omega) (by omega) (by omega)
  have w1 : IntKind.i64.wrap (k * (l.length : Int)) = k * (l.length : Int) := Go.IntWalk.i64_in _ (by omega)
  have w2 : IntKind.i64.wrap (k * (l.length : Int) + v) = k * (l.length : Int) + v := Go.IntWalk.i64_in _ (by omega)
  have w3 : IntKind.i64.wrap ((k * (l.length : Int) + v) * p) = (k * (l.length : Int) + v) * p := Go.IntWalk.i64_in _ (by omega)
  have w4 : IntKind.i64.wrap ((k * (l.length : Int) + v) * p + q) = (k * (l.length : Int) + v) * p + q := Go.IntWalk.i64_in _ (by omega)
  simp only [wpA_skip, wpA_region, wpA_seq, wpA_cond, wpA_ret, condI_false, seqQ_normal, endI_mk, goI_out, goI_ops, opsA_nil, opsA_cons, opsA_guardS, gvI_same, slotAt_zero, slotAt_succ, stepA_move, stepA_assign, stepA_pick, stepA_load, stepA_binOp, stepA_unOp, stepA_fieldAddr, stepA_len, thenV_some, pickV_false, eval_tmp, eval_const, put_some, enterF_zero, enterF_succ, aBin_add, aBin_mul, aBin_lss, aBin_geq, aUn_not, absV_int, absV_bool, aField_eq, fieldGo_ptr, aLoad_eq, loadGo_one, aPlace_ptr, dropC_cells, aLen_imm, Int.reduceNeg, Nat.reduceEqDiff, Nat.reduceAdd, Nat.reduceLeDiff, Nat.add_zero, Nat.zero_add, Nat.zero_le, List.length_cons, List.length_nil, List.drop_zero, List.drop_succ_cons, if_true, if_false, Bool.not_true, ft_24_0, ft_24_1, kt_22, lt_22, lt_3, c2, gt, d0, d1, d2, d3, d4, d5, w1, w2, w3, w4, retA_ret, Tryd.results35, resultsA_1]
  exact hid_mk ⟨by rw [hG], kH⟩
set_option maxHeartbeats 1000000 in
set_option maxRecDepth 10000 in
theorem pLogR (l : List Vx) (p k v q : Int) (hok : OkT l) (h : AHeap) (hg : TG h) : Pure Tryd.prog 36 [.agg (topE l p), .int .i64 k, .int .i64 v, .int .i64 q] h (.int .i64 (logX p l k v q)) := by
  refine Pure.val (Clo.int _ _) ?_
  have hc : (V.agg (topE l p)).cells = some [.imm l.length (l.flatMap encX), .int .i64 p] := rfl
  obtain ⟨H, hH⟩ : ∃ x, x = h.push (.cells [.imm l.length (l.flatMap encX), .int .i64 p] 24 none) := ⟨_, rfl⟩
  have gt : H.get h.n = .cells [.imm l.length (l.flatMap encX), .int .i64 p] 24 none := by rw [hH]; exact get_push_new
  have kH : Keep h H none_ := by rw [hH]; exact Keep.push _ _ _
  refine SCalls.enterI (c := _) Tryd.func36 rfl (by kernel_rfl) (by simp) ?_
  simp only [wpA_region, wpA_seq, seqQ_normal, goI_out, goI_ops, opsA_nil, opsA_cons, stepA_assign, stepA_box, stepA_load, stepA_call, thenV_some, thenH_some, eval_tmp, eval_const, put_some, enterF_zero, enterF_succ, absV_int, aLoad_eq, loadGo_row, aPlace_ptr, dropC_cells, aBox_eq, Int.reduceNeg, Nat.reduceEqDiff, Nat.reduceAdd, List.map_cons, List.map_nil, Option.map_some, Nat.zero_add, Nat.zero_le, List.length_cons, List.length_nil, List.drop_zero, List.take_succ_cons, List.take_nil, if_true, if_false, Nat.le_refl, lt_24, hc, ← hH, gt]
  refine callI_pure cal56 (pMay16 l p hok H) ?_
  by_cases h0 : (chkT p l).2 = 0
  rotate_left
  · have c2 : ((chkT p l).2 == 0) = false := by simp [h0]
    have hG : logX p l k v q = -1 := if_neg (fun hh => h0 hh.1)
    simp only [wpA_region, wpA_seq, wpA_cond, wpA_ret, condI_true, seqQ_normal, seqQ_ret, endI_mk, goI_out, goI_ops, opsA_nil, opsA_cons, opsA_guardS, gvI_tf, slotAt_zero, slotAt_succ, stepA_move, stepA_assign, stepA_pick, stepA_unOp, thenV_some, pickV_true, eval_tmp, eval_const, put_some, enterF_succ, aUn_not, absV_int, absV_bool, Int.reduceNeg, Nat.reduceEqDiff, if_true, if_false, Bool.not_false, c2, retA_ret, Tryd.results36, resultsA_1]
    exact hid_mk ⟨by rw [hG], kH⟩
  have c2 : ((chkT p l).2 == 0) = true := by simp [h0]
  by_cases n0 : k < 0
  · have d0 : decide (k < 0) = true := by simpa using n0
    have hG : logX p l k v q = -1 := if_neg (by omega)
    simp only [wpA_region, wpA_seq, wpA_cond, wpA_ret, condI_true, seqQ_normal, seqQ_ret, endI_mk, goI_out, goI_ops, opsA_nil, opsA_cons, opsA_guardS, gvI_same, gvI_tf, slotAt_zero, slotAt_succ, stepA_move, stepA_assign, stepA_pick, stepA_binOp, stepA_unOp, thenV_some, pickV_true, pickV_false, eval_tmp, eval_const, put_some, enterF_zero, enterF_succ, aBin_lss, aUn_not, absV_int, absV_bool, Int.reduceNeg, Nat.reduceEqDiff, if_true, if_false, Bool.not_true, c2, d0, retA_ret, Tryd.results36, resultsA_1]
    exact hid_mk ⟨by rw [hG], kH⟩
  have d0 : decide (k < 0) = false := by simpa using n0
  by_cases n1 : 2 < k
  · have d1 : decide (2 < k) = true := by simpa using n1
    have hG : logX p l k v q = -1 := if_neg (by omega)
    simp only [wpA_region, wpA_seq, wpA_cond, wpA_ret, condI_true, seqQ_normal, seqQ_ret, endI_mk, goI_out, goI_ops, opsA_nil, opsA_cons, opsA_guardS, gvI_same, gvI_tf, slotAt_zero, slotAt_succ, stepA_move, stepA_assign, stepA_pick, stepA_binOp, stepA_unOp, thenV_some, pickV_true, pickV_false, eval_tmp, eval_const, put_some, enterF_zero, enterF_succ, aBin_lss, aBin_gtr, aUn_not, absV_int, absV_bool, Int.reduceNeg, Nat.reduceEqDiff, if_true, if_false, Bool.not_true, c2, d0, d1, retA_ret, Tryd.results36, resultsA_1]
    exact hid_mk ⟨by rw [hG], kH⟩
  have d1 : decide (2 < k) = false := by simpa using n1
  by_cases n2 : v < 0
  · have d2 : decide (v < 0) = true := by simpa using n2
    have hG : logX p l k v q = -1 := if_neg (by omega)
    simp only [wpA_region, wpA_seq, wpA_cond, wpA_ret, condI_true, seqQ_normal, seqQ_ret, endI_mk, goI_out, goI_ops, opsA_nil, opsA_cons, opsA_guardS, gvI_same, gvI_tf, slotAt_zero, slotAt_succ, stepA_move, stepA_assign, stepA_pick, stepA_binOp, stepA_unOp, thenV_some, pickV_true, pickV_false, eval_tmp, eval_const, put_some, enterF_zero, enterF_succ, aBin_lss, aBin_gtr, aUn_not, absV_int, absV_bool, Int.reduceNeg, Nat.reduceEqDiff, if_true, if_false, Bool.not_true, c2, d0, d1, d2, retA_ret, Tryd.results36, resultsA_1]
    exact hid_mk ⟨by rw [hG], kH⟩
  have d2 : decide (v < 0) = false := by simpa using n2
  by_cases n3 : ((l.length : Nat) : Int) ≤ v
  · have d3 : decide (((l.length : Nat) : Int) ≤ v) = true := by simpa using n3
    have hG : logX p l k v q = -1 := if_neg (by omega)
    simp only [wpA_region, wpA_seq, wpA_cond, wpA_ret, condI_true, seqQ_normal, seqQ_ret, endI_mk, goI_out, goI_ops, opsA_nil, opsA_cons, opsA_guardS, gvI_same, gvI_tf, slotAt_zero, slotAt_succ, stepA_move, stepA_assign, stepA_pick, stepA_load, stepA_binOp, stepA_unOp, stepA_fieldAddr, stepA_len, thenV_some, pickV_true, pickV_false, eval_tmp, eval_const, put_some, enterF_zero, enterF_succ, aBin_lss, aBin_gtr, aBin_geq, aUn_not, absV_int, absV_bool, aField_eq, fieldGo_ptr, aLoad_eq, loadGo_one, aPlace_ptr, dropC_cells, aLen_imm, Int.reduceNeg, Nat.reduceEqDiff, Nat.reduceAdd, Nat.add_zero, Nat.zero_add, Nat.zero_le, List.length_cons, List.length_nil, List.drop_zero, if_true, if_false, Bool.not_true, ft_24_0, kt_22, lt_22, c2, gt, d0, d1, d2, d3, retA_ret, Tryd.results36, resultsA_1]
    exact hid_mk ⟨by rw [hG], kH⟩
  have d3 : decide (((l.length : Nat) : Int) ≤ v) = false := by simpa using n3
  by_cases n4 : q < 0
  · have d4 : decide (q < 0) = true := by simpa using n4
    have hG : logX p l k v q = -1 := if_neg (by omega)
    simp only [wpA_region, wpA_seq, wpA_cond, wpA_ret, condI_true, seqQ_normal, seqQ_ret, endI_mk, goI_out, goI_ops, opsA_nil, opsA_cons, opsA_guardS, gvI_same, gvI_tf, slotAt_zero, slotAt_succ, stepA_move, stepA_assign, stepA_pick, stepA_load, stepA_binOp, stepA_unOp, stepA_fieldAddr, stepA_len, thenV_some, pickV_true, pickV_false, eval_tmp, eval_const, put_some, enterF_zero, enterF_succ, aBin_lss, aBin_gtr, aBin_geq, aUn_not, absV_int, absV_bool, aField_eq, fieldGo_ptr, aLoad_eq, loadGo_one, aPlace_ptr, dropC_cells, aLen_imm, Int.reduceNeg, Nat.reduceEqDiff, Nat.reduceAdd, Nat.add_zero, Nat.zero_add, Nat.zero_le, List.length_cons, List.length_nil, List.drop_zero, if_true, if_false, Bool.not_true, ft_24_0, kt_22, lt_22, c2, gt, d0, d1, d2, d3, d4, retA_ret, Tryd.results36, resultsA_1]
    exact hid_mk ⟨by rw [hG], kH⟩
  have d4 : decide (q < 0) = false := by simpa using n4
  by_cases n5 : p ≤ q
  · have d5 : decide (p ≤ q) = true := by simpa using n5
    have hG : logX p l k v q = -1 := if_neg (by omega)
    simp only [wpA_region, wpA_seq, wpA_cond, wpA_ret, condI_true, seqQ_normal, seqQ_ret, endI_mk, goI_out, goI_ops, opsA_nil, opsA_cons, opsA_guardS, gvI_same, slotAt_zero, slotAt_succ, stepA_move, stepA_assign, stepA_pick, stepA_load, stepA_binOp, stepA_unOp, stepA_fieldAddr, stepA_len, thenV_some, pickV_false, eval_tmp, eval_const, put_some, enterF_zero, enterF_succ, aBin_lss, aBin_gtr, aBin_geq, aUn_not, absV_int, absV_bool, aField_eq, fieldGo_ptr, aLoad_eq, loadGo_one, aPlace_ptr, dropC_cells, aLen_imm, Int.reduceNeg, Nat.reduceEqDiff, Nat.reduceAdd, Nat.reduceLeDiff, Nat.add_zero, Nat.zero_add, Nat.zero_le, List.length_cons, List.length_nil, List.drop_zero, List.drop_succ_cons, if_true, if_false, Bool.not_true, ft_24_0, ft_24_1, kt_22, lt_22, lt_3, c2, gt, d0, d1, d2, d3, d4, d5, retA_ret, Tryd.results36, resultsA_1]
    exact hid_mk ⟨by rw [hG], kH⟩
  have d5 : decide (p ≤ q) = false := by simpa using n5
  obtain ⟨_, hp, _, l24, _⟩ := chk_ok h0
  have hG : logX p l k v q = (k * (l.length : Int) + v) * p + q := if_pos ⟨h0, by omega, by omega, by omega, by omega, by omega, by omega⟩
  obtain ⟨b1, b2, b3, b4, b5, b6⟩ := log_rng (n := (l.length : Int)) (k := k) (v := v) (p := p) (by omega) (by omega) (by omega) (by omega) (by omega) (by omega)
  have w1 : IntKind.i64.wrap (k * (l.length : Int)) = k * (l.length : Int) := Go.IntWalk.i64_in _ (by omega)
  have w2 : IntKind.i64.wrap (k * (l.length : Int) * p) = k * (l.length : Int) * p := Go.IntWalk.i64_in _ (by omega)
  have w3 : IntKind.i64.wrap (v * p) = v * p := Go.IntWalk.i64_in _ (by omega)
  have w4 : IntKind.i64.wrap (k * (l.length : Int) * p + v * p) = k * (l.length : Int) * p + v * p := Go.IntWalk.i64_in _ (by omega)
  have w5 : IntKind.i64.wrap (k * (l.length : Int) * p + v * p + q) = k * (l.length : Int) * p + v * p + q := Go.IntWalk.i64_in _ (by omega)
  simp only [wpA_skip, wpA_region, wpA_seq, wpA_cond, wpA_ret, condI_false, seqQ_normal, endI_mk, goI_out, goI_ops, opsA_nil, opsA_cons, opsA_guardS, gvI_same, slotAt_zero, slotAt_succ, stepA_move, stepA_assign, stepA_pick, stepA_load, stepA_binOp, stepA_unOp, stepA_fieldAddr, stepA_len, thenV_some, pickV_false, eval_tmp, eval_const, put_some, enterF_zero, enterF_succ, aBin_add, aBin_mul, aBin_lss, aBin_gtr, aBin_geq, aUn_not, absV_int, absV_bool, aField_eq, fieldGo_ptr, aLoad_eq, loadGo_one, aPlace_ptr, dropC_cells, aLen_imm, Int.reduceNeg, Nat.reduceEqDiff, Nat.reduceAdd, Nat.reduceLeDiff, Nat.add_zero, Nat.zero_add, Nat.zero_le, List.length_cons, List.length_nil, List.drop_zero, List.drop_succ_cons, if_true, if_false, Bool.not_true, ft_24_0, ft_24_1, kt_22, lt_22, lt_3, c2, gt, d0, d1, d2, d3, d4, d5, w1, w2, w3, w4, w5, retA_ret, Tryd.results36, resultsA_1]
  exact hid_mk ⟨by rw [hG]; rw [Int.add_mul], kH⟩
set_option maxRecDepth 10000 in
theorem pPartR (l : List Vx) (p key : Int) (hok : OkT l) (h : AHeap) (hg : TG h) : Pure Tryd.prog 38 [.agg (topE l p), .int .i64 key] h (.int .i64 (partK p l key)) := by
  refine Pure.val (Clo.int _ _) ?_
  have hc : (V.agg (topE l p)).cells = some [.imm l.length (l.flatMap encX), .int .i64 p] := rfl
  obtain ⟨H, hH⟩ : ∃ x, x = h.push (.cells [.imm l.length (l.flatMap encX), .int .i64 p] 24 none) := ⟨_, rfl⟩
  have gt : H.get h.n = .cells [.imm l.length (l.flatMap encX), .int .i64 p] 24 none := by rw [hH]; exact get_push_new
  have kH : Keep h H none_ := by rw [hH]; exact Keep.push _ _ _
  refine SCalls.enterI (c := _) Tryd.func38 rfl (by kernel_rfl) (by simp) ?_
  simp only [wpA_region, wpA_seq, seqQ_normal, goI_out, goI_ops, opsA_nil, opsA_cons, stepA_assign, stepA_box, stepA_load, stepA_call, thenV_some, thenH_some, eval_tmp, eval_const, put_some, enterF_zero, enterF_succ, absV_int, aLoad_eq, loadGo_row, aPlace_ptr, dropC_cells, aBox_eq, Int.reduceNeg, Nat.reduceEqDiff, Nat.reduceAdd, List.map_cons, List.map_nil, Option.map_some, Nat.zero_add, Nat.zero_le, List.length_cons, List.length_nil, List.drop_zero, List.take_succ_cons, List.take_nil, if_true, if_false, Nat.le_refl, lt_24, hc, ← hH, gt]
  refine callI_pure cal56 (pMay16 l p hok H) ?_
  by_cases h0 : (chkT p l).2 = 0
  rotate_left
  · have c2 : ((chkT p l).2 == 0) = false := by simp [h0]
    simp only [wpA_region, wpA_seq, wpA_cond, wpA_ret, condI_true, seqQ_normal, seqQ_ret, endI_mk, goI_out, goI_ops, opsA_nil, opsA_cons, stepA_assign, stepA_unOp, thenV_some, eval_tmp, eval_const, put_some, enterF_succ, aUn_not, absV_int, Int.reduceNeg, Nat.reduceEqDiff, if_true, if_false, Bool.not_false, c2, retA_ret, Tryd.results38, resultsA_1]
    exact hid_mk ⟨by rw [partK, if_neg h0], kH⟩
  have c2 : ((chkT p l).2 == 0) = true := by simp [h0]
  obtain ⟨_, hp, _⟩ := chk_ok h0
  obtain ⟨t1, t2⟩ := tmod_rng (a := key) hp.1
  by_cases hn : key.tmod p < 0
  · have c3 : decide (key.tmod p < 0) = true := by simpa using hn
    have w1 : IntKind.i64.wrap (key.tmod p + p) = key.tmod p + p := Go.IntWalk.i64_in _ (by omega)
    simp only [wpA_skip, wpA_region, wpA_seq, wpA_cond, wpA_ret, condI_true, condI_false, seqQ_normal, endI_mk, goI_out, goI_ops, opsA_nil, opsA_cons, stepA_move, stepA_assign, stepA_load, stepA_binOp, stepA_unOp, stepA_fieldAddr, thenV_some, eval_tmp, eval_const, put_some, enterF_zero, enterF_succ, aBin_add, aBin_lss, aUn_not, absV_int, aField_eq, fieldGo_ptr, aLoad_eq, loadGo_one, aPlace_ptr, dropC_cells, Int.reduceNeg, Nat.reduceEqDiff, Nat.reduceAdd, Nat.reduceLeDiff, Nat.zero_add, List.length_cons, List.length_nil, List.drop_zero, List.drop_succ_cons, if_true, if_false, Bool.not_true, ft_24_1, lt_3, c2, gt, aBin_rem (show p ≠ 0 by omega), c3, w1, retA_ret, Tryd.results38, resultsA_1]
    exact hid_mk ⟨by rw [partK, if_pos h0, if_pos hn], kH⟩
  · have c3 : decide (key.tmod p < 0) = false := by simpa using hn
    simp only [wpA_skip, wpA_region, wpA_seq, wpA_cond, wpA_ret, condI_false, seqQ_normal, endI_mk, goI_out, goI_ops, opsA_nil, opsA_cons, stepA_move, stepA_assign, stepA_load, stepA_binOp, stepA_unOp, stepA_fieldAddr, thenV_some, eval_tmp, eval_const, put_some, enterF_zero, enterF_succ, aBin_lss, aUn_not, absV_int, aField_eq, fieldGo_ptr, aLoad_eq, loadGo_one, aPlace_ptr, dropC_cells, Int.reduceNeg, Nat.reduceEqDiff, Nat.reduceAdd, Nat.reduceLeDiff, Nat.zero_add, List.length_cons, List.length_nil, List.drop_zero, List.drop_succ_cons, if_true, if_false, Bool.not_true, ft_24_1, lt_3, c2, gt, aBin_rem (show p ≠ 0 by omega), c3, retA_ret, Tryd.results38, resultsA_1]
    exact hid_mk ⟨by rw [partK, if_pos h0, if_neg hn], kH⟩

set_option maxHeartbeats 2000000 in
set_option maxRecDepth 10000 in
theorem cutLogs (l : List Vx) (p k v q key : Int) (hok : OkT l) (h : AHeap) (hg : TG h) : SCalls Tryd.prog 9 [.agg (topE l p), .int .i64 k, .int .i64 v, .int .i64 q, .int .i64 key] h (fun r h' => r = .bool true) := by
  have hc : (V.agg (topE l p)).cells = some [.imm l.length (l.flatMap encX), .int .i64 p] := rfl
  obtain ⟨H, hH⟩ : ∃ x, x = h.push (.cells [.imm l.length (l.flatMap encX), .int .i64 p] 24 none) := ⟨_, rfl⟩
  have gt : H.get h.n = .cells [.imm l.length (l.flatMap encX), .int .i64 p] 24 none := by rw [hH]; exact get_push_new
  have kH : Keep h H none_ := by rw [hH]; exact Keep.push _ _ _
  have tH := hg.keep kH
  refine SCalls.enterI (c := _) Tryd.func9 rfl (by kernel_rfl) (by simp) ?_
  simp only [wpA_region, wpA_seq, seqQ_normal, goI_out, goI_ops, opsA_nil, opsA_cons, stepA_assign, stepA_box, stepA_call, thenH_some, eval_tmp, eval_const, enterF_zero, absV_bool, aBox_eq, List.map_nil, Option.map_some, hc, ← hH]
  refine callI_pure cal25 (pShown16 H tH) ?_
  simp only [wpA_region, wpA_seq, seqQ_normal, goI_out, goI_ops, opsA_nil, opsA_cons, stepA_assign, stepA_load, stepA_call, thenV_some, eval_tmp, put_some, enterF_succ, aLoad_eq, loadGo_row, aPlace_ptr, dropC_cells, Nat.reduceEqDiff, Nat.reduceAdd, List.map_cons, List.map_nil, Nat.zero_add, Nat.zero_le, List.length_cons, List.length_nil, List.drop_zero, List.take_succ_cons, List.take_nil, if_true, if_false, Nat.le_refl, lt_24, gt]
  refine callI_pure cal26 (pSmall16 l p hok H) ?_
  cases c1 : decide (smF 0 l ≤ 5000)
  · simp only [wpA_region, wpA_seq, wpA_cond, wpA_ret, condI_true, seqQ_normal, seqQ_ret, endI_mk, goI_out, goI_ops, opsA_nil, opsA_cons, stepA_move, stepA_assign, stepA_unOp, thenV_some, eval_tmp, put_some, enterF_succ, aUn_not, Nat.reduceEqDiff, if_true, if_false, Bool.not_false, retA_ret, Tryd.results9, resultsA_1]
    exact hid_mk rfl
  have t1 : (logX p l k v q == logX p l k v q) = true := by simp
  have t2 : (partK p l key == partK p l key) = true := by simp
  simp only [wpA_skip, wpA_seq, wpA_cond, wpA_draw, condI_false, seqQ_normal, goI_out, goI_ops, opsA_nil, opsA_cons, stepA_unOp, thenV_some, eval_tmp, put_some, enterF_succ, aUn_not, Nat.reduceEqDiff, if_true, if_false, Bool.not_true]
  refine SWp.drawnS none_ [] (.q 0 (.q 1 (.q 2 (.q 3 (.q 4 (.q 5 (.c 6 (.q 7 (.q 8 (.q 9 (.q 10 (.c 11 (.q 12 (.q 13 (.q 14 (.q 15 (.q 16 (.c 17 (.q 18 (.q 19 (.c 20 (.q 21 (.q 22 (.q 23 .done)))))))))))))))))))))))) (by kernel_rfl) (by kernel_rfl) (by kernel_rfl) ?_
  simp only [siI_q, sqI_some, mOk_none', implies_true, qI_nil, qI_cons, qI_guard, qgI_same, thenQ_some, q_move, q_load, goI_mk, slotAt_zero, slotAt_succ, eval_tmp, put_some, enterF_zero, enterF_succ, aLoad_eq, loadGo_row, aPlace_ptr, dropC_cells, List.getElem?_cons_zero, List.getElem?_cons_succ, Nat.reduceEqDiff, Nat.reduceAdd, Nat.zero_add, Nat.zero_le, List.length_cons, List.length_nil, List.drop_zero, List.take_succ_cons, List.take_nil, true_and, if_true, if_false, Nat.le_refl, lt_24, gt]
  refine siI_c rfl rfl rfl (fun h' hk => pLog l p k v q hok h' (tH.or tH hk)) ?_
  simp only [siI_q, sqI_some, mOk_none', implies_true, qI_nil, qI_guard, qgI_same, thenQ_some, q_move, q_load, goI_mk, slotAt_zero, slotAt_succ, eval_tmp, put_some, enterF_zero, enterF_succ, aLoad_eq, loadGo_row, aPlace_ptr, dropC_cells, List.getElem?_cons_zero, List.getElem?_cons_succ, Nat.reduceEqDiff, Nat.reduceAdd, Nat.zero_add, Nat.zero_le, List.length_cons, List.length_nil, List.drop_zero, List.take_succ_cons, List.take_nil, true_and, if_true, if_false, Nat.le_refl, lt_24, gt]
  refine siI_c rfl rfl rfl (fun h' hk => pLogR l p k v q hok h' (tH.or tH hk)) ?_
  simp only [siI_q, sqI_some, mOk_none', implies_true, qI_nil, qI_cons, qI_guard, qgI_same, thenQ_some, q_move, q_pick, q_load, q_binOp, goI_mk, slotAt_zero, slotAt_succ, pickV_true, eval_tmp, eval_const, put_some, enterF_zero, enterF_succ, aBin_eql, absV_bool, aLoad_eq, loadGo_row, aPlace_ptr, dropC_cells, List.getElem?_cons_zero, List.getElem?_cons_succ, beq_self_eq_true, Nat.reduceEqDiff, Nat.reduceAdd, Nat.zero_add, Nat.zero_le, List.length_cons, List.length_nil, List.drop_zero, List.take_succ_cons, List.take_nil, true_and, if_true, if_false, Nat.le_refl, lt_24, gt]
  refine siI_c rfl rfl rfl (fun h' hk => pPart l p key hok h' (tH.or tH hk)) ?_
  simp only [siI_q, sqI_some, mOk_none', implies_true, qI_nil, qI_guard, qgI_same, thenQ_some, q_move, q_load, goI_mk, slotAt_zero, slotAt_succ, eval_tmp, put_some, enterF_zero, enterF_succ, aLoad_eq, loadGo_row, aPlace_ptr, dropC_cells, List.getElem?_cons_zero, List.getElem?_cons_succ, Nat.reduceEqDiff, Nat.reduceAdd, Nat.zero_add, Nat.zero_le, List.length_cons, List.length_nil, List.drop_zero, List.take_succ_cons, List.take_nil, true_and, if_true, if_false, Nat.le_refl, lt_24, gt]
  refine siI_c rfl rfl rfl (fun h' hk => pPartR l p key hok h' (tH.or tH hk)) ?_
  simp only [siI_done, siI_q, sqI_some, mOk_none', implies_true, qI_nil, qI_cons, qI_guard, qgI_same, thenQ_some, q_assign, q_pick, q_binOp, wpA_ret, seqQ_normal, endI_mk, goI_out, goI_mk, slotAt_zero, slotAt_succ, pickV_true, eval_tmp, eval_const, put_some, enterF_succ, aBin_eql, absV_bool, List.getElem?_cons_zero, List.getElem?_cons_succ, beq_self_eq_true, Nat.reduceEqDiff, true_and, if_true, if_false, retA_ret, Tryd.results9, resultsA_1]
  exact hid_mk rfl
end Go.Proofs.YtpmmbcifhallbaaDoor.Pk
