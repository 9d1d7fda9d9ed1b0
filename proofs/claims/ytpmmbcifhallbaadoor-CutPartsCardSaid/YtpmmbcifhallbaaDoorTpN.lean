/-
  What functions of the program do, told of abstract states. Conditions: as each theorem says.
-/
import Derived.Test.YtpmmbcifhallbaaDoorTpI
namespace Go.Proofs.YtpmmbcifhallbaaDoor.Pk
open Go Go.Proofs Go.Proofs.YtpmmbcifhallbaaDoor.Ab
set_option linter.unusedVariables false
set_option linter.unusedSimpArgs false

/-! ### The document's answer -/
set_option maxHeartbeats 4000000 in
set_option maxRecDepth 10000 in
theorem pHas (v : Vx) (hok : OkE v.e) (k1 : 1 ≤ v.kind) (k10 : v.kind ≤ 10) (h : AHeap) : Pure Tryd.prog 61 [.agg (encX v)] h (.bool (hasX v)) := by
  refine Pure.val (Clo.bool _) ?_
  have hX := encX_eq v
  have hc : (V.agg (encX v)).cells = some (encX v) := rfl
  have hd0 : dropC (AObj.cells (encX v) 47 none) 0 = some (encX v) := by rw [hX]; rfl
  have hl0 : loadGo (some none) (some (encX v)) = some (.int .i64 v.kind) := by rw [hX]; rfl
  have hd1 : dropC (AObj.cells (encX v) 47 none) 1 = some [.imm v.frm.length (i64V v.frm), .int .i64 v.e.op, .int .i64 v.e.num, .imm v.e.ks.length (v.e.ks.flatMap encE), .int .i64 v.n] := by rw [hX]; rfl
  have hd2 : dropC (AObj.cells (encX v) 47 none) 2 = some (encE v.e ++ [.int .i64 v.n]) := rfl
  have hl2 : loadGo (some none) (some (encE v.e ++ [.int .i64 v.n])) = some (.int .i64 v.e.op) := by obtain ⟨_, _, ⟨o, m, ks⟩, _⟩ := v; rw [encE_eq]; rfl
  have hld : loadGo (some (some 3)) (some (encE v.e ++ [.int .i64 v.n])) = some (.agg (encE v.e)) := load_row (encE_len v.e)
  have hd3 : dropC (AObj.cells (encX v) 47 none) 3 = some [.int .i64 v.e.num, .imm v.e.ks.length (v.e.ks.flatMap encE), .int .i64 v.n] := by rw [hX]; rfl
  have hd4 : dropC (AObj.cells (encX v) 47 none) 4 = some [.imm v.e.ks.length (v.e.ks.flatMap encE), .int .i64 v.n] := by rw [hX]; rfl
  have hd5 : dropC (AObj.cells (encX v) 47 none) 5 = some [.int .i64 v.n] := by rw [hX]; rfl
  obtain ⟨H, hH⟩ : ∃ x, x = h.push (.cells (encX v) 47 none) := ⟨_, rfl⟩
  have gv : H.get h.n = .cells (encX v) 47 none := by rw [hH]; exact get_push_new
  have kH : Keep h H none_ := by rw [hH]; exact Keep.push _ _ _
  have hl : (((v.e.ks.length : Nat) : Int) == 0) = v.e.ks.isEmpty := by cases v.e.ks <;> simp; omega
  have hz : exprX v.e 0 = (v.e.op == 0 && (v.e.num == 0 && v.e.ks.isEmpty)) := by simp [exprX]
  have hx2 : exprX v.e 2 = mayX v.e := by simp [exprX]
  have hx1 : exprX v.e 1 = (mayX v.e && !useX 5 v.e) := by simp [exprX]
  refine SCalls.enterI (c := _) Tryd.func61 rfl (by kernel_rfl) (by simp) ?_
  obtain ⟨c, hk⟩ : ∃ c, v.kind = c := ⟨_, rfl⟩
  have hcs : c = 1 ∨ c = 2 ∨ c = 3 ∨ c = 4 ∨ c = 5 ∨ c = 6 ∨ c = 7 ∨ c = 8 ∨ c = 9 ∨ c = 10 := by omega
  rw [hk] at hl0
  cases c1 : (v.e.op == 0)
  · have hzv : exprX v.e 0 = false := by rw [hz, c1]; rfl
    simp only [wpA_region, wpA_seq, seqQ_normal, goI_out, goI_ops, opsA_nil, opsA_cons, opsA_guardS, gvI_ft, slotAt_zero, slotAt_succ, stepA_move, stepA_assign, stepA_pick, stepA_box, stepA_load, stepA_binOp, stepA_fieldAddr, stepA_call, thenV_some, thenH_some, pickV_false, eval_tmp, eval_const, put_some, enterF_zero, enterF_succ, aBin_eql, absV_int, absV_bool, aField_eq, fieldGo_ptr, aLoad_eq, aPlace_ptr, aBox_eq, Nat.reduceEqDiff, List.map_cons, List.map_nil, Option.map_some, Nat.add_zero, Nat.zero_add, if_true, if_false, ft_45_0, ft_47_2, lt_3, lt_45, hc, ← hH, gv, hd2, hl2, hld, c1]
    refine callI_pure cal75 (pMayR v.e hok H) ?_
    rcases hcs with rfl | rfl | rfl | rfl | rfl | rfl | rfl | rfl | rfl | rfl
    · have hG : hasX v = (decide (((v.frm.length : Nat) : Int) = 0) && (exprX v.e 0 && (decide (0 ≤ v.n) && decide (v.n ≤ 7)))) := by unfold hasX; rw [hk]; rfl
      cases q1 : (((v.frm.length : Nat) : Int) == 0)
      · have d1 : decide (((v.frm.length : Nat) : Int) = 0) = false := by simpa using q1
        simp only [wpA_region, wpA_seq, wpA_cond, wpA_block, wpA_ret, condI_true, seqQ_normal, seqQ_ret, blkQ_ret, endI_mk, goI_out, goI_ops, opsA_nil, opsA_cons, opsA_guardS, gvI_ft, slotAt_zero, slotAt_succ, stepA_move, stepA_assign, stepA_pick, stepA_load, stepA_binOp, stepA_fieldAddr, stepA_len, thenV_some, pickV_false, eval_tmp, eval_const, put_some, enterF_succ, aBin_eql, absV_int, absV_bool, aField_eq, fieldGo_ptr, aLoad_eq, loadGo_one, aPlace_ptr, aLen_imm, beq_self_eq_true, Nat.reduceEqDiff, Nat.add_zero, Nat.zero_add, if_true, if_false, ft_47_0, ft_47_1, kt_33, lt_3, lt_33, gv, hd0, hd1, hl0, q1, retA_ret, Tryd.results61, resultsA_1]
        exact hid_mk ⟨by rw [hG, d1]; rfl, kH⟩
      have d1 : decide (((v.frm.length : Nat) : Int) = 0) = true := by simpa using q1
      rw [d1, Bool.true_and] at hG
      simp only [wpA_region, wpA_seq, wpA_cond, wpA_block, wpA_ret, condI_true, seqQ_normal, seqQ_ret, blkQ_ret, endI_mk, goI_out, goI_ops, opsA_nil, opsA_cons, opsA_guardS, gvI_same, gvI_ft, slotAt_zero, slotAt_succ, stepA_move, stepA_assign, stepA_pick, stepA_load, stepA_binOp, stepA_fieldAddr, stepA_len, thenV_some, pickV_true, pickV_false, eval_tmp, eval_const, put_some, enterF_succ, aBin_eql, absV_int, absV_bool, aField_eq, fieldGo_ptr, aLoad_eq, loadGo_one, aPlace_ptr, aLen_imm, beq_self_eq_true, Nat.reduceEqDiff, Nat.add_zero, Nat.zero_add, if_true, if_false, ft_47_0, ft_47_1, kt_33, lt_3, lt_33, gv, hd0, hd1, hl0, q1, retA_ret, Tryd.results61, resultsA_1]
      exact hid_mk ⟨by rw [hG, hzv]; rfl, kH⟩
    · have hG : hasX v = (decide (((v.frm.length : Nat) : Int) = 1) && (exprX v.e 1 && (decide (0 ≤ v.n) && decide (v.n ≤ 0)))) := by unfold hasX; rw [hk]; rfl
      cases q1 : (((v.frm.length : Nat) : Int) == 1)
      · have d1 : decide (((v.frm.length : Nat) : Int) = 1) = false := by simpa using q1
        simp only [wpA_skip, wpA_region, wpA_seq, wpA_cond, wpA_block, wpA_ret, condI_true, condI_false, seqQ_normal, seqQ_ret, blkQ_ret, endI_mk, goI_out, goI_ops, opsA_nil, opsA_cons, opsA_guardS, gvI_ft, slotAt_zero, slotAt_succ, stepA_move, stepA_assign, stepA_pick, stepA_load, stepA_binOp, stepA_fieldAddr, stepA_len, thenV_some, pickV_false, eval_tmp, eval_const, put_some, enterF_succ, aBin_eql, absV_int, absV_bool, aField_eq, fieldGo_ptr, aLoad_eq, loadGo_one, aPlace_ptr, aLen_imm, Int.reduceBEq, beq_self_eq_true, Nat.reduceEqDiff, Nat.add_zero, Nat.zero_add, if_true, if_false, ft_47_0, ft_47_1, kt_33, lt_3, lt_33, gv, hd0, hd1, hl0, q1, retA_ret, Tryd.results61, resultsA_1]
        exact hid_mk ⟨by rw [hG, d1]; rfl, kH⟩
      have d1 : decide (((v.frm.length : Nat) : Int) = 1) = true := by simpa using q1
      rw [d1, Bool.true_and] at hG
      rw [hx1] at hG
      cases q2 : mayX v.e
      · simp only [wpA_skip, wpA_region, wpA_seq, wpA_cond, wpA_block, wpA_ret, condI_true, condI_false, seqQ_normal, seqQ_ret, blkQ_ret, endI_mk, goI_out, goI_ops, opsA_nil, opsA_cons, opsA_guardS, gvI_same, gvI_ft, slotAt_zero, slotAt_succ, stepA_move, stepA_assign, stepA_pick, stepA_load, stepA_binOp, stepA_fieldAddr, stepA_len, thenV_some, pickV_true, pickV_false, eval_tmp, eval_const, put_some, enterF_succ, aBin_eql, absV_int, absV_bool, aField_eq, fieldGo_ptr, aLoad_eq, loadGo_one, aPlace_ptr, aLen_imm, Int.reduceBEq, beq_self_eq_true, Nat.reduceEqDiff, Nat.add_zero, Nat.zero_add, if_true, if_false, ft_47_0, ft_47_1, kt_33, lt_3, lt_33, gv, hd0, hd1, hl0, q1, retA_ret, Tryd.results61, resultsA_1]
        exact hid_mk ⟨by rw [hG, q2]; rfl, kH⟩
      rw [q2, Bool.true_and] at hG
      have hn0 : (decide (0 ≤ v.n) && decide (v.n ≤ 0)) = (v.n == 0) := by rw [Bool.eq_iff_iff]; simp; omega
      rw [hn0] at hG
      cases q3 : (v.n == 0)
      · simp only [wpA_skip, wpA_region, wpA_seq, wpA_cond, wpA_block, wpA_ret, condI_true, condI_false, seqQ_normal, seqQ_ret, blkQ_ret, endI_mk, goI_out, goI_ops, opsA_nil, opsA_cons, opsA_guardS, gvI_same, gvI_ft, slotAt_zero, slotAt_succ, stepA_move, stepA_assign, stepA_pick, stepA_load, stepA_binOp, stepA_fieldAddr, stepA_len, thenV_some, pickV_true, pickV_false, eval_tmp, eval_const, put_some, enterF_succ, aBin_eql, absV_int, absV_bool, aField_eq, fieldGo_ptr, aLoad_eq, loadGo_one, aPlace_ptr, aLen_imm, Int.reduceBEq, beq_self_eq_true, Nat.reduceEqDiff, Nat.add_zero, Nat.zero_add, if_true, if_false, ft_47_0, ft_47_1, ft_47_3, kt_33, lt_2, lt_3, lt_33, gv, hd0, hd1, hd5, hl0, q1, q3, retA_ret, Tryd.results61, resultsA_1]
        exact hid_mk ⟨by rw [hG, q3, Bool.and_false], kH⟩
      · simp only [wpA_skip, wpA_region, wpA_seq, wpA_cond, wpA_block, condI_true, condI_false, seqQ_normal, goI_out, goI_ops, opsA_nil, opsA_cons, opsA_guardS, gvI_same, slotAt_zero, slotAt_succ, stepA_move, stepA_assign, stepA_pick, stepA_load, stepA_binOp, stepA_fieldAddr, stepA_len, stepA_call, thenV_some, pickV_true, eval_tmp, eval_const, put_some, enterF_succ, aBin_eql, absV_int, absV_bool, aField_eq, fieldGo_ptr, aLoad_eq, loadGo_one, aPlace_ptr, aLen_imm, Int.reduceBEq, beq_self_eq_true, Nat.reduceEqDiff, List.map_cons, List.map_nil, Nat.add_zero, Nat.zero_add, if_true, if_false, ft_47_0, ft_47_1, ft_47_2, ft_47_3, kt_33, lt_2, lt_3, lt_33, lt_45, gv, hd0, hd1, hd2, hld, hd5, hl0, q1, q3]
        refine callI_pure cal76 (pUsesR 5 _ v.e H rfl hok) ?_
        simp only [wpA_ret, seqQ_normal, seqQ_ret, blkQ_ret, endI_mk, goI_out, goI_ops, opsA_nil, opsA_cons, opsA_guardS, gvI_same, slotAt_zero, slotAt_succ, stepA_assign, stepA_pick, stepA_unOp, thenV_some, pickV_true, eval_tmp, eval_const, put_some, enterF_succ, aUn_not, absV_bool, Nat.reduceEqDiff, if_true, if_false, retA_ret, Tryd.results61, resultsA_1]
        exact hid_mk ⟨by rw [hG, q3, Bool.and_true], kH⟩
    · have hG : hasX v = (decide (((v.frm.length : Nat) : Int) = 1) && (exprX v.e 1 && (decide (0 ≤ v.n) && decide (v.n ≤ 0)))) := by unfold hasX; rw [hk]; rfl
      cases q1 : (((v.frm.length : Nat) : Int) == 1)
      · have d1 : decide (((v.frm.length : Nat) : Int) = 1) = false := by simpa using q1
        simp only [wpA_skip, wpA_region, wpA_seq, wpA_cond, wpA_block, wpA_ret, condI_true, condI_false, seqQ_normal, seqQ_ret, blkQ_ret, endI_mk, goI_out, goI_ops, opsA_nil, opsA_cons, opsA_guardS, gvI_ft, slotAt_zero, slotAt_succ, stepA_move, stepA_assign, stepA_pick, stepA_load, stepA_binOp, stepA_fieldAddr, stepA_len, thenV_some, pickV_false, eval_tmp, eval_const, put_some, enterF_succ, aBin_eql, absV_int, absV_bool, aField_eq, fieldGo_ptr, aLoad_eq, loadGo_one, aPlace_ptr, aLen_imm, Int.reduceBEq, beq_self_eq_true, Nat.reduceEqDiff, Nat.add_zero, Nat.zero_add, if_true, if_false, ft_47_0, ft_47_1, kt_33, lt_3, lt_33, gv, hd0, hd1, hl0, q1, retA_ret, Tryd.results61, resultsA_1]
        exact hid_mk ⟨by rw [hG, d1]; rfl, kH⟩
      have d1 : decide (((v.frm.length : Nat) : Int) = 1) = true := by simpa using q1
      rw [d1, Bool.true_and] at hG
      rw [hx1] at hG
      cases q2 : mayX v.e
      · simp only [wpA_skip, wpA_region, wpA_seq, wpA_cond, wpA_block, wpA_ret, condI_true, condI_false, seqQ_normal, seqQ_ret, blkQ_ret, endI_mk, goI_out, goI_ops, opsA_nil, opsA_cons, opsA_guardS, gvI_same, gvI_ft, slotAt_zero, slotAt_succ, stepA_move, stepA_assign, stepA_pick, stepA_load, stepA_binOp, stepA_fieldAddr, stepA_len, thenV_some, pickV_true, pickV_false, eval_tmp, eval_const, put_some, enterF_succ, aBin_eql, absV_int, absV_bool, aField_eq, fieldGo_ptr, aLoad_eq, loadGo_one, aPlace_ptr, aLen_imm, Int.reduceBEq, beq_self_eq_true, Nat.reduceEqDiff, Nat.add_zero, Nat.zero_add, if_true, if_false, ft_47_0, ft_47_1, kt_33, lt_3, lt_33, gv, hd0, hd1, hl0, q1, retA_ret, Tryd.results61, resultsA_1]
        exact hid_mk ⟨by rw [hG, q2]; rfl, kH⟩
      rw [q2, Bool.true_and] at hG
      have hn0 : (decide (0 ≤ v.n) && decide (v.n ≤ 0)) = (v.n == 0) := by rw [Bool.eq_iff_iff]; simp; omega
      rw [hn0] at hG
      cases q3 : (v.n == 0)
      · simp only [wpA_skip, wpA_region, wpA_seq, wpA_cond, wpA_block, wpA_ret, condI_true, condI_false, seqQ_normal, seqQ_ret, blkQ_ret, endI_mk, goI_out, goI_ops, opsA_nil, opsA_cons, opsA_guardS, gvI_same, gvI_ft, slotAt_zero, slotAt_succ, stepA_move, stepA_assign, stepA_pick, stepA_load, stepA_binOp, stepA_fieldAddr, stepA_len, thenV_some, pickV_true, pickV_false, eval_tmp, eval_const, put_some, enterF_succ, aBin_eql, absV_int, absV_bool, aField_eq, fieldGo_ptr, aLoad_eq, loadGo_one, aPlace_ptr, aLen_imm, Int.reduceBEq, beq_self_eq_true, Nat.reduceEqDiff, Nat.add_zero, Nat.zero_add, if_true, if_false, ft_47_0, ft_47_1, ft_47_3, kt_33, lt_2, lt_3, lt_33, gv, hd0, hd1, hd5, hl0, q1, q3, retA_ret, Tryd.results61, resultsA_1]
        exact hid_mk ⟨by rw [hG, q3, Bool.and_false], kH⟩
      · simp only [wpA_skip, wpA_region, wpA_seq, wpA_cond, wpA_block, condI_true, condI_false, seqQ_normal, goI_out, goI_ops, opsA_nil, opsA_cons, opsA_guardS, gvI_same, slotAt_zero, slotAt_succ, stepA_move, stepA_assign, stepA_pick, stepA_load, stepA_binOp, stepA_fieldAddr, stepA_len, stepA_call, thenV_some, pickV_true, eval_tmp, eval_const, put_some, enterF_succ, aBin_eql, absV_int, absV_bool, aField_eq, fieldGo_ptr, aLoad_eq, loadGo_one, aPlace_ptr, aLen_imm, Int.reduceBEq, beq_self_eq_true, Nat.reduceEqDiff, List.map_cons, List.map_nil, Nat.add_zero, Nat.zero_add, if_true, if_false, ft_47_0, ft_47_1, ft_47_2, ft_47_3, kt_33, lt_2, lt_3, lt_33, lt_45, gv, hd0, hd1, hd2, hld, hd5, hl0, q1, q3]
        refine callI_pure cal76 (pUsesR 5 _ v.e H rfl hok) ?_
        simp only [wpA_ret, seqQ_normal, seqQ_ret, blkQ_ret, endI_mk, goI_out, goI_ops, opsA_nil, opsA_cons, opsA_guardS, gvI_same, slotAt_zero, slotAt_succ, stepA_assign, stepA_pick, stepA_unOp, thenV_some, pickV_true, eval_tmp, eval_const, put_some, enterF_succ, aUn_not, absV_bool, Nat.reduceEqDiff, if_true, if_false, retA_ret, Tryd.results61, resultsA_1]
        exact hid_mk ⟨by rw [hG, q3, Bool.and_true], kH⟩
    · have hG : hasX v = (decide (((v.frm.length : Nat) : Int) = 1) && (exprX v.e 1 && (decide (0 ≤ v.n) && decide (v.n ≤ 0)))) := by unfold hasX; rw [hk]; rfl
      cases q1 : (((v.frm.length : Nat) : Int) == 1)
      · have d1 : decide (((v.frm.length : Nat) : Int) = 1) = false := by simpa using q1
        simp only [wpA_skip, wpA_region, wpA_seq, wpA_cond, wpA_block, wpA_ret, condI_true, condI_false, seqQ_normal, seqQ_ret, blkQ_ret, endI_mk, goI_out, goI_ops, opsA_nil, opsA_cons, opsA_guardS, gvI_ft, slotAt_zero, slotAt_succ, stepA_move, stepA_assign, stepA_pick, stepA_load, stepA_binOp, stepA_fieldAddr, stepA_len, thenV_some, pickV_false, eval_tmp, eval_const, put_some, enterF_succ, aBin_eql, absV_int, absV_bool, aField_eq, fieldGo_ptr, aLoad_eq, loadGo_one, aPlace_ptr, aLen_imm, Int.reduceBEq, beq_self_eq_true, Nat.reduceEqDiff, Nat.add_zero, Nat.zero_add, if_true, if_false, ft_47_0, ft_47_1, kt_33, lt_3, lt_33, gv, hd0, hd1, hl0, q1, retA_ret, Tryd.results61, resultsA_1]
        exact hid_mk ⟨by rw [hG, d1]; rfl, kH⟩
      have d1 : decide (((v.frm.length : Nat) : Int) = 1) = true := by simpa using q1
      rw [d1, Bool.true_and] at hG
      rw [hx1] at hG
      cases q2 : mayX v.e
      · simp only [wpA_skip, wpA_region, wpA_seq, wpA_cond, wpA_block, wpA_ret, condI_true, condI_false, seqQ_normal, seqQ_ret, blkQ_ret, endI_mk, goI_out, goI_ops, opsA_nil, opsA_cons, opsA_guardS, gvI_same, gvI_ft, slotAt_zero, slotAt_succ, stepA_move, stepA_assign, stepA_pick, stepA_load, stepA_binOp, stepA_fieldAddr, stepA_len, thenV_some, pickV_true, pickV_false, eval_tmp, eval_const, put_some, enterF_succ, aBin_eql, absV_int, absV_bool, aField_eq, fieldGo_ptr, aLoad_eq, loadGo_one, aPlace_ptr, aLen_imm, Int.reduceBEq, beq_self_eq_true, Nat.reduceEqDiff, Nat.add_zero, Nat.zero_add, if_true, if_false, ft_47_0, ft_47_1, kt_33, lt_3, lt_33, gv, hd0, hd1, hl0, q1, retA_ret, Tryd.results61, resultsA_1]
        exact hid_mk ⟨by rw [hG, q2]; rfl, kH⟩
      rw [q2, Bool.true_and] at hG
      have hn0 : (decide (0 ≤ v.n) && decide (v.n ≤ 0)) = (v.n == 0) := by rw [Bool.eq_iff_iff]; simp; omega
      rw [hn0] at hG
      cases q3 : (v.n == 0)
      · simp only [wpA_skip, wpA_region, wpA_seq, wpA_cond, wpA_block, wpA_ret, condI_true, condI_false, seqQ_normal, seqQ_ret, blkQ_ret, endI_mk, goI_out, goI_ops, opsA_nil, opsA_cons, opsA_guardS, gvI_same, gvI_ft, slotAt_zero, slotAt_succ, stepA_move, stepA_assign, stepA_pick, stepA_load, stepA_binOp, stepA_fieldAddr, stepA_len, thenV_some, pickV_true, pickV_false, eval_tmp, eval_const, put_some, enterF_succ, aBin_eql, absV_int, absV_bool, aField_eq, fieldGo_ptr, aLoad_eq, loadGo_one, aPlace_ptr, aLen_imm, Int.reduceBEq, beq_self_eq_true, Nat.reduceEqDiff, Nat.add_zero, Nat.zero_add, if_true, if_false, ft_47_0, ft_47_1, ft_47_3, kt_33, lt_2, lt_3, lt_33, gv, hd0, hd1, hd5, hl0, q1, q3, retA_ret, Tryd.results61, resultsA_1]
        exact hid_mk ⟨by rw [hG, q3, Bool.and_false], kH⟩
      · simp only [wpA_skip, wpA_region, wpA_seq, wpA_cond, wpA_block, condI_true, condI_false, seqQ_normal, goI_out, goI_ops, opsA_nil, opsA_cons, opsA_guardS, gvI_same, slotAt_zero, slotAt_succ, stepA_move, stepA_assign, stepA_pick, stepA_load, stepA_binOp, stepA_fieldAddr, stepA_len, stepA_call, thenV_some, pickV_true, eval_tmp, eval_const, put_some, enterF_succ, aBin_eql, absV_int, absV_bool, aField_eq, fieldGo_ptr, aLoad_eq, loadGo_one, aPlace_ptr, aLen_imm, Int.reduceBEq, beq_self_eq_true, Nat.reduceEqDiff, List.map_cons, List.map_nil, Nat.add_zero, Nat.zero_add, if_true, if_false, ft_47_0, ft_47_1, ft_47_2, ft_47_3, kt_33, lt_2, lt_3, lt_33, lt_45, gv, hd0, hd1, hd2, hld, hd5, hl0, q1, q3]
        refine callI_pure cal76 (pUsesR 5 _ v.e H rfl hok) ?_
        simp only [wpA_ret, seqQ_normal, seqQ_ret, blkQ_ret, endI_mk, goI_out, goI_ops, opsA_nil, opsA_cons, opsA_guardS, gvI_same, slotAt_zero, slotAt_succ, stepA_assign, stepA_pick, stepA_unOp, thenV_some, pickV_true, eval_tmp, eval_const, put_some, enterF_succ, aUn_not, absV_bool, Nat.reduceEqDiff, if_true, if_false, retA_ret, Tryd.results61, resultsA_1]
        exact hid_mk ⟨by rw [hG, q3, Bool.and_true], kH⟩
    · have hG : hasX v = (decide (((v.frm.length : Nat) : Int) = 1) && (exprX v.e 1 && (decide (0 ≤ v.n) && decide (v.n ≤ 0)))) := by unfold hasX; rw [hk]; rfl
      cases q1 : (((v.frm.length : Nat) : Int) == 1)
      · have d1 : decide (((v.frm.length : Nat) : Int) = 1) = false := by simpa using q1
        simp only [wpA_region, wpA_seq, wpA_cond, wpA_block, wpA_ret, condI_true, condI_false, seqQ_normal, seqQ_ret, blkQ_ret, endI_mk, goI_out, goI_ops, opsA_nil, opsA_cons, opsA_guardS, gvI_ft, slotAt_zero, slotAt_succ, stepA_move, stepA_assign, stepA_pick, stepA_load, stepA_binOp, stepA_fieldAddr, stepA_len, thenV_some, pickV_false, eval_tmp, eval_const, put_some, enterF_succ, aBin_eql, absV_int, absV_bool, aField_eq, fieldGo_ptr, aLoad_eq, loadGo_one, aPlace_ptr, aLen_imm, Int.reduceBEq, beq_self_eq_true, Nat.reduceEqDiff, Nat.add_zero, Nat.zero_add, if_true, if_false, ft_47_0, ft_47_1, kt_33, lt_3, lt_33, gv, hd0, hd1, hl0, q1, retA_ret, Tryd.results61, resultsA_1]
        exact hid_mk ⟨by rw [hG, d1]; rfl, kH⟩
      have d1 : decide (((v.frm.length : Nat) : Int) = 1) = true := by simpa using q1
      rw [d1, Bool.true_and] at hG
      rw [hx1] at hG
      cases q2 : mayX v.e
      · simp only [wpA_region, wpA_seq, wpA_cond, wpA_block, wpA_ret, condI_true, condI_false, seqQ_normal, seqQ_ret, blkQ_ret, endI_mk, goI_out, goI_ops, opsA_nil, opsA_cons, opsA_guardS, gvI_same, gvI_ft, slotAt_zero, slotAt_succ, stepA_move, stepA_assign, stepA_pick, stepA_load, stepA_binOp, stepA_fieldAddr, stepA_len, thenV_some, pickV_true, pickV_false, eval_tmp, eval_const, put_some, enterF_succ, aBin_eql, absV_int, absV_bool, aField_eq, fieldGo_ptr, aLoad_eq, loadGo_one, aPlace_ptr, aLen_imm, Int.reduceBEq, beq_self_eq_true, Nat.reduceEqDiff, Nat.add_zero, Nat.zero_add, if_true, if_false, ft_47_0, ft_47_1, kt_33, lt_3, lt_33, gv, hd0, hd1, hl0, q1, retA_ret, Tryd.results61, resultsA_1]
        exact hid_mk ⟨by rw [hG, q2]; rfl, kH⟩
      rw [q2, Bool.true_and] at hG
      have hn0 : (decide (0 ≤ v.n) && decide (v.n ≤ 0)) = (v.n == 0) := by rw [Bool.eq_iff_iff]; simp; omega
      rw [hn0] at hG
      cases q3 : (v.n == 0)
      · simp only [wpA_region, wpA_seq, wpA_cond, wpA_block, wpA_ret, condI_true, condI_false, seqQ_normal, seqQ_ret, blkQ_ret, endI_mk, goI_out, goI_ops, opsA_nil, opsA_cons, opsA_guardS, gvI_same, gvI_ft, slotAt_zero, slotAt_succ, stepA_move, stepA_assign, stepA_pick, stepA_load, stepA_binOp, stepA_fieldAddr, stepA_len, thenV_some, pickV_true, pickV_false, eval_tmp, eval_const, put_some, enterF_succ, aBin_eql, absV_int, absV_bool, aField_eq, fieldGo_ptr, aLoad_eq, loadGo_one, aPlace_ptr, aLen_imm, Int.reduceBEq, beq_self_eq_true, Nat.reduceEqDiff, Nat.add_zero, Nat.zero_add, if_true, if_false, ft_47_0, ft_47_1, ft_47_3, kt_33, lt_2, lt_3, lt_33, gv, hd0, hd1, hd5, hl0, q1, q3, retA_ret, Tryd.results61, resultsA_1]
        exact hid_mk ⟨by rw [hG, q3, Bool.and_false], kH⟩
      · simp only [wpA_region, wpA_seq, wpA_cond, wpA_block, condI_true, condI_false, seqQ_normal, goI_out, goI_ops, opsA_nil, opsA_cons, opsA_guardS, gvI_same, slotAt_zero, slotAt_succ, stepA_move, stepA_assign, stepA_pick, stepA_load, stepA_binOp, stepA_fieldAddr, stepA_len, stepA_call, thenV_some, pickV_true, eval_tmp, eval_const, put_some, enterF_succ, aBin_eql, absV_int, absV_bool, aField_eq, fieldGo_ptr, aLoad_eq, loadGo_one, aPlace_ptr, aLen_imm, Int.reduceBEq, beq_self_eq_true, Nat.reduceEqDiff, List.map_cons, List.map_nil, Nat.add_zero, Nat.zero_add, if_true, if_false, ft_47_0, ft_47_1, ft_47_2, ft_47_3, kt_33, lt_2, lt_3, lt_33, lt_45, gv, hd0, hd1, hd2, hld, hd5, hl0, q1, q3]
        refine callI_pure cal76 (pUsesR 5 _ v.e H rfl hok) ?_
        simp only [wpA_ret, seqQ_normal, seqQ_ret, blkQ_ret, endI_mk, goI_out, goI_ops, opsA_nil, opsA_cons, opsA_guardS, gvI_same, slotAt_zero, slotAt_succ, stepA_assign, stepA_pick, stepA_unOp, thenV_some, pickV_true, eval_tmp, eval_const, put_some, enterF_succ, aUn_not, absV_bool, Nat.reduceEqDiff, if_true, if_false, retA_ret, Tryd.results61, resultsA_1]
        exact hid_mk ⟨by rw [hG, q3, Bool.and_true], kH⟩
    · have hG : hasX v = (decide (((v.frm.length : Nat) : Int) = 1) && (exprX v.e 2 && (decide (0 ≤ v.n) && decide (v.n ≤ 0)))) := by unfold hasX; rw [hk]; rfl
      cases q1 : (((v.frm.length : Nat) : Int) == 1)
      · have d1 : decide (((v.frm.length : Nat) : Int) = 1) = false := by simpa using q1
        simp only [wpA_region, wpA_seq, wpA_cond, wpA_block, wpA_ret, condI_true, condI_false, seqQ_normal, seqQ_ret, blkQ_ret, endI_mk, goI_out, goI_ops, opsA_nil, opsA_cons, opsA_guardS, gvI_ft, slotAt_zero, slotAt_succ, stepA_move, stepA_assign, stepA_pick, stepA_load, stepA_binOp, stepA_fieldAddr, stepA_len, thenV_some, pickV_false, eval_tmp, eval_const, put_some, enterF_succ, aBin_eql, absV_int, absV_bool, aField_eq, fieldGo_ptr, aLoad_eq, loadGo_one, aPlace_ptr, aLen_imm, Int.reduceBEq, beq_self_eq_true, Nat.reduceEqDiff, Nat.add_zero, Nat.zero_add, if_true, if_false, ft_47_0, ft_47_1, kt_33, lt_3, lt_33, gv, hd0, hd1, hl0, q1, retA_ret, Tryd.results61, resultsA_1]
        exact hid_mk ⟨by rw [hG, d1]; rfl, kH⟩
      have d1 : decide (((v.frm.length : Nat) : Int) = 1) = true := by simpa using q1
      rw [d1, Bool.true_and] at hG
      rw [hx2] at hG
      cases q2 : mayX v.e
      · simp only [wpA_region, wpA_seq, wpA_cond, wpA_block, wpA_ret, condI_true, condI_false, seqQ_normal, seqQ_ret, blkQ_ret, endI_mk, goI_out, goI_ops, opsA_nil, opsA_cons, opsA_guardS, gvI_same, gvI_ft, slotAt_zero, slotAt_succ, stepA_move, stepA_assign, stepA_pick, stepA_load, stepA_binOp, stepA_fieldAddr, stepA_len, thenV_some, pickV_true, pickV_false, eval_tmp, eval_const, put_some, enterF_succ, aBin_eql, absV_int, absV_bool, aField_eq, fieldGo_ptr, aLoad_eq, loadGo_one, aPlace_ptr, aLen_imm, Int.reduceBEq, beq_self_eq_true, Nat.reduceEqDiff, Nat.add_zero, Nat.zero_add, if_true, if_false, ft_47_0, ft_47_1, kt_33, lt_3, lt_33, gv, hd0, hd1, hl0, q1, retA_ret, Tryd.results61, resultsA_1]
        exact hid_mk ⟨by rw [hG, q2]; rfl, kH⟩
      rw [q2, Bool.true_and] at hG
      have hn0 : (decide (0 ≤ v.n) && decide (v.n ≤ 0)) = (v.n == 0) := by rw [Bool.eq_iff_iff]; simp; omega
      rw [hn0] at hG
      simp only [wpA_region, wpA_seq, wpA_cond, wpA_block, wpA_ret, condI_true, condI_false, seqQ_normal, seqQ_ret, blkQ_ret, endI_mk, goI_out, goI_ops, opsA_nil, opsA_cons, opsA_guardS, gvI_same, slotAt_zero, slotAt_succ, stepA_move, stepA_assign, stepA_pick, stepA_load, stepA_binOp, stepA_fieldAddr, stepA_len, thenV_some, pickV_true, eval_tmp, eval_const, put_some, enterF_succ, aBin_eql, absV_int, absV_bool, aField_eq, fieldGo_ptr, aLoad_eq, loadGo_one, aPlace_ptr, aLen_imm, Int.reduceBEq, beq_self_eq_true, Nat.reduceEqDiff, Nat.add_zero, Nat.zero_add, if_true, if_false, ft_47_0, ft_47_1, ft_47_3, kt_33, lt_2, lt_3, lt_33, gv, hd0, hd1, hd5, hl0, q1, retA_ret, Tryd.results61, resultsA_1]
      exact hid_mk ⟨by rw [hG], kH⟩
    · have hG : hasX v = (decide (((v.frm.length : Nat) : Int) = 1) && (exprX v.e 2 && (decide (1 ≤ v.n) && decide (v.n ≤ 1048576)))) := by unfold hasX; rw [hk]; rfl
      cases q1 : (((v.frm.length : Nat) : Int) == 1)
      · have d1 : decide (((v.frm.length : Nat) : Int) = 1) = false := by simpa using q1
        simp only [wpA_skip, wpA_region, wpA_seq, wpA_cond, wpA_block, wpA_ret, condI_false, seqQ_normal, blkQ_normal, endI_mk, goI_out, goI_ops, opsA_nil, opsA_cons, opsA_guardS, gvI_ft, slotAt_zero, slotAt_succ, stepA_move, stepA_assign, stepA_pick, stepA_load, stepA_binOp, stepA_fieldAddr, stepA_len, thenV_some, pickV_false, eval_tmp, eval_const, put_some, enterF_succ, aBin_eql, absV_int, absV_bool, aField_eq, fieldGo_ptr, aLoad_eq, loadGo_one, aPlace_ptr, aLen_imm, Int.reduceBEq, Nat.reduceEqDiff, Nat.add_zero, Nat.zero_add, if_true, if_false, ft_47_0, ft_47_1, kt_33, lt_3, lt_33, gv, hd0, hd1, hl0, q1, retA_ret, Tryd.results61, resultsA_1]
        exact hid_mk ⟨by rw [hG, d1]; rfl, kH⟩
      have d1 : decide (((v.frm.length : Nat) : Int) = 1) = true := by simpa using q1
      rw [d1, Bool.true_and] at hG
      rw [hx2] at hG
      cases q2 : mayX v.e
      · simp only [wpA_skip, wpA_region, wpA_seq, wpA_cond, wpA_block, wpA_ret, condI_false, seqQ_normal, blkQ_normal, endI_mk, goI_out, goI_ops, opsA_nil, opsA_cons, opsA_guardS, gvI_same, gvI_ft, slotAt_zero, slotAt_succ, stepA_move, stepA_assign, stepA_pick, stepA_load, stepA_binOp, stepA_fieldAddr, stepA_len, thenV_some, pickV_true, pickV_false, eval_tmp, eval_const, put_some, enterF_succ, aBin_eql, absV_int, absV_bool, aField_eq, fieldGo_ptr, aLoad_eq, loadGo_one, aPlace_ptr, aLen_imm, Int.reduceBEq, Nat.reduceEqDiff, Nat.add_zero, Nat.zero_add, if_true, if_false, ft_47_0, ft_47_1, kt_33, lt_3, lt_33, gv, hd0, hd1, hl0, q1, retA_ret, Tryd.results61, resultsA_1]
        exact hid_mk ⟨by rw [hG, q2]; rfl, kH⟩
      rw [q2, Bool.true_and] at hG
      cases q3 : decide (1 ≤ v.n)
      · simp only [wpA_skip, wpA_region, wpA_seq, wpA_cond, wpA_block, wpA_ret, condI_false, seqQ_normal, blkQ_normal, endI_mk, goI_out, goI_ops, opsA_nil, opsA_cons, opsA_guardS, gvI_same, gvI_ft, slotAt_zero, slotAt_succ, stepA_move, stepA_assign, stepA_pick, stepA_load, stepA_binOp, stepA_fieldAddr, stepA_len, thenV_some, pickV_true, pickV_false, eval_tmp, eval_const, put_some, enterF_succ, aBin_eql, aBin_geq, absV_int, absV_bool, aField_eq, fieldGo_ptr, aLoad_eq, loadGo_one, aPlace_ptr, aLen_imm, Int.reduceBEq, Nat.reduceEqDiff, Nat.add_zero, Nat.zero_add, if_true, if_false, ft_47_0, ft_47_1, ft_47_3, kt_33, lt_2, lt_3, lt_33, gv, hd0, hd1, hd5, hl0, q1, q3, retA_ret, Tryd.results61, resultsA_1]
        exact hid_mk ⟨by rw [hG, q3]; rfl, kH⟩
      · simp only [wpA_skip, wpA_region, wpA_seq, wpA_cond, wpA_block, wpA_ret, condI_false, seqQ_normal, blkQ_normal, endI_mk, goI_out, goI_ops, opsA_nil, opsA_cons, opsA_guardS, gvI_same, slotAt_zero, slotAt_succ, stepA_move, stepA_assign, stepA_pick, stepA_load, stepA_binOp, stepA_fieldAddr, stepA_len, thenV_some, pickV_true, eval_tmp, eval_const, put_some, enterF_succ, aBin_eql, aBin_leq, aBin_geq, absV_int, absV_bool, aField_eq, fieldGo_ptr, aLoad_eq, loadGo_one, aPlace_ptr, aLen_imm, Int.reduceBEq, Nat.reduceEqDiff, Nat.add_zero, Nat.zero_add, if_true, if_false, ft_47_0, ft_47_1, ft_47_3, kt_33, lt_2, lt_3, lt_33, gv, hd0, hd1, hd5, hl0, q1, q3, retA_ret, Tryd.results61, resultsA_1]
        exact hid_mk ⟨by rw [hG, q3]; rfl, kH⟩
    · have hG : hasX v = (decide (((v.frm.length : Nat) : Int) = 1) && (exprX v.e 2 && (decide (1 ≤ v.n) && decide (v.n ≤ 1048576)))) := by unfold hasX; rw [hk]; rfl
      cases q1 : (((v.frm.length : Nat) : Int) == 1)
      · have d1 : decide (((v.frm.length : Nat) : Int) = 1) = false := by simpa using q1
        simp only [wpA_skip, wpA_region, wpA_seq, wpA_cond, wpA_block, wpA_ret, condI_false, seqQ_normal, blkQ_normal, endI_mk, goI_out, goI_ops, opsA_nil, opsA_cons, opsA_guardS, gvI_ft, slotAt_zero, slotAt_succ, stepA_move, stepA_assign, stepA_pick, stepA_load, stepA_binOp, stepA_fieldAddr, stepA_len, thenV_some, pickV_false, eval_tmp, eval_const, put_some, enterF_succ, aBin_eql, absV_int, absV_bool, aField_eq, fieldGo_ptr, aLoad_eq, loadGo_one, aPlace_ptr, aLen_imm, Int.reduceBEq, Nat.reduceEqDiff, Nat.add_zero, Nat.zero_add, if_true, if_false, ft_47_0, ft_47_1, kt_33, lt_3, lt_33, gv, hd0, hd1, hl0, q1, retA_ret, Tryd.results61, resultsA_1]
        exact hid_mk ⟨by rw [hG, d1]; rfl, kH⟩
      have d1 : decide (((v.frm.length : Nat) : Int) = 1) = true := by simpa using q1
      rw [d1, Bool.true_and] at hG
      rw [hx2] at hG
      cases q2 : mayX v.e
      · simp only [wpA_skip, wpA_region, wpA_seq, wpA_cond, wpA_block, wpA_ret, condI_false, seqQ_normal, blkQ_normal, endI_mk, goI_out, goI_ops, opsA_nil, opsA_cons, opsA_guardS, gvI_same, gvI_ft, slotAt_zero, slotAt_succ, stepA_move, stepA_assign, stepA_pick, stepA_load, stepA_binOp, stepA_fieldAddr, stepA_len, thenV_some, pickV_true, pickV_false, eval_tmp, eval_const, put_some, enterF_succ, aBin_eql, absV_int, absV_bool, aField_eq, fieldGo_ptr, aLoad_eq, loadGo_one, aPlace_ptr, aLen_imm, Int.reduceBEq, Nat.reduceEqDiff, Nat.add_zero, Nat.zero_add, if_true, if_false, ft_47_0, ft_47_1, kt_33, lt_3, lt_33, gv, hd0, hd1, hl0, q1, retA_ret, Tryd.results61, resultsA_1]
        exact hid_mk ⟨by rw [hG, q2]; rfl, kH⟩
      rw [q2, Bool.true_and] at hG
      cases q3 : decide (1 ≤ v.n)
      · simp only [wpA_skip, wpA_region, wpA_seq, wpA_cond, wpA_block, wpA_ret, condI_false, seqQ_normal, blkQ_normal, endI_mk, goI_out, goI_ops, opsA_nil, opsA_cons, opsA_guardS, gvI_same, gvI_ft, slotAt_zero, slotAt_succ, stepA_move, stepA_assign, stepA_pick, stepA_load, stepA_binOp, stepA_fieldAddr, stepA_len, thenV_some, pickV_true, pickV_false, eval_tmp, eval_const, put_some, enterF_succ, aBin_eql, aBin_geq, absV_int, absV_bool, aField_eq, fieldGo_ptr, aLoad_eq, loadGo_one, aPlace_ptr, aLen_imm, Int.reduceBEq, Nat.reduceEqDiff, Nat.add_zero, Nat.zero_add, if_true, if_false, ft_47_0, ft_47_1, ft_47_3, kt_33, lt_2, lt_3, lt_33, gv, hd0, hd1, hd5, hl0, q1, q3, retA_ret, Tryd.results61, resultsA_1]
        exact hid_mk ⟨by rw [hG, q3]; rfl, kH⟩
      · simp only [wpA_skip, wpA_region, wpA_seq, wpA_cond, wpA_block, wpA_ret, condI_false, seqQ_normal, blkQ_normal, endI_mk, goI_out, goI_ops, opsA_nil, opsA_cons, opsA_guardS, gvI_same, slotAt_zero, slotAt_succ, stepA_move, stepA_assign, stepA_pick, stepA_load, stepA_binOp, stepA_fieldAddr, stepA_len, thenV_some, pickV_true, eval_tmp, eval_const, put_some, enterF_succ, aBin_eql, aBin_leq, aBin_geq, absV_int, absV_bool, aField_eq, fieldGo_ptr, aLoad_eq, loadGo_one, aPlace_ptr, aLen_imm, Int.reduceBEq, Nat.reduceEqDiff, Nat.add_zero, Nat.zero_add, if_true, if_false, ft_47_0, ft_47_1, ft_47_3, kt_33, lt_2, lt_3, lt_33, gv, hd0, hd1, hd5, hl0, q1, q3, retA_ret, Tryd.results61, resultsA_1]
        exact hid_mk ⟨by rw [hG, q3]; rfl, kH⟩
    · have hG : hasX v = (decide (((v.frm.length : Nat) : Int) = 2) && (exprX v.e 2 && (decide (0 ≤ v.n) && decide (v.n ≤ 0)))) := by unfold hasX; rw [hk]; rfl
      cases q1 : (((v.frm.length : Nat) : Int) == 2)
      · have d1 : decide (((v.frm.length : Nat) : Int) = 2) = false := by simpa using q1
        simp only [wpA_region, wpA_seq, wpA_cond, wpA_block, wpA_ret, condI_true, condI_false, seqQ_normal, seqQ_ret, blkQ_ret, endI_mk, goI_out, goI_ops, opsA_nil, opsA_cons, opsA_guardS, gvI_ft, slotAt_zero, slotAt_succ, stepA_move, stepA_assign, stepA_pick, stepA_load, stepA_binOp, stepA_fieldAddr, stepA_len, thenV_some, pickV_false, eval_tmp, eval_const, put_some, enterF_succ, aBin_eql, absV_int, absV_bool, aField_eq, fieldGo_ptr, aLoad_eq, loadGo_one, aPlace_ptr, aLen_imm, Int.reduceBEq, beq_self_eq_true, Nat.reduceEqDiff, Nat.add_zero, Nat.zero_add, if_true, if_false, ft_47_0, ft_47_1, kt_33, lt_3, lt_33, gv, hd0, hd1, hl0, q1, retA_ret, Tryd.results61, resultsA_1]
        exact hid_mk ⟨by rw [hG, d1]; rfl, kH⟩
      have d1 : decide (((v.frm.length : Nat) : Int) = 2) = true := by simpa using q1
      rw [d1, Bool.true_and] at hG
      rw [hx2] at hG
      cases q2 : mayX v.e
      · simp only [wpA_region, wpA_seq, wpA_cond, wpA_block, wpA_ret, condI_true, condI_false, seqQ_normal, seqQ_ret, blkQ_ret, endI_mk, goI_out, goI_ops, opsA_nil, opsA_cons, opsA_guardS, gvI_same, gvI_ft, slotAt_zero, slotAt_succ, stepA_move, stepA_assign, stepA_pick, stepA_load, stepA_binOp, stepA_fieldAddr, stepA_len, thenV_some, pickV_true, pickV_false, eval_tmp, eval_const, put_some, enterF_succ, aBin_eql, absV_int, absV_bool, aField_eq, fieldGo_ptr, aLoad_eq, loadGo_one, aPlace_ptr, aLen_imm, Int.reduceBEq, beq_self_eq_true, Nat.reduceEqDiff, Nat.add_zero, Nat.zero_add, if_true, if_false, ft_47_0, ft_47_1, kt_33, lt_3, lt_33, gv, hd0, hd1, hl0, q1, retA_ret, Tryd.results61, resultsA_1]
        exact hid_mk ⟨by rw [hG, q2]; rfl, kH⟩
      rw [q2, Bool.true_and] at hG
      have hn0 : (decide (0 ≤ v.n) && decide (v.n ≤ 0)) = (v.n == 0) := by rw [Bool.eq_iff_iff]; simp; omega
      rw [hn0] at hG
      simp only [wpA_region, wpA_seq, wpA_cond, wpA_block, wpA_ret, condI_true, condI_false, seqQ_normal, seqQ_ret, blkQ_ret, endI_mk, goI_out, goI_ops, opsA_nil, opsA_cons, opsA_guardS, gvI_same, slotAt_zero, slotAt_succ, stepA_move, stepA_assign, stepA_pick, stepA_load, stepA_binOp, stepA_fieldAddr, stepA_len, thenV_some, pickV_true, eval_tmp, eval_const, put_some, enterF_succ, aBin_eql, absV_int, absV_bool, aField_eq, fieldGo_ptr, aLoad_eq, loadGo_one, aPlace_ptr, aLen_imm, Int.reduceBEq, beq_self_eq_true, Nat.reduceEqDiff, Nat.add_zero, Nat.zero_add, if_true, if_false, ft_47_0, ft_47_1, ft_47_3, kt_33, lt_2, lt_3, lt_33, gv, hd0, hd1, hd5, hl0, q1, retA_ret, Tryd.results61, resultsA_1]
      exact hid_mk ⟨by rw [hG], kH⟩
    · have hG : hasX v = (decide (((v.frm.length : Nat) : Int) = 1) && (exprX v.e 0 && (decide (0 ≤ v.n) && decide (v.n ≤ 7)))) := by unfold hasX; rw [hk]; rfl
      cases q1 : (((v.frm.length : Nat) : Int) == 1)
      · have d1 : decide (((v.frm.length : Nat) : Int) = 1) = false := by simpa using q1
        simp only [wpA_region, wpA_seq, wpA_cond, wpA_block, wpA_ret, condI_true, condI_false, seqQ_normal, seqQ_ret, blkQ_ret, endI_mk, goI_out, goI_ops, opsA_nil, opsA_cons, opsA_guardS, gvI_ft, slotAt_zero, slotAt_succ, stepA_move, stepA_assign, stepA_pick, stepA_load, stepA_binOp, stepA_fieldAddr, stepA_len, thenV_some, pickV_false, eval_tmp, eval_const, put_some, enterF_succ, aBin_eql, absV_int, absV_bool, aField_eq, fieldGo_ptr, aLoad_eq, loadGo_one, aPlace_ptr, aLen_imm, Int.reduceBEq, beq_self_eq_true, Nat.reduceEqDiff, Nat.add_zero, Nat.zero_add, if_true, if_false, ft_47_0, ft_47_1, kt_33, lt_3, lt_33, gv, hd0, hd1, hl0, q1, retA_ret, Tryd.results61, resultsA_1]
        exact hid_mk ⟨by rw [hG, d1]; rfl, kH⟩
      have d1 : decide (((v.frm.length : Nat) : Int) = 1) = true := by simpa using q1
      rw [d1, Bool.true_and] at hG
      simp only [wpA_region, wpA_seq, wpA_cond, wpA_block, wpA_ret, condI_true, condI_false, seqQ_normal, seqQ_ret, blkQ_ret, endI_mk, goI_out, goI_ops, opsA_nil, opsA_cons, opsA_guardS, gvI_same, gvI_ft, slotAt_zero, slotAt_succ, stepA_move, stepA_assign, stepA_pick, stepA_load, stepA_binOp, stepA_fieldAddr, stepA_len, thenV_some, pickV_true, pickV_false, eval_tmp, eval_const, put_some, enterF_succ, aBin_eql, absV_int, absV_bool, aField_eq, fieldGo_ptr, aLoad_eq, loadGo_one, aPlace_ptr, aLen_imm, Int.reduceBEq, beq_self_eq_true, Nat.reduceEqDiff, Nat.add_zero, Nat.zero_add, if_true, if_false, ft_47_0, ft_47_1, kt_33, lt_3, lt_33, gv, hd0, hd1, hl0, q1, retA_ret, Tryd.results61, resultsA_1]
      exact hid_mk ⟨by rw [hG, hzv]; rfl, kH⟩
  cases c2 : (v.e.num == 0)
  · have hzv : exprX v.e 0 = false := by rw [hz, c1, c2]; rfl
    simp only [wpA_region, wpA_seq, seqQ_normal, goI_out, goI_ops, opsA_nil, opsA_cons, opsA_guardS, gvI_same, gvI_ft, slotAt_zero, slotAt_succ, stepA_move, stepA_assign, stepA_pick, stepA_box, stepA_load, stepA_binOp, stepA_fieldAddr, stepA_call, thenV_some, thenH_some, pickV_true, pickV_false, eval_tmp, eval_const, put_some, enterF_zero, enterF_succ, aBin_eql, absV_int, absV_bool, aField_eq, fieldGo_ptr, aLoad_eq, loadGo_one, aPlace_ptr, aBox_eq, Nat.reduceEqDiff, Nat.reduceAdd, List.map_cons, List.map_nil, Option.map_some, Nat.add_zero, Nat.zero_add, if_true, if_false, ft_45_0, ft_45_1, ft_47_2, lt_2, lt_3, lt_45, hc, ← hH, gv, hd2, hd3, hl2, hld, c1, c2]
    refine callI_pure cal75 (pMayR v.e hok H) ?_
    rcases hcs with rfl | rfl | rfl | rfl | rfl | rfl | rfl | rfl | rfl | rfl
    · have hG : hasX v = (decide (((v.frm.length : Nat) : Int) = 0) && (exprX v.e 0 && (decide (0 ≤ v.n) && decide (v.n ≤ 7)))) := by unfold hasX; rw [hk]; rfl
      cases q1 : (((v.frm.length : Nat) : Int) == 0)
      · have d1 : decide (((v.frm.length : Nat) : Int) = 0) = false := by simpa using q1
        simp only [wpA_region, wpA_seq, wpA_cond, wpA_block, wpA_ret, condI_true, seqQ_normal, seqQ_ret, blkQ_ret, endI_mk, goI_out, goI_ops, opsA_nil, opsA_cons, opsA_guardS, gvI_ft, slotAt_zero, slotAt_succ, stepA_move, stepA_assign, stepA_pick, stepA_load, stepA_binOp, stepA_fieldAddr, stepA_len, thenV_some, pickV_false, eval_tmp, eval_const, put_some, enterF_succ, aBin_eql, absV_int, absV_bool, aField_eq, fieldGo_ptr, aLoad_eq, loadGo_one, aPlace_ptr, aLen_imm, beq_self_eq_true, Nat.reduceEqDiff, Nat.add_zero, Nat.zero_add, if_true, if_false, ft_47_0, ft_47_1, kt_33, lt_3, lt_33, gv, hd0, hd1, hl0, q1, retA_ret, Tryd.results61, resultsA_1]
        exact hid_mk ⟨by rw [hG, d1]; rfl, kH⟩
      have d1 : decide (((v.frm.length : Nat) : Int) = 0) = true := by simpa using q1
      rw [d1, Bool.true_and] at hG
      simp only [wpA_region, wpA_seq, wpA_cond, wpA_block, wpA_ret, condI_true, seqQ_normal, seqQ_ret, blkQ_ret, endI_mk, goI_out, goI_ops, opsA_nil, opsA_cons, opsA_guardS, gvI_same, gvI_ft, slotAt_zero, slotAt_succ, stepA_move, stepA_assign, stepA_pick, stepA_load, stepA_binOp, stepA_fieldAddr, stepA_len, thenV_some, pickV_true, pickV_false, eval_tmp, eval_const, put_some, enterF_succ, aBin_eql, absV_int, absV_bool, aField_eq, fieldGo_ptr, aLoad_eq, loadGo_one, aPlace_ptr, aLen_imm, beq_self_eq_true, Nat.reduceEqDiff, Nat.add_zero, Nat.zero_add, if_true, if_false, ft_47_0, ft_47_1, kt_33, lt_3, lt_33, gv, hd0, hd1, hl0, q1, retA_ret, Tryd.results61, resultsA_1]
      exact hid_mk ⟨by rw [hG, hzv]; rfl, kH⟩
    · have hG : hasX v = (decide (((v.frm.length : Nat) : Int) = 1) && (exprX v.e 1 && (decide (0 ≤ v.n) && decide (v.n ≤ 0)))) := by unfold hasX; rw [hk]; rfl
      cases q1 : (((v.frm.length : Nat) : Int) == 1)
      · have d1 : decide (((v.frm.length : Nat) : Int) = 1) = false := by simpa using q1
        simp only [wpA_skip, wpA_region, wpA_seq, wpA_cond, wpA_block, wpA_ret, condI_true, condI_false, seqQ_normal, seqQ_ret, blkQ_ret, endI_mk, goI_out, goI_ops, opsA_nil, opsA_cons, opsA_guardS, gvI_ft, slotAt_zero, slotAt_succ, stepA_move, stepA_assign, stepA_pick, stepA_load, stepA_binOp, stepA_fieldAddr, stepA_len, thenV_some, pickV_false, eval_tmp, eval_const, put_some, enterF_succ, aBin_eql, absV_int, absV_bool, aField_eq, fieldGo_ptr, aLoad_eq, loadGo_one, aPlace_ptr, aLen_imm, Int.reduceBEq, beq_self_eq_true, Nat.reduceEqDiff, Nat.add_zero, Nat.zero_add, if_true, if_false, ft_47_0, ft_47_1, kt_33, lt_3, lt_33, gv, hd0, hd1, hl0, q1, retA_ret, Tryd.results61, resultsA_1]
        exact hid_mk ⟨by rw [hG, d1]; rfl, kH⟩
      have d1 : decide (((v.frm.length : Nat) : Int) = 1) = true := by simpa using q1
      rw [d1, Bool.true_and] at hG
      rw [hx1] at hG
      cases q2 : mayX v.e
      · simp only [wpA_skip, wpA_region, wpA_seq, wpA_cond, wpA_block, wpA_ret, condI_true, condI_false, seqQ_normal, seqQ_ret, blkQ_ret, endI_mk, goI_out, goI_ops, opsA_nil, opsA_cons, opsA_guardS, gvI_same, gvI_ft, slotAt_zero, slotAt_succ, stepA_move, stepA_assign, stepA_pick, stepA_load, stepA_binOp, stepA_fieldAddr, stepA_len, thenV_some, pickV_true, pickV_false, eval_tmp, eval_const, put_some, enterF_succ, aBin_eql, absV_int, absV_bool, aField_eq, fieldGo_ptr, aLoad_eq, loadGo_one, aPlace_ptr, aLen_imm, Int.reduceBEq, beq_self_eq_true, Nat.reduceEqDiff, Nat.add_zero, Nat.zero_add, if_true, if_false, ft_47_0, ft_47_1, kt_33, lt_3, lt_33, gv, hd0, hd1, hl0, q1, retA_ret, Tryd.results61, resultsA_1]
        exact hid_mk ⟨by rw [hG, q2]; rfl, kH⟩
      rw [q2, Bool.true_and] at hG
      have hn0 : (decide (0 ≤ v.n) && decide (v.n ≤ 0)) = (v.n == 0) := by rw [Bool.eq_iff_iff]; simp; omega
      rw [hn0] at hG
      cases q3 : (v.n == 0)
      · simp only [wpA_skip, wpA_region, wpA_seq, wpA_cond, wpA_block, wpA_ret, condI_true, condI_false, seqQ_normal, seqQ_ret, blkQ_ret, endI_mk, goI_out, goI_ops, opsA_nil, opsA_cons, opsA_guardS, gvI_same, gvI_ft, slotAt_zero, slotAt_succ, stepA_move, stepA_assign, stepA_pick, stepA_load, stepA_binOp, stepA_fieldAddr, stepA_len, thenV_some, pickV_true, pickV_false, eval_tmp, eval_const, put_some, enterF_succ, aBin_eql, absV_int, absV_bool, aField_eq, fieldGo_ptr, aLoad_eq, loadGo_one, aPlace_ptr, aLen_imm, Int.reduceBEq, beq_self_eq_true, Nat.reduceEqDiff, Nat.add_zero, Nat.zero_add, if_true, if_false, ft_47_0, ft_47_1, ft_47_3, kt_33, lt_2, lt_3, lt_33, gv, hd0, hd1, hd5, hl0, q1, q3, retA_ret, Tryd.results61, resultsA_1]
        exact hid_mk ⟨by rw [hG, q3, Bool.and_false], kH⟩
      · simp only [wpA_skip, wpA_region, wpA_seq, wpA_cond, wpA_block, condI_true, condI_false, seqQ_normal, goI_out, goI_ops, opsA_nil, opsA_cons, opsA_guardS, gvI_same, slotAt_zero, slotAt_succ, stepA_move, stepA_assign, stepA_pick, stepA_load, stepA_binOp, stepA_fieldAddr, stepA_len, stepA_call, thenV_some, pickV_true, eval_tmp, eval_const, put_some, enterF_succ, aBin_eql, absV_int, absV_bool, aField_eq, fieldGo_ptr, aLoad_eq, loadGo_one, aPlace_ptr, aLen_imm, Int.reduceBEq, beq_self_eq_true, Nat.reduceEqDiff, List.map_cons, List.map_nil, Nat.add_zero, Nat.zero_add, if_true, if_false, ft_47_0, ft_47_1, ft_47_2, ft_47_3, kt_33, lt_2, lt_3, lt_33, lt_45, gv, hd0, hd1, hd2, hld, hd5, hl0, q1, q3]
        refine callI_pure cal76 (pUsesR 5 _ v.e H rfl hok) ?_
        simp only [wpA_ret, seqQ_normal, seqQ_ret, blkQ_ret, endI_mk, goI_out, goI_ops, opsA_nil, opsA_cons, opsA_guardS, gvI_same, slotAt_zero, slotAt_succ, stepA_assign, stepA_pick, stepA_unOp, thenV_some, pickV_true, eval_tmp, eval_const, put_some, enterF_succ, aUn_not, absV_bool, Nat.reduceEqDiff, if_true, if_false, retA_ret, Tryd.results61, resultsA_1]
        exact hid_mk ⟨by rw [hG, q3, Bool.and_true], kH⟩
    · have hG : hasX v = (decide (((v.frm.length : Nat) : Int) = 1) && (exprX v.e 1 && (decide (0 ≤ v.n) && decide (v.n ≤ 0)))) := by unfold hasX; rw [hk]; rfl
      cases q1 : (((v.frm.length : Nat) : Int) == 1)
      · have d1 : decide (((v.frm.length : Nat) : Int) = 1) = false := by simpa using q1
        simp only [wpA_skip, wpA_region, wpA_seq, wpA_cond, wpA_block, wpA_ret, condI_true, condI_false, seqQ_normal, seqQ_ret, blkQ_ret, endI_mk, goI_out, goI_ops, opsA_nil, opsA_cons, opsA_guardS, gvI_ft, slotAt_zero, slotAt_succ, stepA_move, stepA_assign, stepA_pick, stepA_load, stepA_binOp, stepA_fieldAddr, stepA_len, thenV_some, pickV_false, eval_tmp, eval_const, put_some, enterF_succ, aBin_eql, absV_int, absV_bool, aField_eq, fieldGo_ptr, aLoad_eq, loadGo_one, aPlace_ptr, aLen_imm, Int.reduceBEq, beq_self_eq_true, Nat.reduceEqDiff, Nat.add_zero, Nat.zero_add, if_true, if_false, ft_47_0, ft_47_1, kt_33, lt_3, lt_33, gv, hd0, hd1, hl0, q1, retA_ret, Tryd.results61, resultsA_1]
        exact hid_mk ⟨by rw [hG, d1]; rfl, kH⟩
      have d1 : decide (((v.frm.length : Nat) : Int) = 1) = true := by simpa using q1
      rw [d1, Bool.true_and] at hG
      rw [hx1] at hG
      cases q2 : mayX v.e
      · simp only [wpA_skip, wpA_region, wpA_seq, wpA_cond, wpA_block, wpA_ret, condI_true, condI_false, seqQ_normal, seqQ_ret, blkQ_ret, endI_mk, goI_out, goI_ops, opsA_nil, opsA_cons, opsA_guardS, gvI_same, gvI_ft, slotAt_zero, slotAt_succ, stepA_move, stepA_assign, stepA_pick, stepA_load, stepA_binOp, stepA_fieldAddr, stepA_len, thenV_some, pickV_true, pickV_false, eval_tmp, eval_const, put_some, enterF_succ, aBin_eql, absV_int, absV_bool, aField_eq, fieldGo_ptr, aLoad_eq, loadGo_one, aPlace_ptr, aLen_imm, Int.reduceBEq, beq_self_eq_true, Nat.reduceEqDiff, Nat.add_zero, Nat.zero_add, if_true, if_false, ft_47_0, ft_47_1, kt_33, lt_3, lt_33, gv, hd0, hd1, hl0, q1, retA_ret, Tryd.results61, resultsA_1]
        exact hid_mk ⟨by rw [hG, q2]; rfl, kH⟩
      rw [q2, Bool.true_and] at hG
      have hn0 : (decide (0 ≤ v.n) && decide (v.n ≤ 0)) = (v.n == 0) := by rw [Bool.eq_iff_iff]; simp; omega
      rw [hn0] at hG
      cases q3 : (v.n == 0)
      · simp only [wpA_skip, wpA_region, wpA_seq, wpA_cond, wpA_block, wpA_ret, condI_true, condI_false, seqQ_normal, seqQ_ret, blkQ_ret, endI_mk, goI_out, goI_ops, opsA_nil, opsA_cons, opsA_guardS, gvI_same, gvI_ft, slotAt_zero, slotAt_succ, stepA_move, stepA_assign, stepA_pick, stepA_load, stepA_binOp, stepA_fieldAddr, stepA_len, thenV_some, pickV_true, pickV_false, eval_tmp, eval_const, put_some, enterF_succ, aBin_eql, absV_int, absV_bool, aField_eq, fieldGo_ptr, aLoad_eq, loadGo_one, aPlace_ptr, aLen_imm, Int.reduceBEq, beq_self_eq_true, Nat.reduceEqDiff, Nat.add_zero, Nat.zero_add, if_true, if_false, ft_47_0, ft_47_1, ft_47_3, kt_33, lt_2, lt_3, lt_33, gv, hd0, hd1, hd5, hl0, q1, q3, retA_ret, Tryd.results61, resultsA_1]
        exact hid_mk ⟨by rw [hG, q3, Bool.and_false], kH⟩
      · simp only [wpA_skip, wpA_region, wpA_seq, wpA_cond, wpA_block, condI_true, condI_false, seqQ_normal, goI_out, goI_ops, opsA_nil, opsA_cons, opsA_guardS, gvI_same, slotAt_zero, slotAt_succ, stepA_move, stepA_assign, stepA_pick, stepA_load, stepA_binOp, stepA_fieldAddr, stepA_len, stepA_call, thenV_some, pickV_true, eval_tmp, eval_const, put_some, enterF_succ, aBin_eql, absV_int, absV_bool, aField_eq, fieldGo_ptr, aLoad_eq, loadGo_one, aPlace_ptr, aLen_imm, Int.reduceBEq, beq_self_eq_true, Nat.reduceEqDiff, List.map_cons, List.map_nil, Nat.add_zero, Nat.zero_add, if_true, if_false, ft_47_0, ft_47_1, ft_47_2, ft_47_3, kt_33, lt_2, lt_3, lt_33, lt_45, gv, hd0, hd1, hd2, hld, hd5, hl0, q1, q3]
        refine callI_pure cal76 (pUsesR 5 _ v.e H rfl hok) ?_
        simp only [wpA_ret, seqQ_normal, seqQ_ret, blkQ_ret, endI_mk, goI_out, goI_ops, opsA_nil, opsA_cons, opsA_guardS, gvI_same, slotAt_zero, slotAt_succ, stepA_assign, stepA_pick, stepA_unOp, thenV_some, pickV_true, eval_tmp, eval_const, put_some, enterF_succ, aUn_not, absV_bool, Nat.reduceEqDiff, if_true, if_false, retA_ret, Tryd.results61, resultsA_1]
        exact hid_mk ⟨by rw [hG, q3, Bool.and_true], kH⟩
    · have hG : hasX v = (decide (((v.frm.length : Nat) : Int) = 1) && (exprX v.e 1 && (decide (0 ≤ v.n) && decide (v.n ≤ 0)))) := by unfold hasX; rw [hk]; rfl
      cases q1 : (((v.frm.length : Nat) : Int) == 1)
      · have d1 : decide (((v.frm.length : Nat) : Int) = 1) = false := by simpa using q1
        simp only [wpA_skip, wpA_region, wpA_seq, wpA_cond, wpA_block, wpA_ret, condI_true, condI_false, seqQ_normal, seqQ_ret, blkQ_ret, endI_mk, goI_out, goI_ops, opsA_nil, opsA_cons, opsA_guardS, gvI_ft, slotAt_zero, slotAt_succ, stepA_move, stepA_assign, stepA_pick, stepA_load, stepA_binOp, stepA_fieldAddr, stepA_len, thenV_some, pickV_false, eval_tmp, eval_const, put_some, enterF_succ, aBin_eql, absV_int, absV_bool, aField_eq, fieldGo_ptr, aLoad_eq, loadGo_one, aPlace_ptr, aLen_imm, Int.reduceBEq, beq_self_eq_true, Nat.reduceEqDiff, Nat.add_zero, Nat.zero_add, if_true, if_false, ft_47_0, ft_47_1, kt_33, lt_3, lt_33, gv, hd0, hd1, hl0, q1, retA_ret, Tryd.results61, resultsA_1]
        exact hid_mk ⟨by rw [hG, d1]; rfl, kH⟩
      have d1 : decide (((v.frm.length : Nat) : Int) = 1) = true := by simpa using q1
      rw [d1, Bool.true_and] at hG
      rw [hx1] at hG
      cases q2 : mayX v.e
      · simp only [wpA_skip, wpA_region, wpA_seq, wpA_cond, wpA_block, wpA_ret, condI_true, condI_false, seqQ_normal, seqQ_ret, blkQ_ret, endI_mk, goI_out, goI_ops, opsA_nil, opsA_cons, opsA_guardS, gvI_same, gvI_ft, slotAt_zero, slotAt_succ, stepA_move, stepA_assign, stepA_pick, stepA_load, stepA_binOp, stepA_fieldAddr, stepA_len, thenV_some, pickV_true, pickV_false, eval_tmp, eval_const, put_some, enterF_succ, aBin_eql, absV_int, absV_bool, aField_eq, fieldGo_ptr, aLoad_eq, loadGo_one, aPlace_ptr, aLen_imm, Int.reduceBEq, beq_self_eq_true, Nat.reduceEqDiff, Nat.add_zero, Nat.zero_add, if_true, if_false, ft_47_0, ft_47_1, kt_33, lt_3, lt_33, gv, hd0, hd1, hl0, q1, retA_ret, Tryd.results61, resultsA_1]
        exact hid_mk ⟨by rw [hG, q2]; rfl, kH⟩
      rw [q2, Bool.true_and] at hG
      have hn0 : (decide (0 ≤ v.n) && decide (v.n ≤ 0)) = (v.n == 0) := by rw [Bool.eq_iff_iff]; simp; omega
      rw [hn0] at hG
      cases q3 : (v.n == 0)
      · simp only [wpA_skip, wpA_region, wpA_seq, wpA_cond, wpA_block, wpA_ret, condI_true, condI_false, seqQ_normal, seqQ_ret, blkQ_ret, endI_mk, goI_out, goI_ops, opsA_nil, opsA_cons, opsA_guardS, gvI_same, gvI_ft, slotAt_zero, slotAt_succ, stepA_move, stepA_assign, stepA_pick, stepA_load, stepA_binOp, stepA_fieldAddr, stepA_len, thenV_some, pickV_true, pickV_false, eval_tmp, eval_const, put_some, enterF_succ, aBin_eql, absV_int, absV_bool, aField_eq, fieldGo_ptr, aLoad_eq, loadGo_one, aPlace_ptr, aLen_imm, Int.reduceBEq, beq_self_eq_true, Nat.reduceEqDiff, Nat.add_zero, Nat.zero_add, if_true, if_false, ft_47_0, ft_47_1, ft_47_3, kt_33, lt_2, lt_3, lt_33, gv, hd0, hd1, hd5, hl0, q1, q3, retA_ret, Tryd.results61, resultsA_1]
        exact hid_mk ⟨by rw [hG, q3, Bool.and_false], kH⟩
      · simp only [wpA_skip, wpA_region, wpA_seq, wpA_cond, wpA_block, condI_true, condI_false, seqQ_normal, goI_out, goI_ops, opsA_nil, opsA_cons, opsA_guardS, gvI_same, slotAt_zero, slotAt_succ, stepA_move, stepA_assign, stepA_pick, stepA_load, stepA_binOp, stepA_fieldAddr, stepA_len, stepA_call, thenV_some, pickV_true, eval_tmp, eval_const, put_some, enterF_succ, aBin_eql, absV_int, absV_bool, aField_eq, fieldGo_ptr, aLoad_eq, loadGo_one, aPlace_ptr, aLen_imm, Int.reduceBEq, beq_self_eq_true, Nat.reduceEqDiff, List.map_cons, List.map_nil, Nat.add_zero, Nat.zero_add, if_true, if_false, ft_47_0, ft_47_1, ft_47_2, ft_47_3, kt_33, lt_2, lt_3, lt_33, lt_45, gv, hd0, hd1, hd2, hld, hd5, hl0, q1, q3]
        refine callI_pure cal76 (pUsesR 5 _ v.e H rfl hok) ?_
        simp only [wpA_ret, seqQ_normal, seqQ_ret, blkQ_ret, endI_mk, goI_out, goI_ops, opsA_nil, opsA_cons, opsA_guardS, gvI_same, slotAt_zero, slotAt_succ, stepA_assign, stepA_pick, stepA_unOp, thenV_some, pickV_true, eval_tmp, eval_const, put_some, enterF_succ, aUn_not, absV_bool, Nat.reduceEqDiff, if_true, if_false, retA_ret, Tryd.results61, resultsA_1]
        exact hid_mk ⟨by rw [hG, q3, Bool.and_true], kH⟩
    · have hG : hasX v = (decide (((v.frm.length : Nat) : Int) = 1) && (exprX v.e 1 && (decide (0 ≤ v.n) && decide (v.n ≤ 0)))) := by unfold hasX; rw [hk]; rfl
      cases q1 : (((v.frm.length : Nat) : Int) == 1)
      · have d1 : decide (((v.frm.length : Nat) : Int) = 1) = false := by simpa using q1
        simp only [wpA_region, wpA_seq, wpA_cond, wpA_block, wpA_ret, condI_true, condI_false, seqQ_normal, seqQ_ret, blkQ_ret, endI_mk, goI_out, goI_ops, opsA_nil, opsA_cons, opsA_guardS, gvI_ft, slotAt_zero, slotAt_succ, stepA_move, stepA_assign, stepA_pick, stepA_load, stepA_binOp, stepA_fieldAddr, stepA_len, thenV_some, pickV_false, eval_tmp, eval_const, put_some, enterF_succ, aBin_eql, absV_int, absV_bool, aField_eq, fieldGo_ptr, aLoad_eq, loadGo_one, aPlace_ptr, aLen_imm, Int.reduceBEq, beq_self_eq_true, Nat.reduceEqDiff, Nat.add_zero, Nat.zero_add, if_true, if_false, ft_47_0, ft_47_1, kt_33, lt_3, lt_33, gv, hd0, hd1, hl0, q1, retA_ret, Tryd.results61, resultsA_1]
        exact hid_mk ⟨by rw [hG, d1]; rfl, kH⟩
      have d1 : decide (((v.frm.length : Nat) : Int) = 1) = true := by simpa using q1
      rw [d1, Bool.true_and] at hG
      rw [hx1] at hG
      cases q2 : mayX v.e
      · simp only [wpA_region, wpA_seq, wpA_cond, wpA_block, wpA_ret, condI_true, condI_false, seqQ_normal, seqQ_ret, blkQ_ret, endI_mk, goI_out, goI_ops, opsA_nil, opsA_cons, opsA_guardS, gvI_same, gvI_ft, slotAt_zero, slotAt_succ, stepA_move, stepA_assign, stepA_pick, stepA_load, stepA_binOp, stepA_fieldAddr, stepA_len, thenV_some, pickV_true, pickV_false, eval_tmp, eval_const, put_some, enterF_succ, aBin_eql, absV_int, absV_bool, aField_eq, fieldGo_ptr, aLoad_eq, loadGo_one, aPlace_ptr, aLen_imm, Int.reduceBEq, beq_self_eq_true, Nat.reduceEqDiff, Nat.add_zero, Nat.zero_add, if_true, if_false, ft_47_0, ft_47_1, kt_33, lt_3, lt_33, gv, hd0, hd1, hl0, q1, retA_ret, Tryd.results61, resultsA_1]
        exact hid_mk ⟨by rw [hG, q2]; rfl, kH⟩
      rw [q2, Bool.true_and] at hG
      have hn0 : (decide (0 ≤ v.n) && decide (v.n ≤ 0)) = (v.n == 0) := by rw [Bool.eq_iff_iff]; simp; omega
      rw [hn0] at hG
      cases q3 : (v.n == 0)
      · simp only [wpA_region, wpA_seq, wpA_cond, wpA_block, wpA_ret, condI_true, condI_false, seqQ_normal, seqQ_ret, blkQ_ret, endI_mk, goI_out, goI_ops, opsA_nil, opsA_cons, opsA_guardS, gvI_same, gvI_ft, slotAt_zero, slotAt_succ, stepA_move, stepA_assign, stepA_pick, stepA_load, stepA_binOp, stepA_fieldAddr, stepA_len, thenV_some, pickV_true, pickV_false, eval_tmp, eval_const, put_some, enterF_succ, aBin_eql, absV_int, absV_bool, aField_eq, fieldGo_ptr, aLoad_eq, loadGo_one, aPlace_ptr, aLen_imm, Int.reduceBEq, beq_self_eq_true, Nat.reduceEqDiff, Nat.add_zero, Nat.zero_add, if_true, if_false, ft_47_0, ft_47_1, ft_47_3, kt_33, lt_2, lt_3, lt_33, gv, hd0, hd1, hd5, hl0, q1, q3, retA_ret, Tryd.results61, resultsA_1]
        exact hid_mk ⟨by rw [hG, q3, Bool.and_false], kH⟩
      · simp only [wpA_region, wpA_seq, wpA_cond, wpA_block, condI_true, condI_false, seqQ_normal, goI_out, goI_ops, opsA_nil, opsA_cons, opsA_guardS, gvI_same, slotAt_zero, slotAt_succ, stepA_move, stepA_assign, stepA_pick, stepA_load, stepA_binOp, stepA_fieldAddr, stepA_len, stepA_call, thenV_some, pickV_true, eval_tmp, eval_const, put_some, enterF_succ, aBin_eql, absV_int, absV_bool, aField_eq, fieldGo_ptr, aLoad_eq, loadGo_one, aPlace_ptr, aLen_imm, Int.reduceBEq, beq_self_eq_true, Nat.reduceEqDiff, List.map_cons, List.map_nil, Nat.add_zero, Nat.zero_add, if_true, if_false, ft_47_0, ft_47_1, ft_47_2, ft_47_3, kt_33, lt_2, lt_3, lt_33, lt_45, gv, hd0, hd1, hd2, hld, hd5, hl0, q1, q3]
        refine callI_pure cal76 (pUsesR 5 _ v.e H rfl hok) ?_
        simp only [wpA_ret, seqQ_normal, seqQ_ret, blkQ_ret, endI_mk, goI_out, goI_ops, opsA_nil, opsA_cons, opsA_guardS, gvI_same, slotAt_zero, slotAt_succ, stepA_assign, stepA_pick, stepA_unOp, thenV_some, pickV_true, eval_tmp, eval_const, put_some, enterF_succ, aUn_not, absV_bool, Nat.reduceEqDiff, if_true, if_false, retA_ret, Tryd.results61, resultsA_1]
        exact hid_mk ⟨by rw [hG, q3, Bool.and_true], kH⟩
    · have hG : hasX v = (decide (((v.frm.length : Nat) : Int) = 1) && (exprX v.e 2 && (decide (0 ≤ v.n) && decide (v.n ≤ 0)))) := by unfold hasX; rw [hk]; rfl
      cases q1 : (((v.frm.length : Nat) : Int) == 1)
      · have d1 : decide (((v.frm.length : Nat) : Int) = 1) = false := by simpa using q1
        simp only [wpA_region, wpA_seq, wpA_cond, wpA_block, wpA_ret, condI_true, condI_false, seqQ_normal, seqQ_ret, blkQ_ret, endI_mk, goI_out, goI_ops, opsA_nil, opsA_cons, opsA_guardS, gvI_ft, slotAt_zero, slotAt_succ, stepA_move, stepA_assign, stepA_pick, stepA_load, stepA_binOp, stepA_fieldAddr, stepA_len, thenV_some, pickV_false, eval_tmp, eval_const, put_some, enterF_succ, aBin_eql, absV_int, absV_bool, aField_eq, fieldGo_ptr, aLoad_eq, loadGo_one, aPlace_ptr, aLen_imm, Int.reduceBEq, beq_self_eq_true, Nat.reduceEqDiff, Nat.add_zero, Nat.zero_add, if_true, if_false, ft_47_0, ft_47_1, kt_33, lt_3, lt_33, gv, hd0, hd1, hl0, q1, retA_ret, Tryd.results61, resultsA_1]
        exact hid_mk ⟨by rw [hG, d1]; rfl, kH⟩
      have d1 : decide (((v.frm.length : Nat) : Int) = 1) = true := by simpa using q1
      rw [d1, Bool.true_and] at hG
      rw [hx2] at hG
      cases q2 : mayX v.e
      · simp only [wpA_region, wpA_seq, wpA_cond, wpA_block, wpA_ret, condI_true, condI_false, seqQ_normal, seqQ_ret, blkQ_ret, endI_mk, goI_out, goI_ops, opsA_nil, opsA_cons, opsA_guardS, gvI_same, gvI_ft, slotAt_zero, slotAt_succ, stepA_move, stepA_assign, stepA_pick, stepA_load, stepA_binOp, stepA_fieldAddr, stepA_len, thenV_some, pickV_true, pickV_false, eval_tmp, eval_const, put_some, enterF_succ, aBin_eql, absV_int, absV_bool, aField_eq, fieldGo_ptr, aLoad_eq, loadGo_one, aPlace_ptr, aLen_imm, Int.reduceBEq, beq_self_eq_true, Nat.reduceEqDiff, Nat.add_zero, Nat.zero_add, if_true, if_false, ft_47_0, ft_47_1, kt_33, lt_3, lt_33, gv, hd0, hd1, hl0, q1, retA_ret, Tryd.results61, resultsA_1]
        exact hid_mk ⟨by rw [hG, q2]; rfl, kH⟩
      rw [q2, Bool.true_and] at hG
      have hn0 : (decide (0 ≤ v.n) && decide (v.n ≤ 0)) = (v.n == 0) := by rw [Bool.eq_iff_iff]; simp; omega
      rw [hn0] at hG
      simp only [wpA_region, wpA_seq, wpA_cond, wpA_block, wpA_ret, condI_true, condI_false, seqQ_normal, seqQ_ret, blkQ_ret, endI_mk, goI_out, goI_ops, opsA_nil, opsA_cons, opsA_guardS, gvI_same, slotAt_zero, slotAt_succ, stepA_move, stepA_assign, stepA_pick, stepA_load, stepA_binOp, stepA_fieldAddr, stepA_len, thenV_some, pickV_true, eval_tmp, eval_const, put_some, enterF_succ, aBin_eql, absV_int, absV_bool, aField_eq, fieldGo_ptr, aLoad_eq, loadGo_one, aPlace_ptr, aLen_imm, Int.reduceBEq, beq_self_eq_true, Nat.reduceEqDiff, Nat.add_zero, Nat.zero_add, if_true, if_false, ft_47_0, ft_47_1, ft_47_3, kt_33, lt_2, lt_3, lt_33, gv, hd0, hd1, hd5, hl0, q1, retA_ret, Tryd.results61, resultsA_1]
      exact hid_mk ⟨by rw [hG], kH⟩
    · have hG : hasX v = (decide (((v.frm.length : Nat) : Int) = 1) && (exprX v.e 2 && (decide (1 ≤ v.n) && decide (v.n ≤ 1048576)))) := by unfold hasX; rw [hk]; rfl
      cases q1 : (((v.frm.length : Nat) : Int) == 1)
      · have d1 : decide (((v.frm.length : Nat) : Int) = 1) = false := by simpa using q1
        simp only [wpA_skip, wpA_region, wpA_seq, wpA_cond, wpA_block, wpA_ret, condI_false, seqQ_normal, blkQ_normal, endI_mk, goI_out, goI_ops, opsA_nil, opsA_cons, opsA_guardS, gvI_ft, slotAt_zero, slotAt_succ, stepA_move, stepA_assign, stepA_pick, stepA_load, stepA_binOp, stepA_fieldAddr, stepA_len, thenV_some, pickV_false, eval_tmp, eval_const, put_some, enterF_succ, aBin_eql, absV_int, absV_bool, aField_eq, fieldGo_ptr, aLoad_eq, loadGo_one, aPlace_ptr, aLen_imm, Int.reduceBEq, Nat.reduceEqDiff, Nat.add_zero, Nat.zero_add, if_true, if_false, ft_47_0, ft_47_1, kt_33, lt_3, lt_33, gv, hd0, hd1, hl0, q1, retA_ret, Tryd.results61, resultsA_1]
        exact hid_mk ⟨by rw [hG, d1]; rfl, kH⟩
      have d1 : decide (((v.frm.length : Nat) : Int) = 1) = true := by simpa using q1
      rw [d1, Bool.true_and] at hG
      rw [hx2] at hG
      cases q2 : mayX v.e
      · simp only [wpA_skip, wpA_region, wpA_seq, wpA_cond, wpA_block, wpA_ret, condI_false, seqQ_normal, blkQ_normal, endI_mk, goI_out, goI_ops, opsA_nil, opsA_cons, opsA_guardS, gvI_same, gvI_ft, slotAt_zero, slotAt_succ, stepA_move, stepA_assign, stepA_pick, stepA_load, stepA_binOp, stepA_fieldAddr, stepA_len, thenV_some, pickV_true, pickV_false, eval_tmp, eval_const, put_some, enterF_succ, aBin_eql, absV_int, absV_bool, aField_eq, fieldGo_ptr, aLoad_eq, loadGo_one, aPlace_ptr, aLen_imm, Int.reduceBEq, Nat.reduceEqDiff, Nat.add_zero, Nat.zero_add, if_true, if_false, ft_47_0, ft_47_1, kt_33, lt_3, lt_33, gv, hd0, hd1, hl0, q1, retA_ret, Tryd.results61, resultsA_1]
        exact hid_mk ⟨by rw [hG, q2]; rfl, kH⟩
      rw [q2, Bool.true_and] at hG
      cases q3 : decide (1 ≤ v.n)
      · simp only [wpA_skip, wpA_region, wpA_seq, wpA_cond, wpA_block, wpA_ret, condI_false, seqQ_normal, blkQ_normal, endI_mk, goI_out, goI_ops, opsA_nil, opsA_cons, opsA_guardS, gvI_same, gvI_ft, slotAt_zero, slotAt_succ, stepA_move, stepA_assign, stepA_pick, stepA_load, stepA_binOp, stepA_fieldAddr, stepA_len, thenV_some, pickV_true, pickV_false, eval_tmp, eval_const, put_some, enterF_succ, aBin_eql, aBin_geq, absV_int, absV_bool, aField_eq, fieldGo_ptr, aLoad_eq, loadGo_one, aPlace_ptr, aLen_imm, Int.reduceBEq, Nat.reduceEqDiff, Nat.add_zero, Nat.zero_add, if_true, if_false, ft_47_0, ft_47_1, ft_47_3, kt_33, lt_2, lt_3, lt_33, gv, hd0, hd1, hd5, hl0, q1, q3, retA_ret, Tryd.results61, resultsA_1]
        exact hid_mk ⟨by rw [hG, q3]; rfl, kH⟩
      · simp only [wpA_skip, wpA_region, wpA_seq, wpA_cond, wpA_block, wpA_ret, condI_false, seqQ_normal, blkQ_normal, endI_mk, goI_out, goI_ops, opsA_nil, opsA_cons, opsA_guardS, gvI_same, slotAt_zero, slotAt_succ, stepA_move, stepA_assign, stepA_pick, stepA_load, stepA_binOp, stepA_fieldAddr, stepA_len, thenV_some, pickV_true, eval_tmp, eval_const, put_some, enterF_succ, aBin_eql, aBin_leq, aBin_geq, absV_int, absV_bool, aField_eq, fieldGo_ptr, aLoad_eq, loadGo_one, aPlace_ptr, aLen_imm, Int.reduceBEq, Nat.reduceEqDiff, Nat.add_zero, Nat.zero_add, if_true, if_false, ft_47_0, ft_47_1, ft_47_3, kt_33, lt_2, lt_3, lt_33, gv, hd0, hd1, hd5, hl0, q1, q3, retA_ret, Tryd.results61, resultsA_1]
        exact hid_mk ⟨by rw [hG, q3]; rfl, kH⟩
    · have hG : hasX v = (decide (((v.frm.length : Nat) : Int) = 1) && (exprX v.e 2 && (decide (1 ≤ v.n) && decide (v.n ≤ 1048576)))) := by unfold hasX; rw [hk]; rfl
      cases q1 : (((v.frm.length : Nat) : Int) == 1)
      · have d1 : decide (((v.frm.length : Nat) : Int) = 1) = false := by simpa using q1
        simp only [wpA_skip, wpA_region, wpA_seq, wpA_cond, wpA_block, wpA_ret, condI_false, seqQ_normal, blkQ_normal, endI_mk, goI_out, goI_ops, opsA_nil, opsA_cons, opsA_guardS, gvI_ft, slotAt_zero, slotAt_succ, stepA_move, stepA_assign, stepA_pick, stepA_load, stepA_binOp, stepA_fieldAddr, stepA_len, thenV_some, pickV_false, eval_tmp, eval_const, put_some, enterF_succ, aBin_eql, absV_int, absV_bool, aField_eq, fieldGo_ptr, aLoad_eq, loadGo_one, aPlace_ptr, aLen_imm, Int.reduceBEq, Nat.reduceEqDiff, Nat.add_zero, Nat.zero_add, if_true, if_false, ft_47_0, ft_47_1, kt_33, lt_3, lt_33, gv, hd0, hd1, hl0, q1, retA_ret, Tryd.results61, resultsA_1]
        exact hid_mk ⟨by rw [hG, d1]; rfl, kH⟩
      have d1 : decide (((v.frm.length : Nat) : Int) = 1) = true := by simpa using q1
      rw [d1, Bool.true_and] at hG
      rw [hx2] at hG
      cases q2 : mayX v.e
      · simp only [wpA_skip, wpA_region, wpA_seq, wpA_cond, wpA_block, wpA_ret, condI_false, seqQ_normal, blkQ_normal, endI_mk, goI_out, goI_ops, opsA_nil, opsA_cons, opsA_guardS, gvI_same, gvI_ft, slotAt_zero, slotAt_succ, stepA_move, stepA_assign, stepA_pick, stepA_load, stepA_binOp, stepA_fieldAddr, stepA_len, thenV_some, pickV_true, pickV_false, eval_tmp, eval_const, put_some, enterF_succ, aBin_eql, absV_int, absV_bool, aField_eq, fieldGo_ptr, aLoad_eq, loadGo_one, aPlace_ptr, aLen_imm, Int.reduceBEq, Nat.reduceEqDiff, Nat.add_zero, Nat.zero_add, if_true, if_false, ft_47_0, ft_47_1, kt_33, lt_3, lt_33, gv, hd0, hd1, hl0, q1, retA_ret, Tryd.results61, resultsA_1]
        exact hid_mk ⟨by rw [hG, q2]; rfl, kH⟩
      rw [q2, Bool.true_and] at hG
      cases q3 : decide (1 ≤ v.n)
      · simp only [wpA_skip, wpA_region, wpA_seq, wpA_cond, wpA_block, wpA_ret, condI_false, seqQ_normal, blkQ_normal, endI_mk, goI_out, goI_ops, opsA_nil, opsA_cons, opsA_guardS, gvI_same, gvI_ft, slotAt_zero, slotAt_succ, stepA_move, stepA_assign, stepA_pick, stepA_load, stepA_binOp, stepA_fieldAddr, stepA_len, thenV_some, pickV_true, pickV_false, eval_tmp, eval_const, put_some, enterF_succ, aBin_eql, aBin_geq, absV_int, absV_bool, aField_eq, fieldGo_ptr, aLoad_eq, loadGo_one, aPlace_ptr, aLen_imm, Int.reduceBEq, Nat.reduceEqDiff, Nat.add_zero, Nat.zero_add, if_true, if_false, ft_47_0, ft_47_1, ft_47_3, kt_33, lt_2, lt_3, lt_33, gv, hd0, hd1, hd5, hl0, q1, q3, retA_ret, Tryd.results61, resultsA_1]
        exact hid_mk ⟨by rw [hG, q3]; rfl, kH⟩
      · simp only [wpA_skip, wpA_region, wpA_seq, wpA_cond, wpA_block, wpA_ret, condI_false, seqQ_normal, blkQ_normal, endI_mk, goI_out, goI_ops, opsA_nil, opsA_cons, opsA_guardS, gvI_same, slotAt_zero, slotAt_succ, stepA_move, stepA_assign, stepA_pick, stepA_load, stepA_binOp, stepA_fieldAddr, stepA_len, thenV_some, pickV_true, eval_tmp, eval_const, put_some, enterF_succ, aBin_eql, aBin_leq, aBin_geq, absV_int, absV_bool, aField_eq, fieldGo_ptr, aLoad_eq, loadGo_one, aPlace_ptr, aLen_imm, Int.reduceBEq, Nat.reduceEqDiff, Nat.add_zero, Nat.zero_add, if_true, if_false, ft_47_0, ft_47_1, ft_47_3, kt_33, lt_2, lt_3, lt_33, gv, hd0, hd1, hd5, hl0, q1, q3, retA_ret, Tryd.results61, resultsA_1]
        exact hid_mk ⟨by rw [hG, q3]; rfl, kH⟩
    · have hG : hasX v = (decide (((v.frm.length : Nat) : Int) = 2) && (exprX v.e 2 && (decide (0 ≤ v.n) && decide (v.n ≤ 0)))) := by unfold hasX; rw [hk]; rfl
      cases q1 : (((v.frm.length : Nat) : Int) == 2)
      · have d1 : decide (((v.frm.length : Nat) : Int) = 2) = false := by simpa using q1
        simp only [wpA_region, wpA_seq, wpA_cond, wpA_block, wpA_ret, condI_true, condI_false, seqQ_normal, seqQ_ret, blkQ_ret, endI_mk, goI_out, goI_ops, opsA_nil, opsA_cons, opsA_guardS, gvI_ft, slotAt_zero, slotAt_succ, stepA_move, stepA_assign, stepA_pick, stepA_load, stepA_binOp, stepA_fieldAddr, stepA_len, thenV_some, pickV_false, eval_tmp, eval_const, put_some, enterF_succ, aBin_eql, absV_int, absV_bool, aField_eq, fieldGo_ptr, aLoad_eq, loadGo_one, aPlace_ptr, aLen_imm, Int.reduceBEq, beq_self_eq_true, Nat.reduceEqDiff, Nat.add_zero, Nat.zero_add, if_true, if_false, ft_47_0, ft_47_1, kt_33, lt_3, lt_33, gv, hd0, hd1, hl0, q1, retA_ret, Tryd.results61, resultsA_1]
        exact hid_mk ⟨by rw [hG, d1]; rfl, kH⟩
      have d1 : decide (((v.frm.length : Nat) : Int) = 2) = true := by simpa using q1
      rw [d1, Bool.true_and] at hG
      rw [hx2] at hG
      cases q2 : mayX v.e
      · simp only [wpA_region, wpA_seq, wpA_cond, wpA_block, wpA_ret, condI_true, condI_false, seqQ_normal, seqQ_ret, blkQ_ret, endI_mk, goI_out, goI_ops, opsA_nil, opsA_cons, opsA_guardS, gvI_same, gvI_ft, slotAt_zero, slotAt_succ, stepA_move, stepA_assign, stepA_pick, stepA_load, stepA_binOp, stepA_fieldAddr, stepA_len, thenV_some, pickV_true, pickV_false, eval_tmp, eval_const, put_some, enterF_succ, aBin_eql, absV_int, absV_bool, aField_eq, fieldGo_ptr, aLoad_eq, loadGo_one, aPlace_ptr, aLen_imm, Int.reduceBEq, beq_self_eq_true, Nat.reduceEqDiff, Nat.add_zero, Nat.zero_add, if_true, if_false, ft_47_0, ft_47_1, kt_33, lt_3, lt_33, gv, hd0, hd1, hl0, q1, retA_ret, Tryd.results61, resultsA_1]
        exact hid_mk ⟨by rw [hG, q2]; rfl, kH⟩
      rw [q2, Bool.true_and] at hG
      have hn0 : (decide (0 ≤ v.n) && decide (v.n ≤ 0)) = (v.n == 0) := by rw [Bool.eq_iff_iff]; simp; omega
      rw [hn0] at hG
      simp only [wpA_region, wpA_seq, wpA_cond, wpA_block, wpA_ret, condI_true, condI_false, seqQ_normal, seqQ_ret, blkQ_ret, endI_mk, goI_out, goI_ops, opsA_nil, opsA_cons, opsA_guardS, gvI_same, slotAt_zero, slotAt_succ, stepA_move, stepA_assign, stepA_pick, stepA_load, stepA_binOp, stepA_fieldAddr, stepA_len, thenV_some, pickV_true, eval_tmp, eval_const, put_some, enterF_succ, aBin_eql, absV_int, absV_bool, aField_eq, fieldGo_ptr, aLoad_eq, loadGo_one, aPlace_ptr, aLen_imm, Int.reduceBEq, beq_self_eq_true, Nat.reduceEqDiff, Nat.add_zero, Nat.zero_add, if_true, if_false, ft_47_0, ft_47_1, ft_47_3, kt_33, lt_2, lt_3, lt_33, gv, hd0, hd1, hd5, hl0, q1, retA_ret, Tryd.results61, resultsA_1]
      exact hid_mk ⟨by rw [hG], kH⟩
    · have hG : hasX v = (decide (((v.frm.length : Nat) : Int) = 1) && (exprX v.e 0 && (decide (0 ≤ v.n) && decide (v.n ≤ 7)))) := by unfold hasX; rw [hk]; rfl
      cases q1 : (((v.frm.length : Nat) : Int) == 1)
      · have d1 : decide (((v.frm.length : Nat) : Int) = 1) = false := by simpa using q1
        simp only [wpA_region, wpA_seq, wpA_cond, wpA_block, wpA_ret, condI_true, condI_false, seqQ_normal, seqQ_ret, blkQ_ret, endI_mk, goI_out, goI_ops, opsA_nil, opsA_cons, opsA_guardS, gvI_ft, slotAt_zero, slotAt_succ, stepA_move, stepA_assign, stepA_pick, stepA_load, stepA_binOp, stepA_fieldAddr, stepA_len, thenV_some, pickV_false, eval_tmp, eval_const, put_some, enterF_succ, aBin_eql, absV_int, absV_bool, aField_eq, fieldGo_ptr, aLoad_eq, loadGo_one, aPlace_ptr, aLen_imm, Int.reduceBEq, beq_self_eq_true, Nat.reduceEqDiff, Nat.add_zero, Nat.zero_add, if_true, if_false, ft_47_0, ft_47_1, kt_33, lt_3, lt_33, gv, hd0, hd1, hl0, q1, retA_ret, Tryd.results61, resultsA_1]
        exact hid_mk ⟨by rw [hG, d1]; rfl, kH⟩
      have d1 : decide (((v.frm.length : Nat) : Int) = 1) = true := by simpa using q1
      rw [d1, Bool.true_and] at hG
      simp only [wpA_region, wpA_seq, wpA_cond, wpA_block, wpA_ret, condI_true, condI_false, seqQ_normal, seqQ_ret, blkQ_ret, endI_mk, goI_out, goI_ops, opsA_nil, opsA_cons, opsA_guardS, gvI_same, gvI_ft, slotAt_zero, slotAt_succ, stepA_move, stepA_assign, stepA_pick, stepA_load, stepA_binOp, stepA_fieldAddr, stepA_len, thenV_some, pickV_true, pickV_false, eval_tmp, eval_const, put_some, enterF_succ, aBin_eql, absV_int, absV_bool, aField_eq, fieldGo_ptr, aLoad_eq, loadGo_one, aPlace_ptr, aLen_imm, Int.reduceBEq, beq_self_eq_true, Nat.reduceEqDiff, Nat.add_zero, Nat.zero_add, if_true, if_false, ft_47_0, ft_47_1, kt_33, lt_3, lt_33, gv, hd0, hd1, hl0, q1, retA_ret, Tryd.results61, resultsA_1]
      exact hid_mk ⟨by rw [hG, hzv]; rfl, kH⟩
  · have hzv : exprX v.e 0 = v.e.ks.isEmpty := by rw [hz, c1, c2]; rfl
    simp only [wpA_region, wpA_seq, seqQ_normal, goI_out, goI_ops, opsA_nil, opsA_cons, opsA_guardS, gvI_same, slotAt_zero, slotAt_succ, stepA_move, stepA_assign, stepA_pick, stepA_box, stepA_load, stepA_binOp, stepA_fieldAddr, stepA_len, stepA_call, thenV_some, thenH_some, pickV_true, eval_tmp, eval_const, put_some, enterF_zero, enterF_succ, aBin_eql, absV_int, absV_bool, aField_eq, fieldGo_ptr, aLoad_eq, loadGo_one, aPlace_ptr, aBox_eq, aLen_imm, Nat.reduceEqDiff, Nat.reduceAdd, List.map_cons, List.map_nil, Option.map_some, Nat.add_zero, Nat.zero_add, if_true, if_false, ft_45_0, ft_45_1, ft_45_2, ft_47_2, kt_43, lt_2, lt_3, lt_43, lt_45, hc, ← hH, gv, hd2, hd3, hd4, hl2, hld, c1, c2, hl]
    refine callI_pure cal75 (pMayR v.e hok H) ?_
    rcases hcs with rfl | rfl | rfl | rfl | rfl | rfl | rfl | rfl | rfl | rfl
    · have hG : hasX v = (decide (((v.frm.length : Nat) : Int) = 0) && (exprX v.e 0 && (decide (0 ≤ v.n) && decide (v.n ≤ 7)))) := by unfold hasX; rw [hk]; rfl
      cases q1 : (((v.frm.length : Nat) : Int) == 0)
      · have d1 : decide (((v.frm.length : Nat) : Int) = 0) = false := by simpa using q1
        simp only [wpA_region, wpA_seq, wpA_cond, wpA_block, wpA_ret, condI_true, seqQ_normal, seqQ_ret, blkQ_ret, endI_mk, goI_out, goI_ops, opsA_nil, opsA_cons, opsA_guardS, gvI_ft, slotAt_zero, slotAt_succ, stepA_move, stepA_assign, stepA_pick, stepA_load, stepA_binOp, stepA_fieldAddr, stepA_len, thenV_some, pickV_false, eval_tmp, eval_const, put_some, enterF_succ, aBin_eql, absV_int, absV_bool, aField_eq, fieldGo_ptr, aLoad_eq, loadGo_one, aPlace_ptr, aLen_imm, beq_self_eq_true, Nat.reduceEqDiff, Nat.add_zero, Nat.zero_add, if_true, if_false, ft_47_0, ft_47_1, kt_33, lt_3, lt_33, gv, hd0, hd1, hl0, q1, retA_ret, Tryd.results61, resultsA_1]
        exact hid_mk ⟨by rw [hG, d1]; rfl, kH⟩
      have d1 : decide (((v.frm.length : Nat) : Int) = 0) = true := by simpa using q1
      rw [d1, Bool.true_and] at hG
      rw [hzv] at hG
      cases q2 : v.e.ks.isEmpty
      · simp only [wpA_region, wpA_seq, wpA_cond, wpA_block, wpA_ret, condI_true, seqQ_normal, seqQ_ret, blkQ_ret, endI_mk, goI_out, goI_ops, opsA_nil, opsA_cons, opsA_guardS, gvI_same, gvI_ft, slotAt_zero, slotAt_succ, stepA_move, stepA_assign, stepA_pick, stepA_load, stepA_binOp, stepA_fieldAddr, stepA_len, thenV_some, pickV_true, pickV_false, eval_tmp, eval_const, put_some, enterF_succ, aBin_eql, absV_int, absV_bool, aField_eq, fieldGo_ptr, aLoad_eq, loadGo_one, aPlace_ptr, aLen_imm, beq_self_eq_true, Nat.reduceEqDiff, Nat.add_zero, Nat.zero_add, if_true, if_false, ft_47_0, ft_47_1, kt_33, lt_3, lt_33, gv, hd0, hd1, hl0, q1, retA_ret, Tryd.results61, resultsA_1]
        exact hid_mk ⟨by rw [hG, q2]; rfl, kH⟩
      rw [q2, Bool.true_and] at hG
      cases q3 : decide (0 ≤ v.n)
      · simp only [wpA_region, wpA_seq, wpA_cond, wpA_block, wpA_ret, condI_true, seqQ_normal, seqQ_ret, blkQ_ret, endI_mk, goI_out, goI_ops, opsA_nil, opsA_cons, opsA_guardS, gvI_same, gvI_ft, slotAt_zero, slotAt_succ, stepA_move, stepA_assign, stepA_pick, stepA_load, stepA_binOp, stepA_fieldAddr, stepA_len, thenV_some, pickV_true, pickV_false, eval_tmp, eval_const, put_some, enterF_succ, aBin_eql, aBin_geq, absV_int, absV_bool, aField_eq, fieldGo_ptr, aLoad_eq, loadGo_one, aPlace_ptr, aLen_imm, beq_self_eq_true, Nat.reduceEqDiff, Nat.add_zero, Nat.zero_add, if_true, if_false, ft_47_0, ft_47_1, ft_47_3, kt_33, lt_2, lt_3, lt_33, gv, hd0, hd1, hd5, hl0, q1, q3, retA_ret, Tryd.results61, resultsA_1]
        exact hid_mk ⟨by rw [hG, q3]; rfl, kH⟩
      · simp only [wpA_region, wpA_seq, wpA_cond, wpA_block, wpA_ret, condI_true, seqQ_normal, seqQ_ret, blkQ_ret, endI_mk, goI_out, goI_ops, opsA_nil, opsA_cons, opsA_guardS, gvI_same, slotAt_zero, slotAt_succ, stepA_move, stepA_assign, stepA_pick, stepA_load, stepA_binOp, stepA_fieldAddr, stepA_len, thenV_some, pickV_true, eval_tmp, eval_const, put_some, enterF_succ, aBin_eql, aBin_leq, aBin_geq, absV_int, absV_bool, aField_eq, fieldGo_ptr, aLoad_eq, loadGo_one, aPlace_ptr, aLen_imm, beq_self_eq_true, Nat.reduceEqDiff, Nat.add_zero, Nat.zero_add, if_true, if_false, ft_47_0, ft_47_1, ft_47_3, kt_33, lt_2, lt_3, lt_33, gv, hd0, hd1, hd5, hl0, q1, q3, retA_ret, Tryd.results61, resultsA_1]
        exact hid_mk ⟨by rw [hG, q3]; rfl, kH⟩
    · have hG : hasX v = (decide (((v.frm.length : Nat) : Int) = 1) && (exprX v.e 1 && (decide (0 ≤ v.n) && decide (v.n ≤ 0)))) := by unfold hasX; rw [hk]; rfl
      cases q1 : (((v.frm.length : Nat) : Int) == 1)
      · have d1 : decide (((v.frm.length : Nat) : Int) = 1) = false := by simpa using q1
        simp only [wpA_skip, wpA_region, wpA_seq, wpA_cond, wpA_block, wpA_ret, condI_true, condI_false, seqQ_normal, seqQ_ret, blkQ_ret, endI_mk, goI_out, goI_ops, opsA_nil, opsA_cons, opsA_guardS, gvI_ft, slotAt_zero, slotAt_succ, stepA_move, stepA_assign, stepA_pick, stepA_load, stepA_binOp, stepA_fieldAddr, stepA_len, thenV_some, pickV_false, eval_tmp, eval_const, put_some, enterF_succ, aBin_eql, absV_int, absV_bool, aField_eq, fieldGo_ptr, aLoad_eq, loadGo_one, aPlace_ptr, aLen_imm, Int.reduceBEq, beq_self_eq_true, Nat.reduceEqDiff, Nat.add_zero, Nat.zero_add, if_true, if_false, ft_47_0, ft_47_1, kt_33, lt_3, lt_33, gv, hd0, hd1, hl0, q1, retA_ret, Tryd.results61, resultsA_1]
        exact hid_mk ⟨by rw [hG, d1]; rfl, kH⟩
      have d1 : decide (((v.frm.length : Nat) : Int) = 1) = true := by simpa using q1
      rw [d1, Bool.true_and] at hG
      rw [hx1] at hG
      cases q2 : mayX v.e
      · simp only [wpA_skip, wpA_region, wpA_seq, wpA_cond, wpA_block, wpA_ret, condI_true, condI_false, seqQ_normal, seqQ_ret, blkQ_ret, endI_mk, goI_out, goI_ops, opsA_nil, opsA_cons, opsA_guardS, gvI_same, gvI_ft, slotAt_zero, slotAt_succ, stepA_move, stepA_assign, stepA_pick, stepA_load, stepA_binOp, stepA_fieldAddr, stepA_len, thenV_some, pickV_true, pickV_false, eval_tmp, eval_const, put_some, enterF_succ, aBin_eql, absV_int, absV_bool, aField_eq, fieldGo_ptr, aLoad_eq, loadGo_one, aPlace_ptr, aLen_imm, Int.reduceBEq, beq_self_eq_true, Nat.reduceEqDiff, Nat.add_zero, Nat.zero_add, if_true, if_false, ft_47_0, ft_47_1, kt_33, lt_3, lt_33, gv, hd0, hd1, hl0, q1, retA_ret, Tryd.results61, resultsA_1]
        exact hid_mk ⟨by rw [hG, q2]; rfl, kH⟩
      rw [q2, Bool.true_and] at hG
      have hn0 : (decide (0 ≤ v.n) && decide (v.n ≤ 0)) = (v.n == 0) := by rw [Bool.eq_iff_iff]; simp; omega
      rw [hn0] at hG
      cases q3 : (v.n == 0)
      · simp only [wpA_skip, wpA_region, wpA_seq, wpA_cond, wpA_block, wpA_ret, condI_true, condI_false, seqQ_normal, seqQ_ret, blkQ_ret, endI_mk, goI_out, goI_ops, opsA_nil, opsA_cons, opsA_guardS, gvI_same, gvI_ft, slotAt_zero, slotAt_succ, stepA_move, stepA_assign, stepA_pick, stepA_load, stepA_binOp, stepA_fieldAddr, stepA_len, thenV_some, pickV_true, pickV_false, eval_tmp, eval_const, put_some, enterF_succ, aBin_eql, absV_int, absV_bool, aField_eq, fieldGo_ptr, aLoad_eq, loadGo_one, aPlace_ptr, aLen_imm, Int.reduceBEq, beq_self_eq_true, Nat.reduceEqDiff, Nat.add_zero, Nat.zero_add, if_true, if_false, ft_47_0, ft_47_1, ft_47_3, kt_33, lt_2, lt_3, lt_33, gv, hd0, hd1, hd5, hl0, q1, q3, retA_ret, Tryd.results61, resultsA_1]
        exact hid_mk ⟨by rw [hG, q3, Bool.and_false], kH⟩
      · simp only [wpA_skip, wpA_region, wpA_seq, wpA_cond, wpA_block, condI_true, condI_false, seqQ_normal, goI_out, goI_ops, opsA_nil, opsA_cons, opsA_guardS, gvI_same, slotAt_zero, slotAt_succ, stepA_move, stepA_assign, stepA_pick, stepA_load, stepA_binOp, stepA_fieldAddr, stepA_len, stepA_call, thenV_some, pickV_true, eval_tmp, eval_const, put_some, enterF_succ, aBin_eql, absV_int, absV_bool, aField_eq, fieldGo_ptr, aLoad_eq, loadGo_one, aPlace_ptr, aLen_imm, Int.reduceBEq, beq_self_eq_true, Nat.reduceEqDiff, List.map_cons, List.map_nil, Nat.add_zero, Nat.zero_add, if_true, if_false, ft_47_0, ft_47_1, ft_47_2, ft_47_3, kt_33, lt_2, lt_3, lt_33, lt_45, gv, hd0, hd1, hd2, hld, hd5, hl0, q1, q3]
        refine callI_pure cal76 (pUsesR 5 _ v.e H rfl hok) ?_
        simp only [wpA_ret, seqQ_normal, seqQ_ret, blkQ_ret, endI_mk, goI_out, goI_ops, opsA_nil, opsA_cons, opsA_guardS, gvI_same, slotAt_zero, slotAt_succ, stepA_assign, stepA_pick, stepA_unOp, thenV_some, pickV_true, eval_tmp, eval_const, put_some, enterF_succ, aUn_not, absV_bool, Nat.reduceEqDiff, if_true, if_false, retA_ret, Tryd.results61, resultsA_1]
        exact hid_mk ⟨by rw [hG, q3, Bool.and_true], kH⟩
    · have hG : hasX v = (decide (((v.frm.length : Nat) : Int) = 1) && (exprX v.e 1 && (decide (0 ≤ v.n) && decide (v.n ≤ 0)))) := by unfold hasX; rw [hk]; rfl
      cases q1 : (((v.frm.length : Nat) : Int) == 1)
      · have d1 : decide (((v.frm.length : Nat) : Int) = 1) = false := by simpa using q1
        simp only [wpA_skip, wpA_region, wpA_seq, wpA_cond, wpA_block, wpA_ret, condI_true, condI_false, seqQ_normal, seqQ_ret, blkQ_ret, endI_mk, goI_out, goI_ops, opsA_nil, opsA_cons, opsA_guardS, gvI_ft, slotAt_zero, slotAt_succ, stepA_move, stepA_assign, stepA_pick, stepA_load, stepA_binOp, stepA_fieldAddr, stepA_len, thenV_some, pickV_false, eval_tmp, eval_const, put_some, enterF_succ, aBin_eql, absV_int, absV_bool, aField_eq, fieldGo_ptr, aLoad_eq, loadGo_one, aPlace_ptr, aLen_imm, Int.reduceBEq, beq_self_eq_true, Nat.reduceEqDiff, Nat.add_zero, Nat.zero_add, if_true, if_false, ft_47_0, ft_47_1, kt_33, lt_3, lt_33, gv, hd0, hd1, hl0, q1, retA_ret, Tryd.results61, resultsA_1]
        exact hid_mk ⟨by rw [hG, d1]; rfl, kH⟩
      have d1 : decide (((v.frm.length : Nat) : Int) = 1) = true := by simpa using q1
      rw [d1, Bool.true_and] at hG
      rw [hx1] at hG
      cases q2 : mayX v.e
      · simp only [wpA_skip, wpA_region, wpA_seq, wpA_cond, wpA_block, wpA_ret, condI_true, condI_false, seqQ_normal, seqQ_ret, blkQ_ret, endI_mk, goI_out, goI_ops, opsA_nil, opsA_cons, opsA_guardS, gvI_same, gvI_ft, slotAt_zero, slotAt_succ, stepA_move, stepA_assign, stepA_pick, stepA_load, stepA_binOp, stepA_fieldAddr, stepA_len, thenV_some, pickV_true, pickV_false, eval_tmp, eval_const, put_some, enterF_succ, aBin_eql, absV_int, absV_bool, aField_eq, fieldGo_ptr, aLoad_eq, loadGo_one, aPlace_ptr, aLen_imm, Int.reduceBEq, beq_self_eq_true, Nat.reduceEqDiff, Nat.add_zero, Nat.zero_add, if_true, if_false, ft_47_0, ft_47_1, kt_33, lt_3, lt_33, gv, hd0, hd1, hl0, q1, retA_ret, Tryd.results61, resultsA_1]
        exact hid_mk ⟨by rw [hG, q2]; rfl, kH⟩
      rw [q2, Bool.true_and] at hG
      have hn0 : (decide (0 ≤ v.n) && decide (v.n ≤ 0)) = (v.n == 0) := by rw [Bool.eq_iff_iff]; simp; omega
      rw [hn0] at hG
      cases q3 : (v.n == 0)
      · simp only [wpA_skip, wpA_region, wpA_seq, wpA_cond, wpA_block, wpA_ret, condI_true, condI_false, seqQ_normal, seqQ_ret, blkQ_ret, endI_mk, goI_out, goI_ops, opsA_nil, opsA_cons, opsA_guardS, gvI_same, gvI_ft, slotAt_zero, slotAt_succ, stepA_move, stepA_assign, stepA_pick, stepA_load, stepA_binOp, stepA_fieldAddr, stepA_len, thenV_some, pickV_true, pickV_false, eval_tmp, eval_const, put_some, enterF_succ, aBin_eql, absV_int, absV_bool, aField_eq, fieldGo_ptr, aLoad_eq, loadGo_one, aPlace_ptr, aLen_imm, Int.reduceBEq, beq_self_eq_true, Nat.reduceEqDiff, Nat.add_zero, Nat.zero_add, if_true, if_false, ft_47_0, ft_47_1, ft_47_3, kt_33, lt_2, lt_3, lt_33, gv, hd0, hd1, hd5, hl0, q1, q3, retA_ret, Tryd.results61, resultsA_1]
        exact hid_mk ⟨by rw [hG, q3, Bool.and_false], kH⟩
      · simp only [wpA_skip, wpA_region, wpA_seq, wpA_cond, wpA_block, condI_true, condI_false, seqQ_normal, goI_out, goI_ops, opsA_nil, opsA_cons, opsA_guardS, gvI_same, slotAt_zero, slotAt_succ, stepA_move, stepA_assign, stepA_pick, stepA_load, stepA_binOp, stepA_fieldAddr, stepA_len, stepA_call, thenV_some, pickV_true, eval_tmp, eval_const, put_some, enterF_succ, aBin_eql, absV_int, absV_bool, aField_eq, fieldGo_ptr, aLoad_eq, loadGo_one, aPlace_ptr, aLen_imm, Int.reduceBEq, beq_self_eq_true, Nat.reduceEqDiff, List.map_cons, List.map_nil, Nat.add_zero, Nat.zero_add, if_true, if_false, ft_47_0, ft_47_1, ft_47_2, ft_47_3, kt_33, lt_2, lt_3, lt_33, lt_45, gv, hd0, hd1, hd2, hld, hd5, hl0, q1, q3]
        refine callI_pure cal76 (pUsesR 5 _ v.e H rfl hok) ?_
        simp only [wpA_ret, seqQ_normal, seqQ_ret, blkQ_ret, endI_mk, goI_out, goI_ops, opsA_nil, opsA_cons, opsA_guardS, gvI_same, slotAt_zero, slotAt_succ, stepA_assign, stepA_pick, stepA_unOp, thenV_some, pickV_true, eval_tmp, eval_const, put_some, enterF_succ, aUn_not, absV_bool, Nat.reduceEqDiff, if_true, if_false, retA_ret, Tryd.results61, resultsA_1]
        exact hid_mk ⟨by rw [hG, q3, Bool.and_true], kH⟩
    · have hG : hasX v = (decide (((v.frm.length : Nat) : Int) = 1) && (exprX v.e 1 && (decide (0 ≤ v.n) && decide (v.n ≤ 0)))) := by unfold hasX; rw [hk]; rfl
      cases q1 : (((v.frm.length : Nat) : Int) == 1)
      · have d1 : decide (((v.frm.length : Nat) : Int) = 1) = false := by simpa using q1
        simp only [wpA_skip, wpA_region, wpA_seq, wpA_cond, wpA_block, wpA_ret, condI_true, condI_false, seqQ_normal, seqQ_ret, blkQ_ret, endI_mk, goI_out, goI_ops, opsA_nil, opsA_cons, opsA_guardS, gvI_ft, slotAt_zero, slotAt_succ, stepA_move, stepA_assign, stepA_pick, stepA_load, stepA_binOp, stepA_fieldAddr, stepA_len, thenV_some, pickV_false, eval_tmp, eval_const, put_some, enterF_succ, aBin_eql, absV_int, absV_bool, aField_eq, fieldGo_ptr, aLoad_eq, loadGo_one, aPlace_ptr, aLen_imm, Int.reduceBEq, beq_self_eq_true, Nat.reduceEqDiff, Nat.add_zero, Nat.zero_add, if_true, if_false, ft_47_0, ft_47_1, kt_33, lt_3, lt_33, gv, hd0, hd1, hl0, q1, retA_ret, Tryd.results61, resultsA_1]
        exact hid_mk ⟨by rw [hG, d1]; rfl, kH⟩
      have d1 : decide (((v.frm.length : Nat) : Int) = 1) = true := by simpa using q1
      rw [d1, Bool.true_and] at hG
      rw [hx1] at hG
      cases q2 : mayX v.e
      · simp only [wpA_skip, wpA_region, wpA_seq, wpA_cond, wpA_block, wpA_ret, condI_true, condI_false, seqQ_normal, seqQ_ret, blkQ_ret, endI_mk, goI_out, goI_ops, opsA_nil, opsA_cons, opsA_guardS, gvI_same, gvI_ft, slotAt_zero, slotAt_succ, stepA_move, stepA_assign, stepA_pick, stepA_load, stepA_binOp, stepA_fieldAddr, stepA_len, thenV_some, pickV_true, pickV_false, eval_tmp, eval_const, put_some, enterF_succ, aBin_eql, absV_int, absV_bool, aField_eq, fieldGo_ptr, aLoad_eq, loadGo_one, aPlace_ptr, aLen_imm, Int.reduceBEq, beq_self_eq_true, Nat.reduceEqDiff, Nat.add_zero, Nat.zero_add, if_true, if_false, ft_47_0, ft_47_1, kt_33, lt_3, lt_33, gv, hd0, hd1, hl0, q1, retA_ret, Tryd.results61, resultsA_1]
        exact hid_mk ⟨by rw [hG, q2]; rfl, kH⟩
      rw [q2, Bool.true_and] at hG
      have hn0 : (decide (0 ≤ v.n) && decide (v.n ≤ 0)) = (v.n == 0) := by rw [Bool.eq_iff_iff]; simp; omega
      rw [hn0] at hG
      cases q3 : (v.n == 0)
      · simp only [wpA_skip, wpA_region, wpA_seq, wpA_cond, wpA_block, wpA_ret, condI_true, condI_false, seqQ_normal, seqQ_ret, blkQ_ret, endI_mk, goI_out, goI_ops, opsA_nil, opsA_cons, opsA_guardS, gvI_same, gvI_ft, slotAt_zero, slotAt_succ, stepA_move, stepA_assign, stepA_pick, stepA_load, stepA_binOp, stepA_fieldAddr, stepA_len, thenV_some, pickV_true, pickV_false, eval_tmp, eval_const, put_some, enterF_succ, aBin_eql, absV_int, absV_bool, aField_eq, fieldGo_ptr, aLoad_eq, loadGo_one, aPlace_ptr, aLen_imm, Int.reduceBEq, beq_self_eq_true, Nat.reduceEqDiff, Nat.add_zero, Nat.zero_add, if_true, if_false, ft_47_0, ft_47_1, ft_47_3, kt_33, lt_2, lt_3, lt_33, gv, hd0, hd1, hd5, hl0, q1, q3, retA_ret, Tryd.results61, resultsA_1]
        exact hid_mk ⟨by rw [hG, q3, Bool.and_false], kH⟩
      · simp only [wpA_skip, wpA_region, wpA_seq, wpA_cond, wpA_block, condI_true, condI_false, seqQ_normal, goI_out, goI_ops, opsA_nil, opsA_cons, opsA_guardS, gvI_same, slotAt_zero, slotAt_succ, stepA_move, stepA_assign, stepA_pick, stepA_load, stepA_binOp, stepA_fieldAddr, stepA_len, stepA_call, thenV_some, pickV_true, eval_tmp, eval_const, put_some, enterF_succ, aBin_eql, absV_int, absV_bool, aField_eq, fieldGo_ptr, aLoad_eq, loadGo_one, aPlace_ptr, aLen_imm, Int.reduceBEq, beq_self_eq_true, Nat.reduceEqDiff, List.map_cons, List.map_nil, Nat.add_zero, Nat.zero_add, if_true, if_false, ft_47_0, ft_47_1, ft_47_2, ft_47_3, kt_33, lt_2, lt_3, lt_33, lt_45, gv, hd0, hd1, hd2, hld, hd5, hl0, q1, q3]
        refine callI_pure cal76 (pUsesR 5 _ v.e H rfl hok) ?_
        simp only [wpA_ret, seqQ_normal, seqQ_ret, blkQ_ret, endI_mk, goI_out, goI_ops, opsA_nil, opsA_cons, opsA_guardS, gvI_same, slotAt_zero, slotAt_succ, stepA_assign, stepA_pick, stepA_unOp, thenV_some, pickV_true, eval_tmp, eval_const, put_some, enterF_succ, aUn_not, absV_bool, Nat.reduceEqDiff, if_true, if_false, retA_ret, Tryd.results61, resultsA_1]
        exact hid_mk ⟨by rw [hG, q3, Bool.and_true], kH⟩
    · have hG : hasX v = (decide (((v.frm.length : Nat) : Int) = 1) && (exprX v.e 1 && (decide (0 ≤ v.n) && decide (v.n ≤ 0)))) := by unfold hasX; rw [hk]; rfl
      cases q1 : (((v.frm.length : Nat) : Int) == 1)
      · have d1 : decide (((v.frm.length : Nat) : Int) = 1) = false := by simpa using q1
        simp only [wpA_region, wpA_seq, wpA_cond, wpA_block, wpA_ret, condI_true, condI_false, seqQ_normal, seqQ_ret, blkQ_ret, endI_mk, goI_out, goI_ops, opsA_nil, opsA_cons, opsA_guardS, gvI_ft, slotAt_zero, slotAt_succ, stepA_move, stepA_assign, stepA_pick, stepA_load, stepA_binOp, stepA_fieldAddr, stepA_len, thenV_some, pickV_false, eval_tmp, eval_const, put_some, enterF_succ, aBin_eql, absV_int, absV_bool, aField_eq, fieldGo_ptr, aLoad_eq, loadGo_one, aPlace_ptr, aLen_imm, Int.reduceBEq, beq_self_eq_true, Nat.reduceEqDiff, Nat.add_zero, Nat.zero_add, if_true, if_false, ft_47_0, ft_47_1, kt_33, lt_3, lt_33, gv, hd0, hd1, hl0, q1, retA_ret, Tryd.results61, resultsA_1]
        exact hid_mk ⟨by rw [hG, d1]; rfl, kH⟩
      have d1 : decide (((v.frm.length : Nat) : Int) = 1) = true := by simpa using q1
      rw [d1, Bool.true_and] at hG
      rw [hx1] at hG
      cases q2 : mayX v.e
      · simp only [wpA_region, wpA_seq, wpA_cond, wpA_block, wpA_ret, condI_true, condI_false, seqQ_normal, seqQ_ret, blkQ_ret, endI_mk, goI_out, goI_ops, opsA_nil, opsA_cons, opsA_guardS, gvI_same, gvI_ft, slotAt_zero, slotAt_succ, stepA_move, stepA_assign, stepA_pick, stepA_load, stepA_binOp, stepA_fieldAddr, stepA_len, thenV_some, pickV_true, pickV_false, eval_tmp, eval_const, put_some, enterF_succ, aBin_eql, absV_int, absV_bool, aField_eq, fieldGo_ptr, aLoad_eq, loadGo_one, aPlace_ptr, aLen_imm, Int.reduceBEq, beq_self_eq_true, Nat.reduceEqDiff, Nat.add_zero, Nat.zero_add, if_true, if_false, ft_47_0, ft_47_1, kt_33, lt_3, lt_33, gv, hd0, hd1, hl0, q1, retA_ret, Tryd.results61, resultsA_1]
        exact hid_mk ⟨by rw [hG, q2]; rfl, kH⟩
      rw [q2, Bool.true_and] at hG
      have hn0 : (decide (0 ≤ v.n) && decide (v.n ≤ 0)) = (v.n == 0) := by rw [Bool.eq_iff_iff]; simp; omega
      rw [hn0] at hG
      cases q3 : (v.n == 0)
      · simp only [wpA_region, wpA_seq, wpA_cond, wpA_block, wpA_ret, condI_true, condI_false, seqQ_normal, seqQ_ret, blkQ_ret, endI_mk, goI_out, goI_ops, opsA_nil, opsA_cons, opsA_guardS, gvI_same, gvI_ft, slotAt_zero, slotAt_succ, stepA_move, stepA_assign, stepA_pick, stepA_load, stepA_binOp, stepA_fieldAddr, stepA_len, thenV_some, pickV_true, pickV_false, eval_tmp, eval_const, put_some, enterF_succ, aBin_eql, absV_int, absV_bool, aField_eq, fieldGo_ptr, aLoad_eq, loadGo_one, aPlace_ptr, aLen_imm, Int.reduceBEq, beq_self_eq_true, Nat.reduceEqDiff, Nat.add_zero, Nat.zero_add, if_true, if_false, ft_47_0, ft_47_1, ft_47_3, kt_33, lt_2, lt_3, lt_33, gv, hd0, hd1, hd5, hl0, q1, q3, retA_ret, Tryd.results61, resultsA_1]
        exact hid_mk ⟨by rw [hG, q3, Bool.and_false], kH⟩
      · simp only [wpA_region, wpA_seq, wpA_cond, wpA_block, condI_true, condI_false, seqQ_normal, goI_out, goI_ops, opsA_nil, opsA_cons, opsA_guardS, gvI_same, slotAt_zero, slotAt_succ, stepA_move, stepA_assign, stepA_pick, stepA_load, stepA_binOp, stepA_fieldAddr, stepA_len, stepA_call, thenV_some, pickV_true, eval_tmp, eval_const, put_some, enterF_succ, aBin_eql, absV_int, absV_bool, aField_eq, fieldGo_ptr, aLoad_eq, loadGo_one, aPlace_ptr, aLen_imm, Int.reduceBEq, beq_self_eq_true, Nat.reduceEqDiff, List.map_cons, List.map_nil, Nat.add_zero, Nat.zero_add, if_true, if_false, ft_47_0, ft_47_1, ft_47_2, ft_47_3, kt_33, lt_2, lt_3, lt_33, lt_45, gv, hd0, hd1, hd2, hld, hd5, hl0, q1, q3]
        refine callI_pure cal76 (pUsesR 5 _ v.e H rfl hok) ?_
        simp only [wpA_ret, seqQ_normal, seqQ_ret, blkQ_ret, endI_mk, goI_out, goI_ops, opsA_nil, opsA_cons, opsA_guardS, gvI_same, slotAt_zero, slotAt_succ, stepA_assign, stepA_pick, stepA_unOp, thenV_some, pickV_true, eval_tmp, eval_const, put_some, enterF_succ, aUn_not, absV_bool, Nat.reduceEqDiff, if_true, if_false, retA_ret, Tryd.results61, resultsA_1]
        exact hid_mk ⟨by rw [hG, q3, Bool.and_true], kH⟩
    · have hG : hasX v = (decide (((v.frm.length : Nat) : Int) = 1) && (exprX v.e 2 && (decide (0 ≤ v.n) && decide (v.n ≤ 0)))) := by unfold hasX; rw [hk]; rfl
      cases q1 : (((v.frm.length : Nat) : Int) == 1)
      · have d1 : decide (((v.frm.length : Nat) : Int) = 1) = false := by simpa using q1
        simp only [wpA_region, wpA_seq, wpA_cond, wpA_block, wpA_ret, condI_true, condI_false, seqQ_normal, seqQ_ret, blkQ_ret, endI_mk, goI_out, goI_ops, opsA_nil, opsA_cons, opsA_guardS, gvI_ft, slotAt_zero, slotAt_succ, stepA_move, stepA_assign, stepA_pick, stepA_load, stepA_binOp, stepA_fieldAddr, stepA_len, thenV_some, pickV_false, eval_tmp, eval_const, put_some, enterF_succ, aBin_eql, absV_int, absV_bool, aField_eq, fieldGo_ptr, aLoad_eq, loadGo_one, aPlace_ptr, aLen_imm, Int.reduceBEq, beq_self_eq_true, Nat.reduceEqDiff, Nat.add_zero, Nat.zero_add, if_true, if_false, ft_47_0, ft_47_1, kt_33, lt_3, lt_33, gv, hd0, hd1, hl0, q1, retA_ret, Tryd.results61, resultsA_1]
        exact hid_mk ⟨by rw [hG, d1]; rfl, kH⟩
      have d1 : decide (((v.frm.length : Nat) : Int) = 1) = true := by simpa using q1
      rw [d1, Bool.true_and] at hG
      rw [hx2] at hG
      cases q2 : mayX v.e
      · simp only [wpA_region, wpA_seq, wpA_cond, wpA_block, wpA_ret, condI_true, condI_false, seqQ_normal, seqQ_ret, blkQ_ret, endI_mk, goI_out, goI_ops, opsA_nil, opsA_cons, opsA_guardS, gvI_same, gvI_ft, slotAt_zero, slotAt_succ, stepA_move, stepA_assign, stepA_pick, stepA_load, stepA_binOp, stepA_fieldAddr, stepA_len, thenV_some, pickV_true, pickV_false, eval_tmp, eval_const, put_some, enterF_succ, aBin_eql, absV_int, absV_bool, aField_eq, fieldGo_ptr, aLoad_eq, loadGo_one, aPlace_ptr, aLen_imm, Int.reduceBEq, beq_self_eq_true, Nat.reduceEqDiff, Nat.add_zero, Nat.zero_add, if_true, if_false, ft_47_0, ft_47_1, kt_33, lt_3, lt_33, gv, hd0, hd1, hl0, q1, retA_ret, Tryd.results61, resultsA_1]
        exact hid_mk ⟨by rw [hG, q2]; rfl, kH⟩
      rw [q2, Bool.true_and] at hG
      have hn0 : (decide (0 ≤ v.n) && decide (v.n ≤ 0)) = (v.n == 0) := by rw [Bool.eq_iff_iff]; simp; omega
      rw [hn0] at hG
      simp only [wpA_region, wpA_seq, wpA_cond, wpA_block, wpA_ret, condI_true, condI_false, seqQ_normal, seqQ_ret, blkQ_ret, endI_mk, goI_out, goI_ops, opsA_nil, opsA_cons, opsA_guardS, gvI_same, slotAt_zero, slotAt_succ, stepA_move, stepA_assign, stepA_pick, stepA_load, stepA_binOp, stepA_fieldAddr, stepA_len, thenV_some, pickV_true, eval_tmp, eval_const, put_some, enterF_succ, aBin_eql, absV_int, absV_bool, aField_eq, fieldGo_ptr, aLoad_eq, loadGo_one, aPlace_ptr, aLen_imm, Int.reduceBEq, beq_self_eq_true, Nat.reduceEqDiff, Nat.add_zero, Nat.zero_add, if_true, if_false, ft_47_0, ft_47_1, ft_47_3, kt_33, lt_2, lt_3, lt_33, gv, hd0, hd1, hd5, hl0, q1, retA_ret, Tryd.results61, resultsA_1]
      exact hid_mk ⟨by rw [hG], kH⟩
    · have hG : hasX v = (decide (((v.frm.length : Nat) : Int) = 1) && (exprX v.e 2 && (decide (1 ≤ v.n) && decide (v.n ≤ 1048576)))) := by unfold hasX; rw [hk]; rfl
      cases q1 : (((v.frm.length : Nat) : Int) == 1)
      · have d1 : decide (((v.frm.length : Nat) : Int) = 1) = false := by simpa using q1
        simp only [wpA_skip, wpA_region, wpA_seq, wpA_cond, wpA_block, wpA_ret, condI_false, seqQ_normal, blkQ_normal, endI_mk, goI_out, goI_ops, opsA_nil, opsA_cons, opsA_guardS, gvI_ft, slotAt_zero, slotAt_succ, stepA_move, stepA_assign, stepA_pick, stepA_load, stepA_binOp, stepA_fieldAddr, stepA_len, thenV_some, pickV_false, eval_tmp, eval_const, put_some, enterF_succ, aBin_eql, absV_int, absV_bool, aField_eq, fieldGo_ptr, aLoad_eq, loadGo_one, aPlace_ptr, aLen_imm, Int.reduceBEq, Nat.reduceEqDiff, Nat.add_zero, Nat.zero_add, if_true, if_false, ft_47_0, ft_47_1, kt_33, lt_3, lt_33, gv, hd0, hd1, hl0, q1, retA_ret, Tryd.results61, resultsA_1]
        exact hid_mk ⟨by rw [hG, d1]; rfl, kH⟩
      have d1 : decide (((v.frm.length : Nat) : Int) = 1) = true := by simpa using q1
      rw [d1, Bool.true_and] at hG
      rw [hx2] at hG
      cases q2 : mayX v.e
      · simp only [wpA_skip, wpA_region, wpA_seq, wpA_cond, wpA_block, wpA_ret, condI_false, seqQ_normal, blkQ_normal, endI_mk, goI_out, goI_ops, opsA_nil, opsA_cons, opsA_guardS, gvI_same, gvI_ft, slotAt_zero, slotAt_succ, stepA_move, stepA_assign, stepA_pick, stepA_load, stepA_binOp, stepA_fieldAddr, stepA_len, thenV_some, pickV_true, pickV_false, eval_tmp, eval_const, put_some, enterF_succ, aBin_eql, absV_int, absV_bool, aField_eq, fieldGo_ptr, aLoad_eq, loadGo_one, aPlace_ptr, aLen_imm, Int.reduceBEq, Nat.reduceEqDiff, Nat.add_zero, Nat.zero_add, if_true, if_false, ft_47_0, ft_47_1, kt_33, lt_3, lt_33, gv, hd0, hd1, hl0, q1, retA_ret, Tryd.results61, resultsA_1]
        exact hid_mk ⟨by rw [hG, q2]; rfl, kH⟩
      rw [q2, Bool.true_and] at hG
      cases q3 : decide (1 ≤ v.n)
      · simp only [wpA_skip, wpA_region, wpA_seq, wpA_cond, wpA_block, wpA_ret, condI_false, seqQ_normal, blkQ_normal, endI_mk, goI_out, goI_ops, opsA_nil, opsA_cons, opsA_guardS, gvI_same, gvI_ft, slotAt_zero, slotAt_succ, stepA_move, stepA_assign, stepA_pick, stepA_load, stepA_binOp, stepA_fieldAddr, stepA_len, thenV_some, pickV_true, pickV_false, eval_tmp, eval_const, put_some, enterF_succ, aBin_eql, aBin_geq, absV_int, absV_bool, aField_eq, fieldGo_ptr, aLoad_eq, loadGo_one, aPlace_ptr, aLen_imm, Int.reduceBEq, Nat.reduceEqDiff, Nat.add_zero, Nat.zero_add, if_true, if_false, ft_47_0, ft_47_1, ft_47_3, kt_33, lt_2, lt_3, lt_33, gv, hd0, hd1, hd5, hl0, q1, q3, retA_ret, Tryd.results61, resultsA_1]
        exact hid_mk ⟨by rw [hG, q3]; rfl, kH⟩
      · simp only [wpA_skip, wpA_region, wpA_seq, wpA_cond, wpA_block, wpA_ret, condI_false, seqQ_normal, blkQ_normal, endI_mk, goI_out, goI_ops, opsA_nil, opsA_cons, opsA_guardS, gvI_same, slotAt_zero, slotAt_succ, stepA_move, stepA_assign, stepA_pick, stepA_load, stepA_binOp, stepA_fieldAddr, stepA_len, thenV_some, pickV_true, eval_tmp, eval_const, put_some, enterF_succ, aBin_eql, aBin_leq, aBin_geq, absV_int, absV_bool, aField_eq, fieldGo_ptr, aLoad_eq, loadGo_one, aPlace_ptr, aLen_imm, Int.reduceBEq, Nat.reduceEqDiff, Nat.add_zero, Nat.zero_add, if_true, if_false, ft_47_0, ft_47_1, ft_47_3, kt_33, lt_2, lt_3, lt_33, gv, hd0, hd1, hd5, hl0, q1, q3, retA_ret, Tryd.results61, resultsA_1]
        exact hid_mk ⟨by rw [hG, q3]; rfl, kH⟩
    · have hG : hasX v = (decide (((v.frm.length : Nat) : Int) = 1) && (exprX v.e 2 && (decide (1 ≤ v.n) && decide (v.n ≤ 1048576)))) := by unfold hasX; rw [hk]; rfl
      cases q1 : (((v.frm.length : Nat) : Int) == 1)
      · have d1 : decide (((v.frm.length : Nat) : Int) = 1) = false := by simpa using q1
        simp only [wpA_skip, wpA_region, wpA_seq, wpA_cond, wpA_block, wpA_ret, condI_false, seqQ_normal, blkQ_normal, endI_mk, goI_out, goI_ops, opsA_nil, opsA_cons, opsA_guardS, gvI_ft, slotAt_zero, slotAt_succ, stepA_move, stepA_assign, stepA_pick, stepA_load, stepA_binOp, stepA_fieldAddr, stepA_len, thenV_some, pickV_false, eval_tmp, eval_const, put_some, enterF_succ, aBin_eql, absV_int, absV_bool, aField_eq, fieldGo_ptr, aLoad_eq, loadGo_one, aPlace_ptr, aLen_imm, Int.reduceBEq, Nat.reduceEqDiff, Nat.add_zero, Nat.zero_add, if_true, if_false, ft_47_0, ft_47_1, kt_33, lt_3, lt_33, gv, hd0, hd1, hl0, q1, retA_ret, Tryd.results61, resultsA_1]
        exact hid_mk ⟨by rw [hG, d1]; rfl, kH⟩
      have d1 : decide (((v.frm.length : Nat) : Int) = 1) = true := by simpa using q1
      rw [d1, Bool.true_and] at hG
      rw [hx2] at hG
      cases q2 : mayX v.e
      · simp only [wpA_skip, wpA_region, wpA_seq, wpA_cond, wpA_block, wpA_ret, condI_false, seqQ_normal, blkQ_normal, endI_mk, goI_out, goI_ops, opsA_nil, opsA_cons, opsA_guardS, gvI_same, gvI_ft, slotAt_zero, slotAt_succ, stepA_move, stepA_assign, stepA_pick, stepA_load, stepA_binOp, stepA_fieldAddr, stepA_len, thenV_some, pickV_true, pickV_false, eval_tmp, eval_const, put_some, enterF_succ, aBin_eql, absV_int, absV_bool, aField_eq, fieldGo_ptr, aLoad_eq, loadGo_one, aPlace_ptr, aLen_imm, Int.reduceBEq, Nat.reduceEqDiff, Nat.add_zero, Nat.zero_add, if_true, if_false, ft_47_0, ft_47_1, kt_33, lt_3, lt_33, gv, hd0, hd1, hl0, q1, retA_ret, Tryd.results61, resultsA_1]
        exact hid_mk ⟨by rw [hG, q2]; rfl, kH⟩
      rw [q2, Bool.true_and] at hG
      cases q3 : decide (1 ≤ v.n)
      · simp only [wpA_skip, wpA_region, wpA_seq, wpA_cond, wpA_block, wpA_ret, condI_false, seqQ_normal, blkQ_normal, endI_mk, goI_out, goI_ops, opsA_nil, opsA_cons, opsA_guardS, gvI_same, gvI_ft, slotAt_zero, slotAt_succ, stepA_move, stepA_assign, stepA_pick, stepA_load, stepA_binOp, stepA_fieldAddr, stepA_len, thenV_some, pickV_true, pickV_false, eval_tmp, eval_const, put_some, enterF_succ, aBin_eql, aBin_geq, absV_int, absV_bool, aField_eq, fieldGo_ptr, aLoad_eq, loadGo_one, aPlace_ptr, aLen_imm, Int.reduceBEq, Nat.reduceEqDiff, Nat.add_zero, Nat.zero_add, if_true, if_false, ft_47_0, ft_47_1, ft_47_3, kt_33, lt_2, lt_3, lt_33, gv, hd0, hd1, hd5, hl0, q1, q3, retA_ret, Tryd.results61, resultsA_1]
        exact hid_mk ⟨by rw [hG, q3]; rfl, kH⟩
      · simp only [wpA_skip, wpA_region, wpA_seq, wpA_cond, wpA_block, wpA_ret, condI_false, seqQ_normal, blkQ_normal, endI_mk, goI_out, goI_ops, opsA_nil, opsA_cons, opsA_guardS, gvI_same, slotAt_zero, slotAt_succ, stepA_move, stepA_assign, stepA_pick, stepA_load, stepA_binOp, stepA_fieldAddr, stepA_len, thenV_some, pickV_true, eval_tmp, eval_const, put_some, enterF_succ, aBin_eql, aBin_leq, aBin_geq, absV_int, absV_bool, aField_eq, fieldGo_ptr, aLoad_eq, loadGo_one, aPlace_ptr, aLen_imm, Int.reduceBEq, Nat.reduceEqDiff, Nat.add_zero, Nat.zero_add, if_true, if_false, ft_47_0, ft_47_1, ft_47_3, kt_33, lt_2, lt_3, lt_33, gv, hd0, hd1, hd5, hl0, q1, q3, retA_ret, Tryd.results61, resultsA_1]
        exact hid_mk ⟨by rw [hG, q3]; rfl, kH⟩
    · have hG : hasX v = (decide (((v.frm.length : Nat) : Int) = 2) && (exprX v.e 2 && (decide (0 ≤ v.n) && decide (v.n ≤ 0)))) := by unfold hasX; rw [hk]; rfl
      cases q1 : (((v.frm.length : Nat) : Int) == 2)
      · have d1 : decide (((v.frm.length : Nat) : Int) = 2) = false := by simpa using q1
        simp only [wpA_region, wpA_seq, wpA_cond, wpA_block, wpA_ret, condI_true, condI_false, seqQ_normal, seqQ_ret, blkQ_ret, endI_mk, goI_out, goI_ops, opsA_nil, opsA_cons, opsA_guardS, gvI_ft, slotAt_zero, slotAt_succ, stepA_move, stepA_assign, stepA_pick, stepA_load, stepA_binOp, stepA_fieldAddr, stepA_len, thenV_some, pickV_false, eval_tmp, eval_const, put_some, enterF_succ, aBin_eql, absV_int, absV_bool, aField_eq, fieldGo_ptr, aLoad_eq, loadGo_one, aPlace_ptr, aLen_imm, Int.reduceBEq, beq_self_eq_true, Nat.reduceEqDiff, Nat.add_zero, Nat.zero_add, if_true, if_false, ft_47_0, ft_47_1, kt_33, lt_3, lt_33, gv, hd0, hd1, hl0, q1, retA_ret, Tryd.results61, resultsA_1]
        exact hid_mk ⟨by rw [hG, d1]; rfl, kH⟩
      have d1 : decide (((v.frm.length : Nat) : Int) = 2) = true := by simpa using q1
      rw [d1, Bool.true_and] at hG
      rw [hx2] at hG
      cases q2 : mayX v.e
      · simp only [wpA_region, wpA_seq, wpA_cond, wpA_block, wpA_ret, condI_true, condI_false, seqQ_normal, seqQ_ret, blkQ_ret, endI_mk, goI_out, goI_ops, opsA_nil, opsA_cons, opsA_guardS, gvI_same, gvI_ft, slotAt_zero, slotAt_succ, stepA_move, stepA_assign, stepA_pick, stepA_load, stepA_binOp, stepA_fieldAddr, stepA_len, thenV_some, pickV_true, pickV_false, eval_tmp, eval_const, put_some, enterF_succ, aBin_eql, absV_int, absV_bool, aField_eq, fieldGo_ptr, aLoad_eq, loadGo_one, aPlace_ptr, aLen_imm, Int.reduceBEq, beq_self_eq_true, Nat.reduceEqDiff, Nat.add_zero, Nat.zero_add, if_true, if_false, ft_47_0, ft_47_1, kt_33, lt_3, lt_33, gv, hd0, hd1, hl0, q1, retA_ret, Tryd.results61, resultsA_1]
        exact hid_mk ⟨by rw [hG, q2]; rfl, kH⟩
      rw [q2, Bool.true_and] at hG
      have hn0 : (decide (0 ≤ v.n) && decide (v.n ≤ 0)) = (v.n == 0) := by rw [Bool.eq_iff_iff]; simp; omega
      rw [hn0] at hG
      simp only [wpA_region, wpA_seq, wpA_cond, wpA_block, wpA_ret, condI_true, condI_false, seqQ_normal, seqQ_ret, blkQ_ret, endI_mk, goI_out, goI_ops, opsA_nil, opsA_cons, opsA_guardS, gvI_same, slotAt_zero, slotAt_succ, stepA_move, stepA_assign, stepA_pick, stepA_load, stepA_binOp, stepA_fieldAddr, stepA_len, thenV_some, pickV_true, eval_tmp, eval_const, put_some, enterF_succ, aBin_eql, absV_int, absV_bool, aField_eq, fieldGo_ptr, aLoad_eq, loadGo_one, aPlace_ptr, aLen_imm, Int.reduceBEq, beq_self_eq_true, Nat.reduceEqDiff, Nat.add_zero, Nat.zero_add, if_true, if_false, ft_47_0, ft_47_1, ft_47_3, kt_33, lt_2, lt_3, lt_33, gv, hd0, hd1, hd5, hl0, q1, retA_ret, Tryd.results61, resultsA_1]
      exact hid_mk ⟨by rw [hG], kH⟩
    · have hG : hasX v = (decide (((v.frm.length : Nat) : Int) = 1) && (exprX v.e 0 && (decide (0 ≤ v.n) && decide (v.n ≤ 7)))) := by unfold hasX; rw [hk]; rfl
      cases q1 : (((v.frm.length : Nat) : Int) == 1)
      · have d1 : decide (((v.frm.length : Nat) : Int) = 1) = false := by simpa using q1
        simp only [wpA_region, wpA_seq, wpA_cond, wpA_block, wpA_ret, condI_true, condI_false, seqQ_normal, seqQ_ret, blkQ_ret, endI_mk, goI_out, goI_ops, opsA_nil, opsA_cons, opsA_guardS, gvI_ft, slotAt_zero, slotAt_succ, stepA_move, stepA_assign, stepA_pick, stepA_load, stepA_binOp, stepA_fieldAddr, stepA_len, thenV_some, pickV_false, eval_tmp, eval_const, put_some, enterF_succ, aBin_eql, absV_int, absV_bool, aField_eq, fieldGo_ptr, aLoad_eq, loadGo_one, aPlace_ptr, aLen_imm, Int.reduceBEq, beq_self_eq_true, Nat.reduceEqDiff, Nat.add_zero, Nat.zero_add, if_true, if_false, ft_47_0, ft_47_1, kt_33, lt_3, lt_33, gv, hd0, hd1, hl0, q1, retA_ret, Tryd.results61, resultsA_1]
        exact hid_mk ⟨by rw [hG, d1]; rfl, kH⟩
      have d1 : decide (((v.frm.length : Nat) : Int) = 1) = true := by simpa using q1
      rw [d1, Bool.true_and] at hG
      rw [hzv] at hG
      cases q2 : v.e.ks.isEmpty
      · simp only [wpA_region, wpA_seq, wpA_cond, wpA_block, wpA_ret, condI_true, condI_false, seqQ_normal, seqQ_ret, blkQ_ret, endI_mk, goI_out, goI_ops, opsA_nil, opsA_cons, opsA_guardS, gvI_same, gvI_ft, slotAt_zero, slotAt_succ, stepA_move, stepA_assign, stepA_pick, stepA_load, stepA_binOp, stepA_fieldAddr, stepA_len, thenV_some, pickV_true, pickV_false, eval_tmp, eval_const, put_some, enterF_succ, aBin_eql, absV_int, absV_bool, aField_eq, fieldGo_ptr, aLoad_eq, loadGo_one, aPlace_ptr, aLen_imm, Int.reduceBEq, beq_self_eq_true, Nat.reduceEqDiff, Nat.add_zero, Nat.zero_add, if_true, if_false, ft_47_0, ft_47_1, kt_33, lt_3, lt_33, gv, hd0, hd1, hl0, q1, retA_ret, Tryd.results61, resultsA_1]
        exact hid_mk ⟨by rw [hG, q2]; rfl, kH⟩
      rw [q2, Bool.true_and] at hG
      cases q3 : decide (0 ≤ v.n)
      · simp only [wpA_region, wpA_seq, wpA_cond, wpA_block, wpA_ret, condI_true, condI_false, seqQ_normal, seqQ_ret, blkQ_ret, endI_mk, goI_out, goI_ops, opsA_nil, opsA_cons, opsA_guardS, gvI_same, gvI_ft, slotAt_zero, slotAt_succ, stepA_move, stepA_assign, stepA_pick, stepA_load, stepA_binOp, stepA_fieldAddr, stepA_len, thenV_some, pickV_true, pickV_false, eval_tmp, eval_const, put_some, enterF_succ, aBin_eql, aBin_geq, absV_int, absV_bool, aField_eq, fieldGo_ptr, aLoad_eq, loadGo_one, aPlace_ptr, aLen_imm, Int.reduceBEq, beq_self_eq_true, Nat.reduceEqDiff, Nat.add_zero, Nat.zero_add, if_true, if_false, ft_47_0, ft_47_1, ft_47_3, kt_33, lt_2, lt_3, lt_33, gv, hd0, hd1, hd5, hl0, q1, q3, retA_ret, Tryd.results61, resultsA_1]
        exact hid_mk ⟨by rw [hG, q3]; rfl, kH⟩
      · simp only [wpA_region, wpA_seq, wpA_cond, wpA_block, wpA_ret, condI_true, condI_false, seqQ_normal, seqQ_ret, blkQ_ret, endI_mk, goI_out, goI_ops, opsA_nil, opsA_cons, opsA_guardS, gvI_same, slotAt_zero, slotAt_succ, stepA_move, stepA_assign, stepA_pick, stepA_load, stepA_binOp, stepA_fieldAddr, stepA_len, thenV_some, pickV_true, eval_tmp, eval_const, put_some, enterF_succ, aBin_eql, aBin_leq, aBin_geq, absV_int, absV_bool, aField_eq, fieldGo_ptr, aLoad_eq, loadGo_one, aPlace_ptr, aLen_imm, Int.reduceBEq, beq_self_eq_true, Nat.reduceEqDiff, Nat.add_zero, Nat.zero_add, if_true, if_false, ft_47_0, ft_47_1, ft_47_3, kt_33, lt_2, lt_3, lt_33, gv, hd0, hd1, hd5, hl0, q1, q3, retA_ret, Tryd.results61, resultsA_1]
        exact hid_mk ⟨by rw [hG, q3]; rfl, kH⟩
end Go.Proofs.YtpmmbcifhallbaaDoor.Pk
