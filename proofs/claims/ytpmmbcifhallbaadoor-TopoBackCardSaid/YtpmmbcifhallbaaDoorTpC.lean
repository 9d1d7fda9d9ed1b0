/-
  What functions of the program do, told of abstract states. Conditions: as each theorem says.
-/
import Derived.Test.YtpmmbcifhallbaaDoorTpA
namespace Go.Proofs.YtpmmbcifhallbaaDoor.Pk
open Go Go.Proofs Go.Proofs.YtpmmbcifhallbaaDoor.Ab
set_option linter.unusedVariables false
set_option linter.unusedSimpArgs false

set_option maxRecDepth 10000 in
theorem pMayExpr (e : Ex) (k : Int) (hok : OkE e) (h : AHeap) (hg : KG h) : Pure Tryd.prog 74 [.agg (encE e), .int .i64 k] h (.bool (exprX e k)) := by
  refine Pure.val (Clo.bool _) ?_
  have hE : encE e = [.int .i64 e.op, .int .i64 e.num, .imm e.ks.length (e.ks.flatMap encE)] := by obtain ⟨o, n, l⟩ := e; rw [encE_eq]; rfl
  have hg1 : ∀ a, KG (h.push a) := fun a => by unfold KG; rw [push_glob]; exact hg
  have hc : (V.agg (encE e)).cells = some (encE e) := rfl
  have hl0 : loadGo (some none) (some (encE e)) = some (.int .i64 e.op) := by rw [hE]; rfl
  have hd0 : dropC (AObj.cells (encE e) 45 none) 0 = some (encE e) := by rw [hE]; rfl
  have hd1 : dropC (AObj.cells (encE e) 45 none) 1 = some [.int .i64 e.num, .imm e.ks.length (e.ks.flatMap encE)] := by rw [hE]; rfl
  have hd2 : dropC (AObj.cells (encE e) 45 none) 2 = some [.imm e.ks.length (e.ks.flatMap encE)] := by rw [hE]; rfl
  have hld : loadGo (some (some 3)) (some (encE e)) = some (.agg (encE e)) := by rw [hE]; rfl
  refine SCalls.enterI (c := _) Tryd.func74 rfl (by kernel_rfl) (by simp) ?_
  by_cases hk : k = 0
  · have c : (k == 0) = true := by simp [hk]
    have hl : (((e.ks.length : Nat) : Int) == 0) = e.ks.isEmpty := by cases e.ks <;> simp; omega
    cases c1 : (e.op == 0) <;> cases c2 : (e.num == 0) <;>
    · simp only [wpA_region, wpA_seq, wpA_cond, wpA_ret, condI_true, seqQ_normal, seqQ_ret, endI_mk, goI_out, goI_ops, opsA_nil, opsA_cons, opsA_guardS, gvI_same, gvI_ft, slotAt_zero, slotAt_succ, stepA_move, stepA_assign, stepA_pick, stepA_box, stepA_load, stepA_binOp, stepA_fieldAddr, stepA_len, thenV_some, thenH_some, pickV_true, pickV_false, eval_tmp, eval_const, put_some, enterF_zero, enterF_succ, aBin_eql, absV_int, absV_bool, aField_eq, fieldGo_ptr, aLoad_eq, loadGo_one, aPlace_ptr, aBox_eq, aLen_imm, get_push_new, Nat.reduceEqDiff, Option.map_some, Nat.add_zero, Nat.zero_add, if_true, if_false, ft_45_0, ft_45_1, ft_45_2, kt_43, lt_2, lt_3, lt_43, hc, c, hl0, hd0, hd1, hd2, c1, c2, hl, retA_ret, Tryd.results74, resultsA_1]
      exact hid_mk ⟨by simp [exprX, hk, c1, c2], Keep.push _ _ _⟩
  · have c : (k == 0) = false := by simp [hk]
    have hG : exprX e k = (mayX e && (k == 2 || !useX 5 e)) := by simp [exprX, hk]
    simp only [wpA_skip, wpA_region, wpA_seq, wpA_cond, condI_false, seqQ_normal, goI_out, goI_ops, opsA_nil, opsA_cons, stepA_move, stepA_assign, stepA_box, stepA_load, stepA_binOp, stepA_call, thenV_some, thenH_some, eval_tmp, eval_const, put_some, enterF_zero, enterF_succ, aBin_eql, absV_int, absV_bool, aLoad_eq, aPlace_ptr, aBox_eq, get_push_new, Nat.reduceEqDiff, List.map_cons, List.map_nil, Option.map_some, if_true, if_false, lt_45, hc, c, hd0, hld]
    refine callI_pure cal67 (pMay e _ (hg1 _)) ?_
    cases c1 : mayX e
    · simp only [wpA_ret, seqQ_normal, endI_mk, goI_out, goI_ops, opsA_nil, opsA_cons, opsA_guardS, gvI_ft, gvI_u, slotAt_zero, slotAt_succ, stepA_move, stepA_assign, stepA_pick, thenV_some, pickV_false, eval_tmp, eval_const, put_some, enterF_succ, absV_bool, Nat.reduceEqDiff, if_true, if_false, retA_ret, Tryd.results74, resultsA_1]
      exact hid_mk ⟨by rw [hG, c1]; rfl, Keep.push _ _ _⟩
    · cases c2 : (k == 2)
      · simp only [goI_ops, opsA_cons, opsA_guardS, gvI_same, slotAt_zero, slotAt_succ, stepA_move, stepA_load, stepA_binOp, stepA_call, thenV_some, eval_tmp, eval_const, put_some, enterF_zero, enterF_succ, aBin_eql, absV_int, aLoad_eq, aPlace_ptr, get_push_new, Nat.reduceEqDiff, List.map_cons, List.map_nil, if_true, if_false, lt_45, hd0, hld, c2]
        refine callI_pure cal83 (pUses 5 _ e _ rfl hok) ?_
        simp only [wpA_ret, seqQ_normal, endI_mk, goI_out, goI_ops, opsA_nil, opsA_cons, opsA_guardS, gvI_same, slotAt_zero, slotAt_succ, stepA_assign, stepA_pick, stepA_unOp, thenV_some, pickV_true, pickV_false, eval_tmp, eval_const, put_some, enterF_succ, aUn_not, absV_bool, Nat.reduceEqDiff, if_true, if_false, retA_ret, Tryd.results74, resultsA_1]
        exact hid_mk ⟨by rw [hG, c1, c2]; simp, Keep.push _ _ _⟩
      · simp only [wpA_ret, seqQ_normal, endI_mk, goI_out, goI_ops, opsA_nil, opsA_cons, opsA_guardS, gvI_same, gvI_tf, slotAt_zero, slotAt_succ, stepA_move, stepA_assign, stepA_pick, stepA_binOp, thenV_some, pickV_true, eval_tmp, eval_const, put_some, enterF_zero, enterF_succ, aBin_eql, absV_int, absV_bool, Nat.reduceEqDiff, if_true, if_false, c2, retA_ret, Tryd.results74, resultsA_1]
        exact hid_mk ⟨by rw [hG, c1, c2]; rfl, Keep.push _ _ _⟩

set_option maxRecDepth 10000 in
theorem pMeets (v : Vx) (q : Need) (hok : OkE v.e) (h : AHeap) (hg : KG h) : Pure Tryd.prog 60 [.agg (encX v), .agg (needE q)] h (.bool (meetsX v q)) := by
  refine Pure.val (Clo.bool _) ?_
  obtain ⟨q0, q1, q2, q3⟩ := q
  have hX := encX_eq v
  have hc : (V.agg (encX v)).cells = some (encX v) := rfl
  have hc2 : (V.agg (needE (q0, q1, q2, q3))).cells = some [.int .i64 q0, .int .i64 q1, .int .i64 q2, .int .i64 q3] := rfl
  have hd1 : dropC (AObj.cells (encX v) 47 none) 1 = some [.imm v.frm.length (i64V v.frm), .int .i64 v.e.op, .int .i64 v.e.num, .imm v.e.ks.length (v.e.ks.flatMap encE), .int .i64 v.n] := by rw [hX]; rfl
  have hd2 : dropC (AObj.cells (encX v) 47 none) 2 = some (encE v.e ++ [.int .i64 v.n]) := rfl
  have hd5 : dropC (AObj.cells (encX v) 47 none) 5 = some [.int .i64 v.n] := by rw [hX]; rfl
  have hld : loadGo (some (some 3)) (some (encE v.e ++ [.int .i64 v.n])) = some (.agg (encE v.e)) := load_row (encE_len v.e)
  refine SCalls.enterI (c := _) Tryd.func60 rfl (by kernel_rfl) (by simp) ?_
  obtain ⟨H, hH⟩ : ∃ x, x = (h.push (.cells (encX v) 47 none)).push (.cells [.int .i64 q0, .int .i64 q1, .int .i64 q2, .int .i64 q3] 90 none) := ⟨_, rfl⟩
  have g3 : H.get h.n = .cells (encX v) 47 none := by rw [hH]; exact get_push2'
  have g4 : H.get (h.n + 1) = .cells [.int .i64 q0, .int .i64 q1, .int .i64 q2, .int .i64 q3] 90 none := by rw [hH]; exact get_push2
  have kH : Keep h H none_ := by rw [hH]; exact (Keep.push _ _ _).then_push _
  have gH : KG H := hg.keep kH
  cases c0 : (((v.frm.length : Nat) : Int) == q0)
  · have d0 : decide (((v.frm.length : Nat) : Int) = q0) = false := by simpa using c0
    simp only [wpA_region, wpA_seq, wpA_ret, seqQ_normal, endI_mk, goI_out, goI_ops, opsA_nil, opsA_cons, opsA_guardS, gvI_ft, slotAt_zero, slotAt_succ, stepA_move, stepA_assign, stepA_pick, stepA_box, stepA_load, stepA_binOp, stepA_fieldAddr, stepA_len, thenV_some, thenH_some, pickV_false, eval_tmp, eval_const, put_some, enterF_zero, enterF_succ, aBin_eql, absV_bool, aField_eq, fieldGo_ptr, aLoad_eq, loadGo_one, aPlace_ptr, dropC_cells, aBox_eq, aLen_imm, push_n, Nat.reduceEqDiff, Nat.reduceAdd, Option.map_some, Nat.add_zero, Nat.zero_add, Nat.zero_le, List.length_cons, List.length_nil, List.drop_zero, if_true, if_false, ft_47_1, ft_90_0, kt_33, lt_3, lt_33, hc, hc2, ← hH, g3, g4, hd1, c0, retA_ret, Tryd.results60, resultsA_1]
    exact hid_mk ⟨by simp [meetsX, d0], kH⟩
  · have d0 : decide (((v.frm.length : Nat) : Int) = q0) = true := by simpa using c0
    simp only [wpA_region, wpA_seq, seqQ_normal, goI_out, goI_ops, opsA_nil, opsA_cons, opsA_guardS, gvI_same, slotAt_zero, slotAt_succ, stepA_move, stepA_assign, stepA_box, stepA_load, stepA_binOp, stepA_fieldAddr, stepA_len, stepA_call, thenV_some, thenH_some, eval_tmp, eval_const, put_some, enterF_zero, enterF_succ, aBin_eql, absV_bool, aField_eq, fieldGo_ptr, aLoad_eq, loadGo_one, aPlace_ptr, dropC_cells, aBox_eq, aLen_imm, push_n, Nat.reduceEqDiff, Nat.reduceAdd, Nat.reduceLeDiff, List.map_cons, List.map_nil, Option.map_some, Nat.add_zero, Nat.zero_add, Nat.zero_le, List.length_cons, List.length_nil, List.drop_zero, List.drop_succ_cons, if_true, if_false, ft_47_1, ft_47_2, ft_90_0, ft_90_1, kt_33, lt_3, lt_33, lt_45, hc, hc2, ← hH, g3, g4, hd1, hd2, hld, c0]
    refine callI_pure cal74 (pMayExpr v.e q1 hok _ gH) ?_
    cases c1 : exprX v.e q1
    · simp only [wpA_ret, seqQ_normal, endI_mk, goI_out, goI_ops, opsA_nil, opsA_cons, opsA_guardS, gvI_ft, slotAt_zero, slotAt_succ, stepA_move, stepA_assign, stepA_pick, thenV_some, pickV_true, pickV_false, eval_tmp, eval_const, put_some, enterF_succ, absV_bool, Nat.reduceEqDiff, if_true, if_false, retA_ret, Tryd.results60, resultsA_1]
      exact hid_mk ⟨by simp [meetsX, c1], kH⟩
    cases c2 : decide (q2 ≤ v.n)
    · simp only [wpA_ret, seqQ_normal, endI_mk, goI_out, goI_ops, opsA_nil, opsA_cons, opsA_guardS, gvI_same, gvI_ft, slotAt_zero, slotAt_succ, stepA_move, stepA_assign, stepA_pick, stepA_load, stepA_binOp, stepA_fieldAddr, thenV_some, pickV_true, pickV_false, eval_tmp, eval_const, put_some, enterF_succ, aBin_geq, absV_bool, aField_eq, fieldGo_ptr, aLoad_eq, loadGo_one, aPlace_ptr, dropC_cells, Nat.reduceEqDiff, Nat.reduceAdd, Nat.reduceLeDiff, Nat.zero_add, List.length_cons, List.length_nil, List.drop_zero, List.drop_succ_cons, if_true, if_false, ft_47_3, ft_90_2, lt_2, g3, g4, hd5, c2, retA_ret, Tryd.results60, resultsA_1]
      exact hid_mk ⟨by simp [meetsX, c2], kH⟩
    · simp only [wpA_ret, seqQ_normal, endI_mk, goI_out, goI_ops, opsA_nil, opsA_cons, opsA_guardS, gvI_same, slotAt_zero, slotAt_succ, stepA_move, stepA_assign, stepA_pick, stepA_load, stepA_binOp, stepA_fieldAddr, thenV_some, pickV_true, eval_tmp, eval_const, put_some, enterF_succ, aBin_leq, aBin_geq, absV_bool, aField_eq, fieldGo_ptr, aLoad_eq, loadGo_one, aPlace_ptr, dropC_cells, Nat.reduceEqDiff, Nat.reduceAdd, Nat.reduceLeDiff, Nat.zero_add, List.length_cons, List.length_nil, List.drop_zero, List.drop_succ_cons, if_true, if_false, ft_47_3, ft_90_2, ft_90_3, lt_2, g3, g4, hd5, c2, retA_ret, Tryd.results60, resultsA_1]
      exact hid_mk ⟨by simp only [meetsX, d0, c1, c2, Bool.true_and], kH⟩
end Go.Proofs.YtpmmbcifhallbaaDoor.Pk
