/-
  What functions of the program do, told of abstract states. Conditions: as each theorem says.
-/
import Derived.Test.YtjphnabogfiahaaDoorReH
namespace Go.Proofs.YtjphnabogfiahaaDoor.Pk
open Go Go.Proofs Go.Proofs.YtjphnabogfiahaaDoor.Ab
set_option linter.unusedVariables false
set_option linter.unusedSimpArgs false

theorem rcd_eql (a b : Rcd) {xo yo : Operand} : aBin Tryd.prog .eql 23 xo yo (.agg [.int .i64 a.k, .int .i64 a.v, .int .i64 a.t]) (.agg [.int .i64 b.k, .int .i64 b.v, .int .i64 b.t]) = some (.bool (decide (a = b))) := by
  have h : eqK [0, 0, 0] [.int .i64 a.k, .int .i64 a.v, .int .i64 a.t] [.int .i64 b.k, .int .i64 b.v, .int .i64 b.t] = some (decide (a = b)) := by
    simp only [eqK, if_true, Option.map_some, Option.some.injEq]
    rw [Bool.eq_iff_iff]
    cases a; cases b
    simp
  rw [aBin_sk_eql sk_23 h]
def entS (x : Ent) : List V := [.int .i64 x.kind, .int .i64 x.task, .int .i64 x.epoch, .int .i64 x.txn, .int .i64 x.log, .int .i64 x.r.k, .int .i64 x.r.v, .int .i64 x.r.t, .bool x.del, .snil, .snil]
theorem wkS (k t e x l rk rv rt : Int) (d : Bool) : WkL [.int .i64 k, .int .i64 t, .int .i64 e, .int .i64 x, .int .i64 l, .int .i64 rk, .int .i64 rv, .int .i64 rt, .bool d, .snil, .snil] (entE ⟨k, t, e, x, l, ⟨rk, rv, rt⟩, d, [], []⟩) :=
  WkL.cons (.refl _) (.cons (.refl _) (.cons (.refl _) (.cons (.refl _) (.cons (.refl _) (.cons (.refl _) (.cons (.refl _) (.cons (.refl _) (.cons (.refl _) (.cons .snil (.cons .snil (.refl _)))))))))))
theorem castS (k t e x l rk rv rt : Int) (d : Bool) (h : AHeap) : Cast (.agg [.int .i64 k, .int .i64 t, .int .i64 e, .int .i64 x, .int .i64 l, .int .i64 rk, .int .i64 rv, .int .i64 rt, .bool d, .snil, .snil]) h (.agg (entE ⟨k, t, e, x, l, ⟨rk, rv, rt⟩, d, [], []⟩)) h :=
  (WkV.agg (wkS k t e x l rk rv rt d)).cast h
theorem len_i64 (l : List Int) (h : AHeap) : True := trivial

set_option maxHeartbeats 2000000 in
set_option maxRecDepth 10000 in
theorem pSame3 (a b : Ent) (h : AHeap) (ha : eLen a) : Pure Tryd.prog 18 [.agg (entE a), .agg (entE b)] h (.bool (decide (a = b))) := by
  refine Pure.val (Clo.bool _) ?_
  refine SCalls.enterI (c := _) Tryd.func18 rfl (by kernel_rfl) (by simp) ?_
  have hca : (V.agg (entE a)).cells = some [.int .i64 a.kind, .int .i64 a.task, .int .i64 a.epoch, .int .i64 a.txn, .int .i64 a.log, .int .i64 a.r.k, .int .i64 a.r.v, .int .i64 a.r.t, .bool a.del, .imm a.offs.length (i64V a.offs), .imm a.order.length (i64V a.order)] := rfl
  have hcb : (V.agg (entE b)).cells = some [.int .i64 b.kind, .int .i64 b.task, .int .i64 b.epoch, .int .i64 b.txn, .int .i64 b.log, .int .i64 b.r.k, .int .i64 b.r.v, .int .i64 b.r.t, .bool b.del, .imm b.offs.length (i64V b.offs), .imm b.order.length (i64V b.order)] := rfl
  have hG : decide (a = b) = ((a.kind == b.kind) && (a.task == b.task) && (a.epoch == b.epoch) && (a.txn == b.txn) && (a.log == b.log) && decide (a.r = b.r) && (a.del == b.del) && decide (a.offs = b.offs) && decide (a.order = b.order)) := by
    rw [Bool.eq_iff_iff]
    simp only [Bool.and_eq_true, beq_iff_eq, decide_eq_true_eq]
    cases a; cases b
    simp [and_assoc]
  rw [hG]
  have p1 := fun H : AHeap => same a.offs b.offs H (by have := ha.1; omega)
  have p2 := fun H : AHeap => same a.order b.order H (by have := ha.2; omega)
  have r1 := rcd_eql a.r b.r (xo := .tmp 40) (yo := .tmp 42)
  generalize decide (a.offs = b.offs) = d1 at p1
  generalize decide (a.order = b.order) = d2 at p2
  generalize decide (a.r = b.r) = d3 at r1
  have c1 : ∀ b : Bool, (V.bool b).cells = some [.bool b] := fun _ => rfl
  generalize e1 : (a.kind == b.kind) = k1
  generalize e2 : (a.task == b.task) = k2
  generalize e3 : (a.epoch == b.epoch) = k3
  generalize e4 : (a.txn == b.txn) = k4
  generalize e5 : (a.log == b.log) = k5
  generalize e6 : (a.del == b.del) = k6
  have kk : ∀ x y : AObj, Keep h ((h.push x).push y) none_ := fun x y => (Keep.push _ _ _).then_push _
  cases k1
  · simp only [wpA_region, wpA_seq, wpA_ret, seqQ_normal, endI_mk, goI_out, goI_ops, opsA_nil, opsA_cons, opsA_guardS, gvI_ft, slotAt_zero, slotAt_succ, stepA_move, stepA_assign, stepA_pick, stepA_box, stepA_load, stepA_binOp, stepA_fieldAddr, thenV_some, thenH_some, pickV_false, eval_tmp, eval_const, put_some, enterF_zero, enterF_succ, aBin_eql, absV_bool, aField_eq, fieldGo_ptr, aLoad_eq, loadGo_one, aPlace_ptr, dropC_cells, aBox_eq, push_n, get_push2, get_push2', Nat.reduceEqDiff, Nat.reduceAdd, Option.map_some, Nat.add_zero, Nat.zero_add, Nat.zero_le, List.length_cons, List.length_nil, List.drop_zero, if_true, if_false, ft_35_0, lt_3, hca, hcb, e1, retA_ret, Tryd.results18, resultsA_1]
    exact hid_mk ⟨by simp, kk _ _⟩
  cases k2
  · simp only [wpA_region, wpA_seq, wpA_ret, seqQ_normal, endI_mk, goI_out, goI_ops, opsA_nil, opsA_cons, opsA_guardS, gvI_same, gvI_ft, slotAt_zero, slotAt_succ, stepA_move, stepA_assign, stepA_pick, stepA_box, stepA_load, stepA_binOp, stepA_fieldAddr, thenV_some, thenH_some, pickV_true, pickV_false, eval_tmp, eval_const, put_some, enterF_zero, enterF_succ, aBin_eql, absV_bool, aField_eq, fieldGo_ptr, aLoad_eq, loadGo_one, aPlace_ptr, dropC_cells, aBox_eq, push_n, get_push2, get_push2', Nat.reduceEqDiff, Nat.reduceAdd, Nat.reduceLeDiff, Option.map_some, Nat.add_zero, Nat.zero_add, Nat.zero_le, List.length_cons, List.length_nil, List.drop_zero, List.drop_succ_cons, if_true, if_false, ft_35_0, ft_35_1, lt_3, hca, hcb, e1, e2, retA_ret, Tryd.results18, resultsA_1]
    exact hid_mk ⟨by simp, kk _ _⟩
  cases k3
  · simp only [wpA_region, wpA_seq, wpA_ret, seqQ_normal, endI_mk, goI_out, goI_ops, opsA_nil, opsA_cons, opsA_guardS, gvI_same, gvI_ft, slotAt_zero, slotAt_succ, stepA_move, stepA_assign, stepA_pick, stepA_box, stepA_load, stepA_binOp, stepA_fieldAddr, thenV_some, thenH_some, pickV_true, pickV_false, eval_tmp, eval_const, put_some, enterF_zero, enterF_succ, aBin_eql, absV_bool, aField_eq, fieldGo_ptr, aLoad_eq, loadGo_one, aPlace_ptr, dropC_cells, aBox_eq, push_n, get_push2, get_push2', Nat.reduceEqDiff, Nat.reduceAdd, Nat.reduceLeDiff, Option.map_some, Nat.add_zero, Nat.zero_add, Nat.zero_le, List.length_cons, List.length_nil, List.drop_zero, List.drop_succ_cons, if_true, if_false, ft_35_0, ft_35_1, ft_35_2, lt_3, hca, hcb, e1, e2, e3, retA_ret, Tryd.results18, resultsA_1]
    exact hid_mk ⟨by simp, kk _ _⟩
  cases k4
  · simp only [wpA_region, wpA_seq, wpA_ret, seqQ_normal, endI_mk, goI_out, goI_ops, opsA_nil, opsA_cons, opsA_guardS, gvI_same, gvI_ft, slotAt_zero, slotAt_succ, stepA_move, stepA_assign, stepA_pick, stepA_box, stepA_load, stepA_binOp, stepA_fieldAddr, thenV_some, thenH_some, pickV_true, pickV_false, eval_tmp, eval_const, put_some, enterF_zero, enterF_succ, aBin_eql, absV_bool, aField_eq, fieldGo_ptr, aLoad_eq, loadGo_one, aPlace_ptr, dropC_cells, aBox_eq, push_n, get_push2, get_push2', Nat.reduceEqDiff, Nat.reduceAdd, Nat.reduceLeDiff, Option.map_some, Nat.add_zero, Nat.zero_add, Nat.zero_le, List.length_cons, List.length_nil, List.drop_zero, List.drop_succ_cons, if_true, if_false, ft_35_0, ft_35_1, ft_35_2, ft_35_3, lt_3, hca, hcb, e1, e2, e3, e4, retA_ret, Tryd.results18, resultsA_1]
    exact hid_mk ⟨by simp, kk _ _⟩
  cases k5
  · simp only [wpA_region, wpA_seq, wpA_ret, seqQ_normal, endI_mk, goI_out, goI_ops, opsA_nil, opsA_cons, opsA_guardS, gvI_same, gvI_ft, slotAt_zero, slotAt_succ, stepA_move, stepA_assign, stepA_pick, stepA_box, stepA_load, stepA_binOp, stepA_fieldAddr, thenV_some, thenH_some, pickV_true, pickV_false, eval_tmp, eval_const, put_some, enterF_zero, enterF_succ, aBin_eql, absV_bool, aField_eq, fieldGo_ptr, aLoad_eq, loadGo_one, aPlace_ptr, dropC_cells, aBox_eq, push_n, get_push2, get_push2', Nat.reduceEqDiff, Nat.reduceAdd, Nat.reduceLeDiff, Option.map_some, Nat.add_zero, Nat.zero_add, Nat.zero_le, List.length_cons, List.length_nil, List.drop_zero, List.drop_succ_cons, if_true, if_false, ft_35_0, ft_35_1, ft_35_2, ft_35_3, ft_35_4, lt_3, hca, hcb, e1, e2, e3, e4, e5, retA_ret, Tryd.results18, resultsA_1]
    exact hid_mk ⟨by simp, kk _ _⟩
  cases d3
  · simp only [wpA_region, wpA_seq, wpA_ret, seqQ_normal, endI_mk, goI_out, goI_ops, opsA_nil, opsA_cons, opsA_guardS, gvI_same, gvI_ft, slotAt_zero, slotAt_succ, stepA_move, stepA_assign, stepA_pick, stepA_box, stepA_load, stepA_binOp, stepA_fieldAddr, thenV_some, thenH_some, pickV_true, pickV_false, eval_tmp, eval_const, put_some, enterF_zero, enterF_succ, aBin_eql, absV_bool, aField_eq, fieldGo_ptr, aLoad_eq, loadGo_one, loadGo_row, aPlace_ptr, dropC_cells, aBox_eq, push_n, get_push2, get_push2', Nat.reduceEqDiff, Nat.reduceAdd, Nat.reduceLeDiff, Option.map_some, Nat.add_zero, Nat.zero_add, Nat.zero_le, List.length_cons, List.length_nil, List.drop_zero, List.drop_succ_cons, List.take_succ_cons, List.take_zero, if_true, if_false, ft_35_0, ft_35_1, ft_35_2, ft_35_3, ft_35_4, ft_35_5, lt_23, lt_3, hca, hcb, e1, e2, e3, e4, e5, r1, retA_ret, Tryd.results18, resultsA_1]
    exact hid_mk ⟨by simp, kk _ _⟩
  cases k6
  · simp only [wpA_region, wpA_seq, wpA_ret, seqQ_normal, endI_mk, goI_out, goI_ops, opsA_nil, opsA_cons, opsA_guardS, gvI_same, gvI_ft, slotAt_zero, slotAt_succ, stepA_move, stepA_assign, stepA_pick, stepA_box, stepA_load, stepA_binOp, stepA_fieldAddr, thenV_some, thenH_some, pickV_true, pickV_false, eval_tmp, eval_const, put_some, enterF_zero, enterF_succ, aBin_eql, aBin_bool_eql, absV_bool, aField_eq, fieldGo_ptr, aLoad_eq, loadGo_one, loadGo_row, aPlace_ptr, dropC_cells, aBox_eq, push_n, get_push2, get_push2', Nat.reduceEqDiff, Nat.reduceAdd, Nat.reduceLeDiff, Option.map_some, Nat.add_zero, Nat.zero_add, Nat.zero_le, List.length_cons, List.length_nil, List.drop_zero, List.drop_succ_cons, List.take_succ_cons, List.take_zero, if_true, if_false, bt_4, ft_35_0, ft_35_1, ft_35_2, ft_35_3, ft_35_4, ft_35_5, ft_35_6, lt_23, lt_3, lt_4, hca, hcb, e1, e2, e3, e4, e5, r1, e6, retA_ret, Tryd.results18, resultsA_1]
    exact hid_mk ⟨by simp, kk _ _⟩
  simp only [wpA_region, wpA_seq, seqQ_normal, goI_out, goI_ops, opsA_nil, opsA_cons, opsA_guardS, gvI_same, slotAt_zero, slotAt_succ, stepA_move, stepA_assign, stepA_pick, stepA_box, stepA_load, stepA_binOp, stepA_fieldAddr, stepA_call, thenV_some, thenH_some, pickV_true, eval_tmp, eval_const, put_some, enterF_zero, enterF_succ, aBin_eql, aBin_bool_eql, absV_bool, aField_eq, fieldGo_ptr, aLoad_eq, loadGo_one, loadGo_row, aPlace_ptr, dropC_cells, aBox_eq, push_n, get_push2, get_push2', Nat.reduceEqDiff, Nat.reduceAdd, Nat.reduceLeDiff, List.map_cons, List.map_nil, Option.map_some, Nat.add_zero, Nat.zero_add, Nat.zero_le, List.length_cons, List.length_nil, List.drop_zero, List.drop_succ_cons, List.take_succ_cons, List.take_zero, if_true, if_false, bt_4, ft_35_0, ft_35_1, ft_35_2, ft_35_3, ft_35_4, ft_35_5, ft_35_6, ft_35_7, lt_23, lt_3, lt_33, lt_4, hca, hcb, e1, e2, e3, e4, e5, r1, e6]
  refine callI_pure cal37 (p1 _) ?_
  cases d1
  · simp only [wpA_ret, seqQ_normal, endI_mk, goI_out, goI_ops, opsA_nil, opsA_cons, opsA_guardS, gvI_ft, slotAt_zero, slotAt_succ, stepA_move, stepA_assign, stepA_pick, thenV_some, pickV_true, pickV_false, eval_tmp, eval_const, put_some, enterF_succ, absV_bool, Nat.reduceEqDiff, if_true, if_false, retA_ret, Tryd.results18, resultsA_1]
    exact hid_mk ⟨by simp, kk _ _⟩
  simp only [goI_ops, opsA_cons, opsA_guardS, gvI_same, slotAt_zero, slotAt_succ, stepA_move, stepA_pick, stepA_load, stepA_fieldAddr, stepA_call, thenV_some, pickV_true, eval_tmp, eval_const, put_some, enterF_succ, absV_bool, aField_eq, fieldGo_ptr, aLoad_eq, loadGo_one, aPlace_ptr, dropC_cells, get_push2, get_push2', Nat.reduceEqDiff, Nat.reduceAdd, Nat.reduceLeDiff, List.map_cons, List.map_nil, Nat.zero_add, List.length_cons, List.length_nil, List.drop_zero, List.drop_succ_cons, if_true, if_false, ft_35_8, lt_33]
  refine callI_pure cal37 (p2 _) ?_
  simp only [wpA_ret, seqQ_normal, endI_mk, goI_out, goI_ops, opsA_nil, opsA_cons, stepA_assign, stepA_pick, thenV_some, pickV_true, eval_tmp, eval_const, put_some, enterF_succ, absV_bool, Nat.reduceEqDiff, if_true, if_false, retA_ret, Tryd.results18, resultsA_1]
  exact hid_mk ⟨by simp, kk _ _⟩
def holeE : Ent := ⟨6, 0, 0, 0, 0, zR, false, [], []⟩
theorem holeIn : eIn holeE := ⟨by constructor <;> decide, by constructor <;> decide, by constructor <;> decide, by constructor <;> decide, by constructor <;> decide, ⟨by constructor <;> decide, by constructor <;> decide, by constructor <;> decide⟩, by simp [holeE], by simp [holeE]⟩
set_option maxHeartbeats 1000000 in
set_option maxRecDepth 10000 in
theorem pShown3 (h : AHeap) (hu : KU h) : Pure Tryd.prog 9 [] h (.bool true) := by
  refine SCalls.enterI (c := _) Tryd.func9 rfl (by kernel_rfl) (by simp) ?_
  simp only [wpA_region, wpA_seq, seqQ_normal, goI_out, goI_ops, opsA_nil, opsA_cons, stepA_assign, stepA_build, stepA_call, thenV_some, eval_tmp, eval_const, put_some, absV_int, absV_bool, cells_int, setAll_nil, setAll_cons, aBuild_go, aFill_nil, aFill_cons, fillGo_some, buildGo_struct, List.getElem?_cons_zero, Int.reduceNeg, Nat.reduceAdd, Nat.reduceLeDiff, reduceCtorEq, List.map_cons, List.map_nil, Option.map_some, Nat.zero_add, List.length_cons, List.length_nil, List.set_cons_zero, and_self, if_true, if_false, pl_35, zc_35]
  refine callI_pure cal14 (Pure.args (CastL.last (castS 6 0 0 0 0 0 0 0 false h)) (pEntry holeE h hu holeIn ⟨by decide, by decide⟩)) ?_
  have e1 : encV holeE = [6, 0, 0, 0, 0, 0, 0, 0, 0, 0, 0] := by
    have : mayB holeE = true := by decide
    rw [encV, if_pos this]
    simp [encT, nums9, holeE, zR, zz, encInts, enc_small]
  have e2 : codeV holeE = 0 := by
    have : mayB holeE = true := by decide
    rw [codeV, if_pos this]
  have e3 : encR ⟨1, -1, 3⟩ = [2, 1, 6] := by simp [encR, nums3, zz, enc_small]
  have c1 : aConv Tryd.prog 24 9 (.imm 11 (bytesV [6, 0, 0, 0, 0, 0, 0, 0, 0, 0, 0])) h = _ := convB [6, 0, 0, 0, 0, 0, 0, 0, 0, 0, 0] h
  have c2 : aConv Tryd.prog 24 9 (.imm 3 (bytesV [2, 1, 6])) h = _ := convB [2, 1, 6] h
  have s1 : ((strB [6, 0, 0, 0, 0, 0, 0, 0, 0, 0, 0]).toList == ByteArray.toList ⟨#[6, 0, 0, 0, 0, 0, 0, 0, 0, 0, 0]⟩) = true := by decide +kernel
  have s2 : ((strB [2, 1, 6]).toList == ByteArray.toList ⟨#[2, 1, 6]⟩) = true := by decide +kernel
  rw [e1, e2]
  simp only [wpA_region, wpA_seq, seqQ_normal, goI_out, goI_ops, opsA_nil, opsA_cons, opsA_guardS, gvI_same, slotAt_zero, slotAt_succ, stepA_move, stepA_assign, stepA_pick, stepA_build, stepA_binOp, stepA_convert, stepA_extract, stepA_call, thenV_some, pickV_true, extV_zero, extV_succ, eval_tmp, eval_const, put_some, aBin_eql, aBin_str_eql, absV_int, absV_bool, absV_str, cells_int, setAll_nil, setAll_cons, aBuild_go, aFill_nil, aFill_cons, fillGo_some, buildGo_struct, List.getElem?_cons_zero, List.getElem?_cons_succ, beq_self_eq_true, Int.reduceNeg, Nat.reduceEqDiff, Nat.reduceAdd, Nat.reduceLeDiff, reduceCtorEq, List.map_cons, List.map_nil, Option.map_some, Nat.zero_add, List.length_cons, List.length_nil, List.set_cons_zero, List.set_cons_succ, and_self, if_true, if_false, Nat.le_refl, pl_23, zc_23, c1, s1]
  refine callI_pure cal12 (pRecord ⟨1, -1, 3⟩ h ⟨by constructor <;> decide, by constructor <;> decide, by constructor <;> decide⟩) ?_
  rw [e3]
  simp only [wpA_ret, seqQ_normal, endI_mk, goI_out, goI_ops, opsA_nil, opsA_cons, opsA_guardS, gvI_same, slotAt_zero, slotAt_succ, stepA_assign, stepA_pick, stepA_binOp, stepA_convert, thenV_some, pickV_true, eval_tmp, eval_const, put_some, aBin_str_eql, absV_bool, absV_str, Int.reduceNeg, Nat.reduceEqDiff, Nat.reduceAdd, reduceCtorEq, Nat.zero_add, List.length_cons, List.length_nil, if_true, if_false, c2, s2, retA_ret, Tryd.results9, resultsA_1]
  exact hid_mk ⟨rfl, rfl⟩
end Go.Proofs.YtjphnabogfiahaaDoor.Pk
