/-
  What functions of the program do, told of abstract states. Conditions: as each theorem says.
-/
import Derived.Test.YtjphnabogfiahaaSeF
import Derived.Test.YtjphnabogfiahaaSeM
import Derived.Test.YtjphnabogfiahaaAbD
import Derived.Test.YtjphnabogfiahaaAbD
import Derived.Test.YtjphnabogfiahaaAbD
namespace Go.Proofs.Ytjphnabogfiahaa.Pk
open Go Go.Proofs Go.Proofs.Ytjphnabogfiahaa.Ab
set_option linter.unusedVariables false
set_option linter.unusedSimpArgs false
/-! ### Sessions as the store has them -/
def sesE (c : Chg) : List V := [.int .i64 c.key, .complex .f64 (f64 c.fr) (f64 c.to), .int .i64 c.val]
theorem sesE_len (c : Chg) : (sesE c).length = 3 := rfl
theorem sesE_one (c : Chg) : (sesE c).all (·.one) = true := rfl
theorem sesE_clo (c : Chg) : CloL (sesE c) := CloL.cons (Clo.int _ _) (CloL.cons (Clo.complex _ _ _) (CloL.cons (Clo.int _ _) CloL.nil))
theorem ses_cells (c : Chg) : (V.agg (sesE c)).cells = some [.int .i64 c.key, .complex .f64 (f64 c.fr) (f64 c.to), .int .i64 c.val] := rfl
theorem chg_cells' (c : Chg) : (V.agg (chgE c)).cells = some [.int .i64 c.key, .int .i64 c.fr, .int .i64 c.to, .int .i64 c.val, .bool c.del] := rfl
theorem back64 (n : Int) (h0 : 0 ≤ n) (h1 : n ≤ 2 ^ 40) (h : AHeap) : aConv Try.prog 60 2 (.float .f64 (f64 n)) h = some (.int .i64 n) :=
  aConv_f2i fl_60 it_2 (f64_int n h0 h1) (by show -9223372036854775808 ≤ n; omega) (by show n ≤ 9223372036854775807; omega)
set_option maxRecDepth 10000 in
theorem pFirstS (c : Chg) (hc : okS c) (h : AHeap) : Pure Try.prog 25 [.agg (sesE c)] h (.int .i64 c.fr) := by
  refine Pure.val (Clo.int _ _) ?_
  refine SCalls.enterI (c := _) Try.func25 rfl (by kernel_rfl) (by simp) ?_
  have cc := ses_cells c
  have bk := back64 c.fr hc.lo (by have := hc.le; have := hc.hi; omega)
  simp only [wpA_region, wpA_seq, wpA_ret, seqQ_normal, endI_mk, goI_out, goI_ops, opsA_nil, opsA_cons, stepA_assign, stepA_box, stepA_load, stepA_convert, stepA_fieldAddr, thenV_some, thenC_some, thenH_some, eval_tmp, eval_const, put_some, enterF_zero, enterF_succ, absV_int, aField_eq, fieldGo_ptr, aLoad_eq, loadGo_one, aPlace_ptr, dropC_cells, aBox_eq, get_push_new, Nat.reduceEqDiff, Nat.reduceAdd, Nat.reduceLeDiff, Option.map_some, Nat.zero_add, List.length_cons, List.length_nil, List.drop_zero, List.drop_succ_cons, if_true, if_false, stepA_real, b1V_real, ft_52_1, lt_50, cc, bk, retA_ret, Try.results25, resultsA_1]
  exact hid_mk ⟨rfl, (Keep.push _ _ _)⟩
set_option maxRecDepth 10000 in
theorem pLastS (c : Chg) (hc : okS c) (h : AHeap) : Pure Try.prog 17 [.agg (sesE c)] h (.int .i64 c.to) := by
  refine Pure.val (Clo.int _ _) ?_
  refine SCalls.enterI (c := _) Try.func17 rfl (by kernel_rfl) (by simp) ?_
  have cc := ses_cells c
  have bk := back64 c.to (by have := hc.lo; have := hc.le; omega) hc.hi
  simp only [wpA_region, wpA_seq, wpA_ret, seqQ_normal, endI_mk, goI_out, goI_ops, opsA_nil, opsA_cons, stepA_assign, stepA_box, stepA_load, stepA_convert, stepA_fieldAddr, thenV_some, thenC_some, thenH_some, eval_tmp, eval_const, put_some, enterF_zero, enterF_succ, absV_int, aField_eq, fieldGo_ptr, aLoad_eq, loadGo_one, aPlace_ptr, dropC_cells, aBox_eq, get_push_new, Nat.reduceEqDiff, Nat.reduceAdd, Nat.reduceLeDiff, Option.map_some, Nat.zero_add, List.length_cons, List.length_nil, List.drop_zero, List.drop_succ_cons, if_true, if_false, stepA_imag, b1V_imag, ft_52_1, lt_50, cc, bk, retA_ret, Try.results17, resultsA_1]
  exact hid_mk ⟨rfl, (Keep.push _ _ _)⟩
set_option maxRecDepth 10000 in
theorem pSet (c : Chg) (hc : okS c) (h : AHeap) : Pure Try.prog 24 [.agg (sesE c)] h (.agg (chgE c)) := by
  refine Pure.val (Clo.agg (chgE_clo _)) ?_
  refine SCalls.enterI (c := _) Try.func24 rfl (by kernel_rfl) (by simp) ?_
  have cc := ses_cells c
  simp only [wpA_region, wpA_seq, wpA_draw, seqQ_normal, goI_out, goI_ops, opsA_nil, opsA_cons, stepA_alloc, stepA_box, thenH_some, eval_tmp, enterF_zero, aAlloc_eq, aBox_eq, push_n, Option.map_some, zc_30, cc]
  refine SWp.drawnS none_ [9] (.q 0 (.q 1 (.q 2 (.c 3 (.q 4 (.c 5 (.q 6 (.q 7 (.q 8 (.a 9 .done)))))))))) (by kernel_rfl) (by kernel_rfl) (by kernel_rfl) ?_
  simp only [siI_q, sqI_some, mOk_none', implies_true, qI_nil, qI_cons, thenQ_some, q_load, q_fieldAddr, goI_mk, eval_tmp, put_some, enterF_succ, aField_eq, fieldGo_ptr, aLoad_eq, loadGo_one, loadGo_row, aPlace_ptr, dropC_cells, get_push2', List.getElem?_cons_zero, List.getElem?_cons_succ, Nat.reduceEqDiff, Nat.reduceAdd, Nat.add_zero, Nat.zero_add, Nat.zero_le, List.length_cons, List.length_nil, List.drop_zero, List.take_succ_cons, List.take_nil, true_and, if_true, if_false, Nat.le_refl, ft_52_0, lt_2, lt_52]
  refine siI_c rfl rfl rfl (fun h' _ => pFirstS c hc h') ?_
  simp only [siI_q, sqI_some, mOk_none', implies_true, qI_nil, qI_cons, thenQ_some, q_load, goI_mk, eval_tmp, put_some, enterF_succ, aLoad_eq, loadGo_row, aPlace_ptr, dropC_cells, get_push2', List.getElem?_cons_zero, List.getElem?_cons_succ, Nat.reduceEqDiff, Nat.reduceAdd, Nat.zero_add, Nat.zero_le, List.length_cons, List.length_nil, List.drop_zero, List.take_succ_cons, List.take_nil, true_and, if_true, if_false, Nat.le_refl, lt_52]
  refine siI_c rfl rfl rfl (fun h' _ => pLastS c hc h') ?_
  simp only [siI_done, siI_q, siI_a, sqI_some, saI_some, mOk_none', implies_true, qI_nil, qI_cons, thenQ_some, q_load, q_build, q_fieldAddr, wpA_ret, seqQ_normal, endI_mk, goI_out, goI_ops, goI_mk, opsA_nil, opsA_cons, stepA_store, thenS_some, eval_tmp, put_some, put_none, enterF_succ, cells_int, cells_agg, one_int, one_bool, all_nil, all_cons, aField_eq, fieldGo_ptr, aLoad_eq, loadGo_one, loadGo_row, aPlace_ptr, dropC_cells, aStore_eq, storeGo_ptr, setC_row, setAll_nil, setAll_cons, aBuild_go, aFill_nil, aFill_cons, fillGo_some, buildGo_struct, get_push2, get_push2', set_push2, List.getElem?_cons_zero, List.getElem?_cons_succ, Nat.reduceEqDiff, Nat.reduceAdd, Nat.reduceLeDiff, List.map_cons, List.map_nil, Option.map_some, Nat.zero_add, Nat.zero_le, List.length_cons, List.length_nil, List.drop_zero, List.drop_succ_cons, List.take_succ_cons, List.take_nil, List.set_cons_zero, List.set_cons_succ, true_and, and_self, if_true, if_false, Bool.and_self, Nat.le_refl, ft_52_2, lt_2, lt_30, pl_30, zc_30, zt_30, retA_ret, Try.results24, resultsC_1, resultA_cell]
  have hd := hc.del
  exact hid_mk ⟨by unfold chgE; rw [hd], (Keep.push _ _ _).then_push _⟩
set_option maxRecDepth 10000 in
theorem pGone (c : Chg) (hc : okS c) (h : AHeap) : Pure Try.prog 18 [.agg (sesE c)] h (.agg (chgE (goneS c))) := by
  refine Pure.val (Clo.agg (chgE_clo _)) ?_
  refine SCalls.enterI (c := _) Try.func18 rfl (by kernel_rfl) (by simp) ?_
  have cc := ses_cells c
  simp only [wpA_region, wpA_seq, wpA_draw, seqQ_normal, goI_out, goI_ops, opsA_nil, opsA_cons, stepA_alloc, stepA_box, thenH_some, eval_tmp, enterF_zero, aAlloc_eq, aBox_eq, push_n, Option.map_some, zc_30, cc]
  refine SWp.drawnS none_ [7] (.q 0 (.q 1 (.q 2 (.c 3 (.q 4 (.c 5 (.q 6 (.a 7 .done)))))))) (by kernel_rfl) (by kernel_rfl) (by kernel_rfl) ?_
  simp only [siI_q, sqI_some, mOk_none', implies_true, qI_nil, qI_cons, thenQ_some, q_load, q_fieldAddr, goI_mk, eval_tmp, put_some, enterF_succ, aField_eq, fieldGo_ptr, aLoad_eq, loadGo_one, loadGo_row, aPlace_ptr, dropC_cells, get_push2', List.getElem?_cons_zero, List.getElem?_cons_succ, Nat.reduceEqDiff, Nat.reduceAdd, Nat.add_zero, Nat.zero_add, Nat.zero_le, List.length_cons, List.length_nil, List.drop_zero, List.take_succ_cons, List.take_nil, true_and, if_true, if_false, Nat.le_refl, ft_52_0, lt_2, lt_52]
  refine siI_c rfl rfl rfl (fun h' _ => pFirstS c hc h') ?_
  simp only [siI_q, sqI_some, mOk_none', implies_true, qI_nil, qI_cons, thenQ_some, q_load, goI_mk, eval_tmp, put_some, enterF_succ, aLoad_eq, loadGo_row, aPlace_ptr, dropC_cells, get_push2', List.getElem?_cons_zero, List.getElem?_cons_succ, Nat.reduceEqDiff, Nat.reduceAdd, Nat.zero_add, Nat.zero_le, List.length_cons, List.length_nil, List.drop_zero, List.take_succ_cons, List.take_nil, true_and, if_true, if_false, Nat.le_refl, lt_52]
  refine siI_c rfl rfl rfl (fun h' _ => pLastS c hc h') ?_
  simp only [siI_done, siI_q, siI_a, sqI_some, saI_some, mOk_none', implies_true, qI_nil, qI_cons, thenQ_some, q_build, wpA_ret, seqQ_normal, endI_mk, goI_out, goI_ops, goI_mk, opsA_nil, opsA_cons, stepA_store, thenS_some, eval_tmp, eval_const, put_some, put_none, enterF_succ, absV_bool, cells_int, cells_bool, cells_agg, one_int, one_bool, all_nil, all_cons, aLoad_eq, loadGo_row, aPlace_ptr, dropC_cells, aStore_eq, storeGo_ptr, setC_row, setAll_nil, setAll_cons, aBuild_go, aFill_nil, aFill_cons, fillGo_some, buildGo_struct, get_push2, set_push2, List.getElem?_cons_zero, List.getElem?_cons_succ, Nat.reduceEqDiff, Nat.reduceAdd, Nat.reduceLeDiff, List.map_cons, List.map_nil, Option.map_some, Nat.zero_add, Nat.zero_le, List.length_cons, List.length_nil, List.drop_zero, List.take_succ_cons, List.take_nil, List.set_cons_zero, List.set_cons_succ, true_and, and_self, if_true, if_false, Bool.and_self, Nat.le_refl, lt_30, pl_30, zc_30, zt_30, retA_ret, Try.results18, resultsC_1, resultA_cell]
  exact hid_mk ⟨rfl, (Keep.push _ _ _).then_push _⟩
set_option maxRecDepth 10000 in
theorem pSesOf (c : Chg) (h : AHeap) : Pure Try.prog 20 [.agg (chgE c)] h (.agg (sesE c)) := by
  refine Pure.val (Clo.agg (sesE_clo _)) ?_
  refine SCalls.enterI (c := _) Try.func20 rfl (by kernel_rfl) (by simp) ?_
  have cc := chg_cells' c
  have i1 : aConv Try.prog 2 60 (.int .i64 c.fr) = fun _ => some (.float .f64 (f64 c.fr)) := funext fun h => aConv_i2f it_2 fl_60
  have i2 : aConv Try.prog 2 60 (.int .i64 c.to) = fun _ => some (.float .f64 (f64 c.to)) := funext fun h => aConv_i2f it_2 fl_60
  simp only [wpA_region, wpA_seq, wpA_ret, seqQ_normal, endI_mk, goI_out, goI_ops, opsA_nil, opsA_cons, stepA_alloc, stepA_box, stepA_build, stepA_load, stepA_store, stepA_convert, stepA_fieldAddr, thenV_some, thenC_some, thenH_some, thenS_some, eval_tmp, put_some, put_none, enterF_zero, enterF_succ, cells_int, cells_agg, one_int, all_nil, all_cons, aField_eq, fieldGo_ptr, aLoad_eq, loadGo_one, loadGo_row, aPlace_ptr, dropC_cells, aStore_eq, storeGo_ptr, setC_row, setAll_nil, setAll_cons, aAlloc_eq, aBox_eq, aBuild_go, aFill_nil, aFill_cons, fillGo_some, buildGo_struct, push_n, get_push2, get_push2', set_push2, List.getElem?_cons_zero, List.getElem?_cons_succ, Option.some.injEq, Nat.reduceEqDiff, Nat.reduceAdd, Nat.reduceLeDiff, List.map_cons, List.map_nil, Option.map_some, Nat.add_zero, Nat.zero_add, Nat.zero_le, List.length_cons, List.length_nil, List.drop_zero, List.drop_succ_cons, List.take_succ_cons, List.take_nil, List.set_cons_zero, List.set_cons_succ, and_self, if_true, if_false, Bool.and_self, Nat.le_refl, stepA_complex, mmV_complex, aConv_i2f, cells_complex, one_complex, fl_60, ft_30_0, ft_30_1, ft_30_2, ft_30_3, it_2, lt_2, lt_52, pl_52, zc_52, zt_52, cc, retA_ret, Try.results20, resultsC_1, resultA_cell]
  exact hid_mk ⟨rfl, (Keep.push _ _ _).then_push _⟩
def mayT (t : Int) : Bool := decide (0 ≤ t) && decide (t ≤ 1099511627776)
theorem mayT_iff {t : Int} : mayT t = true ↔ 0 ≤ t ∧ t ≤ 2 ^ 40 := by simp [mayT]
set_option maxRecDepth 10000 in
theorem pMayT (t : Int) (h : AHeap) : Pure Try.prog 19 [.int .i64 t] h (.bool (mayT t)) := by
  refine Pure.val (Clo.bool _) ?_
  refine SCalls.enterI (c := _) Try.func19 rfl (by kernel_rfl) (by simp) ?_
  cases d1 : decide (0 ≤ t)
  · simp only [wpA_region, wpA_seq, wpA_ret, seqQ_normal, endI_mk, goI_out, goI_ops, opsA_nil, opsA_cons, opsA_guardS, gvI_ft, slotAt_zero, slotAt_succ, stepA_move, stepA_assign, stepA_pick, stepA_binOp, thenV_some, pickV_false, eval_tmp, eval_const, put_some, enterF_zero, enterF_succ, aBin_geq, absV_int, absV_bool, Nat.reduceEqDiff, reduceCtorEq, if_true, if_false, d1, retA_ret, Try.results19, resultsA_1]
    exact hid_mk ⟨by rw [mayT, d1]; rfl, Keep.refl _ _⟩
  · simp only [wpA_region, wpA_seq, wpA_ret, seqQ_normal, endI_mk, goI_out, goI_ops, opsA_nil, opsA_cons, opsA_guardS, gvI_same, slotAt_zero, slotAt_succ, stepA_move, stepA_assign, stepA_pick, stepA_binOp, thenV_some, pickV_true, eval_tmp, eval_const, put_some, enterF_zero, enterF_succ, aBin_leq, aBin_geq, absV_int, absV_bool, Nat.reduceEqDiff, reduceCtorEq, if_true, if_false, d1, retA_ret, Try.results19, resultsA_1]
    exact hid_mk ⟨by rw [mayT, d1]; rfl, Keep.refl _ _⟩
end Go.Proofs.Ytjphnabogfiahaa.Pk
