/-
  What functions of the program do, told of abstract states. Conditions: as each theorem says.
-/
import Derived.Test.YtihgdbelfjdajaaWiA
import Derived.Test.YtihgdbelfjdajaaChK
namespace Go.Proofs.Ytihgdbelfjdajaa.Pk
open Go Go.Proofs Go.Proofs.Ytihgdbelfjdajaa.Ab
set_option linter.unusedVariables false
set_option linter.unusedSimpArgs false
theorem lit1c (h : AHeap) (c : Chg) : aBuildSlice Try.prog 33 1 [(0, .agg (chgE c))] h = some (.sl h.n 0 1 1, h.push (.cells (chgE c) 30 none)) := slice1 sl_33 rfl rfl (by decide)
theorem pE_cells (k f : Int) : (pE k f).cells = some [.int .i64 k, .int .i64 f] := rfl
set_option maxRecDepth 10000 in
theorem winSet (h : AHeap) (i m cl : Nat) (room size key fr val : Int) (es : List (Nat × V × V)) (k : IsWin h i m room size es cl) (h0 : 0 ≤ fr) (h1 : fr ≤ 2 ^ 41) : Pure Try.prog 21 [.ptr i 0, pE key fr, .int .i64 val] h (.agg (chgE ⟨key, fr, fr + size, val, false⟩)) := by
  refine Pure.val (Clo.agg (chgE_clo _)) ?_
  refine SCalls.enterI (c := _) Try.func21 rfl (by kernel_rfl) (by simp) ?_
  have hg := k.get
  have il := k.lt
  have hgi : ∀ A B, ((h.push A).push B).get i = .cells [.int .i64 room, .int .i64 size, .map m] 49 none := fun A B => (get_push_lt (by simp only [push_n]; omega)).trans ((get_push_lt il).trans hg)
  have hw : IntKind.i64.wrap (fr + size) = fr + size := Go.IntWalk.i64_in _ (by have := k.s1; have := k.s2; omega)
  simp only [wpA_region, wpA_seq, wpA_draw, seqQ_normal, goI_out, goI_ops, opsA_nil, opsA_cons, stepA_alloc, stepA_box, thenH_some, eval_tmp, enterF_zero, enterF_succ, aAlloc_eq, aBox_eq, push_n, Option.map_some, zc_30, pE_cells]
  refine SWp.drawnS none_ [13] (.q 0 (.q 1 (.q 2 (.q 3 (.q 4 (.q 5 (.q 6 (.q 7 (.q 8 (.q 9 (.q 10 (.q 11 (.q 12 (.a 13 .done)))))))))))))) (by kernel_rfl) (by kernel_rfl) (by kernel_rfl) ?_
  simp only [siI_done, siI_q, siI_a, sqI_some, saI_some, mOk_none', implies_true, qI_nil, qI_cons, thenQ_some, q_move, q_load, q_build, q_nilCheck, q_binOp, q_fieldAddr, wpA_ret, seqQ_normal, endI_mk, goI_out, goI_ops, goI_mk, opsA_nil, opsA_cons, stepA_store, thenS_some, nilV_ptr, eval_tmp, put_some, put_none, enterF_zero, enterF_succ, aBin_add, cells_int, cells_agg, one_int, one_bool, all_nil, all_cons, aField_eq, fieldGo_ptr, aLoad_eq, loadGo_one, loadGo_row, aPlace_ptr, dropC_cells, aStore_eq, storeGo_ptr, setC_row, setAll_nil, setAll_cons, aBuild_go, aFill_nil, aFill_cons, fillGo_some, buildGo_struct, get_push2, get_push2', set_push2, List.getElem?_cons_zero, List.getElem?_cons_succ, Nat.reduceEqDiff, Nat.reduceAdd, Nat.reduceLeDiff, reduceCtorEq, List.map_cons, List.map_nil, Option.map_some, Nat.add_zero, Nat.zero_add, Nat.zero_le, List.length_cons, List.length_nil, List.drop_zero, List.drop_succ_cons, List.take_succ_cons, List.take_nil, List.set_cons_zero, List.set_cons_succ, true_and, and_self, if_true, if_false, Bool.and_self, Nat.le_refl, ft_49_1, ft_51_0, ft_51_1, lt_2, lt_30, pl_30, zc_30, zt_30, hgi, hw, retA_ret, Try.results21, resultsC_1, resultA_cell]
  exact hid_mk ⟨rfl, (Keep.push _ _ _).then_push _⟩
set_option maxRecDepth 10000 in
theorem winGone (h : AHeap) (i m cl : Nat) (room size key fr : Int) (es : List (Nat × V × V)) (k : IsWin h i m room size es cl) (h0 : 0 ≤ fr) (h1 : fr ≤ 2 ^ 41) : Pure Try.prog 17 [.ptr i 0, pE key fr] h (.agg (chgE ⟨key, fr, fr + size, 0, true⟩)) := by
  refine Pure.val (Clo.agg (chgE_clo _)) ?_
  refine SCalls.enterI (c := _) Try.func17 rfl (by kernel_rfl) (by simp) ?_
  have hg := k.get
  have il := k.lt
  have hgi : ∀ A B, ((h.push A).push B).get i = .cells [.int .i64 room, .int .i64 size, .map m] 49 none := fun A B => (get_push_lt (by simp only [push_n]; omega)).trans ((get_push_lt il).trans hg)
  have hw : IntKind.i64.wrap (fr + size) = fr + size := Go.IntWalk.i64_in _ (by have := k.s1; have := k.s2; omega)
  simp only [wpA_region, wpA_seq, wpA_draw, seqQ_normal, goI_out, goI_ops, opsA_nil, opsA_cons, stepA_alloc, stepA_box, thenH_some, eval_tmp, enterF_zero, enterF_succ, aAlloc_eq, aBox_eq, push_n, Option.map_some, zc_30, pE_cells]
  refine SWp.drawnS none_ [12] (.q 0 (.q 1 (.q 2 (.q 3 (.q 4 (.q 5 (.q 6 (.q 7 (.q 8 (.q 9 (.q 10 (.q 11 (.a 12 .done))))))))))))) (by kernel_rfl) (by kernel_rfl) (by kernel_rfl) ?_
  simp only [siI_done, siI_q, siI_a, sqI_some, saI_some, mOk_none', implies_true, qI_nil, qI_cons, thenQ_some, q_move, q_load, q_build, q_nilCheck, q_binOp, q_fieldAddr, wpA_ret, seqQ_normal, endI_mk, goI_out, goI_ops, goI_mk, opsA_nil, opsA_cons, stepA_store, thenS_some, nilV_ptr, eval_tmp, eval_const, put_some, put_none, enterF_zero, enterF_succ, aBin_add, absV_bool, cells_int, cells_bool, cells_agg, one_int, one_bool, all_nil, all_cons, aField_eq, fieldGo_ptr, aLoad_eq, loadGo_one, loadGo_row, aPlace_ptr, dropC_cells, aStore_eq, storeGo_ptr, setC_row, setAll_nil, setAll_cons, aBuild_go, aFill_nil, aFill_cons, fillGo_some, buildGo_struct, get_push2, get_push2', set_push2, List.getElem?_cons_zero, List.getElem?_cons_succ, Nat.reduceEqDiff, Nat.reduceAdd, Nat.reduceLeDiff, reduceCtorEq, List.map_cons, List.map_nil, Option.map_some, Nat.add_zero, Nat.zero_add, Nat.zero_le, List.length_cons, List.length_nil, List.drop_zero, List.drop_succ_cons, List.take_succ_cons, List.take_nil, List.set_cons_zero, List.set_cons_succ, true_and, and_self, if_true, if_false, Bool.and_self, Nat.le_refl, ft_49_1, ft_51_0, ft_51_1, lt_2, lt_30, pl_30, zc_30, zt_30, hgi, hw, retA_ret, Try.results17, resultsC_1, resultA_cell]
  exact hid_mk ⟨rfl, (Keep.push _ _ _).then_push _⟩
def frW (size time : Int) : Int := time - time.tmod size
theorem startW_ok {size time : Int} (h0 : 0 ≤ time) (h1 : time ≤ 1099511627776) : startW size time = frW size time := by rw [startW, if_neg (by omega)]; rfl
theorem frW_rng {size time : Int} (h0 : 0 ≤ time) (h1 : 1 ≤ size) : 0 ≤ frW size time ∧ frW size time ≤ time ∧ time < frW size time + size := by
  obtain ⟨a, b, c⟩ := tmod_rng h0 h1
  unfold frW
  omega
set_option maxHeartbeats 1000000 in
set_option maxRecDepth 10000 in
theorem winPut0 (h : AHeap) (i m cl : Nat) (room size key time val : Int) (k : IsWin h i m room size [] cl) (hr : 1 ≤ room) (h0 : 0 ≤ time) (h1 : time ≤ 1099511627776) :
    SCalls Try.prog 10 [.ptr i 0, .int .i64 key, .int .i64 time, .int .i64 val] h (fun r h' => r = .tuple [.agg (chgE ⟨key, frW size time, frW size time + size, val, false⟩), .int .i64 0] ∧ IsWin h' i m room size [(cl, pE key (frW size time), .int .i64 val)] (cl + 1) ∧ Keep h h' (fun q => q = m)) := by
  refine SCalls.enterI (c := _) Try.func10 rfl (by kernel_rfl) (by simp) ?_
  have il := k.lt
  have ml := k.ml
  obtain ⟨f0, f1, f2⟩ := frW_rng h0 k.s1
  have so := startW_ok (size := size) h0 h1
  simp only [wpA_region, wpA_seq, seqQ_normal, goI_out, goI_ops, opsA_nil, opsA_cons, stepA_move, stepA_assign, stepA_alloc, stepA_call, thenH_some, eval_tmp, eval_const, put_some, enterF_zero, enterF_succ, absV_int, aAlloc_eq, Nat.reduceEqDiff, reduceCtorEq, List.map_cons, List.map_nil, Option.map_some, if_true, if_false, zc_30]
  have k1 := k.keepN (Keep.push h (.cells [.int .i64 0, .int .i64 0, .int .i64 0, .int .i64 0, .bool false] 30 none) none_)
  refine callI_pure cal16 (winMiss _ i m cl room size [] k1) ?_
  simp only [wpA_skip, wpA_region, wpA_seq, wpA_cond, condI_false, seqQ_normal, goI_out, goI_ops, opsA_nil, opsA_cons, stepA_move, stepA_call, eval_tmp, put_some, enterF_zero, enterF_succ, Nat.reduceEqDiff, reduceCtorEq, List.map_cons, List.map_nil, if_true, if_false]
  refine callI_pure cal14 (winStart _ i m cl room size time [] k1) ?_
  rw [so]
  generalize frW size time = fr at f0 f1 f2 ⊢
  have d1 : decide (fr < 0) = false := decide_eq_false (by omega)
  have pc : ∀ a b : Int, (V.agg [.int .i64 a, .int .i64 b]).cells = some [.int .i64 a, .int .i64 b] := fun _ _ => rfl
  simp only [wpA_skip, wpA_region, wpA_seq, wpA_cond, wpA_draw, condI_false, seqQ_normal, goI_out, goI_ops, opsA_nil, opsA_cons, stepA_move, stepA_assign, stepA_alloc, stepA_build, stepA_store, stepA_binOp, thenV_some, thenH_some, thenS_some, eval_tmp, eval_const, put_some, enterF_zero, enterF_succ, aBin_lss, absV_int, cells_int, one_int, all_nil, all_cons, aStore_eq, storeGo_ptr, setC_row, setAll_nil, setAll_cons, aAlloc_eq, aBuild_go, aFill_nil, aFill_cons, fillGo_some, buildGo_struct, push_n, get_push2, set_push2, List.getElem?_cons_zero, List.getElem?_cons_succ, Nat.reduceEqDiff, Nat.reduceAdd, Nat.reduceLeDiff, List.map_cons, List.map_nil, Option.map_some, Nat.zero_add, List.length_cons, List.length_nil, List.set_cons_zero, List.set_cons_succ, and_self, if_true, if_false, Bool.and_self, Nat.le_refl, pl_51, zc_51, zt_51, d1, pc]
  generalize hH : (h.push (.cells [.int .i64 0, .int .i64 0, .int .i64 0, .int .i64 0, .bool false] 30 none)).push (.cells [.int .i64 key, .int .i64 fr] 51 none) = H
  have kH : Keep h H none_ := by rw [← hH]; exact (Keep.push _ _ _).then_push _
  have kk : IsWin H i m room size [] cl := k.keepN kH
  have gi := kk.get
  have gm := kk.map
  have g0 : H.get h.n = .cells [.int .i64 0, .int .i64 0, .int .i64 0, .int .i64 0, .bool false] 30 none := by rw [← hH]; exact (get_push_lt (by simp only [push_n]; omega)).trans get_push_new
  have g1 : H.get (h.n + 1) = .cells [.int .i64 key, .int .i64 fr] 51 none := by rw [← hH]; exact get_push_new
  have nH : H.n = h.n + 2 := by rw [← hH]; rfl
  have hlk : aLookup Try.prog 47 (.map m) (.agg [.int .i64 key, .int .i64 fr]) true H = some (.tuple [.int .i64 0, .bool false]) := look_0 key fr gm
  have hup : aUpdate Try.prog 47 (.map m) (.agg [.int .i64 key, .int .i64 fr]) (.int .i64 val) H = some (H.set m (.map [(cl, pE key fr, .int .i64 val)] (cl + 1))) := upd_0 key fr val gm
  have hln : aLen Try.prog 47 (.map m) H = some (.int .i64 0) := by unfold aLen; simp [gm]
  have lp : loadGo (some (some 2)) (some [.int .i64 key, .int .i64 fr]) = some (.agg [.int .i64 key, .int .i64 fr]) := rfl
  have d2 : decide (room ≤ 0) = false := decide_eq_false (by omega)
  refine SWp.drawnS none_ [] (.q 0 (.q 1 (.q 2 (.q 3 (.q 4 (.q 5 (.q 6 (.q 7 (.q 8 (.q 9 (.q 10 .done))))))))))) (by kernel_rfl) (by kernel_rfl) (by kernel_rfl) ?_
  simp only [siI_done, siI_q, sqI_some, mOk_none', implies_true, qI_nil, qI_cons, thenQ_some, q_move, q_assign, q_load, q_nilCheck, q_fieldAddr, q_lookup, q_extract, wpA_seq, wpA_draw, seqQ_normal, goI_out, goI_mk, nilV_ptr, extV_zero, extV_succ, eval_tmp, put_some, put_none, enterF_zero, enterF_succ, aField_eq, fieldGo_ptr, aLoad_eq, loadGo_one, aPlace_ptr, dropC_cells, List.getElem?_cons_zero, List.getElem?_cons_succ, Nat.reduceEqDiff, Nat.reduceAdd, Nat.reduceLeDiff, reduceCtorEq, Nat.zero_add, Nat.zero_le, List.length_cons, List.length_nil, List.drop_zero, List.drop_succ_cons, true_and, if_true, if_false, ft_49_2, lt_47, lt_51, gi, g1, lp, hlk]
  refine SWp.drawnS none_ [] (.q 0 (.q 1 (.q 2 (.q 3 (.q 4 (.q 5 (.q 6 (.q 7 (.q 8 (.q 9 (.q 10 (.q 11 (.q 12 (.q 13 .done)))))))))))))) (by kernel_rfl) (by kernel_rfl) (by kernel_rfl) ?_
  simp only [siI_done, siI_q, sqI_some, mOk_none', implies_true, qI_nil, qI_cons, qI_guard, qgI_same, thenQ_some, q_move, q_pick, q_load, q_nilCheck, q_binOp, q_unOp, q_fieldAddr, q_len, wpA_skip, wpA_seq, wpA_cond, wpA_draw, condI_false, seqQ_normal, goI_out, goI_mk, slotAt_zero, slotAt_succ, pickV_true, nilV_ptr, eval_tmp, eval_const, put_some, put_none, enterF_zero, enterF_succ, aBin_geq, aUn_not, absV_bool, aField_eq, fieldGo_ptr, aLoad_eq, loadGo_one, aPlace_ptr, dropC_cells, List.getElem?_cons_zero, List.getElem?_cons_succ, Nat.reduceEqDiff, Nat.reduceAdd, Nat.reduceLeDiff, reduceCtorEq, Nat.add_zero, Nat.zero_add, Nat.zero_le, List.length_cons, List.length_nil, List.drop_zero, List.drop_succ_cons, true_and, if_true, if_false, Bool.not_false, ft_49_0, ft_49_2, lt_3, lt_47, gi, hln, d2]
  refine SWp.drawnS none_ [6] (.q 0 (.q 1 (.q 2 (.q 3 (.q 4 (.q 5 (.a 6 .done))))))) (by kernel_rfl) (by kernel_rfl) (by kernel_rfl) ?_
  simp only [siI_done, siI_q, siI_a, sqI_some, saI_some, mOk_none', implies_true, qI_nil, qI_cons, thenQ_some, q_move, q_load, q_nilCheck, q_fieldAddr, wpA_region, wpA_seq, seqQ_normal, goI_out, goI_ops, goI_mk, opsA_nil, opsA_cons, stepA_move, stepA_load, stepA_mapUpdate, thenS_some, nilV_ptr, eval_tmp, put_some, put_none, enterF_zero, enterF_succ, aField_eq, fieldGo_ptr, aLoad_eq, loadGo_one, aPlace_ptr, dropC_cells, List.getElem?_cons_zero, List.getElem?_cons_succ, Nat.reduceEqDiff, Nat.reduceAdd, Nat.reduceLeDiff, reduceCtorEq, Nat.zero_add, Nat.zero_le, List.length_cons, List.length_nil, List.drop_zero, List.drop_succ_cons, true_and, if_true, if_false, ft_49_2, lt_47, lt_51, gi, g1, lp, hup]
  generalize hH2 : H.set m (.map [(cl, pE key fr, .int .i64 val)] (cl + 1)) = H2
  have kS : Keep H H2 (fun q => q = m) := by rw [← hH2]; exact Keep.set _ _ _
  have nS : H2.n = H.n := by rw [← hH2]; rfl
  have gi2 := (kS.get i kk.lt (by exact k.ne)).trans gi
  have gm2 : H2.get m = .map [(cl, pE key fr, .int .i64 val)] (cl + 1) := by rw [← hH2]; exact get_set_same
  have g02 := (kS.get h.n (by omega) (by omega)).trans g0
  have g12 := (kS.get (h.n + 1) (by omega) (by omega)).trans g1
  have kk2 : IsWin H2 i m room size [(cl, pE key fr, .int .i64 val)] (cl + 1) := ⟨gi2, gm2, k.ne, by omega, by omega, k.s1, k.s2⟩
  simp only [goI_ops, opsA_cons, stepA_move, stepA_call, thenV_some, eval_tmp, put_some, put_none, enterF_zero, enterF_succ, dropC_cells, Nat.reduceEqDiff, Nat.reduceAdd, List.map_cons, List.map_nil, Nat.zero_add, Nat.zero_le, List.length_cons, List.length_nil, List.drop_zero, if_true, if_false, g12, lp]
  refine callI_pure cal21 (winSet H2 i m _ room size key fr val _ kk2 f0 (by omega)) ?_
  have cc : ∀ c : Chg, (V.agg (chgE c)).cells = some (chgE c) := fun _ => rfl
  have st : ∀ c : Chg, setC (some 5) (AObj.cells [.int .i64 0, .int .i64 0, .int .i64 0, .int .i64 0, .bool false] 30 none) 0 (chgE c) = some (.cells (chgE c) 30 none) := fun _ => rfl
  have clc : ∀ c : Chg, (if 5 ≤ (chgE c).length then some (V.agg (List.take 5 (chgE c))) else none) = some (.agg (chgE c)) := fun _ => rfl
  simp only [wpA_ret, seqQ_normal, endI_mk, goI_out, goI_ops, opsA_nil, opsA_cons, stepA_assign, stepA_store, thenS_some, eval_tmp, eval_const, put_some, put_none, enterF_succ, absV_int, aLoad_eq, loadGo_row, aPlace_ptr, dropC_cells, aStore_eq, storeGo_ptr, get_set_same, Nat.reduceEqDiff, Option.map_some, Nat.zero_le, List.drop_zero, if_true, if_false, lt_30, zt_30, g02, cc, st, get_set_same, clc, retA_ret, Try.results10, resultsC_2, resultA_tmp, resultA_cell, res2_some]
  have kE : Keep H2 (H2.set h.n (.cells (chgE ⟨key, fr, fr + size, val, false⟩) 30 none)) (fun q => q = h.n) := Keep.set _ _ _
  refine hid_mk ⟨rfl, ⟨(kE.get i (by omega) (by omega)).trans gi2, (kE.get m (by omega) (by omega)).trans gm2, k.ne, by show i < H2.n; omega, by show m < H2.n; omega, k.s1, k.s2⟩, ?_⟩
  exact ((kH.up).trans' kS).setNew (Nat.le_refl _) _
end Go.Proofs.Ytihgdbelfjdajaa.Pk
