/-
  What functions of the program do, told of abstract states. Conditions: as each theorem says.
-/
import Derived.Test.YtpobgoeeljknpaaDoorExZ
namespace Go.Proofs.YtpobgoeeljknpaaDoor.Pk
open Go Go.Proofs Go.Proofs.YtpobgoeeljknpaaDoor.Ab
set_option linter.unusedVariables false
set_option linter.unusedSimpArgs false

set_option maxHeartbeats 1000000 in
set_option maxRecDepth 10000 in
theorem pShown4 (h : AHeap) (hg : KG h) : Pure Tryd.prog 15 [] h (.bool true) := by
  refine Pure.val (Clo.bool _) ?_
  refine SCalls.enterI (c := _) Tryd.func15 rfl (by kernel_rfl) (by simp) ?_
  simp only [wpA_region, wpA_seq, wpA_draw, seqQ_normal, goI_out, goI_ops, opsA_nil, opsA_cons, stepA_assign, stepA_alloc, stepA_build, stepA_store, thenV_some, thenH_some, thenS_some, eval_tmp, eval_const, put_some, put_none, absV_int, absV_bool, cells_int, cells_agg, one_int, one_snil, all_nil, all_cons, aStore_eq, storeGo_ptr, setC_row, setAll_nil, setAll_cons, aAlloc_eq, aBuild_go, aFill_nil, aFill_cons, fillGo_some, buildGo_struct, push_n, get_push_new, set_push, get_push2, set_push2, List.getElem?_cons_zero, List.getElem?_cons_succ, Nat.reduceEqDiff, Nat.reduceAdd, Nat.reduceLeDiff, reduceCtorEq, List.map_cons, List.map_nil, Option.map_some, Nat.zero_add, List.length_cons, List.length_nil, List.set_cons_zero, List.set_cons_succ, and_self, if_true, if_false, Bool.and_self, Nat.le_refl, pl_25, pl_32, zc_25, zc_32, zt_25, zt_32]
  obtain ⟨H, hH⟩ : ∃ x, x = (h.push (.cells [.int .i64 3, .int .i64 0, .snil] 25 none)).push (.cells [.int .i64 1, .int .i64 3, .int .i64 0] 32 none) := ⟨_, rfl⟩
  have g0 : H.get h.n = .cells [.int .i64 3, .int .i64 0, .snil] 25 none := by rw [hH]; exact get_push2'
  have g1 : H.get (h.n + 1) = .cells [.int .i64 1, .int .i64 3, .int .i64 0] 32 none := by rw [hH]; exact get_push2
  have kH : Keep h H none_ := by rw [hH]; exact (Keep.push _ _ _).then_push _
  have gH : KG H := hg.keep kH
  rw [← hH]
  refine SWp.drawnS none_ [] (.c 0 (.c 1 (.q 2 (.c 3 (.c 4 (.q 5 (.c 6 (.q 7 (.q 8 (.q 9 (.q 10 (.q 11 .done)))))))))))) (by kernel_rfl) (by kernel_rfl) (by kernel_rfl) ?_
  simp only [false_implies]
  refine siI_c rfl rfl rfl (fun h' _ => pCon 1 h') ?_
  simp only [false_implies]
  refine siI_c rfl rfl rfl (fun h' _ => pCon 2 h') ?_
  simp only [siI_q, sqI_some, mOk_none', implies_true, qI_nil, qI_cons, thenQ_some, q_load, goI_mk, eval_tmp, put_some, put_none, aLoad_eq, loadGo_row, aPlace_ptr, dropC_cells, List.getElem?_cons_zero, List.getElem?_cons_succ, Nat.reduceEqDiff, Nat.reduceAdd, reduceCtorEq, Nat.zero_add, Nat.zero_le, List.length_cons, List.length_nil, List.drop_zero, List.take_succ_cons, List.take_nil, true_and, if_true, if_false, Nat.le_refl, lt_25, g0]
  refine siI_c rfl rfl rfl (fun h' _ => pTwoR 8 3 0 _ h') ?_
  simp only [false_implies]
  refine siI_c rfl rfl rfl (fun h' _ => pTwo 6 _ _ h') ?_
  simp only [siI_q, sqI_some, mOk_none', implies_true, qI_nil, qI_cons, thenQ_some, q_load, goI_mk, eval_tmp, put_some, put_none, aLoad_eq, loadGo_row, aPlace_ptr, dropC_cells, List.getElem?_cons_zero, List.getElem?_cons_succ, Nat.reduceEqDiff, Nat.reduceAdd, reduceCtorEq, Nat.zero_add, Nat.zero_le, List.length_cons, List.length_nil, List.drop_zero, List.take_succ_cons, List.take_nil, true_and, if_true, if_false, Nat.le_refl, lt_32, g1]
  refine siI_c rfl rfl rfl (fun h' hk => pEvalM _ 1 3 0 0 (some 7) (by decide) (by decide) h' (gH.or gH hk)) ?_
  simp only [siI_done, siI_q, sqI_some, mOk_none', implies_true, qI_nil, qI_cons, thenQ_some, q_move, q_assign, q_extract, wpA_seq, wpA_draw, seqQ_normal, goI_out, goI_mk, extV_zero, extV_succ, eval_tmp, put_some, put_none, List.getElem?_cons_zero, List.getElem?_cons_succ, Nat.reduceEqDiff, reduceCtorEq, true_and, if_true, if_false, evO]
  refine SWp.drawnS none_ [] (.c 0 (.q 1 (.c 2 (.c 3 (.c 4 (.q 5 (.c 6 (.q 7 (.q 8 (.q 9 (.q 10 (.q 11 .done)))))))))))) (by kernel_rfl) (by kernel_rfl) (by kernel_rfl) ?_
  simp only [false_implies]
  refine siI_c rfl rfl rfl (fun h' _ => pCon 1 h') ?_
  simp only [siI_q, sqI_some, mOk_none', implies_true, qI_nil, qI_cons, thenQ_some, q_load, goI_mk, eval_tmp, put_some, put_none, aLoad_eq, loadGo_row, aPlace_ptr, dropC_cells, List.getElem?_cons_zero, List.getElem?_cons_succ, Nat.reduceEqDiff, Nat.reduceAdd, reduceCtorEq, Nat.zero_add, Nat.zero_le, List.length_cons, List.length_nil, List.drop_zero, List.take_succ_cons, List.take_nil, true_and, if_true, if_false, Nat.le_refl, lt_25, g0]
  refine siI_c rfl rfl rfl (fun h' _ => pCon 3 h') ?_
  simp only [false_implies]
  refine siI_c rfl rfl rfl (fun h' _ => pTwoL 7 3 0 _ h') ?_
  simp only [false_implies]
  refine siI_c rfl rfl rfl (fun h' _ => pTwo 9 _ _ h') ?_
  simp only [siI_q, sqI_some, mOk_none', implies_true, qI_nil, qI_cons, thenQ_some, q_load, goI_mk, eval_tmp, put_some, put_none, aLoad_eq, loadGo_row, aPlace_ptr, dropC_cells, List.getElem?_cons_zero, List.getElem?_cons_succ, Nat.reduceEqDiff, Nat.reduceAdd, reduceCtorEq, Nat.zero_add, Nat.zero_le, List.length_cons, List.length_nil, List.drop_zero, List.take_succ_cons, List.take_nil, true_and, if_true, if_false, Nat.le_refl, lt_32, g1]
  refine siI_c rfl rfl rfl (fun h' hk => pEvalM _ 1 3 0 0 none (by decide) (by decide) h' (gH.or gH hk)) ?_
  simp only [siI_done, siI_q, sqI_some, mOk_none', implies_true, qI_nil, qI_cons, thenQ_some, q_move, q_assign, q_extract, wpA_seq, wpA_draw, seqQ_normal, goI_out, goI_mk, extV_zero, extV_succ, eval_tmp, put_some, put_none, List.getElem?_cons_zero, List.getElem?_cons_succ, Nat.reduceEqDiff, reduceCtorEq, true_and, if_true, if_false, evO]
  refine SWp.drawnS none_ [5, 8] (.q 0 (.c 1 (.c 2 (.c 3 (.c 4 (.q 7 (.e 5 (.q 6 (.a 8 (.q 9 (.q 10 (.q 11 (.q 12 (.q 13 .done))))))) .stop))))))) (by kernel_rfl) (by kernel_rfl) (by kernel_rfl) ?_
  simp only [siI_q, sqI_some, mOk_none', implies_true, qI_nil, qI_cons, thenQ_some, q_build, goI_mk, eval_const, absV_int, cells_int, setAll_nil, setAll_cons, aBuild_go, aFill_nil, aFill_cons, fillGo_some, buildGo_struct, List.getElem?_cons_zero, Nat.reduceAdd, Nat.reduceLeDiff, List.map_cons, List.map_nil, Option.map_some, Nat.zero_add, List.length_cons, List.length_nil, List.set_cons_zero, true_and, and_self, if_true, pl_25, zc_25]
  refine siI_c rfl rfl rfl (fun h' _ => pCon 1 h') ?_
  simp only [false_implies]
  refine siI_c rfl rfl rfl (fun h' _ => pCon 1 h') ?_
  simp only [false_implies]
  refine siI_c rfl rfl rfl (fun h' _ => pCon 0 h') ?_
  simp only [false_implies]
  refine siI_c rfl rfl rfl (fun h' _ => pTwo 9 _ _ h') ?_
  simp only [siI_stop, siI_q, siI_a, siI_e, sqI_some, saI_some, seI_some, mOk_none', keepT1, implies_true, qI_nil, qI_cons, thenQ_some, q_load, q_build, goI_ops, goI_mk, opsA_nil, opsA_cons, stepA_buildSlice, stepA_call, thenH_some, eval_tmp, eval_const, put_some, put_none, absV_int, cells_int, cells_sl, aLoad_eq, loadGo_row, aPlace_ptr, dropC_cells, setAll_nil, setAll_cons, aBuild_go, aFill_nil, aFill_cons, fillGo_some, buildGo_struct, List.getElem?_cons_zero, List.getElem?_cons_succ, Bool.false_eq_true, Nat.reduceEqDiff, Nat.reduceAdd, Nat.reduceLeDiff, reduceCtorEq, List.map_cons, List.map_nil, Option.map_some, Nat.zero_add, Nat.zero_le, List.length_cons, List.length_nil, List.drop_zero, List.take_succ_cons, List.take_nil, List.set_cons_zero, List.set_cons_succ, List.nil_append, List.cons_append, and_true, true_and, and_self, if_true, if_false, Nat.le_refl, lt_32, pl_25, zc_25, g1, litE3b]
  have hE := sEvalW 13 0 [.mk 2 0 [], .mk 1 1 [], .mk 9 0 [.mk 1 1 [], .mk 1 0 []]] (cs := .int .i64 2 :: .int .i64 0 :: .snil :: [Ex.mk 1 1 [], .mk 9 0 [.mk 1 1 [], .mk 1 0 []]].flatMap encE)
    (WkL.append (a := [.int .i64 2, .int .i64 0, .snil]) (wkE0 2 0) rfl (.refl _)) rfl 1 3 0 0 (some 1) (by decide) (by decide) (by decide) 3 rfl H gH
  refine callI_of cal18 hE fun r h' ⟨e1, e2⟩ => ?_
  subst e1
  simp only [siI_done, siI_q, sqI_some, mOk_none', implies_true, qI_nil, qI_cons, thenQ_some, q_move, q_assign, q_extract, wpA_region, wpA_seq, wpA_ret, seqQ_normal, endI_mk, goI_out, goI_ops, goI_mk, opsA_nil, opsA_cons, opsA_guardS, gvI_same, slotAt_zero, slotAt_succ, stepA_move, stepA_assign, stepA_pick, stepA_binOp, thenV_some, pickV_true, extV_zero, extV_succ, eval_tmp, eval_const, put_some, put_none, aBin_eql, absV_int, absV_bool, List.getElem?_cons_zero, List.getElem?_cons_succ, beq_self_eq_true, Bool.false_eq_true, Nat.reduceEqDiff, reduceCtorEq, true_and, if_true, if_false, evO, retA_ret, Tryd.results15, resultsA_1]
  exact hid_mk ⟨rfl, kH.trans' e2⟩

end Go.Proofs.YtpobgoeeljknpaaDoor.Pk
