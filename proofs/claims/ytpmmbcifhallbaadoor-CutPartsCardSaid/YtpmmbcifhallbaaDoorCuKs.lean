/-
  What functions of the program do, told of abstract states. Conditions: as each theorem says.
-/
import Derived.Test.YtpmmbcifhallbaaDoorCuI
import Derived.Test.YtpmmbcifhallbaaDoorCuL
import Derived.Test.YtpmmbcifhallbaaDoorAbD
namespace Go.Proofs.YtpmmbcifhallbaaDoor.Pk
open Go Go.Proofs Go.Proofs.YtpmmbcifhallbaaDoor.Ab
set_option linter.unusedVariables false
set_option linter.unusedSimpArgs false

def ofX (p : Int) (l : List Vx) (task : Int) : Int × Int := if 0 ≤ task ∧ task < tasksX p l then (task.tdiv p, task.tmod p) else (-1, -1)
theorem tasks_pos {p : Int} {l : List Vx} {task : Int} (h0 : 0 ≤ task) (h1 : task < tasksX p l) : (chkT p l).2 = 0 ∧ (1 ≤ p ∧ p ≤ 8) ∧ tasksX p l ≤ 192 := by
  have h : (chkT p l).2 = 0 := Classical.byContradiction fun hn => by
    rw [tasksX, if_neg hn] at h1; omega
  obtain ⟨_, hp, l1, l24, _, _⟩ := chk_ok h
  refine ⟨h, hp, ?_⟩
  rw [tasks_eq h]
  have hc := cntR_le (mgX l) l.length
  generalize cntR (mgX l) l.length = c at hc ⊢
  have hP : p = 1 ∨ p = 2 ∨ p = 3 ∨ p = 4 ∨ p = 5 ∨ p = 6 ∨ p = 7 ∨ p = 8 := by omega
  rcases hP with rfl | rfl | rfl | rfl | rfl | rfl | rfl | rfl <;> omega
set_option maxRecDepth 10000 in
theorem pOf (l : List Vx) (p task : Int) (hok : OkT l) (h : AHeap) (hg : TG h) : Pure Tryd.prog 31 [.agg (topE l p), .int .i64 task] h (.tuple [.int .i64 (ofX p l task).1, .int .i64 (ofX p l task).2]) := by
  refine Pure.val (Clo.tuple (CloL.cons (Clo.int _ _) (CloL.cons (Clo.int _ _) CloL.nil))) ?_
  have hc : (V.agg (topE l p)).cells = some [.imm l.length (l.flatMap encX), .int .i64 p] := rfl
  obtain ⟨H, hH⟩ : ∃ x, x = h.push (.cells [.imm l.length (l.flatMap encX), .int .i64 p] 24 none) := ⟨_, rfl⟩
  have gt : H.get h.n = .cells [.imm l.length (l.flatMap encX), .int .i64 p] 24 none := by rw [hH]; exact get_push_new
  have kH : Keep h H none_ := by rw [hH]; exact Keep.push _ _ _
  have tH := hg.keep kH
  refine SCalls.enterI (c := _) Tryd.func31 rfl (by kernel_rfl) (by simp) ?_
  simp only [wpA_region, wpA_seq, seqQ_normal, goI_out, goI_ops, opsA_nil, opsA_cons, opsA_guardS, slotAt_zero, slotAt_succ, stepA_move, stepA_assign, stepA_box, stepA_binOp, thenV_some, thenH_some, eval_tmp, eval_const, put_some, enterF_zero, enterF_succ, aBin_lss, absV_int, aBox_eq, Int.reduceNeg, Nat.reduceEqDiff, Option.map_some, if_true, if_false, hc, ← hH]
  by_cases n0 : task < 0
  · have d0 : decide (task < 0) = true := by simpa using n0
    have hG : ofX p l task = (-1, -1) := if_neg (by omega)
    simp only [wpA_region, wpA_seq, wpA_cond, wpA_ret, condI_true, seqQ_normal, seqQ_ret, endI_mk, goI_out, goI_ops, opsA_nil, opsA_cons, opsA_guardS, gvI_tf, slotAt_zero, slotAt_succ, stepA_assign, stepA_pick, thenV_some, pickV_true, eval_tmp, eval_const, put_some, enterF_succ, absV_int, absV_bool, Int.reduceNeg, Nat.reduceEqDiff, if_true, if_false, d0, retA_ret, Tryd.results31, resultsA_2]
    exact hid_mk ⟨by rw [hG], kH⟩
  have d0 : decide (task < 0) = false := by simpa using n0
  simp only [goI_ops, opsA_guardS, gvI_same, slotAt_zero, slotAt_succ, stepA_move, stepA_load, stepA_call, thenV_some, eval_tmp, put_some, enterF_zero, enterF_succ, aLoad_eq, loadGo_row, aPlace_ptr, dropC_cells, Nat.reduceEqDiff, Nat.reduceAdd, List.map_cons, List.map_nil, Nat.zero_add, Nat.zero_le, List.length_cons, List.length_nil, List.drop_zero, List.take_succ_cons, List.take_nil, if_true, if_false, Nat.le_refl, lt_24, d0, gt]
  refine callI_pure cal29 (pTasks l p hok H tH) ?_
  by_cases n1 : tasksX p l ≤ task
  · have d1 : decide (tasksX p l ≤ task) = true := by simpa using n1
    have hG : ofX p l task = (-1, -1) := if_neg (by omega)
    simp only [wpA_region, wpA_seq, wpA_cond, wpA_ret, condI_true, seqQ_normal, seqQ_ret, endI_mk, goI_out, goI_ops, opsA_nil, opsA_cons, opsA_guardS, gvI_same, slotAt_zero, slotAt_succ, stepA_assign, stepA_pick, stepA_binOp, thenV_some, pickV_false, eval_tmp, eval_const, put_some, enterF_succ, aBin_geq, absV_int, absV_bool, Int.reduceNeg, Nat.reduceEqDiff, if_true, if_false, d1, retA_ret, Tryd.results31, resultsA_2]
    exact hid_mk ⟨by rw [hG], kH⟩
  have d1 : decide (tasksX p l ≤ task) = false := by simpa using n1
  obtain ⟨h0, hp, h192⟩ := tasks_pos (p := p) (l := l) (task := task) (by omega) (by omega)
  have hG : ofX p l task = (task.tdiv p, task.tmod p) := if_pos (by omega)
  have w1 : IntKind.i64.wrap (task.tdiv p) = task.tdiv p := by
    rw [Int.tdiv_eq_ediv_of_nonneg (by omega)]
    have a := Int.ediv_nonneg (a := task) (b := p) (by omega) (by omega)
    have b := Int.ediv_le_self (a := task) p (by omega)
    exact Go.IntWalk.i64_in _ (by omega)
  simp only [wpA_skip, wpA_seq, wpA_cond, wpA_draw, condI_false, seqQ_normal, goI_out, goI_ops, opsA_nil, opsA_cons, opsA_guardS, gvI_same, slotAt_zero, slotAt_succ, stepA_pick, stepA_binOp, thenV_some, pickV_false, eval_tmp, eval_const, put_some, enterF_succ, aBin_geq, absV_bool, Int.reduceNeg, Nat.reduceEqDiff, if_true, if_false, d1]
  refine SWp.drawnS none_ [] (.q 0 (.q 1 (.q 2 (.q 3 (.q 4 (.q 5 (.q 6 (.q 7 (.q 8 (.q 9 .done)))))))))) (by kernel_rfl) (by kernel_rfl) (by kernel_rfl) ?_
  simp only [siI_done, siI_q, sqI_some, mOk_none', implies_true, qI_nil, qI_cons, thenQ_some, q_move, q_assign, q_load, q_binOp, q_fieldAddr, wpA_ret, seqQ_normal, endI_mk, goI_out, goI_mk, eval_tmp, put_some, enterF_zero, enterF_succ, aField_eq, fieldGo_ptr, aLoad_eq, loadGo_one, aPlace_ptr, dropC_cells, List.getElem?_cons_zero, List.getElem?_cons_succ, Nat.reduceEqDiff, Nat.reduceAdd, Nat.reduceLeDiff, Nat.zero_add, List.length_cons, List.length_nil, List.drop_zero, List.drop_succ_cons, true_and, if_true, if_false, ft_24_1, lt_3, gt, aBin_quo (show p ≠ 0 by omega), aBin_rem (show p ≠ 0 by omega), w1, retA_ret, Tryd.results31, resultsA_2]
  exact hid_mk ⟨by rw [hG], kH⟩
end Go.Proofs.YtpmmbcifhallbaaDoor.Pk
