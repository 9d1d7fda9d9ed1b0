/-
  What functions of the program do, told of abstract states. Conditions: as each theorem says.
-/
import Derived.Test.YtpmmbcifhallbaaDoorCuI
import Derived.Test.YtpmmbcifhallbaaDoorCuL
import Derived.Test.YtpmmbcifhallbaaDoorAbD
namespace Go.Proofs.YtpmmbcifhallbaaDoor.Pk
open Go Go.Proofs Go.Proofs.YtpmmbcifhallbaaDoor.Ab
set_option linter.unusedVariables false
set_option linter.unusedSimpArgs false

def ofX (p : Int) (l : List Vx) (task : Int) : Int × Int := if 0 ≤ task ∧ task < tasksX p l then (task.tdiv p, task.tmod p) else (-1, -1)
theorem tasks_pos {p : Int} {l : List Vx} {task : Int} (h0 : 0 ≤ task) (h1 : task < tasksX p l) : (chkT p l).2 = 0 ∧ (1 ≤ p ∧ p ≤ 8) ∧ tasksX p l ≤ 192 := by
  have h : (chkT p l).2 = 0 := Classical.byContradiction fun hn => by
    rw [tasksX, if_neg hn] at h1; omega
  obtain ⟨_, hp, l1, l24, _, _⟩ := chk_ok h
  refine ⟨h, hp, ?_⟩
  rw [tasks_eq h]
  have hc := cntR_le (mgX l) l.length
  generalize cntR (mgX l) l.length = c at hc ⊢
  have hP : p = 1 ∨ p = 2 ∨ p = 3 ∨ p = 4 ∨ p = 5 ∨ p = 6 ∨ p = 7 ∨ p = 8 := by omega
  rcases hP with rfl | rfl | rfl | rfl | rfl | rfl | rfl | rfl <;> omega
set_option maxRecDepth 10000 in
theorem pOf (l : List Vx) (p task : Int) (hok : OkT l) (h : AHeap) (hg : TG h) : Pure Tryd.prog 31 [.agg (topE l p), .int .i64 task] h (.tuple [.int .i64 (ofX p l task).1, .int .i64 (ofX p l task).2]) := by
  refine Pure.val (Clo.tuple (CloL.cons (Clo.int _ _) (CloL.cons (Clo.int _ _) CloL.nil))) ?_
  have hc : (V.agg (topE l p)).cells = some [.imm l.length (l.flatMap encX), .int .i64 p] := rfl
  obtain ⟨H, hH⟩ : ∃ x, x = h.push (.cells [.imm l.length (l.flatMap encX), .int .i64 p] 24 none) := ⟨_, rfl⟩
  have gt : H.get h.n = .cells [.imm l.length (l.flatMap encX), .int .i64 p] 24 none := by rw [hH]; exact get_push_new
  have kH : Keep h H none_ := by rw [hH]; exact Keep.push _ _ _
  have tH := hg.keep kH
  refine SCalls.enterI (c := _) Tryd.func31 rfl (by kernel_rfl) (by simp) ?_
  simp only [wpA_region, wpA_seq, seqQ_normal, goI_out, goI_ops, opsA_nil, opsA_cons, opsA_guardS, slotAt_zero, slotAt_succ, stepA_move, stepA_assign, stepA_box, stepA_binOp, thenV_some, thenH_some, eval_tmp, eval_const, put_some, enterF_zero, enterF_succ, aBin_lss, absV_int, aBox_eq, Int.reduceNeg, Nat.reduceEqDiff, Option.map_some, if_true, if_false, hc, ← hH]
  by_cases n0 : task < 0
  · have d0 : decide (task < 0) = true := by simpa using n0
    have hG : ofX p l task = (-1, -1) := if_neg (by omega)
    simp only [wpA_region, wpA_seq, wpA_cond, wpA_ret, condI_true, seqQ_normal, seqQ_ret, endI_mk, goI_out, goI_ops, opsA_nil, opsA_cons, opsA_guardS, gvI_tf, slotAt_zero, slotAt_succ, stepA_assign, stepA_pick, thenV_some, pickV_true, eval_tmp, eval_const, put_some, enterF_succ, absV_int, absV_bool, Int.reduceNeg, Nat.reduceEqDiff, if_true, if_false, d0, retA_ret, Tryd.results31, resultsA_2]
    exact hid_mk ⟨by rw [hG], kH⟩
  have d0 : decide (task < 0) = false := by simpa using n0
  simp only [goI_ops, opsA_guardS, gvI_same, slotAt_zero, slotAt_succ, stepA_move, stepA_load, stepA_call, thenV_some, eval_tmp, put_some, enterF_zero, enterF_succ, aLoad_eq, loadGo_row, aPlace_ptr, dropC_cells, Nat.reduceEqDiff, Nat.reduceAdd, List.map_cons, List.map_nil, Nat.zero_add, Nat.zero_le, List.length_cons, List.length_nil, List.drop_zero, List.take_succ_cons, List.take_nil, if_true, if_false, Nat.le_refl, lt_24, d0, gt]
  refine callI_pure cal29 (pTasks l p hok H tH) ?_
  by_cases n1 : tasksX p l ≤ task
  · have d1 : decide (tasksX p l ≤ task) = true := by simpa using n1
    have hG : ofX p l task = (-1, -1) := if_neg (by omega)
    simp only [wpA_region, wpA_seq, wpA_cond, wpA_ret, condI_true, seqQ_normal, seqQ_ret, endI_mk, goI_out, goI_ops, opsA_nil, opsA_cons, opsA_guardS, gvI_same, slotAt_zero, slotAt_succ, stepA_assign, stepA_pick, stepA_binOp, thenV_some, pickV_false, eval_tmp, eval_const, put_some, enterF_succ, aBin_geq, absV_int, absV_bool, Int.reduceNeg, Nat.reduceEqDiff, if_true, if_false, d1, retA_ret, Tryd.results31, resultsA_2]
    exact hid_mk ⟨by rw [hG], kH⟩
  have d1 : decide (tasksX p l ≤ task) = false := by simpa using n1
  obtain ⟨h0, hp, h192⟩ := tasks_pos (p := p) (l := l) (task := task) (by omega) (by omega)
  have hG : ofX p l task = (task.tdiv p, task.tmod p) := if_pos (by omega)
  have w1 : IntKind.i64.wrap (task.tdiv p) = task.tdiv p := by
    rw [Int.tdiv_eq_ediv_of_nonneg (by omega)]
    have a := Int.ediv_nonneg (a := task) (b := p) (by omega) (by omega)
    have b := Int.ediv_le_self (a := task) p (by omega)
    exact Go.IntWalk.i64_in _ (by omega)
  simp only [wpA_skip, wpA_seq, wpA_cond, wpA_draw, condI_false, seqQ_normal, goI_out, goI_ops, opsA_nil, opsA_cons, opsA_guardS, gvI_same, slotAt_zero, slotAt_succ, stepA_pick, stepA_binOp, thenV_some, pickV_false, eval_tmp, eval_const, put_some, enterF_succ, aBin_geq, absV_bool, Int.reduceNeg, Nat.reduceEqDiff, if_true, if_false, d1]
  refine SWp.drawnS none_ [] (.q 0 (.q 1 (.q 2 (.q 3 (.q 4 (.q 5 (.q 6 (.q 7 (.q 8 (.q 9 .done)))))))))) (by kernel_rfl) (by kernel_rfl) (by kernel_rfl) ?_
  simp only [siI_done, siI_q, sqI_some, mOk_none', implies_true, qI_nil, qI_cons, thenQ_some, q_move, q_assign, q_load, q_binOp, q_fieldAddr, wpA_ret, seqQ_normal, endI_mk, goI_out, goI_mk, eval_tmp, put_some, enterF_zero, enterF_succ, aField_eq, fieldGo_ptr, aLoad_eq, loadGo_one, aPlace_ptr, dropC_cells, List.getElem?_cons_zero, List.getElem?_cons_succ, Nat.reduceEqDiff, Nat.reduceAdd, Nat.reduceLeDiff, Nat.zero_add, List.length_cons, List.length_nil, List.drop_zero, List.drop_succ_cons, true_and, if_true, if_false, ft_24_1, lt_3, gt, aBin_quo (show p ≠ 0 by omega), aBin_rem (show p ≠ 0 by omega), w1, retA_ret, Tryd.results31, resultsA_2]
  exact hid_mk ⟨by rw [hG], kH⟩
theorem log_inj {n p k v q k' v' q' : Int} (hn : 1 ≤ n) (hp : 1 ≤ p) (v0 : 0 ≤ v ∧ v < n) (v1 : 0 ≤ v' ∧ v' < n) (q0 : 0 ≤ q ∧ q < p) (q1 : 0 ≤ q' ∧ q' < p) (h : (k * n + v) * p + q = (k' * n + v') * p + q') : k = k' ∧ v = v' ∧ q = q' := by
  have e1 : ∀ (x y : Int), 0 ≤ y → y < p → (x * p + y) / p = x ∧ (x * p + y) % p = y := fun x y a b => by
    constructor
    · rw [Int.add_comm, Int.add_mul_ediv_right _ _ (by omega), Int.ediv_eq_zero_of_lt a b]; omega
    · rw [Int.add_comm, Int.add_mul_emod_self_right, Int.emod_eq_of_lt a b]
  have e2 : ∀ (x y : Int), 0 ≤ y → y < n → (x * n + y) / n = x ∧ (x * n + y) % n = y := fun x y a b => by
    constructor
    · rw [Int.add_comm, Int.add_mul_ediv_right _ _ (by omega), Int.ediv_eq_zero_of_lt a b]; omega
    · rw [Int.add_comm, Int.add_mul_emod_self_right, Int.emod_eq_of_lt a b]
  obtain ⟨a1, a2⟩ := e1 (k * n + v) q q0.1 q0.2
  obtain ⟨b1, b2⟩ := e1 (k' * n + v') q' q1.1 q1.2
  rw [h] at a1 a2
  have hx : k * n + v = k' * n + v' := a1.symm.trans b1
  obtain ⟨c1, c2⟩ := e2 k v v0.1 v0.2
  obtain ⟨d1, d2⟩ := e2 k' v' v1.1 v1.2
  rw [hx] at c1 c2
  exact ⟨c1.symm.trans d1, c2.symm.trans d2, a2.symm.trans b2⟩
theorem log_same {p : Int} {l : List Vx} {k v q k' v' q' : Int} (h1 : 0 ≤ logX p l k v q) (h2 : 0 ≤ logX p l k' v' q') : (logX p l k v q == logX p l k' v' q') = (k == k' && v == v' && q == q') := by
  by_cases c1 : (chkT p l).2 = 0 ∧ 0 ≤ k ∧ k ≤ 2 ∧ 0 ≤ v ∧ v < l.length ∧ 0 ≤ q ∧ q < p
  rotate_left
  · rw [logX, if_neg c1] at h1; omega
  by_cases c2 : (chkT p l).2 = 0 ∧ 0 ≤ k' ∧ k' ≤ 2 ∧ 0 ≤ v' ∧ v' < l.length ∧ 0 ≤ q' ∧ q' < p
  rotate_left
  · rw [logX, if_neg c2] at h2; omega
  rw [logX, if_pos c1, logX, if_pos c2, Bool.eq_iff_iff]
  simp only [beq_iff_eq, Bool.and_eq_true]
  constructor
  · intro h
    obtain ⟨a, b, c⟩ := log_inj (by omega) (by omega) (by omega) (by omega) (by omega) (by omega) h
    exact ⟨⟨a, b⟩, c⟩
  · rintro ⟨⟨rfl, rfl⟩, rfl⟩
    rfl
set_option maxHeartbeats 2000000 in
set_option maxRecDepth 10000 in
theorem cutNumbers (l : List Vx) (p : Int) (a0 a1 a2 b0 b1 b2 task : Nat) (ha0 : a0 < 256) (ha1 : a1 < 256) (ha2 : a2 < 256) (hb0 : b0 < 256) (hb1 : b1 < 256) (hb2 : b2 < 256) (ht : task < 256) (hok : OkT l) (h : AHeap) (hg : TG h) :
    SCalls Tryd.prog 11 [.agg (topE l p), .agg [.int .u8 (a0 : Int), .int .u8 (a1 : Int), .int .u8 (a2 : Int)], .agg [.int .u8 (b0 : Int), .int .u8 (b1 : Int), .int .u8 (b2 : Int)], .int .u8 (task : Int)] h (fun r h' => r = .bool true) := by
  have hc : (V.agg (topE l p)).cells = some [.imm l.length (l.flatMap encX), .int .i64 p] := rfl
  obtain ⟨H, hH⟩ : ∃ x, x = ((h.push (.cells [.imm l.length (l.flatMap encX), .int .i64 p] 24 none)).push (.cells [.int .u8 (a0 : Int), .int .u8 (a1 : Int), .int .u8 (a2 : Int)] 61 none)).push (.cells [.int .u8 (b0 : Int), .int .u8 (b1 : Int), .int .u8 (b2 : Int)] 61 none) := ⟨_, rfl⟩
  have gt : H.get h.n = .cells [.imm l.length (l.flatMap encX), .int .i64 p] 24 none := by rw [hH]; exact get_push3a
  have ga : H.get (h.n + 1) = .cells [.int .u8 (a0 : Int), .int .u8 (a1 : Int), .int .u8 (a2 : Int)] 61 none := by rw [hH]; exact get_push3b
  have gb : H.get (h.n + 2) = .cells [.int .u8 (b0 : Int), .int .u8 (b1 : Int), .int .u8 (b2 : Int)] 61 none := by rw [hH]; exact get_push3c
  have kH : Keep h H none_ := by rw [hH]; exact ((Keep.push _ _ _).trans' (Keep.push _ _ _)).trans' (Keep.push _ _ _)
  have tH := hg.keep kH
  have i0 : ((0 : Int) < ((3 : Nat) : Int)) = True := eq_true (by decide)
  have i1 : ((1 : Int) < ((3 : Nat) : Int)) = True := eq_true (by decide)
  have i2 : ((2 : Int) < ((3 : Nat) : Int)) = True := eq_true (by decide)
  have wt := nat_i64 (n := task) (by omega)
  have wa1 := nat_i64 (n := a1) (by omega)
  have wa2 := nat_i64 (n := a2) (by omega)
  have wb1 := nat_i64 (n := b1) (by omega)
  have wb2 := nat_i64 (n := b2) (by omega)
  have ea : (a0 : Int).tmod 4 = ((a0 % 4 : Nat) : Int) := by rw [Int.tmod_eq_emod_of_nonneg (by omega)]; omega
  have eb : (b0 : Int).tmod 4 = ((b0 % 4 : Nat) : Int) := by rw [Int.tmod_eq_emod_of_nonneg (by omega)]; omega
  have wa0 := nat_i64 (n := a0 % 4) (by omega)
  have wb0 := nat_i64 (n := b0 % 4) (by omega)
  refine SCalls.enterI (c := _) Tryd.func11 rfl (by kernel_rfl) (by simp) ?_
  simp only [wpA_region, wpA_seq, seqQ_normal, goI_out, goI_ops, opsA_nil, opsA_cons, stepA_assign, stepA_box, stepA_call, thenH_some, eval_tmp, eval_const, put_some, enterF_zero, enterF_succ, absV_bool, cells_agg, aBox_eq, push_n, Nat.reduceEqDiff, List.map_nil, Option.map_some, if_false, hc, ← hH]
  refine callI_pure cal25 (pShown16 H tH) ?_
  simp only [wpA_region, wpA_seq, seqQ_normal, goI_out, goI_ops, opsA_nil, opsA_cons, stepA_assign, stepA_load, stepA_call, thenV_some, eval_tmp, put_some, enterF_succ, aLoad_eq, loadGo_row, aPlace_ptr, dropC_cells, Nat.reduceEqDiff, Nat.reduceAdd, List.map_cons, List.map_nil, Nat.zero_add, Nat.zero_le, List.length_cons, List.length_nil, List.drop_zero, List.take_succ_cons, List.take_nil, if_true, if_false, Nat.le_refl, lt_24, gt]
  refine callI_pure cal26 (pSmall16 l p hok H) ?_
  cases c1 : decide (smF 0 l ≤ 5000)
  · simp only [wpA_region, wpA_seq, wpA_cond, wpA_ret, condI_true, seqQ_normal, seqQ_ret, endI_mk, goI_out, goI_ops, opsA_nil, opsA_cons, stepA_move, stepA_assign, stepA_unOp, thenV_some, eval_tmp, put_some, enterF_succ, aUn_not, Nat.reduceEqDiff, if_true, if_false, Bool.not_false, retA_ret, Tryd.results11, resultsA_1]
    exact hid_mk rfl
  simp only [wpA_skip, wpA_region, wpA_seq, wpA_cond, condI_false, seqQ_normal, goI_out, goI_ops, opsA_nil, opsA_cons, stepA_load, stepA_binOp, stepA_unOp, stepA_convert, stepA_indexAddr, stepA_call, thenV_some, thenC_some, eval_tmp, eval_const, put_some, enterF_succ, aUn_not, aConv_int, absV_int, aLoad_eq, loadGo_one, loadGo_row, aPlace_ptr, dropC_cells, aIndexAddr_eq, ixGo_ptr, Int.reduceLE, Option.some.injEq, Nat.reduceEqDiff, Nat.reduceAdd, Nat.reduceLeDiff, Nat.reduceMul, List.map_cons, List.map_nil, Nat.add_zero, Nat.zero_add, Nat.zero_le, List.length_cons, List.length_nil, List.drop_zero, List.drop_succ_cons, List.take_succ_cons, List.take_nil, and_self, if_true, if_false, Bool.not_true, Nat.le_refl, as_61, it_3, it_5, lt_24, lt_5, ss_61, gt, ga, i0, i1, i2, Int.toNat_zero, Int.toNat_one, Int.reduceToNat, aBin_rem (show (4 : Int) ≠ 0 by decide), ea, wa0, wa1, wa2]
  refine callI_pure cal35 (pLog l p _ _ _ hok H tH) ?_
  simp only [wpA_region, wpA_seq, seqQ_normal, goI_out, goI_ops, opsA_nil, opsA_cons, stepA_assign, stepA_load, stepA_binOp, stepA_convert, stepA_indexAddr, stepA_call, thenV_some, thenC_some, eval_tmp, eval_const, put_some, enterF_succ, aConv_int, absV_int, aLoad_eq, loadGo_one, loadGo_row, aPlace_ptr, dropC_cells, aIndexAddr_eq, ixGo_ptr, Int.reduceLE, Option.some.injEq, Nat.reduceEqDiff, Nat.reduceAdd, Nat.reduceLeDiff, Nat.reduceMul, List.map_cons, List.map_nil, Nat.add_zero, Nat.zero_add, Nat.zero_le, List.length_cons, List.length_nil, List.drop_zero, List.drop_succ_cons, List.take_succ_cons, List.take_nil, and_self, if_true, if_false, Nat.le_refl, as_61, it_3, it_5, lt_24, lt_5, ss_61, gt, gb, i0, i1, i2, Int.toNat_zero, Int.toNat_one, Int.reduceToNat, aBin_rem (show (4 : Int) ≠ 0 by decide), eb, wb0, wb1, wb2]
  refine callI_pure cal35 (pLog l p _ _ _ hok H tH) ?_
  simp only [wpA_region, wpA_seq, seqQ_normal, goI_out, goI_ops, opsA_nil, opsA_cons, stepA_move, stepA_assign, stepA_load, stepA_convert, stepA_call, thenV_some, thenC_some, eval_tmp, put_some, enterF_zero, enterF_succ, aConv_int, aLoad_eq, loadGo_row, aPlace_ptr, dropC_cells, Option.some.injEq, Nat.reduceEqDiff, Nat.reduceAdd, List.map_cons, List.map_nil, Nat.zero_add, Nat.zero_le, List.length_cons, List.length_nil, List.drop_zero, List.take_succ_cons, List.take_nil, if_true, if_false, Nat.le_refl, it_3, it_5, lt_24, gt, wt]
  refine callI_pure cal31 (pOf l p _ hok H tH) ?_
  simp only [wpA_region, wpA_seq, seqQ_normal, goI_out, goI_ops, opsA_nil, opsA_cons, stepA_move, stepA_assign, stepA_load, stepA_binOp, stepA_convert, stepA_extract, stepA_call, thenV_some, thenC_some, extV_zero, extV_succ, eval_tmp, eval_const, put_some, enterF_zero, enterF_succ, aBin_geq, aConv_int, absV_int, aLoad_eq, loadGo_row, aPlace_ptr, dropC_cells, Option.some.injEq, Nat.reduceEqDiff, Nat.reduceAdd, List.map_cons, List.map_nil, Nat.zero_add, Nat.zero_le, List.length_cons, List.length_nil, List.drop_zero, List.take_succ_cons, List.take_nil, if_true, if_false, Nat.le_refl, it_3, it_5, lt_24, gt, wt]
  have hx := @log_same p l ((a0 % 4 : Nat) : Int) (a1 : Int) (a2 : Int) ((b0 % 4 : Nat) : Int) (b1 : Int) (b2 : Int)
  generalize logX p l ((a0 % 4 : Nat) : Int) (a1 : Int) (a2 : Int) = X at hx ⊢
  generalize logX p l ((b0 % 4 : Nat) : Int) (b1 : Int) (b2 : Int) = Y at hx ⊢
  have fin : ∀ (s1 s2 s3 : Bool), (((a0 % 4 : Nat) : Int) == ((b0 % 4 : Nat) : Int)) = s1 → ((a1 : Int) == (b1 : Int)) = s2 → ((a2 : Int) == (b2 : Int)) = s3 → 0 ≤ X → 0 ≤ Y → (X == Y) = (s1 && s2 && s3) := by
    intro s1 s2 s3 e1 e2 e3 x y
    rw [hx x y, e1, e2, e3]
  have tx : decide (X < 0) = false → 0 ≤ X := fun h => by simpa using h
  have ty : decide (Y < 0) = false → 0 ≤ Y := fun h => by simpa using h
  clear hx
  refine callI_pureG (fun f => f 3 = .int .u8 (task : Int) ∧ f 4 = .ptr h.n 0 ∧ f 5 = .ptr (h.n + 1) 0 ∧ f 6 = .ptr (h.n + 2) 0 ∧ f 9 = .bool true ∧ f 10 = .int .i64 X ∧ f 11 = .int .i64 Y ∧ f 12 = .int .i64 (ofX p l task).1 ∧ f 13 = .int .i64 (ofX p l task).2 ∧ f 52 = .bool (decide (0 ≤ (ofX p l task).1)) ∧ f 54 = .int .i64 (task : Int) ∧ f 56 = .int .i64 (tasksX p l)) cal29 (pTasks l p hok H tH) ⟨rfl, rfl, rfl, rfl, rfl, rfl, rfl, rfl, rfl, rfl, rfl, rfl⟩ ?_
  rintro f ⟨f3, f4, f5, f6, f9, f10, f11, f12, f13, f52, f54, f56⟩
  have hA : ∃ d : Bool, decide (0 ≤ (ofX p l task).1) = d ∧ decide ((task : Int) < tasksX p l) = d ∧ (d = true → IntKind.i64.wrap ((ofX p l task).1 * p) = (ofX p l task).1 * p ∧ IntKind.i64.wrap ((ofX p l task).1 * p + (ofX p l task).2) = (task : Int)) := by
    by_cases n1 : (task : Int) < tasksX p l
    · obtain ⟨h0, hp, h192⟩ := tasks_pos (p := p) (l := l) (task := (task : Int)) (by omega) n1
      have hG : ofX p l task = ((task : Int).tdiv p, (task : Int).tmod p) := if_pos (by omega)
      rw [hG]
      have hdm := Int.mul_tdiv_add_tmod (task : Int) p
      have q0 : 0 ≤ (task : Int).tdiv p := Int.tdiv_nonneg (by omega) (by omega)
      have q1 : 0 ≤ (task : Int).tmod p := Int.tmod_nonneg _ (by omega)
      have q2 := Int.mul_nonneg (a := p) (b := (task : Int).tdiv p) (by omega) q0
      refine ⟨true, by simpa using q0, by simpa using n1, fun _ => ?_⟩
      simp only
      generalize (task : Int).tdiv p = Q at *
      generalize (task : Int).tmod p = M at *
      exact ⟨by rw [Int.mul_comm]; exact Go.IntWalk.i64_in _ (by omega), by rw [Int.mul_comm, hdm]; exact wt⟩
    · have hG : ofX p l task = (-1, -1) := if_neg (by omega)
      rw [hG]
      exact ⟨false, by simp, by simpa using n1, fun h => by cases h⟩
  obtain ⟨d, d0, d1, hw⟩ := hA
  rw [d0] at f52
  have b1' : ((task : Int) != (task : Int)) = false := by simp
  generalize ofX p l task = O at f12 f13 d0 hw
  cases d
  · cases x0 : decide (X < 0)
    · cases y0 : decide (Y < 0)
      · have f1 := fin _ _ _ rfl rfl rfl (tx x0) (ty y0)
        cases s1 : (((a0 % 4 : Nat) : Int) == ((b0 % 4 : Nat) : Int)) <;> cases s2 : ((a1 : Int) == (b1 : Int)) <;> cases s3 : ((a2 : Int) == (b2 : Int)) <;> rw [s1, s2, s3] at f1 <;>
          (simp only [Bool.and_true, Bool.and_false, Bool.and_self] at f1
           simp only [wpA_skip, wpA_region, wpA_seq, wpA_cond, wpA_ret, condI_false, seqQ_normal, endI_mk, goI_out, goI_ops, opsA_nil, opsA_cons, opsA_guardS, gvI_same, gvI_ft, slotAt_zero, slotAt_succ, stepA_move, stepA_assign, stepA_pick, stepA_load, stepA_binOp, stepA_indexAddr, thenV_some, pickV_true, pickV_false, eval_tmp, eval_const, put_some, aBin_eql, aBin_lss, aBin_geq, aBin_bool_eql, aBin_bool_neq, absV_int, absV_bool, aLoad_eq, loadGo_one, aPlace_ptr, dropC_cells, aIndexAddr_eq, ixGo_ptr, bne_self_eq_false, beq_self_eq_true, Int.reduceLE, Nat.reduceEqDiff, Nat.reduceAdd, Nat.reduceLeDiff, Nat.reduceMul, Nat.add_zero, Nat.zero_add, Nat.zero_le, List.length_cons, List.length_nil, List.drop_zero, List.drop_succ_cons, and_self, if_true, if_false, as_61, bt_4, lt_5, ss_61, f5, f6, f9, f10, f11, f12, f52, f54, f56, ga, gb, i0, i1, i2, Int.toNat_zero, Int.toNat_one, Int.reduceToNat, aBin_rem (show (4 : Int) ≠ 0 by decide), ea, eb, d0, d1, x0, y0, s1, s2, s3, f1, retA_ret, Tryd.results11, resultsA_1]
           exact hid_mk rfl)
      · cases s1 : (((a0 % 4 : Nat) : Int) == ((b0 % 4 : Nat) : Int)) <;> cases s2 : ((a1 : Int) == (b1 : Int)) <;>
          (simp only [wpA_skip, wpA_region, wpA_seq, wpA_cond, wpA_ret, condI_false, seqQ_normal, endI_mk, goI_out, goI_ops, opsA_nil, opsA_cons, opsA_guardS, gvI_same, gvI_tf, gvI_ft, slotAt_zero, slotAt_succ, stepA_move, stepA_assign, stepA_pick, stepA_load, stepA_binOp, stepA_indexAddr, thenV_some, pickV_true, pickV_false, eval_tmp, eval_const, put_some, aBin_eql, aBin_lss, aBin_geq, aBin_bool_neq, absV_int, absV_bool, aLoad_eq, loadGo_one, aPlace_ptr, dropC_cells, aIndexAddr_eq, ixGo_ptr, bne_self_eq_false, Int.reduceLE, Nat.reduceEqDiff, Nat.reduceAdd, Nat.reduceLeDiff, Nat.reduceMul, Nat.add_zero, Nat.zero_add, Nat.zero_le, List.length_cons, List.length_nil, List.drop_zero, List.drop_succ_cons, and_self, if_true, if_false, as_61, bt_4, lt_5, ss_61, f5, f6, f9, f10, f11, f12, f52, f54, f56, ga, gb, i0, i1, i2, Int.toNat_zero, Int.toNat_one, Int.reduceToNat, aBin_rem (show (4 : Int) ≠ 0 by decide), ea, eb, d0, d1, x0, y0, s1, s2, retA_ret, Tryd.results11, resultsA_1]
           exact hid_mk rfl)
    · cases s1 : (((a0 % 4 : Nat) : Int) == ((b0 % 4 : Nat) : Int)) <;> cases s2 : ((a1 : Int) == (b1 : Int)) <;>
          (simp only [wpA_skip, wpA_region, wpA_seq, wpA_cond, wpA_ret, condI_false, seqQ_normal, endI_mk, goI_out, goI_ops, opsA_nil, opsA_cons, opsA_guardS, gvI_same, gvI_tf, gvI_ft, slotAt_zero, slotAt_succ, stepA_move, stepA_assign, stepA_pick, stepA_load, stepA_binOp, stepA_indexAddr, thenV_some, pickV_true, pickV_false, eval_tmp, eval_const, put_some, aBin_eql, aBin_lss, aBin_geq, aBin_bool_neq, absV_int, absV_bool, aLoad_eq, loadGo_one, aPlace_ptr, dropC_cells, aIndexAddr_eq, ixGo_ptr, bne_self_eq_false, Int.reduceLE, Nat.reduceEqDiff, Nat.reduceAdd, Nat.reduceLeDiff, Nat.reduceMul, Nat.add_zero, Nat.zero_add, Nat.zero_le, List.length_cons, List.length_nil, List.drop_zero, List.drop_succ_cons, and_self, if_true, if_false, as_61, bt_4, lt_5, ss_61, f5, f6, f9, f10, f12, f52, f54, f56, ga, gb, i0, i1, i2, Int.toNat_zero, Int.toNat_one, Int.reduceToNat, aBin_rem (show (4 : Int) ≠ 0 by decide), ea, eb, d0, d1, x0, s1, s2, retA_ret, Tryd.results11, resultsA_1]
           exact hid_mk rfl)
  · obtain ⟨w1, w2⟩ := hw rfl
    cases x0 : decide (X < 0)
    · cases y0 : decide (Y < 0)
      · have f1 := fin _ _ _ rfl rfl rfl (tx x0) (ty y0)
        cases s1 : (((a0 % 4 : Nat) : Int) == ((b0 % 4 : Nat) : Int)) <;> cases s2 : ((a1 : Int) == (b1 : Int)) <;> cases s3 : ((a2 : Int) == (b2 : Int)) <;> rw [s1, s2, s3] at f1 <;>
          (simp only [Bool.and_true, Bool.and_false, Bool.and_self] at f1
           simp only [wpA_skip, wpA_region, wpA_seq, wpA_cond, wpA_ret, condI_false, seqQ_normal, endI_mk, goI_out, goI_ops, opsA_nil, opsA_cons, opsA_guardS, gvI_same, gvI_ft, slotAt_zero, slotAt_succ, stepA_move, stepA_assign, stepA_pick, stepA_load, stepA_binOp, stepA_convert, stepA_fieldAddr, stepA_indexAddr, thenV_some, thenC_some, pickV_true, pickV_false, eval_tmp, eval_const, put_some, aBin_add, aBin_mul, aBin_eql, aBin_neq, aBin_lss, aBin_geq, aBin_bool_eql, aBin_bool_neq, aConv_int, absV_int, absV_bool, aField_eq, fieldGo_ptr, aLoad_eq, loadGo_one, aPlace_ptr, dropC_cells, aIndexAddr_eq, ixGo_ptr, bne_self_eq_false, beq_self_eq_true, Int.reduceLE, Option.some.injEq, Nat.reduceEqDiff, Nat.reduceAdd, Nat.reduceLeDiff, Nat.reduceMul, Nat.add_zero, Nat.zero_add, Nat.zero_le, List.length_cons, List.length_nil, List.drop_zero, List.drop_succ_cons, and_self, if_true, if_false, as_61, bt_4, ft_24_1, it_3, it_5, lt_3, lt_5, ss_61, f3, f4, f5, f6, f9, f10, f11, f12, f13, f52, f54, f56, gt, ga, gb, i0, i1, i2, Int.toNat_zero, Int.toNat_one, Int.reduceToNat, aBin_rem (show (4 : Int) ≠ 0 by decide), ea, eb, wt, d0, d1, w1, w2, x0, y0, s1, s2, s3, f1, retA_ret, Tryd.results11, resultsA_1]
           exact hid_mk rfl)
      · cases s1 : (((a0 % 4 : Nat) : Int) == ((b0 % 4 : Nat) : Int)) <;> cases s2 : ((a1 : Int) == (b1 : Int)) <;>
          (simp only [wpA_skip, wpA_region, wpA_seq, wpA_cond, wpA_ret, condI_false, seqQ_normal, endI_mk, goI_out, goI_ops, opsA_nil, opsA_cons, opsA_guardS, gvI_same, gvI_tf, gvI_ft, slotAt_zero, slotAt_succ, stepA_move, stepA_assign, stepA_pick, stepA_load, stepA_binOp, stepA_convert, stepA_fieldAddr, stepA_indexAddr, thenV_some, thenC_some, pickV_true, pickV_false, eval_tmp, eval_const, put_some, aBin_add, aBin_mul, aBin_eql, aBin_neq, aBin_lss, aBin_geq, aBin_bool_neq, aConv_int, absV_int, absV_bool, aField_eq, fieldGo_ptr, aLoad_eq, loadGo_one, aPlace_ptr, dropC_cells, aIndexAddr_eq, ixGo_ptr, bne_self_eq_false, Int.reduceLE, Option.some.injEq, Nat.reduceEqDiff, Nat.reduceAdd, Nat.reduceLeDiff, Nat.reduceMul, Nat.add_zero, Nat.zero_add, Nat.zero_le, List.length_cons, List.length_nil, List.drop_zero, List.drop_succ_cons, and_self, if_true, if_false, as_61, bt_4, ft_24_1, it_3, it_5, lt_3, lt_5, ss_61, f3, f4, f5, f6, f9, f10, f11, f12, f13, f52, f54, f56, gt, ga, gb, i0, i1, i2, Int.toNat_zero, Int.toNat_one, Int.reduceToNat, aBin_rem (show (4 : Int) ≠ 0 by decide), ea, eb, wt, d0, d1, w1, w2, x0, y0, s1, s2, retA_ret, Tryd.results11, resultsA_1]
           exact hid_mk rfl)
    · cases s1 : (((a0 % 4 : Nat) : Int) == ((b0 % 4 : Nat) : Int)) <;> cases s2 : ((a1 : Int) == (b1 : Int)) <;>
          (simp only [wpA_skip, wpA_region, wpA_seq, wpA_cond, wpA_ret, condI_false, seqQ_normal, endI_mk, goI_out, goI_ops, opsA_nil, opsA_cons, opsA_guardS, gvI_same, gvI_tf, gvI_ft, slotAt_zero, slotAt_succ, stepA_move, stepA_assign, stepA_pick, stepA_load, stepA_binOp, stepA_convert, stepA_fieldAddr, stepA_indexAddr, thenV_some, thenC_some, pickV_true, pickV_false, eval_tmp, eval_const, put_some, aBin_add, aBin_mul, aBin_eql, aBin_neq, aBin_lss, aBin_geq, aBin_bool_neq, aConv_int, absV_int, absV_bool, aField_eq, fieldGo_ptr, aLoad_eq, loadGo_one, aPlace_ptr, dropC_cells, aIndexAddr_eq, ixGo_ptr, bne_self_eq_false, Int.reduceLE, Option.some.injEq, Nat.reduceEqDiff, Nat.reduceAdd, Nat.reduceLeDiff, Nat.reduceMul, Nat.add_zero, Nat.zero_add, Nat.zero_le, List.length_cons, List.length_nil, List.drop_zero, List.drop_succ_cons, and_self, if_true, if_false, as_61, bt_4, ft_24_1, it_3, it_5, lt_3, lt_5, ss_61, f3, f4, f5, f6, f9, f10, f12, f13, f52, f54, f56, gt, ga, gb, i0, i1, i2, Int.toNat_zero, Int.toNat_one, Int.reduceToNat, aBin_rem (show (4 : Int) ≠ 0 by decide), ea, eb, wt, d0, d1, w1, w2, x0, s1, s2, retA_ret, Tryd.results11, resultsA_1]
           exact hid_mk rfl)
end Go.Proofs.YtpmmbcifhallbaaDoor.Pk
