/-
  What functions of the program do, told of abstract states. Conditions: as each theorem says.
-/
import Derived.Test.YtcdpepdjeneelaaDoorVtD
namespace Go.Proofs.YtcdpepdjeneelaaDoor.Pk
open Go Go.Proofs Go.Proofs.YtcdpepdjeneelaaDoor.Ab Go.Proofs.Vw
set_option linter.unusedVariables false
set_option linter.unusedSimpArgs false
/-! ### What is the same is told as the same -/
theorem rcd_ix {l : List LR} {k : Nat} (hk : k < l.length) {kk : IntKind} : aIndexAddr Tryd.prog 33 (.imm l.length (recL l)) (.int kk (k : Int)) = some (.at (rcdE l[k].1 ++ recL (l.drop (k + 1)))) := rows_ix (enc := fun p : LR => rcdE p.1) (sz := 3) (fun _ => rfl) hk ss_33
theorem rcd_ld (x : Rcd) (r : List V) : loadGo (some (some 3)) (some (rcdE x ++ r)) = some (.agg (rcdE x)) := load_row (rcdE_len x)
theorem rcd_neS (r : Rcd) {xo yo : Operand} : aBin Tryd.prog .neq 45 xo yo (.agg (rcdE r)) (.agg (rcdE r)) = some (.bool false) := by
  have h : eqK [0, 0, 0] (rcdE r) (rcdE r) = some true := by
    simp [eqK, rcdE]
  rw [aBin_sk_neq sk_45 h]
  rfl
set_option maxRecDepth 10000 in
theorem pSameS (l : List Int) (hl : l.length ≤ 2 ^ 40) (h : AHeap) : Pure Tryd.prog 35 [.imm l.length (i64V l), .imm l.length (i64V l)] h (.bool true) := by
  refine Pure.val (Clo.bool _) ?_
  refine SCalls.enterI (c := _) Tryd.func35 rfl (by kernel_rfl) (by simp) ?_
  have c1 : (((l.length : Nat) : Int) != ((l.length : Nat) : Int)) = false := by simp
  simp only [wpA_skip, wpA_region, wpA_seq, wpA_cond, wpA_block, wpA_loop, condI_false, seqQ_normal, goI_out, goI_ops, opsA_nil, opsA_cons, stepA_move, stepA_assign, stepA_binOp, stepA_len, thenV_some, eval_tmp, eval_const, put_some, enterF_zero, enterF_succ, aBin_neq, absV_int, absV_bool, aLen_imm, bne_self_eq_false, Nat.reduceEqDiff, reduceCtorEq, if_true, if_false, kt_39]
  refine SWp.loopG (α := Nat) (fun i f h' => f 0 = .imm l.length (i64V l) ∧ f 1 = .imm l.length (i64V l) ∧ f 5 = .int .i64 (i : Nat) ∧ i ≤ l.length ∧ Keep h h' none_) (fun i => l.length - i) 0
    ⟨rfl, rfl, rfl, Nat.zero_le _, Keep.refl _ _⟩ ?_
  rintro i f h1 ⟨f0, f1, f5, hi, k1⟩
  refine wpI_sound (by kernel_rfl) ?_
  by_cases hlt : i < l.length
  · have d1 : decide ((i : Int) < ((l.length : Nat) : Int)) = true := decide_eq_true (by omega)
    have hw : IntKind.i64.wrap ((i : Int) + 1) = ((i + 1 : Nat) : Int) := by rw [Go.IntWalk.i64_in _ (by omega)]; omega
    have x1 : ∃ r, aIndexAddr Tryd.prog 39 (.imm l.length (i64V l)) (.int .i64 (i : Int)) = some (.at (.int .i64 l[i] :: r)) := ⟨_, Ab.row_ix (V.int .i64) hlt ss_39⟩
    obtain ⟨r1, x1⟩ := x1
    generalize l[i] = A at x1
    have e1 : (A != A) = false := by simp
    simp only [wpA_skip, wpA_region, wpA_seq, wpA_cond, wpA_block, wpA_draw, condI_true, seqQ_normal, goI_out, goI_ops, opsA_nil, opsA_cons, stepA_move, stepA_binOp, stepA_len, thenV_some, eval_tmp, put_some, aBin_lss, aLen_imm, Nat.reduceEqDiff, reduceCtorEq, if_true, if_false, kt_39, f0, f5, d1]
    refine SWp.drawnS none_ [] (.q 0 (.q 1 (.q 2 (.q 3 (.q 4 (.q 5 (.q 6 (.q 7 (.q 8 .done))))))))) (by kernel_rfl) (by kernel_rfl) (by kernel_rfl) ?_
    simp only [siI_done, siI_q, sqI_some, mOk_none', implies_true, qI_nil, qI_cons, thenQ_some, q_move, q_load, q_binOp, q_indexAddr, wpA_skip, wpA_region, wpA_cond, condI_false, seqQ_normal, blkQ_normal, endI_mk, andThen_normal, goI_out, goI_ops, goI_mk, opsA_nil, opsA_cons, stepA_move, stepA_assign, stepA_binOp, thenV_some, eval_tmp, eval_const, put_some, aBin_add, aBin_neq, absV_int, aLoad_eq, loadGo_one, aPlace_at, List.getElem?_cons_zero, List.getElem?_cons_succ, bne_self_eq_false, Nat.reduceEqDiff, reduceCtorEq, true_and, if_true, if_false, lt_3, f0, f1, f5, x1, hw]
    exact hid_mk ⟨i + 1, ⟨f0, f1, rfl, hlt, k1⟩, by omega⟩
  · have d1 : decide ((i : Int) < ((l.length : Nat) : Int)) = false := decide_eq_false (by omega)
    simp only [wpA_region, wpA_seq, wpA_cond, wpA_exit, wpA_ret, condI_false, seqQ_normal, seqQ_exit, blkQ_exit, endI_mk, goE, andThen_exit, goI_out, goI_ops, opsA_nil, opsA_cons, stepA_move, stepA_assign, stepA_binOp, stepA_len, thenV_some, eval_tmp, eval_const, put_some, aBin_lss, absV_bool, aLen_imm, Nat.reduceEqDiff, reduceCtorEq, if_true, if_false, kt_39, f0, f5, d1, retA_ret, Tryd.results35, resultsA_1]
    exact hid_mk ⟨rfl, k1⟩
set_option maxRecDepth 10000 in
theorem pRecsS (l : List LR) (hl : l.length ≤ 2 ^ 40) (h : AHeap) : Pure Tryd.prog 17 [.imm l.length (recL l), .imm l.length (recL l)] h (.bool true) := by
  refine Pure.val (Clo.bool _) ?_
  refine SCalls.enterI (c := _) Tryd.func17 rfl (by kernel_rfl) (by simp) ?_
  have c1 : (((l.length : Nat) : Int) != ((l.length : Nat) : Int)) = false := by simp
  simp only [wpA_skip, wpA_region, wpA_seq, wpA_cond, wpA_block, wpA_loop, condI_false, seqQ_normal, goI_out, goI_ops, opsA_nil, opsA_cons, stepA_move, stepA_assign, stepA_binOp, stepA_len, thenV_some, eval_tmp, eval_const, put_some, enterF_zero, enterF_succ, aBin_neq, absV_int, absV_bool, aLen_imm, bne_self_eq_false, Nat.reduceEqDiff, reduceCtorEq, if_true, if_false, kt_33]
  refine SWp.loopG (α := Nat) (fun i f h' => f 0 = .imm l.length (recL l) ∧ f 1 = .imm l.length (recL l) ∧ f 5 = .int .i64 (i : Nat) ∧ i ≤ l.length ∧ Keep h h' none_) (fun i => l.length - i) 0
    ⟨rfl, rfl, rfl, Nat.zero_le _, Keep.refl _ _⟩ ?_
  rintro i f h1 ⟨f0, f1, f5, hi, k1⟩
  refine wpI_sound (by kernel_rfl) ?_
  by_cases hlt : i < l.length
  · have d1 : decide ((i : Int) < ((l.length : Nat) : Int)) = true := decide_eq_true (by omega)
    have hw : IntKind.i64.wrap ((i : Int) + 1) = ((i + 1 : Nat) : Int) := by rw [Go.IntWalk.i64_in _ (by omega)]; omega
    have x1 := rcd_ix (kk := .i64) hlt
    generalize l[i].1 = A at x1
    have ld := rcd_ld
    have ne : ∀ xo yo, aBin Tryd.prog .neq 45 xo yo (.agg (rcdE A)) (.agg (rcdE A)) = some (.bool false) := fun xo yo => rcd_neS A
    simp only [wpA_skip, wpA_region, wpA_seq, wpA_cond, wpA_block, wpA_draw, condI_true, seqQ_normal, goI_out, goI_ops, opsA_nil, opsA_cons, stepA_move, stepA_binOp, stepA_len, thenV_some, eval_tmp, put_some, aBin_lss, aLen_imm, Nat.reduceEqDiff, reduceCtorEq, if_true, if_false, kt_33, f0, f5, d1]
    refine SWp.drawnS none_ [] (.q 0 (.q 1 (.q 2 (.q 3 (.q 4 (.q 5 (.q 6 (.q 7 (.q 8 .done))))))))) (by kernel_rfl) (by kernel_rfl) (by kernel_rfl) ?_
    simp only [siI_done, siI_q, sqI_some, mOk_none', implies_true, qI_nil, qI_cons, thenQ_some, q_move, q_load, q_binOp, q_indexAddr, wpA_skip, wpA_region, wpA_cond, condI_false, seqQ_normal, blkQ_normal, endI_mk, andThen_normal, goI_out, goI_ops, goI_mk, opsA_nil, opsA_cons, stepA_move, stepA_assign, stepA_binOp, thenV_some, eval_tmp, eval_const, put_some, aBin_add, absV_int, aLoad_eq, aPlace_at, List.getElem?_cons_zero, List.getElem?_cons_succ, Nat.reduceEqDiff, reduceCtorEq, true_and, if_true, if_false, lt_45, f0, f1, f5, x1, ld, ne, hw]
    exact hid_mk ⟨i + 1, ⟨f0, f1, rfl, hlt, k1⟩, by omega⟩
  · have d1 : decide ((i : Int) < ((l.length : Nat) : Int)) = false := decide_eq_false (by omega)
    simp only [wpA_region, wpA_seq, wpA_cond, wpA_exit, wpA_ret, condI_false, seqQ_normal, seqQ_exit, blkQ_exit, endI_mk, goE, andThen_exit, goI_out, goI_ops, opsA_nil, opsA_cons, stepA_move, stepA_assign, stepA_binOp, stepA_len, thenV_some, eval_tmp, eval_const, put_some, aBin_lss, absV_bool, aLen_imm, Nat.reduceEqDiff, reduceCtorEq, if_true, if_false, kt_33, f0, f5, d1, retA_ret, Tryd.results17, resultsA_1]
    exact hid_mk ⟨rfl, k1⟩
theorem del_ix {l : List LR} {k : Nat} (hk : k < l.length) {kk : IntKind} : ∃ r, aIndexAddr Tryd.prog 34 (.imm l.length (delL l)) (.int kk (k : Int)) = some (.at (.bool l[k].2 :: r)) := ⟨_, Ab.row_ix (fun p : LR => V.bool p.2) hk ss_34⟩
set_option maxHeartbeats 1000000 in
set_option maxRecDepth 10000 in
theorem pLogSame (c : Int × List LR) (hl : c.2.length ≤ 2 ^ 40) (h : AHeap) : Pure Tryd.prog 19 [.agg (logC c), .agg (logC c)] h (.bool true) := by
  refine Pure.val (Clo.bool _) ?_
  obtain ⟨n, l⟩ := c
  have hl : l.length ≤ 2 ^ 40 := hl
  refine SCalls.enterI (c := _) Tryd.func19 rfl (by kernel_rfl) (by simp) ?_
  have cc : (V.agg (logC (n, l))).cells = some [.int .i64 n, .imm l.length (recL l), .imm l.length (delL l)] := rfl
  obtain ⟨H, hH⟩ : ∃ y, y = (h.push (.cells [.int .i64 n, .imm l.length (recL l), .imm l.length (delL l)] 36 none)).push (.cells [.int .i64 n, .imm l.length (recL l), .imm l.length (delL l)] 36 none) := ⟨_, rfl⟩
  have kH : Keep h H none_ := by rw [hH]; exact (Keep.push _ _ _).trans' (Keep.push _ _ _)
  have nH : H.n = h.n + 2 := by rw [hH]; simp only [push_n]
  have g0 : H.get h.n = .cells [.int .i64 n, .imm l.length (recL l), .imm l.length (delL l)] 36 none := by rw [hH, get_push_lt (by simp only [push_n]; omega)]; exact get_push_new
  have g1 : H.get (h.n + 1) = .cells [.int .i64 n, .imm l.length (recL l), .imm l.length (delL l)] 36 none := by rw [hH]; exact get_push_new
  have e1 : (n != n) = false := by simp
  have c1 : (((l.length : Nat) : Int) != ((l.length : Nat) : Int)) = false := by simp
  simp only [wpA_region, wpA_seq, seqQ_normal, goI_out, goI_ops, opsA_nil, opsA_cons, opsA_guardS, gvI_same, slotAt_zero, slotAt_succ, stepA_move, stepA_assign, stepA_box, stepA_load, stepA_binOp, stepA_fieldAddr, stepA_call, thenV_some, thenH_some, eval_tmp, eval_const, put_some, enterF_zero, enterF_succ, aBin_neq, absV_bool, aField_eq, fieldGo_ptr, aLoad_eq, loadGo_one, aPlace_ptr, dropC_cells, aBox_eq, push_n, get_push2, get_push2', bne_self_eq_false, Nat.reduceEqDiff, Nat.reduceAdd, Nat.reduceLeDiff, List.map_cons, List.map_nil, Option.map_some, Nat.add_zero, Nat.zero_add, Nat.zero_le, List.length_cons, List.length_nil, List.drop_zero, List.drop_succ_cons, if_true, if_false, ft_36_0, ft_36_1, lt_3, lt_33, cc]
  rw [← hH]
  clear hH
  refine callI_pure cal17 (pRecsS l hl H) ?_
  simp only [wpA_skip, wpA_region, wpA_seq, wpA_cond, wpA_block, wpA_loop, condI_false, seqQ_normal, goI_out, goI_ops, opsA_nil, opsA_cons, opsA_guardS, gvI_same, slotAt_zero, slotAt_succ, stepA_move, stepA_assign, stepA_pick, stepA_load, stepA_binOp, stepA_unOp, stepA_fieldAddr, stepA_len, thenV_some, pickV_false, eval_tmp, eval_const, put_some, enterF_succ, aBin_neq, aUn_not, absV_int, absV_bool, aField_eq, fieldGo_ptr, aLoad_eq, loadGo_one, aPlace_ptr, dropC_cells, aLen_imm, bne_self_eq_false, Nat.reduceEqDiff, Nat.reduceAdd, Nat.reduceLeDiff, Nat.zero_add, List.length_cons, List.length_nil, List.drop_zero, List.drop_succ_cons, if_true, if_false, Bool.not_true, ft_36_2, kt_34, lt_34, g0, g1]
  refine SWp.loopG (α := Nat) (fun i f h' => f 2 = .ptr h.n 0 ∧ f 3 = .ptr (h.n + 1) 0 ∧ f 5 = .int .i64 (i : Nat) ∧ i ≤ l.length ∧ h' = H) (fun i => l.length - i) 0
    ⟨rfl, rfl, rfl, Nat.zero_le _, rfl⟩ ?_
  rintro i f h1 ⟨f2, f3, f5, hi, rfl⟩
  refine wpI_sound (by kernel_rfl) ?_
  by_cases hlt : i < l.length
  · have d1 : decide ((i : Int) < ((l.length : Nat) : Int)) = true := decide_eq_true (by omega)
    have hw : IntKind.i64.wrap ((i : Int) + 1) = ((i + 1 : Nat) : Int) := by rw [Go.IntWalk.i64_in _ (by omega)]; omega
    obtain ⟨r1, x1⟩ := del_ix (kk := .i64) hlt
    generalize l[i].2 = A at x1
    have e2 : (A != A) = false := by simp
    simp only [wpA_skip, wpA_region, wpA_seq, wpA_cond, wpA_block, wpA_draw, condI_true, seqQ_normal, goI_out, goI_ops, opsA_nil, opsA_cons, stepA_move, stepA_load, stepA_binOp, stepA_fieldAddr, stepA_len, thenV_some, eval_tmp, put_some, aBin_lss, aField_eq, fieldGo_ptr, aLoad_eq, loadGo_one, aPlace_ptr, dropC_cells, aLen_imm, Nat.reduceEqDiff, Nat.reduceAdd, Nat.reduceLeDiff, Nat.zero_add, List.length_cons, List.length_nil, List.drop_zero, List.drop_succ_cons, if_true, if_false, ft_36_2, kt_34, lt_34, f2, f5, g0, d1]
    refine SWp.drawnS none_ [] (.q 0 (.q 1 (.q 2 (.q 3 (.q 4 (.q 5 (.q 6 (.q 7 (.q 8 (.q 9 (.q 10 .done))))))))))) (by kernel_rfl) (by kernel_rfl) (by kernel_rfl) ?_
    simp only [siI_done, siI_q, sqI_some, mOk_none', implies_true, qI_nil, qI_cons, thenQ_some, q_move, q_load, q_binOp, q_fieldAddr, q_indexAddr, wpA_skip, wpA_region, wpA_cond, condI_false, seqQ_normal, blkQ_normal, endI_mk, andThen_normal, goI_out, goI_ops, goI_mk, opsA_nil, opsA_cons, stepA_move, stepA_assign, stepA_binOp, thenV_some, eval_tmp, eval_const, put_some, aBin_add, aBin_bool_neq, absV_int, aField_eq, fieldGo_ptr, aLoad_eq, loadGo_one, aPlace_ptr, aPlace_at, dropC_cells, List.getElem?_cons_zero, List.getElem?_cons_succ, bne_self_eq_false, Nat.reduceEqDiff, Nat.reduceAdd, Nat.reduceLeDiff, Nat.zero_add, List.length_cons, List.length_nil, List.drop_zero, List.drop_succ_cons, true_and, if_true, if_false, bt_4, ft_36_2, lt_34, lt_4, f2, f3, f5, g0, g1, x1, hw]
    exact hid_mk ⟨i + 1, ⟨f2, f3, rfl, hlt, rfl⟩, by omega⟩
  · have d1 : decide ((i : Int) < ((l.length : Nat) : Int)) = false := decide_eq_false (by omega)
    simp only [wpA_region, wpA_seq, wpA_cond, wpA_exit, wpA_ret, condI_false, seqQ_normal, seqQ_exit, blkQ_exit, endI_mk, goE, andThen_exit, goI_out, goI_ops, opsA_nil, opsA_cons, stepA_move, stepA_assign, stepA_load, stepA_binOp, stepA_fieldAddr, stepA_len, thenV_some, eval_tmp, eval_const, put_some, aBin_lss, absV_bool, aField_eq, fieldGo_ptr, aLoad_eq, loadGo_one, aPlace_ptr, dropC_cells, aLen_imm, Nat.reduceEqDiff, Nat.reduceAdd, Nat.reduceLeDiff, Nat.zero_add, List.length_cons, List.length_nil, List.drop_zero, List.drop_succ_cons, if_true, if_false, ft_36_2, kt_34, lt_34, f2, f5, g0, d1, retA_ret, Tryd.results19, resultsA_1]
    exact hid_mk ⟨rfl, kH⟩
set_option maxHeartbeats 1000000 in
set_option maxRecDepth 10000 in
theorem pTaskSame (c : TV) (h1 : c.offs.length ≤ 2 ^ 40) (h2 : c.ord.length ≤ 2 ^ 40) (h : AHeap) : Pure Tryd.prog 20 [.agg (tvC c), .agg (tvC c)] h (.bool true) := by
  refine Pure.val (Clo.bool _) ?_
  refine SCalls.enterI (c := _) Tryd.func20 rfl (by kernel_rfl) (by simp) ?_
  obtain ⟨t, ep, tx, offs, ord, opn⟩ := c
  have cc : (V.agg (tvC ⟨t, ep, tx, offs, ord, opn⟩)).cells = some [.int .i64 t, .int .i64 ep, .int .i64 tx, .imm offs.length (i64V offs), .imm ord.length (i64V ord), .int .i64 (opn : Nat)] := rfl
  have e1 : ∀ n : Int, (n == n) = true := fun n => by simp
  obtain ⟨H, hH⟩ : ∃ y, y = (h.push (.cells [.int .i64 t, .int .i64 ep, .int .i64 tx, .imm offs.length (i64V offs), .imm ord.length (i64V ord), .int .i64 (opn : Nat)] 41 none)).push (.cells [.int .i64 t, .int .i64 ep, .int .i64 tx, .imm offs.length (i64V offs), .imm ord.length (i64V ord), .int .i64 (opn : Nat)] 41 none) := ⟨_, rfl⟩
  have kH : Keep h H none_ := by rw [hH]; exact (Keep.push _ _ _).trans' (Keep.push _ _ _)
  have g0 : H.get h.n = .cells [.int .i64 t, .int .i64 ep, .int .i64 tx, .imm offs.length (i64V offs), .imm ord.length (i64V ord), .int .i64 (opn : Nat)] 41 none := by rw [hH, get_push_lt (by simp only [push_n]; omega)]; exact get_push_new
  have g1 : H.get (h.n + 1) = .cells [.int .i64 t, .int .i64 ep, .int .i64 tx, .imm offs.length (i64V offs), .imm ord.length (i64V ord), .int .i64 (opn : Nat)] 41 none := by rw [hH]; exact get_push_new
  simp only [wpA_region, wpA_seq, seqQ_normal, goI_out, goI_ops, opsA_nil, opsA_cons, opsA_guardS, gvI_same, slotAt_zero, slotAt_succ, stepA_move, stepA_assign, stepA_pick, stepA_box, stepA_load, stepA_binOp, stepA_fieldAddr, stepA_call, thenV_some, thenH_some, pickV_true, eval_tmp, eval_const, put_some, enterF_zero, enterF_succ, aBin_eql, absV_bool, aField_eq, fieldGo_ptr, aLoad_eq, loadGo_one, aPlace_ptr, dropC_cells, aBox_eq, push_n, get_push2, get_push2', beq_self_eq_true, Nat.reduceEqDiff, Nat.reduceAdd, Nat.reduceLeDiff, List.map_cons, List.map_nil, Option.map_some, Nat.add_zero, Nat.zero_add, Nat.zero_le, List.length_cons, List.length_nil, List.drop_zero, List.drop_succ_cons, if_true, if_false, ft_41_0, ft_41_1, ft_41_2, ft_41_3, ft_41_5, lt_3, lt_39, cc]
  rw [← hH]
  clear hH
  refine callI_pure cal35 (pSameS offs h1 H) ?_
  simp only [goI_ops, opsA_cons, opsA_guardS, gvI_same, slotAt_zero, slotAt_succ, stepA_move, stepA_pick, stepA_load, stepA_fieldAddr, stepA_call, thenV_some, pickV_true, eval_tmp, eval_const, put_some, enterF_succ, absV_bool, aField_eq, fieldGo_ptr, aLoad_eq, loadGo_one, aPlace_ptr, dropC_cells, Nat.reduceEqDiff, Nat.reduceAdd, Nat.reduceLeDiff, List.map_cons, List.map_nil, Nat.zero_add, List.length_cons, List.length_nil, List.drop_zero, List.drop_succ_cons, if_true, if_false, ft_41_4, lt_39, g0, g1]
  refine callI_pure cal35 (pSameS ord h2 H) ?_
  simp only [wpA_ret, seqQ_normal, endI_mk, goI_out, goI_ops, opsA_nil, opsA_cons, stepA_assign, stepA_pick, thenV_some, pickV_true, eval_tmp, eval_const, put_some, enterF_succ, absV_bool, Nat.reduceEqDiff, if_true, if_false, retA_ret, Tryd.results20, resultsA_1]
  exact hid_mk ⟨rfl, kH⟩
set_option maxHeartbeats 1000000 in
set_option maxRecDepth 10000 in
theorem pSameTold (t : TD) (ht : TdOk t) (h : AHeap) : Pure Tryd.prog 11 [.agg (tdC t), .agg (tdC t)] h (.bool true) := by
  refine Pure.val (Clo.bool _) ?_
  refine SCalls.enterI (c := _) Tryd.func11 rfl (by kernel_rfl) (by simp) ?_
  obtain ⟨lg, tk, n⟩ := t
  obtain ⟨t1, t2, t3, t4⟩ := ht
  simp only at t1 t2 t3 t4
  have cc : (V.agg (tdC ⟨lg, tk, n⟩)).cells = some [.imm lg.length (lg.flatMap logC), .imm tk.length (tk.flatMap tvC), .int .i64 (n : Nat)] := rfl
  have e1 : ∀ n : Int, (n != n) = false := fun n => by simp
  obtain ⟨H, hH⟩ : ∃ y, y = (h.push (.cells [.imm lg.length (lg.flatMap logC), .imm tk.length (tk.flatMap tvC), .int .i64 (n : Nat)] 29 none)).push (.cells [.imm lg.length (lg.flatMap logC), .imm tk.length (tk.flatMap tvC), .int .i64 (n : Nat)] 29 none) := ⟨_, rfl⟩
  have kH : Keep h H none_ := by rw [hH]; exact (Keep.push _ _ _).trans' (Keep.push _ _ _)
  have g0 : H.get h.n = .cells [.imm lg.length (lg.flatMap logC), .imm tk.length (tk.flatMap tvC), .int .i64 (n : Nat)] 29 none := by rw [hH, get_push_lt (by simp only [push_n]; omega)]; exact get_push_new
  have g1 : H.get (h.n + 1) = .cells [.imm lg.length (lg.flatMap logC), .imm tk.length (tk.flatMap tvC), .int .i64 (n : Nat)] 29 none := by rw [hH]; exact get_push_new
  simp only [wpA_skip, wpA_region, wpA_seq, wpA_cond, wpA_block, wpA_loop, condI_false, seqQ_normal, goI_out, goI_ops, opsA_nil, opsA_cons, opsA_guardS, gvI_same, slotAt_zero, slotAt_succ, stepA_move, stepA_assign, stepA_pick, stepA_box, stepA_load, stepA_binOp, stepA_fieldAddr, stepA_len, thenV_some, thenH_some, pickV_false, eval_tmp, eval_const, put_some, enterF_zero, enterF_succ, aBin_neq, absV_int, absV_bool, aField_eq, fieldGo_ptr, aLoad_eq, loadGo_one, aPlace_ptr, dropC_cells, aBox_eq, aLen_imm, push_n, get_push2, get_push2', bne_self_eq_false, Nat.reduceEqDiff, Nat.reduceAdd, Nat.reduceLeDiff, Option.map_some, Nat.add_zero, Nat.zero_add, Nat.zero_le, List.length_cons, List.length_nil, List.drop_zero, List.drop_succ_cons, if_true, if_false, ft_29_0, ft_29_1, ft_29_2, kt_26, kt_27, lt_26, lt_27, lt_3, cc]
  rw [← hH]
  clear hH
  refine SWp.loopG (α := Nat) (fun i f h' => f 2 = .ptr h.n 0 ∧ f 3 = .ptr (h.n + 1) 0 ∧ f 5 = .int .i64 (i : Nat) ∧ i ≤ lg.length ∧ h' = H) (fun i => lg.length - i) 0
    ⟨rfl, rfl, rfl, Nat.zero_le _, rfl⟩ ?_
  rintro i f h1 ⟨f2, f3, f5, hi, rfl⟩
  refine wpI_sound (by kernel_rfl) ?_
  by_cases hlt : i < lg.length
  · have d1 : decide ((i : Int) < ((lg.length : Nat) : Int)) = true := decide_eq_true (by omega)
    have hw : IntKind.i64.wrap ((i : Int) + 1) = ((i + 1 : Nat) : Int) := by rw [Go.IntWalk.i64_in _ (by omega)]; omega
    have x1 := lv_ix (kk := .i64) hlt
    have hm := t3 _ (List.getElem_mem hlt)
    generalize lg[i] = A at x1 hm
    have ld := lv_ld A
    simp only [wpA_skip, wpA_region, wpA_seq, wpA_cond, wpA_block, wpA_draw, condI_true, seqQ_normal, goI_out, goI_ops, opsA_nil, opsA_cons, stepA_move, stepA_load, stepA_binOp, stepA_fieldAddr, stepA_len, thenV_some, eval_tmp, put_some, aBin_lss, aField_eq, fieldGo_ptr, aLoad_eq, loadGo_one, aPlace_ptr, dropC_cells, aLen_imm, Nat.reduceEqDiff, Nat.reduceAdd, Nat.add_zero, Nat.zero_add, Nat.zero_le, List.length_cons, List.length_nil, List.drop_zero, if_true, if_false, ft_29_0, kt_26, lt_26, f2, f5, g0, d1]
    refine SWp.drawnS none_ [] (.q 0 (.q 1 (.q 2 (.q 3 (.q 4 (.q 5 (.q 6 (.q 7 (.q 8 (.q 9 (.c 10 (.q 11 .done)))))))))))) (by kernel_rfl) (by kernel_rfl) (by kernel_rfl) ?_
    simp only [siI_q, sqI_some, mOk_none', implies_true, qI_nil, qI_cons, thenQ_some, q_move, q_load, q_fieldAddr, q_indexAddr, goI_mk, eval_tmp, put_some, aField_eq, fieldGo_ptr, aLoad_eq, loadGo_one, aPlace_ptr, aPlace_at, dropC_cells, List.getElem?_cons_zero, List.getElem?_cons_succ, Nat.reduceEqDiff, Nat.reduceAdd, Nat.add_zero, Nat.zero_add, Nat.zero_le, List.length_cons, List.length_nil, List.drop_zero, true_and, if_true, if_false, ft_29_0, lt_26, lt_36, f2, f3, f5, g0, g1, x1, ld]
    refine siI_c rfl rfl rfl (fun h' _ => pLogSame A (by omega) h') ?_
    simp only [siI_done, siI_q, sqI_some, mOk_none', implies_true, qI_nil, qI_cons, thenQ_some, q_unOp, wpA_skip, wpA_region, wpA_cond, condI_false, seqQ_normal, blkQ_normal, endI_mk, andThen_normal, goI_out, goI_ops, goI_mk, opsA_nil, opsA_cons, stepA_move, stepA_assign, stepA_binOp, thenV_some, eval_tmp, eval_const, put_some, aBin_add, aUn_not, absV_int, List.getElem?_cons_zero, List.getElem?_cons_succ, Nat.reduceEqDiff, true_and, if_true, if_false, Bool.not_true, f5, hw]
    exact hid_mk ⟨i + 1, ⟨f2, f3, rfl, hlt, rfl⟩, by omega⟩
  · have d1 : decide ((i : Int) < ((lg.length : Nat) : Int)) = false := decide_eq_false (by omega)
    simp only [wpA_region, wpA_seq, wpA_cond, wpA_block, wpA_exit, wpA_loop, condI_false, seqQ_normal, seqQ_exit, blkQ_exit, endI_mk, goE, andThen_exit, goI_out, goI_ops, opsA_nil, opsA_cons, stepA_move, stepA_assign, stepA_load, stepA_binOp, stepA_fieldAddr, stepA_len, thenV_some, eval_tmp, eval_const, put_some, aBin_lss, absV_int, aField_eq, fieldGo_ptr, aLoad_eq, loadGo_one, aPlace_ptr, dropC_cells, aLen_imm, Nat.reduceEqDiff, Nat.reduceAdd, Nat.add_zero, Nat.zero_add, Nat.zero_le, List.length_cons, List.length_nil, List.drop_zero, if_true, if_false, ft_29_0, kt_26, lt_26, f2, f5, g0, d1]
    refine SWp.loopG (α := Nat) (fun i f h' => f 2 = .ptr h.n 0 ∧ f 3 = .ptr (h.n + 1) 0 ∧ f 6 = .int .i64 (i : Nat) ∧ i ≤ tk.length ∧ h' = h1) (fun i => tk.length - i) 0
      ⟨f2, f3, rfl, Nat.zero_le _, rfl⟩ ?_
    clear f2 f3 f5
    rintro i f h1 ⟨f2, f3, f6, hi, rfl⟩
    refine wpI_sound (by kernel_rfl) ?_
    by_cases hlt : i < tk.length
    · have d1 : decide ((i : Int) < ((tk.length : Nat) : Int)) = true := decide_eq_true (by omega)
      have hw : IntKind.i64.wrap ((i : Int) + 1) = ((i + 1 : Nat) : Int) := by rw [Go.IntWalk.i64_in _ (by omega)]; omega
      have x1 := tv_ix (kk := .i64) hlt
      have hm := t4 _ (List.getElem_mem hlt)
      generalize tk[i] = A at x1 hm
      have ld := tv_ld A
      simp only [wpA_skip, wpA_region, wpA_seq, wpA_cond, wpA_block, wpA_draw, condI_true, seqQ_normal, goI_out, goI_ops, opsA_nil, opsA_cons, stepA_move, stepA_load, stepA_binOp, stepA_fieldAddr, stepA_len, thenV_some, eval_tmp, put_some, aBin_lss, aField_eq, fieldGo_ptr, aLoad_eq, loadGo_one, aPlace_ptr, dropC_cells, aLen_imm, Nat.reduceEqDiff, Nat.reduceAdd, Nat.reduceLeDiff, Nat.zero_add, List.length_cons, List.length_nil, List.drop_zero, List.drop_succ_cons, if_true, if_false, ft_29_1, kt_27, lt_27, f2, f6, g0, d1]
      refine SWp.drawnS none_ [] (.q 0 (.q 1 (.q 2 (.q 3 (.q 4 (.q 5 (.q 6 (.q 7 (.q 8 (.q 9 (.c 10 (.q 11 .done)))))))))))) (by kernel_rfl) (by kernel_rfl) (by kernel_rfl) ?_
      simp only [siI_q, sqI_some, mOk_none', implies_true, qI_nil, qI_cons, thenQ_some, q_move, q_load, q_fieldAddr, q_indexAddr, goI_mk, eval_tmp, put_some, aField_eq, fieldGo_ptr, aLoad_eq, loadGo_one, aPlace_ptr, aPlace_at, dropC_cells, List.getElem?_cons_zero, List.getElem?_cons_succ, Nat.reduceEqDiff, Nat.reduceAdd, Nat.reduceLeDiff, Nat.zero_add, List.length_cons, List.length_nil, List.drop_zero, List.drop_succ_cons, true_and, if_true, if_false, ft_29_1, lt_27, lt_41, f2, f3, f6, g0, g1, x1, ld]
      refine siI_c rfl rfl rfl (fun h' _ => pTaskSame A (by omega) (by omega) h') ?_
      simp only [siI_done, siI_q, sqI_some, mOk_none', implies_true, qI_nil, qI_cons, thenQ_some, q_unOp, wpA_skip, wpA_region, wpA_cond, condI_false, seqQ_normal, blkQ_normal, endI_mk, andThen_normal, goI_out, goI_ops, goI_mk, opsA_nil, opsA_cons, stepA_move, stepA_assign, stepA_binOp, thenV_some, eval_tmp, eval_const, put_some, aBin_add, aUn_not, absV_int, List.getElem?_cons_zero, List.getElem?_cons_succ, Nat.reduceEqDiff, true_and, if_true, if_false, Bool.not_true, f6, hw]
      exact hid_mk ⟨i + 1, ⟨f2, f3, rfl, hlt, rfl⟩, by omega⟩
    · have d1 : decide ((i : Int) < ((tk.length : Nat) : Int)) = false := decide_eq_false (by omega)
      simp only [wpA_region, wpA_seq, wpA_cond, wpA_exit, wpA_ret, condI_false, seqQ_normal, seqQ_exit, blkQ_exit, endI_mk, goE, andThen_exit, goI_out, goI_ops, opsA_nil, opsA_cons, stepA_move, stepA_assign, stepA_load, stepA_binOp, stepA_fieldAddr, stepA_len, thenV_some, eval_tmp, eval_const, put_some, aBin_lss, absV_bool, aField_eq, fieldGo_ptr, aLoad_eq, loadGo_one, aPlace_ptr, dropC_cells, aLen_imm, Nat.reduceEqDiff, Nat.reduceAdd, Nat.reduceLeDiff, Nat.zero_add, List.length_cons, List.length_nil, List.drop_zero, List.drop_succ_cons, if_true, if_false, ft_29_1, kt_27, lt_27, f2, f6, g0, d1, retA_ret, Tryd.results11, resultsA_1]
      exact hid_mk ⟨rfl, kH⟩
end Go.Proofs.YtcdpepdjeneelaaDoor.Pk
