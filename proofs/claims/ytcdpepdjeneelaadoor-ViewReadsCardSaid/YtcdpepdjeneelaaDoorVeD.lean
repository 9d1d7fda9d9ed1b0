/-
  What functions of the program do, told of abstract states. Conditions: as each theorem says.
-/
import Derived.Test.YtcdpepdjeneelaaDoorVeC
namespace Go.Proofs.YtcdpepdjeneelaaDoor.Pk
open Go Go.Proofs Go.Proofs.YtcdpepdjeneelaaDoor.Ab
set_option linter.unusedVariables false
set_option linter.unusedSimpArgs false

theorem lit4i (h : AHeap) (a b c d : Int) : aBuildSlice Tryd.prog 39 4 [(0, .int .i64 a), (1, .int .i64 b), (2, .int .i64 c), (3, .int .i64 d)] h = some (.sl h.n 0 4 4, h.push (.cells (i64V [a, b, c, d]) 3 none)) := by rw [buildSlice_go sl_39]; rfl
set_option maxRecDepth 10000 in
theorem pNumsO (j : Nat) (l : List Int) (h : AHeap) (hl : l.length ≤ 2 ^ 47) (hg : h.get j = .cells (i64V l) 3 none) (hj : j < h.n) : Pure Tryd.prog 47 [.sl j 0 l.length l.length] h (.bool (l.all fit)) := by
  have ho : Own h 3 1 (.sl j 0 l.length l.length) (i64V l) := .inr ⟨j, l.length, l.length, i64V l, none, rfl, hj, hg, by rw [i64V_length, Nat.mul_one], by rw [Nat.mul_one, List.take_of_length_le (by rw [i64V_length]; exact Nat.le_refl _)], .inl ⟨by unfold unk; omega, by rw [i64V_length]; omega, Nat.le_refl _⟩⟩
  refine SCalls.enterI (c := _) Tryd.func47 rfl (by kernel_rfl) (by simp) ?_
  simp only [wpA_region, wpA_seq, wpA_block, wpA_loop, seqQ_normal, goI_out, goI_ops, opsA_nil, opsA_cons, stepA_move, stepA_assign, stepA_len, thenV_some, eval_tmp, eval_const, put_some, enterF_zero, enterF_succ, absV_int, absV_bool, aLen_sl, Nat.reduceEqDiff, reduceCtorEq, if_true, if_false, kt_39]
  refine SWp.loopG (α := Nat) (fun i f h' => h' = h ∧ f 5 = .sl j 0 l.length l.length ∧ f 6 = .int .i64 l.length ∧ f 7 = .int .i64 (i : Nat) ∧ i ≤ l.length ∧ (l.take i).all fit = true) (fun i => l.length - i) 0
    ⟨rfl, rfl, rfl, rfl, Nat.zero_le _, rfl⟩ ?_
  rintro i f h' ⟨rfl, f5, f6, f7, hi, ha⟩
  refine wpI_sound (by kernel_rfl) ?_
  by_cases hlast : i < l.length
  · have d1 : decide ((i : Int) < ((l.length : Nat) : Int)) = true := by simp; omega
    obtain ⟨q, q1, q2, ⟨r, q3⟩, _⟩ := own_elem (P := Tryd.prog) (kk := .i64) ss_39 ho (k := i) (by rw [i64V_length]; exact hlast)
    simp only [idOf, Option.some.injEq] at q2
    subst q2
    have hel : (i64V l)[i]'(by rw [i64V_length]; exact hlast) = .int .i64 l[i] := by simp [i64V]
    rw [hel] at q3
    have hall : l.all fit = true → fit l[i] = true := fun hh => List.all_eq_true.1 hh _ (List.getElem_mem hlast)
    by_cases c1 : l[i] < 0
    · have hG : l.all fit = false := by
        cases hh : l.all fit with
        | false => rfl
        | true => have := (fit_iff _).1 (hall hh); omega
      simp only [wpA_skip, wpA_region, wpA_seq, wpA_cond, wpA_block, wpA_ret, condI_true, seqQ_normal, seqQ_ret, blkQ_ret, endI_mk, goE, andThen_ret, goI_out, goI_ops, opsA_nil, opsA_cons, opsA_guardS, gvI_tf, slotAt_zero, slotAt_succ, stepA_move, stepA_assign, stepA_pick, stepA_load, stepA_binOp, stepA_indexAddr, thenV_some, pickV_true, eval_tmp, eval_const, put_some, aBin_lss, absV_int, absV_bool, aLoad_eq, loadGo_one, aPlace_ptr, decide_true, Nat.reduceEqDiff, if_true, if_false, lt_3, f5, f6, f7, d1, q1, q3, c1, retA_ret, Tryd.results47, resultsA_1]
      exact hid_mk ⟨by rw [hG], rfl⟩
    by_cases c2 : 1048576 < l[i]
    · have hG : l.all fit = false := by
        cases hh : l.all fit with
        | false => rfl
        | true => have := (fit_iff _).1 (hall hh); omega
      simp only [wpA_skip, wpA_region, wpA_seq, wpA_cond, wpA_block, wpA_ret, condI_true, seqQ_normal, seqQ_ret, blkQ_ret, endI_mk, goE, andThen_ret, goI_out, goI_ops, opsA_nil, opsA_cons, opsA_guardS, gvI_same, slotAt_zero, slotAt_succ, stepA_move, stepA_assign, stepA_pick, stepA_load, stepA_binOp, stepA_indexAddr, thenV_some, pickV_false, eval_tmp, eval_const, put_some, aBin_lss, aBin_gtr, absV_int, absV_bool, aLoad_eq, loadGo_one, aPlace_ptr, decide_true, decide_false, Nat.reduceEqDiff, if_true, if_false, lt_3, f5, f6, f7, d1, q1, q3, c1, c2, retA_ret, Tryd.results47, resultsA_1]
      exact hid_mk ⟨by rw [hG], rfl⟩
    · have hf : fit l[i] = true := (fit_iff _).2 (by omega)
      have hw := inc64 hlast (by omega)
      simp only [wpA_skip, wpA_region, wpA_seq, wpA_cond, wpA_block, condI_true, condI_false, seqQ_normal, blkQ_normal, endI_mk, andThen_normal, goI_out, goI_ops, opsA_nil, opsA_cons, opsA_guardS, gvI_same, slotAt_zero, slotAt_succ, stepA_move, stepA_assign, stepA_pick, stepA_load, stepA_binOp, stepA_indexAddr, thenV_some, pickV_false, eval_tmp, eval_const, put_some, aBin_add, aBin_lss, aBin_gtr, absV_int, absV_bool, aLoad_eq, loadGo_one, aPlace_ptr, decide_false, Nat.reduceEqDiff, if_true, if_false, lt_3, f5, f6, f7, d1, q1, q3, c1, c2, hw]
      refine hid_mk ⟨i + 1, ⟨rfl, f5, f6, rfl, hlast, ?_⟩, by omega⟩
      rw [List.take_succ_eq_append_getElem hlast, List.all_append, ha]
      simp [hf]
  · have d1 : decide ((i : Int) < ((l.length : Nat) : Int)) = false := by simp; omega
    have hG : l.all fit = true := by rw [show i = l.length by omega, List.take_length] at ha; exact ha
    simp only [wpA_region, wpA_seq, wpA_cond, wpA_exit, wpA_ret, condI_false, seqQ_normal, seqQ_exit, blkQ_exit, endI_mk, goE, andThen_exit, goI_out, goI_ops, opsA_nil, opsA_cons, stepA_assign, stepA_binOp, thenV_some, eval_tmp, eval_const, put_some, aBin_lss, absV_bool, Nat.reduceEqDiff, if_true, if_false, f6, f7, d1, retA_ret, Tryd.results47, resultsA_1]
    exact hid_mk ⟨by rw [hG], rfl⟩

/-- An entry whose lists are such as there can be. -/
def eLen (x : Ent) : Prop := x.offs.length ≤ 2 ^ 47 ∧ x.order.length ≤ 2 ^ 47
set_option maxHeartbeats 2000000 in
set_option maxRecDepth 10000 in
theorem pMay (x : Ent) (h : AHeap) (hu : KU h) (hlen : eLen x) : Pure Tryd.prog 36 [.agg (entE x)] h (.bool (mayB x)) := by
  refine Pure.val (Clo.bool _) ?_
  refine SCalls.enterI (c := _) Tryd.func36 rfl (by kernel_rfl) (by simp) ?_
  have hc : (V.agg (entE x)).cells = some (entE x) := rfl
  by_cases c1 : x.kind < 1
  · have hG : mayB x = false := by cases hh : mayB x with | false => rfl | true => have := ((may_iff x).1 hh).1; omega
    simp only [wpA_region, wpA_seq, wpA_cond, wpA_ret, condI_true, seqQ_normal, seqQ_ret, endI_mk, goI_out, goI_ops, opsA_nil, opsA_cons, opsA_guardS, gvI_tf, slotAt_zero, slotAt_succ, stepA_move, stepA_assign, stepA_pick, stepA_box, stepA_load, stepA_binOp, stepA_fieldAddr, thenV_some, thenH_some, pickV_true, eval_tmp, eval_const, put_some, enterF_zero, enterF_succ, aBin_lss, absV_int, absV_bool, cells_agg, aField_eq, fieldGo_ptr, aLoad_eq, loadGo_one, aPlace_ptr, dropC_cells, aBox_eq, get_push_new, decide_true, Nat.reduceEqDiff, Nat.reduceAdd, Option.map_some, Nat.add_zero, Nat.zero_add, Nat.zero_le, List.length_cons, List.length_nil, List.drop_zero, if_true, if_false, ft_47_0, lt_3, entE, c1, retA_ret, Tryd.results36, resultsA_1]
    exact hid_mk ⟨by rw [hG], Keep.push _ _ _⟩
  by_cases c2 : 6 < x.kind
  · have hG : mayB x = false := by cases hh : mayB x with | false => rfl | true => have := ((may_iff x).1 hh).1; omega
    simp only [wpA_region, wpA_seq, wpA_cond, wpA_ret, condI_true, seqQ_normal, seqQ_ret, endI_mk, goI_out, goI_ops, opsA_nil, opsA_cons, opsA_guardS, gvI_same, slotAt_zero, slotAt_succ, stepA_move, stepA_assign, stepA_pick, stepA_box, stepA_load, stepA_binOp, stepA_fieldAddr, thenV_some, thenH_some, pickV_false, eval_tmp, eval_const, put_some, enterF_zero, enterF_succ, aBin_lss, aBin_gtr, absV_int, absV_bool, cells_agg, aField_eq, fieldGo_ptr, aLoad_eq, loadGo_one, aPlace_ptr, dropC_cells, aBox_eq, get_push_new, decide_true, decide_false, Nat.reduceEqDiff, Nat.reduceAdd, Option.map_some, Nat.add_zero, Nat.zero_add, Nat.zero_le, List.length_cons, List.length_nil, List.drop_zero, if_true, if_false, ft_47_0, lt_3, entE, c1, c2, retA_ret, Tryd.results36, resultsA_1]
    exact hid_mk ⟨by rw [hG], Keep.push _ _ _⟩
  simp only [wpA_skip, wpA_region, wpA_seq, wpA_cond, wpA_draw, condI_false, seqQ_normal, goI_out, goI_ops, opsA_nil, opsA_cons, opsA_guardS, gvI_same, slotAt_zero, slotAt_succ, stepA_move, stepA_assign, stepA_pick, stepA_box, stepA_load, stepA_binOp, stepA_fieldAddr, thenV_some, thenH_some, pickV_false, eval_tmp, eval_const, put_some, enterF_zero, enterF_succ, aBin_lss, aBin_gtr, absV_int, absV_bool, cells_agg, aField_eq, fieldGo_ptr, aLoad_eq, loadGo_one, aPlace_ptr, dropC_cells, aBox_eq, get_push_new, decide_false, Nat.reduceEqDiff, Nat.reduceAdd, Option.map_some, Nat.add_zero, Nat.zero_add, Nat.zero_le, List.length_cons, List.length_nil, List.drop_zero, if_true, if_false, ft_47_0, lt_3, entE, c1, c2]
  obtain ⟨H, hH⟩ : ∃ y, y = h.push (.cells (entE x) 47 none) := ⟨_, rfl⟩
  have hg : H.get h.n = .cells [.int .i64 x.kind, .int .i64 x.task, .int .i64 x.epoch, .int .i64 x.txn, .int .i64 x.log, .int .i64 x.r.k, .int .i64 x.r.v, .int .i64 x.r.t, .bool x.del, .imm x.offs.length (i64V x.offs), .imm x.order.length (i64V x.order)] 47 none := by rw [hH]; exact get_push_new
  have kH : Keep h H none_ := by rw [hH]; exact Keep.push _ _ _
  have uH : H.glob 0 = some usesC := by rw [kH.glob]; exact hu
  have nH : H.n = h.n + 1 := by rw [hH]; rfl
  unfold entE at hH
  rw [← hH]
  clear hH
  obtain ⟨k, hk, hk1, hk6⟩ : ∃ k : Nat, x.kind = (k : Int) ∧ 1 ≤ k ∧ k ≤ 6 := ⟨x.kind.toNat, by omega, by omega, by omega⟩
  generalize e1 : [x.task, x.epoch, x.txn, x.log].all fit = b1
  generalize e2 : timeOk x.r.t = b2
  have hG : mayB x = (b1 && b2 && decide (x.offs.length ≤ 8) && x.offs.all fit && decide (x.order.length ≤ 256) && x.order.all fit && useB x) := by
    have g1 : decide (1 ≤ x.kind) = true := decide_eq_true (by omega)
    have g2 : decide (x.kind ≤ 6) = true := decide_eq_true (by omega)
    simp only [mayB, g1, g2, ← e1, ← e2, List.all_cons, List.all_nil, Bool.true_and, Bool.and_true, Bool.and_assoc]
  have d3 : decide (((x.offs.length : Nat) : Int) ≤ 8) = decide (x.offs.length ≤ 8) := decide_eq_decide.2 (by omega)
  have d5 : decide (((x.order.length : Nat) : Int) ≤ 256) = decide (x.order.length ≤ 256) := decide_eq_decide.2 (by omega)
  rw [hG]
  have hn1 : ∀ h' : AHeap, (h' = H.push (.cells (i64V [x.task, x.epoch, x.txn, x.log]) 3 none)) → Pure Tryd.prog 47 [.sl H.n 0 4 4] h' (.bool b1) := fun h' hh => by
    rw [← e1, hh]; exact pNumsO H.n [x.task, x.epoch, x.txn, x.log] _ (by simp) get_push_new (by rw [push_n]; omega)
  refine SWp.drawnS none_ [8, 9] (.q 0 (.q 1 (.q 2 (.q 3 (.q 4 (.q 5 (.q 6 (.q 7 (.e 8 (.a 9 (.q 10 (.q 11 (.q 12 (.q 13 (.c 14 (.q 15 (.q 16 (.q 17 (.q 18 (.q 19 (.q 20 (.q 21 (.q 22 (.q 23 (.q 24 (.c 25 (.q 26 (.q 27 (.q 28 (.q 29 (.q 30 (.q 31 (.q 32 (.q 33 (.q 34 (.q 35 (.c 36 (.q 37 (.q 38 (.q 39 (.c 40 (.q 41 (.q 42 (.q 43 (.q 44 (.q 45 (.q 46 (.q 47 (.q 48 .done)))))))))))))))))))))))))))))))))))))))) .stop))))))))) (by kernel_rfl) (by kernel_rfl) (by kernel_rfl) ?_
  have hp : ∀ o, (H.push o).get h.n = .cells [.int .i64 x.kind, .int .i64 x.task, .int .i64 x.epoch, .int .i64 x.txn, .int .i64 x.log, .int .i64 x.r.k, .int .i64 x.r.v, .int .i64 x.r.t, .bool x.del, .imm x.offs.length (i64V x.offs), .imm x.order.length (i64V x.order)] 47 none := fun o => by rw [get_push_lt (by omega)]; exact hg
  have hgl : ∀ (f : AFrame) (a : AObj), AFrame.eval f (H.push a) (.global 0) = .at usesC := fun f a => eval_glob (by rw [push_glob]; exact uH)
  have kP : ∀ o, Keep h (H.push o) none_ := fun o => kH.then_push o
  simp only [siI_stop, siI_q, siI_a, siI_e, sqI_some, saI_some, seI_some, mOk_none', keepT1, implies_true, qI_nil, qI_cons, thenQ_some, q_load, q_fieldAddr, goI_ops, goI_mk, opsA_nil, opsA_cons, stepA_buildSlice, stepA_call, thenH_some, eval_tmp, put_some, enterF_succ, aField_eq, fieldGo_ptr, aLoad_eq, loadGo_one, aPlace_ptr, dropC_cells, List.getElem?_cons_zero, List.getElem?_cons_succ, Nat.reduceEqDiff, Nat.reduceAdd, Nat.reduceLeDiff, List.map_cons, List.map_nil, Nat.zero_add, List.length_cons, List.length_nil, List.drop_zero, List.drop_succ_cons, and_true, true_and, if_true, if_false, ft_47_1, ft_47_2, ft_47_3, ft_47_4, lt_3, hg, lit4i]
  refine callI_pure cal47 (hn1 _ rfl) ?_
  cases b1
  · simp only [siI_q, sqI_some, mOk_none', implies_true, qI_nil, qI_cons, qI_guard, qgI_ft, q_move, goI_ops, goI_mk, opsA_nil, slotAt_zero, slotAt_succ, eval_tmp, put_some, enterF_succ, List.getElem?_cons_zero, List.getElem?_cons_succ, Bool.false_eq_true, Nat.reduceEqDiff, true_and, if_true, if_false]
    refine siI_cskip rfl rfl ?_
    simp only [siI_q, sqI_some, mOk_none', implies_true, qI_nil, qI_cons, qI_guard, qgI_ft, thenQ_some, q_move, q_pick, goI_mk, slotAt_zero, slotAt_succ, pickV_false, eval_tmp, eval_const, put_some, enterF_succ, absV_bool, List.getElem?_cons_zero, List.getElem?_cons_succ, Bool.false_eq_true, Nat.reduceEqDiff, true_and, if_true, if_false]
    refine siI_cskip rfl rfl ?_
    simp only [siI_q, sqI_some, mOk_none', implies_true, qI_nil, qI_cons, qI_guard, qgI_ft, thenQ_some, q_move, q_pick, goI_mk, slotAt_zero, slotAt_succ, pickV_false, eval_tmp, eval_const, put_some, enterF_succ, absV_bool, List.getElem?_cons_zero, List.getElem?_cons_succ, Bool.false_eq_true, Nat.reduceEqDiff, true_and, if_true, if_false]
    refine siI_cskip rfl rfl ?_
    simp only [siI_q, sqI_some, mOk_none', implies_true, qI_nil, qI_cons, qI_guard, qgI_ft, thenQ_some, q_move, q_pick, goI_mk, slotAt_zero, slotAt_succ, pickV_false, eval_tmp, eval_const, put_some, enterF_succ, absV_bool, List.getElem?_cons_zero, List.getElem?_cons_succ, Bool.false_eq_true, Nat.reduceEqDiff, true_and, if_true, if_false]
    refine siI_cskip rfl rfl ?_
    simp only [siI_done, siI_q, sqI_some, mOk_none', implies_true, qI_nil, qI_cons, qI_guard, qgI_ft, thenQ_some, q_assign, q_pick, wpA_ret, seqQ_normal, endI_mk, goI_out, goI_mk, slotAt_zero, slotAt_succ, pickV_false, eval_tmp, eval_const, put_some, enterF_succ, absV_bool, List.getElem?_cons_zero, List.getElem?_cons_succ, Bool.false_eq_true, Nat.reduceEqDiff, true_and, if_true, if_false, retA_ret, Tryd.results36, resultsA_1]
    exact hid_mk ⟨rfl, kP _⟩
  simp only [siI_q, sqI_some, mOk_none', implies_true, qI_nil, qI_cons, qI_guard, qgI_same, thenQ_some, q_move, q_load, q_fieldAddr, goI_ops, goI_mk, opsA_nil, slotAt_zero, slotAt_succ, eval_tmp, put_some, enterF_succ, aField_eq, fieldGo_ptr, aLoad_eq, loadGo_one, aPlace_ptr, dropC_cells, List.getElem?_cons_zero, List.getElem?_cons_succ, Bool.false_eq_true, Nat.reduceEqDiff, Nat.reduceAdd, Nat.reduceLeDiff, Nat.zero_add, List.length_cons, List.length_nil, List.drop_zero, List.drop_succ_cons, true_and, if_true, if_false, ft_45_2, ft_47_5, lt_2, hp]
  refine siI_c rfl rfl rfl (fun h' _ => pTime x.r.t h') ?_
  rw [e2]
  cases b2
  · simp only [siI_q, sqI_some, mOk_none', implies_true, qI_nil, qI_cons, qI_guard, qgI_ft, thenQ_some, q_move, q_pick, goI_mk, slotAt_zero, slotAt_succ, pickV_true, pickV_false, eval_tmp, eval_const, put_some, enterF_succ, absV_bool, List.getElem?_cons_zero, List.getElem?_cons_succ, Bool.false_eq_true, Nat.reduceEqDiff, true_and, if_true, if_false]
    refine siI_cskip rfl rfl ?_
    simp only [siI_q, sqI_some, mOk_none', implies_true, qI_nil, qI_cons, qI_guard, qgI_ft, thenQ_some, q_move, q_pick, goI_mk, slotAt_zero, slotAt_succ, pickV_false, eval_tmp, eval_const, put_some, enterF_succ, absV_bool, List.getElem?_cons_zero, List.getElem?_cons_succ, Bool.false_eq_true, Nat.reduceEqDiff, true_and, if_true, if_false]
    refine siI_cskip rfl rfl ?_
    simp only [siI_q, sqI_some, mOk_none', implies_true, qI_nil, qI_cons, qI_guard, qgI_ft, thenQ_some, q_move, q_pick, goI_mk, slotAt_zero, slotAt_succ, pickV_false, eval_tmp, eval_const, put_some, enterF_succ, absV_bool, List.getElem?_cons_zero, List.getElem?_cons_succ, Bool.false_eq_true, Nat.reduceEqDiff, true_and, if_true, if_false]
    refine siI_cskip rfl rfl ?_
    simp only [siI_done, siI_q, sqI_some, mOk_none', implies_true, qI_nil, qI_cons, qI_guard, qgI_ft, thenQ_some, q_assign, q_pick, wpA_ret, seqQ_normal, endI_mk, goI_out, goI_mk, slotAt_zero, slotAt_succ, pickV_false, eval_tmp, eval_const, put_some, enterF_succ, absV_bool, List.getElem?_cons_zero, List.getElem?_cons_succ, Bool.false_eq_true, Nat.reduceEqDiff, true_and, if_true, if_false, retA_ret, Tryd.results36, resultsA_1]
    exact hid_mk ⟨rfl, kP _⟩
  by_cases h3 : x.offs.length ≤ 8
  rotate_left
  · have d3 : decide (((x.offs.length : Nat) : Int) ≤ 8) = false := decide_eq_false (by omega)
    simp only [siI_q, sqI_some, mOk_none', implies_true, qI_nil, qI_cons, qI_guard, qgI_same, qgI_ft, thenQ_some, q_move, q_pick, q_load, q_binOp, q_fieldAddr, q_len, goI_mk, slotAt_zero, slotAt_succ, pickV_true, eval_tmp, eval_const, put_some, enterF_succ, aBin_leq, absV_int, absV_bool, aField_eq, fieldGo_ptr, aLoad_eq, loadGo_one, aPlace_ptr, dropC_cells, aLen_imm, List.getElem?_cons_zero, List.getElem?_cons_succ, Bool.false_eq_true, Nat.reduceEqDiff, Nat.reduceAdd, Nat.reduceLeDiff, Nat.zero_add, List.length_cons, List.length_nil, List.drop_zero, List.drop_succ_cons, true_and, if_true, if_false, ft_47_7, kt_39, lt_39, hp, d3]
    refine siI_cskip rfl rfl ?_
    simp only [siI_q, sqI_some, mOk_none', implies_true, qI_nil, qI_cons, qI_guard, qgI_ft, thenQ_some, q_move, q_pick, goI_mk, slotAt_zero, slotAt_succ, pickV_false, eval_tmp, eval_const, put_some, enterF_succ, absV_bool, List.getElem?_cons_zero, List.getElem?_cons_succ, Bool.false_eq_true, Nat.reduceEqDiff, true_and, if_true, if_false]
    refine siI_cskip rfl rfl ?_
    simp only [siI_q, sqI_some, mOk_none', implies_true, qI_nil, qI_cons, qI_guard, qgI_ft, thenQ_some, q_move, q_pick, goI_mk, slotAt_zero, slotAt_succ, pickV_false, eval_tmp, eval_const, put_some, enterF_succ, absV_bool, List.getElem?_cons_zero, List.getElem?_cons_succ, Bool.false_eq_true, Nat.reduceEqDiff, true_and, if_true, if_false]
    refine siI_cskip rfl rfl ?_
    simp only [siI_done, siI_q, sqI_some, mOk_none', implies_true, qI_nil, qI_cons, qI_guard, qgI_ft, thenQ_some, q_assign, q_pick, wpA_ret, seqQ_normal, endI_mk, goI_out, goI_mk, slotAt_zero, slotAt_succ, pickV_false, eval_tmp, eval_const, put_some, enterF_succ, absV_bool, List.getElem?_cons_zero, List.getElem?_cons_succ, Bool.false_eq_true, Nat.reduceEqDiff, true_and, if_true, if_false, retA_ret, Tryd.results36, resultsA_1]
    exact hid_mk ⟨by simp [h3], kP _⟩
  have d3 : decide (((x.offs.length : Nat) : Int) ≤ 8) = true := decide_eq_true (by omega)
  simp only [siI_q, sqI_some, mOk_none', implies_true, qI_nil, qI_cons, qI_guard, qgI_same, thenQ_some, q_move, q_pick, q_load, q_binOp, q_fieldAddr, q_len, goI_mk, slotAt_zero, slotAt_succ, pickV_true, eval_tmp, eval_const, put_some, enterF_succ, aBin_leq, absV_int, absV_bool, aField_eq, fieldGo_ptr, aLoad_eq, loadGo_one, aPlace_ptr, dropC_cells, aLen_imm, List.getElem?_cons_zero, List.getElem?_cons_succ, Bool.false_eq_true, Nat.reduceEqDiff, Nat.reduceAdd, Nat.reduceLeDiff, Nat.zero_add, List.length_cons, List.length_nil, List.drop_zero, List.drop_succ_cons, true_and, if_true, if_false, ft_47_7, kt_39, lt_39, hp, d3]
  refine siI_c rfl rfl rfl (fun h' _ => pNums x.offs h' hlen.1) ?_
  generalize x.offs.all fit = b4
  cases b4
  · simp only [siI_q, sqI_some, mOk_none', implies_true, qI_nil, qI_cons, qI_guard, qgI_ft, thenQ_some, q_move, q_pick, goI_mk, slotAt_zero, slotAt_succ, pickV_true, pickV_false, eval_tmp, eval_const, put_some, enterF_succ, absV_bool, List.getElem?_cons_zero, List.getElem?_cons_succ, Bool.false_eq_true, Nat.reduceEqDiff, true_and, if_true, if_false]
    refine siI_cskip rfl rfl ?_
    simp only [siI_q, sqI_some, mOk_none', implies_true, qI_nil, qI_cons, qI_guard, qgI_ft, thenQ_some, q_move, q_pick, goI_mk, slotAt_zero, slotAt_succ, pickV_false, eval_tmp, eval_const, put_some, enterF_succ, absV_bool, List.getElem?_cons_zero, List.getElem?_cons_succ, Bool.false_eq_true, Nat.reduceEqDiff, true_and, if_true, if_false]
    refine siI_cskip rfl rfl ?_
    simp only [siI_done, siI_q, sqI_some, mOk_none', implies_true, qI_nil, qI_cons, qI_guard, qgI_ft, thenQ_some, q_assign, q_pick, wpA_ret, seqQ_normal, endI_mk, goI_out, goI_mk, slotAt_zero, slotAt_succ, pickV_false, eval_tmp, eval_const, put_some, enterF_succ, absV_bool, List.getElem?_cons_zero, List.getElem?_cons_succ, Bool.false_eq_true, Nat.reduceEqDiff, true_and, if_true, if_false, retA_ret, Tryd.results36, resultsA_1]
    exact hid_mk ⟨by simp, kP _⟩
  by_cases h5 : x.order.length ≤ 256
  rotate_left
  · have d5 : decide (((x.order.length : Nat) : Int) ≤ 256) = false := decide_eq_false (by omega)
    simp only [siI_q, sqI_some, mOk_none', implies_true, qI_nil, qI_cons, qI_guard, qgI_same, qgI_ft, thenQ_some, q_move, q_pick, q_load, q_binOp, q_fieldAddr, q_len, goI_mk, slotAt_zero, slotAt_succ, pickV_true, eval_tmp, eval_const, put_some, enterF_succ, aBin_leq, absV_int, absV_bool, aField_eq, fieldGo_ptr, aLoad_eq, loadGo_one, aPlace_ptr, dropC_cells, aLen_imm, List.getElem?_cons_zero, List.getElem?_cons_succ, Bool.false_eq_true, Nat.reduceEqDiff, Nat.reduceAdd, Nat.reduceLeDiff, Nat.zero_add, List.length_cons, List.length_nil, List.drop_zero, List.drop_succ_cons, true_and, if_true, if_false, ft_47_8, kt_39, lt_39, hp, d5]
    refine siI_cskip rfl rfl ?_
    simp only [siI_q, sqI_some, mOk_none', implies_true, qI_nil, qI_cons, qI_guard, qgI_ft, thenQ_some, q_move, q_pick, goI_mk, slotAt_zero, slotAt_succ, pickV_false, eval_tmp, eval_const, put_some, enterF_succ, absV_bool, List.getElem?_cons_zero, List.getElem?_cons_succ, Bool.false_eq_true, Nat.reduceEqDiff, true_and, if_true, if_false]
    refine siI_cskip rfl rfl ?_
    simp only [siI_done, siI_q, sqI_some, mOk_none', implies_true, qI_nil, qI_cons, qI_guard, qgI_ft, thenQ_some, q_assign, q_pick, wpA_ret, seqQ_normal, endI_mk, goI_out, goI_mk, slotAt_zero, slotAt_succ, pickV_false, eval_tmp, eval_const, put_some, enterF_succ, absV_bool, List.getElem?_cons_zero, List.getElem?_cons_succ, Bool.false_eq_true, Nat.reduceEqDiff, true_and, if_true, if_false, retA_ret, Tryd.results36, resultsA_1]
    exact hid_mk ⟨by simp [h5], kP _⟩
  have d5 : decide (((x.order.length : Nat) : Int) ≤ 256) = true := decide_eq_true (by omega)
  simp only [siI_q, sqI_some, mOk_none', implies_true, qI_nil, qI_cons, qI_guard, qgI_same, thenQ_some, q_move, q_pick, q_load, q_binOp, q_fieldAddr, q_len, goI_mk, slotAt_zero, slotAt_succ, pickV_true, eval_tmp, eval_const, put_some, enterF_succ, aBin_leq, absV_int, absV_bool, aField_eq, fieldGo_ptr, aLoad_eq, loadGo_one, aPlace_ptr, dropC_cells, aLen_imm, List.getElem?_cons_zero, List.getElem?_cons_succ, Bool.false_eq_true, Nat.reduceEqDiff, Nat.reduceAdd, Nat.reduceLeDiff, Nat.zero_add, List.length_cons, List.length_nil, List.drop_zero, List.drop_succ_cons, true_and, if_true, if_false, ft_47_8, kt_39, lt_39, hp, d5]
  refine siI_c rfl rfl rfl (fun h' _ => pNums x.order h' hlen.2) ?_
  generalize x.order.all fit = b6
  cases b6
  · simp only [siI_q, sqI_some, mOk_none', implies_true, qI_nil, qI_cons, qI_guard, qgI_ft, thenQ_some, q_move, q_pick, goI_mk, slotAt_zero, slotAt_succ, pickV_true, eval_tmp, eval_const, put_some, enterF_succ, absV_bool, List.getElem?_cons_zero, List.getElem?_cons_succ, Bool.false_eq_true, Nat.reduceEqDiff, true_and, if_true, if_false]
    refine siI_cskip rfl rfl ?_
    simp only [siI_done, siI_q, sqI_some, mOk_none', implies_true, qI_nil, qI_cons, qI_guard, qgI_ft, thenQ_some, q_assign, q_pick, wpA_ret, seqQ_normal, endI_mk, goI_out, goI_mk, slotAt_zero, slotAt_succ, pickV_false, eval_tmp, eval_const, put_some, enterF_succ, absV_bool, List.getElem?_cons_zero, List.getElem?_cons_succ, Bool.false_eq_true, Nat.reduceEqDiff, true_and, if_true, if_false, retA_ret, Tryd.results36, resultsA_1]
    exact hid_mk ⟨by simp, kP _⟩
  have hix : (if (0 : Int) ≤ x.kind ∧ x.kind < ((7 : Nat) : Int) ∧ (x.kind.toNat * 1) ≤ usesC.length then some (V.at (usesC.drop (x.kind.toNat * 1))) else none) = some (.at (.int .i64 (usesN.getD k 0) :: usesC.drop (k + 1))) := by
    rw [hk, if_pos ⟨by omega, by omega, by simp [usesC, usesN]; omega⟩]
    have : usesC.drop ((k : Int).toNat * 1) = .int .i64 (usesN.getD k 0) :: usesC.drop (k + 1) := by
      rw [Int.toNat_natCast, Nat.mul_one, List.drop_eq_getElem_cons (by simp [usesC, usesN]; omega)]
      simp [usesC, List.getD, List.getElem?_eq_getElem (show k < usesN.length by simp [usesN]; omega)]
    rw [this]
  simp only [siI_q, sqI_some, mOk_none', implies_true, qI_nil, qI_cons, qI_guard, qgI_same, thenQ_some, q_move, q_pick, q_load, goI_mk, slotAt_zero, slotAt_succ, pickV_true, eval_tmp, eval_const, put_some, enterF_succ, absV_bool, aLoad_eq, loadGo_row, aPlace_ptr, dropC_cells, List.getElem?_cons_zero, List.getElem?_cons_succ, Bool.false_eq_true, Nat.reduceEqDiff, Nat.reduceAdd, Nat.zero_add, Nat.zero_le, List.length_cons, List.length_nil, List.drop_zero, List.take_succ_cons, List.take_nil, true_and, if_true, if_false, Nat.le_refl, lt_47, hp]
  refine siI_c rfl rfl rfl (fun h' _ => pFields x h') ?_
  simp only [siI_done, siI_q, sqI_some, mOk_none', implies_true, qI_nil, qI_cons, qI_guard, qgI_same, thenQ_some, q_assign, q_pick, q_load, q_binOp, q_fieldAddr, q_indexAddr, wpA_ret, seqQ_normal, endI_mk, goI_out, goI_mk, slotAt_zero, slotAt_succ, pickV_true, eval_tmp, eval_const, put_some, enterF_succ, aBin_eql, aBin_andNot, absV_int, absV_bool, aField_eq, fieldGo_ptr, aLoad_eq, loadGo_one, aPlace_ptr, aPlace_at, dropC_cells, aIndexAddr_eq, ixGo_at, List.getElem?_cons_zero, List.getElem?_cons_succ, Bool.false_eq_true, Nat.reduceEqDiff, Nat.reduceAdd, Nat.add_zero, Nat.zero_add, Nat.zero_le, List.length_cons, List.length_nil, List.drop_zero, true_and, if_true, if_false, as_97, ft_47_0, lt_3, ss_97, hp, hgl, hix, uses_eq x hk hk1 hk6, retA_ret, Tryd.results36, resultsA_1]
  exact hid_mk ⟨by simp [h3, h5], kP _⟩
end Go.Proofs.YtcdpepdjeneelaaDoor.Pk
