/-
  What functions of the program do, told of abstract states. Conditions: as each theorem says.
-/
import Derived.Test.YtcdpepdjeneelaaDoorVtF
import Derived.Test.YtcdpepdjeneelaaDoorAbD
import Derived.Test.YtcdpepdjeneelaaDoorVtD
import Derived.Test.YtcdpepdjeneelaaDoorVsH
namespace Go.Proofs.YtcdpepdjeneelaaDoor.Pk
open Go Go.Proofs Go.Proofs.YtcdpepdjeneelaaDoor.Ab Go.Proofs.Vw
set_option linter.unusedVariables false
set_option linter.unusedSimpArgs false
theorem rTime (t : Int) (h : AHeap) : Pure Tryd.prog 56 [.int .i64 t] h (.bool (timeOk t)) := by
  refine SCalls.enterI (c := _) Tryd.func56 rfl (by kernel_rfl) (by simp) ?_
  by_cases h1 : 0 ≤ t
  · simp only [wpA_region, wpA_seq, wpA_ret, seqQ_normal, endI_mk, goI_out, goI_ops, opsA_nil, opsA_cons, opsA_guardS, gvI_same, slotAt_zero, slotAt_succ, stepA_move, stepA_assign, stepA_pick, stepA_binOp, thenV_some, pickV_true, eval_tmp, eval_const, put_some, enterF_zero, enterF_succ, aBin_leq, aBin_geq, absV_int, absV_bool, decide_true, Nat.reduceEqDiff, reduceCtorEq, if_true, if_false, h1, retA_ret, Tryd.results56, resultsA_1]
    exact hid_mk ⟨by simp [timeOk, h1], rfl⟩
  · simp only [wpA_region, wpA_seq, wpA_ret, seqQ_normal, endI_mk, goI_out, goI_ops, opsA_nil, opsA_cons, opsA_guardS, gvI_ft, slotAt_zero, slotAt_succ, stepA_move, stepA_assign, stepA_pick, stepA_binOp, thenV_some, pickV_false, eval_tmp, eval_const, put_some, enterF_zero, enterF_succ, aBin_geq, absV_int, absV_bool, decide_false, Nat.reduceEqDiff, reduceCtorEq, if_true, if_false, h1, retA_ret, Tryd.results56, resultsA_1]
    exact hid_mk ⟨by simp [timeOk, h1], rfl⟩
theorem rFits (n : Int) (h : AHeap) : Pure Tryd.prog 54 [.int .i64 n] h (.bool (fit n)) := by
  refine SCalls.enterI (c := _) Tryd.func54 rfl (by kernel_rfl) (by simp) ?_
  by_cases h1 : 0 ≤ n
  · simp only [wpA_region, wpA_seq, wpA_ret, seqQ_normal, endI_mk, goI_out, goI_ops, opsA_nil, opsA_cons, opsA_guardS, gvI_same, slotAt_zero, slotAt_succ, stepA_move, stepA_assign, stepA_pick, stepA_binOp, thenV_some, pickV_true, eval_tmp, eval_const, put_some, enterF_zero, enterF_succ, aBin_leq, aBin_geq, absV_int, absV_bool, decide_true, Nat.reduceEqDiff, reduceCtorEq, if_true, if_false, h1, retA_ret, Tryd.results54, resultsA_1]
    exact hid_mk ⟨by simp [fit, h1], rfl⟩
  · simp only [wpA_region, wpA_seq, wpA_ret, seqQ_normal, endI_mk, goI_out, goI_ops, opsA_nil, opsA_cons, opsA_guardS, gvI_ft, slotAt_zero, slotAt_succ, stepA_move, stepA_assign, stepA_pick, stepA_binOp, thenV_some, pickV_false, eval_tmp, eval_const, put_some, enterF_zero, enterF_succ, aBin_geq, absV_int, absV_bool, decide_false, Nat.reduceEqDiff, reduceCtorEq, if_true, if_false, h1, retA_ret, Tryd.results54, resultsA_1]
    exact hid_mk ⟨by simp [fit, h1], rfl⟩
set_option maxRecDepth 10000 in
theorem rAll (l : List Int) (h : AHeap) (hl : l.length ≤ 2 ^ 47) : Pure Tryd.prog 55 [.imm l.length (i64V l)] h (.bool (l.all fit)) := by
  refine SCalls.enterI (c := _) Tryd.func55 rfl (by kernel_rfl) (by simp) ?_
  simp only [wpA_region, wpA_seq, wpA_block, wpA_loop, seqQ_normal, goI_out, goI_ops, opsA_nil, opsA_cons, stepA_assign, eval_const, absV_int, absV_bool]
  refine SWp.loopG (α := Nat) (fun i f h' => h' = h ∧ f 0 = .imm l.length (i64V l) ∧ f 3 = .int .i64 (i : Nat) ∧ i ≤ l.length ∧ (l.take i).all fit = true) (fun i => l.length - i) 0
    ⟨rfl, rfl, rfl, Nat.zero_le _, rfl⟩ ?_
  rintro i f h' ⟨rfl, f0, f3, hi, ha⟩
  refine wpI_sound (by kernel_rfl) ?_
  by_cases hlast : i < l.length
  · have d1 : decide ((i : Int) < ((l.length : Nat) : Int)) = true := by simp; omega
    have hx := i64V_ix (l := l) hlast ss_39
    have hw := inc64 hlast (by omega)
    simp only [wpA_skip, wpA_region, wpA_seq, wpA_cond, wpA_block, condI_true, seqQ_normal, goI_out, goI_ops, opsA_nil, opsA_cons, stepA_move, stepA_load, stepA_binOp, stepA_indexAddr, stepA_len, stepA_call, thenV_some, eval_tmp, put_some, aBin_lss, aLoad_eq, loadGo_one, aPlace_at, aLen_imm, Nat.reduceEqDiff, reduceCtorEq, List.map_cons, List.map_nil, if_true, if_false, kt_39, lt_3, f0, f3, d1, hx]
    refine callI_pure cal54 (rFits l[i] _) ?_
    cases hf : fit l[i]
    · have hG : l.all fit = false := by
        cases hh : l.all fit with
        | false => rfl
        | true => have := List.all_eq_true.1 hh _ (List.getElem_mem hlast); rw [hf] at this; cases this
      simp only [wpA_region, wpA_seq, wpA_cond, wpA_ret, condI_true, seqQ_normal, seqQ_ret, blkQ_ret, endI_mk, goE, andThen_ret, goI_out, goI_ops, opsA_nil, opsA_cons, stepA_assign, stepA_unOp, thenV_some, eval_tmp, eval_const, put_some, aUn_not, absV_bool, Nat.reduceEqDiff, if_true, if_false, Bool.not_false, retA_ret, Tryd.results55, resultsA_1]
      exact hid_mk ⟨by rw [hG], rfl⟩
    · simp only [wpA_skip, wpA_region, wpA_cond, condI_false, seqQ_normal, blkQ_normal, endI_mk, andThen_normal, goI_out, goI_ops, opsA_nil, opsA_cons, stepA_move, stepA_assign, stepA_binOp, stepA_unOp, thenV_some, eval_tmp, eval_const, put_some, aBin_add, aUn_not, absV_int, Nat.reduceEqDiff, if_true, if_false, Bool.not_true, f3, hw]
      refine hid_mk ⟨i + 1, ⟨rfl, f0, rfl, hlast, ?_⟩, by omega⟩
      rw [List.take_succ_eq_append_getElem hlast, List.all_append, ha]
      simp [hf]
  · have d1 : decide ((i : Int) < ((l.length : Nat) : Int)) = false := by simp; omega
    have hG : l.all fit = true := by rw [show i = l.length by omega, List.take_length] at ha; exact ha
    simp only [wpA_region, wpA_seq, wpA_cond, wpA_exit, wpA_ret, condI_false, seqQ_normal, seqQ_exit, blkQ_exit, endI_mk, goE, andThen_exit, goI_out, goI_ops, opsA_nil, opsA_cons, stepA_move, stepA_assign, stepA_binOp, stepA_len, thenV_some, eval_tmp, eval_const, put_some, aBin_lss, absV_bool, aLen_imm, Nat.reduceEqDiff, reduceCtorEq, if_true, if_false, kt_39, f0, f3, d1, retA_ret, Tryd.results55, resultsA_1]
    exact hid_mk ⟨by rw [hG], rfl⟩
/-- What the kinds have no part in. -/
def usB (k : Nat) (bt be bx bl br bd bo bq : Bool) : Bool :=
  (decide (2 ≤ k ∧ k ≤ 5) || (!bt && !be)) && (decide (2 ≤ k ∧ k ≤ 4) || !bx) && (decide (k ≤ 2) || (!bl && !br)) && (decide (k = 2) || !bd) && (decide (k = 3) || (!bo && !bq))
theorem useB_us (x : Ent) {k : Nat} (hk : x.kind = (k : Int)) : useB x = usB k (x.task != 0) (x.epoch != 0) (x.txn != 0) (x.log != 0) (decide (x.r ≠ zR)) x.del (!(((x.offs.length : Nat) : Int) == 0)) (!(((x.order.length : Nat) : Int) == 0)) := by
  have e1 : ∀ n : Int, (n != 0) = !(n == 0) := fun _ => rfl
  have e2 : ∀ n : Nat, (((n : Nat) : Int) == 0) = (n == 0) := fun n => by rw [Bool.eq_iff_iff]; simp
  have e3 : decide (x.r ≠ zR) = !decide (x.r = zR) := by by_cases h : x.r = zR <;> simp [h]
  have e4 : decide (2 ≤ x.kind ∧ x.kind ≤ 5) = decide (2 ≤ k ∧ k ≤ 5) := by rw [decide_eq_decide]; omega
  have e5 : decide (2 ≤ x.kind ∧ x.kind ≤ 4) = decide (2 ≤ k ∧ k ≤ 4) := by rw [decide_eq_decide]; omega
  have e6 : decide (x.kind ≤ 2) = decide (k ≤ 2) := by rw [decide_eq_decide]; omega
  have e7 : decide (x.kind = 2) = decide (k = 2) := by rw [decide_eq_decide]; omega
  have e8 : decide (x.kind = 3) = decide (k = 3) := by rw [decide_eq_decide]; omega
  rw [useB, usB, e1, e1, e1, e1, e2, e2, e3, e4, e5, e6, e7, e8]
  simp only [Bool.not_not]
set_option maxHeartbeats 4000000 in
set_option maxRecDepth 10000 in
theorem rMay (x : Ent) (h : AHeap) (hlen : eLen x) : Pure Tryd.prog 46 [.agg (entE x)] h (.bool (mayB x)) := by
  refine Pure.val (Clo.bool _) ?_
  refine SCalls.enterI (c := _) Tryd.func46 rfl (by kernel_rfl) (by simp) ?_
  have hc : (V.agg (entE x)).cells = some [.int .i64 x.kind, .int .i64 x.task, .int .i64 x.epoch, .int .i64 x.txn, .int .i64 x.log, .int .i64 x.r.k, .int .i64 x.r.v, .int .i64 x.r.t, .bool x.del, .imm x.offs.length (i64V x.offs), .imm x.order.length (i64V x.order)] := rfl
  have hno : ∀ q : Bool, (mayB x = true → q = true) → q = false → mayB x = false := fun q h1 h2 => by
    cases hh : mayB x with
    | false => rfl
    | true => rw [h1 hh] at h2; cases h2
  have hi := fun hh : mayB x = true => (may_iff x).1 hh
  by_cases c1 : x.kind < 1
  · have hG : mayB x = false := by cases hh : mayB x with | false => rfl | true => have := (hi hh).1; omega
    simp only [wpA_region, wpA_seq, wpA_cond, wpA_ret, condI_true, seqQ_normal, seqQ_ret, endI_mk, goI_out, goI_ops, opsA_nil, opsA_cons, opsA_guardS, gvI_tf, slotAt_zero, slotAt_succ, stepA_move, stepA_assign, stepA_pick, stepA_box, stepA_load, stepA_binOp, stepA_fieldAddr, thenV_some, thenH_some, pickV_true, eval_tmp, eval_const, put_some, enterF_zero, enterF_succ, aBin_lss, absV_int, absV_bool, aField_eq, fieldGo_ptr, aLoad_eq, loadGo_one, aPlace_ptr, dropC_cells, aBox_eq, get_push_new, decide_true, Nat.reduceEqDiff, Nat.reduceAdd, Option.map_some, Nat.add_zero, Nat.zero_add, Nat.zero_le, List.length_cons, List.length_nil, List.drop_zero, if_true, if_false, ft_47_0, lt_3, hc, c1, retA_ret, Tryd.results46, resultsA_1]
    exact hid_mk ⟨by rw [hG], Keep.push _ _ _⟩
  by_cases c2 : 6 < x.kind
  · have hG : mayB x = false := by cases hh : mayB x with | false => rfl | true => have := (hi hh).1; omega
    simp only [wpA_region, wpA_seq, wpA_cond, wpA_ret, condI_true, seqQ_normal, seqQ_ret, endI_mk, goI_out, goI_ops, opsA_nil, opsA_cons, opsA_guardS, gvI_same, gvI_tf, slotAt_zero, slotAt_succ, stepA_move, stepA_assign, stepA_pick, stepA_box, stepA_load, stepA_binOp, stepA_fieldAddr, thenV_some, thenH_some, pickV_true, pickV_false, eval_tmp, eval_const, put_some, enterF_zero, enterF_succ, aBin_lss, aBin_gtr, absV_int, absV_bool, aField_eq, fieldGo_ptr, aLoad_eq, loadGo_one, aPlace_ptr, dropC_cells, aBox_eq, get_push_new, decide_true, decide_false, Nat.reduceEqDiff, Nat.reduceAdd, Option.map_some, Nat.add_zero, Nat.zero_add, Nat.zero_le, List.length_cons, List.length_nil, List.drop_zero, if_true, if_false, ft_47_0, lt_3, hc, c1, c2, retA_ret, Tryd.results46, resultsA_1]
    exact hid_mk ⟨by rw [hG], Keep.push _ _ _⟩
  simp only [wpA_region, wpA_seq, seqQ_normal, goI_out, goI_ops, opsA_nil, opsA_cons, opsA_guardS, gvI_same, slotAt_zero, slotAt_succ, stepA_move, stepA_assign, stepA_pick, stepA_box, stepA_load, stepA_binOp, stepA_fieldAddr, stepA_call, thenV_some, thenH_some, pickV_false, eval_tmp, eval_const, put_some, enterF_zero, enterF_succ, aBin_lss, aBin_gtr, absV_int, absV_bool, aField_eq, fieldGo_ptr, aLoad_eq, loadGo_one, aPlace_ptr, dropC_cells, aBox_eq, get_push_new, decide_false, Nat.reduceEqDiff, Nat.reduceAdd, Nat.reduceLeDiff, List.map_cons, List.map_nil, Option.map_some, Nat.add_zero, Nat.zero_add, Nat.zero_le, List.length_cons, List.length_nil, List.drop_zero, List.drop_succ_cons, if_true, if_false, ft_47_0, ft_47_1, lt_3, hc, c1, c2]
  obtain ⟨H, hH⟩ : ∃ y, y = h.push (.cells (entE x) 47 none) := ⟨_, rfl⟩
  have hg : H.get h.n = .cells [.int .i64 x.kind, .int .i64 x.task, .int .i64 x.epoch, .int .i64 x.txn, .int .i64 x.log, .int .i64 x.r.k, .int .i64 x.r.v, .int .i64 x.r.t, .bool x.del, .imm x.offs.length (i64V x.offs), .imm x.order.length (i64V x.order)] 47 none := by rw [hH]; exact get_push_new
  have kH : Keep h H none_ := by rw [hH]; exact Keep.push _ _ _
  unfold entE at hH
  rw [← hH]
  clear hH
  refine callI_pureG (fun f => f 1 = .ptr h.n 0 ∧ f 17 = .bool false ∧ f 20 = .bool (fit x.task)) cal54 (rFits x.task H) ⟨rfl, rfl, rfl⟩ ?_
  skip
  rintro f ⟨u1, u2, u3⟩
  have i0 := hno (fit x.task) (fun hh => (hi hh).2.1)
  cases g0 : fit x.task <;> rw [g0] at u3
  · simp only [wpA_region, wpA_seq, wpA_cond, wpA_ret, condI_true, seqQ_normal, seqQ_ret, endI_mk, goI_out, goI_ops, opsA_nil, opsA_cons, opsA_guardS, gvI_same, gvI_tf, slotAt_zero, slotAt_succ, stepA_move, stepA_assign, stepA_pick, stepA_unOp, thenV_some, pickV_true, pickV_false, eval_tmp, eval_const, put_some, aUn_not, absV_bool, Nat.reduceEqDiff, if_true, if_false, Bool.not_false, u2, u3, retA_ret, Tryd.results46, resultsA_1]
    exact hid_mk ⟨by rw [i0 g0], kH⟩
  simp only [goI_ops, opsA_cons, opsA_guardS, gvI_same, slotAt_zero, slotAt_succ, stepA_move, stepA_pick, stepA_load, stepA_unOp, stepA_fieldAddr, stepA_call, thenV_some, pickV_false, eval_tmp, eval_const, put_some, aUn_not, absV_bool, aField_eq, fieldGo_ptr, aLoad_eq, loadGo_one, aPlace_ptr, dropC_cells, Nat.reduceEqDiff, Nat.reduceAdd, Nat.reduceLeDiff, List.map_cons, List.map_nil, Nat.zero_add, List.length_cons, List.length_nil, List.drop_zero, List.drop_succ_cons, if_true, if_false, Bool.not_true, ft_47_2, lt_3, hg, u1, u2, u3]
  refine callI_pureG (fun f => f 1 = .ptr h.n 0 ∧ f 23 = .bool false ∧ f 26 = .bool (fit x.epoch)) cal54 (rFits x.epoch H) ⟨u1, rfl, rfl⟩ ?_
  clear u1 u2 u3
  rintro f ⟨u1, u2, u3⟩
  have i1 := hno (fit x.epoch) (fun hh => (hi hh).2.2.1)
  cases g1 : fit x.epoch <;> rw [g1] at u3
  · simp only [wpA_region, wpA_seq, wpA_cond, wpA_ret, condI_true, seqQ_normal, seqQ_ret, endI_mk, goI_out, goI_ops, opsA_nil, opsA_cons, opsA_guardS, gvI_same, gvI_tf, slotAt_zero, slotAt_succ, stepA_move, stepA_assign, stepA_pick, stepA_unOp, thenV_some, pickV_true, pickV_false, eval_tmp, eval_const, put_some, aUn_not, absV_bool, Nat.reduceEqDiff, if_true, if_false, Bool.not_false, u2, u3, retA_ret, Tryd.results46, resultsA_1]
    exact hid_mk ⟨by rw [i1 g1], kH⟩
  simp only [goI_ops, opsA_cons, opsA_guardS, gvI_same, slotAt_zero, slotAt_succ, stepA_move, stepA_pick, stepA_load, stepA_unOp, stepA_fieldAddr, stepA_call, thenV_some, pickV_false, eval_tmp, eval_const, put_some, aUn_not, absV_bool, aField_eq, fieldGo_ptr, aLoad_eq, loadGo_one, aPlace_ptr, dropC_cells, Nat.reduceEqDiff, Nat.reduceAdd, Nat.reduceLeDiff, List.map_cons, List.map_nil, Nat.zero_add, List.length_cons, List.length_nil, List.drop_zero, List.drop_succ_cons, if_true, if_false, Bool.not_true, ft_47_3, lt_3, hg, u1, u2, u3]
  refine callI_pureG (fun f => f 1 = .ptr h.n 0 ∧ f 29 = .bool false ∧ f 32 = .bool (fit x.txn)) cal54 (rFits x.txn H) ⟨u1, rfl, rfl⟩ ?_
  clear u1 u2 u3
  rintro f ⟨u1, u2, u3⟩
  have i2 := hno (fit x.txn) (fun hh => (hi hh).2.2.2.1)
  cases g2 : fit x.txn <;> rw [g2] at u3
  · simp only [wpA_region, wpA_seq, wpA_cond, wpA_ret, condI_true, seqQ_normal, seqQ_ret, endI_mk, goI_out, goI_ops, opsA_nil, opsA_cons, opsA_guardS, gvI_same, gvI_tf, slotAt_zero, slotAt_succ, stepA_move, stepA_assign, stepA_pick, stepA_unOp, thenV_some, pickV_true, pickV_false, eval_tmp, eval_const, put_some, aUn_not, absV_bool, Nat.reduceEqDiff, if_true, if_false, Bool.not_false, u2, u3, retA_ret, Tryd.results46, resultsA_1]
    exact hid_mk ⟨by rw [i2 g2], kH⟩
  simp only [goI_ops, opsA_cons, opsA_guardS, gvI_same, slotAt_zero, slotAt_succ, stepA_move, stepA_pick, stepA_load, stepA_unOp, stepA_fieldAddr, stepA_call, thenV_some, pickV_false, eval_tmp, eval_const, put_some, aUn_not, absV_bool, aField_eq, fieldGo_ptr, aLoad_eq, loadGo_one, aPlace_ptr, dropC_cells, Nat.reduceEqDiff, Nat.reduceAdd, Nat.reduceLeDiff, List.map_cons, List.map_nil, Nat.zero_add, List.length_cons, List.length_nil, List.drop_zero, List.drop_succ_cons, if_true, if_false, Bool.not_true, ft_47_4, lt_3, hg, u1, u2, u3]
  refine callI_pureG (fun f => f 1 = .ptr h.n 0 ∧ f 35 = .bool false ∧ f 38 = .bool (fit x.log)) cal54 (rFits x.log H) ⟨u1, rfl, rfl⟩ ?_
  clear u1 u2 u3
  rintro f ⟨u1, u2, u3⟩
  have i3 := hno (fit x.log) (fun hh => (hi hh).2.2.2.2.1)
  cases g3 : fit x.log <;> rw [g3] at u3
  · simp only [wpA_region, wpA_seq, wpA_cond, wpA_ret, condI_true, seqQ_normal, seqQ_ret, endI_mk, goI_out, goI_ops, opsA_nil, opsA_cons, opsA_guardS, gvI_same, gvI_tf, slotAt_zero, slotAt_succ, stepA_move, stepA_assign, stepA_pick, stepA_unOp, thenV_some, pickV_true, pickV_false, eval_tmp, eval_const, put_some, aUn_not, absV_bool, Nat.reduceEqDiff, if_true, if_false, Bool.not_false, u2, u3, retA_ret, Tryd.results46, resultsA_1]
    exact hid_mk ⟨by rw [i3 g3], kH⟩
  simp only [goI_ops, opsA_cons, opsA_guardS, gvI_same, slotAt_zero, slotAt_succ, stepA_move, stepA_pick, stepA_load, stepA_unOp, stepA_fieldAddr, stepA_call, thenV_some, pickV_false, eval_tmp, eval_const, put_some, aUn_not, absV_bool, aField_eq, fieldGo_ptr, aLoad_eq, loadGo_one, aPlace_ptr, dropC_cells, Nat.reduceEqDiff, Nat.reduceAdd, Nat.reduceLeDiff, List.map_cons, List.map_nil, Nat.zero_add, List.length_cons, List.length_nil, List.drop_zero, List.drop_succ_cons, if_true, if_false, Bool.not_true, ft_47_7, lt_39, hg, u1, u2, u3]
  refine callI_pureG (fun f => f 1 = .ptr h.n 0 ∧ f 41 = .bool false ∧ f 44 = .bool (x.offs.all fit)) cal55 (rAll x.offs H hlen.1) ⟨u1, rfl, rfl⟩ ?_
  clear u1 u2 u3
  rintro f ⟨u1, u2, u3⟩
  have i4 := hno (x.offs.all fit) (fun hh => List.all_eq_true.2 (hi hh).2.2.2.2.2.2.2.1)
  cases g4 : x.offs.all fit <;> rw [g4] at u3
  · simp only [wpA_region, wpA_seq, wpA_cond, wpA_ret, condI_true, seqQ_normal, seqQ_ret, endI_mk, goI_out, goI_ops, opsA_nil, opsA_cons, opsA_guardS, gvI_same, gvI_tf, slotAt_zero, slotAt_succ, stepA_move, stepA_assign, stepA_pick, stepA_unOp, thenV_some, pickV_true, pickV_false, eval_tmp, eval_const, put_some, aUn_not, absV_bool, Nat.reduceEqDiff, if_true, if_false, Bool.not_false, u2, u3, retA_ret, Tryd.results46, resultsA_1]
    exact hid_mk ⟨by rw [i4 g4], kH⟩
  simp only [goI_ops, opsA_cons, opsA_guardS, gvI_same, slotAt_zero, slotAt_succ, stepA_move, stepA_pick, stepA_load, stepA_unOp, stepA_fieldAddr, stepA_call, thenV_some, pickV_false, eval_tmp, eval_const, put_some, aUn_not, absV_bool, aField_eq, fieldGo_ptr, aLoad_eq, loadGo_one, aPlace_ptr, dropC_cells, Nat.reduceEqDiff, Nat.reduceAdd, Nat.reduceLeDiff, List.map_cons, List.map_nil, Nat.zero_add, List.length_cons, List.length_nil, List.drop_zero, List.drop_succ_cons, if_true, if_false, Bool.not_true, ft_47_8, lt_39, hg, u1, u2, u3]
  refine callI_pureG (fun f => f 1 = .ptr h.n 0 ∧ f 47 = .bool false ∧ f 50 = .bool (x.order.all fit)) cal55 (rAll x.order H hlen.2) ⟨u1, rfl, rfl⟩ ?_
  clear u1 u2 u3
  rintro f ⟨u1, u2, u3⟩
  have i5 := hno (x.order.all fit) (fun hh => List.all_eq_true.2 (hi hh).2.2.2.2.2.2.2.2.2.1)
  cases g5 : x.order.all fit <;> rw [g5] at u3
  · simp only [wpA_region, wpA_seq, wpA_cond, wpA_ret, condI_true, seqQ_normal, seqQ_ret, endI_mk, goI_out, goI_ops, opsA_nil, opsA_cons, opsA_guardS, gvI_same, gvI_tf, slotAt_zero, slotAt_succ, stepA_move, stepA_assign, stepA_pick, stepA_unOp, thenV_some, pickV_true, pickV_false, eval_tmp, eval_const, put_some, aUn_not, absV_bool, Nat.reduceEqDiff, if_true, if_false, Bool.not_false, u2, u3, retA_ret, Tryd.results46, resultsA_1]
    exact hid_mk ⟨by rw [i5 g5], kH⟩
  simp only [goI_ops, opsA_cons, opsA_guardS, gvI_same, slotAt_zero, slotAt_succ, stepA_move, stepA_pick, stepA_load, stepA_unOp, stepA_fieldAddr, stepA_call, thenV_some, pickV_false, eval_tmp, eval_const, put_some, aUn_not, absV_bool, aField_eq, fieldGo_ptr, aLoad_eq, loadGo_one, aPlace_ptr, dropC_cells, Nat.reduceEqDiff, Nat.reduceAdd, Nat.reduceLeDiff, List.map_cons, List.map_nil, Nat.zero_add, List.length_cons, List.length_nil, List.drop_zero, List.drop_succ_cons, if_true, if_false, Bool.not_true, ft_45_2, ft_47_5, lt_2, hg, u1, u2, u3]
  refine callI_pureG (fun f => f 1 = .ptr h.n 0 ∧ f 53 = .bool false ∧ f 57 = .bool (timeOk x.r.t)) cal56 (rTime x.r.t H) ⟨u1, rfl, rfl⟩ ?_
  clear u1 u2 u3
  rintro f ⟨u1, u2, u3⟩
  have i6 := hno (timeOk x.r.t) (fun hh => (hi hh).2.2.2.2.2.1)
  cases g6 : timeOk x.r.t <;> rw [g6] at u3
  · simp only [wpA_region, wpA_seq, wpA_cond, wpA_ret, condI_true, seqQ_normal, seqQ_ret, endI_mk, goI_out, goI_ops, opsA_nil, opsA_cons, opsA_guardS, gvI_same, gvI_tf, slotAt_zero, slotAt_succ, stepA_move, stepA_assign, stepA_pick, stepA_unOp, thenV_some, pickV_true, pickV_false, eval_tmp, eval_const, put_some, aUn_not, absV_bool, Nat.reduceEqDiff, if_true, if_false, Bool.not_false, u2, u3, retA_ret, Tryd.results46, resultsA_1]
    exact hid_mk ⟨by rw [i6 g6], kH⟩
  by_cases c3 : 8 < x.offs.length
  · have c3' : decide ((8 : Int) < ((x.offs.length : Nat) : Int)) = true := decide_eq_true (by omega)
    have hG : mayB x = false := by cases hh : mayB x with | false => rfl | true => have := (hi hh).2.2.2.2.2.2.1; omega
    simp only [wpA_region, wpA_seq, wpA_cond, wpA_ret, condI_true, seqQ_normal, seqQ_ret, endI_mk, goI_out, goI_ops, opsA_nil, opsA_cons, opsA_guardS, gvI_same, gvI_tf, slotAt_zero, slotAt_succ, stepA_move, stepA_assign, stepA_pick, stepA_load, stepA_binOp, stepA_unOp, stepA_fieldAddr, stepA_len, thenV_some, pickV_true, pickV_false, eval_tmp, eval_const, put_some, aBin_gtr, aUn_not, absV_int, absV_bool, aField_eq, fieldGo_ptr, aLoad_eq, loadGo_one, aPlace_ptr, dropC_cells, aLen_imm, Nat.reduceEqDiff, Nat.reduceAdd, Nat.reduceLeDiff, Nat.zero_add, List.length_cons, List.length_nil, List.drop_zero, List.drop_succ_cons, if_true, if_false, Bool.not_true, ft_47_7, kt_39, lt_39, hg, u1, u2, u3, c3', retA_ret, Tryd.results46, resultsA_1]
    exact hid_mk ⟨by rw [hG], kH⟩
  have c3' : decide ((8 : Int) < ((x.offs.length : Nat) : Int)) = false := decide_eq_false (by omega)
  by_cases c4 : 256 < x.order.length
  · have c4' : decide ((256 : Int) < ((x.order.length : Nat) : Int)) = true := decide_eq_true (by omega)
    have hG : mayB x = false := by cases hh : mayB x with | false => rfl | true => have := (hi hh).2.2.2.2.2.2.2.2.1; omega
    simp only [wpA_region, wpA_seq, wpA_cond, wpA_ret, condI_true, seqQ_normal, seqQ_ret, endI_mk, goI_out, goI_ops, opsA_nil, opsA_cons, opsA_guardS, gvI_same, slotAt_zero, slotAt_succ, stepA_move, stepA_assign, stepA_pick, stepA_load, stepA_binOp, stepA_unOp, stepA_fieldAddr, stepA_len, thenV_some, pickV_false, eval_tmp, eval_const, put_some, aBin_gtr, aUn_not, absV_int, absV_bool, aField_eq, fieldGo_ptr, aLoad_eq, loadGo_one, aPlace_ptr, dropC_cells, aLen_imm, Nat.reduceEqDiff, Nat.reduceAdd, Nat.reduceLeDiff, Nat.zero_add, List.length_cons, List.length_nil, List.drop_zero, List.drop_succ_cons, if_true, if_false, Bool.not_true, ft_47_7, ft_47_8, kt_39, lt_39, hg, u1, u2, u3, c3', c4', retA_ret, Tryd.results46, resultsA_1]
    exact hid_mk ⟨by rw [hG], kH⟩
  have c4' : decide ((256 : Int) < ((x.order.length : Nat) : Int)) = false := decide_eq_false (by omega)
  have hU : mayB x = useB x := by
    rw [Bool.eq_iff_iff, may_iff]
    exact ⟨fun hh => hh.2.2.2.2.2.2.2.2.2.2, fun hh => ⟨by omega, g0, g1, g2, g3, g6, by omega, List.all_eq_true.1 g4, by omega, List.all_eq_true.1 g5, hh⟩⟩
  obtain ⟨k, hk, hk1, hk6⟩ : ∃ k : Nat, x.kind = (k : Int) ∧ 1 ≤ k ∧ k ≤ 6 := ⟨x.kind.toNat, by omega, by omega, by omega⟩
  have rz := rcd_neq x.r.k x.r.v x.r.t (xo := .tmp 127) (yo := .tmp 128)
  rw [hU, useB_us x hk]
  rw [show (⟨x.r.k, x.r.v, x.r.t⟩ : Rcd) = x.r from rfl] at rz
  generalize hbt : (x.task != 0) = bt
  generalize hbe : (x.epoch != 0) = be
  generalize hbx : (x.txn != 0) = bx
  generalize hbl : (x.log != 0) = bl
  generalize decide (x.r ≠ zR) = br at rz
  generalize hbo : (((x.offs.length : Nat) : Int) == 0) = bo
  generalize hbq : (((x.order.length : Nat) : Int) == 0) = bq
  generalize x.del = bd at hg
  rw [hk] at hg
  clear hno hi i0 i1 i2 i3 i4 i5 i6 hU hc
  have hk : k = 1 ∨ k = 2 ∨ k = 3 ∨ k = 4 ∨ k = 5 ∨ k = 6 := by omega
  rcases hk with rfl | rfl | rfl | rfl | rfl | rfl
  · simp only [wpA_skip, wpA_region, wpA_seq, wpA_cond, condI_false, seqQ_normal, goI_out, goI_ops, opsA_nil, opsA_cons, opsA_guardS, gvI_same, slotAt_zero, slotAt_succ, stepA_move, stepA_assign, stepA_pick, stepA_load, stepA_binOp, stepA_unOp, stepA_fieldAddr, stepA_len, thenV_some, pickV_false, eval_tmp, eval_const, put_some, aBin_eql, aBin_neq, aBin_gtr, aUn_not, absV_int, absV_bool, aField_eq, fieldGo_ptr, aLoad_eq, loadGo_one, aPlace_ptr, dropC_cells, aLen_imm, Int.reduceBEq, beq_self_eq_true, Nat.reduceEqDiff, Nat.reduceAdd, Nat.reduceLeDiff, Nat.add_zero, Nat.zero_add, Nat.zero_le, List.length_cons, List.length_nil, List.drop_zero, List.drop_succ_cons, if_true, if_false, Bool.not_true, Bool.not_false, ft_47_0, ft_47_1, ft_47_7, ft_47_8, kt_39, lt_3, lt_39, c3', c4', hg, u1, u2, u3, show (((1 : Nat)) : Int) = 1 from rfl, hbt]
    cases bt
    rotate_left
    · simp only [wpA_region, wpA_seq, wpA_cond, wpA_ret, condI_true, seqQ_normal, seqQ_ret, endI_mk, goI_out, goI_ops, opsA_nil, opsA_cons, opsA_guardS, gvI_same, gvI_tf, gvI_u, slotAt_zero, slotAt_succ, stepA_move, stepA_assign, stepA_pick, thenV_some, pickV_true, eval_tmp, eval_const, put_some, absV_bool, Nat.reduceEqDiff, if_true, if_false, retA_ret, Tryd.results46, resultsA_1]
      exact hid_mk ⟨by simp [usB], kH⟩
    simp only [goI_ops, opsA_cons, opsA_guardS, gvI_same, slotAt_zero, slotAt_succ, stepA_move, stepA_pick, stepA_load, stepA_binOp, stepA_fieldAddr, thenV_some, pickV_true, pickV_false, eval_tmp, eval_const, put_some, aBin_neq, absV_int, absV_bool, aField_eq, fieldGo_ptr, aLoad_eq, loadGo_one, aPlace_ptr, dropC_cells, Nat.reduceEqDiff, Nat.reduceAdd, Nat.reduceLeDiff, Nat.zero_add, List.length_cons, List.length_nil, List.drop_zero, List.drop_succ_cons, if_true, if_false, ft_47_2, lt_3, hg, u1, show (((1 : Nat)) : Int) = 1 from rfl, hbe]
    cases be
    rotate_left
    · simp only [wpA_region, wpA_seq, wpA_cond, wpA_ret, condI_true, seqQ_normal, seqQ_ret, endI_mk, goI_out, goI_ops, opsA_nil, opsA_cons, opsA_guardS, gvI_tf, gvI_u, slotAt_zero, slotAt_succ, stepA_move, stepA_assign, stepA_pick, thenV_some, pickV_true, eval_tmp, eval_const, put_some, absV_bool, Nat.reduceEqDiff, if_true, if_false, retA_ret, Tryd.results46, resultsA_1]
      exact hid_mk ⟨by simp [usB], kH⟩
    simp only [goI_ops, opsA_cons, opsA_guardS, gvI_same, slotAt_zero, slotAt_succ, stepA_move, stepA_pick, stepA_load, stepA_binOp, stepA_unOp, stepA_fieldAddr, thenV_some, pickV_true, pickV_false, eval_tmp, eval_const, put_some, aBin_neq, aUn_not, absV_int, absV_bool, aField_eq, fieldGo_ptr, aLoad_eq, loadGo_one, aPlace_ptr, dropC_cells, Nat.reduceEqDiff, Nat.reduceAdd, Nat.reduceLeDiff, Nat.zero_add, List.length_cons, List.length_nil, List.drop_zero, List.drop_succ_cons, if_true, if_false, Bool.not_false, ft_47_3, lt_3, hg, u1, show (((1 : Nat)) : Int) = 1 from rfl, hbx]
    cases bx
    rotate_left
    · simp only [wpA_region, wpA_seq, wpA_cond, wpA_ret, condI_true, seqQ_normal, seqQ_ret, endI_mk, goI_out, goI_ops, opsA_nil, opsA_cons, opsA_guardS, gvI_tf, gvI_u, slotAt_zero, slotAt_succ, stepA_assign, stepA_pick, thenV_some, pickV_true, eval_tmp, eval_const, put_some, absV_bool, Nat.reduceEqDiff, if_true, if_false, retA_ret, Tryd.results46, resultsA_1]
      exact hid_mk ⟨by simp [usB], kH⟩
    simp only [wpA_skip, wpA_region, wpA_seq, wpA_cond, condI_false, seqQ_normal, goI_out, goI_ops, opsA_nil, opsA_cons, opsA_guardS, gvI_same, gvI_ft, gvI_u, slotAt_zero, slotAt_succ, stepA_move, stepA_pick, stepA_load, stepA_unOp, stepA_fieldAddr, thenV_some, pickV_true, pickV_false, eval_tmp, eval_const, put_some, aUn_not, absV_bool, aField_eq, fieldGo_ptr, aLoad_eq, loadGo_one, aPlace_ptr, dropC_cells, Nat.reduceEqDiff, Nat.reduceAdd, Nat.reduceLeDiff, Nat.zero_add, List.length_cons, List.length_nil, List.drop_zero, List.drop_succ_cons, if_true, if_false, Bool.not_true, Bool.not_false, ft_47_6, lt_4, hg, u1, show (((1 : Nat)) : Int) = 1 from rfl]
    cases bd
    rotate_left
    · simp only [wpA_ret, seqQ_normal, endI_mk, goI_out, goI_ops, opsA_nil, opsA_cons, opsA_guardS, gvI_ft, gvI_u, slotAt_zero, slotAt_succ, stepA_assign, stepA_pick, thenV_some, pickV_false, eval_tmp, eval_const, put_some, absV_bool, Nat.reduceEqDiff, if_true, if_false, Bool.not_true, retA_ret, Tryd.results46, resultsA_1]
      exact hid_mk ⟨by simp [usB], kH⟩
    simp only [goI_ops, opsA_guardS, gvI_same, slotAt_zero, slotAt_succ, stepA_move, stepA_load, stepA_binOp, stepA_fieldAddr, stepA_len, thenV_some, eval_tmp, eval_const, put_some, aBin_eql, absV_int, aField_eq, fieldGo_ptr, aLoad_eq, loadGo_one, aPlace_ptr, dropC_cells, aLen_imm, Nat.reduceEqDiff, Nat.reduceAdd, Nat.reduceLeDiff, Nat.zero_add, List.length_cons, List.length_nil, List.drop_zero, List.drop_succ_cons, if_true, if_false, Bool.not_false, ft_47_7, kt_39, lt_39, hg, u1, show (((1 : Nat)) : Int) = 1 from rfl, hbo]
    cases bo
    skip
    · simp only [wpA_ret, seqQ_normal, endI_mk, goI_out, goI_ops, opsA_nil, opsA_cons, opsA_guardS, gvI_same, gvI_ft, slotAt_zero, slotAt_succ, stepA_assign, stepA_pick, thenV_some, pickV_true, pickV_false, eval_tmp, eval_const, put_some, absV_bool, Nat.reduceEqDiff, if_true, if_false, retA_ret, Tryd.results46, resultsA_1]
      exact hid_mk ⟨by simp [usB], kH⟩
    simp only [wpA_ret, seqQ_normal, endI_mk, goI_out, goI_ops, opsA_nil, opsA_cons, opsA_guardS, gvI_same, slotAt_zero, slotAt_succ, stepA_assign, stepA_pick, stepA_load, stepA_binOp, stepA_fieldAddr, stepA_len, thenV_some, pickV_true, pickV_false, eval_tmp, eval_const, put_some, aBin_eql, absV_int, absV_bool, aField_eq, fieldGo_ptr, aLoad_eq, loadGo_one, aPlace_ptr, dropC_cells, aLen_imm, Nat.reduceEqDiff, Nat.reduceAdd, Nat.reduceLeDiff, Nat.zero_add, List.length_cons, List.length_nil, List.drop_zero, List.drop_succ_cons, if_true, if_false, ft_47_8, kt_39, lt_39, hg, u1, show (((1 : Nat)) : Int) = 1 from rfl, hbq]
    cases bq
    skip
    · simp only [put_some, Nat.reduceEqDiff, if_true, if_false, retA_ret, Tryd.results46, resultsA_1]
      exact hid_mk ⟨by simp [usB], kH⟩
    simp only [put_some, Nat.reduceEqDiff, if_true, if_false, retA_ret, Tryd.results46, resultsA_1]
    exact hid_mk ⟨by simp [usB], kH⟩
  · simp only [wpA_skip, wpA_region, wpA_seq, wpA_cond, condI_false, seqQ_normal, goI_out, goI_ops, opsA_nil, opsA_cons, opsA_guardS, gvI_same, gvI_tf, gvI_ft, gvI_u, slotAt_zero, slotAt_succ, stepA_move, stepA_assign, stepA_pick, stepA_load, stepA_binOp, stepA_unOp, stepA_fieldAddr, stepA_len, thenV_some, pickV_true, pickV_false, eval_tmp, eval_const, put_some, aBin_eql, aBin_gtr, aUn_not, absV_int, absV_bool, aField_eq, fieldGo_ptr, aLoad_eq, loadGo_one, aPlace_ptr, dropC_cells, aLen_imm, Int.reduceBEq, beq_self_eq_true, Nat.reduceEqDiff, Nat.reduceAdd, Nat.reduceLeDiff, Nat.add_zero, Nat.zero_add, Nat.zero_le, List.length_cons, List.length_nil, List.drop_zero, List.drop_succ_cons, if_true, if_false, Bool.not_true, ft_47_0, ft_47_7, ft_47_8, kt_39, lt_3, lt_39, c3', c4', hg, u1, u2, u3, show (((2 : Nat)) : Int) = 2 from rfl, hbo]
    cases bo
    skip
    · simp only [wpA_ret, seqQ_normal, endI_mk, goI_out, goI_ops, opsA_nil, opsA_cons, opsA_guardS, gvI_same, gvI_ft, slotAt_zero, slotAt_succ, stepA_assign, stepA_pick, thenV_some, pickV_true, pickV_false, eval_tmp, eval_const, put_some, absV_bool, Nat.reduceEqDiff, if_true, if_false, retA_ret, Tryd.results46, resultsA_1]
      exact hid_mk ⟨by simp [usB], kH⟩
    simp only [wpA_ret, seqQ_normal, endI_mk, goI_out, goI_ops, opsA_nil, opsA_cons, opsA_guardS, gvI_same, slotAt_zero, slotAt_succ, stepA_assign, stepA_pick, stepA_load, stepA_binOp, stepA_fieldAddr, stepA_len, thenV_some, pickV_true, pickV_false, eval_tmp, eval_const, put_some, aBin_eql, absV_int, absV_bool, aField_eq, fieldGo_ptr, aLoad_eq, loadGo_one, aPlace_ptr, dropC_cells, aLen_imm, Nat.reduceEqDiff, Nat.reduceAdd, Nat.reduceLeDiff, Nat.zero_add, List.length_cons, List.length_nil, List.drop_zero, List.drop_succ_cons, if_true, if_false, ft_47_8, kt_39, lt_39, hg, u1, show (((2 : Nat)) : Int) = 2 from rfl, hbq]
    cases bq
    skip
    · simp only [put_some, Nat.reduceEqDiff, if_true, if_false, retA_ret, Tryd.results46, resultsA_1]
      exact hid_mk ⟨by simp [usB], kH⟩
    simp only [put_some, Nat.reduceEqDiff, if_true, if_false, retA_ret, Tryd.results46, resultsA_1]
    exact hid_mk ⟨by simp [usB], kH⟩
  · simp only [wpA_skip, wpA_region, wpA_seq, wpA_cond, condI_false, seqQ_normal, goI_out, goI_ops, opsA_nil, opsA_cons, opsA_guardS, gvI_same, gvI_tf, gvI_ft, gvI_u, slotAt_zero, slotAt_succ, stepA_move, stepA_assign, stepA_pick, stepA_load, stepA_binOp, stepA_unOp, stepA_fieldAddr, stepA_len, thenV_some, pickV_true, pickV_false, eval_tmp, eval_const, put_some, aBin_eql, aBin_neq, aBin_gtr, aUn_not, absV_int, absV_bool, aField_eq, fieldGo_ptr, aLoad_eq, loadGo_one, aPlace_ptr, dropC_cells, aLen_imm, Int.reduceBEq, beq_self_eq_true, Nat.reduceEqDiff, Nat.reduceAdd, Nat.reduceLeDiff, Nat.add_zero, Nat.zero_add, Nat.zero_le, List.length_cons, List.length_nil, List.drop_zero, List.drop_succ_cons, if_true, if_false, Bool.not_true, Bool.not_false, ft_47_0, ft_47_4, ft_47_7, ft_47_8, kt_39, lt_3, lt_39, c3', c4', hg, u1, u2, u3, show (((3 : Nat)) : Int) = 3 from rfl, hbl]
    cases bl
    rotate_left
    · simp only [wpA_region, wpA_seq, wpA_cond, wpA_ret, condI_true, seqQ_normal, seqQ_ret, endI_mk, goI_out, goI_ops, opsA_nil, opsA_cons, opsA_guardS, gvI_same, gvI_tf, slotAt_zero, slotAt_succ, stepA_assign, stepA_pick, thenV_some, pickV_true, pickV_false, eval_tmp, eval_const, put_some, absV_bool, Nat.reduceEqDiff, if_true, if_false, retA_ret, Tryd.results46, resultsA_1]
      exact hid_mk ⟨by simp [usB], kH⟩
    simp only [wpA_cond, seqQ_normal, goI_out, goI_ops, opsA_nil, opsA_cons, opsA_guardS, gvI_same, slotAt_zero, slotAt_succ, stepA_pick, stepA_build, stepA_load, stepA_binOp, stepA_fieldAddr, thenV_some, pickV_true, pickV_false, eval_tmp, eval_const, put_some, absV_bool, aField_eq, fieldGo_ptr, aLoad_eq, loadGo_row, aPlace_ptr, dropC_cells, aBuild_go, aFill_nil, buildGo_struct, Nat.reduceEqDiff, Nat.reduceAdd, Nat.reduceLeDiff, List.map_nil, Option.map_some, Nat.zero_add, List.length_cons, List.length_nil, List.drop_zero, List.drop_succ_cons, List.take_succ_cons, List.take_zero, if_true, if_false, ft_47_5, lt_45, pl_45, zc_45, hg, u1, show (((3 : Nat)) : Int) = 3 from rfl, rz]
    cases br
    rotate_left
    · simp only [wpA_region, wpA_seq, wpA_ret, condI_true, seqQ_normal, seqQ_ret, endI_mk, goI_out, goI_ops, opsA_nil, opsA_cons, stepA_assign, eval_const, put_some, absV_bool, Nat.reduceEqDiff, if_true, if_false, retA_ret, Tryd.results46, resultsA_1]
      exact hid_mk ⟨by simp [usB], kH⟩
    simp only [wpA_skip, wpA_region, wpA_seq, condI_false, seqQ_normal, goI_ops, opsA_cons, opsA_guardS, gvI_same, slotAt_zero, slotAt_succ, stepA_move, stepA_pick, stepA_load, stepA_unOp, stepA_fieldAddr, thenV_some, pickV_false, eval_tmp, eval_const, put_some, aUn_not, absV_bool, aField_eq, fieldGo_ptr, aLoad_eq, loadGo_one, aPlace_ptr, dropC_cells, Nat.reduceEqDiff, Nat.reduceAdd, Nat.reduceLeDiff, Nat.zero_add, List.length_cons, List.length_nil, List.drop_zero, List.drop_succ_cons, if_true, if_false, ft_47_6, lt_4, hg, u1, show (((3 : Nat)) : Int) = 3 from rfl]
    cases bd
    rotate_left
    · simp only [wpA_ret, seqQ_normal, endI_mk, goI_out, goI_ops, opsA_nil, opsA_cons, opsA_guardS, gvI_ft, gvI_u, slotAt_zero, slotAt_succ, stepA_assign, stepA_pick, thenV_some, pickV_false, eval_tmp, eval_const, put_some, absV_bool, Nat.reduceEqDiff, if_true, if_false, Bool.not_true, retA_ret, Tryd.results46, resultsA_1]
      exact hid_mk ⟨by simp [usB], kH⟩
    simp only [wpA_ret, seqQ_normal, endI_mk, goI_out, goI_ops, opsA_nil, opsA_cons, opsA_guardS, gvI_same, gvI_tf, gvI_u, slotAt_zero, slotAt_succ, stepA_move, stepA_assign, stepA_pick, thenV_some, pickV_true, eval_tmp, eval_const, put_some, absV_bool, Nat.reduceEqDiff, if_true, if_false, Bool.not_false, retA_ret, Tryd.results46, resultsA_1]
    exact hid_mk ⟨by simp [usB], kH⟩
  · simp only [wpA_skip, wpA_region, wpA_seq, wpA_cond, condI_false, seqQ_normal, goI_out, goI_ops, opsA_nil, opsA_cons, opsA_guardS, gvI_same, gvI_tf, gvI_ft, gvI_u, slotAt_zero, slotAt_succ, stepA_move, stepA_assign, stepA_pick, stepA_load, stepA_binOp, stepA_unOp, stepA_fieldAddr, stepA_len, thenV_some, pickV_true, pickV_false, eval_tmp, eval_const, put_some, aBin_eql, aBin_neq, aBin_gtr, aUn_not, absV_int, absV_bool, aField_eq, fieldGo_ptr, aLoad_eq, loadGo_one, aPlace_ptr, dropC_cells, aLen_imm, Int.reduceBEq, beq_self_eq_true, Nat.reduceEqDiff, Nat.reduceAdd, Nat.reduceLeDiff, Nat.add_zero, Nat.zero_add, Nat.zero_le, List.length_cons, List.length_nil, List.drop_zero, List.drop_succ_cons, if_true, if_false, Bool.not_true, Bool.not_false, ft_47_0, ft_47_4, ft_47_7, ft_47_8, kt_39, lt_3, lt_39, c3', c4', hg, u1, u2, u3, show (((4 : Nat)) : Int) = 4 from rfl, hbl]
    cases bl
    rotate_left
    · simp only [wpA_region, wpA_seq, wpA_cond, wpA_ret, condI_true, seqQ_normal, seqQ_ret, endI_mk, goI_out, goI_ops, opsA_nil, opsA_cons, opsA_guardS, gvI_same, gvI_tf, slotAt_zero, slotAt_succ, stepA_assign, stepA_pick, thenV_some, pickV_true, pickV_false, eval_tmp, eval_const, put_some, absV_bool, Nat.reduceEqDiff, if_true, if_false, retA_ret, Tryd.results46, resultsA_1]
      exact hid_mk ⟨by simp [usB], kH⟩
    simp only [wpA_cond, seqQ_normal, goI_out, goI_ops, opsA_nil, opsA_cons, opsA_guardS, gvI_same, slotAt_zero, slotAt_succ, stepA_pick, stepA_build, stepA_load, stepA_binOp, stepA_fieldAddr, thenV_some, pickV_true, pickV_false, eval_tmp, eval_const, put_some, absV_bool, aField_eq, fieldGo_ptr, aLoad_eq, loadGo_row, aPlace_ptr, dropC_cells, aBuild_go, aFill_nil, buildGo_struct, Nat.reduceEqDiff, Nat.reduceAdd, Nat.reduceLeDiff, List.map_nil, Option.map_some, Nat.zero_add, List.length_cons, List.length_nil, List.drop_zero, List.drop_succ_cons, List.take_succ_cons, List.take_zero, if_true, if_false, ft_47_5, lt_45, pl_45, zc_45, hg, u1, show (((4 : Nat)) : Int) = 4 from rfl, rz]
    cases br
    rotate_left
    · simp only [wpA_region, wpA_seq, wpA_ret, condI_true, seqQ_normal, seqQ_ret, endI_mk, goI_out, goI_ops, opsA_nil, opsA_cons, stepA_assign, eval_const, put_some, absV_bool, Nat.reduceEqDiff, if_true, if_false, retA_ret, Tryd.results46, resultsA_1]
      exact hid_mk ⟨by simp [usB], kH⟩
    simp only [wpA_skip, wpA_region, wpA_seq, condI_false, seqQ_normal, goI_ops, opsA_cons, opsA_guardS, gvI_same, slotAt_zero, slotAt_succ, stepA_move, stepA_pick, stepA_load, stepA_unOp, stepA_fieldAddr, thenV_some, pickV_false, eval_tmp, eval_const, put_some, aUn_not, absV_bool, aField_eq, fieldGo_ptr, aLoad_eq, loadGo_one, aPlace_ptr, dropC_cells, Nat.reduceEqDiff, Nat.reduceAdd, Nat.reduceLeDiff, Nat.zero_add, List.length_cons, List.length_nil, List.drop_zero, List.drop_succ_cons, if_true, if_false, ft_47_6, lt_4, hg, u1, show (((4 : Nat)) : Int) = 4 from rfl]
    cases bd
    rotate_left
    · simp only [wpA_ret, seqQ_normal, endI_mk, goI_out, goI_ops, opsA_nil, opsA_cons, opsA_guardS, gvI_ft, gvI_u, slotAt_zero, slotAt_succ, stepA_assign, stepA_pick, thenV_some, pickV_false, eval_tmp, eval_const, put_some, absV_bool, Nat.reduceEqDiff, if_true, if_false, Bool.not_true, retA_ret, Tryd.results46, resultsA_1]
      exact hid_mk ⟨by simp [usB], kH⟩
    simp only [goI_ops, opsA_guardS, gvI_same, slotAt_zero, slotAt_succ, stepA_move, stepA_load, stepA_binOp, stepA_fieldAddr, stepA_len, thenV_some, eval_tmp, eval_const, put_some, aBin_eql, absV_int, aField_eq, fieldGo_ptr, aLoad_eq, loadGo_one, aPlace_ptr, dropC_cells, aLen_imm, Nat.reduceEqDiff, Nat.reduceAdd, Nat.reduceLeDiff, Nat.zero_add, List.length_cons, List.length_nil, List.drop_zero, List.drop_succ_cons, if_true, if_false, Bool.not_false, ft_47_7, kt_39, lt_39, hg, u1, show (((4 : Nat)) : Int) = 4 from rfl, hbo]
    cases bo
    skip
    · simp only [wpA_ret, seqQ_normal, endI_mk, goI_out, goI_ops, opsA_nil, opsA_cons, opsA_guardS, gvI_same, gvI_ft, slotAt_zero, slotAt_succ, stepA_assign, stepA_pick, thenV_some, pickV_true, pickV_false, eval_tmp, eval_const, put_some, absV_bool, Nat.reduceEqDiff, if_true, if_false, retA_ret, Tryd.results46, resultsA_1]
      exact hid_mk ⟨by simp [usB], kH⟩
    simp only [wpA_ret, seqQ_normal, endI_mk, goI_out, goI_ops, opsA_nil, opsA_cons, opsA_guardS, gvI_same, slotAt_zero, slotAt_succ, stepA_assign, stepA_pick, stepA_load, stepA_binOp, stepA_fieldAddr, stepA_len, thenV_some, pickV_true, pickV_false, eval_tmp, eval_const, put_some, aBin_eql, absV_int, absV_bool, aField_eq, fieldGo_ptr, aLoad_eq, loadGo_one, aPlace_ptr, dropC_cells, aLen_imm, Nat.reduceEqDiff, Nat.reduceAdd, Nat.reduceLeDiff, Nat.zero_add, List.length_cons, List.length_nil, List.drop_zero, List.drop_succ_cons, if_true, if_false, ft_47_8, kt_39, lt_39, hg, u1, show (((4 : Nat)) : Int) = 4 from rfl, hbq]
    cases bq
    skip
    · simp only [put_some, Nat.reduceEqDiff, if_true, if_false, retA_ret, Tryd.results46, resultsA_1]
      exact hid_mk ⟨by simp [usB], kH⟩
    simp only [put_some, Nat.reduceEqDiff, if_true, if_false, retA_ret, Tryd.results46, resultsA_1]
    exact hid_mk ⟨by simp [usB], kH⟩
  · simp only [wpA_skip, wpA_region, wpA_seq, wpA_cond, condI_false, seqQ_normal, goI_out, goI_ops, opsA_nil, opsA_cons, opsA_guardS, gvI_same, gvI_ft, gvI_u, slotAt_zero, slotAt_succ, stepA_move, stepA_assign, stepA_pick, stepA_load, stepA_binOp, stepA_unOp, stepA_fieldAddr, stepA_len, thenV_some, pickV_true, pickV_false, eval_tmp, eval_const, put_some, aBin_eql, aBin_neq, aBin_gtr, aUn_not, absV_int, absV_bool, aField_eq, fieldGo_ptr, aLoad_eq, loadGo_one, aPlace_ptr, dropC_cells, aLen_imm, Int.reduceBEq, beq_self_eq_true, Nat.reduceEqDiff, Nat.reduceAdd, Nat.reduceLeDiff, Nat.add_zero, Nat.zero_add, Nat.zero_le, List.length_cons, List.length_nil, List.drop_zero, List.drop_succ_cons, if_true, if_false, Bool.not_true, Bool.not_false, ft_47_0, ft_47_3, ft_47_7, ft_47_8, kt_39, lt_3, lt_39, c3', c4', hg, u1, u2, u3, show (((5 : Nat)) : Int) = 5 from rfl, hbx]
    cases bx
    rotate_left
    · simp only [wpA_region, wpA_seq, wpA_cond, wpA_ret, condI_true, seqQ_normal, seqQ_ret, endI_mk, goI_out, goI_ops, opsA_nil, opsA_cons, opsA_guardS, gvI_tf, gvI_u, slotAt_zero, slotAt_succ, stepA_assign, stepA_pick, thenV_some, pickV_true, eval_tmp, eval_const, put_some, absV_bool, Nat.reduceEqDiff, if_true, if_false, retA_ret, Tryd.results46, resultsA_1]
      exact hid_mk ⟨by simp [usB], kH⟩
    simp only [goI_ops, opsA_guardS, gvI_same, slotAt_zero, slotAt_succ, stepA_move, stepA_pick, stepA_load, stepA_binOp, stepA_unOp, stepA_fieldAddr, thenV_some, pickV_true, eval_tmp, eval_const, put_some, aBin_neq, aUn_not, absV_int, absV_bool, aField_eq, fieldGo_ptr, aLoad_eq, loadGo_one, aPlace_ptr, dropC_cells, Nat.reduceEqDiff, Nat.reduceAdd, Nat.reduceLeDiff, Nat.zero_add, List.length_cons, List.length_nil, List.drop_zero, List.drop_succ_cons, if_true, if_false, Bool.not_false, ft_47_4, lt_3, hg, u1, show (((5 : Nat)) : Int) = 5 from rfl, hbl]
    cases bl
    rotate_left
    · simp only [wpA_region, wpA_seq, wpA_cond, wpA_ret, condI_true, seqQ_normal, seqQ_ret, endI_mk, goI_out, goI_ops, opsA_nil, opsA_cons, opsA_guardS, gvI_same, gvI_tf, slotAt_zero, slotAt_succ, stepA_assign, stepA_pick, thenV_some, pickV_true, pickV_false, eval_tmp, eval_const, put_some, absV_bool, Nat.reduceEqDiff, if_true, if_false, retA_ret, Tryd.results46, resultsA_1]
      exact hid_mk ⟨by simp [usB], kH⟩
    simp only [wpA_cond, seqQ_normal, goI_out, goI_ops, opsA_nil, opsA_cons, opsA_guardS, gvI_same, slotAt_zero, slotAt_succ, stepA_pick, stepA_build, stepA_load, stepA_binOp, stepA_fieldAddr, thenV_some, pickV_true, pickV_false, eval_tmp, eval_const, put_some, absV_bool, aField_eq, fieldGo_ptr, aLoad_eq, loadGo_row, aPlace_ptr, dropC_cells, aBuild_go, aFill_nil, buildGo_struct, Nat.reduceEqDiff, Nat.reduceAdd, Nat.reduceLeDiff, List.map_nil, Option.map_some, Nat.zero_add, List.length_cons, List.length_nil, List.drop_zero, List.drop_succ_cons, List.take_succ_cons, List.take_zero, if_true, if_false, ft_47_5, lt_45, pl_45, zc_45, hg, u1, show (((5 : Nat)) : Int) = 5 from rfl, rz]
    cases br
    rotate_left
    · simp only [wpA_region, wpA_seq, wpA_ret, condI_true, seqQ_normal, seqQ_ret, endI_mk, goI_out, goI_ops, opsA_nil, opsA_cons, stepA_assign, eval_const, put_some, absV_bool, Nat.reduceEqDiff, if_true, if_false, retA_ret, Tryd.results46, resultsA_1]
      exact hid_mk ⟨by simp [usB], kH⟩
    simp only [wpA_skip, wpA_region, wpA_seq, condI_false, seqQ_normal, goI_ops, opsA_cons, opsA_guardS, gvI_same, slotAt_zero, slotAt_succ, stepA_move, stepA_pick, stepA_load, stepA_unOp, stepA_fieldAddr, thenV_some, pickV_false, eval_tmp, eval_const, put_some, aUn_not, absV_bool, aField_eq, fieldGo_ptr, aLoad_eq, loadGo_one, aPlace_ptr, dropC_cells, Nat.reduceEqDiff, Nat.reduceAdd, Nat.reduceLeDiff, Nat.zero_add, List.length_cons, List.length_nil, List.drop_zero, List.drop_succ_cons, if_true, if_false, ft_47_6, lt_4, hg, u1, show (((5 : Nat)) : Int) = 5 from rfl]
    cases bd
    rotate_left
    · simp only [wpA_ret, seqQ_normal, endI_mk, goI_out, goI_ops, opsA_nil, opsA_cons, opsA_guardS, gvI_ft, gvI_u, slotAt_zero, slotAt_succ, stepA_assign, stepA_pick, thenV_some, pickV_false, eval_tmp, eval_const, put_some, absV_bool, Nat.reduceEqDiff, if_true, if_false, Bool.not_true, retA_ret, Tryd.results46, resultsA_1]
      exact hid_mk ⟨by simp [usB], kH⟩
    simp only [goI_ops, opsA_guardS, gvI_same, slotAt_zero, slotAt_succ, stepA_move, stepA_load, stepA_binOp, stepA_fieldAddr, stepA_len, thenV_some, eval_tmp, eval_const, put_some, aBin_eql, absV_int, aField_eq, fieldGo_ptr, aLoad_eq, loadGo_one, aPlace_ptr, dropC_cells, aLen_imm, Nat.reduceEqDiff, Nat.reduceAdd, Nat.reduceLeDiff, Nat.zero_add, List.length_cons, List.length_nil, List.drop_zero, List.drop_succ_cons, if_true, if_false, Bool.not_false, ft_47_7, kt_39, lt_39, hg, u1, show (((5 : Nat)) : Int) = 5 from rfl, hbo]
    cases bo
    skip
    · simp only [wpA_ret, seqQ_normal, endI_mk, goI_out, goI_ops, opsA_nil, opsA_cons, opsA_guardS, gvI_same, gvI_ft, slotAt_zero, slotAt_succ, stepA_assign, stepA_pick, thenV_some, pickV_true, pickV_false, eval_tmp, eval_const, put_some, absV_bool, Nat.reduceEqDiff, if_true, if_false, retA_ret, Tryd.results46, resultsA_1]
      exact hid_mk ⟨by simp [usB], kH⟩
    simp only [wpA_ret, seqQ_normal, endI_mk, goI_out, goI_ops, opsA_nil, opsA_cons, opsA_guardS, gvI_same, slotAt_zero, slotAt_succ, stepA_assign, stepA_pick, stepA_load, stepA_binOp, stepA_fieldAddr, stepA_len, thenV_some, pickV_true, pickV_false, eval_tmp, eval_const, put_some, aBin_eql, absV_int, absV_bool, aField_eq, fieldGo_ptr, aLoad_eq, loadGo_one, aPlace_ptr, dropC_cells, aLen_imm, Nat.reduceEqDiff, Nat.reduceAdd, Nat.reduceLeDiff, Nat.zero_add, List.length_cons, List.length_nil, List.drop_zero, List.drop_succ_cons, if_true, if_false, ft_47_8, kt_39, lt_39, hg, u1, show (((5 : Nat)) : Int) = 5 from rfl, hbq]
    cases bq
    skip
    · simp only [put_some, Nat.reduceEqDiff, if_true, if_false, retA_ret, Tryd.results46, resultsA_1]
      exact hid_mk ⟨by simp [usB], kH⟩
    simp only [put_some, Nat.reduceEqDiff, if_true, if_false, retA_ret, Tryd.results46, resultsA_1]
    exact hid_mk ⟨by simp [usB], kH⟩
  · simp only [wpA_skip, wpA_region, wpA_seq, wpA_cond, condI_false, seqQ_normal, goI_out, goI_ops, opsA_nil, opsA_cons, opsA_guardS, gvI_same, slotAt_zero, slotAt_succ, stepA_move, stepA_assign, stepA_pick, stepA_load, stepA_binOp, stepA_unOp, stepA_fieldAddr, stepA_len, thenV_some, pickV_false, eval_tmp, eval_const, put_some, aBin_eql, aBin_neq, aBin_gtr, aUn_not, absV_int, absV_bool, aField_eq, fieldGo_ptr, aLoad_eq, loadGo_one, aPlace_ptr, dropC_cells, aLen_imm, Int.reduceBEq, Nat.reduceEqDiff, Nat.reduceAdd, Nat.reduceLeDiff, Nat.add_zero, Nat.zero_add, Nat.zero_le, List.length_cons, List.length_nil, List.drop_zero, List.drop_succ_cons, if_true, if_false, Bool.not_true, Bool.not_false, ft_47_0, ft_47_1, ft_47_7, ft_47_8, kt_39, lt_3, lt_39, c3', c4', hg, u1, u2, u3, show (((6 : Nat)) : Int) = 6 from rfl, hbt]
    cases bt
    rotate_left
    · simp only [wpA_region, wpA_seq, wpA_cond, wpA_ret, condI_true, seqQ_normal, seqQ_ret, endI_mk, goI_out, goI_ops, opsA_nil, opsA_cons, opsA_guardS, gvI_same, gvI_tf, gvI_u, slotAt_zero, slotAt_succ, stepA_move, stepA_assign, stepA_pick, thenV_some, pickV_true, eval_tmp, eval_const, put_some, absV_bool, Nat.reduceEqDiff, if_true, if_false, retA_ret, Tryd.results46, resultsA_1]
      exact hid_mk ⟨by simp [usB], kH⟩
    simp only [goI_ops, opsA_cons, opsA_guardS, gvI_same, slotAt_zero, slotAt_succ, stepA_move, stepA_pick, stepA_load, stepA_binOp, stepA_fieldAddr, thenV_some, pickV_true, pickV_false, eval_tmp, eval_const, put_some, aBin_neq, absV_int, absV_bool, aField_eq, fieldGo_ptr, aLoad_eq, loadGo_one, aPlace_ptr, dropC_cells, Nat.reduceEqDiff, Nat.reduceAdd, Nat.reduceLeDiff, Nat.zero_add, List.length_cons, List.length_nil, List.drop_zero, List.drop_succ_cons, if_true, if_false, ft_47_2, lt_3, hg, u1, show (((6 : Nat)) : Int) = 6 from rfl, hbe]
    cases be
    rotate_left
    · simp only [wpA_region, wpA_seq, wpA_cond, wpA_ret, condI_true, seqQ_normal, seqQ_ret, endI_mk, goI_out, goI_ops, opsA_nil, opsA_cons, opsA_guardS, gvI_tf, gvI_u, slotAt_zero, slotAt_succ, stepA_move, stepA_assign, stepA_pick, thenV_some, pickV_true, eval_tmp, eval_const, put_some, absV_bool, Nat.reduceEqDiff, if_true, if_false, retA_ret, Tryd.results46, resultsA_1]
      exact hid_mk ⟨by simp [usB], kH⟩
    simp only [goI_ops, opsA_cons, opsA_guardS, gvI_same, slotAt_zero, slotAt_succ, stepA_move, stepA_pick, stepA_load, stepA_binOp, stepA_unOp, stepA_fieldAddr, thenV_some, pickV_true, pickV_false, eval_tmp, eval_const, put_some, aBin_neq, aUn_not, absV_int, absV_bool, aField_eq, fieldGo_ptr, aLoad_eq, loadGo_one, aPlace_ptr, dropC_cells, Nat.reduceEqDiff, Nat.reduceAdd, Nat.reduceLeDiff, Nat.zero_add, List.length_cons, List.length_nil, List.drop_zero, List.drop_succ_cons, if_true, if_false, Bool.not_false, ft_47_3, lt_3, hg, u1, show (((6 : Nat)) : Int) = 6 from rfl, hbx]
    cases bx
    rotate_left
    · simp only [wpA_region, wpA_seq, wpA_cond, wpA_ret, condI_true, seqQ_normal, seqQ_ret, endI_mk, goI_out, goI_ops, opsA_nil, opsA_cons, opsA_guardS, gvI_tf, gvI_u, slotAt_zero, slotAt_succ, stepA_assign, stepA_pick, thenV_some, pickV_true, eval_tmp, eval_const, put_some, absV_bool, Nat.reduceEqDiff, if_true, if_false, retA_ret, Tryd.results46, resultsA_1]
      exact hid_mk ⟨by simp [usB], kH⟩
    simp only [goI_ops, opsA_guardS, gvI_same, slotAt_zero, slotAt_succ, stepA_move, stepA_pick, stepA_load, stepA_binOp, stepA_unOp, stepA_fieldAddr, thenV_some, pickV_true, eval_tmp, eval_const, put_some, aBin_neq, aUn_not, absV_int, absV_bool, aField_eq, fieldGo_ptr, aLoad_eq, loadGo_one, aPlace_ptr, dropC_cells, Nat.reduceEqDiff, Nat.reduceAdd, Nat.reduceLeDiff, Nat.zero_add, List.length_cons, List.length_nil, List.drop_zero, List.drop_succ_cons, if_true, if_false, Bool.not_false, ft_47_4, lt_3, hg, u1, show (((6 : Nat)) : Int) = 6 from rfl, hbl]
    cases bl
    rotate_left
    · simp only [wpA_region, wpA_seq, wpA_cond, wpA_ret, condI_true, seqQ_normal, seqQ_ret, endI_mk, goI_out, goI_ops, opsA_nil, opsA_cons, opsA_guardS, gvI_same, gvI_tf, slotAt_zero, slotAt_succ, stepA_assign, stepA_pick, thenV_some, pickV_true, pickV_false, eval_tmp, eval_const, put_some, absV_bool, Nat.reduceEqDiff, if_true, if_false, retA_ret, Tryd.results46, resultsA_1]
      exact hid_mk ⟨by simp [usB], kH⟩
    simp only [wpA_cond, seqQ_normal, goI_out, goI_ops, opsA_nil, opsA_cons, opsA_guardS, gvI_same, slotAt_zero, slotAt_succ, stepA_pick, stepA_build, stepA_load, stepA_binOp, stepA_fieldAddr, thenV_some, pickV_true, pickV_false, eval_tmp, eval_const, put_some, absV_bool, aField_eq, fieldGo_ptr, aLoad_eq, loadGo_row, aPlace_ptr, dropC_cells, aBuild_go, aFill_nil, buildGo_struct, Nat.reduceEqDiff, Nat.reduceAdd, Nat.reduceLeDiff, List.map_nil, Option.map_some, Nat.zero_add, List.length_cons, List.length_nil, List.drop_zero, List.drop_succ_cons, List.take_succ_cons, List.take_zero, if_true, if_false, ft_47_5, lt_45, pl_45, zc_45, hg, u1, show (((6 : Nat)) : Int) = 6 from rfl, rz]
    cases br
    rotate_left
    · simp only [wpA_region, wpA_seq, wpA_ret, condI_true, seqQ_normal, seqQ_ret, endI_mk, goI_out, goI_ops, opsA_nil, opsA_cons, stepA_assign, eval_const, put_some, absV_bool, Nat.reduceEqDiff, if_true, if_false, retA_ret, Tryd.results46, resultsA_1]
      exact hid_mk ⟨by simp [usB], kH⟩
    simp only [wpA_skip, wpA_region, wpA_seq, condI_false, seqQ_normal, goI_ops, opsA_cons, opsA_guardS, gvI_same, slotAt_zero, slotAt_succ, stepA_move, stepA_pick, stepA_load, stepA_unOp, stepA_fieldAddr, thenV_some, pickV_false, eval_tmp, eval_const, put_some, aUn_not, absV_bool, aField_eq, fieldGo_ptr, aLoad_eq, loadGo_one, aPlace_ptr, dropC_cells, Nat.reduceEqDiff, Nat.reduceAdd, Nat.reduceLeDiff, Nat.zero_add, List.length_cons, List.length_nil, List.drop_zero, List.drop_succ_cons, if_true, if_false, ft_47_6, lt_4, hg, u1, show (((6 : Nat)) : Int) = 6 from rfl]
    cases bd
    rotate_left
    · simp only [wpA_ret, seqQ_normal, endI_mk, goI_out, goI_ops, opsA_nil, opsA_cons, opsA_guardS, gvI_ft, gvI_u, slotAt_zero, slotAt_succ, stepA_assign, stepA_pick, thenV_some, pickV_false, eval_tmp, eval_const, put_some, absV_bool, Nat.reduceEqDiff, if_true, if_false, Bool.not_true, retA_ret, Tryd.results46, resultsA_1]
      exact hid_mk ⟨by simp [usB], kH⟩
    simp only [goI_ops, opsA_guardS, gvI_same, slotAt_zero, slotAt_succ, stepA_move, stepA_load, stepA_binOp, stepA_fieldAddr, stepA_len, thenV_some, eval_tmp, eval_const, put_some, aBin_eql, absV_int, aField_eq, fieldGo_ptr, aLoad_eq, loadGo_one, aPlace_ptr, dropC_cells, aLen_imm, Nat.reduceEqDiff, Nat.reduceAdd, Nat.reduceLeDiff, Nat.zero_add, List.length_cons, List.length_nil, List.drop_zero, List.drop_succ_cons, if_true, if_false, Bool.not_false, ft_47_7, kt_39, lt_39, hg, u1, show (((6 : Nat)) : Int) = 6 from rfl, hbo]
    cases bo
    skip
    · simp only [wpA_ret, seqQ_normal, endI_mk, goI_out, goI_ops, opsA_nil, opsA_cons, opsA_guardS, gvI_same, gvI_ft, slotAt_zero, slotAt_succ, stepA_assign, stepA_pick, thenV_some, pickV_true, pickV_false, eval_tmp, eval_const, put_some, absV_bool, Nat.reduceEqDiff, if_true, if_false, retA_ret, Tryd.results46, resultsA_1]
      exact hid_mk ⟨by simp [usB], kH⟩
    simp only [wpA_ret, seqQ_normal, endI_mk, goI_out, goI_ops, opsA_nil, opsA_cons, opsA_guardS, gvI_same, slotAt_zero, slotAt_succ, stepA_assign, stepA_pick, stepA_load, stepA_binOp, stepA_fieldAddr, stepA_len, thenV_some, pickV_true, pickV_false, eval_tmp, eval_const, put_some, aBin_eql, absV_int, absV_bool, aField_eq, fieldGo_ptr, aLoad_eq, loadGo_one, aPlace_ptr, dropC_cells, aLen_imm, Nat.reduceEqDiff, Nat.reduceAdd, Nat.reduceLeDiff, Nat.zero_add, List.length_cons, List.length_nil, List.drop_zero, List.drop_succ_cons, if_true, if_false, ft_47_8, kt_39, lt_39, hg, u1, show (((6 : Nat)) : Int) = 6 from rfl, hbq]
    cases bq
    skip
    · simp only [put_some, Nat.reduceEqDiff, if_true, if_false, retA_ret, Tryd.results46, resultsA_1]
      exact hid_mk ⟨by simp [usB], kH⟩
    simp only [put_some, Nat.reduceEqDiff, if_true, if_false, retA_ret, Tryd.results46, resultsA_1]
    exact hid_mk ⟨by simp [usB], kH⟩
end Go.Proofs.YtcdpepdjeneelaaDoor.Pk
namespace Go.Proofs.YtcdpepdjeneelaaDoor.Pk
open Go Go.Proofs Go.Proofs.YtcdpepdjeneelaaDoor.Ab Go.Proofs.Vw
set_option linter.unusedVariables false
set_option linter.unusedSimpArgs false
/-! ### The reference: names -/
theorem insK_in {n : Int} : ∀ {l : List Int}, l.Pairwise (· < ·) → n ∈ l → insK n l = l
  | [], _, h => by cases h
  | x :: l, hp, h => by
    have hp' := List.pairwise_cons.1 hp
    unfold insK
    by_cases e : x = n
    · rw [if_pos e]
    · rw [if_neg e]
      rcases List.mem_cons.1 h with h | h
      · exact absurd h.symm e
      · have := hp'.1 n h
        rw [if_neg (by omega), insK_in hp'.2 h]
theorem insK_split {n : Int} : ∀ (a b : List Int), (∀ x ∈ a, x < n) → (∀ x ∈ b, n < x) → insK n (a ++ b) = a ++ n :: b
  | [], [], _, _ => rfl
  | [], x :: b, _, hb => by
    have := hb x (by simp)
    show insK n (x :: b) = n :: x :: b
    unfold insK
    rw [if_neg (by omega), if_pos this]
  | x :: a, b, ha, hb => by
    have := ha x (by simp)
    show insK n (x :: (a ++ b)) = x :: (a ++ n :: b)
    unfold insK
    rw [if_neg (by omega), if_neg (by omega), insK_split a b (fun y hy => ha y (by simp [hy])) hb]
theorem insK_len (n : Int) : ∀ a : List Int, (insK n a).length ≤ a.length + 1
  | [] => Nat.le_refl _
  | x :: a => by
    have ih := insK_len n a
    unfold insK
    by_cases h1 : x = n
    · rw [if_pos h1]; simp
    · rw [if_neg h1]
      by_cases h2 : n < x
      · rw [if_pos h2]; simp
      · rw [if_neg h2]; simp; omega
theorem lit1i (h : AHeap) (x : Int) : aBuildSlice Tryd.prog 39 1 [(0, .int .i64 x)] h = some (.sl h.n 0 1 1, h.push (.cells [.int .i64 x] 3 none)) := by rw [buildSlice_go sl_39]; rfl
/-- A number more, behind. -/
theorem accI {h0 h : AHeap} {s : V} {l : List Int} (o : Acc h0 h 3 1 s (i64V l)) (x : Int) (hl : l.length ≤ 2 ^ 40) :
    ∃ s' h', aAppend Tryd.prog 39 39 s (.sl h.n 0 1 1) (h.push (.cells [.int .i64 x] 3 none)) = some (s', h') ∧ Acc h0 h' 3 1 s' (i64V (l ++ [x])) := by
  obtain ⟨s', h', ea, oa⟩ := o.elemM (P := Tryd.prog) (t := 39) sl_39 (by decide) (xs := [.int .i64 x]) rfl rfl (fun m hm => by
    change m * 1 = _ + 1 at hm
    rw [i64V_length] at hm
    exact ⟨by simp only [lim]; omega, by simp only [lim]; omega⟩)
  exact ⟨s', h', ea, oa.conv (by rw [i64V_append]; rfl)⟩
theorem int_ix {l : List Int} {k : Nat} (hk : k < l.length) {kk : IntKind} : ∃ r, aIndexAddr Tryd.prog 39 (.imm l.length (i64V l)) (.int kk (k : Int)) = some (.at (.int .i64 l[k] :: r)) := ⟨_, Ab.row_ix (V.int .i64) hk ss_39⟩
set_option maxHeartbeats 2000000 in
set_option maxRecDepth 10000 in
theorem rAdd (l : List Int) (n : Int) (hp : l.Pairwise (· < ·)) (hl : l.length ≤ 2 ^ 30) (h : AHeap) : Pure Tryd.prog 27 [.imm l.length (i64V l), .int .i64 n] h (.imm (insK n l).length (i64V (insK n l))) := by
  refine Pure.of (Clo.imm (i64V_clo _)) ?_
  refine SCalls.enterI (c := _) Tryd.func27 rfl (by kernel_rfl) (by simp) ?_
  simp only [wpA_region, wpA_seq, wpA_block, wpA_loop, seqQ_normal, goI_out, goI_ops, opsA_nil, opsA_cons, stepA_assign, eval_const, absV_int, absV_bool, absV_snil]
  refine SWp.loopG (α := Nat) (fun i f h' => f 0 = .imm l.length (i64V l) ∧ f 1 = .int .i64 n ∧ f 7 = .int .i64 (i : Nat) ∧ i ≤ l.length ∧ n ∉ l.take i ∧
      ((f 6 = .bool false ∧ (∀ x ∈ l.take i, x < n) ∧ Acc h h' 3 1 (f 5) (i64V (l.take i))) ∨ (f 6 = .bool true ∧ (∃ x ∈ l.take i, n < x) ∧ Acc h h' 3 1 (f 5) (i64V (insK n (l.take i)))))) (fun i => l.length - i) 0
    ⟨rfl, rfl, rfl, Nat.zero_le _, by simp, .inl ⟨rfl, by simp, Acc.nil (Keep.refl _ _)⟩⟩ ?_
  rintro i f h1 ⟨f0, f1, f7, hi, hni, hst⟩
  refine wpI_sound (by kernel_rfl) ?_
  by_cases hlt : i < l.length
  · have d1 : decide ((i : Int) < ((l.length : Nat) : Int)) = true := decide_eq_true (by omega)
    have wi : IntKind.i64.wrap ((i : Int) + 1) = ((i + 1 : Nat) : Int) := by rw [Go.IntWalk.i64_in _ (by omega)]; omega
    obtain ⟨r, x1⟩ := int_ix (l := l) (kk := .i64) hlt
    have hsn : l.take (i + 1) = l.take i ++ [l[i]] := List.take_succ_eq_append_getElem hlt
    have hmem : l[i] ∈ l := List.getElem_mem hlt
    have hlt2 : ∀ x ∈ l.take i, x < l[i] := fun x hx => by
      have hq : (l.take (i + 1)).Pairwise (· < ·) := hp.sublist (List.take_sublist _ _)
      rw [hsn] at hq
      exact (List.pairwise_append.1 hq).2.2 x hx _ (by simp)
    have hlen : (l.take i).length ≤ 2 ^ 30 := by rw [List.length_take]; omega
    generalize l[i] = A at x1 hsn hmem hlt2
    by_cases hA : A = n
    · have c1 : (A == n) = true := by simpa using hA
      rcases hst with ⟨f6, _, acc⟩ | ⟨f6, _, acc⟩
      all_goals
        simp only [wpA_skip, wpA_region, wpA_seq, wpA_cond, wpA_block, wpA_ret, condI_true, seqQ_normal, seqQ_ret, blkQ_ret, endI_mk, goE, andThen_ret, goI_out, goI_ops, opsA_nil, opsA_cons, stepA_move, stepA_assign, stepA_load, stepA_binOp, stepA_indexAddr, stepA_len, thenV_some, eval_tmp, put_some, aBin_eql, aBin_lss, aLoad_eq, loadGo_one, aPlace_at, aLen_imm, Nat.reduceEqDiff, reduceCtorEq, if_true, if_false, kt_39, lt_3, f0, f1, f7, d1, x1, c1, retA_ret, Tryd.results27, resultsA_1]
        exact hid_mk ⟨_, by rw [insK_in hp (hA ▸ hmem)]; exact Cast.refl _ _, acc.keep⟩
    have c1 : (A == n) = false := by simpa using hA
    have hni2 : n ∉ l.take (i + 1) := by rw [hsn]; simp only [List.mem_append, List.mem_singleton, not_or]; exact ⟨hni, fun hh => hA hh.symm⟩
    rcases hst with ⟨f6, hall, acc⟩ | ⟨f6, hex, acc⟩
    · by_cases hg : n < A
      · have c2 : decide (n < A) = true := decide_eq_true hg
        obtain ⟨s1, h2, ea1, a1⟩ := accI acc n (by omega)
        obtain ⟨s2, h3, ea2, a2⟩ := accI a1 A (by simp; omega)
        have b1 := lit1i h1 n
        have b2 := lit1i h2 A
        have hins : insK n (l.take i ++ [A]) = l.take i ++ [n] ++ [A] := by rw [insK_split _ _ hall (by simpa using hg)]; simp
        simp only [wpA_skip, wpA_region, wpA_seq, wpA_cond, wpA_block, condI_true, condI_false, seqQ_normal, blkQ_normal, endI_mk, andThen_normal, goI_out, goI_ops, opsA_nil, opsA_cons, opsA_guardS, gvI_same, slotAt_zero, slotAt_succ, stepA_move, stepA_assign, stepA_pick, stepA_buildSlice, stepA_load, stepA_binOp, stepA_unOp, stepA_indexAddr, stepA_len, stepA_append, thenV_some, thenH_some, pickV_true, eval_tmp, eval_const, put_some, aBin_add, aBin_eql, aBin_lss, aBin_gtr, aUn_not, absV_int, absV_bool, aLoad_eq, loadGo_one, aPlace_at, aLen_imm, Nat.reduceEqDiff, reduceCtorEq, List.map_cons, List.map_nil, if_true, if_false, Bool.not_false, kt_39, lt_3, f0, f1, f6, f7, d1, x1, c1, c2, b1, ea1, b2, ea2, wi]
        exact hid_mk ⟨i + 1, ⟨f0, f1, rfl, hlt, hni2, .inr ⟨rfl, ⟨A, by rw [hsn]; simp, hg⟩, by rw [hsn, hins]; exact a2⟩⟩, by omega⟩
      · have c2 : decide (n < A) = false := decide_eq_false hg
        obtain ⟨s2, h3, ea2, a2⟩ := accI acc A (by omega)
        have b2 := lit1i h1 A
        simp only [wpA_skip, wpA_region, wpA_seq, wpA_cond, wpA_block, condI_true, condI_false, seqQ_normal, blkQ_normal, endI_mk, andThen_normal, goI_out, goI_ops, opsA_nil, opsA_cons, opsA_guardS, gvI_same, slotAt_zero, slotAt_succ, stepA_move, stepA_assign, stepA_pick, stepA_buildSlice, stepA_load, stepA_binOp, stepA_unOp, stepA_indexAddr, stepA_len, stepA_append, thenV_some, thenH_some, pickV_true, eval_tmp, eval_const, put_some, aBin_add, aBin_eql, aBin_lss, aBin_gtr, aUn_not, absV_int, absV_bool, aLoad_eq, loadGo_one, aPlace_at, aLen_imm, Nat.reduceEqDiff, reduceCtorEq, List.map_cons, List.map_nil, if_true, if_false, Bool.not_false, kt_39, lt_3, f0, f1, f6, f7, d1, x1, c1, c2, b2, ea2, wi]
        exact hid_mk ⟨i + 1, ⟨f0, f1, rfl, hlt, hni2, .inl ⟨f6, fun x hx => by
          rw [hsn] at hx
          rcases List.mem_append.1 hx with hx | hx
          · exact hall x hx
          · rw [List.mem_singleton.1 hx]; omega, by rw [hsn]; exact a2⟩⟩, by omega⟩
    · obtain ⟨y, hy, hny⟩ := hex
      have hins : insK n (l.take i ++ [A]) = insK n (l.take i) ++ [A] := by
        have hgen : ∀ (a : List Int), a.Pairwise (· < ·) → n ∉ a → (∃ y ∈ a, n < y) → insK n (a ++ [A]) = insK n a ++ [A] := by
          intro a
          induction a with
          | nil => intro _ _ h; obtain ⟨y, hy, _⟩ := h; cases hy
          | cons x a ih =>
            intro hp hn h
            have hp' := List.pairwise_cons.1 hp
            show insK n (x :: (a ++ [A])) = _
            unfold insK
            have hxn : x ≠ n := fun e => hn (by simp [e])
            rw [if_neg hxn, if_neg hxn]
            by_cases hx : n < x
            · rw [if_pos hx, if_pos hx]; rfl
            · rw [if_neg hx, if_neg hx]
              obtain ⟨y, hy, hny⟩ := h
              rcases List.mem_cons.1 hy with rfl | hy
              · exact absurd hny hx
              · rw [ih hp'.2 (fun hh => hn (by simp [hh])) ⟨y, hy, hny⟩]; rfl
        exact hgen _ (hp.sublist (List.take_sublist _ _)) hni ⟨y, hy, hny⟩
      obtain ⟨s2, h3, ea2, a2⟩ := accI acc A (by
        have := insK_len n (l.take i)
        omega)
      have b2 := lit1i h1 A
      simp only [wpA_skip, wpA_region, wpA_seq, wpA_cond, wpA_block, condI_true, condI_false, seqQ_normal, blkQ_normal, endI_mk, andThen_normal, goI_out, goI_ops, opsA_nil, opsA_cons, opsA_guardS, gvI_ft, slotAt_zero, slotAt_succ, stepA_move, stepA_assign, stepA_pick, stepA_buildSlice, stepA_load, stepA_binOp, stepA_unOp, stepA_indexAddr, stepA_len, stepA_append, thenV_some, thenH_some, pickV_false, eval_tmp, eval_const, put_some, aBin_add, aBin_eql, aBin_lss, aUn_not, absV_int, absV_bool, aLoad_eq, loadGo_one, aPlace_at, aLen_imm, Nat.reduceEqDiff, reduceCtorEq, List.map_cons, List.map_nil, if_true, if_false, Bool.not_true, kt_39, lt_3, f0, f1, f6, f7, d1, x1, c1, b2, ea2, wi]
      exact hid_mk ⟨i + 1, ⟨f0, f1, rfl, hlt, hni2, .inr ⟨f6, ⟨y, by rw [hsn]; exact List.mem_append_left _ hy, hny⟩, by rw [hsn, hins]; exact a2⟩⟩, by omega⟩
  · have d1 : decide ((i : Int) < ((l.length : Nat) : Int)) = false := decide_eq_false (by omega)
    rw [List.take_of_length_le (by omega)] at hst
    rcases hst with ⟨f6, hall, acc⟩ | ⟨f6, hex, acc⟩
    · obtain ⟨s2, h3, ea2, a2⟩ := accI acc n (by omega)
      have b2 := lit1i h1 n
      have hins : insK n l = l ++ [n] := by have := insK_split (n := n) l [] hall (by simp); rwa [List.append_nil] at this
      simp only [wpA_region, wpA_seq, wpA_cond, wpA_exit, wpA_ret, condI_true, condI_false, seqQ_normal, seqQ_exit, blkQ_exit, endI_mk, goE, andThen_exit, goI_out, goI_ops, opsA_nil, opsA_cons, stepA_move, stepA_assign, stepA_buildSlice, stepA_binOp, stepA_unOp, stepA_len, stepA_append, thenV_some, thenH_some, eval_tmp, put_some, aBin_lss, aUn_not, aLen_imm, Nat.reduceEqDiff, reduceCtorEq, List.map_cons, List.map_nil, if_true, if_false, Bool.not_false, kt_39, f0, f1, f6, f7, d1, b2, ea2, retA_ret, Tryd.results27, resultsA_1]
      rw [hins]
      obtain ⟨h4, c4, k4⟩ := a2.cast (n := (l ++ [n]).length) (by rw [i64V_length, Nat.mul_one]) (by decide)
      exact hid_mk ⟨h4, c4, k4⟩
    · simp only [wpA_skip, wpA_region, wpA_seq, wpA_cond, wpA_exit, wpA_ret, condI_false, seqQ_normal, seqQ_exit, blkQ_exit, endI_mk, goE, andThen_exit, goI_out, goI_ops, opsA_nil, opsA_cons, stepA_move, stepA_assign, stepA_binOp, stepA_unOp, stepA_len, thenV_some, eval_tmp, put_some, aBin_lss, aUn_not, aLen_imm, Nat.reduceEqDiff, reduceCtorEq, if_true, if_false, Bool.not_true, kt_39, f0, f6, f7, d1, retA_ret, Tryd.results27, resultsA_1]
      obtain ⟨h4, c4, k4⟩ := acc.cast (n := (insK n l).length) (by rw [i64V_length, Nat.mul_one]) (by decide)
      exact hid_mk ⟨h4, c4, k4⟩
end Go.Proofs.YtcdpepdjeneelaaDoor.Pk
namespace Go.Proofs.YtcdpepdjeneelaaDoor.Pk
open Go Go.Proofs Go.Proofs.YtcdpepdjeneelaaDoor.Ab Go.Proofs.Vw
set_option linter.unusedVariables false
set_option linter.unusedSimpArgs false
/-! ### The reference: the tasks that are named -/
/-- An entry that names a task. -/
def isT (x : Ent) : Bool := mayB x && (decide (2 ≤ x.kind) && decide (x.kind ≤ 5))
def namesL (l : List Ent) : List Int := (l.filter isT).foldl (fun a x => insK x.task a) []
theorem namesL_snoc (l : List Ent) (x : Ent) : namesL (l ++ [x]) = if isT x then insK x.task (namesL l) else namesL l := by
  unfold namesL
  rw [List.filter_append]
  by_cases h : isT x = true
  · rw [if_pos h, List.filter_cons_of_pos h, List.foldl_append]; rfl
  · rw [if_neg h, List.filter_cons_of_neg h]; simp
theorem snoc_ind {α : Type} {p : List α → Prop} (h0 : p []) (h1 : ∀ l x, p l → p (l ++ [x])) : ∀ l, p l := by
  have : ∀ n (l : List α), l.length = n → p l := by
    intro n
    induction n with
    | zero => intro l hl; rw [List.length_eq_zero_iff.1 hl]; exact h0
    | succ n ih =>
      intro l hl
      obtain ⟨a, x, rfl⟩ : ∃ a x, l = a ++ [x] := by
        cases hq : l.reverse with
        | nil => rw [List.reverse_eq_nil_iff] at hq; rw [hq] at hl; simp at hl
        | cons x a => exact ⟨a.reverse, x, by rw [← List.reverse_reverse l, hq, List.reverse_cons]⟩
      exact h1 _ _ (ih a (by simp at hl; exact hl))
  exact fun l => this _ l rfl
theorem namesL_up (l : List Ent) : (namesL l).Pairwise (· < ·) := by
  refine snoc_ind (p := fun l => (namesL l).Pairwise (· < ·)) List.Pairwise.nil (fun l x ih => ?_) l
  rw [namesL_snoc]
  split
  · exact insK_up ih
  · exact ih
theorem namesL_len (l : List Ent) : (namesL l).length ≤ l.length := by
  refine snoc_ind (p := fun l => (namesL l).length ≤ l.length) (Nat.le_refl _) (fun l x ih => ?_) l
  rw [namesL_snoc, List.length_append]
  split
  · have := insK_len x.task (namesL l); simp; omega
  · simp; omega
theorem namesL_mem (l : List Ent) (t : Int) : t ∈ namesL l ↔ ∃ x ∈ l, isT x = true ∧ x.task = t := by
  refine snoc_ind (p := fun l => t ∈ namesL l ↔ ∃ x ∈ l, isT x = true ∧ x.task = t) (by simp [namesL]) (fun l x ih => ?_) l
  rw [namesL_snoc]
  by_cases h : isT x = true
  · rw [if_pos h, insK_mem, ih]
    constructor
    · rintro (rfl | ⟨y, hy, h2⟩)
      · exact ⟨x, by simp, h, rfl⟩
      · exact ⟨y, by simp [hy], h2⟩
    · rintro ⟨y, hy, h2, h3⟩
      rcases List.mem_append.1 hy with hy | hy
      · exact .inr ⟨y, hy, h2, h3⟩
      · rw [List.mem_singleton.1 hy] at h3; exact .inl h3.symm
  · rw [if_neg h, ih]
    constructor
    · rintro ⟨y, hy, h2⟩; exact ⟨y, by simp [hy], h2⟩
    · rintro ⟨y, hy, h2, h3⟩
      rcases List.mem_append.1 hy with hy | hy
      · exact ⟨y, hy, h2, h3⟩
      · rw [List.mem_singleton.1 hy] at h2; exact absurd h2 h
set_option maxHeartbeats 2000000 in
set_option maxRecDepth 10000 in
theorem rNames (l : List Ent) (hl : l.length ≤ 2 ^ 14) (he : ∀ x ∈ l, eLen x) (h : AHeap) : Pure Tryd.prog 24 [.imm l.length (l.flatMap entE)] h (.imm (namesL l).length (i64V (namesL l))) := by
  refine Pure.of (Clo.imm (i64V_clo _)) ?_
  refine SCalls.enterI (c := _) Tryd.func24 rfl (by kernel_rfl) (by simp) ?_
  simp only [wpA_region, wpA_seq, wpA_block, wpA_loop, seqQ_normal, goI_out, goI_ops, opsA_nil, opsA_cons, stepA_assign, eval_const, absV_int, absV_snil]
  refine SWp.loopG (α := Nat) (fun i f h' => f 0 = .imm l.length (l.flatMap entE) ∧ ((namesL (l.take i) = [] ∧ f 3 = .snil) ∨ f 3 = .imm (namesL (l.take i)).length (i64V (namesL (l.take i)))) ∧ f 4 = .int .i64 (i : Nat) ∧ i ≤ l.length ∧ h' = h) (fun i => l.length - i) 0
    ⟨rfl, .inl ⟨rfl, rfl⟩, rfl, Nat.zero_le _, rfl⟩ ?_
  rintro i f h1 ⟨f0, f3, f4, hi, rfl⟩
  refine wpI_sound (by kernel_rfl) ?_
  by_cases hlt : i < l.length
  · have d1 : decide ((i : Int) < ((l.length : Nat) : Int)) = true := decide_eq_true (by omega)
    have wi : IntKind.i64.wrap ((i : Int) + 1) = ((i + 1 : Nat) : Int) := by rw [Go.IntWalk.i64_in _ (by omega)]; omega
    have x1 := ent_ix (l := l) (kk := .i64) hlt
    have hsn : namesL (l.take (i + 1)) = if isT l[i] then insK l[i].task (namesL (l.take i)) else namesL (l.take i) := by rw [List.take_succ_eq_append_getElem hlt, namesL_snoc]
    have hxl := he _ (List.getElem_mem hlt)
    have hup := namesL_up (l.take i)
    have hnl := namesL_len (l.take i)
    rw [List.length_take] at hnl
    generalize l[i] = x at x1 hsn hxl
    generalize namesL (l.take i) = N at f3 hsn hup hnl
    have ld := ent_ld x
    have l0 : loadGo (some none) (some (entE x ++ (l.drop (i + 1)).flatMap entE)) = some (.int .i64 x.kind) := rfl
    have l1 : loadGo (some none) (some ((entE x ++ (l.drop (i + 1)).flatMap entE).drop 1)) = some (.int .i64 x.task) := rfl
    simp only [wpA_skip, wpA_region, wpA_seq, wpA_cond, wpA_block, condI_true, seqQ_normal, goI_out, goI_ops, opsA_nil, opsA_cons, stepA_move, stepA_load, stepA_binOp, stepA_indexAddr, stepA_len, stepA_call, thenV_some, eval_tmp, put_some, aBin_lss, aLoad_eq, aPlace_at, aLen_imm, Nat.reduceEqDiff, reduceCtorEq, List.map_cons, List.map_nil, if_true, if_false, kt_22, lt_47, f0, f4, d1, x1, ld]
    refine callI_pure cal46 (rMay x h1 hxl) ?_
    have c11 : (1 ≤ (entE x ++ (l.drop (i + 1)).flatMap entE).length) = True := eq_true (by rw [List.length_append, entE_len]; omega)
    have stay : isT x = false → namesL (l.take (i + 1)) = N := fun hh => by rw [hsn, hh]; rfl
    cases hm : mayB x with
    | false =>
      have hT : isT x = false := by unfold isT; rw [hm]; rfl
      simp only [wpA_skip, wpA_region, wpA_cond, condI_false, seqQ_normal, blkQ_normal, endI_mk, andThen_normal, goI_out, goI_ops, opsA_nil, opsA_cons, opsA_guardS, gvI_ft, slotAt_zero, slotAt_succ, stepA_move, stepA_assign, stepA_pick, stepA_binOp, thenV_some, pickV_false, eval_tmp, eval_const, put_some, aBin_add, absV_int, absV_bool, Nat.reduceEqDiff, if_true, if_false, f4, wi]
      exact hid_mk ⟨i + 1, ⟨f0, by rw [stay hT]; exact f3, rfl, hlt, rfl⟩, by omega⟩
    | true =>
      by_cases k1 : 2 ≤ x.kind
      rotate_left
      · have g1 : decide (2 ≤ x.kind) = false := decide_eq_false k1
        have hT : isT x = false := by unfold isT; rw [hm, g1]; rfl
        simp only [wpA_skip, wpA_region, wpA_cond, condI_false, seqQ_normal, blkQ_normal, endI_mk, andThen_normal, goI_out, goI_ops, opsA_nil, opsA_cons, opsA_guardS, gvI_same, gvI_ft, slotAt_zero, slotAt_succ, stepA_move, stepA_assign, stepA_pick, stepA_load, stepA_binOp, stepA_fieldAddr, stepA_indexAddr, thenV_some, pickV_true, pickV_false, eval_tmp, eval_const, put_some, aBin_add, aBin_geq, absV_int, absV_bool, aField_eq, fieldGo_at, aLoad_eq, aPlace_at, Nat.reduceEqDiff, reduceCtorEq, Nat.zero_le, List.drop_zero, if_true, if_false, ft_47_0, lt_3, f0, f4, x1, l0, g1, wi]
        exact hid_mk ⟨i + 1, ⟨f0, by rw [stay hT]; exact f3, rfl, hlt, rfl⟩, by omega⟩
      have g1 : decide (2 ≤ x.kind) = true := decide_eq_true k1
      by_cases k2 : x.kind ≤ 5
      rotate_left
      · have g2 : decide (x.kind ≤ 5) = false := decide_eq_false k2
        have hT : isT x = false := by unfold isT; rw [hm, g1, g2]; rfl
        simp only [wpA_skip, wpA_region, wpA_cond, condI_false, seqQ_normal, blkQ_normal, endI_mk, andThen_normal, goI_out, goI_ops, opsA_nil, opsA_cons, opsA_guardS, gvI_same, slotAt_zero, slotAt_succ, stepA_move, stepA_assign, stepA_pick, stepA_load, stepA_binOp, stepA_fieldAddr, stepA_indexAddr, thenV_some, pickV_true, eval_tmp, eval_const, put_some, aBin_add, aBin_leq, aBin_geq, absV_int, absV_bool, aField_eq, fieldGo_at, aLoad_eq, aPlace_at, Nat.reduceEqDiff, reduceCtorEq, Nat.zero_le, List.drop_zero, if_true, if_false, ft_47_0, lt_3, f0, f4, x1, l0, g1, g2, wi]
        exact hid_mk ⟨i + 1, ⟨f0, by rw [stay hT]; exact f3, rfl, hlt, rfl⟩, by omega⟩
      have g2 : decide (x.kind ≤ 5) = true := decide_eq_true k2
      have hT : isT x = true := by unfold isT; rw [hm, g1, g2]; rfl
      rw [hT, if_pos rfl] at hsn
      have hadd := rAdd N x.task hup (by omega) h1
      rcases f3 with ⟨hN, f3⟩ | f3
      · subst hN
        simp only [wpA_region, wpA_cond, condI_true, seqQ_normal, goI_out, goI_ops, opsA_nil, opsA_cons, opsA_guardS, gvI_same, slotAt_zero, slotAt_succ, stepA_move, stepA_pick, stepA_load, stepA_binOp, stepA_fieldAddr, stepA_indexAddr, stepA_call, thenV_some, pickV_true, eval_tmp, eval_const, put_some, aBin_leq, aBin_geq, absV_int, absV_bool, aField_eq, fieldGo_at, aLoad_eq, aPlace_at, Nat.reduceEqDiff, reduceCtorEq, List.map_cons, List.map_nil, Nat.zero_le, List.drop_zero, if_true, if_false, ft_47_0, ft_47_1, lt_3, f0, f3, f4, x1, l0, l1, c11, g1, g2]
        refine callI_pure cal27 (Pure.args (CastL.cons (Cast.nil0 _) (CastL.refl _ _)) hadd) ?_
        simp only [wpA_region, seqQ_normal, blkQ_normal, endI_mk, andThen_normal, goI_out, goI_ops, opsA_nil, opsA_cons, stepA_move, stepA_assign, stepA_binOp, thenV_some, eval_tmp, eval_const, put_some, aBin_add, absV_int, Nat.reduceEqDiff, if_true, if_false, f4, wi]
        exact hid_mk ⟨i + 1, ⟨f0, .inr (by rw [hsn]; rfl), rfl, hlt, rfl⟩, by omega⟩
      · simp only [wpA_region, wpA_cond, condI_true, seqQ_normal, goI_out, goI_ops, opsA_nil, opsA_cons, opsA_guardS, gvI_same, slotAt_zero, slotAt_succ, stepA_move, stepA_pick, stepA_load, stepA_binOp, stepA_fieldAddr, stepA_indexAddr, stepA_call, thenV_some, pickV_true, eval_tmp, eval_const, put_some, aBin_leq, aBin_geq, absV_int, absV_bool, aField_eq, fieldGo_at, aLoad_eq, aPlace_at, Nat.reduceEqDiff, reduceCtorEq, List.map_cons, List.map_nil, Nat.zero_le, List.drop_zero, if_true, if_false, ft_47_0, ft_47_1, lt_3, f0, f3, f4, x1, l0, l1, c11, g1, g2]
        refine callI_pure cal27 hadd ?_
        simp only [wpA_region, seqQ_normal, blkQ_normal, endI_mk, andThen_normal, goI_out, goI_ops, opsA_nil, opsA_cons, stepA_move, stepA_assign, stepA_binOp, thenV_some, eval_tmp, eval_const, put_some, aBin_add, absV_int, Nat.reduceEqDiff, if_true, if_false, f4, wi]
        exact hid_mk ⟨i + 1, ⟨f0, .inr (by rw [hsn]; rfl), rfl, hlt, rfl⟩, by omega⟩
  · have d1 : decide ((i : Int) < ((l.length : Nat) : Int)) = false := decide_eq_false (by omega)
    rw [List.take_of_length_le (by omega)] at f3
    rcases f3 with ⟨hN, f3⟩ | f3
    · simp only [wpA_region, wpA_seq, wpA_cond, wpA_exit, wpA_ret, condI_false, seqQ_normal, seqQ_exit, blkQ_exit, endI_mk, goE, andThen_exit, goI_out, goI_ops, opsA_nil, opsA_cons, stepA_move, stepA_assign, stepA_binOp, stepA_len, thenV_some, eval_tmp, put_some, aBin_lss, aLen_imm, Nat.reduceEqDiff, reduceCtorEq, if_true, if_false, kt_22, f0, f3, f4, d1, retA_ret, Tryd.results24, resultsA_1]
      rw [hN]
      exact hid_mk ⟨h1, Cast.nil0 _, Keep.refl _ _⟩
    · simp only [wpA_region, wpA_seq, wpA_cond, wpA_exit, wpA_ret, condI_false, seqQ_normal, seqQ_exit, blkQ_exit, endI_mk, goE, andThen_exit, goI_out, goI_ops, opsA_nil, opsA_cons, stepA_move, stepA_assign, stepA_binOp, stepA_len, thenV_some, eval_tmp, put_some, aBin_lss, aLen_imm, Nat.reduceEqDiff, reduceCtorEq, if_true, if_false, kt_22, f0, f3, f4, d1, retA_ret, Tryd.results24, resultsA_1]
      exact hid_mk ⟨h1, Cast.refl _ _, Keep.refl _ _⟩
end Go.Proofs.YtcdpepdjeneelaaDoor.Pk
namespace Go.Proofs.YtcdpepdjeneelaaDoor.Pk
open Go Go.Proofs Go.Proofs.YtcdpepdjeneelaaDoor.Ab Go.Proofs.Vw
set_option linter.unusedVariables false
set_option linter.unusedSimpArgs false
/-! ### The reference: what the entries make of one task -/
structure OneJ where
  ep : Int
  tx : Int
  offs : List Int
  ord : List Int
  opn : List Int
  done : List Int
  at_ : List Int
def one0 : OneJ := ⟨0, 0, [], [], [], [], []⟩
def stepO (n : Int) (o : OneJ) (x : Ent) (i : Nat) : OneJ :=
  if ¬ (isT x = true ∧ x.task = n) then o
  else if x.kind = 5 then (if o.ep < x.epoch then { o with ep := x.epoch, opn := [] } else o)
  else if x.epoch ≠ o.ep ∨ x.txn ≠ o.tx then o
  else if x.kind = 2 then { o with opn := o.opn ++ [(i : Int)] }
  else if x.kind = 3 then ⟨o.ep, o.tx + 1, x.offs, o.ord ++ x.order, [], o.done ++ o.opn, o.at_ ++ List.replicate o.opn.length (i : Int)⟩
  else { o with tx := o.tx + 1, opn := [] }
def runO (n : Int) : OneJ → Nat → List Ent → OneJ
  | o, _, [] => o
  | o, i, x :: r => runO n (stepO n o x i) (i + 1) r
theorem runO_append (n : Int) (a b : List Ent) : ∀ (o : OneJ) (i : Nat), runO n o i (a ++ b) = runO n (runO n o i a) (i + a.length) b := by
  induction a with
  | nil => intro o i; rfl
  | cons x a ih =>
    intro o i
    have h1 : runO n o i (x :: a ++ b) = runO n (stepO n o x i) (i + 1) (a ++ b) := rfl
    have h2 : runO n o i (x :: a) = runO n (stepO n o x i) (i + 1) a := rfl
    rw [h1, h2, ih, List.length_cons, show i + 1 + a.length = i + (a.length + 1) by omega]
def ofL (l : List Ent) (n : Int) : OneJ := runO n one0 0 l
theorem ofL_snoc (l : List Ent) (x : Ent) (n : Int) : ofL (l ++ [x]) n = stepO n (ofL l n) x l.length := by
  unfold ofL
  rw [runO_append, Nat.zero_add]
  rfl
structure OBd (N : Nat) (o : OneJ) : Prop where
  op : o.opn.length ≤ N
  tx : 0 ≤ o.tx ∧ o.tx ≤ N
  ord : o.ord.length ≤ 256 * N
  dn : o.done.length ≤ N * N
  da : o.at_.length = o.done.length
theorem obd (l : List Ent) (n : Int) : OBd l.length (ofL l n) := by
  refine snoc_ind (p := fun l => OBd l.length (ofL l n)) (show OBd 0 one0 from ⟨by simp [one0], by simp [one0], by simp [one0], by simp [one0], rfl⟩) (fun l x b => ?_) l
  rw [ofL_snoc, List.length_append]
  generalize ofL l n = o at b
  generalize l.length = N at b
  obtain ⟨b1, b2, b3, b4, b5⟩ := b
  have hN : (N + [x].length) * (N + [x].length) = N * N + (N + N) + 1 := by rw [List.length_singleton, Nat.add_mul, Nat.mul_add]; omega
  have same : OBd (N + [x].length) o := ⟨by simp; omega, by simp only [List.length_singleton]; omega, by simp only [List.length_singleton]; omega, by omega, b5⟩
  unfold stepO
  split
  · exact same
  rename_i hT
  split
  · split
    · exact ⟨Nat.zero_le _, same.tx, same.ord, same.dn, b5⟩
    · exact same
  split
  · exact same
  split
  · exact ⟨by simp; omega, same.tx, same.ord, same.dn, b5⟩
  split
  · have hm : isT x = true := by
      by_cases h : isT x = true
      · exact h
      · exact absurd (fun hh => h hh.1) hT
    have hmay : mayB x = true := by unfold isT at hm; simp only [Bool.and_eq_true] at hm; exact hm.1
    have ho := ((may_iff x).1 hmay).2.2.2.2.2.2.2.2.1
    refine ⟨Nat.zero_le _, ?_, ?_, ?_, ?_⟩
    · simp only [List.length_singleton]; omega
    · simp only [List.length_append, List.length_singleton]; omega
    · simp only [List.length_append]; omega
    · simp only [List.length_append, List.length_replicate, b5]
  · exact ⟨Nat.zero_le _, by simp only [List.length_singleton]; omega, same.ord, same.dn, b5⟩
def oneC (n : Int) (o : OneJ) (k : Nat) : List V := [.int .i64 n, .int .i64 o.ep, .int .i64 o.tx, .imm o.offs.length (i64V o.offs), .imm o.ord.length (i64V o.ord), .int .i64 (k : Nat), .imm o.opn.length (i64V o.opn), .imm o.done.length (i64V o.done), .imm o.at_.length (i64V o.at_)]
theorem oneC_len (n : Int) (o : OneJ) (k : Nat) : (oneC n o k).length = 9 := rfl
theorem oneC_clo (n : Int) (o : OneJ) (k : Nat) : CloL (oneC n o k) := CloL.cons (Clo.int _ _) (CloL.cons (Clo.int _ _) (CloL.cons (Clo.int _ _) (CloL.cons (Clo.imm (i64V_clo _)) (CloL.cons (Clo.imm (i64V_clo _)) (CloL.cons (Clo.int _ _) (CloL.cons (Clo.imm (i64V_clo _)) (CloL.cons (Clo.imm (i64V_clo _)) (CloL.cons (Clo.imm (i64V_clo _)) CloL.nil))))))))
/-! #### Its block -/
abbrev Tg := Nat → Option Nat
/-- A row of numbers that bears a tag. -/
def SL (h : AHeap) (ow : Tg) (k : Nat) (v : V) (l : List Int) : Prop := Own h 3 1 v (i64V l) ∧ ∀ q, idOf v = some q → ow q = some k
theorem SL.on {h h' : AHeap} {ow ow' : Tg} {k : Nat} {v : V} {l : List Int} {own : Nat → Prop} (s : SL h ow k v l) (kp : Keep h h' own) (hn : ∀ q, own q → ow q ≠ some k) (hi : ∀ q t, ow q = some t → ow' q = some t) : SL h' ow' k v l :=
  ⟨s.1.keep kp fun q hq hh => hn q hh (s.2 q hq), fun q hq => hi _ _ (s.2 q hq)⟩
theorem SL.nil (h : AHeap) (ow : Tg) (k : Nat) : SL h ow k .snil [] := ⟨Own.snil _ _ _, fun q hq => by simp [idOf] at hq⟩
theorem SL.one {h : AHeap} {ow : Tg} {k : Nat} {v : V} {l : List Int} (s : SL h ow k v l) : v.one = true ∧ v.cells = some [v] := by
  rcases s.1 with ⟨rfl | rfl, _⟩ | ⟨_, _, _, _, _, rfl, _⟩ <;> exact ⟨rfl, rfl⟩
structure OS (h0 h : AHeap) (b : Nat) (n : Int) (o : OneJ) (fv ov pv dv av : V) (ow : Tg) : Prop where
  keep : Keep h0 h none_
  old : ∀ q k, ow q = some k → h0.n ≤ q ∧ q < h.n
  tb : ow b = some 0
  g : h.get b = .cells [.int .i64 n, .int .i64 o.ep, .int .i64 o.tx, fv, ov, .int .i64 0, pv, dv, av] 64 none
  hf : OffV fv o.offs
  so : SL h ow 1 ov o.ord
  sp : SL h ow 2 pv o.opn
  sd : SL h ow 3 dv o.done
  sa : SL h ow 4 av o.at_
theorem OS.on {h0 h h' : AHeap} {b : Nat} {n : Int} {o : OneJ} {fv ov pv dv av : V} {ow : Tg} (w : OS h0 h b n o fv ov pv dv av ow) (k : Keep h h' none_) : OS h0 h' b n o fv ov pv dv av ow :=
  ⟨w.keep.trans' k, fun q t hq => ⟨(w.old q t hq).1, Nat.lt_of_lt_of_le (w.old q t hq).2 k.n⟩, w.tb, (k.get b (w.old _ _ w.tb).2 (by simp [none_])).trans w.g, w.hf,
    w.so.on k (fun _ hh => hh.elim) (fun _ _ hh => hh), w.sp.on k (fun _ hh => hh.elim) (fun _ _ hh => hh), w.sd.on k (fun _ hh => hh.elim) (fun _ _ hh => hh), w.sa.on k (fun _ hh => hh.elim) (fun _ _ hh => hh)⟩
/-- The block's cells are others, the rows as they were, or new ones. -/
theorem OS.put {h0 h h' : AHeap} {b : Nat} {n : Int} {o o' : OneJ} {fv ov pv dv av fv' ov' pv' dv' av' : V} {ow ow' : Tg} {own : Nat → Prop} (w : OS h0 h b n o fv ov pv dv av ow) (k : Keep h h' own) (hown : ∀ q, own q → ∃ j, ow q = some j)
    (hi : ∀ q t, ow q = some t → ow' q = some t) (ho : ∀ q t, ow' q = some t → ow q = some t ∨ (h.n ≤ q ∧ q < h'.n)) (hf : OffV fv' o'.offs) (so : SL h' ow' 1 ov' o'.ord) (sp : SL h' ow' 2 pv' o'.opn) (sd : SL h' ow' 3 dv' o'.done) (sa : SL h' ow' 4 av' o'.at_) :
    OS h0 (h'.set b (.cells [.int .i64 n, .int .i64 o'.ep, .int .i64 o'.tx, fv', ov', .int .i64 0, pv', dv', av'] 64 none)) b n o' fv' ov' pv' dv' av' ow' := by
  have kS : Keep h' (h'.set b (.cells [.int .i64 n, .int .i64 o'.ep, .int .i64 o'.tx, fv', ov', .int .i64 0, pv', dv', av'] 64 none)) (· = b) := Keep.set _ _ _
  have tb := hi _ _ w.tb
  have hne : ∀ j, j ≠ 0 → ∀ q, q = b → ow' q ≠ some j := fun j hj q hq hh => by rw [hq, tb] at hh; injection hh with hh; exact hj hh.symm
  refine ⟨(w.keep.trans k fun q hq hh => by obtain ⟨j, hj⟩ := hown q hh; have := (w.old _ _ hj).1; omega).trans kS fun q hq hh => by have := (w.old _ _ w.tb).1; omega, fun q t hq => ?_, tb, get_set_same, hf,
    so.on kS (hne 1 (by decide)) (fun _ _ hh => hh), sp.on kS (hne 2 (by decide)) (fun _ _ hh => hh), sd.on kS (hne 3 (by decide)) (fun _ _ hh => hh), sa.on kS (hne 4 (by decide)) (fun _ _ hh => hh)⟩
  rw [set_n]
  rcases ho q t hq with hh | hh
  · have := w.old q t hh; have := k.n; omega
  · have := w.keep.n; omega
/-- Something more behind a row with a tag. -/
theorem SL.app {h : AHeap} {ow : Tg} {k : Nat} {v : V} {l : List Int} (s : SL h ow k v l) (hold : ∀ q t, ow q = some t → q < h.n) (x : Int) (hl : l.length ≤ 2 ^ 40) :
    ∃ v' h' ow', aAppend Tryd.prog 39 39 v (.sl h.n 0 1 1) (h.push (.cells [.int .i64 x] 3 none)) = some (v', h') ∧ SL h' ow' k v' (l ++ [x]) ∧ Keep h h' (fun q => isId v q) ∧ (∀ q t, ow q = some t → ow' q = some t) ∧ (∀ q t, ow' q = some t → ow q = some t ∨ (h.n ≤ q ∧ q < h'.n)) := by
  obtain ⟨v', h', ea, o1, k1, d1⟩ := append_elemM (P := Tryd.prog) (t := 39) sl_39 (by decide) s.1 (xs := [.int .i64 x]) rfl rfl (fun m hm => by
    change m * 1 = _ + 1 at hm
    rw [i64V_length] at hm
    exact ⟨by simp only [lim]; omega, by simp only [lim]; omega⟩)
  obtain ⟨ow', how⟩ : ∃ f : Tg, f = fun q => if q < h.n then ow q else if idOf v' = some q then some k else ow q := ⟨_, rfl⟩
  have hi : ∀ q t, ow q = some t → ow' q = some t := fun q t hq => by rw [how]; simp only; rw [if_pos (hold q t hq)]; exact hq
  refine ⟨v', h', ow', ea, ⟨by rw [i64V_append]; exact o1, fun q hq => ?_⟩, k1, hi, fun q t hq => ?_⟩
  · rcases d1 with d | d
    · exact hi _ _ (s.2 q (d ▸ hq))
    · have := d q hq
      rw [how]; simp only; rw [if_neg (by omega), if_pos hq]
  · rw [how] at hq
    simp only at hq
    split at hq
    · exact .inl hq
    · split at hq
      · rename_i h2; exact .inr ⟨by omega, o1.lt _ h2⟩
      · exact .inl hq
end Go.Proofs.YtcdpepdjeneelaaDoor.Pk
