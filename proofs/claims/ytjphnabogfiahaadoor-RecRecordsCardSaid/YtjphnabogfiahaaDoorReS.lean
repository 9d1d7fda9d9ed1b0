/-
  What functions of the program do, told of abstract states. Conditions: as each theorem says.
-/
import Derived.Test.YtjphnabogfiahaaDoorReR
import Derived.Test.YtjphnabogfiahaaDoorAbD
namespace Go.Proofs.YtjphnabogfiahaaDoor.Pk
open Go Go.Proofs Go.Proofs.YtjphnabogfiahaaDoor.Ab
set_option linter.unusedVariables false
set_option linter.unusedSimpArgs false

theorem rFits (n : Int) (h : AHeap) : Pure Tryd.prog 40 [.int .i64 n] h (.bool (fit n)) := by
  refine SCalls.enterI (c := _) Tryd.func40 rfl (by kernel_rfl) (by simp) ?_
  by_cases h1 : 0 ≤ n
  · simp only [wpA_region, wpA_seq, wpA_ret, seqQ_normal, endI_mk, goI_out, goI_ops, opsA_nil, opsA_cons, opsA_guardS, gvI_same, slotAt_zero, slotAt_succ, stepA_move, stepA_assign, stepA_pick, stepA_binOp, thenV_some, pickV_true, eval_tmp, eval_const, put_some, enterF_zero, enterF_succ, aBin_leq, aBin_geq, absV_int, absV_bool, decide_true, Nat.reduceEqDiff, reduceCtorEq, if_true, if_false, h1, retA_ret, Tryd.results40, resultsA_1]
    exact hid_mk ⟨by simp [fit, h1], rfl⟩
  · simp only [wpA_region, wpA_seq, wpA_ret, seqQ_normal, endI_mk, goI_out, goI_ops, opsA_nil, opsA_cons, opsA_guardS, gvI_ft, slotAt_zero, slotAt_succ, stepA_move, stepA_assign, stepA_pick, stepA_binOp, thenV_some, pickV_false, eval_tmp, eval_const, put_some, enterF_zero, enterF_succ, aBin_geq, absV_int, absV_bool, decide_false, Nat.reduceEqDiff, reduceCtorEq, if_true, if_false, h1, retA_ret, Tryd.results40, resultsA_1]
    exact hid_mk ⟨by simp [fit, h1], rfl⟩
set_option maxRecDepth 10000 in
theorem rAll (l : List Int) (h : AHeap) (hl : l.length ≤ 2 ^ 47) : Pure Tryd.prog 41 [.imm l.length (i64V l)] h (.bool (l.all fit)) := by
  refine SCalls.enterI (c := _) Tryd.func41 rfl (by kernel_rfl) (by simp) ?_
  simp only [wpA_region, wpA_seq, wpA_block, wpA_loop, seqQ_normal, goI_out, goI_ops, opsA_nil, opsA_cons, stepA_assign, eval_const, absV_int, absV_bool]
  refine SWp.loopG (α := Nat) (fun i f h' => h' = h ∧ f 0 = .imm l.length (i64V l) ∧ f 3 = .int .i64 (i : Nat) ∧ i ≤ l.length ∧ (l.take i).all fit = true) (fun i => l.length - i) 0
    ⟨rfl, rfl, rfl, Nat.zero_le _, rfl⟩ ?_
  rintro i f h' ⟨rfl, f0, f3, hi, ha⟩
  refine wpI_sound (by kernel_rfl) ?_
  by_cases hlast : i < l.length
  · have d1 : decide ((i : Int) < ((l.length : Nat) : Int)) = true := by simp; omega
    have hx := i64V_ix (l := l) hlast ss_33
    have hw := inc64 hlast (by omega)
    simp only [wpA_skip, wpA_region, wpA_seq, wpA_cond, wpA_block, condI_true, seqQ_normal, goI_out, goI_ops, opsA_nil, opsA_cons, stepA_move, stepA_load, stepA_binOp, stepA_indexAddr, stepA_len, stepA_call, thenV_some, eval_tmp, put_some, aBin_lss, aLoad_eq, loadGo_one, aPlace_at, aLen_imm, Nat.reduceEqDiff, reduceCtorEq, List.map_cons, List.map_nil, if_true, if_false, kt_33, lt_3, f0, f3, d1, hx]
    refine callI_pure cal40 (rFits l[i] _) ?_
    cases hf : fit l[i]
    · have hG : l.all fit = false := by
        cases hh : l.all fit with
        | false => rfl
        | true => have := List.all_eq_true.1 hh _ (List.getElem_mem hlast); rw [hf] at this; cases this
      simp only [wpA_region, wpA_seq, wpA_cond, wpA_ret, condI_true, seqQ_normal, seqQ_ret, blkQ_ret, endI_mk, goE, andThen_ret, goI_out, goI_ops, opsA_nil, opsA_cons, stepA_assign, stepA_unOp, thenV_some, eval_tmp, eval_const, put_some, aUn_not, absV_bool, Nat.reduceEqDiff, if_true, if_false, Bool.not_false, retA_ret, Tryd.results41, resultsA_1]
      exact hid_mk ⟨by rw [hG], rfl⟩
    · simp only [wpA_skip, wpA_region, wpA_cond, condI_false, seqQ_normal, blkQ_normal, endI_mk, andThen_normal, goI_out, goI_ops, opsA_nil, opsA_cons, stepA_move, stepA_assign, stepA_binOp, stepA_unOp, thenV_some, eval_tmp, eval_const, put_some, aBin_add, aUn_not, absV_int, Nat.reduceEqDiff, if_true, if_false, Bool.not_true, f3, hw]
      refine hid_mk ⟨i + 1, ⟨rfl, f0, rfl, hlast, ?_⟩, by omega⟩
      rw [List.take_succ_eq_append_getElem hlast, List.all_append, ha]
      simp [hf]
  · have d1 : decide ((i : Int) < ((l.length : Nat) : Int)) = false := by simp; omega
    have hG : l.all fit = true := by rw [show i = l.length by omega, List.take_length] at ha; exact ha
    simp only [wpA_region, wpA_seq, wpA_cond, wpA_exit, wpA_ret, condI_false, seqQ_normal, seqQ_exit, blkQ_exit, endI_mk, goE, andThen_exit, goI_out, goI_ops, opsA_nil, opsA_cons, stepA_move, stepA_assign, stepA_binOp, stepA_len, thenV_some, eval_tmp, eval_const, put_some, aBin_lss, absV_bool, aLen_imm, Nat.reduceEqDiff, reduceCtorEq, if_true, if_false, kt_33, f0, f3, d1, retA_ret, Tryd.results41, resultsA_1]
    exact hid_mk ⟨by rw [hG], rfl⟩
/-- What the kinds have no part in. -/
def usB (k : Nat) (bt be bx bl br bd bo bq : Bool) : Bool :=
  (decide (2 ≤ k ∧ k ≤ 5) || (!bt && !be)) && (decide (2 ≤ k ∧ k ≤ 4) || !bx) && (decide (k ≤ 2) || (!bl && !br)) && (decide (k = 2) || !bd) && (decide (k = 3) || (!bo && !bq))
theorem useB_us (x : Ent) {k : Nat} (hk : x.kind = (k : Int)) : useB x = usB k (x.task != 0) (x.epoch != 0) (x.txn != 0) (x.log != 0) (decide (x.r ≠ zR)) x.del (!(((x.offs.length : Nat) : Int) == 0)) (!(((x.order.length : Nat) : Int) == 0)) := by
  have e1 : ∀ n : Int, (n != 0) = !(n == 0) := fun _ => rfl
  have e2 : ∀ n : Nat, (((n : Nat) : Int) == 0) = (n == 0) := fun n => by rw [Bool.eq_iff_iff]; simp
  have e3 : decide (x.r ≠ zR) = !decide (x.r = zR) := by by_cases h : x.r = zR <;> simp [h]
  have e4 : decide (2 ≤ x.kind ∧ x.kind ≤ 5) = decide (2 ≤ k ∧ k ≤ 5) := by rw [decide_eq_decide]; omega
  have e5 : decide (2 ≤ x.kind ∧ x.kind ≤ 4) = decide (2 ≤ k ∧ k ≤ 4) := by rw [decide_eq_decide]; omega
  have e6 : decide (x.kind ≤ 2) = decide (k ≤ 2) := by rw [decide_eq_decide]; omega
  have e7 : decide (x.kind = 2) = decide (k = 2) := by rw [decide_eq_decide]; omega
  have e8 : decide (x.kind = 3) = decide (k = 3) := by rw [decide_eq_decide]; omega
  rw [useB, usB, e1, e1, e1, e1, e2, e2, e3, e4, e5, e6, e7, e8]
  simp only [Bool.not_not]
set_option maxHeartbeats 4000000 in
set_option maxRecDepth 10000 in
theorem rMay (x : Ent) (h : AHeap) (hlen : eLen x) : Pure Tryd.prog 20 [.agg (entE x)] h (.bool (mayB x)) := by
  refine Pure.val (Clo.bool _) ?_
  refine SCalls.enterI (c := _) Tryd.func20 rfl (by kernel_rfl) (by simp) ?_
  have hc : (V.agg (entE x)).cells = some [.int .i64 x.kind, .int .i64 x.task, .int .i64 x.epoch, .int .i64 x.txn, .int .i64 x.log, .int .i64 x.r.k, .int .i64 x.r.v, .int .i64 x.r.t, .bool x.del, .imm x.offs.length (i64V x.offs), .imm x.order.length (i64V x.order)] := rfl
  have hno : ∀ q : Bool, (mayB x = true → q = true) → q = false → mayB x = false := fun q h1 h2 => by
    cases hh : mayB x with
    | false => rfl
    | true => rw [h1 hh] at h2; cases h2
  have hi := fun hh : mayB x = true => (may_iff x).1 hh
  by_cases c1 : x.kind < 1
  · have hG : mayB x = false := by cases hh : mayB x with | false => rfl | true => have := (hi hh).1; omega
    simp only [wpA_region, wpA_seq, wpA_cond, wpA_ret, condI_true, seqQ_normal, seqQ_ret, endI_mk, goI_out, goI_ops, opsA_nil, opsA_cons, opsA_guardS, gvI_tf, slotAt_zero, slotAt_succ, stepA_move, stepA_assign, stepA_pick, stepA_box, stepA_load, stepA_binOp, stepA_fieldAddr, thenV_some, thenH_some, pickV_true, eval_tmp, eval_const, put_some, enterF_zero, enterF_succ, aBin_lss, absV_int, absV_bool, aField_eq, fieldGo_ptr, aLoad_eq, loadGo_one, aPlace_ptr, dropC_cells, aBox_eq, get_push_new, decide_true, Nat.reduceEqDiff, Nat.reduceAdd, Option.map_some, Nat.add_zero, Nat.zero_add, Nat.zero_le, List.length_cons, List.length_nil, List.drop_zero, if_true, if_false, ft_35_0, lt_3, hc, c1, retA_ret, Tryd.results20, resultsA_1]
    exact hid_mk ⟨by rw [hG], Keep.push _ _ _⟩
  by_cases c2 : 6 < x.kind
  · have hG : mayB x = false := by cases hh : mayB x with | false => rfl | true => have := (hi hh).1; omega
    simp only [wpA_region, wpA_seq, wpA_cond, wpA_ret, condI_true, seqQ_normal, seqQ_ret, endI_mk, goI_out, goI_ops, opsA_nil, opsA_cons, opsA_guardS, gvI_same, gvI_tf, slotAt_zero, slotAt_succ, stepA_move, stepA_assign, stepA_pick, stepA_box, stepA_load, stepA_binOp, stepA_fieldAddr, thenV_some, thenH_some, pickV_true, pickV_false, eval_tmp, eval_const, put_some, enterF_zero, enterF_succ, aBin_lss, aBin_gtr, absV_int, absV_bool, aField_eq, fieldGo_ptr, aLoad_eq, loadGo_one, aPlace_ptr, dropC_cells, aBox_eq, get_push_new, decide_true, decide_false, Nat.reduceEqDiff, Nat.reduceAdd, Option.map_some, Nat.add_zero, Nat.zero_add, Nat.zero_le, List.length_cons, List.length_nil, List.drop_zero, if_true, if_false, ft_35_0, lt_3, hc, c1, c2, retA_ret, Tryd.results20, resultsA_1]
    exact hid_mk ⟨by rw [hG], Keep.push _ _ _⟩
  simp only [wpA_region, wpA_seq, seqQ_normal, goI_out, goI_ops, opsA_nil, opsA_cons, opsA_guardS, gvI_same, slotAt_zero, slotAt_succ, stepA_move, stepA_assign, stepA_pick, stepA_box, stepA_load, stepA_binOp, stepA_fieldAddr, stepA_call, thenV_some, thenH_some, pickV_false, eval_tmp, eval_const, put_some, enterF_zero, enterF_succ, aBin_lss, aBin_gtr, absV_int, absV_bool, aField_eq, fieldGo_ptr, aLoad_eq, loadGo_one, aPlace_ptr, dropC_cells, aBox_eq, get_push_new, decide_false, Nat.reduceEqDiff, Nat.reduceAdd, Nat.reduceLeDiff, List.map_cons, List.map_nil, Option.map_some, Nat.add_zero, Nat.zero_add, Nat.zero_le, List.length_cons, List.length_nil, List.drop_zero, List.drop_succ_cons, if_true, if_false, ft_35_0, ft_35_1, lt_3, hc, c1, c2]
  obtain ⟨H, hH⟩ : ∃ y, y = h.push (.cells (entE x) 35 none) := ⟨_, rfl⟩
  have hg : H.get h.n = .cells [.int .i64 x.kind, .int .i64 x.task, .int .i64 x.epoch, .int .i64 x.txn, .int .i64 x.log, .int .i64 x.r.k, .int .i64 x.r.v, .int .i64 x.r.t, .bool x.del, .imm x.offs.length (i64V x.offs), .imm x.order.length (i64V x.order)] 35 none := by rw [hH]; exact get_push_new
  have kH : Keep h H none_ := by rw [hH]; exact Keep.push _ _ _
  unfold entE at hH
  rw [← hH]
  clear hH
  refine callI_pureG (fun f => f 1 = .ptr h.n 0 ∧ f 17 = .bool false ∧ f 20 = .bool (fit x.task)) cal40 (rFits x.task H) ⟨rfl, rfl, rfl⟩ ?_
  skip
  rintro f ⟨u1, u2, u3⟩
  have i0 := hno (fit x.task) (fun hh => (hi hh).2.1)
  cases g0 : fit x.task <;> rw [g0] at u3
  · simp only [wpA_region, wpA_seq, wpA_cond, wpA_ret, condI_true, seqQ_normal, seqQ_ret, endI_mk, goI_out, goI_ops, opsA_nil, opsA_cons, opsA_guardS, gvI_same, gvI_tf, slotAt_zero, slotAt_succ, stepA_move, stepA_assign, stepA_pick, stepA_unOp, thenV_some, pickV_true, pickV_false, eval_tmp, eval_const, put_some, aUn_not, absV_bool, Nat.reduceEqDiff, if_true, if_false, Bool.not_false, u2, u3, retA_ret, Tryd.results20, resultsA_1]
    exact hid_mk ⟨by rw [i0 g0], kH⟩
  simp only [goI_ops, opsA_cons, opsA_guardS, gvI_same, slotAt_zero, slotAt_succ, stepA_move, stepA_pick, stepA_load, stepA_unOp, stepA_fieldAddr, stepA_call, thenV_some, pickV_false, eval_tmp, eval_const, put_some, aUn_not, absV_bool, aField_eq, fieldGo_ptr, aLoad_eq, loadGo_one, aPlace_ptr, dropC_cells, Nat.reduceEqDiff, Nat.reduceAdd, Nat.reduceLeDiff, List.map_cons, List.map_nil, Nat.zero_add, List.length_cons, List.length_nil, List.drop_zero, List.drop_succ_cons, if_true, if_false, Bool.not_true, ft_35_2, lt_3, hg, u1, u2, u3]
  refine callI_pureG (fun f => f 1 = .ptr h.n 0 ∧ f 23 = .bool false ∧ f 26 = .bool (fit x.epoch)) cal40 (rFits x.epoch H) ⟨u1, rfl, rfl⟩ ?_
  clear u1 u2 u3
  rintro f ⟨u1, u2, u3⟩
  have i1 := hno (fit x.epoch) (fun hh => (hi hh).2.2.1)
  cases g1 : fit x.epoch <;> rw [g1] at u3
  · simp only [wpA_region, wpA_seq, wpA_cond, wpA_ret, condI_true, seqQ_normal, seqQ_ret, endI_mk, goI_out, goI_ops, opsA_nil, opsA_cons, opsA_guardS, gvI_same, gvI_tf, slotAt_zero, slotAt_succ, stepA_move, stepA_assign, stepA_pick, stepA_unOp, thenV_some, pickV_true, pickV_false, eval_tmp, eval_const, put_some, aUn_not, absV_bool, Nat.reduceEqDiff, if_true, if_false, Bool.not_false, u2, u3, retA_ret, Tryd.results20, resultsA_1]
    exact hid_mk ⟨by rw [i1 g1], kH⟩
  simp only [goI_ops, opsA_cons, opsA_guardS, gvI_same, slotAt_zero, slotAt_succ, stepA_move, stepA_pick, stepA_load, stepA_unOp, stepA_fieldAddr, stepA_call, thenV_some, pickV_false, eval_tmp, eval_const, put_some, aUn_not, absV_bool, aField_eq, fieldGo_ptr, aLoad_eq, loadGo_one, aPlace_ptr, dropC_cells, Nat.reduceEqDiff, Nat.reduceAdd, Nat.reduceLeDiff, List.map_cons, List.map_nil, Nat.zero_add, List.length_cons, List.length_nil, List.drop_zero, List.drop_succ_cons, if_true, if_false, Bool.not_true, ft_35_3, lt_3, hg, u1, u2, u3]
  refine callI_pureG (fun f => f 1 = .ptr h.n 0 ∧ f 29 = .bool false ∧ f 32 = .bool (fit x.txn)) cal40 (rFits x.txn H) ⟨u1, rfl, rfl⟩ ?_
  clear u1 u2 u3
  rintro f ⟨u1, u2, u3⟩
  have i2 := hno (fit x.txn) (fun hh => (hi hh).2.2.2.1)
  cases g2 : fit x.txn <;> rw [g2] at u3
  · simp only [wpA_region, wpA_seq, wpA_cond, wpA_ret, condI_true, seqQ_normal, seqQ_ret, endI_mk, goI_out, goI_ops, opsA_nil, opsA_cons, opsA_guardS, gvI_same, gvI_tf, slotAt_zero, slotAt_succ, stepA_move, stepA_assign, stepA_pick, stepA_unOp, thenV_some, pickV_true, pickV_false, eval_tmp, eval_const, put_some, aUn_not, absV_bool, Nat.reduceEqDiff, if_true, if_false, Bool.not_false, u2, u3, retA_ret, Tryd.results20, resultsA_1]
    exact hid_mk ⟨by rw [i2 g2], kH⟩
  simp only [goI_ops, opsA_cons, opsA_guardS, gvI_same, slotAt_zero, slotAt_succ, stepA_move, stepA_pick, stepA_load, stepA_unOp, stepA_fieldAddr, stepA_call, thenV_some, pickV_false, eval_tmp, eval_const, put_some, aUn_not, absV_bool, aField_eq, fieldGo_ptr, aLoad_eq, loadGo_one, aPlace_ptr, dropC_cells, Nat.reduceEqDiff, Nat.reduceAdd, Nat.reduceLeDiff, List.map_cons, List.map_nil, Nat.zero_add, List.length_cons, List.length_nil, List.drop_zero, List.drop_succ_cons, if_true, if_false, Bool.not_true, ft_35_4, lt_3, hg, u1, u2, u3]
  refine callI_pureG (fun f => f 1 = .ptr h.n 0 ∧ f 35 = .bool false ∧ f 38 = .bool (fit x.log)) cal40 (rFits x.log H) ⟨u1, rfl, rfl⟩ ?_
  clear u1 u2 u3
  rintro f ⟨u1, u2, u3⟩
  have i3 := hno (fit x.log) (fun hh => (hi hh).2.2.2.2.1)
  cases g3 : fit x.log <;> rw [g3] at u3
  · simp only [wpA_region, wpA_seq, wpA_cond, wpA_ret, condI_true, seqQ_normal, seqQ_ret, endI_mk, goI_out, goI_ops, opsA_nil, opsA_cons, opsA_guardS, gvI_same, gvI_tf, slotAt_zero, slotAt_succ, stepA_move, stepA_assign, stepA_pick, stepA_unOp, thenV_some, pickV_true, pickV_false, eval_tmp, eval_const, put_some, aUn_not, absV_bool, Nat.reduceEqDiff, if_true, if_false, Bool.not_false, u2, u3, retA_ret, Tryd.results20, resultsA_1]
    exact hid_mk ⟨by rw [i3 g3], kH⟩
  simp only [goI_ops, opsA_cons, opsA_guardS, gvI_same, slotAt_zero, slotAt_succ, stepA_move, stepA_pick, stepA_load, stepA_unOp, stepA_fieldAddr, stepA_call, thenV_some, pickV_false, eval_tmp, eval_const, put_some, aUn_not, absV_bool, aField_eq, fieldGo_ptr, aLoad_eq, loadGo_one, aPlace_ptr, dropC_cells, Nat.reduceEqDiff, Nat.reduceAdd, Nat.reduceLeDiff, List.map_cons, List.map_nil, Nat.zero_add, List.length_cons, List.length_nil, List.drop_zero, List.drop_succ_cons, if_true, if_false, Bool.not_true, ft_35_7, lt_33, hg, u1, u2, u3]
  refine callI_pureG (fun f => f 1 = .ptr h.n 0 ∧ f 41 = .bool false ∧ f 44 = .bool (x.offs.all fit)) cal41 (rAll x.offs H hlen.1) ⟨u1, rfl, rfl⟩ ?_
  clear u1 u2 u3
  rintro f ⟨u1, u2, u3⟩
  have i4 := hno (x.offs.all fit) (fun hh => List.all_eq_true.2 (hi hh).2.2.2.2.2.2.2.1)
  cases g4 : x.offs.all fit <;> rw [g4] at u3
  · simp only [wpA_region, wpA_seq, wpA_cond, wpA_ret, condI_true, seqQ_normal, seqQ_ret, endI_mk, goI_out, goI_ops, opsA_nil, opsA_cons, opsA_guardS, gvI_same, gvI_tf, slotAt_zero, slotAt_succ, stepA_move, stepA_assign, stepA_pick, stepA_unOp, thenV_some, pickV_true, pickV_false, eval_tmp, eval_const, put_some, aUn_not, absV_bool, Nat.reduceEqDiff, if_true, if_false, Bool.not_false, u2, u3, retA_ret, Tryd.results20, resultsA_1]
    exact hid_mk ⟨by rw [i4 g4], kH⟩
  simp only [goI_ops, opsA_cons, opsA_guardS, gvI_same, slotAt_zero, slotAt_succ, stepA_move, stepA_pick, stepA_load, stepA_unOp, stepA_fieldAddr, stepA_call, thenV_some, pickV_false, eval_tmp, eval_const, put_some, aUn_not, absV_bool, aField_eq, fieldGo_ptr, aLoad_eq, loadGo_one, aPlace_ptr, dropC_cells, Nat.reduceEqDiff, Nat.reduceAdd, Nat.reduceLeDiff, List.map_cons, List.map_nil, Nat.zero_add, List.length_cons, List.length_nil, List.drop_zero, List.drop_succ_cons, if_true, if_false, Bool.not_true, ft_35_8, lt_33, hg, u1, u2, u3]
  refine callI_pureG (fun f => f 1 = .ptr h.n 0 ∧ f 47 = .bool false ∧ f 50 = .bool (x.order.all fit)) cal41 (rAll x.order H hlen.2) ⟨u1, rfl, rfl⟩ ?_
  clear u1 u2 u3
  rintro f ⟨u1, u2, u3⟩
  have i5 := hno (x.order.all fit) (fun hh => List.all_eq_true.2 (hi hh).2.2.2.2.2.2.2.2.2.1)
  cases g5 : x.order.all fit <;> rw [g5] at u3
  · simp only [wpA_region, wpA_seq, wpA_cond, wpA_ret, condI_true, seqQ_normal, seqQ_ret, endI_mk, goI_out, goI_ops, opsA_nil, opsA_cons, opsA_guardS, gvI_same, gvI_tf, slotAt_zero, slotAt_succ, stepA_move, stepA_assign, stepA_pick, stepA_unOp, thenV_some, pickV_true, pickV_false, eval_tmp, eval_const, put_some, aUn_not, absV_bool, Nat.reduceEqDiff, if_true, if_false, Bool.not_false, u2, u3, retA_ret, Tryd.results20, resultsA_1]
    exact hid_mk ⟨by rw [i5 g5], kH⟩
  simp only [goI_ops, opsA_cons, opsA_guardS, gvI_same, slotAt_zero, slotAt_succ, stepA_move, stepA_pick, stepA_load, stepA_unOp, stepA_fieldAddr, stepA_call, thenV_some, pickV_false, eval_tmp, eval_const, put_some, aUn_not, absV_bool, aField_eq, fieldGo_ptr, aLoad_eq, loadGo_one, aPlace_ptr, dropC_cells, Nat.reduceEqDiff, Nat.reduceAdd, Nat.reduceLeDiff, List.map_cons, List.map_nil, Nat.zero_add, List.length_cons, List.length_nil, List.drop_zero, List.drop_succ_cons, if_true, if_false, Bool.not_true, ft_23_2, ft_35_5, lt_2, hg, u1, u2, u3]
  refine callI_pureG (fun f => f 1 = .ptr h.n 0 ∧ f 53 = .bool false ∧ f 57 = .bool (timeOk x.r.t)) cal26 (rTime x.r.t H) ⟨u1, rfl, rfl⟩ ?_
  clear u1 u2 u3
  rintro f ⟨u1, u2, u3⟩
  have i6 := hno (timeOk x.r.t) (fun hh => (hi hh).2.2.2.2.2.1)
  cases g6 : timeOk x.r.t <;> rw [g6] at u3
  · simp only [wpA_region, wpA_seq, wpA_cond, wpA_ret, condI_true, seqQ_normal, seqQ_ret, endI_mk, goI_out, goI_ops, opsA_nil, opsA_cons, opsA_guardS, gvI_same, gvI_tf, slotAt_zero, slotAt_succ, stepA_move, stepA_assign, stepA_pick, stepA_unOp, thenV_some, pickV_true, pickV_false, eval_tmp, eval_const, put_some, aUn_not, absV_bool, Nat.reduceEqDiff, if_true, if_false, Bool.not_false, u2, u3, retA_ret, Tryd.results20, resultsA_1]
    exact hid_mk ⟨by rw [i6 g6], kH⟩
  by_cases c3 : 8 < x.offs.length
  · have c3' : decide ((8 : Int) < ((x.offs.length : Nat) : Int)) = true := decide_eq_true (by omega)
    have hG : mayB x = false := by cases hh : mayB x with | false => rfl | true => have := (hi hh).2.2.2.2.2.2.1; omega
    simp only [wpA_region, wpA_seq, wpA_cond, wpA_ret, condI_true, seqQ_normal, seqQ_ret, endI_mk, goI_out, goI_ops, opsA_nil, opsA_cons, opsA_guardS, gvI_same, gvI_tf, slotAt_zero, slotAt_succ, stepA_move, stepA_assign, stepA_pick, stepA_load, stepA_binOp, stepA_unOp, stepA_fieldAddr, stepA_len, thenV_some, pickV_true, pickV_false, eval_tmp, eval_const, put_some, aBin_gtr, aUn_not, absV_int, absV_bool, aField_eq, fieldGo_ptr, aLoad_eq, loadGo_one, aPlace_ptr, dropC_cells, aLen_imm, Nat.reduceEqDiff, Nat.reduceAdd, Nat.reduceLeDiff, Nat.zero_add, List.length_cons, List.length_nil, List.drop_zero, List.drop_succ_cons, if_true, if_false, Bool.not_true, ft_35_7, kt_33, lt_33, hg, u1, u2, u3, c3', retA_ret, Tryd.results20, resultsA_1]
    exact hid_mk ⟨by rw [hG], kH⟩
  have c3' : decide ((8 : Int) < ((x.offs.length : Nat) : Int)) = false := decide_eq_false (by omega)
  by_cases c4 : 256 < x.order.length
  · have c4' : decide ((256 : Int) < ((x.order.length : Nat) : Int)) = true := decide_eq_true (by omega)
    have hG : mayB x = false := by cases hh : mayB x with | false => rfl | true => have := (hi hh).2.2.2.2.2.2.2.2.1; omega
    simp only [wpA_region, wpA_seq, wpA_cond, wpA_ret, condI_true, seqQ_normal, seqQ_ret, endI_mk, goI_out, goI_ops, opsA_nil, opsA_cons, opsA_guardS, gvI_same, slotAt_zero, slotAt_succ, stepA_move, stepA_assign, stepA_pick, stepA_load, stepA_binOp, stepA_unOp, stepA_fieldAddr, stepA_len, thenV_some, pickV_false, eval_tmp, eval_const, put_some, aBin_gtr, aUn_not, absV_int, absV_bool, aField_eq, fieldGo_ptr, aLoad_eq, loadGo_one, aPlace_ptr, dropC_cells, aLen_imm, Nat.reduceEqDiff, Nat.reduceAdd, Nat.reduceLeDiff, Nat.zero_add, List.length_cons, List.length_nil, List.drop_zero, List.drop_succ_cons, if_true, if_false, Bool.not_true, ft_35_7, ft_35_8, kt_33, lt_33, hg, u1, u2, u3, c3', c4', retA_ret, Tryd.results20, resultsA_1]
    exact hid_mk ⟨by rw [hG], kH⟩
  have c4' : decide ((256 : Int) < ((x.order.length : Nat) : Int)) = false := decide_eq_false (by omega)
  have hU : mayB x = useB x := by
    rw [Bool.eq_iff_iff, may_iff]
    exact ⟨fun hh => hh.2.2.2.2.2.2.2.2.2.2, fun hh => ⟨by omega, g0, g1, g2, g3, g6, by omega, List.all_eq_true.1 g4, by omega, List.all_eq_true.1 g5, hh⟩⟩
  obtain ⟨k, hk, hk1, hk6⟩ : ∃ k : Nat, x.kind = (k : Int) ∧ 1 ≤ k ∧ k ≤ 6 := ⟨x.kind.toNat, by omega, by omega, by omega⟩
  have rz := rcd_neq x.r.k x.r.v x.r.t (xo := .tmp 127) (yo := .tmp 128)
  rw [hU, useB_us x hk]
  rw [show (⟨x.r.k, x.r.v, x.r.t⟩ : Rcd) = x.r from rfl] at rz
  generalize hbt : (x.task != 0) = bt
  generalize hbe : (x.epoch != 0) = be
  generalize hbx : (x.txn != 0) = bx
  generalize hbl : (x.log != 0) = bl
  generalize decide (x.r ≠ zR) = br at rz
  generalize hbo : (((x.offs.length : Nat) : Int) == 0) = bo
  generalize hbq : (((x.order.length : Nat) : Int) == 0) = bq
  generalize x.del = bd at hg
  rw [hk] at hg
  clear hno hi i0 i1 i2 i3 i4 i5 i6 hU hc
  have hk : k = 1 ∨ k = 2 ∨ k = 3 ∨ k = 4 ∨ k = 5 ∨ k = 6 := by omega
  rcases hk with rfl | rfl | rfl | rfl | rfl | rfl
  · simp only [wpA_skip, wpA_region, wpA_seq, wpA_cond, condI_false, seqQ_normal, goI_out, goI_ops, opsA_nil, opsA_cons, opsA_guardS, gvI_same, slotAt_zero, slotAt_succ, stepA_move, stepA_assign, stepA_pick, stepA_load, stepA_binOp, stepA_unOp, stepA_fieldAddr, stepA_len, thenV_some, pickV_false, eval_tmp, eval_const, put_some, aBin_eql, aBin_neq, aBin_gtr, aUn_not, absV_int, absV_bool, aField_eq, fieldGo_ptr, aLoad_eq, loadGo_one, aPlace_ptr, dropC_cells, aLen_imm, Int.reduceBEq, beq_self_eq_true, Nat.reduceEqDiff, Nat.reduceAdd, Nat.reduceLeDiff, Nat.add_zero, Nat.zero_add, Nat.zero_le, List.length_cons, List.length_nil, List.drop_zero, List.drop_succ_cons, if_true, if_false, Bool.not_true, Bool.not_false, ft_35_0, ft_35_1, ft_35_7, ft_35_8, kt_33, lt_3, lt_33, c3', c4', hg, u1, u2, u3, show (((1 : Nat)) : Int) = 1 from rfl, hbt]
    cases bt
    rotate_left
    · simp only [wpA_region, wpA_seq, wpA_cond, wpA_ret, condI_true, seqQ_normal, seqQ_ret, endI_mk, goI_out, goI_ops, opsA_nil, opsA_cons, opsA_guardS, gvI_same, gvI_tf, gvI_u, slotAt_zero, slotAt_succ, stepA_move, stepA_assign, stepA_pick, thenV_some, pickV_true, eval_tmp, eval_const, put_some, absV_bool, Nat.reduceEqDiff, if_true, if_false, retA_ret, Tryd.results20, resultsA_1]
      exact hid_mk ⟨by simp [usB], kH⟩
    simp only [goI_ops, opsA_cons, opsA_guardS, gvI_same, slotAt_zero, slotAt_succ, stepA_move, stepA_pick, stepA_load, stepA_binOp, stepA_fieldAddr, thenV_some, pickV_true, pickV_false, eval_tmp, eval_const, put_some, aBin_neq, absV_int, absV_bool, aField_eq, fieldGo_ptr, aLoad_eq, loadGo_one, aPlace_ptr, dropC_cells, Nat.reduceEqDiff, Nat.reduceAdd, Nat.reduceLeDiff, Nat.zero_add, List.length_cons, List.length_nil, List.drop_zero, List.drop_succ_cons, if_true, if_false, ft_35_2, lt_3, hg, u1, show (((1 : Nat)) : Int) = 1 from rfl, hbe]
    cases be
    rotate_left
    · simp only [wpA_region, wpA_seq, wpA_cond, wpA_ret, condI_true, seqQ_normal, seqQ_ret, endI_mk, goI_out, goI_ops, opsA_nil, opsA_cons, opsA_guardS, gvI_tf, gvI_u, slotAt_zero, slotAt_succ, stepA_move, stepA_assign, stepA_pick, thenV_some, pickV_true, eval_tmp, eval_const, put_some, absV_bool, Nat.reduceEqDiff, if_true, if_false, retA_ret, Tryd.results20, resultsA_1]
      exact hid_mk ⟨by simp [usB], kH⟩
    simp only [goI_ops, opsA_cons, opsA_guardS, gvI_same, slotAt_zero, slotAt_succ, stepA_move, stepA_pick, stepA_load, stepA_binOp, stepA_unOp, stepA_fieldAddr, thenV_some, pickV_true, pickV_false, eval_tmp, eval_const, put_some, aBin_neq, aUn_not, absV_int, absV_bool, aField_eq, fieldGo_ptr, aLoad_eq, loadGo_one, aPlace_ptr, dropC_cells, Nat.reduceEqDiff, Nat.reduceAdd, Nat.reduceLeDiff, Nat.zero_add, List.length_cons, List.length_nil, List.drop_zero, List.drop_succ_cons, if_true, if_false, Bool.not_false, ft_35_3, lt_3, hg, u1, show (((1 : Nat)) : Int) = 1 from rfl, hbx]
    cases bx
    rotate_left
    · simp only [wpA_region, wpA_seq, wpA_cond, wpA_ret, condI_true, seqQ_normal, seqQ_ret, endI_mk, goI_out, goI_ops, opsA_nil, opsA_cons, opsA_guardS, gvI_tf, gvI_u, slotAt_zero, slotAt_succ, stepA_assign, stepA_pick, thenV_some, pickV_true, eval_tmp, eval_const, put_some, absV_bool, Nat.reduceEqDiff, if_true, if_false, retA_ret, Tryd.results20, resultsA_1]
      exact hid_mk ⟨by simp [usB], kH⟩
    simp only [wpA_skip, wpA_region, wpA_seq, wpA_cond, condI_false, seqQ_normal, goI_out, goI_ops, opsA_nil, opsA_cons, opsA_guardS, gvI_same, gvI_ft, gvI_u, slotAt_zero, slotAt_succ, stepA_move, stepA_pick, stepA_load, stepA_unOp, stepA_fieldAddr, thenV_some, pickV_true, pickV_false, eval_tmp, eval_const, put_some, aUn_not, absV_bool, aField_eq, fieldGo_ptr, aLoad_eq, loadGo_one, aPlace_ptr, dropC_cells, Nat.reduceEqDiff, Nat.reduceAdd, Nat.reduceLeDiff, Nat.zero_add, List.length_cons, List.length_nil, List.drop_zero, List.drop_succ_cons, if_true, if_false, Bool.not_true, Bool.not_false, ft_35_6, lt_4, hg, u1, show (((1 : Nat)) : Int) = 1 from rfl]
    cases bd
    rotate_left
    · simp only [wpA_ret, seqQ_normal, endI_mk, goI_out, goI_ops, opsA_nil, opsA_cons, opsA_guardS, gvI_ft, gvI_u, slotAt_zero, slotAt_succ, stepA_assign, stepA_pick, thenV_some, pickV_false, eval_tmp, eval_const, put_some, absV_bool, Nat.reduceEqDiff, if_true, if_false, Bool.not_true, retA_ret, Tryd.results20, resultsA_1]
      exact hid_mk ⟨by simp [usB], kH⟩
    simp only [goI_ops, opsA_guardS, gvI_same, slotAt_zero, slotAt_succ, stepA_move, stepA_load, stepA_binOp, stepA_fieldAddr, stepA_len, thenV_some, eval_tmp, eval_const, put_some, aBin_eql, absV_int, aField_eq, fieldGo_ptr, aLoad_eq, loadGo_one, aPlace_ptr, dropC_cells, aLen_imm, Nat.reduceEqDiff, Nat.reduceAdd, Nat.reduceLeDiff, Nat.zero_add, List.length_cons, List.length_nil, List.drop_zero, List.drop_succ_cons, if_true, if_false, Bool.not_false, ft_35_7, kt_33, lt_33, hg, u1, show (((1 : Nat)) : Int) = 1 from rfl, hbo]
    cases bo
    skip
    · simp only [wpA_ret, seqQ_normal, endI_mk, goI_out, goI_ops, opsA_nil, opsA_cons, opsA_guardS, gvI_same, gvI_ft, slotAt_zero, slotAt_succ, stepA_assign, stepA_pick, thenV_some, pickV_true, pickV_false, eval_tmp, eval_const, put_some, absV_bool, Nat.reduceEqDiff, if_true, if_false, retA_ret, Tryd.results20, resultsA_1]
      exact hid_mk ⟨by simp [usB], kH⟩
    simp only [wpA_ret, seqQ_normal, endI_mk, goI_out, goI_ops, opsA_nil, opsA_cons, opsA_guardS, gvI_same, slotAt_zero, slotAt_succ, stepA_assign, stepA_pick, stepA_load, stepA_binOp, stepA_fieldAddr, stepA_len, thenV_some, pickV_true, pickV_false, eval_tmp, eval_const, put_some, aBin_eql, absV_int, absV_bool, aField_eq, fieldGo_ptr, aLoad_eq, loadGo_one, aPlace_ptr, dropC_cells, aLen_imm, Nat.reduceEqDiff, Nat.reduceAdd, Nat.reduceLeDiff, Nat.zero_add, List.length_cons, List.length_nil, List.drop_zero, List.drop_succ_cons, if_true, if_false, ft_35_8, kt_33, lt_33, hg, u1, show (((1 : Nat)) : Int) = 1 from rfl, hbq]
    cases bq
    skip
    · simp only [put_some, Nat.reduceEqDiff, if_true, if_false, retA_ret, Tryd.results20, resultsA_1]
      exact hid_mk ⟨by simp [usB], kH⟩
    simp only [put_some, Nat.reduceEqDiff, if_true, if_false, retA_ret, Tryd.results20, resultsA_1]
    exact hid_mk ⟨by simp [usB], kH⟩
  · simp only [wpA_skip, wpA_region, wpA_seq, wpA_cond, condI_false, seqQ_normal, goI_out, goI_ops, opsA_nil, opsA_cons, opsA_guardS, gvI_same, gvI_tf, gvI_ft, gvI_u, slotAt_zero, slotAt_succ, stepA_move, stepA_assign, stepA_pick, stepA_load, stepA_binOp, stepA_unOp, stepA_fieldAddr, stepA_len, thenV_some, pickV_true, pickV_false, eval_tmp, eval_const, put_some, aBin_eql, aBin_gtr, aUn_not, absV_int, absV_bool, aField_eq, fieldGo_ptr, aLoad_eq, loadGo_one, aPlace_ptr, dropC_cells, aLen_imm, Int.reduceBEq, beq_self_eq_true, Nat.reduceEqDiff, Nat.reduceAdd, Nat.reduceLeDiff, Nat.add_zero, Nat.zero_add, Nat.zero_le, List.length_cons, List.length_nil, List.drop_zero, List.drop_succ_cons, if_true, if_false, Bool.not_true, ft_35_0, ft_35_7, ft_35_8, kt_33, lt_3, lt_33, c3', c4', hg, u1, u2, u3, show (((2 : Nat)) : Int) = 2 from rfl, hbo]
    cases bo
    skip
    · simp only [wpA_ret, seqQ_normal, endI_mk, goI_out, goI_ops, opsA_nil, opsA_cons, opsA_guardS, gvI_same, gvI_ft, slotAt_zero, slotAt_succ, stepA_assign, stepA_pick, thenV_some, pickV_true, pickV_false, eval_tmp, eval_const, put_some, absV_bool, Nat.reduceEqDiff, if_true, if_false, retA_ret, Tryd.results20, resultsA_1]
      exact hid_mk ⟨by simp [usB], kH⟩
    simp only [wpA_ret, seqQ_normal, endI_mk, goI_out, goI_ops, opsA_nil, opsA_cons, opsA_guardS, gvI_same, slotAt_zero, slotAt_succ, stepA_assign, stepA_pick, stepA_load, stepA_binOp, stepA_fieldAddr, stepA_len, thenV_some, pickV_true, pickV_false, eval_tmp, eval_const, put_some, aBin_eql, absV_int, absV_bool, aField_eq, fieldGo_ptr, aLoad_eq, loadGo_one, aPlace_ptr, dropC_cells, aLen_imm, Nat.reduceEqDiff, Nat.reduceAdd, Nat.reduceLeDiff, Nat.zero_add, List.length_cons, List.length_nil, List.drop_zero, List.drop_succ_cons, if_true, if_false, ft_35_8, kt_33, lt_33, hg, u1, show (((2 : Nat)) : Int) = 2 from rfl, hbq]
    cases bq
    skip
    · simp only [put_some, Nat.reduceEqDiff, if_true, if_false, retA_ret, Tryd.results20, resultsA_1]
      exact hid_mk ⟨by simp [usB], kH⟩
    simp only [put_some, Nat.reduceEqDiff, if_true, if_false, retA_ret, Tryd.results20, resultsA_1]
    exact hid_mk ⟨by simp [usB], kH⟩
  · simp only [wpA_skip, wpA_region, wpA_seq, wpA_cond, condI_false, seqQ_normal, goI_out, goI_ops, opsA_nil, opsA_cons, opsA_guardS, gvI_same, gvI_tf, gvI_ft, gvI_u, slotAt_zero, slotAt_succ, stepA_move, stepA_assign, stepA_pick, stepA_load, stepA_binOp, stepA_unOp, stepA_fieldAddr, stepA_len, thenV_some, pickV_true, pickV_false, eval_tmp, eval_const, put_some, aBin_eql, aBin_neq, aBin_gtr, aUn_not, absV_int, absV_bool, aField_eq, fieldGo_ptr, aLoad_eq, loadGo_one, aPlace_ptr, dropC_cells, aLen_imm, Int.reduceBEq, beq_self_eq_true, Nat.reduceEqDiff, Nat.reduceAdd, Nat.reduceLeDiff, Nat.add_zero, Nat.zero_add, Nat.zero_le, List.length_cons, List.length_nil, List.drop_zero, List.drop_succ_cons, if_true, if_false, Bool.not_true, Bool.not_false, ft_35_0, ft_35_4, ft_35_7, ft_35_8, kt_33, lt_3, lt_33, c3', c4', hg, u1, u2, u3, show (((3 : Nat)) : Int) = 3 from rfl, hbl]
    cases bl
    rotate_left
    · simp only [wpA_region, wpA_seq, wpA_cond, wpA_ret, condI_true, seqQ_normal, seqQ_ret, endI_mk, goI_out, goI_ops, opsA_nil, opsA_cons, opsA_guardS, gvI_same, gvI_tf, slotAt_zero, slotAt_succ, stepA_assign, stepA_pick, thenV_some, pickV_true, pickV_false, eval_tmp, eval_const, put_some, absV_bool, Nat.reduceEqDiff, if_true, if_false, retA_ret, Tryd.results20, resultsA_1]
      exact hid_mk ⟨by simp [usB], kH⟩
    simp only [wpA_cond, seqQ_normal, goI_out, goI_ops, opsA_nil, opsA_cons, opsA_guardS, gvI_same, slotAt_zero, slotAt_succ, stepA_pick, stepA_build, stepA_load, stepA_binOp, stepA_fieldAddr, thenV_some, pickV_true, pickV_false, eval_tmp, eval_const, put_some, absV_bool, aField_eq, fieldGo_ptr, aLoad_eq, loadGo_row, aPlace_ptr, dropC_cells, aBuild_go, aFill_nil, buildGo_struct, Nat.reduceEqDiff, Nat.reduceAdd, Nat.reduceLeDiff, List.map_nil, Option.map_some, Nat.zero_add, List.length_cons, List.length_nil, List.drop_zero, List.drop_succ_cons, List.take_succ_cons, List.take_zero, if_true, if_false, ft_35_5, lt_23, pl_23, zc_23, hg, u1, show (((3 : Nat)) : Int) = 3 from rfl, rz]
    cases br
    rotate_left
    · simp only [wpA_region, wpA_seq, wpA_ret, condI_true, seqQ_normal, seqQ_ret, endI_mk, goI_out, goI_ops, opsA_nil, opsA_cons, stepA_assign, eval_const, put_some, absV_bool, Nat.reduceEqDiff, if_true, if_false, retA_ret, Tryd.results20, resultsA_1]
      exact hid_mk ⟨by simp [usB], kH⟩
    simp only [wpA_skip, wpA_region, wpA_seq, condI_false, seqQ_normal, goI_ops, opsA_cons, opsA_guardS, gvI_same, slotAt_zero, slotAt_succ, stepA_move, stepA_pick, stepA_load, stepA_unOp, stepA_fieldAddr, thenV_some, pickV_false, eval_tmp, eval_const, put_some, aUn_not, absV_bool, aField_eq, fieldGo_ptr, aLoad_eq, loadGo_one, aPlace_ptr, dropC_cells, Nat.reduceEqDiff, Nat.reduceAdd, Nat.reduceLeDiff, Nat.zero_add, List.length_cons, List.length_nil, List.drop_zero, List.drop_succ_cons, if_true, if_false, ft_35_6, lt_4, hg, u1, show (((3 : Nat)) : Int) = 3 from rfl]
    cases bd
    rotate_left
    · simp only [wpA_ret, seqQ_normal, endI_mk, goI_out, goI_ops, opsA_nil, opsA_cons, opsA_guardS, gvI_ft, gvI_u, slotAt_zero, slotAt_succ, stepA_assign, stepA_pick, thenV_some, pickV_false, eval_tmp, eval_const, put_some, absV_bool, Nat.reduceEqDiff, if_true, if_false, Bool.not_true, retA_ret, Tryd.results20, resultsA_1]
      exact hid_mk ⟨by simp [usB], kH⟩
    simp only [wpA_ret, seqQ_normal, endI_mk, goI_out, goI_ops, opsA_nil, opsA_cons, opsA_guardS, gvI_same, gvI_tf, gvI_u, slotAt_zero, slotAt_succ, stepA_move, stepA_assign, stepA_pick, thenV_some, pickV_true, eval_tmp, eval_const, put_some, absV_bool, Nat.reduceEqDiff, if_true, if_false, Bool.not_false, retA_ret, Tryd.results20, resultsA_1]
    exact hid_mk ⟨by simp [usB], kH⟩
  · simp only [wpA_skip, wpA_region, wpA_seq, wpA_cond, condI_false, seqQ_normal, goI_out, goI_ops, opsA_nil, opsA_cons, opsA_guardS, gvI_same, gvI_tf, gvI_ft, gvI_u, slotAt_zero, slotAt_succ, stepA_move, stepA_assign, stepA_pick, stepA_load, stepA_binOp, stepA_unOp, stepA_fieldAddr, stepA_len, thenV_some, pickV_true, pickV_false, eval_tmp, eval_const, put_some, aBin_eql, aBin_neq, aBin_gtr, aUn_not, absV_int, absV_bool, aField_eq, fieldGo_ptr, aLoad_eq, loadGo_one, aPlace_ptr, dropC_cells, aLen_imm, Int.reduceBEq, beq_self_eq_true, Nat.reduceEqDiff, Nat.reduceAdd, Nat.reduceLeDiff, Nat.add_zero, Nat.zero_add, Nat.zero_le, List.length_cons, List.length_nil, List.drop_zero, List.drop_succ_cons, if_true, if_false, Bool.not_true, Bool.not_false, ft_35_0, ft_35_4, ft_35_7, ft_35_8, kt_33, lt_3, lt_33, c3', c4', hg, u1, u2, u3, show (((4 : Nat)) : Int) = 4 from rfl, hbl]
    cases bl
    rotate_left
    · simp only [wpA_region, wpA_seq, wpA_cond, wpA_ret, condI_true, seqQ_normal, seqQ_ret, endI_mk, goI_out, goI_ops, opsA_nil, opsA_cons, opsA_guardS, gvI_same, gvI_tf, slotAt_zero, slotAt_succ, stepA_assign, stepA_pick, thenV_some, pickV_true, pickV_false, eval_tmp, eval_const, put_some, absV_bool, Nat.reduceEqDiff, if_true, if_false, retA_ret, Tryd.results20, resultsA_1]
      exact hid_mk ⟨by simp [usB], kH⟩
    simp only [wpA_cond, seqQ_normal, goI_out, goI_ops, opsA_nil, opsA_cons, opsA_guardS, gvI_same, slotAt_zero, slotAt_succ, stepA_pick, stepA_build, stepA_load, stepA_binOp, stepA_fieldAddr, thenV_some, pickV_true, pickV_false, eval_tmp, eval_const, put_some, absV_bool, aField_eq, fieldGo_ptr, aLoad_eq, loadGo_row, aPlace_ptr, dropC_cells, aBuild_go, aFill_nil, buildGo_struct, Nat.reduceEqDiff, Nat.reduceAdd, Nat.reduceLeDiff, List.map_nil, Option.map_some, Nat.zero_add, List.length_cons, List.length_nil, List.drop_zero, List.drop_succ_cons, List.take_succ_cons, List.take_zero, if_true, if_false, ft_35_5, lt_23, pl_23, zc_23, hg, u1, show (((4 : Nat)) : Int) = 4 from rfl, rz]
    cases br
    rotate_left
    · simp only [wpA_region, wpA_seq, wpA_ret, condI_true, seqQ_normal, seqQ_ret, endI_mk, goI_out, goI_ops, opsA_nil, opsA_cons, stepA_assign, eval_const, put_some, absV_bool, Nat.reduceEqDiff, if_true, if_false, retA_ret, Tryd.results20, resultsA_1]
      exact hid_mk ⟨by simp [usB], kH⟩
    simp only [wpA_skip, wpA_region, wpA_seq, condI_false, seqQ_normal, goI_ops, opsA_cons, opsA_guardS, gvI_same, slotAt_zero, slotAt_succ, stepA_move, stepA_pick, stepA_load, stepA_unOp, stepA_fieldAddr, thenV_some, pickV_false, eval_tmp, eval_const, put_some, aUn_not, absV_bool, aField_eq, fieldGo_ptr, aLoad_eq, loadGo_one, aPlace_ptr, dropC_cells, Nat.reduceEqDiff, Nat.reduceAdd, Nat.reduceLeDiff, Nat.zero_add, List.length_cons, List.length_nil, List.drop_zero, List.drop_succ_cons, if_true, if_false, ft_35_6, lt_4, hg, u1, show (((4 : Nat)) : Int) = 4 from rfl]
    cases bd
    rotate_left
    · simp only [wpA_ret, seqQ_normal, endI_mk, goI_out, goI_ops, opsA_nil, opsA_cons, opsA_guardS, gvI_ft, gvI_u, slotAt_zero, slotAt_succ, stepA_assign, stepA_pick, thenV_some, pickV_false, eval_tmp, eval_const, put_some, absV_bool, Nat.reduceEqDiff, if_true, if_false, Bool.not_true, retA_ret, Tryd.results20, resultsA_1]
      exact hid_mk ⟨by simp [usB], kH⟩
    simp only [goI_ops, opsA_guardS, gvI_same, slotAt_zero, slotAt_succ, stepA_move, stepA_load, stepA_binOp, stepA_fieldAddr, stepA_len, thenV_some, eval_tmp, eval_const, put_some, aBin_eql, absV_int, aField_eq, fieldGo_ptr, aLoad_eq, loadGo_one, aPlace_ptr, dropC_cells, aLen_imm, Nat.reduceEqDiff, Nat.reduceAdd, Nat.reduceLeDiff, Nat.zero_add, List.length_cons, List.length_nil, List.drop_zero, List.drop_succ_cons, if_true, if_false, Bool.not_false, ft_35_7, kt_33, lt_33, hg, u1, show (((4 : Nat)) : Int) = 4 from rfl, hbo]
    cases bo
    skip
    · simp only [wpA_ret, seqQ_normal, endI_mk, goI_out, goI_ops, opsA_nil, opsA_cons, opsA_guardS, gvI_same, gvI_ft, slotAt_zero, slotAt_succ, stepA_assign, stepA_pick, thenV_some, pickV_true, pickV_false, eval_tmp, eval_const, put_some, absV_bool, Nat.reduceEqDiff, if_true, if_false, retA_ret, Tryd.results20, resultsA_1]
      exact hid_mk ⟨by simp [usB], kH⟩
    simp only [wpA_ret, seqQ_normal, endI_mk, goI_out, goI_ops, opsA_nil, opsA_cons, opsA_guardS, gvI_same, slotAt_zero, slotAt_succ, stepA_assign, stepA_pick, stepA_load, stepA_binOp, stepA_fieldAddr, stepA_len, thenV_some, pickV_true, pickV_false, eval_tmp, eval_const, put_some, aBin_eql, absV_int, absV_bool, aField_eq, fieldGo_ptr, aLoad_eq, loadGo_one, aPlace_ptr, dropC_cells, aLen_imm, Nat.reduceEqDiff, Nat.reduceAdd, Nat.reduceLeDiff, Nat.zero_add, List.length_cons, List.length_nil, List.drop_zero, List.drop_succ_cons, if_true, if_false, ft_35_8, kt_33, lt_33, hg, u1, show (((4 : Nat)) : Int) = 4 from rfl, hbq]
    cases bq
    skip
    · simp only [put_some, Nat.reduceEqDiff, if_true, if_false, retA_ret, Tryd.results20, resultsA_1]
      exact hid_mk ⟨by simp [usB], kH⟩
    simp only [put_some, Nat.reduceEqDiff, if_true, if_false, retA_ret, Tryd.results20, resultsA_1]
    exact hid_mk ⟨by simp [usB], kH⟩
  · simp only [wpA_skip, wpA_region, wpA_seq, wpA_cond, condI_false, seqQ_normal, goI_out, goI_ops, opsA_nil, opsA_cons, opsA_guardS, gvI_same, gvI_ft, gvI_u, slotAt_zero, slotAt_succ, stepA_move, stepA_assign, stepA_pick, stepA_load, stepA_binOp, stepA_unOp, stepA_fieldAddr, stepA_len, thenV_some, pickV_true, pickV_false, eval_tmp, eval_const, put_some, aBin_eql, aBin_neq, aBin_gtr, aUn_not, absV_int, absV_bool, aField_eq, fieldGo_ptr, aLoad_eq, loadGo_one, aPlace_ptr, dropC_cells, aLen_imm, Int.reduceBEq, beq_self_eq_true, Nat.reduceEqDiff, Nat.reduceAdd, Nat.reduceLeDiff, Nat.add_zero, Nat.zero_add, Nat.zero_le, List.length_cons, List.length_nil, List.drop_zero, List.drop_succ_cons, if_true, if_false, Bool.not_true, Bool.not_false, ft_35_0, ft_35_3, ft_35_7, ft_35_8, kt_33, lt_3, lt_33, c3', c4', hg, u1, u2, u3, show (((5 : Nat)) : Int) = 5 from rfl, hbx]
    cases bx
    rotate_left
    · simp only [wpA_region, wpA_seq, wpA_cond, wpA_ret, condI_true, seqQ_normal, seqQ_ret, endI_mk, goI_out, goI_ops, opsA_nil, opsA_cons, opsA_guardS, gvI_tf, gvI_u, slotAt_zero, slotAt_succ, stepA_assign, stepA_pick, thenV_some, pickV_true, eval_tmp, eval_const, put_some, absV_bool, Nat.reduceEqDiff, if_true, if_false, retA_ret, Tryd.results20, resultsA_1]
      exact hid_mk ⟨by simp [usB], kH⟩
    simp only [goI_ops, opsA_guardS, gvI_same, slotAt_zero, slotAt_succ, stepA_move, stepA_pick, stepA_load, stepA_binOp, stepA_unOp, stepA_fieldAddr, thenV_some, pickV_true, eval_tmp, eval_const, put_some, aBin_neq, aUn_not, absV_int, absV_bool, aField_eq, fieldGo_ptr, aLoad_eq, loadGo_one, aPlace_ptr, dropC_cells, Nat.reduceEqDiff, Nat.reduceAdd, Nat.reduceLeDiff, Nat.zero_add, List.length_cons, List.length_nil, List.drop_zero, List.drop_succ_cons, if_true, if_false, Bool.not_false, ft_35_4, lt_3, hg, u1, show (((5 : Nat)) : Int) = 5 from rfl, hbl]
    cases bl
    rotate_left
    · simp only [wpA_region, wpA_seq, wpA_cond, wpA_ret, condI_true, seqQ_normal, seqQ_ret, endI_mk, goI_out, goI_ops, opsA_nil, opsA_cons, opsA_guardS, gvI_same, gvI_tf, slotAt_zero, slotAt_succ, stepA_assign, stepA_pick, thenV_some, pickV_true, pickV_false, eval_tmp, eval_const, put_some, absV_bool, Nat.reduceEqDiff, if_true, if_false, retA_ret, Tryd.results20, resultsA_1]
      exact hid_mk ⟨by simp [usB], kH⟩
    simp only [wpA_cond, seqQ_normal, goI_out, goI_ops, opsA_nil, opsA_cons, opsA_guardS, gvI_same, slotAt_zero, slotAt_succ, stepA_pick, stepA_build, stepA_load, stepA_binOp, stepA_fieldAddr, thenV_some, pickV_true, pickV_false, eval_tmp, eval_const, put_some, absV_bool, aField_eq, fieldGo_ptr, aLoad_eq, loadGo_row, aPlace_ptr, dropC_cells, aBuild_go, aFill_nil, buildGo_struct, Nat.reduceEqDiff, Nat.reduceAdd, Nat.reduceLeDiff, List.map_nil, Option.map_some, Nat.zero_add, List.length_cons, List.length_nil, List.drop_zero, List.drop_succ_cons, List.take_succ_cons, List.take_zero, if_true, if_false, ft_35_5, lt_23, pl_23, zc_23, hg, u1, show (((5 : Nat)) : Int) = 5 from rfl, rz]
    cases br
    rotate_left
    · simp only [wpA_region, wpA_seq, wpA_ret, condI_true, seqQ_normal, seqQ_ret, endI_mk, goI_out, goI_ops, opsA_nil, opsA_cons, stepA_assign, eval_const, put_some, absV_bool, Nat.reduceEqDiff, if_true, if_false, retA_ret, Tryd.results20, resultsA_1]
      exact hid_mk ⟨by simp [usB], kH⟩
    simp only [wpA_skip, wpA_region, wpA_seq, condI_false, seqQ_normal, goI_ops, opsA_cons, opsA_guardS, gvI_same, slotAt_zero, slotAt_succ, stepA_move, stepA_pick, stepA_load, stepA_unOp, stepA_fieldAddr, thenV_some, pickV_false, eval_tmp, eval_const, put_some, aUn_not, absV_bool, aField_eq, fieldGo_ptr, aLoad_eq, loadGo_one, aPlace_ptr, dropC_cells, Nat.reduceEqDiff, Nat.reduceAdd, Nat.reduceLeDiff, Nat.zero_add, List.length_cons, List.length_nil, List.drop_zero, List.drop_succ_cons, if_true, if_false, ft_35_6, lt_4, hg, u1, show (((5 : Nat)) : Int) = 5 from rfl]
    cases bd
    rotate_left
    · simp only [wpA_ret, seqQ_normal, endI_mk, goI_out, goI_ops, opsA_nil, opsA_cons, opsA_guardS, gvI_ft, gvI_u, slotAt_zero, slotAt_succ, stepA_assign, stepA_pick, thenV_some, pickV_false, eval_tmp, eval_const, put_some, absV_bool, Nat.reduceEqDiff, if_true, if_false, Bool.not_true, retA_ret, Tryd.results20, resultsA_1]
      exact hid_mk ⟨by simp [usB], kH⟩
    simp only [goI_ops, opsA_guardS, gvI_same, slotAt_zero, slotAt_succ, stepA_move, stepA_load, stepA_binOp, stepA_fieldAddr, stepA_len, thenV_some, eval_tmp, eval_const, put_some, aBin_eql, absV_int, aField_eq, fieldGo_ptr, aLoad_eq, loadGo_one, aPlace_ptr, dropC_cells, aLen_imm, Nat.reduceEqDiff, Nat.reduceAdd, Nat.reduceLeDiff, Nat.zero_add, List.length_cons, List.length_nil, List.drop_zero, List.drop_succ_cons, if_true, if_false, Bool.not_false, ft_35_7, kt_33, lt_33, hg, u1, show (((5 : Nat)) : Int) = 5 from rfl, hbo]
    cases bo
    skip
    · simp only [wpA_ret, seqQ_normal, endI_mk, goI_out, goI_ops, opsA_nil, opsA_cons, opsA_guardS, gvI_same, gvI_ft, slotAt_zero, slotAt_succ, stepA_assign, stepA_pick, thenV_some, pickV_true, pickV_false, eval_tmp, eval_const, put_some, absV_bool, Nat.reduceEqDiff, if_true, if_false, retA_ret, Tryd.results20, resultsA_1]
      exact hid_mk ⟨by simp [usB], kH⟩
    simp only [wpA_ret, seqQ_normal, endI_mk, goI_out, goI_ops, opsA_nil, opsA_cons, opsA_guardS, gvI_same, slotAt_zero, slotAt_succ, stepA_assign, stepA_pick, stepA_load, stepA_binOp, stepA_fieldAddr, stepA_len, thenV_some, pickV_true, pickV_false, eval_tmp, eval_const, put_some, aBin_eql, absV_int, absV_bool, aField_eq, fieldGo_ptr, aLoad_eq, loadGo_one, aPlace_ptr, dropC_cells, aLen_imm, Nat.reduceEqDiff, Nat.reduceAdd, Nat.reduceLeDiff, Nat.zero_add, List.length_cons, List.length_nil, List.drop_zero, List.drop_succ_cons, if_true, if_false, ft_35_8, kt_33, lt_33, hg, u1, show (((5 : Nat)) : Int) = 5 from rfl, hbq]
    cases bq
    skip
    · simp only [put_some, Nat.reduceEqDiff, if_true, if_false, retA_ret, Tryd.results20, resultsA_1]
      exact hid_mk ⟨by simp [usB], kH⟩
    simp only [put_some, Nat.reduceEqDiff, if_true, if_false, retA_ret, Tryd.results20, resultsA_1]
    exact hid_mk ⟨by simp [usB], kH⟩
  · simp only [wpA_skip, wpA_region, wpA_seq, wpA_cond, condI_false, seqQ_normal, goI_out, goI_ops, opsA_nil, opsA_cons, opsA_guardS, gvI_same, slotAt_zero, slotAt_succ, stepA_move, stepA_assign, stepA_pick, stepA_load, stepA_binOp, stepA_unOp, stepA_fieldAddr, stepA_len, thenV_some, pickV_false, eval_tmp, eval_const, put_some, aBin_eql, aBin_neq, aBin_gtr, aUn_not, absV_int, absV_bool, aField_eq, fieldGo_ptr, aLoad_eq, loadGo_one, aPlace_ptr, dropC_cells, aLen_imm, Int.reduceBEq, Nat.reduceEqDiff, Nat.reduceAdd, Nat.reduceLeDiff, Nat.add_zero, Nat.zero_add, Nat.zero_le, List.length_cons, List.length_nil, List.drop_zero, List.drop_succ_cons, if_true, if_false, Bool.not_true, Bool.not_false, ft_35_0, ft_35_1, ft_35_7, ft_35_8, kt_33, lt_3, lt_33, c3', c4', hg, u1, u2, u3, show (((6 : Nat)) : Int) = 6 from rfl, hbt]
    cases bt
    rotate_left
    · simp only [wpA_region, wpA_seq, wpA_cond, wpA_ret, condI_true, seqQ_normal, seqQ_ret, endI_mk, goI_out, goI_ops, opsA_nil, opsA_cons, opsA_guardS, gvI_same, gvI_tf, gvI_u, slotAt_zero, slotAt_succ, stepA_move, stepA_assign, stepA_pick, thenV_some, pickV_true, eval_tmp, eval_const, put_some, absV_bool, Nat.reduceEqDiff, if_true, if_false, retA_ret, Tryd.results20, resultsA_1]
      exact hid_mk ⟨by simp [usB], kH⟩
    simp only [goI_ops, opsA_cons, opsA_guardS, gvI_same, slotAt_zero, slotAt_succ, stepA_move, stepA_pick, stepA_load, stepA_binOp, stepA_fieldAddr, thenV_some, pickV_true, pickV_false, eval_tmp, eval_const, put_some, aBin_neq, absV_int, absV_bool, aField_eq, fieldGo_ptr, aLoad_eq, loadGo_one, aPlace_ptr, dropC_cells, Nat.reduceEqDiff, Nat.reduceAdd, Nat.reduceLeDiff, Nat.zero_add, List.length_cons, List.length_nil, List.drop_zero, List.drop_succ_cons, if_true, if_false, ft_35_2, lt_3, hg, u1, show (((6 : Nat)) : Int) = 6 from rfl, hbe]
    cases be
    rotate_left
    · simp only [wpA_region, wpA_seq, wpA_cond, wpA_ret, condI_true, seqQ_normal, seqQ_ret, endI_mk, goI_out, goI_ops, opsA_nil, opsA_cons, opsA_guardS, gvI_tf, gvI_u, slotAt_zero, slotAt_succ, stepA_move, stepA_assign, stepA_pick, thenV_some, pickV_true, eval_tmp, eval_const, put_some, absV_bool, Nat.reduceEqDiff, if_true, if_false, retA_ret, Tryd.results20, resultsA_1]
      exact hid_mk ⟨by simp [usB], kH⟩
    simp only [goI_ops, opsA_cons, opsA_guardS, gvI_same, slotAt_zero, slotAt_succ, stepA_move, stepA_pick, stepA_load, stepA_binOp, stepA_unOp, stepA_fieldAddr, thenV_some, pickV_true, pickV_false, eval_tmp, eval_const, put_some, aBin_neq, aUn_not, absV_int, absV_bool, aField_eq, fieldGo_ptr, aLoad_eq, loadGo_one, aPlace_ptr, dropC_cells, Nat.reduceEqDiff, Nat.reduceAdd, Nat.reduceLeDiff, Nat.zero_add, List.length_cons, List.length_nil, List.drop_zero, List.drop_succ_cons, if_true, if_false, Bool.not_false, ft_35_3, lt_3, hg, u1, show (((6 : Nat)) : Int) = 6 from rfl, hbx]
    cases bx
    rotate_left
    · simp only [wpA_region, wpA_seq, wpA_cond, wpA_ret, condI_true, seqQ_normal, seqQ_ret, endI_mk, goI_out, goI_ops, opsA_nil, opsA_cons, opsA_guardS, gvI_tf, gvI_u, slotAt_zero, slotAt_succ, stepA_assign, stepA_pick, thenV_some, pickV_true, eval_tmp, eval_const, put_some, absV_bool, Nat.reduceEqDiff, if_true, if_false, retA_ret, Tryd.results20, resultsA_1]
      exact hid_mk ⟨by simp [usB], kH⟩
    simp only [goI_ops, opsA_guardS, gvI_same, slotAt_zero, slotAt_succ, stepA_move, stepA_pick, stepA_load, stepA_binOp, stepA_unOp, stepA_fieldAddr, thenV_some, pickV_true, eval_tmp, eval_const, put_some, aBin_neq, aUn_not, absV_int, absV_bool, aField_eq, fieldGo_ptr, aLoad_eq, loadGo_one, aPlace_ptr, dropC_cells, Nat.reduceEqDiff, Nat.reduceAdd, Nat.reduceLeDiff, Nat.zero_add, List.length_cons, List.length_nil, List.drop_zero, List.drop_succ_cons, if_true, if_false, Bool.not_false, ft_35_4, lt_3, hg, u1, show (((6 : Nat)) : Int) = 6 from rfl, hbl]
    cases bl
    rotate_left
    · simp only [wpA_region, wpA_seq, wpA_cond, wpA_ret, condI_true, seqQ_normal, seqQ_ret, endI_mk, goI_out, goI_ops, opsA_nil, opsA_cons, opsA_guardS, gvI_same, gvI_tf, slotAt_zero, slotAt_succ, stepA_assign, stepA_pick, thenV_some, pickV_true, pickV_false, eval_tmp, eval_const, put_some, absV_bool, Nat.reduceEqDiff, if_true, if_false, retA_ret, Tryd.results20, resultsA_1]
      exact hid_mk ⟨by simp [usB], kH⟩
    simp only [wpA_cond, seqQ_normal, goI_out, goI_ops, opsA_nil, opsA_cons, opsA_guardS, gvI_same, slotAt_zero, slotAt_succ, stepA_pick, stepA_build, stepA_load, stepA_binOp, stepA_fieldAddr, thenV_some, pickV_true, pickV_false, eval_tmp, eval_const, put_some, absV_bool, aField_eq, fieldGo_ptr, aLoad_eq, loadGo_row, aPlace_ptr, dropC_cells, aBuild_go, aFill_nil, buildGo_struct, Nat.reduceEqDiff, Nat.reduceAdd, Nat.reduceLeDiff, List.map_nil, Option.map_some, Nat.zero_add, List.length_cons, List.length_nil, List.drop_zero, List.drop_succ_cons, List.take_succ_cons, List.take_zero, if_true, if_false, ft_35_5, lt_23, pl_23, zc_23, hg, u1, show (((6 : Nat)) : Int) = 6 from rfl, rz]
    cases br
    rotate_left
    · simp only [wpA_region, wpA_seq, wpA_ret, condI_true, seqQ_normal, seqQ_ret, endI_mk, goI_out, goI_ops, opsA_nil, opsA_cons, stepA_assign, eval_const, put_some, absV_bool, Nat.reduceEqDiff, if_true, if_false, retA_ret, Tryd.results20, resultsA_1]
      exact hid_mk ⟨by simp [usB], kH⟩
    simp only [wpA_skip, wpA_region, wpA_seq, condI_false, seqQ_normal, goI_ops, opsA_cons, opsA_guardS, gvI_same, slotAt_zero, slotAt_succ, stepA_move, stepA_pick, stepA_load, stepA_unOp, stepA_fieldAddr, thenV_some, pickV_false, eval_tmp, eval_const, put_some, aUn_not, absV_bool, aField_eq, fieldGo_ptr, aLoad_eq, loadGo_one, aPlace_ptr, dropC_cells, Nat.reduceEqDiff, Nat.reduceAdd, Nat.reduceLeDiff, Nat.zero_add, List.length_cons, List.length_nil, List.drop_zero, List.drop_succ_cons, if_true, if_false, ft_35_6, lt_4, hg, u1, show (((6 : Nat)) : Int) = 6 from rfl]
    cases bd
    rotate_left
    · simp only [wpA_ret, seqQ_normal, endI_mk, goI_out, goI_ops, opsA_nil, opsA_cons, opsA_guardS, gvI_ft, gvI_u, slotAt_zero, slotAt_succ, stepA_assign, stepA_pick, thenV_some, pickV_false, eval_tmp, eval_const, put_some, absV_bool, Nat.reduceEqDiff, if_true, if_false, Bool.not_true, retA_ret, Tryd.results20, resultsA_1]
      exact hid_mk ⟨by simp [usB], kH⟩
    simp only [goI_ops, opsA_guardS, gvI_same, slotAt_zero, slotAt_succ, stepA_move, stepA_load, stepA_binOp, stepA_fieldAddr, stepA_len, thenV_some, eval_tmp, eval_const, put_some, aBin_eql, absV_int, aField_eq, fieldGo_ptr, aLoad_eq, loadGo_one, aPlace_ptr, dropC_cells, aLen_imm, Nat.reduceEqDiff, Nat.reduceAdd, Nat.reduceLeDiff, Nat.zero_add, List.length_cons, List.length_nil, List.drop_zero, List.drop_succ_cons, if_true, if_false, Bool.not_false, ft_35_7, kt_33, lt_33, hg, u1, show (((6 : Nat)) : Int) = 6 from rfl, hbo]
    cases bo
    skip
    · simp only [wpA_ret, seqQ_normal, endI_mk, goI_out, goI_ops, opsA_nil, opsA_cons, opsA_guardS, gvI_same, gvI_ft, slotAt_zero, slotAt_succ, stepA_assign, stepA_pick, thenV_some, pickV_true, pickV_false, eval_tmp, eval_const, put_some, absV_bool, Nat.reduceEqDiff, if_true, if_false, retA_ret, Tryd.results20, resultsA_1]
      exact hid_mk ⟨by simp [usB], kH⟩
    simp only [wpA_ret, seqQ_normal, endI_mk, goI_out, goI_ops, opsA_nil, opsA_cons, opsA_guardS, gvI_same, slotAt_zero, slotAt_succ, stepA_assign, stepA_pick, stepA_load, stepA_binOp, stepA_fieldAddr, stepA_len, thenV_some, pickV_true, pickV_false, eval_tmp, eval_const, put_some, aBin_eql, absV_int, absV_bool, aField_eq, fieldGo_ptr, aLoad_eq, loadGo_one, aPlace_ptr, dropC_cells, aLen_imm, Nat.reduceEqDiff, Nat.reduceAdd, Nat.reduceLeDiff, Nat.zero_add, List.length_cons, List.length_nil, List.drop_zero, List.drop_succ_cons, if_true, if_false, ft_35_8, kt_33, lt_33, hg, u1, show (((6 : Nat)) : Int) = 6 from rfl, hbq]
    cases bq
    skip
    · simp only [put_some, Nat.reduceEqDiff, if_true, if_false, retA_ret, Tryd.results20, resultsA_1]
      exact hid_mk ⟨by simp [usB], kH⟩
    simp only [put_some, Nat.reduceEqDiff, if_true, if_false, retA_ret, Tryd.results20, resultsA_1]
    exact hid_mk ⟨by simp [usB], kH⟩
end Go.Proofs.YtjphnabogfiahaaDoor.Pk
