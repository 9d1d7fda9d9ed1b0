/-
  What functions of the program do, told of abstract states. Conditions: as each theorem says.
-/
import Derived.Test.YtcdpepdjeneelaaDoorVtL
namespace Go.Proofs.YtcdpepdjeneelaaDoor.Pk
open Go Go.Proofs Go.Proofs.YtcdpepdjeneelaaDoor.Ab Go.Proofs.Vw
set_option linter.unusedVariables false
set_option linter.unusedSimpArgs false
set_option maxHeartbeats 16000000 in
set_option maxRecDepth 20000 in
theorem viewOrder (a0 b0 : List Ent) (hl0 : a0.length ≤ 2 ^ 47) (hm0 : b0.length ≤ 2 ^ 47) (he0 : ∀ x ∈ a0, eLen x) (hf0 : ∀ x ∈ b0, eLen x) (h : AHeap) (hu : KU h) :
    SCalls Tryd.prog 7 [.imm a0.length (a0.flatMap entE), .imm b0.length (b0.flatMap entE)] h (fun r _ => r = .bool true) := by
  refine SCalls.enterI (c := _) Tryd.func7 rfl (by kernel_rfl) (by simp) ?_
  simp only [wpA_region, wpA_seq, seqQ_normal, goI_out, goI_ops, opsA_nil, opsA_cons, stepA_assign, stepA_call, eval_const, absV_bool, List.map_nil]
  refine callI_pure cal9 (pShown h hu) ?_
  simp only [wpA_region, wpA_seq, wpA_block, wpA_loop, seqQ_normal, goI_out, goI_ops, opsA_nil, opsA_cons, stepA_assign, eval_tmp, eval_const, put_some, enterF_succ, absV_int, absV_snil, Nat.reduceEqDiff, if_true, if_false]
  refine SWp.loopG (α := Nat × List Ent) (fun y f h' => f 0 = .imm a0.length (a0.flatMap entE) ∧ f 1 = .imm b0.length (b0.flatMap entE) ∧ f 5 = .bool true ∧ f 7 = .snil ∧ f 8 = .int .i64 (y.1 : Nat) ∧ y.1 ≤ a0.length ∧ y.1 ≤ 80 ∧ y.2.length ≤ y.1 ∧
      Acc h h' 47 11 (f 6) (y.2.flatMap entE) ∧ (∀ x ∈ y.2, Mine 1 LA x)) (fun y => a0.length - y.1) (0, [])
    ⟨rfl, rfl, rfl, rfl, rfl, Nat.zero_le _, Nat.zero_le _, Nat.zero_le _, Acc.nil (Keep.refl _ _), by simp⟩ ?_
  rintro ⟨i, K⟩ f h5 ⟨f0, f1, f5, f7, f8, hi, hi2, hKi, acc, hK⟩
  simp only at f8 hi hi2 hKi acc hK
  refine wpI_sound (by kernel_rfl) ?_
  by_cases hlt : i < a0.length ∧ i < 80
  · have d1 : decide ((i : Int) < ((a0.length : Nat) : Int)) = true := decide_eq_true (by omega)
    have d2 : decide ((i : Int) < 80) = true := decide_eq_true (by omega)
    have wi : IntKind.i64.wrap (((i : Nat) : Int) + 1) = ((i + 1 : Nat) : Int) := by rw [Go.IntWalk.i64_in _ (by omega)]; omega
    have x1 := ent_ix (l := a0) (kk := .i64) hlt.1
    have hxl := he0 _ (List.getElem_mem hlt.1)
    generalize a0[i]'hlt.1 = x at x1 hxl
    obtain ⟨kind, task0, ep, tx, log, rr, del, offs, order⟩ := x
    have ld := ent_ld (⟨kind, task0, ep, tx, log, rr, del, offs, order⟩ : Ent)
    have ex : entE ⟨kind, task0, ep, tx, log, rr, del, offs, order⟩ = [.int .i64 kind, .int .i64 task0, .int .i64 ep, .int .i64 tx, .int .i64 log, .int .i64 rr.k, .int .i64 rr.v, .int .i64 rr.t, .bool del, .imm offs.length (i64V offs), .imm order.length (i64V order)] := rfl
    have hand : 0 ≤ bAnd .i64 log 1 ∧ bAnd .i64 log 1 ≤ 1 := and_small log 1 (by decide)
    have kP : ∀ o, Keep h5 (h5.push o) none_ := fun o => Keep.push _ _ _
    simp only [wpA_skip, wpA_region, wpA_seq, wpA_cond, wpA_block, condI_true, seqQ_normal, goI_out, goI_ops, opsA_nil, opsA_cons, opsA_guardS, gvI_same, slotAt_zero, slotAt_succ, stepA_move, stepA_pick, stepA_alloc, stepA_load, stepA_store, stepA_binOp, stepA_fieldAddr, stepA_indexAddr, stepA_len, thenV_some, thenH_some, thenS_some, pickV_true, eval_tmp, eval_const, put_some, put_none, aBin_lss, aBin_geq, absV_int, absV_bool, cells_int, cells_agg, one_int, one_bool, one_imm, all_nil, all_cons, aField_eq, fieldGo_ptr, aLoad_eq, loadGo_one, loadGo_row, aPlace_ptr, aPlace_at, dropC_cells, aStore_eq, storeGo_ptr, setC_row, setAll_nil, setAll_cons, aAlloc_eq, aLen_imm, get_push_new, set_push, Nat.reduceEqDiff, Nat.reduceAdd, Nat.reduceLeDiff, reduceCtorEq, Option.map_some, Nat.add_zero, Nat.zero_add, Nat.zero_le, List.length_cons, List.length_nil, List.drop_zero, List.take_succ_cons, List.take_zero, List.set_cons_zero, List.set_cons_succ, List.nil_append, List.cons_append, if_true, if_false, Bool.and_self, Nat.le_refl, ft_47_0, ft_47_1, kt_22, lt_3, lt_47, zc_47, zt_3, zt_47, f0, f8, d1, d2, x1, ex]
    by_cases k1 : 2 ≤ kind
    rotate_left
    · have g1 : decide (2 ≤ kind) = false := decide_eq_false k1
      simp only [wpA_skip, wpA_region, wpA_cond, condI_false, seqQ_normal, blkQ_normal, endI_mk, andThen_normal, goI_out, goI_ops, opsA_nil, opsA_cons, opsA_guardS, gvI_ft, slotAt_zero, slotAt_succ, stepA_move, stepA_assign, stepA_pick, stepA_binOp, thenV_some, pickV_false, eval_tmp, eval_const, put_some, put_none, aBin_add, absV_int, absV_bool, Nat.reduceEqDiff, if_true, if_false, f8, g1, wi]
      exact hid_mk ⟨(i + 1, K), ⟨f0, f1, f5, f7, rfl, hlt.1, hlt.2, by simp only; omega, acc.on (kP _), hK⟩, by simp only; omega⟩
    have g1 : decide (2 ≤ kind) = true := decide_eq_true k1
    by_cases k2 : kind ≤ 5
    rotate_left
    · have g2 : decide (kind ≤ 5) = false := decide_eq_false k2
      simp only [wpA_skip, wpA_region, wpA_cond, condI_false, seqQ_normal, blkQ_normal, endI_mk, andThen_normal, goI_out, goI_ops, opsA_nil, opsA_cons, opsA_guardS, gvI_same, slotAt_zero, slotAt_succ, stepA_move, stepA_assign, stepA_pick, stepA_load, stepA_binOp, stepA_fieldAddr, thenV_some, pickV_true, eval_tmp, eval_const, put_some, put_none, aBin_add, aBin_leq, absV_int, absV_bool, aField_eq, fieldGo_ptr, aLoad_eq, loadGo_one, aPlace_ptr, dropC_cells, get_push_new, Nat.reduceEqDiff, Nat.reduceAdd, Nat.add_zero, Nat.zero_add, Nat.zero_le, List.length_cons, List.length_nil, List.drop_zero, if_true, if_false, ft_47_0, lt_3, f8, g1, g2, wi]
      exact hid_mk ⟨(i + 1, K), ⟨f0, f1, f5, f7, rfl, hlt.1, hlt.2, by simp only; omega, acc.on (kP _), hK⟩, by simp only; omega⟩
    have g2 : decide (kind ≤ 5) = true := decide_eq_true k2
    have b2 : ∀ hh : AHeap, aBuildSlice Tryd.prog 22 1 [(0, .agg [.int .i64 kind, .int .i64 1, .int .i64 ep, .int .i64 tx, .int .i64 (bAnd .i64 log 1), .int .i64 rr.k, .int .i64 rr.v, .int .i64 rr.t, .bool del, .imm offs.length (i64V offs), .imm order.length (i64V order)])] hh = some (.sl hh.n 0 1 1, hh.push (.cells (entE ⟨kind, 1, ep, tx, bAnd .i64 log 1, rr, del, offs, order⟩) 47 none)) := fun hh => litEe hh ⟨kind, 1, ep, tx, bAnd .i64 log 1, rr, del, offs, order⟩
    obtain ⟨H5, hH5⟩ : ∃ y, y = h5.push (.cells [.int .i64 kind, .int .i64 1, .int .i64 ep, .int .i64 tx, .int .i64 (bAnd .i64 log 1), .int .i64 rr.k, .int .i64 rr.v, .int .i64 rr.t, .bool del, .imm offs.length (i64V offs), .imm order.length (i64V order)] 47 none) := ⟨_, rfl⟩
    have accH : Acc h H5 47 11 (f 6) (K.flatMap entE) := by rw [hH5]; exact acc.on (kP _)
    have gx : H5.get h5.n = .cells [.int .i64 kind, .int .i64 1, .int .i64 ep, .int .i64 tx, .int .i64 (bAnd .i64 log 1), .int .i64 rr.k, .int .i64 rr.v, .int .i64 rr.t, .bool del, .imm offs.length (i64V offs), .imm order.length (i64V order)] 47 none := by rw [hH5]; exact get_push_new
    obtain ⟨s', h6, ea, a6, k6, d6⟩ := accX ⟨kind, 1, ep, tx, bAnd .i64 log 1, rr, del, offs, order⟩ accH (by omega)
    simp only [wpA_region, wpA_seq, wpA_cond, condI_true, seqQ_normal, goI_out, goI_ops, opsA_nil, opsA_cons, opsA_guardS, gvI_same, slotAt_zero, slotAt_succ, stepA_move, stepA_pick, stepA_buildSlice, stepA_load, stepA_store, stepA_binOp, stepA_fieldAddr, thenV_some, thenS_some, pickV_true, eval_tmp, eval_const, put_some, put_none, aBin_leq, aBin_and, absV_int, absV_bool, cells_int, one_int, all_nil, all_cons, aField_eq, fieldGo_ptr, aLoad_eq, loadGo_one, loadGo_row, aPlace_ptr, dropC_cells, aStore_eq, storeGo_ptr, setC_row, setAll_nil, setAll_cons, get_push_new, set_push, Nat.reduceEqDiff, Nat.reduceAdd, Nat.reduceLeDiff, List.map_cons, List.map_nil, Option.map_some, Nat.add_zero, Nat.zero_add, Nat.zero_le, List.length_cons, List.length_nil, List.drop_zero, List.drop_succ_cons, List.take_succ_cons, List.take_nil, List.set_cons_zero, List.set_cons_succ, if_true, if_false, Bool.and_self, Nat.le_refl, ft_47_0, ft_47_4, lt_3, lt_47, zt_3, g1, g2]
    rw [← hH5]
    clear hH5
    simp only [wpA_region, seqQ_normal, blkQ_normal, endI_mk, andThen_normal, goI_out, goI_ops, opsA_nil, opsA_cons, stepA_move, stepA_assign, stepA_binOp, stepA_append, thenV_some, thenH_some, eval_tmp, eval_const, put_some, put_none, aBin_add, absV_int, Nat.reduceEqDiff, if_true, if_false, f8, b2, ea, wi]
    refine hid_mk ⟨(i + 1, K ++ [(⟨kind, 1, ep, tx, bAnd .i64 log 1, rr, del, offs, order⟩ : Ent)]), ⟨f0, f1, f5, f7, rfl, hlt.1, hlt.2, by simp; omega, a6, fun x hx => ?_⟩, by simp only; omega⟩
    rcases List.mem_append.1 hx with hx | hx
    · exact hK x hx
    · rw [List.mem_singleton.1 hx]; exact ⟨rfl, ⟨k1, k2⟩, fun _ => ⟨hand.1, by have := hand.2; exact this⟩, hxl⟩
  · have dd : (decide ((i : Int) < ((a0.length : Nat) : Int)) = true ∧ decide ((i : Int) < 80) = false) ∨ decide ((i : Int) < ((a0.length : Nat) : Int)) = false := by
      by_cases hh : i < a0.length
      · exact .inl ⟨decide_eq_true (by omega), decide_eq_false (by omega)⟩
      · exact .inr (decide_eq_false (by omega))
    have own6 := acc.own
    have new6 := acc.new
    obtain ⟨v6, f6⟩ : ∃ v, f 6 = v := ⟨_, rfl⟩
    rw [f6] at own6 new6
    have s7 : Acc h5 h5 47 11 (f 7) (([] : List Ent).flatMap entE) := by rw [f7]; exact Acc.nil (Keep.refl _ _)
    have kp := acc.keep
    clear hlt
    rcases dd with ⟨d1, d2⟩ | d1
    all_goals
      first | simp only [wpA_region, wpA_seq, wpA_cond, wpA_block, wpA_exit, wpA_loop, condI_false, seqQ_normal, seqQ_exit, blkQ_exit, endI_mk, goE, andThen_exit, goI_out, goI_ops, opsA_nil, opsA_cons, opsA_guardS, gvI_same, slotAt_zero, slotAt_succ, stepA_move, stepA_assign, stepA_pick, stepA_binOp, stepA_len, thenV_some, pickV_true, eval_tmp, eval_const, put_some, aBin_lss, absV_int, absV_bool, aLen_imm, Nat.reduceEqDiff, reduceCtorEq, if_true, if_false, kt_22, f0, f8, d1, d2] | simp only [wpA_region, wpA_seq, wpA_cond, wpA_block, wpA_exit, wpA_loop, condI_false, seqQ_normal, seqQ_exit, blkQ_exit, endI_mk, goE, andThen_exit, goI_out, goI_ops, opsA_nil, opsA_cons, opsA_guardS, gvI_ft, slotAt_zero, slotAt_succ, stepA_move, stepA_assign, stepA_pick, stepA_binOp, stepA_len, thenV_some, pickV_false, eval_tmp, eval_const, put_some, aBin_lss, absV_int, absV_bool, aLen_imm, Nat.reduceEqDiff, reduceCtorEq, if_true, if_false, kt_22, f0, f8, d1]
      refine SWp.loopG (α := Nat × List Ent) (fun y f h' => f 0 = .imm a0.length (a0.flatMap entE) ∧ f 1 = .imm b0.length (b0.flatMap entE) ∧ f 5 = .bool true ∧ f 6 = v6 ∧ f 10 = .int .i64 (y.1 : Nat) ∧ y.1 ≤ b0.length ∧ y.1 ≤ 80 ∧ y.2.length ≤ y.1 ∧
        Acc h5 h' 47 11 (f 7) (y.2.flatMap entE) ∧ (∀ x ∈ y.2, Mine 2 LB x)) (fun y => b0.length - y.1) (0, [])
        ⟨f0, f1, f5, f6, rfl, Nat.zero_le _, Nat.zero_le _, Nat.zero_le _, s7, by simp⟩ ?_
      rintro ⟨i2, K2⟩ f h7 ⟨f0, f1, f5, f6, f10, hj, hj2, hKj, acc2, hK2⟩
      simp only at f10 hj hj2 hKj acc2 hK2
      refine wpI_sound (by kernel_rfl) ?_
      by_cases hlt : i2 < b0.length ∧ i2 < 80
      · have d1 : decide ((i2 : Int) < ((b0.length : Nat) : Int)) = true := decide_eq_true (by omega)
        have d2 : decide ((i2 : Int) < 80) = true := decide_eq_true (by omega)
        have wi : IntKind.i64.wrap (((i2 : Nat) : Int) + 1) = ((i2 + 1 : Nat) : Int) := by rw [Go.IntWalk.i64_in _ (by omega)]; omega
        have x1 := ent_ix (l := b0) (kk := .i64) hlt.1
        have hxl := hf0 _ (List.getElem_mem hlt.1)
        generalize b0[i2]'hlt.1 = x at x1 hxl
        obtain ⟨kind, task0, ep, tx, log, rr, del, offs, order⟩ := x
        have ld := ent_ld (⟨kind, task0, ep, tx, log, rr, del, offs, order⟩ : Ent)
        have ex : entE ⟨kind, task0, ep, tx, log, rr, del, offs, order⟩ = [.int .i64 kind, .int .i64 task0, .int .i64 ep, .int .i64 tx, .int .i64 log, .int .i64 rr.k, .int .i64 rr.v, .int .i64 rr.t, .bool del, .imm offs.length (i64V offs), .imm order.length (i64V order)] := rfl
        have hand : 0 ≤ bAnd .i64 log 1 ∧ bAnd .i64 log 1 ≤ 1 := and_small log 1 (by decide)
        have hw2 : IntKind.i64.wrap (2 + bAnd .i64 log 1) = 2 + bAnd .i64 log 1 := Go.IntWalk.i64_in _ (by have h1 := hand.1; have h2 := hand.2; omega)
        have kP : ∀ o, Keep h7 (h7.push o) none_ := fun o => Keep.push _ _ _
        simp only [wpA_skip, wpA_region, wpA_seq, wpA_cond, wpA_block, condI_true, seqQ_normal, goI_out, goI_ops, opsA_nil, opsA_cons, opsA_guardS, gvI_same, slotAt_zero, slotAt_succ, stepA_move, stepA_pick, stepA_alloc, stepA_load, stepA_store, stepA_binOp, stepA_fieldAddr, stepA_indexAddr, stepA_len, thenV_some, thenH_some, thenS_some, pickV_true, eval_tmp, eval_const, put_some, put_none, aBin_lss, aBin_geq, absV_int, absV_bool, cells_int, cells_agg, one_int, one_bool, one_imm, all_nil, all_cons, aField_eq, fieldGo_ptr, aLoad_eq, loadGo_one, loadGo_row, aPlace_ptr, aPlace_at, dropC_cells, aStore_eq, storeGo_ptr, setC_row, setAll_nil, setAll_cons, aAlloc_eq, aLen_imm, get_push_new, set_push, Nat.reduceEqDiff, Nat.reduceAdd, Nat.reduceLeDiff, Option.map_some, Nat.add_zero, Nat.zero_add, Nat.zero_le, List.length_cons, List.length_nil, List.drop_zero, List.take_succ_cons, List.take_zero, List.set_cons_zero, List.set_cons_succ, List.nil_append, List.cons_append, if_true, if_false, Bool.and_self, Nat.le_refl, ft_47_0, ft_47_1, kt_22, lt_3, lt_47, zc_47, zt_3, zt_47, f1, f10, d1, d2, x1, ex]
        by_cases k1 : 2 ≤ kind
        rotate_left
        · have g1 : decide (2 ≤ kind) = false := decide_eq_false k1
          simp only [wpA_skip, wpA_region, wpA_cond, condI_false, seqQ_normal, blkQ_normal, endI_mk, andThen_normal, goI_out, goI_ops, opsA_nil, opsA_cons, opsA_guardS, gvI_ft, slotAt_zero, slotAt_succ, stepA_move, stepA_assign, stepA_pick, stepA_binOp, thenV_some, pickV_false, eval_tmp, eval_const, put_some, put_none, aBin_add, absV_int, absV_bool, Nat.reduceEqDiff, if_true, if_false, f10, g1, wi]
          exact hid_mk ⟨(i2 + 1, K2), ⟨f0, f1, f5, f6, rfl, hlt.1, hlt.2, by simp only; omega, acc2.on (kP _), hK2⟩, by simp only; omega⟩
        have g1 : decide (2 ≤ kind) = true := decide_eq_true k1
        by_cases k2 : kind ≤ 5
        rotate_left
        · have g2 : decide (kind ≤ 5) = false := decide_eq_false k2
          simp only [wpA_skip, wpA_region, wpA_cond, condI_false, seqQ_normal, blkQ_normal, endI_mk, andThen_normal, goI_out, goI_ops, opsA_nil, opsA_cons, opsA_guardS, gvI_same, slotAt_zero, slotAt_succ, stepA_move, stepA_assign, stepA_pick, stepA_load, stepA_binOp, stepA_fieldAddr, thenV_some, pickV_true, eval_tmp, eval_const, put_some, put_none, aBin_add, aBin_leq, absV_int, absV_bool, aField_eq, fieldGo_ptr, aLoad_eq, loadGo_one, aPlace_ptr, dropC_cells, get_push_new, Nat.reduceEqDiff, Nat.reduceAdd, Nat.add_zero, Nat.zero_add, Nat.zero_le, List.length_cons, List.length_nil, List.drop_zero, if_true, if_false, ft_47_0, lt_3, f10, g1, g2, wi]
          exact hid_mk ⟨(i2 + 1, K2), ⟨f0, f1, f5, f6, rfl, hlt.1, hlt.2, by simp only; omega, acc2.on (kP _), hK2⟩, by simp only; omega⟩
        have g2 : decide (kind ≤ 5) = true := decide_eq_true k2
        by_cases kd : kind = 2
        · have g3 : (kind == 2) = true := by simpa using kd
          have b2 : ∀ hh : AHeap, aBuildSlice Tryd.prog 22 1 [(0, .agg [.int .i64 kind, .int .i64 2, .int .i64 ep, .int .i64 tx, .int .i64 (2 + bAnd .i64 log 1), .int .i64 rr.k, .int .i64 rr.v, .int .i64 rr.t, .bool del, .imm offs.length (i64V offs), .imm order.length (i64V order)])] hh = some (.sl hh.n 0 1 1, hh.push (.cells (entE ⟨kind, 2, ep, tx, (2 + bAnd .i64 log 1), rr, del, offs, order⟩) 47 none)) := fun hh => litEe hh ⟨kind, 2, ep, tx, (2 + bAnd .i64 log 1), rr, del, offs, order⟩
          obtain ⟨H7, hH7⟩ : ∃ y, y = h7.push (.cells [.int .i64 kind, .int .i64 2, .int .i64 ep, .int .i64 tx, .int .i64 (2 + bAnd .i64 log 1), .int .i64 rr.k, .int .i64 rr.v, .int .i64 rr.t, .bool del, .imm offs.length (i64V offs), .imm order.length (i64V order)] 47 none) := ⟨_, rfl⟩
          have accH : Acc h5 H7 47 11 (f 7) (K2.flatMap entE) := by rw [hH7]; exact acc2.on (kP _)
          have gx : H7.get h7.n = .cells [.int .i64 kind, .int .i64 2, .int .i64 ep, .int .i64 tx, .int .i64 (2 + bAnd .i64 log 1), .int .i64 rr.k, .int .i64 rr.v, .int .i64 rr.t, .bool del, .imm offs.length (i64V offs), .imm order.length (i64V order)] 47 none := by rw [hH7]; exact get_push_new
          obtain ⟨s', h6, ea, a6, k6, d6⟩ := accX ⟨kind, 2, ep, tx, (2 + bAnd .i64 log 1), rr, del, offs, order⟩ accH (by omega)
          simp only [wpA_region, wpA_seq, wpA_cond, condI_true, seqQ_normal, goI_out, goI_ops, opsA_nil, opsA_cons, opsA_guardS, gvI_same, slotAt_zero, slotAt_succ, stepA_move, stepA_pick, stepA_buildSlice, stepA_load, stepA_store, stepA_binOp, stepA_fieldAddr, thenV_some, thenS_some, pickV_true, eval_tmp, eval_const, put_some, put_none, aBin_add, aBin_eql, aBin_leq, aBin_and, absV_int, absV_bool, cells_int, one_int, all_nil, all_cons, aField_eq, fieldGo_ptr, aLoad_eq, loadGo_one, loadGo_row, aPlace_ptr, dropC_cells, aStore_eq, storeGo_ptr, setC_row, setAll_nil, setAll_cons, get_push_new, set_push, Nat.reduceEqDiff, Nat.reduceAdd, Nat.reduceLeDiff, List.map_cons, List.map_nil, Option.map_some, Nat.add_zero, Nat.zero_add, Nat.zero_le, List.length_cons, List.length_nil, List.drop_zero, List.drop_succ_cons, List.take_succ_cons, List.take_nil, List.set_cons_zero, List.set_cons_succ, if_true, if_false, Bool.and_self, Nat.le_refl, ft_47_0, ft_47_4, lt_3, lt_47, zt_3, g1, g2, g3, hw2]
          rw [← hH7]
          clear hH7
          simp only [wpA_region, seqQ_normal, blkQ_normal, endI_mk, andThen_normal, goI_out, goI_ops, opsA_nil, opsA_cons, stepA_move, stepA_assign, stepA_binOp, stepA_append, thenV_some, thenH_some, eval_tmp, eval_const, put_some, put_none, aBin_add, absV_int, Nat.reduceEqDiff, if_true, if_false, f10, b2, ea, wi]
          refine hid_mk ⟨(i2 + 1, K2 ++ [(⟨kind, 2, ep, tx, (2 + bAnd .i64 log 1), rr, del, offs, order⟩ : Ent)]), ⟨f0, f1, f5, f6, rfl, hlt.1, hlt.2, by simp; omega, a6, fun x hx => ?_⟩, by simp only; omega⟩
          rcases List.mem_append.1 hx with hx | hx
          · exact hK2 x hx
          · rw [List.mem_singleton.1 hx]; exact ⟨rfl, ⟨k1, k2⟩, fun _ => ⟨by show 2 ≤ 2 + bAnd .i64 log 1; have h1 := hand.1; omega, by show 2 + bAnd .i64 log 1 ≤ 3; have h2 := hand.2; omega⟩, hxl⟩
        · have g3 : (kind == 2) = false := by simpa using kd
          have b2 : ∀ hh : AHeap, aBuildSlice Tryd.prog 22 1 [(0, .agg [.int .i64 kind, .int .i64 2, .int .i64 ep, .int .i64 tx, .int .i64 log, .int .i64 rr.k, .int .i64 rr.v, .int .i64 rr.t, .bool del, .imm offs.length (i64V offs), .imm order.length (i64V order)])] hh = some (.sl hh.n 0 1 1, hh.push (.cells (entE ⟨kind, 2, ep, tx, log, rr, del, offs, order⟩) 47 none)) := fun hh => litEe hh ⟨kind, 2, ep, tx, log, rr, del, offs, order⟩
          obtain ⟨H7, hH7⟩ : ∃ y, y = h7.push (.cells [.int .i64 kind, .int .i64 2, .int .i64 ep, .int .i64 tx, .int .i64 log, .int .i64 rr.k, .int .i64 rr.v, .int .i64 rr.t, .bool del, .imm offs.length (i64V offs), .imm order.length (i64V order)] 47 none) := ⟨_, rfl⟩
          have accH : Acc h5 H7 47 11 (f 7) (K2.flatMap entE) := by rw [hH7]; exact acc2.on (kP _)
          have gx : H7.get h7.n = .cells [.int .i64 kind, .int .i64 2, .int .i64 ep, .int .i64 tx, .int .i64 log, .int .i64 rr.k, .int .i64 rr.v, .int .i64 rr.t, .bool del, .imm offs.length (i64V offs), .imm order.length (i64V order)] 47 none := by rw [hH7]; exact get_push_new
          obtain ⟨s', h6, ea, a6, k6, d6⟩ := accX ⟨kind, 2, ep, tx, log, rr, del, offs, order⟩ accH (by omega)
          simp only [wpA_skip, wpA_region, wpA_seq, wpA_cond, condI_true, condI_false, seqQ_normal, goI_out, goI_ops, opsA_nil, opsA_cons, opsA_guardS, gvI_same, slotAt_zero, slotAt_succ, stepA_move, stepA_pick, stepA_buildSlice, stepA_load, stepA_binOp, stepA_fieldAddr, thenV_some, pickV_true, eval_tmp, eval_const, put_some, put_none, aBin_eql, aBin_leq, absV_int, absV_bool, aField_eq, fieldGo_ptr, aLoad_eq, loadGo_one, loadGo_row, aPlace_ptr, dropC_cells, get_push_new, Nat.reduceEqDiff, Nat.reduceAdd, List.map_cons, List.map_nil, Nat.add_zero, Nat.zero_add, Nat.zero_le, List.length_cons, List.length_nil, List.drop_zero, List.take_succ_cons, List.take_nil, if_true, if_false, Nat.le_refl, ft_47_0, lt_3, lt_47, g1, g2, g3]
          rw [← hH7]
          clear hH7
          simp only [wpA_region, seqQ_normal, blkQ_normal, endI_mk, andThen_normal, goI_out, goI_ops, opsA_nil, opsA_cons, stepA_move, stepA_assign, stepA_binOp, stepA_append, thenV_some, thenH_some, eval_tmp, eval_const, put_some, put_none, aBin_add, absV_int, Nat.reduceEqDiff, if_true, if_false, f10, b2, ea, wi]
          refine hid_mk ⟨(i2 + 1, K2 ++ [(⟨kind, 2, ep, tx, log, rr, del, offs, order⟩ : Ent)]), ⟨f0, f1, f5, f6, rfl, hlt.1, hlt.2, by simp; omega, a6, fun x hx => ?_⟩, by simp only; omega⟩
          rcases List.mem_append.1 hx with hx | hx
          · exact hK2 x hx
          · rw [List.mem_singleton.1 hx]; exact ⟨rfl, ⟨k1, k2⟩, fun hh => absurd hh kd, hxl⟩
      · have dd2 : (decide ((i2 : Int) < ((b0.length : Nat) : Int)) = true ∧ decide ((i2 : Int) < 80) = false) ∨ decide ((i2 : Int) < ((b0.length : Nat) : Int)) = false := by
          by_cases hh : i2 < b0.length
          · exact .inl ⟨decide_eq_true (by omega), decide_eq_false (by omega)⟩
          · exact .inr (decide_eq_false (by omega))
        have own6' := own6.keepN acc2.keep
        obtain ⟨v7, f7'⟩ : ∃ v, f 7 = v := ⟨_, rfl⟩
        have own7 := acc2.own
        have new7 := acc2.new
        rw [f7'] at own7 new7
        have kp7 := kp.trans' acc2.keep
        have b0' := lit0e h7
        have z0 := acc0e h7
        obtain ⟨v1, h8, e1, a1⟩ := accO z0 (own6'.keepN z0.keep) (by simp; omega)
        obtain ⟨v2, h9, e2, a2⟩ := accO a1 (own7.keepN a1.keep) (by simp; omega)
        have b1' := lit0e h9
        have z1 := acc0e h9
        obtain ⟨w1, h10, e3, a3⟩ := accO z1 (own7.keepN (a2.keep.trans' z1.keep)) (by simp; omega)
        obtain ⟨w2, h11, e4, a4⟩ := accO a3 (own6'.keepN (a2.keep.trans' a3.keep)) (by simp; omega)
        rw [List.nil_append] at a2 a4
        have op := a2.own.keepN a4.keep
        have kAll := kp7.trans' (a2.keep.trans' a4.keep)
        have hS := order_same hK hK2
        have e1K : ∀ x ∈ K ++ K2, eLen x := fun x hx => (List.mem_append.1 hx).elim (fun hx => (hK x hx).2.2.2) (fun hx => (hK2 x hx).2.2.2)
        have e2K : ∀ x ∈ K2 ++ K, eLen x := fun x hx => (List.mem_append.1 hx).elim (fun hx => (hK2 x hx).2.2.2) (fun hx => (hK x hx).2.2.2)
        have hlp : (K ++ K2).length ≤ 160 := by rw [List.length_append]; omega
        have hlq : (K2 ++ K).length ≤ 160 := by rw [List.length_append]; omega
        have okp := tdOk (K ++ K2) (by omega)
        have hu11 : KU h11 := by unfold KU; rw [kAll.glob]; exact hu
        rcases dd2 with ⟨q1, q2⟩ | q1
        all_goals
          first | simp only [wpA_region, wpA_seq, wpA_cond, wpA_exit, condI_false, seqQ_normal, seqQ_exit, blkQ_exit, endI_mk, goE, andThen_exit, goI_out, goI_ops, opsA_nil, opsA_cons, opsA_guardS, gvI_same, slotAt_zero, slotAt_succ, stepA_move, stepA_assign, stepA_pick, stepA_buildSlice, stepA_binOp, stepA_len, stepA_append, stepA_call, thenV_some, thenH_some, pickV_true, eval_tmp, eval_const, put_some, aBin_lss, absV_int, absV_bool, aLen_imm, Nat.reduceEqDiff, List.map_cons, List.map_nil, if_true, if_false, kt_22, f1, f5, f6, f7', f10, q1, q2, b0', e1, e2, b1', e3, e4] | simp only [wpA_region, wpA_seq, wpA_cond, wpA_exit, condI_false, seqQ_normal, seqQ_exit, blkQ_exit, endI_mk, goE, andThen_exit, goI_out, goI_ops, opsA_nil, opsA_cons, opsA_guardS, gvI_same, gvI_ft, slotAt_zero, slotAt_succ, stepA_move, stepA_assign, stepA_pick, stepA_buildSlice, stepA_binOp, stepA_len, stepA_append, stepA_call, thenV_some, thenH_some, pickV_false, eval_tmp, eval_const, put_some, aBin_lss, absV_bool, aLen_imm, Nat.reduceEqDiff, List.map_cons, List.map_nil, if_true, if_false, kt_22, f1, f5, f6, f7', f10, q1, b0', e1, e2, b1', e3, e4]
          refine callI_pure cal12 (pReadO (K ++ K2) (by omega) e1K h11 hu11 op) ?_
          simp only [goI_ops, opsA_guardS, gvI_same, slotAt_zero, slotAt_succ, stepA_move, stepA_call, eval_tmp, put_some, Nat.reduceEqDiff, List.map_cons, List.map_nil, if_true, if_false]
          refine callI_pure cal12 (pReadO (K2 ++ K) (by omega) e2K h11 hu11 a4.own) ?_
          rw [← hS]
          simp only [goI_ops, opsA_guardS, gvI_same, slotAt_zero, slotAt_succ, stepA_call, eval_tmp, put_some, Nat.reduceEqDiff, List.map_cons, List.map_nil, if_true, if_false]
          refine callI_pure cal11 (pSameTold (toldOf (K ++ K2)) okp h11) ?_
          simp only [wpA_ret, seqQ_normal, endI_mk, goI_out, goI_ops, opsA_nil, opsA_cons, stepA_assign, stepA_pick, thenV_some, pickV_true, eval_tmp, eval_const, put_some, absV_bool, Nat.reduceEqDiff, if_true, if_false, retA_ret, Tryd.results7, resultsA_1]
          exact hid_mk rfl
end Go.Proofs.YtcdpepdjeneelaaDoor.Pk
