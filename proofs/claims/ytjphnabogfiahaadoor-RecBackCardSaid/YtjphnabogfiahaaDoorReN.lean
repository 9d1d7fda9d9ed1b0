/-
  What functions of the program do, told of abstract states. Conditions: as each theorem says.
-/
import Derived.Test.YtjphnabogfiahaaDoorReL
namespace Go.Proofs.YtjphnabogfiahaaDoor.Pk
open Go Go.Proofs Go.Proofs.YtjphnabogfiahaaDoor.Ab
set_option linter.unusedVariables false
set_option linter.unusedSimpArgs false

theorem lit3i (h : AHeap) (a b c : Int) : aBuildSlice Tryd.prog 33 3 [(0, .int .i64 a), (1, .int .i64 b), (2, .int .i64 c)] h = some (.sl h.n 0 3 3, h.push (.cells [.int .i64 a, .int .i64 b, .int .i64 c] 3 none)) := by rw [buildSlice_go sl_33]; rfl
theorem z64 : in64 0 := by constructor <;> decide
def markE (k a b c : Nat) : Ent := ⟨k, a, b, c, 0, zR, false, [], []⟩
theorem markIn {k a b c : Nat} (hk : k ≤ 6) (ha : a < 65536) (hb : b < 65536) (hc : c < 65536) : eIn (markE k a b c) :=
  ⟨⟨by simp only [markE]; omega, by simp only [markE]; omega⟩, ⟨by simp only [markE]; omega, by simp only [markE]; omega⟩, ⟨by simp only [markE]; omega, by simp only [markE]; omega⟩, ⟨by simp only [markE]; omega, by simp only [markE]; omega⟩, z64, ⟨z64, z64, z64⟩, by simp [markE], by simp [markE]⟩
theorem markMay {k a b c : Nat} (hk : k = 3 ∨ k = 4 ∨ k = 5 ∧ c = 0) (ha : a < 65536) (hb : b < 65536) (hc : c < 65536) : mayB (markE k a b c) = true := by
  refine (may_iff _).2 ⟨by simp only [markE]; omega, ?_, ?_, ?_, by simp only [markE]; decide, by simp only [markE, zR]; decide, by simp [markE], by simp [markE], by simp [markE], by simp [markE], ?_⟩
  · simp only [markE, fit_iff]; omega
  · simp only [markE, fit_iff]; omega
  · simp only [markE, fit_iff]; omega
  · rcases hk with rfl | rfl | ⟨rfl, rfl⟩ <;> simp [useB, markE]
theorem markEnc {k a b c a' b' c' : Nat} (hk : k = 3 ∨ k = 4 ∨ k = 5 ∧ c = 0 ∧ c' = 0) (ha : a < 65536) (hb : b < 65536) (hc : c < 65536) (ha' : a' < 65536) (hb' : b' < 65536) (hc' : c' < 65536) :
    ((strB (encV (markE k a b c))).toList == (strB (encV (markE k a' b' c'))).toList) = decide (a = a' ∧ b = b' ∧ c = c') := by
  have m1 := markMay (k := k) (by omega) ha hb hc
  have m2 := markMay (k := k) (by omega) ha' hb' hc'
  rw [encV, encV, if_pos m1, if_pos m2, strB_eq (encT_lt _) (encT_lt _)]
  rw [decide_eq_decide, encT_inj (markIn (by omega) ha hb hc).2.2.2.2.2.1 (markIn (by omega) ha' hb' hc').2.2.2.2.2.1 m1 m2]
  simp only [markE, Ent.mk.injEq, and_true, true_and]
  omega
theorem markE_agg (k a b c : Nat) (h : AHeap) : Cast (.agg [.int .i64 (k : Int), .int .i64 (a : Int), .int .i64 (b : Int), .int .i64 (c : Int), .int .i64 0, .int .i64 0, .int .i64 0, .int .i64 0, .bool false, .snil, .snil]) h (.agg (entE (markE k a b c))) h := castS k a b c 0 0 0 0 false h
set_option maxHeartbeats 4000000 in
set_option maxRecDepth 10000 in
theorem recFences (a0 a1 a2 b0 b1 b2 kind : Nat) (ha0 : a0 < 65536) (ha1 : a1 < 65536) (ha2 : a2 < 65536) (hb0 : b0 < 65536) (hb1 : b1 < 65536) (hb2 : b2 < 65536) (hk : kind < 256) (h : AHeap) (hu : KU h) :
    SCalls Tryd.prog 8 [.agg [.int .u16 (a0 : Int), .int .u16 (a1 : Int), .int .u16 (a2 : Int)], .agg [.int .u16 (b0 : Int), .int .u16 (b1 : Int), .int .u16 (b2 : Int)], .int .u8 (kind : Int)] h (fun r h' => r = .bool true) := by
  refine SCalls.enterI (c := _) Tryd.func8 rfl (by kernel_rfl) (by simp) ?_
  have i0 : ((0 : Int) < ((3 : Nat) : Int)) = True := eq_true (by decide)
  have i1 : ((1 : Int) < ((3 : Nat) : Int)) = True := eq_true (by decide)
  have i2 : ((2 : Int) < ((3 : Nat) : Int)) = True := eq_true (by decide)
  have w0 := nat_i64 (n := kind) (by omega)
  have wa0 := nat_i64 (n := a0) (by omega)
  have wa1 := nat_i64 (n := a1) (by omega)
  have wa2 := nat_i64 (n := a2) (by omega)
  have wb0 := nat_i64 (n := b0) (by omega)
  have wb1 := nat_i64 (n := b1) (by omega)
  have wb2 := nat_i64 (n := b2) (by omega)
  have e1 : (kind : Int).tmod 3 = ((kind % 3 : Nat) : Int) := by rw [Int.tmod_eq_emod_of_nonneg (by omega)]; omega
  simp only [wpA_region, wpA_seq, seqQ_normal, goI_out, goI_ops, opsA_nil, opsA_cons, stepA_assign, stepA_box, stepA_call, thenH_some, eval_tmp, eval_const, put_some, enterF_zero, enterF_succ, absV_bool, cells_agg, aBox_eq, push_n, Nat.reduceEqDiff, List.map_nil, Option.map_some, if_false]
  refine callI_pure cal9 (pShown3 _ (by unfold KU; simp only [push_glob]; exact hu)) ?_
  have g : ∀ (u v : Nat), ((u : Int) == (v : Int)) = decide (u = v) := fun u v => by rw [Bool.eq_iff_iff]; simp; omega
  have m3 : kind % 3 = 0 ∨ kind % 3 = 1 ∨ kind % 3 = 2 := by omega
  rcases m3 with m3 | m3 | m3
  · have e2 : (kind : Int).tmod 3 = 0 := by rw [e1, m3]; rfl
    simp only [wpA_region, wpA_seq, seqQ_normal, goI_out, goI_ops, opsA_nil, opsA_cons, stepA_move, stepA_assign, stepA_alloc, stepA_build, stepA_buildSlice, stepA_load, stepA_store, stepA_binOp, stepA_convert, stepA_indexAddr, thenV_some, thenH_some, thenS_some, eval_tmp, eval_const, put_some, put_none, enterF_zero, enterF_succ, aConv_int, absV_int, cells_int, cells_agg, one_int, one_bool, one_snil, all_nil, all_cons, aLoad_eq, loadGo_one, aPlace_ptr, dropC_cells, aStore_eq, storeGo_ptr, setC_row, setAll_nil, setAll_cons, aAlloc_eq, aIndexAddr_eq, ixGo_sl, ixGo_ptr, aBuild_go, aFill_nil, aFill_cons, fillGo_some, buildGo_struct, push_n, get_push3a, get_push3c, get_push4b, get_push4d, set_push4d, List.getElem?_cons_zero, List.getElem?_cons_succ, Int.reduceLE, Option.some.injEq, Nat.reduceEqDiff, Nat.reduceAdd, Nat.reduceLeDiff, Nat.reduceMul, List.map_cons, List.map_nil, Option.map_some, Nat.add_zero, Nat.zero_add, Nat.zero_le, List.length_cons, List.length_nil, List.drop_zero, List.drop_succ_cons, List.set_cons_zero, List.set_cons_succ, and_self, if_true, if_false, Bool.and_self, Nat.le_refl, as_33, as_50, it_3, it_49, lt_3, lt_49, pl_35, ss_33, ss_50, zc_35, zt_35, lit3i, aBin_rem (show (3 : Int) ≠ 0 by decide), e2, w0, aConv_int it_5 it_3, i0, i1, Int.toNat_zero, Int.toNat_one]
    obtain ⟨H3, hH3⟩ : ∃ y, y = ((h.push (.cells [.int .u16 (a0 : Int), .int .u16 (a1 : Int), .int .u16 (a2 : Int)] 50 none)).push (.cells [.int .u16 (b0 : Int), .int .u16 (b1 : Int), .int .u16 (b2 : Int)] 50 none)).push (.cells [.int .i64 3, .int .i64 4, .int .i64 5] 3 none) := ⟨_, rfl⟩
    have q0 : H3.get h.n = .cells [.int .u16 (a0 : Int), .int .u16 (a1 : Int), .int .u16 (a2 : Int)] 50 none := by rw [hH3]; exact get_push3a
    have q1 : H3.get (h.n + 1) = .cells [.int .u16 (b0 : Int), .int .u16 (b1 : Int), .int .u16 (b2 : Int)] 50 none := by rw [hH3]; exact get_push3b
    have n3 : H3.n = h.n + 3 := by rw [hH3]; rfl
    have k3 : H3.glob = h.glob := by rw [hH3]; rfl
    have q0p : ∀ o, (H3.push o).get h.n = _ := fun o => (get_push_lt (by omega)).trans q0
    have q1p : ∀ o, (H3.push o).get (h.n + 1) = _ := fun o => (get_push_lt (by omega)).trans q1
    have q0q : ∀ o o', ((H3.push o).push o').get h.n = _ := fun o o' => (get_push_lt (by rw [push_n]; omega)).trans (q0p o)
    have q1q : ∀ o o', ((H3.push o).push o').get (h.n + 1) = _ := fun o o' => (get_push_lt (by rw [push_n]; omega)).trans (q1p o)
    have uq : ∀ o o', KU ((H3.push o).push o') := fun o o' => by unfold KU; simp only [push_glob, k3]; exact hu
    have n3' : h.n + 1 + 1 + 1 = H3.n := by omega
    rw [← hH3]
    clear hH3
    simp only [n3']
    simp only [wpA_region, wpA_seq, wpA_cond, condI_true, seqQ_normal, goI_out, goI_ops, opsA_nil, opsA_cons, stepA_move, stepA_load, stepA_store, stepA_binOp, stepA_convert, stepA_fieldAddr, stepA_indexAddr, stepA_call, thenV_some, thenS_some, eval_tmp, eval_const, put_some, put_none, enterF_succ, aBin_neq, absV_int, cells_int, one_int, one_bool, one_snil, all_nil, all_cons, aField_eq, fieldGo_ptr, aLoad_eq, loadGo_one, loadGo_row, aPlace_ptr, dropC_cells, aStore_eq, storeGo_ptr, setC_row, setAll_nil, setAll_cons, aIndexAddr_eq, ixGo_ptr, get_push2, get_push2', set_push2, set_push2', Int.reduceBNe, Int.reduceLE, Nat.reduceEqDiff, Nat.reduceAdd, Nat.reduceLeDiff, Nat.reduceMul, List.map_cons, List.map_nil, Option.map_some, Nat.zero_add, Nat.zero_le, List.length_cons, List.length_nil, List.drop_zero, List.drop_succ_cons, List.take_succ_cons, List.take_nil, List.set_cons_zero, List.set_cons_succ, and_self, if_true, if_false, Bool.and_self, Nat.le_refl, as_50, ft_35_3, lt_35, lt_49, ss_50, zt_3, q0q, q1q, wa0, wa1, wa2, wb0, wb1, wb2, aConv_int it_49 it_3, i2, Int.reduceToNat]
    refine callI_pure cal14 (Pure.args (CastL.last (markE_agg 3 a0 a1 a2 _)) (pEntry (markE 3 a0 a1 a2) _ (uq _ _) (markIn (by decide) ha0 ha1 (by omega)) ⟨by simp [markE], by simp [markE]⟩)) ?_
    simp only [wpA_region, wpA_seq, seqQ_normal, goI_out, goI_ops, opsA_nil, opsA_cons, stepA_move, stepA_assign, stepA_load, stepA_extract, stepA_call, thenV_some, extV_zero, extV_succ, eval_tmp, put_some, put_none, enterF_succ, aLoad_eq, loadGo_row, aPlace_ptr, dropC_cells, get_push2, Nat.reduceEqDiff, Nat.reduceAdd, List.map_cons, List.map_nil, Nat.zero_add, Nat.zero_le, List.length_cons, List.length_nil, List.drop_zero, List.take_succ_cons, List.take_nil, if_true, if_false, Nat.le_refl, lt_35]
    refine callI_pure cal14 (Pure.args (CastL.last (markE_agg 3 b0 b1 b2 _)) (pEntry (markE 3 b0 b1 b2) _ (uq _ _) (markIn (by decide) hb0 hb1 (by omega)) ⟨by simp [markE], by simp [markE]⟩)) ?_
    have x1 : codeV (markE 3 a0 a1 a2) = 0 := by rw [codeV, if_pos (markMay (by omega) ha0 ha1 (by omega))]
    have x2 : codeV (markE 3 b0 b1 b2) = 0 := by rw [codeV, if_pos (markMay (by omega) hb0 hb1 (by omega))]
    have x3 := markEnc (k := 3) (a := a0) (b := a1) (c := a2) (a' := b0) (b' := b1) (c' := b2) (by omega) ha0 ha1 (by omega) hb0 hb1 (by omega)
    rw [x1, x2]
    by_cases j0 : a0 = b0
    · by_cases j1 : a1 = b1
      · by_cases j2 : a2 = b2
        · have y : decide (a0 = b0 ∧ a1 = b1 ∧ a2 = b2) = true := decide_eq_true ⟨j0, j1, j2⟩
          have d0 : ((a0 : Int) == (b0 : Int)) = true := by rw [g]; exact decide_eq_true j0
          have d1 : ((a1 : Int) == (b1 : Int)) = true := by rw [g]; exact decide_eq_true j1
          have d2 : ((a2 : Int) == (b2 : Int)) = true := by rw [g]; exact decide_eq_true j2
          simp only [wpA_region, wpA_seq, wpA_ret, seqQ_normal, endI_mk, goI_out, goI_ops, opsA_nil, opsA_cons, opsA_guardS, gvI_same, slotAt_zero, slotAt_succ, stepA_move, stepA_assign, stepA_pick, stepA_load, stepA_binOp, stepA_convert, stepA_indexAddr, stepA_extract, thenV_some, pickV_true, pickV_false, extV_zero, extV_succ, eval_tmp, eval_const, put_some, put_none, enterF_succ, aBin_eql, aBin_bool_eql, aBin_str_eql, absV_int, absV_bool, aLoad_eq, loadGo_one, aPlace_ptr, dropC_cells, aIndexAddr_eq, ixGo_ptr, Int.reduceBEq, beq_self_eq_true, Int.reduceLE, Nat.reduceEqDiff, Nat.reduceAdd, Nat.reduceLeDiff, Nat.reduceMul, Nat.add_zero, Nat.zero_add, Nat.zero_le, List.length_cons, List.length_nil, List.drop_zero, List.drop_succ_cons, and_self, if_true, if_false, as_50, bt_4, lt_49, ss_50, q0q, q1q, d0, d1, d2, convB, x3, y, i0, i1, i2, Int.toNat_zero, Int.toNat_one, Int.reduceToNat, retA_ret, Tryd.results8, resultsA_1]
          exact hid_mk rfl
        · have y : decide (a0 = b0 ∧ a1 = b1 ∧ a2 = b2) = false := decide_eq_false (by omega)
          have d0 : ((a0 : Int) == (b0 : Int)) = true := by rw [g]; exact decide_eq_true j0
          have d1 : ((a1 : Int) == (b1 : Int)) = true := by rw [g]; exact decide_eq_true j1
          have d2 : ((a2 : Int) == (b2 : Int)) = false := by rw [g]; exact decide_eq_false j2
          simp only [wpA_region, wpA_seq, wpA_ret, seqQ_normal, endI_mk, goI_out, goI_ops, opsA_nil, opsA_cons, opsA_guardS, gvI_same, slotAt_zero, slotAt_succ, stepA_move, stepA_assign, stepA_pick, stepA_load, stepA_binOp, stepA_convert, stepA_indexAddr, stepA_extract, thenV_some, pickV_true, pickV_false, extV_zero, extV_succ, eval_tmp, eval_const, put_some, put_none, enterF_succ, aBin_eql, aBin_bool_eql, aBin_str_eql, absV_int, absV_bool, aLoad_eq, loadGo_one, aPlace_ptr, dropC_cells, aIndexAddr_eq, ixGo_ptr, Int.reduceBEq, beq_self_eq_true, Int.reduceLE, Nat.reduceEqDiff, Nat.reduceAdd, Nat.reduceLeDiff, Nat.reduceMul, Nat.add_zero, Nat.zero_add, Nat.zero_le, List.length_cons, List.length_nil, List.drop_zero, List.drop_succ_cons, and_self, if_true, if_false, as_50, bt_4, lt_49, ss_50, q0q, q1q, d0, d1, d2, convB, x3, y, i0, i1, i2, Int.toNat_zero, Int.toNat_one, Int.reduceToNat, retA_ret, Tryd.results8, resultsA_1]
          exact hid_mk rfl
      · have y : decide (a0 = b0 ∧ a1 = b1 ∧ a2 = b2) = false := decide_eq_false (by omega)
        have d0 : ((a0 : Int) == (b0 : Int)) = true := by rw [g]; exact decide_eq_true j0
        have d1 : ((a1 : Int) == (b1 : Int)) = false := by rw [g]; exact decide_eq_false j1
        simp only [wpA_region, wpA_seq, wpA_ret, seqQ_normal, endI_mk, goI_out, goI_ops, opsA_nil, opsA_cons, opsA_guardS, gvI_same, gvI_ft, gvI_u, slotAt_zero, slotAt_succ, stepA_move, stepA_assign, stepA_pick, stepA_load, stepA_binOp, stepA_convert, stepA_indexAddr, stepA_extract, thenV_some, pickV_true, pickV_false, extV_zero, extV_succ, eval_tmp, eval_const, put_some, put_none, enterF_succ, aBin_eql, aBin_bool_eql, aBin_str_eql, absV_int, absV_bool, aLoad_eq, loadGo_one, aPlace_ptr, dropC_cells, aIndexAddr_eq, ixGo_ptr, beq_self_eq_true, Int.reduceLE, Nat.reduceEqDiff, Nat.reduceAdd, Nat.reduceLeDiff, Nat.reduceMul, Nat.add_zero, Nat.zero_add, Nat.zero_le, List.length_cons, List.length_nil, List.drop_zero, List.drop_succ_cons, and_self, if_true, if_false, as_50, bt_4, lt_49, ss_50, q0q, q1q, d0, d1, convB, x3, y, i0, i1, Int.toNat_zero, Int.toNat_one, retA_ret, Tryd.results8, resultsA_1]
        exact hid_mk rfl
    · have y : decide (a0 = b0 ∧ a1 = b1 ∧ a2 = b2) = false := decide_eq_false (by omega)
      have d0 : ((a0 : Int) == (b0 : Int)) = false := by rw [g]; exact decide_eq_false j0
      simp only [wpA_region, wpA_seq, wpA_ret, seqQ_normal, endI_mk, goI_out, goI_ops, opsA_nil, opsA_cons, opsA_guardS, gvI_same, gvI_ft, gvI_u, slotAt_zero, slotAt_succ, stepA_move, stepA_assign, stepA_pick, stepA_load, stepA_binOp, stepA_convert, stepA_indexAddr, stepA_extract, thenV_some, pickV_true, pickV_false, extV_zero, extV_succ, eval_tmp, eval_const, put_some, put_none, enterF_succ, aBin_eql, aBin_bool_eql, aBin_str_eql, absV_int, absV_bool, aLoad_eq, loadGo_one, aPlace_ptr, dropC_cells, aIndexAddr_eq, ixGo_ptr, beq_self_eq_true, Int.reduceLE, Nat.reduceEqDiff, Nat.reduceAdd, Nat.reduceMul, Nat.add_zero, Nat.zero_add, Nat.zero_le, List.length_cons, List.length_nil, List.drop_zero, and_self, if_true, if_false, as_50, bt_4, lt_49, ss_50, q0q, q1q, d0, convB, x3, y, i0, Int.toNat_zero, retA_ret, Tryd.results8, resultsA_1]
      exact hid_mk rfl
  · have e2 : (kind : Int).tmod 3 = 1 := by rw [e1, m3]; rfl
    simp only [wpA_region, wpA_seq, seqQ_normal, goI_out, goI_ops, opsA_nil, opsA_cons, stepA_move, stepA_assign, stepA_alloc, stepA_build, stepA_buildSlice, stepA_load, stepA_store, stepA_binOp, stepA_convert, stepA_indexAddr, thenV_some, thenH_some, thenS_some, eval_tmp, eval_const, put_some, put_none, enterF_zero, enterF_succ, aConv_int, absV_int, cells_int, cells_agg, one_int, one_bool, one_snil, all_nil, all_cons, aLoad_eq, loadGo_one, aPlace_ptr, dropC_cells, aStore_eq, storeGo_ptr, setC_row, setAll_nil, setAll_cons, aAlloc_eq, aIndexAddr_eq, ixGo_sl, ixGo_ptr, aBuild_go, aFill_nil, aFill_cons, fillGo_some, buildGo_struct, push_n, get_push3a, get_push3c, get_push4b, get_push4d, set_push4d, List.getElem?_cons_zero, List.getElem?_cons_succ, Int.reduceLE, Option.some.injEq, Nat.reduceEqDiff, Nat.reduceAdd, Nat.reduceLeDiff, Nat.reduceMul, List.map_cons, List.map_nil, Option.map_some, Nat.add_zero, Nat.zero_add, Nat.zero_le, List.length_cons, List.length_nil, List.drop_zero, List.drop_succ_cons, List.set_cons_zero, List.set_cons_succ, and_self, if_true, if_false, Bool.and_self, Nat.le_refl, as_33, as_50, it_3, it_49, lt_3, lt_49, pl_35, ss_33, ss_50, zc_35, zt_35, lit3i, aBin_rem (show (3 : Int) ≠ 0 by decide), e2, w0, aConv_int it_5 it_3, i0, i1, Int.toNat_zero, Int.toNat_one]
    obtain ⟨H3, hH3⟩ : ∃ y, y = ((h.push (.cells [.int .u16 (a0 : Int), .int .u16 (a1 : Int), .int .u16 (a2 : Int)] 50 none)).push (.cells [.int .u16 (b0 : Int), .int .u16 (b1 : Int), .int .u16 (b2 : Int)] 50 none)).push (.cells [.int .i64 3, .int .i64 4, .int .i64 5] 3 none) := ⟨_, rfl⟩
    have q0 : H3.get h.n = .cells [.int .u16 (a0 : Int), .int .u16 (a1 : Int), .int .u16 (a2 : Int)] 50 none := by rw [hH3]; exact get_push3a
    have q1 : H3.get (h.n + 1) = .cells [.int .u16 (b0 : Int), .int .u16 (b1 : Int), .int .u16 (b2 : Int)] 50 none := by rw [hH3]; exact get_push3b
    have n3 : H3.n = h.n + 3 := by rw [hH3]; rfl
    have k3 : H3.glob = h.glob := by rw [hH3]; rfl
    have q0p : ∀ o, (H3.push o).get h.n = _ := fun o => (get_push_lt (by omega)).trans q0
    have q1p : ∀ o, (H3.push o).get (h.n + 1) = _ := fun o => (get_push_lt (by omega)).trans q1
    have q0q : ∀ o o', ((H3.push o).push o').get h.n = _ := fun o o' => (get_push_lt (by rw [push_n]; omega)).trans (q0p o)
    have q1q : ∀ o o', ((H3.push o).push o').get (h.n + 1) = _ := fun o o' => (get_push_lt (by rw [push_n]; omega)).trans (q1p o)
    have uq : ∀ o o', KU ((H3.push o).push o') := fun o o' => by unfold KU; simp only [push_glob, k3]; exact hu
    have n3' : h.n + 1 + 1 + 1 = H3.n := by omega
    rw [← hH3]
    clear hH3
    simp only [n3']
    simp only [wpA_region, wpA_seq, wpA_cond, condI_true, seqQ_normal, goI_out, goI_ops, opsA_nil, opsA_cons, stepA_move, stepA_load, stepA_store, stepA_binOp, stepA_convert, stepA_fieldAddr, stepA_indexAddr, stepA_call, thenV_some, thenS_some, eval_tmp, eval_const, put_some, put_none, enterF_succ, aBin_neq, absV_int, cells_int, one_int, one_bool, one_snil, all_nil, all_cons, aField_eq, fieldGo_ptr, aLoad_eq, loadGo_one, loadGo_row, aPlace_ptr, dropC_cells, aStore_eq, storeGo_ptr, setC_row, setAll_nil, setAll_cons, aIndexAddr_eq, ixGo_ptr, get_push2, get_push2', set_push2, set_push2', Int.reduceBNe, Int.reduceLE, Nat.reduceEqDiff, Nat.reduceAdd, Nat.reduceLeDiff, Nat.reduceMul, List.map_cons, List.map_nil, Option.map_some, Nat.zero_add, Nat.zero_le, List.length_cons, List.length_nil, List.drop_zero, List.drop_succ_cons, List.take_succ_cons, List.take_nil, List.set_cons_zero, List.set_cons_succ, and_self, if_true, if_false, Bool.and_self, Nat.le_refl, as_50, ft_35_3, lt_35, lt_49, ss_50, zt_3, q0q, q1q, wa0, wa1, wa2, wb0, wb1, wb2, aConv_int it_49 it_3, i2, Int.reduceToNat]
    refine callI_pure cal14 (Pure.args (CastL.last (markE_agg 4 a0 a1 a2 _)) (pEntry (markE 4 a0 a1 a2) _ (uq _ _) (markIn (by decide) ha0 ha1 (by omega)) ⟨by simp [markE], by simp [markE]⟩)) ?_
    simp only [wpA_region, wpA_seq, seqQ_normal, goI_out, goI_ops, opsA_nil, opsA_cons, stepA_move, stepA_assign, stepA_load, stepA_extract, stepA_call, thenV_some, extV_zero, extV_succ, eval_tmp, put_some, put_none, enterF_succ, aLoad_eq, loadGo_row, aPlace_ptr, dropC_cells, get_push2, Nat.reduceEqDiff, Nat.reduceAdd, List.map_cons, List.map_nil, Nat.zero_add, Nat.zero_le, List.length_cons, List.length_nil, List.drop_zero, List.take_succ_cons, List.take_nil, if_true, if_false, Nat.le_refl, lt_35]
    refine callI_pure cal14 (Pure.args (CastL.last (markE_agg 4 b0 b1 b2 _)) (pEntry (markE 4 b0 b1 b2) _ (uq _ _) (markIn (by decide) hb0 hb1 (by omega)) ⟨by simp [markE], by simp [markE]⟩)) ?_
    have x1 : codeV (markE 4 a0 a1 a2) = 0 := by rw [codeV, if_pos (markMay (by omega) ha0 ha1 (by omega))]
    have x2 : codeV (markE 4 b0 b1 b2) = 0 := by rw [codeV, if_pos (markMay (by omega) hb0 hb1 (by omega))]
    have x3 := markEnc (k := 4) (a := a0) (b := a1) (c := a2) (a' := b0) (b' := b1) (c' := b2) (by omega) ha0 ha1 (by omega) hb0 hb1 (by omega)
    rw [x1, x2]
    by_cases j0 : a0 = b0
    · by_cases j1 : a1 = b1
      · by_cases j2 : a2 = b2
        · have y : decide (a0 = b0 ∧ a1 = b1 ∧ a2 = b2) = true := decide_eq_true ⟨j0, j1, j2⟩
          have d0 : ((a0 : Int) == (b0 : Int)) = true := by rw [g]; exact decide_eq_true j0
          have d1 : ((a1 : Int) == (b1 : Int)) = true := by rw [g]; exact decide_eq_true j1
          have d2 : ((a2 : Int) == (b2 : Int)) = true := by rw [g]; exact decide_eq_true j2
          simp only [wpA_region, wpA_seq, wpA_ret, seqQ_normal, endI_mk, goI_out, goI_ops, opsA_nil, opsA_cons, opsA_guardS, gvI_same, slotAt_zero, slotAt_succ, stepA_move, stepA_assign, stepA_pick, stepA_load, stepA_binOp, stepA_convert, stepA_indexAddr, stepA_extract, thenV_some, pickV_true, pickV_false, extV_zero, extV_succ, eval_tmp, eval_const, put_some, put_none, enterF_succ, aBin_eql, aBin_bool_eql, aBin_str_eql, absV_int, absV_bool, aLoad_eq, loadGo_one, aPlace_ptr, dropC_cells, aIndexAddr_eq, ixGo_ptr, Int.reduceBEq, beq_self_eq_true, Int.reduceLE, Nat.reduceEqDiff, Nat.reduceAdd, Nat.reduceLeDiff, Nat.reduceMul, Nat.add_zero, Nat.zero_add, Nat.zero_le, List.length_cons, List.length_nil, List.drop_zero, List.drop_succ_cons, and_self, if_true, if_false, as_50, bt_4, lt_49, ss_50, q0q, q1q, d0, d1, d2, convB, x3, y, i0, i1, i2, Int.toNat_zero, Int.toNat_one, Int.reduceToNat, retA_ret, Tryd.results8, resultsA_1]
          exact hid_mk rfl
        · have y : decide (a0 = b0 ∧ a1 = b1 ∧ a2 = b2) = false := decide_eq_false (by omega)
          have d0 : ((a0 : Int) == (b0 : Int)) = true := by rw [g]; exact decide_eq_true j0
          have d1 : ((a1 : Int) == (b1 : Int)) = true := by rw [g]; exact decide_eq_true j1
          have d2 : ((a2 : Int) == (b2 : Int)) = false := by rw [g]; exact decide_eq_false j2
          simp only [wpA_region, wpA_seq, wpA_ret, seqQ_normal, endI_mk, goI_out, goI_ops, opsA_nil, opsA_cons, opsA_guardS, gvI_same, slotAt_zero, slotAt_succ, stepA_move, stepA_assign, stepA_pick, stepA_load, stepA_binOp, stepA_convert, stepA_indexAddr, stepA_extract, thenV_some, pickV_true, pickV_false, extV_zero, extV_succ, eval_tmp, eval_const, put_some, put_none, enterF_succ, aBin_eql, aBin_bool_eql, aBin_str_eql, absV_int, absV_bool, aLoad_eq, loadGo_one, aPlace_ptr, dropC_cells, aIndexAddr_eq, ixGo_ptr, Int.reduceBEq, beq_self_eq_true, Int.reduceLE, Nat.reduceEqDiff, Nat.reduceAdd, Nat.reduceLeDiff, Nat.reduceMul, Nat.add_zero, Nat.zero_add, Nat.zero_le, List.length_cons, List.length_nil, List.drop_zero, List.drop_succ_cons, and_self, if_true, if_false, as_50, bt_4, lt_49, ss_50, q0q, q1q, d0, d1, d2, convB, x3, y, i0, i1, i2, Int.toNat_zero, Int.toNat_one, Int.reduceToNat, retA_ret, Tryd.results8, resultsA_1]
          exact hid_mk rfl
      · have y : decide (a0 = b0 ∧ a1 = b1 ∧ a2 = b2) = false := decide_eq_false (by omega)
        have d0 : ((a0 : Int) == (b0 : Int)) = true := by rw [g]; exact decide_eq_true j0
        have d1 : ((a1 : Int) == (b1 : Int)) = false := by rw [g]; exact decide_eq_false j1
        simp only [wpA_region, wpA_seq, wpA_ret, seqQ_normal, endI_mk, goI_out, goI_ops, opsA_nil, opsA_cons, opsA_guardS, gvI_same, gvI_ft, gvI_u, slotAt_zero, slotAt_succ, stepA_move, stepA_assign, stepA_pick, stepA_load, stepA_binOp, stepA_convert, stepA_indexAddr, stepA_extract, thenV_some, pickV_true, pickV_false, extV_zero, extV_succ, eval_tmp, eval_const, put_some, put_none, enterF_succ, aBin_eql, aBin_bool_eql, aBin_str_eql, absV_int, absV_bool, aLoad_eq, loadGo_one, aPlace_ptr, dropC_cells, aIndexAddr_eq, ixGo_ptr, beq_self_eq_true, Int.reduceLE, Nat.reduceEqDiff, Nat.reduceAdd, Nat.reduceLeDiff, Nat.reduceMul, Nat.add_zero, Nat.zero_add, Nat.zero_le, List.length_cons, List.length_nil, List.drop_zero, List.drop_succ_cons, and_self, if_true, if_false, as_50, bt_4, lt_49, ss_50, q0q, q1q, d0, d1, convB, x3, y, i0, i1, Int.toNat_zero, Int.toNat_one, retA_ret, Tryd.results8, resultsA_1]
        exact hid_mk rfl
    · have y : decide (a0 = b0 ∧ a1 = b1 ∧ a2 = b2) = false := decide_eq_false (by omega)
      have d0 : ((a0 : Int) == (b0 : Int)) = false := by rw [g]; exact decide_eq_false j0
      simp only [wpA_region, wpA_seq, wpA_ret, seqQ_normal, endI_mk, goI_out, goI_ops, opsA_nil, opsA_cons, opsA_guardS, gvI_same, gvI_ft, gvI_u, slotAt_zero, slotAt_succ, stepA_move, stepA_assign, stepA_pick, stepA_load, stepA_binOp, stepA_convert, stepA_indexAddr, stepA_extract, thenV_some, pickV_true, pickV_false, extV_zero, extV_succ, eval_tmp, eval_const, put_some, put_none, enterF_succ, aBin_eql, aBin_bool_eql, aBin_str_eql, absV_int, absV_bool, aLoad_eq, loadGo_one, aPlace_ptr, dropC_cells, aIndexAddr_eq, ixGo_ptr, beq_self_eq_true, Int.reduceLE, Nat.reduceEqDiff, Nat.reduceAdd, Nat.reduceMul, Nat.add_zero, Nat.zero_add, Nat.zero_le, List.length_cons, List.length_nil, List.drop_zero, and_self, if_true, if_false, as_50, bt_4, lt_49, ss_50, q0q, q1q, d0, convB, x3, y, i0, Int.toNat_zero, retA_ret, Tryd.results8, resultsA_1]
      exact hid_mk rfl
  · have e2 : (kind : Int).tmod 3 = 2 := by rw [e1, m3]; rfl
    simp only [wpA_region, wpA_seq, seqQ_normal, goI_out, goI_ops, opsA_nil, opsA_cons, stepA_move, stepA_assign, stepA_alloc, stepA_build, stepA_buildSlice, stepA_load, stepA_store, stepA_binOp, stepA_convert, stepA_indexAddr, thenV_some, thenH_some, thenS_some, eval_tmp, eval_const, put_some, put_none, enterF_zero, enterF_succ, aConv_int, absV_int, cells_int, cells_agg, one_int, one_bool, one_snil, all_nil, all_cons, aLoad_eq, loadGo_one, aPlace_ptr, dropC_cells, aStore_eq, storeGo_ptr, setC_row, setAll_nil, setAll_cons, aAlloc_eq, aIndexAddr_eq, ixGo_sl, ixGo_ptr, aBuild_go, aFill_nil, aFill_cons, fillGo_some, buildGo_struct, push_n, get_push3a, get_push3c, get_push4b, get_push4d, set_push4d, List.getElem?_cons_zero, List.getElem?_cons_succ, Int.reduceLE, Option.some.injEq, Nat.reduceEqDiff, Nat.reduceAdd, Nat.reduceLeDiff, Nat.reduceMul, List.map_cons, List.map_nil, Option.map_some, Nat.add_zero, Nat.zero_add, Nat.zero_le, List.length_cons, List.length_nil, List.drop_zero, List.drop_succ_cons, List.set_cons_zero, List.set_cons_succ, and_self, if_true, if_false, Bool.and_self, Nat.le_refl, as_33, as_50, it_3, it_49, lt_3, lt_49, pl_35, ss_33, ss_50, zc_35, zt_35, lit3i, aBin_rem (show (3 : Int) ≠ 0 by decide), e2, w0, aConv_int it_5 it_3, i0, i1, i2, Int.toNat_zero, Int.toNat_one, Int.reduceToNat]
    obtain ⟨H3, hH3⟩ : ∃ y, y = ((h.push (.cells [.int .u16 (a0 : Int), .int .u16 (a1 : Int), .int .u16 (a2 : Int)] 50 none)).push (.cells [.int .u16 (b0 : Int), .int .u16 (b1 : Int), .int .u16 (b2 : Int)] 50 none)).push (.cells [.int .i64 3, .int .i64 4, .int .i64 5] 3 none) := ⟨_, rfl⟩
    have q0 : H3.get h.n = .cells [.int .u16 (a0 : Int), .int .u16 (a1 : Int), .int .u16 (a2 : Int)] 50 none := by rw [hH3]; exact get_push3a
    have q1 : H3.get (h.n + 1) = .cells [.int .u16 (b0 : Int), .int .u16 (b1 : Int), .int .u16 (b2 : Int)] 50 none := by rw [hH3]; exact get_push3b
    have n3 : H3.n = h.n + 3 := by rw [hH3]; rfl
    have k3 : H3.glob = h.glob := by rw [hH3]; rfl
    have q0p : ∀ o, (H3.push o).get h.n = _ := fun o => (get_push_lt (by omega)).trans q0
    have q1p : ∀ o, (H3.push o).get (h.n + 1) = _ := fun o => (get_push_lt (by omega)).trans q1
    have q0q : ∀ o o', ((H3.push o).push o').get h.n = _ := fun o o' => (get_push_lt (by rw [push_n]; omega)).trans (q0p o)
    have q1q : ∀ o o', ((H3.push o).push o').get (h.n + 1) = _ := fun o o' => (get_push_lt (by rw [push_n]; omega)).trans (q1p o)
    have uq : ∀ o o', KU ((H3.push o).push o') := fun o o' => by unfold KU; simp only [push_glob, k3]; exact hu
    have n3' : h.n + 1 + 1 + 1 = H3.n := by omega
    rw [← hH3]
    clear hH3
    simp only [n3']
    simp only [wpA_skip, wpA_region, wpA_seq, wpA_cond, condI_false, seqQ_normal, goI_out, goI_ops, opsA_nil, opsA_cons, stepA_move, stepA_load, stepA_binOp, stepA_call, thenV_some, thenS_some, eval_tmp, eval_const, put_some, put_none, enterF_succ, aBin_neq, absV_int, one_int, one_bool, one_snil, all_nil, all_cons, aLoad_eq, loadGo_row, aPlace_ptr, dropC_cells, setC_row, setAll_nil, setAll_cons, get_push2, get_push2', set_push2, bne_self_eq_false, Nat.reduceEqDiff, Nat.reduceAdd, List.map_cons, List.map_nil, Option.map_some, Nat.zero_add, Nat.zero_le, List.length_cons, List.length_nil, List.drop_zero, List.take_succ_cons, List.take_nil, List.set_cons_zero, List.set_cons_succ, if_true, if_false, Bool.and_self, Nat.le_refl, lt_35, wa0, wa1, wb0, wb1]
    refine callI_pure cal14 (Pure.args (CastL.last (markE_agg 5 a0 a1 0 _)) (pEntry (markE 5 a0 a1 0) _ (uq _ _) (markIn (by decide) ha0 ha1 (by omega)) ⟨by simp [markE], by simp [markE]⟩)) ?_
    simp only [wpA_region, wpA_seq, seqQ_normal, goI_out, goI_ops, opsA_nil, opsA_cons, stepA_move, stepA_assign, stepA_load, stepA_extract, stepA_call, thenV_some, extV_zero, extV_succ, eval_tmp, put_some, put_none, enterF_succ, aLoad_eq, loadGo_row, aPlace_ptr, dropC_cells, get_push2, Nat.reduceEqDiff, Nat.reduceAdd, List.map_cons, List.map_nil, Nat.zero_add, Nat.zero_le, List.length_cons, List.length_nil, List.drop_zero, List.take_succ_cons, List.take_nil, if_true, if_false, Nat.le_refl, lt_35]
    refine callI_pure cal14 (Pure.args (CastL.last (markE_agg 5 b0 b1 0 _)) (pEntry (markE 5 b0 b1 0) _ (uq _ _) (markIn (by decide) hb0 hb1 (by omega)) ⟨by simp [markE], by simp [markE]⟩)) ?_
    have x1 : codeV (markE 5 a0 a1 0) = 0 := by rw [codeV, if_pos (markMay (by omega) ha0 ha1 (by omega))]
    have x2 : codeV (markE 5 b0 b1 0) = 0 := by rw [codeV, if_pos (markMay (by omega) hb0 hb1 (by omega))]
    have x3 := markEnc (k := 5) (a := a0) (b := a1) (c := 0) (a' := b0) (b' := b1) (c' := 0) (by omega) ha0 ha1 (by omega) hb0 hb1 (by omega)
    rw [x1, x2]
    by_cases j0 : a0 = b0
    · by_cases j1 : a1 = b1
      · have y : decide (a0 = b0 ∧ a1 = b1) = true := decide_eq_true ⟨j0, j1⟩
        have d0 : ((a0 : Int) == (b0 : Int)) = true := by rw [g]; exact decide_eq_true j0
        have d1 : ((a1 : Int) == (b1 : Int)) = true := by rw [g]; exact decide_eq_true j1
        simp only [wpA_region, wpA_seq, wpA_ret, seqQ_normal, endI_mk, goI_out, goI_ops, opsA_nil, opsA_cons, opsA_guardS, gvI_same, gvI_tf, slotAt_zero, slotAt_succ, stepA_move, stepA_assign, stepA_pick, stepA_load, stepA_binOp, stepA_convert, stepA_indexAddr, stepA_extract, thenV_some, pickV_true, extV_zero, extV_succ, eval_tmp, eval_const, put_some, put_none, enterF_succ, aBin_eql, aBin_bool_eql, aBin_str_eql, absV_int, absV_bool, aLoad_eq, loadGo_one, aPlace_ptr, dropC_cells, aIndexAddr_eq, ixGo_ptr, beq_self_eq_true, Int.reduceLE, Nat.reduceEqDiff, Nat.reduceAdd, Nat.reduceLeDiff, Nat.reduceMul, Nat.add_zero, Nat.zero_add, Nat.zero_le, List.length_cons, List.length_nil, List.drop_zero, List.drop_succ_cons, and_true, and_self, if_true, if_false, as_50, bt_4, lt_49, ss_50, q0q, q1q, d0, d1, convB, x3, y, i0, i1, Int.toNat_zero, Int.toNat_one, retA_ret, Tryd.results8, resultsA_1]
        exact hid_mk rfl
      · have y : decide (a0 = b0 ∧ a1 = b1) = false := decide_eq_false (by omega)
        have d0 : ((a0 : Int) == (b0 : Int)) = true := by rw [g]; exact decide_eq_true j0
        have d1 : ((a1 : Int) == (b1 : Int)) = false := by rw [g]; exact decide_eq_false j1
        simp only [wpA_region, wpA_seq, wpA_ret, seqQ_normal, endI_mk, goI_out, goI_ops, opsA_nil, opsA_cons, opsA_guardS, gvI_same, gvI_ft, gvI_u, slotAt_zero, slotAt_succ, stepA_move, stepA_assign, stepA_pick, stepA_load, stepA_binOp, stepA_convert, stepA_indexAddr, stepA_extract, thenV_some, pickV_true, pickV_false, extV_zero, extV_succ, eval_tmp, eval_const, put_some, put_none, enterF_succ, aBin_eql, aBin_bool_eql, aBin_str_eql, absV_int, absV_bool, aLoad_eq, loadGo_one, aPlace_ptr, dropC_cells, aIndexAddr_eq, ixGo_ptr, beq_self_eq_true, Int.reduceLE, Nat.reduceEqDiff, Nat.reduceAdd, Nat.reduceLeDiff, Nat.reduceMul, Nat.add_zero, Nat.zero_add, Nat.zero_le, List.length_cons, List.length_nil, List.drop_zero, List.drop_succ_cons, and_true, and_self, if_true, if_false, as_50, bt_4, lt_49, ss_50, q0q, q1q, d0, d1, convB, x3, y, i0, i1, Int.toNat_zero, Int.toNat_one, retA_ret, Tryd.results8, resultsA_1]
        exact hid_mk rfl
    · have y : decide (a0 = b0 ∧ a1 = b1) = false := decide_eq_false (by omega)
      have d0 : ((a0 : Int) == (b0 : Int)) = false := by rw [g]; exact decide_eq_false j0
      simp only [wpA_region, wpA_seq, wpA_ret, seqQ_normal, endI_mk, goI_out, goI_ops, opsA_nil, opsA_cons, opsA_guardS, gvI_same, gvI_ft, gvI_u, slotAt_zero, slotAt_succ, stepA_move, stepA_assign, stepA_pick, stepA_load, stepA_binOp, stepA_convert, stepA_indexAddr, stepA_extract, thenV_some, pickV_true, pickV_false, extV_zero, extV_succ, eval_tmp, eval_const, put_some, put_none, enterF_succ, aBin_eql, aBin_bool_eql, aBin_str_eql, absV_int, absV_bool, aLoad_eq, loadGo_one, aPlace_ptr, dropC_cells, aIndexAddr_eq, ixGo_ptr, beq_self_eq_true, Int.reduceLE, Nat.reduceEqDiff, Nat.reduceAdd, Nat.reduceMul, Nat.add_zero, Nat.zero_add, Nat.zero_le, List.length_cons, List.length_nil, List.drop_zero, and_true, and_self, if_true, if_false, as_50, bt_4, lt_49, ss_50, q0q, q1q, d0, convB, x3, y, i0, Int.toNat_zero, retA_ret, Tryd.results8, resultsA_1]
      exact hid_mk rfl
end Go.Proofs.YtjphnabogfiahaaDoor.Pk
