/-
  What functions of the program do, told of abstract states. Conditions: as each theorem says.
-/
import Derived.Test.YtpobgoeeljknpaaDoorExV
namespace Go.Proofs.YtpobgoeeljknpaaDoor.Pk
open Go Go.Proofs Go.Proofs.YtpobgoeeljknpaaDoor.Ab
set_option linter.unusedVariables false
set_option linter.unusedSimpArgs false
/-! ### The document's answer -/
def gxC : GR → List V
  | .error c => [.int .i64 0, .int .i64 0, .imm 0 [], .imm 0 [], .int .i64 0, .int .i64 (c : Nat)]
  | .ok (e, r, l) => encE e ++ [.imm r.length (bytesV r), .int .i64 (l : Nat), .int .i64 0]
theorem gxC_clo (g : GR) : CloL (gxC g) := by
  cases g with
  | error c => exact CloL.cons (Clo.int _ _) (CloL.cons (Clo.int _ _) (CloL.cons (Clo.imm CloL.nil) (CloL.cons (Clo.imm CloL.nil) (CloL.cons (Clo.int _ _) (CloL.cons (Clo.int _ _) CloL.nil)))))
  | ok r => obtain ⟨e, r, l⟩ := r; exact (encE_clo e).append (CloL.cons (Clo.imm (bytesV_clo _)) (CloL.cons (Clo.int _ _) (CloL.cons (Clo.int _ _) CloL.nil)))
theorem errG (h : AHeap) (c : Nat) : Cast (.agg [.int .i64 0, .int .i64 0, .snil, .snil, .int .i64 0, .int .i64 (c : Nat)]) h (.agg (gxC (.error c))) h :=
  castAgg (CastL.cons (Cast.refl _ _) (CastL.cons (Cast.refl _ _) (CastL.cons (Cast.snil0 h) (CastL.cons (Cast.snil0 h) (CastL.refl _ _)))))
theorem stG0 (a b : Int) (x y : List V) (m n : Nat) (c e : Int) : setC (some 6) (AObj.cells [V.int .i64 0, V.int .i64 0, V.snil, V.snil, V.int .i64 0, V.int .i64 0] 84 none) 0 [.int .i64 a, .int .i64 b, .imm m x, .imm n y, .int .i64 c, .int .i64 e] = some (.cells [.int .i64 a, .int .i64 b, .imm m x, .imm n y, .int .i64 c, .int .i64 e] 84 none) := rfl
theorem stGE (c : Int) : setC (some 6) (AObj.cells [V.int .i64 0, V.int .i64 0, V.snil, V.snil, V.int .i64 0, V.int .i64 0] 84 none) 0 [.int .i64 0, .int .i64 0, .snil, .snil, .int .i64 0, .int .i64 c] = some (.cells [.int .i64 0, .int .i64 0, .snil, .snil, .int .i64 0, .int .i64 c] 84 none) := rfl
theorem stR (a : Int) (m : Nat) (x : List V) (e : Int) : setC (some 3) (AObj.cells [V.int .u64 0, V.snil, V.int .i64 0] 105 none) 0 [.int .u64 a, .imm m x, .int .i64 e] = some (.cells [.int .u64 a, .imm m x, .int .i64 e] 105 none) := rfl
set_option maxHeartbeats 4000000 in
set_option maxRecDepth 10000 in
theorem pGet : ∀ (d left : Nat) (bs : List Nat) (h : AHeap), d ≤ 16 → left ≤ 64 → (∀ b ∈ bs, b < 256) → bs.length ≤ 2 ^ 47 →
    Pure Tryd.prog 48 [.imm bs.length (bytesV bs), .int .i64 (d : Nat), .int .i64 (left : Nat)] h (.agg (gxC (getX d left bs)))
  | 0, left, bs, h, _, hl, hb, hbl => by
    refine Pure.of (Clo.agg (gxC_clo _)) ?_
    refine SCalls.enterI (c := _) Tryd.func48 rfl (by kernel_rfl) (by simp) ?_
    have c1 : (((0 : Nat) : Int) == 0) = true := rfl
    simp only [wpA_region, wpA_seq, wpA_cond, wpA_ret, condI_true, seqQ_normal, seqQ_ret, endI_mk, goI_out, goI_ops, opsA_nil, opsA_cons, opsA_guardS, gvI_tf, slotAt_zero, slotAt_succ, stepA_move, stepA_pick, stepA_alloc, stepA_build, stepA_store, stepA_binOp, thenV_some, thenH_some, thenS_some, pickV_true, eval_tmp, eval_const, put_some, put_none, enterF_zero, enterF_succ, aBin_eql, absV_int, absV_bool, cells_int, cells_agg, one_int, one_snil, all_nil, all_cons, aLoad_eq, loadGo_row, aPlace_ptr, dropC_cells, aStore_eq, storeGo_ptr, setC_row, setAll_nil, setAll_cons, aAlloc_eq, aBuild_go, aFill_nil, aFill_cons, fillGo_some, buildGo_struct, get_push_new, set_push, List.getElem?_cons_zero, List.getElem?_cons_succ, Nat.reduceEqDiff, Nat.reduceAdd, List.map_cons, List.map_nil, Option.map_some, Nat.zero_add, Nat.zero_le, List.length_cons, List.length_nil, List.drop_zero, List.take_succ_cons, List.take_nil, List.set_cons_zero, List.set_cons_succ, and_self, if_true, if_false, Bool.and_self, Nat.le_refl, lt_84, pl_84, zc_84, zt_84, c1, retA_ret, Tryd.results48, resultsC_1, resultA_cell]
    exact hid_mk ⟨_, errG _ 11, Keep.push _ _ _⟩
  | d + 1, left, bs, h, hd16, hl, hb, hbl => by
    refine Pure.of (Clo.agg (gxC_clo _)) ?_
    refine SCalls.enterI (c := _) Tryd.func48 rfl (by kernel_rfl) (by simp) ?_
    have c1 : (((d + 1 : Nat) : Int) == 0) = false := by simp; omega
    obtain ⟨H0, hH0⟩ : ∃ y, y = h.push (.cells [V.int .i64 0, V.int .i64 0, V.snil, V.snil, V.int .i64 0, V.int .i64 0] 84 none) := ⟨_, rfl⟩
    have k0 : Keep h H0 none_ := by rw [hH0]; exact Keep.push _ _ _
    have n0 : H0.n = h.n + 1 := by rw [hH0]; rfl
    have g0 : H0.get h.n = .cells [V.int .i64 0, V.int .i64 0, V.snil, V.snil, V.int .i64 0, V.int .i64 0] 84 none := by rw [hH0]; exact get_push_new
    by_cases hl0 : left = 0
    · have c2 : (((left : Nat) : Int) == 0) = true := by simp; omega
      have hG : getX (d + 1) left bs = .error 11 := by rw [getX, if_pos hl0]
      simp only [wpA_region, wpA_seq, wpA_cond, wpA_ret, condI_true, seqQ_normal, seqQ_ret, endI_mk, goI_out, goI_ops, opsA_nil, opsA_cons, opsA_guardS, gvI_same, slotAt_zero, slotAt_succ, stepA_move, stepA_pick, stepA_alloc, stepA_build, stepA_store, stepA_binOp, thenV_some, thenH_some, thenS_some, pickV_false, eval_tmp, eval_const, put_some, put_none, enterF_zero, enterF_succ, aBin_eql, absV_int, absV_bool, cells_int, cells_agg, one_int, one_snil, all_nil, all_cons, aLoad_eq, loadGo_row, aPlace_ptr, dropC_cells, aStore_eq, storeGo_ptr, setC_row, setAll_nil, setAll_cons, aAlloc_eq, aBuild_go, aFill_nil, aFill_cons, fillGo_some, buildGo_struct, get_push_new, set_push, List.getElem?_cons_zero, List.getElem?_cons_succ, Nat.reduceEqDiff, Nat.reduceAdd, List.map_cons, List.map_nil, Option.map_some, Nat.zero_add, Nat.zero_le, List.length_cons, List.length_nil, List.drop_zero, List.take_succ_cons, List.take_nil, List.set_cons_zero, List.set_cons_succ, and_self, if_true, if_false, Bool.and_self, Nat.le_refl, lt_84, pl_84, zc_84, zt_84, c1, c2, retA_ret, Tryd.results48, resultsC_1, resultA_cell]
      rw [hG]
      exact hid_mk ⟨_, errG _ 11, Keep.push _ _ _⟩
    have c2 : (((left : Nat) : Int) == 0) = false := by simp; omega
    simp only [wpA_skip, wpA_region, wpA_seq, wpA_cond, condI_false, seqQ_normal, goI_out, goI_ops, opsA_nil, opsA_cons, opsA_guardS, gvI_same, slotAt_zero, slotAt_succ, stepA_move, stepA_pick, stepA_alloc, stepA_binOp, stepA_call, thenV_some, thenH_some, pickV_false, eval_tmp, eval_const, put_some, enterF_zero, enterF_succ, aBin_eql, absV_int, absV_bool, aAlloc_eq, Nat.reduceEqDiff, reduceCtorEq, List.map_cons, List.map_nil, Option.map_some, if_true, if_false, zc_84, c1, c2]
    rw [← hH0]
    clear hH0
    refine callI_pure cal63 (ReadUint bs H0 hb (by omega)) ?_
    rw [gotC_eq]
    obtain ⟨H1, hH1⟩ : ∃ y, y = H0.push (.cells [.int .u64 ((dec bs 0 0).1 : Nat), .imm (bs.drop (dec bs 0 0).2.1).length (bytesV (bs.drop (dec bs 0 0).2.1)), .int .i64 ((dec bs 0 0).2.2 : Nat)] 105 none) := ⟨_, rfl⟩
    have k1 : Keep H0 H1 none_ := by rw [hH1]; exact Keep.push _ _ _
    have n1 : H1.n = H0.n + 1 := by rw [hH1]; rfl
    have gr1 : H1.get H0.n = .cells [.int .u64 ((dec bs 0 0).1 : Nat), .imm (bs.drop (dec bs 0 0).2.1).length (bytesV (bs.drop (dec bs 0 0).2.1)), .int .i64 ((dec bs 0 0).2.2 : Nat)] 105 none := by rw [hH1]; exact get_push_new
    have g1 := (k1.get h.n (by omega) (by simp [none_])).trans g0
    have kk1 := k0.trans' k1
    simp only [wpA_region, wpA_seq, wpA_cond, seqQ_normal, goI_out, goI_ops, opsA_nil, opsA_cons, stepA_alloc, stepA_load, stepA_store, stepA_binOp, stepA_fieldAddr, thenV_some, thenH_some, thenS_some, eval_tmp, eval_const, put_some, put_none, enterF_succ, aBin_neq, absV_int, cells_agg, one_int, one_imm, all_nil, all_cons, aField_eq, fieldGo_ptr, aLoad_eq, loadGo_one, aPlace_ptr, dropC_cells, aStore_eq, storeGo_ptr, setC_row, setAll_nil, setAll_cons, aAlloc_eq, get_push_new, set_push, Nat.reduceEqDiff, Nat.reduceAdd, Nat.reduceLeDiff, Option.map_some, Nat.zero_add, List.length_cons, List.length_nil, List.drop_zero, List.drop_succ_cons, List.set_cons_zero, List.set_cons_succ, if_true, if_false, Bool.and_self, Nat.le_refl, ft_105_2, lt_3, zc_105, zt_105]
    rw [← hH1]
    clear hH1
    by_cases herr : (dec bs 0 0).2.2 = 0
    rotate_left
    · have c3 : ((((dec bs 0 0).2.2 : Nat) : Int) != 0) = true := by simp; omega
      have hG : getX (d + 1) left bs = .error (dec bs 0 0).2.2 := by rw [getX, if_neg hl0, if_pos herr]
      simp only [wpA_region, wpA_seq, wpA_ret, condI_true, seqQ_normal, seqQ_ret, endI_mk, goI_out, goI_ops, opsA_nil, opsA_cons, stepA_build, stepA_load, stepA_store, stepA_fieldAddr, thenV_some, thenS_some, eval_tmp, put_some, put_none, enterF_succ, cells_int, cells_agg, one_int, one_snil, all_nil, all_cons, aField_eq, fieldGo_ptr, aLoad_eq, loadGo_one, loadGo_row, aPlace_ptr, dropC_cells, aStore_eq, storeGo_ptr, setC_row, setAll_nil, setAll_cons, aBuild_go, aFill_nil, aFill_cons, fillGo_some, buildGo_struct, get_set_same, List.getElem?_cons_zero, List.getElem?_cons_succ, Nat.reduceEqDiff, Nat.reduceAdd, Nat.reduceLeDiff, List.map_cons, List.map_nil, Option.map_some, Nat.zero_add, Nat.zero_le, List.length_cons, List.length_nil, List.drop_zero, List.drop_succ_cons, List.take_succ_cons, List.take_nil, List.set_cons_zero, List.set_cons_succ, and_self, if_true, if_false, Bool.and_self, Nat.le_refl, ft_105_2, lt_3, lt_84, pl_84, zc_84, zt_84, gr1, c3, g1, retA_ret, Tryd.results48, resultsC_1, resultA_cell]
      rw [hG]
      exact hid_mk ⟨_, errG _ _, kk1.trans (Keep.set _ h.n _) fun q hq hh => by omega⟩
    have c3 : ((((dec bs 0 0).2.2 : Nat) : Int) != 0) = false := by simp; omega
    obtain ⟨hdk, hklt⟩ := dec_ok hb herr
    have hG0 : getX (d + 1) left bs = (if (dec bs 0 0).1 < 1 ∨ 16 < (dec bs 0 0).1 then .error 5
      else if (dec bs 0 0).1 = 1 then
        if (dec (bs.drop (dec bs 0 0).2.1) 0 0).2.2 ≠ 0 then .error (dec (bs.drop (dec bs 0 0).2.1) 0 0).2.2
        else .ok (.mk 1 (unz (dec (bs.drop (dec bs 0 0).2.1) 0 0).1) [], (bs.drop (dec bs 0 0).2.1).drop (dec (bs.drop (dec bs 0 0).2.1) 0 0).2.1, left - 1)
      else match kidsG (getX d) (kidsR (dec bs 0 0).1).toNat (left - 1) (bs.drop (dec bs 0 0).2.1) with
        | .error e => .error e
        | .ok (ks, r) => .ok (.mk (dec bs 0 0).1 0 ks, r)) := by
      conv => lhs; unfold getX
      rw [if_neg hl0, if_neg (by simpa using herr)]
      rfl
    have hb1 : ∀ y ∈ bs.drop (dec bs 0 0).2.1, y < 256 := fun y hy => hb y (List.mem_of_mem_drop hy)
    have hl1 : (bs.drop (dec bs 0 0).2.1).length ≤ 2 ^ 47 := by rw [List.length_drop]; omega
    simp only [wpA_skip, wpA_region, wpA_seq, condI_false, seqQ_normal, goI_ops, opsA_cons, opsA_guardS, slotAt_zero, slotAt_succ, stepA_move, stepA_load, stepA_binOp, stepA_fieldAddr, thenV_some, eval_tmp, eval_const, put_some, put_none, enterF_succ, aBin_lss, absV_int, aField_eq, fieldGo_ptr, aLoad_eq, loadGo_one, aPlace_ptr, dropC_cells, Nat.reduceEqDiff, Nat.reduceAdd, Nat.add_zero, Nat.zero_add, Nat.zero_le, List.length_cons, List.length_nil, List.drop_zero, if_true, if_false, ft_105_0, lt_93, gr1, c3]
    clear c3 hdk
    generalize bs.drop (dec bs 0 0).2.1 = bs1 at *
    generalize (dec bs 0 0).1 = k at *
    generalize (dec bs 0 0).2.2 = er0 at *
    by_cases hk1 : k < 1
    · have c4 : decide ((k : Int) < 1) = true := decide_eq_true (by omega)
      have hG : getX (d + 1) left bs = .error 5 := by rw [hG0, if_pos (.inl hk1)]
      simp only [wpA_region, wpA_seq, wpA_cond, wpA_ret, condI_true, seqQ_normal, seqQ_ret, endI_mk, goI_out, goI_ops, opsA_nil, opsA_cons, opsA_guardS, gvI_tf, slotAt_zero, slotAt_succ, stepA_pick, stepA_build, stepA_store, thenV_some, thenS_some, pickV_true, eval_tmp, eval_const, put_some, put_none, enterF_succ, absV_int, absV_bool, cells_int, cells_agg, one_int, one_snil, all_nil, all_cons, aLoad_eq, loadGo_row, aPlace_ptr, dropC_cells, aStore_eq, storeGo_ptr, setC_row, setAll_nil, setAll_cons, aBuild_go, aFill_nil, aFill_cons, fillGo_some, buildGo_struct, get_set_same, List.getElem?_cons_zero, List.getElem?_cons_succ, Nat.reduceEqDiff, Nat.reduceAdd, List.map_cons, List.map_nil, Option.map_some, Nat.zero_add, Nat.zero_le, List.length_cons, List.length_nil, List.drop_zero, List.take_succ_cons, List.take_nil, List.set_cons_zero, List.set_cons_succ, and_self, if_true, if_false, Bool.and_self, Nat.le_refl, lt_84, pl_84, zc_84, zt_84, c4, g1, retA_ret, Tryd.results48, resultsC_1, resultA_cell]
      rw [hG]
      exact hid_mk ⟨_, errG _ 5, kk1.trans (Keep.set _ h.n _) fun q hq hh => by omega⟩
    have c4 : decide ((k : Int) < 1) = false := decide_eq_false (by omega)
    by_cases hk2 : 16 < k
    · have c5 : decide ((16 : Int) < (k : Int)) = true := decide_eq_true (by omega)
      have hG : getX (d + 1) left bs = .error 5 := by rw [hG0, if_pos (.inr hk2)]
      simp only [wpA_region, wpA_seq, wpA_cond, wpA_ret, condI_true, seqQ_normal, seqQ_ret, endI_mk, goI_out, goI_ops, opsA_nil, opsA_cons, opsA_guardS, gvI_same, slotAt_zero, slotAt_succ, stepA_pick, stepA_build, stepA_load, stepA_store, stepA_binOp, stepA_fieldAddr, thenV_some, thenS_some, pickV_false, eval_tmp, eval_const, put_some, put_none, enterF_succ, aBin_gtr, absV_int, absV_bool, cells_int, cells_agg, one_int, one_snil, all_nil, all_cons, aField_eq, fieldGo_ptr, aLoad_eq, loadGo_one, loadGo_row, aPlace_ptr, dropC_cells, aStore_eq, storeGo_ptr, setC_row, setAll_nil, setAll_cons, aBuild_go, aFill_nil, aFill_cons, fillGo_some, buildGo_struct, get_set_same, List.getElem?_cons_zero, List.getElem?_cons_succ, Nat.reduceEqDiff, Nat.reduceAdd, List.map_cons, List.map_nil, Option.map_some, Nat.add_zero, Nat.zero_add, Nat.zero_le, List.length_cons, List.length_nil, List.drop_zero, List.take_succ_cons, List.take_nil, List.set_cons_zero, List.set_cons_succ, and_self, if_true, if_false, Bool.and_self, Nat.le_refl, ft_105_0, lt_84, lt_93, pl_84, zc_84, zt_84, gr1, c4, c5, g1, retA_ret, Tryd.results48, resultsC_1, resultA_cell]
      rw [hG]
      exact hid_mk ⟨_, errG _ 5, kk1.trans (Keep.set _ h.n _) fun q hq hh => by omega⟩
    have c5 : decide ((16 : Int) < (k : Int)) = false := decide_eq_false (by omega)
    rw [if_neg (by omega)] at hG0
    have wk : IntKind.i64.wrap (k : Int) = (k : Int) := Go.IntWalk.i64_in _ (by omega)
    have wl : IntKind.i64.wrap (((left : Nat) : Int) - 1) = ((left - 1 : Nat) : Int) := by rw [Go.IntWalk.i64_in _ (by omega)]; omega
    have st1 : setC (some 6) (AObj.cells [V.int .i64 0, V.int .i64 0, V.snil, V.snil, V.int .i64 0, V.int .i64 0] 84 none) 0 [V.int .i64 (k : Int), V.int .i64 0, V.snil, .imm bs1.length (bytesV bs1), .int .i64 ((left - 1 : Nat) : Int), .int .i64 0] = some (.cells [V.int .i64 (k : Int), V.int .i64 0, V.snil, .imm bs1.length (bytesV bs1), .int .i64 ((left - 1 : Nat) : Int), .int .i64 0] 84 none) := rfl
    obtain ⟨b8, hb8e⟩ : ∃ y, y = H1.n := ⟨_, rfl⟩
    have hb8g : h.n < b8 := by omega
    obtain ⟨H3, hH3⟩ : ∃ y, y = H1.push (.cells [V.int .i64 (k : Int), V.int .i64 0, V.snil, .imm bs1.length (bytesV bs1), .int .i64 ((left - 1 : Nat) : Int), .int .i64 0] 84 none) := ⟨_, rfl⟩
    have k3 : Keep H1 H3 none_ := by rw [hH3]; exact Keep.push _ _ _
    have n3 : H3.n = H1.n + 1 := by rw [hH3]; rfl
    have g38 : H3.get b8 = .cells [V.int .i64 (k : Int), V.int .i64 0, V.snil, .imm bs1.length (bytesV bs1), .int .i64 ((left - 1 : Nat) : Int), .int .i64 0] 84 none := by rw [hH3, hb8e]; exact get_push_new
    have g34 := (k3.get h.n (by omega) (by simp [none_])).trans g1
    have kk3 := kk1.trans' k3
    simp only [wpA_skip, wpA_region, wpA_seq, wpA_cond, condI_false, seqQ_normal, goI_out, goI_ops, opsA_nil, opsA_cons, opsA_guardS, gvI_same, slotAt_zero, slotAt_succ, stepA_move, stepA_pick, stepA_alloc, stepA_build, stepA_load, stepA_store, stepA_binOp, stepA_convert, stepA_fieldAddr, thenV_some, thenC_some, thenH_some, thenS_some, pickV_false, eval_tmp, eval_const, put_some, put_none, enterF_zero, enterF_succ, aBin_sub, aBin_eql, aBin_gtr, absV_int, absV_bool, cells_int, cells_imm, cells_agg, aField_eq, fieldGo_ptr, aLoad_eq, loadGo_one, aPlace_ptr, dropC_cells, aStore_eq, storeGo_ptr, setAll_nil, setAll_cons, aAlloc_eq, aBuild_go, aFill_nil, aFill_cons, fillGo_some, buildGo_struct, get_push_new, set_push, List.getElem?_cons_zero, List.getElem?_cons_succ, Nat.reduceEqDiff, Nat.reduceAdd, Nat.reduceLeDiff, List.map_cons, List.map_nil, Option.map_some, Nat.add_zero, Nat.zero_add, Nat.zero_le, List.length_cons, List.length_nil, List.drop_zero, List.drop_succ_cons, List.set_cons_zero, List.set_cons_succ, and_self, if_true, if_false, ft_105_0, ft_105_1, ft_25_0, ft_84_0, lt_3, lt_43, lt_93, pl_25, pl_84, zc_25, zc_84, zt_84, gr1, c4, c5, aConv_int it_93 it_3, wk, wl, st1]
    rw [← hb8e, ← hH3]
    clear hH3
    by_cases hk3 : k = 1
    · have c6 : ((k : Int) == 1) = true := by simp; omega
      simp only [wpA_region, wpA_seq, condI_true, goI_ops, opsA_cons, stepA_load, stepA_fieldAddr, stepA_call, thenV_some, eval_tmp, put_some, put_none, enterF_succ, aField_eq, fieldGo_ptr, aLoad_eq, loadGo_one, aPlace_ptr, dropC_cells, Nat.reduceEqDiff, Nat.reduceAdd, Nat.reduceLeDiff, List.map_cons, List.map_nil, Nat.zero_add, List.length_cons, List.length_nil, List.drop_zero, List.drop_succ_cons, if_true, if_false, ft_84_1, lt_43, g38, c6]
      refine callI_pure cal63 (ReadUint bs1 H3 hb1 (by omega)) ?_
      rw [gotC_eq]
      obtain ⟨H4, hH4⟩ : ∃ y, y = H3.push (.cells [.int .u64 ((dec bs1 0 0).1 : Nat), .imm (bs1.drop (dec bs1 0 0).2.1).length (bytesV (bs1.drop (dec bs1 0 0).2.1)), .int .i64 ((dec bs1 0 0).2.2 : Nat)] 105 none) := ⟨_, rfl⟩
      have k4 : Keep H3 H4 none_ := by rw [hH4]; exact Keep.push _ _ _
      have n4 : H4.n = H3.n + 1 := by rw [hH4]; rfl
      have gr4 : H4.get H3.n = .cells [.int .u64 ((dec bs1 0 0).1 : Nat), .imm (bs1.drop (dec bs1 0 0).2.1).length (bytesV (bs1.drop (dec bs1 0 0).2.1)), .int .i64 ((dec bs1 0 0).2.2 : Nat)] 105 none := by rw [hH4]; exact get_push_new
      have g48 := (k4.get b8 (by omega) (by simp [none_])).trans g38
      have g44 := (k4.get h.n (by omega) (by simp [none_])).trans g34
      have kk4 := kk3.trans' k4
      simp only [wpA_region, wpA_seq, wpA_cond, seqQ_normal, goI_out, goI_ops, opsA_nil, opsA_cons, stepA_alloc, stepA_load, stepA_store, stepA_binOp, stepA_fieldAddr, thenV_some, thenH_some, thenS_some, eval_tmp, eval_const, put_some, put_none, enterF_succ, aBin_neq, absV_int, cells_agg, one_int, one_imm, all_nil, all_cons, aField_eq, fieldGo_ptr, aLoad_eq, loadGo_one, aPlace_ptr, dropC_cells, aStore_eq, storeGo_ptr, setC_row, setAll_nil, setAll_cons, aAlloc_eq, get_push_new, set_push, Nat.reduceEqDiff, Nat.reduceAdd, Nat.reduceLeDiff, Option.map_some, Nat.zero_add, List.length_cons, List.length_nil, List.drop_zero, List.drop_succ_cons, List.set_cons_zero, List.set_cons_succ, if_true, if_false, Bool.and_self, Nat.le_refl, ft_105_2, lt_3, zc_105, zt_105]
      rw [← hH4]
      clear hH4
      by_cases herr2 : (dec bs1 0 0).2.2 = 0
      rotate_left
      · have c7 : ((((dec bs1 0 0).2.2 : Nat) : Int) != 0) = true := by simp; omega
        have hG : getX (d + 1) left bs = .error (dec bs1 0 0).2.2 := by rw [hG0, if_pos hk3, if_pos herr2]
        simp only [wpA_region, wpA_seq, wpA_ret, condI_true, seqQ_normal, seqQ_ret, endI_mk, goI_out, goI_ops, opsA_nil, opsA_cons, stepA_build, stepA_load, stepA_store, stepA_fieldAddr, thenV_some, thenS_some, eval_tmp, put_some, put_none, enterF_succ, cells_int, cells_agg, one_int, one_snil, all_nil, all_cons, aField_eq, fieldGo_ptr, aLoad_eq, loadGo_one, loadGo_row, aPlace_ptr, dropC_cells, aStore_eq, storeGo_ptr, setC_row, setAll_nil, setAll_cons, aBuild_go, aFill_nil, aFill_cons, fillGo_some, buildGo_struct, get_set_same, List.getElem?_cons_zero, List.getElem?_cons_succ, Nat.reduceEqDiff, Nat.reduceAdd, Nat.reduceLeDiff, List.map_cons, List.map_nil, Option.map_some, Nat.zero_add, Nat.zero_le, List.length_cons, List.length_nil, List.drop_zero, List.drop_succ_cons, List.take_succ_cons, List.take_nil, List.set_cons_zero, List.set_cons_succ, and_self, if_true, if_false, Bool.and_self, Nat.le_refl, ft_105_2, lt_3, lt_84, pl_84, zc_84, zt_84, gr4, c7, g44, retA_ret, Tryd.results48, resultsC_1, resultA_cell]
        rw [hG]
        exact hid_mk ⟨_, errG _ _, kk4.trans (Keep.set _ h.n _) fun q hq hh => by omega⟩
      have c7 : ((((dec bs1 0 0).2.2 : Nat) : Int) != 0) = false := by simp; omega
      have hkl := (dec_ok hb1 herr2).2
      have hb2 : ∀ y ∈ bs1.drop (dec bs1 0 0).2.1, y < 256 := fun y hy => hb1 y (List.mem_of_mem_drop hy)
      have hl2 : (bs1.drop (dec bs1 0 0).2.1).length ≤ 2 ^ 47 := by rw [List.length_drop]; omega
      rw [if_pos hk3, if_neg (by simpa using herr2)] at hG0
      simp only [wpA_skip, wpA_region, wpA_seq, condI_false, seqQ_normal, goI_ops, opsA_cons, stepA_load, stepA_fieldAddr, stepA_call, thenV_some, eval_tmp, put_some, put_none, enterF_succ, aField_eq, fieldGo_ptr, aLoad_eq, loadGo_one, aPlace_ptr, dropC_cells, Nat.reduceEqDiff, Nat.reduceAdd, List.map_cons, List.map_nil, Nat.add_zero, Nat.zero_add, Nat.zero_le, List.length_cons, List.length_nil, List.drop_zero, if_true, if_false, ft_105_0, lt_93, gr4, c7]
      refine callI_pure cal64 (signed (dec bs1 0 0).1 H4 hkl) ?_
      generalize bs1.drop (dec bs1 0 0).2.1 = bs2 at *
      generalize unz (dec bs1 0 0).1 = n at *
      generalize (dec bs1 0 0).1 = n1 at *
      generalize (dec bs1 0 0).2.2 = er1 at *
      have h43 : ∀ X, (H4.set b8 X).get H3.n = .cells [.int .u64 (n1 : Nat), .imm bs2.length (bytesV bs2), .int .i64 (er1 : Nat)] 105 none := fun X => (get_set_ne (by omega)).trans gr4
      obtain ⟨H5, hH5⟩ : ∃ y, y = H4.set b8 (.cells [V.int .i64 (k : Int), V.int .i64 n, V.snil, .imm bs2.length (bytesV bs2), .int .i64 ((left - 1 : Nat) : Int), .int .i64 0] 84 none) := ⟨_, rfl⟩
      have k5 : Keep H4 H5 (fun q => q = b8) := by rw [hH5]; exact Keep.set _ _ _
      have n5 : H5.n = H4.n := by rw [hH5]; rfl
      have g58 : H5.get b8 = .cells [V.int .i64 (k : Int), V.int .i64 n, V.snil, .imm bs2.length (bytesV bs2), .int .i64 ((left - 1 : Nat) : Int), .int .i64 0] 84 none := by rw [hH5]; exact get_set_same
      have g54 := (k5.get h.n (by omega) (by omega)).trans g44
      have kk5 : Keep h H5 none_ := kk4.trans k5 fun q hq hh => by omega
      simp only [wpA_region, wpA_seq, seqQ_normal, goI_out, goI_ops, opsA_nil, opsA_cons, stepA_load, stepA_store, stepA_fieldAddr, stepA_call, thenV_some, thenS_some, eval_tmp, put_some, put_none, enterF_succ, cells_int, cells_imm, one_int, one_imm, all_nil, all_cons, aField_eq, fieldGo_ptr, aLoad_eq, loadGo_one, aPlace_ptr, dropC_cells, aStore_eq, storeGo_ptr, setC_row, setAll_nil, setAll_cons, get_set_same, set_set, Nat.reduceEqDiff, Nat.reduceAdd, Nat.reduceLeDiff, List.map_cons, List.map_nil, Option.map_some, Nat.add_zero, Nat.zero_add, Nat.zero_le, List.length_cons, List.length_nil, List.drop_zero, List.drop_succ_cons, List.set_cons_zero, List.set_cons_succ, if_true, if_false, Bool.and_self, ft_105_1, ft_25_0, ft_25_1, ft_84_0, ft_84_1, lt_3, lt_43, zt_2, zt_43, g48, h43]
      rw [← hH5]
      clear hH5
      have hmz : kidsR (k : Int) = 0 := by rw [hk3]; decide
      obtain ⟨m, hm⟩ : ∃ m : Nat, m = (kidsR (k : Int)).toNat := ⟨_, rfl⟩
      have hm0 : m = 0 := by rw [hm, hmz]; rfl
      have hG : getX (d + 1) left bs = (match kidsG (getX d) m (left - 1) bs2 with | .error e => .error e | .ok (ks, r) => .ok (.mk (k : Int) n ks, r)) := by rw [hG0, hm0, hk3, kidsG]; rfl
      have hkm : kidsR (k : Int) = ((m : Nat) : Int) := by rw [hmz, hm0]; rfl
      have hb8n : b8 < H5.n := by omega
      have hm3 := kidsR_le (k : Int)
      refine callI_pure cal53 (pKids (k : Int) _) ?_
      rw [hkm]
      simp only [wpA_region, wpA_seq, wpA_block, wpA_loop, seqQ_normal, goI_out, goI_ops, opsA_nil, opsA_cons, stepA_assign, eval_tmp, eval_const, put_some, put_none, enterF_succ, absV_int, Nat.reduceEqDiff, if_true, if_false]
      refine SWp.loopG (α := Nat × V × List Ex × List Nat × Nat) (fun x f h' => f 1 = .int .i64 ((d + 1 : Nat) : Int) ∧ f 6 = .ptr h.n 0 ∧ f 8 = .ptr b8 0 ∧ f 10 = .int .i64 (m : Nat) ∧ f 11 = .int .i64 (x.1 : Nat) ∧ x.1 ≤ m ∧ h'.get h.n = .cells [.int .i64 0, .int .i64 0, .snil, .snil, .int .i64 0, .int .i64 0] 84 none ∧
          h'.get b8 = .cells [.int .i64 (k : Int), .int .i64 n, x.2.1, .imm x.2.2.2.1.length (bytesV x.2.2.2.1), .int .i64 (x.2.2.2.2 : Nat), .int .i64 0] 84 none ∧
          Own h' 25 3 x.2.1 (x.2.2.1.flatMap encE) ∧ (∀ j, idOf x.2.1 = some j → h.n ≤ j ∧ j ≠ h.n ∧ j ≠ b8) ∧ x.2.2.1.length = x.1 ∧ x.2.2.2.2 ≤ 64 ∧ (∀ y ∈ x.2.2.2.1, y < 256) ∧ x.2.2.2.1.length ≤ 2 ^ 47 ∧ Keep h h' none_ ∧ b8 < h'.n ∧
          kidsG (getX d) m (left - 1) bs2 = (match kidsG (getX d) (m - x.1) x.2.2.2.2 x.2.2.2.1 with | .error e => .error e | .ok (ks, r) => .ok (x.2.2.1 ++ ks, r))) (fun x => m - x.1) (0, .snil, [], bs2, left - 1)
        ⟨rfl, rfl, rfl, rfl, rfl, Nat.zero_le _, g54, g58, Own.snil _ _ _, by simp [idOf], rfl, by simp only; omega, hb2, hl2, kk5, hb8n, by simp only [Nat.sub_zero]; cases kidsG (getX d) m (left - 1) bs2 <;> rfl⟩ ?_
      rintro ⟨i, s, acc, b, l⟩ f h6 ⟨f1, f6, f8, f10, f11, hi, g4, g8, os, ids, hal, hl64, hby, hbl, kk, hb8, hKG⟩
      simp only at f11 hi g8 os ids hal hl64 hby hbl hKG
      refine wpI_sound (by kernel_rfl) ?_
      by_cases him : i < m
      · have e1 : decide ((i : Int) < ((m : Nat) : Int)) = true := decide_eq_true (by omega)
        have hwi : IntKind.i64.wrap ((i : Int) + 1) = ((i + 1 : Nat) : Int) := by rw [Go.IntWalk.i64_in _ (by omega)]; omega
        have hwl : IntKind.i64.wrap (((d + 1 : Nat) : Int) - 1) = ((d : Nat) : Int) := by rw [Go.IntWalk.i64_in _ (by omega)]; omega
        obtain ⟨mi, hmi⟩ : ∃ mi, m - i = mi + 1 := ⟨m - i - 1, by omega⟩
        rw [hmi, kidsG] at hKG
        simp only [wpA_skip, wpA_region, wpA_seq, wpA_cond, wpA_block, condI_true, seqQ_normal, goI_out, goI_ops, opsA_nil, opsA_cons, stepA_move, stepA_load, stepA_binOp, stepA_fieldAddr, stepA_call, thenV_some, eval_tmp, eval_const, put_some, aBin_sub, aBin_lss, absV_int, aField_eq, fieldGo_ptr, aLoad_eq, loadGo_one, aPlace_ptr, dropC_cells, Nat.reduceEqDiff, Nat.reduceAdd, Nat.reduceLeDiff, List.map_cons, List.map_nil, Nat.zero_add, List.length_cons, List.length_nil, List.drop_zero, List.drop_succ_cons, if_true, if_false, ft_84_1, ft_84_2, lt_3, lt_43, f1, f8, f10, f11, g8, e1, hwl]
        refine callI_pure cal48 (pGet d l b h6 (by omega) hl64 hby hbl) ?_
        cases hgx : getX d l b with
        | error c =>
          rw [hgx] at hKG
          have hc0 := getX_err d l b c hgx
          have c1 : (((c : Nat) : Int) != 0) = true := by simp; omega
          simp only at hKG
          have hG2 : getX (d + 1) left bs = .error c := by rw [hG, hKG]
          simp only [gxC]
          have kZ : Keep h6 (h6.push (.cells [V.int .i64 0, V.int .i64 0, V.imm 0 [], V.imm 0 [], V.int .i64 0, V.int .i64 (c : Nat)] 84 none)) none_ := Keep.push _ _ _
          have g4Z := (kZ.get h.n (by omega) (by simp [none_])).trans g4
          simp only [wpA_region, wpA_seq, wpA_cond, wpA_ret, condI_true, seqQ_normal, seqQ_ret, blkQ_ret, endI_mk, goE, andThen_ret, goI_out, goI_ops, opsA_nil, opsA_cons, stepA_alloc, stepA_build, stepA_load, stepA_store, stepA_binOp, stepA_fieldAddr, thenV_some, thenH_some, thenS_some, eval_tmp, eval_const, put_some, put_none, aBin_neq, absV_int, cells_int, cells_agg, one_int, one_snil, one_imm, all_nil, all_cons, aField_eq, fieldGo_ptr, aLoad_eq, loadGo_one, loadGo_row, aPlace_ptr, dropC_cells, aStore_eq, storeGo_ptr, setC_row, setAll_nil, setAll_cons, aAlloc_eq, aBuild_go, aFill_nil, aFill_cons, fillGo_some, buildGo_struct, get_push_new, get_set_same, set_push, List.getElem?_cons_zero, List.getElem?_cons_succ, Nat.reduceEqDiff, Nat.reduceAdd, Nat.reduceLeDiff, List.map_cons, List.map_nil, Option.map_some, Nat.zero_add, Nat.zero_le, List.length_cons, List.length_nil, List.drop_zero, List.drop_succ_cons, List.take_succ_cons, List.take_nil, List.set_cons_zero, List.set_cons_succ, and_self, if_true, if_false, Bool.and_self, Nat.le_refl, ft_84_3, lt_3, lt_84, pl_84, zc_84, zt_84, f6, c1, g4Z, retA_ret, Tryd.results48, resultsC_1, resultA_cell]
          rw [hG2]
          exact hid_mk ⟨_, errG _ c, ((kk.trans' kZ).trans (Keep.set _ h.n _) fun q hq hh => by omega)⟩
        | ok r =>
          obtain ⟨A, b', l'⟩ := r
          rw [hgx] at hKG
          simp only at hKG
          have gt := getX_sound d l b hby A b' l' hgx
          have hby' : ∀ y ∈ b', y < 256 := fun y hy => hby y (by rw [gt.by_]; simp [hy])
          have hbl' : b'.length ≤ b.length := by rw [gt.by_]; simp
          have hsz := gt.sz
          simp only [gxC]
          have hlA := fun H => lit1e H A
          have hapA := fun (H : AHeap) (o : Own H 25 3 s (acc.flatMap encE)) => app1E o (by omega) A
          obtain ⟨ao, an, aks⟩ := A
          simp only [encE_eq] at hlA hapA
          rw [encE_eq]
          obtain ⟨H8, hH8⟩ : ∃ y, y = h6.push (.cells [.int .i64 ao, .int .i64 an, .imm aks.length (aks.flatMap encE), .imm b'.length (bytesV b'), .int .i64 (l' : Nat), .int .i64 0] 84 none) := ⟨_, rfl⟩
          have k8 : Keep h6 H8 none_ := by rw [hH8]; exact Keep.push _ _ _
          have n8 : H8.n = h6.n + 1 := by rw [hH8]; rfl
          have g9 : H8.get h6.n = .cells [.int .i64 ao, .int .i64 an, .imm aks.length (aks.flatMap encE), .imm b'.length (bytesV b'), .int .i64 (l' : Nat), .int .i64 0] 84 none := by rw [hH8]; exact get_push_new
          have g88 := (k8.get b8 (by omega) (by simp [none_])).trans g8
          have g48 := (k8.get h.n (by omega) (by simp [none_])).trans g4
          obtain ⟨s', h9, ea, o9, k9, n9⟩ := hapA H8 (os.keepN k8)
          have hlit := hlA H8
          have hsj : ∀ j, idOf s = some j → j < h6.n := fun j hj => os.lt j hj
          have b8ge : h.n < b8 := hb8g
          have g89 := (k9.get b8 (by omega) (fun hh => (ids b8 hh).2.2 rfl)).trans g88
          have g49 := (k9.get h.n (by omega) (fun hh => (ids h.n hh).2.1 rfl)).trans g48
          have g99 := (k9.get h6.n (by omega) (fun hh => by have := hsj _ hh; omega)).trans g9
          have one_s : s'.one = true := by
            rcases o9 with ⟨rfl | rfl, _⟩ | ⟨_, _, _, _, _, rfl, _⟩ <;> rfl
          have cell_s : s'.cells = some [s'] := by
            rcases o9 with ⟨rfl | rfl, _⟩ | ⟨_, _, _, _, _, rfl, _⟩ <;> rfl
          have hset : setC (some 1) (AObj.cells [V.int .i64 (k : Int), V.int .i64 n, s, .imm b.length (bytesV b), .int .i64 (l : Nat), .int .i64 0] 84 none) 2 [s'] = some (.cells [.int .i64 (k : Int), .int .i64 n, s', .imm b.length (bytesV b), .int .i64 (l : Nat), .int .i64 0] 84 none) := by rw [setC_one one_s]; rfl
          have z0 : ((0 : Int) != 0) = false := rfl
          have h6b : ∀ X, (h9.set b8 X).get h6.n = .cells [.int .i64 ao, .int .i64 an, .imm aks.length (aks.flatMap encE), .imm b'.length (bytesV b'), .int .i64 (l' : Nat), .int .i64 0] 84 none := fun X => (get_set_ne (by omega)).trans g99
          simp only [wpA_skip, wpA_region, wpA_seq, wpA_cond, condI_false, seqQ_normal, goI_out, goI_ops, opsA_nil, opsA_cons, stepA_alloc, stepA_load, stepA_store, stepA_binOp, stepA_fieldAddr, thenV_some, thenH_some, thenS_some, eval_tmp, eval_const, put_some, put_none, aBin_neq, absV_int, cells_agg, one_int, one_imm, all_nil, all_cons, aField_eq, fieldGo_ptr, aLoad_eq, loadGo_one, aPlace_ptr, dropC_cells, aStore_eq, storeGo_ptr, setC_row, setAll_nil, setAll_cons, aAlloc_eq, get_push_new, set_push, bne_self_eq_false, Nat.reduceEqDiff, Nat.reduceAdd, Nat.reduceLeDiff, Option.map_some, Nat.add_zero, Nat.zero_add, List.length_cons, List.length_nil, List.drop_zero, List.drop_succ_cons, List.set_cons_zero, List.set_cons_succ, List.nil_append, List.cons_append, if_true, if_false, Bool.and_self, Nat.le_refl, ft_25_2, ft_84_0, ft_84_3, lt_23, lt_3, zc_84, zt_84, f8, List.cons_append, List.nil_append]
          rw [← hH8]
          clear hH8
          simp only [wpA_region, wpA_seq, seqQ_normal, blkQ_normal, endI_mk, andThen_normal, goI_out, goI_ops, opsA_nil, opsA_cons, stepA_move, stepA_assign, stepA_buildSlice, stepA_load, stepA_store, stepA_binOp, stepA_fieldAddr, stepA_append, thenV_some, thenH_some, thenS_some, eval_tmp, eval_const, put_some, put_none, aBin_add, absV_int, cells_int, cells_imm, one_int, one_imm, all_nil, all_cons, aField_eq, fieldGo_ptr, aLoad_eq, loadGo_one, loadGo_row, aPlace_ptr, dropC_cells, aStore_eq, storeGo_ptr, setC_row, setAll_nil, setAll_cons, get_set_same, set_set, Nat.reduceEqDiff, Nat.reduceAdd, Nat.reduceLeDiff, List.map_cons, List.map_nil, Option.map_some, Nat.add_zero, Nat.zero_add, Nat.zero_le, List.length_cons, List.length_nil, List.drop_zero, List.drop_succ_cons, List.take_succ_cons, List.take_zero, List.set_cons_zero, List.set_cons_succ, if_true, if_false, Bool.and_self, ft_25_2, ft_84_0, ft_84_1, ft_84_2, lt_25, lt_3, lt_43, zt_23, zt_3, zt_43, f8, f11, g88, g9, hlit, ea, g89, cell_s, hset, h6b, hwi]
          have kS : Keep h9 (h9.set b8 (.cells [V.int .i64 (k : Int), V.int .i64 n, s', .imm b'.length (bytesV b'), .int .i64 (l' : Nat), .int .i64 0] 84 none)) (fun q => q = b8) := Keep.set _ _ _
          have ids' : ∀ j, idOf s' = some j → h.n ≤ j ∧ j ≠ h.n ∧ j ≠ b8 := fun j hj => by
            rcases n9 with n9 | n9
            · exact ids j (by rw [← n9]; exact hj)
            · have := n9 j hj; omega
          have kk9 : Keep h h9 none_ := (kk.trans' k8).trans k9 fun q hq hh => by have := (ids q hh).1; omega
          have n9' := k9.n
          refine hid_mk ⟨(i + 1, s', acc ++ [.mk ao an aks], b', l'), ⟨f1, f6, f8, f10, rfl, him, (get_set_ne (by omega)).trans g49, get_set_same, o9.keep kS (fun j hj hh => (ids' j hj).2.2 hh), ids', by simp [hal], by simp only; omega, hby', by simp only; omega, kk9.trans kS fun q hq hh => by omega, by rw [set_n]; omega, ?_⟩, by simp only; omega⟩
          rw [hKG, show m - (i + 1) = mi by omega]
          cases kidsG (getX d) mi l' b' with
          | error e => rfl
          | ok r => obtain ⟨ks, r⟩ := r; simp
      · have e1 : decide ((i : Int) < ((m : Nat) : Int)) = false := decide_eq_false (by omega)
        rw [show m - i = 0 by omega, kidsG] at hKG
        simp only [List.append_nil] at hKG
        have hG2 : getX (d + 1) left bs = .ok (.mk k n acc, b, l) := by rw [hG, hKG]
        have one_s : s.one = true := by
          rcases os with ⟨rfl | rfl, _⟩ | ⟨_, _, _, _, _, rfl, _⟩ <;> rfl
        have stF : setC (some 6) (AObj.cells [V.int .i64 0, V.int .i64 0, V.snil, V.snil, V.int .i64 0, V.int .i64 0] 84 none) 0 [.int .i64 (k : Int), .int .i64 n, s, .imm b.length (bytesV b), .int .i64 (l : Nat), .int .i64 0] = some (.cells [.int .i64 (k : Int), .int .i64 n, s, .imm b.length (bytesV b), .int .i64 (l : Nat), .int .i64 0] 84 none) := by
          exact (setC_row (n := 6) (vs := [.int .i64 (k : Int), .int .i64 n, s, .imm b.length (bytesV b), .int .i64 (l : Nat), .int .i64 0]) rfl (by simp only [all_cons, all_nil, one_int, one_imm, one_s, Bool.and_self])).trans rfl
        have kS : Keep h6 (h6.set h.n (.cells [.int .i64 (k : Int), .int .i64 n, s, .imm b.length (bytesV b), .int .i64 (l : Nat), .int .i64 0] 84 none)) (fun q => q = h.n) := Keep.set _ _ _
        have os2 := os.keep kS fun j hj hh => (ids j hj).2.1 hh
        obtain ⟨h9, c9, k9⟩ := Cast.own os2 (n := acc.length) (rows_len encE_len _) (by decide)
        simp only [wpA_region, wpA_seq, wpA_cond, wpA_exit, wpA_ret, condI_false, seqQ_normal, seqQ_exit, blkQ_exit, endI_mk, goE, andThen_exit, goI_out, goI_ops, opsA_nil, opsA_cons, stepA_move, stepA_load, stepA_store, stepA_binOp, thenV_some, thenS_some, eval_tmp, put_some, put_none, aBin_lss, cells_agg, aLoad_eq, loadGo_row, aPlace_ptr, dropC_cells, aStore_eq, storeGo_ptr, get_set_same, Nat.reduceEqDiff, Nat.reduceAdd, Option.map_some, Nat.zero_add, Nat.zero_le, List.length_cons, List.length_nil, List.drop_zero, List.take_succ_cons, List.take_nil, if_true, if_false, Nat.le_refl, lt_84, zt_84, f6, f8, f10, f11, e1, g8, g4, stF, retA_ret, Tryd.results48, resultsC_1, resultA_cell]
        have hgx2 : gxC (.ok (.mk (k : Int) n acc, b, l)) = [.int .i64 (k : Int), .int .i64 n, .imm acc.length (acc.flatMap encE), .imm b.length (bytesV b), .int .i64 (l : Nat), .int .i64 0] := by simp only [gxC]; rw [encE_eq]; rfl
        rw [hG2, hgx2]
        exact hid_mk ⟨h9, castAgg (CastL.cons (Cast.refl _ _) (CastL.cons (Cast.refl _ _) (CastL.cons c9 (CastL.refl _ _)))), (kk.trans kS fun q hq hh => by omega).trans k9 fun q hq hh => by have := (ids q hh).1; omega⟩
    · have c6 : ((k : Int) == 1) = false := by simp; omega
      rw [if_neg hk3] at hG0
      obtain ⟨m, hm⟩ : ∃ m : Nat, m = (kidsR (k : Int)).toNat := ⟨_, rfl⟩
      rw [← hm] at hG0
      have hkl := kidsR_le (k : Int)
      obtain ⟨n, hn⟩ : ∃ n : Int, n = 0 := ⟨0, rfl⟩
      have hG : getX (d + 1) left bs = (match kidsG (getX d) m (left - 1) bs1 with | .error e => .error e | .ok (ks, r) => .ok (.mk (k : Int) n ks, r)) := by rw [hn, hG0]
      have hkm : kidsR (k : Int) = ((m : Nat) : Int) := by rw [hm]; omega
      have g54 := g34
      have g58 : H3.get b8 = .cells [V.int .i64 (k : Int), V.int .i64 n, V.snil, .imm bs1.length (bytesV bs1), .int .i64 ((left - 1 : Nat) : Int), .int .i64 0] 84 none := by rw [hn]; exact g38
      have kk5 := kk3
      have hb8n : b8 < H3.n := by omega
      have hb2 := hb1
      have hl2 := hl1
      simp only [wpA_skip, wpA_region, wpA_seq, condI_false, seqQ_normal, goI_ops, opsA_cons, stepA_load, stepA_fieldAddr, stepA_call, thenV_some, eval_tmp, put_some, put_none, enterF_succ, aField_eq, fieldGo_ptr, aLoad_eq, loadGo_one, aPlace_ptr, dropC_cells, Nat.reduceEqDiff, Nat.reduceAdd, List.map_cons, List.map_nil, Nat.add_zero, Nat.zero_add, Nat.zero_le, List.length_cons, List.length_nil, List.drop_zero, if_true, if_false, ft_25_0, ft_84_0, lt_3, g38, c6]
      have hm3 := kidsR_le (k : Int)
      refine callI_pure cal53 (pKids (k : Int) _) ?_
      rw [hkm]
      simp only [wpA_region, wpA_seq, wpA_block, wpA_loop, seqQ_normal, goI_out, goI_ops, opsA_nil, opsA_cons, stepA_assign, eval_tmp, eval_const, put_some, put_none, enterF_succ, absV_int, Nat.reduceEqDiff, if_true, if_false]
      refine SWp.loopG (α := Nat × V × List Ex × List Nat × Nat) (fun x f h' => f 1 = .int .i64 ((d + 1 : Nat) : Int) ∧ f 6 = .ptr h.n 0 ∧ f 8 = .ptr b8 0 ∧ f 10 = .int .i64 (m : Nat) ∧ f 11 = .int .i64 (x.1 : Nat) ∧ x.1 ≤ m ∧ h'.get h.n = .cells [.int .i64 0, .int .i64 0, .snil, .snil, .int .i64 0, .int .i64 0] 84 none ∧
          h'.get b8 = .cells [.int .i64 (k : Int), .int .i64 n, x.2.1, .imm x.2.2.2.1.length (bytesV x.2.2.2.1), .int .i64 (x.2.2.2.2 : Nat), .int .i64 0] 84 none ∧
          Own h' 25 3 x.2.1 (x.2.2.1.flatMap encE) ∧ (∀ j, idOf x.2.1 = some j → h.n ≤ j ∧ j ≠ h.n ∧ j ≠ b8) ∧ x.2.2.1.length = x.1 ∧ x.2.2.2.2 ≤ 64 ∧ (∀ y ∈ x.2.2.2.1, y < 256) ∧ x.2.2.2.1.length ≤ 2 ^ 47 ∧ Keep h h' none_ ∧ b8 < h'.n ∧
          kidsG (getX d) m (left - 1) bs1 = (match kidsG (getX d) (m - x.1) x.2.2.2.2 x.2.2.2.1 with | .error e => .error e | .ok (ks, r) => .ok (x.2.2.1 ++ ks, r))) (fun x => m - x.1) (0, .snil, [], bs1, left - 1)
        ⟨rfl, rfl, rfl, rfl, rfl, Nat.zero_le _, g54, g58, Own.snil _ _ _, by simp [idOf], rfl, by simp only; omega, hb2, hl2, kk5, hb8n, by simp only [Nat.sub_zero]; cases kidsG (getX d) m (left - 1) bs1 <;> rfl⟩ ?_
      rintro ⟨i, s, acc, b, l⟩ f h6 ⟨f1, f6, f8, f10, f11, hi, g4, g8, os, ids, hal, hl64, hby, hbl, kk, hb8, hKG⟩
      simp only at f11 hi g8 os ids hal hl64 hby hbl hKG
      refine wpI_sound (by kernel_rfl) ?_
      by_cases him : i < m
      · have e1 : decide ((i : Int) < ((m : Nat) : Int)) = true := decide_eq_true (by omega)
        have hwi : IntKind.i64.wrap ((i : Int) + 1) = ((i + 1 : Nat) : Int) := by rw [Go.IntWalk.i64_in _ (by omega)]; omega
        have hwl : IntKind.i64.wrap (((d + 1 : Nat) : Int) - 1) = ((d : Nat) : Int) := by rw [Go.IntWalk.i64_in _ (by omega)]; omega
        obtain ⟨mi, hmi⟩ : ∃ mi, m - i = mi + 1 := ⟨m - i - 1, by omega⟩
        rw [hmi, kidsG] at hKG
        simp only [wpA_skip, wpA_region, wpA_seq, wpA_cond, wpA_block, condI_true, seqQ_normal, goI_out, goI_ops, opsA_nil, opsA_cons, stepA_move, stepA_load, stepA_binOp, stepA_fieldAddr, stepA_call, thenV_some, eval_tmp, eval_const, put_some, aBin_sub, aBin_lss, absV_int, aField_eq, fieldGo_ptr, aLoad_eq, loadGo_one, aPlace_ptr, dropC_cells, Nat.reduceEqDiff, Nat.reduceAdd, Nat.reduceLeDiff, List.map_cons, List.map_nil, Nat.zero_add, List.length_cons, List.length_nil, List.drop_zero, List.drop_succ_cons, if_true, if_false, ft_84_1, ft_84_2, lt_3, lt_43, f1, f8, f10, f11, g8, e1, hwl]
        refine callI_pure cal48 (pGet d l b h6 (by omega) hl64 hby hbl) ?_
        cases hgx : getX d l b with
        | error c =>
          rw [hgx] at hKG
          have hc0 := getX_err d l b c hgx
          have c1 : (((c : Nat) : Int) != 0) = true := by simp; omega
          simp only at hKG
          have hG2 : getX (d + 1) left bs = .error c := by rw [hG, hKG]
          simp only [gxC]
          have kZ : Keep h6 (h6.push (.cells [V.int .i64 0, V.int .i64 0, V.imm 0 [], V.imm 0 [], V.int .i64 0, V.int .i64 (c : Nat)] 84 none)) none_ := Keep.push _ _ _
          have g4Z := (kZ.get h.n (by omega) (by simp [none_])).trans g4
          simp only [wpA_region, wpA_seq, wpA_cond, wpA_ret, condI_true, seqQ_normal, seqQ_ret, blkQ_ret, endI_mk, goE, andThen_ret, goI_out, goI_ops, opsA_nil, opsA_cons, stepA_alloc, stepA_build, stepA_load, stepA_store, stepA_binOp, stepA_fieldAddr, thenV_some, thenH_some, thenS_some, eval_tmp, eval_const, put_some, put_none, aBin_neq, absV_int, cells_int, cells_agg, one_int, one_snil, one_imm, all_nil, all_cons, aField_eq, fieldGo_ptr, aLoad_eq, loadGo_one, loadGo_row, aPlace_ptr, dropC_cells, aStore_eq, storeGo_ptr, setC_row, setAll_nil, setAll_cons, aAlloc_eq, aBuild_go, aFill_nil, aFill_cons, fillGo_some, buildGo_struct, get_push_new, get_set_same, set_push, List.getElem?_cons_zero, List.getElem?_cons_succ, Nat.reduceEqDiff, Nat.reduceAdd, Nat.reduceLeDiff, List.map_cons, List.map_nil, Option.map_some, Nat.zero_add, Nat.zero_le, List.length_cons, List.length_nil, List.drop_zero, List.drop_succ_cons, List.take_succ_cons, List.take_nil, List.set_cons_zero, List.set_cons_succ, and_self, if_true, if_false, Bool.and_self, Nat.le_refl, ft_84_3, lt_3, lt_84, pl_84, zc_84, zt_84, f6, c1, g4Z, retA_ret, Tryd.results48, resultsC_1, resultA_cell]
          rw [hG2]
          exact hid_mk ⟨_, errG _ c, ((kk.trans' kZ).trans (Keep.set _ h.n _) fun q hq hh => by omega)⟩
        | ok r =>
          obtain ⟨A, b', l'⟩ := r
          rw [hgx] at hKG
          simp only at hKG
          have gt := getX_sound d l b hby A b' l' hgx
          have hby' : ∀ y ∈ b', y < 256 := fun y hy => hby y (by rw [gt.by_]; simp [hy])
          have hbl' : b'.length ≤ b.length := by rw [gt.by_]; simp
          have hsz := gt.sz
          simp only [gxC]
          have hlA := fun H => lit1e H A
          have hapA := fun (H : AHeap) (o : Own H 25 3 s (acc.flatMap encE)) => app1E o (by omega) A
          obtain ⟨ao, an, aks⟩ := A
          simp only [encE_eq] at hlA hapA
          rw [encE_eq]
          obtain ⟨H8, hH8⟩ : ∃ y, y = h6.push (.cells [.int .i64 ao, .int .i64 an, .imm aks.length (aks.flatMap encE), .imm b'.length (bytesV b'), .int .i64 (l' : Nat), .int .i64 0] 84 none) := ⟨_, rfl⟩
          have k8 : Keep h6 H8 none_ := by rw [hH8]; exact Keep.push _ _ _
          have n8 : H8.n = h6.n + 1 := by rw [hH8]; rfl
          have g9 : H8.get h6.n = .cells [.int .i64 ao, .int .i64 an, .imm aks.length (aks.flatMap encE), .imm b'.length (bytesV b'), .int .i64 (l' : Nat), .int .i64 0] 84 none := by rw [hH8]; exact get_push_new
          have g88 := (k8.get b8 (by omega) (by simp [none_])).trans g8
          have g48 := (k8.get h.n (by omega) (by simp [none_])).trans g4
          obtain ⟨s', h9, ea, o9, k9, n9⟩ := hapA H8 (os.keepN k8)
          have hlit := hlA H8
          have hsj : ∀ j, idOf s = some j → j < h6.n := fun j hj => os.lt j hj
          have b8ge : h.n < b8 := hb8g
          have g89 := (k9.get b8 (by omega) (fun hh => (ids b8 hh).2.2 rfl)).trans g88
          have g49 := (k9.get h.n (by omega) (fun hh => (ids h.n hh).2.1 rfl)).trans g48
          have g99 := (k9.get h6.n (by omega) (fun hh => by have := hsj _ hh; omega)).trans g9
          have one_s : s'.one = true := by
            rcases o9 with ⟨rfl | rfl, _⟩ | ⟨_, _, _, _, _, rfl, _⟩ <;> rfl
          have cell_s : s'.cells = some [s'] := by
            rcases o9 with ⟨rfl | rfl, _⟩ | ⟨_, _, _, _, _, rfl, _⟩ <;> rfl
          have hset : setC (some 1) (AObj.cells [V.int .i64 (k : Int), V.int .i64 n, s, .imm b.length (bytesV b), .int .i64 (l : Nat), .int .i64 0] 84 none) 2 [s'] = some (.cells [.int .i64 (k : Int), .int .i64 n, s', .imm b.length (bytesV b), .int .i64 (l : Nat), .int .i64 0] 84 none) := by rw [setC_one one_s]; rfl
          have z0 : ((0 : Int) != 0) = false := rfl
          have h6b : ∀ X, (h9.set b8 X).get h6.n = .cells [.int .i64 ao, .int .i64 an, .imm aks.length (aks.flatMap encE), .imm b'.length (bytesV b'), .int .i64 (l' : Nat), .int .i64 0] 84 none := fun X => (get_set_ne (by omega)).trans g99
          simp only [wpA_skip, wpA_region, wpA_seq, wpA_cond, condI_false, seqQ_normal, goI_out, goI_ops, opsA_nil, opsA_cons, stepA_alloc, stepA_load, stepA_store, stepA_binOp, stepA_fieldAddr, thenV_some, thenH_some, thenS_some, eval_tmp, eval_const, put_some, put_none, aBin_neq, absV_int, cells_agg, one_int, one_imm, all_nil, all_cons, aField_eq, fieldGo_ptr, aLoad_eq, loadGo_one, aPlace_ptr, dropC_cells, aStore_eq, storeGo_ptr, setC_row, setAll_nil, setAll_cons, aAlloc_eq, get_push_new, set_push, bne_self_eq_false, Nat.reduceEqDiff, Nat.reduceAdd, Nat.reduceLeDiff, Option.map_some, Nat.add_zero, Nat.zero_add, List.length_cons, List.length_nil, List.drop_zero, List.drop_succ_cons, List.set_cons_zero, List.set_cons_succ, List.nil_append, List.cons_append, if_true, if_false, Bool.and_self, Nat.le_refl, ft_25_2, ft_84_0, ft_84_3, lt_23, lt_3, zc_84, zt_84, f8, List.cons_append, List.nil_append]
          rw [← hH8]
          clear hH8
          simp only [wpA_region, wpA_seq, seqQ_normal, blkQ_normal, endI_mk, andThen_normal, goI_out, goI_ops, opsA_nil, opsA_cons, stepA_move, stepA_assign, stepA_buildSlice, stepA_load, stepA_store, stepA_binOp, stepA_fieldAddr, stepA_append, thenV_some, thenH_some, thenS_some, eval_tmp, eval_const, put_some, put_none, aBin_add, absV_int, cells_int, cells_imm, one_int, one_imm, all_nil, all_cons, aField_eq, fieldGo_ptr, aLoad_eq, loadGo_one, loadGo_row, aPlace_ptr, dropC_cells, aStore_eq, storeGo_ptr, setC_row, setAll_nil, setAll_cons, get_set_same, set_set, Nat.reduceEqDiff, Nat.reduceAdd, Nat.reduceLeDiff, List.map_cons, List.map_nil, Option.map_some, Nat.add_zero, Nat.zero_add, Nat.zero_le, List.length_cons, List.length_nil, List.drop_zero, List.drop_succ_cons, List.take_succ_cons, List.take_zero, List.set_cons_zero, List.set_cons_succ, if_true, if_false, Bool.and_self, ft_25_2, ft_84_0, ft_84_1, ft_84_2, lt_25, lt_3, lt_43, zt_23, zt_3, zt_43, f8, f11, g88, g9, hlit, ea, g89, cell_s, hset, h6b, hwi]
          have kS : Keep h9 (h9.set b8 (.cells [V.int .i64 (k : Int), V.int .i64 n, s', .imm b'.length (bytesV b'), .int .i64 (l' : Nat), .int .i64 0] 84 none)) (fun q => q = b8) := Keep.set _ _ _
          have ids' : ∀ j, idOf s' = some j → h.n ≤ j ∧ j ≠ h.n ∧ j ≠ b8 := fun j hj => by
            rcases n9 with n9 | n9
            · exact ids j (by rw [← n9]; exact hj)
            · have := n9 j hj; omega
          have kk9 : Keep h h9 none_ := (kk.trans' k8).trans k9 fun q hq hh => by have := (ids q hh).1; omega
          have n9' := k9.n
          refine hid_mk ⟨(i + 1, s', acc ++ [.mk ao an aks], b', l'), ⟨f1, f6, f8, f10, rfl, him, (get_set_ne (by omega)).trans g49, get_set_same, o9.keep kS (fun j hj hh => (ids' j hj).2.2 hh), ids', by simp [hal], by simp only; omega, hby', by simp only; omega, kk9.trans kS fun q hq hh => by omega, by rw [set_n]; omega, ?_⟩, by simp only; omega⟩
          rw [hKG, show m - (i + 1) = mi by omega]
          cases kidsG (getX d) mi l' b' with
          | error e => rfl
          | ok r => obtain ⟨ks, r⟩ := r; simp
      · have e1 : decide ((i : Int) < ((m : Nat) : Int)) = false := decide_eq_false (by omega)
        rw [show m - i = 0 by omega, kidsG] at hKG
        simp only [List.append_nil] at hKG
        have hG2 : getX (d + 1) left bs = .ok (.mk k n acc, b, l) := by rw [hG, hKG]
        have one_s : s.one = true := by
          rcases os with ⟨rfl | rfl, _⟩ | ⟨_, _, _, _, _, rfl, _⟩ <;> rfl
        have stF : setC (some 6) (AObj.cells [V.int .i64 0, V.int .i64 0, V.snil, V.snil, V.int .i64 0, V.int .i64 0] 84 none) 0 [.int .i64 (k : Int), .int .i64 n, s, .imm b.length (bytesV b), .int .i64 (l : Nat), .int .i64 0] = some (.cells [.int .i64 (k : Int), .int .i64 n, s, .imm b.length (bytesV b), .int .i64 (l : Nat), .int .i64 0] 84 none) := by
          exact (setC_row (n := 6) (vs := [.int .i64 (k : Int), .int .i64 n, s, .imm b.length (bytesV b), .int .i64 (l : Nat), .int .i64 0]) rfl (by simp only [all_cons, all_nil, one_int, one_imm, one_s, Bool.and_self])).trans rfl
        have kS : Keep h6 (h6.set h.n (.cells [.int .i64 (k : Int), .int .i64 n, s, .imm b.length (bytesV b), .int .i64 (l : Nat), .int .i64 0] 84 none)) (fun q => q = h.n) := Keep.set _ _ _
        have os2 := os.keep kS fun j hj hh => (ids j hj).2.1 hh
        obtain ⟨h9, c9, k9⟩ := Cast.own os2 (n := acc.length) (rows_len encE_len _) (by decide)
        simp only [wpA_region, wpA_seq, wpA_cond, wpA_exit, wpA_ret, condI_false, seqQ_normal, seqQ_exit, blkQ_exit, endI_mk, goE, andThen_exit, goI_out, goI_ops, opsA_nil, opsA_cons, stepA_move, stepA_load, stepA_store, stepA_binOp, thenV_some, thenS_some, eval_tmp, put_some, put_none, aBin_lss, cells_agg, aLoad_eq, loadGo_row, aPlace_ptr, dropC_cells, aStore_eq, storeGo_ptr, get_set_same, Nat.reduceEqDiff, Nat.reduceAdd, Option.map_some, Nat.zero_add, Nat.zero_le, List.length_cons, List.length_nil, List.drop_zero, List.take_succ_cons, List.take_nil, if_true, if_false, Nat.le_refl, lt_84, zt_84, f6, f8, f10, f11, e1, g8, g4, stF, retA_ret, Tryd.results48, resultsC_1, resultA_cell]
        have hgx2 : gxC (.ok (.mk (k : Int) n acc, b, l)) = [.int .i64 (k : Int), .int .i64 n, .imm acc.length (acc.flatMap encE), .imm b.length (bytesV b), .int .i64 (l : Nat), .int .i64 0] := by simp only [gxC]; rw [encE_eq]; rfl
        rw [hG2, hgx2]
        exact hid_mk ⟨h9, castAgg (CastL.cons (Cast.refl _ _) (CastL.cons (Cast.refl _ _) (CastL.cons c9 (CastL.refl _ _)))), (kk.trans kS fun q hq hh => by omega).trans k9 fun q hq hh => by have := (ids q hh).1; omega⟩
end Go.Proofs.YtpobgoeeljknpaaDoor.Pk
