/-
  What functions of the program do, told of abstract states. Conditions: as each theorem says.
-/
import Derived.Test.YtjphnabogfiahaaDoorPaO
namespace Go.Proofs.YtjphnabogfiahaaDoor.Pk
open Go Go.Proofs Go.Proofs.YtjphnabogfiahaaDoor.Ab
set_option linter.unusedVariables false
set_option linter.unusedSimpArgs false

theorem gotC_eq (bs : List Nat) : gotC bs = [.int .u64 ((dec bs 0 0).1 : Nat), .imm (bs.drop (dec bs 0 0).2.1).length (bytesV (bs.drop (dec bs 0 0).2.1)), .int .i64 ((dec bs 0 0).2.2 : Nat)] := by
  unfold gotC rdGot
  by_cases h : (dec bs 0 0).2.2 = 0
  · rw [if_pos h, h]
  · rw [if_neg h]
    have hd := dec_err bs 0 0 h
    rw [hd]
    rfl
theorem signed (n : Nat) (h : AHeap) (hn : n < 2 ^ 64) : Pure Tryd.prog 45 [.int .u64 n] h (.int .i64 (unz n)) := by
  refine SCalls.enterI (c := _) Tryd.func45 rfl (by kernel_rfl) (by simp) ?_
  have e2 : IntKind.u64.wrap ((n : Int).tdiv 2) = ((n / 2 : Nat) : Int) := by
    rw [Int.tdiv_eq_ediv_of_nonneg (by omega), IntKind.wrap_u64]; omega
  have e3 : IntKind.i64.wrap ((n / 2 : Nat) : Int) = ((n / 2 : Nat) : Int) := Go.IntWalk.i64_in _ (by omega)
  by_cases h1 : n % 2 = 1
  · have c1 : ((n : Int).tmod 2 == 1) = true := by rw [Int.tmod_eq_emod_of_nonneg (by omega)]; simp; omega
    have e4 : IntKind.i64.wrap (IntKind.i64.wrap (0 - ((n / 2 : Nat) : Int)) - 1) = unz n := by
      rw [Go.IntWalk.i64_in (0 - _) (by omega), Go.IntWalk.i64_in _ (by omega)]
      unfold unz
      rw [if_neg (by omega)]
      omega
    simp only [wpA_region, wpA_seq, wpA_cond, wpA_ret, condI_true, seqQ_normal, seqQ_ret, endI_mk, goI_out, goI_ops, opsA_nil, opsA_cons, stepA_move, stepA_assign, stepA_binOp, stepA_unOp, stepA_convert, thenV_some, eval_tmp, eval_const, put_some, enterF_zero, enterF_succ, aBin_sub, aBin_eql, aUn_neg, absV_int, Nat.reduceEqDiff, reduceCtorEq, if_true, if_false, aBin_rem (show (2 : Int) ≠ 0 by decide), aBin_quo (show (2 : Int) ≠ 0 by decide), c1, e2, e3, aConv_int it_63 it_2, e4, retA_ret, Tryd.results45, resultsA_1]
    exact hid_mk ⟨rfl, rfl⟩
  · have c1 : ((n : Int).tmod 2 == 1) = false := by rw [Int.tmod_eq_emod_of_nonneg (by omega)]; simp; omega
    simp only [wpA_skip, wpA_region, wpA_seq, wpA_cond, wpA_ret, condI_false, seqQ_normal, endI_mk, goI_out, goI_ops, opsA_nil, opsA_cons, stepA_move, stepA_assign, stepA_binOp, stepA_convert, thenV_some, eval_tmp, eval_const, put_some, enterF_zero, enterF_succ, aBin_eql, absV_int, Nat.reduceEqDiff, reduceCtorEq, if_true, if_false, aBin_rem (show (2 : Int) ≠ 0 by decide), aBin_quo (show (2 : Int) ≠ 0 by decide), c1, e2, e3, aConv_int it_63 it_2, retA_ret, Tryd.results45, resultsA_1]
    refine hid_mk ⟨?_, rfl⟩
    unfold unz
    rw [if_pos (by omega)]

theorem i64V_clo (l : List Int) : CloL (i64V l) := CloL.map fun _ _ => Clo.int _ _

set_option maxRecDepth 10000 in
theorem ReadIntsG (bs : List Nat) (most : Int) (h : AHeap) (hb : ∀ b ∈ bs, b < 256) (hc : bs.length ≤ 2 ^ 47) (hcm : bs.length ≤ 2 ^ 40 ∨ most ≤ 2 ^ 40) (hm : -2 ^ 63 ≤ most ∧ most < 2 ^ 63) :
    Pure Tryd.prog 36 [.imm bs.length (bytesV bs), .int .i64 most] h (.tuple [.imm (getInts bs most).1.length (i64V (getInts bs most).1), .imm (getInts bs most).2.1.length (bytesV (getInts bs most).2.1), .int .i64 ((getInts bs most).2.2 : Nat)]) := by
  refine Pure.of (Clo.tuple (CloL.cons (Clo.imm (i64V_clo _)) (CloL.cons (Clo.imm (bytesV_clo _)) (CloL.cons (Clo.int _ _) CloL.nil)))) ?_
  refine SCalls.enterI (c := _) Tryd.func36 rfl (by kernel_rfl) (by simp) ?_
  simp only [wpA_region, wpA_seq, seqQ_normal, goI_out, goI_ops, opsA_nil, opsA_cons, stepA_move, stepA_assign, stepA_call, eval_tmp, eval_const, put_some, enterF_zero, enterF_succ, absV_int, absV_snil, Int.reduceNeg, Nat.reduceEqDiff, reduceCtorEq, List.map_cons, List.map_nil, if_true, if_false]
  refine callI_pure cal35 (ReadUint bs h hb (by omega)) ?_
  rw [gotC_eq]
  have hlt := dec_lt bs 0 0 (by omega) (by decide) hb
  by_cases herr : (dec bs 0 0).2.2 = 0
  rotate_left
  · have hne : ((((dec bs 0 0).2.2 : Nat) : Int) != 0) = true := by simp; omega
    have hG : getInts bs most = ([], bs, (dec bs 0 0).2.2) := by unfold getInts; rw [if_pos herr]
    simp only [wpA_region, wpA_seq, wpA_cond, wpA_draw, condI_true, seqQ_normal, goI_out, goI_ops, opsA_nil, opsA_cons, stepA_alloc, stepA_load, stepA_store, stepA_binOp, stepA_fieldAddr, thenV_some, thenH_some, thenS_some, eval_tmp, eval_const, put_some, put_none, enterF_succ, aBin_neq, absV_int, cells_agg, one_int, one_imm, all_nil, all_cons, aField_eq, fieldGo_ptr, aLoad_eq, loadGo_one, aPlace_ptr, dropC_cells, aStore_eq, storeGo_ptr, setC_row, setAll_nil, setAll_cons, aAlloc_eq, get_push_new, set_push, Int.reduceNeg, Nat.reduceEqDiff, Nat.reduceAdd, Nat.reduceLeDiff, Option.map_some, Nat.zero_add, List.length_cons, List.length_nil, List.drop_zero, List.drop_succ_cons, List.set_cons_zero, List.set_cons_succ, if_true, if_false, Bool.and_self, Nat.le_refl, ft_69_2, lt_3, zc_69, zt_69, hne]
    refine SWp.drawnI [] (by kernel_rfl) (by kernel_rfl) (by kernel_rfl) ?_
    simp only [gI_nil, gI_cons, goI_rest, ggI_true, wantedA_none, idleOp, Bool.or_false, List.contains_nil, wpA_ret, seqQ_normal, seqQ_ret, endI_mk, goI_out, stepA_move, stepA_assign, stepA_load, stepA_fieldAddr, thenV_some, eval_tmp, eval_const, put_some, put_none, enterF_zero, enterF_succ, absV_snil, aField_eq, fieldGo_ptr, aLoad_eq, loadGo_one, aPlace_ptr, dropC_cells, get_push_new, Nat.reduceEqDiff, Nat.reduceAdd, Nat.reduceLeDiff, reduceCtorEq, Nat.zero_add, List.length_cons, List.length_nil, List.drop_zero, List.drop_succ_cons, if_true, if_false, ft_69_2, lt_3, retA_ret, Tryd.results36, resultsA_3]
    exact hid_mk ⟨_, by rw [hG]; exact nil_cast _ _, Keep.push _ _ _⟩
  · have hne : ((((dec bs 0 0).2.2 : Nat) : Int) != 0) = false := by simp [herr]
    have hst := dec_step hb herr
    by_cases hrange : most < 0 ∨ most < (((dec bs 0 0).1 : Nat) : Int)
    · have hG : getInts bs most = ([], bs, 2) := by unfold getInts; rw [if_neg (by omega), if_pos hrange]
      by_cases h0 : most < 0
      · have c1 : decide (most < (0 : Int)) = true := by simpa using h0
        simp only [wpA_skip, wpA_region, wpA_seq, wpA_cond, wpA_ret, condI_true, condI_false, seqQ_normal, seqQ_ret, endI_mk, goI_out, goI_ops, opsA_nil, opsA_cons, opsA_guardS, gvI_tf, slotAt_zero, slotAt_succ, stepA_move, stepA_assign, stepA_pick, stepA_alloc, stepA_load, stepA_store, stepA_binOp, stepA_fieldAddr, thenV_some, thenH_some, thenS_some, pickV_true, eval_tmp, eval_const, put_some, put_none, enterF_zero, enterF_succ, aBin_neq, aBin_lss, absV_int, absV_bool, absV_snil, cells_agg, one_int, one_imm, all_nil, all_cons, aField_eq, fieldGo_ptr, aLoad_eq, loadGo_one, aPlace_ptr, dropC_cells, aStore_eq, storeGo_ptr, setC_row, setAll_nil, setAll_cons, aAlloc_eq, get_push_new, set_push, Int.reduceNeg, Nat.reduceEqDiff, Nat.reduceAdd, Nat.reduceLeDiff, reduceCtorEq, Option.map_some, Nat.zero_add, List.length_cons, List.length_nil, List.drop_zero, List.drop_succ_cons, List.set_cons_zero, List.set_cons_succ, if_true, if_false, Bool.and_self, Nat.le_refl, ft_69_2, lt_3, zc_69, zt_69, hne, c1, retA_ret, Tryd.results36, resultsA_3]
        exact hid_mk ⟨_, by rw [hG]; exact nil_cast _ _, Keep.push _ _ _⟩
      · have c1 : decide (most < (0 : Int)) = false := by simpa using h0
        have c2 : decide (IntKind.u64.wrap most < (((dec bs 0 0).1 : Nat) : Int)) = true := by
          rw [IntKind.wrap_u64, Int.emod_eq_of_lt (by omega) (by omega)]
          simp; omega
        simp only [wpA_skip, wpA_region, wpA_seq, wpA_cond, wpA_ret, condI_true, condI_false, seqQ_normal, seqQ_ret, endI_mk, goI_out, goI_ops, opsA_nil, opsA_cons, opsA_guardS, gvI_same, slotAt_zero, slotAt_succ, stepA_move, stepA_assign, stepA_pick, stepA_alloc, stepA_load, stepA_store, stepA_binOp, stepA_convert, stepA_fieldAddr, thenV_some, thenH_some, thenS_some, pickV_false, eval_tmp, eval_const, put_some, put_none, enterF_zero, enterF_succ, aBin_neq, aBin_lss, aBin_gtr, absV_int, absV_bool, absV_snil, cells_agg, one_int, one_imm, all_nil, all_cons, aField_eq, fieldGo_ptr, aLoad_eq, loadGo_one, aPlace_ptr, dropC_cells, aStore_eq, storeGo_ptr, setC_row, setAll_nil, setAll_cons, aAlloc_eq, get_push_new, set_push, Int.reduceNeg, Nat.reduceEqDiff, Nat.reduceAdd, Nat.reduceLeDiff, reduceCtorEq, Option.map_some, Nat.add_zero, Nat.zero_add, Nat.zero_le, List.length_cons, List.length_nil, List.drop_zero, List.drop_succ_cons, List.set_cons_zero, List.set_cons_succ, if_true, if_false, Bool.and_self, Nat.le_refl, ft_69_0, ft_69_2, lt_3, lt_63, zc_69, zt_69, hne, c1, c2, aConv_int it_3 it_63, retA_ret, Tryd.results36, resultsA_3]
        exact hid_mk ⟨_, by rw [hG]; exact nil_cast _ _, Keep.push _ _ _⟩
    · have c1 : decide (most < (0 : Int)) = false := by simp; omega
      have c2 : decide (IntKind.u64.wrap most < (((dec bs 0 0).1 : Nat) : Int)) = false := by
        rw [IntKind.wrap_u64, Int.emod_eq_of_lt (by omega) (by omega)]
        simp; omega
      simp only [wpA_skip, wpA_region, wpA_seq, wpA_cond, wpA_block, wpA_loop, condI_false, seqQ_normal, goI_out, goI_ops, opsA_nil, opsA_cons, opsA_guardS, gvI_same, slotAt_zero, slotAt_succ, stepA_move, stepA_assign, stepA_pick, stepA_alloc, stepA_load, stepA_store, stepA_binOp, stepA_convert, stepA_fieldAddr, thenV_some, thenH_some, thenS_some, pickV_false, eval_tmp, eval_const, put_some, put_none, enterF_zero, enterF_succ, aBin_neq, aBin_lss, aBin_gtr, absV_int, absV_bool, absV_snil, cells_agg, one_int, one_imm, all_nil, all_cons, aField_eq, fieldGo_ptr, aLoad_eq, loadGo_one, aPlace_ptr, dropC_cells, aStore_eq, storeGo_ptr, setC_row, setAll_nil, setAll_cons, aAlloc_eq, get_push_new, set_push, Int.reduceNeg, Nat.reduceEqDiff, Nat.reduceAdd, Nat.reduceLeDiff, Option.map_some, Nat.add_zero, Nat.zero_add, Nat.zero_le, List.length_cons, List.length_nil, List.drop_zero, List.drop_succ_cons, List.set_cons_zero, List.set_cons_succ, if_true, if_false, Bool.and_self, Nat.le_refl, ft_69_0, ft_69_1, ft_69_2, lt_24, lt_3, lt_63, zc_69, zt_69, hne, c1, c2, aConv_int it_3 it_63]
      generalize hGH : h.push (.cells [.int .u64 ((dec bs 0 0).1 : Nat), .imm (bs.drop (dec bs 0 0).2.1).length (bytesV (bs.drop (dec bs 0 0).2.1)), .int .i64 ((dec bs 0 0).2.2 : Nat)] 69 none) = hg
      have gn : h.n < hg.n := by rw [← hGH, push_n]; omega
      have gg : hg.get h.n = .cells [.int .u64 ((dec bs 0 0).1 : Nat), .imm (bs.drop (dec bs 0 0).2.1).length (bytesV (bs.drop (dec bs 0 0).2.1)), .int .i64 ((dec bs 0 0).2.2 : Nat)] 69 none := by rw [← hGH, get_push_new]
      have gk : Keep h hg none_ := by rw [← hGH]; exact Keep.push _ _ _
      refine SWp.loopG (α := V × Nat × List Nat × List Int) (fun x f h' => f 0 = .imm bs.length (bytesV bs) ∧ f 7 = .ptr h.n 0 ∧ f 8 = x.1 ∧ f 9 = .imm x.2.2.1.length (bytesV x.2.2.1) ∧ f 10 = .int .u64 (x.2.1 : Nat) ∧
          Acc hg h' 3 1 x.1 (i64V x.2.2.2) ∧
          goInts ((dec bs 0 0).1 - x.2.1) x.2.2.1 x.2.2.2 = goInts (dec bs 0 0).1 (bs.drop (dec bs 0 0).2.1) [] ∧ x.2.1 ≤ (dec bs 0 0).1 ∧ (x.2.2.2.length + x.2.2.1.length ≤ bs.length ∧ x.2.2.2.length ≤ x.2.1) ∧ ∀ b ∈ x.2.2.1, b < 256)
        (fun x => (dec bs 0 0).1 - x.2.1) (.snil, 0, bs.drop (dec bs 0 0).2.1, [])
        ⟨rfl, rfl, rfl, rfl, rfl, Acc.nil (Keep.refl _ _), by simp, Nat.zero_le _, ⟨by simp, by simp⟩, mem_drop hb _⟩ ?_
      rintro ⟨v, k, rest, acc⟩ f h2 ⟨f0, f7, f8, f9, f10, ha, hgo, hkn, ⟨hlen, hlenk⟩, hb2⟩
      simp only at f8 f9 f10 ha hgo hkn hlen hlenk hb2
      have hacc : acc.length ≤ 2 ^ 40 := by rcases hcm with hcm | hcm <;> omega
      refine wpI_sound (by kernel_rfl) ?_
      have g2 : h2.get h.n = _ := (ha.keep.get h.n gn (by simp [none_])).trans gg
      have kall : Keep h h2 none_ := gk.trans' ha.keep
      by_cases hlast : k < (dec bs 0 0).1
      · have d1 : decide ((k : Int) < (((dec bs 0 0).1 : Nat) : Int)) = true := by simp; omega
        have hw1 : IntKind.u64.wrap ((k : Int) + 1) = ((k + 1 : Nat) : Int) := by rw [IntKind.wrap_u64]; omega
        rw [show (dec bs 0 0).1 - k = ((dec bs 0 0).1 - (k + 1)) + 1 by omega, goInts] at hgo
        simp only [wpA_skip, wpA_region, wpA_seq, wpA_cond, wpA_block, condI_true, seqQ_normal, goI_out, goI_ops, opsA_nil, opsA_cons, stepA_move, stepA_load, stepA_binOp, stepA_fieldAddr, stepA_call, thenV_some, eval_tmp, put_some, aBin_lss, aField_eq, fieldGo_ptr, aLoad_eq, loadGo_one, aPlace_ptr, dropC_cells, Int.reduceNeg, Nat.reduceEqDiff, Nat.reduceAdd, List.map_cons, List.map_nil, Nat.add_zero, Nat.zero_add, Nat.zero_le, List.length_cons, List.length_nil, List.drop_zero, if_true, if_false, ft_69_0, lt_63, f7, f9, f10, g2, d1]
        refine callI_pure cal35 (ReadUint rest h2 hb2 (by omega)) ?_
        rw [gotC_eq]
        have hlt2 := dec_lt rest 0 0 (by omega) (by decide) hb2
        by_cases herr2 : (dec rest 0 0).2.2 = 0
        rotate_left
        · have hne2 : ((((dec rest 0 0).2.2 : Nat) : Int) != 0) = true := by simp; omega
          rw [if_pos herr2] at hgo
          have hG : getInts bs most = ([], bs, (dec rest 0 0).2.2) := by
            unfold getInts; rw [if_neg (by omega), if_neg hrange, ← hgo, if_pos herr2]
          simp only [wpA_region, wpA_seq, wpA_cond, wpA_draw, condI_true, seqQ_normal, goI_out, goI_ops, opsA_nil, opsA_cons, stepA_alloc, stepA_load, stepA_store, stepA_binOp, stepA_fieldAddr, thenV_some, thenH_some, thenS_some, eval_tmp, eval_const, put_some, put_none, aBin_neq, absV_int, cells_agg, one_int, one_imm, all_nil, all_cons, aField_eq, fieldGo_ptr, aLoad_eq, loadGo_one, aPlace_ptr, dropC_cells, aStore_eq, storeGo_ptr, setC_row, setAll_nil, setAll_cons, aAlloc_eq, get_push_new, set_push, Int.reduceNeg, Nat.reduceEqDiff, Nat.reduceAdd, Nat.reduceLeDiff, Option.map_some, Nat.zero_add, List.length_cons, List.length_nil, List.drop_zero, List.drop_succ_cons, List.set_cons_zero, List.set_cons_succ, if_true, if_false, Bool.and_self, Nat.le_refl, ft_69_2, lt_3, zc_69, zt_69, hne2]
          refine SWp.drawnI [] (by kernel_rfl) (by kernel_rfl) (by kernel_rfl) ?_
          simp only [gI_nil, gI_cons, goI_rest, ggI_true, wantedA_none, idleOp, Bool.or_false, List.contains_nil, wpA_ret, seqQ_normal, seqQ_ret, blkQ_ret, endI_mk, goE, andThen_ret, goI_out, stepA_move, stepA_assign, stepA_load, stepA_fieldAddr, thenV_some, eval_tmp, eval_const, put_some, put_none, absV_snil, aField_eq, fieldGo_ptr, aLoad_eq, loadGo_one, aPlace_ptr, dropC_cells, get_push_new, Nat.reduceEqDiff, Nat.reduceAdd, Nat.reduceLeDiff, reduceCtorEq, Nat.zero_add, List.length_cons, List.length_nil, List.drop_zero, List.drop_succ_cons, if_true, if_false, ft_69_2, lt_3, f0, retA_ret, Tryd.results36, resultsA_3]
          exact hid_mk ⟨_, by rw [hG]; exact nil_cast _ _, kall.then_push _⟩
        · have hne2 : ((((dec rest 0 0).2.2 : Nat) : Int) != 0) = false := by simp [herr2]
          rw [if_neg (by omega)] at hgo
          have hst2 := dec_step hb2 herr2
          simp only [wpA_skip, wpA_region, wpA_seq, wpA_cond, condI_false, seqQ_normal, goI_out, goI_ops, opsA_nil, opsA_cons, stepA_alloc, stepA_load, stepA_store, stepA_binOp, stepA_fieldAddr, stepA_call, thenV_some, thenH_some, thenS_some, eval_tmp, eval_const, put_some, put_none, aBin_neq, absV_int, cells_agg, one_int, one_imm, all_nil, all_cons, aField_eq, fieldGo_ptr, aLoad_eq, loadGo_one, aPlace_ptr, dropC_cells, aStore_eq, storeGo_ptr, setC_row, setAll_nil, setAll_cons, aAlloc_eq, get_push_new, set_push, Int.reduceNeg, Nat.reduceEqDiff, Nat.reduceAdd, Nat.reduceLeDiff, List.map_cons, List.map_nil, Option.map_some, Nat.add_zero, Nat.zero_add, Nat.zero_le, List.length_cons, List.length_nil, List.drop_zero, List.drop_succ_cons, List.set_cons_zero, List.set_cons_succ, if_true, if_false, Bool.and_self, Nat.le_refl, ft_69_0, ft_69_2, lt_3, lt_63, zc_69, zt_69, hne2]
          refine callI_pure cal45 (signed _ _ hlt2) ?_
          by_cases hrg : unz (dec rest 0 0).1 < -2147483648 ∨ 2147483647 < unz (dec rest 0 0).1
          · rw [if_pos hrg] at hgo
            have hG : getInts bs most = ([], bs, 2) := by
              unfold getInts; rw [if_neg (by omega), if_neg hrange, ← hgo]; rfl
            by_cases hlo : unz (dec rest 0 0).1 < -2147483648
            · have g1 : decide (unz (dec rest 0 0).1 < (-2147483648 : Int)) = true := by simpa using hlo
              simp only [wpA_region, wpA_seq, wpA_cond, wpA_ret, condI_true, seqQ_normal, seqQ_ret, blkQ_ret, endI_mk, goE, andThen_ret, goI_out, goI_ops, opsA_nil, opsA_cons, opsA_guardS, gvI_tf, slotAt_zero, slotAt_succ, stepA_move, stepA_assign, stepA_pick, stepA_binOp, thenV_some, pickV_true, eval_tmp, eval_const, put_some, put_none, aBin_lss, absV_int, absV_bool, absV_snil, Int.reduceNeg, Nat.reduceEqDiff, reduceCtorEq, if_true, if_false, f0, g1, retA_ret, Tryd.results36, resultsA_3]
              exact hid_mk ⟨_, by rw [hG]; exact nil_cast _ _, kall.then_push _⟩
            · have g1 : decide (unz (dec rest 0 0).1 < (-2147483648 : Int)) = false := by simpa using hlo
              have g3 : decide ((2147483647 : Int) < unz (dec rest 0 0).1) = true := by simp; omega
              simp only [wpA_region, wpA_seq, wpA_cond, wpA_ret, condI_true, seqQ_normal, seqQ_ret, blkQ_ret, endI_mk, goE, andThen_ret, goI_out, goI_ops, opsA_nil, opsA_cons, opsA_guardS, gvI_same, slotAt_zero, slotAt_succ, stepA_move, stepA_assign, stepA_pick, stepA_binOp, thenV_some, pickV_false, eval_tmp, eval_const, put_some, put_none, aBin_lss, aBin_gtr, absV_int, absV_bool, absV_snil, Int.reduceNeg, Nat.reduceEqDiff, reduceCtorEq, if_true, if_false, f0, g1, g3, retA_ret, Tryd.results36, resultsA_3]
              exact hid_mk ⟨_, by rw [hG]; exact nil_cast _ _, kall.then_push _⟩
          · rw [if_neg hrg] at hgo
            have g1 : decide (unz (dec rest 0 0).1 < (-2147483648 : Int)) = false := by simp; omega
            have g3 : decide ((2147483647 : Int) < unz (dec rest 0 0).1) = false := by simp; omega
            have ha3 := ha.on (Keep.push h2 (.cells [.int .u64 ((dec rest 0 0).1 : Nat), .imm (rest.drop (dec rest 0 0).2.1).length (bytesV (rest.drop (dec rest 0 0).2.1)), .int .i64 ((dec rest 0 0).2.2 : Nat)] 69 none) none_)
            generalize hX : h2.push (.cells [.int .u64 ((dec rest 0 0).1 : Nat), .imm (rest.drop (dec rest 0 0).2.1).length (bytesV (rest.drop (dec rest 0 0).2.1)), .int .i64 ((dec rest 0 0).2.2 : Nat)] 69 none) = h3 at ha3 ⊢
            have x3 : h3.get h2.n = .cells [.int .u64 ((dec rest 0 0).1 : Nat), .imm (rest.drop (dec rest 0 0).2.1).length (bytesV (rest.drop (dec rest 0 0).2.1)), .int .i64 ((dec rest 0 0).2.2 : Nat)] 69 none := by rw [← hX, get_push_new]
            have n3 : h2.n < h3.n := by rw [← hX, push_n]; omega
            obtain ⟨v4, h4, q1, q2, q3, q4⟩ := append_elem (P := Tryd.prog) sl_33 (by decide) ha3.own (xs := [.int .i64 (unz (dec rest 0 0).1)]) rfl rfl (by simp [i64V_length, lim]; omega) (by simp [i64V_length, lim]; omega)
            have hne4 : ¬ isId v h2.n := fun hh => by
              have := ha.own.lt _ hh
              omega
            have x4 : h4.get h2.n = _ := (q3.get h2.n n3 hne4).trans x3
            simp only [wpA_skip, wpA_region, wpA_seq, wpA_cond, condI_false, seqQ_normal, blkQ_normal, endI_mk, andThen_normal, goI_out, goI_ops, opsA_nil, opsA_cons, opsA_guardS, gvI_same, slotAt_zero, slotAt_succ, stepA_move, stepA_assign, stepA_pick, stepA_buildSlice, stepA_load, stepA_binOp, stepA_fieldAddr, stepA_append, thenV_some, thenH_some, pickV_false, eval_tmp, eval_const, put_some, put_none, aBin_add, aBin_lss, aBin_gtr, absV_int, absV_bool, aField_eq, fieldGo_ptr, aLoad_eq, loadGo_one, aPlace_ptr, dropC_cells, Int.reduceNeg, Nat.reduceEqDiff, Nat.reduceAdd, Nat.reduceLeDiff, List.map_cons, List.map_nil, Nat.zero_add, List.length_cons, List.length_nil, List.drop_zero, List.drop_succ_cons, if_true, if_false, ft_69_1, lt_24, f8, f10, g1, g3, lit1i, q1, x4, hw1]
            refine hid_mk ⟨(v4, k + 1, rest.drop (dec rest 0 0).2.1, acc ++ [unz (dec rest 0 0).1]), ⟨f0, f7, rfl, rfl, rfl, ?_, hgo, by simp only; omega, ?_, mem_drop hb2 _⟩, by simp only; omega⟩
            · refine (ha3.step q2 q3 q4).conv ?_
              simp only [i64V, List.map_append, List.map_cons, List.map_nil]
            · simp only [List.length_append, List.length_drop, List.length_cons, List.length_nil]; omega
      · have d1 : decide ((k : Int) < (((dec bs 0 0).1 : Nat) : Int)) = false := by simp; omega
        rw [show (dec bs 0 0).1 - k = 0 by omega, goInts] at hgo
        have hG : getInts bs most = (acc, rest, 0) := by
          unfold getInts; rw [if_neg (by omega), if_neg hrange, ← hgo]; rfl
        simp only [wpA_region, wpA_seq, wpA_cond, wpA_exit, wpA_ret, condI_false, seqQ_normal, seqQ_exit, blkQ_exit, endI_mk, goE, andThen_exit, goI_out, goI_ops, opsA_nil, opsA_cons, stepA_move, stepA_assign, stepA_load, stepA_binOp, stepA_fieldAddr, thenV_some, eval_tmp, eval_const, put_some, aBin_lss, absV_int, aField_eq, fieldGo_ptr, aLoad_eq, loadGo_one, aPlace_ptr, dropC_cells, Int.reduceNeg, Nat.reduceEqDiff, Nat.reduceAdd, Nat.add_zero, Nat.zero_add, Nat.zero_le, List.length_cons, List.length_nil, List.drop_zero, if_true, if_false, ft_69_0, lt_63, f7, f8, f9, f10, g2, d1, retA_ret, Tryd.results36, resultsA_3]
        obtain ⟨h5, c5, k5⟩ := ha.cast (n := acc.length) (by rw [i64V_length, Nat.mul_one]) (by omega)
        exact hid_mk ⟨h5, by rw [hG]; exact Cast.tuple (CastL.cons c5 (CastL.refl _ _)), gk.trans' k5⟩
theorem ReadInts (bs : List Nat) (most : Int) (h : AHeap) (hb : ∀ b ∈ bs, b < 256) (hc : bs.length ≤ 2 ^ 40) (hm : -2 ^ 63 ≤ most ∧ most < 2 ^ 63) :
    Pure Tryd.prog 36 [.imm bs.length (bytesV bs), .int .i64 most] h (.tuple [.imm (getInts bs most).1.length (i64V (getInts bs most).1), .imm (getInts bs most).2.1.length (bytesV (getInts bs most).2.1), .int .i64 ((getInts bs most).2.2 : Nat)]) :=
  ReadIntsG bs most h hb (by omega) (.inl hc) hm
end Go.Proofs.YtjphnabogfiahaaDoor.Pk
