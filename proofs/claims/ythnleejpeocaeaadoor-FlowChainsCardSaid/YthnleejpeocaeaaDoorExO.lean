/-
  What functions of the program do, told of abstract states. Conditions: as each theorem says.
-/
import Derived.Test.YthnleejpeocaeaaDoorExN
namespace Go.Proofs.YthnleejpeocaeaaDoor.Pk
open Go Go.Proofs Go.Proofs.YthnleejpeocaeaaDoor.Ab
set_option linter.unusedVariables false
set_option linter.unusedSimpArgs false

theorem evO_clo (o : Option Int) : Clo (evO o) := by cases o <;> exact Clo.tuple (CloL.cons (Clo.int _ _) (CloL.cons (Clo.int _ _) CloL.nil))
set_option maxHeartbeats 2000000 in
set_option maxRecDepth 10000 in
theorem pValueR (rk rv rt acc : Int) (i1 : inR rk) (i2 : inR rv) (i3 : inR rt) (i4 : inR acc) : ∀ (d : Nat) (e : Ex) (h : AHeap), okX d e → OkE e → Pure Tryd.prog 25 [.agg (encE e), .agg [.int .i64 rk, .int .i64 rv, .int .i64 rt], .int .i64 acc] h (evO (valF rk rv rt acc d e))
  | 0, e, h, hok, _ => hok.zero.elim
  | d + 1, .mk o n ks, h, hok, hoe => by
    obtain ⟨hfit, hkids⟩ := hok.fits
    obtain ⟨hlen, ho1, ho2⟩ := fits_len hfit
    refine Pure.val (evO_clo _) ?_
    rw [encE_eq]
    refine SCalls.enterI (c := _) Tryd.func25 rfl (by kernel_rfl) (by simp) ?_
    have kp : ∀ a b, Keep h ((h.push a).push b) none_ := fun a b => (Keep.push _ _ _).then_push _
    by_cases h1 : o = 1
    · have c : (o == 1) = true := by simp [h1]
      simp only [wpA_region, wpA_seq, wpA_cond, wpA_block, wpA_ret, condI_true, seqQ_normal, seqQ_ret, blkQ_ret, endI_mk, goI_out, goI_ops, opsA_nil, opsA_cons, stepA_assign, stepA_box, stepA_load, stepA_binOp, stepA_fieldAddr, thenV_some, thenH_some, eval_tmp, eval_const, put_some, enterF_zero, enterF_succ, aBin_eql, absV_int, cells_agg, aField_eq, fieldGo_ptr, aLoad_eq, loadGo_one, aPlace_ptr, dropC_cells, aBox_eq, push_n, get_push2', Nat.reduceEqDiff, Nat.reduceAdd, Nat.reduceLeDiff, Option.map_some, Nat.add_zero, Nat.zero_add, Nat.zero_le, List.length_cons, List.length_nil, List.drop_zero, List.drop_succ_cons, if_true, if_false, ft_40_0, ft_40_1, lt_2, lt_3, c, retA_ret, Tryd.results25, resultsA_2]
      exact hid_mk ⟨by simp [valF, h1, evO], kp _ _⟩
    have c1 : (o == 1) = false := by simp [h1]
    by_cases h2 : o = 2
    · have c : (o == 2) = true := by simp [h2]
      simp only [wpA_region, wpA_seq, wpA_cond, wpA_block, wpA_ret, condI_true, condI_false, seqQ_normal, seqQ_ret, blkQ_ret, endI_mk, goI_out, goI_ops, opsA_nil, opsA_cons, stepA_assign, stepA_box, stepA_load, stepA_binOp, stepA_fieldAddr, thenV_some, thenH_some, eval_tmp, eval_const, put_some, enterF_zero, enterF_succ, aBin_eql, absV_int, cells_agg, aField_eq, fieldGo_ptr, aLoad_eq, loadGo_one, aPlace_ptr, dropC_cells, aBox_eq, push_n, get_push2, get_push2', Nat.reduceEqDiff, Nat.reduceAdd, Option.map_some, Nat.add_zero, Nat.zero_add, Nat.zero_le, List.length_cons, List.length_nil, List.drop_zero, if_true, if_false, ft_24_0, ft_40_0, lt_2, lt_3, c1, c, retA_ret, Tryd.results25, resultsA_2]
      exact hid_mk ⟨by simp [valF, h2, evO], kp _ _⟩
    have c2 : (o == 2) = false := by simp [h2]
    by_cases h3 : o = 3
    · have c : (o == 3) = true := by simp [h3]
      simp only [wpA_region, wpA_seq, wpA_cond, wpA_block, wpA_ret, condI_true, condI_false, seqQ_normal, seqQ_ret, blkQ_ret, endI_mk, goI_out, goI_ops, opsA_nil, opsA_cons, stepA_assign, stepA_box, stepA_load, stepA_binOp, stepA_fieldAddr, thenV_some, thenH_some, eval_tmp, eval_const, put_some, enterF_zero, enterF_succ, aBin_eql, absV_int, cells_agg, aField_eq, fieldGo_ptr, aLoad_eq, loadGo_one, aPlace_ptr, dropC_cells, aBox_eq, push_n, get_push2, get_push2', Nat.reduceEqDiff, Nat.reduceAdd, Nat.reduceLeDiff, Option.map_some, Nat.add_zero, Nat.zero_add, Nat.zero_le, List.length_cons, List.length_nil, List.drop_zero, List.drop_succ_cons, if_true, if_false, ft_24_1, ft_40_0, lt_2, lt_3, c1, c2, c, retA_ret, Tryd.results25, resultsA_2]
      exact hid_mk ⟨by simp [valF, h3, evO], kp _ _⟩
    have c3 : (o == 3) = false := by simp [h3]
    by_cases h4 : o = 4
    · have c : (o == 4) = true := by simp [h4]
      simp only [wpA_region, wpA_seq, wpA_cond, wpA_block, wpA_ret, condI_true, condI_false, seqQ_normal, seqQ_ret, blkQ_ret, endI_mk, goI_out, goI_ops, opsA_nil, opsA_cons, stepA_assign, stepA_box, stepA_load, stepA_binOp, stepA_fieldAddr, thenV_some, thenH_some, eval_tmp, eval_const, put_some, enterF_zero, enterF_succ, aBin_eql, absV_int, cells_agg, aField_eq, fieldGo_ptr, aLoad_eq, loadGo_one, aPlace_ptr, dropC_cells, aBox_eq, push_n, get_push2, get_push2', Nat.reduceEqDiff, Nat.reduceAdd, Nat.reduceLeDiff, Option.map_some, Nat.add_zero, Nat.zero_add, Nat.zero_le, List.length_cons, List.length_nil, List.drop_zero, List.drop_succ_cons, if_true, if_false, ft_24_2, ft_40_0, lt_2, lt_3, c1, c2, c3, c, retA_ret, Tryd.results25, resultsA_2]
      exact hid_mk ⟨by simp [valF, h4, evO], kp _ _⟩
    have c4 : (o == 4) = false := by simp [h4]
    by_cases h5 : o = 5
    · have c : (o == 5) = true := by simp [h5]
      simp only [wpA_region, wpA_seq, wpA_cond, wpA_block, wpA_ret, condI_true, condI_false, seqQ_normal, seqQ_ret, blkQ_ret, endI_mk, goI_out, goI_ops, opsA_nil, opsA_cons, stepA_move, stepA_assign, stepA_box, stepA_load, stepA_binOp, stepA_fieldAddr, thenV_some, thenH_some, eval_tmp, eval_const, put_some, enterF_zero, enterF_succ, aBin_eql, absV_int, cells_agg, aField_eq, fieldGo_ptr, aLoad_eq, loadGo_one, aPlace_ptr, dropC_cells, aBox_eq, push_n, get_push2', Nat.reduceEqDiff, Nat.reduceAdd, Option.map_some, Nat.add_zero, Nat.zero_add, Nat.zero_le, List.length_cons, List.length_nil, List.drop_zero, if_true, if_false, ft_40_0, lt_3, c1, c2, c3, c4, c, retA_ret, Tryd.results25, resultsA_2]
      exact hid_mk ⟨by simp [valF, h5, evO], kp _ _⟩
    have c5 : (o == 5) = false := by simp [h5]
    have lr : ∀ (A : Ex) (q : List V), loadGo (some (some 3)) (some (encE A ++ q)) = some (.agg (encE A)) := fun A q => load_row (encE_len A)
    have two : ∀ {A : Type} {l : List A} {k : Nat}, k < l.length → ∃ x, l[k]? = some x := fun hk => ⟨_, List.getElem?_eq_getElem hk⟩
    have hl : (if o = 14 then 1 else if o = 13 then 3 else 2) = ks.length := by
      have : o.toNat = 6 ∨ o.toNat = 7 ∨ o.toNat = 8 ∨ o.toNat = 9 ∨ o.toNat = 10 ∨ o.toNat = 11 ∨ o.toNat = 12 ∨ o.toNat = 13 ∨ o.toNat = 14 ∨ o.toNat = 15 ∨ o.toNat = 16 := by omega
      rcases this with q | q | q | q | q | q | q | q | q | q | q <;> rw [q] at hlen <;> simp [kidsN] at hlen <;> split <;> (try split) <;> omega
    have hl1 : 0 < ks.length := by rw [← hl]; split <;> (try split) <;> omega
    obtain ⟨A, hA⟩ := two hl1
    obtain ⟨r0, x0'⟩ := kid_ix hA
    have x0 : aIndexAddr Tryd.prog 38 (.imm ks.length (ks.flatMap encE)) (.int .i64 0) = some (.at (encE A ++ r0)) := x0'
    clear x0'
    have okA := hkids A (List.mem_of_getElem? hA)
    have oeA := hoe.kid A (List.mem_of_getElem? hA)
    have hrA := pValueR rk rv rt acc i1 i2 i3 i4 d A
    -- the first kid
    cases ha : valF rk rv rt acc d A with
    | none =>
      have hG : valF rk rv rt acc (d + 1) (.mk o n ks) = none := by
        by_cases h14 : o = 14
        · simp [valF, h14, hA, ha]
        by_cases h13 : o = 13
        · simp [valF, h13, hA, ha]
        simp [valF, h1, h2, h3, h4, h5, h14, h13, hA, ha]
      generalize ks.length = N at *
      generalize ks.flatMap encE = Cs at *
      simp only [wpA_skip, wpA_region, wpA_seq, wpA_cond, wpA_block, wpA_draw, condI_false, seqQ_normal, blkQ_normal, goI_out, goI_ops, opsA_nil, opsA_cons, stepA_assign, stepA_box, stepA_load, stepA_binOp, stepA_fieldAddr, thenV_some, thenH_some, eval_tmp, eval_const, put_some, enterF_zero, enterF_succ, aBin_eql, absV_int, cells_agg, aField_eq, fieldGo_ptr, aLoad_eq, loadGo_one, aPlace_ptr, dropC_cells, aBox_eq, push_n, get_push2', Nat.reduceEqDiff, Nat.reduceAdd, Option.map_some, Nat.add_zero, Nat.zero_add, Nat.zero_le, List.length_cons, List.length_nil, List.drop_zero, if_true, if_false, ft_40_0, lt_3, c1, c2, c3, c4, c5]
      refine SWp.drawnS none_ [] (.q 0 (.q 1 (.q 2 (.q 3 (.q 4 (.q 5 (.c 6 (.q 7 (.q 8 (.q 9 (.q 10 (.q 11 .done)))))))))))) (by kernel_rfl) (by kernel_rfl) (by kernel_rfl) ?_
      simp only [siI_q, sqI_some, mOk_none', implies_true, qI_nil, qI_cons, thenQ_some, q_move, q_load, q_fieldAddr, q_indexAddr, goI_mk, eval_tmp, eval_const, put_some, enterF_zero, enterF_succ, absV_int, aField_eq, fieldGo_ptr, aLoad_eq, loadGo_one, loadGo_row, aPlace_ptr, aPlace_at, dropC_cells, get_push2, get_push2', List.getElem?_cons_zero, List.getElem?_cons_succ, Nat.reduceEqDiff, Nat.reduceAdd, Nat.reduceLeDiff, Nat.zero_add, Nat.zero_le, List.length_cons, List.length_nil, List.drop_zero, List.drop_succ_cons, List.take_succ_cons, List.take_nil, true_and, if_true, if_false, Nat.le_refl, ft_40_2, lt_24, lt_38, lt_40, x0, lr]
      refine siI_c rfl rfl rfl (fun h' _ => hrA h' okA oeA) ?_
      simp only [siI_done, siI_q, sqI_some, mOk_none', implies_true, qI_nil, qI_cons, thenQ_some, q_move, q_assign, q_extract, wpA_region, wpA_seq, wpA_cond, wpA_ret, condI_true, seqQ_normal, seqQ_ret, endI_mk, goI_out, goI_ops, goI_mk, opsA_nil, opsA_cons, stepA_move, stepA_assign, stepA_binOp, thenV_some, extV_zero, extV_succ, eval_tmp, eval_const, put_some, enterF_succ, aBin_neq, absV_int, List.getElem?_cons_zero, List.getElem?_cons_succ, Int.reduceBNe, Nat.reduceEqDiff, true_and, if_true, if_false, ha, evO, retA_ret, Tryd.results25, resultsA_2]
      exact hid_mk ⟨by rw [hG]; rfl, kp _ _⟩
    | some a =>
      rw [ha] at hrA
      have iA : inR a := valF_inR i1 i2 i3 i4 oeA ha
      by_cases h14 : o = 14
      · have c : (o == 14) = true := by simp [h14]
        have hG : valF rk rv rt acc (d + 1) (.mk o n ks) = some (w64 (-a)) := by simp [valF, h14, hA, ha]
        have hneg : (0 : Int) - a = -a := by omega
        generalize ks.length = N at *
        generalize ks.flatMap encE = Cs at *
        simp only [wpA_skip, wpA_region, wpA_seq, wpA_cond, wpA_block, wpA_draw, condI_false, seqQ_normal, blkQ_normal, goI_out, goI_ops, opsA_nil, opsA_cons, stepA_assign, stepA_box, stepA_load, stepA_binOp, stepA_fieldAddr, thenV_some, thenH_some, eval_tmp, eval_const, put_some, enterF_zero, enterF_succ, aBin_eql, absV_int, cells_agg, aField_eq, fieldGo_ptr, aLoad_eq, loadGo_one, aPlace_ptr, dropC_cells, aBox_eq, push_n, get_push2', Nat.reduceEqDiff, Nat.reduceAdd, Option.map_some, Nat.add_zero, Nat.zero_add, Nat.zero_le, List.length_cons, List.length_nil, List.drop_zero, if_true, if_false, ft_40_0, lt_3, c1, c2, c3, c4, c5]
        refine SWp.drawnS none_ [] (.q 0 (.q 1 (.q 2 (.q 3 (.q 4 (.q 5 (.c 6 (.q 7 (.q 8 (.q 9 (.q 10 (.q 11 .done)))))))))))) (by kernel_rfl) (by kernel_rfl) (by kernel_rfl) ?_
        simp only [siI_q, sqI_some, mOk_none', implies_true, qI_nil, qI_cons, thenQ_some, q_move, q_load, q_fieldAddr, q_indexAddr, goI_mk, eval_tmp, eval_const, put_some, enterF_zero, enterF_succ, absV_int, aField_eq, fieldGo_ptr, aLoad_eq, loadGo_one, loadGo_row, aPlace_ptr, aPlace_at, dropC_cells, get_push2, get_push2', List.getElem?_cons_zero, List.getElem?_cons_succ, Nat.reduceEqDiff, Nat.reduceAdd, Nat.reduceLeDiff, Nat.zero_add, Nat.zero_le, List.length_cons, List.length_nil, List.drop_zero, List.drop_succ_cons, List.take_succ_cons, List.take_nil, true_and, if_true, if_false, Nat.le_refl, ft_40_2, lt_24, lt_38, lt_40, x0, lr]
        refine siI_c rfl rfl rfl (fun h' _ => hrA h' okA oeA) ?_
        simp only [siI_done, siI_q, sqI_some, mOk_none', implies_true, qI_nil, qI_cons, thenQ_some, q_move, q_assign, q_extract, wpA_skip, wpA_region, wpA_seq, wpA_cond, wpA_ret, condI_true, condI_false, seqQ_normal, seqQ_ret, endI_mk, goI_out, goI_ops, goI_mk, opsA_nil, opsA_cons, stepA_move, stepA_assign, stepA_load, stepA_binOp, stepA_fieldAddr, thenV_some, extV_zero, extV_succ, eval_tmp, eval_const, put_some, enterF_succ, aBin_sub, aBin_eql, aBin_neq, absV_int, aField_eq, fieldGo_ptr, aLoad_eq, loadGo_one, aPlace_ptr, dropC_cells, get_push2', List.getElem?_cons_zero, List.getElem?_cons_succ, bne_self_eq_false, Nat.reduceEqDiff, Nat.reduceAdd, Nat.add_zero, Nat.zero_add, Nat.zero_le, List.length_cons, List.length_nil, List.drop_zero, true_and, if_true, if_false, ft_40_0, lt_3, evO, c, hneg, retA_ret, Tryd.results25, resultsA_2]
        exact hid_mk ⟨by rw [hG]; rfl, kp _ _⟩
      have c14 : (o == 14) = false := by simp [h14]
      rw [if_neg h14] at hl
      have hl2 : 1 < ks.length := by rw [← hl]; split <;> omega
      obtain ⟨B, hB⟩ := two hl2
      obtain ⟨r1, x1'⟩ := kid_ix hB
      have x1 : aIndexAddr Tryd.prog 38 (.imm ks.length (ks.flatMap encE)) (.int .i64 1) = some (.at (encE B ++ r1)) := x1'
      clear x1'
      have okB := hkids B (List.mem_of_getElem? hB)
      have oeB := hoe.kid B (List.mem_of_getElem? hB)
      have hrB := pValueR rk rv rt acc i1 i2 i3 i4 d B
      by_cases h13 : o = 13
      · have c : (o == 13) = true := by simp [h13]
        rw [if_pos h13] at hl
        obtain ⟨C, hC⟩ := two (show 2 < ks.length by omega)
        obtain ⟨r2, x2'⟩ := kid_ix hC
        have x2 : aIndexAddr Tryd.prog 38 (.imm ks.length (ks.flatMap encE)) (.int .i64 2) = some (.at (encE C ++ r2)) := x2'
        clear x2'
        have okC := hkids C (List.mem_of_getElem? hC)
        have oeC := hoe.kid C (List.mem_of_getElem? hC)
        have hrC := pValueR rk rv rt acc i1 i2 i3 i4 d C
        have hG : valF rk rv rt acc (d + 1) (.mk o n ks) = if a = 0 then valF rk rv rt acc d C else valF rk rv rt acc d B := by simp [valF, h13, hA, hB, hC, ha]
        generalize ks.length = N at *
        generalize ks.flatMap encE = Cs at *
        by_cases ha0 : a = 0
        · have q : (a == 0) = true := by simp [ha0]
          rw [if_pos ha0] at hG
          simp only [wpA_skip, wpA_region, wpA_seq, wpA_cond, wpA_block, wpA_draw, condI_false, seqQ_normal, blkQ_normal, goI_out, goI_ops, opsA_nil, opsA_cons, stepA_assign, stepA_box, stepA_load, stepA_binOp, stepA_fieldAddr, thenV_some, thenH_some, eval_tmp, eval_const, put_some, enterF_zero, enterF_succ, aBin_eql, absV_int, cells_agg, aField_eq, fieldGo_ptr, aLoad_eq, loadGo_one, aPlace_ptr, dropC_cells, aBox_eq, push_n, get_push2', Nat.reduceEqDiff, Nat.reduceAdd, Option.map_some, Nat.add_zero, Nat.zero_add, Nat.zero_le, List.length_cons, List.length_nil, List.drop_zero, if_true, if_false, ft_40_0, lt_3, c1, c2, c3, c4, c5]
          refine SWp.drawnS none_ [] (.q 0 (.q 1 (.q 2 (.q 3 (.q 4 (.q 5 (.c 6 (.q 7 (.q 8 (.q 9 (.q 10 (.q 11 .done)))))))))))) (by kernel_rfl) (by kernel_rfl) (by kernel_rfl) ?_
          simp only [siI_q, sqI_some, mOk_none', implies_true, qI_nil, qI_cons, thenQ_some, q_move, q_load, q_fieldAddr, q_indexAddr, goI_mk, eval_tmp, eval_const, put_some, enterF_zero, enterF_succ, absV_int, aField_eq, fieldGo_ptr, aLoad_eq, loadGo_one, loadGo_row, aPlace_ptr, aPlace_at, dropC_cells, get_push2, get_push2', List.getElem?_cons_zero, List.getElem?_cons_succ, Nat.reduceEqDiff, Nat.reduceAdd, Nat.reduceLeDiff, Nat.zero_add, Nat.zero_le, List.length_cons, List.length_nil, List.drop_zero, List.drop_succ_cons, List.take_succ_cons, List.take_nil, true_and, if_true, if_false, Nat.le_refl, ft_40_2, lt_24, lt_38, lt_40, x0, lr]
          refine siI_c rfl rfl rfl (fun h' _ => hrA h' okA oeA) ?_
          simp only [siI_done, siI_q, sqI_some, mOk_none', implies_true, qI_nil, qI_cons, thenQ_some, q_move, q_assign, q_extract, wpA_skip, wpA_region, wpA_seq, wpA_cond, wpA_draw, condI_true, condI_false, seqQ_normal, goI_out, goI_ops, goI_mk, opsA_nil, opsA_cons, opsA_guardS, gvI_same, slotAt_zero, slotAt_succ, stepA_move, stepA_pick, stepA_load, stepA_binOp, stepA_fieldAddr, thenV_some, pickV_true, extV_zero, extV_succ, eval_tmp, eval_const, put_some, enterF_succ, aBin_eql, aBin_neq, absV_int, absV_bool, aField_eq, fieldGo_ptr, aLoad_eq, loadGo_one, aPlace_ptr, dropC_cells, get_push2', List.getElem?_cons_zero, List.getElem?_cons_succ, bne_self_eq_false, Nat.reduceEqDiff, Nat.reduceAdd, Nat.add_zero, Nat.zero_add, Nat.zero_le, List.length_cons, List.length_nil, List.drop_zero, true_and, if_true, if_false, ft_40_0, lt_3, evO, c14, c, q]
          refine SWp.drawnS none_ [] (.q 0 (.q 1 (.q 2 (.q 3 (.q 4 (.q 5 (.c 6 (.q 7 (.q 8 (.q 9 (.q 10 .done))))))))))) (by kernel_rfl) (by kernel_rfl) (by kernel_rfl) ?_
          simp only [siI_q, sqI_some, mOk_none', implies_true, qI_nil, qI_cons, thenQ_some, q_move, q_load, q_fieldAddr, q_indexAddr, goI_mk, eval_tmp, eval_const, put_some, enterF_zero, enterF_succ, absV_int, aField_eq, fieldGo_ptr, aLoad_eq, loadGo_one, loadGo_row, aPlace_ptr, aPlace_at, dropC_cells, get_push2, get_push2', List.getElem?_cons_zero, List.getElem?_cons_succ, Nat.reduceEqDiff, Nat.reduceAdd, Nat.reduceLeDiff, Nat.zero_add, Nat.zero_le, List.length_cons, List.length_nil, List.drop_zero, List.drop_succ_cons, List.take_succ_cons, List.take_nil, true_and, if_true, if_false, Nat.le_refl, ft_40_2, lt_24, lt_38, lt_40, x2, lr]
          refine siI_c rfl rfl rfl (fun h' _ => hrC h' okC oeC) ?_
          cases hc : valF rk rv rt acc d C <;>
          · simp only [siI_done, siI_q, sqI_some, mOk_none', implies_true, qI_nil, qI_cons, thenQ_some, q_assign, q_extract, wpA_ret, seqQ_normal, seqQ_ret, endI_mk, goI_out, goI_mk, extV_zero, extV_succ, eval_tmp, put_some, enterF_succ, List.getElem?_cons_zero, List.getElem?_cons_succ, Nat.reduceEqDiff, true_and, if_true, if_false, evO, retA_ret, Tryd.results25, resultsA_2]
            exact hid_mk ⟨by rw [hG, hc]; rfl, kp _ _⟩
        · have q : (a == 0) = false := by simp [ha0]
          rw [if_neg ha0] at hG
          simp only [wpA_skip, wpA_region, wpA_seq, wpA_cond, wpA_block, wpA_draw, condI_false, seqQ_normal, blkQ_normal, goI_out, goI_ops, opsA_nil, opsA_cons, stepA_assign, stepA_box, stepA_load, stepA_binOp, stepA_fieldAddr, thenV_some, thenH_some, eval_tmp, eval_const, put_some, enterF_zero, enterF_succ, aBin_eql, absV_int, cells_agg, aField_eq, fieldGo_ptr, aLoad_eq, loadGo_one, aPlace_ptr, dropC_cells, aBox_eq, push_n, get_push2', Nat.reduceEqDiff, Nat.reduceAdd, Option.map_some, Nat.add_zero, Nat.zero_add, Nat.zero_le, List.length_cons, List.length_nil, List.drop_zero, if_true, if_false, ft_40_0, lt_3, c1, c2, c3, c4, c5]
          refine SWp.drawnS none_ [] (.q 0 (.q 1 (.q 2 (.q 3 (.q 4 (.q 5 (.c 6 (.q 7 (.q 8 (.q 9 (.q 10 (.q 11 .done)))))))))))) (by kernel_rfl) (by kernel_rfl) (by kernel_rfl) ?_
          simp only [siI_q, sqI_some, mOk_none', implies_true, qI_nil, qI_cons, thenQ_some, q_move, q_load, q_fieldAddr, q_indexAddr, goI_mk, eval_tmp, eval_const, put_some, enterF_zero, enterF_succ, absV_int, aField_eq, fieldGo_ptr, aLoad_eq, loadGo_one, loadGo_row, aPlace_ptr, aPlace_at, dropC_cells, get_push2, get_push2', List.getElem?_cons_zero, List.getElem?_cons_succ, Nat.reduceEqDiff, Nat.reduceAdd, Nat.reduceLeDiff, Nat.zero_add, Nat.zero_le, List.length_cons, List.length_nil, List.drop_zero, List.drop_succ_cons, List.take_succ_cons, List.take_nil, true_and, if_true, if_false, Nat.le_refl, ft_40_2, lt_24, lt_38, lt_40, x0, lr]
          refine siI_c rfl rfl rfl (fun h' _ => hrA h' okA oeA) ?_
          simp only [siI_done, siI_q, sqI_some, mOk_none', implies_true, qI_nil, qI_cons, thenQ_some, q_move, q_assign, q_extract, wpA_skip, wpA_region, wpA_seq, wpA_cond, wpA_draw, condI_false, seqQ_normal, goI_out, goI_ops, goI_mk, opsA_nil, opsA_cons, opsA_guardS, gvI_same, slotAt_zero, slotAt_succ, stepA_move, stepA_pick, stepA_load, stepA_binOp, stepA_fieldAddr, thenV_some, pickV_true, extV_zero, extV_succ, eval_tmp, eval_const, put_some, enterF_succ, aBin_eql, aBin_neq, absV_int, absV_bool, aField_eq, fieldGo_ptr, aLoad_eq, loadGo_one, aPlace_ptr, dropC_cells, get_push2', List.getElem?_cons_zero, List.getElem?_cons_succ, bne_self_eq_false, Nat.reduceEqDiff, Nat.reduceAdd, Nat.add_zero, Nat.zero_add, Nat.zero_le, List.length_cons, List.length_nil, List.drop_zero, true_and, if_true, if_false, ft_40_0, lt_3, evO, c14, c, q]
          refine SWp.drawnS none_ [] (.q 0 (.q 1 (.q 2 (.q 3 (.q 4 (.q 5 (.c 6 (.q 7 (.q 8 (.q 9 (.q 10 (.q 11 .done)))))))))))) (by kernel_rfl) (by kernel_rfl) (by kernel_rfl) ?_
          simp only [siI_q, sqI_some, mOk_none', implies_true, qI_nil, qI_cons, thenQ_some, q_move, q_load, q_fieldAddr, q_indexAddr, goI_mk, eval_tmp, eval_const, put_some, enterF_zero, enterF_succ, absV_int, aField_eq, fieldGo_ptr, aLoad_eq, loadGo_one, loadGo_row, aPlace_ptr, aPlace_at, dropC_cells, get_push2, get_push2', List.getElem?_cons_zero, List.getElem?_cons_succ, Nat.reduceEqDiff, Nat.reduceAdd, Nat.reduceLeDiff, Nat.zero_add, Nat.zero_le, List.length_cons, List.length_nil, List.drop_zero, List.drop_succ_cons, List.take_succ_cons, List.take_nil, true_and, if_true, if_false, Nat.le_refl, ft_40_2, lt_24, lt_38, lt_40, x1, lr]
          refine siI_c rfl rfl rfl (fun h' _ => hrB h' okB oeB) ?_
          cases hc : valF rk rv rt acc d B <;>
          · simp only [siI_done, siI_q, sqI_some, mOk_none', implies_true, qI_nil, qI_cons, thenQ_some, q_move, q_assign, q_extract, wpA_region, wpA_seq, wpA_cond, wpA_ret, condI_true, seqQ_normal, seqQ_ret, endI_mk, goI_out, goI_ops, goI_mk, opsA_nil, opsA_cons, opsA_guardS, gvI_same, gvI_tf, slotAt_zero, slotAt_succ, stepA_move, stepA_assign, stepA_pick, stepA_load, stepA_binOp, stepA_fieldAddr, thenV_some, pickV_true, pickV_false, extV_zero, extV_succ, eval_tmp, eval_const, put_some, enterF_succ, aBin_eql, aBin_neq, absV_int, absV_bool, aField_eq, fieldGo_ptr, aLoad_eq, loadGo_one, aPlace_ptr, dropC_cells, get_push2', List.getElem?_cons_zero, List.getElem?_cons_succ, Int.reduceBNe, bne_self_eq_false, Nat.reduceEqDiff, Nat.reduceAdd, Nat.add_zero, Nat.zero_add, Nat.zero_le, List.length_cons, List.length_nil, List.drop_zero, true_and, if_true, if_false, ft_40_0, lt_3, evO, c, retA_ret, Tryd.results25, resultsA_2]
            exact hid_mk ⟨by rw [hG, hc]; rfl, kp _ _⟩
      have c13 : (o == 13) = false := by simp [h13]
      have hG : valF rk rv rt acc (d + 1) (.mk o n ks) = (valF rk rv rt acc d B).bind fun b => combX o a b := by simp [valF, h1, h2, h3, h4, h5, h14, h13, hA, hB, ha]
      generalize ks.length = N at *
      generalize ks.flatMap encE = Cs at *
      simp only [wpA_skip, wpA_region, wpA_seq, wpA_cond, wpA_block, wpA_draw, condI_false, seqQ_normal, blkQ_normal, goI_out, goI_ops, opsA_nil, opsA_cons, stepA_assign, stepA_box, stepA_load, stepA_binOp, stepA_fieldAddr, thenV_some, thenH_some, eval_tmp, eval_const, put_some, enterF_zero, enterF_succ, aBin_eql, absV_int, cells_agg, aField_eq, fieldGo_ptr, aLoad_eq, loadGo_one, aPlace_ptr, dropC_cells, aBox_eq, push_n, get_push2', Nat.reduceEqDiff, Nat.reduceAdd, Option.map_some, Nat.add_zero, Nat.zero_add, Nat.zero_le, List.length_cons, List.length_nil, List.drop_zero, if_true, if_false, ft_40_0, lt_3, c1, c2, c3, c4, c5]
      refine SWp.drawnS none_ [] (.q 0 (.q 1 (.q 2 (.q 3 (.q 4 (.q 5 (.c 6 (.q 7 (.q 8 (.q 9 (.q 10 (.q 11 .done)))))))))))) (by kernel_rfl) (by kernel_rfl) (by kernel_rfl) ?_
      simp only [siI_q, sqI_some, mOk_none', implies_true, qI_nil, qI_cons, thenQ_some, q_move, q_load, q_fieldAddr, q_indexAddr, goI_mk, eval_tmp, eval_const, put_some, enterF_zero, enterF_succ, absV_int, aField_eq, fieldGo_ptr, aLoad_eq, loadGo_one, loadGo_row, aPlace_ptr, aPlace_at, dropC_cells, get_push2, get_push2', List.getElem?_cons_zero, List.getElem?_cons_succ, Nat.reduceEqDiff, Nat.reduceAdd, Nat.reduceLeDiff, Nat.zero_add, Nat.zero_le, List.length_cons, List.length_nil, List.drop_zero, List.drop_succ_cons, List.take_succ_cons, List.take_nil, true_and, if_true, if_false, Nat.le_refl, ft_40_2, lt_24, lt_38, lt_40, x0, lr]
      refine siI_c rfl rfl rfl (fun h' _ => hrA h' okA oeA) ?_
      simp only [siI_done, siI_q, sqI_some, mOk_none', implies_true, qI_nil, qI_cons, thenQ_some, q_move, q_assign, q_extract, wpA_skip, wpA_region, wpA_seq, wpA_cond, wpA_draw, condI_false, seqQ_normal, goI_out, goI_ops, goI_mk, opsA_nil, opsA_cons, opsA_guardS, gvI_ft, slotAt_zero, slotAt_succ, stepA_move, stepA_pick, stepA_load, stepA_binOp, stepA_fieldAddr, thenV_some, pickV_false, extV_zero, extV_succ, eval_tmp, eval_const, put_some, enterF_succ, aBin_eql, aBin_neq, absV_int, absV_bool, aField_eq, fieldGo_ptr, aLoad_eq, loadGo_one, aPlace_ptr, dropC_cells, get_push2', List.getElem?_cons_zero, List.getElem?_cons_succ, bne_self_eq_false, Nat.reduceEqDiff, Nat.reduceAdd, Nat.add_zero, Nat.zero_add, Nat.zero_le, List.length_cons, List.length_nil, List.drop_zero, true_and, if_true, if_false, ft_40_0, lt_3, evO, c14, c13]
      refine SWp.drawnS none_ [] (.q 0 (.q 1 (.q 2 (.q 3 (.q 4 (.q 5 (.c 6 (.q 7 (.q 8 (.q 9 (.q 10 (.q 11 .done)))))))))))) (by kernel_rfl) (by kernel_rfl) (by kernel_rfl) ?_
      simp only [siI_q, sqI_some, mOk_none', implies_true, qI_nil, qI_cons, thenQ_some, q_move, q_load, q_fieldAddr, q_indexAddr, goI_mk, eval_tmp, eval_const, put_some, enterF_zero, enterF_succ, absV_int, aField_eq, fieldGo_ptr, aLoad_eq, loadGo_one, loadGo_row, aPlace_ptr, aPlace_at, dropC_cells, get_push2, get_push2', List.getElem?_cons_zero, List.getElem?_cons_succ, Nat.reduceEqDiff, Nat.reduceAdd, Nat.reduceLeDiff, Nat.zero_add, Nat.zero_le, List.length_cons, List.length_nil, List.drop_zero, List.drop_succ_cons, List.take_succ_cons, List.take_nil, true_and, if_true, if_false, Nat.le_refl, ft_40_2, lt_24, lt_38, lt_40, x1, lr]
      refine siI_c rfl rfl rfl (fun h' _ => hrB h' okB oeB) ?_
      cases hb : valF rk rv rt acc d B with
      | none =>
        simp only [siI_done, siI_q, sqI_some, mOk_none', implies_true, qI_nil, qI_cons, thenQ_some, q_move, q_assign, q_extract, wpA_region, wpA_seq, wpA_cond, wpA_ret, condI_true, seqQ_normal, seqQ_ret, endI_mk, goI_out, goI_ops, goI_mk, opsA_nil, opsA_cons, opsA_guardS, gvI_tf, slotAt_zero, slotAt_succ, stepA_move, stepA_assign, stepA_pick, stepA_binOp, thenV_some, pickV_true, extV_zero, extV_succ, eval_tmp, eval_const, put_some, enterF_succ, aBin_neq, absV_int, absV_bool, List.getElem?_cons_zero, List.getElem?_cons_succ, Int.reduceBNe, Nat.reduceEqDiff, true_and, if_true, if_false, evO, retA_ret, Tryd.results25, resultsA_2]
        exact hid_mk ⟨by rw [hG, hb]; rfl, kp _ _⟩
      | some b =>
        simp only [siI_done, siI_q, sqI_some, mOk_none', implies_true, qI_nil, qI_cons, thenQ_some, q_move, q_assign, q_extract, wpA_skip, wpA_region, wpA_seq, wpA_cond, condI_false, seqQ_normal, goI_out, goI_ops, goI_mk, opsA_nil, opsA_cons, opsA_guardS, gvI_same, slotAt_zero, slotAt_succ, stepA_move, stepA_pick, stepA_load, stepA_binOp, stepA_fieldAddr, stepA_call, thenV_some, pickV_false, extV_zero, extV_succ, eval_tmp, eval_const, put_some, enterF_succ, aBin_eql, aBin_neq, absV_int, absV_bool, aField_eq, fieldGo_ptr, aLoad_eq, loadGo_one, aPlace_ptr, dropC_cells, get_push2', List.getElem?_cons_zero, List.getElem?_cons_succ, bne_self_eq_false, Nat.reduceEqDiff, Nat.reduceAdd, List.map_cons, List.map_nil, Nat.add_zero, Nat.zero_add, Nat.zero_le, List.length_cons, List.length_nil, List.drop_zero, true_and, if_true, if_false, ft_40_0, lt_3, evO, c13]
        refine callI_pure cal30 (pTwoR04 o a b iA _) ?_
        cases hc : combX o a b <;>
        · simp only [wpA_ret, seqQ_normal, endI_mk, goI_out, goI_ops, opsA_nil, opsA_cons, stepA_assign, stepA_extract, thenV_some, extV_zero, extV_succ, eval_tmp, put_some, enterF_succ, Nat.reduceEqDiff, if_true, if_false, evO, retA_ret, Tryd.results25, resultsA_2]
          exact hid_mk ⟨by rw [hG, hb]; simp [hc, evO], kp _ _⟩

/-- What Eval answers. -/
def evR (rk rv rt acc : Int) (e : Ex) : V := if mayX e = true then evO (valF rk rv rt acc 16 e) else .tuple [.int .i64 0, .int .i64 1]
theorem mayX_ok {e : Ex} (hm : mayX e = true) : okX 16 e := by
  unfold mayX at hm
  obtain ⟨c, hc⟩ := Option.isSome_iff_exists.1 hm
  exact ⟨64, c, hc⟩
theorem pEvalR (e : Ex) (hoe : OkE e) (rk rv rt acc : Int) (i1 : inR rk) (i2 : inR rv) (i3 : inR rt) (i4 : inR acc) (h : AHeap) : Pure Tryd.prog 21 [.agg (encE e), .agg [.int .i64 rk, .int .i64 rv, .int .i64 rt], .int .i64 acc] h (evR rk rv rt acc e) := by
  refine Pure.val (by unfold evR; split; exact evO_clo _; exact Clo.tuple (CloL.cons (Clo.int _ _) (CloL.cons (Clo.int _ _) CloL.nil))) ?_
  refine SCalls.enterI (c := _) Tryd.func21 rfl (by kernel_rfl) (by simp) ?_
  have hc : (V.agg (encE e)).cells = some (encE e) := rfl
  have hdr : dropC (AObj.cells (encE e) 40 none) 0 = some (encE e) := by cases e; rfl
  have hld : loadGo (some (some 3)) (some (encE e)) = some (.agg (encE e)) := by cases e; rfl
  simp only [wpA_region, wpA_seq, seqQ_normal, goI_out, goI_ops, opsA_nil, opsA_cons, stepA_assign, stepA_box, stepA_load, stepA_call, thenV_some, thenH_some, eval_tmp, eval_const, put_some, enterF_zero, enterF_succ, absV_int, cells_agg, aLoad_eq, aPlace_ptr, aBox_eq, push_n, get_push2', Nat.reduceEqDiff, List.map_cons, List.map_nil, Option.map_some, if_true, if_false, lt_40, hc, hdr, hld]
  refine callI_pure cal24 (pMayR e hoe _) ?_
  cases hm : mayX e with
  | false =>
    simp only [wpA_region, wpA_seq, wpA_cond, wpA_ret, condI_true, seqQ_normal, seqQ_ret, endI_mk, goI_out, goI_ops, opsA_nil, opsA_cons, stepA_assign, stepA_unOp, thenV_some, eval_tmp, eval_const, put_some, enterF_succ, aUn_not, absV_int, Nat.reduceEqDiff, if_true, if_false, Bool.not_false, retA_ret, Tryd.results21, resultsA_2]
    exact hid_mk ⟨by simp [evR, hm], (Keep.push _ _ _).then_push _⟩
  | true =>
    simp only [wpA_skip, wpA_region, wpA_seq, wpA_cond, condI_false, seqQ_normal, goI_out, goI_ops, opsA_nil, opsA_cons, stepA_move, stepA_load, stepA_unOp, stepA_call, thenV_some, eval_tmp, put_some, enterF_zero, enterF_succ, aUn_not, aLoad_eq, loadGo_row, aPlace_ptr, dropC_cells, get_push2, get_push2', Nat.reduceEqDiff, Nat.reduceAdd, List.map_cons, List.map_nil, Nat.zero_add, Nat.zero_le, List.length_cons, List.length_nil, List.drop_zero, List.take_succ_cons, List.take_nil, if_true, if_false, Bool.not_true, Nat.le_refl, lt_24, lt_40, hdr, hld]
    refine callI_pure cal25 (pValueR rk rv rt acc i1 i2 i3 i4 16 e _ (mayX_ok hm) hoe) ?_
    cases hv : valF rk rv rt acc 16 e <;>
    · simp only [wpA_ret, seqQ_normal, endI_mk, goI_out, goI_ops, opsA_nil, opsA_cons, stepA_assign, stepA_extract, thenV_some, extV_zero, extV_succ, eval_tmp, put_some, enterF_succ, Nat.reduceEqDiff, if_true, if_false, evO, retA_ret, Tryd.results21, resultsA_2]
      exact hid_mk ⟨by simp [evR, hm, hv, evO], (Keep.push _ _ _).then_push _⟩
theorem pEvalX (e : Ex) (rk rv rt acc : Int) (h : AHeap) (hg : KG h) : Pure Tryd.prog 14 [.agg (encE e), .agg [.int .i64 rk, .int .i64 rv, .int .i64 rt], .int .i64 acc] h (evR rk rv rt acc e) := by
  have := pEval e rk rv rt acc h hg
  unfold evR
  cases hm : mayX e with
  | false => rw [hm] at this; exact this
  | true =>
    rw [hm] at this
    cases hv : valF rk rv rt acc 16 e <;> (rw [hv] at this; exact this)
end Go.Proofs.YthnleejpeocaeaaDoor.Pk
