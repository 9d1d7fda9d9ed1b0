/-
  What functions of the program do, told of abstract states. Conditions: as each theorem says.
-/
import Derived.Test.YtpjfhfmbhjghcaaGreatDoorExC
namespace Go.Proofs.YtpjfhfmbhjghcaaGreatDoor.Pk
open Go Go.Proofs Go.Proofs.YtpjfhfmbhjghcaaGreatDoor.Ab
set_option linter.unusedVariables false
set_option linter.unusedSimpArgs false

def valF (rk rv rt acc : Int) : Nat → Ex → Option Int
  | 0, _ => none
  | d + 1, .mk o n ks =>
    if o = 1 then some n else if o = 2 then some rk else if o = 3 then some rv else if o = 4 then some rt else if o = 5 then some acc
    else if o = 14 then ((ks[0]?).bind (valF rk rv rt acc d)).map fun a => w64 (-a)
    else if o = 13 then ((ks[0]?).bind (valF rk rv rt acc d)).bind fun a => if a = 0 then (ks[2]?).bind (valF rk rv rt acc d) else (ks[1]?).bind (valF rk rv rt acc d)
    else ((ks[0]?).bind (valF rk rv rt acc d)).bind fun a => ((ks[1]?).bind (valF rk rv rt acc d)).bind fun b => combX o a b

/-- It may be, within so many levels. -/
def okX (d : Nat) (e : Ex) : Prop := ∃ room c, cnt d room e = some c
theorem cntL_mem {f : Nat → Ex → Option Nat} {room : Nat} : ∀ {m : Nat} {l : List Ex} {c : Nat}, cntL f room m l = some c → ∀ k ∈ l, ∃ q c, f q k = some c
  | m, [], c, h, k, hk => by simp at hk
  | m, a :: r, c, h, k, hk => by
    unfold cntL at h
    split at h
    · rename_i d hd
      rcases List.mem_cons.1 hk with rfl | hk
      · exact ⟨_, _, hd⟩
      · exact cntL_mem h k hk
    · cases h
theorem okX.fits {d : Nat} {e : Ex} (h : okX (d + 1) e) : fitsX e = true ∧ ∀ k ∈ e.ks, okX d k := by
  obtain ⟨room, c, h⟩ := h
  unfold cnt at h
  split at h
  · cases h
  · rename_i hn
    refine ⟨?_, fun k hk => cntL_mem h k hk⟩
    cases hf : fitsX e <;> simp_all
theorem okX.zero {e : Ex} (h : okX 0 e) : False := by
  obtain ⟨room, c, h⟩ := h
  simp [cnt] at h
theorem kid_ix {ks : List Ex} {k : Nat} {A : Ex} (h : ks[k]? = some A) : ∃ r, aIndexAddr Tryz.prog 25 (.imm ks.length (ks.flatMap encE)) (.int .i64 (k : Int)) = some (.at (encE A ++ r)) :=
  rows_at encE_len rfl h ss_25
theorem fits_len {o n : Int} {ks : List Ex} (h : fitsX (.mk o n ks) = true) : (ks.length : Int) = kidsN.getD o.toNat 0 ∧ 1 ≤ o ∧ o ≤ 16 := by
  simp only [fitsX, Bool.and_eq_true, Bool.or_eq_true, decide_eq_true_eq] at h
  exact ⟨h.2.1, h.1⟩

set_option maxHeartbeats 2000000 in
set_option maxRecDepth 10000 in
theorem eValue (rk rv rt acc : Int) : ∀ (d : Nat) (e : Ex) (h : AHeap), okX d e → PureE Tryz.prog 79 [.agg (encE e), .agg [.int .i64 rk, .int .i64 rv, .int .i64 rt], .int .i64 acc] h (iV (valF rk rv rt acc d e))
  | 0, e, h, hok => hok.zero.elim
  | d + 1, .mk o n ks, h, hok => by
    obtain ⟨hfit, hkids⟩ := hok.fits
    obtain ⟨hlen, ho1, ho2⟩ := fits_len hfit
    refine PureE.of _ (iV_clo _) ?_
    rw [encE_eq]
    refine SCallsE.enterI (c := _) Tryz.func79 rfl (by kernel_rfl) (by simp) ?_
    have kp : ∀ a b, Keep h ((h.push a).push b) none_ := fun a b => (Keep.push _ _ _).then_push _
    by_cases h1 : o = 1
    · have c : (o == 1) = true := by simp [h1]
      simp only [wpA_region, wpA_seq, wpA_cond, wpA_block, wpA_ret, condI_true, seqQ_normal, seqQ_ret, blkQ_ret, endI_mk, goI_out, goI_ops, opsA_nil, opsA_cons, stepA_assign, stepA_box, stepA_load, stepA_binOp, stepA_fieldAddr, thenV_some, thenH_some, eval_tmp, eval_const, put_some, enterF_zero, enterF_succ, aBin_eql, absV_int, cells_agg, aField_eq, fieldGo_ptr, aLoad_eq, loadGo_one, aPlace_ptr, dropC_cells, aBox_eq, push_n, get_push2', Nat.reduceEqDiff, Nat.reduceAdd, Nat.reduceLeDiff, Option.map_some, Nat.add_zero, Nat.zero_add, Nat.zero_le, List.length_cons, List.length_nil, List.drop_zero, List.drop_succ_cons, if_true, if_false, ft_27_0, ft_27_1, lt_2, lt_3, c, retA_ret, Tryz.results79, resultsA_1]
      exact hid_mk ⟨by simp [valF, h1, iV], kp _ _⟩
    have c1 : (o == 1) = false := by simp [h1]
    by_cases h2 : o = 2
    · have c : (o == 2) = true := by simp [h2]
      simp only [wpA_region, wpA_seq, wpA_cond, wpA_block, wpA_ret, condI_true, condI_false, seqQ_normal, seqQ_ret, blkQ_ret, endI_mk, goI_out, goI_ops, opsA_nil, opsA_cons, stepA_assign, stepA_box, stepA_load, stepA_binOp, stepA_fieldAddr, thenV_some, thenH_some, eval_tmp, eval_const, put_some, enterF_zero, enterF_succ, aBin_eql, absV_int, cells_agg, aField_eq, fieldGo_ptr, aLoad_eq, loadGo_one, aPlace_ptr, dropC_cells, aBox_eq, push_n, get_push2, get_push2', Nat.reduceEqDiff, Nat.reduceAdd, Option.map_some, Nat.add_zero, Nat.zero_add, Nat.zero_le, List.length_cons, List.length_nil, List.drop_zero, if_true, if_false, ft_27_0, ft_38_0, lt_2, lt_3, c1, c, retA_ret, Tryz.results79, resultsA_1]
      exact hid_mk ⟨by simp [valF, h2, iV], kp _ _⟩
    have c2 : (o == 2) = false := by simp [h2]
    by_cases h3 : o = 3
    · have c : (o == 3) = true := by simp [h3]
      simp only [wpA_region, wpA_seq, wpA_cond, wpA_block, wpA_ret, condI_true, condI_false, seqQ_normal, seqQ_ret, blkQ_ret, endI_mk, goI_out, goI_ops, opsA_nil, opsA_cons, stepA_assign, stepA_box, stepA_load, stepA_binOp, stepA_fieldAddr, thenV_some, thenH_some, eval_tmp, eval_const, put_some, enterF_zero, enterF_succ, aBin_eql, absV_int, cells_agg, aField_eq, fieldGo_ptr, aLoad_eq, loadGo_one, aPlace_ptr, dropC_cells, aBox_eq, push_n, get_push2, get_push2', Nat.reduceEqDiff, Nat.reduceAdd, Nat.reduceLeDiff, Option.map_some, Nat.add_zero, Nat.zero_add, Nat.zero_le, List.length_cons, List.length_nil, List.drop_zero, List.drop_succ_cons, if_true, if_false, ft_27_0, ft_38_1, lt_2, lt_3, c1, c2, c, retA_ret, Tryz.results79, resultsA_1]
      exact hid_mk ⟨by simp [valF, h3, iV], kp _ _⟩
    have c3 : (o == 3) = false := by simp [h3]
    by_cases h4 : o = 4
    · have c : (o == 4) = true := by simp [h4]
      simp only [wpA_region, wpA_seq, wpA_cond, wpA_block, wpA_ret, condI_true, condI_false, seqQ_normal, seqQ_ret, blkQ_ret, endI_mk, goI_out, goI_ops, opsA_nil, opsA_cons, stepA_assign, stepA_box, stepA_load, stepA_binOp, stepA_fieldAddr, thenV_some, thenH_some, eval_tmp, eval_const, put_some, enterF_zero, enterF_succ, aBin_eql, absV_int, cells_agg, aField_eq, fieldGo_ptr, aLoad_eq, loadGo_one, aPlace_ptr, dropC_cells, aBox_eq, push_n, get_push2, get_push2', Nat.reduceEqDiff, Nat.reduceAdd, Nat.reduceLeDiff, Option.map_some, Nat.add_zero, Nat.zero_add, Nat.zero_le, List.length_cons, List.length_nil, List.drop_zero, List.drop_succ_cons, if_true, if_false, ft_27_0, ft_38_2, lt_2, lt_3, c1, c2, c3, c, retA_ret, Tryz.results79, resultsA_1]
      exact hid_mk ⟨by simp [valF, h4, iV], kp _ _⟩
    have c4 : (o == 4) = false := by simp [h4]
    by_cases h5 : o = 5
    · have c : (o == 5) = true := by simp [h5]
      simp only [wpA_region, wpA_seq, wpA_cond, wpA_block, wpA_ret, condI_true, condI_false, seqQ_normal, seqQ_ret, blkQ_ret, endI_mk, goI_out, goI_ops, opsA_nil, opsA_cons, stepA_move, stepA_assign, stepA_box, stepA_load, stepA_binOp, stepA_fieldAddr, thenV_some, thenH_some, eval_tmp, eval_const, put_some, enterF_zero, enterF_succ, aBin_eql, absV_int, cells_agg, aField_eq, fieldGo_ptr, aLoad_eq, loadGo_one, aPlace_ptr, dropC_cells, aBox_eq, push_n, get_push2', Nat.reduceEqDiff, Nat.reduceAdd, Option.map_some, Nat.add_zero, Nat.zero_add, Nat.zero_le, List.length_cons, List.length_nil, List.drop_zero, if_true, if_false, ft_27_0, lt_3, c1, c2, c3, c4, c, retA_ret, Tryz.results79, resultsA_1]
      exact hid_mk ⟨by simp [valF, h5, iV], kp _ _⟩
    have c5 : (o == 5) = false := by simp [h5]
    have lr : ∀ (A : Ex) (q : List V), loadGo (some (some 3)) (some (encE A ++ q)) = some (.agg (encE A)) := fun A q => load_row (encE_len A)
    have two : ∀ {A : Type} {l : List A} {k : Nat}, k < l.length → ∃ x, l[k]? = some x := fun hk => ⟨_, List.getElem?_eq_getElem hk⟩
    have hl1 : 0 < ks.length := by
      have : (1 : Int) ≤ kidsN.getD o.toNat 0 := by
        have : o.toNat = 6 ∨ o.toNat = 7 ∨ o.toNat = 8 ∨ o.toNat = 9 ∨ o.toNat = 10 ∨ o.toNat = 11 ∨ o.toNat = 12 ∨ o.toNat = 13 ∨ o.toNat = 14 ∨ o.toNat = 15 ∨ o.toNat = 16 := by omega
        rcases this with q | q | q | q | q | q | q | q | q | q | q <;> rw [q] <;> decide
      omega
    obtain ⟨A, hA⟩ := two hl1
    obtain ⟨r0, x0'⟩ := kid_ix hA
    have x0 : aIndexAddr Tryz.prog 25 (.imm ks.length (ks.flatMap encE)) (.int .i64 0) = some (.at (encE A ++ r0)) := x0'
    clear x0'
    have okA := hkids A (List.mem_of_getElem? hA)
    by_cases h14 : o = 14
    · have c : (o == 14) = true := by simp [h14]
      have hG : valF rk rv rt acc (d + 1) (.mk o n ks) = (valF rk rv rt acc d A).map fun a => w64 (-a) := by simp [valF, h14, hA]
      generalize ks.length = N at *
      generalize ks.flatMap encE = Cs at *
      simp only [wpA_region, wpA_seq, wpA_cond, wpA_block, wpA_draw, condI_true, condI_false, seqQ_normal, goI_out, goI_ops, opsA_nil, opsA_cons, stepA_assign, stepA_box, stepA_load, stepA_binOp, stepA_fieldAddr, thenV_some, thenH_some, eval_tmp, eval_const, put_some, enterF_zero, enterF_succ, aBin_eql, absV_int, cells_agg, aField_eq, fieldGo_ptr, aLoad_eq, loadGo_one, aPlace_ptr, dropC_cells, aBox_eq, push_n, get_push2', Nat.reduceEqDiff, Nat.reduceAdd, Option.map_some, Nat.add_zero, Nat.zero_add, Nat.zero_le, List.length_cons, List.length_nil, List.drop_zero, if_true, if_false, ft_27_0, lt_3, c1, c2, c3, c4, c5, c]
      refine SWp.drawnI [6] (by kernel_rfl) (by kernel_rfl) (by kernel_rfl) ?_
      simp only [gI_cons, goI_rest, ggI_true, wantedA_none, idleOp, Bool.or_true, Bool.or_false, List.contains_cons, List.contains_nil, Nat.reduceBEq, beq_self_eq_true, stepA_move, stepA_load, stepA_fieldAddr, stepA_indexAddr, stepA_call, thenV_some, eval_tmp, eval_const, put_some, enterF_zero, enterF_succ, absV_int, aField_eq, fieldGo_ptr, aLoad_eq, loadGo_one, loadGo_row, aPlace_ptr, aPlace_at, dropC_cells, get_push2, get_push2', beq_self_eq_true, Nat.reduceEqDiff, Nat.reduceAdd, Nat.reduceLeDiff, List.map_cons, List.map_nil, Nat.zero_add, Nat.zero_le, List.length_cons, List.length_nil, List.drop_zero, List.drop_succ_cons, List.take_succ_cons, List.take_nil, if_true, if_false, Nat.le_refl, ft_27_2, lt_25, lt_27, lt_38, x0, lr]
      refine callI_ofE cal79 (eValue rk rv rt acc d A _ okA) (fun r h' ⟨e1, e2⟩ => ?_) (fun h' ⟨e1, e2⟩ => ?_)
      · subst e2
        obtain ⟨a, ha, rfl⟩ := Option.map_eq_some_iff.1 e1
        simp only [gI_nil, gI_cons, goI_rest, ggI_true, wantedA_none, idleOp, Bool.or_false, List.contains_cons, List.contains_nil, Nat.reduceBEq, wpA_ret, seqQ_normal, seqQ_ret, blkQ_ret, endI_mk, goI_out, stepA_assign, stepA_unOp, thenV_some, eval_tmp, put_some, enterF_succ, aUn_neg, Nat.reduceEqDiff, Nat.reduceAdd, if_true, if_false, retA_ret, Tryz.results79, resultsA_1]
        exact hid_mk ⟨by simp [hG, ha, iV, w64], kp _ _⟩
      · subst e1
        simp only [excE_rest, seqQ_panic, blkQ_panic, endI_mk, excE_out, Nat.reduceAdd, retA_panic]
        have : valF rk rv rt acc d A = none := by simpa [iV] using e2
        exact hid_mk ⟨kp _ _, by simp [hG, this, iV]⟩
    have c14 : (o == 14) = false := by simp [h14]
    have hl2 : 1 < ks.length := by
      have : (2 : Int) ≤ kidsN.getD o.toNat 0 := by
        have : o.toNat = 6 ∨ o.toNat = 7 ∨ o.toNat = 8 ∨ o.toNat = 9 ∨ o.toNat = 10 ∨ o.toNat = 11 ∨ o.toNat = 12 ∨ o.toNat = 13 ∨ o.toNat = 15 ∨ o.toNat = 16 := by omega
        rcases this with q | q | q | q | q | q | q | q | q | q <;> rw [q] <;> decide
      omega
    obtain ⟨B, hB⟩ := two hl2
    obtain ⟨r1, x1'⟩ := kid_ix hB
    have x1 : aIndexAddr Tryz.prog 25 (.imm ks.length (ks.flatMap encE)) (.int .i64 1) = some (.at (encE B ++ r1)) := x1'
    clear x1'
    have okB := hkids B (List.mem_of_getElem? hB)
    by_cases h13 : o = 13
    · have c : (o == 13) = true := by simp [h13]
      have hl3 : 2 < ks.length := by
        rw [h13] at hlen
        have : (ks.length : Int) = 3 := hlen
        omega
      obtain ⟨C, hC⟩ := two hl3
      obtain ⟨r2, x2'⟩ := kid_ix hC
      have x2 : aIndexAddr Tryz.prog 25 (.imm ks.length (ks.flatMap encE)) (.int .i64 2) = some (.at (encE C ++ r2)) := x2'
      clear x2'
      have okC := hkids C (List.mem_of_getElem? hC)
      have hG : valF rk rv rt acc (d + 1) (.mk o n ks) = (valF rk rv rt acc d A).bind fun a => if a = 0 then valF rk rv rt acc d C else valF rk rv rt acc d B := by simp [valF, h13, hA, hB, hC]
      generalize ks.length = N at *
      generalize ks.flatMap encE = Cs at *
      simp only [wpA_region, wpA_seq, wpA_cond, wpA_block, wpA_draw, condI_true, condI_false, seqQ_normal, goI_out, goI_ops, opsA_nil, opsA_cons, stepA_assign, stepA_box, stepA_load, stepA_binOp, stepA_fieldAddr, thenV_some, thenH_some, eval_tmp, eval_const, put_some, enterF_zero, enterF_succ, aBin_eql, absV_int, cells_agg, aField_eq, fieldGo_ptr, aLoad_eq, loadGo_one, aPlace_ptr, dropC_cells, aBox_eq, push_n, get_push2', Nat.reduceEqDiff, Nat.reduceAdd, Option.map_some, Nat.add_zero, Nat.zero_add, Nat.zero_le, List.length_cons, List.length_nil, List.drop_zero, if_true, if_false, ft_27_0, lt_3, c1, c2, c3, c4, c5, c14, c]
      refine SWp.drawnI [6] (by kernel_rfl) (by kernel_rfl) (by kernel_rfl) ?_
      simp only [gI_cons, goI_rest, ggI_true, wantedA_none, idleOp, Bool.or_true, Bool.or_false, List.contains_cons, List.contains_nil, Nat.reduceBEq, beq_self_eq_true, stepA_move, stepA_load, stepA_fieldAddr, stepA_indexAddr, stepA_call, thenV_some, eval_tmp, eval_const, put_some, enterF_zero, enterF_succ, absV_int, aField_eq, fieldGo_ptr, aLoad_eq, loadGo_one, loadGo_row, aPlace_ptr, aPlace_at, dropC_cells, get_push2, get_push2', beq_self_eq_true, Nat.reduceEqDiff, Nat.reduceAdd, Nat.reduceLeDiff, List.map_cons, List.map_nil, Nat.zero_add, Nat.zero_le, List.length_cons, List.length_nil, List.drop_zero, List.drop_succ_cons, List.take_succ_cons, List.take_nil, if_true, if_false, Nat.le_refl, ft_27_2, lt_25, lt_27, lt_38, x0, lr]
      refine callI_ofE cal79 (eValue rk rv rt acc d A _ okA) (fun r h' ⟨e1, e2⟩ => ?_) (fun h' ⟨e1, e2⟩ => ?_)
      · subst e2
        obtain ⟨a, ha, rfl⟩ := Option.map_eq_some_iff.1 e1
        by_cases ha0 : a = 0
        · have q : (a != 0) = false := by simp [ha0]
          simp only [gI_nil, gI_cons, goI_rest, ggI_true, wantedA_none, idleOp, Bool.or_false, List.contains_cons, List.contains_nil, Nat.reduceBEq, wpA_skip, wpA_seq, wpA_cond, wpA_draw, condI_false, seqQ_normal, goI_out, stepA_binOp, thenV_some, eval_tmp, eval_const, put_some, enterF_succ, aBin_neq, absV_int, Nat.reduceEqDiff, Nat.reduceAdd, if_true, if_false, q]
          refine SWp.drawnI [6] (by kernel_rfl) (by kernel_rfl) (by kernel_rfl) ?_
          simp only [gI_cons, goI_rest, ggI_true, wantedA_none, idleOp, Bool.or_true, Bool.or_false, List.contains_cons, List.contains_nil, Nat.reduceBEq, beq_self_eq_true, stepA_move, stepA_load, stepA_fieldAddr, stepA_indexAddr, stepA_call, thenV_some, eval_tmp, eval_const, put_some, enterF_zero, enterF_succ, absV_int, aField_eq, fieldGo_ptr, aLoad_eq, loadGo_one, loadGo_row, aPlace_ptr, aPlace_at, dropC_cells, get_push2, get_push2', beq_self_eq_true, Nat.reduceEqDiff, Nat.reduceAdd, Nat.reduceLeDiff, List.map_cons, List.map_nil, Nat.zero_add, Nat.zero_le, List.length_cons, List.length_nil, List.drop_zero, List.drop_succ_cons, List.take_succ_cons, List.take_nil, if_true, if_false, Nat.le_refl, ft_27_2, lt_25, lt_27, lt_38, x2, lr]
          refine callI_ofE cal79 (eValue rk rv rt acc d C _ okC) (fun r h' ⟨e1, e2⟩ => ?_) (fun h' ⟨e1, e2⟩ => ?_)
          · subst e2
            obtain ⟨b, hb, rfl⟩ := Option.map_eq_some_iff.1 e1
            simp only [gI_nil, gI_cons, goI_rest, ggI_true, wantedA_none, idleOp, Bool.or_false, List.contains_cons, List.contains_nil, Nat.reduceBEq, wpA_ret, seqQ_normal, seqQ_ret, blkQ_ret, endI_mk, goI_out, stepA_assign, eval_tmp, put_some, enterF_succ, Nat.reduceEqDiff, Nat.reduceAdd, if_true, if_false, retA_ret, Tryz.results79, resultsA_1]
            exact hid_mk ⟨by simp [hG, ha, ha0, hb, iV], kp _ _⟩
          · subst e1
            simp only [excE_rest, seqQ_panic, blkQ_panic, endI_mk, excE_out, Nat.reduceAdd, retA_panic]
            have : valF rk rv rt acc d C = none := by simpa [iV] using e2
            exact hid_mk ⟨kp _ _, by simp [hG, ha, ha0, this, iV]⟩
        · have q : (a != 0) = true := by simp [ha0]
          simp only [gI_nil, gI_cons, goI_rest, ggI_true, wantedA_none, idleOp, Bool.or_false, List.contains_cons, List.contains_nil, Nat.reduceBEq, wpA_seq, wpA_cond, wpA_draw, condI_true, seqQ_normal, goI_out, stepA_binOp, thenV_some, eval_tmp, eval_const, put_some, enterF_succ, aBin_neq, absV_int, Nat.reduceEqDiff, Nat.reduceAdd, if_true, if_false, q]
          refine SWp.drawnI [6] (by kernel_rfl) (by kernel_rfl) (by kernel_rfl) ?_
          simp only [gI_cons, goI_rest, ggI_true, wantedA_none, idleOp, Bool.or_true, Bool.or_false, List.contains_cons, List.contains_nil, Nat.reduceBEq, beq_self_eq_true, stepA_move, stepA_load, stepA_fieldAddr, stepA_indexAddr, stepA_call, thenV_some, eval_tmp, eval_const, put_some, enterF_zero, enterF_succ, absV_int, aField_eq, fieldGo_ptr, aLoad_eq, loadGo_one, loadGo_row, aPlace_ptr, aPlace_at, dropC_cells, get_push2, get_push2', beq_self_eq_true, Nat.reduceEqDiff, Nat.reduceAdd, Nat.reduceLeDiff, List.map_cons, List.map_nil, Nat.zero_add, Nat.zero_le, List.length_cons, List.length_nil, List.drop_zero, List.drop_succ_cons, List.take_succ_cons, List.take_nil, if_true, if_false, Nat.le_refl, ft_27_2, lt_25, lt_27, lt_38, x1, lr]
          refine callI_ofE cal79 (eValue rk rv rt acc d B _ okB) (fun r h' ⟨e1, e2⟩ => ?_) (fun h' ⟨e1, e2⟩ => ?_)
          · subst e2
            obtain ⟨b, hb, rfl⟩ := Option.map_eq_some_iff.1 e1
            simp only [gI_nil, gI_cons, goI_rest, ggI_true, wantedA_none, idleOp, Bool.or_false, List.contains_cons, List.contains_nil, Nat.reduceBEq, wpA_ret, seqQ_normal, seqQ_ret, blkQ_ret, endI_mk, goI_out, stepA_assign, eval_tmp, put_some, enterF_succ, Nat.reduceEqDiff, Nat.reduceAdd, if_true, if_false, retA_ret, Tryz.results79, resultsA_1]
            exact hid_mk ⟨by simp [hG, ha, ha0, hb, iV], kp _ _⟩
          · subst e1
            simp only [excE_rest, seqQ_panic, blkQ_panic, endI_mk, excE_out, Nat.reduceAdd, retA_panic]
            have : valF rk rv rt acc d B = none := by simpa [iV] using e2
            exact hid_mk ⟨kp _ _, by simp [hG, ha, ha0, this, iV]⟩
      · subst e1
        simp only [excE_rest, seqQ_panic, blkQ_panic, endI_mk, excE_out, Nat.reduceAdd, retA_panic]
        have : valF rk rv rt acc d A = none := by simpa [iV] using e2
        exact hid_mk ⟨kp _ _, by simp [hG, this, iV]⟩
    have c13 : (o == 13) = false := by simp [h13]
    have hG : valF rk rv rt acc (d + 1) (.mk o n ks) = (valF rk rv rt acc d A).bind fun a => (valF rk rv rt acc d B).bind fun b => combX o a b := by simp [valF, h1, h2, h3, h4, h5, h14, h13, hA, hB]
    generalize ks.length = N at *
    generalize ks.flatMap encE = Cs at *
    simp only [wpA_skip, wpA_region, wpA_seq, wpA_cond, wpA_block, wpA_draw, condI_false, seqQ_normal, blkQ_normal, goI_out, goI_ops, opsA_nil, opsA_cons, stepA_assign, stepA_box, stepA_load, stepA_binOp, stepA_fieldAddr, thenV_some, thenH_some, eval_tmp, eval_const, put_some, enterF_zero, enterF_succ, aBin_eql, absV_int, cells_agg, aField_eq, fieldGo_ptr, aLoad_eq, loadGo_one, aPlace_ptr, dropC_cells, aBox_eq, push_n, get_push2', Nat.reduceEqDiff, Nat.reduceAdd, Option.map_some, Nat.add_zero, Nat.zero_add, Nat.zero_le, List.length_cons, List.length_nil, List.drop_zero, if_true, if_false, ft_27_0, lt_3, c1, c2, c3, c4, c5, c14, c13]
    refine SWp.drawnI [6] (by kernel_rfl) (by kernel_rfl) (by kernel_rfl) ?_
    simp only [gI_cons, goI_rest, ggI_true, wantedA_none, idleOp, Bool.or_true, Bool.or_false, List.contains_cons, List.contains_nil, Nat.reduceBEq, beq_self_eq_true, stepA_move, stepA_load, stepA_fieldAddr, stepA_indexAddr, stepA_call, thenV_some, eval_tmp, eval_const, put_some, enterF_zero, enterF_succ, absV_int, aField_eq, fieldGo_ptr, aLoad_eq, loadGo_one, loadGo_row, aPlace_ptr, aPlace_at, dropC_cells, get_push2, get_push2', beq_self_eq_true, Nat.reduceEqDiff, Nat.reduceAdd, Nat.reduceLeDiff, List.map_cons, List.map_nil, Nat.zero_add, Nat.zero_le, List.length_cons, List.length_nil, List.drop_zero, List.drop_succ_cons, List.take_succ_cons, List.take_nil, if_true, if_false, Nat.le_refl, ft_27_2, lt_25, lt_27, lt_38, x0, lr]
    refine callI_ofE cal79 (eValue rk rv rt acc d A _ okA) (fun r h' ⟨e1, e2⟩ => ?_) (fun h' ⟨e1, e2⟩ => ?_)
    · subst e2
      obtain ⟨a, ha, rfl⟩ := Option.map_eq_some_iff.1 e1
      simp only [gI_nil, gI_cons, goI_rest, ggI_true, wantedA_none, idleOp, Bool.or_false, List.contains_cons, List.contains_nil, Nat.reduceBEq, wpA_seq, wpA_draw, seqQ_normal, goI_out, stepA_assign, eval_tmp, put_some, enterF_succ, Nat.reduceEqDiff, Nat.reduceAdd, if_true, if_false]
      refine SWp.drawnS none_ [9, 10] (.q 0 (.q 1 (.q 2 (.q 3 (.q 4 (.q 5 (.q 6 (.q 7 (.q 8 (.e 9 (.a 10 (.q 11 .done)) .stop)))))))))) (by kernel_rfl) (by kernel_rfl) (by kernel_rfl) ?_
      simp only [siI_stop, siI_q, siI_e, sqI_some, seI_some, mOk_none', implies_true, qI_nil, qI_cons, thenQ_some, q_move, q_load, q_fieldAddr, q_indexAddr, goI_mk, opsA_cons, stepA_call, eval_tmp, eval_const, put_some, enterF_zero, enterF_succ, absV_int, aField_eq, fieldGo_ptr, aLoad_eq, loadGo_one, loadGo_row, aPlace_ptr, aPlace_at, dropC_cells, get_push2, get_push2', List.getElem?_cons_zero, List.getElem?_cons_succ, Nat.reduceEqDiff, Nat.reduceAdd, Nat.reduceLeDiff, List.map_cons, List.map_nil, Nat.add_zero, Nat.zero_add, Nat.zero_le, List.length_cons, List.length_nil, List.drop_zero, List.drop_succ_cons, List.take_succ_cons, List.take_nil, and_true, true_and, if_true, if_false, Nat.le_refl, ft_27_0, ft_27_2, lt_25, lt_27, lt_3, lt_38, x1, lr]
      refine callI_ofE cal79 (eValue rk rv rt acc d B _ okB) (fun r h' ⟨e1, e2⟩ => ?_) (fun h' ⟨e1, e2⟩ => ?_)
      · subst e2
        obtain ⟨b, hb, rfl⟩ := Option.map_eq_some_iff.1 e1
        simp only [siI_a, saI_some, keepT0, goI_ops, goI_mk, opsA_nil, opsA_cons, stepA_call, eval_tmp, put_some, enterF_succ, List.getElem?_cons_zero, List.getElem?_cons_succ, Nat.reduceEqDiff, List.map_cons, List.map_nil, true_and, if_true, if_false]
        refine callI_ofE cal113 (eCombine o a b _) (fun r h' ⟨e1, e2⟩ => ?_) (fun h' ⟨e1, e2⟩ => ?_)
        · subst e2
          obtain ⟨c, hc, rfl⟩ := Option.map_eq_some_iff.1 e1
          simp only [siI_done, siI_q, sqI_some, mOk_none', implies_true, qI_nil, qI_cons, q_assign, wpA_ret, seqQ_normal, endI_mk, goI_out, goI_ops, goI_mk, opsA_nil, eval_tmp, put_some, enterF_succ, List.getElem?_cons_zero, List.getElem?_cons_succ, Bool.false_eq_true, Nat.reduceEqDiff, true_and, if_true, if_false, retA_ret, Tryz.results79, resultsA_1]
          exact hid_mk ⟨by simp [hG, ha, hb, hc, iV], kp _ _⟩
        · subst e1
          simp only [siI_done, siI_q, sqI_some, mOk_none', Kt_fnE, implies_true, qI_nil, qI_cons, q_assign, wpA_ret, seqQ_normal, seqQ_panic, endI_mk, excE_out, excE_ops, goI_out, goI_mk, eval_tmp, List.getElem?_cons_zero, List.getElem?_cons_succ, Bool.false_eq_true, true_and, retA_panic, excE_out]
          have : combX o a b = none := by simpa [iV] using e2
          exact fun _ => hid_mk ⟨kp _ _, by simp [hG, ha, hb, this, iV]⟩
      · subst e1
        simp only [siI_a, saI_some, Kt_fnE, seqQ_panic, endI_mk, excE_out, excE_ops, opsA_cons, stepA_call, eval_tmp, List.getElem?_cons_zero, List.getElem?_cons_succ, List.map_cons, List.map_nil, retA_panic, excE_out]
        have : valF rk rv rt acc d B = none := by simpa [iV] using e2
        exact fun _ => hid_mk ⟨kp _ _, by simp [hG, ha, this, iV]⟩
    · subst e1
      simp only [excE_rest, seqQ_panic, endI_mk, excE_out, Nat.reduceAdd, retA_panic]
      have : valF rk rv rt acc d A = none := by simpa [iV] using e2
      exact hid_mk ⟨kp _ _, by simp [hG, this, iV]⟩
end Go.Proofs.YtpjfhfmbhjghcaaGreatDoor.Pk
