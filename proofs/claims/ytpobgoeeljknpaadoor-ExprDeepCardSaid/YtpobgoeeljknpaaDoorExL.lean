/-
  What functions of the program do, told of abstract states. Conditions: as each theorem says.
-/
import Derived.Test.YtpobgoeeljknpaaDoorExK
namespace Go.Proofs.YtpobgoeeljknpaaDoor.Pk
open Go Go.Proofs Go.Proofs.YtpobgoeeljknpaaDoor.Ab
set_option linter.unusedVariables false
set_option linter.unusedSimpArgs false

theorem useL_mem {op : Int} : ∀ {l : List Ex} {k : Ex}, k ∈ l → useX op k = true → useL op l = true
  | [], k, hk, _ => by simp at hk
  | a :: r, k, hk, h => by
    rcases List.mem_cons.1 hk with rfl | hk
    · simp [useL, h]
    · simp [useL, useL_mem hk h]
theorem val_none {rk rv rt acc : Int} : ∀ {d : Nat} {e : Ex}, okX d e → valF rk rv rt acc d e = none → useX 9 e = true ∨ useX 10 e = true
  | 0, e, hok, _ => hok.zero.elim
  | d + 1, .mk o n ks, hok, hv => by
    obtain ⟨hfit, hkids⟩ := hok.fits
    obtain ⟨hlen, ho1, ho2⟩ := fits_len hfit
    have up : ∀ k, k ∈ ks → (useX 9 k = true ∨ useX 10 k = true) → useX 9 (.mk o n ks) = true ∨ useX 10 (.mk o n ks) = true := fun k hk h => by
      rcases h with h | h
      · left; simp [useX, useL_mem hk h]
      · right; simp [useX, useL_mem hk h]
    have kid : ∀ {i : Nat}, i < ks.length → ∃ k, ks[i]? = some k ∧ (valF rk rv rt acc d k = none → useX 9 (.mk o n ks) = true ∨ useX 10 (.mk o n ks) = true) := fun {i} hi =>
      ⟨ks[i], List.getElem?_eq_getElem hi, fun h => up _ (List.getElem_mem hi) (val_none (hkids _ (List.getElem_mem hi)) h)⟩
    by_cases h1 : o = 1
    · simp [valF, h1] at hv
    by_cases h2 : o = 2
    · simp [valF, h2] at hv
    by_cases h3 : o = 3
    · simp [valF, h3] at hv
    by_cases h4 : o = 4
    · simp [valF, h4] at hv
    by_cases h5 : o = 5
    · simp [valF, h5] at hv
    have hl : (if o = 14 then 1 else if o = 13 then 3 else 2) = ks.length := by
      have : o.toNat = 6 ∨ o.toNat = 7 ∨ o.toNat = 8 ∨ o.toNat = 9 ∨ o.toNat = 10 ∨ o.toNat = 11 ∨ o.toNat = 12 ∨ o.toNat = 13 ∨ o.toNat = 14 ∨ o.toNat = 15 ∨ o.toNat = 16 := by omega
      rcases this with q | q | q | q | q | q | q | q | q | q | q <;> rw [q] at hlen <;> simp [kidsN] at hlen <;> split <;> (try split) <;> omega
    by_cases h14 : o = 14
    · rw [if_pos h14] at hl
      obtain ⟨A, hA, uA⟩ := kid (i := 0) (by omega)
      simp only [valF, h14, hA, Option.bind_some] at hv
      exact uA (by simpa using hv)
    rw [if_neg h14] at hl
    by_cases h13 : o = 13
    · rw [if_pos h13] at hl
      obtain ⟨A, hA, uA⟩ := kid (i := 0) (by omega)
      obtain ⟨B, hB, uB⟩ := kid (i := 1) (by omega)
      obtain ⟨C, hC, uC⟩ := kid (i := 2) (by omega)
      simp only [valF, h13, hA, hB, hC, Option.bind_some] at hv
      simp at hv
      cases ha : valF rk rv rt acc d A with
      | none => exact uA ha
      | some a =>
        simp only [ha] at hv
        by_cases h0 : a = 0
        · exact uC (by simpa [h0] using hv)
        · exact uB (by simpa [h0] using hv)
    rw [if_neg h13] at hl
    obtain ⟨A, hA, uA⟩ := kid (i := 0) (by omega)
    obtain ⟨B, hB, uB⟩ := kid (i := 1) (by omega)
    simp only [valF, h1, h2, h3, h4, h5, h14, h13, hA, hB, Option.bind_some, if_false] at hv
    cases ha : valF rk rv rt acc d A with
    | none => exact uA ha
    | some a =>
      cases hb : valF rk rv rt acc d B with
      | none => exact uB hb
      | some b =>
        simp only [ha, hb, Option.bind_some] at hv
        by_cases h9 : o = 9
        · left; simp [useX, h9]
        · by_cases h10 : o = 10
          · right; simp [useX, h10]
          · exfalso
            unfold combX at hv
            simp only [h9, h10, if_false] at hv
            revert hv
            repeat' split
            all_goals simp

set_option maxHeartbeats 1000000 in
set_option maxRecDepth 10000 in
theorem exprTotal (e : Ex) (hok : OkE e) (rk rv rt acc : Int) (h : AHeap) (hg : KG h) :
    SCalls Tryd.prog 5 [.agg (encE e), .agg [.int .i64 rk, .int .i64 rv, .int .i64 rt], .int .i64 acc] h (fun r h' => r = .bool true) := by
  refine SCalls.enterI (c := _) Tryd.func5 rfl (by kernel_rfl) (by simp) ?_
  have hc : (V.agg (encE e)).cells = some (encE e) := rfl
  have hdr : dropC (AObj.cells (encE e) 25 none) 0 = some (encE e) := by cases e; rfl
  have hld : loadGo (some (some 3)) (some (encE e)) = some (.agg (encE e)) := by cases e; rfl
  simp only [wpA_region, wpA_seq, seqQ_normal, goI_out, goI_ops, opsA_nil, opsA_cons, stepA_assign, stepA_box, stepA_call, thenH_some, eval_tmp, eval_const, put_some, enterF_zero, enterF_succ, absV_bool, cells_agg, aBox_eq, push_n, Nat.reduceEqDiff, List.map_nil, Option.map_some, if_false, hc]
  obtain ⟨H, hH⟩ : ∃ x, x = (h.push (.cells (encE e) 25 none)).push (.cells [.int .i64 rk, .int .i64 rv, .int .i64 rt] 32 none) := ⟨_, rfl⟩
  have g3 : H.get h.n = .cells (encE e) 25 none := by rw [hH]; exact get_push2'
  have g4 : H.get (h.n + 1) = .cells [.int .i64 rk, .int .i64 rv, .int .i64 rt] 32 none := by rw [hH]; exact get_push2
  have kH : Keep h H none_ := by rw [hH]; exact (Keep.push _ _ _).then_push _
  have gH : KG H := hg.keep kH
  rw [← hH]
  refine callI_pure cal15 (pShown4 H gH) ?_
  simp only [wpA_region, wpA_seq, seqQ_normal, goI_out, goI_ops, opsA_nil, opsA_cons, stepA_assign, stepA_load, stepA_call, thenV_some, eval_tmp, put_some, enterF_succ, aLoad_eq, aPlace_ptr, Nat.reduceEqDiff, List.map_cons, List.map_nil, if_true, if_false, lt_25, g3, hdr, hld]
  refine callI_pure cal19 (pSmall e H hok) ?_
  by_cases hs : IntKind.i64.wrap (szE e : Nat) ≤ 2000
  rotate_left
  · have c : decide (IntKind.i64.wrap (szE e : Nat) ≤ 2000) = false := by simpa using hs
    simp only [wpA_region, wpA_seq, wpA_cond, wpA_ret, condI_true, seqQ_normal, seqQ_ret, endI_mk, goI_out, goI_ops, opsA_nil, opsA_cons, opsA_guardS, gvI_tf, slotAt_zero, slotAt_succ, stepA_move, stepA_assign, stepA_pick, stepA_unOp, thenV_some, pickV_true, eval_tmp, eval_const, put_some, enterF_succ, aUn_not, absV_bool, Nat.reduceEqDiff, if_true, if_false, Bool.not_false, c, retA_ret, Tryd.results5, resultsA_1]
    exact hid_mk rfl
  have c : decide (IntKind.i64.wrap (szE e : Nat) ≤ 2000) = true := by simpa using hs
  simp only [goI_ops, opsA_cons, opsA_guardS, gvI_same, slotAt_zero, slotAt_succ, stepA_move, stepA_load, stepA_unOp, stepA_call, thenV_some, eval_tmp, put_some, enterF_succ, aUn_not, aLoad_eq, aPlace_ptr, Nat.reduceEqDiff, List.map_cons, List.map_nil, if_true, if_false, Bool.not_true, lt_25, c, g3, hdr, hld]
  refine callI_pure cal20 (pMay e H gH) ?_
  cases hm : mayX e with
  | false =>
    simp only [wpA_region, wpA_seq, wpA_cond, wpA_ret, condI_true, seqQ_normal, seqQ_ret, endI_mk, goI_out, goI_ops, opsA_nil, opsA_cons, opsA_guardS, gvI_same, slotAt_zero, slotAt_succ, stepA_move, stepA_assign, stepA_pick, stepA_unOp, thenV_some, pickV_false, eval_tmp, eval_const, put_some, enterF_succ, aUn_not, absV_bool, Nat.reduceEqDiff, if_true, if_false, Bool.not_false, retA_ret, Tryd.results5, resultsA_1]
    exact hid_mk rfl
  | true =>
    have hok16 : okX 16 e := by
      have hm' := hm
      unfold mayX at hm'
      obtain ⟨c, hc⟩ := Option.isSome_iff_exists.1 hm'
      exact ⟨64, c, hc⟩
    simp only [wpA_skip, wpA_region, wpA_seq, wpA_cond, condI_false, seqQ_normal, goI_out, goI_ops, opsA_nil, opsA_cons, opsA_guardS, gvI_same, slotAt_zero, slotAt_succ, stepA_move, stepA_pick, stepA_load, stepA_unOp, stepA_call, thenV_some, pickV_false, eval_tmp, eval_const, put_some, enterF_zero, enterF_succ, aUn_not, absV_bool, aLoad_eq, loadGo_row, aPlace_ptr, dropC_cells, Nat.reduceEqDiff, Nat.reduceAdd, List.map_cons, List.map_nil, Nat.zero_add, Nat.zero_le, List.length_cons, List.length_nil, List.drop_zero, List.take_succ_cons, List.take_nil, if_true, if_false, Bool.not_true, Nat.le_refl, lt_25, lt_32, g3, g4, hdr, hld]
    refine callI_pure cal18 (pEvalM e rk rv rt acc _ hm rfl H gH) ?_
    have hvn := val_none (rk := rk) (rv := rv) (rt := rt) (acc := acc) hok16
    have u9 := pUses 9 _ e H rfl hok
    have u10 := pUses 10 _ e H rfl hok
    cases hv : valF rk rv rt acc 16 e with
    | some n =>
      simp only [wpA_region, wpA_seq, seqQ_normal, goI_out, goI_ops, opsA_nil, opsA_cons, stepA_move, stepA_assign, stepA_load, stepA_extract, stepA_call, thenV_some, extV_zero, extV_succ, eval_tmp, eval_const, put_some, enterF_succ, absV_int, aLoad_eq, aPlace_ptr, Nat.reduceEqDiff, List.map_cons, List.map_nil, if_true, if_false, lt_25, g3, hdr, hld, evO]
      refine callI_pure cal21 u9 ?_
      cases useX 9 e with
      | true =>
        simp only [wpA_region, wpA_seq, wpA_ret, seqQ_normal, endI_mk, goI_out, goI_ops, opsA_nil, opsA_cons, opsA_guardS, gvI_same, gvI_tf, gvI_u, slotAt_zero, slotAt_succ, stepA_move, stepA_assign, stepA_pick, stepA_binOp, thenV_some, pickV_true, eval_tmp, eval_const, put_some, enterF_succ, aBin_eql, absV_int, absV_bool, beq_self_eq_true, Nat.reduceEqDiff, if_true, if_false, retA_ret, Tryd.results5, resultsA_1]
        exact hid_mk rfl
      | false =>
        simp only [goI_ops, opsA_cons, opsA_guardS, gvI_same, slotAt_zero, slotAt_succ, stepA_move, stepA_load, stepA_call, thenV_some, eval_tmp, eval_const, put_some, enterF_succ, absV_int, aLoad_eq, aPlace_ptr, Nat.reduceEqDiff, List.map_cons, List.map_nil, if_true, if_false, lt_25, g3, hdr, hld]
        refine callI_pure cal21 u10 ?_
        cases useX 10 e <;>
        · simp only [wpA_region, wpA_seq, wpA_ret, seqQ_normal, endI_mk, goI_out, goI_ops, opsA_nil, opsA_cons, opsA_guardS, gvI_same, gvI_tf, gvI_u, slotAt_zero, slotAt_succ, stepA_move, stepA_assign, stepA_pick, stepA_binOp, thenV_some, pickV_true, pickV_false, eval_tmp, eval_const, put_some, enterF_succ, aBin_eql, absV_int, absV_bool, beq_self_eq_true, Nat.reduceEqDiff, if_true, if_false, retA_ret, Tryd.results5, resultsA_1]
          exact hid_mk rfl
    | none =>
      have hu := hvn hv
      simp only [wpA_region, wpA_seq, seqQ_normal, goI_out, goI_ops, opsA_nil, opsA_cons, stepA_move, stepA_assign, stepA_load, stepA_extract, stepA_call, thenV_some, extV_zero, extV_succ, eval_tmp, eval_const, put_some, enterF_succ, absV_int, aLoad_eq, aPlace_ptr, Nat.reduceEqDiff, List.map_cons, List.map_nil, if_true, if_false, lt_25, g3, hdr, hld, evO]
      refine callI_pure cal21 u9 ?_
      cases h9 : useX 9 e with
      | true =>
        simp only [wpA_region, wpA_seq, wpA_ret, seqQ_normal, endI_mk, goI_out, goI_ops, opsA_nil, opsA_cons, opsA_guardS, gvI_same, gvI_tf, slotAt_zero, slotAt_succ, stepA_move, stepA_assign, stepA_pick, stepA_binOp, thenV_some, pickV_true, pickV_false, eval_tmp, eval_const, put_some, enterF_succ, aBin_eql, absV_int, absV_bool, Int.reduceBEq, beq_self_eq_true, Nat.reduceEqDiff, if_true, if_false, retA_ret, Tryd.results5, resultsA_1]
        exact hid_mk rfl
      | false =>
        have h10 : useX 10 e = true := by
          rcases hu with hu | hu
          · rw [h9] at hu; cases hu
          · exact hu
        rw [h10] at u10
        simp only [goI_ops, opsA_cons, opsA_guardS, gvI_same, slotAt_zero, slotAt_succ, stepA_move, stepA_load, stepA_call, thenV_some, eval_tmp, eval_const, put_some, enterF_succ, absV_int, aLoad_eq, aPlace_ptr, Nat.reduceEqDiff, List.map_cons, List.map_nil, if_true, if_false, lt_25, g3, hdr, hld]
        refine callI_pure cal21 u10 ?_
        simp only [wpA_region, wpA_seq, wpA_ret, seqQ_normal, endI_mk, goI_out, goI_ops, opsA_nil, opsA_cons, opsA_guardS, gvI_same, slotAt_zero, slotAt_succ, stepA_move, stepA_assign, stepA_pick, stepA_binOp, thenV_some, pickV_true, pickV_false, eval_tmp, eval_const, put_some, enterF_succ, aBin_eql, absV_int, absV_bool, Int.reduceBEq, beq_self_eq_true, Nat.reduceEqDiff, if_true, if_false, retA_ret, Tryd.results5, resultsA_1]
        exact hid_mk rfl
end Go.Proofs.YtpobgoeeljknpaaDoor.Pk
