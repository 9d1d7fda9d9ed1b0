/-
  What functions of the program do, told of abstract states. Conditions: as each theorem says.
-/
import Derived.Test.YtpobgoeeljknpaaDoorFlC
import Derived.Test.YtpobgoeeljknpaaDoorFlV
namespace Go.Proofs.YtpobgoeeljknpaaDoor.Pk
open Go Go.Proofs Go.Proofs.YtpobgoeeljknpaaDoor.Ab
set_option linter.unusedVariables false
set_option linter.unusedSimpArgs false

theorem copR_get (r : Rec) : ∀ {m i : Nat} (hi : i < (copR r m).length), (copR r m)[i] = ⟨r.k, w64 (r.v + i), r.t⟩
  | 0, i, hi => by simp [copR] at hi
  | m + 1, i, hi => by
    simp only [copR, List.length_append, copR_len, List.length_cons, List.length_nil] at hi
    simp only [copR]
    by_cases h : i < m
    · rw [List.getElem_append_left (by rw [copR_len]; exact h)]; exact copR_get r _
    · obtain rfl : i = m := by omega
      rw [List.getElem_append_right (by rw [copR_len]; exact Nat.le_refl _)]
      simp [copR_len]
/-- What Apply tells, when it has no error. -/
theorem applyX_keeps {v : Vx} {r : Rec} {L : List Rec} (h : applyX v r = (L, 0)) :
    (v.kind = 1 ∨ v.kind = 10 ∨ v.kind = 2 ∨ v.kind = 3 ∨ v.kind = 4 ∨ v.kind = 5) ∧ L.length ≤ 4 ∧ (v.kind = 1 ∨ v.kind = 10 ∨ v.kind = 2 ∨ v.kind = 5 → L.length = 1) ∧ (v.kind = 3 → L.length ≤ 1) ∧
    ∀ (i : Nat) (hi : i < L.length), L[i].t = r.t ∧ (v.kind ≠ 5 → L[i].k = r.k) ∧ (v.kind ≠ 2 → v.kind ≠ 4 → L[i].v = r.v) ∧ (v.kind = 4 → L[i].v = w64 (r.v + i)) := by
  have one : ∀ x : Rec, ∀ (i : Nat) (hi : i < [x].length), [x][i] = x := fun x i hi => by
    simp at hi; subst hi; rfl
  unfold applyX at h
  split at h
  · rename_i hk
    obtain rfl : [r] = L := (Prod.mk.inj h).1
    refine ⟨by omega, by simp, fun _ => rfl, fun _ => by simp, fun i hi => ?_⟩
    rw [one r i hi]
    exact ⟨rfl, fun _ => rfl, fun _ _ => rfl, fun q => by omega⟩
  · split at h
    · rename_i hk
      split at h
      · split at h
        · rename_i n hv
          obtain rfl : resX v.kind n r = L := (Prod.mk.inj h).1
          rcases hk with q | q | q | q
          · have hG : resX v.kind n r = [⟨r.k, n, r.t⟩] := by simp [resX, q]
            rw [hG]
            refine ⟨by omega, by simp, fun _ => rfl, fun _ => by simp, fun i hi => ?_⟩
            rw [one _ i hi]
            exact ⟨rfl, fun _ => rfl, fun q2 _ => absurd q q2, fun q2 => by omega⟩
          · by_cases hn : n = 0
            · have hG : resX v.kind n r = [] := by simp [resX, q, hn]
              rw [hG]
              exact ⟨by omega, by simp, fun q2 => by omega, fun _ => by simp, fun i hi => by simp at hi⟩
            · have hG : resX v.kind n r = [r] := by simp [resX, q, hn]
              rw [hG]
              refine ⟨by omega, by simp, fun _ => rfl, fun _ => by simp, fun i hi => ?_⟩
              rw [one _ i hi]
              exact ⟨rfl, fun _ => rfl, fun _ _ => rfl, fun q2 => by omega⟩
          · have hG : resX v.kind n r = copR r (min n 4).toNat := by simp [resX, q]
            rw [hG]
            refine ⟨by omega, by rw [copR_len]; omega, fun q2 => by omega, fun q2 => by omega, fun i hi => ?_⟩
            rw [copR_get r hi]
            exact ⟨rfl, fun _ => rfl, fun _ q2 => absurd q q2, fun _ => rfl⟩
          · have hG : resX v.kind n r = [⟨n, r.v, r.t⟩] := by simp [resX, q]
            rw [hG]
            refine ⟨by omega, by simp, fun _ => rfl, fun _ => by simp, fun i hi => ?_⟩
            rw [one _ i hi]
            exact ⟨rfl, fun q2 => absurd q q2, fun _ _ => rfl, fun q2 => by omega⟩
        · have := (Prod.mk.inj h).2
          omega
      · have := (Prod.mk.inj h).2
        omega
    · have := (Prod.mk.inj h).2
      omega

set_option maxHeartbeats 4000000 in
set_option maxRecDepth 10000 in
theorem flowKeeps (v : Vx) (hok : OkE v.e) (r : Rec) (h : AHeap) (hg : KG h) : SCalls Tryd.prog 11 [.agg (encX v), .agg (recE r)] h (fun r h' => r = .bool true) := by
  refine SCalls.enterI (c := _) Tryd.func11 rfl (by kernel_rfl) (by simp) ?_
  obtain ⟨kind, frm, e, n⟩ := v
  have hc : (V.agg (encX ⟨kind, frm, e, n⟩)).cells = some (encX ⟨kind, frm, e, n⟩) := rfl
  have hcr : (V.agg (recE r)).cells = some (recE r) := rfl
  simp only [wpA_region, wpA_seq, seqQ_normal, goI_out, goI_ops, opsA_nil, opsA_cons, stepA_assign, stepA_box, stepA_call, thenH_some, eval_tmp, eval_const, put_some, enterF_zero, enterF_succ, absV_bool, aBox_eq, push_n, Nat.reduceEqDiff, List.map_nil, Option.map_some, if_false, hc, hcr]
  obtain ⟨H, hH⟩ : ∃ x, x = (h.push (.cells (encX ⟨kind, frm, e, n⟩) 58 none)).push (.cells (recE r) 32 none) := ⟨_, rfl⟩
  have g2 : dropC (H.get h.n) 0 = some (encX ⟨kind, frm, e, n⟩) := by rw [hH, get_push2']; rfl
  have gE : dropC (H.get h.n) 2 = some (encE e ++ [.int .i64 n]) := by rw [hH, get_push2']; rfl
  have g3 : H.get (h.n + 1) = .cells (recE r) 32 none := by rw [hH]; exact get_push2
  have kH : Keep h H none_ := by rw [hH]; exact (Keep.push _ _ _).then_push _
  have gH : KG H := hg.keep kH
  have ld0 : loadGo (some none) (some (encX ⟨kind, frm, e, n⟩)) = some (.int .i64 kind) := rfl
  have ldX : loadGo (some (some 6)) (some (encX ⟨kind, frm, e, n⟩)) = some (.agg (encX ⟨kind, frm, e, n⟩)) := by
    have := load_row (e := encX ⟨kind, frm, e, n⟩) (r := []) (encX_len _)
    rwa [List.append_nil] at this
  have ldE : loadGo (some (some 3)) (some (encE e ++ [.int .i64 n])) = some (.agg (encE e)) := load_row (encE_len e)
  have r0 : dropC (AObj.cells (recE r) 32 none) 0 = some (recE r) := rfl
  have r1 : dropC (AObj.cells (recE r) 32 none) 1 = some [.int .i64 r.v, .int .i64 r.t] := rfl
  have r2 : dropC (AObj.cells (recE r) 32 none) 2 = some [.int .i64 r.t] := rfl
  have lr0 : loadGo (some (some 3)) (some (recE r)) = some (.agg (recE r)) := rfl
  have lk0 : loadGo (some none) (some (recE r)) = some (.int .i64 r.k) := rfl
  rw [← hH]
  clear hH
  refine callI_pure cal31 (pShown17 H gH) ?_
  simp only [wpA_region, wpA_seq, seqQ_normal, goI_out, goI_ops, opsA_nil, opsA_cons, stepA_assign, stepA_load, stepA_fieldAddr, stepA_call, thenV_some, eval_tmp, put_some, enterF_succ, aField_eq, fieldGo_ptr, aLoad_eq, aPlace_ptr, Nat.reduceEqDiff, List.map_cons, List.map_nil, Nat.zero_add, if_true, if_false, ft_58_2, lt_25, gE, ldE]
  refine callI_pure cal22 (pCountR _ e H rfl hok) ?_
  by_cases hs : 3000 < IntKind.i64.wrap (szE e : Nat)
  · have c : decide (3000 < IntKind.i64.wrap (szE e : Nat)) = true := by simpa using hs
    simp only [wpA_region, wpA_seq, wpA_cond, wpA_ret, condI_true, seqQ_normal, seqQ_ret, endI_mk, goI_out, goI_ops, opsA_nil, opsA_cons, stepA_move, stepA_assign, stepA_binOp, thenV_some, eval_tmp, eval_const, put_some, enterF_succ, aBin_gtr, absV_int, Nat.reduceEqDiff, if_true, if_false, c, retA_ret, Tryd.results11, resultsA_1]
    exact hid_mk rfl
  have c : decide (3000 < IntKind.i64.wrap (szE e : Nat)) = false := by simpa using hs
  simp only [wpA_skip, wpA_region, wpA_seq, wpA_cond, condI_false, seqQ_normal, goI_out, goI_ops, opsA_nil, opsA_cons, stepA_load, stepA_binOp, stepA_call, thenV_some, eval_tmp, eval_const, put_some, enterF_succ, aBin_gtr, absV_int, aLoad_eq, aPlace_ptr, Nat.reduceEqDiff, List.map_cons, List.map_nil, if_true, if_false, lt_32, lt_58, c, g2, g3, ldX, r0, lr0]
  refine callI_pure cal34 (pApply ⟨kind, frm, e, n⟩ r H gH) ?_
  obtain ⟨L, z, hL⟩ : ∃ L z, applyX ⟨kind, frm, e, n⟩ r = (L, z) := ⟨_, _, rfl⟩
  rw [hL]
  by_cases hz : z = 0
  rotate_left
  · have cz : (z != 0) = true := by simp [hz]
    have hl : L = [] := by
      unfold applyX at hL
      split at hL
      · exact absurd (Prod.mk.inj hL).2.symm hz
      · split at hL
        · split at hL
          · split at hL
            · exact absurd (Prod.mk.inj hL).2.symm hz
            · exact (Prod.mk.inj hL).1.symm
          · exact (Prod.mk.inj hL).1.symm
        · exact (Prod.mk.inj hL).1.symm
    subst hl
    simp only [wpA_region, wpA_seq, wpA_cond, wpA_ret, condI_true, seqQ_normal, seqQ_ret, endI_mk, goI_out, goI_ops, opsA_nil, opsA_cons, opsA_guardS, gvI_same, slotAt_zero, slotAt_succ, stepA_move, stepA_assign, stepA_pick, stepA_binOp, stepA_extract, stepA_len, thenV_some, pickV_true, extV_zero, extV_succ, eval_tmp, eval_const, put_some, enterF_succ, aBin_eql, aBin_neq, absV_int, absV_bool, aLen_imm, Nat.reduceEqDiff, List.length_nil, if_true, if_false, kt_59, apV, cz, retA_ret, Tryd.results11, resultsA_1]
    exact hid_mk rfl
  subst hz
  obtain ⟨hk, l4, l1, l3, hx⟩ := applyX_keeps hL
  simp only at hk l1 l3 hx
  clear hL
  simp only [wpA_skip, wpA_region, wpA_seq, wpA_cond, wpA_block, wpA_loop, condI_false, seqQ_normal, goI_out, goI_ops, opsA_nil, opsA_cons, stepA_move, stepA_assign, stepA_binOp, stepA_extract, thenV_some, extV_zero, extV_succ, eval_tmp, eval_const, put_some, enterF_succ, aBin_neq, absV_int, bne_self_eq_false, Nat.reduceEqDiff, if_true, if_false, apV]
  refine SWp.loopG (α := Nat) (fun i f h' => f 2 = .ptr h.n 0 ∧ f 3 = .ptr (h.n + 1) 0 ∧ f 5 = .bool true ∧ f 6 = .imm L.length (L.flatMap recE) ∧ f 8 = .int .i64 (i : Nat) ∧ i ≤ L.length ∧ h' = H) (fun i => L.length - i) 0 ⟨rfl, rfl, rfl, rfl, rfl, Nat.zero_le _, rfl⟩ ?_
  rintro i f h' ⟨f2, f3, f5, f6, f8, hi, rfl⟩
  refine wpI_sound (by kernel_rfl) ?_
  by_cases hlt : i < L.length
  rotate_left
  · have c3 : decide ((i : Int) < ((L.length : Nat) : Int)) = false := by simp only [decide_eq_false_iff_not]; omega
    have d4 : decide (((L.length : Nat) : Int) ≤ 4) = true := by simp only [decide_eq_true_eq]; omega
    clear hx
    generalize L.flatMap recE = C at *
    rcases hk with q | q | q | q | q | q
    · have d1 : (((L.length : Nat) : Int) == 1) = true := by simp [l1 (.inl q)]
      subst q
      simp only [wpA_region, wpA_seq, wpA_cond, wpA_exit, wpA_ret, condI_false, seqQ_normal, seqQ_exit, blkQ_exit, endI_mk, goE, andThen_exit, goI_out, goI_ops, opsA_nil, opsA_cons, opsA_guardS, gvI_same, gvI_tf, slotAt_zero, slotAt_succ, stepA_move, stepA_assign, stepA_pick, stepA_load, stepA_binOp, stepA_unOp, stepA_fieldAddr, stepA_len, thenV_some, pickV_true, pickV_false, eval_tmp, eval_const, put_some, aBin_eql, aBin_neq, aBin_lss, aBin_leq, aUn_not, absV_int, absV_bool, aField_eq, fieldGo_ptr, aLoad_eq, aPlace_ptr, aLen_imm, Int.reduceBEq, Int.reduceBNe, beq_self_eq_true, Nat.reduceEqDiff, Nat.add_zero, if_true, if_false, Bool.not_true, ft_58_0, kt_59, lt_3, f2, f5, f6, f8, c3, d4, d1, g2, ld0, retA_ret, Tryd.results11, resultsA_1]
      exact hid_mk rfl
    · have d1 : (((L.length : Nat) : Int) == 1) = true := by simp [l1 (.inr (.inl q))]
      subst q
      simp only [wpA_region, wpA_seq, wpA_cond, wpA_exit, wpA_ret, condI_false, seqQ_normal, seqQ_exit, blkQ_exit, endI_mk, goE, andThen_exit, goI_out, goI_ops, opsA_nil, opsA_cons, opsA_guardS, gvI_same, gvI_tf, slotAt_zero, slotAt_succ, stepA_move, stepA_assign, stepA_pick, stepA_load, stepA_binOp, stepA_unOp, stepA_fieldAddr, stepA_len, thenV_some, pickV_true, pickV_false, eval_tmp, eval_const, put_some, aBin_eql, aBin_neq, aBin_lss, aBin_leq, aUn_not, absV_int, absV_bool, aField_eq, fieldGo_ptr, aLoad_eq, aPlace_ptr, aLen_imm, Int.reduceBEq, Int.reduceBNe, beq_self_eq_true, Nat.reduceEqDiff, Nat.add_zero, if_true, if_false, Bool.not_true, ft_58_0, kt_59, lt_3, f2, f5, f6, f8, c3, d4, d1, g2, ld0, retA_ret, Tryd.results11, resultsA_1]
      exact hid_mk rfl
    · have d1 : (((L.length : Nat) : Int) == 1) = true := by simp [l1 (.inr (.inr (.inl q)))]
      subst q
      simp only [wpA_region, wpA_seq, wpA_cond, wpA_exit, wpA_ret, condI_false, seqQ_normal, seqQ_exit, blkQ_exit, endI_mk, goE, andThen_exit, goI_out, goI_ops, opsA_nil, opsA_cons, opsA_guardS, gvI_same, gvI_tf, slotAt_zero, slotAt_succ, stepA_move, stepA_assign, stepA_pick, stepA_load, stepA_binOp, stepA_unOp, stepA_fieldAddr, stepA_len, thenV_some, pickV_true, pickV_false, eval_tmp, eval_const, put_some, aBin_eql, aBin_neq, aBin_lss, aBin_leq, aUn_not, absV_int, absV_bool, aField_eq, fieldGo_ptr, aLoad_eq, aPlace_ptr, aLen_imm, Int.reduceBNe, beq_self_eq_true, Nat.reduceEqDiff, Nat.add_zero, if_true, if_false, Bool.not_true, ft_58_0, kt_59, lt_3, f2, f5, f6, f8, c3, d4, d1, g2, ld0, retA_ret, Tryd.results11, resultsA_1]
      exact hid_mk rfl
    · have d1 : decide (((L.length : Nat) : Int) ≤ 1) = true := by have := l3 q; simp only [decide_eq_true_eq]; omega
      subst q
      simp only [wpA_region, wpA_seq, wpA_cond, wpA_exit, wpA_ret, condI_false, seqQ_normal, seqQ_exit, blkQ_exit, endI_mk, goE, andThen_exit, goI_out, goI_ops, opsA_nil, opsA_cons, opsA_guardS, gvI_same, gvI_tf, slotAt_zero, slotAt_succ, stepA_move, stepA_assign, stepA_pick, stepA_load, stepA_binOp, stepA_unOp, stepA_fieldAddr, stepA_len, thenV_some, pickV_true, pickV_false, eval_tmp, eval_const, put_some, aBin_eql, aBin_neq, aBin_lss, aBin_leq, aUn_not, absV_int, absV_bool, aField_eq, fieldGo_ptr, aLoad_eq, aPlace_ptr, aLen_imm, Int.reduceBEq, bne_self_eq_false, Nat.reduceEqDiff, Nat.add_zero, if_true, if_false, Bool.not_false, ft_58_0, kt_59, lt_3, f2, f5, f6, f8, c3, d4, d1, g2, ld0, retA_ret, Tryd.results11, resultsA_1]
      exact hid_mk rfl
    · subst q
      simp only [wpA_region, wpA_seq, wpA_cond, wpA_exit, wpA_ret, condI_false, seqQ_normal, seqQ_exit, blkQ_exit, endI_mk, goE, andThen_exit, goI_out, goI_ops, opsA_nil, opsA_cons, opsA_guardS, gvI_same, gvI_tf, slotAt_zero, slotAt_succ, stepA_move, stepA_assign, stepA_pick, stepA_load, stepA_binOp, stepA_unOp, stepA_fieldAddr, stepA_len, thenV_some, pickV_true, pickV_false, eval_tmp, eval_const, put_some, aBin_eql, aBin_neq, aBin_lss, aBin_leq, aUn_not, absV_int, absV_bool, aField_eq, fieldGo_ptr, aLoad_eq, aPlace_ptr, aLen_imm, Int.reduceBEq, Int.reduceBNe, Nat.reduceEqDiff, Nat.add_zero, if_true, if_false, Bool.not_false, ft_58_0, kt_59, lt_3, f2, f5, f6, f8, c3, d4, g2, ld0, retA_ret, Tryd.results11, resultsA_1]
      exact hid_mk rfl
    · have d1 : (((L.length : Nat) : Int) == 1) = true := by simp [l1 (.inr (.inr (.inr q)))]
      subst q
      simp only [wpA_region, wpA_seq, wpA_cond, wpA_exit, wpA_ret, condI_false, seqQ_normal, seqQ_exit, blkQ_exit, endI_mk, goE, andThen_exit, goI_out, goI_ops, opsA_nil, opsA_cons, opsA_guardS, gvI_same, gvI_tf, slotAt_zero, slotAt_succ, stepA_move, stepA_assign, stepA_pick, stepA_load, stepA_binOp, stepA_unOp, stepA_fieldAddr, stepA_len, thenV_some, pickV_true, pickV_false, eval_tmp, eval_const, put_some, aBin_eql, aBin_neq, aBin_lss, aBin_leq, aUn_not, absV_int, absV_bool, aField_eq, fieldGo_ptr, aLoad_eq, aPlace_ptr, aLen_imm, Int.reduceBEq, Int.reduceBNe, beq_self_eq_true, Nat.reduceEqDiff, Nat.add_zero, if_true, if_false, Bool.not_true, ft_58_0, kt_59, lt_3, f2, f5, f6, f8, c3, d4, d1, g2, ld0, retA_ret, Tryd.results11, resultsA_1]
      exact hid_mk rfl
  · have c3 : decide ((i : Int) < ((L.length : Nat) : Int)) = true := by simp only [decide_eq_true_eq]; omega
    have w2 : IntKind.i64.wrap (((i : Nat) : Int) + 1) = ((i + 1 : Nat) : Int) := by rw [Go.IntWalk.i64_in _ (by omega)]; omega
    have x0 := rec_ix (kk := .i64) hlt
    obtain ⟨xt, xk, xv, x4⟩ := hx i hlt
    clear hx
    generalize L[i] = A at *
    have fA0 : ∀ (Q : List V), fieldGo (some 0) (.at (recE A ++ Q)) = some (.at (recE A ++ Q)) := fun Q => rfl
    have fA1 : ∀ (Q : List V), fieldGo (some 1) (.at (recE A ++ Q)) = some (.at ([.int .i64 A.v, .int .i64 A.t] ++ Q)) := fun Q => rfl
    have fA2 : ∀ (Q : List V), fieldGo (some 2) (.at (recE A ++ Q)) = some (.at ([.int .i64 A.t] ++ Q)) := fun Q => rfl
    have lA0 : ∀ (Q : List V), loadGo (some none) (some (recE A ++ Q)) = some (.int .i64 A.k) := fun Q => rfl
    rcases hk with q | q | q | q | q | q
    · subst q
      have yt := xt
      have yk := xk (by decide)
      have yv := xv (by decide) (by decide)
      simp only [wpA_skip, wpA_region, wpA_seq, wpA_cond, wpA_block, wpA_draw, condI_true, seqQ_normal, goI_out, goI_ops, opsA_nil, opsA_cons, stepA_move, stepA_binOp, stepA_len, thenV_some, eval_tmp, put_some, aBin_lss, aLen_imm, Nat.reduceEqDiff, if_true, if_false, kt_59, f6, f8, c3]
      refine SWp.drawnS none_ [] (.q 0 (.q 1 (.q 2 (.q 3 (.q 4 (.q 5 (.q 6 (.q 7 (.q 8 (.q 9 (.q 10 (.q 11 (.q 12 (.q 13 (.q 14 (.q 15 (.q 16 (.q 17 (.q 18 (.q 19 (.q 20 (.q 21 (.q 22 (.q 23 (.q 24 (.q 25 (.q 26 (.q 27 (.q 28 (.q 29 (.q 30 (.q 31 (.q 32 (.q 33 (.q 34 (.q 35 (.q 36 (.q 37 (.q 38 (.q 39 (.q 40 (.q 41 (.q 42 (.q 43 (.q 44 (.q 45 (.q 46 (.q 47 (.q 48 (.q 49 (.q 50 (.q 51 (.q 52 (.q 53 (.q 54 (.q 55 (.q 56 (.q 57 (.q 58 (.q 59 .done)))))))))))))))))))))))))))))))))))))))))))))))))))))))))))) (by kernel_rfl) (by kernel_rfl) (by kernel_rfl) ?_
      simp only [siI_done, siI_q, sqI_some, mOk_none', implies_true, qI_nil, qI_cons, qI_guard, qgI_same, qgI_ft, thenQ_some, q_move, q_pick, q_load, q_binOp, q_fieldAddr, q_indexAddr, wpA_skip, wpA_region, wpA_cond, condI_false, seqQ_normal, blkQ_normal, endI_mk, andThen_normal, goI_out, goI_ops, goI_mk, opsA_nil, opsA_cons, slotAt_zero, slotAt_succ, stepA_move, stepA_assign, stepA_binOp, thenV_some, pickV_true, pickV_false, eval_tmp, eval_const, put_some, aBin_add, aBin_eql, aBin_neq, absV_int, absV_bool, aField_eq, fieldGo_ptr, aLoad_eq, loadGo_one, aPlace_ptr, aPlace_at, List.getElem?_cons_zero, List.getElem?_cons_succ, Int.reduceBEq, Int.reduceBNe, bne_self_eq_false, Nat.reduceEqDiff, Nat.add_zero, Nat.zero_add, List.nil_append, List.cons_append, true_and, if_true, if_false, ft_32_0, ft_32_1, ft_32_2, ft_58_0, lt_2, lt_3, f2, f3, f6, f8, x0, fA0, fA1, fA2, lA0, g2, ld0, g3, r0, r1, r2, lk0, yt, yk, yv, w2]
      exact hid_mk ⟨i + 1, ⟨f2, f3, f5, f6, rfl, by omega, rfl⟩, by omega⟩
    · subst q
      have yt := xt
      have yk := xk (by decide)
      have yv := xv (by decide) (by decide)
      simp only [wpA_skip, wpA_region, wpA_seq, wpA_cond, wpA_block, wpA_draw, condI_true, seqQ_normal, goI_out, goI_ops, opsA_nil, opsA_cons, stepA_move, stepA_binOp, stepA_len, thenV_some, eval_tmp, put_some, aBin_lss, aLen_imm, Nat.reduceEqDiff, if_true, if_false, kt_59, f6, f8, c3]
      refine SWp.drawnS none_ [] (.q 0 (.q 1 (.q 2 (.q 3 (.q 4 (.q 5 (.q 6 (.q 7 (.q 8 (.q 9 (.q 10 (.q 11 (.q 12 (.q 13 (.q 14 (.q 15 (.q 16 (.q 17 (.q 18 (.q 19 (.q 20 (.q 21 (.q 22 (.q 23 (.q 24 (.q 25 (.q 26 (.q 27 (.q 28 (.q 29 (.q 30 (.q 31 (.q 32 (.q 33 (.q 34 (.q 35 (.q 36 (.q 37 (.q 38 (.q 39 (.q 40 (.q 41 (.q 42 (.q 43 (.q 44 (.q 45 (.q 46 (.q 47 (.q 48 (.q 49 (.q 50 (.q 51 (.q 52 (.q 53 (.q 54 (.q 55 (.q 56 (.q 57 (.q 58 (.q 59 .done)))))))))))))))))))))))))))))))))))))))))))))))))))))))))))) (by kernel_rfl) (by kernel_rfl) (by kernel_rfl) ?_
      simp only [siI_done, siI_q, sqI_some, mOk_none', implies_true, qI_nil, qI_cons, qI_guard, qgI_same, qgI_ft, thenQ_some, q_move, q_pick, q_load, q_binOp, q_fieldAddr, q_indexAddr, wpA_skip, wpA_region, wpA_cond, condI_false, seqQ_normal, blkQ_normal, endI_mk, andThen_normal, goI_out, goI_ops, goI_mk, opsA_nil, opsA_cons, slotAt_zero, slotAt_succ, stepA_move, stepA_assign, stepA_binOp, thenV_some, pickV_true, pickV_false, eval_tmp, eval_const, put_some, aBin_add, aBin_eql, aBin_neq, absV_int, absV_bool, aField_eq, fieldGo_ptr, aLoad_eq, loadGo_one, aPlace_ptr, aPlace_at, List.getElem?_cons_zero, List.getElem?_cons_succ, Int.reduceBEq, Int.reduceBNe, bne_self_eq_false, Nat.reduceEqDiff, Nat.add_zero, Nat.zero_add, List.nil_append, List.cons_append, true_and, if_true, if_false, ft_32_0, ft_32_1, ft_32_2, ft_58_0, lt_2, lt_3, f2, f3, f6, f8, x0, fA0, fA1, fA2, lA0, g2, ld0, g3, r0, r1, r2, lk0, yt, yk, yv, w2]
      exact hid_mk ⟨i + 1, ⟨f2, f3, f5, f6, rfl, by omega, rfl⟩, by omega⟩
    · subst q
      have yt := xt
      have yk := xk (by decide)
      simp only [wpA_skip, wpA_region, wpA_seq, wpA_cond, wpA_block, wpA_draw, condI_true, seqQ_normal, goI_out, goI_ops, opsA_nil, opsA_cons, stepA_move, stepA_binOp, stepA_len, thenV_some, eval_tmp, put_some, aBin_lss, aLen_imm, Nat.reduceEqDiff, if_true, if_false, kt_59, f6, f8, c3]
      refine SWp.drawnS none_ [] (.q 0 (.q 1 (.q 2 (.q 3 (.q 4 (.q 5 (.q 6 (.q 7 (.q 8 (.q 9 (.q 10 (.q 11 (.q 12 (.q 13 (.q 14 (.q 15 (.q 16 (.q 17 (.q 18 (.q 19 (.q 20 (.q 21 (.q 22 (.q 23 (.q 24 (.q 25 (.q 26 (.q 27 (.q 28 (.q 29 (.q 30 (.q 31 (.q 32 (.q 33 (.q 34 (.q 35 (.q 36 (.q 37 (.q 38 (.q 39 (.q 40 (.q 41 (.q 42 (.q 43 (.q 44 (.q 45 (.q 46 (.q 47 (.q 48 (.q 49 (.q 50 (.q 51 (.q 52 (.q 53 (.q 54 (.q 55 (.q 56 (.q 57 (.q 58 (.q 59 .done)))))))))))))))))))))))))))))))))))))))))))))))))))))))))))) (by kernel_rfl) (by kernel_rfl) (by kernel_rfl) ?_
      simp only [siI_done, siI_q, sqI_some, mOk_none', implies_true, qI_nil, qI_cons, qI_guard, qgI_same, qgI_ft, thenQ_some, q_move, q_pick, q_load, q_binOp, q_fieldAddr, q_indexAddr, wpA_skip, wpA_region, wpA_cond, condI_false, seqQ_normal, blkQ_normal, endI_mk, andThen_normal, goI_out, goI_ops, goI_mk, opsA_nil, opsA_cons, slotAt_zero, slotAt_succ, stepA_move, stepA_assign, stepA_binOp, thenV_some, pickV_true, pickV_false, eval_tmp, eval_const, put_some, aBin_add, aBin_eql, aBin_neq, absV_int, absV_bool, aField_eq, fieldGo_ptr, aLoad_eq, loadGo_one, aPlace_ptr, aPlace_at, List.getElem?_cons_zero, List.getElem?_cons_succ, Int.reduceBEq, Int.reduceBNe, bne_self_eq_false, Nat.reduceEqDiff, Nat.add_zero, Nat.zero_add, List.nil_append, List.cons_append, true_and, if_true, if_false, ft_32_0, ft_32_2, ft_58_0, lt_2, lt_3, f2, f3, f6, f8, x0, fA0, fA2, lA0, g2, ld0, g3, r0, r2, lk0, yt, yk, w2]
      exact hid_mk ⟨i + 1, ⟨f2, f3, f5, f6, rfl, by omega, rfl⟩, by omega⟩
    · subst q
      have yt := xt
      have yk := xk (by decide)
      have yv := xv (by decide) (by decide)
      simp only [wpA_skip, wpA_region, wpA_seq, wpA_cond, wpA_block, wpA_draw, condI_true, seqQ_normal, goI_out, goI_ops, opsA_nil, opsA_cons, stepA_move, stepA_binOp, stepA_len, thenV_some, eval_tmp, put_some, aBin_lss, aLen_imm, Nat.reduceEqDiff, if_true, if_false, kt_59, f6, f8, c3]
      refine SWp.drawnS none_ [] (.q 0 (.q 1 (.q 2 (.q 3 (.q 4 (.q 5 (.q 6 (.q 7 (.q 8 (.q 9 (.q 10 (.q 11 (.q 12 (.q 13 (.q 14 (.q 15 (.q 16 (.q 17 (.q 18 (.q 19 (.q 20 (.q 21 (.q 22 (.q 23 (.q 24 (.q 25 (.q 26 (.q 27 (.q 28 (.q 29 (.q 30 (.q 31 (.q 32 (.q 33 (.q 34 (.q 35 (.q 36 (.q 37 (.q 38 (.q 39 (.q 40 (.q 41 (.q 42 (.q 43 (.q 44 (.q 45 (.q 46 (.q 47 (.q 48 (.q 49 (.q 50 (.q 51 (.q 52 (.q 53 (.q 54 (.q 55 (.q 56 (.q 57 (.q 58 (.q 59 .done)))))))))))))))))))))))))))))))))))))))))))))))))))))))))))) (by kernel_rfl) (by kernel_rfl) (by kernel_rfl) ?_
      simp only [siI_done, siI_q, sqI_some, mOk_none', implies_true, qI_nil, qI_cons, qI_guard, qgI_same, qgI_ft, thenQ_some, q_move, q_pick, q_load, q_binOp, q_fieldAddr, q_indexAddr, wpA_skip, wpA_region, wpA_cond, condI_false, seqQ_normal, blkQ_normal, endI_mk, andThen_normal, goI_out, goI_ops, goI_mk, opsA_nil, opsA_cons, slotAt_zero, slotAt_succ, stepA_move, stepA_assign, stepA_binOp, thenV_some, pickV_true, pickV_false, eval_tmp, eval_const, put_some, aBin_add, aBin_eql, aBin_neq, absV_int, absV_bool, aField_eq, fieldGo_ptr, aLoad_eq, loadGo_one, aPlace_ptr, aPlace_at, List.getElem?_cons_zero, List.getElem?_cons_succ, Int.reduceBEq, Int.reduceBNe, bne_self_eq_false, Nat.reduceEqDiff, Nat.add_zero, Nat.zero_add, List.nil_append, List.cons_append, true_and, if_true, if_false, ft_32_0, ft_32_1, ft_32_2, ft_58_0, lt_2, lt_3, f2, f3, f6, f8, x0, fA0, fA1, fA2, lA0, g2, ld0, g3, r0, r1, r2, lk0, yt, yk, yv, w2]
      exact hid_mk ⟨i + 1, ⟨f2, f3, f5, f6, rfl, by omega, rfl⟩, by omega⟩
    · subst q
      have yt := xt
      have yk := xk (by decide)
      have yv := x4 rfl
      unfold w64 at yv
      simp only [wpA_skip, wpA_region, wpA_seq, wpA_cond, wpA_block, wpA_draw, condI_true, seqQ_normal, goI_out, goI_ops, opsA_nil, opsA_cons, stepA_move, stepA_binOp, stepA_len, thenV_some, eval_tmp, put_some, aBin_lss, aLen_imm, Nat.reduceEqDiff, if_true, if_false, kt_59, f6, f8, c3]
      refine SWp.drawnS none_ [] (.q 0 (.q 1 (.q 2 (.q 3 (.q 4 (.q 5 (.q 6 (.q 7 (.q 8 (.q 9 (.q 10 (.q 11 (.q 12 (.q 13 (.q 14 (.q 15 (.q 16 (.q 17 (.q 18 (.q 19 (.q 20 (.q 21 (.q 22 (.q 23 (.q 24 (.q 25 (.q 26 (.q 27 (.q 28 (.q 29 (.q 30 (.q 31 (.q 32 (.q 33 (.q 34 (.q 35 (.q 36 (.q 37 (.q 38 (.q 39 (.q 40 (.q 41 (.q 42 (.q 43 (.q 44 (.q 45 (.q 46 (.q 47 (.q 48 (.q 49 (.q 50 (.q 51 (.q 52 (.q 53 (.q 54 (.q 55 (.q 56 (.q 57 (.q 58 (.q 59 .done)))))))))))))))))))))))))))))))))))))))))))))))))))))))))))) (by kernel_rfl) (by kernel_rfl) (by kernel_rfl) ?_
      simp only [siI_done, siI_q, sqI_some, mOk_none', implies_true, qI_nil, qI_cons, qI_guard, qgI_same, qgI_ft, thenQ_some, q_move, q_pick, q_load, q_binOp, q_fieldAddr, q_indexAddr, wpA_skip, wpA_region, wpA_cond, condI_false, seqQ_normal, blkQ_normal, endI_mk, andThen_normal, goI_out, goI_ops, goI_mk, opsA_nil, opsA_cons, slotAt_zero, slotAt_succ, stepA_move, stepA_assign, stepA_binOp, thenV_some, pickV_true, pickV_false, eval_tmp, eval_const, put_some, aBin_add, aBin_eql, aBin_neq, absV_int, absV_bool, aField_eq, fieldGo_ptr, aLoad_eq, loadGo_one, aPlace_ptr, aPlace_at, List.getElem?_cons_zero, List.getElem?_cons_succ, Int.reduceBNe, bne_self_eq_false, beq_self_eq_true, Nat.reduceEqDiff, Nat.add_zero, Nat.zero_add, List.nil_append, List.cons_append, true_and, if_true, if_false, ft_32_0, ft_32_1, ft_32_2, ft_58_0, lt_2, lt_3, f2, f3, f6, f8, x0, fA0, fA1, fA2, lA0, g2, ld0, g3, r0, r1, r2, lk0, yt, yk, yv, w2]
      exact hid_mk ⟨i + 1, ⟨f2, f3, f5, f6, rfl, by omega, rfl⟩, by omega⟩
    · subst q
      have yt := xt
      have yv := xv (by decide) (by decide)
      simp only [wpA_skip, wpA_region, wpA_seq, wpA_cond, wpA_block, wpA_draw, condI_true, seqQ_normal, goI_out, goI_ops, opsA_nil, opsA_cons, stepA_move, stepA_binOp, stepA_len, thenV_some, eval_tmp, put_some, aBin_lss, aLen_imm, Nat.reduceEqDiff, if_true, if_false, kt_59, f6, f8, c3]
      refine SWp.drawnS none_ [] (.q 0 (.q 1 (.q 2 (.q 3 (.q 4 (.q 5 (.q 6 (.q 7 (.q 8 (.q 9 (.q 10 (.q 11 (.q 12 (.q 13 (.q 14 (.q 15 (.q 16 (.q 17 (.q 18 (.q 19 (.q 20 (.q 21 (.q 22 (.q 23 (.q 24 (.q 25 (.q 26 (.q 27 (.q 28 (.q 29 (.q 30 (.q 31 (.q 32 (.q 33 (.q 34 (.q 35 (.q 36 (.q 37 (.q 38 (.q 39 (.q 40 (.q 41 (.q 42 (.q 43 (.q 44 (.q 45 (.q 46 (.q 47 (.q 48 (.q 49 (.q 50 (.q 51 (.q 52 (.q 53 (.q 54 (.q 55 (.q 56 (.q 57 (.q 58 (.q 59 .done)))))))))))))))))))))))))))))))))))))))))))))))))))))))))))) (by kernel_rfl) (by kernel_rfl) (by kernel_rfl) ?_
      simp only [siI_done, siI_q, sqI_some, mOk_none', implies_true, qI_nil, qI_cons, qI_guard, qgI_same, qgI_ft, thenQ_some, q_move, q_pick, q_load, q_binOp, q_fieldAddr, q_indexAddr, wpA_skip, wpA_region, wpA_cond, condI_false, seqQ_normal, blkQ_normal, endI_mk, andThen_normal, goI_out, goI_ops, goI_mk, opsA_nil, opsA_cons, slotAt_zero, slotAt_succ, stepA_move, stepA_assign, stepA_binOp, thenV_some, pickV_true, pickV_false, eval_tmp, eval_const, put_some, aBin_add, aBin_eql, aBin_neq, absV_int, absV_bool, aField_eq, fieldGo_ptr, aLoad_eq, loadGo_one, aPlace_ptr, aPlace_at, List.getElem?_cons_zero, List.getElem?_cons_succ, Int.reduceBEq, Int.reduceBNe, bne_self_eq_false, Nat.reduceEqDiff, Nat.add_zero, Nat.zero_add, List.nil_append, List.cons_append, true_and, if_true, if_false, ft_32_1, ft_32_2, ft_58_0, lt_2, lt_3, f2, f3, f6, f8, x0, fA1, fA2, g2, ld0, g3, r1, r2, yt, yv, w2]
      exact hid_mk ⟨i + 1, ⟨f2, f3, f5, f6, rfl, by omega, rfl⟩, by omega⟩
end Go.Proofs.YtpobgoeeljknpaaDoor.Pk
