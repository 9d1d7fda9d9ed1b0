/-
  What functions of the program do, told of abstract states. Conditions: as each theorem says.
-/
import Derived.Test.YthnleejpeocaeaaDoorFlC
import Derived.Test.YthnleejpeocaeaaDoorFlV
namespace Go.Proofs.YthnleejpeocaeaaDoor.Pk
open Go Go.Proofs Go.Proofs.YthnleejpeocaeaaDoor.Ab
set_option linter.unusedVariables false
set_option linter.unusedSimpArgs false

/-- One record more behind nothing. -/
theorem app1 (h : AHeap) (k v t : Int) : ∃ x h', aAppend Tryd.prog 28 28 .snil (.sl h.n 0 1 1) (h.push (.cells [.int .i64 k, .int .i64 v, .int .i64 t] 24 none)) = some (x, h') ∧ Acc h h' 24 3 x (recE ⟨k, v, t⟩) :=
  Acc.elemM (P := Tryd.prog) sl_28 (Acc.nil (Keep.refl h none_)) (xs := [.int .i64 k, .int .i64 v, .int .i64 t]) (by decide) rfl rfl (fun m hm => by
    have hm' : m * 3 = 0 + 3 := hm
    show m * 24 ≤ 140737488355328 ∧ m ≤ 140737488355328
    omega)

set_option maxHeartbeats 2000000 in
set_option maxRecDepth 10000 in
theorem pApplyR (v : Vx) (hoe : OkE v.e) (r : Rec) (i1 : inR r.k) (i2 : inR r.v) (i3 : inR r.t) (h : AHeap) : Pure Tryd.prog 16 [.agg (encX v), .agg (recE r)] h (apV (applyX v r)) := by
  refine Pure.of (apV_clo _) ?_
  refine SCalls.enterI (c := _) Tryd.func16 rfl (by kernel_rfl) (by simp) ?_
  obtain ⟨kind, frm, e, n⟩ := v
  have hc : (V.agg (encX ⟨kind, frm, e, n⟩)).cells = some (encX ⟨kind, frm, e, n⟩) := rfl
  simp only [wpA_region, wpA_seq, seqQ_normal, goI_out, goI_ops, opsA_nil, opsA_cons, stepA_assign, stepA_box, stepA_load, stepA_fieldAddr, thenV_some, thenH_some, eval_tmp, eval_const, put_some, enterF_zero, enterF_succ, absV_int, absV_snil, cells_agg, aField_eq, fieldGo_ptr, aLoad_eq, aPlace_ptr, dropC_cells, aBox_eq, push_n, get_push2', Nat.reduceEqDiff, Option.map_some, Nat.add_zero, Nat.zero_le, List.drop_zero, if_true, if_false, ft_44_0, lt_3, recE, hc]
  obtain ⟨H, hH⟩ : ∃ x, x = (h.push (.cells (encX ⟨kind, frm, e, n⟩) 44 none)).push (.cells [.int .i64 r.k, .int .i64 r.v, .int .i64 r.t] 24 none) := ⟨_, rfl⟩
  have g2 : dropC (H.get h.n) 0 = some (encX ⟨kind, frm, e, n⟩) := by rw [hH, get_push2']; rfl
  have gE : dropC (H.get h.n) 2 = some (encE e ++ [.int .i64 n]) := by rw [hH, get_push2']; rfl
  have g3 : H.get (h.n + 1) = .cells [.int .i64 r.k, .int .i64 r.v, .int .i64 r.t] 24 none := by rw [hH]; exact get_push2
  have kH : Keep h H none_ := by rw [hH]; exact (Keep.push _ _ _).then_push _
  have nH : H.n = h.n + 1 + 1 := by rw [hH]; rfl
  have ld0 : loadGo (some none) (some (encX ⟨kind, frm, e, n⟩)) = some (.int .i64 kind) := rfl
  have ldE : loadGo (some (some 3)) (some (encE e ++ [.int .i64 n])) = some (.agg (encE e)) := load_row (encE_len e)
  rw [← hH]
  clear hH hc
  obtain ⟨hh, cc, kk⟩ := cast1 H r
  have lit := litR1 H r.k r.v r.t
  by_cases h1 : kind = 1
  · have c : (kind == 1) = true := by simp [h1]
    have hG : applyX ⟨kind, frm, e, n⟩ r = ([r], 0) := by simp [applyX, h1]
    simp only [wpA_region, wpA_seq, wpA_cond, wpA_ret, condI_true, seqQ_normal, seqQ_ret, endI_mk, goI_out, goI_ops, opsA_nil, opsA_cons, opsA_guardS, gvI_tf, slotAt_zero, slotAt_succ, stepA_move, stepA_assign, stepA_pick, stepA_buildSlice, stepA_load, stepA_binOp, thenV_some, thenH_some, pickV_true, eval_tmp, eval_const, put_some, enterF_succ, aBin_eql, absV_int, absV_bool, aLoad_eq, loadGo_row, aPlace_ptr, dropC_cells, Nat.reduceEqDiff, Nat.reduceAdd, List.map_cons, List.map_nil, Nat.zero_add, Nat.zero_le, List.length_cons, List.length_nil, List.drop_zero, List.take_succ_cons, List.take_nil, if_true, if_false, Nat.le_refl, lt_24, g3, ld0, c, lit, retA_ret, Tryd.results16, resultsA_2]
    exact hid_mk ⟨hh, by rw [hG]; exact Cast.tuple (CastL.cons cc (CastL.refl _ _)), kH.trans' kk⟩
  have c1 : (kind == 1) = false := by simp [h1]
  by_cases h10 : kind = 10
  · have c : (kind == 10) = true := by simp [h10]
    have hG : applyX ⟨kind, frm, e, n⟩ r = ([r], 0) := by simp [applyX, h10]
    simp only [wpA_region, wpA_seq, wpA_cond, wpA_ret, condI_true, seqQ_normal, seqQ_ret, endI_mk, goI_out, goI_ops, opsA_nil, opsA_cons, opsA_guardS, gvI_same, slotAt_zero, slotAt_succ, stepA_move, stepA_assign, stepA_pick, stepA_buildSlice, stepA_load, stepA_binOp, stepA_fieldAddr, thenV_some, thenH_some, pickV_false, eval_tmp, eval_const, put_some, enterF_succ, aBin_eql, absV_int, absV_bool, aField_eq, fieldGo_ptr, aLoad_eq, loadGo_row, aPlace_ptr, dropC_cells, Nat.reduceEqDiff, Nat.reduceAdd, List.map_cons, List.map_nil, Nat.add_zero, Nat.zero_add, Nat.zero_le, List.length_cons, List.length_nil, List.drop_zero, List.take_succ_cons, List.take_nil, if_true, if_false, Nat.le_refl, ft_44_0, lt_24, lt_3, g2, g3, ld0, c1, c, lit, retA_ret, Tryd.results16, resultsA_2]
    exact hid_mk ⟨hh, by rw [hG]; exact Cast.tuple (CastL.cons cc (CastL.refl _ _)), kH.trans' kk⟩
  have c10 : (kind == 10) = false := by simp [h10]
  have hno : (kind < 2 ∨ 5 < kind) → applyX ⟨kind, frm, e, n⟩ r = ([], 1) := fun q => by
    have q1 : ¬ (kind = 1 ∨ kind = 10) := by omega
    have q2 : ¬ (kind = 2 ∨ kind = 3 ∨ kind = 4 ∨ kind = 5) := by omega
    simp only [applyX]
    rw [if_neg q1, if_neg q2]
  by_cases hlo : kind < 2
  · have d1 : decide (kind < 2) = true := by simpa using hlo
    simp only [wpA_skip, wpA_region, wpA_seq, wpA_cond, wpA_ret, condI_true, condI_false, seqQ_normal, seqQ_ret, endI_mk, goI_out, goI_ops, opsA_nil, opsA_cons, opsA_guardS, gvI_same, gvI_tf, slotAt_zero, slotAt_succ, stepA_move, stepA_assign, stepA_pick, stepA_load, stepA_binOp, stepA_fieldAddr, thenV_some, pickV_true, pickV_false, eval_tmp, eval_const, put_some, enterF_succ, aBin_eql, aBin_lss, absV_int, absV_bool, absV_snil, aField_eq, fieldGo_ptr, aLoad_eq, aPlace_ptr, Nat.reduceEqDiff, Nat.add_zero, if_true, if_false, ft_44_0, lt_3, g2, ld0, c1, c10, d1, retA_ret, Tryd.results16, resultsA_2]
    exact hid_mk ⟨_, by rw [hno (.inl hlo)]; exact castNil _ _, kH⟩
  have d1 : decide (kind < 2) = false := by simpa using hlo
  by_cases hhi : 5 < kind
  · have d2 : decide (5 < kind) = true := by simpa using hhi
    simp only [wpA_skip, wpA_region, wpA_seq, wpA_cond, wpA_ret, condI_true, condI_false, seqQ_normal, seqQ_ret, endI_mk, goI_out, goI_ops, opsA_nil, opsA_cons, opsA_guardS, gvI_same, slotAt_zero, slotAt_succ, stepA_move, stepA_assign, stepA_pick, stepA_load, stepA_binOp, stepA_fieldAddr, thenV_some, pickV_false, eval_tmp, eval_const, put_some, enterF_succ, aBin_eql, aBin_lss, aBin_gtr, absV_int, absV_bool, absV_snil, aField_eq, fieldGo_ptr, aLoad_eq, aPlace_ptr, Nat.reduceEqDiff, Nat.add_zero, if_true, if_false, ft_44_0, lt_3, g2, ld0, c1, c10, d1, d2, retA_ret, Tryd.results16, resultsA_2]
    exact hid_mk ⟨_, by rw [hno (.inr hhi)]; exact castNil _ _, kH⟩
  have d2 : decide (5 < kind) = false := by simpa using hhi
  have hk : kind = 2 ∨ kind = 3 ∨ kind = 4 ∨ kind = 5 := by omega
  have hG : applyX ⟨kind, frm, e, n⟩ r = (if mayX e = true then (match valF r.k r.v r.t 0 16 e with | some n => (resX kind n r, (0 : Int)) | none => ([], 10)) else ([], 1)) := by
    have : ¬ (kind = 1 ∨ kind = 10) := fun q => by rcases q with q | q; exact h1 q; exact h10 q
    simp only [applyX]
    rw [if_neg this, if_pos hk]
    cases mayX e with
    | false => rfl
    | true => cases valF r.k r.v r.t 0 16 e <;> rfl
  have hE := pEvalR e hoe r.k r.v r.t 0 i1 i2 i3 (by unfold inR; omega) H
  unfold evR at hE
  cases hm : mayX e with
  | false =>
    rw [hm] at hE hG
    simp only [Bool.false_eq_true, if_false] at hE hG
    simp only [wpA_skip, wpA_region, wpA_seq, wpA_cond, condI_false, seqQ_normal, goI_out, goI_ops, opsA_nil, opsA_cons, opsA_guardS, gvI_same, slotAt_zero, slotAt_succ, stepA_move, stepA_pick, stepA_load, stepA_binOp, stepA_fieldAddr, stepA_call, thenV_some, pickV_false, eval_tmp, eval_const, put_some, enterF_succ, aBin_eql, aBin_lss, aBin_gtr, absV_int, absV_bool, aField_eq, fieldGo_ptr, aLoad_eq, loadGo_row, aPlace_ptr, dropC_cells, Nat.reduceEqDiff, Nat.reduceAdd, List.map_cons, List.map_nil, Nat.add_zero, Nat.zero_add, Nat.zero_le, List.length_cons, List.length_nil, List.drop_zero, List.take_succ_cons, List.take_nil, if_true, if_false, Nat.le_refl, ft_44_0, ft_44_2, lt_24, lt_3, lt_40, g2, g3, gE, ld0, ldE, c1, c10, d1, d2]
    refine callI_pure cal21 hE ?_
    simp only [wpA_region, wpA_seq, wpA_cond, wpA_ret, condI_true, seqQ_normal, seqQ_ret, endI_mk, goI_out, goI_ops, opsA_nil, opsA_cons, stepA_move, stepA_assign, stepA_binOp, stepA_extract, thenV_some, extV_zero, extV_succ, eval_tmp, eval_const, put_some, enterF_succ, aBin_neq, absV_int, absV_snil, Int.reduceBNe, Nat.reduceEqDiff, if_true, if_false, retA_ret, Tryd.results16, resultsA_2]
    exact hid_mk ⟨_, by rw [hG]; exact castNil _ _, kH⟩
  | true =>
  rw [hm] at hE hG
  simp only [if_true] at hE hG
  cases hv : valF r.k r.v r.t 0 16 e with
  | none =>
    rw [hv] at hE hG
    simp only [wpA_skip, wpA_region, wpA_seq, wpA_cond, condI_false, seqQ_normal, goI_out, goI_ops, opsA_nil, opsA_cons, opsA_guardS, gvI_same, slotAt_zero, slotAt_succ, stepA_move, stepA_pick, stepA_load, stepA_binOp, stepA_fieldAddr, stepA_call, thenV_some, pickV_false, eval_tmp, eval_const, put_some, enterF_succ, aBin_eql, aBin_lss, aBin_gtr, absV_int, absV_bool, aField_eq, fieldGo_ptr, aLoad_eq, loadGo_row, aPlace_ptr, dropC_cells, Nat.reduceEqDiff, Nat.reduceAdd, List.map_cons, List.map_nil, Nat.add_zero, Nat.zero_add, Nat.zero_le, List.length_cons, List.length_nil, List.drop_zero, List.take_succ_cons, List.take_nil, if_true, if_false, Nat.le_refl, ft_44_0, ft_44_2, lt_24, lt_3, lt_40, g2, g3, gE, ld0, ldE, c1, c10, d1, d2]
    refine callI_pure cal21 hE ?_
    simp only [wpA_region, wpA_seq, wpA_cond, wpA_ret, condI_true, seqQ_normal, seqQ_ret, endI_mk, goI_out, goI_ops, opsA_nil, opsA_cons, stepA_move, stepA_assign, stepA_binOp, stepA_extract, thenV_some, extV_zero, extV_succ, eval_tmp, eval_const, put_some, enterF_succ, aBin_neq, absV_int, absV_snil, Int.reduceBNe, Nat.reduceEqDiff, if_true, if_false, evO, retA_ret, Tryd.results16, resultsA_2]
    exact hid_mk ⟨_, by rw [hG]; exact castNil _ _, kH⟩
  | some m =>
  rw [hv] at hE hG
  simp only at hG
  rcases hk with q | q | q | q
  · subst q
    have hR : resX 2 m r = [⟨r.k, m, r.t⟩] := by simp [resX]
    rw [hR] at hG
    have lit1 := litR1 H r.k m r.t
    obtain ⟨x, H2, q1, a1⟩ := app1 H (r.k) (m) (r.t)
    obtain ⟨H3, c3, k3⟩ := a1.cast (n := 1) rfl (by decide)
    have y2 := (a1.keep.get h.n (by omega) (by simp [none_]))
    have e2 : dropC (H2.get h.n) 0 = some (encX ⟨2, frm, e, n⟩) := by rw [y2]; exact g2
    simp only [wpA_skip, wpA_region, wpA_seq, wpA_cond, condI_false, seqQ_normal, goI_out, goI_ops, opsA_nil, opsA_cons, opsA_guardS, gvI_same, slotAt_zero, slotAt_succ, stepA_move, stepA_pick, stepA_load, stepA_binOp, stepA_fieldAddr, stepA_call, thenV_some, pickV_false, eval_tmp, eval_const, put_some, enterF_succ, aBin_eql, aBin_lss, aBin_gtr, absV_int, absV_bool, aField_eq, fieldGo_ptr, aLoad_eq, loadGo_row, aPlace_ptr, dropC_cells, Int.reduceBEq, Int.reduceLT, decide_false, Nat.reduceEqDiff, Nat.reduceAdd, List.map_cons, List.map_nil, Nat.add_zero, Nat.zero_add, Nat.zero_le, List.length_cons, List.length_nil, List.drop_zero, List.take_succ_cons, List.take_nil, if_true, if_false, Nat.le_refl, ft_44_0, ft_44_2, lt_24, lt_3, lt_40, g2, g3, gE, ld0, ldE]
    refine callI_pure cal21 hE ?_
    simp only [wpA_skip, wpA_region, wpA_seq, wpA_cond, wpA_block, wpA_loop, condI_true, condI_false, seqQ_normal, goI_out, goI_ops, opsA_nil, opsA_cons, opsA_guardS, gvI_ft, slotAt_zero, slotAt_succ, stepA_move, stepA_assign, stepA_pick, stepA_build, stepA_buildSlice, stepA_load, stepA_binOp, stepA_fieldAddr, stepA_extract, stepA_append, thenV_some, thenH_some, pickV_false, extV_zero, extV_succ, eval_tmp, eval_const, put_some, enterF_succ, aBin_eql, aBin_neq, absV_int, absV_bool, absV_snil, cells_int, aField_eq, fieldGo_ptr, aLoad_eq, loadGo_one, aPlace_ptr, dropC_cells, setAll_nil, setAll_cons, aBuild_go, aFill_nil, aFill_cons, fillGo_some, buildGo_struct, List.getElem?_cons_zero, List.getElem?_cons_succ, Int.reduceBEq, bne_self_eq_false, beq_self_eq_true, Nat.reduceEqDiff, Nat.reduceAdd, Nat.reduceLeDiff, List.map_cons, List.map_nil, Option.map_some, Nat.add_zero, Nat.zero_add, Nat.zero_le, List.length_cons, List.length_nil, List.drop_zero, List.drop_succ_cons, List.set_cons_zero, List.set_cons_succ, and_self, if_true, if_false, Nat.le_refl, ft_24_0, ft_24_2, ft_44_0, lt_2, lt_3, pl_24, zc_24, evO, g2, g3, ld0, lit1, q1, e2]
    refine SWp.loopG (α := Unit) (fun _ f h' => f 2 = .ptr h.n 0 ∧ f 6 = .int .i64 m ∧ f 8 = x ∧ f 9 = .int .i64 0 ∧ h' = H2) (fun _ => 0) () ⟨rfl, rfl, rfl, rfl, rfl⟩ ?_
    rintro _ f h' ⟨f2, f6, f8, f9, rfl⟩
    refine wpI_sound (by kernel_rfl) ?_
    by_cases hm0 : 0 < m
    · have z : decide (0 < m) = true := by simpa using hm0
      simp only [wpA_region, wpA_seq, wpA_cond, wpA_exit, wpA_ret, condI_false, seqQ_normal, seqQ_exit, blkQ_exit, endI_mk, goE, andThen_exit, goI_out, goI_ops, opsA_nil, opsA_cons, opsA_guardS, gvI_same, slotAt_zero, slotAt_succ, stepA_move, stepA_assign, stepA_pick, stepA_load, stepA_binOp, stepA_fieldAddr, thenV_some, pickV_true, eval_tmp, eval_const, put_some, aBin_eql, aBin_lss, absV_int, absV_bool, aField_eq, fieldGo_ptr, aLoad_eq, aPlace_ptr, Int.reduceBEq, Int.reduceLT, decide_true, Nat.reduceEqDiff, Nat.add_zero, if_true, if_false, ft_44_0, lt_3, f2, f6, f8, f9, z, e2, ld0, retA_ret, Tryd.results16, resultsA_2]
      exact hid_mk ⟨H3, by rw [hG]; exact Cast.tuple (CastL.cons c3 (CastL.refl _ _)), kH.trans' k3⟩
    · have z : decide (0 < m) = false := by simpa using hm0
      simp only [wpA_region, wpA_seq, wpA_cond, wpA_exit, wpA_ret, condI_false, seqQ_normal, seqQ_exit, blkQ_exit, endI_mk, goE, andThen_exit, goI_out, goI_ops, opsA_nil, opsA_cons, opsA_guardS, gvI_ft, slotAt_zero, slotAt_succ, stepA_move, stepA_assign, stepA_pick, stepA_binOp, thenV_some, pickV_false, eval_tmp, eval_const, put_some, aBin_lss, absV_int, absV_bool, Nat.reduceEqDiff, if_true, if_false, f6, f8, f9, z, retA_ret, Tryd.results16, resultsA_2]
      exact hid_mk ⟨H3, by rw [hG]; exact Cast.tuple (CastL.cons c3 (CastL.refl _ _)), kH.trans' k3⟩
  · subst q
    by_cases hm3 : m = 0
    · have cz : (m != 0) = false := by simp [hm3]
      have hR : resX 3 m r = [] := by simp [resX, hm3]
      rw [hR] at hG
      simp only [wpA_skip, wpA_region, wpA_seq, wpA_cond, condI_false, seqQ_normal, goI_out, goI_ops, opsA_nil, opsA_cons, opsA_guardS, gvI_same, slotAt_zero, slotAt_succ, stepA_move, stepA_pick, stepA_load, stepA_binOp, stepA_fieldAddr, stepA_call, thenV_some, pickV_false, eval_tmp, eval_const, put_some, enterF_succ, aBin_eql, aBin_lss, aBin_gtr, absV_int, absV_bool, aField_eq, fieldGo_ptr, aLoad_eq, loadGo_row, aPlace_ptr, dropC_cells, Int.reduceBEq, Int.reduceLT, decide_false, Nat.reduceEqDiff, Nat.reduceAdd, List.map_cons, List.map_nil, Nat.add_zero, Nat.zero_add, Nat.zero_le, List.length_cons, List.length_nil, List.drop_zero, List.take_succ_cons, List.take_nil, if_true, if_false, Nat.le_refl, ft_44_0, ft_44_2, lt_24, lt_3, lt_40, g2, g3, gE, ld0, ldE]
      refine callI_pure cal21 hE ?_
      simp only [wpA_skip, wpA_region, wpA_seq, wpA_cond, wpA_block, wpA_loop, condI_false, seqQ_normal, goI_out, goI_ops, opsA_nil, opsA_cons, opsA_guardS, gvI_same, slotAt_zero, slotAt_succ, stepA_move, stepA_assign, stepA_pick, stepA_load, stepA_binOp, stepA_fieldAddr, stepA_extract, thenV_some, pickV_true, extV_zero, extV_succ, eval_tmp, eval_const, put_some, enterF_succ, aBin_eql, aBin_neq, absV_int, absV_bool, absV_snil, aField_eq, fieldGo_ptr, aLoad_eq, aPlace_ptr, Int.reduceBEq, bne_self_eq_false, beq_self_eq_true, Nat.reduceEqDiff, Nat.add_zero, if_true, if_false, ft_44_0, lt_3, evO, g2, ld0, cz]
      refine SWp.loopG (α := Unit) (fun _ f h' => f 2 = .ptr h.n 0 ∧ f 6 = .int .i64 m ∧ f 8 = .snil ∧ f 9 = .int .i64 0 ∧ h' = H) (fun _ => 0) () ⟨rfl, rfl, rfl, rfl, rfl⟩ ?_
      rintro _ f h' ⟨f2, f6, f8, f9, rfl⟩
      refine wpI_sound (by kernel_rfl) ?_
      have z : decide (0 < m) = false := by simp [hm3]
      simp only [wpA_region, wpA_seq, wpA_cond, wpA_exit, wpA_ret, condI_false, seqQ_normal, seqQ_exit, blkQ_exit, endI_mk, goE, andThen_exit, goI_out, goI_ops, opsA_nil, opsA_cons, opsA_guardS, gvI_ft, slotAt_zero, slotAt_succ, stepA_move, stepA_assign, stepA_pick, stepA_binOp, thenV_some, pickV_false, eval_tmp, eval_const, put_some, aBin_lss, absV_int, absV_bool, Nat.reduceEqDiff, if_true, if_false, f6, f8, f9, z, retA_ret, Tryd.results16, resultsA_2]
      exact hid_mk ⟨_, by rw [hG]; exact castNil _ _, kH⟩
    · have cz : (m != 0) = true := by simp [hm3]
      have hR : resX 3 m r = [⟨r.k, r.v, r.t⟩] := by simp [resX, hm3]
      rw [hR] at hG
      have lit1 := litR1 H r.k r.v r.t
      obtain ⟨x, H2, q1, a1⟩ := app1 H (r.k) (r.v) (r.t)
      obtain ⟨H3, c3, k3⟩ := a1.cast (n := 1) rfl (by decide)
      have y2 := (a1.keep.get h.n (by omega) (by simp [none_]))
      have e2 : dropC (H2.get h.n) 0 = some (encX ⟨3, frm, e, n⟩) := by rw [y2]; exact g2
      simp only [wpA_skip, wpA_region, wpA_seq, wpA_cond, condI_false, seqQ_normal, goI_out, goI_ops, opsA_nil, opsA_cons, opsA_guardS, gvI_same, slotAt_zero, slotAt_succ, stepA_move, stepA_pick, stepA_load, stepA_binOp, stepA_fieldAddr, stepA_call, thenV_some, pickV_false, eval_tmp, eval_const, put_some, enterF_succ, aBin_eql, aBin_lss, aBin_gtr, absV_int, absV_bool, aField_eq, fieldGo_ptr, aLoad_eq, loadGo_row, aPlace_ptr, dropC_cells, Int.reduceBEq, Int.reduceLT, decide_false, Nat.reduceEqDiff, Nat.reduceAdd, List.map_cons, List.map_nil, Nat.add_zero, Nat.zero_add, Nat.zero_le, List.length_cons, List.length_nil, List.drop_zero, List.take_succ_cons, List.take_nil, if_true, if_false, Nat.le_refl, ft_44_0, ft_44_2, lt_24, lt_3, lt_40, g2, g3, gE, ld0, ldE]
      refine callI_pure cal21 hE ?_
      simp only [wpA_skip, wpA_region, wpA_seq, wpA_cond, wpA_block, wpA_loop, condI_true, condI_false, seqQ_normal, goI_out, goI_ops, opsA_nil, opsA_cons, opsA_guardS, gvI_same, slotAt_zero, slotAt_succ, stepA_move, stepA_assign, stepA_pick, stepA_buildSlice, stepA_load, stepA_binOp, stepA_fieldAddr, stepA_extract, stepA_append, thenV_some, thenH_some, pickV_true, extV_zero, extV_succ, eval_tmp, eval_const, put_some, enterF_succ, aBin_eql, aBin_neq, absV_int, absV_bool, absV_snil, aField_eq, fieldGo_ptr, aLoad_eq, loadGo_row, aPlace_ptr, dropC_cells, Int.reduceBEq, bne_self_eq_false, beq_self_eq_true, Nat.reduceEqDiff, Nat.reduceAdd, List.map_cons, List.map_nil, Nat.add_zero, Nat.zero_add, Nat.zero_le, List.length_cons, List.length_nil, List.drop_zero, List.take_succ_cons, List.take_nil, if_true, if_false, Nat.le_refl, ft_44_0, lt_24, lt_3, evO, g2, g3, ld0, lit1, q1, cz]
      refine SWp.loopG (α := Unit) (fun _ f h' => f 2 = .ptr h.n 0 ∧ f 6 = .int .i64 m ∧ f 8 = x ∧ f 9 = .int .i64 0 ∧ h' = H2) (fun _ => 0) () ⟨rfl, rfl, rfl, rfl, rfl⟩ ?_
      rintro _ f h' ⟨f2, f6, f8, f9, rfl⟩
      refine wpI_sound (by kernel_rfl) ?_
      by_cases hm0 : 0 < m
      · have z : decide (0 < m) = true := by simpa using hm0
        simp only [wpA_region, wpA_seq, wpA_cond, wpA_exit, wpA_ret, condI_false, seqQ_normal, seqQ_exit, blkQ_exit, endI_mk, goE, andThen_exit, goI_out, goI_ops, opsA_nil, opsA_cons, opsA_guardS, gvI_same, slotAt_zero, slotAt_succ, stepA_move, stepA_assign, stepA_pick, stepA_load, stepA_binOp, stepA_fieldAddr, thenV_some, pickV_true, eval_tmp, eval_const, put_some, aBin_eql, aBin_lss, absV_int, absV_bool, aField_eq, fieldGo_ptr, aLoad_eq, aPlace_ptr, Int.reduceBEq, Int.reduceLT, decide_true, Nat.reduceEqDiff, Nat.add_zero, if_true, if_false, ft_44_0, lt_3, f2, f6, f8, f9, z, e2, ld0, retA_ret, Tryd.results16, resultsA_2]
        exact hid_mk ⟨H3, by rw [hG]; exact Cast.tuple (CastL.cons c3 (CastL.refl _ _)), kH.trans' k3⟩
      · have z : decide (0 < m) = false := by simpa using hm0
        simp only [wpA_region, wpA_seq, wpA_cond, wpA_exit, wpA_ret, condI_false, seqQ_normal, seqQ_exit, blkQ_exit, endI_mk, goE, andThen_exit, goI_out, goI_ops, opsA_nil, opsA_cons, opsA_guardS, gvI_ft, slotAt_zero, slotAt_succ, stepA_move, stepA_assign, stepA_pick, stepA_binOp, thenV_some, pickV_false, eval_tmp, eval_const, put_some, aBin_lss, absV_int, absV_bool, Nat.reduceEqDiff, if_true, if_false, f6, f8, f9, z, retA_ret, Tryd.results16, resultsA_2]
        exact hid_mk ⟨H3, by rw [hG]; exact Cast.tuple (CastL.cons c3 (CastL.refl _ _)), kH.trans' k3⟩
  · subst q
    have hR : resX 4 m r = copR r (min m 4).toNat := by simp [resX]
    rw [hR] at hG
    simp only [wpA_skip, wpA_region, wpA_seq, wpA_cond, condI_false, seqQ_normal, goI_out, goI_ops, opsA_nil, opsA_cons, opsA_guardS, gvI_same, slotAt_zero, slotAt_succ, stepA_move, stepA_pick, stepA_load, stepA_binOp, stepA_fieldAddr, stepA_call, thenV_some, pickV_false, eval_tmp, eval_const, put_some, enterF_succ, aBin_eql, aBin_lss, aBin_gtr, absV_int, absV_bool, aField_eq, fieldGo_ptr, aLoad_eq, loadGo_row, aPlace_ptr, dropC_cells, Int.reduceBEq, Int.reduceLT, decide_false, Nat.reduceEqDiff, Nat.reduceAdd, List.map_cons, List.map_nil, Nat.add_zero, Nat.zero_add, Nat.zero_le, List.length_cons, List.length_nil, List.drop_zero, List.take_succ_cons, List.take_nil, if_true, if_false, Nat.le_refl, ft_44_0, ft_44_2, lt_24, lt_3, lt_40, g2, g3, gE, ld0, ldE]
    refine callI_pure cal21 hE ?_
    simp only [wpA_skip, wpA_region, wpA_seq, wpA_cond, wpA_block, wpA_loop, condI_false, seqQ_normal, goI_out, goI_ops, opsA_nil, opsA_cons, opsA_guardS, gvI_ft, slotAt_zero, slotAt_succ, stepA_move, stepA_assign, stepA_pick, stepA_load, stepA_binOp, stepA_fieldAddr, stepA_extract, thenV_some, pickV_false, extV_zero, extV_succ, eval_tmp, eval_const, put_some, enterF_succ, aBin_eql, aBin_neq, absV_int, absV_bool, absV_snil, aField_eq, fieldGo_ptr, aLoad_eq, aPlace_ptr, Int.reduceBEq, bne_self_eq_false, Nat.reduceEqDiff, Nat.add_zero, if_true, if_false, ft_44_0, lt_3, evO, g2, ld0]
    refine SWp.loopG (α := Nat × V) (fun x f h' => f 2 = .ptr h.n 0 ∧ f 3 = .ptr (h.n + 1) 0 ∧ f 6 = .int .i64 m ∧ f 8 = x.2 ∧ f 9 = .int .i64 (x.1 : Nat) ∧ x.1 ≤ (min m 4).toNat ∧ Acc H h' 24 3 x.2 ((copR r x.1).flatMap recE)) (fun x => (min m 4).toNat - x.1) (0, .snil) ⟨rfl, rfl, rfl, rfl, rfl, Nat.zero_le _, Acc.nil (Keep.refl _ _)⟩ ?_
    rintro ⟨i, x⟩ f h1 ⟨f2, f3, f6, f8, f9, hi, a1⟩
    simp only at f8 f9 hi a1
    refine wpI_sound (by kernel_rfl) ?_
    have y2 : dropC (h1.get h.n) 0 = some (encX ⟨4, frm, e, n⟩) := by rw [a1.keep.get h.n (by omega) (by simp [none_])]; exact g2
    have y3 := (a1.keep.get (h.n + 1) (by omega) (by simp [none_])).trans g3
    by_cases hlt : i < (min m 4).toNat
    rotate_left
    · have hin : i = (min m 4).toNat := by omega
      obtain ⟨h2, c, k⟩ := a1.cast (n := (min m 4).toNat) (by rw [rows_len recE_len, copR_len, hin]) (by decide)
      have fin : Cast (.tuple [x, .int .i64 0]) h1 (apV (copR r (min m 4).toNat, 0)) h2 := Cast.tuple (CastL.cons (by rw [hin] at c; simpa [copR_len] using c) (CastL.refl _ _))
      by_cases hm0 : (i : Int) < m
      · have z : decide ((i : Int) < m) = true := by simpa using hm0
        have z4 : decide ((i : Int) < 4) = false := by simp; omega
        simp only [wpA_region, wpA_seq, wpA_cond, wpA_exit, wpA_ret, condI_false, seqQ_normal, seqQ_exit, blkQ_exit, endI_mk, goE, andThen_exit, goI_out, goI_ops, opsA_nil, opsA_cons, opsA_guardS, gvI_same, gvI_ft, slotAt_zero, slotAt_succ, stepA_move, stepA_assign, stepA_pick, stepA_binOp, thenV_some, pickV_true, pickV_false, eval_tmp, eval_const, put_some, aBin_lss, absV_int, absV_bool, Nat.reduceEqDiff, if_true, if_false, f6, f8, f9, z, z4, retA_ret, Tryd.results16, resultsA_2]
        exact hid_mk ⟨h2, by rw [hG]; exact fin, kH.trans' k⟩
      · have z : decide ((i : Int) < m) = false := by simpa using hm0
        simp only [wpA_region, wpA_seq, wpA_cond, wpA_exit, wpA_ret, condI_false, seqQ_normal, seqQ_exit, blkQ_exit, endI_mk, goE, andThen_exit, goI_out, goI_ops, opsA_nil, opsA_cons, opsA_guardS, gvI_ft, slotAt_zero, slotAt_succ, stepA_move, stepA_assign, stepA_pick, stepA_binOp, thenV_some, pickV_false, eval_tmp, eval_const, put_some, aBin_lss, absV_int, absV_bool, Nat.reduceEqDiff, if_true, if_false, f6, f8, f9, z, retA_ret, Tryd.results16, resultsA_2]
        exact hid_mk ⟨h2, by rw [hG]; exact fin, kH.trans' k⟩
    · have z : decide ((i : Int) < m) = true := by simp; omega
      have z4 : decide ((i : Int) < 4) = true := by simp; omega
      have w2 : IntKind.i64.wrap (((i : Nat) : Int) + 1) = ((i + 1 : Nat) : Int) := by rw [Go.IntWalk.i64_in _ (by omega)]; omega
      obtain ⟨x', h2, q1, q2⟩ := Acc.elemM (P := Tryd.prog) sl_28 a1 (xs := [.int .i64 r.k, .int .i64 (w64 (r.v + i)), .int .i64 r.t]) (by decide) rfl rfl (fun m hm => by
        rw [rows_len recE_len, copR_len] at hm
        have hm' : m * 3 = i * 3 + 3 := hm
        show m * 24 ≤ 140737488355328 ∧ m ≤ 140737488355328
        omega)
      have lit1 := litR1 h1 r.k (w64 (r.v + i)) r.t
      unfold w64 at q1 q2 lit1
      simp only [wpA_skip, wpA_region, wpA_seq, wpA_cond, wpA_block, condI_true, seqQ_normal, blkQ_normal, endI_mk, andThen_normal, goI_out, goI_ops, opsA_nil, opsA_cons, opsA_guardS, gvI_same, slotAt_zero, slotAt_succ, stepA_move, stepA_assign, stepA_pick, stepA_build, stepA_buildSlice, stepA_load, stepA_binOp, stepA_fieldAddr, stepA_append, thenV_some, thenH_some, pickV_true, eval_tmp, eval_const, put_some, aBin_add, aBin_eql, aBin_lss, absV_int, absV_bool, cells_int, aField_eq, fieldGo_ptr, aLoad_eq, loadGo_one, aPlace_ptr, dropC_cells, setAll_nil, setAll_cons, aBuild_go, aFill_nil, aFill_cons, fillGo_some, buildGo_struct, List.getElem?_cons_zero, List.getElem?_cons_succ, beq_self_eq_true, Nat.reduceEqDiff, Nat.reduceAdd, Nat.reduceLeDiff, List.map_cons, List.map_nil, Option.map_some, Nat.add_zero, Nat.zero_add, Nat.zero_le, List.length_cons, List.length_nil, List.drop_zero, List.drop_succ_cons, List.set_cons_zero, List.set_cons_succ, and_self, if_true, if_false, Nat.le_refl, ft_24_0, ft_24_1, ft_24_2, ft_44_0, lt_2, lt_3, pl_24, zc_24, f2, f3, f6, f8, f9, z, z4, y2, y3, ld0, lit1, q1, w2]
      exact hid_mk ⟨(i + 1, x'), ⟨f2, f3, f6, rfl, rfl, by simp only; omega, by simp only [copR, List.flatMap_append, List.flatMap_cons, List.flatMap_nil, List.append_nil]; exact q2⟩, by simp only; omega⟩
  · subst q
    have hR : resX 5 m r = [⟨m, r.v, r.t⟩] := by simp [resX]
    rw [hR] at hG
    have lit1 := litR1 H m r.v r.t
    obtain ⟨x, H2, q1, a1⟩ := app1 H (m) (r.v) (r.t)
    obtain ⟨H3, c3, k3⟩ := a1.cast (n := 1) rfl (by decide)
    have y2 := (a1.keep.get h.n (by omega) (by simp [none_]))
    have e2 : dropC (H2.get h.n) 0 = some (encX ⟨5, frm, e, n⟩) := by rw [y2]; exact g2
    simp only [wpA_skip, wpA_region, wpA_seq, wpA_cond, condI_false, seqQ_normal, goI_out, goI_ops, opsA_nil, opsA_cons, opsA_guardS, gvI_same, slotAt_zero, slotAt_succ, stepA_move, stepA_pick, stepA_load, stepA_binOp, stepA_fieldAddr, stepA_call, thenV_some, pickV_false, eval_tmp, eval_const, put_some, enterF_succ, aBin_eql, aBin_lss, aBin_gtr, absV_int, absV_bool, aField_eq, fieldGo_ptr, aLoad_eq, loadGo_row, aPlace_ptr, dropC_cells, Int.reduceBEq, Int.reduceLT, decide_false, Nat.reduceEqDiff, Nat.reduceAdd, List.map_cons, List.map_nil, Nat.add_zero, Nat.zero_add, Nat.zero_le, List.length_cons, List.length_nil, List.drop_zero, List.take_succ_cons, List.take_nil, if_true, if_false, Nat.le_refl, ft_44_0, ft_44_2, lt_24, lt_3, lt_40, g2, g3, gE, ld0, ldE]
    refine callI_pure cal21 hE ?_
    simp only [wpA_skip, wpA_region, wpA_seq, wpA_cond, wpA_block, wpA_loop, condI_true, condI_false, seqQ_normal, goI_out, goI_ops, opsA_nil, opsA_cons, opsA_guardS, gvI_ft, slotAt_zero, slotAt_succ, stepA_move, stepA_assign, stepA_pick, stepA_build, stepA_buildSlice, stepA_load, stepA_binOp, stepA_fieldAddr, stepA_extract, stepA_append, thenV_some, thenH_some, pickV_false, extV_zero, extV_succ, eval_tmp, eval_const, put_some, enterF_succ, aBin_eql, aBin_neq, absV_int, absV_bool, absV_snil, cells_int, aField_eq, fieldGo_ptr, aLoad_eq, loadGo_one, aPlace_ptr, dropC_cells, setAll_nil, setAll_cons, aBuild_go, aFill_nil, aFill_cons, fillGo_some, buildGo_struct, List.getElem?_cons_zero, List.getElem?_cons_succ, Int.reduceBEq, bne_self_eq_false, beq_self_eq_true, Nat.reduceEqDiff, Nat.reduceAdd, Nat.reduceLeDiff, List.map_cons, List.map_nil, Option.map_some, Nat.add_zero, Nat.zero_add, List.length_cons, List.length_nil, List.drop_zero, List.drop_succ_cons, List.set_cons_zero, List.set_cons_succ, and_self, if_true, if_false, Nat.le_refl, ft_24_1, ft_24_2, ft_44_0, lt_2, lt_3, pl_24, zc_24, evO, g2, g3, ld0, lit1, q1, e2]
    refine SWp.loopG (α := Unit) (fun _ f h' => f 2 = .ptr h.n 0 ∧ f 6 = .int .i64 m ∧ f 8 = x ∧ f 9 = .int .i64 0 ∧ h' = H2) (fun _ => 0) () ⟨rfl, rfl, rfl, rfl, rfl⟩ ?_
    rintro _ f h' ⟨f2, f6, f8, f9, rfl⟩
    refine wpI_sound (by kernel_rfl) ?_
    by_cases hm0 : 0 < m
    · have z : decide (0 < m) = true := by simpa using hm0
      simp only [wpA_region, wpA_seq, wpA_cond, wpA_exit, wpA_ret, condI_false, seqQ_normal, seqQ_exit, blkQ_exit, endI_mk, goE, andThen_exit, goI_out, goI_ops, opsA_nil, opsA_cons, opsA_guardS, gvI_same, slotAt_zero, slotAt_succ, stepA_move, stepA_assign, stepA_pick, stepA_load, stepA_binOp, stepA_fieldAddr, thenV_some, pickV_true, eval_tmp, eval_const, put_some, aBin_eql, aBin_lss, absV_int, absV_bool, aField_eq, fieldGo_ptr, aLoad_eq, aPlace_ptr, Int.reduceBEq, Int.reduceLT, decide_true, Nat.reduceEqDiff, Nat.add_zero, if_true, if_false, ft_44_0, lt_3, f2, f6, f8, f9, z, e2, ld0, retA_ret, Tryd.results16, resultsA_2]
      exact hid_mk ⟨H3, by rw [hG]; exact Cast.tuple (CastL.cons c3 (CastL.refl _ _)), kH.trans' k3⟩
    · have z : decide (0 < m) = false := by simpa using hm0
      simp only [wpA_region, wpA_seq, wpA_cond, wpA_exit, wpA_ret, condI_false, seqQ_normal, seqQ_exit, blkQ_exit, endI_mk, goE, andThen_exit, goI_out, goI_ops, opsA_nil, opsA_cons, opsA_guardS, gvI_ft, slotAt_zero, slotAt_succ, stepA_move, stepA_assign, stepA_pick, stepA_binOp, thenV_some, pickV_false, eval_tmp, eval_const, put_some, aBin_lss, absV_int, absV_bool, Nat.reduceEqDiff, if_true, if_false, f6, f8, f9, z, retA_ret, Tryd.results16, resultsA_2]
      exact hid_mk ⟨H3, by rw [hG]; exact Cast.tuple (CastL.cons c3 (CastL.refl _ _)), kH.trans' k3⟩

end Go.Proofs.YthnleejpeocaeaaDoor.Pk
