/-
  What functions of the program do, told of abstract states. Conditions: as each theorem says.
-/
import Derived.Test.YtpjfhfmbhjghcaaGreatDoorExD
namespace Go.Proofs.YtpjfhfmbhjghcaaGreatDoor.Pk
open Go Go.Proofs Go.Proofs.YtpjfhfmbhjghcaaGreatDoor.Ab
set_option linter.unusedVariables false
set_option linter.unusedSimpArgs false

/-! ### The deferred closure -/
theorem eval1_idle (p q : Value) (w : World) : CallsD Tryz.prog 78 #[p, q] .returning w fun e u' w' => e = .returned (.tuple #[]) ∧ u' = .returning ∧ w' = w := by
  refine callsD_of_wpS Tryz.func78 rfl fun c₀ cs hu => ?_
  apply wpS_seq
  apply wpS_region
  simp [wpOpsS, go_sem, recoverD, hu, Tryz.ntmps78, Exit.thenS]
  refine wpS_cond (t := false) (by simp [Act.eval, Array.replicate]) ?_
  simp only [Bool.false_eq_true, if_false]
  refine wpS_of_wp (wp_skip ?_)
  cases c₀
  simp_all [bodyPostS, results, Tryz.results78]
theorem dDefR {h : AHeap} {vx vy : V} {R : AHeap → Prop} (hR : R h) : SDefR Tryz.prog 78 [vx, vy] h R := by
  intro ρ B w0 w args' hw ha
  obtain ⟨p, t1, e1, hp, ha1⟩ := ha.uncons
  obtain ⟨q, t2, rfl, hq, ha2⟩ := ha1.uncons
  have := ha2.eq_nil
  subst this
  obtain rfl : args' = #[p, q] := Array.ext' (by simpa using e1)
  exact (eval1_idle p q w).mono fun e u' w' ⟨h1, h2, h3⟩ => ⟨h1, h2, ρ, h, h3 ▸ hw, Ren.le.refl ρ, hR⟩
theorem dDefP {h : AHeap} {i j : Nat} {a b : Int} (hi : h.get i = .cells [.int .i64 a] 2 none) (hj : h.get j = .cells [.int .i64 b] 32 none) (hij : i ≠ j) {R : AHeap → Prop}
    (hR : R ((h.set i (.cells [.int .i64 0] 2 none)).set j (.cells [.int .i64 10] 32 none))) : SDefP Tryz.prog 78 [.ptr i 0, .ptr j 0] h R := by
  intro ρ B w0 w args' tt vv hw ha
  obtain ⟨p, t1, e1, hp, ha1⟩ := ha.uncons
  obtain ⟨q, t2, rfl, hq, ha2⟩ := ha1.uncons
  have := ha2.eq_nil
  subst this
  obtain rfl : args' = #[p, q] := Array.ext' (by simpa using e1)
  refine callsD_of_wpS Tryz.func78 rfl fun c₀ cs hu => ?_
  apply wpS_seq
  apply wpS_region
  simp [wpOpsS, go_sem, recoverD, hu, Tryz.ntmps78, Exit.thenS]
  refine wpS_cond (t := true) (by simp [Act.eval, Array.replicate]) ?_
  simp only [if_true]
  refine wpS_of_wp ?_
  refine wp_mono (Q := CPost 4 B w0 { ρ with dfr := [] } (fun x f h2 => x = .normal ∧ h2 = (h.set i (.cells [.int .i64 0] 2 none)).set j (.cells [.int .i64 10] 32 none)))
    ((show SWp Tryz.prog 4 _ _ (fun k => if k = 0 then .ptr i 0 else if k = 1 then .ptr j 0 else .top) h from wpI_sound (by kernel_rfl) ?_) { ρ with dfr := [] } B w0 _ w (hw.dfr []) ⟨fun k => ?_, rfl, rfl⟩) ?_
  · have hj' : (h.set i (.cells [.int .i64 0] 2 none)).get j = .cells [.int .i64 b] 32 none := by rw [get_set_ne (Ne.symm hij)]; exact hj
    simp only [wpA_region, endI_mk, goI_out, goI_ops, opsA_nil, opsA_cons, stepA_store, thenS_some, eval_tmp, eval_const, put_none, absV_int, cells_int, one_int, all_nil, all_cons, aStore_eq, storeGo_ptr, setC_row, setAll_nil, setAll_cons, reduceCtorEq, Option.map_some, Nat.zero_add, List.length_cons, List.length_nil, List.set_cons_zero, and_self, if_true, if_false, Bool.and_self, Nat.le_refl, zt_2, zt_32, hi, hj']
  · match k with
    | 0 => exact hp.dfr []
    | 1 => exact hq.dfr []
    | n + 2 => exact .top _
  · rintro e a' w' ⟨ρ', z, f, h2, hx, hw', hf', hl, rfl, rfl⟩
    cases e <;> simp only [XR] at hx
    refine ⟨hf'.defers.trans hl.dfr, _, rfl, .tuple #[], by simp [results, Tryz.results78], rfl, rfl, _, _, hw'.dfr ρ.dfr, hl.dfr_back, hR⟩

set_option maxHeartbeats 1000000 in
set_option maxRecDepth 10000 in
theorem pEval (e : Ex) (rk rv rt acc : Int) (h : AHeap) (hg : KG h) :
    Pure Tryz.prog 40 [.agg (encE e), .agg [.int .i64 rk, .int .i64 rv, .int .i64 rt], .int .i64 acc] h
      (if mayX e then (match valF rk rv rt acc 16 e with | some n => .tuple [.int .i64 n, .int .i64 0] | none => .tuple [.int .i64 0, .int .i64 10]) else .tuple [.int .i64 0, .int .i64 1]) := by
  refine Pure.val (by split <;> (try split) <;> exact Clo.tuple (CloL.cons (Clo.int _ _) (CloL.cons (Clo.int _ _) CloL.nil))) ?_
  have hc : (V.agg (encE e)).cells = some (encE e) := rfl
  have hdr : dropC (AObj.cells (encE e) 27 none) 0 = some (encE e) := by cases e; rfl
  have hld : loadGo (some (some 3)) (some (encE e)) = some (.agg (encE e)) := by cases e; rfl
  obtain ⟨H, hH⟩ : ∃ x, x = (((h.push (.cells (encE e) 27 none)).push (.cells [.int .i64 rk, .int .i64 rv, .int .i64 rt] 38 none)).push (.cells [.int .i64 0] 2 none)).push (.cells [.int .i64 0] 32 none) := ⟨_, rfl⟩
  have g3 : H.get h.n = .cells (encE e) 27 none := by rw [hH]; simp [get_push, push_n]; rw [if_neg (by omega), if_neg (by omega)]
  have g4 : H.get (h.n + 1) = .cells [.int .i64 rk, .int .i64 rv, .int .i64 rt] 38 none := by rw [hH]; simp [get_push, push_n]
  have g6 : H.get (h.n + 1 + 1) = .cells [.int .i64 0] 2 none := by rw [hH]; simp [get_push, push_n]
  have g7 : H.get (h.n + 1 + 1 + 1) = .cells [.int .i64 0] 32 none := by rw [hH]; simp [get_push, push_n]
  have kH : Keep h H none_ := by rw [hH]; exact (((Keep.push _ _ _).then_push _).then_push _).then_push _
  have gH : KG H := by unfold KG; rw [kH.glob]; exact hg
  have kS : ∀ a b, Keep h ((H.set (h.n + 1 + 1) a).set (h.n + 1 + 1 + 1) b) none_ := fun a b => by
    refine ⟨by rw [set_n, set_n]; exact kH.n, fun i hi _ => ?_, by rw [set_glob, set_glob]; exact kH.glob⟩
    rw [get_set_ne (by omega), get_set_ne (by omega)]
    exact kH.get i hi (by simp [none_])
  have g7' : ∀ a, (H.set (h.n + 1 + 1) a).get (h.n + 1 + 1 + 1) = .cells [.int .i64 0] 32 none := fun a => by rw [get_set_ne (by omega)]; exact g7
  have g6' : ∀ a b, ((H.set (h.n + 1 + 1) a).set (h.n + 1 + 1 + 1) b).get (h.n + 1 + 1) = a := fun a b => by rw [get_set_ne (by omega), get_set_same]
  refine SCalls.enterD (A := _) (A2 := _) (C := _) (M := fun f h' => mayX e = true ∧ f 2 = .int .i64 acc ∧ f 3 = .ptr h.n 0 ∧ f 4 = .ptr (h.n + 1) 0 ∧ f 6 = .ptr (h.n + 1 + 1) 0 ∧ f 7 = .ptr (h.n + 1 + 1 + 1) 0 ∧ h' = H)
    (KR := fun vx vy f h' => ∃ n, valF rk rv rt acc 16 e = some n ∧ mayX e = true ∧ f 6 = .ptr (h.n + 1 + 1) 0 ∧ f 7 = .ptr (h.n + 1 + 1 + 1) 0 ∧ h' = (H.set (h.n + 1 + 1) (.cells [.int .i64 n] 2 none)).set (h.n + 1 + 1 + 1) (.cells [.int .i64 0] 32 none))
    (KP := fun vx vy f h' => valF rk rv rt acc 16 e = none ∧ mayX e = true ∧ vx = .ptr (h.n + 1 + 1) 0 ∧ vy = .ptr (h.n + 1 + 1 + 1) 0 ∧ f 6 = .ptr (h.n + 1 + 1) 0 ∧ f 7 = .ptr (h.n + 1 + 1 + 1) 0 ∧ h' = H)
    Tryz.func40 rfl (by decide) cal78 (by simp) ?_ ?_ ?_ ?_
  · refine wpI_sound (by kernel_rfl) ?_
    simp only [wpA_region, endI_mk, goI_out, goI_ops, opsA_nil, opsA_cons, stepA_alloc, stepA_box, thenH_some, eval_tmp, put_some, enterF_zero, enterF_succ, cells_agg, aAlloc_eq, aBox_eq, push_n, Nat.reduceEqDiff, Option.map_some, true_and, if_false, zc_2, zc_32, hc]
    rw [← hH]
    refine wpI_sound (by kernel_rfl) ?_
    simp only [wpA_region, wpA_seq, goI_ops, opsA_cons, stepA_load, stepA_call, thenV_some, eval_tmp, put_some, enterF_succ, aLoad_eq, aPlace_ptr, Nat.reduceEqDiff, List.map_cons, List.map_nil, if_true, if_false, lt_27, g3, hdr, hld]
    refine callI_pure cal68 (pMay e H gH) ?_
    cases hm : mayX e with
    | false =>
      simp only [wpA_region, wpA_seq, wpA_cond, wpA_ret, condI_true, seqQ_normal, endI_mk, goI_out, goI_ops, opsA_nil, opsA_cons, stepA_store, stepA_unOp, thenV_some, thenS_some, eval_tmp, eval_const, put_some, put_none, enterF_zero, enterF_succ, aUn_not, absV_int, cells_int, one_int, all_nil, all_cons, aLoad_eq, loadGo_one, aPlace_ptr, dropC_cells, aStore_eq, storeGo_ptr, setC_row, setAll_nil, setAll_cons, get_set_same, Bool.false_eq_true, Nat.reduceEqDiff, reduceCtorEq, Option.map_some, Nat.zero_add, Nat.zero_le, List.length_cons, List.length_nil, List.drop_zero, List.set_cons_zero, true_and, if_true, if_false, Bool.and_self, Bool.not_false, Nat.le_refl, lt_2, lt_32, zt_2, zt_32, g6, g7', endsV, Tryz.results40, resultsC_2, resultA_cell, res2_some, g6']
      exact .inl (kS _ _)
    | true =>
      simp only [wpA_skip, wpA_cond, condI_false, seqQ_normal, endI_mk, goI_out, goI_ops, opsA_nil, opsA_cons, stepA_unOp, thenV_some, eval_tmp, put_some, enterF_zero, enterF_succ, aUn_not, Nat.reduceEqDiff, reduceCtorEq, and_self, if_true, if_false, Bool.not_true]
      refine .inr ?_
      trivial
  · rintro f h' ⟨hm, f2, f3, f4, f6, f7, rfl⟩
    refine wpI_sound (by kernel_rfl) ?_
    have hok : okX 16 e := by
      unfold mayX at hm
      obtain ⟨c, hc⟩ := Option.isSome_iff_exists.1 hm
      exact ⟨64, c, hc⟩
    simp only [wpA_region, wpA_seq, goI_ops, opsA_cons, stepA_move, stepA_load, stepA_call, thenV_some, eval_tmp, put_some, aLoad_eq, loadGo_row, aPlace_ptr, dropC_cells, Nat.reduceEqDiff, Nat.reduceAdd, List.map_cons, List.map_nil, Nat.zero_add, Nat.zero_le, List.length_cons, List.length_nil, List.drop_zero, List.take_succ_cons, List.take_nil, if_true, if_false, Nat.le_refl, lt_27, lt_38, f2, f3, f4, g3, g4, hdr, hld]
    refine callI_ofE cal79 (eValue rk rv rt acc 16 e h' hok) (fun r h2 ⟨e1, e2⟩ => ?_) (fun h2 ⟨e1, e2⟩ => ?_)
    · subst e2
      obtain ⟨n, hn, rfl⟩ := Option.map_eq_some_iff.1 e1
      simp only [wpA_ret, seqQ_normal, endI_mk, goI_out, goI_ops, opsA_nil, opsA_cons, stepA_store, thenS_some, eval_tmp, eval_const, put_some, put_none, absV_int, cells_int, one_int, all_nil, all_cons, aStore_eq, storeGo_ptr, setC_row, setAll_nil, setAll_cons, Nat.reduceEqDiff, reduceCtorEq, Option.map_some, Nat.zero_add, List.length_cons, List.length_nil, List.set_cons_zero, true_and, if_true, if_false, Bool.and_self, Nat.le_refl, zt_2, zt_32, f6, f7, g6, g7']
      exact .inl ⟨.inl trivial, n, hn, hm, rfl⟩
    · subst e1
      have : valF rk rv rt acc 16 e = none := by simpa [iV] using e2
      simp only [seqQ_panic, endI_mk, excE_out, excE_ops, put_some, Nat.reduceEqDiff, reduceCtorEq, and_true, true_and, and_self, if_false, f6, f7]
      exact .inr ⟨this, hm⟩
  · rintro vx vy f h' ⟨n, hn, hm, f6, f7, rfl⟩
    refine dDefR ?_
    simp only [aLoad_eq, loadGo_one, aPlace_ptr, dropC_cells, get_set_same, Nat.zero_add, Nat.zero_le, List.length_cons, List.length_nil, List.drop_zero, if_true, lt_2, lt_32, endsV, Tryz.results40, resultsC_2, resultA_cell, res2_some, f6, f7, g6']
    exact ⟨by simp [hm, hn], kS _ _⟩
  · rintro vx vy f h' ⟨hn, hm, rfl, rfl, f6, f7, rfl⟩
    refine dDefP g6 g7 (by omega) ?_
    simp only [aLoad_eq, loadGo_one, aPlace_ptr, dropC_cells, get_set_same, Nat.zero_add, Nat.zero_le, List.length_cons, List.length_nil, List.drop_zero, if_true, lt_2, lt_32, endsV, Tryz.results40, resultsC_2, resultA_cell, res2_some, f6, f7, g6']
    exact ⟨by simp [hm, hn], kS _ _⟩
end Go.Proofs.YtpjfhfmbhjghcaaGreatDoor.Pk
