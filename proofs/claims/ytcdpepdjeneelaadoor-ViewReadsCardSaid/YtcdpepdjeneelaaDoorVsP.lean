/-
  What functions of the program do, told of abstract states. Conditions: as each theorem says.
-/
import Derived.Test.YtcdpepdjeneelaaDoorVsN
namespace Go.Proofs.YtcdpepdjeneelaaDoor.Pk
open Go Go.Proofs Go.Proofs.YtcdpepdjeneelaaDoor.Ab Go.Proofs.Vw
set_option linter.unusedVariables false
set_option linter.unusedSimpArgs false
theorem recL_one : ∀ rs : List LR, (recL rs).all (·.one) = true
  | [] => rfl
  | p :: rs => by
    show (rcdE p.1 ++ recL rs).all (·.one) = true
    rw [List.all_append, recL_one rs]
    rfl
theorem delL_one : ∀ rs : List LR, (delL rs).all (·.one) = true
  | [] => rfl
  | p :: rs => by
    show ((V.bool p.2).one && (delL rs).all (·.one)) = true
    rw [delL_one rs]
    rfl
theorem lit0R (h : AHeap) : aBuildSlice Tryd.prog 33 0 [] h = some (.sl h.n 0 0 0, h.push (.cells [] 45 none)) := by rw [buildSlice_go sl_33]; rfl
theorem acc0R (h : AHeap) : Acc h (h.push (.cells [] 45 none)) 45 3 (.sl h.n 0 0 0) (recL []) :=
  ⟨.inr ⟨h.n, 0, 0, [], none, rfl, Nat.lt_succ_self _, get_push_new, rfl, rfl, .inl ⟨by simp [unk], Nat.le_refl _, Nat.le_refl _⟩⟩, Keep.push _ _ _, fun k hk => by simp [idOf] at hk; omega⟩
set_option maxRecDepth 10000 in
theorem pCloneR (l : List LR) (hl : l.length ≤ 2 ^ 40) (h : AHeap) : Pure Tryd.prog 30 [.imm l.length (recL l)] h (.imm l.length (recL l)) := by
  refine Pure.of (Clo.imm (recL_clo _)) ?_
  cases l with
  | nil =>
    refine SCalls.imm0 ?_ ?_
    · refine SCalls.enterI (c := _) Tryd.func30 rfl (by kernel_rfl) (by simp) ?_
      have e := snil_nil_eql (xo := .tmp 3) (yo := .const (.slice none 0 0)) kt_33
      simp only [wpA_region, wpA_seq, wpA_cond, wpA_ret, condI_true, seqQ_normal, seqQ_ret, endI_mk, goI_out, goI_ops, opsA_nil, opsA_cons, stepA_move, stepA_assign, stepA_binOp, thenV_some, eval_tmp, eval_const, put_some, enterF_zero, enterF_succ, absV_snil, Nat.reduceEqDiff, reduceCtorEq, if_true, if_false, e, retA_ret, Tryd.results30, resultsA_1]
      exact hid_mk ⟨h, Cast.snil0 h, Keep.refl _ _⟩
    · refine SCalls.enterI (c := _) Tryd.func30 rfl (by kernel_rfl) (by simp) ?_
      have e : ∀ xo yo, aBin Tryd.prog .eql 33 xo yo .e0 .snil = some (.bool false) := fun xo yo => e0_nil_eql kt_33
      obtain ⟨v1, h1, e1, a1⟩ := Acc.appM (P := Tryd.prog) (tx := 33) sl_33 (acc0R h) (by decide) (e0_src kt_33) rfl (fun m hm => by
        change m * 3 = _ at hm
        obtain rfl : m = 0 := by simp [recL] at hm; omega
        exact ⟨by decide, by decide⟩)
      have b0 := lit0R h
      simp only [wpA_skip, wpA_region, wpA_seq, wpA_cond, wpA_ret, condI_false, seqQ_normal, endI_mk, goI_out, goI_ops, opsA_nil, opsA_cons, stepA_move, stepA_assign, stepA_buildSlice, stepA_binOp, stepA_append, thenV_some, thenH_some, eval_tmp, eval_const, put_some, enterF_zero, enterF_succ, absV_snil, Nat.reduceEqDiff, reduceCtorEq, List.map_nil, if_true, if_false, e, b0, e1, retA_ret, Tryd.results30, resultsA_1]
      obtain ⟨h2, c2, k2⟩ := a1.cast (n := 0) rfl (by decide)
      exact hid_mk ⟨h2, c2, k2⟩
  | cons x l =>
    refine SCalls.enterI (c := _) Tryd.func30 rfl (by kernel_rfl) (by simp) ?_
    have e : ∀ xo yo, aBin Tryd.prog .eql 33 xo yo (.imm (x :: l).length (recL (x :: l))) .snil = some (.bool false) := fun xo yo => imm_nil_eql kt_33 (by simp)
    obtain ⟨v1, h1, e1, a1⟩ := Acc.appM (P := Tryd.prog) (tx := 33) sl_33 (acc0R h) (by decide) (imm_src kt_33 (recL_len _) (recL_one (x :: l))) (recL_len _) (fun m hm => by
      change m * 3 = (recL []).length + (recL (x :: l)).length at hm
      rw [recL_len, recL_len, List.length_nil] at hm
      exact ⟨by simp only [lim]; omega, by simp only [lim]; omega⟩)
    have b0 := lit0R h
    generalize (x :: l) = q at e e1 a1 hl ⊢
    simp only [wpA_skip, wpA_region, wpA_seq, wpA_cond, wpA_ret, condI_false, seqQ_normal, endI_mk, goI_out, goI_ops, opsA_nil, opsA_cons, stepA_move, stepA_assign, stepA_buildSlice, stepA_binOp, stepA_append, thenV_some, thenH_some, eval_tmp, eval_const, put_some, enterF_zero, enterF_succ, absV_snil, Nat.reduceEqDiff, reduceCtorEq, List.map_nil, if_true, if_false, e, b0, e1, retA_ret, Tryd.results30, resultsA_1]
    obtain ⟨h2, c2, k2⟩ := a1.cast (n := q.length) (by rw [show recL [] = [] from rfl, List.nil_append, recL_len]) (by decide)
    exact hid_mk ⟨h2, c2, k2⟩
theorem lit0B (h : AHeap) : aBuildSlice Tryd.prog 34 0 [] h = some (.sl h.n 0 0 0, h.push (.cells [] 4 none)) := by rw [buildSlice_go sl_34]; rfl
theorem acc0B (h : AHeap) : Acc h (h.push (.cells [] 4 none)) 4 1 (.sl h.n 0 0 0) (delL []) :=
  ⟨.inr ⟨h.n, 0, 0, [], none, rfl, Nat.lt_succ_self _, get_push_new, rfl, rfl, .inl ⟨by simp [unk], Nat.le_refl _, Nat.le_refl _⟩⟩, Keep.push _ _ _, fun k hk => by simp [idOf] at hk; omega⟩
set_option maxRecDepth 10000 in
theorem pCloneB (l : List LR) (hl : l.length ≤ 2 ^ 40) (h : AHeap) : Pure Tryd.prog 31 [.imm l.length (delL l)] h (.imm l.length (delL l)) := by
  refine Pure.of (Clo.imm (delL_clo _)) ?_
  cases l with
  | nil =>
    refine SCalls.imm0 ?_ ?_
    · refine SCalls.enterI (c := _) Tryd.func31 rfl (by kernel_rfl) (by simp) ?_
      have e := snil_nil_eql (xo := .tmp 3) (yo := .const (.slice none 0 0)) kt_34
      simp only [wpA_region, wpA_seq, wpA_cond, wpA_ret, condI_true, seqQ_normal, seqQ_ret, endI_mk, goI_out, goI_ops, opsA_nil, opsA_cons, stepA_move, stepA_assign, stepA_binOp, thenV_some, eval_tmp, eval_const, put_some, enterF_zero, enterF_succ, absV_snil, Nat.reduceEqDiff, reduceCtorEq, if_true, if_false, e, retA_ret, Tryd.results31, resultsA_1]
      exact hid_mk ⟨h, Cast.snil0 h, Keep.refl _ _⟩
    · refine SCalls.enterI (c := _) Tryd.func31 rfl (by kernel_rfl) (by simp) ?_
      have e : ∀ xo yo, aBin Tryd.prog .eql 34 xo yo .e0 .snil = some (.bool false) := fun xo yo => e0_nil_eql kt_34
      obtain ⟨v1, h1, e1, a1⟩ := Acc.appM (P := Tryd.prog) (tx := 34) sl_34 (acc0B h) (by decide) (e0_src kt_34) rfl (fun m hm => by
        change m * 1 = _ at hm
        obtain rfl : m = 0 := by simp [delL] at hm; omega
        exact ⟨by decide, by decide⟩)
      have b0 := lit0B h
      simp only [wpA_skip, wpA_region, wpA_seq, wpA_cond, wpA_ret, condI_false, seqQ_normal, endI_mk, goI_out, goI_ops, opsA_nil, opsA_cons, stepA_move, stepA_assign, stepA_buildSlice, stepA_binOp, stepA_append, thenV_some, thenH_some, eval_tmp, eval_const, put_some, enterF_zero, enterF_succ, absV_snil, Nat.reduceEqDiff, reduceCtorEq, List.map_nil, if_true, if_false, e, b0, e1, retA_ret, Tryd.results31, resultsA_1]
      obtain ⟨h2, c2, k2⟩ := a1.cast (n := 0) rfl (by decide)
      exact hid_mk ⟨h2, c2, k2⟩
  | cons x l =>
    refine SCalls.enterI (c := _) Tryd.func31 rfl (by kernel_rfl) (by simp) ?_
    have e : ∀ xo yo, aBin Tryd.prog .eql 34 xo yo (.imm (x :: l).length (delL (x :: l))) .snil = some (.bool false) := fun xo yo => imm_nil_eql kt_34 (by simp)
    obtain ⟨v1, h1, e1, a1⟩ := Acc.appM (P := Tryd.prog) (tx := 34) sl_34 (acc0B h) (by decide) (imm_src kt_34 (delL_len _) (delL_one (x :: l))) (delL_len _) (fun m hm => by
      change m * 1 = (delL []).length + (delL (x :: l)).length at hm
      rw [delL_len, delL_len, List.length_nil] at hm
      exact ⟨by simp only [lim]; omega, by simp only [lim]; omega⟩)
    have b0 := lit0B h
    generalize (x :: l) = q at e e1 a1 hl ⊢
    simp only [wpA_skip, wpA_region, wpA_seq, wpA_cond, wpA_ret, condI_false, seqQ_normal, endI_mk, goI_out, goI_ops, opsA_nil, opsA_cons, stepA_move, stepA_assign, stepA_buildSlice, stepA_binOp, stepA_append, thenV_some, thenH_some, eval_tmp, eval_const, put_some, enterF_zero, enterF_succ, absV_snil, Nat.reduceEqDiff, reduceCtorEq, List.map_nil, if_true, if_false, e, b0, e1, retA_ret, Tryd.results31, resultsA_1]
    obtain ⟨h2, c2, k2⟩ := a1.cast (n := q.length) (by rw [show delL [] = [] from rfl, List.nil_append, delL_len]) (by decide)
    exact hid_mk ⟨h2, c2, k2⟩
end Go.Proofs.YtcdpepdjeneelaaDoor.Pk
