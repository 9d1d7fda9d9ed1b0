/-
  What functions of the program do, told of abstract states. Conditions: as each theorem says.
-/
import Derived.Test.YtcdpepdjeneelaaDoorVsG
import Derived.Test.YtcdpepdjeneelaaDoorAbD
import Derived.Test.YtcdpepdjeneelaaDoorAbD
namespace Go.Proofs.YtcdpepdjeneelaaDoor.Pk
open Go Go.Proofs Go.Proofs.YtcdpepdjeneelaaDoor.Ab
set_option linter.unusedVariables false
set_option linter.unusedSimpArgs false
theorem lit0i (h : AHeap) : aBuildSlice Tryd.prog 39 0 [] h = some (.sl h.n 0 0 0, h.push (.cells [] 3 none)) := by rw [buildSlice_go sl_39]; rfl
theorem acc0i (h : AHeap) : Acc h (h.push (.cells [] 3 none)) 3 1 (.sl h.n 0 0 0) (i64V []) :=
  ⟨.inr ⟨h.n, 0, 0, [], none, rfl, Nat.lt_succ_self _, get_push_new, rfl, rfl, .inl ⟨by simp [unk], Nat.le_refl _, Nat.le_refl _⟩⟩, Keep.push _ _ _, fun k hk => by simp [idOf] at hk; omega⟩
set_option maxRecDepth 10000 in
theorem pCloneI (l : List Int) (hl : l.length ≤ 2 ^ 40) (h : AHeap) : Pure Tryd.prog 34 [.imm l.length (i64V l)] h (.imm l.length (i64V l)) := by
  refine Pure.of (Clo.imm (i64V_clo _)) ?_
  cases l with
  | nil =>
    refine SCalls.imm0 ?_ ?_
    · refine SCalls.enterI (c := _) Tryd.func34 rfl (by kernel_rfl) (by simp) ?_
      have e := snil_nil_eql (xo := .tmp 3) (yo := .const (.slice none 0 0)) kt_39
      simp only [wpA_region, wpA_seq, wpA_cond, wpA_ret, condI_true, seqQ_normal, seqQ_ret, endI_mk, goI_out, goI_ops, opsA_nil, opsA_cons, stepA_move, stepA_assign, stepA_binOp, thenV_some, eval_tmp, eval_const, put_some, enterF_zero, enterF_succ, absV_snil, Nat.reduceEqDiff, reduceCtorEq, if_true, if_false, e, retA_ret, Tryd.results34, resultsA_1]
      exact hid_mk ⟨h, Cast.snil0 h, Keep.refl _ _⟩
    · refine SCalls.enterI (c := _) Tryd.func34 rfl (by kernel_rfl) (by simp) ?_
      have e : ∀ xo yo, aBin Tryd.prog .eql 39 xo yo .e0 .snil = some (.bool false) := fun xo yo => e0_nil_eql kt_39
      obtain ⟨v1, h1, e1, a1⟩ := Acc.appM (P := Tryd.prog) (tx := 39) sl_39 (acc0i h) (by decide) (e0_src kt_39) rfl (fun m hm => by
        change m * 1 = _ at hm
        simp [i64V] at hm
        subst hm; exact ⟨by decide, by decide⟩)
      have b0 := lit0i h
      simp only [wpA_skip, wpA_region, wpA_seq, wpA_cond, wpA_ret, condI_false, seqQ_normal, endI_mk, goI_out, goI_ops, opsA_nil, opsA_cons, stepA_move, stepA_assign, stepA_buildSlice, stepA_binOp, stepA_append, thenV_some, thenH_some, eval_tmp, eval_const, put_some, enterF_zero, enterF_succ, absV_snil, Nat.reduceEqDiff, reduceCtorEq, List.map_nil, if_true, if_false, e, b0, e1, retA_ret, Tryd.results34, resultsA_1]
      obtain ⟨h2, c2, k2⟩ := a1.cast (n := 0) rfl (by decide)
      exact hid_mk ⟨h2, c2, k2⟩
  | cons x l =>
    refine SCalls.enterI (c := _) Tryd.func34 rfl (by kernel_rfl) (by simp) ?_
    have e : ∀ xo yo, aBin Tryd.prog .eql 39 xo yo (.imm (x :: l).length (i64V (x :: l))) .snil = some (.bool false) := fun xo yo => imm_nil_eql kt_39 (by simp)
    obtain ⟨v1, h1, e1, a1⟩ := Acc.appM (P := Tryd.prog) (tx := 39) sl_39 (acc0i h) (by decide) (imm_src kt_39 (by rw [i64V_length, Nat.mul_one]) (i64V_one (x :: l))) (by rw [i64V_length]; exact (Nat.mul_one _).symm) (fun m hm => by
      change m * 1 = (i64V []).length + (i64V (x :: l)).length at hm
      rw [i64V_length, i64V_length, List.length_nil] at hm
      exact ⟨by simp only [lim]; omega, by simp only [lim]; omega⟩)
    have b0 := lit0i h
    generalize (x :: l) = q at e e1 a1 hl ⊢
    simp only [wpA_skip, wpA_region, wpA_seq, wpA_cond, wpA_ret, condI_false, seqQ_normal, endI_mk, goI_out, goI_ops, opsA_nil, opsA_cons, stepA_move, stepA_assign, stepA_buildSlice, stepA_binOp, stepA_append, thenV_some, thenH_some, eval_tmp, eval_const, put_some, enterF_zero, enterF_succ, absV_snil, Nat.reduceEqDiff, reduceCtorEq, List.map_nil, if_true, if_false, e, b0, e1, retA_ret, Tryd.results34, resultsA_1]
    obtain ⟨h2, c2, k2⟩ := a1.cast (n := q.length) (by rw [show i64V [] = [] from rfl, List.nil_append, i64V_length, Nat.mul_one]) (by decide)
    exact hid_mk ⟨h2, c2, k2⟩
/-- An element of an own row. -/
theorem own_row_ix {h : AHeap} {e t : TypeId} {v : V} {α : Type} {enc : α → List V} {sz : Nat} {l : List α} (hen : ∀ a, (enc a).length = sz) (hp : 0 < sz) (hs : slSz Tryd.prog t = some sz) (o : Own h e sz v (l.flatMap enc)) {k : Nat} (hk : k < l.length) {kk : IntKind} :
    ∃ i q, aIndexAddr Tryd.prog t v (.int kk (k : Int)) = some (.ptr i (0 + k * sz)) ∧ idOf v = some i ∧ dropC (h.get i) (0 + k * sz) = some (enc l[k] ++ q) := by
  have h0 : (l.flatMap enc).length = l.length * sz := rows_len hen l
  rcases o with ⟨_, hc⟩ | ⟨i, len, cap, c, ex, rfl, hi, hg, hlen, htake, hcap⟩
  · rw [hc] at h0
    have : 0 < l.length * sz := Nat.mul_pos (by omega) hp
    simp at h0
    omega
  · have hll : l.length = len := Nat.eq_of_mul_eq_mul_right hp (by rw [← h0, hlen])
    have hcc : c = l.flatMap enc ++ c.drop (len * sz) := by rw [← htake, List.take_append_drop]
    have hle : k * sz ≤ l.length * sz := Nat.mul_le_mul_right _ (by omega)
    have hcl : l.length * sz ≤ c.length := by rw [hcc, List.length_append, h0]; omega
    refine ⟨i, (l.drop (k + 1)).flatMap enc ++ c.drop (len * sz), ?_, rfl, ?_⟩
    · rw [aIndexAddr_eq, hs, ixGo_sl, if_pos ⟨by omega, by omega⟩, Int.toNat_natCast]
    · rw [hg, dropC_cells, if_pos (by omega), Nat.zero_add]
      conv => lhs; rw [hcc]
      rw [List.drop_append_of_le_length (by rw [h0]; exact hle), rows_drop hen, List.drop_eq_getElem_cons hk, List.flatMap_cons, List.append_assoc]
end Go.Proofs.YtcdpepdjeneelaaDoor.Pk
