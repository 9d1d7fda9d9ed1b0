/-
  What functions of the program do, told of abstract states. Conditions: as each theorem says.
-/
import Derived.Test.YteegfdinghnoiaaKsA
import Derived.Test.YteegfdinghnoiaaMeM
namespace Go.Proofs.Yteegfdinghnoiaa.Pk
open Go Go.Proofs Go.Proofs.Yteegfdinghnoiaa.Ab
set_option linter.unusedVariables false
set_option linter.unusedSimpArgs false
set_option maxRecDepth 10000
/-! ### What was told, reduced to the last ones, is the state -/
theorem doK_ok {K : KK} {l : List Chg} {c : Chg} (hd : (doK K l c).2 = 0) : badK K c = false ∧ ((c.del = true ∧ has3 l c = true ∧ doK K l c = (rm3 l c, 0)) ∨ (c.del = false ∧ (!has3 l c && decide (1024 ≤ l.length)) = false ∧ doK K l c = (setL l c, 0))) := by
  unfold doK at hd
  split at hd
  · cases hd
  rename_i hb
  have hb : badK K c = false := by simpa using hb
  refine ⟨hb, ?_⟩
  split at hd
  · rename_i hdel
    split at hd
    · rename_i hh
      exact .inl ⟨hdel, hh, doK_gone hb hdel hh⟩
    · cases hd
  · rename_i hdel
    have hdel : c.del = false := by simpa using hdel
    split at hd
    · cases hd
    · rename_i hf
      have hf : (!has3 l c && decide (1024 ≤ l.length)) = false := by simpa using hf
      exact .inr ⟨hdel, hf, doK_set hb hdel hf⟩
theorem pl_same {a b : Chg} : pl a = pl b ↔ same3 a b = true := by
  rw [same3_iff]
  simp only [pl, Chg.mk.injEq, and_true]
theorem last_run {K : KK} : ∀ (cs : List Chg) {m l : List Chg}, runD K m cs = some l → ∀ c, c ∈ l ↔ (lastOf cs (pl c) = some c ∧ c.del = false) ∨ (lastOf cs (pl c) = none ∧ c ∈ m)
  | [], m, l, h, c => by
    obtain rfl : m = l := by simpa [runD] using h
    simp [lastOf_nil]
  | x :: r, m, l, h, c => by
    have h' : (if (doK K m x).2 = 0 then runD K (doK K m x).1 r else none) = some l := h
    split at h'
    case isFalse => cases h'
    rename_i hd
    have ih := last_run r h' c
    rw [ih, lastOf_cons]
    cases hl : lastOf r (pl c) with
    | some y => simp
    | none =>
      simp only [reduceCtorEq, false_and, true_and, false_or, Option.none_or]
      obtain ⟨hb, ⟨h1, h2, h3⟩ | ⟨h1, h2, h3⟩⟩ := doK_ok hd
      · rw [h3, mem_rm3]
        by_cases hp : pl x = pl c
        · have hs : same3 c x = true := pl_same.1 hp.symm
          rw [if_pos hp]
          simp only [hs, Option.some.injEq, reduceCtorEq, and_false, false_and, or_false, Bool.true_eq_false, false_iff, not_and]
          rintro rfl; simp [h1]
        · have hs : same3 c x = false := by
            rw [← Bool.not_eq_true]; exact fun hh => hp (pl_same.2 hh).symm
          rw [if_neg hp]
          simp [hs]
      · rw [h3]
        show c ∈ ins3 (rm3 m x) x ↔ _
        rw [mem_ins3, mem_rm3]
        by_cases hp : pl x = pl c
        · have hs : same3 c x = true := pl_same.1 hp.symm
          rw [if_pos hp]
          simp only [hs, Option.some.injEq, reduceCtorEq, and_false, false_and, or_false, Bool.true_eq_false]
          constructor
          · rintro rfl; exact ⟨rfl, h1⟩
          · rintro ⟨h, _⟩; exact h.symm
        · have hs : same3 c x = false := by
            rw [← Bool.not_eq_true]; exact fun hh => hp (pl_same.2 hh).symm
          rw [if_neg hp]
          have hne : c ≠ x := fun hh => hp (by rw [hh])
          simp [hs, hne]
theorem told_is {K : KK} {cs l : List Chg} (hg : gK K) (h : runD K [] cs = some l) : lastL cs = l := by
  have w : WfK K l := WfK.runD (WfK.nil hg) h
  refine (isLast cs).unique (m := cs) (b := l) ⟨fun c => ?_, w.ss.imp fun {a b} hab => ?_⟩ fun _ => rfl
  · rw [last_run cs h c]; simp
  · unfold aheadO; exact decide_eq_true hab
theorem list_is {K : KK} {l : List Chg} (hg : gK K) (w : WfK K l) : lastL (listK K l) = l := told_is hg w.lists
theorem pAgain (a b : List Chg) (ha : a.length ≤ 2 ^ 20) (hb : b.length ≤ 2 ^ 20) (h : AHeap) :
    Pure Try.prog 14 [rowC a, rowC b] h (.bool (decide (lastL a = lastL b) && decide ((lastL a).length = b.length))) := by
  refine Pure.val (Clo.bool _) ?_
  refine SCalls.enterI (c := _) Try.func14 rfl (by kernel_rfl) (by simp) ?_
  unfold rowC
  simp only [wpA_region, wpA_seq, seqQ_normal, goI_out, goI_ops, opsA_nil, opsA_cons, stepA_move, stepA_assign, stepA_call, eval_tmp, eval_const, put_some, enterF_zero, enterF_succ, absV_bool, Nat.reduceEqDiff, reduceCtorEq, List.map_cons, List.map_nil, if_true, if_false]
  refine callI_of cal37 (sAll a h ha) fun r h1 ⟨vb, e1, a1⟩ => ?_
  subst e1
  simp only [wpA_region, wpA_seq, seqQ_normal, goI_out, goI_ops, opsA_nil, opsA_cons, stepA_move, stepA_assign, stepA_extract, stepA_call, thenV_some, extV_zero, extV_succ, eval_tmp, put_some, enterF_succ, Nat.reduceEqDiff, List.map_cons, List.map_nil, if_true, if_false]
  have hrl := recsOf_len a
  have hdl := delsOf_len a
  refine callI_pure cal38 (pChangesV (recsOf a) (delsOf a) vb h1 a1.own (by omega) (by omega)) ?_
  rw [chgs_back a]
  simp only [wpA_region, wpA_seq, seqQ_normal, goI_out, goI_ops, opsA_nil, opsA_cons, opsA_guardS, gvI_same, slotAt_zero, slotAt_succ, stepA_move, stepA_assign, stepA_binOp, stepA_extract, stepA_call, thenV_some, extV_zero, extV_succ, eval_tmp, eval_const, put_some, enterF_succ, aBin_eql, absV_int, beq_self_eq_true, Nat.reduceEqDiff, List.map_cons, List.map_nil, if_true, if_false, outC]
  have hla := lastL_len a
  have hlb := lastL_len b
  refine callI_pure cal40 (pLast a (by omega) h1) ?_
  simp only [goI_ops, opsA_guardS, gvI_same, slotAt_zero, slotAt_succ, stepA_move, stepA_call, eval_tmp, put_some, enterF_zero, enterF_succ, Nat.reduceEqDiff, List.map_cons, List.map_nil, if_true, if_false]
  refine callI_pure cal41 (rLast b (by omega) h1) ?_
  simp only [goI_ops, opsA_guardS, gvI_same, slotAt_zero, slotAt_succ, stepA_call, eval_tmp, put_some, enterF_succ, Nat.reduceEqDiff, List.map_cons, List.map_nil, if_true, if_false]
  refine callI_pure cal39 (pChgsEq (lastL a) (lastL b) h1 (by omega)) ?_
  by_cases he : lastL a = lastL b
  · have de : decide (lastL a = lastL b) = true := decide_eq_true he
    rw [de]
    simp only [goI_ops, opsA_cons, opsA_guardS, gvI_same, slotAt_zero, slotAt_succ, stepA_move, stepA_pick, stepA_call, thenV_some, pickV_true, eval_tmp, eval_const, put_some, enterF_succ, absV_bool, Nat.reduceEqDiff, List.map_cons, List.map_nil, if_true, if_false]
    refine callI_pure cal40 (pLast a (by omega) h1) ?_
    have di : ((((lastL a).length : Nat) : Int) == ((b.length : Nat) : Int)) = decide ((lastL a).length = b.length) := by
      rw [Bool.eq_iff_iff, beq_iff_eq, decide_eq_true_eq]; omega
    simp only [wpA_ret, seqQ_normal, endI_mk, goI_out, goI_ops, opsA_nil, opsA_cons, opsA_guardS, gvI_same, slotAt_zero, slotAt_succ, stepA_move, stepA_assign, stepA_pick, stepA_binOp, stepA_len, thenV_some, pickV_true, eval_tmp, eval_const, put_some, enterF_zero, enterF_succ, aBin_eql, absV_bool, aLen_imm, Nat.reduceEqDiff, if_true, if_false, kt_34, di, retA_ret, Try.results14, resultsA_1]
    exact hid_mk ⟨rfl, a1.keep⟩
  · have de : decide (lastL a = lastL b) = false := decide_eq_false he
    rw [de]
    simp only [wpA_ret, seqQ_normal, endI_mk, goI_out, goI_ops, opsA_nil, opsA_cons, opsA_guardS, gvI_ft, slotAt_zero, slotAt_succ, stepA_move, stepA_assign, stepA_pick, thenV_some, pickV_true, pickV_false, eval_tmp, eval_const, put_some, enterF_succ, absV_bool, Nat.reduceEqDiff, if_true, if_false, retA_ret, Try.results14, resultsA_1]
    exact hid_mk ⟨rfl, a1.keep⟩
end Go.Proofs.Yteegfdinghnoiaa.Pk
