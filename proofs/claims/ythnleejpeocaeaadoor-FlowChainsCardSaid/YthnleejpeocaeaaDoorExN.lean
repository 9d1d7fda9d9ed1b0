/-
  What functions of the program do, told of abstract states. Conditions: as each theorem says.
-/
import Derived.Test.YthnleejpeocaeaaDoorExM
import Derived.Test.YthnleejpeocaeaaDoorExI
namespace Go.Proofs.YthnleejpeocaeaaDoor.Pk
open Go Go.Proofs Go.Proofs.YthnleejpeocaeaaDoor.Ab
set_option linter.unusedVariables false
set_option linter.unusedSimpArgs false

/-! ### The document's answer: values -/
def inR (n : Int) : Prop := -2 ^ 63 ≤ n ∧ n < 2 ^ 63
theorem w64_inR (n : Int) : inR (w64 n) := by unfold inR; rw [w64_eq]; omega
theorem tmod_inR {a b : Int} (ha : inR a) (hb : b ≠ 0) : inR (a.tmod b) := by
  unfold inR at *
  have h1 : (a.tmod b).natAbs ≤ a.natAbs := by rw [Int.natAbs_tmod]; exact Nat.mod_le _ _
  have h2 : 0 ≤ a → 0 ≤ a.tmod b := fun h => Int.tmod_nonneg _ h
  have h3 : a ≤ 0 → a.tmod b ≤ 0 := fun h => by
    have := Int.tmod_nonneg b (show 0 ≤ -a by omega)
    rw [Int.neg_tmod] at this
    omega
  rcases Int.le_total 0 a with h | h
  · have := h2 h; omega
  · have := h3 h; omega
theorem modR {a b : Int} (ha : inR a) (hb : b ≠ 0) : w64 (a - w64 (w64 (a.tdiv b) * b)) = a.tmod b := by
  have h1 : w64 (a - w64 (w64 (a.tdiv b) * b)) = w64 (a - a.tdiv b * b) := by
    rw [w64_mul, w64_eq, w64_eq (a.tdiv b * b), w64_eq (a - a.tdiv b * b)]; omega
  have h2 : a - a.tdiv b * b = a.tmod b := by
    have := Int.mul_tdiv_add_tmod a b
    rw [Int.mul_comm] at this; omega
  rw [h1, h2]
  exact w64_in (tmod_inR ha hb).1 (tmod_inR ha hb).2
theorem combX_inR {op a b n : Int} (ha : inR a) (hb : inR b) (h : combX op a b = some n) : inR n := by
  unfold combX at h
  revert h
  repeat' split
  all_goals intro h
  all_goals first
    | (cases h; done)
    | (obtain rfl := Option.some.inj h; first | exact w64_inR _ | exact tmod_inR ha (by assumption) | (unfold inR at *; omega))
theorem valF_inR {rk rv rt acc : Int} (h1 : inR rk) (h2 : inR rv) (h3 : inR rt) (h4 : inR acc) : ∀ {d : Nat} {e : Ex} {n : Int}, OkE e → valF rk rv rt acc d e = some n → inR n
  | 0, _, _, _, h => by simp [valF] at h
  | d + 1, .mk o m ks, n, hok, h => by
    have kid : ∀ {i : Nat} {x : Int}, (ks[i]?).bind (valF rk rv rt acc d) = some x → inR x := fun {i x} hx => by
      obtain ⟨k, hk, hv⟩ := Option.bind_eq_some_iff.1 hx
      exact valF_inR h1 h2 h3 h4 (hok.kid k (List.mem_of_getElem? hk)) hv
    unfold valF at h
    have hm : inR m := by cases hok; assumption
    split at h
    · obtain rfl := Option.some.inj h; exact hm
    split at h
    · obtain rfl := Option.some.inj h; exact h1
    split at h
    · obtain rfl := Option.some.inj h; exact h2
    split at h
    · obtain rfl := Option.some.inj h; exact h3
    split at h
    · obtain rfl := Option.some.inj h; exact h4
    split at h
    · obtain ⟨a, _, rfl⟩ := Option.map_eq_some_iff.1 h; exact w64_inR _
    split at h
    · obtain ⟨a, _, hb⟩ := Option.bind_eq_some_iff.1 h
      split at hb
      · exact kid hb
      · exact kid hb
    · obtain ⟨a, ha, hb⟩ := Option.bind_eq_some_iff.1 h
      obtain ⟨b, hb, hc⟩ := Option.bind_eq_some_iff.1 hb
      exact combX_inR (kid ha) (kid hb) hc

theorem pBit (b : Bool) (h : AHeap) : Pure Tryd.prog 32 [.bool b] h (.int .i64 (if b then 1 else 0)) := by
  refine SCalls.enterI (c := _) Tryd.func32 rfl (by kernel_rfl) (by simp) ?_
  cases b <;>
  · simp only [wpA_skip, wpA_region, wpA_seq, wpA_cond, wpA_ret, condI_true, condI_false, seqQ_normal, seqQ_ret, endI_mk, goI_out, goI_ops, opsA_nil, opsA_cons, stepA_move, stepA_assign, eval_tmp, eval_const, put_some, enterF_zero, enterF_succ, absV_int, Nat.reduceEqDiff, reduceCtorEq, if_true, if_false, retA_ret, Tryd.results32, resultsA_1]
    exact hid_mk ⟨rfl, rfl⟩
set_option maxRecDepth 10000 in
theorem pTwoR04 (op a b : Int) (ha : inR a) (h : AHeap) : Pure Tryd.prog 30 [.int .i64 op, .int .i64 a, .int .i64 b] h (evO (combX op a b)) := by
  refine SCalls.enterI (c := _) Tryd.func30 rfl (by kernel_rfl) (by simp) ?_
  by_cases hz : (op = 9 ∨ op = 10) ∧ b = 0
  · have cb : (b == 0) = true := by simp [hz.2]
    have hG : combX op a b = none := by rcases hz.1 with q | q <;> simp [combX, q, hz.2]
    by_cases h9 : op = 9
    · have c : (op == 9) = true := by simp [h9]
      simp only [wpA_region, wpA_seq, wpA_cond, wpA_ret, condI_true, seqQ_normal, seqQ_ret, endI_mk, goI_out, goI_ops, opsA_nil, opsA_cons, opsA_guardS, gvI_same, gvI_tf, slotAt_zero, slotAt_succ, stepA_move, stepA_assign, stepA_pick, stepA_binOp, thenV_some, pickV_true, eval_tmp, eval_const, put_some, enterF_zero, enterF_succ, aBin_eql, absV_int, absV_bool, Nat.reduceEqDiff, reduceCtorEq, if_true, if_false, c, cb, retA_ret, Tryd.results30, resultsA_2]
      exact hid_mk ⟨by rw [hG]; rfl, rfl⟩
    · have c : (op == 9) = false := by simp [h9]
      have c2 : (op == 10) = true := by rcases hz.1 with q | q; exact absurd q h9; simp [q]
      simp only [wpA_region, wpA_seq, wpA_cond, wpA_ret, condI_true, seqQ_normal, seqQ_ret, endI_mk, goI_out, goI_ops, opsA_nil, opsA_cons, opsA_guardS, gvI_same, slotAt_zero, slotAt_succ, stepA_move, stepA_assign, stepA_pick, stepA_binOp, thenV_some, pickV_true, pickV_false, eval_tmp, eval_const, put_some, enterF_zero, enterF_succ, aBin_eql, absV_int, absV_bool, Nat.reduceEqDiff, reduceCtorEq, if_true, if_false, c, c2, cb, retA_ret, Tryd.results30, resultsA_2]
      exact hid_mk ⟨by rw [hG]; rfl, rfl⟩
  have start : ((op == 9) = false ∧ (op == 10) = false) ∨ ((op == 9) = true ∧ (b == 0) = false ∧ (op == 10) = false) ∨ ((op == 9) = false ∧ (op == 10) = true ∧ (b == 0) = false) := by
    by_cases h9 : op = 9
    · have hb : b ≠ 0 := fun hb => hz ⟨.inl h9, hb⟩
      right; left; exact ⟨by simp [h9], by simp [hb], by simp [h9]⟩
    · by_cases h10 : op = 10
      · have hb : b ≠ 0 := fun hb => hz ⟨.inr h10, hb⟩
        right; right; exact ⟨by simp [h9], by simp [h10], by simp [hb]⟩
      · left; exact ⟨by simp [h9], by simp [h10]⟩
  rcases start with ⟨n9, n10⟩ | ⟨n9, nb, n10⟩ | ⟨n9, n10, nb⟩
  · by_cases h6 : op = 6
    · have c : (op == 6) = true := by simp [h6]
      simp only [wpA_skip, wpA_region, wpA_seq, wpA_cond, wpA_block, wpA_ret, condI_true, condI_false, seqQ_normal, seqQ_ret, blkQ_ret, endI_mk, goI_out, goI_ops, opsA_nil, opsA_cons, opsA_guardS, gvI_same, gvI_ft, slotAt_zero, slotAt_succ, stepA_move, stepA_assign, stepA_pick, stepA_binOp, thenV_some, pickV_false, eval_tmp, eval_const, put_some, enterF_zero, enterF_succ, aBin_add, aBin_eql, absV_int, absV_bool, Nat.reduceEqDiff, reduceCtorEq, if_true, if_false, n9, n10, c, retA_ret, Tryd.results30, resultsA_2]
      exact hid_mk ⟨by simp [combX, h6, evO, w64], rfl⟩
    have c6 : (op == 6) = false := by simp [h6]
    by_cases h7 : op = 7
    · have c : (op == 7) = true := by simp [h7]
      simp only [wpA_skip, wpA_region, wpA_seq, wpA_cond, wpA_block, wpA_ret, condI_true, condI_false, seqQ_normal, seqQ_ret, blkQ_ret, endI_mk, goI_out, goI_ops, opsA_nil, opsA_cons, opsA_guardS, gvI_same, gvI_ft, slotAt_zero, slotAt_succ, stepA_move, stepA_assign, stepA_pick, stepA_binOp, thenV_some, pickV_false, eval_tmp, eval_const, put_some, enterF_zero, enterF_succ, aBin_sub, aBin_eql, absV_int, absV_bool, Nat.reduceEqDiff, reduceCtorEq, if_true, if_false, n9, n10, c6, c, retA_ret, Tryd.results30, resultsA_2]
      exact hid_mk ⟨by simp [combX, h7, evO, w64], rfl⟩
    have c7 : (op == 7) = false := by simp [h7]
    by_cases h8 : op = 8
    · have c : (op == 8) = true := by simp [h8]
      simp only [wpA_skip, wpA_region, wpA_seq, wpA_cond, wpA_block, wpA_ret, condI_true, condI_false, seqQ_normal, seqQ_ret, blkQ_ret, endI_mk, goI_out, goI_ops, opsA_nil, opsA_cons, opsA_guardS, gvI_same, gvI_ft, slotAt_zero, slotAt_succ, stepA_move, stepA_assign, stepA_pick, stepA_binOp, thenV_some, pickV_false, eval_tmp, eval_const, put_some, enterF_zero, enterF_succ, aBin_mul, aBin_eql, absV_int, absV_bool, Nat.reduceEqDiff, reduceCtorEq, if_true, if_false, n9, n10, c6, c7, c, retA_ret, Tryd.results30, resultsA_2]
      exact hid_mk ⟨by simp [combX, h8, evO, w64], rfl⟩
    have c8 : (op == 8) = false := by simp [h8]
    have h9 : op ≠ 9 := by simpa using n9
    have h10 : op ≠ 10 := by simpa using n10
    by_cases h11 : op = 11
    · have c : (op == 11) = true := by simp [h11]
      simp only [wpA_skip, wpA_region, wpA_seq, wpA_cond, wpA_block, condI_true, condI_false, seqQ_normal, goI_out, goI_ops, opsA_nil, opsA_cons, opsA_guardS, gvI_same, gvI_ft, slotAt_zero, slotAt_succ, stepA_move, stepA_assign, stepA_pick, stepA_binOp, stepA_call, thenV_some, pickV_false, eval_tmp, eval_const, put_some, enterF_zero, enterF_succ, aBin_eql, aBin_lss, absV_int, absV_bool, Nat.reduceEqDiff, reduceCtorEq, List.map_cons, List.map_nil, if_true, if_false, n9, n10, c6, c7, c8, c]
      refine callI_pure cal32 (pBit _ h) ?_
      simp only [wpA_ret, seqQ_normal, seqQ_ret, blkQ_ret, endI_mk, goI_out, goI_ops, opsA_nil, opsA_cons, stepA_assign, eval_tmp, eval_const, put_some, enterF_succ, absV_int, Nat.reduceEqDiff, if_true, if_false, retA_ret, Tryd.results30, resultsA_2]
      exact hid_mk ⟨by simp [combX, h11, evO], rfl⟩
    have c11 : (op == 11) = false := by simp [h11]
    by_cases h12 : op = 12
    · have c : (op == 12) = true := by simp [h12]
      simp only [wpA_skip, wpA_region, wpA_seq, wpA_cond, wpA_block, condI_true, condI_false, seqQ_normal, goI_out, goI_ops, opsA_nil, opsA_cons, opsA_guardS, gvI_same, gvI_ft, slotAt_zero, slotAt_succ, stepA_move, stepA_assign, stepA_pick, stepA_binOp, stepA_call, thenV_some, pickV_false, eval_tmp, eval_const, put_some, enterF_zero, enterF_succ, aBin_eql, absV_int, absV_bool, Nat.reduceEqDiff, reduceCtorEq, List.map_cons, List.map_nil, if_true, if_false, n9, n10, c6, c7, c8, c11, c]
      refine callI_pure cal32 (pBit _ h) ?_
      simp only [wpA_ret, seqQ_normal, seqQ_ret, blkQ_ret, endI_mk, goI_out, goI_ops, opsA_nil, opsA_cons, stepA_assign, eval_tmp, eval_const, put_some, enterF_succ, absV_int, Nat.reduceEqDiff, if_true, if_false, retA_ret, Tryd.results30, resultsA_2]
      exact hid_mk ⟨by simp [combX, h12, evO], rfl⟩
    have c12 : (op == 12) = false := by simp [h12]
    by_cases h15 : op = 15
    · have c : (op == 15) = true := by simp [h15]
      by_cases hlt : b < a
      · have d : decide (b < a) = true := by simpa using hlt
        simp only [wpA_skip, wpA_region, wpA_seq, wpA_cond, wpA_block, wpA_ret, condI_true, condI_false, seqQ_normal, seqQ_ret, blkQ_ret, endI_mk, goI_out, goI_ops, opsA_nil, opsA_cons, opsA_guardS, gvI_same, gvI_ft, slotAt_zero, slotAt_succ, stepA_move, stepA_assign, stepA_pick, stepA_binOp, thenV_some, pickV_false, eval_tmp, eval_const, put_some, enterF_zero, enterF_succ, aBin_eql, aBin_lss, absV_int, absV_bool, Nat.reduceEqDiff, reduceCtorEq, if_true, if_false, n9, n10, c6, c7, c8, c11, c12, c, d, retA_ret, Tryd.results30, resultsA_2]
        exact hid_mk ⟨by simp [combX, h15, evO]; omega, rfl⟩
      · have d : decide (b < a) = false := by simpa using hlt
        simp only [wpA_skip, wpA_region, wpA_seq, wpA_cond, wpA_block, wpA_ret, condI_true, condI_false, seqQ_normal, seqQ_ret, blkQ_ret, endI_mk, goI_out, goI_ops, opsA_nil, opsA_cons, opsA_guardS, gvI_same, gvI_ft, slotAt_zero, slotAt_succ, stepA_move, stepA_assign, stepA_pick, stepA_binOp, thenV_some, pickV_false, eval_tmp, eval_const, put_some, enterF_zero, enterF_succ, aBin_eql, aBin_lss, absV_int, absV_bool, Nat.reduceEqDiff, reduceCtorEq, if_true, if_false, n9, n10, c6, c7, c8, c11, c12, c, d, retA_ret, Tryd.results30, resultsA_2]
        exact hid_mk ⟨by simp [combX, h15, evO]; omega, rfl⟩
    have c15 : (op == 15) = false := by simp [h15]
    by_cases hlt : a < b
    · have d : decide (a < b) = true := by simpa using hlt
      simp only [wpA_skip, wpA_region, wpA_seq, wpA_cond, wpA_block, wpA_ret, condI_true, condI_false, seqQ_normal, seqQ_ret, blkQ_normal, endI_mk, goI_out, goI_ops, opsA_nil, opsA_cons, opsA_guardS, gvI_same, gvI_ft, slotAt_zero, slotAt_succ, stepA_move, stepA_assign, stepA_pick, stepA_binOp, thenV_some, pickV_false, eval_tmp, eval_const, put_some, enterF_zero, enterF_succ, aBin_eql, aBin_gtr, absV_int, absV_bool, Nat.reduceEqDiff, reduceCtorEq, if_true, if_false, n9, n10, c6, c7, c8, c11, c12, c15, d, retA_ret, Tryd.results30, resultsA_2]
      exact hid_mk ⟨by simp [combX, h6, h7, h8, h9, h10, h11, h12, h15, evO]; omega, rfl⟩
    · have d : decide (a < b) = false := by simpa using hlt
      simp only [wpA_skip, wpA_region, wpA_seq, wpA_cond, wpA_block, wpA_ret, condI_false, seqQ_normal, blkQ_normal, endI_mk, goI_out, goI_ops, opsA_nil, opsA_cons, opsA_guardS, gvI_same, gvI_ft, slotAt_zero, slotAt_succ, stepA_move, stepA_assign, stepA_pick, stepA_binOp, thenV_some, pickV_false, eval_tmp, eval_const, put_some, enterF_zero, enterF_succ, aBin_eql, aBin_gtr, absV_int, absV_bool, Nat.reduceEqDiff, reduceCtorEq, if_true, if_false, n9, n10, c6, c7, c8, c11, c12, c15, d, retA_ret, Tryd.results30, resultsA_2]
      exact hid_mk ⟨by simp [combX, h6, h7, h8, h9, h10, h11, h12, h15, evO]; omega, rfl⟩
  · have h9 : op = 9 := by simpa using n9
    have hb : b ≠ 0 := by simpa using nb
    subst h9
    have c6 : ((9 : Int) == 6) = false := rfl
    have c7 : ((9 : Int) == 7) = false := rfl
    have c8 : ((9 : Int) == 8) = false := rfl
    simp only [wpA_skip, wpA_region, wpA_seq, wpA_cond, wpA_block, wpA_ret, condI_true, condI_false, seqQ_normal, seqQ_ret, blkQ_ret, endI_mk, goI_out, goI_ops, opsA_nil, opsA_cons, opsA_guardS, gvI_same, gvI_tf, slotAt_zero, slotAt_succ, stepA_move, stepA_assign, stepA_pick, stepA_binOp, thenV_some, pickV_true, eval_tmp, eval_const, put_some, enterF_zero, enterF_succ, aBin_eql, absV_int, absV_bool, beq_self_eq_true, Nat.reduceEqDiff, reduceCtorEq, if_true, if_false, nb, c6, c7, c8, aBin_quo hb, retA_ret, Tryd.results30, resultsA_2]
    exact hid_mk ⟨by simp [combX, hb, evO, w64], rfl⟩
  · have h10 : op = 10 := by simpa using n10
    have hb : b ≠ 0 := by simpa using nb
    subst h10
    have c6 : ((10 : Int) == 6) = false := rfl
    have c7 : ((10 : Int) == 7) = false := rfl
    have c8 : ((10 : Int) == 8) = false := rfl
    have hm := modR ha hb
    unfold w64 at hm
    simp only [wpA_skip, wpA_region, wpA_seq, wpA_cond, wpA_block, wpA_ret, condI_true, condI_false, seqQ_normal, seqQ_ret, blkQ_ret, endI_mk, goI_out, goI_ops, opsA_nil, opsA_cons, opsA_guardS, gvI_same, slotAt_zero, slotAt_succ, stepA_move, stepA_assign, stepA_pick, stepA_binOp, thenV_some, pickV_true, pickV_false, eval_tmp, eval_const, put_some, enterF_zero, enterF_succ, aBin_sub, aBin_mul, aBin_eql, absV_int, absV_bool, beq_self_eq_true, Nat.reduceEqDiff, reduceCtorEq, if_true, if_false, n9, nb, c6, c7, c8, aBin_quo hb, hm, retA_ret, Tryd.results30, resultsA_2]
    exact hid_mk ⟨by simp [combX, hb, evO], rfl⟩
end Go.Proofs.YthnleejpeocaeaaDoor.Pk
