/-
  What functions of the program do, told of abstract states. Conditions: as each theorem says.
-/
import Derived.Test.YthnleejpeocaeaaDoorFlM
namespace Go.Proofs.YthnleejpeocaeaaDoor.Pk
open Go Go.Proofs Go.Proofs.YthnleejpeocaeaaDoor.Ab
set_option linter.unusedVariables false
set_option linter.unusedSimpArgs false
theorem passL_at {f : Rec → PS → (Int × Int) × PS} {lo hi : Int} (H : ∀ r s, (f r s).1.2 ≠ 0 → lo ≤ (f r s).1.1 ∧ (f r s).1.1 < hi) : ∀ (R : List Rec) (s : PS), (passL f R s).1.2 ≠ 0 → lo ≤ (passL f R s).1.1 ∧ (passL f R s).1.1 < hi
  | [], s, h => absurd rfl h
  | x :: R, s, h => by
    unfold passL at h ⊢
    by_cases he : (f x s).1.2 = 0
    · rw [if_neg (by simp [he])] at h ⊢; exact passL_at H R _ h
    · rw [if_pos he] at h ⊢; exact H x s h
theorem passX_at : ∀ (vs : List Vx) (i : Nat) (r : Rec) (s : PS), (passX vs i r s).1.2 ≠ 0 → (i : Int) ≤ (passX vs i r s).1.1 ∧ (passX vs i r s).1.1 < ((i + vs.length : Nat) : Int)
  | [], i, r, s, h => absurd rfl h
  | v :: vs, i, r, s, h => by
    rw [List.length_cons]
    unfold passX at h ⊢
    by_cases h1 : (applyX v r).2 ≠ 0
    · rw [if_pos h1]; simp only; omega
    · rw [if_neg h1] at h ⊢
      by_cases h2 : 10000 < (addT s.2 i (applyX v r).1.length).getD i 0
      · rw [if_pos h2]; simp only; omega
      · rw [if_neg h2] at h ⊢
        have := passL_at (lo := ((i + 1 : Nat) : Int)) (hi := ((i + 1 + vs.length : Nat) : Int)) (fun r s h => passX_at vs (i + 1) r s h) _ _ h
        omega
def zeroS (n : Nat) : PS := ([], List.replicate n 0)
theorem zeroD (n q : Nat) : (zeroS n).2.getD q 0 = 0 := by
  simp only [zeroS, List.getD_eq_getElem?_getD, List.getElem?_replicate]
  split <;> rfl
theorem zero_good (n : Nat) : Good n (zeroS n) := ⟨by simp [zeroS], fun q => by rw [zeroD]; omega⟩
theorem chain_err (m : List Vx) (r : Rec) : (chainX m r).2.2 = (passX m 0 r (zeroS m.length)).1.2 := by
  unfold chainX zeroS
  split
  · rfl
  · rename_i h; simp only; simp at h; exact h.symm
theorem chain_bad {m : List Vx} {r : Rec} (h : (chainX m r).2.2 ≠ 0) : (chainX m r).1 = [] ∧ 0 ≤ (chainX m r).2.1 ∧ (chainX m r).2.1 < (m.length : Int) := by
  rw [chain_err] at h
  have := passX_at m 0 r (zeroS m.length) h
  unfold chainX
  unfold zeroS at h this
  rw [if_pos h]
  exact ⟨rfl, by simpa using this.1, by simpa using this.2⟩
theorem chain_ok {m : List Vx} {r : Rec} (h : (chainX m r).2.2 = 0) : (chainX m r).1 = (passX m 0 r (zeroS m.length)).2.1 ∧ ideal m r = some (chainX m r).1 := by
  have e : (chainX m r).1 = (passX m 0 r (zeroS m.length)).2.1 := by
    rw [chain_err] at h
    unfold chainX
    unfold zeroS at h ⊢
    rw [if_neg (by simp [h])]
  refine ⟨e, ?_⟩
  rw [chain_err] at h
  obtain ⟨l, i1, q1⟩ := (passX_told m 0 r (zeroS m.length)).1 h
  rw [i1, e, q1]; rfl
theorem chain_len (m : List Vx) (r : Rec) : (chainX m r).1.length ≤ 4 ^ m.length := by
  by_cases h : (chainX m r).2.2 = 0
  · rw [(chain_ok h).1]
    have := passX_len m 0 r (zeroS m.length)
    simpa [zeroS] using this
  · rw [(chain_bad h).1]; simp
/-- The whole went well: so do its pieces. -/
theorem split_ok {m : List Vx} {r : Rec} {k : Nat} (hk : k ≤ m.length) (h : (chainX m r).2.2 = 0) : (chainX (m.take k) r).2.2 = 0 ∧ ∀ x ∈ (chainX (m.take k) r).1, (chainX (m.drop k) x).2.2 = 0 := by
  rw [chain_err] at h
  have hl : (m.take k).length = k := by rw [List.length_take]; omega
  have hd : (m.drop k).length = m.length - k := List.length_drop
  have hm : m.take k ++ m.drop k = m := List.take_append_drop k m
  have s1 := passX_sim (m.drop k) m.length (m.take k) 0 0 r (zeroS m.length) (zeroS k) (by omega) (by rw [hl]; simp [zeroS]) (zero_good _) (fun q hq => by rw [zeroD, zeroD]; omega) (by rw [hm]; exact h)
  obtain ⟨z, _, _, _, l, q1, d⟩ := s1
  have h1 : (chainX (m.take k) r).2.2 = 0 := by rw [chain_err, hl]; exact z
  refine ⟨h1, fun x hx => ?_⟩
  rw [(chain_ok h1).1, hl, q1] at hx
  obtain ⟨st, gs, hs⟩ := d x (by simpa [zeroS] using hx)
  have s2 := passX_sim [] m.length (m.drop k) (0 + (m.take k).length) 0 x st (zeroS (m.drop k).length) (by simp only [List.length_nil]; omega) (by simp [zeroS]) gs (fun q hq => by rw [zeroD]; exact ⟨by omega, (gs.2 _).1⟩) (by rw [List.append_nil]; exact hs)
  rw [chain_err]
  exact s2.1
theorem split_sum {m : List Vx} {r : Rec} {k : Nat} (h1 : (chainX (m.take k) r).2.2 = 0) (h2 : ∀ x ∈ (chainX (m.take k) r).1, (chainX (m.drop k) x).2.2 = 0) (h3 : (chainX m r).2.2 ≠ 3) :
    (chainX m r).2.2 = 0 ∧ (chainX m r).1 = (chainX (m.take k) r).1.flatMap fun x => (chainX (m.drop k) x).1 := by
  have hm : m.take k ++ m.drop k = m := List.take_append_drop k m
  have hi : ideal m r = some ((chainX (m.take k) r).1.flatMap fun x => (chainX (m.drop k) x).1) := by
    rw [← hm, ideal_append, (chain_ok h1).2, Option.bind_some, hm]
    have : ∀ R : List Rec, (∀ x ∈ R, (chainX (m.drop k) x).2.2 = 0) → idealL (m.drop k) R = some (R.flatMap fun x => (chainX (m.drop k) x).1) := by
      intro R
      induction R with
      | nil => intro _; rw [idealL_nil]; rfl
      | cons x R ih =>
        intro hR
        rw [idealL_cons, (chain_ok (hR x (List.mem_cons_self ..))).2, ih (fun y hy => hR y (List.mem_cons_of_mem _ hy))]
        rfl
    exact this _ h2
  have h0 : (chainX m r).2.2 = 0 := by
    rw [chain_err] at h3 ⊢
    refine Decidable.byContradiction fun hne => ?_
    have := (passX_told m 0 r (zeroS m.length)).2 hne h3
    rw [hi] at this; cases this
  refine ⟨h0, ?_⟩
  have := (chain_ok h0).2
  rw [hi] at this
  exact (Option.some.inj this).symm
end Go.Proofs.YthnleejpeocaeaaDoor.Pk
