/-
  What functions of the program do, told of abstract states. Conditions: as each theorem says.
-/
import Derived.Test.YtjphnabogfiahaaDoorPaQ
namespace Go.Proofs.YtjphnabogfiahaaDoor.Pk
open Go Go.Proofs Go.Proofs.YtjphnabogfiahaaDoor.Ab
set_option linter.unusedVariables false
set_option linter.unusedSimpArgs false

theorem getBytes_lt {bs : List Nat} (hb : ∀ b ∈ bs, b < 256) : (∀ b ∈ (getBytes bs).2.1, b < 256) ∧ (getBytes bs).2.1.length ≤ bs.length ∧ (getBytes bs).1.length ≤ bs.length := by
  unfold getBytes
  split
  · exact ⟨hb, Nat.le_refl _, by simp⟩
  · split
    · exact ⟨hb, Nat.le_refl _, by simp⟩
    · refine ⟨mem_drop (mem_drop hb _) _, ?_, ?_⟩ <;> simp <;> omega
theorem goInts_lt : ∀ (k : Nat) (rest : List Nat) (acc : List Int), (∀ b ∈ rest, b < 256) → (goInts k rest acc).2.2 = 0 → (∀ b ∈ (goInts k rest acc).2.1, b < 256) ∧ (goInts k rest acc).2.1.length ≤ rest.length ∧ (goInts k rest acc).1.length ≤ rest.length + acc.length
  | 0, rest, acc, hb, _ => ⟨hb, Nat.le_refl _, by simp [goInts]⟩
  | k + 1, rest, acc, hb, h => by
    unfold goInts at h ⊢
    split at h
    · rename_i h1; simp at h; exact absurd h h1
    · rename_i h1
      split at h
      · simp at h
      · rename_i h2
        rw [if_neg h1, if_neg h2]
        have hst := dec_step hb (by simpa using h1)
        obtain ⟨a, b, c⟩ := goInts_lt k _ _ (mem_drop hb _) h
        refine ⟨a, ?_, ?_⟩
        · rw [List.length_drop] at b; omega
        · rw [List.length_drop, List.length_append] at c; simp at c; omega
theorem getInts_lt {bs : List Nat} (most : Int) (hb : ∀ b ∈ bs, b < 256) : (∀ b ∈ (getInts bs most).2.1, b < 256) ∧ (getInts bs most).2.1.length ≤ bs.length ∧ (getInts bs most).1.length ≤ bs.length := by
  unfold getInts
  split
  · exact ⟨hb, Nat.le_refl _, by simp⟩
  · split
    · exact ⟨hb, Nat.le_refl _, by simp⟩
    · split
      · exact ⟨hb, Nat.le_refl _, by simp⟩
      · rename_i h
        obtain ⟨a, b, c⟩ := goInts_lt (dec bs 0 0).1 (bs.drop (dec bs 0 0).2.1) [] (mem_drop hb _) (by simpa using h)
        refine ⟨a, ?_, ?_⟩
        · rw [List.length_drop] at b; omega
        · rw [List.length_drop] at c; simp at c; omega

end Go.Proofs.YtjphnabogfiahaaDoor.Pk
