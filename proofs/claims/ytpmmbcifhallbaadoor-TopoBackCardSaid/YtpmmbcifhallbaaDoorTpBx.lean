/-
  What functions of the program do, told of abstract states. Conditions: as each theorem says.
-/
import Derived.Test.YtpmmbcifhallbaaDoorTpBf
namespace Go.Proofs.YtpmmbcifhallbaaDoor.Pk
open Go Go.Proofs Go.Proofs.YtpmmbcifhallbaaDoor.Ab
set_option linter.unusedVariables false
set_option linter.unusedSimpArgs false
theorem encB_lt : ∀ (s : Nat) (e : Ex), szE e = s → ∀ b ∈ encB e, b < 256 := by
  intro s
  induction s using Nat.strongRecOn with
  | _ s ih =>
  intro e hs b hb
  have hk : ∀ k ∈ e.ks, ∀ b ∈ encB k, b < 256 := fun k hk => ih (szE k) (by have := szE_kid k hk; omega) k rfl
  obtain ⟨o, n, l⟩ := e
  rw [encB_eq, List.mem_append, List.mem_append] at hb
  rcases hb with (hb | hb) | hb
  · exact enc_lt _ _ (Nat.le_refl _) b hb
  · split at hb
    · exact enc_lt _ _ (Nat.le_refl _) b hb
    · cases hb
  · obtain ⟨k, hk1, hk2⟩ := List.mem_flatMap.1 hb
    exact hk k hk1 b hk2
end Go.Proofs.YtpmmbcifhallbaaDoor.Pk
