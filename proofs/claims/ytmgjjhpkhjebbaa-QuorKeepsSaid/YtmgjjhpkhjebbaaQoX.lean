/-
  What functions of the program do, told of abstract states. Conditions: as each theorem says.
-/
import Derived.Test.YtmgjjhpkhjebbaaQoW
import Derived.Test.YtmgjjhpkhjebbaaQoJ
namespace Go.Proofs.Ytmgjjhpkhjebbaa.Pk
open Go Go.Proofs Go.Proofs.Ytmgjjhpkhjebbaa.Ab
theorem bool_flat : ∀ l : List Bool, (l.flatMap fun n => [V.bool n]) = boolsV l
  | [] => rfl
  | x :: l => by rw [List.flatMap_cons, bool_flat l]; rfl
theorem bools_of {es : List (List V)} (h : ∀ x ∈ es, Sh.bool.fitsB x) : ∃ l : List Bool, es.length = l.length ∧ es.flatten = boolsV l := by
  obtain ⟨l, h1, h2, _⟩ := map_ofP (s := .bool) (enc := fun n : Bool => [V.bool n]) (Q := fun _ => True) (fun e he => by
    obtain ⟨n, rfl⟩ := he
    exact ⟨n, rfl, trivial⟩) h
  rw [bool_flat] at h2
  exact ⟨l, h1, h2⟩
end Go.Proofs.Ytmgjjhpkhjebbaa.Pk
