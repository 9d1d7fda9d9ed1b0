/-
  What functions of the program do, told of abstract states. Conditions: as each theorem says.
-/
import Derived.Test.YtohiphnmebklfaaMmI
namespace Go.Proofs.Ytohiphnmebklfaa.Pk
open Go Go.Proofs Go.Proofs.Ytohiphnmebklfaa.Ab

theorem seen_of {e : List V} (h : Sh.fitsB (.cat (.int .i64) (.cat (.int .i64) .unit)) e) : ∃ p : Int × Int, e = encS p := by
  obtain ⟨l1, _, rfl, ⟨a, rfl, _⟩, l2, _, rfl, ⟨b, rfl, _⟩, rfl⟩ := h
  exact ⟨(a, b), rfl⟩
theorem seens_of : ∀ {es : List (List V)}, (∀ x ∈ es, Sh.fitsB (.cat (.int .i64) (.cat (.int .i64) .unit)) x) → ∃ l : List (Int × Int), es.length = l.length ∧ es.flatten = l.flatMap encS
  | [], _ => ⟨[], rfl, rfl⟩
  | e :: es, h => by
    obtain ⟨l, h1, h2⟩ := seens_of (es := es) fun x hx => h x (by simp [hx])
    obtain ⟨c, rfl⟩ := seen_of (h e (by simp))
    exact ⟨c :: l, by simp [h1], by simp [h2]⟩
end Go.Proofs.Ytohiphnmebklfaa.Pk
