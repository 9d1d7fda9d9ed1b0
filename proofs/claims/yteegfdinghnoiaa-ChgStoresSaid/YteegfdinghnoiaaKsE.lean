/-
  What functions of the program do, told of abstract states. Conditions: as each theorem says.
-/
import Derived.Test.YteegfdinghnoiaaKsD
import Derived.Test.YteegfdinghnoiaaAbD
namespace Go.Proofs.Yteegfdinghnoiaa.Pk
open Go Go.Proofs Go.Proofs.Yteegfdinghnoiaa.Ab
theorem dd_of {e : List V} (h : Sh.fitsB (.cat .bool (.cat (.int .i64) (.cat (.int .i64) (.cat (.int .i64) .unit)))) e) : ∃ d : Dd, e = ddE d := by
  obtain ⟨_, _, rfl, ⟨a, rfl⟩, _, _, rfl, ⟨b, rfl, _⟩, _, _, rfl, ⟨c, rfl, _⟩, _, _, rfl, ⟨d, rfl, _⟩, rfl⟩ := h
  exact ⟨⟨a, b, c, d⟩, rfl⟩
theorem map_of {α : Type} {s : Sh} {enc : α → List V} (hs : ∀ e, s.fitsB e → ∃ c, e = enc c) : ∀ {es : List (List V)}, (∀ x ∈ es, s.fitsB x) → ∃ l : List α, es.length = l.length ∧ es.flatten = l.flatMap enc
  | [], _ => ⟨[], rfl, rfl⟩
  | e :: es, h => by
    obtain ⟨l, h1, h2⟩ := map_of hs (es := es) fun x hx => h x (by simp [hx])
    obtain ⟨c, rfl⟩ := hs e (h _ (by simp))
    exact ⟨c :: l, by simp [h1], by simp [h2]⟩
end Go.Proofs.Yteegfdinghnoiaa.Pk
