/-
  What functions of the program do, told of abstract states. Conditions: as each theorem says.
-/
import Derived.Test.YtmgjjhpkhjebbaaLsQ
import Derived.Test.YtmgjjhpkhjebbaaLsS
import Derived.Test.YtmgjjhpkhjebbaaAbD
namespace Go.Proofs.Ytmgjjhpkhjebbaa.Pk
open Go Go.Proofs Go.Proofs.Ytmgjjhpkhjebbaa.Ab
theorem chg_of {e : List V} (h : Sh.fitsB (.cat (.int .i64) (.cat (.int .i64) (.cat (.int .i64) (.cat (.int .i64) (.cat .bool .unit))))) e) : ∃ c : Chg, e = chgE c := by
  obtain ⟨l1, _, rfl, ⟨a, rfl, _⟩, l2, _, rfl, ⟨b, rfl, _⟩, l3, _, rfl, ⟨c, rfl, _⟩, l4, _, rfl, ⟨d, rfl, _⟩, l5, _, rfl, ⟨x, rfl⟩, rfl⟩ := h
  exact ⟨⟨a, b, c, d, x⟩, rfl⟩
theorem map_of {α : Type} {s : Sh} {enc : α → List V} (hs : ∀ e, s.fitsB e → ∃ c, e = enc c) : ∀ {es : List (List V)}, (∀ x ∈ es, s.fitsB x) → ∃ l : List α, es.length = l.length ∧ es.flatten = l.flatMap enc
  | [], _ => ⟨[], rfl, rfl⟩
  | e :: es, h => by
    obtain ⟨l, h1, h2⟩ := map_of hs (es := es) fun x hx => h x (by simp [hx])
    obtain ⟨c, rfl⟩ := hs e (h _ (by simp))
    exact ⟨c :: l, by simp [h1], by simp [h2]⟩
end Go.Proofs.Ytmgjjhpkhjebbaa.Pk
