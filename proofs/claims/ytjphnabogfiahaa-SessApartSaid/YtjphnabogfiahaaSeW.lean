/-
  What functions of the program do, told of abstract states. Conditions: as each theorem says.
-/
import Derived.Test.YtjphnabogfiahaaSeN
import Derived.Test.YtjphnabogfiahaaAbD
namespace Go.Proofs.Ytjphnabogfiahaa.Pk
open Go Go.Proofs Go.Proofs.Ytjphnabogfiahaa.Ab

theorem wdeed_of {e : List V} (h : Sh.fitsB (.cat (.int .i64) (.cat (.int .i64) (.cat (.int .i64) (.cat (.int .i64) (.cat (.cat (.int .i64) (.cat (.int .i64) (.cat (.int .i64) (.cat (.int .i64) (.cat .bool .unit))))) .unit))))) e) : ∃ d : Deed, e = dE d := by
  obtain ⟨_, _, rfl, ⟨a, rfl, _⟩, _, _, rfl, ⟨b, rfl, _⟩, _, _, rfl, ⟨t, rfl, _⟩, _, _, rfl, ⟨c, rfl, _⟩, _, _, rfl, ⟨_, _, rfl, ⟨d, rfl, _⟩, _, _, rfl, ⟨e, rfl, _⟩, _, _, rfl, ⟨f, rfl, _⟩, _, _, rfl, ⟨g, rfl, _⟩, _, _, rfl, ⟨x, rfl⟩, rfl⟩, rfl⟩ := h
  exact ⟨⟨a, b, t, c, ⟨d, e, f, g, x⟩⟩, rfl⟩
theorem map_of {α : Type} {s : Sh} {enc : α → List V} (hs : ∀ e, s.fitsB e → ∃ c, e = enc c) : ∀ {es : List (List V)}, (∀ x ∈ es, s.fitsB x) → ∃ l : List α, es.length = l.length ∧ es.flatten = l.flatMap enc
  | [], _ => ⟨[], rfl, rfl⟩
  | e :: es, h => by
    obtain ⟨l, h1, h2⟩ := map_of hs (es := es) fun x hx => h x (by simp [hx])
    obtain ⟨c, rfl⟩ := hs e (h _ (by simp))
    exact ⟨c :: l, by simp [h1], by simp [h2]⟩
end Go.Proofs.Ytjphnabogfiahaa.Pk
