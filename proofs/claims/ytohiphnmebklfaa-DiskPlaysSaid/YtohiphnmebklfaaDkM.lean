/-
  What functions of the program do, told of abstract states. Conditions: as each theorem says.
-/
import Derived.Test.YtohiphnmebklfaaDkL
namespace Go.Proofs.Ytohiphnmebklfaa.Pk
open Go Go.Proofs Go.Proofs.Ytohiphnmebklfaa.Ab

theorem deed_of {e : List V} (h : Sh.fitsB (.cat (.int .i64) (.cat (.int .i64) (.cat (.int .i64) (.cat (.sl (.int .u8)) .unit)))) e) : ∃ d : Deed, e = deedE d ∧ d.b.length < 2 ^ 47 := by
  obtain ⟨l1, _, rfl, ⟨a, rfl, _⟩, l2, _, rfl, ⟨b, rfl, _⟩, l3, _, rfl, ⟨c, rfl, _⟩, l4, _, rfl, ⟨es, rfl, hn, hes⟩, rfl⟩ := h
  obtain ⟨ns, rfl⟩ := ints_fitsB hes
  rw [List.length_map] at hn
  exact ⟨⟨a, b, c, ns⟩, by rw [flat_ints, List.length_map]; rfl, hn⟩
theorem deeds_of : ∀ {es : List (List V)}, (∀ x ∈ es, Sh.fitsB (.cat (.int .i64) (.cat (.int .i64) (.cat (.int .i64) (.cat (.sl (.int .u8)) .unit)))) x) → ∃ l : List Deed, es.length = l.length ∧ es.flatten = l.flatMap deedE ∧ ∀ d ∈ l, d.b.length < 2 ^ 47
  | [], _ => ⟨[], rfl, rfl, by simp⟩
  | e :: es, h => by
    obtain ⟨l, h1, h2, h3⟩ := deeds_of (es := es) fun x hx => h x (by simp [hx])
    obtain ⟨c, rfl, hc⟩ := deed_of (h e (by simp))
    exact ⟨c :: l, by simp [h1], by simp [h2], fun d hd => by
      rcases List.mem_cons.1 hd with rfl | hd
      · exact hc
      · exact h3 d hd⟩
end Go.Proofs.Ytohiphnmebklfaa.Pk
