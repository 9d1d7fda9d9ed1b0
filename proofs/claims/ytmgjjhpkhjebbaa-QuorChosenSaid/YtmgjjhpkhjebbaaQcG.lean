/-
  What functions of the program do, told of abstract states. Conditions: as each theorem says.
-/
import Derived.Test.YtmgjjhpkhjebbaaQcF
import Derived.Test.YtmgjjhpkhjebbaaAbD
import Derived.Test.YtmgjjhpkhjebbaaAbD
namespace Go.Proofs.Ytmgjjhpkhjebbaa.Pk
open Go Go.Proofs Go.Proofs.Ytmgjjhpkhjebbaa.Ab
theorem map_ofP {α : Type} {s : Sh} {enc : α → List V} {Q : α → Prop} (hs : ∀ e, s.fitsB e → ∃ c, e = enc c ∧ Q c) : ∀ {es : List (List V)}, (∀ x ∈ es, s.fitsB x) → ∃ l : List α, es.length = l.length ∧ es.flatten = l.flatMap enc ∧ ∀ c ∈ l, Q c
  | [], _ => ⟨[], rfl, rfl, by simp⟩
  | e :: es, h => by
    obtain ⟨l, h1, h2, h3⟩ := map_ofP hs (es := es) fun x hx => h x (by simp [hx])
    obtain ⟨c, rfl, hq⟩ := hs e (h _ (by simp))
    exact ⟨c :: l, by simp [h1], by simp [h2], fun x hx => by
      rcases List.mem_cons.1 hx with rfl | hx
      · exact hq
      · exact h3 x hx⟩
def celSh : Sh := .cat (.int .i64) (.cat (.int .i64) (.cat (.sl (.int .u8)) .unit))
theorem u8_flat : ∀ l : List Int, (l.flatMap fun n => [V.int .u8 n]) = u8V l
  | [] => rfl
  | x :: l => by rw [List.flatMap_cons, u8_flat l]; rfl
theorem cel_of {e : List V} (h : celSh.fitsB e) : ∃ c : Cel, e = celE c ∧ c.by_.length ≤ 140737488355328 := by
  obtain ⟨_, _, rfl, ⟨a, rfl, _⟩, _, _, rfl, ⟨b, rfl, _⟩, _, _, rfl, ⟨es, rfl, hl, he⟩, hu⟩ := h
  have hu' : _ = [] := hu
  subst hu'
  obtain ⟨l, h1, h2, _⟩ := map_ofP (s := .int .u8) (enc := fun n : Int => [V.int .u8 n]) (Q := fun _ => True) (fun e he => by
    obtain ⟨n, rfl, _⟩ := he
    exact ⟨n, rfl, trivial⟩) he
  rw [u8_flat] at h2
  exact ⟨⟨a, b, l⟩, by simp [celE, h1, h2], by simp only; omega⟩
end Go.Proofs.Ytmgjjhpkhjebbaa.Pk
