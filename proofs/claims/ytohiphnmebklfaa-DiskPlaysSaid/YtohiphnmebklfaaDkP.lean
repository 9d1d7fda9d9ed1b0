/-
  What functions of the program do, told of abstract states. Conditions: as each theorem says.
-/
import Derived.Test.YtohiphnmebklfaaDkD
namespace Go.Proofs.Ytohiphnmebklfaa.Pk
open Go Go.Proofs Go.Proofs.Ytohiphnmebklfaa.Ab
set_option linter.unusedVariables false
set_option linter.unusedSimpArgs false

theorem app0 (h : AHeap) : aBuildSlice Try.prog 29 0 [] h = some (.sl h.n 0 0 0, h.push (.cells [] 5 none)) := by rw [buildSlice_go sl_29]; rfl
theorem ints_fitsB : ∀ {es : List (List V)}, (∀ x ∈ es, Sh.fitsB (.int .u8) x) → ∃ ns : List Int, es = ns.map fun n => [V.int .u8 n]
  | [], _ => ⟨[], rfl⟩
  | e :: es, h => by
    obtain ⟨l, rfl⟩ := ints_fitsB (es := es) fun x hx => h x (by simp [hx])
    obtain ⟨n, rfl, _⟩ := h e (by simp)
    exact ⟨n :: l, rfl⟩
theorem flat_ints (ns : List Int) : (ns.map fun n => [V.int .u8 n]).flatten = ns.map (V.int .u8) := by
  induction ns with
  | nil => rfl
  | cons n ns ih => simp [ih]
end Go.Proofs.Ytohiphnmebklfaa.Pk
