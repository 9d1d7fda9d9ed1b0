/-
  What functions of the program do, told of abstract states. Conditions: as each theorem says.
-/
import Derived.Test.YtjphnabogfiahaaDoorPaI
namespace Go.Proofs.YtjphnabogfiahaaDoor.Pk
open Go Go.Proofs Go.Proofs.YtjphnabogfiahaaDoor.Ab
set_option linter.unusedVariables false
set_option linter.unusedSimpArgs false

theorem ints_of {k : IntKind} : ∀ {es : List (List V)}, (∀ x ∈ es, Sh.fitsB (.int k) x) → ∃ l : List Int, es = (l.map fun n => [V.int k n]) ∧ ∀ n ∈ l, (Lit.int k n).wf = true
  | [], _ => ⟨[], rfl, by simp⟩
  | e :: es, h => by
    obtain ⟨l, rfl, hl⟩ := ints_of (es := es) fun x hx => h x (by simp [hx])
    obtain ⟨n, rfl, hw⟩ := h e (by simp)
    exact ⟨n :: l, rfl, fun m hm => by
      rcases List.mem_cons.1 hm with rfl | hm
      · exact hw
      · exact hl m hm⟩
theorem flat_ints {k : IntKind} (l : List Int) : (l.map fun n => [V.int k n]).flatten = l.map (V.int k) := by
  induction l with
  | nil => rfl
  | cons n l ih => simp [ih]
theorem wf_i64' {a : Int} (h : (Lit.int .i64 a).wf = true) : -2 ^ 63 ≤ a ∧ a < 2 ^ 63 := by
  simp only [Lit.wf, Bool.and_eq_true, decide_eq_true_eq] at h
  have h1 : IntKind.i64.min = -2 ^ 63 := rfl
  have h2 : IntKind.i64.max = 2 ^ 63 - 1 := rfl
  omega
theorem wf_u64' {a : Int} (h : (Lit.int .u64 a).wf = true) : ∃ n : Nat, a = n ∧ n < 2 ^ 64 := by
  simp only [Lit.wf, Bool.and_eq_true, decide_eq_true_eq] at h
  have h1 : IntKind.u64.min = 0 := rfl
  have h2 : IntKind.u64.max = 18446744073709551615 := rfl
  exact ⟨a.toNat, by omega, by omega⟩
theorem mass_bytes (l : List Nat) : massL (bytesV l) = l.length := by
  induction l with
  | nil => rfl
  | cons n l ih => simp only [bytesV, List.map_cons, massL, V.mass, List.length_cons] at ih ⊢; omega
theorem mass_ints {k : IntKind} (l : List Int) : massL (l.map (V.int k)) = l.length := by
  induction l with
  | nil => rfl
  | cons n l ih => simp only [List.map_cons, massL, V.mass, List.length_cons] at ih ⊢; omega

end Go.Proofs.YtjphnabogfiahaaDoor.Pk
