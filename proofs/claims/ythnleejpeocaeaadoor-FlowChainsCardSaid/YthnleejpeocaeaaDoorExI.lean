/-
  What functions of the program do, told of abstract states. Conditions: as each theorem says.
-/
import Derived.Test.YthnleejpeocaeaaDoorExG
namespace Go.Proofs.YthnleejpeocaeaaDoor.Pk
open Go Go.Proofs Go.Proofs.YthnleejpeocaeaaDoor.Ab
set_option linter.unusedVariables false
set_option linter.unusedSimpArgs false

theorem w64_eq (n : Int) : w64 n = (n + 9223372036854775808) % 18446744073709551616 - 9223372036854775808 := by unfold w64; rw [IntKind.wrap_i64]
theorem w64_in {n : Int} (h1 : -2 ^ 63 ≤ n) (h2 : n < 2 ^ 63) : w64 n = n := by rw [w64_eq]; omega
theorem w64_add (a b : Int) : w64 (w64 a + b) = w64 (a + b) := by rw [w64_eq, w64_eq a, w64_eq (a + b)]; omega
theorem w64_mul (a b : Int) : w64 (w64 a * b) = w64 (a * b) := by
  rw [w64_eq, w64_eq a, w64_eq (a * b)]
  congr 1
  obtain ⟨k, hk⟩ : ∃ k, (a + 9223372036854775808) % 18446744073709551616 - 9223372036854775808 = a - 18446744073709551616 * k := ⟨(a + 9223372036854775808) / 18446744073709551616, by have := Int.emod_add_mul_ediv (a + 9223372036854775808) 18446744073709551616; omega⟩
  rw [hk, Int.sub_mul, Int.mul_assoc]
  rw [show a * b - 18446744073709551616 * (k * b) + 9223372036854775808 = (a * b + 9223372036854775808) + 18446744073709551616 * (-(k * b)) by rw [Int.mul_neg]; omega]
  rw [Int.add_mul_emod_self_left]
theorem parts (a b : Int) (h1 : -2 ^ 63 ≤ a) (h2 : a < 2 ^ 63) : w64 (w64 (w64 (a.tdiv b) * b) + a.tmod b) = a := by
  rw [w64_mul, w64_add, Int.mul_comm, Int.mul_tdiv_add_tmod, w64_in h1 h2]
end Go.Proofs.YthnleejpeocaeaaDoor.Pk
