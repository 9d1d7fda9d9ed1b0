/-
  What functions of the program do, told of abstract states. Conditions: as each theorem says.
-/
import Derived.Test.YtjphnabogfiahaaDoorPaF
namespace Go.Proofs.YtjphnabogfiahaaDoor.Pk
open Go Go.Proofs Go.Proofs.YtjphnabogfiahaaDoor.Ab
set_option linter.unusedVariables false
set_option linter.unusedSimpArgs false

theorem wf_u8' {a : Int} (h : (Lit.int .u8 a).wf = true) : 0 ≤ a ∧ a < 256 := by
  simp only [Lit.wf, Bool.and_eq_true, decide_eq_true_eq] at h
  have h1 : IntKind.u8.min = 0 := rfl
  have h2 : IntKind.u8.max = 255 := rfl
  omega
theorem pUint0 (n : Nat) (h : AHeap) (hn : n < 2 ^ 64) : Pure Tryd.prog 29 [.snil, .int .u64 n] h (.imm (enc n).length (bytesV (enc n))) := by
  have := pUint .snil [] n h (Rd.snil h) (by simp) hn
  rwa [List.nil_append] at this
theorem slice_to (l : List Nat) (k : Nat) (hk : k ≤ l.length) : aSlice Tryd.prog 24 (.imm l.length (bytesV l)) none (some (.int .i64 (k : Nat))) none = some (.imm (l.take k).length (bytesV (l.take k))) := by
  rw [slice_imm_hi ss_24 (by omega) (by omega) (by rw [bytesV_length]; omega)]
  rw [Int.toNat_natCast, Nat.mul_one, List.length_take, Nat.min_eq_left hk]
  unfold bytesV
  rw [List.map_take]

end Go.Proofs.YtjphnabogfiahaaDoor.Pk
