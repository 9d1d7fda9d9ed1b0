/-
  What functions of the program do, told of abstract states. Conditions: as each theorem says.
-/
import Derived.Test.YtjphnabogfiahaaAbD
namespace Go.Proofs.Ytjphnabogfiahaa.Pk
open Go Go.Proofs Go.Proofs.Ytjphnabogfiahaa.Ab
/-! ### Whole numbers as floats -/
/-- A whole number's bits. -/
def f64 (n : Int) : Nat := FloatKind.nearest .f64 n
theorem cut_even (neg : Bool) (n : Nat) : Ieee.Toward.even.cut neg n 0 = n := by
  have h : (1 : Nat) <<< min 0 (n.log2 + 2) = 1 := by rw [Nat.zero_min]; rfl
  unfold Ieee.Toward.cut
  simp only [h, Nat.div_one, Nat.mod_one, Nat.mul_zero]
  rfl
theorem f64_word (n : Nat) (h0 : n ≠ 0) (h : n < 2 ^ 53) : f64 n = (n.log2 + 1022) * 2 ^ 52 + n * 2 ^ (52 - n.log2) := by
  have hL : n.log2 < 53 := (Nat.log2_lt h0).2 h
  have hu : n < 2 ^ (n.log2 + 1) := (Nat.log2_lt h0).1 (Nat.lt_succ_self _)
  have hk : n * 2 ^ (52 - n.log2) < 2 ^ 53 := by
    have := Nat.mul_lt_mul_of_pos_right hu (Nat.two_pow_pos (52 - n.log2))
    rwa [← Nat.pow_add, show n.log2 + 1 + (52 - n.log2) = 53 by omega] at this
  have e1 : decide (((n : Nat) : Int) < 0) = false := decide_eq_false (by omega)
  unfold f64 FloatKind.nearest FloatKind.encode FloatKind.format Ieee.Format.write Ieee.Format.nearest
  rw [e1]
  simp only [Int.natAbs_natCast, if_neg h0]
  have e2 : max (0 + ((n.log2 : Nat) : Int) - ((Ieee.double.fractionBits : Nat) : Int)) Ieee.double.leastPlace = (n.log2 : Int) - 52 := by
    show max (0 + ((n.log2 : Nat) : Int) - ((52 : Nat) : Int)) (-1074) = _
    omega
  rw [e2]
  have e3 : ((0 : Int) - ((n.log2 : Int) - 52)).toNat = 52 - n.log2 := by omega
  have e4 : ((n.log2 : Int) - 52 - 0).toNat = 0 := by omega
  have e5 : ((n.log2 : Int) - 52 - Ieee.double.leastPlace).toNat = n.log2 + 1022 := by
    show ((n.log2 : Int) - 52 - (-1074)).toNat = _
    omega
  rw [e3, e4, e5, cut_even, Nat.shiftLeft_eq]
  show Ieee.double.word false (min ((n.log2 + 1022) * 2 ^ 52 + n * 2 ^ (52 - n.log2)) (2047 * 2 ^ 52)) = _
  rw [Nat.min_eq_left (by omega)]
  rfl
theorem f64_back (n : Nat) (h : n < 2 ^ 53) : ((FloatKind.f64).decode (f64 n)).toInt .zero = some (n : Int) := by
  by_cases h0 : n = 0
  · subst h0; decide
  have hL : n.log2 < 53 := (Nat.log2_lt h0).2 h
  have hu : n < 2 ^ (n.log2 + 1) := (Nat.log2_lt h0).1 (Nat.lt_succ_self _)
  have hl : 2 ^ n.log2 ≤ n := Nat.log2_self_le h0
  have hk : n * 2 ^ (52 - n.log2) < 2 ^ 53 := by
    have := Nat.mul_lt_mul_of_pos_right hu (Nat.two_pow_pos (52 - n.log2))
    rwa [← Nat.pow_add, show n.log2 + 1 + (52 - n.log2) = 53 by omega] at this
  have hk2 : 2 ^ 52 ≤ n * 2 ^ (52 - n.log2) := by
    have := Nat.mul_le_mul_right (2 ^ (52 - n.log2)) hl
    rwa [← Nat.pow_add, show n.log2 + (52 - n.log2) = 52 by omega] at this
  have hw := f64_word n h0 h
  have hdiv : n * 2 ^ (52 - n.log2) / 2 ^ (52 - n.log2) = n := Nat.mul_div_cancel _ (Nat.two_pow_pos _)
  have hmod : n * 2 ^ (52 - n.log2) % 2 ^ (52 - n.log2) = 0 := Nat.mul_mod_left _ _
  have hlog : (n * 2 ^ (52 - n.log2)).log2 = 52 := by
    refine Nat.le_antisymm ?_ ?_
    · exact Nat.le_of_lt_succ ((Nat.log2_lt (by omega)).2 hk)
    · exact (Nat.le_log2 (by omega)).2 hk2
  generalize n * 2 ^ (52 - n.log2) = kept at *
  rw [hw]
  have e : (FloatKind.f64).decode ((n.log2 + 1022) * 2 ^ 52 + kept) = .number false kept ((n.log2 : Int) - 52) := by
    unfold FloatKind.decode FloatKind.format Ieee.Format.read
    have s : Ieee.double.signWeight = 2 ^ 63 := rfl
    have b : Ieee.double.binade = 2 ^ 52 := rfl
    have i : Ieee.double.infRung = 2047 * 2 ^ 52 := rfl
    have lp : Ieee.double.leastPlace = -1074 := rfl
    simp only [s, b, i, lp]
    have q0 : ((n.log2 + 1022) * 2 ^ 52 + kept) / 2 ^ 63 = 0 := by omega
    have q1 : ((n.log2 + 1022) * 2 ^ 52 + kept) % 2 ^ 63 = (n.log2 + 1022) * 2 ^ 52 + kept := by omega
    have q2 : ((n.log2 + 1022) * 2 ^ 52 + kept) / 2 ^ 52 = n.log2 + 1023 := by omega
    have q3 : ((n.log2 + 1022) * 2 ^ 52 + kept) % 2 ^ 52 = kept - 2 ^ 52 := by omega
    rw [q0, q1, q2, q3, if_neg (by omega), if_pos (by omega), show 2 ^ 52 + (kept - 2 ^ 52) = kept by omega, show (-1074 : Int) + ((n.log2 + 1023 - 1 : Nat) : Int) = (n.log2 : Int) - 52 by omega]
    rfl
  rw [e]
  unfold Ieee.Datum.toInt Ieee.Datum.integral Ieee.Toward.cut
  have e3 : ((n.log2 : Int) - 52).toNat = 0 := by omega
  have e4 : (-((n.log2 : Int) - 52)).toNat = 52 - n.log2 := by omega
  simp only [e3, e4, Nat.shiftLeft_zero, hlog]
  rw [Nat.min_eq_left (by omega), Nat.one_shiftLeft, hdiv]
  simp [Ieee.signed]
theorem f64_int (n : Int) (h0 : 0 ≤ n) (h : n ≤ 2 ^ 40) : ((FloatKind.f64).decode (f64 n)).toInt .zero = some n := by
  obtain ⟨k, rfl⟩ : ∃ k : Nat, n = k := ⟨n.toNat, by omega⟩
  exact f64_back k (by omega)
end Go.Proofs.Ytjphnabogfiahaa.Pk
