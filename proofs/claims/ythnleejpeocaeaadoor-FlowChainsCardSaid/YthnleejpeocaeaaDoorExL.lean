/-
  What functions of the program do, told of abstract states. Conditions: as each theorem says.
-/
import Derived.Test.YthnleejpeocaeaaDoorExK
namespace Go.Proofs.YthnleejpeocaeaaDoor.Pk
open Go Go.Proofs Go.Proofs.YthnleejpeocaeaaDoor.Ab
set_option linter.unusedVariables false
set_option linter.unusedSimpArgs false

theorem useL_mem {op : Int} : ∀ {l : List Ex} {k : Ex}, k ∈ l → useX op k = true → useL op l = true
  | [], k, hk, _ => by simp at hk
  | a :: r, k, hk, h => by
    rcases List.mem_cons.1 hk with rfl | hk
    · simp [useL, h]
    · simp [useL, useL_mem hk h]
theorem val_none {rk rv rt acc : Int} : ∀ {d : Nat} {e : Ex}, okX d e → valF rk rv rt acc d e = none → useX 9 e = true ∨ useX 10 e = true
  | 0, e, hok, _ => hok.zero.elim
  | d + 1, .mk o n ks, hok, hv => by
    obtain ⟨hfit, hkids⟩ := hok.fits
    obtain ⟨hlen, ho1, ho2⟩ := fits_len hfit
    have up : ∀ k, k ∈ ks → (useX 9 k = true ∨ useX 10 k = true) → useX 9 (.mk o n ks) = true ∨ useX 10 (.mk o n ks) = true := fun k hk h => by
      rcases h with h | h
      · left; simp [useX, useL_mem hk h]
      · right; simp [useX, useL_mem hk h]
    have kid : ∀ {i : Nat}, i < ks.length → ∃ k, ks[i]? = some k ∧ (valF rk rv rt acc d k = none → useX 9 (.mk o n ks) = true ∨ useX 10 (.mk o n ks) = true) := fun {i} hi =>
      ⟨ks[i], List.getElem?_eq_getElem hi, fun h => up _ (List.getElem_mem hi) (val_none (hkids _ (List.getElem_mem hi)) h)⟩
    by_cases h1 : o = 1
    · simp [valF, h1] at hv
    by_cases h2 : o = 2
    · simp [valF, h2] at hv
    by_cases h3 : o = 3
    · simp [valF, h3] at hv
    by_cases h4 : o = 4
    · simp [valF, h4] at hv
    by_cases h5 : o = 5
    · simp [valF, h5] at hv
    have hl : (if o = 14 then 1 else if o = 13 then 3 else 2) = ks.length := by
      have : o.toNat = 6 ∨ o.toNat = 7 ∨ o.toNat = 8 ∨ o.toNat = 9 ∨ o.toNat = 10 ∨ o.toNat = 11 ∨ o.toNat = 12 ∨ o.toNat = 13 ∨ o.toNat = 14 ∨ o.toNat = 15 ∨ o.toNat = 16 := by omega
      rcases this with q | q | q | q | q | q | q | q | q | q | q <;> rw [q] at hlen <;> simp [kidsN] at hlen <;> split <;> (try split) <;> omega
    by_cases h14 : o = 14
    · rw [if_pos h14] at hl
      obtain ⟨A, hA, uA⟩ := kid (i := 0) (by omega)
      simp only [valF, h14, hA, Option.bind_some] at hv
      exact uA (by simpa using hv)
    rw [if_neg h14] at hl
    by_cases h13 : o = 13
    · rw [if_pos h13] at hl
      obtain ⟨A, hA, uA⟩ := kid (i := 0) (by omega)
      obtain ⟨B, hB, uB⟩ := kid (i := 1) (by omega)
      obtain ⟨C, hC, uC⟩ := kid (i := 2) (by omega)
      simp only [valF, h13, hA, hB, hC, Option.bind_some] at hv
      simp at hv
      cases ha : valF rk rv rt acc d A with
      | none => exact uA ha
      | some a =>
        simp only [ha] at hv
        by_cases h0 : a = 0
        · exact uC (by simpa [h0] using hv)
        · exact uB (by simpa [h0] using hv)
    rw [if_neg h13] at hl
    obtain ⟨A, hA, uA⟩ := kid (i := 0) (by omega)
    obtain ⟨B, hB, uB⟩ := kid (i := 1) (by omega)
    simp only [valF, h1, h2, h3, h4, h5, h14, h13, hA, hB, Option.bind_some, if_false] at hv
    cases ha : valF rk rv rt acc d A with
    | none => exact uA ha
    | some a =>
      cases hb : valF rk rv rt acc d B with
      | none => exact uB hb
      | some b =>
        simp only [ha, hb, Option.bind_some] at hv
        by_cases h9 : o = 9
        · left; simp [useX, h9]
        · by_cases h10 : o = 10
          · right; simp [useX, h10]
          · exfalso
            unfold combX at hv
            simp only [h9, h10, if_false] at hv
            revert hv
            repeat' split
            all_goals simp

end Go.Proofs.YthnleejpeocaeaaDoor.Pk
