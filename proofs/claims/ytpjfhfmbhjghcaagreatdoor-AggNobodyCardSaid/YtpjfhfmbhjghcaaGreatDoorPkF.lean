/-
  What functions of the program do, told of abstract states. Conditions: as each theorem says.
-/
import Derived.Test.YtpjfhfmbhjghcaaGreatDoorPkD
namespace Go.Proofs.YtpjfhfmbhjghcaaGreatDoor.Pk
open Go Go.Proofs Go.Proofs.YtpjfhfmbhjghcaaGreatDoor.Ab
set_option linter.unusedVariables false
set_option linter.unusedSimpArgs false
set_option maxRecDepth 10000
theorem dec_prefix : ∀ (m x k acc j : Nat), (enc x).length ≤ m → k + (enc x).length ≤ 10 → j < (enc x).length → dec ((enc x).take j) k acc = (0, 0, 4)
  | 0, x, k, acc, j, h, _, hj => by omega
  | m + 1, x, k, acc, j, h, hk, hj => by
    by_cases hx : x < 128
    · rw [enc_small hx] at hj ⊢
      have : j = 0 := by simp at hj; exact hj
      subst this
      rfl
    · rw [enc_big hx] at h hk hj ⊢
      simp only [List.length_cons] at h hk hj
      cases j with
      | zero => rfl
      | succ j =>
        have hpos : 1 ≤ (enc (x / 128)).length := by
          by_cases h2 : x / 128 < 128
          · rw [enc_small h2]; simp
          · rw [enc_big h2]; simp
        rw [List.take_succ_cons, dec, if_neg (by omega), if_pos (by omega)]
        exact dec_prefix m (x / 128) (k + 1) _ j (by omega) (by omega) (by omega)
theorem dec_enc : ∀ (bs : List Nat) (k acc m used : Nat), (∀ b ∈ bs, b < 256) → dec bs k acc = (m, used, 0) → k < used ∧ ∃ x, m = acc + x * 2 ^ (7 * k) ∧ bs.take (used - k) = enc x ∧ (0 < k → 0 < x)
  | [], k, acc, m, used, _, h => by simp [dec] at h
  | g :: r, k, acc, m, used, hb, h => by
    have hg : g < 256 := hb g (by simp)
    unfold dec at h
    split at h
    · simp at h
    · split at h
      · rename_i h2
        obtain ⟨hu, x, h3, h4, h5⟩ := dec_enc r (k + 1) _ m used (fun b hb' => hb b (by simp [hb'])) h
        have hx := h5 (by omega)
        refine ⟨by omega, g % 128 + 128 * x, ?_, ?_, by omega⟩
        · rw [h3, Nat.mul_add, Nat.pow_add, Nat.add_mul, Nat.add_assoc]
          congr 2
          have e : (2 : Nat) ^ (7 * 1) = 128 := by decide
          rw [e, Nat.mul_comm (2 ^ (7 * k)) 128, ← Nat.mul_assoc, Nat.mul_comm x 128]
        · rw [show used - k = (used - (k + 1)) + 1 by omega, List.take_succ_cons, h4, enc_big (n := g % 128 + 128 * x) (by omega)]
          congr 1
          · omega
          · congr 1; omega
      · split at h
        · simp at h
        · rename_i h1 h2 h3
          simp only [Prod.mk.injEq, and_true] at h
          obtain ⟨rfl, rfl⟩ := h
          refine ⟨by omega, g, ?_, ?_, by omega⟩
          · rw [Nat.mod_eq_of_lt (by omega)]
          · rw [show k + 1 - k = 1 by omega, enc_small (by omega)]; rfl
theorem dec_lt : ∀ (bs : List Nat) (k acc : Nat), k ≤ 9 → acc < 2 ^ (7 * k) → (∀ b ∈ bs, b < 256) → (dec bs k acc).1 < 2 ^ 64
  | [], k, acc, _, _, _ => by simp [dec]
  | g :: r, k, acc, hk, ha, hb => by
    have hg : g < 256 := hb g (by simp)
    unfold dec
    split
    · simp
    · rename_i h1
      have h7 := fits7 g k hk h1 hg
      have hn := next7 g acc k ha
      split
      · rename_i h2
        by_cases hk8 : k ≤ 8
        · exact dec_lt r (k + 1) _ (by omega) hn fun b hb' => hb b (by simp [hb'])
        · exfalso
          omega
      · split
        · simp
        · show acc + g % 128 * 2 ^ (7 * k) < 2 ^ 64
          have e : (2 : Nat) ^ 64 = 2 ^ (64 - 7 * k) * 2 ^ (7 * k) := by rw [← Nat.pow_add]; congr 1; omega
          rw [e] at h7 ⊢
          have h8 : g % 128 < 2 ^ (64 - 7 * k) := Nat.lt_of_mul_lt_mul_right h7
          calc acc + g % 128 * 2 ^ (7 * k) < 2 ^ (7 * k) + g % 128 * 2 ^ (7 * k) := by omega
            _ = (g % 128 + 1) * 2 ^ (7 * k) := by rw [Nat.add_mul]; omega
            _ ≤ _ := Nat.mul_le_mul_right _ h8
theorem enc_lt : ∀ (m n : Nat), n ≤ m → ∀ b ∈ enc n, b < 256
  | m, n, h, b, hb => by
    by_cases hn : n < 128
    · rw [enc_small hn] at hb; simp at hb; omega
    · rw [enc_big hn] at hb
      rcases List.mem_cons.1 hb with rfl | hb
      · omega
      · cases m with
        | zero => omega
        | succ m => exact enc_lt m (n / 128) (by omega) b hb
theorem dec_enc_app (r : List Nat) : ∀ (m x k acc : Nat), x ≤ m → k ≤ 9 → x * 2 ^ (7 * k) < 2 ^ 64 → (0 < k → 0 < x) → dec (enc x ++ r) k acc = (acc + x * 2 ^ (7 * k), k + (enc x).length, 0)
  | m, x, k, acc, hm, hk, hx, h0 => by
    by_cases hs : x < 128
    · rw [enc_small hs, List.cons_append, dec, if_neg, if_neg (by omega), if_neg, Nat.mod_eq_of_lt hs]
      · rfl
      · intro hh; have := h0 hh.2; omega
      · rintro ⟨rfl, h1⟩
        have h2 : 2 * 2 ^ (7 * 9) ≤ x * 2 ^ (7 * 9) := Nat.mul_le_mul_right _ h1
        have h3 : 2 * 2 ^ (7 * 9) = 2 ^ 64 := by decide
        omega
    · have hk8 : k ≤ 8 := by
        rcases Nat.lt_or_ge k 9 with h | h
        · omega
        · have hk9 : k = 9 := by omega
          subst hk9
          have h2 : 128 * 2 ^ (7 * 9) ≤ x * 2 ^ (7 * 9) := Nat.mul_le_mul_right _ (by omega)
          have h3 : 2 ^ 64 ≤ 128 * 2 ^ (7 * 9) := by decide
          omega
      have e7 : 2 ^ (7 * (k + 1)) = 128 * 2 ^ (7 * k) := by rw [Nat.mul_add, Nat.pow_add, Nat.mul_comm]
      rw [enc_big hs, List.cons_append, dec, if_neg (by omega), if_pos (by omega)]
      cases m with
      | zero => omega
      | succ m =>
        rw [dec_enc_app r m (x / 128) (k + 1) _ (by omega) (by omega) (by
          rw [e7, ← Nat.mul_assoc]
          exact Nat.lt_of_le_of_lt (Nat.mul_le_mul_right _ (Nat.div_mul_le_self x 128)) hx) (by omega)]
        simp only [Prod.mk.injEq, List.length_cons, and_true]
        refine ⟨?_, by omega⟩
        rw [e7]
        have e1 : (x % 128 + 128) % 128 = x % 128 := by omega
        rw [e1, ← Nat.mul_assoc, Nat.add_assoc, ← Nat.add_mul, Nat.mul_comm (x / 128) 128, Nat.mod_add_div]
theorem dec_app (x : Nat) (hx : x < 2 ^ 64) (r : List Nat) : dec (enc x ++ r) 0 0 = (x, (enc x).length, 0) := by
  rw [dec_enc_app r x x 0 0 (Nat.le_refl _) (by omega) (by simpa using hx) (by omega)]
  simp
end Go.Proofs.YtpjfhfmbhjghcaaGreatDoor.Pk
