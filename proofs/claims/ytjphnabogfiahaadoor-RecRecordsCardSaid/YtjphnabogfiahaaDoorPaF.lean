/-
  What functions of the program do, told of abstract states. Conditions: as each theorem says.
-/
import Derived.Test.YtjphnabogfiahaaDoorPaE
import Derived.Test.YtjphnabogfiahaaDoorAbD
import Derived.Test.YtjphnabogfiahaaDoorAbD
import Derived.Test.YtjphnabogfiahaaDoorAbD
namespace Go.Proofs.YtjphnabogfiahaaDoor.Pk
open Go Go.Proofs Go.Proofs.YtjphnabogfiahaaDoor.Ab
set_option linter.unusedVariables false
set_option linter.unusedSimpArgs false

theorem dec_prefix : ∀ (m x k acc j : Nat), (enc x).length ≤ m → k + (enc x).length ≤ 10 → j < (enc x).length → dec ((enc x).take j) k acc = (0, 0, 4)
  | 0, x, k, acc, j, h, _, hj => by omega
  | m + 1, x, k, acc, j, h, hk, hj => by
    by_cases hx : x < 128
    · rw [enc_small hx] at hj ⊢
      have : j = 0 := by simp at hj; exact hj
      subst this
      rfl
    · rw [enc_big hx] at h hk hj ⊢
      simp only [List.length_cons] at h hk hj
      cases j with
      | zero => rfl
      | succ j =>
        have hpos : 1 ≤ (enc (x / 128)).length := by
          by_cases h2 : x / 128 < 128
          · rw [enc_small h2]; simp
          · rw [enc_big h2]; simp
        rw [List.take_succ_cons, dec, if_neg (by omega), if_pos (by omega)]
        exact dec_prefix m (x / 128) (k + 1) _ j (by omega) (by omega) (by omega)
theorem dec_enc : ∀ (bs : List Nat) (k acc m used : Nat), (∀ b ∈ bs, b < 256) → dec bs k acc = (m, used, 0) → k < used ∧ ∃ x, m = acc + x * 2 ^ (7 * k) ∧ bs.take (used - k) = enc x ∧ (0 < k → 0 < x)
  | [], k, acc, m, used, _, h => by simp [dec] at h
  | g :: r, k, acc, m, used, hb, h => by
    have hg : g < 256 := hb g (by simp)
    unfold dec at h
    split at h
    · simp at h
    · split at h
      · rename_i h2
        obtain ⟨hu, x, h3, h4, h5⟩ := dec_enc r (k + 1) _ m used (fun b hb' => hb b (by simp [hb'])) h
        have hx := h5 (by omega)
        refine ⟨by omega, g % 128 + 128 * x, ?_, ?_, by omega⟩
        · rw [h3, Nat.mul_add, Nat.pow_add, Nat.add_mul, Nat.add_assoc]
          congr 2
          have e : (2 : Nat) ^ (7 * 1) = 128 := by decide
          rw [e, Nat.mul_comm (2 ^ (7 * k)) 128, ← Nat.mul_assoc, Nat.mul_comm x 128]
        · rw [show used - k = (used - (k + 1)) + 1 by omega, List.take_succ_cons, h4, enc_big (n := g % 128 + 128 * x) (by omega)]
          congr 1
          · omega
          · congr 1; omega
      · split at h
        · simp at h
        · rename_i h1 h2 h3
          simp only [Prod.mk.injEq, and_true] at h
          obtain ⟨rfl, rfl⟩ := h
          refine ⟨by omega, g, ?_, ?_, by omega⟩
          · rw [Nat.mod_eq_of_lt (by omega)]
          · rw [show k + 1 - k = 1 by omega, enc_small (by omega)]; rfl
theorem dec_lt : ∀ (bs : List Nat) (k acc : Nat), k ≤ 9 → acc < 2 ^ (7 * k) → (∀ b ∈ bs, b < 256) → (dec bs k acc).1 < 2 ^ 64
  | [], k, acc, _, _, _ => by simp [dec]
  | g :: r, k, acc, hk, ha, hb => by
    have hg : g < 256 := hb g (by simp)
    unfold dec
    split
    · simp
    · rename_i h1
      have h7 := fits7 g k hk h1 hg
      have hn := next7 g acc k ha
      split
      · rename_i h2
        by_cases hk8 : k ≤ 8
        · exact dec_lt r (k + 1) _ (by omega) hn fun b hb' => hb b (by simp [hb'])
        · exfalso
          omega
      · split
        · simp
        · show acc + g % 128 * 2 ^ (7 * k) < 2 ^ 64
          have e : (2 : Nat) ^ 64 = 2 ^ (64 - 7 * k) * 2 ^ (7 * k) := by rw [← Nat.pow_add]; congr 1; omega
          rw [e] at h7 ⊢
          have h8 : g % 128 < 2 ^ (64 - 7 * k) := Nat.lt_of_mul_lt_mul_right h7
          calc acc + g % 128 * 2 ^ (7 * k) < 2 ^ (7 * k) + g % 128 * 2 ^ (7 * k) := by omega
            _ = (g % 128 + 1) * 2 ^ (7 * k) := by rw [Nat.add_mul]; omega
            _ ≤ _ := Nat.mul_le_mul_right _ h8

theorem bytes_nat : ∀ {es : List (List V)}, (∀ x ∈ es, Sh.fitsB (.int .u8) x) → ∃ bs : List Nat, es = (bs.map fun n : Nat => [V.int .u8 (n : Int)]) ∧ ∀ b ∈ bs, b < 256
  | [], _ => ⟨[], rfl, by simp⟩
  | e :: es, h => by
    obtain ⟨l, rfl, hl⟩ := bytes_nat (es := es) fun x hx => h x (by simp [hx])
    obtain ⟨n, rfl, hw⟩ := h e (by simp)
    simp only [Lit.wf, Bool.and_eq_true, decide_eq_true_eq] at hw
    have h1 : IntKind.u8.min = 0 := rfl
    have h2 : IntKind.u8.max = 255 := rfl
    refine ⟨n.toNat :: l, ?_, fun b hb => ?_⟩
    · rw [List.map_cons, Int.toNat_of_nonneg (by omega)]
    · rcases List.mem_cons.1 hb with rfl | hb
      · omega
      · exact hl b hb
theorem flat_nat (bs : List Nat) : (bs.map fun n : Nat => [V.int .u8 (n : Int)]).flatten = bytesV bs := by
  induction bs with
  | nil => rfl
  | cons n ns ih => simp [ih, bytesV]
end Go.Proofs.YtjphnabogfiahaaDoor.Pk
