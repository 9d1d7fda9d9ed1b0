/-
  What functions of the program do, told of abstract states. Conditions: as each theorem says.
-/
import Derived.Test.YtjphnabogfiahaaDoorPaR
namespace Go.Proofs.YtjphnabogfiahaaDoor.Pk
open Go Go.Proofs Go.Proofs.YtjphnabogfiahaaDoor.Ab
set_option linter.unusedVariables false
set_option linter.unusedSimpArgs false

/-! ### Numbers one behind the other -/
def nums : Nat → List Nat → List Nat → List Nat × List Nat × Nat
  | 0, bs, acc => (acc, bs, 0)
  | k + 1, bs, acc => if (dec bs 0 0).2.2 ≠ 0 then ([], [], (dec bs 0 0).2.2) else nums k (bs.drop (dec bs 0 0).2.1) (acc ++ [(dec bs 0 0).1])
theorem nums_err {k : Nat} {bs acc : List Nat} (h : (dec bs 0 0).2.2 ≠ 0) : nums (k + 1) bs acc = ([], [], (dec bs 0 0).2.2) := by rw [nums, if_pos h]
theorem nums_ok {k : Nat} {bs acc : List Nat} (h : (dec bs 0 0).2.2 = 0) : nums (k + 1) bs acc = nums k (bs.drop (dec bs 0 0).2.1) (acc ++ [(dec bs 0 0).1]) := by rw [nums, if_neg (by omega)]
theorem nums_app (r : List Nat) : ∀ (l acc : List Nat), (∀ n ∈ l, n < 2 ^ 64) → nums l.length (l.flatMap enc ++ r) acc = (acc ++ l, r, 0)
  | [], acc, _ => by simp [nums]
  | n :: l, acc, h => by
    rw [List.length_cons, nums, List.flatMap_cons, List.append_assoc, dec_app _ (h n (by simp))]
    rw [if_neg (by simp)]
    simp only [List.drop_left]
    rw [nums_app r l (acc ++ [n]) fun m hm => h m (by simp [hm])]
    simp
theorem nums_cut : ∀ (l acc : List Nat) (j : Nat), (∀ n ∈ l, n < 2 ^ 64) → j < (l.flatMap enc).length → (nums l.length ((l.flatMap enc).take j) acc).2.2 ≠ 0
  | [], acc, j, _, hj => by simp at hj
  | n :: l, acc, j, h, hj => by
    have hn := h n (by simp)
    have hle := enc_le n hn
    rw [List.length_cons, List.flatMap_cons, List.take_append]
    by_cases hc : j < (enc n).length
    · have e : j - (enc n).length = 0 := by omega
      rw [e, List.take_zero, List.append_nil, nums, dec_prefix _ n 0 0 j (Nat.le_refl _) (by omega) hc]
      simp
    · rw [List.take_of_length_le (by omega), nums, dec_app _ hn]
      rw [if_neg (by simp)]
      simp only [List.drop_left]
      refine nums_cut l _ _ (fun m hm => h m (by simp [hm])) ?_
      rw [List.flatMap_cons, List.length_append] at hj
      omega
theorem dec_back {bs : List Nat} (hb : ∀ b ∈ bs, b < 256) (h : (dec bs 0 0).2.2 = 0) : bs = enc (dec bs 0 0).1 ++ bs.drop (dec bs 0 0).2.1 := by
  have q : dec bs 0 0 = ((dec bs 0 0).1, (dec bs 0 0).2.1, (dec bs 0 0).2.2) := rfl
  rw [h] at q
  obtain ⟨h1, x, h2, h3, _⟩ := dec_enc bs 0 0 _ _ hb q
  simp only [Nat.mul_zero, Nat.pow_zero, Nat.mul_one, Nat.zero_add, Nat.sub_zero] at h2 h3
  conv => lhs; rw [← List.take_append_drop (dec bs 0 0).2.1 bs]
  rw [h3, h2]
theorem nums_back : ∀ (k : Nat) (bs acc l r : List Nat), (∀ b ∈ bs, b < 256) → nums k bs acc = (l, r, 0) → ∃ m, l = acc ++ m ∧ m.length = k ∧ bs = m.flatMap enc ++ r ∧ (∀ n ∈ m, n < 2 ^ 64) ∧ (∀ b ∈ r, b < 256) ∧ r.length ≤ bs.length
  | 0, bs, acc, l, r, hb, h => by
    simp only [nums, Prod.mk.injEq, and_true] at h
    obtain ⟨rfl, rfl⟩ := h
    exact ⟨[], by simp, rfl, by simp, by simp, hb, Nat.le_refl _⟩
  | k + 1, bs, acc, l, r, hb, h => by
    by_cases he : (dec bs 0 0).2.2 = 0
    · rw [nums_ok he] at h
      obtain ⟨m, h1, h2, h3, h4, h5, h6⟩ := nums_back k _ _ l r (mem_drop hb _) h
      refine ⟨(dec bs 0 0).1 :: m, by rw [h1]; simp, by simp [h2], ?_, ?_, h5, ?_⟩
      · rw [List.flatMap_cons, List.append_assoc, ← h3]
        exact dec_back hb he
      · intro n hn
        rcases List.mem_cons.1 hn with rfl | hn
        · exact dec_lt bs 0 0 (by omega) (by decide) hb
        · exact h4 n hn
      · simp only [List.length_drop] at h6; omega
    · rw [nums_err he] at h
      simp only [Prod.mk.injEq] at h
      exact absurd h.2.2 he
theorem zz_unz (n : Nat) : zz (unz n) = n := by
  unfold unz zz
  by_cases h : n % 2 = 0
  · rw [if_pos h, if_pos (by omega)]; omega
  · rw [if_neg h, if_neg (by omega)]; omega
theorem goInts_back : ∀ (k : Nat) (bs : List Nat) (acc l : List Int) (r : List Nat), (∀ b ∈ bs, b < 256) → goInts k bs acc = (l, r, 0) → ∃ m : List Int, l = acc ++ m ∧ m.length = k ∧ bs = (m.flatMap fun n => enc (zz n)) ++ r ∧ (∀ n ∈ m, -2147483648 ≤ n ∧ n ≤ 2147483647) ∧ (∀ b ∈ r, b < 256) ∧ r.length ≤ bs.length
  | 0, bs, acc, l, r, hb, h => by
    simp only [goInts, Prod.mk.injEq, and_true] at h
    obtain ⟨rfl, rfl⟩ := h
    exact ⟨[], by simp, rfl, by simp, by simp, hb, Nat.le_refl _⟩
  | k + 1, bs, acc, l, r, hb, h => by
    by_cases he : (dec bs 0 0).2.2 = 0
    · rw [goInts, if_neg (by omega)] at h
      by_cases hr : unz (dec bs 0 0).1 < -2147483648 ∨ 2147483647 < unz (dec bs 0 0).1
      · rw [if_pos hr] at h; simp at h
      · rw [if_neg hr] at h
        obtain ⟨m, h1, h2, h3, h4, h5, h6⟩ := goInts_back k _ _ l r (mem_drop hb _) h
        refine ⟨unz (dec bs 0 0).1 :: m, by rw [h1]; simp, by simp [h2], ?_, ?_, h5, ?_⟩
        · rw [List.flatMap_cons, List.append_assoc, ← h3, zz_unz]
          exact dec_back hb he
        · intro n hn
          rcases List.mem_cons.1 hn with rfl | hn
          · omega
          · exact h4 n hn
        · simp only [List.length_drop] at h6; omega
    · rw [goInts, if_pos he] at h
      simp only [Prod.mk.injEq] at h
      exact absurd h.2.2 he
theorem goInts_cut : ∀ (l acc : List Int) (j : Nat), (∀ n ∈ l, -2147483648 ≤ n ∧ n ≤ 2147483647) → j < (l.flatMap fun n => enc (zz n)).length → (goInts l.length ((l.flatMap fun n => enc (zz n)).take j) acc).2.2 ≠ 0
  | [], acc, j, _, hj => by simp at hj
  | n :: l, acc, j, h, hj => by
    have h1 := h n (by simp)
    have hz : zz n < 2 ^ 64 := by unfold zz; split <;> omega
    have hle := enc_le _ hz
    rw [List.length_cons, List.flatMap_cons, List.take_append]
    by_cases hc : j < (enc (zz n)).length
    · have e : j - (enc (zz n)).length = 0 := by omega
      rw [e, List.take_zero, List.append_nil, goInts, dec_prefix _ (zz n) 0 0 j (Nat.le_refl _) (by omega) hc]
      simp
    · rw [List.take_of_length_le (by omega), goInts, dec_app _ hz]
      simp only [unz_zz, List.drop_left]
      rw [if_neg (by simp), if_neg (by omega)]
      refine goInts_cut l _ _ (fun m hm => h m (by simp [hm])) ?_
      rw [List.flatMap_cons, List.length_append] at hj
      omega
theorem getInts_app' (l : List Int) (r : List Nat) (most : Int) (hm : (l.length : Int) ≤ most) (hl : l.length < 2 ^ 63) (h : ∀ n ∈ l, -2147483648 ≤ n ∧ n ≤ 2147483647) : getInts (encInts l ++ r) most = (l, r, 0) := by
  unfold getInts encInts
  rw [List.append_assoc, dec_app _ (by omega)]
  simp only [List.drop_left]
  rw [if_neg (by simp), if_neg (by omega), goInts_app r l [] h, if_neg (by simp)]
  simp
theorem getInts_cut (l : List Int) (most : Int) (j : Nat) (hm : (l.length : Int) ≤ most) (hl : l.length < 2 ^ 63) (h : ∀ n ∈ l, -2147483648 ≤ n ∧ n ≤ 2147483647) (hj : j < (encInts l).length) : (getInts ((encInts l).take j) most).2.2 ≠ 0 := by
  have hle := enc_le l.length (by omega)
  unfold getInts encInts
  rw [List.take_append]
  by_cases hc : j < (enc l.length).length
  · have e : j - (enc l.length).length = 0 := by omega
    rw [e, List.take_zero, List.append_nil, dec_prefix _ l.length 0 0 j (Nat.le_refl _) (by omega) hc]
    simp
  · rw [List.take_of_length_le (by omega), dec_app _ (by omega)]
    simp only [List.drop_left]
    rw [if_neg (by simp), if_neg (by omega)]
    have hc2 := goInts_cut l [] (j - (enc l.length).length) h (by unfold encInts at hj; rw [List.length_append] at hj; omega)
    rw [if_pos hc2]
    exact hc2
theorem getInts_back {bs : List Nat} {most : Int} {l : List Int} {r : List Nat} (hb : ∀ b ∈ bs, b < 256) (h : getInts bs most = (l, r, 0)) : bs = encInts l ++ r ∧ (l.length : Int) ≤ most ∧ (∀ n ∈ l, -2147483648 ≤ n ∧ n ≤ 2147483647) ∧ (∀ b ∈ r, b < 256) ∧ r.length ≤ bs.length := by
  unfold getInts at h
  split at h
  · rename_i he; simp only [Prod.mk.injEq] at h; exact absurd h.2.2 he
  · rename_i he
    split at h
    · simp at h
    · rename_i hm
      split at h
      · rename_i he2; simp only [Prod.mk.injEq] at h; exact absurd h.2.2 he2
      · obtain ⟨m, h1, h2, h3, h4, h5, h6⟩ := goInts_back _ _ _ _ _ (mem_drop hb _) h
        simp only [List.nil_append] at h1
        subst h1
        refine ⟨?_, by omega, h4, h5, by simp only [List.length_drop] at h6; omega⟩
        rw [encInts, List.append_assoc, ← h3, h2]
        exact dec_back hb (by omega)
theorem nums_lt {k : Nat} {bs acc : List Nat} (hb : ∀ b ∈ bs, b < 256) : (∀ b ∈ (nums k bs acc).2.1, b < 256) ∧ (nums k bs acc).2.1.length ≤ bs.length := by
  induction k generalizing bs acc with
  | zero => exact ⟨hb, Nat.le_refl _⟩
  | succ k ih =>
    by_cases he : (dec bs 0 0).2.2 = 0
    · rw [nums_ok he]
      have := ih (bs := bs.drop (dec bs 0 0).2.1) (acc := acc ++ [(dec bs 0 0).1]) (mem_drop hb _)
      refine ⟨this.1, ?_⟩
      have h2 := this.2
      simp only [List.length_drop] at h2
      omega
    · rw [nums_err he]
      exact ⟨by simp, by simp⟩
end Go.Proofs.YtjphnabogfiahaaDoor.Pk
