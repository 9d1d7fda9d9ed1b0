/-
  What functions of the program do, told of abstract states. Conditions: as each theorem says.
-/
import Derived.Test.YtkoelbeidffimaaAsE
namespace Go.Proofs.Ytkoelbeidffimaa.Pk
open Go Go.Proofs Go.Proofs.Ytkoelbeidffimaa.Ab
set_option linter.unusedVariables false
set_option linter.unusedSimpArgs false

/-! ### Round and round -/
def upTo (k r x : Nat) : Nat := x / k + if r < x % k then 1 else 0
theorem upTo_succ {k r x : Nat} (hk : 0 < k) (hr : r < k) : upTo k r (x + 1) = upTo k r x + if x % k = r then 1 else 0 := by
  unfold upTo
  have h1 := Nat.div_add_mod x k
  have h2 := Nat.mod_lt x hk
  by_cases h : x % k + 1 < k
  · have e1 : (x + 1) / k = x / k := by
      apply Nat.div_eq_of_lt_le
      · rw [Nat.mul_comm]; omega
      · rw [Nat.mul_comm, Nat.mul_add, Nat.mul_one]; omega
    have e2 : (x + 1) % k = x % k + 1 := by
      have := Nat.div_add_mod (x + 1) k
      rw [e1] at this; omega
    rw [e1, e2]
    by_cases h3 : x % k = r
    · rw [if_pos h3, if_pos (by omega), if_neg (by omega)]
    · rw [if_neg h3]
      by_cases h4 : r < x % k
      · rw [if_pos h4, if_pos (by omega)]
      · rw [if_neg h4, if_neg (by omega)]
  · have e1 : (x + 1) / k = x / k + 1 := by
      apply Nat.div_eq_of_lt_le
      · rw [Nat.mul_comm, Nat.mul_add, Nat.mul_one]; omega
      · rw [Nat.mul_comm, Nat.mul_add, Nat.mul_add, Nat.mul_one]; omega
    have e2 : (x + 1) % k = 0 := by
      have := Nat.div_add_mod (x + 1) k
      rw [e1, Nat.mul_add, Nat.mul_one] at this; omega
    rw [e1, e2, if_neg (by omega)]
    by_cases h3 : x % k = r
    · rw [if_pos h3, if_neg (by omega)]
    · rw [if_neg h3, if_pos (by omega)]

def rounds (k w n : Nat) : List Int := (List.range n).map fun i => (((i + w) % k : Nat) : Int)
theorem rounds_length (k w n : Nat) : (rounds k w n).length = n := by simp [rounds]
theorem rounds_get {k w n i : Nat} (h : i < (rounds k w n).length) : (rounds k w n)[i] = (((i + w) % k : Nat) : Int) := by simp [rounds]
theorem rounds_succ (k w n : Nat) : rounds k w (n + 1) = rounds k w n ++ [(((n + w) % k : Nat) : Int)] := by simp [rounds, List.range_succ]
theorem rounds_count {k w r : Nat} (hk : 0 < k) (hr : r < k) : ∀ n, (rounds k w n).count (r : Int) + upTo k r w = upTo k r (n + w)
  | 0 => by simp [rounds]
  | n + 1 => by
    rw [rounds_succ, List.count_append, List.count_cons, List.count_nil, show n + 1 + w = (n + w) + 1 by omega, upTo_succ hk hr, ← rounds_count hk hr n]
    by_cases h : (n + w) % k = r
    · rw [if_pos h, h]; simp; omega
    · rw [if_neg h]
      have : ((((n + w) % k : Nat) : Int) == (r : Int)) = false := by simpa using fun hh => h (Int.ofNat_inj.1 hh)
      rw [this]; simp
theorem upTo_ge (k r x : Nat) (hk : 0 < k) : upTo k r x * k < x + k := by
  unfold upTo
  have h1 := Nat.div_add_mod x k
  rw [Nat.add_mul, Nat.mul_comm (x / k) k]
  split <;> omega
theorem rounds_share {k w n : Nat} (hk : 0 < k) (hw : w < k) (x : Int) (hx : 0 ≤ x ∧ x < k) : (rounds k w n).count x ≤ shareOf n k := by
  obtain ⟨r, rfl⟩ : ∃ r : Nat, x = r := ⟨x.toNat, by omega⟩
  have hr : r < k := by omega
  have hc := rounds_count (w := w) hk hr n
  rcases Nat.lt_or_ge (shareOf n k) ((rounds k w n).count (r : Int)) with h | h
  · exfalso
    have h1 : ¬ shareOf n k * k < n := fun hh => by have := (lt_share hk).2 hh; omega
    have h2 : (shareOf n k + 1) * k ≤ (rounds k w n).count (r : Int) * k := Nat.mul_le_mul_right _ h
    rw [Nat.add_mul, Nat.one_mul] at h2
    have h3 : (rounds k w n).count (r : Int) * k + upTo k r w * k = upTo k r (n + w) * k := by rw [← Nat.add_mul, hc]
    have h5 : upTo k r w = if r < w then 1 else 0 := by unfold upTo; rw [Nat.div_eq_of_lt hw, Nat.mod_eq_of_lt hw]; omega
    have h6 := Nat.div_add_mod (n + w) k
    have h7 : upTo k r (n + w) * k = k * ((n + w) / k) + if r < (n + w) % k then k else 0 := by
      unfold upTo; rw [Nat.add_mul, Nat.mul_comm]; split <;> simp
    rw [h7, h5] at h3
    split at h3 <;> split at h3 <;> omega
  · exact h
theorem all_ok {k : Nat} {x : Int} : okW (List.replicate k true) x = true ↔ 0 ≤ x ∧ x < k := by
  unfold okW
  simp only [Bool.and_eq_true, decide_eq_true_eq, List.length_replicate, List.getD, List.getElem?_replicate]
  constructor
  · rintro ⟨h, _⟩; exact h
  · intro h
    refine ⟨h, ?_⟩
    rw [if_pos (by omega)]; rfl
theorem lvN_all (k : Nat) : ∀ j, j ≤ k → (lvN (List.replicate k true) j).length = j
  | 0, _ => rfl
  | j + 1, h => by
    have : (List.replicate k true).getD j false = true := by simp [List.getD, List.getElem?_replicate, show j < k by omega]
    rw [lvN, if_pos this, List.length_append, lvN_all k j (by omega)]; rfl
theorem all_len (k : Nat) : (livingL (List.replicate k true)).length = k := by
  unfold livingL; rw [List.length_replicate]; exact lvN_all k k (Nat.le_refl _)
theorem assign_rounds {k w n : Nat} (hk : 0 < k) (hw : w < k) : assign n (List.replicate k true) (rounds k w n) = rounds k w n := by
  refine assign_fits (rounds_length _ _ _) (fun h => by have := all_len k; rw [h] at this; simp at this; omega) (fun x hx => ?_) fun x hx => ?_
  · obtain ⟨i, hi, rfl⟩ := List.mem_map.1 hx
    have := Nat.mod_lt (i + w) hk
    exact all_ok.2 ⟨by omega, by omega⟩
  · rw [all_len]; exact rounds_share hk hw x (all_ok.1 hx)
theorem one_ok {k w : Nat} (hw : w < k) {x : Int} : okW ((List.replicate k false).set w true) x = true ↔ x = w := by
  unfold okW
  simp only [Bool.and_eq_true, decide_eq_true_eq, List.length_set, List.length_replicate, List.getD, List.getElem?_set, List.getElem?_replicate]
  constructor
  · rintro ⟨⟨a, b⟩, c⟩
    split at c
    · omega
    · split at c <;> simp at c
  · rintro rfl
    refine ⟨⟨by omega, by omega⟩, ?_⟩
    rw [if_pos (by omega), if_pos hw]
    rfl
theorem assign_one {k w n : Nat} (hw : w < k) {i : Nat} (hi : i < n) : (assign n ((List.replicate k false).set w true) [])[i]? = some (w : Int) := by
  have hW : livingL ((List.replicate k false).set w true) ≠ [] := fun h => by
    have := lv_mem.2 ((one_ok hw (x := w)).2 rfl)
    rw [h] at this
    simp at this
  have hl := assign_length n ((List.replicate k false).set w true) []
  rw [List.getElem?_eq_getElem (by omega)]
  exact congrArg some ((one_ok hw).1 (lv_mem.1 (assign_mem hW (List.getElem_mem _))))
theorem assign_nobody (k n : Nat) : assign n (List.replicate k false) [] = List.replicate n (-1) := by
  refine assign_none ?_
  cases h : livingL (List.replicate k false) with
  | nil => rfl
  | cons x l =>
    exfalso
    have hx : x ∈ livingL (List.replicate k false) := by rw [h]; simp
    have := lv_mem.1 hx
    unfold okW at this
    simp only [Bool.and_eq_true, List.getD, List.getElem?_replicate] at this
    have h2 := this.2
    split at h2 <;> simp at h2
end Go.Proofs.Ytkoelbeidffimaa.Pk
