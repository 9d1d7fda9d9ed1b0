/-
  What functions of the program do, told of abstract states. Conditions: as each theorem says.
-/
import Derived.Test.YtkoelbeidffimaaAsC
namespace Go.Proofs.Ytkoelbeidffimaa.Pk
open Go Go.Proofs Go.Proofs.Ytkoelbeidffimaa.Ab
set_option linter.unusedVariables false
set_option linter.unusedSimpArgs false

theorem lt_share {n k i : Nat} (hk : 0 < k) : i < shareOf n k ↔ i * k < n := by
  unfold shareOf
  rw [Nat.lt_iff_add_one_le, Nat.le_div_iff_mul_le hk, Nat.add_mul]
  omega
theorem share_mono {n k k' : Nat} (hk' : 0 < k') (h : k' ≤ k) : shareOf n k ≤ shareOf n k' := by
  rcases Nat.lt_or_ge (shareOf n k') (shareOf n k) with hlt | hge
  · have h1 := (lt_share (by omega)).1 hlt
    have h2 : shareOf n k' * k' ≤ shareOf n k' * k := Nat.mul_le_mul_left _ h
    have := (lt_share hk').2 (Nat.lt_of_le_of_lt h2 h1)
    omega
  · exact hge
theorem living_nodup (alive : List Bool) : (livingL alive).Nodup := lvN_nodup alive _
theorem living_ge {alive : List Bool} {w : Int} (h : w ∈ livingL alive) : 0 ≤ w ∧ w < alive.length := by
  have := (lvN_mem alive w _).1 h
  exact ⟨this.1, this.2.1⟩

/-! ### Who has a task -/
theorem set_mem {o : List Int} {t : Nat} {w x : Int} (h : x ∈ o.set t w) : x ∈ o ∨ x = w := by
  rcases List.mem_or_eq_of_mem_set h with h | h
  · exact .inl h
  · exact .inr h
theorem ph1_mem (n : Nat) (alive : List Bool) (prev : List Int) : ∀ i x, x ∈ ph1 n alive prev i → x = -1 ∨ x ∈ livingL alive
  | 0, x, h => by simp [ph1, List.mem_replicate] at h; exact .inl h.2
  | i + 1, x, h => by
    rw [ph1_succ] at h
    unfold step1 at h
    split at h
    · rename_i hc
      rcases set_mem h with h | rfl
      · exact ph1_mem n alive prev i x h
      · exact .inr (lv_mem.2 hc.1)
    · exact ph1_mem n alive prev i x h
theorem ph2_mem (n : Nat) (alive : List Bool) (prev : List Int) (hW : livingL alive ≠ []) : ∀ i x, x ∈ ph2 n alive prev i → x = -1 ∨ x ∈ livingL alive
  | 0, x, h => ph1_mem n alive prev _ x h
  | i + 1, x, h => by
    rw [ph2_succ] at h
    unfold step2 at h
    split at h
    · rcases set_mem h with h | rfl
      · exact ph2_mem n alive prev hW i x h
      · exact .inr (pick_mem hW _)
    · exact ph2_mem n alive prev hW i x h
theorem ph2_done (n : Nat) (alive : List Bool) (prev : List Int) (hW : livingL alive ≠ []) : ∀ (i k : Nat) (x : Int), k < i → (ph2 n alive prev i)[k]? = some x → x ≠ -1
  | 0, k, x, h, _ => by omega
  | i + 1, k, x, h, hx => by
    rw [ph2_succ] at hx
    unfold step2 at hx
    by_cases hk : k = i
    · subst hk
      split at hx
      · rw [List.getElem?_set] at hx
        simp only [if_true] at hx
        split at hx
        · simp at hx
          have := (living_ge (pick_mem hW (ph2 n alive prev k))).1
          omega
        · simp at hx
      · rename_i hne
        intro hh
        rw [hh] at hx
        exact hne (by simp [List.getD, hx])
    · split at hx
      · rw [List.getElem?_set_ne (by omega)] at hx
        exact ph2_done n alive prev hW i k x (by omega) hx
      · exact ph2_done n alive prev hW i k x (by omega) hx
theorem assign_mem {n : Nat} {alive : List Bool} {prev : List Int} (hW : livingL alive ≠ []) {x : Int} (h : x ∈ assign n alive prev) : x ∈ livingL alive := by
  unfold assign at h
  rw [if_neg hW] at h
  rcases ph2_mem n alive prev hW n x h with rfl | h'
  · exfalso
    obtain ⟨k, hk⟩ := List.getElem?_of_mem h
    have hlt := (List.getElem?_eq_some_iff.1 hk).1
    rw [ph2_length] at hlt
    exact ph2_done n alive prev hW n k _ hlt hk rfl
  · exact h'
theorem assign_none {n : Nat} {alive : List Bool} {prev : List Int} (hW : livingL alive = []) : assign n alive prev = List.replicate n (-1) := if_pos hW

/-! ### Nobody has more than the share -/
theorem sum_cons (W o : List Int) (x : Int) : (W.map fun w => (x :: o).count w).sum = (W.map fun w => o.count w).sum + W.count x := by
  induction W with
  | nil => simp
  | cons w W ih =>
    rw [List.map_cons, List.sum_cons, ih, List.map_cons, List.sum_cons, List.count_cons (l := o), List.count_cons (l := W)]
    by_cases h : x = w
    · subst h; simp; omega
    · have h2 : ¬ w = x := fun hh => h hh.symm
      simp [h, h2]; omega
theorem count_nodup {W : List Int} (h : W.Nodup) (x : Int) : W.count x ≤ 1 := by
  induction W with
  | nil => simp
  | cons w W ih =>
    rw [List.nodup_cons] at h
    have := ih h.2
    rw [List.count_cons]
    by_cases hx : w = x
    · subst hx
      rw [List.count_eq_zero_of_not_mem h.1]; simp
    · simp [hx]; exact this
theorem sum_le {W : List Int} (hd : W.Nodup) (hW : (-1 : Int) ∉ W) : ∀ o : List Int, (W.map fun w => o.count w).sum + o.count (-1) ≤ o.length
  | [] => by
    have : (W.map fun w => ([] : List Int).count w) = W.map fun _ => 0 := rfl
    rw [this]
    clear this hd hW
    induction W with
    | nil => simp
    | cons w W ih => simpa using ih
  | x :: o => by
    have ih := sum_le hd hW o
    rw [sum_cons, List.count_cons, List.length_cons]
    have h1 := count_nodup hd x
    by_cases hx : x = -1
    · subst hx
      rw [List.count_eq_zero_of_not_mem hW]
      simp; omega
    · simp [hx]; omega
theorem sum_ge {W : List Int} {f : Int → Nat} {s : Nat} (h : ∀ w ∈ W, s ≤ f w) : s * W.length ≤ (W.map f).sum := by
  induction W with
  | nil => simp
  | cons w W ih =>
    have h1 := h w (by simp)
    have h2 := ih fun u hu => h u (by simp [hu])
    simp only [List.map_cons, List.sum_cons, List.length_cons, Nat.mul_add]
    omega
theorem count_set' {o : List Int} {t : Nat} {w x : Int} (ht : t < o.length) (h : o[t] = -1) (hx : x ≠ -1) : (o.set t w).count x = o.count x + if w = x then 1 else 0 := by
  rw [List.count_set ht, h]
  have e1 : ((-1 : Int) == x) = false := by simpa using fun hh => hx hh.symm
  rw [e1]
  simp
theorem ph1_share (n : Nat) (alive : List Bool) (prev : List Int) : ∀ i, i ≤ n → ∀ x, x ≠ -1 → (ph1 n alive prev i).count x ≤ shareOf n (livingL alive).length
  | 0, _, x, hx => by
    have : (ph1 n alive prev 0).count x = 0 := by
      simp only [ph1, List.range_zero, List.foldl_nil]
      rw [List.count_replicate, if_neg]
      simpa using fun hh => hx hh.symm
    omega
  | i + 1, hi, x, hx => by
    have ih := ph1_share n alive prev i (by omega) x hx
    rw [ph1_succ]
    unfold step1
    split
    · rename_i hc
      have hr := ph1_rest n alive prev i i (Nat.le_refl _) (by omega)
      have hl : i < (ph1 n alive prev i).length := by rw [ph1_length]; omega
      rw [List.getElem?_eq_getElem hl] at hr
      rw [count_set' hl (Option.some.inj hr) hx]
      by_cases hw : prev.getD i 0 = x
      · rw [if_pos hw]
        have := hc.2
        rw [hw] at this
        omega
      · rw [if_neg hw]; omega
    · exact ih
theorem ph2_share (n : Nat) (alive : List Bool) (prev : List Int) (hW : livingL alive ≠ []) : ∀ i, i ≤ n → ∀ x, x ≠ -1 → (ph2 n alive prev i).count x ≤ shareOf n (livingL alive).length
  | 0, _, x, hx => ph1_share n alive prev _ (Nat.min_le_left _ _) x hx
  | i + 1, hi, x, hx => by
    have ih := ph2_share n alive prev hW i (by omega)
    rw [ph2_succ]
    unfold step2
    split
    · rename_i hc
      have hl : i < (ph2 n alive prev i).length := by rw [ph2_length]; omega
      have hr : (ph2 n alive prev i)[i] = -1 := by
        simp only [List.getD, List.getElem?_eq_getElem hl, Option.getD_some] at hc
        exact hc
      rw [count_set' hl hr hx]
      by_cases hw : pick (livingL alive) (ph2 n alive prev i) = x
      · rw [if_pos hw]
        rcases Nat.lt_or_ge ((ph2 n alive prev i).count x) (shareOf n (livingL alive).length) with h | h
        · omega
        · exfalso
          have h1 := sum_ge (W := livingL alive) (f := fun w => (ph2 n alive prev i).count w) (s := shareOf n (livingL alive).length) fun w hw' => by
            have := pick_le (livingL alive) (ph2 n alive prev i) w hw'
            rw [hw] at this
            omega
          have h2 := sum_le (living_nodup alive) (fun hm => by have := (living_ge hm).1; omega) (ph2 n alive prev i)
          have h3 : 0 < (ph2 n alive prev i).count (-1) := List.count_pos_iff.2 (hr ▸ List.getElem_mem hl)
          rw [ph2_length] at h2
          have hpos : 0 < (livingL alive).length := List.length_pos_iff.2 hW
          have h4 : shareOf n (livingL alive).length * (livingL alive).length < n := by omega
          have := (lt_share hpos).2 h4
          omega
      · rw [if_neg hw]; exact ih x hx
    · exact ih x hx
theorem assign_share {n : Nat} {alive : List Bool} {prev : List Int} (hW : livingL alive ≠ []) {x : Int} (hx : x ≠ -1) : (assign n alive prev).count x ≤ shareOf n (livingL alive).length := by
  unfold assign
  rw [if_neg hW]
  exact ph2_share n alive prev hW n (Nat.le_refl _) x hx

/-! ### Fair, where nobody had any ahead -/
theorem ph1_nil (n : Nat) (alive : List Bool) : ph1 n alive [] (min n ([] : List Int).length) = List.replicate n (-1) := by
  simp [ph1]
theorem fair (n : Nat) (alive : List Bool) (hW : livingL alive ≠ []) : ∀ i, i ≤ n → ∀ u ∈ livingL alive, ∀ w ∈ livingL alive, (ph2 n alive [] i).count u ≤ (ph2 n alive [] i).count w + 1
  | 0, _, u, hu, w, hw => by
    have : (ph2 n alive [] 0).count u = 0 := by
      simp only [ph2, List.range_zero, List.foldl_nil, ph1_nil]
      rw [List.count_replicate, if_neg]
      have := (living_ge hu).1
      simp; omega
    omega
  | i + 1, hi, u, hu, w, hw => by
    have ih := fair n alive hW i (by omega)
    rw [ph2_succ]
    unfold step2
    split
    · rename_i hc
      have hl : i < (ph2 n alive [] i).length := by rw [ph2_length]; omega
      have hr : (ph2 n alive [] i)[i] = -1 := by
        simp only [List.getD, List.getElem?_eq_getElem hl, Option.getD_some] at hc
        exact hc
      have hu1 := (living_ge hu).1
      have hw1 := (living_ge hw).1
      rw [count_set' hl hr (by omega), count_set' hl hr (by omega)]
      have hp := pick_le (livingL alive) (ph2 n alive [] i)
      have h1 := hp u hu
      have h2 := hp w hw
      have h3 := ih u hu w hw
      have h4 := ih u hu _ (pick_mem hW (ph2 n alive [] i))
      generalize hP : pick (livingL alive) (ph2 n alive [] i) = p at *
      by_cases hpu : p = u
      · rw [if_pos hpu, ← hpu]
        rw [← hpu] at h1 h3 h4
        split <;> omega
      · rw [if_neg hpu]
        split
        · omega
        · omega
    · exact ih u hu w hw
end Go.Proofs.Ytkoelbeidffimaa.Pk
