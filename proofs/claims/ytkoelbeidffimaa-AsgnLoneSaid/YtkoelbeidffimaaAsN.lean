/-
  What functions of the program do, told of abstract states. Conditions: as each theorem says.
-/
import Derived.Test.YtkoelbeidffimaaAsM
namespace Go.Proofs.Ytkoelbeidffimaa.Pk
open Go Go.Proofs Go.Proofs.Ytkoelbeidffimaa.Ab
set_option linter.unusedVariables false
set_option linter.unusedSimpArgs false

/-- What each gets of a wish: the wish, where it may be. -/
def wish (alive : List Bool) (x : Int) : Int := if okW alive x = true then x else -1
theorem wish_count {alive : List Bool} {x : Int} (hx : okW alive x = true) (hx1 : x ≠ -1) (l : List Int) : (l.map (wish alive)).count x = l.count x := by
  induction l with
  | nil => simp
  | cons y l ih =>
    rw [List.map_cons, List.count_cons, List.count_cons, ih]
    congr 1
    unfold wish
    by_cases hy : okW alive y = true
    · rw [if_pos hy]
    · rw [if_neg hy]
      have h1 : ¬ (-1 : Int) = x := fun h => hx1 h.symm
      have h2 : ¬ y = x := fun h => hy (h ▸ hx)
      simp [h1, h2]
theorem ok_ge {alive : List Bool} {x : Int} (h : okW alive x = true) : x ≠ -1 := by
  have := (living_ge (lv_mem.2 h)).1
  omega
/-- Wishes that fit are kept. -/
theorem ph1_wish (n : Nat) (alive : List Bool) (l : List Int) (hl : l.length = n) (hs : ∀ x, okW alive x = true → l.count x ≤ shareOf n (livingL alive).length) :
    ∀ i, i ≤ n → ph1 n alive l i = (l.take i).map (wish alive) ++ List.replicate (n - i) (-1)
  | 0, _ => by simp [ph1]
  | i + 1, hi => by
    have hil : i < l.length := by omega
    have hg : l.getD i 0 = l[i] := by simp [List.getD, List.getElem?_eq_getElem hil]
    rw [ph1_succ, ph1_wish n alive l hl hs i (by omega)]
    have hlen : ((l.take i).map (wish alive)).length = i := by simp; omega
    have hset : ∀ x : Int, ((l.take i).map (wish alive) ++ List.replicate (n - i) (-1)).set i x = (l.take i).map (wish alive) ++ x :: List.replicate (n - (i + 1)) (-1) := fun x => by
      rw [List.set_append_right _ _ (by omega), hlen, Nat.sub_self, show n - i = (n - (i + 1)) + 1 by omega, List.replicate_succ, List.set_cons_zero]
    have htk : (l.take (i + 1)).map (wish alive) = (l.take i).map (wish alive) ++ [wish alive l[i]] := by
      rw [List.take_succ_eq_append_getElem hil, List.map_append]; rfl
    unfold step1
    rw [hg, htk, List.append_assoc, List.singleton_append]
    by_cases hok : okW alive l[i] = true
    · have hc : ((l.take i).map (wish alive) ++ List.replicate (n - i) (-1)).count l[i] < shareOf n (livingL alive).length := by
        rw [List.count_append, wish_count hok (ok_ge hok), List.count_replicate, if_neg (by have := ok_ge hok; simpa using fun h => this h.symm)]
        have h1 := hs _ hok
        have h2 : l.count l[i] = (l.take i).count l[i] + (l.drop i).count l[i] := by rw [← List.count_append, List.take_append_drop]
        have h3 : 0 < (l.drop i).count l[i] := List.count_pos_iff.2 (by rw [List.drop_eq_getElem_cons hil]; exact List.mem_cons_self)
        omega
      rw [if_pos ⟨hok, hc⟩, hset]
      unfold wish
      rw [if_pos hok]
    · rw [if_neg fun h => hok h.1]
      unfold wish
      rw [if_neg hok, ← List.replicate_succ, show n - (i + 1) + 1 = n - i by omega]
theorem ph1_wishes {n : Nat} {alive : List Bool} {l : List Int} (hl : l.length = n) (hs : ∀ x, okW alive x = true → l.count x ≤ shareOf n (livingL alive).length) :
    ph1 n alive l (min n l.length) = l.map (wish alive) := by
  rw [ph1_wish n alive l hl hs _ (by omega), show min n l.length = n by omega, List.take_of_length_le (by omega)]
  simp
/-- What is given stays. -/
theorem ph2_keep (n : Nat) (alive : List Bool) (prev : List Int) (k : Nat) (x : Int) (h : (ph1 n alive prev (min n prev.length))[k]? = some x) (hx : x ≠ -1) : ∀ i, (ph2 n alive prev i)[k]? = some x
  | 0 => h
  | i + 1 => by
    have ih := ph2_keep n alive prev k x h hx i
    rw [ph2_succ]
    unfold step2
    split
    · rename_i hc
      by_cases hk : k = i
      · subst hk
        simp [List.getD, ih] at hc
        exact absurd hc hx
      · rw [List.getElem?_set_ne (by omega)]; exact ih
    · exact ih
theorem assign_wish {n : Nat} {alive : List Bool} {l : List Int} (hl : l.length = n) (hW : livingL alive ≠ []) (hs : ∀ x, okW alive x = true → l.count x ≤ shareOf n (livingL alive).length) {k : Nat} {x : Int} (h : l[k]? = some x) (hok : okW alive x = true) :
    (assign n alive l)[k]? = some x := by
  unfold assign
  rw [if_neg hW]
  refine ph2_keep n alive l k x ?_ (ok_ge hok) n
  rw [ph1_wishes hl hs, List.getElem?_map, h]
  simp [wish, hok]
/-- Wishes that all fit are the answer. -/
theorem assign_fits {n : Nat} {alive : List Bool} {l : List Int} (hl : l.length = n) (hW : livingL alive ≠ []) (hok : ∀ x ∈ l, okW alive x = true) (hs : ∀ x, okW alive x = true → l.count x ≤ shareOf n (livingL alive).length) : assign n alive l = l := by
  apply List.ext_getElem?
  intro k
  by_cases hk : k < l.length
  · rw [List.getElem?_eq_getElem hk]
    exact assign_wish hl hW hs (List.getElem?_eq_getElem hk) (hok _ (List.getElem_mem hk))
  · rw [List.getElem?_eq_none (l := assign n alive l) (by rw [assign_length]; omega), List.getElem?_eq_none (l := l) (by omega)]
theorem assign_again (n : Nat) (alive : List Bool) : assign n alive (assign n alive []) = assign n alive [] := by
  by_cases hW : livingL alive = []
  · rw [assign_none hW, assign_none hW]
  · exact assign_fits (assign_length _ _ _) hW (fun x hx => lv_mem.1 (assign_mem hW hx)) fun x hx => assign_share hW (ok_ge hx)

/-! ### Where one dies -/
theorem less_len (alive : List Bool) (d : Nat) : ∀ k, (lvN (alive.set d false) k).length ≤ (lvN alive k).length
  | 0 => by simp [lvN]
  | k + 1 => by
    have ih := less_len alive d k
    have hg : (alive.set d false).getD k false = true → alive.getD k false = true := by
      intro h
      simp only [List.getD, List.getElem?_set] at h ⊢
      split at h
      · split at h <;> simp at h
      · exact h
    unfold lvN
    by_cases h : (alive.set d false).getD k false = true
    · rw [if_pos h, if_pos (hg h)]; simp; exact ih
    · rw [if_neg h]; split
      · simp; omega
      · exact ih
theorem less_ok {alive : List Bool} {d : Nat} {x : Int} : okW (alive.set d false) x = true ↔ okW alive x = true ∧ x ≠ d := by
  unfold okW
  simp only [Bool.and_eq_true, decide_eq_true_eq, List.length_set, List.getD, List.getElem?_set]
  constructor
  · rintro ⟨⟨a, b⟩, c⟩
    split at c
    · split at c <;> simp at c
    · exact ⟨⟨⟨a, b⟩, c⟩, by omega⟩
  · rintro ⟨⟨⟨a, b⟩, c⟩, hd⟩
    refine ⟨⟨a, b⟩, ?_⟩
    rw [if_neg (by omega)]
    exact c
theorem less_keeps (n : Nat) (alive : List Bool) (d : Nat) (hd : d < alive.length) {i : Nat} (hi : i < n) :
    ∃ x y, (assign n alive [])[i]? = some x ∧ (assign n (alive.set d false) (assign n alive []))[i]? = some y ∧ (x ≠ d → y = x) ∧ y ≠ d := by
  have hl := assign_length n alive []
  have hm := assign_length n (alive.set d false) (assign n alive [])
  have hx : i < (assign n alive []).length := by omega
  have hy : i < (assign n (alive.set d false) (assign n alive [])).length := by omega
  refine ⟨_, _, List.getElem?_eq_getElem hx, List.getElem?_eq_getElem hy, ?_⟩
  have hsub : ∀ x, okW (alive.set d false) x = true → x ∈ livingL alive := fun x h => lv_mem.2 (less_ok.1 h).1
  by_cases hW' : livingL (alive.set d false) = []
  · have ey : (assign n (alive.set d false) (assign n alive []))[i] = -1 := by simp [assign_none hW']
    rw [ey]
    refine ⟨fun hne => ?_, by omega⟩
    by_cases hW : livingL alive = []
    · simp [assign_none hW]
    · exfalso
      have h1 := lv_mem.1 (assign_mem hW (List.getElem_mem hx))
      have h2 := lv_mem.2 (less_ok.2 ⟨h1, hne⟩)
      rw [hW'] at h2
      simp at h2
  · have hpos : 0 < (livingL (alive.set d false)).length := List.length_pos_iff.2 hW'
    have hle : (livingL (alive.set d false)).length ≤ (livingL alive).length := by
      have := less_len alive d alive.length
      unfold livingL
      rw [List.length_set]
      exact this
    have hW : livingL alive ≠ [] := fun h => by rw [h] at hle; simp at hle; exact hW' hle
    have hs : ∀ x, okW (alive.set d false) x = true → (assign n alive []).count x ≤ shareOf n (livingL (alive.set d false)).length := fun x hx =>
      Nat.le_trans (assign_share hW (ok_ge hx)) (share_mono hpos hle)
    refine ⟨fun hne => ?_, fun hh => ?_⟩
    · have hok := less_ok.2 ⟨lv_mem.1 (assign_mem hW (List.getElem_mem hx)), hne⟩
      have := assign_wish hl hW' hs (List.getElem?_eq_getElem hx) hok
      rw [List.getElem?_eq_getElem hy] at this
      exact Option.some.inj this
    · have := lv_mem.1 (assign_mem hW' (List.getElem_mem hy))
      exact (less_ok.1 this).2 hh

/-! ### A task more -/
theorem best_congr {o o' : List Int} : ∀ (l : List Int) (b : Int), (∀ w ∈ l, o.count w = o'.count w) → o.count b = o'.count b → bestOf o b l = bestOf o' b l
  | [], b, _, _ => rfl
  | w :: l, b, h, hb => by
    have h1 := h w (by simp)
    have h2 : ∀ u ∈ l, o.count u = o'.count u := fun u hu => h u (by simp [hu])
    unfold bestOf
    rw [List.foldl_cons, List.foldl_cons, h1, hb]
    split
    · exact best_congr l w h2 h1
    · exact best_congr l b h2 hb
theorem pick_congr {W o o' : List Int} (h : ∀ w ∈ W, o.count w = o'.count w) : pick W o = pick W o' := by
  cases W with
  | nil => rfl
  | cons a l => exact best_congr (a :: l) a h (h a (by simp))
theorem rises (n : Nat) (alive : List Bool) (hW : livingL alive ≠ []) : ∀ i, i ≤ n → ph2 (n + 1) alive [] i = ph2 n alive [] i ++ [-1]
  | 0, _ => by simp [ph2, ph1, List.replicate_succ']
  | i + 1, hi => by
    have hl : i < (ph2 n alive [] i).length := by rw [ph2_length]; omega
    rw [ph2_succ, ph2_succ, rises n alive hW i (by omega)]
    have hp : pick (livingL alive) (ph2 n alive [] i ++ [-1]) = pick (livingL alive) (ph2 n alive [] i) := pick_congr fun w hw => by
      have := (living_ge hw).1
      rw [List.count_append, List.count_cons, List.count_nil]
      have h2 : ¬ (-1 : Int) = w := by omega
      simp [h2]
    unfold step2
    rw [hp]
    have hg : (ph2 n alive [] i ++ [-1]).getD i 0 = (ph2 n alive [] i).getD i 0 := by simp [List.getD, List.getElem?_append_left hl]
    rw [hg]
    split
    · rw [List.set_append_left _ _ hl]
    · rfl
theorem assign_rises (n : Nat) (alive : List Bool) : (assign (n + 1) alive []).take n = assign n alive [] := by
  by_cases hW : livingL alive = []
  · rw [assign_none hW, assign_none hW]; simp
  · unfold assign
    rw [if_neg hW, if_neg hW, ph2_succ, rises n alive hW n (Nat.le_refl _)]
    have hl := ph2_length n alive [] n
    unfold step2
    split
    · rw [List.take_set_of_le (by omega), List.take_left' hl]
    · rw [List.take_left' hl]
end Go.Proofs.Ytkoelbeidffimaa.Pk
