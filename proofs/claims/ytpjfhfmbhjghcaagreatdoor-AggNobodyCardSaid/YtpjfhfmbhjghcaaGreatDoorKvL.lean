/-
  What functions of the program do, told of abstract states. Conditions: as each theorem says.
-/
import Derived.Test.YtpjfhfmbhjghcaaGreatDoorAbD
namespace Go.Proofs.YtpjfhfmbhjghcaaGreatDoor.Pk
open Go Go.Proofs Go.Proofs.YtpjfhfmbhjghcaaGreatDoor.Ab
set_option linter.unusedVariables false
set_option linter.unusedSimpArgs false

/-! ### Rising lists of pairs -/
abbrev Pr := Int × Int
def Srt (l : List Pr) : Prop := l.Pairwise fun a b => a.1 < b.1
def look : List Pr → Int → Option Int
  | [], _ => none
  | p :: r, k => if p.1 = k then some p.2 else look r k
def put : List Pr → Int → Int → List Pr
  | [], k, v => [(k, v)]
  | p :: r, k, v => if p.1 < k then p :: put r k v else if p.1 = k then (k, v) :: r else (k, v) :: p :: r
def rm : List Pr → Int → List Pr
  | [], _ => []
  | p :: r, k => if p.1 = k then r else p :: rm r k
def pos : List Pr → Int → Nat
  | [], _ => 0
  | p :: r, k => if p.1 < k then pos r k + 1 else 0
def has (l : List Pr) (k : Int) : Bool := (look l k).isSome
theorem pos_le : ∀ (l : List Pr) (k : Int), pos l k ≤ l.length
  | [], _ => Nat.le_refl _
  | p :: r, k => by
    unfold pos
    split
    · have := pos_le r k; simp only [List.length_cons]; omega
    · exact Nat.zero_le _
theorem pos_lt : ∀ (l : List Pr) (k : Int) (t : Nat) (p : Pr), t < pos l k → l[t]? = some p → p.1 < k
  | [], _, t, p, h, _ => by simp [pos] at h
  | q :: r, k, t, p, h, hp => by
    unfold pos at h
    split at h
    · cases t with
      | zero => simp at hp; subst hp; assumption
      | succ t => exact pos_lt r k t p (by omega) (by simpa using hp)
    · omega
theorem pos_ge : ∀ {l : List Pr}, Srt l → ∀ (k : Int) (t : Nat) (p : Pr), pos l k ≤ t → l[t]? = some p → k ≤ p.1
  | [], _, _, t, p, _, hp => by simp at hp
  | q :: r, hs, k, t, p, h, hp => by
    have hs' := List.pairwise_cons.1 hs
    unfold pos at h
    split at h
    · cases t with
      | zero => omega
      | succ t => exact pos_ge hs'.2 k t p (by omega) (by simpa using hp)
    · cases t with
      | zero => simp at hp; subst hp; omega
      | succ t =>
        have := hs'.1 p (List.mem_of_getElem? (by simpa using hp))
        omega
theorem look_none_of_lt : ∀ {l : List Pr} {k : Int}, (∀ p ∈ l, k < p.1) → look l k = none
  | [], _, _ => rfl
  | q :: r, k, h => by
    unfold look
    rw [if_neg (by have := h q (by simp); omega)]
    exact look_none_of_lt fun p hp => h p (by simp [hp])
theorem at_pos : ∀ {l : List Pr}, Srt l → ∀ (k : Int), (has l k = true ∧ ∃ p, l[pos l k]? = some p ∧ p.1 = k ∧ look l k = some p.2) ∨ (has l k = false ∧ look l k = none ∧ ∀ p, l[pos l k]? = some p → k < p.1)
  | [], _, k => .inr ⟨rfl, rfl, by simp⟩
  | q :: r, hs, k => by
    have hs' := List.pairwise_cons.1 hs
    unfold has pos
    by_cases h1 : q.1 < k
    · rw [if_pos h1]
      have : look (q :: r) k = look r k := by rw [look, if_neg (by omega)]
      rw [this]
      simpa [has] using at_pos hs'.2 k
    · rw [if_neg h1]
      by_cases h2 : q.1 = k
      · exact .inl ⟨by simp [look, h2], q, by simp, h2, by simp [look, h2]⟩
      · have : look (q :: r) k = none := look_none_of_lt fun p hp => by
          rcases List.mem_cons.1 hp with rfl | hp
          · omega
          · have := hs'.1 p hp; omega
        exact .inr ⟨by rw [this]; rfl, this, fun p hp => by simp at hp; subst hp; omega⟩
theorem put_has : ∀ {l : List Pr}, Srt l → ∀ (k v : Int), has l k = true → put l k v = l.set (pos l k) (k, v)
  | [], _, k, v, h => by simp [has, look] at h
  | q :: r, hs, k, v, h => by
    have hs' := List.pairwise_cons.1 hs
    unfold put pos
    by_cases h1 : q.1 < k
    · rw [if_pos h1, if_pos h1, List.set_cons_succ, put_has hs'.2 k v]
      have : look (q :: r) k = look r k := by rw [look, if_neg (by omega)]
      rw [has, this] at h
      exact h
    · rw [if_neg h1, if_neg h1]
      by_cases h2 : q.1 = k
      · rw [if_pos h2]; rfl
      · exfalso
        have : look (q :: r) k = none := look_none_of_lt fun p hp => by
          rcases List.mem_cons.1 hp with rfl | hp
          · omega
          · have := hs'.1 p hp; omega
        rw [has, this] at h; cases h
theorem put_new : ∀ {l : List Pr}, Srt l → ∀ (k v : Int), has l k = false → put l k v = l.take (pos l k) ++ [(k, v)] ++ l.drop (pos l k)
  | [], _, k, v, h => rfl
  | q :: r, hs, k, v, h => by
    have hs' := List.pairwise_cons.1 hs
    unfold put pos
    by_cases h1 : q.1 < k
    · rw [if_pos h1, if_pos h1, put_new hs'.2 k v]
      · simp
      · have : look (q :: r) k = look r k := by rw [look, if_neg (by omega)]
        rw [has, this] at h
        exact h
    · rw [if_neg h1, if_neg h1]
      by_cases h2 : q.1 = k
      · simp [has, look, h2] at h
      · rw [if_neg h2]; simp
theorem rm_has : ∀ {l : List Pr}, Srt l → ∀ (k : Int), has l k = true → rm l k = l.take (pos l k) ++ l.drop (pos l k + 1)
  | [], _, k, h => by simp [has, look] at h
  | q :: r, hs, k, h => by
    have hs' := List.pairwise_cons.1 hs
    unfold rm pos
    by_cases h1 : q.1 < k
    · rw [if_neg (by omega), if_pos h1, rm_has hs'.2 k]
      · simp
      · have : look (q :: r) k = look r k := by rw [look, if_neg (by omega)]
        rw [has, this] at h
        exact h
    · rw [if_neg h1]
      by_cases h2 : q.1 = k
      · rw [if_pos h2]; simp
      · exfalso
        have : look (q :: r) k = none := look_none_of_lt fun p hp => by
          rcases List.mem_cons.1 hp with rfl | hp
          · omega
          · have := hs'.1 p hp; omega
        rw [has, this] at h; cases h
theorem mem_put : ∀ {l : List Pr} {k v : Int} {p : Pr}, p ∈ put l k v → p = (k, v) ∨ p ∈ l
  | [], k, v, p, h => by simp [put] at h; exact .inl h
  | q :: r, k, v, p, h => by
    unfold put at h
    split at h
    · rcases List.mem_cons.1 h with rfl | h
      · exact .inr (by simp)
      · rcases mem_put h with h | h
        · exact .inl h
        · exact .inr (by simp [h])
    · split at h
      · rcases List.mem_cons.1 h with rfl | h
        · exact .inl rfl
        · exact .inr (by simp [h])
      · rcases List.mem_cons.1 h with rfl | h
        · exact .inl rfl
        · exact .inr h
theorem mem_rm : ∀ {l : List Pr} {k : Int} {p : Pr}, p ∈ rm l k → p ∈ l
  | [], k, p, h => by simp [rm] at h
  | q :: r, k, p, h => by
    unfold rm at h
    split at h
    · simp [h]
    · rcases List.mem_cons.1 h with rfl | h
      · simp
      · simp [mem_rm h]
theorem srt_put : ∀ {l : List Pr}, Srt l → ∀ (k v : Int), Srt (put l k v)
  | [], _, k, v => by simp [put, Srt]
  | q :: r, hs, k, v => by
    have hs' := List.pairwise_cons.1 hs
    unfold put
    split
    · refine List.pairwise_cons.2 ⟨fun p hp => ?_, srt_put hs'.2 k v⟩
      rcases mem_put hp with rfl | hp
      · assumption
      · exact hs'.1 p hp
    · split
      · rename_i h1 h2
        exact List.pairwise_cons.2 ⟨fun p hp => by have := hs'.1 p hp; simp only; omega, hs'.2⟩
      · refine List.pairwise_cons.2 ⟨fun p hp => ?_, hs⟩
        rcases List.mem_cons.1 hp with rfl | hp
        · simp only; omega
        · have := hs'.1 p hp; simp only; omega
theorem srt_rm : ∀ {l : List Pr}, Srt l → ∀ (k : Int), Srt (rm l k)
  | [], _, k => by simp [rm, Srt]
  | q :: r, hs, k => by
    have hs' := List.pairwise_cons.1 hs
    unfold rm
    split
    · exact hs'.2
    · exact List.pairwise_cons.2 ⟨fun p hp => hs'.1 p (mem_rm hp), srt_rm hs'.2 k⟩
theorem look_put : ∀ (l : List Pr) (k v x : Int), Srt l → look (put l k v) x = if x = k then some v else look l x
  | [], k, v, x, _ => by simp only [put, look]; by_cases h : k = x <;> simp [h, eq_comm]
  | q :: r, k, v, x, hs => by
    have hs' := List.pairwise_cons.1 hs
    unfold put
    by_cases h1 : q.1 < k
    · rw [if_pos h1, look, look, look_put r k v x hs'.2]
      by_cases h2 : q.1 = x
      · rw [if_pos h2, if_neg (by omega), if_pos h2]
      · rw [if_neg h2, if_neg h2]
    · rw [if_neg h1]
      by_cases h2 : q.1 = k
      · rw [if_pos h2, look, look]
        by_cases h3 : x = k
        · simp [h3]
        · rw [if_neg (by simp only; omega), if_neg h3, if_neg (by omega)]
      · rw [if_neg h2, look]
        by_cases h3 : x = k
        · simp [h3]
        · rw [if_neg (by simp only; omega), if_neg h3]
theorem look_rm : ∀ (l : List Pr) (k x : Int), Srt l → look (rm l k) x = if x = k then none else look l x
  | [], k, x, _ => by simp [rm, look]
  | q :: r, k, x, hs => by
    have hs' := List.pairwise_cons.1 hs
    unfold rm
    by_cases h1 : q.1 = k
    · rw [if_pos h1]
      by_cases h2 : x = k
      · rw [if_pos h2]
        exact look_none_of_lt fun p hp => by have := hs'.1 p hp; omega
      · rw [if_neg h2, look, if_neg (by omega)]
    · rw [if_neg h1, look, look, look_rm r k x hs'.2]
      by_cases h2 : q.1 = x
      · rw [if_pos h2, if_neg (by omega), if_pos h2]
      · rw [if_neg h2, if_neg h2]
theorem look_mem : ∀ {l : List Pr}, Srt l → ∀ {p : Pr}, p ∈ l → look l p.1 = some p.2
  | [], _, p, h => by cases h
  | q :: r, hs, p, h => by
    have hs' := List.pairwise_cons.1 hs
    rcases List.mem_cons.1 h with rfl | h
    · simp [look]
    · rw [look, if_neg (by have := hs'.1 p h; omega)]
      exact look_mem hs'.2 h
theorem look_some : ∀ {l : List Pr} {k v : Int}, look l k = some v → (k, v) ∈ l
  | [], _, _, h => by cases h
  | q :: r, k, v, h => by
    unfold look at h
    split at h
    · rename_i hq; have := Option.some.inj h; subst this; subst hq; simp
    · simp [look_some h]
theorem srt_ext : ∀ {a b : List Pr}, Srt a → Srt b → (∀ k, look a k = look b k) → a = b
  | [], [], _, _, _ => rfl
  | [], q :: r, _, hb, h => by have := h q.1; simp [look] at this
  | q :: r, [], ha, _, h => by have := h q.1; simp [look] at this
  | p :: r, q :: s, ha, hb, h => by
    have ha' := List.pairwise_cons.1 ha
    have hb' := List.pairwise_cons.1 hb
    have h1 := look_some (l := q :: s) (by rw [← h p.1]; exact look_mem ha (p := p) (by simp))
    have h2 := look_some (l := p :: r) (by rw [h q.1]; exact look_mem hb (p := q) (by simp))
    have hpq : p = q := by
      rcases List.mem_cons.1 h1 with h1 | h1
      · exact h1
      · rcases List.mem_cons.1 h2 with h2 | h2
        · exact h2.symm
        · have := hb'.1 _ h1; have := ha'.1 _ h2; simp only at *; omega
    subst hpq
    congr 1
    refine srt_ext ha'.2 hb'.2 fun k => ?_
    by_cases hk : p.1 = k
    · rw [look_none_of_lt fun x hx => by have := ha'.1 x hx; omega, look_none_of_lt fun x hx => by have := hb'.1 x hx; omega]
    · have := h k
      rw [look, look, if_neg hk, if_neg hk] at this
      exact this
theorem len_put : ∀ {l : List Pr}, Srt l → ∀ (k v : Int), (put l k v).length = if has l k = true then l.length else l.length + 1 := by
  intro l hs k v
  cases h : has l k
  · rw [put_new hs k v h]
    have := pos_le l k
    simp
    omega
  · rw [put_has hs k v h]; simp
theorem len_rm {l : List Pr} (hs : Srt l) (k : Int) (h : has l k = true) : (rm l k).length + 1 = l.length := by
  rw [rm_has hs k h]
  rcases at_pos hs k with ⟨_, p, hp, _⟩ | ⟨h', _⟩
  · have := (List.getElem?_eq_some_iff.1 hp).1
    simp
    omega
  · rw [h] at h'; cases h'
theorem rm_no {l : List Pr} (hs : Srt l) (k : Int) (h : has l k = false) : rm l k = l := by
  refine srt_ext (srt_rm hs k) hs fun x => ?_
  rw [look_rm l k x hs]
  split
  · rename_i hx; subst hx; unfold has at h; cases hl : look l x with
    | none => rfl
    | some y => rw [hl] at h; cases h
  · rfl
end Go.Proofs.YtpjfhfmbhjghcaaGreatDoor.Pk
