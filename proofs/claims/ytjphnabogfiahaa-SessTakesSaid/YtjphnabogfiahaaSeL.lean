/-
  What functions of the program do, told of abstract states. Conditions: as each theorem says.
-/
import Derived.Test.YtjphnabogfiahaaChK
namespace Go.Proofs.Ytjphnabogfiahaa.Pk
open Go Go.Proofs Go.Proofs.Ytjphnabogfiahaa.Ab
set_option linter.unusedVariables false
set_option linter.unusedSimpArgs false
/-! ### Rising lists of sessions -/
def lt3 (a b : Chg) : Prop := a.key < b.key ∨ a.key = b.key ∧ (a.fr < b.fr ∨ a.fr = b.fr ∧ a.to < b.to)
instance (a b : Chg) : Decidable (lt3 a b) := by unfold lt3; infer_instance
def same3 (a b : Chg) : Bool := decide (a.key = b.key ∧ a.fr = b.fr ∧ a.to = b.to)
theorem same3_iff {a b : Chg} : same3 a b = true ↔ a.key = b.key ∧ a.fr = b.fr ∧ a.to = b.to := by simp [same3]
theorem same3_no {a b : Chg} : same3 a b = false ↔ ¬ (a.key = b.key ∧ a.fr = b.fr ∧ a.to = b.to) := by simp [same3]
theorem lt3_irr {a b : Chg} (h : same3 a b = true) : ¬ lt3 a b := by have := same3_iff.1 h; unfold lt3; omega
theorem lt3_trans {a b c : Chg} (h : lt3 a b) (k : lt3 b c) : lt3 a c := by unfold lt3 at *; omega
theorem lt3_asymm {a b : Chg} (h : lt3 a b) : ¬ lt3 b a := by unfold lt3 at *; omega
theorem lt3_tri {a b : Chg} (h : ¬ lt3 a b) (k : ¬ lt3 b a) : same3 a b = true := by rw [same3_iff]; unfold lt3 at *; omega
abbrev SS (l : List Chg) : Prop := l.Pairwise lt3
def low (l : List Chg) (x : Chg) : List Chg := l.filter fun y => decide (lt3 y x)
def high (l : List Chg) (x : Chg) : List Chg := l.filter fun y => !decide (lt3 y x)
def pos3 (l : List Chg) (x : Chg) : Nat := (low l x).length
def has3 (l : List Chg) (x : Chg) : Bool := l.any fun y => same3 y x
def rm3 (l : List Chg) (x : Chg) : List Chg := l.filter fun y => !same3 y x
def ins3 (l : List Chg) (x : Chg) : List Chg := low l x ++ x :: high l x
theorem SS.split : ∀ {l : List Chg}, SS l → ∀ x, low l x ++ high l x = l
  | [], _, x => rfl
  | a :: l, hs, x => by
    have hs' := List.pairwise_cons.1 hs
    have ih := SS.split hs'.2 x
    unfold low high at ih ⊢
    by_cases h : lt3 a x
    · rw [List.filter_cons_of_pos (by simpa using h), List.filter_cons_of_neg (by simpa using h), List.cons_append, ih]
    · have hn : ∀ b ∈ l, ¬ lt3 b x := fun b hb hb' => h (lt3_trans (hs'.1 b hb) hb')
      rw [List.filter_cons_of_neg (by simpa using h), List.filter_cons_of_pos (by simpa using h), List.filter_eq_nil_iff.2 (by simpa using hn), List.filter_eq_self.2 (by simpa using hn)]
      rfl
theorem SS.take {l : List Chg} (h : SS l) (x : Chg) : l.take (pos3 l x) = low l x := by
  have := congrArg (List.take (low l x).length) (h.split x)
  rw [List.take_left' rfl] at this
  exact this.symm
theorem SS.drop {l : List Chg} (h : SS l) (x : Chg) : l.drop (pos3 l x) = high l x := by
  have := congrArg (List.drop (low l x).length) (h.split x)
  rw [List.drop_left' rfl] at this
  exact this.symm
theorem pos3_le (l : List Chg) (x : Chg) : pos3 l x ≤ l.length := List.length_filter_le ..
theorem SS.lt_pos {l : List Chg} (h : SS l) {x : Chg} {t : Nat} {p : Chg} (ht : t < pos3 l x) (hp : l[t]? = some p) : lt3 p x := by
  have : p ∈ l.take (pos3 l x) := List.mem_of_getElem? (i := t) (by rw [List.getElem?_take, if_pos ht]; exact hp)
  rw [h.take] at this
  simpa using (List.mem_filter.1 this).2
theorem SS.ge_pos {l : List Chg} (h : SS l) {x : Chg} {t : Nat} {p : Chg} (ht : pos3 l x ≤ t) (hp : l[t]? = some p) : ¬ lt3 p x := by
  have : p ∈ l.drop (pos3 l x) := List.mem_of_getElem? (i := t - pos3 l x) (by rw [List.getElem?_drop, show pos3 l x + (t - pos3 l x) = t by omega]; exact hp)
  rw [h.drop] at this
  simpa using (List.mem_filter.1 this).2
theorem SS.filter {l : List Chg} (h : SS l) (p : Chg → Bool) : SS (l.filter p) := List.Pairwise.filter p h
theorem SS.uniq {l : List Chg} (h : SS l) {a b : Chg} (ha : a ∈ l) (hb : b ∈ l) (hs : same3 a b = true) : a = b := by
  induction l with
  | nil => cases ha
  | cons c l ih =>
    have h' := List.pairwise_cons.1 h
    rcases List.mem_cons.1 ha with e | ha
    · rcases List.mem_cons.1 hb with e2 | hb
      · rw [e, e2]
      · have h1 := h'.1 b hb
        rw [← e] at h1
        exact absurd h1 (lt3_irr hs)
    · rcases List.mem_cons.1 hb with e | hb
      · have h1 := h'.1 a ha
        rw [← e] at h1
        exact absurd h1 (lt3_irr (by rw [same3_iff] at *; omega))
      · exact ih h'.2 ha hb
/-- At its place the first one that isn't below. -/
theorem SS.at_pos {l : List Chg} (h : SS l) (x : Chg) : (has3 l x = true ∧ ∃ p, l[pos3 l x]? = some p ∧ same3 p x = true ∧ p ∈ l) ∨ (has3 l x = false ∧ ∀ p, l[pos3 l x]? = some p → ¬ lt3 p x ∧ same3 p x = false) := by
  cases hh : has3 l x
  · refine .inr ⟨rfl, fun p hp => ⟨h.ge_pos (Nat.le_refl _) hp, ?_⟩⟩
    have := List.any_eq_false.1 hh p (List.mem_of_getElem? hp)
    simpa using this
  · refine .inl ⟨rfl, ?_⟩
    obtain ⟨q, hq, hs⟩ := List.any_eq_true.1 hh
    have hqh : q ∈ high l x := List.mem_filter.2 ⟨hq, by simpa using lt3_irr hs⟩
    rw [← h.drop] at hqh
    cases hd : l.drop (pos3 l x) with
    | nil => rw [hd] at hqh; cases hqh
    | cons p r =>
      have hp : l[pos3 l x]? = some p := by
        have := congrArg (fun z => z[0]?) hd
        simpa [List.getElem?_drop] using this
      refine ⟨p, hp, ?_, List.mem_of_getElem? hp⟩
      have hsub : SS (l.drop (pos3 l x)) := List.Pairwise.sublist (List.drop_sublist ..) h
      rw [hd] at hqh hsub
      rcases List.mem_cons.1 hqh with rfl | hqr
      · exact hs
      · have h1 := (List.pairwise_cons.1 hsub).1 q hqr
        have h2 := h.ge_pos (Nat.le_refl _) hp
        exact absurd (show lt3 p x by have := same3_iff.1 hs; unfold lt3 at *; omega) h2
theorem has3_mem {l : List Chg} {x : Chg} (h : x ∈ l) : has3 l x = true := List.any_eq_true.2 ⟨x, h, same3_iff.2 ⟨rfl, rfl, rfl⟩⟩
theorem rm3_no {l : List Chg} {x : Chg} (h : has3 l x = false) : rm3 l x = l := List.filter_eq_self.2 fun y hy => by have := List.any_eq_false.1 h y hy; simpa using this
theorem SS.rm {l : List Chg} (h : SS l) {x : Chg} (hx : has3 l x = true) : rm3 l x = l.take (pos3 l x) ++ l.drop (pos3 l x + 1) := by
  rcases h.at_pos x with ⟨_, p, hp, hs, hm⟩ | ⟨h', _⟩
  rotate_left
  · rw [hx] at h'; cases h'
  have hlt := (List.getElem?_eq_some_iff.1 hp).1
  have e : l = l.take (pos3 l x) ++ p :: l.drop (pos3 l x + 1) := by
    have := List.take_append_drop (pos3 l x) l
    rw [List.drop_eq_getElem_cons hlt, (List.getElem?_eq_some_iff.1 hp).2] at this
    exact this.symm
  have hne : ∀ y, y ∈ l → same3 y x = true → y = p := fun y hy hyx => h.uniq hy hm (by rw [same3_iff] at *; omega)
  unfold rm3
  conv => lhs; rw [e]
  have hnd := h
  rw [e] at hnd
  have hn := List.pairwise_append.1 hnd
  rw [List.filter_append, List.filter_cons_of_neg (by simp [hs]), List.filter_eq_self.2, List.filter_eq_self.2]
  · intro y hy
    cases hyx : same3 y x
    · rfl
    · have := (List.pairwise_cons.1 hn.2.1).1 y hy
      exact absurd this (lt3_irr (by rw [same3_iff] at *; omega))
  · intro y hy
    cases hyx : same3 y x
    · rfl
    · have := hn.2.2 y hy p (by simp)
      exact absurd this (lt3_irr (by rw [same3_iff] at *; omega))
theorem SS.ins {l : List Chg} (h : SS l) (x : Chg) : ins3 l x = l.take (pos3 l x) ++ [x] ++ l.drop (pos3 l x) := by rw [h.take, h.drop]; simp [ins3]
theorem mem_ins3 {l : List Chg} {x y : Chg} : y ∈ ins3 l x ↔ y = x ∨ y ∈ l := by
  unfold ins3 low high
  rw [List.mem_append, List.mem_cons, List.mem_filter, List.mem_filter]
  by_cases h : lt3 y x <;> simp [h, or_comm]
theorem SS.len_ins {l : List Chg} (h : SS l) (x : Chg) : (ins3 l x).length = l.length + 1 := by
  have := congrArg List.length (h.split x)
  unfold ins3
  simp at this ⊢
  omega
theorem SS.insS {l : List Chg} (h : SS l) {x : Chg} (hx : has3 l x = false) : SS (ins3 l x) := by
  refine List.pairwise_append.2 ⟨h.filter _, List.pairwise_cons.2 ⟨fun y hy => ?_, h.filter _⟩, fun a ha b hb => ?_⟩
  · have hy' := List.mem_filter.1 hy
    have h1 := List.any_eq_false.1 hx y hy'.1
    have h2 : ¬ lt3 y x := by simpa using hy'.2
    by_cases h3 : lt3 x y
    · exact h3
    · exact absurd (lt3_tri h2 h3) h1
  · have ha' : lt3 a x := by simpa using (List.mem_filter.1 ha).2
    rcases List.mem_cons.1 hb with rfl | hb
    · exact ha'
    · have hb' := List.mem_filter.1 hb
      have h1 := List.any_eq_false.1 hx b hb'.1
      have h2 : ¬ lt3 b x := by simpa using hb'.2
      by_cases h3 : lt3 x b
      · exact lt3_trans ha' h3
      · exact absurd (lt3_tri h2 h3) h1
theorem has3_rm (l : List Chg) (x : Chg) : has3 (rm3 l x) x = false := by
  refine List.any_eq_false.2 fun y hy => ?_
  have := (List.mem_filter.1 hy).2
  simpa using this
/-- Laid in the place of the one of the same span. -/
theorem SS.set3 {l : List Chg} (h : SS l) {x : Chg} (hx : has3 l x = true) : l.set (pos3 l x) x = ins3 (rm3 l x) x := by
  rcases h.at_pos x with ⟨_, p, hp, hs, hm⟩ | ⟨h', _⟩
  rotate_left
  · rw [hx] at h'; cases h'
  have hlt := (List.getElem?_eq_some_iff.1 hp).1
  have hsr : SS (rm3 l x) := h.filter _
  have hpos : low (rm3 l x) x = low l x := by
    unfold low rm3
    rw [List.filter_filter]
    refine List.filter_congr fun y _ => ?_
    by_cases hy : lt3 y x
    · have : same3 y x = false := by cases e : same3 y x; · rfl
                                     · exact absurd hy (lt3_irr e)
      simp [hy, this]
    · simp [hy]
  have h1 : pos3 (rm3 l x) x = pos3 l x := by unfold pos3; rw [hpos]
  have hle : (l.take (pos3 l x)).length = pos3 l x := by rw [List.length_take]; omega
  rw [List.set_eq_take_append_cons_drop, if_pos hlt, hsr.ins, h1, h.rm hx, List.take_left' hle, List.drop_left' hle]
  simp
theorem len_rm3 {l : List Chg} (h : SS l) {x : Chg} (hx : has3 l x = true) : (rm3 l x).length + 1 = l.length := by
  rcases h.at_pos x with ⟨_, p, hp, hs, hm⟩ | ⟨h', _⟩
  · rw [h.rm hx]
    have hlt := (List.getElem?_eq_some_iff.1 hp).1
    simp
    omega
  · rw [hx] at h'; cases h'
/-- One after the other taken away. -/
def rmAll (l cs : List Chg) : List Chg := l.filter fun y => cs.all fun x => !same3 y x
theorem rmAll_nil (l : List Chg) : rmAll l [] = l := List.filter_eq_self.2 fun _ _ => rfl
theorem rmAll_snoc (l cs : List Chg) (x : Chg) : rmAll l (cs ++ [x]) = rm3 (rmAll l cs) x := by
  unfold rmAll rm3
  rw [List.filter_filter]
  refine List.filter_congr fun y _ => ?_
  rw [List.all_append]
  simp [Bool.and_comm]
theorem rmAll_filter {l : List Chg} (h : SS l) (p : Chg → Bool) : rmAll l (l.filter p) = l.filter fun y => !p y := by
  refine List.filter_congr fun y hy => ?_
  cases hp : p y
  · refine List.all_eq_true.2 fun x hx => ?_
    have hx' := List.mem_filter.1 hx
    cases e : same3 y x
    · rfl
    · have := h.uniq hy hx'.1 e; subst this; rw [hp] at hx'; cases hx'.2
  · refine List.all_eq_false.2 ⟨y, List.mem_filter.2 ⟨hy, hp⟩, ?_⟩
    simp [same3_iff.2 (show y.key = y.key ∧ y.fr = y.fr ∧ y.to = y.to from ⟨rfl, rfl, rfl⟩)]
theorem mem_rmAll {l cs : List Chg} (h : SS l) {x : Chg} (hx : x ∈ l) (hn : x ∉ cs) (hs : ∀ y ∈ cs, y ∈ l) : x ∈ rmAll l cs := by
  refine List.mem_filter.2 ⟨hx, List.all_eq_true.2 fun y hy => ?_⟩
  cases e : same3 x y
  · rfl
  · exact absurd (h.uniq hx (hs y hy) e ▸ hy) hn
theorem SS.rmAll {l : List Chg} (h : SS l) (cs : List Chg) : SS (rmAll l cs) := h.filter _
end Go.Proofs.Ytjphnabogfiahaa.Pk
