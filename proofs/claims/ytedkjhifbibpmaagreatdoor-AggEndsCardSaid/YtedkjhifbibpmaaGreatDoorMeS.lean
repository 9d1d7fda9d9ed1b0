/-
  What functions of the program do, told of abstract states. Conditions: as each theorem says.
-/
import Derived.Test.YtedkjhifbibpmaaGreatDoorAbD
import Derived.Test.YtedkjhifbibpmaaGreatDoorMeK
import Derived.Test.YtedkjhifbibpmaaGreatDoorAbD
import Derived.Test.YtedkjhifbibpmaaGreatDoorAbD
import Derived.Test.YtedkjhifbibpmaaGreatDoorAbD
namespace Go.Proofs.YtedkjhifbibpmaaGreatDoor.Pk
open Go Go.Proofs Go.Proofs.YtedkjhifbibpmaaGreatDoor.Ab
/-! ### Whole numbers as floats -/
/-- A whole number's bits. -/
def f64 (n : Int) : Nat := FloatKind.nearest .f64 n
theorem cut_even (neg : Bool) (n : Nat) : Ieee.Toward.even.cut neg n 0 = n := by
  have h : (1 : Nat) <<< min 0 (n.log2 + 2) = 1 := by rw [Nat.zero_min]; rfl
  unfold Ieee.Toward.cut
  simp only [h, Nat.div_one, Nat.mod_one, Nat.mul_zero]
  rfl
theorem f64_word (n : Nat) (h0 : n ≠ 0) (h : n < 2 ^ 53) : f64 n = (n.log2 + 1022) * 2 ^ 52 + n * 2 ^ (52 - n.log2) := by
  have hL : n.log2 < 53 := (Nat.log2_lt h0).2 h
  have hu : n < 2 ^ (n.log2 + 1) := (Nat.log2_lt h0).1 (Nat.lt_succ_self _)
  have hk : n * 2 ^ (52 - n.log2) < 2 ^ 53 := by
    have := Nat.mul_lt_mul_of_pos_right hu (Nat.two_pow_pos (52 - n.log2))
    rwa [← Nat.pow_add, show n.log2 + 1 + (52 - n.log2) = 53 by omega] at this
  have e1 : decide (((n : Nat) : Int) < 0) = false := decide_eq_false (by omega)
  unfold f64 FloatKind.nearest FloatKind.encode FloatKind.format Ieee.Format.write Ieee.Format.nearest
  rw [e1]
  simp only [Int.natAbs_natCast, if_neg h0]
  have e2 : max (0 + ((n.log2 : Nat) : Int) - ((Ieee.double.fractionBits : Nat) : Int)) Ieee.double.leastPlace = (n.log2 : Int) - 52 := by
    show max (0 + ((n.log2 : Nat) : Int) - ((52 : Nat) : Int)) (-1074) = _
    omega
  rw [e2]
  have e3 : ((0 : Int) - ((n.log2 : Int) - 52)).toNat = 52 - n.log2 := by omega
  have e4 : ((n.log2 : Int) - 52 - 0).toNat = 0 := by omega
  have e5 : ((n.log2 : Int) - 52 - Ieee.double.leastPlace).toNat = n.log2 + 1022 := by
    show ((n.log2 : Int) - 52 - (-1074)).toNat = _
    omega
  rw [e3, e4, e5, cut_even, Nat.shiftLeft_eq]
  show Ieee.double.word false (min ((n.log2 + 1022) * 2 ^ 52 + n * 2 ^ (52 - n.log2)) (2047 * 2 ^ 52)) = _
  rw [Nat.min_eq_left (by omega)]
  rfl
theorem f64_back (n : Nat) (h : n < 2 ^ 53) : ((FloatKind.f64).decode (f64 n)).toInt .zero = some (n : Int) := by
  by_cases h0 : n = 0
  · subst h0; decide
  have hL : n.log2 < 53 := (Nat.log2_lt h0).2 h
  have hu : n < 2 ^ (n.log2 + 1) := (Nat.log2_lt h0).1 (Nat.lt_succ_self _)
  have hl : 2 ^ n.log2 ≤ n := Nat.log2_self_le h0
  have hk : n * 2 ^ (52 - n.log2) < 2 ^ 53 := by
    have := Nat.mul_lt_mul_of_pos_right hu (Nat.two_pow_pos (52 - n.log2))
    rwa [← Nat.pow_add, show n.log2 + 1 + (52 - n.log2) = 53 by omega] at this
  have hk2 : 2 ^ 52 ≤ n * 2 ^ (52 - n.log2) := by
    have := Nat.mul_le_mul_right (2 ^ (52 - n.log2)) hl
    rwa [← Nat.pow_add, show n.log2 + (52 - n.log2) = 52 by omega] at this
  have hw := f64_word n h0 h
  have hdiv : n * 2 ^ (52 - n.log2) / 2 ^ (52 - n.log2) = n := Nat.mul_div_cancel _ (Nat.two_pow_pos _)
  have hmod : n * 2 ^ (52 - n.log2) % 2 ^ (52 - n.log2) = 0 := Nat.mul_mod_left _ _
  have hlog : (n * 2 ^ (52 - n.log2)).log2 = 52 := by
    refine Nat.le_antisymm ?_ ?_
    · exact Nat.le_of_lt_succ ((Nat.log2_lt (by omega)).2 hk)
    · exact (Nat.le_log2 (by omega)).2 hk2
  generalize n * 2 ^ (52 - n.log2) = kept at *
  rw [hw]
  have e : (FloatKind.f64).decode ((n.log2 + 1022) * 2 ^ 52 + kept) = .number false kept ((n.log2 : Int) - 52) := by
    unfold FloatKind.decode FloatKind.format Ieee.Format.read
    have s : Ieee.double.signWeight = 2 ^ 63 := rfl
    have b : Ieee.double.binade = 2 ^ 52 := rfl
    have i : Ieee.double.infRung = 2047 * 2 ^ 52 := rfl
    have lp : Ieee.double.leastPlace = -1074 := rfl
    simp only [s, b, i, lp]
    have q0 : ((n.log2 + 1022) * 2 ^ 52 + kept) / 2 ^ 63 = 0 := by omega
    have q1 : ((n.log2 + 1022) * 2 ^ 52 + kept) % 2 ^ 63 = (n.log2 + 1022) * 2 ^ 52 + kept := by omega
    have q2 : ((n.log2 + 1022) * 2 ^ 52 + kept) / 2 ^ 52 = n.log2 + 1023 := by omega
    have q3 : ((n.log2 + 1022) * 2 ^ 52 + kept) % 2 ^ 52 = kept - 2 ^ 52 := by omega
    rw [q0, q1, q2, q3, if_neg (by omega), if_pos (by omega), show 2 ^ 52 + (kept - 2 ^ 52) = kept by omega, show (-1074 : Int) + ((n.log2 + 1023 - 1 : Nat) : Int) = (n.log2 : Int) - 52 by omega]
    rfl
  rw [e]
  unfold Ieee.Datum.toInt Ieee.Datum.integral Ieee.Toward.cut
  have e3 : ((n.log2 : Int) - 52).toNat = 0 := by omega
  have e4 : (-((n.log2 : Int) - 52)).toNat = 52 - n.log2 := by omega
  simp only [e3, e4, Nat.shiftLeft_zero, hlog]
  rw [Nat.min_eq_left (by omega), Nat.one_shiftLeft, hdiv]
  simp [Ieee.signed]
theorem f64_int (n : Int) (h0 : 0 ≤ n) (h : n ≤ 2 ^ 40) : ((FloatKind.f64).decode (f64 n)).toInt .zero = some n := by
  obtain ⟨k, rfl⟩ : ∃ k : Nat, n = k := ⟨n.toNat, by omega⟩
  exact f64_back k (by omega)
end Go.Proofs.YtedkjhifbibpmaaGreatDoor.Pk
namespace Go.Proofs.YtedkjhifbibpmaaGreatDoor.Pk
open Go Go.Proofs Go.Proofs.YtedkjhifbibpmaaGreatDoor.Ab
set_option linter.unusedVariables false
set_option linter.unusedSimpArgs false
/-! ### Rising lists of sessions -/
def lt3 (a b : Chg) : Prop := a.key < b.key ∨ a.key = b.key ∧ (a.fr < b.fr ∨ a.fr = b.fr ∧ a.to < b.to)
instance (a b : Chg) : Decidable (lt3 a b) := by unfold lt3; infer_instance
def same3 (a b : Chg) : Bool := decide (a.key = b.key ∧ a.fr = b.fr ∧ a.to = b.to)
theorem same3_iff {a b : Chg} : same3 a b = true ↔ a.key = b.key ∧ a.fr = b.fr ∧ a.to = b.to := by simp [same3]
theorem same3_no {a b : Chg} : same3 a b = false ↔ ¬ (a.key = b.key ∧ a.fr = b.fr ∧ a.to = b.to) := by simp [same3]
theorem lt3_irr {a b : Chg} (h : same3 a b = true) : ¬ lt3 a b := by have := same3_iff.1 h; unfold lt3; omega
theorem lt3_trans {a b c : Chg} (h : lt3 a b) (k : lt3 b c) : lt3 a c := by unfold lt3 at *; omega
theorem lt3_asymm {a b : Chg} (h : lt3 a b) : ¬ lt3 b a := by unfold lt3 at *; omega
theorem lt3_tri {a b : Chg} (h : ¬ lt3 a b) (k : ¬ lt3 b a) : same3 a b = true := by rw [same3_iff]; unfold lt3 at *; omega
abbrev SS (l : List Chg) : Prop := l.Pairwise lt3
def low (l : List Chg) (x : Chg) : List Chg := l.filter fun y => decide (lt3 y x)
def high (l : List Chg) (x : Chg) : List Chg := l.filter fun y => !decide (lt3 y x)
def pos3 (l : List Chg) (x : Chg) : Nat := (low l x).length
def has3 (l : List Chg) (x : Chg) : Bool := l.any fun y => same3 y x
def rm3 (l : List Chg) (x : Chg) : List Chg := l.filter fun y => !same3 y x
def ins3 (l : List Chg) (x : Chg) : List Chg := low l x ++ x :: high l x
theorem SS.split : ∀ {l : List Chg}, SS l → ∀ x, low l x ++ high l x = l
  | [], _, x => rfl
  | a :: l, hs, x => by
    have hs' := List.pairwise_cons.1 hs
    have ih := SS.split hs'.2 x
    unfold low high at ih ⊢
    by_cases h : lt3 a x
    · rw [List.filter_cons_of_pos (by simpa using h), List.filter_cons_of_neg (by simpa using h), List.cons_append, ih]
    · have hn : ∀ b ∈ l, ¬ lt3 b x := fun b hb hb' => h (lt3_trans (hs'.1 b hb) hb')
      rw [List.filter_cons_of_neg (by simpa using h), List.filter_cons_of_pos (by simpa using h), List.filter_eq_nil_iff.2 (by simpa using hn), List.filter_eq_self.2 (by simpa using hn)]
      rfl
theorem SS.take {l : List Chg} (h : SS l) (x : Chg) : l.take (pos3 l x) = low l x := by
  have := congrArg (List.take (low l x).length) (h.split x)
  rw [List.take_left' rfl] at this
  exact this.symm
theorem SS.drop {l : List Chg} (h : SS l) (x : Chg) : l.drop (pos3 l x) = high l x := by
  have := congrArg (List.drop (low l x).length) (h.split x)
  rw [List.drop_left' rfl] at this
  exact this.symm
theorem pos3_le (l : List Chg) (x : Chg) : pos3 l x ≤ l.length := List.length_filter_le ..
theorem SS.lt_pos {l : List Chg} (h : SS l) {x : Chg} {t : Nat} {p : Chg} (ht : t < pos3 l x) (hp : l[t]? = some p) : lt3 p x := by
  have : p ∈ l.take (pos3 l x) := List.mem_of_getElem? (i := t) (by rw [List.getElem?_take, if_pos ht]; exact hp)
  rw [h.take] at this
  simpa using (List.mem_filter.1 this).2
theorem SS.ge_pos {l : List Chg} (h : SS l) {x : Chg} {t : Nat} {p : Chg} (ht : pos3 l x ≤ t) (hp : l[t]? = some p) : ¬ lt3 p x := by
  have : p ∈ l.drop (pos3 l x) := List.mem_of_getElem? (i := t - pos3 l x) (by rw [List.getElem?_drop, show pos3 l x + (t - pos3 l x) = t by omega]; exact hp)
  rw [h.drop] at this
  simpa using (List.mem_filter.1 this).2
theorem SS.filter {l : List Chg} (h : SS l) (p : Chg → Bool) : SS (l.filter p) := List.Pairwise.filter p h
theorem SS.uniq {l : List Chg} (h : SS l) {a b : Chg} (ha : a ∈ l) (hb : b ∈ l) (hs : same3 a b = true) : a = b := by
  induction l with
  | nil => cases ha
  | cons c l ih =>
    have h' := List.pairwise_cons.1 h
    rcases List.mem_cons.1 ha with e | ha
    · rcases List.mem_cons.1 hb with e2 | hb
      · rw [e, e2]
      · have h1 := h'.1 b hb
        rw [← e] at h1
        exact absurd h1 (lt3_irr hs)
    · rcases List.mem_cons.1 hb with e | hb
      · have h1 := h'.1 a ha
        rw [← e] at h1
        exact absurd h1 (lt3_irr (by rw [same3_iff] at *; omega))
      · exact ih h'.2 ha hb
/-- At its place the first one that isn't below. -/
theorem SS.at_pos {l : List Chg} (h : SS l) (x : Chg) : (has3 l x = true ∧ ∃ p, l[pos3 l x]? = some p ∧ same3 p x = true ∧ p ∈ l) ∨ (has3 l x = false ∧ ∀ p, l[pos3 l x]? = some p → ¬ lt3 p x ∧ same3 p x = false) := by
  cases hh : has3 l x
  · refine .inr ⟨rfl, fun p hp => ⟨h.ge_pos (Nat.le_refl _) hp, ?_⟩⟩
    have := List.any_eq_false.1 hh p (List.mem_of_getElem? hp)
    simpa using this
  · refine .inl ⟨rfl, ?_⟩
    obtain ⟨q, hq, hs⟩ := List.any_eq_true.1 hh
    have hqh : q ∈ high l x := List.mem_filter.2 ⟨hq, by simpa using lt3_irr hs⟩
    rw [← h.drop] at hqh
    cases hd : l.drop (pos3 l x) with
    | nil => rw [hd] at hqh; cases hqh
    | cons p r =>
      have hp : l[pos3 l x]? = some p := by
        have := congrArg (fun z => z[0]?) hd
        simpa [List.getElem?_drop] using this
      refine ⟨p, hp, ?_, List.mem_of_getElem? hp⟩
      have hsub : SS (l.drop (pos3 l x)) := List.Pairwise.sublist (List.drop_sublist ..) h
      rw [hd] at hqh hsub
      rcases List.mem_cons.1 hqh with rfl | hqr
      · exact hs
      · have h1 := (List.pairwise_cons.1 hsub).1 q hqr
        have h2 := h.ge_pos (Nat.le_refl _) hp
        exact absurd (show lt3 p x by have := same3_iff.1 hs; unfold lt3 at *; omega) h2
theorem has3_mem {l : List Chg} {x : Chg} (h : x ∈ l) : has3 l x = true := List.any_eq_true.2 ⟨x, h, same3_iff.2 ⟨rfl, rfl, rfl⟩⟩
theorem SS.rm {l : List Chg} (h : SS l) {x : Chg} (hx : has3 l x = true) : rm3 l x = l.take (pos3 l x) ++ l.drop (pos3 l x + 1) := by
  rcases h.at_pos x with ⟨_, p, hp, hs, hm⟩ | ⟨h', _⟩
  rotate_left
  · rw [hx] at h'; cases h'
  have hlt := (List.getElem?_eq_some_iff.1 hp).1
  have e : l = l.take (pos3 l x) ++ p :: l.drop (pos3 l x + 1) := by
    have := List.take_append_drop (pos3 l x) l
    rw [List.drop_eq_getElem_cons hlt, (List.getElem?_eq_some_iff.1 hp).2] at this
    exact this.symm
  have hne : ∀ y, y ∈ l → same3 y x = true → y = p := fun y hy hyx => h.uniq hy hm (by rw [same3_iff] at *; omega)
  unfold rm3
  conv => lhs; rw [e]
  have hnd := h
  rw [e] at hnd
  have hn := List.pairwise_append.1 hnd
  rw [List.filter_append, List.filter_cons_of_neg (by simp [hs]), List.filter_eq_self.2, List.filter_eq_self.2]
  · intro y hy
    cases hyx : same3 y x
    · rfl
    · have := (List.pairwise_cons.1 hn.2.1).1 y hy
      exact absurd this (lt3_irr (by rw [same3_iff] at *; omega))
  · intro y hy
    cases hyx : same3 y x
    · rfl
    · have := hn.2.2 y hy p (by simp)
      exact absurd this (lt3_irr (by rw [same3_iff] at *; omega))
theorem SS.ins {l : List Chg} (h : SS l) (x : Chg) : ins3 l x = l.take (pos3 l x) ++ [x] ++ l.drop (pos3 l x) := by rw [h.take, h.drop]; simp [ins3]
theorem mem_ins3 {l : List Chg} {x y : Chg} : y ∈ ins3 l x ↔ y = x ∨ y ∈ l := by
  unfold ins3 low high
  rw [List.mem_append, List.mem_cons, List.mem_filter, List.mem_filter]
  by_cases h : lt3 y x <;> simp [h, or_comm]
theorem SS.len_ins {l : List Chg} (h : SS l) (x : Chg) : (ins3 l x).length = l.length + 1 := by
  have := congrArg List.length (h.split x)
  unfold ins3
  simp at this ⊢
  omega
theorem SS.insS {l : List Chg} (h : SS l) {x : Chg} (hx : has3 l x = false) : SS (ins3 l x) := by
  refine List.pairwise_append.2 ⟨h.filter _, List.pairwise_cons.2 ⟨fun y hy => ?_, h.filter _⟩, fun a ha b hb => ?_⟩
  · have hy' := List.mem_filter.1 hy
    have h1 := List.any_eq_false.1 hx y hy'.1
    have h2 : ¬ lt3 y x := by simpa using hy'.2
    by_cases h3 : lt3 x y
    · exact h3
    · exact absurd (lt3_tri h2 h3) h1
  · have ha' : lt3 a x := by simpa using (List.mem_filter.1 ha).2
    rcases List.mem_cons.1 hb with rfl | hb
    · exact ha'
    · have hb' := List.mem_filter.1 hb
      have h1 := List.any_eq_false.1 hx b hb'.1
      have h2 : ¬ lt3 b x := by simpa using hb'.2
      by_cases h3 : lt3 x b
      · exact lt3_trans ha' h3
      · exact absurd (lt3_tri h2 h3) h1
theorem has3_rm (l : List Chg) (x : Chg) : has3 (rm3 l x) x = false := by
  refine List.any_eq_false.2 fun y hy => ?_
  have := (List.mem_filter.1 hy).2
  simpa using this
theorem len_rm3 {l : List Chg} (h : SS l) {x : Chg} (hx : has3 l x = true) : (rm3 l x).length + 1 = l.length := by
  rcases h.at_pos x with ⟨_, p, hp, hs, hm⟩ | ⟨h', _⟩
  · rw [h.rm hx]
    have hlt := (List.getElem?_eq_some_iff.1 hp).1
    simp
    omega
  · rw [hx] at h'; cases h'
/-- One after the other taken away. -/
def rmAll (l cs : List Chg) : List Chg := l.filter fun y => cs.all fun x => !same3 y x
theorem rmAll_nil (l : List Chg) : rmAll l [] = l := List.filter_eq_self.2 fun _ _ => rfl
theorem rmAll_snoc (l cs : List Chg) (x : Chg) : rmAll l (cs ++ [x]) = rm3 (rmAll l cs) x := by
  unfold rmAll rm3
  rw [List.filter_filter]
  refine List.filter_congr fun y _ => ?_
  rw [List.all_append]
  simp [Bool.and_comm]
theorem rmAll_filter {l : List Chg} (h : SS l) (p : Chg → Bool) : rmAll l (l.filter p) = l.filter fun y => !p y := by
  refine List.filter_congr fun y hy => ?_
  cases hp : p y
  · refine List.all_eq_true.2 fun x hx => ?_
    have hx' := List.mem_filter.1 hx
    cases e : same3 y x
    · rfl
    · have := h.uniq hy hx'.1 e; subst this; rw [hp] at hx'; cases hx'.2
  · refine List.all_eq_false.2 ⟨y, List.mem_filter.2 ⟨hy, hp⟩, ?_⟩
    simp [same3_iff.2 (show y.key = y.key ∧ y.fr = y.fr ∧ y.to = y.to from ⟨rfl, rfl, rfl⟩)]
theorem mem_rmAll {l cs : List Chg} (h : SS l) {x : Chg} (hx : x ∈ l) (hn : x ∉ cs) (hs : ∀ y ∈ cs, y ∈ l) : x ∈ rmAll l cs := by
  refine List.mem_filter.2 ⟨hx, List.all_eq_true.2 fun y hy => ?_⟩
  cases e : same3 x y
  · rfl
  · exact absurd (h.uniq hx (hs y hy) e ▸ hy) hn
theorem SS.rmAll {l : List Chg} (h : SS l) (cs : List Chg) : SS (rmAll l cs) := h.filter _
end Go.Proofs.YtedkjhifbibpmaaGreatDoor.Pk
namespace Go.Proofs.YtedkjhifbibpmaaGreatDoor.Pk
open Go Go.Proofs Go.Proofs.YtedkjhifbibpmaaGreatDoor.Ab
set_option linter.unusedVariables false
set_option linter.unusedSimpArgs false
/-! ### What a time makes of sessions -/
structure okS (c : Chg) : Prop where
  lo : 0 ≤ c.fr
  le : c.fr ≤ c.to
  hi : c.to ≤ 2 ^ 40
  del : c.del = false
def touch (g k t : Int) (x : Chg) : Bool := decide (x.key = k ∧ x.fr - g ≤ t ∧ t ≤ x.to + g)
theorem touch_iff {g k t : Int} {x : Chg} : touch g k t x = true ↔ x.key = k ∧ x.fr - g ≤ t ∧ t ≤ x.to + g := by simp [touch]
theorem touch_same {g k t : Int} {x y : Chg} (h : same3 x y = true) : touch g k t x = touch g k t y := by
  obtain ⟨h1, h2, h3⟩ := same3_iff.1 h
  unfold touch; rw [h1, h2, h3]
def found (g : Int) (l : List Chg) (k t : Int) : List Chg := l.filter (touch g k t)
def restS (g : Int) (l : List Chg) (k t : Int) : List Chg := l.filter fun x => !touch g k t x
def loF (t : Int) (cs : List Chg) : Int := cs.foldl (fun a c => min a c.fr) t
def hiF (t : Int) (cs : List Chg) : Int := cs.foldl (fun a c => max a c.to) t
theorem loF_snoc (t : Int) (cs : List Chg) (c : Chg) : loF t (cs ++ [c]) = min (loF t cs) c.fr := by simp [loF]
theorem hiF_snoc (t : Int) (cs : List Chg) (c : Chg) : hiF t (cs ++ [c]) = max (hiF t cs) c.to := by simp [hiF]
theorem loF_le : ∀ (cs : List Chg) (t : Int), loF t cs ≤ t ∧ ∀ x ∈ cs, loF t cs ≤ x.fr
  | [], t => ⟨Int.le_refl _, by simp⟩
  | c :: cs, t => by
    obtain ⟨h1, h2⟩ := loF_le cs (min t c.fr)
    refine ⟨Int.le_trans h1 (by omega), fun x hx => ?_⟩
    rcases List.mem_cons.1 hx with rfl | hx
    · exact Int.le_trans h1 (by omega)
    · exact h2 x hx
theorem loF_is : ∀ (cs : List Chg) (t : Int), loF t cs = t ∨ ∃ x ∈ cs, loF t cs = x.fr
  | [], t => .inl rfl
  | c :: cs, t => by
    rcases loF_is cs (min t c.fr) with h | ⟨x, hx, h⟩
    · by_cases hm : t ≤ c.fr
      · left; rw [Int.min_eq_left hm] at h; show loF (min t c.fr) cs = t; rw [Int.min_eq_left hm]; exact h
      · right; refine ⟨c, by simp, ?_⟩; show loF (min t c.fr) cs = c.fr; rw [h]; omega
    · exact .inr ⟨x, by simp [hx], h⟩
theorem hiF_ge : ∀ (cs : List Chg) (t : Int), t ≤ hiF t cs ∧ ∀ x ∈ cs, x.to ≤ hiF t cs
  | [], t => ⟨Int.le_refl _, by simp⟩
  | c :: cs, t => by
    obtain ⟨h1, h2⟩ := hiF_ge cs (max t c.to)
    refine ⟨Int.le_trans (by omega) h1, fun x hx => ?_⟩
    rcases List.mem_cons.1 hx with rfl | hx
    · exact Int.le_trans (by omega) h1
    · exact h2 x hx
theorem hiF_is : ∀ (cs : List Chg) (t : Int), hiF t cs = t ∨ ∃ x ∈ cs, hiF t cs = x.to
  | [], t => .inl rfl
  | c :: cs, t => by
    rcases hiF_is cs (max t c.to) with h | ⟨x, hx, h⟩
    · by_cases hm : c.to ≤ t
      · left; show hiF (max t c.to) cs = t; rw [h]; omega
      · right; refine ⟨c, by simp, ?_⟩; show hiF (max t c.to) cs = c.to; rw [h]; omega
    · exact .inr ⟨x, by simp [hx], h⟩
def mkS (g : Int) (l : List Chg) (k t v : Int) : Chg := ⟨k, loF t (found g l k t), hiF t (found g l k t), v, false⟩
def putS (g : Int) (l : List Chg) (k t v : Int) : List Chg := ins3 (restS g l k t) (mkS g l k t v)
def goneS (x : Chg) : Chg := ⟨x.key, x.fr, x.to, 0, true⟩
def otherS (c x : Chg) : Bool := decide (x.fr ≠ c.fr) || decide (x.to ≠ c.to)
def putC (g : Int) (l : List Chg) (k t v : Int) : List Chg := ((found g l k t).filter (otherS (mkS g l k t v))).map goneS ++ [mkS g l k t v]
theorem mkS_touch {g : Int} (hg : 0 ≤ g) (l : List Chg) (k t v : Int) : touch g k t (mkS g l k t v) = true := by
  rw [touch_iff]
  have h1 := (loF_le (found g l k t) t).1
  have h2 := (hiF_ge (found g l k t) t).1
  exact ⟨rfl, by show loF _ _ - g ≤ t; omega, by show t ≤ hiF _ _ + g; omega⟩
theorem rest_has {g : Int} (hg : 0 ≤ g) (l : List Chg) (k t v : Int) : has3 (restS g l k t) (mkS g l k t v) = false := by
  refine List.any_eq_false.2 fun y hy hs => ?_
  have h1 := (List.mem_filter.1 hy).2
  rw [touch_same hs, mkS_touch hg] at h1
  cases h1
theorem putS_ss {g : Int} (hg : 0 ≤ g) {l : List Chg} (h : SS l) (k t v : Int) : SS (putS g l k t v) := (h.filter _).insS (rest_has hg l k t v)
theorem mkS_ok {g : Int} {l : List Chg} (h : ∀ x ∈ l, okS x) {k t : Int} (v : Int) (h0 : 0 ≤ t) (h1 : t ≤ 2 ^ 40) : okS (mkS g l k t v) := by
  have hf : ∀ x ∈ found g l k t, okS x := fun x hx => h x (List.mem_filter.1 hx).1
  refine ⟨?_, ?_, ?_, rfl⟩
  · rcases loF_is (found g l k t) t with e | ⟨x, hx, e⟩
    · show 0 ≤ loF _ _; omega
    · have := (hf x hx).lo; show 0 ≤ loF _ _; omega
  · exact Int.le_trans (loF_le _ _).1 (hiF_ge _ _).1
  · rcases hiF_is (found g l k t) t with e | ⟨x, hx, e⟩
    · show hiF _ _ ≤ _; omega
    · have := (hf x hx).hi; show hiF _ _ ≤ _; omega
theorem putS_mem {g : Int} {l : List Chg} {k t v : Int} {x : Chg} : x ∈ putS g l k t v ↔ x = mkS g l k t v ∨ x ∈ l ∧ touch g k t x = false := by
  unfold putS
  rw [mem_ins3]
  unfold restS
  rw [List.mem_filter]
  simp
theorem putS_ok {g : Int} {l : List Chg} (h : ∀ x ∈ l, okS x) {k t : Int} (v : Int) (h0 : 0 ≤ t) (h1 : t ≤ 2 ^ 40) : ∀ x ∈ putS g l k t v, okS x := fun x hx => by
  rcases putS_mem.1 hx with rfl | hx
  · exact mkS_ok h v h0 h1
  · exact h x hx.1
theorem found_rest (g : Int) (l : List Chg) (k t : Int) : (found g l k t).length + (restS g l k t).length = l.length := by
  unfold found restS
  induction l with
  | nil => rfl
  | cons a l ih => cases h : touch g k t a <;> simp [List.filter_cons, h] <;> omega
/-- The changes, done in another store, make the same. -/
theorem put_again {g : Int} (hg : 0 ≤ g) {l : List Chg} (h : SS l) (k t v : Int) : rm3 (rmAll l ((found g l k t).filter (otherS (mkS g l k t v)))) (mkS g l k t v) = restS g l k t := by
  unfold rm3 rmAll restS
  rw [List.filter_filter]
  refine List.filter_congr fun y hy => ?_
  cases ht : touch g k t y
  · have h1 : same3 y (mkS g l k t v) = false := by
      cases e : same3 y (mkS g l k t v)
      · rfl
      · rw [touch_same e, mkS_touch hg] at ht; cases ht
    rw [h1]
    simp only [Bool.not_false, Bool.true_and]
    refine List.all_eq_true.2 fun x hx => ?_
    have hx' := List.mem_filter.1 (List.mem_filter.1 hx).1
    cases e : same3 y x
    · rfl
    · rw [touch_same e, hx'.2] at ht; cases ht
  · cases e : same3 y (mkS g l k t v)
    · simp only [Bool.not_false, Bool.not_true, Bool.true_and]
      refine List.all_eq_false.2 ⟨y, List.mem_filter.2 ⟨List.mem_filter.2 ⟨hy, ht⟩, ?_⟩, by simp [same3]⟩
      have hk := (touch_iff.1 ht).1
      have h2 := same3_no.1 e
      unfold otherS
      by_cases h3 : y.fr = (mkS g l k t v).fr
      · have : y.to ≠ (mkS g l k t v).to := fun h4 => h2 ⟨hk, h3, h4⟩
        simp [this]
      · simp [h3]
    · simp
/-! ### What sessions are, whatever the order -/
structure Good (g : Int) (l : List Chg) (P : List (Int × Int)) : Prop where
  ss : SS l
  ok : ∀ x ∈ l, okS x
  sep : ∀ x ∈ l, ∀ y ∈ l, x.key = y.key → same3 x y = false → x.to + g < y.fr ∨ y.to + g < x.fr
  fr : ∀ x ∈ l, (x.key, x.fr) ∈ P
  to : ∀ x ∈ l, (x.key, x.to) ∈ P
  cov : ∀ k t, (k, t) ∈ P → ∃ x ∈ l, x.key = k ∧ x.fr ≤ t ∧ t ≤ x.to
  con : ∀ x ∈ l, ∀ t, x.fr < t → t ≤ x.to → ∃ p, (x.key, p) ∈ P ∧ t - g ≤ p ∧ p < t
theorem Good.nil (g : Int) : Good g [] [] := ⟨List.Pairwise.nil, by simp, by simp, by simp, by simp, by simp, by simp⟩
theorem Good.put {g : Int} (hg : 1 ≤ g) {l : List Chg} {P : List (Int × Int)} (w : Good g l P) {k t : Int} (v : Int) (h0 : 0 ≤ t) (h1 : t ≤ 2 ^ 40) : Good g (putS g l k t v) ((k, t) :: P) := by
  obtain ⟨a1, a2⟩ := loF_le (found g l k t) t
  obtain ⟨b1, b2⟩ := hiF_ge (found g l k t) t
  have a3 := loF_is (found g l k t) t
  have b3 := hiF_is (found g l k t) t
  have hF : ∀ x, x ∈ found g l k t ↔ x ∈ l ∧ x.key = k ∧ x.fr - g ≤ t ∧ t ≤ x.to + g := fun x => by unfold found; rw [List.mem_filter, touch_iff]
  have hT : ∀ x, touch g k t x = false ↔ ¬ (x.key = k ∧ x.fr - g ≤ t ∧ t ≤ x.to + g) := fun x => by rw [← touch_iff]; cases touch g k t x <;> simp
  have hsep : ∀ x ∈ l, x.key = k → touch g k t x = false → x.to + g < loF t (found g l k t) ∨ hiF t (found g l k t) + g < x.fr := fun x hx hxk hxt => by
    have hn : t < x.fr - g ∨ x.to + g < t := by have := (hT x).1 hxt; omega
    have hxo := w.ok x hx
    have hle := hxo.le
    rcases hn with hn | hn
    · right
      rcases b3 with e | ⟨y, hy, e⟩
      · omega
      · have hy' := (hF y).1 hy
        have hne : same3 y x = false := by
          cases e2 : same3 y x
          · rfl
          · have := same3_iff.1 e2; omega
        have := w.sep y hy'.1 x hx (by omega) hne
        have := (w.ok y hy'.1).le
        omega
    · left
      rcases a3 with e | ⟨y, hy, e⟩
      · omega
      · have hy' := (hF y).1 hy
        have hne : same3 y x = false := by
          cases e2 : same3 y x
          · rfl
          · have := same3_iff.1 e2; omega
        have := w.sep y hy'.1 x hx (by omega) hne
        have := (w.ok y hy'.1).le
        omega
  refine ⟨putS_ss (by omega) w.ss k t v, putS_ok w.ok v h0 h1, fun x hx y hy hk hne => ?_, fun x hx => ?_, fun x hx => ?_, fun k' t' hp => ?_, fun x hx t' h1 h2 => ?_⟩
  · rcases putS_mem.1 hx with rfl | hx <;> rcases putS_mem.1 hy with rfl | hy
    · rw [same3_no] at hne; exact absurd ⟨rfl, rfl, rfl⟩ hne
    · have := hsep y hy.1 hk.symm hy.2
      show hiF _ _ + g < y.fr ∨ y.to + g < loF _ _
      omega
    · have := hsep x hx.1 hk hx.2
      show x.to + g < loF _ _ ∨ hiF _ _ + g < x.fr
      omega
    · exact w.sep x hx.1 y hy.1 hk hne
  · rcases putS_mem.1 hx with rfl | hx
    · rcases a3 with e | ⟨y, hy, e⟩
      · exact List.mem_cons.2 (.inl (by show (k, loF _ _) = _; rw [e]))
      · have hy' := (hF y).1 hy
        refine List.mem_cons.2 (.inr ?_)
        show (k, loF _ _) ∈ P
        rw [e, ← hy'.2.1]; exact w.fr y hy'.1
    · exact List.mem_cons.2 (.inr (w.fr x hx.1))
  · rcases putS_mem.1 hx with rfl | hx
    · rcases b3 with e | ⟨y, hy, e⟩
      · exact List.mem_cons.2 (.inl (by show (k, hiF _ _) = _; rw [e]))
      · have hy' := (hF y).1 hy
        refine List.mem_cons.2 (.inr ?_)
        show (k, hiF _ _) ∈ P
        rw [e, ← hy'.2.1]; exact w.to y hy'.1
    · exact List.mem_cons.2 (.inr (w.to x hx.1))
  · rcases List.mem_cons.1 hp with e | hp
    · cases e
      exact ⟨mkS g l k t v, putS_mem.2 (.inl rfl), rfl, a1, b1⟩
    · obtain ⟨x, hx, e1, e2, e3⟩ := w.cov k' t' hp
      cases ht : touch g k t x
      · exact ⟨x, putS_mem.2 (.inr ⟨hx, ht⟩), e1, e2, e3⟩
      · have hxf : x ∈ found g l k t := List.mem_filter.2 ⟨hx, ht⟩
        have := a2 x hxf
        have := b2 x hxf
        exact ⟨mkS g l k t v, putS_mem.2 (.inl rfl), by rw [← e1]; exact (touch_iff.1 ht).1.symm, by show loF _ _ ≤ t'; omega, by show t' ≤ hiF _ _; omega⟩
  · rcases putS_mem.1 hx with rfl | hx
    · replace h1 : loF t (found g l k t) < t' := h1
      replace h2 : t' ≤ hiF t (found g l k t) := h2
      have key : ∀ p, (k, p) ∈ P ∨ p = t → t' - g ≤ p → p < t' → ∃ p, ((mkS g l k t v).key, p) ∈ (k, t) :: P ∧ t' - g ≤ p ∧ p < t' := fun p hp e1 e2 => by
        refine ⟨p, List.mem_cons.2 ?_, e1, e2⟩
        rcases hp with hp | rfl
        · exact .inr hp
        · exact .inl rfl
      by_cases hle : t' ≤ t
      · rcases a3 with e | ⟨z, hz, e⟩
        · omega
        · have hz' := (hF z).1 hz
          by_cases hzt : t' ≤ z.to
          · obtain ⟨p, hp, e1, e2⟩ := w.con z hz'.1 t' (by omega) hzt
            rw [hz'.2.1] at hp
            exact key p (.inl hp) e1 e2
          · have := w.to z hz'.1
            rw [hz'.2.1] at this
            exact key z.to (.inl this) (by omega) (by omega)
      · rcases b3 with e | ⟨z, hz, e⟩
        · omega
        · have hz' := (hF z).1 hz
          by_cases hzf : z.fr < t'
          · obtain ⟨p, hp, e1, e2⟩ := w.con z hz'.1 t' hzf (by omega)
            rw [hz'.2.1] at hp
            exact key p (.inl hp) e1 e2
          · exact key t (.inr rfl) (by omega) (by omega)
    · obtain ⟨p, hp, e1, e2⟩ := w.con x hx.1 t' h1 h2
      exact ⟨p, List.mem_cons.2 (.inr hp), e1, e2⟩
theorem SS.eq_of_mem : ∀ {a b : List Chg}, SS a → SS b → (∀ x, x ∈ a ↔ x ∈ b) → a = b
  | [], [], _, _, _ => rfl
  | [], q :: r, _, _, h => by have := (h q).2 (by simp); cases this
  | q :: r, [], _, _, h => by have := (h q).1 (by simp); cases this
  | p :: r, q :: s, ha, hb, h => by
    have ha' := List.pairwise_cons.1 ha
    have hb' := List.pairwise_cons.1 hb
    have irr : ∀ x : Chg, ¬ lt3 x x := fun x => lt3_irr (same3_iff.2 ⟨rfl, rfl, rfl⟩)
    have hpq : p = q := by
      rcases List.mem_cons.1 ((h p).1 (by simp)) with h1 | h1
      · exact h1
      · rcases List.mem_cons.1 ((h q).2 (by simp)) with h2 | h2
        · exact h2.symm
        · exact absurd (hb'.1 p h1) (lt3_asymm (ha'.1 q h2))
    subst hpq
    congr 1
    refine SS.eq_of_mem ha'.2 hb'.2 fun x => ⟨fun hx => ?_, fun hx => ?_⟩
    · rcases List.mem_cons.1 ((h x).1 (by simp [hx])) with e | e
      · subst e; exact absurd (ha'.1 x hx) (irr x)
      · exact e
    · rcases List.mem_cons.1 ((h x).2 (by simp [hx])) with e | e
      · subst e; exact absurd (hb'.1 x hx) (irr x)
      · exact e
end Go.Proofs.YtedkjhifbibpmaaGreatDoor.Pk
namespace Go.Proofs.YtedkjhifbibpmaaGreatDoor.Pk
open Go Go.Proofs Go.Proofs.YtedkjhifbibpmaaGreatDoor.Ab
set_option linter.unusedVariables false
set_option linter.unusedSimpArgs false
/-! ### Sessions as the store has them -/
def sesE (c : Chg) : List V := [.int .i64 c.key, .complex .f64 (f64 c.fr) (f64 c.to), .int .i64 c.val]
theorem sesE_len (c : Chg) : (sesE c).length = 3 := rfl
theorem sesE_one (c : Chg) : (sesE c).all (·.one) = true := rfl
theorem sesE_clo (c : Chg) : CloL (sesE c) := CloL.cons (Clo.int _ _) (CloL.cons (Clo.complex _ _ _) (CloL.cons (Clo.int _ _) CloL.nil))
theorem ses_cells (c : Chg) : (V.agg (sesE c)).cells = some [.int .i64 c.key, .complex .f64 (f64 c.fr) (f64 c.to), .int .i64 c.val] := rfl
theorem chg_cells' (c : Chg) : (V.agg (chgE c)).cells = some [.int .i64 c.key, .int .i64 c.fr, .int .i64 c.to, .int .i64 c.val, .bool c.del] := rfl
theorem back64 (n : Int) (h0 : 0 ≤ n) (h1 : n ≤ 2 ^ 40) (h : AHeap) : aConv Tryz.prog 328 2 (.float .f64 (f64 n)) h = some (.int .i64 n) :=
  aConv_f2i fl_328 it_2 (f64_int n h0 h1) (by show -9223372036854775808 ≤ n; omega) (by show n ≤ 9223372036854775807; omega)
set_option maxRecDepth 10000 in
theorem pFirstS (c : Chg) (hc : okS c) (h : AHeap) : Pure Tryz.prog 170 [.agg (sesE c)] h (.int .i64 c.fr) := by
  refine Pure.val (Clo.int _ _) ?_
  refine SCalls.enterI (c := _) Tryz.func170 rfl (by kernel_rfl) (by simp) ?_
  have cc := ses_cells c
  have bk := back64 c.fr hc.lo (by have := hc.le; have := hc.hi; omega)
  simp only [wpA_region, wpA_seq, wpA_ret, seqQ_normal, endI_mk, goI_out, goI_ops, opsA_nil, opsA_cons, stepA_assign, stepA_box, stepA_load, stepA_convert, stepA_fieldAddr, thenV_some, thenC_some, thenH_some, eval_tmp, eval_const, put_some, enterF_zero, enterF_succ, absV_int, aField_eq, fieldGo_ptr, aLoad_eq, loadGo_one, aPlace_ptr, dropC_cells, aBox_eq, get_push_new, Nat.reduceEqDiff, Nat.reduceAdd, Nat.reduceLeDiff, Option.map_some, Nat.zero_add, List.length_cons, List.length_nil, List.drop_zero, List.drop_succ_cons, if_true, if_false, stepA_real, b1V_real, ft_292_1, lt_290, cc, bk, retA_ret, Tryz.results170, resultsA_1]
  exact hid_mk ⟨rfl, (Keep.push _ _ _)⟩
set_option maxRecDepth 10000 in
theorem pLastS (c : Chg) (hc : okS c) (h : AHeap) : Pure Tryz.prog 165 [.agg (sesE c)] h (.int .i64 c.to) := by
  refine Pure.val (Clo.int _ _) ?_
  refine SCalls.enterI (c := _) Tryz.func165 rfl (by kernel_rfl) (by simp) ?_
  have cc := ses_cells c
  have bk := back64 c.to (by have := hc.lo; have := hc.le; omega) hc.hi
  simp only [wpA_region, wpA_seq, wpA_ret, seqQ_normal, endI_mk, goI_out, goI_ops, opsA_nil, opsA_cons, stepA_assign, stepA_box, stepA_load, stepA_convert, stepA_fieldAddr, thenV_some, thenC_some, thenH_some, eval_tmp, eval_const, put_some, enterF_zero, enterF_succ, absV_int, aField_eq, fieldGo_ptr, aLoad_eq, loadGo_one, aPlace_ptr, dropC_cells, aBox_eq, get_push_new, Nat.reduceEqDiff, Nat.reduceAdd, Nat.reduceLeDiff, Option.map_some, Nat.zero_add, List.length_cons, List.length_nil, List.drop_zero, List.drop_succ_cons, if_true, if_false, stepA_imag, b1V_imag, ft_292_1, lt_290, cc, bk, retA_ret, Tryz.results165, resultsA_1]
  exact hid_mk ⟨rfl, (Keep.push _ _ _)⟩
set_option maxRecDepth 10000 in
theorem pSet (c : Chg) (hc : okS c) (h : AHeap) : Pure Tryz.prog 171 [.agg (sesE c)] h (.agg (chgE c)) := by
  refine Pure.val (Clo.agg (chgE_clo _)) ?_
  refine SCalls.enterI (c := _) Tryz.func171 rfl (by kernel_rfl) (by simp) ?_
  have cc := ses_cells c
  simp only [wpA_region, wpA_seq, wpA_draw, seqQ_normal, goI_out, goI_ops, opsA_nil, opsA_cons, stepA_alloc, stepA_box, thenH_some, eval_tmp, enterF_zero, aAlloc_eq, aBox_eq, push_n, Option.map_some, zc_40, cc]
  refine SWp.drawnS none_ [9] (.q 0 (.q 1 (.q 2 (.c 3 (.q 4 (.c 5 (.q 6 (.q 7 (.q 8 (.a 9 .done)))))))))) (by kernel_rfl) (by kernel_rfl) (by kernel_rfl) ?_
  simp only [siI_q, sqI_some, mOk_none', implies_true, qI_nil, qI_cons, thenQ_some, q_load, q_fieldAddr, goI_mk, eval_tmp, put_some, enterF_succ, aField_eq, fieldGo_ptr, aLoad_eq, loadGo_one, loadGo_row, aPlace_ptr, dropC_cells, get_push2', List.getElem?_cons_zero, List.getElem?_cons_succ, Nat.reduceEqDiff, Nat.reduceAdd, Nat.add_zero, Nat.zero_add, Nat.zero_le, List.length_cons, List.length_nil, List.drop_zero, List.take_succ_cons, List.take_nil, true_and, if_true, if_false, Nat.le_refl, ft_292_0, lt_2, lt_292]
  refine siI_c rfl rfl rfl (fun h' _ => pFirstS c hc h') ?_
  simp only [siI_q, sqI_some, mOk_none', implies_true, qI_nil, qI_cons, thenQ_some, q_load, goI_mk, eval_tmp, put_some, enterF_succ, aLoad_eq, loadGo_row, aPlace_ptr, dropC_cells, get_push2', List.getElem?_cons_zero, List.getElem?_cons_succ, Nat.reduceEqDiff, Nat.reduceAdd, Nat.zero_add, Nat.zero_le, List.length_cons, List.length_nil, List.drop_zero, List.take_succ_cons, List.take_nil, true_and, if_true, if_false, Nat.le_refl, lt_292]
  refine siI_c rfl rfl rfl (fun h' _ => pLastS c hc h') ?_
  simp only [siI_done, siI_q, siI_a, sqI_some, saI_some, mOk_none', implies_true, qI_nil, qI_cons, thenQ_some, q_load, q_build, q_fieldAddr, wpA_ret, seqQ_normal, endI_mk, goI_out, goI_ops, goI_mk, opsA_nil, opsA_cons, stepA_store, thenS_some, eval_tmp, put_some, put_none, enterF_succ, cells_int, cells_agg, one_int, one_bool, all_nil, all_cons, aField_eq, fieldGo_ptr, aLoad_eq, loadGo_one, loadGo_row, aPlace_ptr, dropC_cells, aStore_eq, storeGo_ptr, setC_row, setAll_nil, setAll_cons, aBuild_go, aFill_nil, aFill_cons, fillGo_some, buildGo_struct, get_push2, get_push2', set_push2, List.getElem?_cons_zero, List.getElem?_cons_succ, Nat.reduceEqDiff, Nat.reduceAdd, Nat.reduceLeDiff, List.map_cons, List.map_nil, Option.map_some, Nat.zero_add, Nat.zero_le, List.length_cons, List.length_nil, List.drop_zero, List.drop_succ_cons, List.take_succ_cons, List.take_nil, List.set_cons_zero, List.set_cons_succ, true_and, and_self, if_true, if_false, Bool.and_self, Nat.le_refl, ft_292_2, lt_2, lt_40, pl_40, zc_40, zt_40, retA_ret, Tryz.results171, resultsC_1, resultA_cell]
  have hd := hc.del
  exact hid_mk ⟨by unfold chgE; rw [hd], (Keep.push _ _ _).then_push _⟩
set_option maxRecDepth 10000 in
theorem pGone (c : Chg) (hc : okS c) (h : AHeap) : Pure Tryz.prog 166 [.agg (sesE c)] h (.agg (chgE (goneS c))) := by
  refine Pure.val (Clo.agg (chgE_clo _)) ?_
  refine SCalls.enterI (c := _) Tryz.func166 rfl (by kernel_rfl) (by simp) ?_
  have cc := ses_cells c
  simp only [wpA_region, wpA_seq, wpA_draw, seqQ_normal, goI_out, goI_ops, opsA_nil, opsA_cons, stepA_alloc, stepA_box, thenH_some, eval_tmp, enterF_zero, aAlloc_eq, aBox_eq, push_n, Option.map_some, zc_40, cc]
  refine SWp.drawnS none_ [7] (.q 0 (.q 1 (.q 2 (.c 3 (.q 4 (.c 5 (.q 6 (.a 7 .done)))))))) (by kernel_rfl) (by kernel_rfl) (by kernel_rfl) ?_
  simp only [siI_q, sqI_some, mOk_none', implies_true, qI_nil, qI_cons, thenQ_some, q_load, q_fieldAddr, goI_mk, eval_tmp, put_some, enterF_succ, aField_eq, fieldGo_ptr, aLoad_eq, loadGo_one, loadGo_row, aPlace_ptr, dropC_cells, get_push2', List.getElem?_cons_zero, List.getElem?_cons_succ, Nat.reduceEqDiff, Nat.reduceAdd, Nat.add_zero, Nat.zero_add, Nat.zero_le, List.length_cons, List.length_nil, List.drop_zero, List.take_succ_cons, List.take_nil, true_and, if_true, if_false, Nat.le_refl, ft_292_0, lt_2, lt_292]
  refine siI_c rfl rfl rfl (fun h' _ => pFirstS c hc h') ?_
  simp only [siI_q, sqI_some, mOk_none', implies_true, qI_nil, qI_cons, thenQ_some, q_load, goI_mk, eval_tmp, put_some, enterF_succ, aLoad_eq, loadGo_row, aPlace_ptr, dropC_cells, get_push2', List.getElem?_cons_zero, List.getElem?_cons_succ, Nat.reduceEqDiff, Nat.reduceAdd, Nat.zero_add, Nat.zero_le, List.length_cons, List.length_nil, List.drop_zero, List.take_succ_cons, List.take_nil, true_and, if_true, if_false, Nat.le_refl, lt_292]
  refine siI_c rfl rfl rfl (fun h' _ => pLastS c hc h') ?_
  simp only [siI_done, siI_q, siI_a, sqI_some, saI_some, mOk_none', implies_true, qI_nil, qI_cons, thenQ_some, q_build, wpA_ret, seqQ_normal, endI_mk, goI_out, goI_ops, goI_mk, opsA_nil, opsA_cons, stepA_store, thenS_some, eval_tmp, eval_const, put_some, put_none, enterF_succ, absV_bool, cells_int, cells_bool, cells_agg, one_int, one_bool, all_nil, all_cons, aLoad_eq, loadGo_row, aPlace_ptr, dropC_cells, aStore_eq, storeGo_ptr, setC_row, setAll_nil, setAll_cons, aBuild_go, aFill_nil, aFill_cons, fillGo_some, buildGo_struct, get_push2, set_push2, List.getElem?_cons_zero, List.getElem?_cons_succ, Nat.reduceEqDiff, Nat.reduceAdd, Nat.reduceLeDiff, List.map_cons, List.map_nil, Option.map_some, Nat.zero_add, Nat.zero_le, List.length_cons, List.length_nil, List.drop_zero, List.take_succ_cons, List.take_nil, List.set_cons_zero, List.set_cons_succ, true_and, and_self, if_true, if_false, Bool.and_self, Nat.le_refl, lt_40, pl_40, zc_40, zt_40, retA_ret, Tryz.results166, resultsC_1, resultA_cell]
  exact hid_mk ⟨rfl, (Keep.push _ _ _).then_push _⟩
set_option maxRecDepth 10000 in
theorem pSesOf (c : Chg) (h : AHeap) : Pure Tryz.prog 175 [.agg (chgE c)] h (.agg (sesE c)) := by
  refine Pure.val (Clo.agg (sesE_clo _)) ?_
  refine SCalls.enterI (c := _) Tryz.func175 rfl (by kernel_rfl) (by simp) ?_
  have cc := chg_cells' c
  have i1 : aConv Tryz.prog 2 328 (.int .i64 c.fr) = fun _ => some (.float .f64 (f64 c.fr)) := funext fun h => aConv_i2f it_2 fl_328
  have i2 : aConv Tryz.prog 2 328 (.int .i64 c.to) = fun _ => some (.float .f64 (f64 c.to)) := funext fun h => aConv_i2f it_2 fl_328
  simp only [wpA_region, wpA_seq, wpA_ret, seqQ_normal, endI_mk, goI_out, goI_ops, opsA_nil, opsA_cons, stepA_alloc, stepA_box, stepA_build, stepA_load, stepA_store, stepA_convert, stepA_fieldAddr, thenV_some, thenC_some, thenH_some, thenS_some, eval_tmp, put_some, put_none, enterF_zero, enterF_succ, cells_int, cells_agg, one_int, all_nil, all_cons, aField_eq, fieldGo_ptr, aLoad_eq, loadGo_one, loadGo_row, aPlace_ptr, dropC_cells, aStore_eq, storeGo_ptr, setC_row, setAll_nil, setAll_cons, aAlloc_eq, aBox_eq, aBuild_go, aFill_nil, aFill_cons, fillGo_some, buildGo_struct, push_n, get_push2, get_push2', set_push2, List.getElem?_cons_zero, List.getElem?_cons_succ, Option.some.injEq, Nat.reduceEqDiff, Nat.reduceAdd, Nat.reduceLeDiff, List.map_cons, List.map_nil, Option.map_some, Nat.add_zero, Nat.zero_add, Nat.zero_le, List.length_cons, List.length_nil, List.drop_zero, List.drop_succ_cons, List.take_succ_cons, List.take_nil, List.set_cons_zero, List.set_cons_succ, and_self, if_true, if_false, Bool.and_self, Nat.le_refl, stepA_complex, mmV_complex, aConv_i2f, cells_complex, one_complex, fl_328, ft_40_0, ft_40_1, ft_40_2, ft_40_3, it_2, lt_2, lt_292, pl_292, zc_292, zt_292, cc, retA_ret, Tryz.results175, resultsC_1, resultA_cell]
  exact hid_mk ⟨rfl, (Keep.push _ _ _).then_push _⟩
def mayT (t : Int) : Bool := decide (0 ≤ t) && decide (t ≤ 1099511627776)
theorem mayT_iff {t : Int} : mayT t = true ↔ 0 ≤ t ∧ t ≤ 2 ^ 40 := by simp [mayT]
set_option maxRecDepth 10000 in
theorem pMayT (t : Int) (h : AHeap) : Pure Tryz.prog 169 [.int .i64 t] h (.bool (mayT t)) := by
  refine Pure.val (Clo.bool _) ?_
  refine SCalls.enterI (c := _) Tryz.func169 rfl (by kernel_rfl) (by simp) ?_
  cases d1 : decide (0 ≤ t)
  · simp only [wpA_region, wpA_seq, wpA_ret, seqQ_normal, endI_mk, goI_out, goI_ops, opsA_nil, opsA_cons, opsA_guardS, gvI_ft, slotAt_zero, slotAt_succ, stepA_move, stepA_assign, stepA_pick, stepA_binOp, thenV_some, pickV_false, eval_tmp, eval_const, put_some, enterF_zero, enterF_succ, aBin_geq, absV_int, absV_bool, Nat.reduceEqDiff, reduceCtorEq, if_true, if_false, d1, retA_ret, Tryz.results169, resultsA_1]
    exact hid_mk ⟨by rw [mayT, d1]; rfl, Keep.refl _ _⟩
  · simp only [wpA_region, wpA_seq, wpA_ret, seqQ_normal, endI_mk, goI_out, goI_ops, opsA_nil, opsA_cons, opsA_guardS, gvI_same, slotAt_zero, slotAt_succ, stepA_move, stepA_assign, stepA_pick, stepA_binOp, thenV_some, pickV_true, eval_tmp, eval_const, put_some, enterF_zero, enterF_succ, aBin_leq, aBin_geq, absV_int, absV_bool, Nat.reduceEqDiff, reduceCtorEq, if_true, if_false, d1, retA_ret, Tryz.results169, resultsA_1]
    exact hid_mk ⟨by rw [mayT, d1]; rfl, Keep.refl _ _⟩
end Go.Proofs.YtedkjhifbibpmaaGreatDoor.Pk
namespace Go.Proofs.YtedkjhifbibpmaaGreatDoor.Pk
open Go Go.Proofs Go.Proofs.YtedkjhifbibpmaaGreatDoor.Ab
set_option linter.unusedVariables false
set_option linter.unusedSimpArgs false

/-! ### Lists laid into lists -/
theorem lay_atZ {α : Type} (A M X : List α) {a : Nat} (ha : A.length = a) : lay (A ++ M) a X = A ++ X ++ M.drop X.length := by
  unfold lay
  rw [← ha, List.take_left, show A.length + X.length = A.length + X.length from rfl, List.drop_append]
  simp
theorem lay_twoZ {α : Type} (A M X B : List α) {a x b : Nat} (ha : A.length = a) (hx : X.length = x) (hb : B.length = b) (hm : M.length = x + b) : lay (lay (A ++ M) a X) (a + x) B = A ++ X ++ B := by
  rw [lay_atZ A M X ha, lay_atZ (A ++ X) _ B (by simp [ha, hx])]
  rw [List.drop_of_length_le (l := M.drop X.length) (by simp; omega)]
  simp
theorem lay_shiftZ {α : Type} (c A B X : List α) {a x b : Nat} (ht : c.take (a + b) = A ++ B) (ha : A.length = a) (hb : B.length = b) (hx : X.length = x) (hl : a + x + b ≤ c.length) :
    ∃ R, lay (lay c (a + x) B) a X = A ++ X ++ (B ++ R) ∧ (lay (lay c (a + x) B) a X).length = c.length := by
  have h1 : c.take a = A := by
    have := congrArg (List.take a) ht
    rw [List.take_take, Nat.min_eq_left (by omega), ← ha, List.take_left] at this
    rw [← ha]; exact this
  have l1 : (lay c (a + x) B).length = c.length := length_lay _ _ _ (by omega)
  refine ⟨c.drop (a + x + b), ?_, by rw [length_lay _ _ _ (by omega), l1]⟩
  have e1 : (lay c (a + x) B).take a = A := by
    unfold lay
    rw [List.append_assoc, List.take_append_of_le_length (by rw [List.length_take]; omega), List.take_take, Nat.min_eq_left (by omega), h1]
  have e2 : (lay c (a + x) B).drop (a + x) = B ++ c.drop (a + x + b) := by
    unfold lay
    rw [List.append_assoc, List.drop_append_of_le_length (by rw [List.length_take]; omega), List.drop_of_length_le (by rw [List.length_take]; omega), hb]
    simp
  generalize lay c (a + x) B = d at e1 e2 l1
  unfold lay
  rw [e1, hx, e2]
theorem ovSZ : ovOk Tryz.prog 255 := ⟨_, Tryz.func255, by kernel_rfl, by kernel_rfl, by kernel_rfl, by kernel_rfl, 273, 292, 3, 4, by kernel_rfl, by kernel_rfl, Tryz.underlying273, by kernel_rfl⟩
set_option maxHeartbeats 2000000 in
set_option maxRecDepth 10000 in
theorem insertKZ (i len cap k j : Nat) (c cs xs : List V) (ex : Option Nat) (h : AHeap) (o : OwnK h 292 3 i len cap c ex cs) (hl : len < 2 ^ 40) (hk : k ≤ len) (hj : h.get j = .cells xs 292 none) (hjn : j < h.n) (hij : j ≠ i)
    (hx : xs.length = 3) (hone : xs.all (·.one) = true) (hcone : cs.all (·.one) = true) : SCalls Tryz.prog 212 [.sl i 0 len cap, .int .i64 (k : Nat), .sl j 0 1 1] h
      (fun r h' => Own h' 292 3 r (cs.take (k * 3) ++ xs ++ cs.drop (k * 3)) ∧ Keep h h' (fun q => q = i) ∧ NewOr h (.sl i 0 len cap) r) := by
  refine SCalls.enterI (c := _) Tryz.func212 rfl (by kernel_rfl) (by simp) ?_
  have oo := o
  obtain ⟨hi, hg, hlen, htake, hu, hcc, hlc⟩ := oo
  have c1 : ((1 : Nat) : Int) = 1 := rfl
  have s1 := slK_from (P := Tryz.prog) (t := 273) (i := i) (o := 0) (len := len) (cap := cap) (k := .i64) ss_273 hu hk hlc
  have hoj : Own h 292 3 (.sl j 0 1 1) xs := .inr ⟨j, 1, 1, xs, none, rfl, hjn, hj, by rw [hx], by rw [List.take_of_length_le (by omega)], .inl ⟨by unfold unk; omega, by omega, Nat.le_refl _⟩⟩
  have hsrc := own_src (P := Tryz.prog) (t := 273) kt_273 hoj (n := 1) (by rw [hx]) (by decide) hone
  by_cases hkl : k = len
  · subst hkl
    have d1 : ((k : Int) == (k : Int)) = true := by simp
    obtain ⟨v', h', ea, oa, ka, na⟩ := append_ownM (P := Tryz.prog) (t := 273) (tx := 273) sl_273 (by decide) o.own hsrc (by rw [hx]; rfl) (fun m hm => by
      change m * 3 = _ at hm
      rw [hlen, hx] at hm
      exact ⟨by simp only [lim]; omega, by simp only [lim]; omega⟩)
    simp only [wpA_skip, wpA_region, wpA_seq, wpA_cond, wpA_ret, condI_true, condI_false, seqQ_normal, seqQ_ret, endI_mk, goI_out, goI_ops, opsA_nil, opsA_cons, stepA_move, stepA_assign, stepA_binOp, stepA_slice, stepA_len, stepA_append, thenV_some, thenH_some, eval_tmp, eval_const, put_some, enterF_zero, enterF_succ, aBin_eql, absV_int, absV_snil, aLen_sl, Int.reduceBEq, beq_self_eq_true, Nat.reduceEqDiff, reduceCtorEq, Option.map_some, Option.map_none, Nat.zero_add, if_true, if_false, kt_273, s1, c1, ea, retA_ret, Tryz.results212, resultsA_1]
    refine hid_mk ⟨?_, ka.mono fun q hq => (Option.some.inj hq).symm, na⟩
    rw [List.take_of_length_le (by omega), List.drop_of_length_le (by omega), List.append_nil]
    exact oa
  have hkl : k < len := by omega
  have d1 : ((k : Int) == (len : Int)) = false := by simp; omega
  have w1 := inc64 (i := len) (n := len + 1) (by omega) (by omega)
  have wk := inc64 (i := k) (n := len) (by omega) (by omega)
  have hc := aCap_k (P := Tryz.prog) (t := 273) (i := i) (o := 0) (len := len) sl_273 hu
  have hlA : (cs.take (k * 3)).length = k * 3 := by rw [List.length_take]; omega
  have hlB : (cs.drop (k * 3)).length = (len - k) * 3 := by rw [List.length_drop]; omega
  have hB : (c.drop (k * 3)).take ((len - k) * 3) = cs.drop (k * 3) := by rw [← htake, List.drop_take]; congr 1; omega
  have hBone : ((c.drop (k * 3)).take ((len - k) * 3)).all (·.one) = true := by
    rw [hB, List.all_eq_true]
    exact fun v hv => List.all_eq_true.1 hcone v (List.mem_of_mem_drop hv)
  have hxs : (xs.drop 0).take (1 * 3) = xs := by rw [List.drop_zero, List.take_of_length_le (by omega)]
  by_cases hroom : cap < len + 1
  · have d2 : decide ((cap : Int) < ((len + 1 : Nat) : Int)) = true := decide_eq_true (by omega)
    have s2 := slK_to (P := Tryz.prog) (t := 273) (i := i) (o := 0) (len := len) (cap := cap) (k := .i64) (m := k) ss_273 hu (by omega)
    have w2 : IntKind.i64.wrap (((len + 1 : Nat) : Int) - (k : Int)) = ((len + 1 - k : Nat) : Int) := by rw [Go.IntWalk.i64_in _ (by omega)]; omega
    have e1 := append_made (P := Tryz.prog) (t := 273) (kq := .i64) (o := 0) (len := k) (cap := cap) (n := len + 1 - k) (kn := .i64) (tn := 3) sl_273 (by kernel_rfl) (by decide) hg (by omega) hu (by omega) (by simp only [lim]; omega) (by simp only [lim]; omega) (by simp only []; omega)
    simp only [List.drop_zero] at e1
    have hN : k + (len + 1 - k) = len + 1 := by omega
    rw [hN] at e1
    obtain ⟨H1, hH1⟩ : ∃ y, y = h.push (.cells (c.take (k * 3) ++ made [V.int .i64 0, V.complex .f64 0 0, V.int .i64 0] (len + 1 - k)) 292 (some 3)) := ⟨_, rfl⟩
    rw [← hH1] at e1
    have g1 : H1.get h.n = .cells (c.take (k * 3) ++ made [V.int .i64 0, V.complex .f64 0 0, V.int .i64 0] (len + 1 - k)) 292 (some 3) := by rw [hH1]; exact get_push_new
    have gj : H1.get j = .cells xs 292 none := by rw [hH1, get_push_lt hjn]; exact hj
    have gi : H1.get i = .cells c 292 ex := by rw [hH1, get_push_lt hi]; exact hg
    have n1 : H1.n = h.n + 1 := by rw [hH1]; rfl
    have k1 : Keep h H1 none_ := by rw [hH1]; exact Keep.push _ _ _
    have s3 : aSlice Tryz.prog 273 (.sl h.n 0 (len + 1) unk) (some (.int .i64 (k : Int))) none none = some (.sl h.n (0 + k * 3) (len + 1 - k) (unk + 0 + k)) := slU_from (a := 0) ss_273 (by omega)
    have s4 : aSlice Tryz.prog 273 (.sl h.n 0 (len + 1) unk) (some (.int .i64 ((k + 1 : Nat) : Int))) none none = some (.sl h.n (0 + (k + 1) * 3) (len + 1 - (k + 1)) (unk + 0 + (k + 1))) := slU_from (a := 0) ss_273 (by omega)
    rw [Nat.zero_add, Nat.add_zero] at s3 s4
    have hcA : c.take (k * 3) = cs.take (k * 3) := by rw [← htake, List.take_take, Nat.min_eq_left (by omega)]
    have hml : (made [V.int .i64 0, V.complex .f64 0 0, V.int .i64 0] (len + 1 - k)).length = (len + 1 - k) * 3 := length_made _ _
    have e2 := copy_sl (P := Tryz.prog) (t := 273) (tx := 273) (o := k * 3) (dl := len + 1 - k) (dc := unk + k) (p := 0) (n := 1) (d := 1) (m := 1) sl_273 g1 gj (by show min 1 (len + 1 - k) = 1; omega) (by decide) (by simp only []; omega) (by rw [List.length_append, hml, hcA, hlA]; simp only []; omega) (by rw [hxs]; exact hone)
    rw [hxs] at e2
    obtain ⟨H2, hH2⟩ : ∃ y, y = H1.set h.n (.cells (lay (c.take (k * 3) ++ made [V.int .i64 0, V.complex .f64 0 0, V.int .i64 0] (len + 1 - k)) (k * 3) xs) 292 (some 3)) := ⟨_, rfl⟩
    rw [← hH2] at e2
    have g2 : H2.get h.n = .cells (lay (c.take (k * 3) ++ made [V.int .i64 0, V.complex .f64 0 0, V.int .i64 0] (len + 1 - k)) (k * 3) xs) 292 (some 3) := by rw [hH2]; exact get_set_same
    have gi2 : H2.get i = .cells c 292 ex := by rw [hH2, get_set_ne (by omega)]; exact gi
    have l2 : (lay (c.take (k * 3) ++ made [V.int .i64 0, V.complex .f64 0 0, V.int .i64 0] (len + 1 - k)) (k * 3) xs).length = (len + 1) * 3 := by rw [length_lay _ _ _ (by rw [List.length_append, hml, hcA, hlA, hx]; omega), List.length_append, hml, hcA, hlA]; omega
    have k2 : Keep h H2 none_ := by rw [hH2]; exact k1.trans (Keep.set _ _ _) fun q hq hh => by omega
    have s5 := slK_from (P := Tryz.prog) (t := 273) (i := i) (o := 0) (len := len) (cap := cap) (k := .i64) (l := k) ss_273 hu hk hlc
    rw [if_neg (by omega), Nat.zero_add] at s5
    have e3 := copy_sl (P := Tryz.prog) (t := 273) (tx := 273) (o := (k + 1) * 3) (dl := len + 1 - (k + 1)) (dc := unk + (k + 1)) (p := k * 3) (n := len - k) (d := cap - k) (m := len - k) sl_273 g2 gi2 (by show min (len - k) (len + 1 - (k + 1)) = len - k; omega) (by omega) (by simp only []; omega) (by rw [l2]; simp only []; omega) hBone
    simp only at e3
    rw [hB] at e3
    rw [show (k + 1) * 3 = k * 3 + 3 by omega] at s4 e3
    rw [hcA, lay_twoZ (cs.take (k * 3)) (made [V.int .i64 0, V.complex .f64 0 0, V.int .i64 0] (len + 1 - k)) xs (cs.drop (k * 3)) hlA hx hlB (by rw [hml]; omega)] at e3
    simp only [wpA_skip, wpA_region, wpA_seq, wpA_cond, wpA_draw, condI_true, condI_false, seqQ_normal, goI_out, goI_ops, opsA_nil, opsA_cons, stepA_move, stepA_assign, stepA_binOp, stepA_slice, stepA_len, stepA_append, stepA_copy, stepA_cap, thenV_some, thenH_some, eval_tmp, eval_const, put_some, enterF_zero, enterF_succ, aBin_add, aBin_sub, aBin_eql, aBin_gtr, absV_int, absV_snil, aLen_sl, Int.reduceBEq, Nat.reduceEqDiff, reduceCtorEq, Option.map_some, Option.map_none, Nat.add_zero, Nat.zero_add, if_true, if_false, kt_273, s1, c1, d1, w1, hc, d2, s2, w2, e1, s3, e2]
    refine SWp.drawnS none_ [8] (.q 0 (.q 1 (.q 2 (.q 3 (.q 4 (.q 5 (.q 6 (.q 7 (.a 8 .done))))))))) (by kernel_rfl) (by kernel_rfl) (by kernel_rfl) ?_
    simp only [siI_done, siI_q, siI_a, sqI_some, saI_some, mOk_none', implies_true, qI_nil, qI_cons, thenQ_some, q_move, q_binOp, q_slice, wpA_region, wpA_seq, wpA_ret, seqQ_normal, seqQ_ret, endI_mk, goI_out, goI_ops, goI_mk, opsA_nil, opsA_cons, stepA_move, stepA_assign, stepA_copy, thenH_some, eval_tmp, put_some, enterF_zero, enterF_succ, aBin_add, List.getElem?_cons_zero, List.getElem?_cons_succ, Nat.reduceEqDiff, reduceCtorEq, Option.map_some, Option.map_none, Nat.add_zero, true_and, if_true, if_false, wk, s4, s5, e3, retA_ret, Tryz.results212, resultsA_1]
    refine hid_mk ⟨?_, ?_, .inr fun q hq => ?_⟩
    · refine Own.grown (by rw [set_n, hH2, set_n, n1]; omega) get_set_same ?_
      simp only [List.length_append, hlA, hlB, hx]; omega
    · exact (k2.trans (Keep.set _ _ _) fun q hq hh => by omega).up
    · simp only [idOf, Option.some.injEq] at hq; omega
  · have d2 : decide ((cap : Int) < ((len + 1 : Nat) : Int)) = false := decide_eq_false (by omega)
    have hroom2 : len + 1 ≤ cap := by omega
    have s2 := slK_to (P := Tryz.prog) (t := 273) (i := i) (o := 0) (len := len) (cap := cap) (k := .i64) (m := len + 1) ss_273 hu hroom2
    have s3 := slK_from (P := Tryz.prog) (t := 273) (i := i) (o := 0) (len := len + 1) (cap := cap) (k := .i64) (l := k + 1) ss_273 hu (by omega) hroom2
    rw [if_neg (by omega), Nat.zero_add] at s3
    have s4 := slK_from (P := Tryz.prog) (t := 273) (i := i) (o := 0) (len := len + 1) (cap := cap) (k := .i64) (l := k) ss_273 hu (by omega) hroom2
    rw [if_neg (by omega), Nat.zero_add] at s4
    have hov : aOv h [.sl j 0 1 1, .sl i ((k + 1) * 3) (len + 1 - (k + 1)) (cap - (k + 1))] = some (.bool false) := by
      cases c with
      | nil => simp at hcc; omega
      | cons c0 cr => simp [aOv, hj, hg, hij]
    have hcl : len * 3 + 3 ≤ c.length := by omega
    have e2 := copy_sl (P := Tryz.prog) (t := 273) (tx := 273) (o := (k + 1) * 3) (dl := len + 1 - (k + 1)) (dc := cap - (k + 1)) (p := k * 3) (n := len + 1 - k) (d := cap - k) (m := len - k) sl_273 hg hg (by show min (len + 1 - k) (len + 1 - (k + 1)) = len - k; omega) (by omega) (by simp only []; omega) (by simp only []; omega) hBone
    simp only at e2
    rw [hB] at e2
    obtain ⟨R, hR, hRl⟩ := lay_shiftZ c (cs.take (k * 3)) (cs.drop (k * 3)) xs (a := k * 3) (x := 3) (b := (len - k) * 3) (by rw [List.take_append_drop, show k * 3 + (len - k) * 3 = len * 3 by omega]; exact htake) hlA hlB hx (by omega)
    rw [show (k + 1) * 3 = k * 3 + 3 by omega] at s3 hov e2
    obtain ⟨H1, hH1⟩ : ∃ y, y = h.set i (.cells (lay c (k * 3 + 3) (cs.drop (k * 3))) 292 ex) := ⟨_, rfl⟩
    rw [← hH1] at e2
    have g1 : H1.get i = .cells (lay c (k * 3 + 3) (cs.drop (k * 3))) 292 ex := by rw [hH1]; exact get_set_same
    have gj : H1.get j = .cells xs 292 none := by rw [hH1, get_set_ne hij]; exact hj
    have k1 : Keep h H1 (fun q => q = i) := by rw [hH1]; exact Keep.set _ _ _
    have n1 : H1.n = h.n := by rw [hH1]; rfl
    have l1 : (lay c (k * 3 + 3) (cs.drop (k * 3))).length = c.length := length_lay _ _ _ (by rw [hlB]; omega)
    have e3 := copy_sl (P := Tryz.prog) (t := 273) (tx := 273) (o := k * 3) (dl := len + 1 - k) (dc := cap - k) (p := 0) (n := 1) (d := 1) (m := 1) sl_273 g1 gj (by show min 1 (len + 1 - k) = 1; omega) (by decide) (by simp only []; omega) (by rw [l1]; simp only []; omega) (by rw [hxs]; exact hone)
    simp only at e3
    rw [hxs] at e3
    simp only [wpA_skip, wpA_region, wpA_seq, wpA_cond, condI_false, seqQ_normal, goI_out, goI_ops, opsA_nil, opsA_cons, stepA_move, stepA_assign, stepA_binOp, stepA_slice, stepA_len, stepA_cap, stepA_call, thenV_some, eval_tmp, eval_const, put_some, enterF_zero, enterF_succ, aBin_add, aBin_eql, aBin_gtr, absV_int, absV_snil, aLen_sl, Int.reduceBEq, Nat.reduceEqDiff, reduceCtorEq, List.map_cons, List.map_nil, Option.map_some, Option.map_none, Nat.zero_add, if_true, if_false, kt_273, s1, c1, d1, w1, hc, d2, s2, wk, s3]
    refine callI_ov ncal255 ovSZ hov ?_
    simp only [wpA_seq, wpA_cond, wpA_draw, condI_true, seqQ_normal, goI_out, goI_ops, opsA_nil, opsA_cons, stepA_unOp, thenV_some, eval_tmp, put_some, enterF_succ, aUn_not, Nat.reduceEqDiff, reduceCtorEq, if_true, if_false, Bool.not_false]
    refine SWp.drawnS none_ [8] (.q 0 (.q 1 (.q 2 (.q 3 (.q 4 (.q 5 (.q 6 (.q 7 (.a 8 .done))))))))) (by kernel_rfl) (by kernel_rfl) (by kernel_rfl) ?_
    simp only [siI_done, siI_q, siI_a, sqI_some, saI_some, mOk_none', implies_true, qI_nil, qI_cons, thenQ_some, q_move, q_binOp, q_slice, wpA_region, wpA_seq, wpA_ret, seqQ_normal, seqQ_ret, endI_mk, goI_out, goI_ops, goI_mk, opsA_nil, opsA_cons, stepA_move, stepA_assign, stepA_slice, stepA_copy, thenV_some, thenH_some, eval_tmp, put_some, enterF_zero, enterF_succ, aBin_add, List.getElem?_cons_zero, List.getElem?_cons_succ, Nat.reduceEqDiff, reduceCtorEq, Option.map_some, Option.map_none, true_and, if_true, if_false, wk, s3, s4, e2, e3, retA_ret, Tryz.results212, resultsA_1]
    refine hid_mk ⟨.inr ⟨i, len + 1, cap, _, ex, rfl, by rw [set_n, n1]; exact hi, get_set_same, ?_, ?_, .inl ⟨hu, by rw [hRl]; exact hcc, hroom2⟩⟩, k1.trans' (Keep.set _ _ _), .inl rfl⟩
    · simp only [List.length_append, hlA, hlB, hx]; omega
    · rw [hR, ← List.append_assoc]
      exact List.take_left' (by simp only [List.length_append, hlA, hlB, hx]; omega)
end Go.Proofs.YtedkjhifbibpmaaGreatDoor.Pk
namespace Go.Proofs.YtedkjhifbibpmaaGreatDoor.Pk
open Go Go.Proofs Go.Proofs.YtedkjhifbibpmaaGreatDoor.Ab
set_option linter.unusedVariables false
set_option linter.unusedSimpArgs false

set_option maxRecDepth 10000 in
theorem insertCZ (v : V) (k j : Nat) (cs xs : List V) (h : AHeap) (o : Own h 292 3 v cs) (hl : cs.length < 2 ^ 40) (hk : k * 3 ≤ cs.length) (hj : h.get j = .cells xs 292 none) (hjn : j < h.n) (hij : idOf v ≠ some j)
    (hx : xs.length = 3) (hone : xs.all (·.one) = true) (hcone : cs.all (·.one) = true) : SCalls Tryz.prog 212 [v, .int .i64 (k : Nat), .sl j 0 1 1] h
      (fun r h' => Own h' 292 3 r (cs.take (k * 3) ++ xs ++ cs.drop (k * 3)) ∧ Keep h h' (isId v) ∧ NewOr h v r) := by
  refine SCalls.ownK o (by decide) (fun hv hc => ?_) fun i len cap c ex h2 hv ok hcap kk hn => ?_
  · subst hc
    obtain rfl : k = 0 := by simp at hk; omega
    have hoj : Own h 292 3 (.sl j 0 1 1) xs := .inr ⟨j, 1, 1, xs, none, rfl, hjn, hj, by rw [hx], by rw [List.take_of_length_le (by omega)], .inl ⟨by unfold unk; omega, by omega, Nat.le_refl _⟩⟩
    have hsrc := own_src (P := Tryz.prog) (t := 273) kt_273 hoj (n := 1) (by rw [hx]) (by decide) hone
    obtain ⟨v', h', ea, oa, ka, na⟩ := append_ownM (P := Tryz.prog) (t := 273) (tx := 273) sl_273 (by decide) o hsrc (by rw [hx]; rfl) (fun m hm => by
      change m * 3 = _ at hm
      rw [hx] at hm
      simp only [List.length_nil] at hm
      exact ⟨by simp only [lim]; omega, by simp only [lim]; omega⟩)
    obtain ⟨e, hu1, hz⟩ := slSz_eq (P := Tryz.prog) ss_273
    have c1 : ((1 : Nat) : Int) = 1 := rfl
    have c0 : ((0 : Nat) : Int) = 0 := rfl
    have fin : Own h' 292 3 v' (([] : List V).take (0 * 3) ++ xs ++ ([] : List V).drop (0 * 3)) ∧ Keep h h' (isId v) ∧ NewOr h v v' := ⟨by simpa using oa, ka, na⟩
    rcases hv with rfl | rfl
    · have s1 : aSlice Tryz.prog 273 .snil (some (.int .i64 0)) none none = some .snil := by unfold aSlice; rw [hu1]; simp only [hz]; rfl
      refine SCalls.enterI (c := _) Tryz.func212 rfl (by kernel_rfl) (by simp) ?_
      simp only [wpA_skip, wpA_region, wpA_seq, wpA_cond, wpA_ret, condI_true, condI_false, seqQ_normal, seqQ_ret, endI_mk, goI_out, goI_ops, opsA_nil, opsA_cons, stepA_move, stepA_assign, stepA_binOp, stepA_slice, stepA_len, stepA_append, thenV_some, thenH_some, eval_tmp, eval_const, put_some, enterF_zero, enterF_succ, aBin_eql, absV_int, absV_snil, aLen_sl, aLen_snil, Int.reduceBEq, beq_self_eq_true, Nat.reduceEqDiff, reduceCtorEq, Option.map_some, Option.map_none, if_true, if_false, kt_273, c0, s1, c1, ea, retA_ret, Tryz.results212, resultsA_1]
      exact hid_mk fin
    · have s1 : aSlice Tryz.prog 273 .z0 (some (.int .i64 0)) none none = some .z0 := by unfold aSlice; rw [hu1]; simp only [hz]; rfl
      refine SCalls.enterI (c := _) Tryz.func212 rfl (by kernel_rfl) (by simp) ?_
      simp only [wpA_skip, wpA_region, wpA_seq, wpA_cond, wpA_ret, condI_true, condI_false, seqQ_normal, seqQ_ret, endI_mk, goI_out, goI_ops, opsA_nil, opsA_cons, stepA_move, stepA_assign, stepA_binOp, stepA_slice, stepA_len, stepA_append, thenV_some, thenH_some, eval_tmp, eval_const, put_some, enterF_zero, enterF_succ, aBin_eql, absV_int, absV_snil, aLen_sl, aLen_z0, Int.reduceBEq, beq_self_eq_true, Nat.reduceEqDiff, reduceCtorEq, Option.map_some, Option.map_none, if_true, if_false, kt_273, c0, s1, c1, ea, retA_ret, Tryz.results212, resultsA_1]
      exact hid_mk fin
  · have hvi : idOf v = some i := by rcases hv with rfl | rfl <;> rfl
    have hji : j ≠ i := fun hh => hij (by rw [hvi, hh])
    have hlen := ok.2.2.1
    refine (insertKZ i len cap k j c cs xs ex h2 ok (by omega) (by omega) ((kk.get j hjn hji).trans hj) (by omega) hji hx hone hcone).mono fun r h' ⟨o', k', n'⟩ => ⟨o', (kk.trans' k').mono fun q hq => by subst hq; exact hvi, ?_⟩
    rcases n' with n' | n'
    · exact .inl (by rw [n', hvi]; rfl)
    · exact .inr fun q hq => by have := n' q hq; omega
set_option maxHeartbeats 2000000 in
set_option maxRecDepth 10000 in
theorem deleteKZ (i len cap k : Nat) (c cs : List V) (ex : Option Nat) (h : AHeap) (o : OwnK h 292 3 i len cap c ex cs) (hl : len < 2 ^ 40) (hk : k < len) (hcone : cs.all (·.one) = true) :
    SCalls Tryz.prog 211 [.sl i 0 len cap, .int .i64 (k : Nat), .int .i64 ((k + 1 : Nat) : Int)] h
      (fun r h' => Own h' 292 3 r (cs.take (k * 3) ++ cs.drop ((k + 1) * 3)) ∧ Keep h h' (fun q => q = i) ∧ idOf r = some i) := by
  refine SCalls.enterI (c := _) Tryz.func211 rfl (by kernel_rfl) (by simp) ?_
  have oo := o
  obtain ⟨hi, hg, hlen, htake, hu, hcc, hlc⟩ := oo
  obtain ⟨vx, s0⟩ := slK_max (P := Tryz.prog) (t := 273) (i := i) (o := 0) (len := len) (cap := cap) (k := .i64) (k2 := .i64) (k3 := .i64) (l := k) (m := k + 1) (n := len) ss_273 hu (by omega) (by omega) hlc
  have d1 : ((k : Int) == ((k + 1 : Nat) : Int)) = false := by simp; omega
  have s1 := slK_to (P := Tryz.prog) (t := 273) (i := i) (o := 0) (len := len) (cap := cap) (k := .i64) (m := k) ss_273 hu (by omega)
  have s2 := slK_from (P := Tryz.prog) (t := 273) (i := i) (o := 0) (len := len) (cap := cap) (k := .i64) (l := k + 1) ss_273 hu (by omega) hlc
  have hlA : (cs.take (k * 3)).length = k * 3 := by rw [List.length_take]; omega
  have hlB : (cs.drop ((k + 1) * 3)).length = (len - (k + 1)) * 3 := by rw [List.length_drop]; omega
  have hB : (c.drop ((k + 1) * 3)).take ((len - (k + 1)) * 3) = cs.drop ((k + 1) * 3) := by rw [← htake, List.drop_take]; congr 1; omega
  have hcl : len * 3 ≤ c.length := by omega
  have hsrcB : ∃ b, aSlice Tryz.prog 273 (.sl i 0 len cap) (some (.int .i64 ((k + 1 : Nat) : Int))) none none = some b ∧ aSrc Tryz.prog 3 273 b h = some (len - (k + 1), cs.drop ((k + 1) * 3)) := by
    refine ⟨_, s2, ?_⟩
    obtain ⟨e, hu1, hz⟩ := slSz_eq (P := Tryz.prog) ss_273
    have hone : (cs.drop ((k + 1) * 3)).all (·.one) = true := List.all_eq_true.2 fun v hv => List.all_eq_true.1 hcone v (List.mem_of_mem_drop hv)
    unfold aSrc
    simp only [hu1]
    by_cases hck : cap = k + 1
    · rw [if_pos hck]
      have hl0 : len - (k + 1) = 0 := by omega
      simp only [hg, hl0, Nat.zero_mul, List.take_zero]
      rw [if_pos ⟨by omega, rfl⟩, List.drop_of_length_le (by omega)]
    · rw [if_neg hck, Nat.zero_add]
      simp only [hg]
      rw [hB, if_pos ⟨by omega, hone⟩]
  obtain ⟨b, hb, hsrc⟩ := hsrcB
  have okA : OwnK h 292 3 i k cap c ex (cs.take (k * 3)) := ⟨hi, hg, hlA, by rw [← htake, List.take_take, Nat.min_eq_left (by omega)], hu, hcc, by omega⟩
  obtain ⟨c', hap, hc'len, hc'⟩ : ∃ c', aAppend Tryz.prog 273 273 (.sl i 0 k cap) b h = some (.sl i 0 (len - 1) cap, h.set i (.cells c' 292 ex)) ∧ c'.length = c.length ∧ c'.take ((len - 1) * 3) = cs.take (k * 3) ++ cs.drop ((k + 1) * 3) := by
    obtain ⟨he, hz, hsz, hbs, hzs, _⟩ := slT_eq (P := Tryz.prog) sl_273
    unfold aAppend
    simp only [he, hz, hsz, hbs, hsrc, List.length_cons, List.length_nil, if_true, Nat.zero_add, Nat.reduceAdd]
    by_cases hl0 : len - (k + 1) = 0
    · refine ⟨c, ?_, rfl, ?_⟩
      · rw [if_pos hl0, show len - 1 = k by omega, set_self hg]
      · rw [show len - 1 = k by omega, okA.2.2.2.1, List.drop_of_length_le (by omega), List.append_nil]
    · refine ⟨lay c (k * 3) (cs.drop ((k + 1) * 3)), ?_, length_lay _ _ _ (by rw [hlB]; omega), ?_⟩
      · rw [if_neg hl0, if_pos ⟨by simp only [lim]; omega, by simp only [lim]; omega⟩]
        simp only [hg]
        rw [if_pos hu, if_pos (by omega), if_pos (by omega), show k + (len - (k + 1)) = len - 1 by omega]
      · rw [lay_take _ _ _ _ (by rw [hlB]; omega) (by omega)]
        have : c.take ((len - 1) * 3) = cs.take (k * 3) ++ (c.drop (k * 3)).take ((len - 1 - k) * 3) := by
          rw [← okA.2.2.2.1, show (len - 1) * 3 = k * 3 + (len - 1 - k) * 3 by omega, List.take_add]
        rw [this, lay_atZ _ _ _ hlA, List.drop_of_length_le (l := (c.drop (k * 3)).take ((len - 1 - k) * 3)) (by rw [List.length_take, List.length_drop, hlB]; omega), List.append_nil]
  obtain ⟨H1, hH1⟩ : ∃ y, y = h.set i (.cells c' 292 ex) := ⟨_, rfl⟩
  rw [← hH1] at hap
  have g1 : H1.get i = .cells c' 292 ex := by rw [hH1]; exact get_set_same
  have s3 := slK_rng (P := Tryz.prog) (t := 273) (i := i) (o := 0) (len := len - 1) (cap := cap) (k := .i64) (k2 := .i64) (l := len - 1) (m := len) ss_273 hu (by omega) hlc
  rw [if_neg (by omega), Nat.zero_add] at s3
  have hcr : aClear Tryz.prog 273 (.sl i ((len - 1) * 3) (len - (len - 1)) (cap - (len - 1))) H1 = some (H1.set i (.cells (lay c' ((len - 1) * 3) (made [V.int .i64 0, V.complex .f64 0 0, V.int .i64 0] 1)) 292 ex)) := by
    obtain ⟨he, hz, hsz, hbs, hzs, _⟩ := slT_eq (P := Tryz.prog) sl_273
    unfold aClear
    simp only [he, hz, g1]
    rw [show len - (len - 1) = 1 by omega, if_neg (by decide), if_pos ⟨rfl, by rw [length_made, hc'len]; simp only [List.length_cons, List.length_nil]; omega⟩]
  simp only [wpA_skip, wpA_region, wpA_seq, wpA_cond, wpA_draw, condI_false, seqQ_normal, goI_out, goI_ops, opsA_nil, opsA_cons, stepA_move, stepA_assign, stepA_binOp, stepA_slice, stepA_len, thenV_some, eval_tmp, eval_const, put_some, enterF_zero, enterF_succ, aBin_eql, absV_snil, aLen_sl, Nat.reduceEqDiff, reduceCtorEq, Option.map_some, if_true, if_false, kt_273, s0, d1]
  refine SWp.drawnS none_ [6] (.q 0 (.q 1 (.q 2 (.q 3 (.q 4 (.q 5 (.a 6 (.q 7 .done)))))))) (by kernel_rfl) (by kernel_rfl) (by kernel_rfl) ?_
  simp only [siI_done, siI_q, siI_a, sqI_some, saI_some, mOk_none', implies_true, qI_nil, qI_cons, thenQ_some, q_move, q_assign, q_slice, wpA_region, wpA_seq, wpA_ret, seqQ_normal, endI_mk, goI_out, goI_ops, goI_mk, opsA_nil, opsA_cons, stepA_move, stepA_assign, stepA_slice, stepA_len, stepA_append, stepA_clear, thenV_some, thenH_some, eval_tmp, put_some, put_none, enterF_zero, enterF_succ, aLen_sl, List.getElem?_cons_zero, List.getElem?_cons_succ, Bool.false_eq_true, Nat.reduceEqDiff, reduceCtorEq, Option.map_some, Option.map_none, true_and, if_true, if_false, kt_273, s1, hb, hap, s3, hcr, retA_ret, Tryz.results211, resultsA_1]
  refine hid_mk ⟨.inr ⟨i, len - 1, cap, _, ex, rfl, by rw [set_n, hH1, set_n]; exact hi, get_set_same, ?_, ?_, .inl ⟨hu, ?_, by omega⟩⟩, ?_, rfl⟩
  · rw [List.length_append, hlA, hlB]; omega
  · have hm : (made [V.int .i64 0, V.complex .f64 0 0, V.int .i64 0] 1).length = 3 := rfl
    unfold lay
    rw [List.append_assoc, List.take_append_of_le_length (by rw [List.length_take]; omega), List.take_take, Nat.min_self, hc']
  · rw [length_lay _ _ _ (by rw [length_made, hc'len]; simp only [List.length_cons, List.length_nil]; omega), hc'len]; exact hcc
  · rw [hH1]; exact (Keep.set _ _ _).trans' (Keep.set _ _ _)
theorem deleteCZ (v : V) (k : Nat) (cs : List V) (h : AHeap) (o : Own h 292 3 v cs) (hl : cs.length < 2 ^ 40) (hk : (k + 1) * 3 ≤ cs.length) (hcone : cs.all (·.one) = true) :
    SCalls Tryz.prog 211 [v, .int .i64 (k : Nat), .int .i64 ((k + 1 : Nat) : Int)] h
      (fun r h' => Own h' 292 3 r (cs.take (k * 3) ++ cs.drop ((k + 1) * 3)) ∧ Keep h h' (isId v) ∧ NewOr h v r) := by
  refine SCalls.ownK o (by decide) (fun hv hc => ?_) fun i len cap c ex h2 hv ok hcap kk hn => ?_
  · subst hc; simp at hk
  · have hvi : idOf v = some i := by rcases hv with rfl | rfl <;> rfl
    have hlen := ok.2.2.1
    refine (deleteKZ i len cap k c cs ex h2 ok (by omega) (by omega) hcone).mono fun r h' ⟨o', k', n'⟩ => ⟨o', (kk.trans' k').mono fun q hq => by subst hq; exact hvi, .inl (by rw [n', hvi])⟩
end Go.Proofs.YtedkjhifbibpmaaGreatDoor.Pk
namespace Go.Proofs.YtedkjhifbibpmaaGreatDoor.Pk
open Go Go.Proofs Go.Proofs.YtedkjhifbibpmaaGreatDoor.Ab
set_option linter.unusedVariables false
set_option linter.unusedSimpArgs false
/-! ### The comparator -/
def cmpI (x y : Int) : Int := if x < y then -1 else if y < x then 1 else 0
set_option maxRecDepth 10000 in
theorem nan64 (h : AHeap) (x : Int) : Pure Tryz.prog 251 [.int .i64 x] h (.bool false) := by
  refine Pure.val (Clo.bool _) ?_
  refine SCalls.enterI (c := _) Tryz.func251 rfl (by kernel_rfl) (by simp) ?_
  have e : (x != x) = false := by simp
  simp only [wpA_region, wpA_seq, wpA_ret, seqQ_normal, endI_mk, goI_out, goI_ops, opsA_nil, opsA_cons, stepA_move, stepA_assign, stepA_binOp, thenV_some, eval_tmp, eval_const, put_some, enterF_zero, enterF_succ, aBin_neq, absV_bool, bne_self_eq_false, Nat.reduceEqDiff, reduceCtorEq, if_true, if_false, retA_ret, Tryz.results251, resultsA_1]
  exact hid_mk ⟨rfl, Keep.refl _ _⟩
set_option maxRecDepth 10000 in
theorem cmp64 (h : AHeap) (x y : Int) : Pure Tryz.prog 203 [.int .i64 x, .int .i64 y] h (.int .i64 (cmpI x y)) := by
  refine Pure.val (Clo.int _ _) ?_
  refine SCalls.enterI (c := _) Tryz.func203 rfl (by kernel_rfl) (by simp) ?_
  simp only [wpA_region, wpA_seq, seqQ_normal, goI_out, goI_ops, opsA_nil, opsA_cons, stepA_move, stepA_assign, stepA_call, eval_tmp, eval_const, put_some, enterF_zero, enterF_succ, absV_int, Int.reduceNeg, Nat.reduceEqDiff, reduceCtorEq, List.map_cons, List.map_nil, if_true, if_false]
  refine callI_pure cal251 (nan64 h x) ?_
  simp only [wpA_region, wpA_seq, seqQ_normal, goI_out, goI_ops, opsA_nil, opsA_cons, stepA_move, stepA_assign, stepA_call, eval_tmp, put_some, enterF_zero, enterF_succ, Int.reduceNeg, Nat.reduceEqDiff, List.map_cons, List.map_nil, if_true, if_false]
  refine callI_pure cal251 (nan64 h y) ?_
  by_cases h1 : x < y
  · have d1 : decide (x < y) = true := decide_eq_true h1
    simp only [wpA_skip, wpA_region, wpA_seq, wpA_cond, wpA_ret, condI_true, condI_false, seqQ_normal, seqQ_ret, endI_mk, goI_out, goI_ops, opsA_nil, opsA_cons, stepA_move, stepA_assign, stepA_binOp, thenV_some, eval_tmp, eval_const, put_some, enterF_zero, enterF_succ, aBin_lss, absV_int, Int.reduceNeg, Nat.reduceEqDiff, reduceCtorEq, if_true, if_false, d1, retA_ret, Tryz.results203, resultsA_1]
    exact hid_mk ⟨by rw [cmpI, if_pos h1], Keep.refl _ _⟩
  · have d1 : decide (x < y) = false := decide_eq_false h1
    by_cases h2 : y < x
    · have d2 : decide (y < x) = true := decide_eq_true h2
      simp only [wpA_skip, wpA_region, wpA_seq, wpA_cond, wpA_ret, condI_true, condI_false, seqQ_normal, seqQ_ret, endI_mk, goI_out, goI_ops, opsA_nil, opsA_cons, stepA_move, stepA_assign, stepA_binOp, thenV_some, eval_tmp, eval_const, put_some, enterF_zero, enterF_succ, aBin_lss, aBin_gtr, absV_int, Int.reduceNeg, Nat.reduceEqDiff, reduceCtorEq, if_true, if_false, d1, d2, retA_ret, Tryz.results203, resultsA_1]
      exact hid_mk ⟨by rw [cmpI, if_neg h1, if_pos h2], Keep.refl _ _⟩
    · have d2 : decide (y < x) = false := decide_eq_false h2
      simp only [wpA_skip, wpA_region, wpA_seq, wpA_cond, wpA_ret, condI_false, seqQ_normal, endI_mk, goI_out, goI_ops, opsA_nil, opsA_cons, stepA_move, stepA_assign, stepA_binOp, thenV_some, eval_tmp, eval_const, put_some, enterF_zero, enterF_succ, aBin_lss, aBin_gtr, absV_int, Int.reduceNeg, Nat.reduceEqDiff, reduceCtorEq, if_true, if_false, d1, d2, retA_ret, Tryz.results203, resultsA_1]
      exact hid_mk ⟨by rw [cmpI, if_neg h1, if_neg h2], Keep.refl _ _⟩
def orI (l : List Int) : Int := match l with | [] => 0 | x :: r => if x = 0 then orI r else x
set_option maxRecDepth 10000 in
theorem cmpOr (h : AHeap) (l : List Int) (hl : l.length ≤ 2 ^ 40) : Pure Tryz.prog 202 [.imm l.length (i64V l)] h (.int .i64 (orI l)) := by
  refine Pure.val (Clo.int _ _) ?_
  refine SCalls.enterI (c := _) Tryz.func202 rfl (by kernel_rfl) (by simp) ?_
  simp only [wpA_region, wpA_seq, wpA_block, wpA_loop, seqQ_normal, goI_out, goI_ops, opsA_nil, opsA_cons, stepA_move, stepA_assign, stepA_len, thenV_some, eval_tmp, eval_const, put_some, enterF_zero, enterF_succ, absV_int, aLen_imm, Nat.reduceEqDiff, reduceCtorEq, if_true, if_false, kt_24]
  refine SWp.loopG (α := Nat) (fun x f h' => h' = h ∧ f 3 = .int .i64 0 ∧ f 6 = .imm l.length (i64V l) ∧ f 7 = .int .i64 (l.length : Nat) ∧ f 8 = .int .i64 (x : Nat) ∧ x ≤ l.length ∧ orI l = orI (l.drop x)) (fun x => l.length - x) 0
    ⟨rfl, rfl, rfl, rfl, rfl, Nat.zero_le _, rfl⟩ ?_
  rintro t f h' ⟨rfl, f3, f6, f7, f8, ht, ho⟩
  refine wpI_sound (by kernel_rfl) ?_
  by_cases hlt : t < l.length
  · have d1 : decide ((t : Int) < ((l.length : Nat) : Int)) = true := decide_eq_true (by omega)
    have hw : IntKind.i64.wrap ((t : Int) + 1) = ((t + 1 : Nat) : Int) := by rw [Go.IntWalk.i64_in _ (by omega)]; omega
    have x1 : ∃ r, aIndexAddr Tryz.prog 24 (.imm l.length (i64V l)) (.int .i64 (t : Int)) = some (.at (.int .i64 l[t] :: r)) := ⟨_, row_ix (V.int .i64) hlt ss_24⟩
    obtain ⟨r, x1⟩ := x1
    rw [List.drop_eq_getElem_cons hlt, orI] at ho
    generalize l[t] = x at x1 ho
    by_cases hx : x = 0
    · have e1 : (x != 0) = false := by simp [hx]
      rw [if_pos hx] at ho
      simp only [wpA_skip, wpA_region, wpA_seq, wpA_cond, wpA_block, condI_true, condI_false, seqQ_normal, blkQ_normal, endI_mk, andThen_normal, goI_out, goI_ops, opsA_nil, opsA_cons, stepA_move, stepA_assign, stepA_load, stepA_binOp, stepA_indexAddr, thenV_some, eval_tmp, eval_const, put_some, aBin_add, aBin_neq, aBin_lss, absV_int, aLoad_eq, loadGo_one, aPlace_at, Nat.reduceEqDiff, if_true, if_false, lt_3, f3, f6, f7, f8, d1, x1, e1, hw]
      exact hid_mk ⟨t + 1, ⟨rfl, f3, f6, f7, rfl, hlt, ho⟩, by omega⟩
    · have e1 : (x != 0) = true := by simp [hx]
      rw [if_neg hx] at ho
      simp only [wpA_skip, wpA_region, wpA_seq, wpA_cond, wpA_block, wpA_ret, condI_true, seqQ_normal, seqQ_ret, blkQ_ret, endI_mk, goE, andThen_ret, goI_out, goI_ops, opsA_nil, opsA_cons, stepA_move, stepA_assign, stepA_load, stepA_binOp, stepA_indexAddr, thenV_some, eval_tmp, put_some, aBin_neq, aBin_lss, aLoad_eq, loadGo_one, aPlace_at, Nat.reduceEqDiff, if_true, if_false, lt_3, f3, f6, f7, f8, d1, x1, e1, retA_ret, Tryz.results202, resultsA_1]
      exact hid_mk ⟨by rw [ho], Keep.refl _ _⟩
  · have d1 : decide ((t : Int) < ((l.length : Nat) : Int)) = false := decide_eq_false (by omega)
    rw [List.drop_of_length_le (by omega)] at ho
    simp only [wpA_region, wpA_seq, wpA_cond, wpA_exit, wpA_ret, condI_false, seqQ_normal, seqQ_exit, blkQ_exit, endI_mk, goE, andThen_exit, goI_out, goI_ops, opsA_nil, opsA_cons, stepA_move, stepA_assign, stepA_binOp, thenV_some, eval_tmp, put_some, aBin_lss, Nat.reduceEqDiff, if_true, if_false, f3, f7, f8, d1, retA_ret, Tryz.results202, resultsA_1]
    exact hid_mk ⟨by rw [ho]; rfl, Keep.refl _ _⟩
end Go.Proofs.YtedkjhifbibpmaaGreatDoor.Pk
namespace Go.Proofs.YtedkjhifbibpmaaGreatDoor.Pk
open Go Go.Proofs Go.Proofs.YtedkjhifbibpmaaGreatDoor.Ab
set_option linter.unusedVariables false
set_option linter.unusedSimpArgs false
/-! ### The order of sessions; where one belongs -/
def cfS (a b : Chg) : Int := orI [cmpI a.key b.key, cmpI a.fr b.fr, cmpI a.to b.to]
theorem cfS_lt (a b : Chg) : decide (cfS a b < 0) = decide (lt3 a b) := by
  refine decide_eq_decide.2 ?_
  unfold cfS orI orI orI orI cmpI lt3
  repeat' split
  all_goals omega
theorem cfS_eq (a b : Chg) : (cfS a b == 0) = same3 a b := by
  rw [Bool.eq_iff_iff, same3_iff]
  unfold cfS orI orI orI orI cmpI
  simp only [beq_iff_eq]
  repeat' split
  all_goals omega
set_option maxHeartbeats 1000000 in
set_option maxRecDepth 10000 in
theorem pInOrd (a b : Chg) (ha : okS a) (hb : okS b) (h : AHeap) : Pure Tryz.prog 254 [.agg (sesE a), .agg (sesE b)] h (.int .i64 (cfS a b)) := by
  refine Pure.val (Clo.int _ _) ?_
  refine SCalls.enterI (c := _) Tryz.func254 rfl (by kernel_rfl) (by simp) ?_
  have ca := ses_cells a
  have cb := ses_cells b
  simp only [wpA_region, wpA_seq, wpA_draw, seqQ_normal, goI_out, goI_ops, opsA_nil, opsA_cons, stepA_assign, stepA_box, thenH_some, eval_tmp, eval_const, put_some, enterF_zero, enterF_succ, absV_int, aBox_eq, push_n, Nat.reduceEqDiff, Option.map_some, if_false, ca, cb]
  refine SWp.drawnS none_ [15, 16] (.q 0 (.q 1 (.q 2 (.q 3 (.c 4 (.q 5 (.c 6 (.q 7 (.c 8 (.c 9 (.q 10 (.c 11 (.q 12 (.c 13 (.c 14 (.e 15 (.a 16 (.q 17 .done)) .stop)))))))))))))))) (by kernel_rfl) (by kernel_rfl) (by kernel_rfl) ?_
  simp only [siI_q, sqI_some, mOk_none', implies_true, qI_nil, qI_cons, thenQ_some, q_load, q_fieldAddr, goI_mk, eval_tmp, put_some, enterF_succ, aField_eq, fieldGo_ptr, aLoad_eq, loadGo_one, aPlace_ptr, dropC_cells, get_push2, get_push2', List.getElem?_cons_zero, List.getElem?_cons_succ, Nat.reduceEqDiff, Nat.reduceAdd, Nat.add_zero, Nat.zero_add, Nat.zero_le, List.length_cons, List.length_nil, List.drop_zero, true_and, if_true, if_false, ft_292_0, lt_2]
  refine siI_c rfl rfl rfl (fun h' _ => cmp64 h' a.key b.key) ?_
  simp only [siI_q, sqI_some, mOk_none', implies_true, qI_nil, qI_cons, thenQ_some, q_load, goI_mk, eval_tmp, put_some, enterF_succ, aLoad_eq, loadGo_row, aPlace_ptr, dropC_cells, get_push2', List.getElem?_cons_zero, List.getElem?_cons_succ, Nat.reduceEqDiff, Nat.reduceAdd, Nat.zero_add, Nat.zero_le, List.length_cons, List.length_nil, List.drop_zero, List.take_succ_cons, List.take_nil, true_and, if_true, if_false, Nat.le_refl, lt_292]
  refine siI_c rfl rfl rfl (fun h' _ => pFirstS a ha h') ?_
  simp only [siI_q, sqI_some, mOk_none', implies_true, qI_nil, qI_cons, thenQ_some, q_load, goI_mk, eval_tmp, put_some, enterF_succ, aLoad_eq, loadGo_row, aPlace_ptr, dropC_cells, get_push2, List.getElem?_cons_zero, List.getElem?_cons_succ, Nat.reduceEqDiff, Nat.reduceAdd, Nat.zero_add, Nat.zero_le, List.length_cons, List.length_nil, List.drop_zero, List.take_succ_cons, List.take_nil, true_and, if_true, if_false, Nat.le_refl, lt_292]
  refine siI_c rfl rfl rfl (fun h' _ => pFirstS b hb h') ?_
  simp only [false_implies]
  refine siI_c rfl rfl rfl (fun h' _ => cmp64 h' a.fr b.fr) ?_
  simp only [siI_q, sqI_some, mOk_none', implies_true, qI_nil, qI_cons, thenQ_some, q_load, goI_mk, eval_tmp, put_some, enterF_succ, aLoad_eq, loadGo_row, aPlace_ptr, dropC_cells, get_push2', List.getElem?_cons_zero, List.getElem?_cons_succ, Nat.reduceEqDiff, Nat.reduceAdd, Nat.zero_add, Nat.zero_le, List.length_cons, List.length_nil, List.drop_zero, List.take_succ_cons, List.take_nil, true_and, if_true, if_false, Nat.le_refl, lt_292]
  refine siI_c rfl rfl rfl (fun h' _ => pLastS a ha h') ?_
  simp only [siI_q, sqI_some, mOk_none', implies_true, qI_nil, qI_cons, thenQ_some, q_load, goI_mk, eval_tmp, put_some, enterF_succ, aLoad_eq, loadGo_row, aPlace_ptr, dropC_cells, get_push2, List.getElem?_cons_zero, List.getElem?_cons_succ, Nat.reduceEqDiff, Nat.reduceAdd, Nat.zero_add, Nat.zero_le, List.length_cons, List.length_nil, List.drop_zero, List.take_succ_cons, List.take_nil, true_and, if_true, if_false, Nat.le_refl, lt_292]
  refine siI_c rfl rfl rfl (fun h' _ => pLastS b hb h') ?_
  simp only [false_implies]
  refine siI_c rfl rfl rfl (fun h' _ => cmp64 h' a.to b.to) ?_
  unfold cfS
  generalize cmpI a.key b.key = x
  generalize cmpI a.fr b.fr = y
  generalize cmpI a.to b.to = z
  have lit3 : ∀ H : AHeap, aBuildSlice Tryz.prog 24 3 [(0, .int .i64 x), (1, .int .i64 y), (2, .int .i64 z)] H = some (.sl H.n 0 3 3, H.push (.cells (i64V [x, y, z]) 3 none)) := fun H => by rw [buildSlice_go sl_24]; rfl
  obtain ⟨h0, hh0⟩ : ∃ y, y = (h.push (.cells (sesE a) 292 none)).push (.cells (sesE b) 292 none) := ⟨_, rfl⟩
  have k0 : Keep h h0 none_ := by rw [hh0]; exact (Keep.push _ _ _).then_push _
  unfold sesE at hh0
  simp only [siI_stop, siI_a, siI_e, saI_some, seI_some, keepT1, goI_ops, goI_mk, opsA_nil, opsA_cons, stepA_buildSlice, stepA_call, thenH_some, eval_tmp, put_some, enterF_succ, push_n, List.getElem?_cons_zero, List.getElem?_cons_succ, Nat.reduceEqDiff, List.map_cons, List.map_nil, and_true, true_and, if_true, if_false, lit3]
  rw [← hh0]
  obtain ⟨h2, c2, k2⟩ := Cast.lit (h := h0) (c := i64V [x, y, z]) (e := 3) (n := 3) (sz := 1) rfl (by decide) (by decide)
  rw [show h0.n = h.n + 1 + 1 by rw [hh0]; rfl] at c2
  refine callI_of cal202 (SCalls.args (CastL.cons c2 (CastL.refl _ _)) (cmpOr h2 [x, y, z] (by simp only [List.length_cons, List.length_nil]; omega))) fun r h3 ⟨e3, e4⟩ => ?_
  subst e3
  simp only [siI_done, siI_q, sqI_some, mOk_none', implies_true, qI_nil, qI_cons, q_assign, wpA_ret, seqQ_normal, endI_mk, goI_out, goI_ops, goI_mk, opsA_nil, eval_tmp, put_some, enterF_succ, List.getElem?_cons_zero, List.getElem?_cons_succ, Bool.false_eq_true, Nat.reduceEqDiff, true_and, if_true, if_false, retA_ret, Tryz.results254, resultsA_1]
  refine hid_mk ⟨rfl, ?_⟩
  rw [e4]
  exact k0.trans' k2
theorem srow_set (l : List Chg) (k : Nat) (p : Chg) (hk : k < l.length) : lay (l.flatMap sesE) (k * 3) (sesE p) = (l.set k p).flatMap sesE := by
  unfold lay
  rw [rows_take sesE_len, show k * 3 + (sesE p).length = (k + 1) * 3 by rw [sesE_len]; omega, rows_drop sesE_len, List.set_eq_take_append_cons_drop, if_pos hk]
  simp
theorem srow {h : AHeap} {v : V} {l : List Chg} (o : Own h 292 3 v (l.flatMap sesE)) {t : Nat} {p : Chg} (hp : l[t]? = some p) :
    ∃ j r, aIndexAddr Tryz.prog 273 v (.int .i64 (t : Int)) = some (.ptr j (t * 3)) ∧ idOf v = some j ∧ j < h.n ∧ dropC (h.get j) (t * 3) = some (sesE p ++ r) ∧
      ∀ q : Chg, ∃ ob, setC (some 3) (h.get j) (t * 3) (sesE q) = some ob ∧ Own (h.set j ob) 292 3 v ((l.set t q).flatMap sesE) ∧ Keep h (h.set j ob) (isId v) := by
  have ht := (List.getElem?_eq_some_iff.1 hp).1
  have hr : (l.flatMap sesE).length = l.length * 3 := rows_len sesE_len l
  have hd : ((l.flatMap sesE).drop (t * 3)).take 3 = sesE p := by
    rw [rows_drop sesE_len, show 3 = 1 * 3 from rfl, rows_take sesE_len, List.drop_eq_getElem_cons ht, (List.getElem?_eq_some_iff.1 hp).2]
    simp
  obtain ⟨j, a1, a2, a3, a4, a5⟩ := own_row (P := Tryz.prog) (t := 273) (kk := .i64) ss_273 (by decide) o (k := t) (by rw [hr]; omega)
  obtain ⟨r0, h0⟩ := a4 h 0 rfl (by decide)
  rw [hd, List.drop_zero, Nat.add_zero] at h0
  refine ⟨j, r0, a1, a2, a3, h0, fun q => ?_⟩
  obtain ⟨ob, c1, c2, c3⟩ := a5 (sesE q) (sesE_len q) (sesE_one q)
  rw [srow_set l t q ht] at c2
  exact ⟨ob, c1, c2, c3⟩
theorem salen {h h' : AHeap} {v : V} {l : List Chg} (o : Own h 292 3 v (l.flatMap sesE)) : aLen Tryz.prog 273 v h' = some (.int .i64 (l.length : Nat)) := by
  have hr : (l.flatMap sesE).length = l.length * 3 := rows_len sesE_len l
  have := o.length (by decide) Tryz.prog kt_273
  rw [hr, Nat.mul_div_cancel _ (by decide)] at this
  rw [← this]
  rcases o with ⟨rfl | rfl, _⟩ | ⟨j, n, c, _, _, rfl, _⟩
  · rw [aLen_snil kt_273, aLen_snil kt_273]
  · rw [aLen_z0 kt_273, aLen_z0 kt_273]
  · rw [aLen_sl kt_273, aLen_sl kt_273]
theorem ses_ld (p : Chg) (r : List V) : loadGo (some (some 3)) (some (sesE p ++ r)) = some (.agg (sesE p)) := load_row (sesE_len p)
set_option maxHeartbeats 1000000 in
set_option maxRecDepth 10000 in
theorem pBSF (v : V) (l : List Chg) (x : Chg) (h : AHeap) (o : Own h 292 3 v (l.flatMap sesE)) (hs : SS l) (hok : ∀ y ∈ l, okS y) (hx : okS x) (hl : l.length < 2 ^ 40) :
    Pure Tryz.prog 253 [v, .agg (sesE x), .func (.func 254) [] []] h (.tuple [.int .i64 (pos3 l x : Nat), .bool (has3 l x)]) := by
  refine Pure.val (Clo.tuple (CloL.cons (Clo.int _ _) (CloL.cons (Clo.bool _) CloL.nil))) ?_
  refine SCalls.enterI (c := _) Tryz.func253 rfl (by kernel_rfl) (by simp) ?_
  obtain ⟨H, hH⟩ : ∃ y, y = h.push (.cells (sesE x) 292 none) := ⟨_, rfl⟩
  have gH : H.get h.n = .cells (sesE x) 292 none := by rw [hH]; exact get_push_new
  have kH : Keep h H none_ := by rw [hH]; exact Keep.push _ _ _
  have oH := o.keepN kH
  have cx := ses_cells x
  have hlen := salen (h' := H) oH
  have ldx : loadGo (some (some 3)) (some (sesE x)) = some (.agg (sesE x)) := rfl
  have dx : dropC (AObj.cells (sesE x) 292 none) 0 = some (sesE x) := rfl
  unfold sesE at hH
  simp only [wpA_region, wpA_seq, seqQ_normal, goI_out, goI_ops, opsA_nil, opsA_cons, stepA_move, stepA_assign, stepA_box, stepA_len, thenH_some, eval_tmp, eval_const, put_some, enterF_zero, enterF_succ, absV_int, absV_bool, aBox_eq, Nat.reduceEqDiff, reduceCtorEq, Option.map_some, if_true, if_false, cx]
  rw [← hH]
  clear hH
  have hple := pos3_le l x
  simp only [wpA_region, wpA_seq, wpA_block, wpA_loop, seqQ_normal, goI_out, goI_ops, opsA_nil, opsA_cons, stepA_move, stepA_assign, thenV_some, eval_tmp, eval_const, put_some, enterF_succ, absV_int, Nat.reduceEqDiff, if_true, if_false, hlen]
  refine SWp.loopG (α := Nat × Nat) (fun z f h' => h' = H ∧ f 0 = v ∧ f 2 = .func (.func 254) [] [] ∧ f 4 = .ptr h.n 0 ∧ f 8 = .int .i64 (l.length : Nat) ∧ f 9 = .int .i64 (z.1 : Nat) ∧ f 10 = .int .i64 (z.2 : Nat) ∧ z.1 ≤ pos3 l x ∧ pos3 l x ≤ z.2 ∧ z.2 ≤ l.length) (fun z => z.2 - z.1) (0, l.length)
    ⟨rfl, rfl, rfl, rfl, rfl, rfl, rfl, Nat.zero_le _, hple, Nat.le_refl _⟩ ?_
  rintro ⟨lo, hi⟩ f h' ⟨rfl, f0, f2, f4, f8, f9, f10, a1, a2, a3⟩
  simp only at f9 f10 a1 a2 a3
  refine wpI_sound (by kernel_rfl) ?_
  by_cases hlt : lo < hi
  · have d1 : decide ((lo : Int) < (hi : Int)) = true := decide_eq_true (by omega)
    have w1 : IntKind.i64.wrap ((lo : Int) + (hi : Int)) = ((lo + hi : Nat) : Int) := by rw [Go.IntWalk.i64_in _ (by omega)]; omega
    have w2 := nat_u64 (n := lo + hi) (by omega)
    have w3 : (((lo + hi : Nat) : Int)).fdiv (2 ^ (min (Int.toNat 1) IntKind.u64.bits)) = (((lo + hi) / 2 : Nat) : Int) := by
      rw [show (2 : Int) ^ (min (Int.toNat 1) IntKind.u64.bits) = 2 from rfl, Int.fdiv_eq_ediv_of_nonneg _ (by omega)]; omega
    have w4 := nat_i64 (n := (lo + hi) / 2) (by omega)
    have w5 := inc64 (i := (lo + hi) / 2) (n := l.length) (by omega) (by omega)
    have hmid : (lo + hi) / 2 < l.length := by omega
    have hp : l[(lo + hi) / 2]? = some l[(lo + hi) / 2] := List.getElem?_eq_getElem hmid
    generalize l[(lo + hi) / 2] = p at hp
    obtain ⟨j, r, x1, x2, x3, x4, _⟩ := srow oH hp
    have ld := ses_ld p r
    have hpok := hok p (List.mem_of_getElem? hp)
    simp only [wpA_skip, wpA_region, wpA_seq, wpA_cond, wpA_block, wpA_draw, condI_true, seqQ_normal, goI_out, goI_ops, opsA_nil, opsA_cons, stepA_move, stepA_assign, stepA_binOp, stepA_convert, thenV_some, thenC_some, eval_tmp, eval_const, put_some, aBin_add, aBin_lss, absV_int, Nat.reduceEqDiff, if_true, if_false, f9, f10, d1, w1, aConv_int it_3 it_312, w2, aBin_shr (show (0 : Int) ≤ 1 by decide), w3, aConv_int it_312 it_3, w4]
    refine SWp.drawnS none_ [] (.q 0 (.q 1 (.q 2 (.q 3 (.q 4 (.q 5 (.c 6 (.q 7 .done)))))))) (by kernel_rfl) (by kernel_rfl) (by kernel_rfl) ?_
    simp only [siI_q, sqI_some, mOk_none', implies_true, qI_nil, qI_cons, thenQ_some, q_move, q_load, q_indexAddr, goI_mk, eval_tmp, put_some, aLoad_eq, aPlace_ptr, List.getElem?_cons_zero, List.getElem?_cons_succ, Nat.reduceEqDiff, reduceCtorEq, true_and, if_true, if_false, lt_292, f0, f2, f4, x1, x4, ld, gH, dx, ldx]
    refine siI_c rfl rfl rfl (fun h' _ => pInOrd p x hpok hx h') ?_
    have hc := cfS_lt p x
    cases hp2 : decide (lt3 p x)
    · rw [hp2] at hc
      have hn : ¬ lt3 p x := of_decide_eq_false hp2
      have : ¬ (lo + hi) / 2 < pos3 l x := fun hh => hn (hs.lt_pos hh hp)
      simp only [siI_done, siI_q, sqI_some, mOk_none', implies_true, qI_nil, qI_cons, thenQ_some, q_binOp, wpA_region, wpA_cond, condI_false, seqQ_normal, blkQ_normal, endI_mk, andThen_normal, goI_out, goI_ops, goI_mk, opsA_nil, opsA_cons, stepA_move, stepA_assign, eval_tmp, eval_const, put_some, aBin_lss, absV_int, List.getElem?_cons_zero, List.getElem?_cons_succ, Nat.reduceEqDiff, true_and, if_true, if_false, hc]
      exact hid_mk ⟨(lo, (lo + hi) / 2), ⟨rfl, f0, f2, f4, f8, f9, rfl, a1, by simp only; omega, by simp only; omega⟩, by simp only; omega⟩
    · rw [hp2] at hc
      have hn : lt3 p x := of_decide_eq_true hp2
      have : ¬ pos3 l x ≤ (lo + hi) / 2 := fun hh => hs.ge_pos hh hp hn
      simp only [siI_done, siI_q, sqI_some, mOk_none', implies_true, qI_nil, qI_cons, thenQ_some, q_binOp, wpA_region, wpA_cond, condI_true, seqQ_normal, blkQ_normal, endI_mk, andThen_normal, goI_out, goI_ops, goI_mk, opsA_nil, opsA_cons, stepA_move, stepA_assign, stepA_binOp, thenV_some, eval_tmp, eval_const, put_some, aBin_add, aBin_lss, absV_int, List.getElem?_cons_zero, List.getElem?_cons_succ, Nat.reduceEqDiff, true_and, if_true, if_false, hc, w5]
      exact hid_mk ⟨((lo + hi) / 2 + 1, hi), ⟨rfl, f0, f2, f4, f8, rfl, f10, by simp only; omega, a2, a3⟩, by simp only; omega⟩
  · have d1 : decide ((lo : Int) < (hi : Int)) = false := decide_eq_false (by omega)
    obtain rfl : lo = pos3 l x := by omega
    by_cases hend : pos3 l x < l.length
    · have d2 : decide (((pos3 l x : Nat) : Int) < ((l.length : Nat) : Int)) = true := decide_eq_true (by omega)
      have hp : l[pos3 l x]? = some l[pos3 l x] := List.getElem?_eq_getElem hend
      generalize l[pos3 l x] = p at hp
      obtain ⟨j, r, x1, x2, x3, x4, _⟩ := srow oH hp
      have ld := ses_ld p r
      have hpok := hok p (List.mem_of_getElem? hp)
      have hc := cfS_eq p x
      have hh : same3 p x = has3 l x := by
        rcases hs.at_pos x with ⟨e1, q, e2, e3, _⟩ | ⟨e1, e2⟩
        · rw [hp] at e2; cases e2; rw [e1, e3]
        · rw [e1]; exact (e2 p hp).2
      rw [hh] at hc
      simp only [wpA_region, wpA_seq, wpA_cond, wpA_exit, wpA_draw, condI_false, seqQ_normal, seqQ_exit, blkQ_exit, endI_mk, goE, andThen_exit, goI_out, goI_ops, opsA_nil, opsA_cons, stepA_move, stepA_binOp, thenV_some, eval_tmp, put_some, aBin_lss, Nat.reduceEqDiff, if_true, if_false, f9, f10, d1]
      refine SWp.drawnS none_ [] (.q 0 (.q 1 (.q 2 (.q 3 (.q 4 (.q 5 (.q 6 (.q 7 (.q 8 (.q 9 (.q 10 (.c 11 (.q 12 (.q 13 (.q 14 (.q 15 .done)))))))))))))))) (by kernel_rfl) (by kernel_rfl) (by kernel_rfl) ?_
      simp only [siI_q, sqI_some, mOk_none', implies_true, qI_nil, qI_cons, qI_guard, qgI_same, thenQ_some, q_move, q_load, q_binOp, q_indexAddr, goI_mk, slotAt_zero, slotAt_succ, eval_tmp, put_some, aBin_lss, aLoad_eq, aPlace_ptr, List.getElem?_cons_zero, List.getElem?_cons_succ, Nat.reduceEqDiff, reduceCtorEq, true_and, if_true, if_false, lt_292, f0, f2, f4, f8, f9, d2, x1, x4, ld, gH, dx, ldx]
      refine siI_c rfl rfl rfl (fun h' _ => pInOrd p x hpok hx h') ?_
      simp only [siI_done, siI_q, sqI_some, mOk_none', implies_true, qI_nil, qI_cons, qI_guard, qgI_same, thenQ_some, q_assign, q_pick, q_binOp, wpA_ret, seqQ_normal, endI_mk, goI_out, goI_mk, slotAt_zero, slotAt_succ, pickV_true, eval_tmp, eval_const, put_some, aBin_eql, absV_int, absV_bool, List.getElem?_cons_zero, List.getElem?_cons_succ, Nat.reduceEqDiff, true_and, if_true, if_false, hc, retA_ret, Tryz.results253, resultsA_2]
      exact hid_mk ⟨rfl, kH⟩
    · have d2 : decide (((pos3 l x : Nat) : Int) < ((l.length : Nat) : Int)) = false := decide_eq_false (by omega)
      have hh : has3 l x = false := by
        rcases hs.at_pos x with ⟨e1, q, e2, e3, _⟩ | ⟨e1, e2⟩
        · have := (List.getElem?_eq_some_iff.1 e2).1; omega
        · exact e1
      simp only [wpA_region, wpA_seq, wpA_cond, wpA_exit, wpA_draw, condI_false, seqQ_normal, seqQ_exit, blkQ_exit, endI_mk, goE, andThen_exit, goI_out, goI_ops, opsA_nil, opsA_cons, stepA_move, stepA_binOp, thenV_some, eval_tmp, put_some, aBin_lss, Nat.reduceEqDiff, if_true, if_false, f9, f10, d1]
      refine SWp.drawnS none_ [] (.q 0 (.q 1 (.q 2 (.q 3 (.q 4 (.q 5 (.q 6 (.q 7 (.q 8 (.q 9 (.q 10 (.c 11 (.q 12 (.q 13 (.q 14 (.q 15 .done)))))))))))))))) (by kernel_rfl) (by kernel_rfl) (by kernel_rfl) ?_
      simp only [siI_q, sqI_some, mOk_none', implies_true, qI_nil, qI_cons, qI_guard, qgI_ft, thenQ_some, q_move, q_binOp, goI_mk, slotAt_zero, slotAt_succ, eval_tmp, put_some, aBin_lss, List.getElem?_cons_zero, List.getElem?_cons_succ, Nat.reduceEqDiff, true_and, if_true, if_false, f8, f9, d2]
      refine siI_cskip rfl rfl ?_
      simp only [siI_done, siI_q, sqI_some, mOk_none', implies_true, qI_nil, qI_cons, qI_guard, qgI_ft, thenQ_some, q_assign, q_pick, wpA_ret, seqQ_normal, endI_mk, goI_out, goI_mk, slotAt_zero, slotAt_succ, pickV_false, eval_tmp, eval_const, put_some, absV_bool, List.getElem?_cons_zero, List.getElem?_cons_succ, Nat.reduceEqDiff, true_and, if_true, if_false, retA_ret, Tryz.results253, resultsA_2]
      exact hid_mk ⟨by rw [hh], kH⟩
end Go.Proofs.YtedkjhifbibpmaaGreatDoor.Pk
namespace Go.Proofs.YtedkjhifbibpmaaGreatDoor.Pk
open Go Go.Proofs Go.Proofs.YtedkjhifbibpmaaGreatDoor.Ab
set_option linter.unusedVariables false
set_option linter.unusedSimpArgs false
theorem lit1cS (h : AHeap) (c : Chg) : aBuildSlice Tryz.prog 35 1 [(0, .agg (chgE c))] h = some (.sl h.n 0 1 1, h.push (.cells (chgE c) 40 none)) := slice1 sl_35 rfl rfl (by decide)
theorem lit1s (h : AHeap) (c : Chg) : aBuildSlice Tryz.prog 273 1 [(0, .agg (sesE c))] h = some (.sl h.n 0 1 1, h.push (.cells (sesE c) 292 none)) := slice1 sl_273 rfl rfl (by decide)
/-- A store. -/
structure IsSes (h : AHeap) (i : Nat) (v : V) (room g : Int) (l : List Chg) : Prop where
  lt : i < h.n
  get : h.get i = .cells [.int .i64 room, .int .i64 g, v] 275 none
  own : Own h 292 3 v (l.flatMap sesE)
  ne : idOf v ≠ some i
  ss : SS l
  ok : ∀ x ∈ l, okS x
  len : l.length ≤ 1024
  g1 : 1 ≤ g
  g2 : g ≤ 2 ^ 20
section
variable {h h' : AHeap} {i : Nat} {v : V} {room g : Int} {l : List Chg}
theorem IsSes.rows (k : IsSes h i v room g l) : (l.flatMap sesE).length = l.length * 3 := rows_len sesE_len l
theorem IsSes.keep {own : Nat → Prop} (k : IsSes h i v room g l) (hk : Keep h h' own) (h1 : ¬ own i) (h2 : ∀ j, idOf v = some j → ¬ own j) : IsSes h' i v room g l :=
  ⟨Nat.lt_of_lt_of_le k.lt hk.n, (hk.get i k.lt h1).trans k.get, k.own.keep hk h2, k.ne, k.ss, k.ok, k.len, k.g1, k.g2⟩
theorem IsSes.keepN (k : IsSes h i v room g l) (hk : Keep h h' none_) : IsSes h' i v room g l := k.keep hk (by simp [none_]) (by simp [none_])
theorem IsSes.alen (k : IsSes h i v room g l) (H : AHeap) : aLen Tryz.prog 273 v H = some (.int .i64 (l.length : Nat)) := salen k.own
end
/-- What a store's call touches. -/
def sesO (i : Nat) (v : V) : Nat → Prop := fun q => q = i ∨ isId v q
set_option maxRecDepth 10000 in
theorem pFindS (h : AHeap) (i : Nat) (v : V) (room g : Int) (l : List Chg) (x : Chg) (hx : okS x) (k : IsSes h i v room g l) :
    Pure Tryz.prog 210 [.ptr i 0, .agg (sesE x)] h (.tuple [.int .i64 (pos3 l x : Nat), .bool (has3 l x)]) := by
  refine Pure.val (Clo.tuple (CloL.cons (Clo.int _ _) (CloL.cons (Clo.bool _) CloL.nil))) ?_
  refine SCalls.enterI (c := _) Tryz.func210 rfl (by kernel_rfl) (by simp) ?_
  obtain ⟨H, hH⟩ : ∃ y, y = h.push (.cells (sesE x) 292 none) := ⟨_, rfl⟩
  have gH : H.get h.n = .cells (sesE x) 292 none := by rw [hH]; exact get_push_new
  have kH : Keep h H none_ := by rw [hH]; exact Keep.push _ _ _
  have kk := k.keepN kH
  have hg := kk.get
  have cx := ses_cells x
  have ldx : loadGo (some (some 3)) (some (sesE x)) = some (.agg (sesE x)) := rfl
  have dx : dropC (AObj.cells (sesE x) 292 none) 0 = some (sesE x) := rfl
  unfold sesE at hH
  simp only [wpA_region, wpA_seq, wpA_draw, seqQ_normal, goI_out, goI_ops, opsA_nil, opsA_cons, stepA_assign, stepA_box, thenH_some, eval_tmp, eval_const, enterF_zero, enterF_succ, absV_int, absV_bool, aBox_eq, Option.map_some, cx]
  rw [← hH]
  clear hH
  refine SWp.drawnS none_ [] (.q 0 (.q 1 (.q 2 (.q 3 (.q 4 (.c 5 (.q 6 (.q 7 (.q 8 (.q 9 .done)))))))))) (by kernel_rfl) (by kernel_rfl) (by kernel_rfl) ?_
  simp only [siI_q, sqI_some, mOk_none', implies_true, qI_nil, qI_cons, thenQ_some, q_move, q_load, q_nilCheck, q_fieldAddr, goI_mk, nilV_ptr, eval_tmp, put_some, enterF_zero, enterF_succ, aField_eq, fieldGo_ptr, aLoad_eq, loadGo_one, aPlace_ptr, dropC_cells, List.getElem?_cons_zero, List.getElem?_cons_succ, Nat.reduceEqDiff, Nat.reduceAdd, Nat.reduceLeDiff, reduceCtorEq, Nat.zero_add, List.length_cons, List.length_nil, List.drop_zero, List.drop_succ_cons, true_and, if_true, if_false, ft_275_2, lt_273, lt_292, gH, hg, dx, ldx]
  refine siI_c rfl rfl rfl (fun h' hk => pBSF v l x h' (by rcases hk with hk | hk; exact kk.own.keepN hk; subst hk; exact kk.own) k.ss k.ok hx (by have := k.len; omega)) ?_
  simp only [siI_done, siI_q, sqI_some, mOk_none', implies_true, qI_nil, qI_cons, thenQ_some, q_assign, q_extract, wpA_ret, seqQ_normal, endI_mk, goI_out, goI_mk, extV_zero, extV_succ, eval_tmp, put_some, enterF_succ, List.getElem?_cons_zero, List.getElem?_cons_succ, Nat.reduceEqDiff, true_and, if_true, if_false, retA_ret, Tryz.results210, resultsA_2]
  exact hid_mk ⟨rfl, kH⟩
set_option maxHeartbeats 1000000 in
set_option maxRecDepth 10000 in
theorem sesRemove (h : AHeap) (i : Nat) (v : V) (room g : Int) (l : List Chg) (x : Chg) (hx : okS x) (hh : has3 l x = true) (k : IsSes h i v room g l) :
    SCalls Tryz.prog 176 [.ptr i 0, .agg (sesE x)] h (fun r h' => ∃ v', IsSes h' i v' room g (rm3 l x) ∧ Keep h h' (sesO i v) ∧ NewOr h v v') := by
  refine SCalls.enterI (c := _) Tryz.func176 rfl (by kernel_rfl) (by simp) ?_
  obtain ⟨H, hH⟩ : ∃ y, y = h.push (.cells (sesE x) 292 none) := ⟨_, rfl⟩
  have gH : H.get h.n = .cells (sesE x) 292 none := by rw [hH]; exact get_push_new
  have kH : Keep h H none_ := by rw [hH]; exact Keep.push _ _ _
  have nH : H.n = h.n + 1 := by rw [hH]; rfl
  have kk := k.keepN kH
  have hg := kk.get
  have cx := ses_cells x
  have ldx : loadGo (some (some 3)) (some (sesE x)) = some (.agg (sesE x)) := rfl
  have dx : dropC (AObj.cells (sesE x) 292 none) 0 = some (sesE x) := rfl
  have hin := k.lt
  unfold sesE at hH
  simp only [wpA_region, wpA_seq, seqQ_normal, goI_out, goI_ops, opsA_nil, opsA_cons, stepA_move, stepA_box, stepA_load, stepA_call, thenV_some, thenH_some, eval_tmp, put_some, enterF_zero, enterF_succ, aLoad_eq, loadGo_row, aPlace_ptr, dropC_cells, aBox_eq, get_push_new, Nat.reduceEqDiff, Nat.reduceAdd, reduceCtorEq, List.map_cons, List.map_nil, Option.map_some, Nat.zero_add, Nat.zero_le, List.length_cons, List.length_nil, List.drop_zero, List.take_succ_cons, List.take_nil, if_true, if_false, Nat.le_refl, lt_292, cx]
  rw [← hH]
  clear hH
  refine callI_pure cal210 (pFindS H i v room g l x hx kk) ?_
  rcases k.ss.at_pos x with ⟨e1, p, e2, e3, e4⟩ | ⟨e1, e2⟩
  rotate_left
  · rw [hh] at e1; cases e1
  have hlt := (List.getElem?_eq_some_iff.1 e2).1
  have hw := inc64 hlt (by have := k.len; omega)
  simp only [wpA_region, seqQ_normal, goI_out, goI_ops, opsA_nil, opsA_cons, stepA_move, stepA_assign, stepA_load, stepA_nilCheck, stepA_binOp, stepA_fieldAddr, stepA_extract, stepA_call, thenV_some, nilV_ptr, extV_zero, extV_succ, eval_tmp, eval_const, put_some, enterF_zero, enterF_succ, aBin_add, absV_int, aField_eq, fieldGo_ptr, aLoad_eq, loadGo_one, aPlace_ptr, dropC_cells, Nat.reduceEqDiff, Nat.reduceAdd, Nat.reduceLeDiff, reduceCtorEq, List.map_cons, List.map_nil, Nat.zero_add, List.length_cons, List.length_nil, List.drop_zero, List.drop_succ_cons, if_true, if_false, ft_275_2, lt_273, hg, hw]
  refine callI_of cal211 (deleteCZ v (pos3 l x) (l.flatMap sesE) H kk.own (by rw [k.rows]; have := k.len; omega) (by rw [k.rows]; omega) (rows_one sesE_one l)) fun r h3 ⟨o3, k3, d3⟩ => ?_
  have hrow : (l.flatMap sesE).take (pos3 l x * 3) ++ (l.flatMap sesE).drop ((pos3 l x + 1) * 3) = (rm3 l x).flatMap sesE := by
    rw [rows_take sesE_len, rows_drop sesE_len, k.ss.rm hh]; simp
  rw [hrow] at o3
  have gi3 := (k3.get i (by omega) (fun hh => k.ne hh)).trans hg
  have one_r : r.one = true := by
    rcases o3 with ⟨rfl | rfl, _⟩ | ⟨_, _, _, _, _, rfl, _⟩ <;> rfl
  have cell_r : r.cells = some [r] := by
    rcases o3 with ⟨rfl | rfl, _⟩ | ⟨_, _, _, _, _, rfl, _⟩ <;> rfl
  have hset : setC (some 1) (AObj.cells [V.int .i64 room, V.int .i64 g, v] 275 none) 2 [r] = some (.cells [.int .i64 room, .int .i64 g, r] 275 none) := by rw [setC_one one_r]; rfl
  have n3 := k3.n
  simp only [endI_mk, goI_out, goI_ops, opsA_nil, opsA_cons, stepA_store, stepA_nilCheck, stepA_fieldAddr, thenV_some, thenS_some, nilV_ptr, eval_tmp, put_some, enterF_succ, aField_eq, fieldGo_ptr, aStore_eq, storeGo_ptr, Nat.reduceEqDiff, Option.map_some, Nat.zero_add, if_true, if_false, ft_275_2, zt_273, gi3, cell_r, hset, retA_normal, Tryz.results176, resultsA_0]
  have hri : idOf r ≠ some i := fun hh => by
    rcases d3 with d3 | d3
    · rw [d3] at hh; exact k.ne hh
    · have := d3 i hh; omega
  have k4 : Keep h3 (h3.set i (.cells [V.int .i64 room, V.int .i64 g, r] 275 none)) (fun q => q = i) := Keep.set _ _ _
  refine hid_mk ⟨r, ⟨by rw [set_n]; omega, get_set_same, o3.keep k4 fun q hq hh => hri (by rw [hq, hh]), hri, k.ss.filter _, fun y hy => k.ok y (List.mem_filter.1 hy).1, ?_, k.g1, k.g2⟩, ?_, ?_⟩
  · have := len_rm3 k.ss hh; have := k.len; omega
  · exact ((kH.up (o := sesO i v)).trans k3 fun q hq hh => .inr hh).trans k4 fun q hq hh => .inl hh
  · rcases d3 with d3 | d3
    · exact .inl d3
    · exact .inr fun q hq => by have := d3 q hq; omega
set_option maxHeartbeats 1000000 in
set_option maxRecDepth 10000 in
theorem sesInsert (h : AHeap) (i : Nat) (v : V) (room g : Int) (l : List Chg) (x : Chg) (hx : okS x) (hh : has3 l x = false) (hlen : l.length < 1024) (k : IsSes h i v room g l) :
    SCalls Tryz.prog 177 [.ptr i 0, .agg (sesE x)] h (fun r h' => ∃ v', IsSes h' i v' room g (ins3 l x) ∧ Keep h h' (sesO i v) ∧ NewOr h v v') := by
  refine SCalls.enterI (c := _) Tryz.func177 rfl (by kernel_rfl) (by simp) ?_
  obtain ⟨H, hH⟩ : ∃ y, y = h.push (.cells (sesE x) 292 none) := ⟨_, rfl⟩
  have gH : H.get h.n = .cells (sesE x) 292 none := by rw [hH]; exact get_push_new
  have kH : Keep h H none_ := by rw [hH]; exact Keep.push _ _ _
  have nH : H.n = h.n + 1 := by rw [hH]; rfl
  have kk := k.keepN kH
  have hg := kk.get
  have cx := ses_cells x
  have ldx : loadGo (some (some 3)) (some (sesE x)) = some (.agg (sesE x)) := rfl
  have dx : dropC (AObj.cells (sesE x) 292 none) 0 = some (sesE x) := rfl
  have hin := k.lt
  unfold sesE at hH
  simp only [wpA_region, wpA_seq, seqQ_normal, goI_out, goI_ops, opsA_nil, opsA_cons, stepA_move, stepA_box, stepA_load, stepA_call, thenV_some, thenH_some, eval_tmp, put_some, enterF_zero, enterF_succ, aLoad_eq, loadGo_row, aPlace_ptr, dropC_cells, aBox_eq, get_push_new, Nat.reduceEqDiff, Nat.reduceAdd, reduceCtorEq, List.map_cons, List.map_nil, Option.map_some, Nat.zero_add, Nat.zero_le, List.length_cons, List.length_nil, List.drop_zero, List.take_succ_cons, List.take_nil, if_true, if_false, Nat.le_refl, lt_292, cx]
  rw [← hH]
  clear hH
  refine callI_pure cal210 (pFindS H i v room g l x hx kk) ?_
  simp only [wpA_draw, seqQ_normal, goI_out, goI_ops, opsA_nil, opsA_cons, stepA_move, stepA_assign, stepA_extract, thenV_some, extV_zero, extV_succ, eval_tmp, put_some, enterF_succ, Nat.reduceEqDiff, if_true, if_false]
  have f1 : isId v i = False := eq_false fun hh => k.ne hh
  have f2 : isId v h.n = False := eq_false fun hh => by have := k.own.lt _ hh; omega
  obtain ⟨H2, hH2⟩ : ∃ y, y = H.push (.cells (sesE x) 292 none) := ⟨_, rfl⟩
  have k2 : Keep H H2 none_ := by rw [hH2]; exact Keep.push _ _ _
  have n2 : H2.n = H.n + 1 := by rw [hH2]; rfl
  have q2 : H2.get H.n = .cells (sesE x) 292 none := by rw [hH2]; exact get_push_new
  have kk2 := kk.keepN k2
  have hlit := lit1s H x
  rw [← hH2] at hlit
  refine SWp.drawnS (fun x => isId v x) [7, 8, 11] (.q 0 (.q 1 (.q 2 (.q 3 (.q 4 (.q 5 (.q 6 (.e 7 (.e 8 (.q 9 (.q 10 (.a 11 .done))) .stop) .stop)))))))) (by kernel_rfl) (by kernel_rfl) (by kernel_rfl) ?_
  simp only [mOk_move, mOk_nilCheck, mOk_fieldAddr, mOk_load, mOkV_ptr, nne2, nne3, nne4, nne1', nne2', nne3', not_false_eq_true, siI_stop, siI_q, siI_e, sqI_some, seI_some, implies_true, qI_nil, qI_cons, thenQ_some, q_move, q_load, q_nilCheck, q_fieldAddr, goI_ops, goI_mk, opsA_nil, opsA_cons, stepA_buildSlice, stepA_call, thenH_some, nilV_ptr, eval_tmp, put_some, enterF_zero, enterF_succ, aField_eq, fieldGo_ptr, aLoad_eq, loadGo_one, aPlace_ptr, dropC_cells, List.getElem?_cons_zero, List.getElem?_cons_succ, Nat.reduceEqDiff, Nat.reduceAdd, Nat.reduceLeDiff, reduceCtorEq, List.map_cons, List.map_nil, Nat.zero_add, List.length_cons, List.length_nil, List.drop_zero, List.drop_succ_cons, and_true, true_and, if_true, if_false, ft_275_2, lt_273, lt_292, gH, hg, dx, ldx, f1, f2, hlit]
  refine ⟨k2.up, ?_⟩
  refine callI_of cal212 (insertCZ v (pos3 l x) H.n (l.flatMap sesE) (sesE x) H2 kk2.own (by rw [k.rows]; have := k.len; omega) (by rw [k.rows]; have := pos3_le l x; omega) q2 (by omega) (fun hh => by have := k.own.lt _ hh; omega) rfl rfl (rows_one sesE_one l)) fun r h3 ⟨o3, k3, d3⟩ => ?_
  have hrow : (l.flatMap sesE).take (pos3 l x * 3) ++ sesE x ++ (l.flatMap sesE).drop (pos3 l x * 3) = (ins3 l x).flatMap sesE := by
    rw [rows_take sesE_len, rows_drop sesE_len, k.ss.ins]; simp
  rw [hrow] at o3
  have gi3 := (k3.get i (by omega) (by rw [f1]; exact id)).trans kk2.get
  have one_r : r.one = true := by
    rcases o3 with ⟨rfl | rfl, _⟩ | ⟨_, _, _, _, _, rfl, _⟩ <;> rfl
  have cell_r : r.cells = some [r] := by
    rcases o3 with ⟨rfl | rfl, _⟩ | ⟨_, _, _, _, _, rfl, _⟩ <;> rfl
  have hset : setC (some 1) (AObj.cells [V.int .i64 room, V.int .i64 g, v] 275 none) 2 [r] = some (.cells [.int .i64 room, .int .i64 g, r] 275 none) := by rw [setC_one one_r]; rfl
  have kH3 : Keep H h3 (fun x => isId v x) := (k2.up).trans' k3
  have n3 := k3.n
  simp only [mOk_nilCheck, mOk_fieldAddr, nne2, nne3, nne4, nne1', nne2', nne3', siI_done, siI_q, siI_a, sqI_some, saI_some, implies_true, qI_nil, qI_cons, thenQ_some, q_nilCheck, q_fieldAddr, endI_mk, goI_out, goI_ops, goI_mk, opsA_nil, opsA_cons, stepA_store, thenS_some, nilV_ptr, eval_tmp, put_some, enterF_succ, aField_eq, fieldGo_ptr, aStore_eq, storeGo_ptr, List.getElem?_cons_zero, List.getElem?_cons_succ, Bool.false_eq_true, Nat.reduceEqDiff, Option.map_some, Nat.zero_add, true_and, if_true, if_false, ft_275_2, zt_273, gi3, cell_r, hset, kH3, retA_normal, Tryz.results177, resultsA_0]
  have hri : idOf r ≠ some i := fun hh => by
    rcases d3 with d3 | d3
    · rw [d3] at hh; exact k.ne hh
    · have := d3 i hh; omega
  have k4 : Keep h3 (h3.set i (.cells [V.int .i64 room, V.int .i64 g, r] 275 none)) (fun q => q = i) := Keep.set _ _ _
  refine hid_mk ⟨r, ⟨by rw [set_n]; omega, get_set_same, o3.keep k4 fun q hq hh => hri (by rw [hq, hh]), hri, k.ss.insS hh, fun y hy => ?_, ?_, k.g1, k.g2⟩, ?_, ?_⟩
  · rcases mem_ins3.1 hy with rfl | hy
    · exact hx
    · exact k.ok y hy
  · rw [k.ss.len_ins]; omega
  · exact ((kH.up (o := sesO i v)).trans kH3 fun q hq hh => .inr hh).trans k4 fun q hq hh => .inl hh
  · rcases d3 with d3 | d3
    · exact .inl d3
    · exact .inr fun q hq => by have := d3 q hq; omega
end Go.Proofs.YtedkjhifbibpmaaGreatDoor.Pk
namespace Go.Proofs.YtedkjhifbibpmaaGreatDoor.Pk
open Go Go.Proofs Go.Proofs.YtedkjhifbibpmaaGreatDoor.Ab
set_option linter.unusedVariables false
set_option linter.unusedSimpArgs false
set_option maxRecDepth 10000 in
theorem sesNew (room g : Int) (h1 : 1 ≤ room) (h2 : room ≤ 1024) (h3 : 1 ≤ g) (h4 : g ≤ 2 ^ 20) (h : AHeap) :
    SCalls Tryz.prog 108 [.int .i64 room, .int .i64 g] h (fun r h' => r = .tuple [.ptr h.n 0, .int .i64 0] ∧ h' = h.push (.cells [.int .i64 room, .int .i64 g, .snil] 275 none)) := by
  refine SCalls.enterI (c := _) Tryz.func108 rfl (by kernel_rfl) (by simp) ?_
  have d1 : decide (room < 1) = false := decide_eq_false (by omega)
  have d2 : decide (1024 < room) = false := decide_eq_false (by omega)
  have d3 : decide (g < 1) = false := decide_eq_false (by omega)
  have d4 : decide (1048576 < g) = false := decide_eq_false (by omega)
  simp only [wpA_skip, wpA_region, wpA_seq, wpA_cond, wpA_ret, condI_false, seqQ_normal, endI_mk, goI_out, goI_ops, opsA_nil, opsA_cons, opsA_guardS, gvI_same, slotAt_zero, slotAt_succ, stepA_move, stepA_assign, stepA_pick, stepA_box, stepA_build, stepA_binOp, thenV_some, thenH_some, pickV_false, eval_tmp, eval_const, put_some, enterF_zero, enterF_succ, aBin_lss, aBin_gtr, absV_int, absV_bool, absV_pnil, cells_int, cells_agg, setAll_nil, setAll_cons, aBox_eq, aBuild_go, aFill_nil, aFill_cons, fillGo_some, buildGo_struct, List.getElem?_cons_zero, List.getElem?_cons_succ, Nat.reduceEqDiff, Nat.reduceAdd, Nat.reduceLeDiff, reduceCtorEq, List.map_cons, List.map_nil, Option.map_some, Nat.zero_add, List.length_cons, List.length_nil, List.set_cons_zero, List.set_cons_succ, and_self, if_true, if_false, pl_275, zc_275, d1, d2, d3, d4, retA_ret, Tryz.results108, resultsA_2]
  exact hid_mk ⟨rfl, rfl⟩
theorem IsSes.new {h : AHeap} {room g : Int} (h3 : 1 ≤ g) (h4 : g ≤ 2 ^ 20) : IsSes (h.push (.cells [.int .i64 room, .int .i64 g, .snil] 275 none)) h.n .snil room g [] :=
  ⟨Nat.lt_succ_self _, get_push_new, Own.snil _ _ _, by simp [idOf], List.Pairwise.nil, by simp, by simp, h3, h4⟩
theorem ses_ldc (p : Chg) : (if 3 ≤ (sesE p).length then some (V.agg (List.take 3 (sesE p))) else none) = some (.agg (sesE p)) := rfl
theorem ses_st (p : Chg) : setC (some 3) (AObj.cells [V.int .i64 0, V.complex .f64 0 0, V.int .i64 0] 292 none) 0 (sesE p) = some (.cells (sesE p) 292 none) := rfl
theorem ses_cellsE (p : Chg) : (V.agg (sesE p)).cells = some (sesE p) := rfl
set_option maxHeartbeats 1000000 in
set_option maxRecDepth 10000 in
theorem sesList (h : AHeap) (i : Nat) (v : V) (room g : Int) (l : List Chg) (k : IsSes h i v room g l) : Pure Tryz.prog 306 [.ptr i 0] h (.imm l.length (l.flatMap chgE)) := by
  refine Pure.acc (rows_clo chgE_clo _) (rows_len chgE_len _) (by decide) (e := 40) (sz := 5) ?_
  refine SCalls.enterI (c := _) Tryz.func306 rfl (by kernel_rfl) (by simp) ?_
  have hg := k.get
  have hl := k.alen h
  have l40 := k.len
  simp only [wpA_skip, wpA_region, wpA_seq, wpA_cond, wpA_block, wpA_loop, condI_false, seqQ_normal, goI_out, goI_ops, opsA_nil, opsA_cons, stepA_move, stepA_assign, stepA_load, stepA_nilCheck, stepA_binOp, stepA_fieldAddr, stepA_len, thenV_some, nilV_ptr, eval_tmp, eval_const, put_some, enterF_zero, enterF_succ, ptr_nil_eql, absV_int, absV_pnil, absV_snil, aField_eq, fieldGo_ptr, aLoad_eq, loadGo_one, aPlace_ptr, dropC_cells, Nat.reduceEqDiff, Nat.reduceAdd, Nat.reduceLeDiff, reduceCtorEq, Nat.zero_add, List.length_cons, List.length_nil, List.drop_zero, List.drop_succ_cons, if_true, if_false, ft_275_2, kt_200, lt_273, hg, hl]
  refine SWp.loopG (α := Nat × V) (fun x f h' => f 3 = x.2 ∧ f 11 = v ∧ f 12 = .int .i64 (l.length : Nat) ∧ f 13 = .int .i64 (x.1 : Nat) ∧ x.1 ≤ l.length ∧ Acc h h' 40 5 x.2 ((l.take x.1).flatMap chgE)) (fun x => l.length - x.1) (0, .snil)
    ⟨rfl, rfl, rfl, rfl, Nat.zero_le _, Acc.nil (Keep.refl _ _)⟩ ?_
  rintro ⟨t, s⟩ f h1 ⟨f3, f11, f12, f13, ht, acc⟩
  simp only at f3 f13 ht acc
  refine wpI_sound (by kernel_rfl) ?_
  by_cases hlt : t < l.length
  · have d1 : decide ((t : Int) < ((l.length : Nat) : Int)) = true := decide_eq_true (by omega)
    have hw := inc64 hlt (by omega)
    have k1 := k.keepN acc.keep
    have hp : l[t]? = some l[t] := List.getElem?_eq_getElem hlt
    have ht1 : l.take (t + 1) = l.take t ++ [l[t]] := List.take_succ_eq_append_getElem hlt
    generalize l[t] = p at hp ht1
    obtain ⟨j, r, x1, x2, x3, x4, _⟩ := srow k1.own hp
    have hpok := k.ok p (List.mem_of_getElem? hp)
    have ld := ses_ld p r
    have cr := ses_cellsE p
    have ldc := ses_ldc p
    have st := ses_st p
    have acc2 := acc.on (Keep.push h1 (.cells (sesE p) 292 none) none_)
    obtain ⟨s', h2, ea, a2⟩ := acc2.elemM sl_35 (by decide) (xs := chgE p) rfl rfl (fun m hm => by
      change m * 5 = _ + 5 at hm
      rw [rows_len chgE_len] at hm
      simp only [List.length_take] at hm
      exact ⟨by simp only [lim]; omega, by simp only [lim]; omega⟩)
    simp only [wpA_skip, wpA_region, wpA_seq, wpA_cond, wpA_block, condI_true, seqQ_normal, goI_out, goI_ops, opsA_nil, opsA_cons, stepA_move, stepA_alloc, stepA_load, stepA_store, stepA_binOp, stepA_indexAddr, stepA_call, thenV_some, thenH_some, thenS_some, eval_tmp, put_some, put_none, aBin_lss, aLoad_eq, loadGo_row, aPlace_ptr, dropC_cells, aStore_eq, storeGo_ptr, aAlloc_eq, get_push_new, set_push, Nat.reduceEqDiff, List.map_cons, List.map_nil, Option.map_some, Nat.zero_le, List.drop_zero, if_true, if_false, lt_292, zc_292, zt_292, f3, f11, f12, f13, d1, x1, x4, ld, cr, st, ldc]
    refine callI_pure cal171 (pSet p hpok _) ?_
    have hlit := lit1cS (h1.push (.cells (sesE p) 292 none)) p
    rw [push_n] at ea
    simp only [wpA_region, seqQ_normal, blkQ_normal, endI_mk, andThen_normal, goI_out, goI_ops, opsA_nil, opsA_cons, stepA_move, stepA_assign, stepA_buildSlice, stepA_binOp, stepA_append, thenV_some, thenH_some, eval_tmp, eval_const, put_some, put_none, aBin_add, absV_int, push_n, Nat.reduceEqDiff, List.map_cons, List.map_nil, if_true, if_false, f13, hlit, ea, hw]
    refine hid_mk ⟨(t + 1, s'), ⟨rfl, f11, f12, rfl, hlt, a2.conv ?_⟩, by simp only; omega⟩
    rw [ht1, List.flatMap_append]
    simp
  · have d1 : decide ((t : Int) < ((l.length : Nat) : Int)) = false := decide_eq_false (by omega)
    rw [List.take_of_length_le (by omega)] at acc
    simp only [wpA_region, wpA_seq, wpA_cond, wpA_exit, wpA_ret, condI_false, seqQ_normal, seqQ_exit, blkQ_exit, endI_mk, goE, andThen_exit, goI_out, goI_ops, opsA_nil, opsA_cons, stepA_move, stepA_assign, stepA_binOp, thenV_some, eval_tmp, put_some, aBin_lss, Nat.reduceEqDiff, if_true, if_false, f3, f12, f13, d1, retA_ret, Tryz.results306, resultsA_1]
    exact hid_mk acc
/-! ### Find -/
def foundT (g : Int) (l : List Chg) (k t : Int) : List Chg := if mayT t = true then found g l k t else []
theorem found_snoc (g : Int) (l : List Chg) (k t : Int) (p : Chg) : found g (l ++ [p]) k t = found g l k t ++ (if touch g k t p = true then [p] else []) := by
  unfold found
  rw [List.filter_append]
  cases h : touch g k t p <;> simp [h]
theorem found_le (g : Int) (l : List Chg) (k t : Int) : (found g l k t).length ≤ l.length := List.length_filter_le ..
set_option maxHeartbeats 2000000 in
set_option maxRecDepth 10000 in
theorem sesFind (h : AHeap) (i : Nat) (v : V) (room g key time : Int) (l : List Chg) (k : IsSes h i v room g l) : Pure Tryz.prog 118 [.ptr i 0, .int .i64 key, .int .i64 time] h (.imm (foundT g l key time).length ((foundT g l key time).flatMap chgE)) := by
  refine Pure.acc (rows_clo chgE_clo _) (rows_len chgE_len _) (by decide) (e := 40) (sz := 5) ?_
  refine SCalls.enterI (c := _) Tryz.func118 rfl (by kernel_rfl) (by simp) ?_
  have hg := k.get
  have hl := k.alen h
  have l40 := k.len
  simp only [wpA_region, wpA_seq, seqQ_normal, goI_out, goI_ops, opsA_nil, opsA_cons, opsA_guardS, gvI_same, slotAt_zero, slotAt_succ, stepA_move, stepA_assign, stepA_binOp, stepA_call, thenV_some, eval_tmp, eval_const, put_some, enterF_zero, enterF_succ, ptr_nil_eql, absV_pnil, absV_snil, Nat.reduceEqDiff, reduceCtorEq, List.map_cons, List.map_nil, if_true, if_false, kt_200]
  refine callI_pure cal169 (pMayT time h) ?_
  unfold foundT
  cases hmt : mayT time
  · simp only [wpA_region, wpA_seq, wpA_cond, wpA_ret, condI_true, seqQ_normal, seqQ_ret, endI_mk, goI_out, goI_ops, opsA_nil, opsA_cons, opsA_guardS, gvI_same, slotAt_zero, slotAt_succ, stepA_assign, stepA_pick, stepA_unOp, thenV_some, pickV_false, eval_tmp, eval_const, put_some, enterF_succ, aUn_not, absV_bool, absV_snil, Nat.reduceEqDiff, if_true, if_false, Bool.not_false, retA_ret, Tryz.results118, resultsA_1]
    exact hid_mk (Acc.nil (Keep.refl _ _))
  have hti := mayT_iff.1 hmt
  rw [if_pos rfl]
  simp only [wpA_skip, wpA_region, wpA_seq, wpA_cond, wpA_block, wpA_loop, condI_false, seqQ_normal, goI_out, goI_ops, opsA_nil, opsA_cons, opsA_guardS, gvI_same, slotAt_zero, slotAt_succ, stepA_move, stepA_assign, stepA_pick, stepA_load, stepA_nilCheck, stepA_unOp, stepA_fieldAddr, stepA_len, thenV_some, pickV_false, nilV_ptr, eval_tmp, eval_const, put_some, enterF_zero, enterF_succ, aUn_not, absV_int, absV_bool, absV_snil, aField_eq, fieldGo_ptr, aLoad_eq, loadGo_one, aPlace_ptr, dropC_cells, Nat.reduceEqDiff, Nat.reduceAdd, Nat.reduceLeDiff, reduceCtorEq, Nat.zero_add, List.length_cons, List.length_nil, List.drop_zero, List.drop_succ_cons, if_true, if_false, Bool.not_true, ft_275_2, lt_273, hg, hl]
  refine SWp.loopG (α := Nat × V) (fun x f h' => f 0 = .ptr i 0 ∧ f 1 = .int .i64 key ∧ f 2 = .int .i64 time ∧ f 7 = x.2 ∧ f 20 = v ∧ f 21 = .int .i64 (l.length : Nat) ∧ f 22 = .int .i64 (x.1 : Nat) ∧ x.1 ≤ l.length ∧ Acc h h' 40 5 x.2 ((found g (l.take x.1) key time).flatMap chgE)) (fun x => l.length - x.1) (0, .snil)
    ⟨rfl, rfl, rfl, rfl, rfl, rfl, rfl, Nat.zero_le _, Acc.nil (Keep.refl _ _)⟩ ?_
  rintro ⟨t, s⟩ f h1 ⟨f0, f1, f2, f7, f20, f21, f22, ht, acc⟩
  simp only at f7 f22 ht acc
  refine wpI_sound (by kernel_rfl) ?_
  by_cases hlt : t < l.length
  · have d1 : decide ((t : Int) < ((l.length : Nat) : Int)) = true := decide_eq_true (by omega)
    have hw := inc64 hlt (by omega)
    have k1 := k.keepN acc.keep
    have hp : l[t]? = some l[t] := List.getElem?_eq_getElem hlt
    have ht1 : l.take (t + 1) = l.take t ++ [l[t]] := List.take_succ_eq_append_getElem hlt
    have hfs := found_snoc g (l.take t) key time l[t]
    rw [← ht1] at hfs
    generalize l[t] = p at hp ht1 hfs
    obtain ⟨j, r, x1, x2, x3, x4, _⟩ := srow k1.own hp
    have hpok := k.ok p (List.mem_of_getElem? hp)
    have ld := ses_ld p r
    have cr := ses_cellsE p
    have ldc := ses_ldc p
    have st := ses_st p
    have ck : loadGo (some none) (some (sesE p)) = some (.int .i64 p.key) := rfl
    obtain ⟨H, hH⟩ : ∃ y, y = h1.push (.cells (sesE p) 292 none) := ⟨_, rfl⟩
    have gH : H.get h1.n = .cells (sesE p) 292 none := by rw [hH]; exact get_push_new
    have kH : Keep h1 H none_ := by rw [hH]; exact Keep.push _ _ _
    have kk := k1.keepN kH
    have hg1 := kk.get
    have accH := acc.on kH
    have w1 : IntKind.i64.wrap (p.fr - g) = p.fr - g := Go.IntWalk.i64_in _ (by have := hpok.lo; have := hpok.le; have := hpok.hi; have := k.g1; have := k.g2; omega)
    have w2 : IntKind.i64.wrap (p.to + g) = p.to + g := Go.IntWalk.i64_in _ (by have := hpok.lo; have := hpok.le; have := hpok.hi; have := k.g1; have := k.g2; omega)
    simp only [wpA_skip, wpA_region, wpA_seq, wpA_cond, wpA_block, wpA_draw, condI_true, seqQ_normal, goI_out, goI_ops, opsA_nil, opsA_cons, stepA_alloc, stepA_load, stepA_store, stepA_binOp, stepA_indexAddr, thenV_some, thenH_some, thenS_some, eval_tmp, put_some, aBin_lss, aLoad_eq, aPlace_ptr, aStore_eq, storeGo_ptr, aAlloc_eq, get_push_new, set_push, Nat.reduceEqDiff, Option.map_some, if_true, if_false, lt_292, zc_292, zt_292, f20, f21, f22, d1, x1, x4, ld, cr, st]
    rw [← hH]
    cases e1 : (p.key == key)
    · have hn : touch g key time p = false := by
        cases e : touch g key time p
        · rfl
        · have := (touch_iff.1 e).1; simp at e1; omega
      rw [hn] at hfs
      simp only [Bool.false_eq_true, if_false, List.append_nil] at hfs
      refine SWp.drawnS none_ [] (.q 0 (.q 1 (.q 2 (.q 3 (.q 4 (.q 5 (.c 6 (.q 7 (.q 8 (.q 9 (.q 10 (.q 11 (.q 12 (.q 13 (.q 14 (.q 15 (.q 16 (.q 17 (.c 18 (.q 19 (.q 20 (.q 21 (.q 22 (.q 23 (.q 24 (.q 25 .done)))))))))))))))))))))))))) (by kernel_rfl) (by kernel_rfl) (by kernel_rfl) ?_
      simp only [siI_q, sqI_some, mOk_none', implies_true, qI_nil, qI_cons, qI_guard, qgI_ft, thenQ_some, q_move, q_load, q_binOp, q_fieldAddr, goI_mk, slotAt_zero, slotAt_succ, eval_tmp, put_some, put_none, aBin_eql, aField_eq, fieldGo_ptr, aLoad_eq, aPlace_ptr, dropC_cells, List.getElem?_cons_zero, List.getElem?_cons_succ, Nat.reduceEqDiff, Nat.add_zero, Nat.zero_le, List.drop_zero, true_and, if_true, if_false, ft_292_0, lt_2, f1, gH, ck, e1]
      refine siI_cskip rfl rfl ?_
      simp only [siI_q, sqI_some, mOk_none', implies_true, qI_nil, qI_cons, qI_guard, qgI_ft, thenQ_some, q_move, q_pick, goI_mk, slotAt_zero, slotAt_succ, pickV_false, eval_tmp, eval_const, put_some, put_none, absV_bool, List.getElem?_cons_zero, List.getElem?_cons_succ, Nat.reduceEqDiff, true_and, if_true, if_false]
      refine siI_cskip rfl rfl ?_
      simp only [siI_done, siI_q, sqI_some, mOk_none', implies_true, qI_nil, qI_cons, qI_guard, qgI_ft, thenQ_some, q_pick, wpA_skip, wpA_region, wpA_cond, condI_false, seqQ_normal, blkQ_normal, endI_mk, andThen_normal, goI_out, goI_ops, goI_mk, opsA_nil, opsA_cons, slotAt_zero, slotAt_succ, stepA_move, stepA_binOp, thenV_some, pickV_false, eval_tmp, eval_const, put_some, put_none, aBin_add, absV_int, absV_bool, List.getElem?_cons_zero, List.getElem?_cons_succ, Nat.reduceEqDiff, true_and, if_true, if_false, f22, hw]
      exact hid_mk ⟨(t + 1, s), ⟨f0, f1, f2, f7, f20, f21, rfl, hlt, by simp only; rw [hfs]; exact accH⟩, by simp only; omega⟩
    have e1' : p.key = key := by simpa using e1
    cases e2 : decide (p.fr - g ≤ time)
    · have hn : touch g key time p = false := by
        cases e : touch g key time p
        · rfl
        · have := (touch_iff.1 e).2.1; have := of_decide_eq_false e2; omega
      rw [hn] at hfs
      simp only [Bool.false_eq_true, if_false, List.append_nil] at hfs
      refine SWp.drawnS none_ [] (.q 0 (.q 1 (.q 2 (.q 3 (.q 4 (.q 5 (.c 6 (.q 7 (.q 8 (.q 9 (.q 10 (.q 11 (.q 12 (.q 13 (.q 14 (.q 15 (.q 16 (.q 17 (.c 18 (.q 19 (.q 20 (.q 21 (.q 22 (.q 23 (.q 24 (.q 25 .done)))))))))))))))))))))))))) (by kernel_rfl) (by kernel_rfl) (by kernel_rfl) ?_
      simp only [siI_q, sqI_some, mOk_none', implies_true, qI_nil, qI_cons, qI_guard, qgI_same, thenQ_some, q_move, q_load, q_binOp, q_fieldAddr, goI_mk, slotAt_zero, slotAt_succ, eval_tmp, put_some, put_none, aBin_eql, aField_eq, fieldGo_ptr, aLoad_eq, loadGo_row, aPlace_ptr, dropC_cells, List.getElem?_cons_zero, List.getElem?_cons_succ, Nat.reduceEqDiff, Nat.add_zero, Nat.zero_le, List.drop_zero, true_and, if_true, if_false, ft_292_0, lt_2, lt_292, f1, gH, ck, e1, ldc]
      refine siI_c rfl rfl rfl (fun h' _ => pFirstS p hpok h') ?_
      simp only [siI_q, sqI_some, mOk_none', implies_true, qI_nil, qI_cons, qI_guard, qgI_same, qgI_ft, thenQ_some, q_move, q_pick, q_load, q_nilCheck, q_binOp, q_fieldAddr, goI_mk, slotAt_zero, slotAt_succ, pickV_true, nilV_ptr, eval_tmp, eval_const, put_some, put_none, aBin_sub, aBin_leq, absV_bool, aField_eq, fieldGo_ptr, aLoad_eq, loadGo_one, aPlace_ptr, dropC_cells, List.getElem?_cons_zero, List.getElem?_cons_succ, Nat.reduceEqDiff, Nat.reduceAdd, Nat.reduceLeDiff, reduceCtorEq, Nat.zero_add, List.length_cons, List.length_nil, List.drop_zero, List.drop_succ_cons, true_and, if_true, if_false, ft_275_1, lt_2, f0, f2, hg1, w1, e2]
      refine siI_cskip rfl rfl ?_
      simp only [siI_done, siI_q, sqI_some, mOk_none', implies_true, qI_nil, qI_cons, qI_guard, qgI_ft, thenQ_some, q_pick, wpA_skip, wpA_region, wpA_cond, condI_false, seqQ_normal, blkQ_normal, endI_mk, andThen_normal, goI_out, goI_ops, goI_mk, opsA_nil, opsA_cons, slotAt_zero, slotAt_succ, stepA_move, stepA_binOp, thenV_some, pickV_false, eval_tmp, eval_const, put_some, put_none, aBin_add, absV_int, absV_bool, List.getElem?_cons_zero, List.getElem?_cons_succ, Nat.reduceEqDiff, true_and, if_true, if_false, f22, hw]
      exact hid_mk ⟨(t + 1, s), ⟨f0, f1, f2, f7, f20, f21, rfl, hlt, by simp only; rw [hfs]; exact accH⟩, by simp only; omega⟩
    cases e3 : decide (time ≤ p.to + g)
    · have hn : touch g key time p = false := by
        cases e : touch g key time p
        · rfl
        · have := (touch_iff.1 e).2.2; have := of_decide_eq_false e3; omega
      rw [hn] at hfs
      simp only [Bool.false_eq_true, if_false, List.append_nil] at hfs
      refine SWp.drawnS none_ [] (.q 0 (.q 1 (.q 2 (.q 3 (.q 4 (.q 5 (.c 6 (.q 7 (.q 8 (.q 9 (.q 10 (.q 11 (.q 12 (.q 13 (.q 14 (.q 15 (.q 16 (.q 17 (.c 18 (.q 19 (.q 20 (.q 21 (.q 22 (.q 23 (.q 24 (.q 25 .done)))))))))))))))))))))))))) (by kernel_rfl) (by kernel_rfl) (by kernel_rfl) ?_
      simp only [siI_q, sqI_some, mOk_none', implies_true, qI_nil, qI_cons, qI_guard, qgI_same, thenQ_some, q_move, q_load, q_binOp, q_fieldAddr, goI_mk, slotAt_zero, slotAt_succ, eval_tmp, put_some, put_none, aBin_eql, aField_eq, fieldGo_ptr, aLoad_eq, loadGo_row, aPlace_ptr, dropC_cells, List.getElem?_cons_zero, List.getElem?_cons_succ, Nat.reduceEqDiff, Nat.add_zero, Nat.zero_le, List.drop_zero, true_and, if_true, if_false, ft_292_0, lt_2, lt_292, f1, gH, ck, e1, ldc]
      refine siI_c rfl rfl rfl (fun h' _ => pFirstS p hpok h') ?_
      simp only [siI_q, sqI_some, mOk_none', implies_true, qI_nil, qI_cons, qI_guard, qgI_same, thenQ_some, q_move, q_pick, q_load, q_nilCheck, q_binOp, q_fieldAddr, goI_mk, slotAt_zero, slotAt_succ, pickV_true, nilV_ptr, eval_tmp, eval_const, put_some, put_none, aBin_sub, aBin_leq, absV_bool, aField_eq, fieldGo_ptr, aLoad_eq, loadGo_one, loadGo_row, aPlace_ptr, dropC_cells, List.getElem?_cons_zero, List.getElem?_cons_succ, Nat.reduceEqDiff, Nat.reduceAdd, Nat.reduceLeDiff, reduceCtorEq, Nat.zero_add, Nat.zero_le, List.length_cons, List.length_nil, List.drop_zero, List.drop_succ_cons, true_and, if_true, if_false, ft_275_1, lt_2, lt_292, f0, f2, gH, hg1, ldc, w1, e2]
      refine siI_c rfl rfl rfl (fun h' _ => pLastS p hpok h') ?_
      simp only [siI_done, siI_q, sqI_some, mOk_none', implies_true, qI_nil, qI_cons, qI_guard, qgI_same, thenQ_some, q_move, q_pick, q_load, q_nilCheck, q_binOp, q_fieldAddr, wpA_skip, wpA_region, wpA_cond, condI_false, seqQ_normal, blkQ_normal, endI_mk, andThen_normal, goI_out, goI_ops, goI_mk, opsA_nil, opsA_cons, slotAt_zero, slotAt_succ, stepA_move, stepA_binOp, thenV_some, pickV_true, nilV_ptr, eval_tmp, eval_const, put_some, put_none, aBin_add, aBin_leq, absV_int, absV_bool, aField_eq, fieldGo_ptr, aLoad_eq, loadGo_one, aPlace_ptr, dropC_cells, List.getElem?_cons_zero, List.getElem?_cons_succ, Nat.reduceEqDiff, Nat.reduceAdd, Nat.reduceLeDiff, reduceCtorEq, Nat.zero_add, List.length_cons, List.length_nil, List.drop_zero, List.drop_succ_cons, true_and, if_true, if_false, ft_275_1, lt_2, f0, f22, hg1, w2, e3, hw]
      exact hid_mk ⟨(t + 1, s), ⟨f0, f1, f2, f7, f20, f21, rfl, hlt, by simp only; rw [hfs]; exact accH⟩, by simp only; omega⟩
    · have hn : touch g key time p = true := touch_iff.2 ⟨e1', of_decide_eq_true e2, of_decide_eq_true e3⟩
      rw [hn, if_pos rfl] at hfs
      obtain ⟨s', h2, ea, a2⟩ := accH.elemM sl_35 (by decide) (xs := chgE p) rfl rfl (fun m hm => by
        change m * 5 = _ + 5 at hm
        rw [rows_len chgE_len] at hm
        have := found_le g (l.take t) key time
        simp only [List.length_take] at this
        exact ⟨by simp only [lim]; omega, by simp only [lim]; omega⟩)
      have hlit := lit1cS H p
      refine SWp.drawnS none_ [] (.q 0 (.q 1 (.q 2 (.q 3 (.q 4 (.q 5 (.c 6 (.q 7 (.q 8 (.q 9 (.q 10 (.q 11 (.q 12 (.q 13 (.q 14 (.q 15 (.q 16 (.q 17 (.c 18 (.q 19 (.q 20 (.q 21 (.q 22 (.q 23 (.q 24 (.q 25 .done)))))))))))))))))))))))))) (by kernel_rfl) (by kernel_rfl) (by kernel_rfl) ?_
      simp only [siI_q, sqI_some, mOk_none', implies_true, qI_nil, qI_cons, qI_guard, qgI_same, thenQ_some, q_move, q_load, q_binOp, q_fieldAddr, goI_mk, slotAt_zero, slotAt_succ, eval_tmp, put_some, put_none, aBin_eql, aField_eq, fieldGo_ptr, aLoad_eq, loadGo_row, aPlace_ptr, dropC_cells, List.getElem?_cons_zero, List.getElem?_cons_succ, Nat.reduceEqDiff, Nat.add_zero, Nat.zero_le, List.drop_zero, true_and, if_true, if_false, ft_292_0, lt_2, lt_292, f1, gH, ck, e1, ldc]
      refine siI_c rfl rfl rfl (fun h' _ => pFirstS p hpok h') ?_
      simp only [siI_q, sqI_some, mOk_none', implies_true, qI_nil, qI_cons, qI_guard, qgI_same, thenQ_some, q_move, q_pick, q_load, q_nilCheck, q_binOp, q_fieldAddr, goI_mk, slotAt_zero, slotAt_succ, pickV_true, nilV_ptr, eval_tmp, eval_const, put_some, put_none, aBin_sub, aBin_leq, absV_bool, aField_eq, fieldGo_ptr, aLoad_eq, loadGo_one, loadGo_row, aPlace_ptr, dropC_cells, List.getElem?_cons_zero, List.getElem?_cons_succ, Nat.reduceEqDiff, Nat.reduceAdd, Nat.reduceLeDiff, reduceCtorEq, Nat.zero_add, Nat.zero_le, List.length_cons, List.length_nil, List.drop_zero, List.drop_succ_cons, true_and, if_true, if_false, ft_275_1, lt_2, lt_292, f0, f2, gH, hg1, ldc, w1, e2]
      refine siI_c rfl rfl rfl (fun h' _ => pLastS p hpok h') ?_
      simp only [siI_done, siI_q, sqI_some, mOk_none', implies_true, qI_nil, qI_cons, qI_guard, qgI_same, thenQ_some, q_move, q_pick, q_load, q_nilCheck, q_binOp, q_fieldAddr, wpA_region, wpA_cond, condI_true, seqQ_normal, goI_out, goI_ops, goI_mk, opsA_cons, slotAt_zero, slotAt_succ, stepA_move, stepA_load, stepA_call, thenV_some, pickV_true, nilV_ptr, eval_tmp, eval_const, put_some, put_none, aBin_add, aBin_leq, absV_bool, aField_eq, fieldGo_ptr, aLoad_eq, loadGo_one, loadGo_row, aPlace_ptr, dropC_cells, List.getElem?_cons_zero, List.getElem?_cons_succ, Nat.reduceEqDiff, Nat.reduceAdd, Nat.reduceLeDiff, reduceCtorEq, List.map_cons, List.map_nil, Nat.zero_add, Nat.zero_le, List.length_cons, List.length_nil, List.drop_zero, List.drop_succ_cons, true_and, if_true, if_false, ft_275_1, lt_2, lt_292, f0, f7, gH, hg1, ldc, w2, e3]
      refine callI_pure cal171 (pSet p hpok _) ?_
      simp only [wpA_region, seqQ_normal, blkQ_normal, endI_mk, andThen_normal, goI_out, goI_ops, opsA_nil, opsA_cons, stepA_move, stepA_assign, stepA_buildSlice, stepA_binOp, stepA_append, thenV_some, thenH_some, eval_tmp, eval_const, put_some, put_none, aBin_add, absV_int, Nat.reduceEqDiff, List.map_cons, List.map_nil, if_true, if_false, f22, hlit, ea, hw]
      refine hid_mk ⟨(t + 1, s'), ⟨f0, f1, f2, rfl, f20, f21, rfl, hlt, a2.conv ?_⟩, by simp only; omega⟩
      rw [hfs, List.flatMap_append]
      simp
  · have d1 : decide ((t : Int) < ((l.length : Nat) : Int)) = false := decide_eq_false (by omega)
    rw [List.take_of_length_le (by omega)] at acc
    simp only [wpA_region, wpA_seq, wpA_cond, wpA_exit, wpA_ret, condI_false, seqQ_normal, seqQ_exit, blkQ_exit, endI_mk, goE, andThen_exit, goI_out, goI_ops, opsA_nil, opsA_cons, stepA_move, stepA_assign, stepA_binOp, thenV_some, eval_tmp, put_some, aBin_lss, Nat.reduceEqDiff, if_true, if_false, f7, f21, f22, d1, retA_ret, Tryz.results118, resultsA_1]
    exact hid_mk acc
end Go.Proofs.YtedkjhifbibpmaaGreatDoor.Pk
namespace Go.Proofs.YtedkjhifbibpmaaGreatDoor.Pk
open Go Go.Proofs Go.Proofs.YtedkjhifbibpmaaGreatDoor.Ab
set_option linter.unusedVariables false
set_option linter.unusedSimpArgs false
theorem NewOr.after {h H : AHeap} {v v' : V} (d : NewOr H v v') (hn : h.n ≤ H.n) : NewOr h v v' := by
  rcases d with d | d
  · exact .inl d
  · exact .inr fun q hq => Nat.le_trans hn (d q hq)
theorem app1C {h : AHeap} {s : V} {cs : List Chg} (o : Own h 40 5 s (cs.flatMap chgE)) (hl : cs.length ≤ 2 ^ 40) (c : Chg) :
    ∃ s' h', aAppend Tryz.prog 35 35 s (.sl h.n 0 1 1) (h.push (.cells (chgE c) 40 none)) = some (s', h') ∧ Own h' 40 5 s' ((cs ++ [c]).flatMap chgE) ∧ Keep h h' (isId s) ∧ NewOr h s s' := by
  have kp : Keep h (h.push (.cells (chgE c) 40 none)) none_ := Keep.push _ _ _
  have oj : Own (h.push (.cells (chgE c) 40 none)) 40 5 (.sl h.n 0 1 1) (chgE c) := Own.fresh' (chgE c) 1 rfl (by decide)
  have hsrc := own_src (P := Tryz.prog) (t := 35) kt_35 oj (n := 1) rfl (by decide) (chgE_one c)
  obtain ⟨s', h', ea, oa, ka, na⟩ := append_ownM (P := Tryz.prog) (t := 35) (tx := 35) sl_35 (by decide) (o.keepN kp) hsrc rfl (fun m hm => by
    change m * 5 = _ + 5 at hm
    rw [rows_len chgE_len] at hm
    exact ⟨by simp only [lim]; omega, by simp only [lim]; omega⟩)
  refine ⟨s', h', ea, ?_, (kp.up).trans' ka, NewOr.after na kp.n⟩
  rw [List.flatMap_append]
  simpa using oa
theorem chg_ld (p : Chg) (r : List V) : loadGo (some (some 5)) (some (chgE p ++ r)) = some (.agg (chgE p)) := load_row (chgE_len p)
theorem chg_ldc (p : Chg) : (if 5 ≤ (chgE p).length then some (V.agg (List.take 5 (chgE p))) else none) = some (.agg (chgE p)) := rfl
theorem chg_st (p : Chg) : setC (some 5) (AObj.cells [V.int .i64 0, V.int .i64 0, V.int .i64 0, V.int .i64 0, V.bool false] 40 none) 0 (chgE p) = some (.cells (chgE p) 40 none) := rfl
theorem chg_cellsE (p : Chg) : (V.agg (chgE p)).cells = some (chgE p) := rfl
theorem chg_d1 (p : Chg) : List.drop 1 (chgE p) = [.int .i64 p.fr, .int .i64 p.to, .int .i64 p.val, .bool p.del] := rfl
theorem chg_d2 (p : Chg) : List.drop 2 (chgE p) = [.int .i64 p.to, .int .i64 p.val, .bool p.del] := rfl
theorem putC_snoc (c : Chg) (cs : List Chg) (p : Chg) : ((cs ++ [p]).filter (otherS c)).map goneS = ((cs.filter (otherS c)).map goneS) ++ (if otherS c p = true then [goneS p] else []) := by
  rw [List.filter_append, List.map_append]
  cases h : otherS c p <;> simp [h]
theorem touched_has {g : Int} {l : List Chg} (hs : SS l) (k t : Int) {j : Nat} {p : Chg} (hp : (found g l k t)[j]? = some p) : p ∈ rmAll l ((found g l k t).take j) := by
  have hs' : SS (found g l k t) := hs.filter _
  have hm : p ∈ found g l k t := List.mem_of_getElem? hp
  refine mem_rmAll hs (List.mem_filter.1 hm).1 (fun hin => ?_) fun y hy => (List.mem_filter.1 (List.mem_of_mem_take hy)).1
  have hj := (List.getElem?_eq_some_iff.1 hp).1
  have e : found g l k t = (found g l k t).take j ++ p :: (found g l k t).drop (j + 1) := by
    have := List.take_append_drop j (found g l k t)
    rw [List.drop_eq_getElem_cons hj, (List.getElem?_eq_some_iff.1 hp).2] at this
    exact this.symm
  rw [e] at hs'
  exact absurd ((List.pairwise_append.1 hs').2.2 p hin p (by simp)) (lt3_irr (same3_iff.2 ⟨rfl, rfl, rfl⟩))
set_option maxHeartbeats 4000000 in
set_option maxRecDepth 10000 in
theorem sesPut (h : AHeap) (i : Nat) (v : V) (room g key time val : Int) (l : List Chg) (hmt : mayT time = true) (hroom : found g l key time ≠ [] ∨ (l.length : Int) < room) (hl : found g l key time ≠ [] ∨ l.length < 1024) (k : IsSes h i v room g l) :
    SCalls Tryz.prog 121 [.ptr i 0, .int .i64 key, .int .i64 time, .int .i64 val] h (fun r h' => ∃ v', r = .tuple [.imm (putC g l key time val).length ((putC g l key time val).flatMap chgE), .int .i64 0] ∧ IsSes h' i v' room g (putS g l key time val) ∧ Keep h h' (sesO i v) ∧ NewOr h v v') := by
  refine SCalls.cast ?_
  refine SCalls.enterI (c := _) Tryz.func121 rfl (by kernel_rfl) (by simp) ?_
  have hg := k.get
  have hal := k.alen h
  have hti := mayT_iff.1 hmt
  have hin := k.lt
  have hg1 := k.g1
  simp only [wpA_skip, wpA_region, wpA_seq, wpA_cond, condI_false, seqQ_normal, goI_out, goI_ops, opsA_nil, opsA_cons, stepA_move, stepA_assign, stepA_binOp, stepA_call, thenV_some, eval_tmp, eval_const, put_some, enterF_zero, enterF_succ, ptr_nil_eql, absV_int, absV_pnil, absV_snil, Nat.reduceEqDiff, reduceCtorEq, List.map_cons, List.map_nil, if_true, if_false, kt_200]
  refine callI_pure cal169 (pMayT time h) ?_
  simp only [wpA_skip, wpA_region, wpA_seq, wpA_cond, condI_false, seqQ_normal, goI_out, goI_ops, opsA_nil, opsA_cons, stepA_move, stepA_unOp, stepA_call, thenV_some, eval_tmp, put_some, enterF_zero, enterF_succ, aUn_not, Nat.reduceEqDiff, reduceCtorEq, List.map_cons, List.map_nil, if_true, if_false, Bool.not_true, hmt]
  refine callI_pure cal118 (sesFind h i v room g key time l k) ?_
  have hft : foundT g l key time = found g l key time := by rw [foundT, if_pos hmt]
  rw [hft]
  obtain ⟨cs, hcs⟩ : ∃ y, y = found g l key time := ⟨_, rfl⟩
  have hcl : cs.length ≤ 1024 := by rw [hcs]; have := found_le g l key time; have := k.len; omega
  have d0 : (((cs.length : Nat) : Int) == 0) = true → decide (room ≤ ((l.length : Nat) : Int)) = false := fun hz => decide_eq_false (by
    rcases hroom with hr | hr
    · exfalso
      rw [← hcs] at hr
      have : cs.length = 0 := by simpa using hz
      exact hr (List.eq_nil_of_length_eq_zero this)
    · omega)
  have hl : (restS g l key time).length < 1024 := by
    have hfr := found_rest g l key time
    have h40 := k.len
    rcases hl with hl | hl
    · have : 0 < (found g l key time).length := List.length_pos_iff.2 hl
      omega
    · omega
  rw [← hcs]
  obtain ⟨c, hc⟩ : ∃ y, y = mkS g l key time val := ⟨_, rfl⟩
  have hcf : c.fr = loF time cs := by rw [hc, hcs]; rfl
  have hct : c.to = hiF time cs := by rw [hc, hcs]; rfl
  have hck : c.key = key := by rw [hc]; rfl
  have hcv : c.val = val := by rw [hc]; rfl
  have hcd : c.del = false := by rw [hc]; rfl
  have hcok : okS c := by rw [hc]; exact mkS_ok k.ok val hti.1 hti.2
  simp only [wpA_seq, wpA_draw, seqQ_normal, goI_out, goI_ops, opsA_nil, opsA_cons, stepA_assign, eval_tmp, put_some, enterF_succ, Nat.reduceEqDiff, if_true, if_false]
  cases hb : (((cs.length : Nat) : Int) == 0)
  all_goals
    refine SWp.drawnS none_ [] (.q 0 (.q 1 (.q 2 (.q 3 (.q 4 (.q 5 (.q 6 (.q 7 (.q 8 (.q 9 (.q 10 (.q 11 (.q 12 (.q 13 (.q 14 .done))))))))))))))) (by kernel_rfl) (by kernel_rfl) (by kernel_rfl) ?_
    simp only [siI_done, siI_q, sqI_some, mOk_none', implies_true, qI_nil, qI_cons, qI_guard, qgI_same, qgI_ft, thenQ_some, q_move, q_pick, q_load, q_nilCheck, q_binOp, q_fieldAddr, q_len, wpA_skip, wpA_region, wpA_seq, wpA_cond, wpA_block, wpA_loop, condI_false, seqQ_normal, goI_out, goI_ops, goI_mk, opsA_nil, opsA_cons, slotAt_zero, slotAt_succ, stepA_move, stepA_assign, stepA_len, thenV_some, pickV_true, pickV_false, nilV_ptr, eval_tmp, eval_const, put_some, enterF_zero, enterF_succ, aBin_eql, aBin_geq, absV_int, absV_bool, aField_eq, fieldGo_ptr, aLoad_eq, loadGo_one, aPlace_ptr, dropC_cells, aLen_imm, List.getElem?_cons_zero, List.getElem?_cons_succ, Nat.reduceEqDiff, Nat.reduceAdd, Nat.reduceLeDiff, reduceCtorEq, Nat.add_zero, Nat.zero_add, Nat.zero_le, List.length_cons, List.length_nil, List.drop_zero, List.drop_succ_cons, true_and, if_true, if_false, ft_275_0, ft_275_2, kt_35, lt_273, lt_3, hb, hg, hal, d0]
    refine SWp.loopG (α := Nat) (fun t f h' => f 0 = .ptr i 0 ∧ f 1 = .int .i64 key ∧ f 3 = .int .i64 val ∧ f 10 = .imm cs.length (cs.flatMap chgE) ∧ f 11 = .int .i64 (loF time (cs.take t)) ∧ f 12 = .int .i64 (hiF time (cs.take t)) ∧ f 46 = .imm cs.length (cs.flatMap chgE) ∧ f 47 = .int .i64 (cs.length : Nat) ∧ f 48 = .int .i64 (t : Nat) ∧ t ≤ cs.length ∧ Keep h h' none_) (fun t => cs.length - t) 0
      ⟨rfl, rfl, rfl, rfl, rfl, rfl, rfl, rfl, rfl, Nat.zero_le _, Keep.refl _ _⟩ ?_
    rintro t f h1 ⟨f0, f1, f3, f10, f11, f12, f46, f47, f48, ht, k1⟩
    refine wpI_sound (by kernel_rfl) ?_
    by_cases hlt : t < cs.length
    · have d1 : decide ((t : Int) < ((cs.length : Nat) : Int)) = true := decide_eq_true (by omega)
      have hw := inc64 hlt (by omega)
      have x1 := chg_ix (kk := .i64) hlt
      have ht1 : cs.take (t + 1) = cs.take t ++ [cs[t]] := List.take_succ_eq_append_getElem hlt
      have ea := loF_snoc time (cs.take t) cs[t]
      have eb := hiF_snoc time (cs.take t) cs[t]
      rw [← ht1] at ea eb
      generalize cs[t] = p at x1 ht1 ea eb
      have ld := chg_ld p
      have ldc := chg_ldc p
      have st := chg_st p
      have cc := chg_cellsE p
      have c1 := chg_d1 p
      have c2 := chg_d2 p
      simp only [wpA_skip, wpA_region, wpA_seq, wpA_cond, wpA_block, wpA_draw, condI_true, seqQ_normal, goI_out, goI_ops, opsA_nil, opsA_cons, stepA_alloc, stepA_load, stepA_store, stepA_binOp, stepA_indexAddr, thenV_some, thenH_some, thenS_some, eval_tmp, put_some, aBin_lss, aLoad_eq, aPlace_at, aStore_eq, storeGo_ptr, aAlloc_eq, get_push_new, set_push, Nat.reduceEqDiff, Option.map_some, if_true, if_false, lt_40, zc_40, zt_40, f46, f47, f48, d1, x1, ld, st, cc]
      refine SWp.drawnS none_ [] (.q 0 (.q 1 (.q 2 (.q 3 (.q 4 (.q 5 (.q 6 (.q 7 (.q 8 (.q 9 .done)))))))))) (by kernel_rfl) (by kernel_rfl) (by kernel_rfl) ?_
      simp only [siI_done, siI_q, sqI_some, mOk_none', implies_true, qI_nil, qI_cons, thenQ_some, q_move, q_assign, q_load, q_fieldAddr, q_min, q_max, wpA_region, seqQ_normal, blkQ_normal, endI_mk, andThen_normal, goI_out, goI_ops, goI_mk, opsA_nil, opsA_cons, stepA_move, stepA_binOp, thenV_some, eval_tmp, eval_const, put_some, put_none, aBin_add, mmV_min, mmV_max, absV_int, aField_eq, fieldGo_ptr, aLoad_eq, loadGo_one, aPlace_ptr, dropC_cells, get_push_new, List.getElem?_cons_zero, List.getElem?_cons_succ, Nat.reduceEqDiff, Nat.reduceLeDiff, Nat.zero_add, true_and, if_true, if_false, ft_40_1, ft_40_2, lt_2, f11, f12, f48, c1, c2, chgE_len, hw]
      exact hid_mk ⟨t + 1, ⟨f0, f1, f3, f10, by rw [ea]; rfl, by rw [eb]; rfl, f46, f47, rfl, hlt, k1.then_push _⟩, by omega⟩
    · have d1 : decide ((t : Int) < ((cs.length : Nat) : Int)) = false := decide_eq_false (by omega)
      rw [List.take_of_length_le (by omega)] at f11 f12
      rw [← hcf] at f11
      rw [← hct] at f12
      simp only [wpA_region, wpA_seq, wpA_cond, wpA_block, wpA_exit, wpA_loop, condI_false, seqQ_normal, seqQ_exit, blkQ_exit, endI_mk, goE, andThen_exit, goI_out, goI_ops, opsA_nil, opsA_cons, stepA_move, stepA_assign, stepA_binOp, stepA_len, thenV_some, eval_tmp, eval_const, put_some, aBin_lss, absV_int, absV_snil, aLen_imm, Nat.reduceEqDiff, if_true, if_false, kt_35, f10, f47, f48, d1]
      have k1' := k.keepN k1
      refine SWp.loopG (α := Nat × V × V) (fun x f h' => f 0 = .ptr i 0 ∧ f 1 = .int .i64 key ∧ f 3 = .int .i64 val ∧ f 11 = .int .i64 c.fr ∧ f 12 = .int .i64 c.to ∧ f 15 = x.2.2 ∧ f 61 = .imm cs.length (cs.flatMap chgE) ∧ f 62 = .int .i64 (cs.length : Nat) ∧ f 63 = .int .i64 (x.1 : Nat) ∧ x.1 ≤ cs.length ∧ IsSes h' i x.2.1 room g (rmAll l (cs.take x.1)) ∧
          Own h' 40 5 x.2.2 ((((cs.take x.1).filter (otherS c)).map goneS).flatMap chgE) ∧ Keep h h' (sesO i v) ∧ NewOr h v x.2.1 ∧ (∀ j, idOf x.2.2 = some j → h.n ≤ j ∧ idOf x.2.1 ≠ some j)) (fun x => cs.length - x.1) (0, v, .snil)
        ⟨f0, f1, f3, f11, f12, rfl, rfl, rfl, rfl, Nat.zero_le _, by rw [List.take_zero, rmAll_nil]; exact k1', Own.snil _ _ _, k1.up, .inl rfl, by simp [idOf]⟩ ?_
      rintro ⟨t, v1, s⟩ f h1 ⟨f0, f1, f3, f11, f12, f15, f61, f62, f63, ht, ks, os, kk, nv, ap⟩
      simp only at f15 f63 ht ks os nv ap
      refine wpI_sound (by kernel_rfl) ?_
      by_cases hlt : t < cs.length
      · have d1 : decide ((t : Int) < ((cs.length : Nat) : Int)) = true := decide_eq_true (by omega)
        have hw := inc64 hlt (by omega)
        have x1 := chg_ix (kk := .i64) hlt
        have ht1 : cs.take (t + 1) = cs.take t ++ [cs[t]] := List.take_succ_eq_append_getElem hlt
        have hp : cs[t]? = some cs[t] := List.getElem?_eq_getElem hlt
        have hrm := rmAll_snoc l (cs.take t) cs[t]
        have hpc := putC_snoc c (cs.take t) cs[t]
        rw [← ht1] at hrm hpc
        have hin3 : ∀ p, cs[t]? = some p → p ∈ rmAll l (cs.take t) := by
          rw [hcs]
          exact fun p hp => touched_has k.ss key time hp
        have hin2 := hin3 _ hp
        generalize cs[t] = p at x1 ht1 hp hrm hpc hin2
        have hpok : okS p := ks.ok p hin2
        have ld := chg_ld p
        have ldc := chg_ldc p
        have st := chg_st p
        have cc := chg_cellsE p
        have c1 := chg_d1 p
        have c2 := chg_d2 p
        obtain ⟨H, hH⟩ : ∃ y, y = (h1.push (.cells (chgE p) 40 none)).push (.cells (sesE p) 292 none) := ⟨_, rfl⟩
        have gA : H.get h1.n = .cells (chgE p) 40 none := by rw [hH]; exact get_push2'
        have gB : H.get (h1.n + 1) = .cells (sesE p) 292 none := by rw [hH]; exact get_push2
        have kH : Keep h1 H none_ := by rw [hH]; exact (Keep.push _ _ _).then_push _
        have nH : H.n = h1.n + 2 := by rw [hH]; rfl
        have ksH := ks.keepN kH
        have sld := ses_ldc p
        have sst := ses_st p
        have scc := ses_cellsE p
        simp only [wpA_skip, wpA_region, wpA_seq, wpA_cond, wpA_block, condI_true, seqQ_normal, goI_out, goI_ops, opsA_nil, opsA_cons, stepA_alloc, stepA_load, stepA_store, stepA_binOp, stepA_indexAddr, stepA_call, thenV_some, thenH_some, thenS_some, eval_tmp, put_some, put_none, aBin_lss, aLoad_eq, loadGo_row, aPlace_ptr, aPlace_at, dropC_cells, aStore_eq, storeGo_ptr, aAlloc_eq, get_push_new, set_push, Nat.reduceEqDiff, List.map_cons, List.map_nil, Option.map_some, Nat.zero_le, List.drop_zero, if_true, if_false, lt_40, zc_40, zt_40, f61, f62, f63, d1, x1, ld, ldc, st, cc]
        refine callI_pure cal175 (pSesOf p _) ?_
        simp only [wpA_region, wpA_seq, seqQ_normal, goI_out, goI_ops, opsA_nil, opsA_cons, stepA_move, stepA_alloc, stepA_load, stepA_store, stepA_call, thenV_some, thenH_some, thenS_some, eval_tmp, put_some, put_none, aLoad_eq, loadGo_row, aPlace_ptr, dropC_cells, aStore_eq, storeGo_ptr, aAlloc_eq, push_n, get_push2, set_push2, Nat.reduceEqDiff, reduceCtorEq, List.map_cons, List.map_nil, Option.map_some, Nat.zero_le, List.drop_zero, if_true, if_false, lt_292, zc_292, zt_292, f0, sst, scc, sld]
        rw [← hH]
        clear hH
        refine callI_of cal176 (sesRemove H i v1 room g _ p hpok (has3_mem hin2) ksH) fun r h3 ⟨v2, ks3, k3, n3⟩ => ?_
        rw [← hrm] at ks3
        have hvlt : ∀ q, idOf v1 = some q → q < h1.n := fun q hq => ks.own.lt q hq
        have hilt := ks.lt
        have gA3 := (k3.get h1.n (by omega) (by rintro (hh | hh); omega; have := hvlt _ hh; omega)).trans gA
        have gB3 := (k3.get (h1.n + 1) (by omega) (by rintro (hh | hh); omega; have := hvlt _ hh; omega)).trans gB
        have hlt3 := k3.n
        have hs1 : ∀ j, idOf s = some j → j < h1.n := fun j hj => os.lt j hj
        have os3 := (os.keepN kH).keep k3 (fun j hj hh => by
          rcases hh with hh | hh
          · have := (ap j hj).1; omega
          · exact (ap j hj).2 hh)
        have kk3 : Keep h h3 (sesO i v) := ((kk.trans' kH.up).trans k3 fun q hq hh => by
          rcases hh with hh | hh
          · exact .inl hh
          · rcases nv with nv | nv
            · exact .inr (by show idOf v = some q; rw [← nv]; exact hh)
            · have := nv q hh; omega)
        have nv3 : NewOr h v v2 := by
          rcases n3 with n3 | n3
          · rcases nv with nv | nv
            · exact .inl (n3.trans nv)
            · exact .inr fun q hq => nv q (by rw [← n3]; exact hq)
          · exact .inr fun q hq => by have := n3 q hq; have := kk.n; omega
        have ap3 : ∀ j, idOf s = some j → h.n ≤ j ∧ idOf v2 ≠ some j := fun j hj => by
          refine ⟨(ap j hj).1, fun hh => ?_⟩
          rcases n3 with n3 | n3
          · rw [n3] at hh; exact (ap j hj).2 hh
          · have := n3 j hh; have := hs1 j hj; omega
        cases e1 : (p.fr != c.fr)
        · cases e2 : (p.to != c.to)
          · have ho : otherS c p = false := by
              simp at e1 e2; simp [otherS, e1, e2]
            rw [ho] at hpc
            simp only [Bool.false_eq_true, if_false, List.append_nil] at hpc
            simp only [wpA_skip, wpA_region, wpA_seq, wpA_cond, condI_false, seqQ_normal, blkQ_normal, endI_mk, andThen_normal, goI_out, goI_ops, opsA_nil, opsA_cons, opsA_guardS, gvI_same, slotAt_zero, slotAt_succ, stepA_move, stepA_pick, stepA_load, stepA_binOp, stepA_fieldAddr, thenV_some, pickV_false, eval_tmp, eval_const, put_some, put_none, aBin_add, aBin_neq, absV_int, absV_bool, aField_eq, fieldGo_ptr, aLoad_eq, loadGo_one, aPlace_ptr, dropC_cells, Nat.reduceEqDiff, Nat.reduceLeDiff, Nat.zero_add, if_true, if_false, ft_40_1, ft_40_2, lt_2, f11, f12, f63, gA3, c1, c2, chgE_len, e1, e2, hw]
            exact hid_mk ⟨(t + 1, v2, s), ⟨f0, f1, f3, f11, f12, f15, f61, f62, rfl, hlt, ks3, by simp only; rw [hpc]; exact os3, kk3, nv3, ap3⟩, by simp only; omega⟩
          · have ho : otherS c p = true := by
              simp at e1 e2; simp [otherS, e1, e2]
            rw [ho, if_pos rfl] at hpc
            obtain ⟨s', h4, ea, o4, k4, n4⟩ := app1C os3 (by simp only [List.length_map]; have := List.length_filter_le (otherS c) (cs.take t); have := List.length_take_le t cs; omega) (goneS p)
            have hlit := lit1cS h3 (goneS p)
            simp only [wpA_region, wpA_seq, wpA_cond, condI_true, seqQ_normal, goI_out, goI_ops, opsA_nil, opsA_cons, opsA_guardS, gvI_same, slotAt_zero, slotAt_succ, stepA_move, stepA_pick, stepA_load, stepA_binOp, stepA_fieldAddr, stepA_call, thenV_some, pickV_false, eval_tmp, eval_const, put_some, put_none, aBin_neq, absV_bool, aField_eq, fieldGo_ptr, aLoad_eq, loadGo_one, loadGo_row, aPlace_ptr, dropC_cells, Nat.reduceEqDiff, Nat.reduceLeDiff, List.map_cons, List.map_nil, Nat.zero_add, Nat.zero_le, List.drop_zero, if_true, if_false, ft_40_1, ft_40_2, lt_2, lt_292, f11, f12, f15, gA3, gB3, c1, c2, chgE_len, sld, e1, e2]
            refine callI_pure cal166 (pGone p hpok _) ?_
            simp only [wpA_region, seqQ_normal, blkQ_normal, endI_mk, andThen_normal, goI_out, goI_ops, opsA_nil, opsA_cons, stepA_move, stepA_assign, stepA_buildSlice, stepA_binOp, stepA_append, thenV_some, thenH_some, eval_tmp, eval_const, put_some, put_none, aBin_add, absV_int, Nat.reduceEqDiff, List.map_cons, List.map_nil, if_true, if_false, f63, hlit, ea, hw]
            refine hid_mk ⟨(t + 1, v2, s'), ⟨f0, f1, f3, f11, f12, rfl, f61, f62, rfl, hlt, ks3.keep k4 (fun hh => ?_) (fun j hj hh => (ap3 j hh).2 hj), by simp only; rw [hpc]; exact o4, kk3.trans k4 fun q hq hh => ?_, nv3, fun j hj => ?_⟩, by simp only; omega⟩
            · have := (ap3 i hh).1; omega
            · have := (ap3 q hh).1; omega
            · rcases n4 with n4 | n4
              · rw [n4] at hj; exact ap3 j hj
              · have h5 := n4 j hj
                have h6 := kk3.n
                exact ⟨by omega, fun hh => by have := ks3.own.lt j hh; omega⟩
        · have ho : otherS c p = true := by
            simp at e1; simp [otherS, e1]
          rw [ho, if_pos rfl] at hpc
          obtain ⟨s', h4, ea, o4, k4, n4⟩ := app1C os3 (by simp only [List.length_map]; have := List.length_filter_le (otherS c) (cs.take t); have := List.length_take_le t cs; omega) (goneS p)
          have hlit := lit1cS h3 (goneS p)
          simp only [wpA_region, wpA_seq, wpA_cond, condI_true, seqQ_normal, goI_out, goI_ops, opsA_nil, opsA_cons, opsA_guardS, gvI_tf, slotAt_zero, slotAt_succ, stepA_move, stepA_pick, stepA_load, stepA_binOp, stepA_fieldAddr, stepA_call, thenV_some, pickV_true, eval_tmp, eval_const, put_some, put_none, aBin_neq, absV_bool, aField_eq, fieldGo_ptr, aLoad_eq, loadGo_one, loadGo_row, aPlace_ptr, dropC_cells, Nat.reduceEqDiff, Nat.reduceLeDiff, List.map_cons, List.map_nil, Nat.zero_add, Nat.zero_le, List.drop_zero, if_true, if_false, ft_40_1, lt_2, lt_292, f11, f15, gA3, gB3, c1, chgE_len, sld, e1]
          refine callI_pure cal166 (pGone p hpok _) ?_
          simp only [wpA_region, seqQ_normal, blkQ_normal, endI_mk, andThen_normal, goI_out, goI_ops, opsA_nil, opsA_cons, stepA_move, stepA_assign, stepA_buildSlice, stepA_binOp, stepA_append, thenV_some, thenH_some, eval_tmp, eval_const, put_some, put_none, aBin_add, absV_int, Nat.reduceEqDiff, List.map_cons, List.map_nil, if_true, if_false, f63, hlit, ea, hw]
          refine hid_mk ⟨(t + 1, v2, s'), ⟨f0, f1, f3, f11, f12, rfl, f61, f62, rfl, hlt, ks3.keep k4 (fun hh => ?_) (fun j hj hh => (ap3 j hh).2 hj), by simp only; rw [hpc]; exact o4, kk3.trans k4 fun q hq hh => ?_, nv3, fun j hj => ?_⟩, by simp only; omega⟩
          · have := (ap3 i hh).1; omega
          · have := (ap3 q hh).1; omega
          · rcases n4 with n4 | n4
            · rw [n4] at hj; exact ap3 j hj
            · have h5 := n4 j hj
              have h6 := kk3.n
              exact ⟨by omega, fun hh => by have := ks3.own.lt j hh; omega⟩
      · have d1 : decide ((t : Int) < ((cs.length : Nat) : Int)) = false := decide_eq_false (by omega)
        rw [List.take_of_length_le (by omega)] at ks os
        have hrest : rmAll l cs = restS g l key time := by rw [hcs]; exact rmAll_filter k.ss _
        rw [hrest] at ks
        have hnl : (restS g l key time).length < 1024 := hl
        have hnh : has3 (restS g l key time) c = false := by rw [hc]; exact rest_has (by omega) l key time val
        have ldc := chg_ldc c
        have st := chg_st c
        have cc := chg_cellsE c
        have ecc : (V.agg [.int .i64 key, .int .i64 c.fr, .int .i64 c.to, .int .i64 val, .bool false]) = .agg (chgE c) := by unfold chgE; rw [hck, hcv, hcd]
        obtain ⟨H, hH⟩ : ∃ y, y = h1.push (.cells (chgE c) 40 none) := ⟨_, rfl⟩
        have gH : H.get h1.n = .cells (chgE c) 40 none := by rw [hH]; exact get_push_new
        have kH : Keep h1 H none_ := by rw [hH]; exact Keep.push _ _ _
        have nH : H.n = h1.n + 1 := by rw [hH]; rfl
        have ksH := ks.keepN kH
        simp only [wpA_region, wpA_seq, wpA_cond, wpA_exit, condI_false, seqQ_normal, seqQ_exit, blkQ_exit, endI_mk, goE, andThen_exit, goI_out, goI_ops, opsA_nil, opsA_cons, stepA_move, stepA_alloc, stepA_build, stepA_load, stepA_store, stepA_binOp, stepA_call, thenV_some, thenH_some, thenS_some, eval_tmp, put_some, put_none, aBin_lss, cells_int, aLoad_eq, loadGo_row, aPlace_ptr, dropC_cells, aStore_eq, storeGo_ptr, setAll_nil, setAll_cons, aAlloc_eq, aBuild_go, aFill_nil, aFill_cons, fillGo_some, buildGo_struct, get_push_new, set_push, List.getElem?_cons_zero, List.getElem?_cons_succ, Nat.reduceEqDiff, Nat.reduceAdd, Nat.reduceLeDiff, reduceCtorEq, List.map_cons, List.map_nil, Option.map_some, Nat.zero_add, Nat.zero_le, List.length_cons, List.length_nil, List.drop_zero, List.set_cons_zero, List.set_cons_succ, and_self, if_true, if_false, lt_40, pl_40, zc_40, zt_40, f0, f1, f3, f11, f12, f62, f63, d1, ecc, st, cc, ldc]
        rw [← hH]
        clear hH
        refine callI_pure cal175 (pSesOf c _) ?_
        simp only [goI_ops, opsA_cons, stepA_call, eval_tmp, put_some, put_none, Nat.reduceEqDiff, List.map_cons, List.map_nil, if_true, if_false]
        refine callI_of cal177 (sesInsert H i v1 room g _ c hcok hnh hnl ksH) fun r h3 ⟨v2, ks3, k3, n3⟩ => ?_
        have hvlt : ∀ q, idOf v1 = some q → q < h1.n := fun q hq => ks.own.lt q hq
        have hilt := ks.lt
        have gH3 := (k3.get h1.n (by omega) (by rintro (hh | hh); omega; have := hvlt _ hh; omega)).trans gH
        have hlt3 := k3.n
        have hs1 : ∀ j, idOf s = some j → j < h1.n := fun j hj => os.lt j hj
        have os3 := (os.keepN kH).keep k3 (fun j hj hh => by
          rcases hh with hh | hh
          · have := (ap j hj).1; omega
          · exact (ap j hj).2 hh)
        have kk3 : Keep h h3 (sesO i v) := ((kk.trans' kH.up).trans k3 fun q hq hh => by
          rcases hh with hh | hh
          · exact .inl hh
          · rcases nv with nv | nv
            · exact .inr (by show idOf v = some q; rw [← nv]; exact hh)
            · have := nv q hh; omega)
        have nv3 : NewOr h v v2 := by
          rcases n3 with n3 | n3
          · rcases nv with nv | nv
            · exact .inl (n3.trans nv)
            · exact .inr fun q hq => nv q (by rw [← n3]; exact hq)
          · exact .inr fun q hq => by have := n3 q hq; have := kk.n; omega
        have ap3 : ∀ j, idOf s = some j → h.n ≤ j ∧ idOf v2 ≠ some j := fun j hj => by
          refine ⟨(ap j hj).1, fun hh => ?_⟩
          rcases n3 with n3 | n3
          · rw [n3] at hh; exact (ap j hj).2 hh
          · have := n3 j hh; have := hs1 j hj; omega
        obtain ⟨s', h4, ea, o4, k4, n4⟩ := app1C os3 (by simp only [List.length_map]; have := List.length_filter_le (otherS c) cs; omega) c
        have hlit := lit1cS h3 c
        simp only [wpA_region, wpA_seq, wpA_ret, seqQ_normal, endI_mk, goI_out, goI_ops, opsA_nil, opsA_cons, stepA_move, stepA_assign, stepA_buildSlice, stepA_load, stepA_append, thenV_some, thenH_some, eval_tmp, eval_const, put_some, put_none, absV_int, aLoad_eq, loadGo_row, aPlace_ptr, dropC_cells, Nat.reduceEqDiff, List.map_cons, List.map_nil, Nat.zero_le, List.drop_zero, if_true, if_false, lt_40, f15, gH3, ldc, hlit, ea, retA_ret, Tryz.results121, resultsA_2]
        have ks4 := ks3.keep k4 (fun hh => by have := (ap3 i hh).1; omega) (fun j hj hh => (ap3 j hh).2 hj)
        have kk4 : Keep h h4 (sesO i v) := kk3.trans k4 fun q hq hh => by have := (ap3 q hh).1; omega
        have ap4 : ∀ j, idOf s' = some j → h.n ≤ j ∧ idOf v2 ≠ some j := fun j hj => by
          rcases n4 with n4 | n4
          · rw [n4] at hj; exact ap3 j hj
          · have h5 := n4 j hj
            have h6 := kk3.n
            exact ⟨by omega, fun hh => by have := ks3.own.lt j hh; omega⟩
        have hpc : ((cs.filter (otherS c)).map goneS) ++ [c] = putC g l key time val := by rw [hc, hcs]; rfl
        rw [hpc] at o4
        obtain ⟨h5, c5, k5⟩ := Cast.own o4 (n := (putC g l key time val).length) (rows_len chgE_len _) (by decide)
        refine hid_mk ⟨_, h5, Cast.tuple (CastL.cons c5 (CastL.refl _ _)), v2, rfl, ?_, kk4.trans k5 fun q hq hh => by have := (ap4 q hh).1; omega, nv3⟩
        have := ks4.keep k5 (fun hh => by have := (ap4 i hh).1; omega) (fun j hj hh => (ap4 j hh).2 hj)
        rw [hc] at this
        exact this
end Go.Proofs.YtedkjhifbibpmaaGreatDoor.Pk
namespace Go.Proofs.YtedkjhifbibpmaaGreatDoor.Pk
open Go Go.Proofs Go.Proofs.YtedkjhifbibpmaaGreatDoor.Ab
set_option linter.unusedVariables false
set_option linter.unusedSimpArgs false
theorem snilC (h : AHeap) (n : Int) : Cast (.tuple [.snil, .int .i64 n]) h (.tuple [.imm 0 [], .int .i64 n]) h := Cast.tuple (CastL.cons (Cast.snil0 h) (CastL.refl _ _))
theorem app1S {h : AHeap} {s : V} {cs : List Chg} (o : Own h 292 3 s (cs.flatMap sesE)) (hl : cs.length ≤ 2 ^ 40) (c : Chg) :
    ∃ s' h', aAppend Tryz.prog 273 273 s (.sl h.n 0 1 1) (h.push (.cells (sesE c) 292 none)) = some (s', h') ∧ Own h' 292 3 s' ((cs ++ [c]).flatMap sesE) ∧ Keep h h' (isId s) ∧ NewOr h s s' := by
  have kp : Keep h (h.push (.cells (sesE c) 292 none)) none_ := Keep.push _ _ _
  have oj : Own (h.push (.cells (sesE c) 292 none)) 292 3 (.sl h.n 0 1 1) (sesE c) := Own.fresh' (sesE c) 1 rfl (by decide)
  have hsrc := own_src (P := Tryz.prog) (t := 273) kt_273 oj (n := 1) rfl (by decide) (sesE_one c)
  obtain ⟨s', h', ea, oa, ka, na⟩ := append_ownM (P := Tryz.prog) (t := 273) (tx := 273) sl_273 (by decide) (o.keepN kp) hsrc rfl (fun m hm => by
    change m * 3 = _ + 3 at hm
    rw [rows_len sesE_len] at hm
    exact ⟨by simp only [lim]; omega, by simp only [lim]; omega⟩)
  refine ⟨s', h', ea, ?_, (kp.up).trans' ka, NewOr.after na kp.n⟩
  rw [List.flatMap_append]
  simpa using oa
def ended (g t : Int) (x : Chg) : Bool := decide (x.to + g ≤ t)
theorem fil_snoc (q : Chg → Bool) (cs : List Chg) (p : Chg) : (cs ++ [p]).filter q = cs.filter q ++ (if q p = true then [p] else []) := by
  rw [List.filter_append]
  cases h : q p <;> simp [h]
set_option maxHeartbeats 2000000 in
set_option maxRecDepth 10000 in
theorem sesExpireO (h : AHeap) (i : Nat) (v : V) (room g time : Int) (l : List Chg) (k : IsSes h i v room g l) :
    SCalls Tryz.prog 113 [.ptr i 0, .int .i64 time] h (fun r h' => ∃ v', Own h' 40 5 r (((l.filter (ended g time)).map goneS).flatMap chgE) ∧ (∀ j, idOf r = some j → h.n ≤ j ∧ idOf v' ≠ some j) ∧ IsSes h' i v' room g (l.filter fun x => !ended g time x) ∧ Keep h h' (sesO i v) ∧ NewOr h v v') := by
  refine SCalls.enterI (c := _) Tryz.func113 rfl (by kernel_rfl) (by simp) ?_
  have hg := k.get
  have hal := k.alen h
  have l40 := k.len
  have hin := k.lt
  simp only [wpA_skip, wpA_region, wpA_seq, wpA_cond, wpA_block, wpA_loop, condI_false, seqQ_normal, goI_out, goI_ops, opsA_nil, opsA_cons, stepA_move, stepA_assign, stepA_load, stepA_nilCheck, stepA_binOp, stepA_fieldAddr, stepA_len, thenV_some, nilV_ptr, eval_tmp, eval_const, put_some, enterF_zero, enterF_succ, ptr_nil_eql, absV_int, absV_pnil, absV_snil, aField_eq, fieldGo_ptr, aLoad_eq, loadGo_one, aPlace_ptr, dropC_cells, Nat.reduceEqDiff, Nat.reduceAdd, Nat.reduceLeDiff, reduceCtorEq, Nat.zero_add, List.length_cons, List.length_nil, List.drop_zero, List.drop_succ_cons, if_true, if_false, ft_275_2, kt_200, lt_273, hg, hal]
  refine SWp.loopG (α := Nat × V × V) (fun x f h' => f 0 = .ptr i 0 ∧ f 1 = .int .i64 time ∧ f 5 = x.2.1 ∧ f 6 = x.2.2 ∧ f 14 = v ∧ f 15 = .int .i64 (l.length : Nat) ∧ f 16 = .int .i64 (x.1 : Nat) ∧ x.1 ≤ l.length ∧ Keep h h' none_ ∧
      Own h' 40 5 x.2.1 ((((l.take x.1).filter (ended g time)).map goneS).flatMap chgE) ∧ Own h' 292 3 x.2.2 (((l.take x.1).filter fun y => !ended g time y).flatMap sesE) ∧
      (∀ j, idOf x.2.1 = some j → h.n ≤ j ∧ idOf x.2.2 ≠ some j) ∧ (∀ j, idOf x.2.2 = some j → h.n ≤ j)) (fun x => l.length - x.1) (0, .snil, .snil)
    ⟨rfl, rfl, rfl, rfl, rfl, rfl, rfl, Nat.zero_le _, Keep.refl _ _, Own.snil _ _ _, Own.snil _ _ _, by simp [idOf], by simp [idOf]⟩ ?_
  rintro ⟨t, a, b⟩ f h1 ⟨f0, f1, f5, f6, f14, f15, f16, ht, k1, oa, ob, na, nb⟩
  simp only at f5 f6 f16 ht oa ob na nb
  refine wpI_sound (by kernel_rfl) ?_
  by_cases hlt : t < l.length
  · have d1 : decide ((t : Int) < ((l.length : Nat) : Int)) = true := decide_eq_true (by omega)
    have hw := inc64 hlt (by omega)
    have ks := k.keepN k1
    have hp : l[t]? = some l[t] := List.getElem?_eq_getElem hlt
    have ht1 : l.take (t + 1) = l.take t ++ [l[t]] := List.take_succ_eq_append_getElem hlt
    have hfa := fil_snoc (ended g time) (l.take t) l[t]
    have hfb := fil_snoc (fun y => !ended g time y) (l.take t) l[t]
    rw [← ht1] at hfa hfb
    generalize l[t] = p at hp ht1 hfa hfb
    obtain ⟨j, r, x1, x2, x3, x4, _⟩ := srow ks.own hp
    have hpok := k.ok p (List.mem_of_getElem? hp)
    have ld := ses_ld p r
    have cr := ses_cellsE p
    have ldc := ses_ldc p
    have st := ses_st p
    obtain ⟨H, hH⟩ : ∃ y, y = h1.push (.cells (sesE p) 292 none) := ⟨_, rfl⟩
    have gH : H.get h1.n = .cells (sesE p) 292 none := by rw [hH]; exact get_push_new
    have kH : Keep h1 H none_ := by rw [hH]; exact Keep.push _ _ _
    have hg1 := (ks.keepN kH).get
    have oaH := oa.keepN kH
    have obH := ob.keepN kH
    have kkH := k1.trans' kH
    have w2 : IntKind.i64.wrap (p.to + g) = p.to + g := Go.IntWalk.i64_in _ (by have := hpok.lo; have := hpok.le; have := hpok.hi; have := k.g1; have := k.g2; omega)
    simp only [wpA_skip, wpA_region, wpA_seq, wpA_cond, wpA_block, wpA_draw, condI_true, seqQ_normal, goI_out, goI_ops, opsA_nil, opsA_cons, stepA_alloc, stepA_load, stepA_store, stepA_binOp, stepA_indexAddr, thenV_some, thenH_some, thenS_some, eval_tmp, put_some, aBin_lss, aLoad_eq, aPlace_ptr, aStore_eq, storeGo_ptr, aAlloc_eq, get_push_new, set_push, Nat.reduceEqDiff, Option.map_some, if_true, if_false, lt_292, zc_292, zt_292, f14, f15, f16, d1, x1, x4, ld, cr, st]
    rw [← hH]
    clear hH
    refine SWp.drawnS none_ [] (.q 0 (.c 1 (.q 2 (.q 3 (.q 4 (.q 5 (.q 6 (.q 7 (.q 8 .done))))))))) (by kernel_rfl) (by kernel_rfl) (by kernel_rfl) ?_
    simp only [siI_q, sqI_some, mOk_none', implies_true, qI_nil, qI_cons, thenQ_some, q_load, goI_mk, eval_tmp, put_some, put_none, aLoad_eq, loadGo_row, aPlace_ptr, dropC_cells, List.getElem?_cons_zero, Nat.reduceEqDiff, Nat.zero_le, List.drop_zero, true_and, if_true, if_false, lt_292, gH, ldc]
    refine siI_c rfl rfl rfl (fun h' _ => pLastS p hpok h') ?_
    cases e : decide (p.to + g ≤ time)
    · have e' : ended g time p = false := e
      rw [e'] at hfa hfb
      simp only [Bool.false_eq_true, if_false, List.append_nil, Bool.not_false, if_true] at hfa hfb
      obtain ⟨b', h4, ea, o4, k4, n4⟩ := app1S obH (by have := List.length_filter_le (fun y => !ended g time y) (l.take t); have := List.length_take_le t l; omega) p
      have hlit := lit1s H p
      simp only [siI_done, siI_q, sqI_some, mOk_none', implies_true, qI_nil, qI_cons, thenQ_some, q_move, q_load, q_nilCheck, q_binOp, q_fieldAddr, wpA_region, wpA_cond, condI_false, seqQ_normal, blkQ_normal, endI_mk, andThen_normal, goI_out, goI_ops, goI_mk, opsA_nil, opsA_cons, stepA_move, stepA_assign, stepA_buildSlice, stepA_load, stepA_binOp, stepA_append, thenV_some, thenH_some, nilV_ptr, eval_tmp, eval_const, put_some, put_none, aBin_add, aBin_leq, absV_int, aField_eq, fieldGo_ptr, aLoad_eq, loadGo_one, loadGo_row, aPlace_ptr, dropC_cells, List.getElem?_cons_zero, List.getElem?_cons_succ, Nat.reduceEqDiff, Nat.reduceAdd, Nat.reduceLeDiff, reduceCtorEq, List.map_cons, List.map_nil, Nat.zero_add, Nat.zero_le, List.length_cons, List.length_nil, List.drop_zero, List.drop_succ_cons, true_and, if_true, if_false, ft_275_1, lt_2, lt_292, f0, f1, f6, f16, gH, hg1, w2, e, ldc, hlit, ea, hw]
      refine hid_mk ⟨(t + 1, a, b'), ⟨f0, f1, f5, rfl, f14, f15, rfl, hlt, kkH.trans k4 fun q hq hh => by have := nb q hh; omega, by simp only; rw [hfa]; exact oaH.keep k4 fun q hq hh => (na q hq).2 hh, by simp only; rw [hfb]; exact o4, fun q hq => ⟨(na q hq).1, fun hh => ?_⟩, fun q hq => ?_⟩, by simp only; omega⟩
      · rcases n4 with n4 | n4
        · rw [n4] at hh; exact (na q hq).2 hh
        · have := n4 q hh; have := oaH.lt q hq; omega
      · rcases n4 with n4 | n4
        · exact nb q (by rw [← n4]; exact hq)
        · have := n4 q hq; have := kkH.n; omega
    · have e' : ended g time p = true := e
      rw [e'] at hfa hfb
      simp only [Bool.not_true, Bool.false_eq_true, if_false, List.append_nil, if_true] at hfa hfb
      obtain ⟨a', h4, ea, o4, k4, n4⟩ := app1C oaH (by simp only [List.length_map]; have := List.length_filter_le (ended g time) (l.take t); have := List.length_take_le t l; omega) (goneS p)
      have hlit := lit1cS H (goneS p)
      simp only [siI_done, siI_q, sqI_some, mOk_none', implies_true, qI_nil, qI_cons, thenQ_some, q_move, q_load, q_nilCheck, q_binOp, q_fieldAddr, wpA_region, wpA_cond, condI_true, seqQ_normal, goI_out, goI_ops, goI_mk, opsA_cons, stepA_move, stepA_load, stepA_call, thenV_some, nilV_ptr, eval_tmp, put_some, put_none, aBin_add, aBin_leq, aField_eq, fieldGo_ptr, aLoad_eq, loadGo_one, loadGo_row, aPlace_ptr, dropC_cells, List.getElem?_cons_zero, List.getElem?_cons_succ, Nat.reduceEqDiff, Nat.reduceAdd, Nat.reduceLeDiff, reduceCtorEq, List.map_cons, List.map_nil, Nat.zero_add, Nat.zero_le, List.length_cons, List.length_nil, List.drop_zero, List.drop_succ_cons, true_and, if_true, if_false, ft_275_1, lt_2, lt_292, f0, f1, f5, gH, hg1, w2, e, ldc]
      refine callI_pure cal166 (pGone p hpok _) ?_
      simp only [wpA_region, seqQ_normal, blkQ_normal, endI_mk, andThen_normal, goI_out, goI_ops, opsA_nil, opsA_cons, stepA_move, stepA_assign, stepA_buildSlice, stepA_binOp, stepA_append, thenV_some, thenH_some, eval_tmp, eval_const, put_some, put_none, aBin_add, absV_int, Nat.reduceEqDiff, List.map_cons, List.map_nil, if_true, if_false, f16, hlit, ea, hw]
      refine hid_mk ⟨(t + 1, a', b), ⟨f0, f1, rfl, f6, f14, f15, rfl, hlt, kkH.trans k4 fun q hq hh => by have := (na q hh).1; omega, by simp only; rw [hfa, List.map_append]; exact o4, by simp only; rw [hfb]; exact obH.keep k4 fun q hq hh => (na q hh).2 hq, fun q hq => ?_, nb⟩, by simp only; omega⟩
      rcases n4 with n4 | n4
      · exact na q (by rw [← n4]; exact hq)
      · exact ⟨by have := n4 q hq; have := kkH.n; omega, fun hh => by have := n4 q hq; have := obH.lt q hh; omega⟩
  · have d1 : decide ((t : Int) < ((l.length : Nat) : Int)) = false := decide_eq_false (by omega)
    rw [List.take_of_length_le (by omega)] at oa ob
    have hg1 := (k.keepN k1).get
    have one_r : b.one = true := by
      rcases ob with ⟨rfl | rfl, _⟩ | ⟨_, _, _, _, _, rfl, _⟩ <;> rfl
    have cell_r : b.cells = some [b] := by
      rcases ob with ⟨rfl | rfl, _⟩ | ⟨_, _, _, _, _, rfl, _⟩ <;> rfl
    have hset : setC (some 1) (AObj.cells [V.int .i64 room, V.int .i64 g, v] 275 none) 2 [b] = some (.cells [.int .i64 room, .int .i64 g, b] 275 none) := by rw [setC_one one_r]; rfl
    simp only [wpA_region, wpA_seq, wpA_cond, wpA_exit, wpA_ret, condI_false, seqQ_normal, seqQ_exit, blkQ_exit, endI_mk, goE, andThen_exit, goI_out, goI_ops, opsA_nil, opsA_cons, stepA_move, stepA_assign, stepA_store, stepA_nilCheck, stepA_binOp, stepA_fieldAddr, thenV_some, thenS_some, nilV_ptr, eval_tmp, put_some, put_none, aBin_lss, aField_eq, fieldGo_ptr, aStore_eq, storeGo_ptr, Nat.reduceEqDiff, reduceCtorEq, Option.map_some, Nat.zero_add, if_true, if_false, ft_275_2, zt_273, f0, f5, f6, f15, f16, d1, hg1, cell_r, hset, retA_ret, Tryz.results113, resultsA_1]
    have k4 : Keep h1 (h1.set i (.cells [V.int .i64 room, V.int .i64 g, b] 275 none)) (fun q => q = i) := Keep.set _ _ _
    have hbi : idOf b ≠ some i := fun hh => by have := nb i hh; omega
    have hk1n := k1.n
    have oa4 := oa.keep k4 fun q hq hh => by have := (na q hq).1; omega
    have ob4 := ob.keep k4 fun q hq hh => by have := nb q hq; omega
    have ks : IsSes (h1.set i (.cells [V.int .i64 room, V.int .i64 g, b] 275 none)) i b room g (l.filter fun x => !ended g time x) :=
      ⟨by rw [set_n]; omega, get_set_same, ob4, hbi, k.ss.filter _, fun y hy => k.ok y (List.mem_filter.1 hy).1, Nat.le_trans (List.length_filter_le ..) l40, k.g1, k.g2⟩
    refine hid_mk ⟨b, oa4, na, ks, ?_, .inr fun q hq => nb q hq⟩
    exact (k1.up (o := sesO i v)).trans k4 fun q hq hh => .inl hh
end Go.Proofs.YtedkjhifbibpmaaGreatDoor.Pk
namespace Go.Proofs.YtedkjhifbibpmaaGreatDoor.Pk
open Go Go.Proofs Go.Proofs.YtedkjhifbibpmaaGreatDoor.Ab
set_option linter.unusedVariables false
set_option linter.unusedSimpArgs false
end Go.Proofs.YtedkjhifbibpmaaGreatDoor.Pk
