/-
  What functions of the program do, told of abstract states. Conditions: as each theorem says.
-/
import Derived.Test.YtmgjjhpkhjebbaaChP
namespace Go.Proofs.Ytmgjjhpkhjebbaa.Pk
set_option linter.unusedVariables false
set_option linter.unusedSimpArgs false
/-! ### The last change of each place -/
def pl (c : Chg) : Chg := ⟨c.key, c.fr, c.to, 0, false⟩
def lastOf (l : List Chg) (p : Chg) : Option Chg := l.foldl (fun o c => if pl c = p then some c else o) none
theorem lastOf_nil (p : Chg) : lastOf [] p = none := rfl
theorem lastOf_snoc (l : List Chg) (c p : Chg) : lastOf (l ++ [c]) p = if pl c = p then some c else lastOf l p := by
  unfold lastOf
  rw [List.foldl_append]
  rfl
theorem lastOf_from (p : Chg) : ∀ (l : List Chg) (o : Option Chg), l.foldl (fun o c => if pl c = p then some c else o) o = (lastOf l p).or o
  | [], o => rfl
  | c :: l, o => by
    unfold lastOf
    rw [List.foldl_cons, List.foldl_cons, lastOf_from p l, lastOf_from p l]
    by_cases h : pl c = p
    · rw [if_pos h, if_pos h]; cases lastOf l p <;> rfl
    · rw [if_neg h, if_neg h]; cases lastOf l p <;> rfl
theorem lastOf_append (a b : List Chg) (p : Chg) : lastOf (a ++ b) p = (lastOf b p).or (lastOf a p) := by
  unfold lastOf
  rw [List.foldl_append]
  exact lastOf_from p b _
theorem lastOf_cons (c : Chg) (l : List Chg) (p : Chg) : lastOf (c :: l) p = (lastOf l p).or (if pl c = p then some c else none) := by
  rw [show c :: l = [c] ++ l from rfl, lastOf_append]
  rfl
theorem lastOf_some : ∀ {l : List Chg} {p c : Chg}, lastOf l p = some c → c ∈ l ∧ pl c = p
  | [], p, c, h => by cases h
  | x :: l, p, c, h => by
    rw [lastOf_cons] at h
    cases hl : lastOf l p with
    | some y =>
      rw [hl] at h
      cases h
      obtain ⟨h1, h2⟩ := lastOf_some hl
      exact ⟨List.mem_cons_of_mem _ h1, h2⟩
    | none =>
      rw [hl] at h
      by_cases hp : pl x = p
      · rw [if_pos hp] at h; cases h; exact ⟨List.mem_cons_self, hp⟩
      · rw [if_neg hp] at h; cases h
theorem lastOf_none : ∀ {l : List Chg} {p : Chg}, lastOf l p = none ↔ ∀ c ∈ l, pl c ≠ p
  | [], p => by simp [lastOf_nil]
  | x :: l, p => by
    rw [lastOf_cons]
    constructor
    · intro h c hc
      cases hl : lastOf l p with
      | some y => rw [hl] at h; cases h
      | none =>
        rw [hl] at h
        rcases List.mem_cons.1 hc with rfl | hc
        · intro hp; rw [if_pos hp] at h; cases h
        · exact lastOf_none.1 hl c hc
    · intro h
      rw [lastOf_none.2 fun c hc => h c (List.mem_cons_of_mem _ hc), if_neg (h x List.mem_cons_self)]
      rfl
def aheadO (a b : Chg) : Bool := decide (a.key < b.key ∨ (a.key = b.key ∧ (a.fr < b.fr ∨ (a.fr = b.fr ∧ a.to < b.to))))
theorem aheadO_irr (a : Chg) : aheadO a a = false := by unfold aheadO; exact decide_eq_false (by omega)
theorem aheadO_trans {a b c : Chg} (h1 : aheadO a b = true) (h2 : aheadO b c = true) : aheadO a c = true := by
  unfold aheadO at *
  simp only [decide_eq_true_eq] at *
  omega
theorem aheadO_ntrans {a b c : Chg} (h1 : aheadO a b = false) (h2 : aheadO b c = false) : aheadO a c = false := by
  unfold aheadO at *
  simp only [decide_eq_false_iff_not] at *
  omega
theorem aheadO_asymm {a b : Chg} (h : aheadO a b = true) : aheadO b a = false := by
  unfold aheadO at *
  simp only [decide_eq_false_iff_not, decide_eq_true_eq] at *
  omega
theorem aheadO_total {a b : Chg} (h : pl a ≠ pl b) (hn : aheadO b a = false) : aheadO a b = true := by
  unfold aheadO at *
  simp only [decide_eq_false_iff_not, decide_eq_true_eq] at *
  have : ¬ (a.key = b.key ∧ a.fr = b.fr ∧ a.to = b.to) := fun e => h (by unfold pl; rw [e.1, e.2.1, e.2.2])
  omega
theorem aheadO_pl {a b : Chg} (h : aheadO a b = true) : pl a ≠ pl b := fun e => by
  unfold pl at e
  unfold aheadO at h
  simp only [Chg.mk.injEq, decide_eq_true_eq] at e h
  omega
abbrev Rising (l : List Chg) : Prop := l.Pairwise fun a b => aheadO a b = true
theorem rising_unique : ∀ {a b : List Chg}, Rising a → Rising b → (∀ c, c ∈ a ↔ c ∈ b) → a = b
  | [], [], _, _, _ => rfl
  | [], y :: b, _, _, h => by have := (h y).2 List.mem_cons_self; cases this
  | x :: a, [], _, _, h => by have := (h x).1 List.mem_cons_self; cases this
  | x :: a, y :: b, ha, hb, h => by
    have ha' := List.pairwise_cons.1 ha
    have hb' := List.pairwise_cons.1 hb
    have hxy : x = y := by
      apply Classical.byContradiction
      intro hne
      have hy : y ∈ a := by
        rcases List.mem_cons.1 ((h y).2 List.mem_cons_self) with e | e
        · exact absurd e.symm hne
        · exact e
      have hx : x ∈ b := by
        rcases List.mem_cons.1 ((h x).1 List.mem_cons_self) with e | e
        · exact absurd e hne
        · exact e
      have h1 := aheadO_asymm (ha'.1 y hy)
      have h2 := hb'.1 x hx
      rw [h1] at h2
      cases h2
    subst hxy
    rw [rising_unique ha'.2 hb'.2 fun c => ?_]
    constructor
    · intro hc
      rcases List.mem_cons.1 ((h c).1 (List.mem_cons_of_mem _ hc)) with e | e
      · subst e
        have := ha'.1 c hc
        rw [aheadO_irr] at this
        cases this
      · exact e
    · intro hc
      rcases List.mem_cons.1 ((h c).2 (List.mem_cons_of_mem _ hc)) with e | e
      · subst e
        have := hb'.1 c hc
        rw [aheadO_irr] at this
        cases this
      · exact e
/-- What Last tells of changes. -/
structure IsLast (l out : List Chg) : Prop where
  mem : ∀ c, c ∈ out ↔ lastOf l (pl c) = some c ∧ c.del = false
  up : Rising out
def live (l : List Chg) (p : Chg) : Option Chg := (lastOf l p).filter fun c => !c.del
theorem live_some {l : List Chg} {p c : Chg} : live l p = some c ↔ lastOf l p = some c ∧ c.del = false := by
  unfold live
  rw [Option.filter_eq_some_iff]
  simp
theorem IsLast.unique {l m a b : List Chg} (ha : IsLast l a) (hb : IsLast m b) (h : ∀ p, live l p = live m p) : a = b :=
  rising_unique ha.up hb.up fun c => by
    rw [ha.mem, hb.mem, ← live_some, ← live_some, h]
theorem IsLast.len {l out : List Chg} (h : IsLast l out) : out.length ≤ l.length := by
  have hn : out.Nodup := h.up.imp fun {a b} hab e => by subst e; rw [aheadO_irr] at hab; cases hab
  exact hn.length_le_of_subset fun c hc => (lastOf_some ((h.mem c).1 hc).1).1
theorem IsLast.lastOf {l out : List Chg} (h : IsLast l out) (p : Chg) : Pk.lastOf out p = live l p := by
  cases hl : live l p with
  | some c =>
    obtain ⟨h1, h2⟩ := live_some.1 hl
    have hp := (lastOf_some h1).2
    have hc : c ∈ out := (h.mem c).2 ⟨by rw [hp]; exact h1, h2⟩
    cases ho : Pk.lastOf out p with
    | none => exact absurd hp (lastOf_none.1 ho c hc)
    | some d =>
      obtain ⟨h3, h4⟩ := lastOf_some ho
      have h5 := ((h.mem d).1 h3).1
      rw [h4, h1] at h5
      exact h5.symm
  | none =>
    rw [lastOf_none]
    intro c hc hp
    have := (h.mem c).1 hc
    rw [hp, ← live_some, hl] at this
    cases this
theorem IsLast.live {l out : List Chg} (h : IsLast l out) (p : Chg) : Pk.live out p = Pk.live l p := by
  rw [Pk.live, h.lastOf, Pk.live]
  cases Pk.lastOf l p with
  | none => rfl
  | some c => cases hc : c.del <;> simp [Option.filter, hc]
/-- Last of what Last tells of a beginning, with the rest behind it. -/
theorem live_compact {a b out : List Chg} (h : IsLast a out) (p : Chg) : live (out ++ b) p = live (a ++ b) p := by
  unfold live
  rw [lastOf_append, lastOf_append, h.lastOf]
  cases lastOf b p with
  | some c => rfl
  | none =>
    show (live a p).filter _ = live a p
    unfold live
    cases lastOf a p with
    | none => rfl
    | some c => cases hc : c.del <;> simp [Option.filter, hc]
/-- Changes of one key that tell Del, behind. -/
theorem live_dead {l : List Chg} {key : Int} (p : Chg) : live (l ++ ((l.filter fun c => c.key == key).map fun c => { c with del := true })) p = if p.key = key then none else live l p := by
  unfold live
  rw [lastOf_append]
  cases hl : lastOf ((l.filter fun c => c.key == key).map fun c => { c with del := true }) p with
  | some c =>
    obtain ⟨h1, h2⟩ := lastOf_some hl
    obtain ⟨d, hd, rfl⟩ := List.mem_map.1 h1
    have h3 := (List.mem_filter.1 hd).2
    have : p.key = key := by rw [← h2]; simpa [pl] using h3
    rw [if_pos this]
    rfl
  | none =>
    by_cases hk : p.key = key
    · rw [if_pos hk]
      have : lastOf l p = none := lastOf_none.2 fun c hc hp => by
        have h1 := lastOf_none.1 hl { c with del := true } (List.mem_map.2 ⟨c, List.mem_filter.2 ⟨hc, ?_⟩, rfl⟩)
        · exact h1 hp
        · rw [← hp] at hk
          simpa [pl] using hk
      rw [this]; rfl
    · rw [if_neg hk]; rfl
theorem IsLast.others {l out : List Chg} (h : IsLast l out) (key : Int) : IsLast (l ++ ((l.filter fun c => c.key == key).map fun c => { c with del := true })) (out.filter fun c => c.key != key) := by
  refine ⟨fun c => ?_, List.Pairwise.sublist List.filter_sublist h.up⟩
  rw [← live_some, live_dead, List.mem_filter, h.mem, ← live_some]
  have : (pl c).key = c.key := rfl
  rw [this]
  by_cases hk : c.key = key
  · simp [hk]
  · simp [hk]
/-! ### One more, at its place -/
def insO (c : Chg) : List Chg → List Chg
  | [] => [c]
  | x :: r => if aheadO c x then c :: x :: r else x :: insO c r
theorem insO_app {c : Chg} : ∀ {a : List Chg} (b : List Chg), (∃ x ∈ a, aheadO c x = true) → insO c (a ++ b) = insO c a ++ b
  | [], b, h => by obtain ⟨x, hx, _⟩ := h; cases hx
  | y :: a, b, h => by
    rw [List.cons_append, insO, insO]
    by_cases hy : aheadO c y = true
    · rw [if_pos hy, if_pos hy]; rfl
    · rw [if_neg hy, if_neg hy, insO_app b, List.cons_append]
      obtain ⟨x, hx, h2⟩ := h
      rcases List.mem_cons.1 hx with rfl | hx
      · exact absurd h2 hy
      · exact ⟨x, hx, h2⟩
theorem insO_skip {c : Chg} : ∀ {a : List Chg} (b : List Chg), (∀ x ∈ a, aheadO c x = false) → insO c (a ++ b) = a ++ insO c b
  | [], b, h => rfl
  | y :: a, b, h => by
    rw [List.cons_append, insO, if_neg (by rw [h y List.mem_cons_self]; decide), insO_skip b fun x hx => h x (List.mem_cons_of_mem _ hx), List.cons_append]
theorem insO_mem {c d : Chg} : ∀ {l : List Chg}, d ∈ insO c l ↔ d = c ∨ d ∈ l
  | [] => by simp [insO]
  | x :: l => by
    rw [insO]
    split
    · simp
    · rw [List.mem_cons, insO_mem, List.mem_cons]
      constructor
      · rintro (h | h | h) <;> simp [h]
      · rintro (h | h | h) <;> simp [h]
theorem insO_len {c : Chg} : ∀ {l : List Chg}, (insO c l).length = l.length + 1
  | [] => rfl
  | x :: l => by
    rw [insO]
    split
    · rfl
    · rw [List.length_cons, insO_len, List.length_cons]
theorem insO_up {c : Chg} : ∀ {l : List Chg}, Rising l → (∀ x ∈ l, pl x ≠ pl c) → Rising (insO c l)
  | [], _, _ => List.pairwise_singleton _ _
  | x :: l, h, hn => by
    have h' := List.pairwise_cons.1 h
    rw [insO]
    split
    · rename_i hc
      exact List.pairwise_cons.2 ⟨fun y hy => by
        rcases List.mem_cons.1 hy with rfl | hy
        · exact hc
        · exact aheadO_trans hc (h'.1 y hy), h⟩
    · rename_i hc
      refine List.pairwise_cons.2 ⟨fun y hy => ?_, insO_up h'.2 fun y hy => hn y (List.mem_cons_of_mem _ hy)⟩
      rcases insO_mem.1 hy with rfl | hy
      · exact aheadO_total (hn x List.mem_cons_self) (by simpa using hc)
      · exact h'.1 y hy
end Go.Proofs.Ytmgjjhpkhjebbaa.Pk
