/-
  What functions of the program do, told of abstract states. Conditions: as each theorem says.
-/
import Derived.Test.YtihgdbelfjdajaaWiQ
namespace Go.Proofs.Ytihgdbelfjdajaa.Pk
open Go Go.Proofs Go.Proofs.Ytihgdbelfjdajaa.Ab
set_option linter.unusedVariables false
set_option linter.unusedSimpArgs false
/-! ### Sorted changes -/
def plC (c : Chg) : Int × Int := (c.key, c.fr)
theorem ahead_cases {a b : Chg} (h : plC a ≠ plC b) (hn : aheadW b a = false) : aheadW a b = true := by
  unfold aheadW at *
  simp only [decide_eq_false_iff_not, decide_eq_true_eq] at *
  have : ¬ (a.key = b.key ∧ a.fr = b.fr) := fun e => h (Prod.ext e.1 e.2)
  omega
theorem ahead_asymm {a b : Chg} (h : aheadW a b = true) : aheadW b a = false := by
  unfold aheadW at *
  simp only [decide_eq_false_iff_not, decide_eq_true_eq] at *
  omega
/-- Sorted lists of the same changes, no place twice, are the same. -/
theorem sorted_unique : ∀ {a b : List Chg}, a.Perm b → SortedW a → SortedW b → (a.map plC).Nodup → a = b
  | [], b, hp, _, _, _ => (List.nil_perm.1 hp).symm
  | x :: a, b, hp, ha, hb, hd => by
    cases b with
    | nil => exact absurd (List.perm_nil.1 hp) (by simp)
    | cons y b =>
      have hd' := List.nodup_cons.1 hd
      have ha' := List.pairwise_cons.1 ha
      have hb' := List.pairwise_cons.1 hb
      have hxy : x = y := by
        apply Classical.byContradiction
        intro hne
        have hy : y ∈ a := by
          rcases List.mem_cons.1 (hp.symm.subset (List.mem_cons_self (a := y) (l := b))) with h | h
          · exact absurd h.symm hne
          · exact h
        have hx : x ∈ b := by
          rcases List.mem_cons.1 (hp.subset (List.mem_cons_self (a := x) (l := a))) with h | h
          · exact absurd h hne
          · exact h
        have h1 := ha'.1 y hy
        have h2 := hb'.1 x hx
        have hpl : plC x ≠ plC y := fun e => hd'.1 (List.mem_map.2 ⟨y, hy, e.symm⟩)
        have h3 := ahead_cases hpl h1
        rw [h3] at h2
        cases h2
      subst hxy
      rw [sorted_unique (List.Perm.cons_inv hp) ha'.2 hb'.2 hd'.2]
theorem sorted_append {a b : List Chg} (ha : SortedW a) (hb : SortedW b) (h : ∀ x ∈ a, ∀ y ∈ b, aheadW y x = false) : SortedW (a ++ b) := List.pairwise_append.2 ⟨ha, hb, h⟩
theorem split_sorted {p : Chg → Bool} : ∀ {l : List Chg}, SortedW l → (∀ a ∈ l, ∀ b ∈ l, p b = true → p a = false → aheadW b a = true) → l = l.filter p ++ l.filter fun c => !p c
  | [], _, _ => rfl
  | x :: l, hs, h => by
    have hs' := List.pairwise_cons.1 hs
    have ih := split_sorted (p := p) hs'.2 fun a ha b hb => h a (List.mem_cons_of_mem _ ha) b (List.mem_cons_of_mem _ hb)
    cases hp : p x
    · have hall : ∀ y ∈ l, p y = false := fun y hy => by
        cases hy2 : p y
        · rfl
        · have h1 := h x List.mem_cons_self y (List.mem_cons_of_mem _ hy) hy2 hp
          have h2 := hs'.1 y hy
          rw [h1] at h2; cases h2
      rw [List.filter_cons_of_neg (by simp [hp]), List.filter_cons_of_pos (by simp [hp])]
      rw [List.filter_eq_nil_iff.2 (fun y hy => by simp [hall y hy]), List.filter_eq_self.2 (fun y hy => by simp [hall y hy])]
      rfl
    · rw [List.filter_cons_of_pos hp, List.filter_cons_of_neg (by simp [hp]), List.cons_append, ← ih]
def toGone (c : Chg) : Chg := ⟨c.key, c.fr, c.to, 0, true⟩
theorem goneW_eq (size : Int) (e : Nat × (Int × Int) × Int) : goneW size e = toGone (chgW size e) := rfl
theorem plC_chgW (size : Int) (l : Ent) : (l.map (chgW size)).map plC = l.map (·.2.1) := by
  rw [List.map_map]; rfl
/-- What a store has: what has ended by then, as Expire tells it, and the others, in one order. -/
theorem ends_split {size before : Int} {l : Ent} (hk : KNodup l) {lw lo li : List Chg} (pw : lw.Perm (l.map (chgW size))) (sw : SortedW lw) (po : lo.Perm ((l.filter (gnW size before)).map (goneW size))) (so : SortedW lo)
    (pi : li.Perm ((l.filter fun e => !gnW size before e).map (chgW size))) (si : SortedW li) :
    ∃ A, lw = A ++ li ∧ lo = A.map toGone ∧ (∀ c ∈ A, c.to ≤ before) ∧ (∀ c ∈ li, before < c.to) := by
  let p : Chg → Bool := fun c => decide (c.to ≤ before)
  have hto : ∀ c ∈ lw, c.to = c.fr + size := fun c hc => by
    obtain ⟨e, _, rfl⟩ := List.mem_map.1 (pw.subset hc)
    rfl
  have hsp := split_sorted (p := p) sw fun a ha b hb h1 h2 => by
    have e1 := hto a ha
    have e2 := hto b hb
    simp only [p, decide_eq_true_eq, decide_eq_false_iff_not] at h1 h2
    unfold aheadW
    exact decide_eq_true (.inl (by omega))
  have nd : (lw.map plC).Nodup := by
    have := (pw.map plC).nodup_iff.2 (by rw [plC_chgW]; exact hk)
    exact this
  have fA : (lw.filter p).Perm ((l.filter (gnW size before)).map (chgW size)) := by
    have := pw.filter p
    rw [List.filter_map] at this
    exact this
  have fB : (lw.filter fun c => !p c).Perm ((l.filter fun e => !gnW size before e).map (chgW size)) := by
    have := pw.filter fun c => !p c
    rw [List.filter_map] at this
    exact this
  have sA : SortedW (lw.filter p) := List.Pairwise.sublist List.filter_sublist sw
  have sB : SortedW (lw.filter fun c => !p c) := List.Pairwise.sublist List.filter_sublist sw
  have hB : (lw.filter fun c => !p c) = li := sorted_unique (fB.trans pi.symm) sB si (nd.sublist (List.filter_sublist.map _))
  have sA2 : SortedW ((lw.filter p).map toGone) := List.pairwise_map.2 (sA.imp fun h => h)
  have pA : ((lw.filter p).map toGone).Perm lo := by
    refine ((fA.map toGone).trans ?_).trans po.symm
    rw [List.map_map]
    exact List.Perm.refl _
  have hA : (lw.filter p).map toGone = lo := sorted_unique pA sA2 so (by
    rw [List.map_map]
    have := nd.sublist ((List.filter_sublist (p := p) (l := lw)).map plC)
    exact this)
  refine ⟨lw.filter p, by rw [← hB]; exact hsp, hA.symm, fun c hc => ?_, fun c hc => ?_⟩
  · have := (List.mem_filter.1 hc).2
    simpa [p] using this
  · rw [← hB] at hc
    have := (List.mem_filter.1 hc).2
    simp [p] at this
    exact this
end Go.Proofs.Ytihgdbelfjdajaa.Pk
