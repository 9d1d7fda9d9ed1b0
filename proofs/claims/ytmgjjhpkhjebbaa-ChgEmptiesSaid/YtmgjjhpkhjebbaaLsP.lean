/-
  What functions of the program do, told of abstract states. Conditions: as each theorem says.
-/
import Derived.Test.YtmgjjhpkhjebbaaLsN
namespace Go.Proofs.Ytmgjjhpkhjebbaa.Pk
open Go Go.Proofs Go.Proofs.Ytmgjjhpkhjebbaa.Ab Go.Sort
set_option linter.unusedVariables false
set_option linter.unusedSimpArgs false
/-! ### Last, as a function -/
def lastOnes : List Chg → List Chg
  | [] => []
  | c :: r => if (r.any fun d => decide (pl c = pl d)) || c.del then lastOnes r else c :: lastOnes r
def insAll (acc : List Chg) (l : List Chg) : List Chg := l.foldl (fun a c => insO c a) acc
def lastL (l : List Chg) : List Chg := insAll [] (lastOnes l)
theorem any_none {r : List Chg} {c : Chg} : (r.any fun d => decide (pl c = pl d)) = false ↔ lastOf r (pl c) = none := by
  rw [lastOf_none, List.any_eq_false]
  constructor
  · intro h d hd e
    exact h d hd (decide_eq_true e.symm)
  · intro h d hd e
    exact h d hd (of_decide_eq_true e).symm
theorem lastOnes_mem : ∀ {l : List Chg} {c : Chg}, c ∈ lastOnes l ↔ lastOf l (pl c) = some c ∧ c.del = false
  | [], c => by simp [lastOnes, lastOf_nil]
  | x :: r, c => by
    rw [lastOnes, lastOf_cons]
    have ih := lastOnes_mem (l := r) (c := c)
    cases hl : lastOf r (pl c) with
    | some d =>
      rw [hl] at ih
      split
      · rw [ih]; rfl
      · rename_i hx
        rw [List.mem_cons, ih]
        constructor
        · rintro (rfl | h)
          · simp only [Bool.or_eq_true, not_or, Bool.not_eq_true] at hx
            rw [any_none] at hx
            rw [hx.1] at hl; cases hl
          · exact h
        · exact fun h => .inr h
    | none =>
      rw [hl] at ih
      have hn : c ∉ lastOnes r := fun h => by have := (ih.1 h).1; cases this
      split
      · rename_i hx
        refine ⟨fun h => absurd h hn, fun ⟨h1, h2⟩ => ?_⟩
        by_cases hp : pl x = pl c
        · rw [if_pos hp] at h1
          have e : x = c := Option.some.inj h1
          subst e
          rw [any_none.2 hl, h2] at hx
          cases hx
        · rw [if_neg hp] at h1; cases h1
      · rename_i hx
        simp only [Bool.or_eq_true, not_or, Bool.not_eq_true] at hx
        rw [List.mem_cons]
        constructor
        · rintro (rfl | h)
          · exact ⟨by rw [if_pos rfl]; rfl, hx.2⟩
          · exact absurd h hn
        · rintro ⟨h1, h2⟩
          by_cases hp : pl x = pl c
          · rw [if_pos hp] at h1
            exact .inl (Option.some.inj h1).symm
          · rw [if_neg hp] at h1; cases h1
theorem lastOnes_apart : ∀ l : List Chg, (lastOnes l).Pairwise fun a b => pl a ≠ pl b
  | [] => List.Pairwise.nil
  | x :: r => by
    rw [lastOnes]
    split
    · exact lastOnes_apart r
    · rename_i hx
      simp only [Bool.or_eq_true, not_or, Bool.not_eq_true] at hx
      refine List.pairwise_cons.2 ⟨fun y hy e => ?_, lastOnes_apart r⟩
      have h1 := (lastOnes_mem.1 hy).1
      rw [← e, any_none.1 hx.1] at h1
      cases h1
theorem insAll_mem {c : Chg} : ∀ {l acc : List Chg}, c ∈ insAll acc l ↔ c ∈ acc ∨ c ∈ l
  | [], acc => by simp [insAll]
  | x :: l, acc => by
    show c ∈ insAll (insO x acc) l ↔ _
    rw [insAll_mem, insO_mem, List.mem_cons]
    constructor
    · rintro ((h | h) | h) <;> simp [h]
    · rintro (h | h | h) <;> simp [h]
theorem insAll_len : ∀ (l acc : List Chg), (insAll acc l).length = acc.length + l.length
  | [], acc => rfl
  | x :: l, acc => by
    show (insAll (insO x acc) l).length = _
    rw [insAll_len, insO_len, List.length_cons]; omega
theorem insAll_up : ∀ {l acc : List Chg}, Rising acc → (l.Pairwise fun a b => pl a ≠ pl b) → (∀ a ∈ acc, ∀ b ∈ l, pl a ≠ pl b) → Rising (insAll acc l)
  | [], acc, h, _, _ => h
  | x :: l, acc, h, hp, hn => by
    have hp' := List.pairwise_cons.1 hp
    show Rising (insAll (insO x acc) l)
    refine insAll_up (insO_up h fun a ha => hn a ha x List.mem_cons_self) hp'.2 fun a ha b hb => ?_
    rcases insO_mem.1 ha with rfl | ha
    · exact hp'.1 b hb
    · exact hn a ha b (List.mem_cons_of_mem _ hb)
theorem isLast (l : List Chg) : IsLast l (lastL l) :=
  ⟨fun c => by unfold lastL; rw [insAll_mem, lastOnes_mem]; simp, insAll_up List.Pairwise.nil (lastOnes_apart l) (by simp)⟩
theorem lastL_len (l : List Chg) : (lastL l).length ≤ l.length := (isLast l).len
theorem lastL_eq {l m : List Chg} (h : ∀ p, live l p = live m p) : lastL l = lastL m := (isLast l).unique (isLast m) h
theorem lastL_again (l : List Chg) : lastL (lastL l) = lastL l := (isLast _).unique (isLast l) fun p => (isLast l).live p
theorem lastL_compact (a b : List Chg) : lastL (lastL a ++ b) = lastL (a ++ b) := lastL_eq fun p => live_compact (isLast a) p
theorem lastL_dead (l : List Chg) (key : Int) : lastL (l ++ ((l.filter fun c => c.key == key).map fun c => { c with del := true })) = (lastL l).filter fun c => c.key != key :=
  (isLast _).unique ((isLast l).others key) fun _ => rfl
theorem pLast (l : List Chg) (hl : l.length ≤ 2 ^ 30) (h : AHeap) : Pure Try.prog 13 [.imm l.length (l.flatMap chgE)] h (.imm (lastL l).length ((lastL l).flatMap chgE)) := by
  refine Pure.of (Clo.imm (rows_clo chgE_clo _)) ((chgLast l hl h).mono fun r h' ⟨out, io, acc⟩ => ?_)
  have e : out = lastL l := io.unique (isLast l) fun _ => rfl
  subst e
  obtain ⟨h2, c, k2⟩ := Cast.own acc.own (n := (lastL l).length) (rows_len chgE_len _) (by decide)
  exact ⟨h2, c, acc.keep.trans k2 fun q hq e => by have := acc.new q e; omega⟩
end Go.Proofs.Ytmgjjhpkhjebbaa.Pk
