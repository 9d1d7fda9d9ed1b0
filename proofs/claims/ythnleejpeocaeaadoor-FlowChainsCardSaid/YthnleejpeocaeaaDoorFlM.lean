/-
  What functions of the program do, told of abstract states. Conditions: as each theorem says.
-/
import Derived.Test.YthnleejpeocaeaaDoorFlX
namespace Go.Proofs.YthnleejpeocaeaaDoor.Pk
open Go Go.Proofs Go.Proofs.YthnleejpeocaeaaDoor.Ab
set_option linter.unusedVariables false
set_option linter.unusedSimpArgs false
/-! ### A chain is its beginning, and what that tells through its end -/
/-- What the vertices make of a record, were there no totals. -/
def ideal : List Vx → Rec → Option (List Rec)
  | [], r => some [r]
  | v :: vs, r => if (applyX v r).2 ≠ 0 then none else ((applyX v r).1.mapM (ideal vs)).map List.flatten
def idealL (vs : List Vx) (R : List Rec) : Option (List Rec) := (R.mapM (ideal vs)).map List.flatten
theorem idealL_nil (vs : List Vx) : idealL vs [] = some [] := by simp [idealL]
theorem idealL_cons (vs : List Vx) (x : Rec) (R : List Rec) : idealL vs (x :: R) = (ideal vs x).bind fun l => (idealL vs R).map fun m => l ++ m := by
  unfold idealL
  rw [List.mapM_cons]
  cases ideal vs x <;> simp
  cases R.mapM (ideal vs) <;> simp
theorem ideal_cons (v : Vx) (vs : List Vx) (r : Rec) : ideal (v :: vs) r = if (applyX v r).2 ≠ 0 then none else idealL vs (applyX v r).1 := rfl
theorem idealL_append (vs : List Vx) : ∀ a b : List Rec, idealL vs (a ++ b) = (idealL vs a).bind fun l => (idealL vs b).map fun m => l ++ m
  | [], b => by rw [idealL_nil]; simp
  | x :: a, b => by
    rw [List.cons_append, idealL_cons, idealL_cons, idealL_append vs a b]
    cases ideal vs x <;> simp
    cases idealL vs a <;> simp
    cases idealL vs b <;> simp
theorem ideal_append : ∀ (a b : List Vx) (r : Rec), ideal (a ++ b) r = (ideal a r).bind (idealL b)
  | [], b, r => by
    show ideal b r = (some [r]).bind (idealL b)
    rw [Option.bind_some, idealL_cons, idealL_nil]
    cases ideal b r <;> simp
  | v :: a, b, r => by
    rw [List.cons_append, ideal_cons, ideal_cons]
    split
    · rfl
    · have : ∀ R, idealL (a ++ b) R = (idealL a R).bind (idealL b) := by
        intro R
        induction R with
        | nil => rw [idealL_nil, idealL_nil, Option.bind_some, idealL_nil]
        | cons x R ih =>
          rw [idealL_cons, idealL_cons, ih, ideal_append a b x]
          cases ideal a x with
          | none => rfl
          | some l =>
            simp only [Option.bind_some]
            cases idealL a R with
            | none => simp
            | some m => simp only [Option.map_some, Option.bind_some, idealL_append]
      exact this _
/-- What a run tells of the ideal. -/
def Told (o : Option (List Rec)) (s : PS) (p : (Int × Int) × PS) : Prop :=
  (p.1.2 = 0 → ∃ l, o = some l ∧ p.2.1 = s.1 ++ l) ∧ (p.1.2 ≠ 0 → p.1.2 ≠ 3 → o = none)
theorem passL_told {f : Rec → PS → (Int × Int) × PS} {vs : List Vx} (H : ∀ r s, Told (ideal vs r) s (f r s)) : ∀ (R : List Rec) (s : PS), Told (idealL vs R) s (passL f R s)
  | [], s => ⟨fun _ => ⟨[], idealL_nil _, by simp [passL]⟩, fun h => absurd rfl h⟩
  | x :: R, s => by
    obtain ⟨o1, e1⟩ := H x s
    rw [idealL_cons]
    unfold passL
    by_cases he : (f x s).1.2 = 0
    · rw [if_neg (by simp [he])]
      obtain ⟨l1, i1, q1⟩ := o1 he
      obtain ⟨o2, e2⟩ := passL_told H R (f x s).2
      refine ⟨fun h => ?_, fun h h3 => ?_⟩
      · obtain ⟨l2, i2, q2⟩ := o2 h
        exact ⟨l1 ++ l2, by rw [i1, i2]; rfl, by rw [q2, q1, List.append_assoc]⟩
      · rw [e2 h h3, i1]; rfl
    · rw [if_pos he]
      exact ⟨fun h => absurd h he, fun h h3 => by rw [e1 h h3]; rfl⟩
theorem passX_told : ∀ (vs : List Vx) (i : Nat) (r : Rec) (s : PS), Told (ideal vs r) s (passX vs i r s)
  | [], i, r, s => ⟨fun _ => ⟨[r], rfl, rfl⟩, fun h => absurd rfl h⟩
  | v :: vs, i, r, s => by
    rw [ideal_cons]
    unfold passX
    by_cases h1 : (applyX v r).2 ≠ 0
    · rw [if_pos h1, if_pos h1]
      exact ⟨fun h => absurd h h1, fun _ _ => rfl⟩
    · rw [if_neg h1, if_neg h1]
      split
      · exact ⟨fun h => by simp at h, fun _ h => by simp at h⟩
      · exact passL_told (passX_told vs (i + 1)) _ (s.1, addT s.2 i (applyX v r).1.length)

/-! ### The totals of the whole are no less than those of the pieces -/
def Rel (m i i' : Nat) (s s' : PS) : Prop := ∀ q, q < m → 0 ≤ s'.2.getD (i' + q) 0 ∧ s'.2.getD (i' + q) 0 ≤ s.2.getD (i + q) 0
theorem passL_frame {f : Rec → PS → (Int × Int) × PS} {i : Nat} (H : ∀ r s q, q < i → (f r s).2.2.getD q 0 = s.2.getD q 0) : ∀ (R : List Rec) (s : PS) (q : Nat), q < i → (passL f R s).2.2.getD q 0 = s.2.getD q 0
  | [], s, q, hq => rfl
  | x :: R, s, q, hq => by
    unfold passL
    split
    · exact H x s q hq
    · rw [passL_frame H R _ q hq, H x s q hq]
theorem passX_frame : ∀ (vs : List Vx) (i : Nat) (r : Rec) (s : PS) (q : Nat), q < i → (passX vs i r s).2.2.getD q 0 = s.2.getD q 0
  | [], i, r, s, q, hq => rfl
  | v :: vs, i, r, s, q, hq => by
    unfold passX
    split
    · rfl
    · split
      · simp only; rw [addT_other _ _ _ _ (by omega)]
      · rw [passL_frame (i := i + 1) (fun r s q hq => passX_frame vs (i + 1) r s q hq) _ _ q (by omega)]
        simp only; rw [addT_other _ _ _ _ (by omega)]
theorem addT_good {n i c : Nat} {s : PS} (g : Good n s) (hi : i < n) (hc : c ≤ 4) : (addT s.2 i c).getD i 0 = s.2.getD i 0 + (c : Int) ∧ (¬ 10000 < (addT s.2 i c).getD i 0 → Good n (s.1, addT s.2 i c)) := by
  have hg := g.2 i
  have ht : (addT s.2 i c).getD i 0 = s.2.getD i 0 + (c : Int) := by
    rw [addT_same _ _ _ (by rw [g.1]; exact hi)]
    unfold w64
    rw [Go.IntWalk.i64_in _ (by omega)]
  refine ⟨ht, fun h => ⟨by rw [addT_len]; exact g.1, fun q => ?_⟩⟩
  by_cases hq : q = i
  · subst hq; simp only; omega
  · simp only; rw [addT_other _ _ _ _ hq]; exact g.2 q
theorem passL_good {f : Rec → PS → (Int × Int) × PS} {n : Nat} (H : ∀ r s, Good n s → (f r s).1.2 = 0 → Good n (f r s).2) : ∀ (R : List Rec) (s : PS), Good n s → (passL f R s).1.2 = 0 → Good n (passL f R s).2
  | [], s, g, _ => g
  | x :: R, s, g, h => by
    unfold passL at h ⊢
    by_cases he : (f x s).1.2 = 0
    · rw [if_neg (by simp [he])] at h ⊢
      exact passL_good H R _ (H x s g he) h
    · rw [if_pos he] at h
      exact absurd h he
theorem passX_good {n : Nat} : ∀ (vs : List Vx) (i : Nat) (r : Rec) (s : PS), i + vs.length ≤ n → Good n s → (passX vs i r s).1.2 = 0 → Good n (passX vs i r s).2
  | [], i, r, s, hn, g, _ => g
  | v :: vs, i, r, s, hn, g, h => by
    rw [List.length_cons] at hn
    obtain ⟨t1, t2⟩ := addT_good g (i := i) (c := (applyX v r).1.length) (by omega) (applyX_le v r)
    unfold passX at h ⊢
    by_cases h1 : (applyX v r).2 ≠ 0
    · rw [if_pos h1] at h; exact absurd h h1
    · rw [if_neg h1] at h ⊢
      by_cases h2 : 10000 < (addT s.2 i (applyX v r).1.length).getD i 0
      · rw [if_pos h2] at h; simp at h
      · rw [if_neg h2] at h ⊢
        exact passL_good (fun r s g h => passX_good vs (i + 1) r s (by omega) g h) _ _ (t2 h2) h
/-- The whole went well: so does the beginning, and the end with each that it tells. -/
def Sim (b : List Vx) (n m i i' j : Nat) (s s' : PS) (p p' : (Int × Int) × PS) : Prop :=
  p'.1.2 = 0 ∧ Good n p.2 ∧ p'.2.2.length = s'.2.length ∧ Rel m i i' p.2 p'.2 ∧ ∃ l, p'.2.1 = s'.1 ++ l ∧ ∀ x ∈ l, ∃ st, Good n st ∧ (passX b j x st).1.2 = 0
theorem passL_sim {b : List Vx} {n m i i' j e : Nat} {f f' : Rec → PS → (Int × Int) × PS} (H : ∀ x s s', Good n s → e ≤ s'.2.length → Rel m i i' s s' → (f x s).1.2 = 0 → Sim b n m i i' j s s' (f x s) (f' x s')) :
    ∀ (R : List Rec) (s s' : PS), Good n s → e ≤ s'.2.length → Rel m i i' s s' → (passL f R s).1.2 = 0 → Sim b n m i i' j s s' (passL f R s) (passL f' R s')
  | [], s, s', g, he, r, _ => ⟨rfl, g, rfl, r, [], by simp [passL], fun x hx => by simp at hx⟩
  | x :: R, s, s', g, he, r, h => by
    unfold passL at h ⊢
    by_cases hz : (f x s).1.2 = 0
    · rw [if_neg (by simp [hz])] at h ⊢
      obtain ⟨z1, g1, n1, r1, l1, q1, d1⟩ := H x s s' g he r hz
      rw [if_neg (by simp [z1])]
      obtain ⟨z2, g2, n2, r2, l2, q2, d2⟩ := passL_sim H R (f x s).2 (f' x s').2 g1 (by omega) r1 h
      refine ⟨z2, g2, n2.trans n1, r2, l1 ++ l2, by rw [q2, q1, List.append_assoc], fun y hy => ?_⟩
      rcases List.mem_append.1 hy with hy | hy
      · exact d1 y hy
      · exact d2 y hy
    · rw [if_pos hz] at h
      exact absurd h hz
theorem passX_sim (b : List Vx) (n : Nat) : ∀ (a : List Vx) (i i' : Nat) (r : Rec) (s s' : PS), i + a.length + b.length = n → i' + a.length ≤ s'.2.length → Good n s → Rel a.length i i' s s' → (passX (a ++ b) i r s).1.2 = 0 → Sim b n a.length i i' (i + a.length) s s' (passX (a ++ b) i r s) (passX a i' r s')
  | [], i, i', r, s, s', hn, hl, g, hr, h => by
    refine ⟨rfl, passX_good b i r s (by simp only [List.length_nil] at hn; omega) g h, rfl, fun q hq => by simp at hq, [r], rfl, fun x hx => ?_⟩
    obtain rfl : x = r := by simpa using hx
    exact ⟨s, g, h⟩
  | v :: a, i, i', r, s, s', hn, hl, g, hr, h => by
    rw [List.length_cons] at hn hl hr
    have hr0 := hr 0 (by omega)
    simp only [Nat.add_zero] at hr0
    have gi := g.2 i
    have hc := applyX_le v r
    obtain ⟨t1, t2⟩ := addT_good g (i := i) (c := (applyX v r).1.length) (by omega) hc
    have t1' : (addT s'.2 i' (applyX v r).1.length).getD i' 0 = s'.2.getD i' 0 + ((applyX v r).1.length : Int) := by
      rw [addT_same _ _ _ (by omega)]
      unfold w64
      rw [Go.IntWalk.i64_in _ (by omega)]
    rw [List.cons_append] at h ⊢
    unfold passX at h ⊢
    by_cases h1 : (applyX v r).2 ≠ 0
    · rw [if_pos h1] at h; exact absurd h h1
    rw [if_neg h1] at h ⊢
    rw [if_neg h1]
    by_cases h2 : 10000 < (addT s.2 i (applyX v r).1.length).getD i 0
    · rw [if_pos h2] at h; simp at h
    rw [if_neg h2] at h ⊢
    rw [if_neg (by omega)]
    have hrel : Rel a.length (i + 1) (i' + 1) (s.1, addT s.2 i (applyX v r).1.length) (s'.1, addT s'.2 i' (applyX v r).1.length) := fun q hq => by
      have := hr (q + 1) (by omega)
      simp only
      rw [addT_other _ _ _ _ (by omega), addT_other _ _ _ _ (by omega), show i + 1 + q = i + (q + 1) by omega, show i' + 1 + q = i' + (q + 1) by omega]
      exact this
    obtain ⟨z, g1, n1, r1, l, q1, d1⟩ := passL_sim (b := b) (n := n) (m := a.length) (i := i + 1) (i' := i' + 1) (j := i + 1 + a.length) (e := i' + 1 + a.length) (f := passX (a ++ b) (i + 1)) (f' := passX a (i' + 1))
      (fun x s s' g he hr hz => passX_sim b n a (i + 1) (i' + 1) x s s' (by omega) he g hr hz) (applyX v r).1 (s.1, addT s.2 i (applyX v r).1.length) (s'.1, addT s'.2 i' (applyX v r).1.length) (t2 h2) (by rw [addT_len]; omega) hrel h
    refine ⟨z, g1, n1.trans (addT_len _ _ _), fun q hq => ?_, l, q1, by rw [List.length_cons, show i + (a.length + 1) = i + 1 + a.length by omega]; exact d1⟩
    cases q with
    | zero =>
      simp only [Nat.add_zero]
      rw [passL_frame (i := i + 1) (fun r s q hq => passX_frame (a ++ b) (i + 1) r s q hq) _ _ i (by omega), passL_frame (i := i' + 1) (fun r s q hq => passX_frame a (i' + 1) r s q hq) _ _ i' (by omega)]
      simp only
      omega
    | succ q =>
      rw [List.length_cons] at hq
      have := r1 q (by omega)
      rwa [show i + 1 + q = i + (q + 1) by omega, show i' + 1 + q = i' + (q + 1) by omega] at this
end Go.Proofs.YthnleejpeocaeaaDoor.Pk
