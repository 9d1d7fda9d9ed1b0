/-
  What functions of the program do, told of abstract states. Conditions: as each theorem says.
-/
import Derived.Test.YtcdpepdjeneelaaDoorVsE
namespace Go.Proofs.YtcdpepdjeneelaaDoor.Pk
open Go Go.Proofs Go.Proofs.YtcdpepdjeneelaaDoor.Ab Go.Proofs.Vw
set_option linter.unusedVariables false
set_option linter.unusedSimpArgs false
def pndL (l : List (Ent × Nat)) : List V := l.flatMap pndE
theorem appP {h : AHeap} {s : V} {l : List (Ent × Nat)} (o : Own h 73 12 s (pndL l)) (hl : l.length ≤ 2 ^ 30) (p : Ent × Nat) :
    ∃ s' h', aAppend Tryd.prog 69 69 s (.sl h.n 0 1 1) (h.push (.cells (pndE p) 73 none)) = some (s', h') ∧ Own h' 73 12 s' (pndL (l ++ [p])) ∧ Keep h h' (isId s) ∧ NewOr h s s' := by
  have kp : Keep h (h.push (.cells (pndE p) 73 none)) none_ := Keep.push _ _ _
  have oj : Own (h.push (.cells (pndE p) 73 none)) 73 12 (.sl h.n 0 1 1) (pndE p) := Own.fresh' (pndE p) 1 rfl (by decide)
  have hsrc := own_src (P := Tryd.prog) (t := 69) kt_69 oj (n := 1) rfl (by decide) rfl
  obtain ⟨s', h', ea, oa, ka, na⟩ := append_ownM (P := Tryd.prog) (t := 69) (tx := 69) sl_69 (by decide) (o.keepN kp) hsrc rfl (fun m hm => by
    change m * 12 = _ at hm
    have : (pndL l).length = l.length * 12 := rows_len (enc := pndE) (sz := 12) pndE_len l
    have hm2 : m * 12 = l.length * 12 + 12 := by rw [this] at hm; exact hm
    have hm3 : m = l.length + 1 := by omega
    subst hm3
    refine ⟨?_, ?_⟩
    · exact Nat.le_trans (Nat.mul_le_mul_left (l.length + 1) (show _ ≤ 1024 by decide)) (by simp only [lim]; omega)
    · simp only [lim]; omega)
  refine ⟨s', h', ea, ?_, (kp.up).trans' ka, ?_⟩
  · unfold pndL
    rw [List.flatMap_append]
    simpa [pndL] using oa
  · rcases na with na | na
    · exact .inl na
    · exact .inr fun q hq => Nat.le_trans kp.n (na q hq)
theorem litP1 (h : AHeap) (x : Ent) (at_ : Nat) : aBuildSlice Tryd.prog 69 1 [(0, .agg (pndE (x, at_)))] h = some (.sl h.n 0 1 1, h.push (.cells (pndE (x, at_)) 73 none)) := by rw [buildSlice_go sl_69]; rfl
/-- An open record more. -/
theorem addOpen {h : AHeap} {ow : Ow} {b : Nat} {t : Int} {j : Jb} (x : Ent) (at_ : Nat) (hl : j.opn.length ≤ 2 ^ 30) {fv ov pv : V} (g : h.get b = .cells [.int .i64 t, .int .i64 j.ep, .int .i64 j.tx, fv, ov, .int .i64 0, pv] 71 none) (hf : OffV fv j.offs) (o1 : Own h 3 1 ov (i64V j.ord)) (o2 : Own h 73 12 pv (pndL j.opn))
    (t0 : ow b = some (1, t, 0)) (t1 : ∀ q, idOf ov = some q → ow q = some (1, t, 1)) (t2 : ∀ q, idOf pv = some q → ow q = some (1, t, 2)) (hold : ∀ q tg, ow q = some tg → q < h.n) :
    ∃ pv' h2 ow', aAppend Tryd.prog 69 69 pv (.sl h.n 0 1 1) (h.push (.cells (pndE (x, at_)) 73 none)) = some (pv', h2) ∧ h2.get b = .cells [.int .i64 t, .int .i64 j.ep, .int .i64 j.tx, fv, ov, .int .i64 0, pv] 71 none ∧ pv'.one = true ∧ pv'.cells = some [pv'] ∧ Keep h h2 (fun q => isId pv q) ∧
      Keep h (h2.set b (.cells [.int .i64 t, .int .i64 j.ep, .int .i64 j.tx, fv, ov, .int .i64 0, pv'] 71 none)) (fun q => ∃ i, ow q = some (1, t, i)) ∧ (∀ q tg, ow q = some tg → ow' q = some tg) ∧ (∀ q tg, ow' q = some tg → ow q = some tg ∨ (h.n ≤ q ∧ q < h2.n)) ∧
      JobAt (h2.set b (.cells [.int .i64 t, .int .i64 j.ep, .int .i64 j.tx, fv, ov, .int .i64 0, pv'] 71 none)) ow' b t { j with opn := j.opn ++ [(x, at_)] } := by
  obtain ⟨pv', h2, e1, op2, k2, nw2⟩ := appP o2 hl (x, at_)
  have hbn := hold _ _ t0
  have ne1 : ¬ isId pv b := fun hh => by have := t2 b hh; rw [t0] at this; simp at this
  have ne2 : ∀ q, idOf ov = some q → q ≠ b := fun q hq hh => by have := t1 q hq; rw [hh, t0] at this; simp at this
  have g2 := (k2.get b hbn ne1).trans g
  have n2 := k2.n
  have oo2 := o1.keep k2 fun q hq hh => by have h1 := t1 q hq; have h2 := t2 q hh; rw [h1] at h2; simp at h2
  have kS : Keep h2 (h2.set b (.cells [.int .i64 t, .int .i64 j.ep, .int .i64 j.tx, fv, ov, .int .i64 0, pv'] 71 none)) (· = b) := Keep.set _ _ _
  have pvb : ∀ q, idOf pv' = some q → q ≠ b ∧ (idOf pv = some q ∨ h.n ≤ q) := fun q hq => by
    rcases nw2 with e | e
    · exact ⟨fun hh => ne1 (by rw [← hh, isId, ← e]; exact hq), .inl (by rw [← e]; exact hq)⟩
    · have := e q hq; exact ⟨by omega, .inr this⟩
  obtain ⟨ow', how⟩ : ∃ f : Ow, f = fun q => if q < h.n then ow q else if idOf pv' = some q then some (1, t, 2) else ow q := ⟨_, rfl⟩
  have hinc : ∀ q tg, ow q = some tg → ow' q = some tg := fun q tg hq => by rw [how]; simp only; rw [if_pos (hold _ _ hq)]; exact hq
  refine ⟨pv', h2, ow', e1, g2, ?_, ?_, k2, (k2.mono (o' := fun q => ∃ i, ow q = some (1, t, i)) fun q hq => ⟨2, t2 q hq⟩).trans kS fun q hq hh => ⟨0, by rw [hh]; exact t0⟩, hinc, fun q tg hq => ?_, fv, ov, pv', get_set_same, hf, oo2.keep kS ne2, op2.keep kS (fun q hq hh => (pvb q hq).1 hh), hinc _ _ t0, fun q hq => hinc _ _ (t1 q hq), fun q hq => ?_⟩
  · rcases op2 with ⟨rfl | rfl, _⟩ | ⟨_, _, _, _, _, rfl, _⟩ <;> rfl
  · rcases op2 with ⟨rfl | rfl, _⟩ | ⟨_, _, _, _, _, rfl, _⟩ <;> rfl
  · rw [how] at hq
    simp only at hq
    split at hq
    · exact .inl hq
    · split at hq
      · rename_i h2; exact .inr ⟨by omega, op2.lt _ h2⟩
      · exact .inl hq
  · rcases (pvb q hq).2 with h1 | h1
    · exact hinc _ _ (t2 q h1)
    · rw [how]; simp only; rw [if_neg (by omega), if_pos hq]
end Go.Proofs.YtcdpepdjeneelaaDoor.Pk
