/-
  What functions of the program do, told of abstract states. Conditions: as each theorem says.
-/
import Derived.Test.YtcdpepdjeneelaaDoorVsC
namespace Go.Proofs.YtcdpepdjeneelaaDoor.Pk
open Go Go.Proofs Go.Proofs.YtcdpepdjeneelaaDoor.Ab Go.Proofs.Vw
set_option linter.unusedVariables false
set_option linter.unusedSimpArgs false
theorem rcdE_one (r : Rcd) : (rcdE r).all (·.one) = true := rfl
def recL (rs : List LR) : List V := rs.flatMap fun p => rcdE p.1
theorem recL_len (rs : List LR) : (recL rs).length = rs.length * 3 := rows_len (enc := fun p : LR => rcdE p.1) (sz := 3) (fun _ => rfl) rs
theorem appR {h : AHeap} {s : V} {rs : List LR} (o : Own h 45 3 s (recL rs)) (hl : rs.length ≤ 2 ^ 40) (p : LR) :
    ∃ s' h', aAppend Tryd.prog 33 33 s (.sl h.n 0 1 1) (h.push (.cells (rcdE p.1) 45 none)) = some (s', h') ∧ Own h' 45 3 s' (recL (rs ++ [p])) ∧ Keep h h' (isId s) ∧ NewOr h s s' := by
  have kp : Keep h (h.push (.cells (rcdE p.1) 45 none)) none_ := Keep.push _ _ _
  have oj : Own (h.push (.cells (rcdE p.1) 45 none)) 45 3 (.sl h.n 0 1 1) (rcdE p.1) := Own.fresh' (rcdE p.1) 1 rfl (by decide)
  have hsrc := own_src (P := Tryd.prog) (t := 33) kt_33 oj (n := 1) rfl (by decide) (rcdE_one p.1)
  obtain ⟨s', h', ea, oa, ka, na⟩ := append_ownM (P := Tryd.prog) (t := 33) (tx := 33) sl_33 (by decide) (o.keepN kp) hsrc rfl (fun m hm => by
    change m * 3 = _ at hm
    rw [recL_len] at hm
    change m * 3 = _ + 3 at hm
    exact ⟨by simp only [lim]; omega, by simp only [lim]; omega⟩)
  refine ⟨s', h', ea, ?_, (kp.up).trans' ka, ?_⟩
  · unfold recL
    rw [List.flatMap_append]
    simpa [recL] using oa
  · rcases na with na | na
    · exact .inl na
    · exact .inr fun q hq => Nat.le_trans kp.n (na q hq)
def delL (rs : List LR) : List V := rs.map fun p => V.bool p.2
theorem appD {h : AHeap} {s : V} {rs : List LR} (o : Own h 4 1 s (delL rs)) (hl : rs.length ≤ 2 ^ 40) (p : LR) :
    ∃ s' h', aAppend Tryd.prog 34 34 s (.sl h.n 0 1 1) (h.push (.cells [.bool p.2] 4 none)) = some (s', h') ∧ Own h' 4 1 s' (delL (rs ++ [p])) ∧ Keep h h' (isId s) ∧ NewOr h s s' := by
  have kp : Keep h (h.push (.cells [V.bool p.2] 4 none)) none_ := Keep.push _ _ _
  have oj : Own (h.push (.cells [V.bool p.2] 4 none)) 4 1 (.sl h.n 0 1 1) [V.bool p.2] := Own.fresh' [V.bool p.2] 1 rfl (by decide)
  have hsrc := own_src (P := Tryd.prog) (t := 34) kt_34 oj (n := 1) rfl (by decide) rfl
  obtain ⟨s', h', ea, oa, ka, na⟩ := append_ownM (P := Tryd.prog) (t := 34) (tx := 34) sl_34 (by decide) (o.keepN kp) hsrc rfl (fun m hm => by
    change m * 1 = _ at hm
    simp only [delL, List.length_map, List.length_cons, List.length_nil] at hm
    exact ⟨by simp only [lim]; omega, by simp only [lim]; omega⟩)
  refine ⟨s', h', ea, ?_, (kp.up).trans' ka, ?_⟩
  · simpa [delL] using oa
  · rcases na with na | na
    · exact .inl na
    · exact .inr fun q hq => Nat.le_trans kp.n (na q hq)
theorem litR1 (h : AHeap) (r : Rcd) : aBuildSlice Tryd.prog 33 1 [(0, .agg [.int .i64 r.k, .int .i64 r.v, .int .i64 r.t])] h = some (.sl h.n 0 1 1, h.push (.cells (rcdE r) 45 none)) := by rw [buildSlice_go sl_33]; rfl
theorem litD1 (h : AHeap) (b : Bool) : aBuildSlice Tryd.prog 34 1 [(0, .bool b)] h = some (.sl h.n 0 1 1, h.push (.cells [.bool b] 4 none)) := by rw [buildSlice_go sl_34]; rfl
/-- A record more behind a log: what the two appends and the two stores make. -/
theorem addTail {h : AHeap} {ow : Ow} {b : Nat} {k : Int} {rs : List LR} {rv dv : V} (p : LR) (hl : rs.length ≤ 2 ^ 40) (g : h.get b = .cells [.int .i64 k, rv, dv] 36 none) (o1 : Own h 45 3 rv (recL rs)) (o2 : Own h 4 1 dv (delL rs))
    (t0 : ow b = some (0, k, 0)) (t1 : ∀ j, idOf rv = some j → ow j = some (0, k, 1)) (t2 : ∀ j, idOf dv = some j → ow j = some (0, k, 2)) (hold : ∀ q tg, ow q = some tg → q < h.n) :
    ∃ rv' h2 dv' h4 ow', aAppend Tryd.prog 33 33 rv (.sl h.n 0 1 1) (h.push (.cells (rcdE p.1) 45 none)) = some (rv', h2) ∧ h2.get b = .cells [.int .i64 k, rv, dv] 36 none ∧ rv'.one = true ∧ rv'.cells = some [rv'] ∧
      aAppend Tryd.prog 34 34 dv (.sl h2.n 0 1 1) ((h2.set b (.cells [.int .i64 k, rv', dv] 36 none)).push (.cells [.bool p.2] 4 none)) = some (dv', h4) ∧ h4.get b = .cells [.int .i64 k, rv', dv] 36 none ∧ dv'.one = true ∧ dv'.cells = some [dv'] ∧
      Keep h h2 (fun q => isId rv q) ∧ Keep (h2.set b (.cells [.int .i64 k, rv', dv] 36 none)) h4 (fun q => isId dv q) ∧ Keep h h2 (fun q => ∃ i, ow q = some (0, k, i)) ∧ Keep h h4 (fun q => ∃ i, ow q = some (0, k, i)) ∧ Keep h (h4.set b (.cells [.int .i64 k, rv', dv'] 36 none)) (fun q => ∃ i, ow q = some (0, k, i)) ∧
      (∀ q tg, ow q = some tg → ow' q = some tg) ∧ (∀ q tg, ow' q = some tg → ow q = some tg ∨ (h.n ≤ q ∧ q < h4.n)) ∧ LogAt (h4.set b (.cells [.int .i64 k, rv', dv'] 36 none)) ow' b k (rs ++ [p]) := by
  obtain ⟨rv', h2, e1, or2, k2, nw2⟩ := appR o1 hl p
  have hbn := hold _ _ t0
  have ne1 : ¬ isId rv b := fun hh => by have := t1 b hh; rw [t0] at this; simp at this
  have ne2 : ¬ isId dv b := fun hh => by have := t2 b hh; rw [t0] at this; simp at this
  have g2 := (k2.get b hbn ne1).trans g
  have n2 := k2.n
  have od2 : Own h2 4 1 dv (delL rs) := o2.keep k2 fun j hj hh => by have h1 := t1 j hh; have h2 := t2 j hj; rw [h1] at h2; simp at h2
  obtain ⟨h3, hh3⟩ : ∃ y, y = h2.set b (.cells [.int .i64 k, rv', dv] 36 none) := ⟨_, rfl⟩
  have k3 : Keep h2 h3 (· = b) := by rw [hh3]; exact Keep.set _ _ _
  have n3 : h3.n = h2.n := by rw [hh3]; rfl
  have g3 : h3.get b = .cells [.int .i64 k, rv', dv] 36 none := by rw [hh3]; exact get_set_same
  have od3 := od2.keep k3 fun j hj hh => ne2 (by rw [← hh]; exact hj)
  have rvb : ∀ j, idOf rv' = some j → j ≠ b ∧ (idOf rv = some j ∨ h.n ≤ j) := fun j hj => by
    rcases nw2 with e | e
    · exact ⟨fun hh => ne1 (by rw [← hh, isId, ← e]; exact hj), .inl (by rw [← e]; exact hj)⟩
    · have := e j hj; exact ⟨by omega, .inr this⟩
  have or3 := or2.keep k3 fun j hj hh => (rvb j hj).1 hh
  obtain ⟨dv', h4, e4, od4, k4, nw4⟩ := appD od3 hl p
  have n4 := k4.n
  have g4 := (k4.get b (by omega) ne2).trans g3
  have or4 := or3.keep k4 fun j hj hh => by
    rcases (rvb j hj).2 with h1 | h1
    · have h1 := t1 j h1; have h2 := t2 j hh; rw [h1] at h2; simp at h2
    · have := hold _ _ (t2 j hh); omega
  have dvb : ∀ j, idOf dv' = some j → j ≠ b ∧ (idOf dv = some j ∨ h3.n ≤ j) := fun j hj => by
    rcases nw4 with e | e
    · exact ⟨fun hh => ne2 (by rw [← hh, isId, ← e]; exact hj), .inl (by rw [← e]; exact hj)⟩
    · have := e j hj; exact ⟨by omega, .inr this⟩
  have kS : Keep h4 (h4.set b (.cells [.int .i64 k, rv', dv'] 36 none)) (· = b) := Keep.set _ _ _
  have kk2 : Keep h h2 (fun q => ∃ i, ow q = some (0, k, i)) := k2.mono fun q hq => ⟨1, t1 q hq⟩
  have kk3 : Keep h h3 (fun q => ∃ i, ow q = some (0, k, i)) := kk2.trans k3 fun q hq hh => ⟨0, by rw [hh]; exact t0⟩
  have kk4 : Keep h h4 (fun q => ∃ i, ow q = some (0, k, i)) := kk3.trans k4 fun q hq hh => ⟨2, t2 q hh⟩
  have kk5 := kk4.trans kS fun q hq hh => ⟨0, by rw [hh]; exact t0⟩
  have apart : ∀ j, idOf rv' = some j → idOf dv' = some j → False := fun j h1 h2 => by
    rcases (dvb j h2).2 with h3 | h3
    · rcases (rvb j h1).2 with h4 | h4
      · have a := t1 j h4; have b := t2 j h3; rw [a] at b; simp at b
      · have := hold _ _ (t2 j h3); omega
    · have := or3.lt j h1; omega
  obtain ⟨ow', how⟩ : ∃ f : Ow, f = fun q => if q < h.n then ow q else if idOf rv' = some q then some (0, k, 1) else if idOf dv' = some q then some (0, k, 2) else ow q := ⟨_, rfl⟩
  have hinc : ∀ q tg, ow q = some tg → ow' q = some tg := fun q tg hq => by rw [how]; simp only; rw [if_pos (hold _ _ hq)]; exact hq
  have lt4 : ∀ j, idOf rv' = some j → j < h4.n := fun j hj => or4.lt j hj
  have ltd : ∀ j, idOf dv' = some j → j < h4.n := fun j hj => od4.lt j hj
  refine ⟨rv', h2, dv', h4, ow', e1, g2, ?_, ?_, by rw [← hh3, ← n3]; exact e4, g4, ?_, ?_, k2, by rw [← hh3]; exact k4, kk2, kk4, kk5, hinc, fun q tg hq => ?_, rv', dv', get_set_same, or4.keep kS (fun j hj hh => (rvb j hj).1 hh), od4.keep kS (fun j hj hh => (dvb j hj).1 hh), hinc _ _ t0, fun j hj => ?_, fun j hj => ?_⟩
  · rcases or2 with ⟨rfl | rfl, _⟩ | ⟨_, _, _, _, _, rfl, _⟩ <;> rfl
  · rcases or2 with ⟨rfl | rfl, _⟩ | ⟨_, _, _, _, _, rfl, _⟩ <;> rfl
  · rcases od4 with ⟨rfl | rfl, _⟩ | ⟨_, _, _, _, _, rfl, _⟩ <;> rfl
  · rcases od4 with ⟨rfl | rfl, _⟩ | ⟨_, _, _, _, _, rfl, _⟩ <;> rfl
  · rw [how] at hq
    simp only at hq
    split at hq
    · exact .inl hq
    · rename_i h1
      split at hq
      · rename_i h2; exact .inr ⟨by omega, lt4 _ h2⟩
      · split at hq
        · rename_i h3; exact .inr ⟨by omega, ltd _ h3⟩
        · exact .inl hq
  · rcases (rvb j hj).2 with h1 | h1
    · exact hinc _ _ (t1 j h1)
    · rw [how]; simp only; rw [if_neg (by omega), if_pos hj]
  · rcases (dvb j hj).2 with h1 | h1
    · exact hinc _ _ (t2 j h1)
    · rw [how]; simp only; rw [if_neg (by omega), if_neg (fun hh => apart j hh hj), if_pos hj]
end Go.Proofs.YtcdpepdjeneelaaDoor.Pk
