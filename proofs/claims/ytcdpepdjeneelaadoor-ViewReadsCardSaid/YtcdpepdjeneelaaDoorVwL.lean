/-
  What functions of the program do, told of abstract states. Conditions: as each theorem says.
-/
/-! # View: the model. What a list of entries leads to, with no program in it. -/
namespace Go.Proofs.Vw
set_option linter.unusedVariables false
variable {E R : Type}
/-- What an entry is: what kinds do. `inp` a record at once, `data` an open record, `com` what commits, `abo` what aborts, `fen` a fence; `non` plays no part. -/
structure En (R : Type) where
  kind : Nat
  task : Int
  ep : Int
  tx : Int
  log : Int
  rec_ : R
  offs : List Int
  ord : List Int
structure Job (R : Type) where
  ep : Int
  tx : Int
  offs : List Int
  ord : List Int
  opn : List (En R × Nat)
def job0 : Job R := ⟨0, 0, [], [], []⟩
structure St (R : Type) where
  logs : Int → List R
  tasks : Int → Option (Job R)
def st0 : St R := ⟨fun _ => [], fun _ => none⟩
def put (f : Int → List R) (x : En R) : Int → List R := fun n => if n = x.log then f n ++ [x.rec_] else f n
def puts (f : Int → List R) (l : List (En R × Nat)) : Int → List R := l.foldl (fun g p => put g p.1) f
def jobOf (s : St R) (t : Int) : Job R := (s.tasks t).getD job0
def setJ (s : St R) (t : Int) (j : Job R) : St R := { s with tasks := fun n => if n = t then some j else s.tasks n }
def fenceJ (j : Job R) (ep : Int) : Job R := if j.ep < ep then { j with ep := ep, opn := [] } else j
/-- One entry, which stands at `at_`. Kinds: 1 input, 2 data, 3 commit, 4 abort, 5 fence. -/
def step (s : St R) (x : En R) (at_ : Nat) : St R :=
  if x.kind = 1 then { s with logs := put s.logs x }
  else if x.kind = 5 then setJ s x.task (fenceJ (jobOf s x.task) x.ep)
  else if 2 ≤ x.kind ∧ x.kind ≤ 4 then
    (if x.ep ≠ (jobOf s x.task).ep ∨ x.tx ≠ (jobOf s x.task).tx then setJ s x.task (jobOf s x.task)
    else if x.kind = 2 then setJ s x.task { jobOf s x.task with opn := (jobOf s x.task).opn ++ [(x, at_)] }
    else if x.kind = 3 then
      { logs := puts s.logs (jobOf s x.task).opn, tasks := (setJ s x.task ⟨(jobOf s x.task).ep, (jobOf s x.task).tx + 1, x.offs, (jobOf s x.task).ord ++ x.ord, []⟩).tasks }
    else setJ s x.task { jobOf s x.task with tx := (jobOf s x.task).tx + 1, opn := [] })
  else s
def run : St R → Nat → List (En R) → St R
  | s, _, [] => s
  | s, i, x :: r => run (step s x i) (i + 1) r
theorem run_append : ∀ (a b : List (En R)) (s : St R) (i : Nat), run s i (a ++ b) = run (run s i a) (i + a.length) b
  | [], b, s, i => rfl
  | x :: a, b, s, i => by
    rw [List.cons_append, run, run, run_append a b, List.length_cons, show i + 1 + a.length = i + (a.length + 1) by omega]
theorem puts_log (f : Int → List R) : ∀ (l : List (En R × Nat)) (n : Int), ∃ m, puts f l n = f n ++ m := by
  intro l
  induction l generalizing f with
  | nil => exact fun n => ⟨[], by simp [puts]⟩
  | cons p l ih =>
    intro n
    obtain ⟨m, hm⟩ := ih (put f p.1) n
    refine ⟨(if n = p.1.log then [p.1.rec_] else []) ++ m, ?_⟩
    show puts (put f p.1) l n = _
    rw [hm]
    unfold put
    split <;> simp
/-! ## It only grows -/
def JLe (a b : Job R) : Prop := a.ep ≤ b.ep ∧ a.tx ≤ b.tx ∧ ∃ m, b.ord = a.ord ++ m
def SLe (a b : St R) : Prop := (∀ n, ∃ m, b.logs n = a.logs n ++ m) ∧ (∀ t, JLe (jobOf a t) (jobOf b t)) ∧ ∀ t, (a.tasks t).isSome = true → (b.tasks t).isSome = true
theorem JLe.refl (a : Job R) : JLe a a := ⟨Int.le_refl _, Int.le_refl _, [], by simp⟩
theorem JLe.trans {a b c : Job R} (x : JLe a b) (y : JLe b c) : JLe a c := by
  obtain ⟨h1, h2, m, h3⟩ := x
  obtain ⟨h4, h5, k, h6⟩ := y
  exact ⟨Int.le_trans h1 h4, Int.le_trans h2 h5, m ++ k, by rw [h6, h3, List.append_assoc]⟩
theorem SLe.refl (a : St R) : SLe a a := ⟨fun n => ⟨[], by simp⟩, fun t => JLe.refl _, fun t h => h⟩
theorem SLe.trans {a b c : St R} (x : SLe a b) (y : SLe b c) : SLe a c :=
  ⟨fun n => by obtain ⟨m, h1⟩ := x.1 n; obtain ⟨k, h2⟩ := y.1 n; exact ⟨m ++ k, by rw [h2, h1, List.append_assoc]⟩, fun t => (x.2.1 t).trans (y.2.1 t), fun t h => y.2.2 t (x.2.2 t h)⟩
theorem jobOf_setJ (s : St R) (t : Int) (j : Job R) (u : Int) : jobOf (setJ s t j) u = if u = t then j else jobOf s u := by
  unfold jobOf setJ
  by_cases h : u = t <;> simp [h]
theorem setJ_le {s : St R} {t : Int} {j : Job R} (h : JLe (jobOf s t) j) : SLe s (setJ s t j) := by
  refine ⟨fun n => ⟨[], by simp [setJ]⟩, fun u => ?_, fun u hu => ?_⟩
  · rw [jobOf_setJ]
    split
    · rename_i h1; rw [h1]; exact h
    · exact JLe.refl _
  · unfold setJ
    simp only
    split
    · rfl
    · exact hu
theorem step_le (s : St R) (x : En R) (i : Nat) : SLe s (step s x i) := by
  unfold step
  split
  · refine ⟨fun n => ?_, fun t => JLe.refl _, fun t h => h⟩
    simp only [put]
    split
    · exact ⟨[x.rec_], rfl⟩
    · exact ⟨[], by simp⟩
  split
  · refine setJ_le ?_
    unfold fenceJ
    split
    · rename_i h; exact ⟨Int.le_of_lt h, Int.le_refl _, [], by simp⟩
    · exact JLe.refl _
  split
  · split
    · exact setJ_le (JLe.refl _)
    split
    · exact setJ_le ⟨Int.le_refl _, Int.le_refl _, [], by simp⟩
    split
    · refine ⟨fun n => puts_log _ _ n, fun t => ?_, fun t h => ?_⟩
      · have := (setJ_le (s := s) (t := x.task) (j := ⟨(jobOf s x.task).ep, (jobOf s x.task).tx + 1, x.offs, (jobOf s x.task).ord ++ x.ord, []⟩) ⟨Int.le_refl _, by simp only; omega, x.ord, rfl⟩).2.1 t
        exact this
      · simp only [setJ]
        split
        · rfl
        · exact h
    · exact setJ_le ⟨Int.le_refl _, by simp only; omega, [], by simp⟩
  · exact SLe.refl _
theorem run_le : ∀ (l : List (En R)) (s : St R) (i : Nat), SLe s (run s i l)
  | [], s, i => SLe.refl s
  | x :: l, s, i => (step_le s x i).trans (run_le l _ _)
/-- With more entries each log only grows behind, epochs and transactions only rise. -/
theorem grows (a b : List (En R)) : SLe (run st0 0 a) (run st0 0 (a ++ b)) := by
  rw [run_append]
  exact run_le _ _ _
/-! ## Behind a fence a lower epoch turns nothing -/
theorem step_late {s : St R} {x : En R} {i : Nat} {t e : Int} (ht : x.task = t) (hk : 2 ≤ x.kind ∧ x.kind ≤ 5) (he : x.ep ≤ e) (hs : e < (jobOf s t).ep) (hn : (s.tasks t).isSome = true) : step s x i = s := by
  have hset : setJ s t (jobOf s t) = s := by
    unfold setJ jobOf
    cases s with
    | mk logs tasks =>
      simp only [St.mk.injEq, true_and]
      funext n
      split
      · rename_i h
        subst h
        cases hq : tasks n with
        | none => simp [hq] at hn
        | some j => rfl
      · rfl
  subst ht
  unfold step
  rw [if_neg (by omega)]
  split
  · unfold fenceJ
    rw [if_neg (by omega)]
    exact hset
  · rw [if_pos (by omega), if_pos (by omega)]
    exact hset
theorem fences {t e : Int} : ∀ (late : List (En R)) (s : St R) (i : Nat), (∀ x ∈ late, x.task = t ∧ (2 ≤ x.kind ∧ x.kind ≤ 5) ∧ x.ep ≤ e) → e < (jobOf s t).ep → (s.tasks t).isSome = true → run s i late = s
  | [], s, i, _, _, _ => rfl
  | x :: r, s, i, h, hs, hn => by
    obtain ⟨h1, h2, h3⟩ := h x (by simp)
    rw [run, step_late h1 h2 h3 hs hn]
    exact fences r s _ (fun y hy => h y (by simp [hy])) hs hn
end Go.Proofs.Vw
