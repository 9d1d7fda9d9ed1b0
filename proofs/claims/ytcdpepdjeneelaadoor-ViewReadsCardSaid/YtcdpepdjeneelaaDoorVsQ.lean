/-
  What functions of the program do, told of abstract states. Conditions: as each theorem says.
-/
import Derived.Test.YtcdpepdjeneelaaDoorVsN
namespace Go.Proofs.YtcdpepdjeneelaaDoor.Pk
open Go Go.Proofs Go.Proofs.YtcdpepdjeneelaaDoor.Ab Go.Proofs.Vw
set_option linter.unusedVariables false
set_option linter.unusedSimpArgs false
/-! ### The program's model and the plain one -/
def enOf (x : Ent) : En LR := if mayB x then toEn x else { toEn x with kind := 0 }
def VM.st (s : VM) : St LR := ⟨s.logs, fun t => (s.tasks t).map Jb.m⟩
theorem jobOf_st (s : VM) (t : Int) : jobOf s.st t = (jbOf s t).m := by
  unfold jobOf jbOf VM.st
  cases h : s.tasks t <;> simp [h] <;> rfl
theorem put_addS (f : Int → List LR) (x : Ent) : put f (toEn x) = addS f x := by
  funext n
  unfold put addS toEn
  by_cases h : n = x.log
  · subst h; simp
  · simp [h]
theorem puts_putB : ∀ (o : List (Ent × Nat)) (f : Int → List LR), puts f (o.map fun p => (toEn p.1, p.2)) = putB f o
  | [], f => rfl
  | p :: o, f => by
    show puts (put f (toEn p.1)) (o.map fun p => (toEn p.1, p.2)) = putB (addS f p.1) o
    rw [put_addS, puts_putB o]
theorem setJ_st (s : VM) (lg : Int → List LR) (t : Int) (j : Jb) : (⟨lg, fun n => if n = t then some j.m else (s.tasks n).map Jb.m⟩ : St LR) = VM.st ⟨lg, fun n => if n = t then some j else s.tasks n⟩ := by
  unfold VM.st
  congr 1
  funext n
  simp only
  split <;> rfl
theorem step_st (s : VM) (x : Ent) (i : Nat) : (stepE s x i).st = Vw.step s.st (enOf x) i := by
  unfold stepE
  by_cases hm : mayB x = true
  · have he : enOf x = toEn x := by unfold enOf; rw [if_pos hm]
    have hk := ((may_iff x).1 hm).1
    rw [if_neg (by rw [hm]; simp), he]
    unfold Vw.step
    have ek : (toEn x).kind = x.kind.toNat := rfl
    rw [ek, show (toEn x).task = x.task from rfl, jobOf_st]
    by_cases h1 : x.kind = 1
    · rw [if_pos h1, if_pos (by omega), put_addS]; rfl
    rw [if_neg h1, if_neg (by omega : ¬ x.kind.toNat = 1)]
    by_cases h5 : x.kind = 5
    · rw [if_pos h5, if_pos (by omega)]
      have : fenceJ (jbOf s x.task).m (toEn x).ep = (fenJ (jbOf s x.task) x.epoch).m := by
        unfold fenceJ fenJ
        show (if (jbOf s x.task).ep < x.epoch then _ else _) = _
        split <;> rfl
      rw [this]
      exact (setJ_st s s.logs x.task _).symm
    rw [if_neg h5, if_neg (by omega : ¬ x.kind.toNat = 5)]
    by_cases h6 : x.kind = 6
    · rw [if_pos h6, if_neg (by omega)]
    rw [if_neg h6, if_pos (by omega : 2 ≤ x.kind.toNat ∧ x.kind.toNat ≤ 4)]
    unfold stepL stepB
    by_cases c : x.epoch ≠ (jbOf s x.task).ep ∨ x.txn ≠ (jbOf s x.task).tx
    · rw [if_pos (show (toEn x).ep ≠ (jbOf s x.task).m.ep ∨ (toEn x).tx ≠ (jbOf s x.task).m.tx from c)]
      simp only [if_pos c]
      exact (setJ_st s s.logs x.task _).symm
    rw [if_neg (show ¬ ((toEn x).ep ≠ (jbOf s x.task).m.ep ∨ (toEn x).tx ≠ (jbOf s x.task).m.tx) from c)]
    simp only [if_neg c]
    by_cases h2 : x.kind = 2
    · rw [if_neg (by omega : ¬ x.kind = 3), if_pos (by omega : x.kind.toNat = 2)]
      simp only [if_pos h2]
      rw [← setJ_st]
      unfold setJ VM.st
      congr 1
      funext n
      simp only
      split
      · simp [Jb.m]
      · rfl
    simp only [if_neg h2]
    rw [if_neg (by omega : ¬ x.kind.toNat = 2)]
    by_cases h3 : x.kind = 3
    · rw [if_pos (by omega : x.kind.toNat = 3)]
      simp only [if_pos h3]
      rw [← setJ_st]
      have : puts s.st.logs (jbOf s x.task).m.opn = putB s.logs (jbOf s x.task).opn := puts_putB _ _
      rw [this]
      rfl
    · rw [if_neg (by omega : ¬ x.kind.toNat = 3)]
      simp only [if_neg h3]
      rw [← setJ_st]
      rfl
  · have hm' : mayB x = false := by simpa using hm
    rw [if_pos hm']
    have he : (enOf x).kind = 0 := by unfold enOf; rw [if_neg hm]
    unfold Vw.step
    rw [he, if_neg (by omega), if_neg (by omega), if_neg (by omega)]
theorem run_st : ∀ (l : List Ent) (s : VM) (i : Nat), (runE s i l).st = run s.st i (l.map enOf)
  | [], s, i => rfl
  | x :: l, s, i => by rw [List.map_cons, runE, run, run_st l, step_st]
theorem read_st (l : List Ent) : (readV l).st = run st0 0 (l.map enOf) := run_st l vm0 0
def tvJ (t : Int) (j : Job LR) : TV := ⟨t, j.ep, j.tx, j.offs, j.ord, j.opn.length⟩
theorem tvOf_m (t : Int) (j : Jb) : tvOf t j = tvJ t j.m := by
  unfold tvOf tvJ Jb.m
  simp
/-- What is told, in words of the plain model. -/
theorem told_mem (l : List Ent) : (∀ p, p ∈ logsOf l ↔ p.2 = (run st0 0 (l.map enOf)).logs p.1 ∧ p.2 ≠ []) ∧ ∀ x, x ∈ tasksOf l ↔ ∃ j, (run st0 0 (l.map enOf)).tasks x.t = some j ∧ x = tvJ x.t j := by
  have h := isTold l
  rw [← read_st]
  refine ⟨h.lm, fun x => (h.tm x).trans ⟨fun ⟨j, h1, h2⟩ => ⟨j.m, ?_, ?_⟩, fun ⟨j, h1, h2⟩ => ?_⟩⟩
  · show ((readV l).tasks x.t).map Jb.m = _
    rw [h1]; rfl
  · rw [← tvOf_m]; exact h2
  · change ((readV l).tasks x.t).map Jb.m = _ at h1
    cases hj : (readV l).tasks x.t with
    | none => rw [hj] at h1; cases h1
    | some k =>
      rw [hj] at h1
      injection h1 with h1
      subst h1
      exact ⟨k, rfl, by rw [tvOf_m]; exact h2⟩
theorem told_eq {l m : List Ent} (h : ∀ n, (run st0 0 (l.map enOf)).logs n = (run st0 0 (m.map enOf)).logs n)
    (k : ∀ t, ((run st0 0 (l.map enOf)).tasks t = none ∧ (run st0 0 (m.map enOf)).tasks t = none) ∨ ∃ a b, (run st0 0 (l.map enOf)).tasks t = some a ∧ (run st0 0 (m.map enOf)).tasks t = some b ∧ tvJ t a = tvJ t b) : logsOf l = logsOf m ∧ tasksOf l = tasksOf m := by
  refine ⟨up_unique (fun p => ?_) (isTold l).lu (isTold m).lu, up_unique (fun x => ?_) (isTold l).tu (isTold m).tu⟩
  · rw [(told_mem l).1, (told_mem m).1, h]
  · rw [(told_mem l).2, (told_mem m).2]
    rcases k x.t with ⟨h1, h2⟩ | ⟨a, b, h1, h2, h3⟩
    · rw [h1, h2]
    · rw [h1, h2]
      constructor
      · rintro ⟨j, e, e2⟩; injection e with e; subst e; exact ⟨b, rfl, by rw [← h3]; exact e2⟩
      · rintro ⟨j, e, e2⟩; injection e with e; subst e; exact ⟨a, rfl, by rw [h3]; exact e2⟩
end Go.Proofs.YtcdpepdjeneelaaDoor.Pk
