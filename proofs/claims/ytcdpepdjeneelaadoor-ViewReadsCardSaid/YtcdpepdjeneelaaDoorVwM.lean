/-
  What functions of the program do, told of abstract states. Conditions: as each theorem says.
-/
import Derived.Test.YtcdpepdjeneelaaDoorVwL
/-! # View: a task's own entries, inputs, atoms, the order of tasks -/
namespace Go.Proofs.Vw
set_option linter.unusedVariables false
variable {R : Type}
/-- What an entry of a task's own makes of its job, and which entries it tells. -/
def stepJ (j : Job R) (x : En R) (i : Nat) : Job R × List (En R × Nat) :=
  if x.kind = 5 then (fenceJ j x.ep, [])
  else if x.ep ≠ j.ep ∨ x.tx ≠ j.tx then (j, [])
  else if x.kind = 2 then ({ j with opn := j.opn ++ [(x, i)] }, [])
  else if x.kind = 3 then (⟨j.ep, j.tx + 1, x.offs, j.ord ++ x.ord, []⟩, j.opn)
  else ({ j with tx := j.tx + 1, opn := [] }, [])
def runJ : Job R → Nat → List (En R) → Job R × List (En R × Nat)
  | j, _, [] => (j, [])
  | j, i, x :: r => ((runJ (stepJ j x i).1 (i + 1) r).1, (stepJ j x i).2 ++ (runJ (stepJ j x i).1 (i + 1) r).2)
def recsAt (l : List (En R × Nat)) (n : Int) : List R := (l.filter fun p => p.1.log == n).map fun p => p.1.rec_
theorem puts_eq : ∀ (l : List (En R × Nat)) (f : Int → List R) (n : Int), puts f l n = f n ++ recsAt l n
  | [], f, n => by simp [puts, recsAt]
  | p :: l, f, n => by
    show puts (put f p.1) l n = _
    rw [puts_eq l]
    unfold put recsAt
    by_cases h : n = p.1.log
    · rw [if_pos h, List.filter_cons_of_pos (by simp [h])]; simp
    · rw [if_neg h, List.filter_cons_of_neg (by simp; omega)]
theorem recsAt_append (a b : List (En R × Nat)) (n : Int) : recsAt (a ++ b) n = recsAt a n ++ recsAt b n := by simp [recsAt]
/-- A task's own entry. -/
theorem step_own (s : St R) (x : En R) (i : Nat) (hk : 2 ≤ x.kind ∧ x.kind ≤ 5) :
    (step s x i).tasks = (setJ s x.task (stepJ (jobOf s x.task) x i).1).tasks ∧ ∀ n, (step s x i).logs n = s.logs n ++ recsAt (stepJ (jobOf s x.task) x i).2 n := by
  unfold step stepJ
  rw [if_neg (by omega)]
  split
  · exact ⟨rfl, fun n => by simp [setJ, recsAt]⟩
  · rw [if_pos (by omega)]
    split
    · exact ⟨rfl, fun n => by simp [setJ, recsAt]⟩
    · split
      · exact ⟨rfl, fun n => by simp [setJ, recsAt]⟩
      · split
        · exact ⟨rfl, fun n => puts_eq _ _ _⟩
        · exact ⟨rfl, fun n => by simp [setJ, recsAt]⟩
theorem step_own_job (s : St R) (x : En R) (i : Nat) (hk : 2 ≤ x.kind ∧ x.kind ≤ 5) (u : Int) : (step s x i).tasks u = if u = x.task then some (stepJ (jobOf s x.task) x i).1 else s.tasks u := by
  rw [(step_own s x i hk).1]
  rfl
/-- A run of a task's own entries. -/
theorem run_own (t : Int) : ∀ (l : List (En R)) (s : St R) (i : Nat), (∀ x ∈ l, x.task = t ∧ 2 ≤ x.kind ∧ x.kind ≤ 5) →
    (∀ u, (run s i l).tasks u = if u = t ∧ l ≠ [] then some (runJ (jobOf s t) i l).1 else s.tasks u) ∧ ∀ n, (run s i l).logs n = s.logs n ++ recsAt (runJ (jobOf s t) i l).2 n
  | [], s, i, _ => ⟨fun u => by simp [run], fun n => by simp [run, runJ, recsAt]⟩
  | x :: l, s, i, h => by
    obtain ⟨hx, hk⟩ := h x (by simp)
    have hj : jobOf (step s x i) t = (stepJ (jobOf s t) x i).1 := by
      unfold jobOf
      rw [step_own_job s x i hk, if_pos hx.symm, hx]
      rfl
    obtain ⟨h1, h2⟩ := run_own t l (step s x i) (i + 1) fun y hy => h y (by simp [hy])
    rw [hj] at h1 h2
    refine ⟨fun u => ?_, fun n => ?_⟩
    · rw [run, h1, step_own_job s x i hk, hx]
      by_cases hu : u = t
      · by_cases hl : l = []
        · subst hl
          simp [hu, runJ]
        · simp [hu, hl, runJ]
      · simp [hu]
    · rw [run, h2, (step_own s x i hk).2, hx, runJ]
      simp only [recsAt_append, List.append_assoc]
/-! ## Where the entries stand plays no part -/
def SameJ (a b : Job R) : Prop := a.ep = b.ep ∧ a.tx = b.tx ∧ a.offs = b.offs ∧ a.ord = b.ord ∧ a.opn.map Prod.fst = b.opn.map Prod.fst
theorem SameJ.refl (a : Job R) : SameJ a a := ⟨rfl, rfl, rfl, rfl, rfl⟩
theorem recsAt_fst {a b : List (En R × Nat)} (h : a.map Prod.fst = b.map Prod.fst) (n : Int) : recsAt a n = recsAt b n := by
  have : ∀ l : List (En R × Nat), recsAt l n = ((l.map Prod.fst).filter fun x => x.log == n).map fun x => x.rec_ := fun l => by
    unfold recsAt
    rw [List.filter_map, List.map_map]
    rfl
  rw [this, this, h]
theorem stepJ_same {a b : Job R} (h : SameJ a b) (x : En R) (i k : Nat) : SameJ (stepJ a x i).1 (stepJ b x k).1 ∧ (stepJ a x i).2.map Prod.fst = (stepJ b x k).2.map Prod.fst := by
  obtain ⟨h1, h2, h3, h4, h5⟩ := h
  unfold stepJ fenceJ
  split
  · refine ⟨?_, rfl⟩
    rw [h1]
    split
    · exact ⟨rfl, h2, h3, h4, rfl⟩
    · exact ⟨h1, h2, h3, h4, h5⟩
  rw [h1, h2]
  split
  · exact ⟨⟨h1, h2, h3, h4, h5⟩, rfl⟩
  split
  · exact ⟨⟨rfl, rfl, h3, h4, by simp [h5]⟩, rfl⟩
  split
  · exact ⟨⟨rfl, rfl, rfl, by simp [h4], rfl⟩, h5⟩
  · exact ⟨⟨rfl, rfl, h3, h4, rfl⟩, rfl⟩
theorem runJ_same : ∀ (l : List (En R)) {a b : Job R} (i k : Nat), SameJ a b → SameJ (runJ a i l).1 (runJ b k l).1 ∧ (runJ a i l).2.map Prod.fst = (runJ b k l).2.map Prod.fst
  | [], a, b, i, k, h => ⟨h, rfl⟩
  | x :: l, a, b, i, k, h => by
    obtain ⟨h1, h2⟩ := stepJ_same h x i k
    obtain ⟨h3, h4⟩ := runJ_same l (i + 1) (k + 1) h1
    rw [runJ, runJ]
    exact ⟨h3, by rw [List.map_append, List.map_append, h2, h4]⟩
/-- What a run tells comes of its own records, or of what was open. -/
theorem runJ_from (Q : En R → Prop) : ∀ (l : List (En R)) (j : Job R) (i : Nat), (∀ p ∈ j.opn, Q p.1) → (∀ x ∈ l, x.kind = 2 → Q x) → (∀ p ∈ (runJ j i l).2, Q p.1) ∧ ∀ p ∈ (runJ j i l).1.opn, Q p.1
  | [], j, i, hj, _ => ⟨(fun p hp => by cases hp), hj⟩
  | x :: l, j, i, hj, hl => by
    have h1 : (∀ p ∈ (stepJ j x i).2, Q p.1) ∧ ∀ p ∈ (stepJ j x i).1.opn, Q p.1 := by
      unfold stepJ fenceJ
      split
      · refine ⟨fun p hp => (by cases hp), ?_⟩
        split
        · exact fun p hp => by cases hp
        · exact hj
      split
      · exact ⟨fun p hp => (by cases hp), hj⟩
      split
      · rename_i hk
        refine ⟨fun p hp => (by cases hp), fun p hp => ?_⟩
        rcases List.mem_append.1 hp with hp | hp
        · exact hj p hp
        · rw [List.mem_singleton.1 hp]; exact hl x (by simp) hk
      split
      · exact ⟨hj, fun p hp => by cases hp⟩
      · exact ⟨fun p hp => (by cases hp), fun p hp => by cases hp⟩
    obtain ⟨h2, h3⟩ := runJ_from Q l (stepJ j x i).1 (i + 1) h1.2 fun y hy => hl y (by simp [hy])
    rw [runJ]
    refine ⟨fun p hp => ?_, h3⟩
    rcases List.mem_append.1 hp with hp | hp
    · exact h1.1 p hp
    · exact h2 p hp
theorem recsAt_none {l : List (En R × Nat)} {n : Int} (h : ∀ p ∈ l, p.1.log ≠ n) : recsAt l n = [] := by
  unfold recsAt
  rw [List.filter_eq_nil_iff.2 (fun p hp => by simpa using h p hp)]
  rfl
/-- Two tasks with logs of their own: the order in which their entries stand plays no part. -/
theorem orders {t u : Int} (htu : t ≠ u) {A B : Int → Prop} (hAB : ∀ n, A n → ¬ B n) {a b : List (En R)} (ha : ∀ x ∈ a, x.task = t ∧ 2 ≤ x.kind ∧ x.kind ≤ 5) (hb : ∀ x ∈ b, x.task = u ∧ 2 ≤ x.kind ∧ x.kind ≤ 5)
    (la : ∀ x ∈ a, x.kind = 2 → A x.log) (lb : ∀ x ∈ b, x.kind = 2 → B x.log) :
    (∀ n, (run st0 0 (a ++ b)).logs n = (run st0 0 (b ++ a)).logs n) ∧ ∀ v, ((run st0 0 (a ++ b)).tasks v = none ∧ (run st0 0 (b ++ a)).tasks v = none) ∨ ∃ j k, (run st0 0 (a ++ b)).tasks v = some j ∧ (run st0 0 (b ++ a)).tasks v = some k ∧ SameJ j k := by
  obtain ⟨a1, a2⟩ := run_own t a st0 0 ha
  obtain ⟨b1, b2⟩ := run_own u b st0 0 hb
  have j0 : ∀ v, jobOf (st0 : St R) v = job0 := fun v => rfl
  have ju : jobOf (run (st0 : St R) 0 a) u = job0 := by unfold jobOf; rw [a1, if_neg (by simp [Ne.symm htu])]; rfl
  have jt : jobOf (run (st0 : St R) 0 b) t = job0 := by unfold jobOf; rw [b1, if_neg (by simp [htu])]; rfl
  obtain ⟨c1, c2⟩ := run_own u b (run st0 0 a) (0 + a.length) hb
  obtain ⟨d1, d2⟩ := run_own t a (run st0 0 b) (0 + b.length) ha
  rw [ju] at c1 c2
  rw [jt] at d1 d2
  rw [j0] at a1 a2 b1 b2
  obtain ⟨sa, ra⟩ := runJ_same a 0 (0 + b.length) (SameJ.refl (job0 : Job R))
  obtain ⟨sb, rb⟩ := runJ_same b (0 + a.length) 0 (SameJ.refl (job0 : Job R))
  have qa := (runJ_from (fun x => A x.log) a job0 0 (by simp [job0]) la).1
  have qb := (runJ_from (fun x => B x.log) b job0 (0 + a.length) (by simp [job0]) lb).1
  rw [run_append, run_append]
  refine ⟨fun n => ?_, fun v => ?_⟩
  · rw [c2, d2, a2, b2, ← recsAt_fst ra, ← recsAt_fst rb]
    by_cases hn : A n
    · rw [recsAt_none (l := (runJ job0 (0 + a.length) b).2) (fun p hp hh => hAB n hn (by have := qb p hp; rw [hh] at this; exact this))]
      simp
    · rw [recsAt_none (l := (runJ job0 0 a).2) (fun p hp hh => hn (by have := qa p hp; rw [hh] at this; exact this))]
      simp
  · rw [c1, d1, a1, b1]
    by_cases h1 : v = u ∧ b ≠ []
    · rw [if_pos h1, if_neg (by rintro ⟨h2, _⟩; exact htu (h2.symm.trans h1.1)), if_pos h1]
      exact .inr ⟨_, _, rfl, rfl, sb⟩
    · rw [if_neg h1]
      by_cases h2 : v = t ∧ a ≠ []
      · rw [if_pos h2, if_pos h2]
        exact .inr ⟨_, _, rfl, rfl, sa⟩
      · rw [if_neg h2, if_neg h2, if_neg h1]
        exact .inl ⟨rfl, rfl⟩
/-! ## Inputs are told at once -/
theorem inputs (S : Int → Prop) : ∀ (l : List (En R)) (s : St R) (i : Nat), (∀ x ∈ l, x.kind ≠ 1 → ¬ S x.log) → (∀ t, ∀ p ∈ (jobOf s t).opn, ¬ S p.1.log) →
    ∀ n, S n → (run s i l).logs n = s.logs n ++ (l.filter fun x => x.kind == 1 && x.log == n).map (·.rec_)
  | [], s, i, _, _, n, _ => by simp [run]
  | x :: l, s, i, hl, hs, n, hn => by
    have h1 : (step s x i).logs n = s.logs n ++ ([x].filter fun x => x.kind == 1 && x.log == n).map (·.rec_) ∧ ∀ t, ∀ p ∈ (jobOf (step s x i) t).opn, ¬ S p.1.log := by
      by_cases h1 : x.kind = 1
      · unfold step
        rw [if_pos h1]
        refine ⟨?_, hs⟩
        show put s.logs x n = _
        unfold put
        by_cases h2 : n = x.log
        · rw [if_pos h2]; simp [h1, h2]
        · rw [if_neg h2]; simp [h1, Ne.symm h2]
      · have hx := hl x (by simp) h1
        by_cases h2 : 2 ≤ x.kind ∧ x.kind ≤ 5
        · have h3 := step_own s x i h2
          have h4 := runJ_from (fun y => ¬ S y.log) [x] (jobOf s x.task) i (hs x.task) (fun y hy _ => by rw [List.mem_singleton.1 hy]; exact hx)
          have e1 : (runJ (jobOf s x.task) i [x]).2 = (stepJ (jobOf s x.task) x i).2 := by simp [runJ]
          have e2 : (runJ (jobOf s x.task) i [x]).1 = (stepJ (jobOf s x.task) x i).1 := by simp [runJ]
          rw [e1, e2] at h4
          refine ⟨?_, fun t p hp => ?_⟩
          · rw [h3.2, recsAt_none fun p hp hh => h4.1 p hp (by rw [hh]; exact hn)]
            simp [h1]
          · unfold jobOf at hp
            rw [step_own_job s x i h2] at hp
            split at hp
            · exact h4.2 p hp
            · exact hs t p hp
        · have : step s x i = s := by unfold step; rw [if_neg h1, if_neg (by omega), if_neg (by omega)]
          rw [this]
          exact ⟨by simp [h1], hs⟩
    rw [run, inputs S l _ _ (fun y hy => hl y (by simp [hy])) h1.2 n hn, h1.1, List.append_assoc, ← List.map_append, ← List.filter_append]
    rfl
/-! ## A transaction's records -/
theorem runJ_data : ∀ (l : List (En R)) (j : Job R) (i : Nat), (∀ x ∈ l, x.kind = 2 ∧ x.ep = j.ep ∧ x.tx = j.tx) → runJ j i l = ({ j with opn := j.opn ++ l.zipIdx i }, [])
  | [], j, i, _ => by simp [runJ]
  | x :: l, j, i, h => by
    obtain ⟨h1, h2, h3⟩ := h x (by simp)
    have e : stepJ j x i = ({ j with opn := j.opn ++ [(x, i)] }, []) := by
      unfold stepJ
      rw [if_neg (by omega), if_neg (by simp [h2, h3]), if_pos h1]
    rw [runJ, e]
    simp only
    rw [runJ_data l { j with opn := j.opn ++ [(x, i)] } (i + 1) fun y hy => h y (by simp [hy])]
    simp
end Go.Proofs.Vw
