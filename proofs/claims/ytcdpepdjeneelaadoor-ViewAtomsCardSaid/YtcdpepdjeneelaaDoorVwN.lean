/-
  What functions of the program do, told of abstract states. Conditions: as each theorem says.
-/
import Derived.Test.YtcdpepdjeneelaaDoorVwM
/-! # View: entries that may not be stand between: they play no part -/
namespace Go.Proofs.Vw
set_option linter.unusedVariables false
variable {R : Type}
theorem step0 {s : St R} {x : En R} {i : Nat} (h : x.kind = 0) : step s x i = s := by
  unfold step
  rw [h, if_neg (by omega), if_neg (by omega), if_neg (by omega)]
def stepJ0 (j : Job R) (x : En R) (i : Nat) : Job R × List (En R × Nat) := if x.kind = 0 then (j, []) else stepJ j x i
def runJ0 : Job R → Nat → List (En R) → Job R × List (En R × Nat)
  | j, _, [] => (j, [])
  | j, i, x :: r => ((runJ0 (stepJ0 j x i).1 (i + 1) r).1, (stepJ0 j x i).2 ++ (runJ0 (stepJ0 j x i).1 (i + 1) r).2)
def live (l : List (En R)) : Bool := l.any fun x => x.kind != 0
theorem run_own0 (t : Int) : ∀ (l : List (En R)) (s : St R) (i : Nat), (∀ x ∈ l, x.kind = 0 ∨ (x.task = t ∧ 2 ≤ x.kind ∧ x.kind ≤ 5)) →
    (∀ u, (run s i l).tasks u = if u = t ∧ live l = true then some (runJ0 (jobOf s t) i l).1 else s.tasks u) ∧ ∀ n, (run s i l).logs n = s.logs n ++ recsAt (runJ0 (jobOf s t) i l).2 n
  | [], s, i, _ => ⟨fun u => by simp [run, live], fun n => by simp [run, runJ0, recsAt]⟩
  | x :: l, s, i, h => by
    rcases h x (by simp) with hz | ⟨hx, hk⟩
    · obtain ⟨h1, h2⟩ := run_own0 t l s (i + 1) fun y hy => h y (by simp [hy])
      have e : stepJ0 (jobOf s t) x i = (jobOf s t, []) := by unfold stepJ0; rw [if_pos hz]
      have el : live (x :: l) = live l := by simp [live, hz]
      refine ⟨fun u => ?_, fun n => ?_⟩
      · rw [run, step0 hz, h1, el, runJ0, e]
      · rw [run, step0 hz, h2, runJ0, e]
        rfl
    · have e : stepJ0 (jobOf s t) x i = stepJ (jobOf s t) x i := by unfold stepJ0; rw [if_neg (by omega)]
      have el : live (x :: l) = true := by simp [live]; exact .inl (by omega)
      have hj : jobOf (step s x i) t = (stepJ (jobOf s t) x i).1 := by
        unfold jobOf
        rw [step_own_job s x i hk, if_pos hx.symm, hx]
        rfl
      obtain ⟨h1, h2⟩ := run_own0 t l (step s x i) (i + 1) fun y hy => h y (by simp [hy])
      rw [hj] at h1 h2
      refine ⟨fun u => ?_, fun n => ?_⟩
      · rw [run, h1, step_own_job s x i hk, hx, el, runJ0, e]
        by_cases hu : u = t
        · cases hl : live l with
          | false =>
            have : ∀ (j : Job R) (k : Nat), (runJ0 j k l).1 = j := by
              clear h1 h2
              intro j k
              induction l generalizing j k with
              | nil => rfl
              | cons y l ih =>
                have hy : y.kind = 0 := by simp [live] at hl; exact hl.1
                have hl2 : live l = false := by simp [live] at hl; simp [live]; exact hl.2
                have e2 : stepJ0 j y k = (j, []) := by unfold stepJ0; rw [if_pos hy]
                rw [runJ0, e2]
                exact ih (fun z hz => h z (by rcases List.mem_cons.1 hz with rfl | hz <;> simp [*])) (by simp [live]; exact .inl (by omega)) hl2 j (k + 1)
            simp [hu, this]
          | true => simp [hu]
        · simp [hu]
      · rw [run, h2, (step_own s x i hk).2, hx, runJ0, e]
        simp only [recsAt_append, List.append_assoc]
theorem stepJ0_same {a b : Job R} (h : SameJ a b) (x : En R) (i k : Nat) : SameJ (stepJ0 a x i).1 (stepJ0 b x k).1 ∧ (stepJ0 a x i).2.map Prod.fst = (stepJ0 b x k).2.map Prod.fst := by
  unfold stepJ0
  split
  · exact ⟨h, rfl⟩
  · exact stepJ_same h x i k
theorem runJ0_same : ∀ (l : List (En R)) {a b : Job R} (i k : Nat), SameJ a b → SameJ (runJ0 a i l).1 (runJ0 b k l).1 ∧ (runJ0 a i l).2.map Prod.fst = (runJ0 b k l).2.map Prod.fst
  | [], a, b, i, k, h => ⟨h, rfl⟩
  | x :: l, a, b, i, k, h => by
    obtain ⟨h1, h2⟩ := stepJ0_same h x i k
    obtain ⟨h3, h4⟩ := runJ0_same l (i + 1) (k + 1) h1
    rw [runJ0, runJ0]
    exact ⟨h3, by rw [List.map_append, List.map_append, h2, h4]⟩
theorem runJ0_from (Q : En R → Prop) : ∀ (l : List (En R)) (j : Job R) (i : Nat), (∀ p ∈ j.opn, Q p.1) → (∀ x ∈ l, x.kind = 2 → Q x) → (∀ p ∈ (runJ0 j i l).2, Q p.1) ∧ ∀ p ∈ (runJ0 j i l).1.opn, Q p.1
  | [], j, i, hj, _ => ⟨(fun p hp => by cases hp), hj⟩
  | x :: l, j, i, hj, hl => by
    have h1 : (∀ p ∈ (stepJ0 j x i).2, Q p.1) ∧ ∀ p ∈ (stepJ0 j x i).1.opn, Q p.1 := by
      unfold stepJ0
      split
      · exact ⟨fun p hp => (by cases hp), hj⟩
      · have := runJ_from Q [x] j i hj fun y hy => hl y (by rw [List.mem_singleton.1 hy]; simp)
        simpa [runJ] using this
    obtain ⟨h2, h3⟩ := runJ0_from Q l (stepJ0 j x i).1 (i + 1) h1.2 fun y hy => hl y (by simp [hy])
    rw [runJ0]
    refine ⟨fun p hp => ?_, h3⟩
    rcases List.mem_append.1 hp with hp | hp
    · exact h1.1 p hp
    · exact h2 p hp
/-- Two tasks with logs of their own: the order in which their entries stand plays no part. -/
theorem orders0 {t u : Int} (htu : t ≠ u) {A B : Int → Prop} (hAB : ∀ n, A n → ¬ B n) {a b : List (En R)} (ha : ∀ x ∈ a, x.kind = 0 ∨ (x.task = t ∧ 2 ≤ x.kind ∧ x.kind ≤ 5)) (hb : ∀ x ∈ b, x.kind = 0 ∨ (x.task = u ∧ 2 ≤ x.kind ∧ x.kind ≤ 5))
    (la : ∀ x ∈ a, x.kind = 2 → A x.log) (lb : ∀ x ∈ b, x.kind = 2 → B x.log) :
    (∀ n, (run st0 0 (a ++ b)).logs n = (run st0 0 (b ++ a)).logs n) ∧ ∀ v, ((run st0 0 (a ++ b)).tasks v = none ∧ (run st0 0 (b ++ a)).tasks v = none) ∨ ∃ j k, (run st0 0 (a ++ b)).tasks v = some j ∧ (run st0 0 (b ++ a)).tasks v = some k ∧ SameJ j k := by
  obtain ⟨a1, a2⟩ := run_own0 t a st0 0 ha
  obtain ⟨b1, b2⟩ := run_own0 u b st0 0 hb
  have j0 : ∀ v, jobOf (st0 : St R) v = job0 := fun v => rfl
  have ju : jobOf (run (st0 : St R) 0 a) u = job0 := by unfold jobOf; rw [a1, if_neg (by simp [Ne.symm htu])]; rfl
  have jt : jobOf (run (st0 : St R) 0 b) t = job0 := by unfold jobOf; rw [b1, if_neg (by simp [htu])]; rfl
  obtain ⟨c1, c2⟩ := run_own0 u b (run st0 0 a) (0 + a.length) hb
  obtain ⟨d1, d2⟩ := run_own0 t a (run st0 0 b) (0 + b.length) ha
  rw [ju] at c1 c2
  rw [jt] at d1 d2
  rw [j0] at a1 a2 b1 b2
  obtain ⟨sa, ra⟩ := runJ0_same a 0 (0 + b.length) (SameJ.refl (job0 : Job R))
  obtain ⟨sb, rb⟩ := runJ0_same b (0 + a.length) 0 (SameJ.refl (job0 : Job R))
  have qa := (runJ0_from (fun x => A x.log) a job0 0 (by simp [job0]) la).1
  have qb := (runJ0_from (fun x => B x.log) b job0 (0 + a.length) (by simp [job0]) lb).1
  rw [run_append, run_append]
  refine ⟨fun n => ?_, fun v => ?_⟩
  · rw [c2, d2, a2, b2, ← recsAt_fst ra, ← recsAt_fst rb]
    by_cases hn : A n
    · rw [recsAt_none (l := (runJ0 job0 (0 + a.length) b).2) (fun p hp hh => hAB n hn (by have := qb p hp; rw [hh] at this; exact this))]
      simp
    · rw [recsAt_none (l := (runJ0 job0 0 a).2) (fun p hp hh => hn (by have := qa p hp; rw [hh] at this; exact this))]
      simp
  · rw [c1, d1, a1, b1]
    by_cases h1 : v = u ∧ live b = true
    · rw [if_pos h1, if_neg (by rintro ⟨h2, _⟩; exact htu (h2.symm.trans h1.1)), if_pos h1]
      exact .inr ⟨_, _, rfl, rfl, sb⟩
    · rw [if_neg h1]
      by_cases h2 : v = t ∧ live a = true
      · rw [if_pos h2, if_pos h2]
        exact .inr ⟨_, _, rfl, rfl, sa⟩
      · rw [if_neg h2, if_neg h2, if_neg h1]
        exact .inl ⟨rfl, rfl⟩
end Go.Proofs.Vw
