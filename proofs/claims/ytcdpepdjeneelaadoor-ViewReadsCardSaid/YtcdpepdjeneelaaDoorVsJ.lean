/-
  What functions of the program do, told of abstract states. Conditions: as each theorem says.
-/
import Derived.Test.YtcdpepdjeneelaaDoorVsI
namespace Go.Proofs.YtcdpepdjeneelaaDoor.Pk
open Go Go.Proofs Go.Proofs.YtcdpepdjeneelaaDoor.Ab Go.Proofs.Vw
set_option linter.unusedVariables false
set_option linter.unusedSimpArgs false
/-! ### The model of process, with entries as they are in the program -/
structure VM where
  logs : Int → List LR
  tasks : Int → Option Jb
def vm0 : VM := ⟨fun _ => [], fun _ => none⟩
def jbOf (s : VM) (t : Int) : Jb := (s.tasks t).getD jb0
def stepE (s : VM) (x : Ent) (i : Nat) : VM :=
  if mayB x = false then s
  else if x.kind = 1 then { s with logs := addS s.logs x }
  else if x.kind = 5 then { s with tasks := fun n => if n = x.task then some (fenJ (jbOf s x.task) x.epoch) else s.tasks n }
  else if x.kind = 6 then s
  else ⟨stepL s.logs (jbOf s x.task) x, fun n => if n = x.task then some (stepB (jbOf s x.task) x i) else s.tasks n⟩
def runE : VM → Nat → List Ent → VM
  | s, _, [] => s
  | s, i, x :: r => runE (stepE s x i) (i + 1) r
theorem runE_append : ∀ (a b : List Ent) (s : VM) (i : Nat), runE s i (a ++ b) = runE (runE s i a) (i + a.length) b
  | [], b, s, i => rfl
  | x :: a, b, s, i => by
    rw [List.cons_append, runE, runE, runE_append a b, List.length_cons, show i + 1 + a.length = i + (a.length + 1) by omega]
def readV (l : List Ent) : VM := runE vm0 0 l
theorem readV_snoc (l : List Ent) (x : Ent) : readV (l ++ [x]) = stepE (readV l) x l.length := by
  unfold readV
  rw [runE_append, Nat.zero_add]
  rfl
/-- How big it gets. -/
structure VBd (N : Nat) (s : VM) : Prop where
  lg : ∀ n, (s.logs n).length ≤ N * N
  op : ∀ t j, s.tasks t = some j → j.opn.length ≤ N
  tx : ∀ t j, s.tasks t = some j → 0 ≤ j.tx ∧ j.tx ≤ N
  ord : ∀ t j, s.tasks t = some j → j.ord.length ≤ 256 * N
theorem jbOf_bd {N : Nat} {s : VM} (b : VBd N s) (t : Int) : (jbOf s t).opn.length ≤ N ∧ (0 ≤ (jbOf s t).tx ∧ (jbOf s t).tx ≤ N) ∧ (jbOf s t).ord.length ≤ 256 * N := by
  unfold jbOf
  cases h : s.tasks t with
  | none => exact ⟨Nat.zero_le _, ⟨Int.le_refl _, by show (0 : Int) ≤ N; omega⟩, Nat.zero_le _⟩
  | some j => exact ⟨b.op t j h, b.tx t j h, b.ord t j h⟩
theorem vbd_step {N : Nat} {s : VM} (b : VBd N s) (x : Ent) (i : Nat) : VBd (N + 1) (stepE s x i) := by
  have hN : (N + 1) * (N + 1) = N * N + (N + N) + 1 := by rw [Nat.add_mul, Nat.mul_add]; omega
  obtain ⟨j1, j2, j3⟩ := jbOf_bd b x.task
  have same : VBd (N + 1) s := ⟨fun n => by have := b.lg n; omega, fun t j h => by have := b.op t j h; omega, fun t j h => by have := b.tx t j h; omega, fun t j h => by have := b.ord t j h; omega⟩
  unfold stepE
  split
  · exact same
  rename_i hm
  split
  · refine ⟨fun n => ?_, same.op, same.tx, same.ord⟩
    show (addS s.logs x n).length ≤ _
    unfold addS
    split
    · rw [List.length_append]; have := b.lg x.log; simp; omega
    · exact same.lg n
  split
  · refine ⟨same.lg, fun t j h => ?_, fun t j h => ?_, fun t j h => ?_⟩ <;> simp only at h <;> split at h
    · injection h with h; subst h; unfold fenJ; split
      · exact Nat.zero_le _
      · omega
    · exact same.op t j h
    · injection h with h; subst h; unfold fenJ; split
      · exact ⟨by show (0 : Int) ≤ (jbOf s x.task).tx; omega, by show (jbOf s x.task).tx ≤ _; omega⟩
      · omega
    · exact same.tx t j h
    · injection h with h; subst h; unfold fenJ; split
      · show (jbOf s x.task).ord.length ≤ _; omega
      · omega
    · exact same.ord t j h
  split
  · exact same
  have hm' : mayB x = true := by simpa using hm
  have ho := ((may_iff x).1 hm').2.2.2.2.2.2.2.2.1
  refine ⟨fun n => ?_, fun t j h => ?_, fun t j h => ?_, fun t j h => ?_⟩
  · show (stepL s.logs _ x n).length ≤ _
    unfold stepL
    split
    · exact same.lg n
    split
    · have := putB_len n (jbOf s x.task).opn s.logs (N * N) (b.lg n)
      omega
    · exact same.lg n
  all_goals
    simp only at h
    split at h
  · injection h with h; subst h; unfold stepB
    split
    · omega
    split
    · simp only [List.length_append, List.length_cons, List.length_nil]; omega
    split <;> exact Nat.zero_le _
  · exact same.op t j h
  · injection h with h; subst h; unfold stepB
    split
    · omega
    split
    · simp only; omega
    split <;> simp only <;> omega
  · exact same.tx t j h
  · injection h with h; subst h; unfold stepB
    split
    · omega
    split
    · simp only; omega
    split
    · simp only [List.length_append]; omega
    · simp only; omega
  · exact same.ord t j h
theorem vbd_read : ∀ (n : Nat) (l : List Ent), l.length = n → VBd n (readV l)
  | 0, l, h => by
    rw [List.length_eq_zero_iff.1 h]
    exact ⟨fun _ => Nat.zero_le _, (by intro t j h; cases h), (by intro t j h; cases h), (by intro t j h; cases h)⟩
  | n + 1, l, h => by
    obtain ⟨a, x, rfl⟩ : ∃ a x, l = a ++ [x] := by
      cases hl : l.reverse with
      | nil => rw [List.reverse_eq_nil_iff] at hl; rw [hl] at h; simp at h
      | cons x a => exact ⟨a.reverse, x, by rw [← List.reverse_reverse l, hl, List.reverse_cons]⟩
    rw [readV_snoc]
    exact vbd_step (vbd_read n a (by rw [List.length_append] at h; simp at h; exact h)) x _
end Go.Proofs.YtcdpepdjeneelaaDoor.Pk
