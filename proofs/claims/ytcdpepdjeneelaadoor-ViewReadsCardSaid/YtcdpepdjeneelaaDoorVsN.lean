/-
  What functions of the program do, told of abstract states. Conditions: as each theorem says.
-/
import Derived.Test.YtcdpepdjeneelaaDoorVsK
namespace Go.Proofs.YtcdpepdjeneelaaDoor.Pk
open Go Go.Proofs Go.Proofs.YtcdpepdjeneelaaDoor.Ab Go.Proofs.Vw
set_option linter.unusedVariables false
set_option linter.unusedSimpArgs false
/-! ### What is told, as data -/
structure TV where
  t : Int
  ep : Int
  tx : Int
  offs : List Int
  ord : List Int
  opn : Nat
  deriving DecidableEq
structure TD where
  logs : List (Int × List LR)
  tasks : List TV
  looked : Nat
def tvC (x : TV) : List V := [.int .i64 x.t, .int .i64 x.ep, .int .i64 x.tx, .imm x.offs.length (i64V x.offs), .imm x.ord.length (i64V x.ord), .int .i64 (x.opn : Nat)]
theorem tvC_len (x : TV) : (tvC x).length = 6 := rfl
def tdC (t : TD) : List V := [.imm t.logs.length (t.logs.flatMap logC), .imm t.tasks.length (t.tasks.flatMap tvC), .int .i64 (t.looked : Nat)]
theorem recL_clo (rs : List LR) : CloL (recL rs) := rows_clo (enc := fun p : LR => rcdE p.1) (fun p => rcdE_clo p.1) rs
theorem delL_clo : ∀ rs : List LR, CloL (delL rs)
  | [] => CloL.nil
  | p :: rs => CloL.cons (Clo.bool _) (delL_clo rs)
theorem logC_clo (p : Int × List LR) : CloL (logC p) := CloL.cons (Clo.int _ _) (CloL.cons (Clo.imm (recL_clo _)) (CloL.cons (Clo.imm (delL_clo _)) CloL.nil))
theorem tvC_clo (x : TV) : CloL (tvC x) := CloL.cons (Clo.int _ _) (CloL.cons (Clo.int _ _) (CloL.cons (Clo.int _ _) (CloL.cons (Clo.imm (i64V_clo _)) (CloL.cons (Clo.imm (i64V_clo _)) (CloL.cons (Clo.int _ _) CloL.nil)))))
theorem tdC_clo (t : TD) : CloL (tdC t) := CloL.cons (Clo.imm (rows_clo logC_clo _)) (CloL.cons (Clo.imm (rows_clo tvC_clo _)) (CloL.cons (Clo.int _ _) CloL.nil))
def tvOf (t : Int) (j : Jb) : TV := ⟨t, j.ep, j.tx, j.offs, j.ord, j.opn.length⟩
/-- A rising list with one number more, once. -/
def insK (n : Int) : List Int → List Int
  | [] => [n]
  | x :: l => if x = n then x :: l else if n < x then n :: x :: l else x :: insK n l
theorem insK_mem {n a : Int} : ∀ {l : List Int}, a ∈ insK n l ↔ a = n ∨ a ∈ l
  | [] => by simp [insK]
  | x :: l => by
    unfold insK
    split
    · rename_i h; subst h; simp
    split
    · simp
    · rw [List.mem_cons, insK_mem (l := l), List.mem_cons]
      constructor
      · rintro (h | h | h) <;> simp [h]
      · rintro (h | h | h) <;> simp [h]
theorem insK_up {n : Int} : ∀ {l : List Int}, l.Pairwise (· < ·) → (insK n l).Pairwise (· < ·)
  | [], _ => by simp [insK]
  | x :: l, h => by
    have h' := List.pairwise_cons.1 h
    unfold insK
    split
    · exact h
    rename_i h1
    split
    · rename_i h2
      refine List.pairwise_cons.2 ⟨fun a ha => ?_, h⟩
      rcases List.mem_cons.1 ha with rfl | ha
      · exact h2
      · have := h'.1 a ha; omega
    · rename_i h2
      refine List.pairwise_cons.2 ⟨fun a ha => ?_, insK_up h'.2⟩
      rcases insK_mem.1 ha with rfl | ha
      · omega
      · exact h'.1 a ha
def keysK (l : List Int) : List Int := l.foldl (fun a n => insK n a) []
theorem keysK_go : ∀ (l a : List Int), (∀ x, x ∈ l.foldl (fun a n => insK n a) a ↔ x ∈ a ∨ x ∈ l) ∧ (a.Pairwise (· < ·) → (l.foldl (fun a n => insK n a) a).Pairwise (· < ·))
  | [], a => ⟨fun x => by simp, fun h => h⟩
  | y :: l, a => by
    obtain ⟨h1, h2⟩ := keysK_go l (insK y a)
    refine ⟨fun x => ?_, fun h => h2 (insK_up h)⟩
    rw [List.foldl_cons, h1, insK_mem, List.mem_cons]
    constructor
    · rintro ((h | h) | h) <;> simp [h]
    · rintro (h | h | h) <;> simp [h]
theorem keysK_mem {l : List Int} {x : Int} : x ∈ keysK l ↔ x ∈ l := by rw [keysK, (keysK_go l []).1]; simp
theorem keysK_up (l : List Int) : (keysK l).Pairwise (· < ·) := (keysK_go l []).2 List.Pairwise.nil
/-- What a state tells, by its keys. -/
structure IsTold (s : VM) (logs : List (Int × List LR)) (tasks : List TV) : Prop where
  lm : ∀ p, p ∈ logs ↔ p.2 = s.logs p.1 ∧ p.2 ≠ []
  lu : logs.Pairwise fun a b => a.1 < b.1
  tm : ∀ x, x ∈ tasks ↔ ∃ j, s.tasks x.t = some j ∧ x = tvOf x.t j
  tu : tasks.Pairwise fun a b => a.t < b.t
theorem up_unique {α : Type} {key : α → Int} : ∀ {a b : List α}, (∀ x, x ∈ a ↔ x ∈ b) → a.Pairwise (fun x y => key x < key y) → b.Pairwise (fun x y => key x < key y) → a = b
  | [], [], _, _, _ => rfl
  | [], y :: b, h, _, _ => by have := (h y).2 (by simp); cases this
  | x :: a, [], h, _, _ => by have := (h x).1 (by simp); cases this
  | x :: a, y :: b, h, ha, hb => by
    have ha' := List.pairwise_cons.1 ha
    have hb' := List.pairwise_cons.1 hb
    have e : x = y := by
      rcases List.mem_cons.1 ((h x).1 (by simp)) with e | h1
      · exact e
      rcases List.mem_cons.1 ((h y).2 (by simp)) with e | h2
      · exact e.symm
      have := hb'.1 x h1
      have := ha'.1 y h2
      omega
    subst e
    congr 1
    refine up_unique (fun z => ⟨fun hz => ?_, fun hz => ?_⟩) ha'.2 hb'.2
    · rcases List.mem_cons.1 ((h z).1 (by simp [hz])) with rfl | h1
      · have := ha'.1 z hz; omega
      · exact h1
    · rcases List.mem_cons.1 ((h z).2 (by simp [hz])) with rfl | h1
      · have := hb'.1 z hz; omega
      · exact h1
theorem IsTold.unique {s : VM} {a b : List (Int × List LR)} {x y : List TV} (h : IsTold s a x) (k : IsTold s b y) : a = b ∧ x = y :=
  ⟨up_unique (fun p => (h.lm p).trans (k.lm p).symm) h.lu k.lu, up_unique (fun p => (h.tm p).trans (k.tm p).symm) h.tu k.tu⟩
def logsOf (l : List Ent) : List (Int × List LR) := ((keysK (l.map (·.log))).map fun k => (k, (readV l).logs k)).filter fun p => !p.2.isEmpty
def tasksOf (l : List Ent) : List TV := (keysK (l.map (·.task))).filterMap fun t => ((readV l).tasks t).map (tvOf t)
def toldOf (l : List Ent) : TD := ⟨logsOf l, tasksOf l, l.length⟩
/-- Nothing comes from nowhere. -/
structure From (l : List Ent) (s : VM) : Prop where
  lg : ∀ k, s.logs k ≠ [] → k ∈ l.map (·.log)
  tk : ∀ t j, s.tasks t = some j → t ∈ l.map (·.task) ∧ ∀ p ∈ j.opn, p.1.log ∈ l.map (·.log)
theorem putB_from {A : Int → Prop} : ∀ (o : List (Ent × Nat)) (f : Int → List LR), (∀ p ∈ o, A p.1.log) → (∀ k, f k ≠ [] → A k) → ∀ k, putB f o k ≠ [] → A k
  | [], f, _, hf, k, h => hf k h
  | p :: o, f, ho, hf, k, h => by
    refine putB_from o (addS f p.1) (fun q hq => ho q (by simp [hq])) (fun k hk => ?_) k h
    unfold addS at hk
    split at hk
    · rename_i e; subst e; exact ho p (by simp)
    · exact hf k hk
theorem from_step {l : List Ent} {s : VM} (h : From l s) (x : Ent) (i : Nat) : From (l ++ [x]) (stepE s x i) := by
  have up : ∀ {k}, k ∈ l.map (·.log) → k ∈ (l ++ [x]).map (·.log) := fun hk => by rw [List.map_append]; exact List.mem_append_left _ hk
  have upt : ∀ {k}, k ∈ l.map (·.task) → k ∈ (l ++ [x]).map (·.task) := fun hk => by rw [List.map_append]; exact List.mem_append_left _ hk
  have xl : x.log ∈ (l ++ [x]).map (·.log) := by simp
  have xt : x.task ∈ (l ++ [x]).map (·.task) := by simp
  have same : From (l ++ [x]) s := ⟨fun k hk => up (h.lg k hk), fun t j ht => ⟨upt (h.tk t j ht).1, fun p hp => up ((h.tk t j ht).2 p hp)⟩⟩
  have jo : ∀ p ∈ (jbOf s x.task).opn, p.1.log ∈ (l ++ [x]).map (·.log) := fun p hp => by
    unfold jbOf at hp
    cases hj : s.tasks x.task with
    | none => rw [hj] at hp; cases hp
    | some j => rw [hj] at hp; exact (same.tk _ _ hj).2 p hp
  unfold stepE
  split
  · exact same
  split
  · refine ⟨fun k hk => ?_, same.tk⟩
    simp only [addS] at hk
    split at hk
    · rename_i e; rw [e]; exact xl
    · exact same.lg k hk
  split
  · refine ⟨same.lg, fun t j hj => ?_⟩
    simp only at hj
    split at hj
    · rename_i e; subst e
      injection hj with hj; subst hj
      refine ⟨xt, fun p hp => ?_⟩
      unfold fenJ at hp
      split at hp
      · cases hp
      · exact jo p hp
    · exact same.tk t j hj
  split
  · exact same
  refine ⟨fun k hk => ?_, fun t j hj => ?_⟩
  · simp only [stepL] at hk
    split at hk
    · exact same.lg k hk
    split at hk
    · exact putB_from _ _ jo same.lg k hk
    · exact same.lg k hk
  · simp only at hj
    split at hj
    · rename_i e; subst e
      injection hj with hj; subst hj
      refine ⟨xt, fun p hp => ?_⟩
      unfold stepB at hp
      split at hp
      · exact jo p hp
      split at hp
      · rcases List.mem_append.1 hp with hp | hp
        · exact jo p hp
        · rw [List.mem_singleton.1 hp]; exact xl
      split at hp <;> cases hp
    · exact same.tk t j hj
theorem from_read : ∀ (n : Nat) (l : List Ent), l.length = n → From l (readV l)
  | 0, l, h => by
    rw [List.length_eq_zero_iff.1 h]
    exact ⟨fun k hk => absurd rfl hk, fun t j hj => by cases hj⟩
  | n + 1, l, h => by
    obtain ⟨a, x, rfl⟩ : ∃ a x, l = a ++ [x] := by
      cases hl : l.reverse with
      | nil => rw [List.reverse_eq_nil_iff] at hl; rw [hl] at h; simp at h
      | cons x a => exact ⟨a.reverse, x, by rw [← List.reverse_reverse l, hl, List.reverse_cons]⟩
    rw [readV_snoc]
    exact from_step (from_read n a (by rw [List.length_append] at h; simp at h; exact h)) x _
theorem isTold (l : List Ent) : IsTold (readV l) (logsOf l) (tasksOf l) := by
  have fr := from_read _ l rfl
  refine ⟨fun p => ?_, ?_, fun x => ?_, ?_⟩
  · unfold logsOf
    rw [List.mem_filter, List.mem_map]
    constructor
    · rintro ⟨⟨k, hk, rfl⟩, h2⟩
      exact ⟨rfl, by simpa using h2⟩
    · rintro ⟨h1, h2⟩
      refine ⟨⟨p.1, keysK_mem.2 (fr.lg _ (h1 ▸ h2)), ?_⟩, by simpa using h2⟩
      rw [← h1]
  · unfold logsOf
    refine List.Pairwise.filter _ (List.pairwise_map.2 ?_)
    exact keysK_up _
  · unfold tasksOf
    rw [List.mem_filterMap]
    constructor
    · rintro ⟨t, ht, h1⟩
      cases hj : (readV l).tasks t with
      | none => rw [hj] at h1; cases h1
      | some j =>
        rw [hj] at h1
        injection h1 with h1
        subst h1
        exact ⟨j, hj, rfl⟩
    · rintro ⟨j, h1, h2⟩
      refine ⟨x.t, keysK_mem.2 (fr.tk _ _ h1).1, ?_⟩
      rw [h1]
      exact congrArg some h2.symm
  · unfold tasksOf
    refine List.Pairwise.filterMap _ (fun a b hab x hx y hy => ?_) (keysK_up _)
    cases hj : (readV l).tasks a with
    | none => rw [hj] at hx; cases hx
    | some j =>
      cases hk : (readV l).tasks b with
      | none => rw [hk] at hy; cases hy
      | some k =>
        rw [hj] at hx
        rw [hk] at hy
        injection hx with hx
        injection hy with hy
        subst hx hy
        exact hab
end Go.Proofs.YtcdpepdjeneelaaDoor.Pk
