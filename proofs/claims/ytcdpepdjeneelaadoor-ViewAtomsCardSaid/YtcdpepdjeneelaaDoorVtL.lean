/-
  What functions of the program do, told of abstract states. Conditions: as each theorem says.
-/
import Derived.Test.YtcdpepdjeneelaaDoorVtK
import Derived.Test.YtcdpepdjeneelaaDoorVwN
namespace Go.Proofs.YtcdpepdjeneelaaDoor.Pk
open Go Go.Proofs Go.Proofs.YtcdpepdjeneelaaDoor.Ab Go.Proofs.Vw
set_option linter.unusedVariables false
set_option linter.unusedSimpArgs false
/-! ### ViewOrder -/
theorem and_small (x : Int) (m : Nat) (hm : m < 2 ^ 60) : 0 ≤ bAnd .i64 x (m : Int) ∧ bAnd .i64 x (m : Int) ≤ m := by
  unfold bAnd
  have h1 : (BitVec.ofInt IntKind.i64.bits (m : Int)).toNat = m := by
    rw [BitVec.toNat_ofInt]
    show ((m : Int) % (2 ^ 64 : Nat)).toNat = m
    omega
  have h2 : (BitVec.ofInt IntKind.i64.bits x &&& BitVec.ofInt IntKind.i64.bits (m : Int)).toNat ≤ m := by
    rw [BitVec.toNat_and, h1]
    exact Nat.and_le_right
  rw [Go.IntWalk.i64_in _ (by omega)]
  omega
/-- Entries of one task, with logs of its own. -/
def Mine (t : Int) (A : Int → Prop) (x : Ent) : Prop := x.task = t ∧ (2 ≤ x.kind ∧ x.kind ≤ 5) ∧ (x.kind = 2 → A x.log) ∧ eLen x
def LA : Int → Prop := fun n => 0 ≤ n ∧ n ≤ 1
def LB : Int → Prop := fun n => 2 ≤ n ∧ n ≤ 3
theorem mine_en {t : Int} {A : Int → Prop} {K : List Ent} (h : ∀ x ∈ K, Mine t A x) : (∀ x ∈ K.map enOf, x.kind = 0 ∨ (x.task = t ∧ 2 ≤ x.kind ∧ x.kind ≤ 5)) ∧ ∀ x ∈ K.map enOf, x.kind = 2 → A x.log := by
  refine ⟨fun x hx => ?_, fun x hx h2 => ?_⟩
  all_goals
    obtain ⟨y, hy, rfl⟩ := List.mem_map.1 hx
    obtain ⟨k1, k2, k3, _⟩ := h y hy
  · unfold enOf
    split
    · exact .inr ⟨k1, by show 2 ≤ y.kind.toNat ∧ y.kind.toNat ≤ 5; omega⟩
    · exact .inl rfl
  · unfold enOf at h2 ⊢
    split at h2
    · rename_i hm
      rw [if_pos hm]
      exact k3 (by change y.kind.toNat = 2 at h2; omega)
    · cases h2
theorem order_same {a b : List Ent} (ha : ∀ x ∈ a, Mine 1 LA x) (hb : ∀ x ∈ b, Mine 2 LB x) : toldOf (a ++ b) = toldOf (b ++ a) := by
  obtain ⟨a1, a2⟩ := mine_en ha
  obtain ⟨b1, b2⟩ := mine_en hb
  have h := orders0 (t := 1) (u := 2) (by decide) (A := LA) (B := LB) (fun n h1 h2 => by unfold LA at h1; unfold LB at h2; omega) a1 b1 a2 b2
  rw [← List.map_append, ← List.map_append] at h
  have := told_eq h.1 fun t => (h.2 t).imp id fun ⟨j, k, h1, h2, q1, q2, q3, q4, q5⟩ => ⟨j, k, h1, h2, by
    have q6 := congrArg List.length q5
    rw [List.length_map, List.length_map] at q6
    unfold tvJ
    rw [q1, q2, q3, q4, q6]⟩
  unfold toldOf
  rw [this.1, this.2]
  simp [Nat.add_comm]
/-- Entries more, behind, out of an own row. -/
theorem accO {h0 h : AHeap} {s x : V} {a r : List Ent} (o : Acc h0 h 47 11 s (a.flatMap entE)) (ox : Own h 47 11 x (r.flatMap entE)) (hl : a.length + r.length ≤ 2 ^ 30) :
    ∃ s' h', aAppend Tryd.prog 22 22 s x h = some (s', h') ∧ Acc h0 h' 47 11 s' ((a ++ r).flatMap entE) := by
  have hsrc := own_src (P := Tryd.prog) (t := 22) kt_22 ox (n := r.length) (rows_len entE_len r) (by decide) (rows_one entE_one r)
  obtain ⟨s', h', ea, oa⟩ := Acc.appM (P := Tryd.prog) (tx := 22) sl_22 o (by decide) hsrc (rows_len entE_len r) (fun m hm => by
    change m * 11 = _ at hm
    rw [rows_len entE_len, rows_len entE_len] at hm
    exact ⟨by simp only [lim]; omega, by simp only [lim]; omega⟩)
  exact ⟨s', h', ea, by rw [List.flatMap_append]; exact oa⟩
theorem litEe (h : AHeap) (x : Ent) : aBuildSlice Tryd.prog 22 1 [(0, .agg (entE x))] h = some (.sl h.n 0 1 1, h.push (.cells (entE x) 47 none)) := by rw [buildSlice_go sl_22]; rfl
/-- An entry more, behind an own row. -/
theorem accX {h0 h : AHeap} {s : V} {a : List Ent} (x : Ent) (o : Acc h0 h 47 11 s (a.flatMap entE)) (hl : a.length ≤ 2 ^ 30) :
    ∃ s' h', aAppend Tryd.prog 22 22 s (.sl h.n 0 1 1) (h.push (.cells (entE x) 47 none)) = some (s', h') ∧ Acc h0 h' 47 11 s' ((a ++ [x]).flatMap entE) ∧ Keep h h' (isId s) ∧ NewOr h s s' := by
  obtain ⟨s', h6, ea, o6, k6, d6⟩ := append_elemM (P := Tryd.prog) sl_22 (by decide) o.own (xs := entE x) rfl rfl (fun m hm => by
    change m * 11 = _ + 11 at hm
    rw [rows_len entE_len] at hm
    exact ⟨by simp only [lim]; omega, by simp only [lim]; omega⟩)
  exact ⟨s', h6, ea, (o.step o6 k6 d6).conv (by rw [List.flatMap_append]; simp), k6, d6⟩
end Go.Proofs.YtcdpepdjeneelaaDoor.Pk
