/-
  What functions of the program do, told of abstract states. Conditions: as each theorem says.
-/
import Derived.Test.YtcdpepdjeneelaaDoorVtL
namespace Go.Proofs.YtcdpepdjeneelaaDoor.Pk
open Go Go.Proofs Go.Proofs.YtcdpepdjeneelaaDoor.Ab Go.Proofs.Vw
set_option linter.unusedVariables false
set_option linter.unusedSimpArgs false
/-! ### ViewInputs: the model -/
/-- What a log has of inputs. -/
def wantL (L : List Ent) (k : Int) : List LR := (L.filter fun x => x.kind == 1 && x.log == k).map fun x => (x.r, x.del)
/-- An entry of ViewInputs: an input, or another one of another log. -/
def InpE (x : Ent) : Prop := ((x.kind = 1 ∧ mayB x = true) ∨ (x.kind ≠ 1 ∧ 3 ≤ x.log)) ∧ eLen x
theorem wantL_told {L : List Ent} (h : ∀ x ∈ L, InpE x) {k : Int} (hk : 0 ≤ k ∧ k < 3) : logAt (logsOf L) k = wantL L k := by
  rw [logAt_told]
  unfold stOf
  rw [inputs (fun n : Int => n < 3) (L.map enOf) st0 0 (fun x hx hn => ?_) (fun t p hp => by cases hp) k hk.2]
  · show [] ++ _ = _
    rw [List.nil_append, wantL, List.filter_map, List.map_map]
    have e : ∀ x ∈ L, (((fun x : En LR => x.kind == 1 && x.log == k) ∘ enOf) x) = (x.kind == 1 && x.log == k) := fun x hx => by
      show ((enOf x).kind == 1 && (enOf x).log == k) = _
      have el : (enOf x).log = x.log := by unfold enOf; split <;> rfl
      rw [el]
      rcases (h x hx).1 with ⟨h1, h2⟩ | ⟨h1, h2⟩
      · have : (enOf x).kind = 1 := by unfold enOf; rw [if_pos h2]; show x.kind.toNat = 1; omega
        rw [this, h1]; rfl
      · have : (x.log == k) = false := by simp; omega
        rw [this, Bool.and_false, Bool.and_false]
    rw [List.filter_congr e]
    refine List.map_congr_left fun x _ => ?_
    show (enOf x).rec_ = _
    unfold enOf
    split <;> rfl
  · obtain ⟨y, hy, rfl⟩ := List.mem_map.1 hx
    have el : (enOf y).log = y.log := by unfold enOf; split <;> rfl
    rw [el]
    rcases (h y hy).1 with ⟨h1, h2⟩ | ⟨h1, h2⟩
    · exact absurd (by unfold enOf; rw [if_pos h2]; show y.kind.toNat = 1; omega) hn
    · omega
theorem wantL_snoc (L : List Ent) (x : Ent) (k : Int) : wantL (L ++ [x]) k = if x.kind = 1 ∧ x.log = k then wantL L k ++ [(x.r, x.del)] else wantL L k := by
  unfold wantL
  rw [List.filter_append, List.map_append]
  by_cases h : x.kind = 1 ∧ x.log = k
  · rw [if_pos h, List.filter_cons_of_pos (by simp [h])]; rfl
  · rw [if_neg h, List.filter_cons_of_neg (by simp; exact fun h1 => fun h2 => h ⟨h1, h2⟩)]; simp
def inpE (k : Int) (r : Rcd) : Ent := ⟨1, 0, 0, 0, k, r, false, [], []⟩
theorem inpE_may {k : Int} {r : Rcd} (hk : 0 ≤ k ∧ k < 3) (ht : 0 ≤ r.t ∧ r.t ≤ 1099511627776) : mayB (inpE k r) = true := by
  rw [may_iff]
  refine ⟨⟨by simp [inpE], by simp [inpE]⟩, rfl, rfl, rfl, (fit_iff _).2 ?_, (time_iff _).2 ht, by simp [inpE], by simp [inpE], by simp [inpE], by simp [inpE], ?_⟩
  · show 0 ≤ k ∧ k ≤ 1048576; omega
  · simp [useB, inpE]
theorem wantL_len (L : List Ent) (k : Int) : (wantL L k).length ≤ L.length := by
  unfold wantL
  rw [List.length_map]
  exact List.length_filter_le _ _
/-- The time that is taken. -/
def mend (t z : Int) : Int := if t < 0 ∨ 1099511627776 < t then z else t
def u8L (l : List Int) : List V := l.map (V.int .u8)
theorem u8L_ix {l : List Int} {k : Nat} (hk : k < l.length) {kk : IntKind} : ∃ r, aIndexAddr Tryd.prog 49 (.imm l.length (u8L l)) (.int kk (k : Int)) = some (.at (.int .u8 l[k] :: r)) := ⟨_, Ab.row_ix (V.int .u8) hk ss_49⟩
theorem rc_ix {l : List Rcd} {k : Nat} (hk : k < l.length) {kk : IntKind} : aIndexAddr Tryd.prog 33 (.imm l.length (l.flatMap rcdE)) (.int kk (k : Int)) = some (.at (rcdE l[k] ++ (l.drop (k + 1)).flatMap rcdE)) := rows_ix (enc := rcdE) (sz := 3) rcdE_len hk ss_33
end Go.Proofs.YtcdpepdjeneelaaDoor.Pk
