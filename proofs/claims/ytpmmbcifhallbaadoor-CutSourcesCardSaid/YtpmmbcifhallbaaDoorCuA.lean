/-
  What functions of the program do, told of abstract states. Conditions: as each theorem says.
-/
import Derived.Test.YtpmmbcifhallbaaDoorTpI
import Derived.Test.YtpmmbcifhallbaaDoorAbD
namespace Go.Proofs.YtpmmbcifhallbaaDoor.Pk
open Go Go.Proofs Go.Proofs.YtpmmbcifhallbaaDoor.Ab
set_option linter.unusedVariables false
set_option linter.unusedSimpArgs false

/-! ### Which vertices hang together -/
/-- The first of a vertex's From that is to be merged with it. -/
def mgF (l : List Vx) (L : List Nat) (v : Nat) : List Int → Option (List Nat)
  | [] => none
  | f :: r => if kindAt l f ≠ 5 ∧ L.getD v 0 ≠ L.getD f.toNat 0 then some ((L.set v (min (L.getD v 0) (L.getD f.toNat 0))).set f.toNat (min (L.getD v 0) (L.getD f.toNat 0))) else mgF l L v r
def mgV (l : List Vx) (L : List Nat) : Nat → List Vx → Option (List Nat)
  | _, [] => none
  | v, x :: r => match mgF l L v x.frm with
    | some L' => some L'
    | none => mgV l L (v + 1) r
def mgN (l : List Vx) : Nat → List Nat → List Nat
  | 0, L => L
  | k + 1, L => match mgV l L 0 l with
    | some L' => mgN l k L'
    | none => L
def mgX (l : List Vx) : List Nat := mgN l 600 (List.range l.length)
/-- What the map has. -/
def MI (es : List (Nat × Int × Int)) (L : List Nat) : Prop := ∀ k, k < L.length → kget es (k : Int) = some ((L.getD k 0 : Nat) : Int)
def wI (es : List (Nat × Int × Int)) : List (Nat × V × V) := mapK (V.int .i64) (V.int .i64) es
theorem lookI {h : AHeap} {i cl : Nat} {es : List (Nat × Int × Int)} {L : List Nat} (hm : MI es L) {k : Nat} (hk : k < L.length) (hg : h.get i = .map (wI es) cl) : aLookup Tryd.prog 81 (.map i) (.int .i64 (k : Int)) false h = some (.int .i64 ((L.getD k 0 : Nat) : Int)) := by
  have := lookup_k (enc := V.int .i64) (ok := false) (KeyEnc.ofInt mt_81) (k := (k : Int)) mt_81 z0_t hg
  rw [this, hm k hk]
  rfl
theorem updI {h : AHeap} {i cl : Nat} (es : List (Nat × Int × Int)) (k x : Int) (hg : h.get i = .map (wI es) cl) : aUpdate Tryd.prog 81 (.map i) (.int .i64 k) (.int .i64 x) h = some (h.set i (.map (wI (kset cl es k x)) (kclk cl es k))) :=
  update_k (enc := V.int .i64) (KeyEnc.ofInt mt_81) (k := k) mt_81 hg rfl
theorem MI.set {es : List (Nat × Int × Int)} {L : List Nat} (a : MI es L) (cl k x : Nat) : MI (kset cl es (k : Int) (x : Int)) (L.set k x) := fun j hj => by
  rw [List.length_set] at hj
  rw [kget_kset]
  by_cases he : j = k
  · subst he
    rw [if_pos rfl, List.getD, List.getElem?_set]
    simp [hj]
  · rw [if_neg (by omega), a j hj, List.getD, List.getD, List.getElem?_set, if_neg (by omega)]
theorem mgF_some {l : List Vx} {L : List Nat} {v : Nat} : ∀ {r : List Int} {L' : List Nat}, mgF l L v r = some L' → ∃ f ∈ r, L.getD v 0 ≠ L.getD f.toNat 0 ∧ L' = (L.set v (min (L.getD v 0) (L.getD f.toNat 0))).set f.toNat (min (L.getD v 0) (L.getD f.toNat 0))
  | [], _, h => by cases h
  | f :: r, L', h => by
    unfold mgF at h
    split at h
    · rename_i hc
      exact ⟨f, by simp, hc.2, (Option.some.inj h).symm⟩
    · obtain ⟨g, hg, h1, h2⟩ := mgF_some h
      exact ⟨g, List.mem_cons_of_mem _ hg, h1, h2⟩
end Go.Proofs.YtpmmbcifhallbaaDoor.Pk
