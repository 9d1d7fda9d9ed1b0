/-
  What functions of the program do, told of abstract states. Conditions: as each theorem says.
-/
import Derived.Test.YtemdgidnhgcafaaGreatDoorMj
set_option linter.unusedVariables false
namespace Go.Proofs.YtemdgidnhgcafaaGreatDoor.Ab
open Go Go.RowKit
theorem entry_relG {g : Nat → Option (List V)} {w : World} (az : IM g w) : aR (sT w) w.heap.size w (Xn g) w := by
  have aK := WL w
  refine ⟨⟨aK.heap.lh, fun i j b c uj h => by simp [Xn] at h, fun _ => trivial, aK.heap.frz, fun k cs hk => ?_, Nat.le_refl _⟩, hn.refl _ _⟩
  obtain ⟨arr, e, ho, hw, aL⟩ := az k cs hk
  exact ⟨arr, WK hw, aL⟩
theorem af.MC {P : Program} {bG : FuncId} {args : List V} {v : V} {a : Value} {g : Nat → Option (List V)} (ay : af P bG args (Xn g) fun r _ => r = v) (aH : nS v = some a) {w : World} (az : IM g w)
    {args' : Array Value} (aP : aX (sT w) args args'.toList) : Calls P bG args' w fun e w' => e = .returned a ∧ Below w.heap.size w w' :=
  (ay (sT w) w.heap.size w w args' (entry_relG az) aP).mono fun e w' U => by
    rcases U with ⟨ρ', r, c0, h', he, BD, hw, _, eC⟩ | ⟨_, _, _, _, _, _, _, bL⟩
    · subst eC
      rw [yO BD aH] at he
      exact ⟨he, hw.below.below⟩
    · exact bL.elim
end Go.Proofs.YtemdgidnhgcafaaGreatDoor.Ab
