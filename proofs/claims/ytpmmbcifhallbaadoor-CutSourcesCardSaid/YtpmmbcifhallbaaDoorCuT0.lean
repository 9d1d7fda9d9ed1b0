/-
  What functions of the program do, told of abstract states. Conditions: as each theorem says.
-/
import Derived.Test.YtpmmbcifhallbaaDoorCuL
import Derived.Test.YtpmmbcifhallbaaDoorCuE
namespace Go.Proofs.YtpmmbcifhallbaaDoor.Pk
open Go Go.Proofs Go.Proofs.YtpmmbcifhallbaaDoor.Ab
def srcV (k : Nat) : List Vx := ⟨1, [], .mk 0 0 [], 0⟩ :: (List.range k).map fun (i : Nat) => (⟨2, [(i : Int)], .mk 3 0 [], 0⟩ : Vx)
def topV (k : Nat) (b : Bool) : List Vx := (if b then srcV k ++ [⟨5, [(k : Int)], .mk 3 0 [], 0⟩] else srcV k) ++ [⟨10, [if b then (k : Int) + 1 else (k : Int)], .mk 0 0 [], 0⟩]
set_option maxRecDepth 100000 in
set_option maxHeartbeats 4000000 in
theorem topV_chk : ∀ k, k < 8 → ∀ b : Bool, chkT 1 (topV k b) = (-1, 0) := by decide
set_option maxRecDepth 100000 in
set_option maxHeartbeats 4000000 in
theorem topV_parts : ∀ k, k < 8 → ∀ b : Bool, (ptN (mgX (topV k b)) (topV k b).length).1 = List.replicate (k + 1) 0 ++ (if b then [0, 1] else [0]) := by decide
set_option maxRecDepth 100000 in
set_option maxHeartbeats 4000000 in
theorem topV_in : ∀ k, k < 8 → ∀ b : Bool, inN (topV k b) (List.replicate (k + 1) 0 ++ (if b then [0, 1] else [0])) 0 (topV k b).length = [0] ∧ inN (topV k b) (List.replicate (k + 1) 0 ++ (if b then [0, 1] else [0])) 1 (topV k b).length = (if b then [(k : Int) + 1] else []) := by decide
end Go.Proofs.YtpmmbcifhallbaaDoor.Pk
