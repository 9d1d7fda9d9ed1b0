/-
  What functions of the program do, told of abstract states. Conditions: as each theorem says.
-/
import Derived.Test.YtpjfhfmbhjghcaaGreatDoorPkJ
namespace Go.Proofs.YtpjfhfmbhjghcaaGreatDoor.Pk
open Go Go.Proofs Go.Proofs.YtpjfhfmbhjghcaaGreatDoor.Ab
set_option linter.unusedVariables false
set_option linter.unusedSimpArgs false
set_option maxRecDepth 10000

def goInts : Nat → List Nat → List Int → List Int × List Nat × Nat
  | 0, rest, acc => (acc, rest, 0)
  | k + 1, rest, acc =>
    if (dec rest 0 0).2.2 ≠ 0 then ([], [], (dec rest 0 0).2.2)
    else if unz (dec rest 0 0).1 < -2147483648 ∨ 2147483647 < unz (dec rest 0 0).1 then ([], [], 2)
    else goInts k (rest.drop (dec rest 0 0).2.1) (acc ++ [unz (dec rest 0 0).1])
def getInts (bs : List Nat) (most : Int) : List Int × List Nat × Nat :=
  if (dec bs 0 0).2.2 ≠ 0 then ([], bs, (dec bs 0 0).2.2)
  else if most < 0 ∨ most < ((dec bs 0 0).1 : Nat) then ([], bs, 2)
  else if (goInts (dec bs 0 0).1 (bs.drop (dec bs 0 0).2.1) []).2.2 ≠ 0 then ([], bs, (goInts (dec bs 0 0).1 (bs.drop (dec bs 0 0).2.1) []).2.2)
  else goInts (dec bs 0 0).1 (bs.drop (dec bs 0 0).2.1) []

theorem dec_step {rest : List Nat} (hb : ∀ b ∈ rest, b < 256) (h : (dec rest 0 0).2.2 = 0) : 1 ≤ (dec rest 0 0).2.1 ∧ (dec rest 0 0).2.1 ≤ rest.length := by
  have h1 := (dec_enc rest 0 0 (dec rest 0 0).1 (dec rest 0 0).2.1 hb (by
    have q : dec rest 0 0 = ((dec rest 0 0).1, (dec rest 0 0).2.1, (dec rest 0 0).2.2) := rfl
    rw [h] at q
    exact q)).1
  have h2 := dec_used rest 0 0
  omega
theorem lit1i (h : AHeap) (a : Int) : aBuildSlice Tryz.prog 24 1 [(0, .int .i64 a)] h = some (.sl h.n 0 1 1, h.push (.cells [.int .i64 a] 3 none)) := by rw [buildSlice_go sl_24]; rfl
theorem mem_drop {P : Nat → Prop} {l : List Nat} (h : ∀ b ∈ l, P b) (k : Nat) : ∀ b ∈ l.drop k, P b := fun b hb => h b (List.mem_of_mem_drop hb)

end Go.Proofs.YtpjfhfmbhjghcaaGreatDoor.Pk
