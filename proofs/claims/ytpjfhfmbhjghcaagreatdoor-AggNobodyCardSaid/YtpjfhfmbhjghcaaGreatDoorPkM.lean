/-
  What functions of the program do, told of abstract states. Conditions: as each theorem says.
-/
import Derived.Test.YtpjfhfmbhjghcaaGreatDoorPkL
namespace Go.Proofs.YtpjfhfmbhjghcaaGreatDoor.Pk
open Go Go.Proofs Go.Proofs.YtpjfhfmbhjghcaaGreatDoor.Ab
set_option linter.unusedVariables false
set_option linter.unusedSimpArgs false
set_option maxRecDepth 10000
theorem getBytes_app (x r : List Nat) (hx : x.length < 2 ^ 64) : getBytes (encBytes x ++ r) = (x, r, 0) := by
  unfold getBytes encBytes
  rw [List.append_assoc, dec_app _ hx]
  simp
theorem goInts_app (r : List Nat) : ∀ (l acc : List Int), (∀ n ∈ l, -2147483648 ≤ n ∧ n ≤ 2147483647) → goInts l.length ((l.flatMap fun n => enc (zz n)) ++ r) acc = (acc ++ l, r, 0)
  | [], acc, _ => by simp [goInts]
  | n :: l, acc, h => by
    have h1 := h n (by simp)
    have hz : zz n < 2 ^ 64 := by unfold zz; split <;> omega
    rw [List.length_cons, goInts, List.flatMap_cons, List.append_assoc, dec_app _ hz]
    simp only [unz_zz]
    rw [if_neg (by simp), if_neg (by omega), List.drop_left, goInts_app r l (acc ++ [n]) fun m hm => h m (by simp [hm])]
    simp
theorem getInts_app (l : List Int) (r : List Nat) (hl : l.length < 2 ^ 63) (h : ∀ n ∈ l, -2147483648 ≤ n ∧ n ≤ 2147483647) : getInts (encInts l ++ r) (l.length : Nat) = (l, r, 0) := by
  unfold getInts encInts
  rw [List.append_assoc, dec_app _ (by omega)]
  simp only [List.drop_left]
  rw [if_neg (by simp), if_neg (by omega), goInts_app r l [] h, if_neg (by simp)]
  simp
end Go.Proofs.YtpjfhfmbhjghcaaGreatDoor.Pk
