/-
  What functions of the program do, told of abstract states. Conditions: as each theorem says.
-/
import Derived.Test.YtlbekgogjlchjaaSoO
namespace Go.Proofs.Ytlbekgogjlchjaa.Pk
open Go Go.Proofs Go.Proofs.Ytlbekgogjlchjaa.Ab
set_option linter.unusedVariables false
set_option linter.unusedSimpArgs false
theorem ro_ix {l : List (List Nat)} {i : Nat} (hi : i < l.length) : aIndexAddr Try.prog 54 (.imm l.length (rowV l)) (.int .i64 (i : Int)) = some (.at (.imm l[i].length (bytesV l[i]) :: rowV (l.drop (i + 1)))) := by
  have h := index_imm (P := Try.prog) (t := 54) (k := .i64) (i := (i : Int)) (n := l.length) (cs := rowV l) ss_54 (by omega) (by omega) (by rw [rowV_len]; omega)
  rw [h, Int.toNat_natCast, Nat.mul_one]
  unfold rowV
  rw [← List.map_drop, List.drop_eq_getElem_cons hi]
  rfl
theorem cntN_cut {l : List Bool} : ∀ {n k : Nat}, k ≤ n → l.length ≤ k → cntN (rch l) n = cntN (rch l) k
  | 0, k, h1, h2 => by have : k = 0 := by omega
                       subst this; rfl
  | n + 1, k, h1, h2 => by
    by_cases e : k = n + 1
    · subst e; rfl
    · show _ + _ = _
      rw [rch_ge (show l.length ≤ n by omega), if_neg (by decide), cntN_cut (n := n) (k := k) (by omega) h2]
      rfl
end Go.Proofs.Ytlbekgogjlchjaa.Pk
