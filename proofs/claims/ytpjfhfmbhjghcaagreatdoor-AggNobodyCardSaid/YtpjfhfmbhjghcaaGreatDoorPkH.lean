/-
  What functions of the program do, told of abstract states. Conditions: as each theorem says.
-/
import Derived.Test.YtpjfhfmbhjghcaaGreatDoorPkF
import Derived.Test.YtpjfhfmbhjghcaaGreatDoorAbD
namespace Go.Proofs.YtpjfhfmbhjghcaaGreatDoor.Pk
open Go Go.Proofs Go.Proofs.YtpjfhfmbhjghcaaGreatDoor.Ab
set_option linter.unusedVariables false
set_option linter.unusedSimpArgs false
set_option maxRecDepth 10000



theorem i64V_drop {l : List Int} {k : Nat} (hk : k < l.length) : (i64V l).drop (k * 1) = .int .i64 l[k] :: i64V (l.drop (k + 1)) := by
  rw [Nat.mul_one]
  unfold i64V
  rw [← List.map_drop, List.drop_eq_getElem_cons hk]
  rfl
theorem i64V_ix {l : List Int} {k : Nat} (hk : k < l.length) {t : TypeId} (hs : slSz Tryz.prog t = some 1) : aIndexAddr Tryz.prog t (.imm l.length (i64V l)) (.int .i64 (k : Int)) = some (.at (.int .i64 l[k] :: i64V (l.drop (k + 1)))) := by
  rw [index_imm hs (by omega) (by omega) (by rw [i64V_length]; omega), Int.toNat_natCast, i64V_drop hk]
theorem wrap_nat {n : Nat} (h : n < 2 ^ 63) : IntKind.i64.wrap (n : Int) = (n : Int) := Go.IntWalk.i64_in _ (by omega)
theorem wrap_natU {n : Nat} (h : n < 2 ^ 64) : IntKind.u64.wrap (n : Int) = (n : Int) := by rw [IntKind.wrap_u64]; omega

def encBytes (x : List Nat) : List Nat := enc x.length ++ x
def encInts (l : List Int) : List Nat := enc l.length ++ l.flatMap fun n => enc (zz n)

theorem freshA (s : V) (cs : List Nat) (m : Nat) (h : AHeap) (rd : Rd h s cs) (hc : cs.length + m ≤ 2 ^ 47) :
    SCalls Tryz.prog 103 [s, .int .i64 m] h (fun r h' => Acc h h' 5 1 r (bytesV cs)) :=
  (fresh s cs m h rd hc).mono fun r h' ⟨e, o, k⟩ => ⟨o, k, fun j hj => by subst e; simp [idOf] at hj; omega⟩
theorem addUintA {h0 : AHeap} (s : V) (cs : List Nat) (n : Nat) (h : AHeap) (a : Acc h0 h 5 1 s (bytesV cs)) (hc : cs.length ≤ 2 ^ 46) (hn : n < 2 ^ 64) :
    SCalls Tryz.prog 125 [s, .int .u64 n] h (fun r h' => Acc h0 h' 5 1 r (bytesV (cs ++ enc n))) :=
  (addUint s cs n h a.own hc hn).mono fun r h' ⟨o, k, d⟩ => a.step o k d

theorem flat_take {α β : Type} (l : List α) (f : α → List β) {i : Nat} (hi : i < l.length) : (l.take (i + 1)).flatMap f = (l.take i).flatMap f ++ f l[i] := by
  rw [List.take_succ_eq_append_getElem hi, List.flatMap_append]; simp
theorem flat_len {α : Type} (f : α → List Nat) (m : Nat) (h : ∀ x, (f x).length ≤ m) : ∀ l : List α, (l.flatMap f).length ≤ m * l.length
  | [] => by simp
  | x :: l => by
    have := flat_len f m h l
    have := h x
    simp only [List.flatMap_cons, List.length_append, List.length_cons, Nat.mul_add]
    omega
theorem enc_flat {l : List Int} (hl : ∀ n ∈ l, -2 ^ 63 ≤ n ∧ n < 2 ^ 63) : (l.flatMap fun n => enc (zz n)).length ≤ 10 * l.length := by
  induction l with
  | nil => simp
  | cons n l ih =>
    have h1 := ih fun n hn => hl n (by simp [hn])
    have h2 := hl n (by simp)
    have := (enc_le (zz n) (zz_lt n h2.1 h2.2)).2
    simp only [List.flatMap_cons, List.length_append, List.length_cons]
    omega

end Go.Proofs.YtpjfhfmbhjghcaaGreatDoor.Pk
