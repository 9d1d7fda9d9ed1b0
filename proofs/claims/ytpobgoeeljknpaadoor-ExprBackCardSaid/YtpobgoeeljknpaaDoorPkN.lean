/-
  What functions of the program do, told of abstract states. Conditions: as each theorem says.
-/
import Derived.Test.YtpobgoeeljknpaaDoorPkO
namespace Go.Proofs.YtpobgoeeljknpaaDoor.Pk
open Go Go.Proofs Go.Proofs.YtpobgoeeljknpaaDoor.Ab
set_option linter.unusedVariables false
set_option linter.unusedSimpArgs false
theorem RUintOk (p : V) (i : Nat) (n : Nat) (r : List Nat) (h : AHeap) (hr : IsRd h p i (enc n ++ r)) (hn : n < 2 ^ 64) (hb : ∀ b ∈ enc n ++ r, b < 256) (hc : (enc n ++ r).length ≤ 2 ^ 46) :
    SCalls Tryd.prog 60 [p] h (fun v h' => v = .tuple [.int .u64 n, .int .i64 0] ∧ IsRd h' p i r ∧ Keep h h' (· = i)) :=
  (RUint p i _ h hr hb (by omega)).mono fun v h' ⟨e, r', k⟩ => by
    rw [dec_app n hn] at e r'
    simp only [List.drop_left] at r'
    exact ⟨e, r', k⟩
theorem RIntOk (p : V) (i : Nat) (n : Int) (r : List Nat) (h : AHeap) (hr : IsRd h p i (enc (zz n) ++ r)) (hn : -2 ^ 63 ≤ n ∧ n < 2 ^ 63) (hb : ∀ b ∈ enc (zz n) ++ r, b < 256) (hc : (enc (zz n) ++ r).length ≤ 2 ^ 46) :
    SCalls Tryd.prog 61 [p] h (fun v h' => v = .tuple [.int .i64 n, .int .i64 0] ∧ IsRd h' p i r ∧ Keep h h' (· = i)) :=
  (RInt p i _ h hr hb (by omega)).mono fun v h' ⟨e, r', k⟩ => by
    rw [dec_app _ (zz_lt n hn.1 hn.2)] at e r'
    simp only [List.drop_left, unz_zz] at e r'
    exact ⟨e, r', k⟩
end Go.Proofs.YtpobgoeeljknpaaDoor.Pk
