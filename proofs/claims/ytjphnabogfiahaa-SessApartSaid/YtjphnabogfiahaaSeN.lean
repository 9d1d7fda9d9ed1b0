/-
  What functions of the program do, told of abstract states. Conditions: as each theorem says.
-/
import Derived.Test.YtjphnabogfiahaaSeK
namespace Go.Proofs.Ytjphnabogfiahaa.Pk
open Go Go.Proofs Go.Proofs.Ytjphnabogfiahaa.Ab
set_option linter.unusedVariables false
set_option linter.unusedSimpArgs false
structure Deed where
  kind : Int
  key : Int
  time : Int
  val : Int
  c : Chg
def dE (d : Deed) : List V := [.int .i64 d.kind, .int .i64 d.key, .int .i64 d.time, .int .i64 d.val, .int .i64 d.c.key, .int .i64 d.c.fr, .int .i64 d.c.to, .int .i64 d.c.val, .bool d.c.del]
theorem dE_len (d : Deed) : (dE d).length = 9 := rfl
theorem ldE0 (d : Deed) (r : List V) : loadGo (some none) (some (dE d ++ r)) = some (.int .i64 d.kind) := rfl
theorem fdE1 (d : Deed) (r : List V) : (if 1 ≤ (dE d ++ r).length then some (V.at (List.drop 1 (dE d ++ r))) else none) = some (.at (.int .i64 d.key :: .int .i64 d.time :: .int .i64 d.val :: (chgE d.c ++ r))) := by rw [if_pos (by rw [List.length_append, dE_len]; omega)]; rfl
theorem fdE2 (d : Deed) (r : List V) : (if 2 ≤ (dE d ++ r).length then some (V.at (List.drop 2 (dE d ++ r))) else none) = some (.at (.int .i64 d.time :: .int .i64 d.val :: (chgE d.c ++ r))) := by rw [if_pos (by rw [List.length_append, dE_len]; omega)]; rfl
theorem fdE3 (d : Deed) (r : List V) : (if 3 ≤ (dE d ++ r).length then some (V.at (List.drop 3 (dE d ++ r))) else none) = some (.at (.int .i64 d.val :: (chgE d.c ++ r))) := by rw [if_pos (by rw [List.length_append, dE_len]; omega)]; rfl
theorem deed_ix {l : List Deed} {k : Nat} (hk : k < l.length) : ∃ r, aIndexAddr Try.prog 22 (.imm l.length (l.flatMap dE)) (.int .i64 (k : Int)) = some (.at (dE l[k] ++ r)) := ⟨_, rows_ix dE_len hk ss_22⟩
theorem inc64w {t n : Nat} (h : t < n) (hn : n ≤ 2 ^ 60) : IntKind.i64.wrap ((t : Int) + 1) = ((t + 1 : Nat) : Int) := by rw [Go.IntWalk.i64_in _ (by omega)]; omega
theorem ldC0 (c : Chg) (r : List V) : loadGo (some none) (some (chgE c ++ r)) = some (.int .i64 c.key) := rfl
theorem fdC1 (c : Chg) (r : List V) : (if 1 ≤ (chgE c ++ r).length then some (V.at (List.drop 1 (chgE c ++ r))) else none) = some (.at (.int .i64 c.fr :: .int .i64 c.to :: .int .i64 c.val :: .bool c.del :: r)) := by rw [if_pos (by rw [List.length_append, chgE_len]; omega)]; rfl
theorem fdC2 (c : Chg) (r : List V) : (if 2 ≤ (chgE c ++ r).length then some (V.at (List.drop 2 (chgE c ++ r))) else none) = some (.at (.int .i64 c.to :: .int .i64 c.val :: .bool c.del :: r)) := by rw [if_pos (by rw [List.length_append, chgE_len]; omega)]; rfl
theorem ldC (c : Chg) (r : List V) : (if 5 ≤ (chgE c ++ r).length then some (V.agg (List.take 5 (chgE c ++ r))) else none) = some (.agg (chgE c)) := by rw [if_pos (by rw [List.length_append, chgE_len]; omega)]; rfl
/-- A put, whatever the time. -/
def putL (g : Int) (l : List Chg) (k t v : Int) : List Chg := if mayT t = true then putS g l k t v else l
def putN (g : Int) (l : List Chg) (k t v : Int) : List Chg := if mayT t = true then putC g l k t v else []
def putR (t : Int) : Int := if mayT t = true then 0 else 2
theorem putL_len {g : Int} {l : List Chg} (h : SS l) (k t v : Int) : (putL g l k t v).length ≤ l.length + 1 := by
  unfold putL
  split
  · have := putS_len (g := g) h k t v; omega
  · omega
theorem sesPutAny (h : AHeap) (i : Nat) (v : V) (room g key time val : Int) (l : List Chg) (hroom : (l.length : Int) < room) (hl : l.length < 1024) (k : IsSes h i v room g l) :
    SCalls Try.prog 11 [.ptr i 0, .int .i64 key, .int .i64 time, .int .i64 val] h (fun r h' => ∃ v', r = .tuple [.imm (putN g l key time val).length ((putN g l key time val).flatMap chgE), .int .i64 (putR time)] ∧ IsSes h' i v' room g (putL g l key time val) ∧ Keep h h' (sesO i v) ∧ NewOr h v v') := by
  cases hm : mayT time
  · refine (sesPutBad h i v room g key time val l hm k).mono fun r h' ⟨e1, e2⟩ => ⟨v, ?_, ?_, ?_, .inl rfl⟩
    · rw [e1]; unfold putN putR; rw [hm]; rfl
    · rw [e2]; unfold putL; rw [hm]; exact k
    · rw [e2]; exact Keep.refl _ _
  · refine (sesPut h i v room g key time val l hm hroom hl k).mono fun r h' ⟨v', e1, e2, e3, e4⟩ => ⟨v', ?_, ?_, e3, e4⟩
    · rw [e1]; unfold putN putR; rw [if_pos hm, if_pos hm]
    · unfold putL; rw [if_pos hm]; exact e2
end Go.Proofs.Ytjphnabogfiahaa.Pk
