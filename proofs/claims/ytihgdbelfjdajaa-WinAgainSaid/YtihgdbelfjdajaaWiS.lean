/-
  What functions of the program do, told of abstract states. Conditions: as each theorem says.
-/
import Derived.Test.YtihgdbelfjdajaaWiR
namespace Go.Proofs.Ytihgdbelfjdajaa.Pk
open Go Go.Proofs Go.Proofs.Ytihgdbelfjdajaa.Ab
set_option linter.unusedVariables false
set_option linter.unusedSimpArgs false
theorem winListI (SC : SortC byW) (h : AHeap) (i m cl : Nat) (room size : Int) (l : Ent) (k : IsWin h i m room size (wE l) cl) (hs : Stamps (wE l) cl) (hl : l.length ≤ 2 ^ 30) (hf : ∀ e ∈ l, 0 ≤ e.2.1.2 ∧ e.2.1.2 ≤ 2 ^ 41) :
    SCalls Try.prog 12 [.ptr i 0] h (fun r h' => Keep h h' none_ ∧ ∃ lc, lc.Perm (l.map (chgW size)) ∧ SortedW lc ∧ r = .imm lc.length (lc.flatMap chgE)) :=
  SCalls.cast ((winList SC h i m cl room size l k hs hl hf).mono fun r h' ⟨kp, lc, p, s, o, nw⟩ => by
    obtain ⟨h2, c, k2⟩ := Cast.own o (n := lc.length) (rows_len chgE_len _) (by decide)
    exact ⟨_, h2, c, kp.trans k2 fun q hq e => by have := nw q e; omega, lc, p, s, rfl⟩)
theorem winExpI (SC : SortC byW) (h : AHeap) (i m cl : Nat) (room size before : Int) (l : Ent) (k : IsWin h i m room size (wE l) cl) (hs : Stamps (wE l) cl) (hkn : KNodup l) (hl : l.length ≤ 2 ^ 30) (hf : ∀ e ∈ l, 0 ≤ e.2.1.2 ∧ e.2.1.2 ≤ 2 ^ 41) :
    SCalls Try.prog 8 [.ptr i 0, .int .i64 before] h (fun r h' => Keep h h' (fun q => q = m) ∧ IsWin h' i m room size (wE (l.filter fun e => !gnW size before e)) cl ∧
      ∃ lc, lc.Perm ((l.filter (gnW size before)).map (goneW size)) ∧ SortedW lc ∧ r = .imm lc.length (lc.flatMap chgE)) :=
  SCalls.cast ((winExp SC h i m cl room size before l k hs hkn hl hf).mono fun r h' ⟨kp, kw, lc, p, s, o, nw⟩ => by
    obtain ⟨h2, c, k2⟩ := Cast.own o (n := lc.length) (rows_len chgE_len _) (by decide)
    have il := k.lt
    have ml := k.ml
    have n2 := k2.n
    exact ⟨_, h2, c, kp.trans k2 fun q hq e => by have := nw q e; omega, ⟨(k2.get i kw.lt (fun e => by have := nw i e; omega)).trans kw.get, (k2.get m kw.ml (fun e => by have := nw m e; omega)).trans kw.map, k.ne, by have := kw.lt; omega, by have := kw.ml; omega, k.s1, k.s2⟩, lc, p, s, rfl⟩)
end Go.Proofs.Ytihgdbelfjdajaa.Pk
