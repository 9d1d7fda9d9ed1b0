/-
  What functions of the program do, told of abstract states. Conditions: as each theorem says.
-/
import Derived.Test.YtpmmbcifhallbaaDoorExU
import Derived.Test.YtpmmbcifhallbaaDoorPkM
namespace Go.Proofs.YtpmmbcifhallbaaDoor.Pk
open Go Go.Proofs Go.Proofs.YtpmmbcifhallbaaDoor.Ab
set_option linter.unusedVariables false
set_option linter.unusedSimpArgs false
/-- It may be, within so many levels. -/
def okX (d : Nat) (e : Ex) : Prop := ∃ room c, cnt d room e = some c
theorem cntL_mem {f : Nat → Ex → Option Nat} {room : Nat} : ∀ {m : Nat} {l : List Ex} {c : Nat}, cntL f room m l = some c → ∀ k ∈ l, ∃ q c, f q k = some c
  | m, [], c, h, k, hk => by simp at hk
  | m, a :: r, c, h, k, hk => by
    unfold cntL at h
    split at h
    · rename_i d hd
      rcases List.mem_cons.1 hk with rfl | hk
      · exact ⟨_, _, hd⟩
      · exact cntL_mem h k hk
    · cases h
theorem okX.fits {d : Nat} {e : Ex} (h : okX (d + 1) e) : fitsX e = true ∧ ∀ k ∈ e.ks, okX d k := by
  obtain ⟨room, c, h⟩ := h
  unfold cnt at h
  split at h
  · cases h
  · rename_i hn
    refine ⟨?_, fun k hk => cntL_mem h k hk⟩
    cases hf : fitsX e <;> simp_all
theorem okX.zero {e : Ex} (h : okX 0 e) : False := by
  obtain ⟨room, c, h⟩ := h
  simp [cnt] at h
theorem kid_ix {ks : List Ex} {k : Nat} {A : Ex} (h : ks[k]? = some A) : ∃ r, aIndexAddr Tryd.prog 43 (.imm ks.length (ks.flatMap encE)) (.int .i64 (k : Int)) = some (.at (encE A ++ r)) :=
  rows_at encE_len rfl h ss_43
theorem fits_len {o n : Int} {ks : List Ex} (h : fitsX (.mk o n ks) = true) : (ks.length : Int) = kidsN.getD o.toNat 0 ∧ 1 ≤ o ∧ o ≤ 16 := by
  simp only [fitsX, Bool.and_eq_true, Bool.or_eq_true, decide_eq_true_eq] at h
  exact ⟨h.2.1, h.1⟩
end Go.Proofs.YtpmmbcifhallbaaDoor.Pk
