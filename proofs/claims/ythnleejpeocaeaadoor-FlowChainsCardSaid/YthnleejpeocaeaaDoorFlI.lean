/-
  What functions of the program do, told of abstract states. Conditions: as each theorem says.
-/
import Derived.Test.YthnleejpeocaeaaDoorFlZ
import Derived.Test.YthnleejpeocaeaaDoorFlG
namespace Go.Proofs.YthnleejpeocaeaaDoor.Pk
open Go Go.Proofs Go.Proofs.YthnleejpeocaeaaDoor.Ab
set_option linter.unusedVariables false
set_option linter.unusedSimpArgs false
def recIn (r : Rec) : Prop := inR r.k ∧ inR r.v ∧ inR r.t
theorem copR_recIn (r : Rec) (h : recIn r) : ∀ m, ∀ x ∈ copR r m, recIn x
  | 0, x, hx => by simp [copR] at hx
  | m + 1, x, hx => by
    simp only [copR, List.mem_append, List.mem_singleton] at hx
    rcases hx with hx | rfl
    · exact copR_recIn r h m x hx
    · exact ⟨h.1, w64_inR _, h.2.2⟩
theorem resX_in (kind n : Int) (r : Rec) (hr : recIn r) (hn : inR n) : ∀ x ∈ resX kind n r, recIn x := by
  intro x hx
  unfold resX at hx
  split at hx
  · simp only [List.mem_singleton] at hx; subst hx; exact ⟨hr.1, hn, hr.2.2⟩
  · split at hx
    · simp only [List.mem_singleton] at hx; subst hx; exact ⟨hn, hr.2.1, hr.2.2⟩
    · split at hx
      · split at hx
        · simp at hx
        · simp only [List.mem_singleton] at hx; subst hx; exact hr
      · split at hx
        · exact copR_recIn r hr _ x hx
        · simp only [List.mem_singleton] at hx; subst hx; exact hr
theorem applyX_in (v : Vx) (hv : OkE v.e) (r : Rec) (hr : recIn r) : ∀ x ∈ (applyX v r).1, recIn x := by
  intro x hx
  unfold applyX at hx
  split at hx
  · simp only [List.mem_singleton] at hx; subst hx; exact hr
  · split at hx
    · split at hx
      · split at hx
        · rename_i n hn
          exact resX_in _ n r hr (valF_inR hr.1 hr.2.1 hr.2.2 (by unfold inR; omega) hv hn) x hx
        · simp at hx
      · simp at hx
    · simp at hx
theorem Sw.keep {h0 h h' : AHeap} {b : Nat} {s : PS} {v : V} {M : Nat → Prop} (a : Sw h0 b s v h) (k : Keep h h' M) (hM : ∀ j, M j → h0.n ≤ j) (hb : ¬ M b) (hv : ∀ j, idOf v = some j → ¬ M j) : Sw h0 b s v h' :=
  ⟨a.k.trans k fun j hj q => by have := hM j q; omega, a.hb, Nat.lt_of_lt_of_le a.bl k.n, a.own.keep k hv, a.new, by rw [k.get _ a.bl hb]; exact a.gt⟩
end Go.Proofs.YthnleejpeocaeaaDoor.Pk
