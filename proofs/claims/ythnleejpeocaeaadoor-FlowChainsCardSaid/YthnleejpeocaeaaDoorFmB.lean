/-
  What functions of the program do, told of abstract states. Conditions: as each theorem says.
-/
import Derived.Test.YthnleejpeocaeaaDoorFmA
namespace Go.Proofs.YthnleejpeocaeaaDoor.Pk
open Go Go.Proofs Go.Proofs.YthnleejpeocaeaaDoor.Ab
set_option linter.unusedVariables false
theorem vxs_of : ∀ {es : List (List V)}, (∀ x ∈ es, ShQ.fitsQ QE (.cat (.int .i64) (.cat (.sl (.int .i64)) (.cat (.ext 3) (.cat (.int .i64) .unit)))) x) → ∃ l : List Vx, (∀ v ∈ l, OkE v.e) ∧ es = l.map encX
  | [], _ => ⟨[], by simp, rfl⟩
  | x :: es, h => by
    obtain ⟨v, hv, rfl⟩ := vx_of (h x (List.mem_cons_self ..))
    obtain ⟨l, hl, rfl⟩ := vxs_of fun y hy => h y (List.mem_cons_of_mem _ hy)
    exact ⟨v :: l, fun u hu => by
      rcases List.mem_cons.1 hu with rfl | hu
      · exact hv
      · exact hl u hu, rfl⟩
end Go.Proofs.YthnleejpeocaeaaDoor.Pk
