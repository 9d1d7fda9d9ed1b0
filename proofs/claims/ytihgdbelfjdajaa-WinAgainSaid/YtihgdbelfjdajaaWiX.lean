/-
  What functions of the program do, told of abstract states. Conditions: as each theorem says.
-/
import Derived.Test.YtihgdbelfjdajaaWiV
namespace Go.Proofs.Ytihgdbelfjdajaa.Pk
open Go Go.Proofs Go.Proofs.Ytihgdbelfjdajaa.Ab
set_option linter.unusedVariables false
set_option linter.unusedSimpArgs false
/-! ### The comparator's order -/
def cfW (a b : Chg) : Int := orI [cmpI a.fr b.fr, cmpI a.key b.key]
theorem cfW_lt (a b : Chg) : decide (cfW a b < 0) = aheadW a b := by
  unfold cfW orI orI orI cmpI aheadW
  rw [Bool.eq_iff_iff]
  simp only [decide_eq_true_eq]
  by_cases h1 : a.fr < b.fr
  · simp [h1]
  · by_cases h2 : b.fr < a.fr
    · have : ¬ a.fr = b.fr := by omega
      simp [h1, h2, this]
    · have e : a.fr = b.fr := by omega
      by_cases h3 : a.key < b.key
      · simp [e, h3]
      · by_cases h4 : b.key < a.key
        · simp [e, h3, h4]
        · simp [e, h3, h4]
theorem ahead_irr (a : Chg) : aheadW a a = false := by unfold aheadW; exact decide_eq_false (by omega)
theorem ahead_trans (a b c : Chg) (h1 : aheadW a b = true) (h2 : aheadW b c = true) : aheadW a c = true := by
  unfold aheadW at *
  simp only [decide_eq_true_eq] at *
  omega
theorem ahead_ntrans (a b c : Chg) (h1 : aheadW a b = false) (h2 : aheadW b c = false) : aheadW a c = false := by
  unfold aheadW at *
  simp only [decide_eq_false_iff_not] at *
  omega
end Go.Proofs.Ytihgdbelfjdajaa.Pk
