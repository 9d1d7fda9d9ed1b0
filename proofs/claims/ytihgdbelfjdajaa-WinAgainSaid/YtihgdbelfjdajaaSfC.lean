/-
  What functions of the program do, told of abstract states. Conditions: as each theorem says.
-/
import Derived.Test.YtihgdbelfjdajaaSfB
import Derived.Test.YtihgdbelfjdajaaWiX
namespace Go.Proofs.Ytihgdbelfjdajaa.Pk
open Go Go.Proofs Go.Proofs.Ytihgdbelfjdajaa.Ab Go.Sort
set_option linter.unusedVariables false
theorem ltW (a b : Chg) : ltOf cfW a b = aheadW a b := cfW_lt a b
theorem sortByW : SortC byW := fun h x l ho hl => by
  refine (sortChg (cf := cfW) ⟨fun a => by rw [ltW]; exact ahead_irr a, fun a b c h1 h2 => by rw [ltW] at *; exact ahead_trans a b c h1 h2, fun a b c h1 h2 => by rw [ltW] at *; exact ahead_ntrans a b c h1 h2⟩
    (fun a b => (byWin noHeap a b).mono fun r h' hh => hh.1) (enters_of Try.func19 (by kernel_rfl) rfl) h x l ho hl).mono fun r h' ⟨h1, h2, l', hp, hs, ho⟩ => ⟨h1, h2, l', hp, hs.imp fun {a b} hab => by rwa [ltW] at hab, ho⟩
end Go.Proofs.Ytihgdbelfjdajaa.Pk
