/-
  An evaluator upon abstract states that the kernel can run, and why what it answers holds. Conditions: as each theorem says.
-/
import Derived.Test.YtfcjehlhoebmnaaGreatDoorEvW
namespace Go.Proofs.YtfcjehlhoebmnaaGreatDoor.Pk
open Go Go.Proofs Go.Proofs.YtfcjehlhoebmnaaGreatDoor.Ab
set_option maxRecDepth 1000000
theorem chk3 : Ent.chk Tryz.prog gE exX 100000 ent3 = true := by decide +kernel
theorem ok3 : ent3.Ok Tryz.prog gE := Ent.chk_ok chk3
theorem chk4 : Ent.chk Tryz.prog gE exX 100000 ent4 = true := by decide +kernel
theorem ok4 : ent4.Ok Tryz.prog gE := Ent.chk_ok chk4
theorem chk5 : Ent.chk Tryz.prog gE exX 100000 ent5 = true := by decide +kernel
theorem ok5 : ent5.Ok Tryz.prog gE := Ent.chk_ok chk5
end Go.Proofs.YtfcjehlhoebmnaaGreatDoor.Pk
