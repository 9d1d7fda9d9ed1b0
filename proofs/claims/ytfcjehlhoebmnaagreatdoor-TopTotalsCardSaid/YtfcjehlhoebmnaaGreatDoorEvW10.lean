/-
  An evaluator upon abstract states that the kernel can run, and why what it answers holds. Conditions: as each theorem says.
-/
import Derived.Test.YtfcjehlhoebmnaaGreatDoorEvW
namespace Go.Proofs.YtfcjehlhoebmnaaGreatDoor.Pk
open Go Go.Proofs Go.Proofs.YtfcjehlhoebmnaaGreatDoor.Ab
set_option maxRecDepth 1000000
theorem chk30 : Ent.chk Tryz.prog gE exX 100000 ent30 = true := by decide +kernel
theorem ok30 : ent30.Ok Tryz.prog gE := Ent.chk_ok chk30
theorem chk31 : Ent.chk Tryz.prog gE exX 100000 ent31 = true := by decide +kernel
theorem ok31 : ent31.Ok Tryz.prog gE := Ent.chk_ok chk31
end Go.Proofs.YtfcjehlhoebmnaaGreatDoor.Pk
