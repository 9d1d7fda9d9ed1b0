/-
  An evaluator upon abstract states that the kernel can run, and why what it answers holds. Conditions: as each theorem says.
-/
import Derived.Test.YtfcjehlhoebmnaaGreatDoorEvW
namespace Go.Proofs.YtfcjehlhoebmnaaGreatDoor.Pk
open Go Go.Proofs Go.Proofs.YtfcjehlhoebmnaaGreatDoor.Ab
set_option maxRecDepth 1000000
theorem chk21 : Ent.chk Tryz.prog gE exX 100000 ent21 = true := by decide +kernel
theorem ok21 : ent21.Ok Tryz.prog gE := Ent.chk_ok chk21
theorem chk22 : Ent.chk Tryz.prog gE exX 100000 ent22 = true := by decide +kernel
theorem ok22 : ent22.Ok Tryz.prog gE := Ent.chk_ok chk22
theorem chk23 : Ent.chk Tryz.prog gE exX 100000 ent23 = true := by decide +kernel
theorem ok23 : ent23.Ok Tryz.prog gE := Ent.chk_ok chk23
end Go.Proofs.YtfcjehlhoebmnaaGreatDoor.Pk
