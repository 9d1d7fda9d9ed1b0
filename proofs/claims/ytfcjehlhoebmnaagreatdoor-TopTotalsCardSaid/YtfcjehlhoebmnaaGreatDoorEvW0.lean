/-
  An evaluator upon abstract states that the kernel can run, and why what it answers holds. Conditions: as each theorem says.
-/
import Derived.Test.YtfcjehlhoebmnaaGreatDoorEvW
namespace Go.Proofs.YtfcjehlhoebmnaaGreatDoor.Pk
open Go Go.Proofs Go.Proofs.YtfcjehlhoebmnaaGreatDoor.Ab
set_option maxRecDepth 1000000
theorem chkW0 : Ent.chk Tryz.prog gE exX 100000 ent0 = true := by decide +kernel
theorem ok0 : ent0.Ok Tryz.prog gE := Ent.chk_ok chkW0
theorem chkW1 : Ent.chk Tryz.prog gE exX 100000 ent1 = true := by decide +kernel
theorem ok1 : ent1.Ok Tryz.prog gE := Ent.chk_ok chkW1
theorem chkW2 : Ent.chk Tryz.prog gE exX 100000 ent2 = true := by decide +kernel
theorem ok2 : ent2.Ok Tryz.prog gE := Ent.chk_ok chkW2
end Go.Proofs.YtfcjehlhoebmnaaGreatDoor.Pk
