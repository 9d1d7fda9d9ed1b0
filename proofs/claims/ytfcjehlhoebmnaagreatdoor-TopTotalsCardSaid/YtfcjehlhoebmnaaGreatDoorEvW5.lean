/-
  An evaluator upon abstract states that the kernel can run, and why what it answers holds. Conditions: as each theorem says.
-/
import Derived.Test.YtfcjehlhoebmnaaGreatDoorEvW
namespace Go.Proofs.YtfcjehlhoebmnaaGreatDoor.Pk
open Go Go.Proofs Go.Proofs.YtfcjehlhoebmnaaGreatDoor.Ab
set_option maxRecDepth 1000000
theorem chk15 : Ent.chk Tryz.prog gE exX 100000 ent15 = true := by decide +kernel
theorem ok15 : ent15.Ok Tryz.prog gE := Ent.chk_ok chk15
theorem chk16 : Ent.chk Tryz.prog gE exX 100000 ent16 = true := by decide +kernel
theorem ok16 : ent16.Ok Tryz.prog gE := Ent.chk_ok chk16
theorem chk17 : Ent.chk Tryz.prog gE exX 100000 ent17 = true := by decide +kernel
theorem ok17 : ent17.Ok Tryz.prog gE := Ent.chk_ok chk17
end Go.Proofs.YtfcjehlhoebmnaaGreatDoor.Pk
