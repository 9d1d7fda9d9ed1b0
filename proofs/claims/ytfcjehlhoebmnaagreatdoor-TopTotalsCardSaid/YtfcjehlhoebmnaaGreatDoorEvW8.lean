/-
  An evaluator upon abstract states that the kernel can run, and why what it answers holds. Conditions: as each theorem says.
-/
import Derived.Test.YtfcjehlhoebmnaaGreatDoorEvW
namespace Go.Proofs.YtfcjehlhoebmnaaGreatDoor.Pk
open Go Go.Proofs Go.Proofs.YtfcjehlhoebmnaaGreatDoor.Ab
set_option maxRecDepth 1000000
theorem chk24 : Ent.chk Tryz.prog gE exX 100000 ent24 = true := by decide +kernel
theorem ok24 : ent24.Ok Tryz.prog gE := Ent.chk_ok chk24
theorem chk25 : Ent.chk Tryz.prog gE exX 100000 ent25 = true := by decide +kernel
theorem ok25 : ent25.Ok Tryz.prog gE := Ent.chk_ok chk25
theorem chk26 : Ent.chk Tryz.prog gE exX 100000 ent26 = true := by decide +kernel
theorem ok26 : ent26.Ok Tryz.prog gE := Ent.chk_ok chk26
end Go.Proofs.YtfcjehlhoebmnaaGreatDoor.Pk
