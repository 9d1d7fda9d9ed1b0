/-
  An evaluator upon abstract states that the kernel can run, and why what it answers holds. Conditions: as each theorem says.
-/
import Derived.Test.YtfcjehlhoebmnaaGreatDoorEvW
namespace Go.Proofs.YtfcjehlhoebmnaaGreatDoor.Pk
open Go Go.Proofs Go.Proofs.YtfcjehlhoebmnaaGreatDoor.Ab
set_option maxRecDepth 1000000
theorem chk9 : Ent.chk Tryz.prog gE exX 100000 ent9 = true := by decide +kernel
theorem ok9 : ent9.Ok Tryz.prog gE := Ent.chk_ok chk9
theorem chk10 : Ent.chk Tryz.prog gE exX 100000 ent10 = true := by decide +kernel
theorem ok10 : ent10.Ok Tryz.prog gE := Ent.chk_ok chk10
theorem chk11 : Ent.chk Tryz.prog gE exX 100000 ent11 = true := by decide +kernel
theorem ok11 : ent11.Ok Tryz.prog gE := Ent.chk_ok chk11
end Go.Proofs.YtfcjehlhoebmnaaGreatDoor.Pk
