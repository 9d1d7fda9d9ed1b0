/-
  What functions of the program do, told of abstract states. Conditions: as each theorem says.
-/
import Derived.Test.YtfcjehlhoebmnaaGreatDoorEvT
namespace Go.Proofs.YtfcjehlhoebmnaaGreatDoor.Pk
open Go Go.Proofs Go.Proofs.YtfcjehlhoebmnaaGreatDoor.Ab
set_option maxRecDepth 1000000
theorem chk6 : Ent.chk Tryz.prog gE exX 100000 ent6 = true := by decide +kernel
end Go.Proofs.YtfcjehlhoebmnaaGreatDoor.Pk
