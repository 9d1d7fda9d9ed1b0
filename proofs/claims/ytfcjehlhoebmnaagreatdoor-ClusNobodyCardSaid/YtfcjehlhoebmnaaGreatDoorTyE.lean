/-
  What functions of the program do, told of abstract states. Conditions: as each theorem says.
-/
import Derived.Test.YtfcjehlhoebmnaaGreatDoorAbD
import Derived.Test.YtfcjehlhoebmnaaGreatDoorProg
namespace Go.Proofs.YtfcjehlhoebmnaaGreatDoor.Pk
open Go Go.Proofs Go.Proofs.YtfcjehlhoebmnaaGreatDoor.Ab

theorem cal283 : callable Tryz.prog 283 = true := by kernel_rfl
theorem it_206 : intT Tryz.prog 206 = some .u32 := by kernel_rfl
theorem it_5 : intT Tryz.prog 5 = some .u8 := by kernel_rfl
end Go.Proofs.YtfcjehlhoebmnaaGreatDoor.Pk
