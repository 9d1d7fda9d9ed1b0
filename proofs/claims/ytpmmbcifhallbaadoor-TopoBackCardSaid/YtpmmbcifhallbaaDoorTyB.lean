/-
  What functions of the program do, told of abstract states. Conditions: as each theorem says.
-/
import Derived.Test.YtpmmbcifhallbaaDoorTyE
import Derived.Test.YtpmmbcifhallbaaDoorTpH
import Derived.Test.YtpmmbcifhallbaaDoorTpY
namespace Go.Proofs.YtpmmbcifhallbaaDoor.Pk
open Go Go.Proofs Go.Proofs.YtpmmbcifhallbaaDoor.Ab
theorem as_36 : arSz Tryd.prog 36 = none := by kernel_rfl
theorem cal64 : callable Tryd.prog 64 = true := by kernel_rfl
theorem cal65 : callable Tryd.prog 65 = true := by kernel_rfl
theorem cal66 : callable Tryd.prog 66 = true := by kernel_rfl
theorem cal71 : callable Tryd.prog 71 = true := by kernel_rfl
theorem cal86 : callable Tryd.prog 86 = true := by kernel_rfl
theorem cal87 : callable Tryd.prog 87 = true := by kernel_rfl
theorem ft_102_0 : fieldT Tryd.prog 102 0 = some 0 := by kernel_rfl
theorem kt_76 : kindT Tryd.prog 76 = some 0 := by kernel_rfl
theorem lt_36 : loadT Tryd.prog 36 = some none := by kernel_rfl
theorem pl_102 : bplT Tryd.prog 102 = some (.inl [(0, 1)]) := by kernel_rfl
theorem ss_36 : slSz Tryd.prog 36 = some 1 := by kernel_rfl
theorem zc_102 : zeroC Tryd.prog 102 = some [.snil] := by kernel_rfl
theorem zt_102 : sizeT Tryd.prog 102 = some 1 := by kernel_rfl
theorem zt_36 : sizeT Tryd.prog 36 = some 1 := by kernel_rfl
end Go.Proofs.YtpmmbcifhallbaaDoor.Pk
