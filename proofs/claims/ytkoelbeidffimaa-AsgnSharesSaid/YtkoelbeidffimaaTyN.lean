/-
  What functions of the program do, told of abstract states. Conditions: as each theorem says.
-/
import Derived.Test.YtkoelbeidffimaaAbC
import Derived.Test.YtkoelbeidffimaaProg
namespace Go.Proofs.Ytkoelbeidffimaa.Pk
open Go Go.Proofs Go.Proofs.Ytkoelbeidffimaa.Ab

theorem as_24 : arSz Try.prog 24 = none := by kernel_rfl
theorem as_71 : arSz Try.prog 71 = none := by kernel_rfl
theorem cal11 : callable Try.prog 11 = true := by kernel_rfl
theorem cal12 : callable Try.prog 12 = true := by kernel_rfl
theorem cal13 : callable Try.prog 13 = true := by kernel_rfl
theorem cal14 : callable Try.prog 14 = true := by kernel_rfl
theorem cal33 : callable Try.prog 33 = true := by kernel_rfl
theorem cal41 : callable Try.prog 41 = true := by kernel_rfl
theorem cal42 : callable Try.prog 42 = true := by kernel_rfl
theorem cal43 : callable Try.prog 43 = true := by kernel_rfl
theorem cal44 : callable Try.prog 44 = true := by kernel_rfl
theorem cal45 : callable Try.prog 45 = true := by kernel_rfl
theorem cal46 : callable Try.prog 46 = true := by kernel_rfl
theorem cal54 : callable Try.prog 54 = true := by kernel_rfl
theorem cal55 : callable Try.prog 55 = true := by kernel_rfl
theorem cal56 : callable Try.prog 56 = true := by kernel_rfl
theorem it_3 : intT Try.prog 3 = some .i64 := by kernel_rfl
theorem it_5 : intT Try.prog 5 = some .u8 := by kernel_rfl
theorem kt_24 : kindT Try.prog 24 = some 1 := by kernel_rfl
theorem kt_71 : kindT Try.prog 71 = some 1 := by kernel_rfl
theorem lt_24 : loadT Try.prog 24 = some none := by kernel_rfl
theorem lt_3 : loadT Try.prog 3 = some none := by kernel_rfl
theorem lt_4 : loadT Try.prog 4 = some none := by kernel_rfl
theorem sl_24 : slT Try.prog 24 = some ⟨3, [.int .i64 0], 1, 8⟩ := by kernel_rfl
theorem sl_71 : slT Try.prog 71 = some ⟨4, [.bool false], 1, 1⟩ := by kernel_rfl
theorem ss_24 : slSz Try.prog 24 = some 1 := by kernel_rfl
theorem ss_71 : slSz Try.prog 71 = some 1 := by kernel_rfl
theorem zc_24 : zeroC Try.prog 24 = some [.snil] := by kernel_rfl
theorem zt_24 : sizeT Try.prog 24 = some 1 := by kernel_rfl
theorem zt_3 : sizeT Try.prog 3 = some 1 := by kernel_rfl
theorem zt_4 : sizeT Try.prog 4 = some 1 := by kernel_rfl
end Go.Proofs.Ytkoelbeidffimaa.Pk
