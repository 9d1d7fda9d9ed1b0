/-
  What functions of the program do, told of abstract states. Conditions: as each theorem says.
-/
import Derived.Test.YtohiphnmebklfaaAbC
import Derived.Test.YtohiphnmebklfaaProg
namespace Go.Proofs.Ytohiphnmebklfaa.Pk
open Go Go.Proofs Go.Proofs.Ytohiphnmebklfaa.Ab

theorem as_56 : arSz Try.prog 56 = none := by kernel_rfl
theorem as_72 : arSz Try.prog 72 = none := by kernel_rfl
theorem cal11 : callable Try.prog 11 = true := by kernel_rfl
theorem cal38 : callable Try.prog 38 = true := by kernel_rfl
theorem cal39 : callable Try.prog 39 = true := by kernel_rfl
theorem cal40 : callable Try.prog 40 = true := by kernel_rfl
theorem cal41 : callable Try.prog 41 = true := by kernel_rfl
theorem cal42 : callable Try.prog 42 = true := by kernel_rfl
theorem cal56 : callable Try.prog 56 = true := by kernel_rfl
theorem cal57 : callable Try.prog 57 = true := by kernel_rfl
theorem cal58 : callable Try.prog 58 = true := by kernel_rfl
theorem cal59 : callable Try.prog 59 = true := by kernel_rfl
theorem cal60 : callable Try.prog 60 = true := by kernel_rfl
theorem cal61 : callable Try.prog 61 = true := by kernel_rfl
theorem it_3 : intT Try.prog 3 = some .i64 := by kernel_rfl
theorem it_71 : intT Try.prog 71 = some .i16 := by kernel_rfl
theorem kt_56 : kindT Try.prog 56 = some 1 := by kernel_rfl
theorem kt_72 : kindT Try.prog 72 = some 1 := by kernel_rfl
theorem lt_3 : loadT Try.prog 3 = some none := by kernel_rfl
theorem lt_4 : loadT Try.prog 4 = some none := by kernel_rfl
theorem lt_72 : loadT Try.prog 72 = some none := by kernel_rfl
theorem sl_56 : slT Try.prog 56 = some ⟨4, [.bool false], 1, 1⟩ := by kernel_rfl
theorem sl_72 : slT Try.prog 72 = some ⟨3, [.int .i64 0], 1, 8⟩ := by kernel_rfl
theorem ss_56 : slSz Try.prog 56 = some 1 := by kernel_rfl
theorem ss_72 : slSz Try.prog 72 = some 1 := by kernel_rfl
theorem zc_72 : zeroC Try.prog 72 = some [.snil] := by kernel_rfl
theorem zt_3 : sizeT Try.prog 3 = some 1 := by kernel_rfl
theorem zt_72 : sizeT Try.prog 72 = some 1 := by kernel_rfl
end Go.Proofs.Ytohiphnmebklfaa.Pk
