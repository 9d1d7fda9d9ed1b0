/-
  What functions of the program do, told of abstract states. Conditions: as each theorem says.
-/
import Derived.Test.YtohiphnmebklfaaAbC
import Derived.Test.YtohiphnmebklfaaAbC
import Derived.Test.YtohiphnmebklfaaProg
namespace Go.Proofs.Ytohiphnmebklfaa.Pk
open Go Go.Proofs Go.Proofs.Ytohiphnmebklfaa.Ab

theorem as_52 : arSz Try.prog 52 = none := by kernel_rfl
theorem as_55 : arSz Try.prog 55 = none := by kernel_rfl
theorem as_56 : arSz Try.prog 56 = none := by kernel_rfl
theorem bt_4 : boolT Try.prog 4 = true := by kernel_rfl
theorem cal10 : callable Try.prog 10 = true := by kernel_rfl
theorem cal28 : callable Try.prog 28 = true := by kernel_rfl
theorem cal29 : callable Try.prog 29 = true := by kernel_rfl
theorem cal30 : callable Try.prog 30 = true := by kernel_rfl
theorem cal31 : callable Try.prog 31 = true := by kernel_rfl
theorem cal32 : callable Try.prog 32 = true := by kernel_rfl
theorem cal33 : callable Try.prog 33 = true := by kernel_rfl
theorem cal34 : callable Try.prog 34 = true := by kernel_rfl
theorem cal35 : callable Try.prog 35 = true := by kernel_rfl
theorem cal36 : callable Try.prog 36 = true := by kernel_rfl
theorem cal37 : callable Try.prog 37 = true := by kernel_rfl
theorem cal54 : callable Try.prog 54 = true := by kernel_rfl
theorem cal55 : callable Try.prog 55 = true := by kernel_rfl
theorem cal9 : callable Try.prog 9 = true := by kernel_rfl
theorem ft_102_0 : fieldT Try.prog 102 0 = some 0 := by kernel_rfl
theorem ft_102_1 : fieldT Try.prog 102 1 = some 1 := by kernel_rfl
theorem ft_102_2 : fieldT Try.prog 102 2 = some 2 := by kernel_rfl
theorem ft_64_0 : fieldT Try.prog 64 0 = some 0 := by kernel_rfl
theorem ft_64_1 : fieldT Try.prog 64 1 = some 1 := by kernel_rfl
theorem ft_64_2 : fieldT Try.prog 64 2 = some 2 := by kernel_rfl
theorem ft_64_3 : fieldT Try.prog 64 3 = some 3 := by kernel_rfl
theorem ft_64_4 : fieldT Try.prog 64 4 = some 4 := by kernel_rfl
theorem it_3 : intT Try.prog 3 = some .i64 := by kernel_rfl
theorem it_53 : intT Try.prog 53 = some .u16 := by kernel_rfl
theorem kt_52 : kindT Try.prog 52 = some 1 := by kernel_rfl
theorem kt_55 : kindT Try.prog 55 = some 1 := by kernel_rfl
theorem kt_56 : kindT Try.prog 56 = some 1 := by kernel_rfl
theorem lt_102 : loadT Try.prog 102 = some (some 3) := by kernel_rfl
theorem lt_2 : loadT Try.prog 2 = some none := by kernel_rfl
theorem lt_4 : loadT Try.prog 4 = some none := by kernel_rfl
theorem lt_64 : loadT Try.prog 64 = some (some 5) := by kernel_rfl
theorem pl_102 : bplT Try.prog 102 = some (.inl [(0, 1), (1, 1), (2, 1)]) := by kernel_rfl
theorem pl_64 : bplT Try.prog 64 = some (.inl [(0, 1), (1, 1), (2, 1), (3, 1), (4, 1)]) := by kernel_rfl
theorem sk_102 : structK Try.prog 102 = some [0, 0, 0] := by kernel_rfl
theorem sk_64 : structK Try.prog 64 = some [0, 0, 0, 0, 1] := by kernel_rfl
theorem sl_52 : slT Try.prog 52 = some ⟨64, [.int .i64 0, .int .i64 0, .int .i64 0, .int .i64 0, .bool false], 5, 40⟩ := by kernel_rfl
theorem sl_55 : slT Try.prog 55 = some ⟨102, [.int .i64 0, .int .i64 0, .int .i64 0], 3, 24⟩ := by kernel_rfl
theorem sl_56 : slT Try.prog 56 = some ⟨4, [.bool false], 1, 1⟩ := by kernel_rfl
theorem ss_52 : slSz Try.prog 52 = some 5 := by kernel_rfl
theorem ss_55 : slSz Try.prog 55 = some 3 := by kernel_rfl
theorem ss_56 : slSz Try.prog 56 = some 1 := by kernel_rfl
theorem zc_102 : zeroC Try.prog 102 = some [.int .i64 0, .int .i64 0, .int .i64 0] := by kernel_rfl
theorem zc_64 : zeroC Try.prog 64 = some [.int .i64 0, .int .i64 0, .int .i64 0, .int .i64 0, .bool false] := by kernel_rfl
theorem zt_102 : sizeT Try.prog 102 = some 3 := by kernel_rfl
theorem zt_4 : sizeT Try.prog 4 = some 1 := by kernel_rfl
theorem zt_64 : sizeT Try.prog 64 = some 5 := by kernel_rfl
end Go.Proofs.Ytohiphnmebklfaa.Pk
