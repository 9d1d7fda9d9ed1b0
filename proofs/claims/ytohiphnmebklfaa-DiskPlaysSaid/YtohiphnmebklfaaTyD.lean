/-
  What functions of the program do, told of abstract states. Conditions: as each theorem says.
-/
import Derived.Test.YtohiphnmebklfaaAbC
import Derived.Test.YtohiphnmebklfaaAbC
import Derived.Test.YtohiphnmebklfaaProg
namespace Go.Proofs.Ytohiphnmebklfaa.Pk
open Go Go.Proofs Go.Proofs.Ytohiphnmebklfaa.Ab

theorem as_22 : arSz Try.prog 22 = none := by kernel_rfl
theorem as_29 : arSz Try.prog 29 = none := by kernel_rfl
theorem as_39 : arSz Try.prog 39 = none := by kernel_rfl
theorem bt_4 : boolT Try.prog 4 = true := by kernel_rfl
theorem cal13 : callable Try.prog 13 = true := by kernel_rfl
theorem cal14 : callable Try.prog 14 = true := by kernel_rfl
theorem cal15 : callable Try.prog 15 = true := by kernel_rfl
theorem cal16 : callable Try.prog 16 = true := by kernel_rfl
theorem cal17 : callable Try.prog 17 = true := by kernel_rfl
theorem cal18 : callable Try.prog 18 = true := by kernel_rfl
theorem cal19 : callable Try.prog 19 = true := by kernel_rfl
theorem cal20 : callable Try.prog 20 = true := by kernel_rfl
theorem cal21 : callable Try.prog 21 = true := by kernel_rfl
theorem cal22 : callable Try.prog 22 = true := by kernel_rfl
theorem cal23 : callable Try.prog 23 = true := by kernel_rfl
theorem cal24 : callable Try.prog 24 = true := by kernel_rfl
theorem cal25 : callable Try.prog 25 = true := by kernel_rfl
theorem cal26 : callable Try.prog 26 = true := by kernel_rfl
theorem cal27 : callable Try.prog 27 = true := by kernel_rfl
theorem cal3 : callable Try.prog 3 = true := by kernel_rfl
theorem cal4 : callable Try.prog 4 = true := by kernel_rfl
theorem cal5 : callable Try.prog 5 = true := by kernel_rfl
theorem cal53 : callable Try.prog 53 = true := by kernel_rfl
theorem cal6 : callable Try.prog 6 = true := by kernel_rfl
theorem cal7 : callable Try.prog 7 = true := by kernel_rfl
theorem cal8 : callable Try.prog 8 = true := by kernel_rfl
theorem ft_41_0 : fieldT Try.prog 41 0 = some 0 := by kernel_rfl
theorem ft_41_1 : fieldT Try.prog 41 1 = some 1 := by kernel_rfl
theorem ft_41_2 : fieldT Try.prog 41 2 = some 2 := by kernel_rfl
theorem ft_45_0 : fieldT Try.prog 45 0 = some 0 := by kernel_rfl
theorem ft_45_1 : fieldT Try.prog 45 1 = some 1 := by kernel_rfl
theorem ft_45_2 : fieldT Try.prog 45 2 = some 2 := by kernel_rfl
theorem ft_45_3 : fieldT Try.prog 45 3 = some 3 := by kernel_rfl
theorem ft_99_0 : fieldT Try.prog 99 0 = some 0 := by kernel_rfl
theorem ft_99_1 : fieldT Try.prog 99 1 = some 1 := by kernel_rfl
theorem ft_99_2 : fieldT Try.prog 99 2 = some 2 := by kernel_rfl
theorem it_3 : intT Try.prog 3 = some .i64 := by kernel_rfl
theorem it_5 : intT Try.prog 5 = some .u8 := by kernel_rfl
theorem kt_22 : kindT Try.prog 22 = some 1 := by kernel_rfl
theorem kt_24 : kindT Try.prog 24 = some 0 := by kernel_rfl
theorem kt_29 : kindT Try.prog 29 = some 1 := by kernel_rfl
theorem kt_39 : kindT Try.prog 39 = some 1 := by kernel_rfl
theorem lt_29 : loadT Try.prog 29 = some none := by kernel_rfl
theorem lt_3 : loadT Try.prog 3 = some none := by kernel_rfl
theorem lt_41 : loadT Try.prog 41 = some (some 3) := by kernel_rfl
theorem lt_5 : loadT Try.prog 5 = some none := by kernel_rfl
theorem pl_41 : bplT Try.prog 41 = some (.inl [(0, 1), (1, 1), (2, 1)]) := by kernel_rfl
theorem pl_99 : bplT Try.prog 99 = some (.inl [(0, 1), (1, 1), (2, 1)]) := by kernel_rfl
theorem sl_29 : slT Try.prog 29 = some ⟨5, [.int .u8 0], 1, 1⟩ := by kernel_rfl
theorem ss_22 : slSz Try.prog 22 = some 1 := by kernel_rfl
theorem ss_29 : slSz Try.prog 29 = some 1 := by kernel_rfl
theorem ss_39 : slSz Try.prog 39 = some 4 := by kernel_rfl
theorem st_9 : strT Try.prog 9 = true := by kernel_rfl
theorem zc_41 : zeroC Try.prog 41 = some [.int .i64 0, .snil, .snil] := by kernel_rfl
theorem zc_99 : zeroC Try.prog 99 = some [.int .i64 0, .snil, .int .i64 0] := by kernel_rfl
theorem zt_29 : sizeT Try.prog 29 = some 1 := by kernel_rfl
theorem zt_3 : sizeT Try.prog 3 = some 1 := by kernel_rfl
theorem zt_41 : sizeT Try.prog 41 = some 3 := by kernel_rfl
theorem zt_5 : sizeT Try.prog 5 = some 1 := by kernel_rfl
end Go.Proofs.Ytohiphnmebklfaa.Pk
