/-
  What functions of the program do, told of abstract states. Conditions: as each theorem says.
-/
import Derived.Test.YtohiphnmebklfaaAbC
import Derived.Test.YtohiphnmebklfaaAbC
import Derived.Test.YtohiphnmebklfaaProg
namespace Go.Proofs.Ytohiphnmebklfaa.Pk
open Go Go.Proofs Go.Proofs.Ytohiphnmebklfaa.Ab

theorem as_72 : arSz Try.prog 72 = none := by kernel_rfl
theorem as_77 : arSz Try.prog 77 = none := by kernel_rfl
theorem as_81 : arSz Try.prog 81 = none := by kernel_rfl
theorem bt_4 : boolT Try.prog 4 = true := by kernel_rfl
theorem cal12 : callable Try.prog 12 = true := by kernel_rfl
theorem cal40 : callable Try.prog 40 = true := by kernel_rfl
theorem cal43 : callable Try.prog 43 = true := by kernel_rfl
theorem cal44 : callable Try.prog 44 = true := by kernel_rfl
theorem cal45 : callable Try.prog 45 = true := by kernel_rfl
theorem cal46 : callable Try.prog 46 = true := by kernel_rfl
theorem cal47 : callable Try.prog 47 = true := by kernel_rfl
theorem cal48 : callable Try.prog 48 = true := by kernel_rfl
theorem cal49 : callable Try.prog 49 = true := by kernel_rfl
theorem cal50 : callable Try.prog 50 = true := by kernel_rfl
theorem cal51 : callable Try.prog 51 = true := by kernel_rfl
theorem cal52 : callable Try.prog 52 = true := by kernel_rfl
theorem cal62 : callable Try.prog 62 = true := by kernel_rfl
theorem ft_112_0 : fieldT Try.prog 112 0 = some 0 := by kernel_rfl
theorem ft_83_0 : fieldT Try.prog 83 0 = some 0 := by kernel_rfl
theorem ft_83_1 : fieldT Try.prog 83 1 = some 1 := by kernel_rfl
theorem ft_89_0 : fieldT Try.prog 89 0 = some 0 := by kernel_rfl
theorem ft_89_1 : fieldT Try.prog 89 1 = some 1 := by kernel_rfl
theorem kt_110 : kindT Try.prog 110 = some 2 := by kernel_rfl
theorem kt_72 : kindT Try.prog 72 = some 1 := by kernel_rfl
theorem kt_77 : kindT Try.prog 77 = some 1 := by kernel_rfl
theorem kt_78 : kindT Try.prog 78 = some 0 := by kernel_rfl
theorem kt_81 : kindT Try.prog 81 = some 1 := by kernel_rfl
theorem lt_110 : loadT Try.prog 110 = some none := by kernel_rfl
theorem lt_2 : loadT Try.prog 2 = some none := by kernel_rfl
theorem lt_3 : loadT Try.prog 3 = some none := by kernel_rfl
theorem lt_72 : loadT Try.prog 72 = some none := by kernel_rfl
theorem lt_81 : loadT Try.prog 81 = some none := by kernel_rfl
theorem lt_83 : loadT Try.prog 83 = some (some 2) := by kernel_rfl
theorem mt_110 : mapT Try.prog 110 = some (3, 2, .int .i64) := by kernel_rfl
theorem pl_112 : bplT Try.prog 112 = some (.inl [(0, 1)]) := by kernel_rfl
theorem pl_83 : bplT Try.prog 83 = some (.inl [(0, 1), (1, 1)]) := by kernel_rfl
theorem sl_72 : slT Try.prog 72 = some ⟨3, [.int .i64 0], 1, 8⟩ := by kernel_rfl
theorem sl_81 : slT Try.prog 81 = some ⟨2, [.int .i64 0], 1, 8⟩ := by kernel_rfl
theorem ss_72 : slSz Try.prog 72 = some 1 := by kernel_rfl
theorem ss_77 : slSz Try.prog 77 = some 2 := by kernel_rfl
theorem ss_81 : slSz Try.prog 81 = some 1 := by kernel_rfl
theorem z0_2 : zeroT Try.prog 2 = some (.int .i64 0) := by kernel_rfl
theorem zc_112 : zeroC Try.prog 112 = some [.mnil] := by kernel_rfl
theorem zc_83 : zeroC Try.prog 83 = some [.snil, .snil] := by kernel_rfl
theorem zt_2 : sizeT Try.prog 2 = some 1 := by kernel_rfl
theorem zt_81 : sizeT Try.prog 81 = some 1 := by kernel_rfl
theorem zt_83 : sizeT Try.prog 83 = some 2 := by kernel_rfl
end Go.Proofs.Ytohiphnmebklfaa.Pk
