/-
  What functions of the program do, told of abstract states. Conditions: as each theorem says.
-/
import Derived.Test.YtihgdbelfjdajaaAbD
import Derived.Test.YtihgdbelfjdajaaAbD
import Derived.Test.YtihgdbelfjdajaaAbD
import Derived.Test.YtihgdbelfjdajaaProg
namespace Go.Proofs.Ytihgdbelfjdajaa.Pk
open Go Go.Proofs Go.Proofs.Ytihgdbelfjdajaa.Ab

theorem as_23 : arSz Try.prog 23 = none := by kernel_rfl
theorem as_33 : arSz Try.prog 33 = none := by kernel_rfl
theorem cal10 : callable Try.prog 10 = true := by kernel_rfl
theorem cal11 : callable Try.prog 11 = true := by kernel_rfl
theorem cal12 : callable Try.prog 12 = true := by kernel_rfl
theorem cal13 : callable Try.prog 13 = true := by kernel_rfl
theorem cal14 : callable Try.prog 14 = true := by kernel_rfl
theorem cal15 : callable Try.prog 15 = true := by kernel_rfl
theorem cal16 : callable Try.prog 16 = true := by kernel_rfl
theorem cal17 : callable Try.prog 17 = true := by kernel_rfl
theorem cal18 : callable Try.prog 18 = true := by kernel_rfl
theorem cal19 : callable Try.prog 19 = true := by kernel_rfl
theorem cal20 : callable Try.prog 20 = true := by kernel_rfl
theorem cal21 : callable Try.prog 21 = true := by kernel_rfl
theorem cal22 : callable Try.prog 22 = true := by kernel_rfl
theorem cal23 : callable Try.prog 23 = true := by kernel_rfl
theorem cal24 : callable Try.prog 24 = true := by kernel_rfl
theorem cal25 : callable Try.prog 25 = true := by kernel_rfl
theorem cal26 : callable Try.prog 26 = true := by kernel_rfl
theorem cal27 : callable Try.prog 27 = true := by kernel_rfl
theorem cal28 : callable Try.prog 28 = true := by kernel_rfl
theorem cal29 : callable Try.prog 29 = true := by kernel_rfl
theorem cal3 : callable Try.prog 3 = true := by kernel_rfl
theorem cal30 : callable Try.prog 30 = true := by kernel_rfl
theorem cal31 : callable Try.prog 31 = true := by kernel_rfl
theorem cal32 : callable Try.prog 32 = true := by kernel_rfl
theorem cal33 : callable Try.prog 33 = true := by kernel_rfl
theorem cal34 : callable Try.prog 34 = true := by kernel_rfl
theorem cal35 : callable Try.prog 35 = true := by kernel_rfl
theorem cal4 : callable Try.prog 4 = true := by kernel_rfl
theorem cal5 : callable Try.prog 5 = true := by kernel_rfl
theorem cal6 : callable Try.prog 6 = true := by kernel_rfl
theorem cal7 : callable Try.prog 7 = true := by kernel_rfl
theorem cal8 : callable Try.prog 8 = true := by kernel_rfl
theorem cal9 : callable Try.prog 9 = true := by kernel_rfl
theorem ft_30_0 : fieldT Try.prog 30 0 = some 0 := by kernel_rfl
theorem ft_30_1 : fieldT Try.prog 30 1 = some 1 := by kernel_rfl
theorem ft_30_2 : fieldT Try.prog 30 2 = some 2 := by kernel_rfl
theorem ft_30_3 : fieldT Try.prog 30 3 = some 3 := by kernel_rfl
theorem ft_30_4 : fieldT Try.prog 30 4 = some 4 := by kernel_rfl
theorem ft_32_0 : fieldT Try.prog 32 0 = some 0 := by kernel_rfl
theorem ft_32_1 : fieldT Try.prog 32 1 = some 1 := by kernel_rfl
theorem ft_32_2 : fieldT Try.prog 32 2 = some 2 := by kernel_rfl
theorem ft_32_3 : fieldT Try.prog 32 3 = some 3 := by kernel_rfl
theorem ft_49_0 : fieldT Try.prog 49 0 = some 0 := by kernel_rfl
theorem ft_49_1 : fieldT Try.prog 49 1 = some 1 := by kernel_rfl
theorem ft_49_2 : fieldT Try.prog 49 2 = some 2 := by kernel_rfl
theorem ft_51_0 : fieldT Try.prog 51 0 = some 0 := by kernel_rfl
theorem ft_51_1 : fieldT Try.prog 51 1 = some 1 := by kernel_rfl
theorem it_2 : intT Try.prog 2 = some .i64 := by kernel_rfl
theorem it_22 : intT Try.prog 22 = some .u16 := by kernel_rfl
theorem it_3 : intT Try.prog 3 = some .i64 := by kernel_rfl
theorem it_5 : intT Try.prog 5 = some .u8 := by kernel_rfl
theorem it_58 : intT Try.prog 58 = some .u64 := by kernel_rfl
theorem it_70 : intT Try.prog 70 = some .u32 := by kernel_rfl
theorem it_72 : intT Try.prog 72 = some .u64 := by kernel_rfl
theorem kt_23 : kindT Try.prog 23 = some 1 := by kernel_rfl
theorem kt_25 : kindT Try.prog 25 = some 0 := by kernel_rfl
theorem kt_33 : kindT Try.prog 33 = some 1 := by kernel_rfl
theorem kt_47 : kindT Try.prog 47 = some 2 := by kernel_rfl
theorem lt_2 : loadT Try.prog 2 = some none := by kernel_rfl
theorem lt_3 : loadT Try.prog 3 = some none := by kernel_rfl
theorem lt_30 : loadT Try.prog 30 = some (some 5) := by kernel_rfl
theorem lt_4 : loadT Try.prog 4 = some none := by kernel_rfl
theorem lt_47 : loadT Try.prog 47 = some none := by kernel_rfl
theorem lt_51 : loadT Try.prog 51 = some (some 2) := by kernel_rfl
theorem pl_30 : bplT Try.prog 30 = some (.inl [(0, 1), (1, 1), (2, 1), (3, 1), (4, 1)]) := by kernel_rfl
theorem pl_49 : bplT Try.prog 49 = some (.inl [(0, 1), (1, 1), (2, 1)]) := by kernel_rfl
theorem pl_51 : bplT Try.prog 51 = some (.inl [(0, 1), (1, 1)]) := by kernel_rfl
theorem sk_30 : structK Try.prog 30 = some [0, 0, 0, 0, 1] := by kernel_rfl
theorem sl_33 : slT Try.prog 33 = some ⟨30, [.int .i64 0, .int .i64 0, .int .i64 0, .int .i64 0, .bool false], 5, 40⟩ := by kernel_rfl
theorem sl_73 : slT Try.prog 73 = some ⟨3, [.int .i64 0], 1, 8⟩ := by kernel_rfl
theorem ss_23 : slSz Try.prog 23 = some 9 := by kernel_rfl
theorem ss_33 : slSz Try.prog 33 = some 5 := by kernel_rfl
theorem z0_2 : zeroT Try.prog 2 = some (.int .i64 0) := by kernel_rfl
theorem zc_30 : zeroC Try.prog 30 = some [.int .i64 0, .int .i64 0, .int .i64 0, .int .i64 0, .bool false] := by kernel_rfl
theorem zc_49 : zeroC Try.prog 49 = some [.int .i64 0, .int .i64 0, .mnil] := by kernel_rfl
theorem zc_51 : zeroC Try.prog 51 = some [.int .i64 0, .int .i64 0] := by kernel_rfl
theorem zt_30 : sizeT Try.prog 30 = some 5 := by kernel_rfl
theorem zt_51 : sizeT Try.prog 51 = some 2 := by kernel_rfl
end Go.Proofs.Ytihgdbelfjdajaa.Pk
