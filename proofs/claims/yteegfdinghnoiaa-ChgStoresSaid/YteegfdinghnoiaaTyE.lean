/-
  What functions of the program do, told of abstract states. Conditions: as each theorem says.
-/
import Derived.Test.YteegfdinghnoiaaAbD
import Derived.Test.YteegfdinghnoiaaAbD
import Derived.Test.YteegfdinghnoiaaAbD
import Derived.Test.YteegfdinghnoiaaAbD
import Derived.Test.YteegfdinghnoiaaProg
namespace Go.Proofs.Yteegfdinghnoiaa.Pk
open Go Go.Proofs Go.Proofs.Yteegfdinghnoiaa.Ab

theorem as_34 : arSz Try.prog 34 = none := by kernel_rfl
theorem cal10 : callable Try.prog 10 = true := by kernel_rfl
theorem cal11 : callable Try.prog 11 = true := by kernel_rfl
theorem cal12 : callable Try.prog 12 = true := by kernel_rfl
theorem cal13 : callable Try.prog 13 = true := by kernel_rfl
theorem cal14 : callable Try.prog 14 = true := by kernel_rfl
theorem cal15 : callable Try.prog 15 = true := by kernel_rfl
theorem cal16 : callable Try.prog 16 = true := by kernel_rfl
theorem cal17 : callable Try.prog 17 = true := by kernel_rfl
theorem cal18 : callable Try.prog 18 = true := by kernel_rfl
theorem cal19 : callable Try.prog 19 = true := by kernel_rfl
theorem cal20 : callable Try.prog 20 = true := by kernel_rfl
theorem cal21 : callable Try.prog 21 = true := by kernel_rfl
theorem cal22 : callable Try.prog 22 = true := by kernel_rfl
theorem cal23 : callable Try.prog 23 = true := by kernel_rfl
theorem cal24 : callable Try.prog 24 = true := by kernel_rfl
theorem cal27 : callable Try.prog 27 = true := by kernel_rfl
theorem cal28 : callable Try.prog 28 = true := by kernel_rfl
theorem cal29 : callable Try.prog 29 = true := by kernel_rfl
theorem cal30 : callable Try.prog 30 = true := by kernel_rfl
theorem cal31 : callable Try.prog 31 = true := by kernel_rfl
theorem cal32 : callable Try.prog 32 = true := by kernel_rfl
theorem cal33 : callable Try.prog 33 = true := by kernel_rfl
theorem cal34 : callable Try.prog 34 = true := by kernel_rfl
theorem cal35 : callable Try.prog 35 = true := by kernel_rfl
theorem cal36 : callable Try.prog 36 = true := by kernel_rfl
theorem cal37 : callable Try.prog 37 = true := by kernel_rfl
theorem cal38 : callable Try.prog 38 = true := by kernel_rfl
theorem cal39 : callable Try.prog 39 = true := by kernel_rfl
theorem cal4 : callable Try.prog 4 = true := by kernel_rfl
theorem cal40 : callable Try.prog 40 = true := by kernel_rfl
theorem cal41 : callable Try.prog 41 = true := by kernel_rfl
theorem cal42 : callable Try.prog 42 = true := by kernel_rfl
theorem cal45 : callable Try.prog 45 = true := by kernel_rfl
theorem cal46 : callable Try.prog 46 = true := by kernel_rfl
theorem cal47 : callable Try.prog 47 = true := by kernel_rfl
theorem cal48 : callable Try.prog 48 = true := by kernel_rfl
theorem cal49 : callable Try.prog 49 = true := by kernel_rfl
theorem cal5 : callable Try.prog 5 = true := by kernel_rfl
theorem cal54 : callable Try.prog 54 = true := by kernel_rfl
theorem cal55 : callable Try.prog 55 = true := by kernel_rfl
theorem cal56 : callable Try.prog 56 = true := by kernel_rfl
theorem cal6 : callable Try.prog 6 = true := by kernel_rfl
theorem cal61 : callable Try.prog 61 = true := by kernel_rfl
theorem cal69 : callable Try.prog 69 = true := by kernel_rfl
theorem cal7 : callable Try.prog 7 = true := by kernel_rfl
theorem cal70 : callable Try.prog 70 = true := by kernel_rfl
theorem cal71 : callable Try.prog 71 = true := by kernel_rfl
theorem cal8 : callable Try.prog 8 = true := by kernel_rfl
theorem cal9 : callable Try.prog 9 = true := by kernel_rfl
theorem fl_99 : floatT Try.prog 99 = some .f64 := by kernel_rfl
theorem ft_36_0 : fieldT Try.prog 36 0 = some 0 := by kernel_rfl
theorem ft_36_1 : fieldT Try.prog 36 1 = some 1 := by kernel_rfl
theorem ft_36_2 : fieldT Try.prog 36 2 = some 2 := by kernel_rfl
theorem ft_36_3 : fieldT Try.prog 36 3 = some 3 := by kernel_rfl
theorem ft_38_0 : fieldT Try.prog 38 0 = some 0 := by kernel_rfl
theorem ft_38_1 : fieldT Try.prog 38 1 = some 1 := by kernel_rfl
theorem ft_38_2 : fieldT Try.prog 38 2 = some 2 := by kernel_rfl
theorem ft_38_3 : fieldT Try.prog 38 3 = some 3 := by kernel_rfl
theorem ft_38_4 : fieldT Try.prog 38 4 = some 4 := by kernel_rfl
theorem ft_55_0 : fieldT Try.prog 55 0 = some 0 := by kernel_rfl
theorem ft_55_1 : fieldT Try.prog 55 1 = some 1 := by kernel_rfl
theorem ft_55_2 : fieldT Try.prog 55 2 = some 2 := by kernel_rfl
theorem ft_58_0 : fieldT Try.prog 58 0 = some 0 := by kernel_rfl
theorem ft_58_1 : fieldT Try.prog 58 1 = some 1 := by kernel_rfl
theorem ft_61_0 : fieldT Try.prog 61 0 = some 0 := by kernel_rfl
theorem ft_61_1 : fieldT Try.prog 61 1 = some 1 := by kernel_rfl
theorem ft_61_2 : fieldT Try.prog 61 2 = some 2 := by kernel_rfl
theorem ft_64_0 : fieldT Try.prog 64 0 = some 0 := by kernel_rfl
theorem ft_64_1 : fieldT Try.prog 64 1 = some 1 := by kernel_rfl
theorem ft_64_2 : fieldT Try.prog 64 2 = some 2 := by kernel_rfl
theorem ft_69_0 : fieldT Try.prog 69 0 = some 0 := by kernel_rfl
theorem ft_69_1 : fieldT Try.prog 69 1 = some 1 := by kernel_rfl
theorem ft_71_0 : fieldT Try.prog 71 0 = some 0 := by kernel_rfl
theorem ft_71_1 : fieldT Try.prog 71 1 = some 1 := by kernel_rfl
theorem ft_77_0 : fieldT Try.prog 77 0 = some 0 := by kernel_rfl
theorem ft_77_1 : fieldT Try.prog 77 1 = some 1 := by kernel_rfl
theorem ft_77_2 : fieldT Try.prog 77 2 = some 2 := by kernel_rfl
theorem it_116 : intT Try.prog 116 = some .u32 := by kernel_rfl
theorem it_118 : intT Try.prog 118 = some .u64 := by kernel_rfl
theorem it_2 : intT Try.prog 2 = some .i64 := by kernel_rfl
theorem it_3 : intT Try.prog 3 = some .i64 := by kernel_rfl
theorem it_5 : intT Try.prog 5 = some .u8 := by kernel_rfl
theorem it_96 : intT Try.prog 96 = some .u64 := by kernel_rfl
theorem kt_119 : kindT Try.prog 119 = some 1 := by kernel_rfl
theorem kt_22 : kindT Try.prog 22 = some 1 := by kernel_rfl
theorem kt_24 : kindT Try.prog 24 = some 0 := by kernel_rfl
theorem kt_28 : kindT Try.prog 28 = some 0 := by kernel_rfl
theorem kt_31 : kindT Try.prog 31 = some 0 := by kernel_rfl
theorem kt_34 : kindT Try.prog 34 = some 1 := by kernel_rfl
theorem kt_49 : kindT Try.prog 49 = some 1 := by kernel_rfl
theorem kt_50 : kindT Try.prog 50 = some 1 := by kernel_rfl
theorem kt_56 : kindT Try.prog 56 = some 1 := by kernel_rfl
theorem kt_59 : kindT Try.prog 59 = some 2 := by kernel_rfl
theorem kt_62 : kindT Try.prog 62 = some 1 := by kernel_rfl
theorem lt_2 : loadT Try.prog 2 = some none := by kernel_rfl
theorem lt_24 : loadT Try.prog 24 = some none := by kernel_rfl
theorem lt_3 : loadT Try.prog 3 = some none := by kernel_rfl
theorem lt_36 : loadT Try.prog 36 = some (some 4) := by kernel_rfl
theorem lt_38 : loadT Try.prog 38 = some (some 5) := by kernel_rfl
theorem lt_4 : loadT Try.prog 4 = some none := by kernel_rfl
theorem lt_55 : loadT Try.prog 55 = some (some 3) := by kernel_rfl
theorem lt_56 : loadT Try.prog 56 = some none := by kernel_rfl
theorem lt_59 : loadT Try.prog 59 = some none := by kernel_rfl
theorem lt_62 : loadT Try.prog 62 = some none := by kernel_rfl
theorem lt_69 : loadT Try.prog 69 = some (some 2) := by kernel_rfl
theorem lt_71 : loadT Try.prog 71 = some (some 2) := by kernel_rfl
theorem lt_75 : loadT Try.prog 75 = some none := by kernel_rfl
theorem lt_77 : loadT Try.prog 77 = some (some 3) := by kernel_rfl
theorem ncal52 : callable Try.prog 52 = false := by kernel_rfl
theorem ncal75 : callable Try.prog 75 = false := by kernel_rfl
theorem pl_38 : bplT Try.prog 38 = some (.inl [(0, 1), (1, 1), (2, 1), (3, 1), (4, 1)]) := by kernel_rfl
theorem pl_55 : bplT Try.prog 55 = some (.inl [(0, 1), (1, 1), (2, 1)]) := by kernel_rfl
theorem pl_58 : bplT Try.prog 58 = some (.inl [(0, 1), (1, 1)]) := by kernel_rfl
theorem pl_61 : bplT Try.prog 61 = some (.inl [(0, 1), (1, 1), (2, 1)]) := by kernel_rfl
theorem pl_64 : bplT Try.prog 64 = some (.inl [(0, 1), (1, 1), (2, 1)]) := by kernel_rfl
theorem pl_69 : bplT Try.prog 69 = some (.inl [(0, 1), (1, 1)]) := by kernel_rfl
theorem pl_71 : bplT Try.prog 71 = some (.inl [(0, 1), (1, 1)]) := by kernel_rfl
theorem pl_77 : bplT Try.prog 77 = some (.inl [(0, 1), (1, 1), (2, 1)]) := by kernel_rfl
theorem sk_38 : structK Try.prog 38 = some [0, 0, 0, 0, 1] := by kernel_rfl
theorem sk_55 : structK Try.prog 55 = some [0, 0, 0] := by kernel_rfl
theorem sl_119 : slT Try.prog 119 = some ⟨3, [.int .i64 0], 1, 8⟩ := by kernel_rfl
theorem sl_34 : slT Try.prog 34 = some ⟨38, [.int .i64 0, .int .i64 0, .int .i64 0, .int .i64 0, .bool false], 5, 40⟩ := by kernel_rfl
theorem sl_49 : slT Try.prog 49 = some ⟨55, [.int .i64 0, .int .i64 0, .int .i64 0], 3, 24⟩ := by kernel_rfl
theorem sl_50 : slT Try.prog 50 = some ⟨4, [.bool false], 1, 1⟩ := by kernel_rfl
theorem sl_56 : slT Try.prog 56 = some ⟨69, [.int .i64 0, .int .i64 0], 2, 16⟩ := by kernel_rfl
theorem sl_62 : slT Try.prog 62 = some ⟨77, [.int .i64 0, .complex .f64 0 0, .int .i64 0], 3, 32⟩ := by kernel_rfl
theorem ss_119 : slSz Try.prog 119 = some 1 := by kernel_rfl
theorem ss_22 : slSz Try.prog 22 = some 4 := by kernel_rfl
theorem ss_34 : slSz Try.prog 34 = some 5 := by kernel_rfl
theorem ss_49 : slSz Try.prog 49 = some 3 := by kernel_rfl
theorem ss_50 : slSz Try.prog 50 = some 1 := by kernel_rfl
theorem ss_56 : slSz Try.prog 56 = some 2 := by kernel_rfl
theorem ss_62 : slSz Try.prog 62 = some 3 := by kernel_rfl
theorem z0_2 : zeroT Try.prog 2 = some (.int .i64 0) := by kernel_rfl
theorem zc_36 : zeroC Try.prog 36 = some [.bool false, .int .i64 0, .int .i64 0, .int .i64 0] := by kernel_rfl
theorem zc_38 : zeroC Try.prog 38 = some [.int .i64 0, .int .i64 0, .int .i64 0, .int .i64 0, .bool false] := by kernel_rfl
theorem zc_55 : zeroC Try.prog 55 = some [.int .i64 0, .int .i64 0, .int .i64 0] := by kernel_rfl
theorem zc_58 : zeroC Try.prog 58 = some [.int .i64 0, .snil] := by kernel_rfl
theorem zc_61 : zeroC Try.prog 61 = some [.int .i64 0, .int .i64 0, .mnil] := by kernel_rfl
theorem zc_64 : zeroC Try.prog 64 = some [.int .i64 0, .int .i64 0, .snil] := by kernel_rfl
theorem zc_69 : zeroC Try.prog 69 = some [.int .i64 0, .int .i64 0] := by kernel_rfl
theorem zc_71 : zeroC Try.prog 71 = some [.int .i64 0, .int .i64 0] := by kernel_rfl
theorem zc_77 : zeroC Try.prog 77 = some [.int .i64 0, .complex .f64 0 0, .int .i64 0] := by kernel_rfl
theorem zt_36 : sizeT Try.prog 36 = some 4 := by kernel_rfl
theorem zt_38 : sizeT Try.prog 38 = some 5 := by kernel_rfl
theorem zt_55 : sizeT Try.prog 55 = some 3 := by kernel_rfl
theorem zt_56 : sizeT Try.prog 56 = some 1 := by kernel_rfl
theorem zt_62 : sizeT Try.prog 62 = some 1 := by kernel_rfl
theorem zt_69 : sizeT Try.prog 69 = some 2 := by kernel_rfl
theorem zt_71 : sizeT Try.prog 71 = some 2 := by kernel_rfl
theorem zt_77 : sizeT Try.prog 77 = some 3 := by kernel_rfl
end Go.Proofs.Yteegfdinghnoiaa.Pk


