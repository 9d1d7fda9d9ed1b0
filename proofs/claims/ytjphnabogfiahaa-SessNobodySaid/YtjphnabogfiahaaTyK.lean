/-
  What functions of the program do, told of abstract states. Conditions: as each theorem says.
-/
import Derived.Test.YtjphnabogfiahaaAbD
import Derived.Test.YtjphnabogfiahaaAbD
import Derived.Test.YtjphnabogfiahaaAbD
import Derived.Test.YtjphnabogfiahaaAbD
import Derived.Test.YtjphnabogfiahaaProg
namespace Go.Proofs.Ytjphnabogfiahaa.Pk
open Go Go.Proofs Go.Proofs.Ytjphnabogfiahaa.Ab

theorem as_22 : arSz Try.prog 22 = none := by kernel_rfl
theorem as_28 : arSz Try.prog 28 = none := by kernel_rfl
theorem as_40 : arSz Try.prog 40 = none := by kernel_rfl
theorem as_47 : arSz Try.prog 47 = none := by kernel_rfl
theorem as_70 : arSz Try.prog 70 = none := by kernel_rfl
theorem bt_4 : boolT Try.prog 4 = true := by kernel_rfl
theorem cal10 : callable Try.prog 10 = true := by kernel_rfl
theorem cal11 : callable Try.prog 11 = true := by kernel_rfl
theorem cal12 : callable Try.prog 12 = true := by kernel_rfl
theorem cal13 : callable Try.prog 13 = true := by kernel_rfl
theorem cal14 : callable Try.prog 14 = true := by kernel_rfl
theorem cal15 : callable Try.prog 15 = true := by kernel_rfl
theorem cal16 : callable Try.prog 16 = true := by kernel_rfl
theorem cal17 : callable Try.prog 17 = true := by kernel_rfl
theorem cal18 : callable Try.prog 18 = true := by kernel_rfl
theorem cal19 : callable Try.prog 19 = true := by kernel_rfl
theorem cal20 : callable Try.prog 20 = true := by kernel_rfl
theorem cal21 : callable Try.prog 21 = true := by kernel_rfl
theorem cal22 : callable Try.prog 22 = true := by kernel_rfl
theorem cal23 : callable Try.prog 23 = true := by kernel_rfl
theorem cal24 : callable Try.prog 24 = true := by kernel_rfl
theorem cal25 : callable Try.prog 25 = true := by kernel_rfl
theorem cal26 : callable Try.prog 26 = true := by kernel_rfl
theorem cal27 : callable Try.prog 27 = true := by kernel_rfl
theorem cal28 : callable Try.prog 28 = true := by kernel_rfl
theorem cal29 : callable Try.prog 29 = true := by kernel_rfl
theorem cal3 : callable Try.prog 3 = true := by kernel_rfl
theorem cal31 : callable Try.prog 31 = true := by kernel_rfl
theorem cal32 : callable Try.prog 32 = true := by kernel_rfl
theorem cal33 : callable Try.prog 33 = true := by kernel_rfl
theorem cal35 : callable Try.prog 35 = true := by kernel_rfl
theorem cal4 : callable Try.prog 4 = true := by kernel_rfl
theorem cal5 : callable Try.prog 5 = true := by kernel_rfl
theorem cal6 : callable Try.prog 6 = true := by kernel_rfl
theorem cal7 : callable Try.prog 7 = true := by kernel_rfl
theorem cal8 : callable Try.prog 8 = true := by kernel_rfl
theorem cal9 : callable Try.prog 9 = true := by kernel_rfl
theorem fl_60 : floatT Try.prog 60 = some .f64 := by kernel_rfl
theorem ft_30_0 : fieldT Try.prog 30 0 = some 0 := by kernel_rfl
theorem ft_30_1 : fieldT Try.prog 30 1 = some 1 := by kernel_rfl
theorem ft_30_2 : fieldT Try.prog 30 2 = some 2 := by kernel_rfl
theorem ft_30_3 : fieldT Try.prog 30 3 = some 3 := by kernel_rfl
theorem ft_30_4 : fieldT Try.prog 30 4 = some 4 := by kernel_rfl
theorem ft_32_0 : fieldT Try.prog 32 0 = some 0 := by kernel_rfl
theorem ft_32_1 : fieldT Try.prog 32 1 = some 1 := by kernel_rfl
theorem ft_32_2 : fieldT Try.prog 32 2 = some 2 := by kernel_rfl
theorem ft_32_3 : fieldT Try.prog 32 3 = some 3 := by kernel_rfl
theorem ft_49_0 : fieldT Try.prog 49 0 = some 0 := by kernel_rfl
theorem ft_49_1 : fieldT Try.prog 49 1 = some 1 := by kernel_rfl
theorem ft_49_2 : fieldT Try.prog 49 2 = some 2 := by kernel_rfl
theorem ft_52_0 : fieldT Try.prog 52 0 = some 0 := by kernel_rfl
theorem ft_52_1 : fieldT Try.prog 52 1 = some 1 := by kernel_rfl
theorem ft_52_2 : fieldT Try.prog 52 2 = some 2 := by kernel_rfl
theorem it_2 : intT Try.prog 2 = some .i64 := by kernel_rfl
theorem it_3 : intT Try.prog 3 = some .i64 := by kernel_rfl
theorem it_41 : intT Try.prog 41 = some .u16 := by kernel_rfl
theorem it_5 : intT Try.prog 5 = some .u8 := by kernel_rfl
theorem it_67 : intT Try.prog 67 = some .u64 := by kernel_rfl
theorem kt_22 : kindT Try.prog 22 = some 1 := by kernel_rfl
theorem kt_24 : kindT Try.prog 24 = some 0 := by kernel_rfl
theorem kt_28 : kindT Try.prog 28 = some 1 := by kernel_rfl
theorem kt_40 : kindT Try.prog 40 = some 1 := by kernel_rfl
theorem kt_47 : kindT Try.prog 47 = some 1 := by kernel_rfl
theorem kt_70 : kindT Try.prog 70 = some 1 := by kernel_rfl
theorem lt_2 : loadT Try.prog 2 = some none := by kernel_rfl
theorem lt_3 : loadT Try.prog 3 = some none := by kernel_rfl
theorem lt_30 : loadT Try.prog 30 = some (some 5) := by kernel_rfl
theorem lt_4 : loadT Try.prog 4 = some none := by kernel_rfl
theorem lt_41 : loadT Try.prog 41 = some none := by kernel_rfl
theorem lt_47 : loadT Try.prog 47 = some none := by kernel_rfl
theorem lt_50 : loadT Try.prog 50 = some none := by kernel_rfl
theorem lt_52 : loadT Try.prog 52 = some (some 3) := by kernel_rfl
theorem ncal30 : callable Try.prog 30 = false := by kernel_rfl
theorem pl_30 : bplT Try.prog 30 = some (.inl [(0, 1), (1, 1), (2, 1), (3, 1), (4, 1)]) := by kernel_rfl
theorem pl_49 : bplT Try.prog 49 = some (.inl [(0, 1), (1, 1), (2, 1)]) := by kernel_rfl
theorem pl_52 : bplT Try.prog 52 = some (.inl [(0, 1), (1, 1), (2, 1)]) := by kernel_rfl
theorem sk_30 : structK Try.prog 30 = some [0, 0, 0, 0, 1] := by kernel_rfl
theorem sl_28 : slT Try.prog 28 = some ⟨30, [.int .i64 0, .int .i64 0, .int .i64 0, .int .i64 0, .bool false], 5, 40⟩ := by kernel_rfl
theorem sl_40 : slT Try.prog 40 = some ⟨41, [.int .u16 0], 1, 2⟩ := by kernel_rfl
theorem sl_47 : slT Try.prog 47 = some ⟨52, [.int .i64 0, .complex .f64 0 0, .int .i64 0], 3, 32⟩ := by kernel_rfl
theorem sl_70 : slT Try.prog 70 = some ⟨3, [.int .i64 0], 1, 8⟩ := by kernel_rfl
theorem ss_22 : slSz Try.prog 22 = some 9 := by kernel_rfl
theorem ss_28 : slSz Try.prog 28 = some 5 := by kernel_rfl
theorem ss_40 : slSz Try.prog 40 = some 1 := by kernel_rfl
theorem ss_47 : slSz Try.prog 47 = some 3 := by kernel_rfl
theorem ss_70 : slSz Try.prog 70 = some 1 := by kernel_rfl
theorem zc_30 : zeroC Try.prog 30 = some [.int .i64 0, .int .i64 0, .int .i64 0, .int .i64 0, .bool false] := by kernel_rfl
theorem zc_49 : zeroC Try.prog 49 = some [.int .i64 0, .int .i64 0, .snil] := by kernel_rfl
theorem zc_52 : zeroC Try.prog 52 = some [.int .i64 0, .complex .f64 0 0, .int .i64 0] := by kernel_rfl
theorem zt_30 : sizeT Try.prog 30 = some 5 := by kernel_rfl
theorem zt_47 : sizeT Try.prog 47 = some 1 := by kernel_rfl
theorem zt_52 : sizeT Try.prog 52 = some 3 := by kernel_rfl
end Go.Proofs.Ytjphnabogfiahaa.Pk
