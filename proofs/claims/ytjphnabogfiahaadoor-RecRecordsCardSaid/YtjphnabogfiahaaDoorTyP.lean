/-
  What functions of the program do, told of abstract states. Conditions: as each theorem says.
-/
import Derived.Test.YtjphnabogfiahaaDoorAbD
import Derived.Test.YtjphnabogfiahaaDoorAbD
import Derived.Test.YtjphnabogfiahaaDoorAbD
import Derived.Test.YtjphnabogfiahaaDoorProg
namespace Go.Proofs.YtjphnabogfiahaaDoor.Pk
open Go Go.Proofs Go.Proofs.YtjphnabogfiahaaDoor.Ab

theorem as_24 : arSz Tryd.prog 24 = none := by kernel_rfl
theorem as_33 : arSz Tryd.prog 33 = none := by kernel_rfl
theorem as_50 : arSz Tryd.prog 50 = some (3, 1) := by kernel_rfl
theorem as_61 : arSz Tryd.prog 61 = some (5, 1) := by kernel_rfl
theorem as_76 : arSz Tryd.prog 76 = some (7, 1) := by kernel_rfl
theorem as_82 : arSz Tryd.prog 82 = some (3, 1) := by kernel_rfl
theorem bt_4 : boolT Tryd.prog 4 = true := by kernel_rfl
theorem cal10 : callable Tryd.prog 10 = true := by kernel_rfl
theorem cal11 : callable Tryd.prog 11 = true := by kernel_rfl
theorem cal12 : callable Tryd.prog 12 = true := by kernel_rfl
theorem cal13 : callable Tryd.prog 13 = true := by kernel_rfl
theorem cal14 : callable Tryd.prog 14 = true := by kernel_rfl
theorem cal15 : callable Tryd.prog 15 = true := by kernel_rfl
theorem cal16 : callable Tryd.prog 16 = true := by kernel_rfl
theorem cal17 : callable Tryd.prog 17 = true := by kernel_rfl
theorem cal18 : callable Tryd.prog 18 = true := by kernel_rfl
theorem cal19 : callable Tryd.prog 19 = true := by kernel_rfl
theorem cal20 : callable Tryd.prog 20 = true := by kernel_rfl
theorem cal21 : callable Tryd.prog 21 = true := by kernel_rfl
theorem cal22 : callable Tryd.prog 22 = true := by kernel_rfl
theorem cal23 : callable Tryd.prog 23 = true := by kernel_rfl
theorem cal24 : callable Tryd.prog 24 = true := by kernel_rfl
theorem cal25 : callable Tryd.prog 25 = true := by kernel_rfl
theorem cal26 : callable Tryd.prog 26 = true := by kernel_rfl
theorem cal27 : callable Tryd.prog 27 = true := by kernel_rfl
theorem cal28 : callable Tryd.prog 28 = true := by kernel_rfl
theorem cal29 : callable Tryd.prog 29 = true := by kernel_rfl
theorem cal3 : callable Tryd.prog 3 = true := by kernel_rfl
theorem cal30 : callable Tryd.prog 30 = true := by kernel_rfl
theorem cal31 : callable Tryd.prog 31 = true := by kernel_rfl
theorem cal32 : callable Tryd.prog 32 = true := by kernel_rfl
theorem cal33 : callable Tryd.prog 33 = true := by kernel_rfl
theorem cal34 : callable Tryd.prog 34 = true := by kernel_rfl
theorem cal35 : callable Tryd.prog 35 = true := by kernel_rfl
theorem cal36 : callable Tryd.prog 36 = true := by kernel_rfl
theorem cal37 : callable Tryd.prog 37 = true := by kernel_rfl
theorem cal38 : callable Tryd.prog 38 = true := by kernel_rfl
theorem cal39 : callable Tryd.prog 39 = true := by kernel_rfl
theorem cal4 : callable Tryd.prog 4 = true := by kernel_rfl
theorem cal40 : callable Tryd.prog 40 = true := by kernel_rfl
theorem cal41 : callable Tryd.prog 41 = true := by kernel_rfl
theorem cal42 : callable Tryd.prog 42 = true := by kernel_rfl
theorem cal43 : callable Tryd.prog 43 = true := by kernel_rfl
theorem cal44 : callable Tryd.prog 44 = true := by kernel_rfl
theorem cal45 : callable Tryd.prog 45 = true := by kernel_rfl
theorem cal46 : callable Tryd.prog 46 = true := by kernel_rfl
theorem cal47 : callable Tryd.prog 47 = true := by kernel_rfl
theorem cal48 : callable Tryd.prog 48 = true := by kernel_rfl
theorem cal49 : callable Tryd.prog 49 = true := by kernel_rfl
theorem cal5 : callable Tryd.prog 5 = true := by kernel_rfl
theorem cal50 : callable Tryd.prog 50 = true := by kernel_rfl
theorem cal51 : callable Tryd.prog 51 = true := by kernel_rfl
theorem cal52 : callable Tryd.prog 52 = true := by kernel_rfl
theorem cal6 : callable Tryd.prog 6 = true := by kernel_rfl
theorem cal7 : callable Tryd.prog 7 = true := by kernel_rfl
theorem cal8 : callable Tryd.prog 8 = true := by kernel_rfl
theorem cal9 : callable Tryd.prog 9 = true := by kernel_rfl
theorem ft_23_0 : fieldT Tryd.prog 23 0 = some 0 := by kernel_rfl
theorem ft_23_1 : fieldT Tryd.prog 23 1 = some 1 := by kernel_rfl
theorem ft_23_2 : fieldT Tryd.prog 23 2 = some 2 := by kernel_rfl
theorem ft_35_0 : fieldT Tryd.prog 35 0 = some 0 := by kernel_rfl
theorem ft_35_1 : fieldT Tryd.prog 35 1 = some 1 := by kernel_rfl
theorem ft_35_2 : fieldT Tryd.prog 35 2 = some 2 := by kernel_rfl
theorem ft_35_3 : fieldT Tryd.prog 35 3 = some 3 := by kernel_rfl
theorem ft_35_4 : fieldT Tryd.prog 35 4 = some 4 := by kernel_rfl
theorem ft_35_5 : fieldT Tryd.prog 35 5 = some 5 := by kernel_rfl
theorem ft_35_6 : fieldT Tryd.prog 35 6 = some 8 := by kernel_rfl
theorem ft_35_7 : fieldT Tryd.prog 35 7 = some 9 := by kernel_rfl
theorem ft_35_8 : fieldT Tryd.prog 35 8 = some 10 := by kernel_rfl
theorem ft_69_0 : fieldT Tryd.prog 69 0 = some 0 := by kernel_rfl
theorem ft_69_1 : fieldT Tryd.prog 69 1 = some 1 := by kernel_rfl
theorem ft_69_2 : fieldT Tryd.prog 69 2 = some 2 := by kernel_rfl
theorem ft_81_0 : fieldT Tryd.prog 81 0 = some 0 := by kernel_rfl
theorem ft_92_0 : fieldT Tryd.prog 92 0 = some 0 := by kernel_rfl
theorem ft_92_1 : fieldT Tryd.prog 92 1 = some 1 := by kernel_rfl
theorem it_2 : intT Tryd.prog 2 = some .i64 := by kernel_rfl
theorem it_3 : intT Tryd.prog 3 = some .i64 := by kernel_rfl
theorem it_49 : intT Tryd.prog 49 = some .u16 := by kernel_rfl
theorem it_5 : intT Tryd.prog 5 = some .u8 := by kernel_rfl
theorem it_63 : intT Tryd.prog 63 = some .u64 := by kernel_rfl
theorem kt_24 : kindT Tryd.prog 24 = some 1 := by kernel_rfl
theorem kt_33 : kindT Tryd.prog 33 = some 1 := by kernel_rfl
theorem kt_52 : kindT Tryd.prog 52 = some 0 := by kernel_rfl
theorem lt_2 : loadT Tryd.prog 2 = some none := by kernel_rfl
theorem lt_23 : loadT Tryd.prog 23 = some (some 3) := by kernel_rfl
theorem lt_24 : loadT Tryd.prog 24 = some none := by kernel_rfl
theorem lt_3 : loadT Tryd.prog 3 = some none := by kernel_rfl
theorem lt_33 : loadT Tryd.prog 33 = some none := by kernel_rfl
theorem lt_35 : loadT Tryd.prog 35 = some (some 11) := by kernel_rfl
theorem lt_4 : loadT Tryd.prog 4 = some none := by kernel_rfl
theorem lt_49 : loadT Tryd.prog 49 = some none := by kernel_rfl
theorem lt_5 : loadT Tryd.prog 5 = some none := by kernel_rfl
theorem lt_63 : loadT Tryd.prog 63 = some none := by kernel_rfl
theorem lt_69 : loadT Tryd.prog 69 = some (some 3) := by kernel_rfl
theorem pl_23 : bplT Tryd.prog 23 = some (.inl [(0, 1), (1, 1), (2, 1)]) := by kernel_rfl
theorem pl_35 : bplT Tryd.prog 35 = some (.inl [(0, 1), (1, 1), (2, 1), (3, 1), (4, 1), (5, 3), (8, 1), (9, 1), (10, 1)]) := by kernel_rfl
theorem pl_61 : bplT Tryd.prog 61 = some (.inr 1) := by kernel_rfl
theorem pl_69 : bplT Tryd.prog 69 = some (.inl [(0, 1), (1, 1), (2, 1)]) := by kernel_rfl
theorem pl_81 : bplT Tryd.prog 81 = some (.inl [(0, 1)]) := by kernel_rfl
theorem pl_92 : bplT Tryd.prog 92 = some (.inl [(0, 1), (1, 1)]) := by kernel_rfl
theorem pl_93 : bplT Tryd.prog 93 = some (.inr 2) := by kernel_rfl
theorem sk_23 : structK Tryd.prog 23 = some [0, 0, 0] := by kernel_rfl
theorem sl_24 : slT Tryd.prog 24 = some ⟨5, [.int .u8 0], 1, 1⟩ := by kernel_rfl
theorem sl_33 : slT Tryd.prog 33 = some ⟨3, [.int .i64 0], 1, 8⟩ := by kernel_rfl
theorem ss_24 : slSz Tryd.prog 24 = some 1 := by kernel_rfl
theorem ss_33 : slSz Tryd.prog 33 = some 1 := by kernel_rfl
theorem ss_50 : slSz Tryd.prog 50 = none := by kernel_rfl
theorem ss_61 : slSz Tryd.prog 61 = none := by kernel_rfl
theorem ss_76 : slSz Tryd.prog 76 = none := by kernel_rfl
theorem ss_82 : slSz Tryd.prog 82 = none := by kernel_rfl
theorem st_9 : strT Tryd.prog 9 = true := by kernel_rfl
theorem zc_23 : zeroC Tryd.prog 23 = some [.int .i64 0, .int .i64 0, .int .i64 0] := by kernel_rfl
theorem zc_35 : zeroC Tryd.prog 35 = some [.int .i64 0, .int .i64 0, .int .i64 0, .int .i64 0, .int .i64 0, .int .i64 0, .int .i64 0, .int .i64 0, .bool false, .snil, .snil] := by kernel_rfl
theorem zc_61 : zeroC Tryd.prog 61 = some [.int .i64 0, .int .i64 0, .int .i64 0, .int .i64 0, .int .i64 0] := by kernel_rfl
theorem zc_69 : zeroC Tryd.prog 69 = some [.int .u64 0, .snil, .int .i64 0] := by kernel_rfl
theorem zc_81 : zeroC Tryd.prog 81 = some [.snil] := by kernel_rfl
theorem zc_82 : zeroC Tryd.prog 82 = some [.int .i64 0, .int .i64 0, .int .i64 0] := by kernel_rfl
theorem zc_92 : zeroC Tryd.prog 92 = some [.bool false, .int .i64 0] := by kernel_rfl
theorem zc_93 : zeroC Tryd.prog 93 = some [.bool false, .int .i64 0, .bool false, .int .i64 0, .bool false, .int .i64 0, .bool false, .int .i64 0, .bool false, .int .i64 0, .bool false, .int .i64 0, .bool false, .int .i64 0, .bool false, .int .i64 0] := by kernel_rfl
theorem zt_2 : sizeT Tryd.prog 2 = some 1 := by kernel_rfl
theorem zt_23 : sizeT Tryd.prog 23 = some 3 := by kernel_rfl
theorem zt_24 : sizeT Tryd.prog 24 = some 1 := by kernel_rfl
theorem zt_3 : sizeT Tryd.prog 3 = some 1 := by kernel_rfl
theorem zt_35 : sizeT Tryd.prog 35 = some 11 := by kernel_rfl
theorem zt_69 : sizeT Tryd.prog 69 = some 3 := by kernel_rfl
theorem zt_81 : sizeT Tryd.prog 81 = some 1 := by kernel_rfl
theorem zt_92 : sizeT Tryd.prog 92 = some 2 := by kernel_rfl
end Go.Proofs.YtjphnabogfiahaaDoor.Pk
