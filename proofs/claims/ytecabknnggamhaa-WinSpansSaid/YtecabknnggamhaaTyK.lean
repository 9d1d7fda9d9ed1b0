/-
  What functions of the program do, told of abstract states. Conditions: as each theorem says.
-/
import Derived.Test.YtecabknnggamhaaAbD
import Derived.Test.YtecabknnggamhaaAbD
import Derived.Test.YtecabknnggamhaaAbD
import Derived.Test.YtecabknnggamhaaProg
namespace Go.Proofs.Ytecabknnggamhaa.Pk
open Go Go.Proofs Go.Proofs.Ytecabknnggamhaa.Ab

theorem as_22 : arSz Try.prog 22 = none := by kernel_rfl
theorem as_34 : arSz Try.prog 34 = none := by kernel_rfl
theorem as_37 : arSz Try.prog 37 = none := by kernel_rfl
theorem as_87 : arSz Try.prog 87 = none := by kernel_rfl
theorem bt_4 : boolT Try.prog 4 = true := by kernel_rfl
theorem cal15 : callable Try.prog 15 = true := by kernel_rfl
theorem cal16 : callable Try.prog 16 = true := by kernel_rfl
theorem cal17 : callable Try.prog 17 = true := by kernel_rfl
theorem cal18 : callable Try.prog 18 = true := by kernel_rfl
theorem cal19 : callable Try.prog 19 = true := by kernel_rfl
theorem cal20 : callable Try.prog 20 = true := by kernel_rfl
theorem cal21 : callable Try.prog 21 = true := by kernel_rfl
theorem cal22 : callable Try.prog 22 = true := by kernel_rfl
theorem cal23 : callable Try.prog 23 = true := by kernel_rfl
theorem cal24 : callable Try.prog 24 = true := by kernel_rfl
theorem cal25 : callable Try.prog 25 = true := by kernel_rfl
theorem cal26 : callable Try.prog 26 = true := by kernel_rfl
theorem cal27 : callable Try.prog 27 = true := by kernel_rfl
theorem cal28 : callable Try.prog 28 = true := by kernel_rfl
theorem cal3 : callable Try.prog 3 = true := by kernel_rfl
theorem cal4 : callable Try.prog 4 = true := by kernel_rfl
theorem cal42 : callable Try.prog 42 = true := by kernel_rfl
theorem cal43 : callable Try.prog 43 = true := by kernel_rfl
theorem cal44 : callable Try.prog 44 = true := by kernel_rfl
theorem cal45 : callable Try.prog 45 = true := by kernel_rfl
theorem cal46 : callable Try.prog 46 = true := by kernel_rfl
theorem cal5 : callable Try.prog 5 = true := by kernel_rfl
theorem cal6 : callable Try.prog 6 = true := by kernel_rfl
theorem cal61 : callable Try.prog 61 = true := by kernel_rfl
theorem cal62 : callable Try.prog 62 = true := by kernel_rfl
theorem cal64 : callable Try.prog 64 = true := by kernel_rfl
theorem cal7 : callable Try.prog 7 = true := by kernel_rfl
theorem cal8 : callable Try.prog 8 = true := by kernel_rfl
theorem ft_30_0 : fieldT Try.prog 30 0 = some 0 := by kernel_rfl
theorem ft_30_1 : fieldT Try.prog 30 1 = some 1 := by kernel_rfl
theorem ft_30_2 : fieldT Try.prog 30 2 = some 2 := by kernel_rfl
theorem ft_30_3 : fieldT Try.prog 30 3 = some 3 := by kernel_rfl
theorem ft_30_4 : fieldT Try.prog 30 4 = some 4 := by kernel_rfl
theorem ft_39_0 : fieldT Try.prog 39 0 = some 0 := by kernel_rfl
theorem ft_39_1 : fieldT Try.prog 39 1 = some 1 := by kernel_rfl
theorem ft_39_2 : fieldT Try.prog 39 2 = some 2 := by kernel_rfl
theorem ft_39_3 : fieldT Try.prog 39 3 = some 3 := by kernel_rfl
theorem ft_50_0 : fieldT Try.prog 50 0 = some 0 := by kernel_rfl
theorem ft_50_1 : fieldT Try.prog 50 1 = some 1 := by kernel_rfl
theorem ft_89_0 : fieldT Try.prog 89 0 = some 0 := by kernel_rfl
theorem ft_89_1 : fieldT Try.prog 89 1 = some 1 := by kernel_rfl
theorem ft_91_0 : fieldT Try.prog 91 0 = some 0 := by kernel_rfl
theorem ft_91_1 : fieldT Try.prog 91 1 = some 1 := by kernel_rfl
theorem it_128 : intT Try.prog 128 = some .u64 := by kernel_rfl
theorem it_2 : intT Try.prog 2 = some .i64 := by kernel_rfl
theorem it_28 : intT Try.prog 28 = some .i16 := by kernel_rfl
theorem it_3 : intT Try.prog 3 = some .i64 := by kernel_rfl
theorem it_5 : intT Try.prog 5 = some .u8 := by kernel_rfl
theorem kt_22 : kindT Try.prog 22 = some 1 := by kernel_rfl
theorem kt_24 : kindT Try.prog 24 = some 0 := by kernel_rfl
theorem kt_34 : kindT Try.prog 34 = some 1 := by kernel_rfl
theorem kt_37 : kindT Try.prog 37 = some 1 := by kernel_rfl
theorem kt_87 : kindT Try.prog 87 = some 1 := by kernel_rfl
theorem lt_2 : loadT Try.prog 2 = some none := by kernel_rfl
theorem lt_24 : loadT Try.prog 24 = some none := by kernel_rfl
theorem lt_28 : loadT Try.prog 28 = some none := by kernel_rfl
theorem lt_3 : loadT Try.prog 3 = some none := by kernel_rfl
theorem lt_30 : loadT Try.prog 30 = some (some 5) := by kernel_rfl
theorem lt_34 : loadT Try.prog 34 = some none := by kernel_rfl
theorem lt_39 : loadT Try.prog 39 = some (some 8) := by kernel_rfl
theorem lt_4 : loadT Try.prog 4 = some none := by kernel_rfl
theorem lt_50 : loadT Try.prog 50 = some (some 2) := by kernel_rfl
theorem lt_87 : loadT Try.prog 87 = some none := by kernel_rfl
theorem lt_91 : loadT Try.prog 91 = some (some 2) := by kernel_rfl
theorem ncal63 : callable Try.prog 63 = false := by kernel_rfl
theorem pl_30 : bplT Try.prog 30 = some (.inl [(0, 1), (1, 1), (2, 1), (3, 1), (4, 1)]) := by kernel_rfl
theorem pl_50 : bplT Try.prog 50 = some (.inl [(0, 1), (1, 1)]) := by kernel_rfl
theorem pl_89 : bplT Try.prog 89 = some (.inl [(0, 1), (1, 1)]) := by kernel_rfl
theorem pl_91 : bplT Try.prog 91 = some (.inl [(0, 1), (1, 1)]) := by kernel_rfl
theorem sk_30 : structK Try.prog 30 = some [0, 0, 0, 0, 1] := by kernel_rfl
theorem sl_22 : slT Try.prog 22 = some ⟨28, [.int .i16 0], 1, 2⟩ := by kernel_rfl
theorem sl_34 : slT Try.prog 34 = some ⟨30, [.int .i64 0, .int .i64 0, .int .i64 0, .int .i64 0, .bool false], 5, 40⟩ := by kernel_rfl
theorem sl_87 : slT Try.prog 87 = some ⟨91, [.int .i64 0, .int .i64 0], 2, 16⟩ := by kernel_rfl
theorem ss_22 : slSz Try.prog 22 = some 1 := by kernel_rfl
theorem ss_34 : slSz Try.prog 34 = some 5 := by kernel_rfl
theorem ss_37 : slSz Try.prog 37 = some 8 := by kernel_rfl
theorem ss_87 : slSz Try.prog 87 = some 2 := by kernel_rfl
theorem zc_30 : zeroC Try.prog 30 = some [.int .i64 0, .int .i64 0, .int .i64 0, .int .i64 0, .bool false] := by kernel_rfl
theorem zc_39 : zeroC Try.prog 39 = some [.int .i64 0, .int .i64 0, .int .i64 0, .int .i64 0, .int .i64 0, .int .i64 0, .int .i64 0, .bool false] := by kernel_rfl
theorem zc_50 : zeroC Try.prog 50 = some [.int .i64 0, .snil] := by kernel_rfl
theorem zc_89 : zeroC Try.prog 89 = some [.int .i64 0, .snil] := by kernel_rfl
theorem zc_91 : zeroC Try.prog 91 = some [.int .i64 0, .int .i64 0] := by kernel_rfl
theorem zt_30 : sizeT Try.prog 30 = some 5 := by kernel_rfl
theorem zt_34 : sizeT Try.prog 34 = some 1 := by kernel_rfl
theorem zt_39 : sizeT Try.prog 39 = some 8 := by kernel_rfl
theorem zt_50 : sizeT Try.prog 50 = some 2 := by kernel_rfl
theorem zt_87 : sizeT Try.prog 87 = some 1 := by kernel_rfl
theorem zt_91 : sizeT Try.prog 91 = some 2 := by kernel_rfl
end Go.Proofs.Ytecabknnggamhaa.Pk
