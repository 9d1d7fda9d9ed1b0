/-
  What functions of the program do, told of abstract states. Conditions: as each theorem says.
-/
import Derived.Test.YtecabknnggamhaaTyK
import Derived.Test.YtecabknnggamhaaAbD
import Derived.Test.YtecabknnggamhaaAbD
import Derived.Test.YtecabknnggamhaaAbD
import Derived.Test.YtecabknnggamhaaProg
namespace Go.Proofs.Ytecabknnggamhaa.Pk
open Go Go.Proofs Go.Proofs.Ytecabknnggamhaa.Ab

theorem as_67 : arSz Try.prog 67 = none := by kernel_rfl
theorem cal13 : callable Try.prog 13 = true := by kernel_rfl
theorem cal14 : callable Try.prog 14 = true := by kernel_rfl
theorem cal37 : callable Try.prog 37 = true := by kernel_rfl
theorem cal38 : callable Try.prog 38 = true := by kernel_rfl
theorem cal39 : callable Try.prog 39 = true := by kernel_rfl
theorem cal40 : callable Try.prog 40 = true := by kernel_rfl
theorem cal41 : callable Try.prog 41 = true := by kernel_rfl
theorem cal58 : callable Try.prog 58 = true := by kernel_rfl
theorem cal59 : callable Try.prog 59 = true := by kernel_rfl
theorem cal60 : callable Try.prog 60 = true := by kernel_rfl
theorem cal66 : callable Try.prog 66 = true := by kernel_rfl
theorem cal67 : callable Try.prog 67 = true := by kernel_rfl
theorem cal69 : callable Try.prog 69 = true := by kernel_rfl
theorem cal70 : callable Try.prog 70 = true := by kernel_rfl
theorem cal71 : callable Try.prog 71 = true := by kernel_rfl
theorem cal73 : callable Try.prog 73 = true := by kernel_rfl
theorem cal74 : callable Try.prog 74 = true := by kernel_rfl
theorem cal75 : callable Try.prog 75 = true := by kernel_rfl
theorem cal76 : callable Try.prog 76 = true := by kernel_rfl
theorem cal77 : callable Try.prog 77 = true := by kernel_rfl
theorem cal78 : callable Try.prog 78 = true := by kernel_rfl
theorem cal79 : callable Try.prog 79 = true := by kernel_rfl
theorem cal80 : callable Try.prog 80 = true := by kernel_rfl
theorem cal81 : callable Try.prog 81 = true := by kernel_rfl
theorem cal82 : callable Try.prog 82 = true := by kernel_rfl
theorem cal83 : callable Try.prog 83 = true := by kernel_rfl
theorem cal84 : callable Try.prog 84 = true := by kernel_rfl
theorem cal85 : callable Try.prog 85 = true := by kernel_rfl
theorem cal92 : callable Try.prog 92 = true := by kernel_rfl
theorem cal93 : callable Try.prog 93 = true := by kernel_rfl
theorem cal94 : callable Try.prog 94 = true := by kernel_rfl
theorem cal95 : callable Try.prog 95 = true := by kernel_rfl
theorem cal96 : callable Try.prog 96 = true := by kernel_rfl
theorem cal97 : callable Try.prog 97 = true := by kernel_rfl
theorem cal98 : callable Try.prog 98 = true := by kernel_rfl
theorem cal99 : callable Try.prog 99 = true := by kernel_rfl
theorem ft_116_0 : fieldT Try.prog 116 0 = some 0 := by kernel_rfl
theorem ft_116_1 : fieldT Try.prog 116 1 = some 1 := by kernel_rfl
theorem ft_116_2 : fieldT Try.prog 116 2 = some 2 := by kernel_rfl
theorem ft_118_0 : fieldT Try.prog 118 0 = some 0 := by kernel_rfl
theorem ft_118_1 : fieldT Try.prog 118 1 = some 1 := by kernel_rfl
theorem it_141 : intT Try.prog 141 = some .u64 := by kernel_rfl
theorem it_59 : intT Try.prog 59 = some .u16 := by kernel_rfl
theorem it_78 : intT Try.prog 78 = some .u32 := by kernel_rfl
theorem kt_114 : kindT Try.prog 114 = some 2 := by kernel_rfl
theorem kt_79 : kindT Try.prog 79 = some 0 := by kernel_rfl
theorem lt_114 : loadT Try.prog 114 = some none := by kernel_rfl
theorem lt_118 : loadT Try.prog 118 = some (some 2) := by kernel_rfl
theorem lt_64 : loadT Try.prog 64 = some (some 3) := by kernel_rfl
theorem pl_116 : bplT Try.prog 116 = some (.inl [(0, 1), (1, 1), (2, 1)]) := by kernel_rfl
theorem pl_118 : bplT Try.prog 118 = some (.inl [(0, 1), (1, 1)]) := by kernel_rfl
theorem sl_98 : slT Try.prog 98 = some ⟨3, [.int .i64 0], 1, 8⟩ := by kernel_rfl
theorem ss_67 : slSz Try.prog 67 = some 3 := by kernel_rfl
theorem z0_2 : zeroT Try.prog 2 = some (.int .i64 0) := by kernel_rfl
theorem zc_116 : zeroC Try.prog 116 = some [.int .i64 0, .int .i64 0, .mnil] := by kernel_rfl
theorem zc_118 : zeroC Try.prog 118 = some [.int .i64 0, .int .i64 0] := by kernel_rfl
theorem zt_118 : sizeT Try.prog 118 = some 2 := by kernel_rfl
theorem zt_64 : sizeT Try.prog 64 = some 3 := by kernel_rfl
end Go.Proofs.Ytecabknnggamhaa.Pk
