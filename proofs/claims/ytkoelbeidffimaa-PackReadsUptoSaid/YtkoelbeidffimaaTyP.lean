/-
  What functions of the program do, told of abstract states. Conditions: as each theorem says.
-/
import Derived.Test.YtkoelbeidffimaaAbC
import Derived.Test.YtkoelbeidffimaaProg
namespace Go.Proofs.Ytkoelbeidffimaa.Pk
open Go Go.Proofs Go.Proofs.Ytkoelbeidffimaa.Ab

theorem as_22 : arSz Try.prog 22 = none := by kernel_rfl
theorem as_24 : arSz Try.prog 24 = none := by kernel_rfl
theorem as_53 : arSz Try.prog 53 = none := by kernel_rfl
theorem bt_4 : boolT Try.prog 4 = true := by kernel_rfl
theorem cal15 : callable Try.prog 15 = true := by kernel_rfl
theorem cal16 : callable Try.prog 16 = true := by kernel_rfl
theorem cal17 : callable Try.prog 17 = true := by kernel_rfl
theorem cal18 : callable Try.prog 18 = true := by kernel_rfl
theorem cal19 : callable Try.prog 19 = true := by kernel_rfl
theorem cal20 : callable Try.prog 20 = true := by kernel_rfl
theorem cal21 : callable Try.prog 21 = true := by kernel_rfl
theorem cal22 : callable Try.prog 22 = true := by kernel_rfl
theorem cal23 : callable Try.prog 23 = true := by kernel_rfl
theorem cal24 : callable Try.prog 24 = true := by kernel_rfl
theorem cal25 : callable Try.prog 25 = true := by kernel_rfl
theorem cal26 : callable Try.prog 26 = true := by kernel_rfl
theorem cal27 : callable Try.prog 27 = true := by kernel_rfl
theorem cal28 : callable Try.prog 28 = true := by kernel_rfl
theorem cal29 : callable Try.prog 29 = true := by kernel_rfl
theorem cal3 : callable Try.prog 3 = true := by kernel_rfl
theorem cal30 : callable Try.prog 30 = true := by kernel_rfl
theorem cal31 : callable Try.prog 31 = true := by kernel_rfl
theorem cal32 : callable Try.prog 32 = true := by kernel_rfl
theorem cal33 : callable Try.prog 33 = true := by kernel_rfl
theorem cal34 : callable Try.prog 34 = true := by kernel_rfl
theorem cal4 : callable Try.prog 4 = true := by kernel_rfl
theorem cal47 : callable Try.prog 47 = true := by kernel_rfl
theorem cal48 : callable Try.prog 48 = true := by kernel_rfl
theorem cal49 : callable Try.prog 49 = true := by kernel_rfl
theorem cal5 : callable Try.prog 5 = true := by kernel_rfl
theorem cal50 : callable Try.prog 50 = true := by kernel_rfl
theorem cal51 : callable Try.prog 51 = true := by kernel_rfl
theorem cal52 : callable Try.prog 52 = true := by kernel_rfl
theorem cal6 : callable Try.prog 6 = true := by kernel_rfl
theorem ft_37_0 : fieldT Try.prog 37 0 = some 0 := by kernel_rfl
theorem ft_37_1 : fieldT Try.prog 37 1 = some 1 := by kernel_rfl
theorem ft_37_2 : fieldT Try.prog 37 2 = some 2 := by kernel_rfl
theorem ft_84_0 : fieldT Try.prog 84 0 = some 0 := by kernel_rfl
theorem it_2 : intT Try.prog 2 = some .i64 := by kernel_rfl
theorem it_21 : intT Try.prog 21 = some .i32 := by kernel_rfl
theorem it_23 : intT Try.prog 23 = some .u64 := by kernel_rfl
theorem it_3 : intT Try.prog 3 = some .i64 := by kernel_rfl
theorem it_5 : intT Try.prog 5 = some .u8 := by kernel_rfl
theorem kt_22 : kindT Try.prog 22 = some 1 := by kernel_rfl
theorem kt_24 : kindT Try.prog 24 = some 1 := by kernel_rfl
theorem kt_31 : kindT Try.prog 31 = some 0 := by kernel_rfl
theorem kt_53 : kindT Try.prog 53 = some 1 := by kernel_rfl
theorem lt_21 : loadT Try.prog 21 = some none := by kernel_rfl
theorem lt_22 : loadT Try.prog 22 = some none := by kernel_rfl
theorem lt_23 : loadT Try.prog 23 = some none := by kernel_rfl
theorem lt_3 : loadT Try.prog 3 = some none := by kernel_rfl
theorem lt_37 : loadT Try.prog 37 = some (some 3) := by kernel_rfl
theorem lt_5 : loadT Try.prog 5 = some none := by kernel_rfl
theorem pl_37 : bplT Try.prog 37 = some (.inl [(0, 1), (1, 1), (2, 1)]) := by kernel_rfl
theorem pl_84 : bplT Try.prog 84 = some (.inl [(0, 1)]) := by kernel_rfl
theorem sl_22 : slT Try.prog 22 = some ⟨5, [.int .u8 0], 1, 1⟩ := by kernel_rfl
theorem sl_24 : slT Try.prog 24 = some ⟨3, [.int .i64 0], 1, 8⟩ := by kernel_rfl
theorem ss_22 : slSz Try.prog 22 = some 1 := by kernel_rfl
theorem ss_24 : slSz Try.prog 24 = some 1 := by kernel_rfl
theorem ss_53 : slSz Try.prog 53 = some 1 := by kernel_rfl
theorem st_9 : strT Try.prog 9 = true := by kernel_rfl
theorem zc_37 : zeroC Try.prog 37 = some [.int .u64 0, .snil, .int .i64 0] := by kernel_rfl
theorem zc_84 : zeroC Try.prog 84 = some [.snil] := by kernel_rfl
theorem zt_22 : sizeT Try.prog 22 = some 1 := by kernel_rfl
theorem zt_37 : sizeT Try.prog 37 = some 3 := by kernel_rfl
theorem zt_84 : sizeT Try.prog 84 = some 1 := by kernel_rfl
end Go.Proofs.Ytkoelbeidffimaa.Pk
