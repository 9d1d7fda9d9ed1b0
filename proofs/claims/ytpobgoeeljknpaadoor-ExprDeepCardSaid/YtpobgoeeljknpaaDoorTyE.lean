/-
  What functions of the program do, told of abstract states. Conditions: as each theorem says.
-/
import Derived.Test.YtpobgoeeljknpaaDoorAbD
import Derived.Test.YtpobgoeeljknpaaDoorAbD
import Derived.Test.YtpobgoeeljknpaaDoorAbD
import Derived.Test.YtpobgoeeljknpaaDoorProg
namespace Go.Proofs.YtpobgoeeljknpaaDoor.Pk
open Go Go.Proofs Go.Proofs.YtpobgoeeljknpaaDoor.Ab

theorem as_102 : arSz Tryd.prog 102 = some (17, 1) := by kernel_rfl
theorem as_23 : arSz Tryd.prog 23 = none := by kernel_rfl
theorem as_43 : arSz Tryd.prog 43 = none := by kernel_rfl
theorem bt_4 : boolT Tryd.prog 4 = true := by kernel_rfl
theorem cal15 : callable Tryd.prog 15 = true := by kernel_rfl
theorem cal16 : callable Tryd.prog 16 = true := by kernel_rfl
theorem cal17 : callable Tryd.prog 17 = true := by kernel_rfl
theorem cal18 : callable Tryd.prog 18 = true := by kernel_rfl
theorem cal19 : callable Tryd.prog 19 = true := by kernel_rfl
theorem cal20 : callable Tryd.prog 20 = true := by kernel_rfl
theorem cal21 : callable Tryd.prog 21 = true := by kernel_rfl
theorem cal22 : callable Tryd.prog 22 = true := by kernel_rfl
theorem cal23 : callable Tryd.prog 23 = true := by kernel_rfl
theorem cal24 : callable Tryd.prog 24 = true := by kernel_rfl
theorem cal25 : callable Tryd.prog 25 = true := by kernel_rfl
theorem cal26 : callable Tryd.prog 26 = true := by kernel_rfl
theorem cal27 : callable Tryd.prog 27 = true := by kernel_rfl
theorem cal28 : callable Tryd.prog 28 = true := by kernel_rfl
theorem cal29 : callable Tryd.prog 29 = true := by kernel_rfl
theorem cal3 : callable Tryd.prog 3 = true := by kernel_rfl
theorem cal30 : callable Tryd.prog 30 = true := by kernel_rfl
theorem cal38 : callable Tryd.prog 38 = true := by kernel_rfl
theorem cal39 : callable Tryd.prog 39 = true := by kernel_rfl
theorem cal4 : callable Tryd.prog 4 = true := by kernel_rfl
theorem cal40 : callable Tryd.prog 40 = true := by kernel_rfl
theorem cal41 : callable Tryd.prog 41 = true := by kernel_rfl
theorem cal42 : callable Tryd.prog 42 = true := by kernel_rfl
theorem cal43 : callable Tryd.prog 43 = true := by kernel_rfl
theorem cal44 : callable Tryd.prog 44 = true := by kernel_rfl
theorem cal45 : callable Tryd.prog 45 = true := by kernel_rfl
theorem cal46 : callable Tryd.prog 46 = true := by kernel_rfl
theorem cal47 : callable Tryd.prog 47 = true := by kernel_rfl
theorem cal48 : callable Tryd.prog 48 = true := by kernel_rfl
theorem cal5 : callable Tryd.prog 5 = true := by kernel_rfl
theorem cal51 : callable Tryd.prog 51 = true := by kernel_rfl
theorem cal52 : callable Tryd.prog 52 = true := by kernel_rfl
theorem cal53 : callable Tryd.prog 53 = true := by kernel_rfl
theorem cal54 : callable Tryd.prog 54 = true := by kernel_rfl
theorem cal55 : callable Tryd.prog 55 = true := by kernel_rfl
theorem cal56 : callable Tryd.prog 56 = true := by kernel_rfl
theorem cal57 : callable Tryd.prog 57 = true := by kernel_rfl
theorem cal58 : callable Tryd.prog 58 = true := by kernel_rfl
theorem cal59 : callable Tryd.prog 59 = true := by kernel_rfl
theorem cal6 : callable Tryd.prog 6 = true := by kernel_rfl
theorem cal60 : callable Tryd.prog 60 = true := by kernel_rfl
theorem cal61 : callable Tryd.prog 61 = true := by kernel_rfl
theorem cal62 : callable Tryd.prog 62 = true := by kernel_rfl
theorem cal63 : callable Tryd.prog 63 = true := by kernel_rfl
theorem cal64 : callable Tryd.prog 64 = true := by kernel_rfl
theorem cal66 : callable Tryd.prog 66 = true := by kernel_rfl
theorem cal67 : callable Tryd.prog 67 = true := by kernel_rfl
theorem cal68 : callable Tryd.prog 68 = true := by kernel_rfl
theorem cal69 : callable Tryd.prog 69 = true := by kernel_rfl
theorem cal7 : callable Tryd.prog 7 = true := by kernel_rfl
theorem cal70 : callable Tryd.prog 70 = true := by kernel_rfl
theorem cal71 : callable Tryd.prog 71 = true := by kernel_rfl
theorem cal72 : callable Tryd.prog 72 = true := by kernel_rfl
theorem cal8 : callable Tryd.prog 8 = true := by kernel_rfl
theorem cal9 : callable Tryd.prog 9 = true := by kernel_rfl
theorem ft_105_0 : fieldT Tryd.prog 105 0 = some 0 := by kernel_rfl
theorem ft_105_1 : fieldT Tryd.prog 105 1 = some 1 := by kernel_rfl
theorem ft_105_2 : fieldT Tryd.prog 105 2 = some 2 := by kernel_rfl
theorem ft_25_0 : fieldT Tryd.prog 25 0 = some 0 := by kernel_rfl
theorem ft_25_1 : fieldT Tryd.prog 25 1 = some 1 := by kernel_rfl
theorem ft_25_2 : fieldT Tryd.prog 25 2 = some 2 := by kernel_rfl
theorem ft_32_0 : fieldT Tryd.prog 32 0 = some 0 := by kernel_rfl
theorem ft_32_1 : fieldT Tryd.prog 32 1 = some 1 := by kernel_rfl
theorem ft_32_2 : fieldT Tryd.prog 32 2 = some 2 := by kernel_rfl
theorem ft_80_0 : fieldT Tryd.prog 80 0 = some 0 := by kernel_rfl
theorem ft_80_1 : fieldT Tryd.prog 80 1 = some 1 := by kernel_rfl
theorem ft_84_0 : fieldT Tryd.prog 84 0 = some 0 := by kernel_rfl
theorem ft_84_1 : fieldT Tryd.prog 84 1 = some 3 := by kernel_rfl
theorem ft_84_2 : fieldT Tryd.prog 84 2 = some 4 := by kernel_rfl
theorem ft_84_3 : fieldT Tryd.prog 84 3 = some 5 := by kernel_rfl
theorem ft_97_0 : fieldT Tryd.prog 97 0 = some 0 := by kernel_rfl
theorem if_28 : isIfaceT Tryd.prog 28 = some false := by kernel_rfl
theorem it_2 : intT Tryd.prog 2 = some .i64 := by kernel_rfl
theorem it_3 : intT Tryd.prog 3 = some .i64 := by kernel_rfl
theorem it_5 : intT Tryd.prog 5 = some .u8 := by kernel_rfl
theorem it_93 : intT Tryd.prog 93 = some .u64 := by kernel_rfl
theorem kt_20 : kindT Tryd.prog 20 = some 4 := by kernel_rfl
theorem kt_23 : kindT Tryd.prog 23 = some 1 := by kernel_rfl
theorem kt_43 : kindT Tryd.prog 43 = some 1 := by kernel_rfl
theorem kt_77 : kindT Tryd.prog 77 = some 0 := by kernel_rfl
theorem lt_105 : loadT Tryd.prog 105 = some (some 3) := by kernel_rfl
theorem lt_2 : loadT Tryd.prog 2 = some none := by kernel_rfl
theorem lt_23 : loadT Tryd.prog 23 = some none := by kernel_rfl
theorem lt_25 : loadT Tryd.prog 25 = some (some 3) := by kernel_rfl
theorem lt_28 : loadT Tryd.prog 28 = some none := by kernel_rfl
theorem lt_3 : loadT Tryd.prog 3 = some none := by kernel_rfl
theorem lt_32 : loadT Tryd.prog 32 = some (some 3) := by kernel_rfl
theorem lt_43 : loadT Tryd.prog 43 = some none := by kernel_rfl
theorem lt_5 : loadT Tryd.prog 5 = some none := by kernel_rfl
theorem lt_77 : loadT Tryd.prog 77 = some none := by kernel_rfl
theorem lt_84 : loadT Tryd.prog 84 = some (some 6) := by kernel_rfl
theorem lt_93 : loadT Tryd.prog 93 = some none := by kernel_rfl
theorem pl_105 : bplT Tryd.prog 105 = some (.inl [(0, 1), (1, 1), (2, 1)]) := by kernel_rfl
theorem pl_25 : bplT Tryd.prog 25 = some (.inl [(0, 1), (1, 1), (2, 1)]) := by kernel_rfl
theorem pl_32 : bplT Tryd.prog 32 = some (.inl [(0, 1), (1, 1), (2, 1)]) := by kernel_rfl
theorem pl_80 : bplT Tryd.prog 80 = some (.inl [(0, 1), (1, 1)]) := by kernel_rfl
theorem pl_84 : bplT Tryd.prog 84 = some (.inl [(0, 3), (3, 1), (4, 1), (5, 1)]) := by kernel_rfl
theorem pl_97 : bplT Tryd.prog 97 = some (.inl [(0, 1)]) := by kernel_rfl
theorem sl_23 : slT Tryd.prog 23 = some ⟨25, [.int .i64 0, .int .i64 0, .snil], 3, 40⟩ := by kernel_rfl
theorem sl_43 : slT Tryd.prog 43 = some ⟨5, [.int .u8 0], 1, 1⟩ := by kernel_rfl
theorem ss_102 : slSz Tryd.prog 102 = none := by kernel_rfl
theorem ss_23 : slSz Tryd.prog 23 = some 3 := by kernel_rfl
theorem ss_43 : slSz Tryd.prog 43 = some 1 := by kernel_rfl
theorem st_9 : strT Tryd.prog 9 = true := by kernel_rfl
theorem zc_105 : zeroC Tryd.prog 105 = some [.int .u64 0, .snil, .int .i64 0] := by kernel_rfl
theorem zc_2 : zeroC Tryd.prog 2 = some [.int .i64 0] := by kernel_rfl
theorem zc_25 : zeroC Tryd.prog 25 = some [.int .i64 0, .int .i64 0, .snil] := by kernel_rfl
theorem zc_28 : zeroC Tryd.prog 28 = some [.int .i64 0] := by kernel_rfl
theorem zc_32 : zeroC Tryd.prog 32 = some [.int .i64 0, .int .i64 0, .int .i64 0] := by kernel_rfl
theorem zc_80 : zeroC Tryd.prog 80 = some [.pnil, .int .i64 0] := by kernel_rfl
theorem zc_84 : zeroC Tryd.prog 84 = some [.int .i64 0, .int .i64 0, .snil, .snil, .int .i64 0, .int .i64 0] := by kernel_rfl
theorem zc_97 : zeroC Tryd.prog 97 = some [.snil] := by kernel_rfl
theorem zt_105 : sizeT Tryd.prog 105 = some 3 := by kernel_rfl
theorem zt_2 : sizeT Tryd.prog 2 = some 1 := by kernel_rfl
theorem zt_23 : sizeT Tryd.prog 23 = some 1 := by kernel_rfl
theorem zt_25 : sizeT Tryd.prog 25 = some 3 := by kernel_rfl
theorem zt_28 : sizeT Tryd.prog 28 = some 1 := by kernel_rfl
theorem zt_3 : sizeT Tryd.prog 3 = some 1 := by kernel_rfl
theorem zt_32 : sizeT Tryd.prog 32 = some 3 := by kernel_rfl
theorem zt_43 : sizeT Tryd.prog 43 = some 1 := by kernel_rfl
theorem zt_80 : sizeT Tryd.prog 80 = some 2 := by kernel_rfl
theorem zt_84 : sizeT Tryd.prog 84 = some 6 := by kernel_rfl
end Go.Proofs.YtpobgoeeljknpaaDoor.Pk
