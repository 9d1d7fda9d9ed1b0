/-
  What functions of the program do, told of abstract states. Conditions: as each theorem says.
-/
import Derived.Test.YtpmmbcifhallbaaDoorAbD
import Derived.Test.YtpmmbcifhallbaaDoorAbD
import Derived.Test.YtpmmbcifhallbaaDoorAbD
import Derived.Test.YtpmmbcifhallbaaDoorProg
namespace Go.Proofs.YtpmmbcifhallbaaDoor.Pk
open Go Go.Proofs Go.Proofs.YtpmmbcifhallbaaDoor.Ab

theorem as_126 : arSz Tryd.prog 126 = some (17, 1) := by kernel_rfl
theorem as_22 : arSz Tryd.prog 22 = none := by kernel_rfl
theorem as_33 : arSz Tryd.prog 33 = none := by kernel_rfl
theorem as_43 : arSz Tryd.prog 43 = none := by kernel_rfl
theorem as_61 : arSz Tryd.prog 61 = some (3, 1) := by kernel_rfl
theorem as_83 : arSz Tryd.prog 83 = none := by kernel_rfl
theorem as_91 : arSz Tryd.prog 91 = some (11, 4) := by kernel_rfl
theorem bt_4 : boolT Tryd.prog 4 = true := by kernel_rfl
theorem cal10 : callable Tryd.prog 10 = true := by kernel_rfl
theorem cal11 : callable Tryd.prog 11 = true := by kernel_rfl
theorem cal12 : callable Tryd.prog 12 = true := by kernel_rfl
theorem cal13 : callable Tryd.prog 13 = true := by kernel_rfl
theorem cal14 : callable Tryd.prog 14 = true := by kernel_rfl
theorem cal15 : callable Tryd.prog 15 = true := by kernel_rfl
theorem cal16 : callable Tryd.prog 16 = true := by kernel_rfl
theorem cal17 : callable Tryd.prog 17 = true := by kernel_rfl
theorem cal18 : callable Tryd.prog 18 = true := by kernel_rfl
theorem cal19 : callable Tryd.prog 19 = true := by kernel_rfl
theorem cal20 : callable Tryd.prog 20 = true := by kernel_rfl
theorem cal21 : callable Tryd.prog 21 = true := by kernel_rfl
theorem cal22 : callable Tryd.prog 22 = true := by kernel_rfl
theorem cal23 : callable Tryd.prog 23 = true := by kernel_rfl
theorem cal24 : callable Tryd.prog 24 = true := by kernel_rfl
theorem cal25 : callable Tryd.prog 25 = true := by kernel_rfl
theorem cal26 : callable Tryd.prog 26 = true := by kernel_rfl
theorem cal27 : callable Tryd.prog 27 = true := by kernel_rfl
theorem cal28 : callable Tryd.prog 28 = true := by kernel_rfl
theorem cal29 : callable Tryd.prog 29 = true := by kernel_rfl
theorem cal3 : callable Tryd.prog 3 = true := by kernel_rfl
theorem cal30 : callable Tryd.prog 30 = true := by kernel_rfl
theorem cal31 : callable Tryd.prog 31 = true := by kernel_rfl
theorem cal32 : callable Tryd.prog 32 = true := by kernel_rfl
theorem cal33 : callable Tryd.prog 33 = true := by kernel_rfl
theorem cal34 : callable Tryd.prog 34 = true := by kernel_rfl
theorem cal35 : callable Tryd.prog 35 = true := by kernel_rfl
theorem cal36 : callable Tryd.prog 36 = true := by kernel_rfl
theorem cal37 : callable Tryd.prog 37 = true := by kernel_rfl
theorem cal38 : callable Tryd.prog 38 = true := by kernel_rfl
theorem cal39 : callable Tryd.prog 39 = true := by kernel_rfl
theorem cal4 : callable Tryd.prog 4 = true := by kernel_rfl
theorem cal40 : callable Tryd.prog 40 = true := by kernel_rfl
theorem cal41 : callable Tryd.prog 41 = true := by kernel_rfl
theorem cal42 : callable Tryd.prog 42 = true := by kernel_rfl
theorem cal43 : callable Tryd.prog 43 = true := by kernel_rfl
theorem cal44 : callable Tryd.prog 44 = true := by kernel_rfl
theorem cal45 : callable Tryd.prog 45 = true := by kernel_rfl
theorem cal46 : callable Tryd.prog 46 = true := by kernel_rfl
theorem cal47 : callable Tryd.prog 47 = true := by kernel_rfl
theorem cal48 : callable Tryd.prog 48 = true := by kernel_rfl
theorem cal49 : callable Tryd.prog 49 = true := by kernel_rfl
theorem cal5 : callable Tryd.prog 5 = true := by kernel_rfl
theorem cal50 : callable Tryd.prog 50 = true := by kernel_rfl
theorem cal51 : callable Tryd.prog 51 = true := by kernel_rfl
theorem cal52 : callable Tryd.prog 52 = true := by kernel_rfl
theorem cal53 : callable Tryd.prog 53 = true := by kernel_rfl
theorem cal54 : callable Tryd.prog 54 = true := by kernel_rfl
theorem cal55 : callable Tryd.prog 55 = true := by kernel_rfl
theorem cal56 : callable Tryd.prog 56 = true := by kernel_rfl
theorem cal57 : callable Tryd.prog 57 = true := by kernel_rfl
theorem cal58 : callable Tryd.prog 58 = true := by kernel_rfl
theorem cal59 : callable Tryd.prog 59 = true := by kernel_rfl
theorem cal6 : callable Tryd.prog 6 = true := by kernel_rfl
theorem cal60 : callable Tryd.prog 60 = true := by kernel_rfl
theorem cal61 : callable Tryd.prog 61 = true := by kernel_rfl
theorem cal62 : callable Tryd.prog 62 = true := by kernel_rfl
theorem cal63 : callable Tryd.prog 63 = true := by kernel_rfl
theorem cal67 : callable Tryd.prog 67 = true := by kernel_rfl
theorem cal68 : callable Tryd.prog 68 = true := by kernel_rfl
theorem cal69 : callable Tryd.prog 69 = true := by kernel_rfl
theorem cal7 : callable Tryd.prog 7 = true := by kernel_rfl
theorem cal70 : callable Tryd.prog 70 = true := by kernel_rfl
theorem cal72 : callable Tryd.prog 72 = true := by kernel_rfl
theorem cal73 : callable Tryd.prog 73 = true := by kernel_rfl
theorem cal74 : callable Tryd.prog 74 = true := by kernel_rfl
theorem cal75 : callable Tryd.prog 75 = true := by kernel_rfl
theorem cal76 : callable Tryd.prog 76 = true := by kernel_rfl
theorem cal77 : callable Tryd.prog 77 = true := by kernel_rfl
theorem cal78 : callable Tryd.prog 78 = true := by kernel_rfl
theorem cal79 : callable Tryd.prog 79 = true := by kernel_rfl
theorem cal8 : callable Tryd.prog 8 = true := by kernel_rfl
theorem cal80 : callable Tryd.prog 80 = true := by kernel_rfl
theorem cal81 : callable Tryd.prog 81 = true := by kernel_rfl
theorem cal82 : callable Tryd.prog 82 = true := by kernel_rfl
theorem cal83 : callable Tryd.prog 83 = true := by kernel_rfl
theorem cal84 : callable Tryd.prog 84 = true := by kernel_rfl
theorem cal85 : callable Tryd.prog 85 = true := by kernel_rfl
theorem cal88 : callable Tryd.prog 88 = true := by kernel_rfl
theorem cal89 : callable Tryd.prog 89 = true := by kernel_rfl
theorem cal9 : callable Tryd.prog 9 = true := by kernel_rfl
theorem ft_123_0 : fieldT Tryd.prog 123 0 = some 0 := by kernel_rfl
theorem ft_123_1 : fieldT Tryd.prog 123 1 = some 1 := by kernel_rfl
theorem ft_24_0 : fieldT Tryd.prog 24 0 = some 0 := by kernel_rfl
theorem ft_24_1 : fieldT Tryd.prog 24 1 = some 1 := by kernel_rfl
theorem ft_45_0 : fieldT Tryd.prog 45 0 = some 0 := by kernel_rfl
theorem ft_45_1 : fieldT Tryd.prog 45 1 = some 1 := by kernel_rfl
theorem ft_45_2 : fieldT Tryd.prog 45 2 = some 2 := by kernel_rfl
theorem ft_47_0 : fieldT Tryd.prog 47 0 = some 0 := by kernel_rfl
theorem ft_47_1 : fieldT Tryd.prog 47 1 = some 1 := by kernel_rfl
theorem ft_47_2 : fieldT Tryd.prog 47 2 = some 2 := by kernel_rfl
theorem ft_47_3 : fieldT Tryd.prog 47 3 = some 5 := by kernel_rfl
theorem ft_90_0 : fieldT Tryd.prog 90 0 = some 0 := by kernel_rfl
theorem ft_90_1 : fieldT Tryd.prog 90 1 = some 1 := by kernel_rfl
theorem ft_90_2 : fieldT Tryd.prog 90 2 = some 2 := by kernel_rfl
theorem ft_90_3 : fieldT Tryd.prog 90 3 = some 3 := by kernel_rfl
theorem if_9 : isIfaceT Tryd.prog 9 = some false := by kernel_rfl
theorem it_2 : intT Tryd.prog 2 = some .i64 := by kernel_rfl
theorem it_21 : intT Tryd.prog 21 = some .i32 := by kernel_rfl
theorem it_3 : intT Tryd.prog 3 = some .i64 := by kernel_rfl
theorem it_5 : intT Tryd.prog 5 = some .u8 := by kernel_rfl
theorem it_71 : intT Tryd.prog 71 = some .u64 := by kernel_rfl
theorem kt_22 : kindT Tryd.prog 22 = some 1 := by kernel_rfl
theorem kt_33 : kindT Tryd.prog 33 = some 1 := by kernel_rfl
theorem kt_36 : kindT Tryd.prog 36 = some 1 := by kernel_rfl
theorem kt_43 : kindT Tryd.prog 43 = some 1 := by kernel_rfl
theorem lt_2 : loadT Tryd.prog 2 = some none := by kernel_rfl
theorem lt_22 : loadT Tryd.prog 22 = some none := by kernel_rfl
theorem lt_24 : loadT Tryd.prog 24 = some (some 2) := by kernel_rfl
theorem lt_3 : loadT Tryd.prog 3 = some none := by kernel_rfl
theorem lt_33 : loadT Tryd.prog 33 = some none := by kernel_rfl
theorem lt_4 : loadT Tryd.prog 4 = some none := by kernel_rfl
theorem lt_43 : loadT Tryd.prog 43 = some none := by kernel_rfl
theorem lt_45 : loadT Tryd.prog 45 = some (some 3) := by kernel_rfl
theorem lt_47 : loadT Tryd.prog 47 = some (some 6) := by kernel_rfl
theorem lt_5 : loadT Tryd.prog 5 = some none := by kernel_rfl
theorem lt_76 : loadT Tryd.prog 76 = some none := by kernel_rfl
theorem lt_90 : loadT Tryd.prog 90 = some (some 4) := by kernel_rfl
theorem lt_93 : loadT Tryd.prog 93 = some (some 2) := by kernel_rfl
theorem mt_81 : mapT Tryd.prog 81 = some (3, 3, .int .i64) := by kernel_rfl
theorem pl_123 : bplT Tryd.prog 123 = some (.inl [(0, 1), (1, 1)]) := by kernel_rfl
theorem pl_24 : bplT Tryd.prog 24 = some (.inl [(0, 1), (1, 1)]) := by kernel_rfl
theorem pl_45 : bplT Tryd.prog 45 = some (.inl [(0, 1), (1, 1), (2, 1)]) := by kernel_rfl
theorem pl_47 : bplT Tryd.prog 47 = some (.inl [(0, 1), (1, 1), (2, 3), (5, 1)]) := by kernel_rfl
theorem pl_93 : bplT Tryd.prog 93 = some (.inl [(0, 1), (1, 1)]) := by kernel_rfl
theorem sl_22 : slT Tryd.prog 22 = some ⟨47, [.int .i64 0, .snil, .int .i64 0, .int .i64 0, .snil, .int .i64 0], 6, 80⟩ := by kernel_rfl
theorem sl_33 : slT Tryd.prog 33 = some ⟨3, [.int .i64 0], 1, 8⟩ := by kernel_rfl
theorem sl_36 : slT Tryd.prog 36 = some ⟨5, [.int .u8 0], 1, 1⟩ := by kernel_rfl
theorem sl_43 : slT Tryd.prog 43 = some ⟨45, [.int .i64 0, .int .i64 0, .snil], 3, 40⟩ := by kernel_rfl
theorem sl_83 : slT Tryd.prog 83 = some ⟨4, [.bool false], 1, 1⟩ := by kernel_rfl
theorem ss_126 : slSz Tryd.prog 126 = none := by kernel_rfl
theorem ss_22 : slSz Tryd.prog 22 = some 6 := by kernel_rfl
theorem ss_33 : slSz Tryd.prog 33 = some 1 := by kernel_rfl
theorem ss_43 : slSz Tryd.prog 43 = some 3 := by kernel_rfl
theorem ss_61 : slSz Tryd.prog 61 = none := by kernel_rfl
theorem ss_83 : slSz Tryd.prog 83 = some 1 := by kernel_rfl
theorem ss_91 : slSz Tryd.prog 91 = none := by kernel_rfl
theorem st_9 : strT Tryd.prog 9 = true := by kernel_rfl
theorem z0_3 : zeroT Tryd.prog 3 = some (.int .i64 0) := by kernel_rfl
theorem zc_123 : zeroC Tryd.prog 123 = some [.pnil, .int .i64 0] := by kernel_rfl
theorem zc_24 : zeroC Tryd.prog 24 = some [.snil, .int .i64 0] := by kernel_rfl
theorem zc_33 : zeroC Tryd.prog 33 = some [.snil] := by kernel_rfl
theorem zc_45 : zeroC Tryd.prog 45 = some [.int .i64 0, .int .i64 0, .snil] := by kernel_rfl
theorem zc_47 : zeroC Tryd.prog 47 = some [.int .i64 0, .snil, .int .i64 0, .int .i64 0, .snil, .int .i64 0] := by kernel_rfl
theorem zc_93 : zeroC Tryd.prog 93 = some [.int .i64 0, .int .i64 0] := by kernel_rfl
theorem zt_123 : sizeT Tryd.prog 123 = some 2 := by kernel_rfl
theorem zt_2 : sizeT Tryd.prog 2 = some 1 := by kernel_rfl
theorem zt_22 : sizeT Tryd.prog 22 = some 1 := by kernel_rfl
theorem zt_24 : sizeT Tryd.prog 24 = some 2 := by kernel_rfl
theorem zt_3 : sizeT Tryd.prog 3 = some 1 := by kernel_rfl
theorem zt_33 : sizeT Tryd.prog 33 = some 1 := by kernel_rfl
theorem zt_4 : sizeT Tryd.prog 4 = some 1 := by kernel_rfl
theorem zt_43 : sizeT Tryd.prog 43 = some 1 := by kernel_rfl
theorem zt_45 : sizeT Tryd.prog 45 = some 3 := by kernel_rfl
theorem zt_47 : sizeT Tryd.prog 47 = some 6 := by kernel_rfl
theorem zt_93 : sizeT Tryd.prog 93 = some 2 := by kernel_rfl
end Go.Proofs.YtpmmbcifhallbaaDoor.Pk
