/-
  What functions of the program do, told of abstract states. Conditions: as each theorem says.
-/
import Derived.Test.YtlbekgogjlchjaaAbD
import Derived.Test.YtlbekgogjlchjaaAbD
import Derived.Test.YtlbekgogjlchjaaAbD
import Derived.Test.YtlbekgogjlchjaaProg
namespace Go.Proofs.Ytlbekgogjlchjaa.Pk
open Go Go.Proofs Go.Proofs.Ytlbekgogjlchjaa.Ab

theorem as_167 : arSz Try.prog 167 = some (4, 1) := by kernel_rfl
theorem as_22 : arSz Try.prog 22 = none := by kernel_rfl
theorem as_30 : arSz Try.prog 30 = none := by kernel_rfl
theorem as_33 : arSz Try.prog 33 = none := by kernel_rfl
theorem as_48 : arSz Try.prog 48 = none := by kernel_rfl
theorem as_50 : arSz Try.prog 50 = none := by kernel_rfl
theorem as_54 : arSz Try.prog 54 = none := by kernel_rfl
theorem as_55 : arSz Try.prog 55 = none := by kernel_rfl
theorem as_91 : arSz Try.prog 91 = none := by kernel_rfl
theorem as_92 : arSz Try.prog 92 = none := by kernel_rfl
theorem as_97 : arSz Try.prog 97 = none := by kernel_rfl
theorem bt_4 : boolT Try.prog 4 = true := by kernel_rfl
theorem cal10 : callable Try.prog 10 = true := by kernel_rfl
theorem cal100 : callable Try.prog 100 = true := by kernel_rfl
theorem cal101 : callable Try.prog 101 = true := by kernel_rfl
theorem cal102 : callable Try.prog 102 = true := by kernel_rfl
theorem cal105 : callable Try.prog 105 = true := by kernel_rfl
theorem cal11 : callable Try.prog 11 = true := by kernel_rfl
theorem cal111 : callable Try.prog 111 = true := by kernel_rfl
theorem cal113 : callable Try.prog 113 = true := by kernel_rfl
theorem cal12 : callable Try.prog 12 = true := by kernel_rfl
theorem cal129 : callable Try.prog 129 = true := by kernel_rfl
theorem cal13 : callable Try.prog 13 = true := by kernel_rfl
theorem cal130 : callable Try.prog 130 = true := by kernel_rfl
theorem cal14 : callable Try.prog 14 = true := by kernel_rfl
theorem cal15 : callable Try.prog 15 = true := by kernel_rfl
theorem cal16 : callable Try.prog 16 = true := by kernel_rfl
theorem cal17 : callable Try.prog 17 = true := by kernel_rfl
theorem cal18 : callable Try.prog 18 = true := by kernel_rfl
theorem cal19 : callable Try.prog 19 = true := by kernel_rfl
theorem cal20 : callable Try.prog 20 = true := by kernel_rfl
theorem cal21 : callable Try.prog 21 = true := by kernel_rfl
theorem cal22 : callable Try.prog 22 = true := by kernel_rfl
theorem cal23 : callable Try.prog 23 = true := by kernel_rfl
theorem cal24 : callable Try.prog 24 = true := by kernel_rfl
theorem cal25 : callable Try.prog 25 = true := by kernel_rfl
theorem cal26 : callable Try.prog 26 = true := by kernel_rfl
theorem cal27 : callable Try.prog 27 = true := by kernel_rfl
theorem cal28 : callable Try.prog 28 = true := by kernel_rfl
theorem cal29 : callable Try.prog 29 = true := by kernel_rfl
theorem cal3 : callable Try.prog 3 = true := by kernel_rfl
theorem cal30 : callable Try.prog 30 = true := by kernel_rfl
theorem cal31 : callable Try.prog 31 = true := by kernel_rfl
theorem cal32 : callable Try.prog 32 = true := by kernel_rfl
theorem cal33 : callable Try.prog 33 = true := by kernel_rfl
theorem cal34 : callable Try.prog 34 = true := by kernel_rfl
theorem cal35 : callable Try.prog 35 = true := by kernel_rfl
theorem cal36 : callable Try.prog 36 = true := by kernel_rfl
theorem cal37 : callable Try.prog 37 = true := by kernel_rfl
theorem cal38 : callable Try.prog 38 = true := by kernel_rfl
theorem cal39 : callable Try.prog 39 = true := by kernel_rfl
theorem cal4 : callable Try.prog 4 = true := by kernel_rfl
theorem cal40 : callable Try.prog 40 = true := by kernel_rfl
theorem cal41 : callable Try.prog 41 = true := by kernel_rfl
theorem cal42 : callable Try.prog 42 = true := by kernel_rfl
theorem cal43 : callable Try.prog 43 = true := by kernel_rfl
theorem cal44 : callable Try.prog 44 = true := by kernel_rfl
theorem cal45 : callable Try.prog 45 = true := by kernel_rfl
theorem cal46 : callable Try.prog 46 = true := by kernel_rfl
theorem cal47 : callable Try.prog 47 = true := by kernel_rfl
theorem cal48 : callable Try.prog 48 = true := by kernel_rfl
theorem cal49 : callable Try.prog 49 = true := by kernel_rfl
theorem cal5 : callable Try.prog 5 = true := by kernel_rfl
theorem cal50 : callable Try.prog 50 = true := by kernel_rfl
theorem cal51 : callable Try.prog 51 = true := by kernel_rfl
theorem cal52 : callable Try.prog 52 = true := by kernel_rfl
theorem cal53 : callable Try.prog 53 = true := by kernel_rfl
theorem cal54 : callable Try.prog 54 = true := by kernel_rfl
theorem cal55 : callable Try.prog 55 = true := by kernel_rfl
theorem cal56 : callable Try.prog 56 = true := by kernel_rfl
theorem cal57 : callable Try.prog 57 = true := by kernel_rfl
theorem cal58 : callable Try.prog 58 = true := by kernel_rfl
theorem cal59 : callable Try.prog 59 = true := by kernel_rfl
theorem cal6 : callable Try.prog 6 = true := by kernel_rfl
theorem cal60 : callable Try.prog 60 = true := by kernel_rfl
theorem cal61 : callable Try.prog 61 = true := by kernel_rfl
theorem cal62 : callable Try.prog 62 = true := by kernel_rfl
theorem cal63 : callable Try.prog 63 = true := by kernel_rfl
theorem cal64 : callable Try.prog 64 = true := by kernel_rfl
theorem cal65 : callable Try.prog 65 = true := by kernel_rfl
theorem cal66 : callable Try.prog 66 = true := by kernel_rfl
theorem cal67 : callable Try.prog 67 = true := by kernel_rfl
theorem cal68 : callable Try.prog 68 = true := by kernel_rfl
theorem cal69 : callable Try.prog 69 = true := by kernel_rfl
theorem cal7 : callable Try.prog 7 = true := by kernel_rfl
theorem cal70 : callable Try.prog 70 = true := by kernel_rfl
theorem cal71 : callable Try.prog 71 = true := by kernel_rfl
theorem cal72 : callable Try.prog 72 = true := by kernel_rfl
theorem cal73 : callable Try.prog 73 = true := by kernel_rfl
theorem cal74 : callable Try.prog 74 = true := by kernel_rfl
theorem cal75 : callable Try.prog 75 = true := by kernel_rfl
theorem cal76 : callable Try.prog 76 = true := by kernel_rfl
theorem cal77 : callable Try.prog 77 = true := by kernel_rfl
theorem cal78 : callable Try.prog 78 = true := by kernel_rfl
theorem cal79 : callable Try.prog 79 = true := by kernel_rfl
theorem cal8 : callable Try.prog 8 = true := by kernel_rfl
theorem cal80 : callable Try.prog 80 = true := by kernel_rfl
theorem cal81 : callable Try.prog 81 = true := by kernel_rfl
theorem cal82 : callable Try.prog 82 = true := by kernel_rfl
theorem cal83 : callable Try.prog 83 = true := by kernel_rfl
theorem cal84 : callable Try.prog 84 = true := by kernel_rfl
theorem cal85 : callable Try.prog 85 = true := by kernel_rfl
theorem cal86 : callable Try.prog 86 = true := by kernel_rfl
theorem cal87 : callable Try.prog 87 = true := by kernel_rfl
theorem cal88 : callable Try.prog 88 = true := by kernel_rfl
theorem cal89 : callable Try.prog 89 = true := by kernel_rfl
theorem cal9 : callable Try.prog 9 = true := by kernel_rfl
theorem cal90 : callable Try.prog 90 = true := by kernel_rfl
theorem cal91 : callable Try.prog 91 = true := by kernel_rfl
theorem cal92 : callable Try.prog 92 = true := by kernel_rfl
theorem cal93 : callable Try.prog 93 = true := by kernel_rfl
theorem cal94 : callable Try.prog 94 = true := by kernel_rfl
theorem cal95 : callable Try.prog 95 = true := by kernel_rfl
theorem cal96 : callable Try.prog 96 = true := by kernel_rfl
theorem cal97 : callable Try.prog 97 = true := by kernel_rfl
theorem cal98 : callable Try.prog 98 = true := by kernel_rfl
theorem cal99 : callable Try.prog 99 = true := by kernel_rfl
theorem ft_106_0 : fieldT Try.prog 106 0 = some 0 := by kernel_rfl
theorem ft_106_1 : fieldT Try.prog 106 1 = some 1 := by kernel_rfl
theorem ft_106_2 : fieldT Try.prog 106 2 = some 2 := by kernel_rfl
theorem ft_110_0 : fieldT Try.prog 110 0 = some 0 := by kernel_rfl
theorem ft_130_0 : fieldT Try.prog 130 0 = some 0 := by kernel_rfl
theorem ft_32_0 : fieldT Try.prog 32 0 = some 0 := by kernel_rfl
theorem ft_32_1 : fieldT Try.prog 32 1 = some 1 := by kernel_rfl
theorem ft_32_2 : fieldT Try.prog 32 2 = some 2 := by kernel_rfl
theorem ft_32_3 : fieldT Try.prog 32 3 = some 3 := by kernel_rfl
theorem ft_32_4 : fieldT Try.prog 32 4 = some 4 := by kernel_rfl
theorem ft_32_5 : fieldT Try.prog 32 5 = some 5 := by kernel_rfl
theorem ft_39_0 : fieldT Try.prog 39 0 = some 0 := by kernel_rfl
theorem ft_39_1 : fieldT Try.prog 39 1 = some 1 := by kernel_rfl
theorem ft_39_2 : fieldT Try.prog 39 2 = some 2 := by kernel_rfl
theorem ft_57_0 : fieldT Try.prog 57 0 = some 0 := by kernel_rfl
theorem ft_57_1 : fieldT Try.prog 57 1 = some 1 := by kernel_rfl
theorem ft_57_2 : fieldT Try.prog 57 2 = some 2 := by kernel_rfl
theorem ft_57_3 : fieldT Try.prog 57 3 = some 3 := by kernel_rfl
theorem ft_57_4 : fieldT Try.prog 57 4 = some 4 := by kernel_rfl
theorem ft_57_5 : fieldT Try.prog 57 5 = some 5 := by kernel_rfl
theorem ft_73_0 : fieldT Try.prog 73 0 = some 0 := by kernel_rfl
theorem ft_73_1 : fieldT Try.prog 73 1 = some 1 := by kernel_rfl
theorem ft_73_2 : fieldT Try.prog 73 2 = some 2 := by kernel_rfl
theorem ft_78_0 : fieldT Try.prog 78 0 = some 0 := by kernel_rfl
theorem ft_78_1 : fieldT Try.prog 78 1 = some 1 := by kernel_rfl
theorem ft_78_2 : fieldT Try.prog 78 2 = some 2 := by kernel_rfl
theorem ft_80_0 : fieldT Try.prog 80 0 = some 0 := by kernel_rfl
theorem ft_80_1 : fieldT Try.prog 80 1 = some 1 := by kernel_rfl
theorem ft_80_2 : fieldT Try.prog 80 2 = some 2 := by kernel_rfl
theorem ft_80_3 : fieldT Try.prog 80 3 = some 3 := by kernel_rfl
theorem ft_94_0 : fieldT Try.prog 94 0 = some 0 := by kernel_rfl
theorem ft_94_1 : fieldT Try.prog 94 1 = some 1 := by kernel_rfl
theorem ft_94_2 : fieldT Try.prog 94 2 = some 2 := by kernel_rfl
theorem ft_94_3 : fieldT Try.prog 94 3 = some 3 := by kernel_rfl
theorem ft_94_4 : fieldT Try.prog 94 4 = some 4 := by kernel_rfl
theorem if_24 : isIfaceT Try.prog 24 = some false := by kernel_rfl
theorem it_131 : intT Try.prog 131 = some .u64 := by kernel_rfl
theorem it_140 : intT Try.prog 140 = some .u64 := by kernel_rfl
theorem it_161 : intT Try.prog 161 = some .u32 := by kernel_rfl
theorem it_3 : intT Try.prog 3 = some .i64 := by kernel_rfl
theorem it_44 : intT Try.prog 44 = some .u16 := by kernel_rfl
theorem it_5 : intT Try.prog 5 = some .u8 := by kernel_rfl
theorem kt_104 : kindT Try.prog 104 = some 0 := by kernel_rfl
theorem kt_113 : kindT Try.prog 113 = some 0 := by kernel_rfl
theorem kt_22 : kindT Try.prog 22 = some 1 := by kernel_rfl
theorem kt_24 : kindT Try.prog 24 = some 0 := by kernel_rfl
theorem kt_28 : kindT Try.prog 28 = some 0 := by kernel_rfl
theorem kt_30 : kindT Try.prog 30 = some 1 := by kernel_rfl
theorem kt_33 : kindT Try.prog 33 = some 1 := by kernel_rfl
theorem kt_48 : kindT Try.prog 48 = some 1 := by kernel_rfl
theorem kt_50 : kindT Try.prog 50 = some 1 := by kernel_rfl
theorem kt_51 : kindT Try.prog 51 = some 0 := by kernel_rfl
theorem kt_54 : kindT Try.prog 54 = some 1 := by kernel_rfl
theorem kt_55 : kindT Try.prog 55 = some 1 := by kernel_rfl
theorem kt_74 : kindT Try.prog 74 = some 0 := by kernel_rfl
theorem kt_91 : kindT Try.prog 91 = some 1 := by kernel_rfl
theorem kt_92 : kindT Try.prog 92 = some 1 := by kernel_rfl
theorem kt_97 : kindT Try.prog 97 = some 1 := by kernel_rfl
theorem lt_104 : loadT Try.prog 104 = some none := by kernel_rfl
theorem lt_108 : loadT Try.prog 108 = some none := by kernel_rfl
theorem lt_167 : loadT Try.prog 167 = some (some 4) := by kernel_rfl
theorem lt_24 : loadT Try.prog 24 = some none := by kernel_rfl
theorem lt_28 : loadT Try.prog 28 = some none := by kernel_rfl
theorem lt_3 : loadT Try.prog 3 = some none := by kernel_rfl
theorem lt_30 : loadT Try.prog 30 = some none := by kernel_rfl
theorem lt_32 : loadT Try.prog 32 = some (some 6) := by kernel_rfl
theorem lt_33 : loadT Try.prog 33 = some none := by kernel_rfl
theorem lt_39 : loadT Try.prog 39 = some (some 3) := by kernel_rfl
theorem lt_4 : loadT Try.prog 4 = some none := by kernel_rfl
theorem lt_44 : loadT Try.prog 44 = some none := by kernel_rfl
theorem lt_5 : loadT Try.prog 5 = some none := by kernel_rfl
theorem lt_51 : loadT Try.prog 51 = some none := by kernel_rfl
theorem lt_54 : loadT Try.prog 54 = some none := by kernel_rfl
theorem lt_55 : loadT Try.prog 55 = some none := by kernel_rfl
theorem lt_57 : loadT Try.prog 57 = some (some 6) := by kernel_rfl
theorem lt_74 : loadT Try.prog 74 = some none := by kernel_rfl
theorem lt_76 : loadT Try.prog 76 = some none := by kernel_rfl
theorem lt_80 : loadT Try.prog 80 = some (some 4) := by kernel_rfl
theorem lt_91 : loadT Try.prog 91 = some none := by kernel_rfl
theorem lt_92 : loadT Try.prog 92 = some none := by kernel_rfl
theorem lt_97 : loadT Try.prog 97 = some none := by kernel_rfl
theorem mt_124 : mapT Try.prog 124 = some (3, 33, .int .i64) := by kernel_rfl
theorem mt_76 : mapT Try.prog 76 = some (3, 39, .int .i64) := by kernel_rfl
theorem pl_106 : bplT Try.prog 106 = some (.inl [(0, 1), (1, 1), (2, 1)]) := by kernel_rfl
theorem pl_110 : bplT Try.prog 110 = some (.inl [(0, 1)]) := by kernel_rfl
theorem pl_130 : bplT Try.prog 130 = some (.inl [(0, 1)]) := by kernel_rfl
theorem pl_39 : bplT Try.prog 39 = some (.inl [(0, 1), (1, 1), (2, 1)]) := by kernel_rfl
theorem pl_73 : bplT Try.prog 73 = some (.inl [(0, 1), (1, 1), (2, 1)]) := by kernel_rfl
theorem pl_78 : bplT Try.prog 78 = some (.inl [(0, 1), (1, 1), (2, 1)]) := by kernel_rfl
theorem pl_80 : bplT Try.prog 80 = some (.inl [(0, 1), (1, 1), (2, 1), (3, 1)]) := by kernel_rfl
theorem pl_94 : bplT Try.prog 94 = some (.inl [(0, 1), (1, 1), (2, 1), (3, 1), (4, 1)]) := by kernel_rfl
theorem sl_30 : slT Try.prog 30 = some ⟨5, [.int .u8 0], 1, 1⟩ := by kernel_rfl
theorem sl_33 : slT Try.prog 33 = some ⟨39, [.int .i64 0, .int .i64 0, .snil], 3, 40⟩ := by kernel_rfl
theorem sl_54 : slT Try.prog 54 = some ⟨30, [.snil], 1, 24⟩ := by kernel_rfl
theorem sl_55 : slT Try.prog 55 = some ⟨4, [.bool false], 1, 1⟩ := by kernel_rfl
theorem sl_91 : slT Try.prog 91 = some ⟨24, [.pnil], 1, 8⟩ := by kernel_rfl
theorem sl_92 : slT Try.prog 92 = some ⟨28, [.pnil], 1, 8⟩ := by kernel_rfl
theorem sl_97 : slT Try.prog 97 = some ⟨33, [.snil], 1, 24⟩ := by kernel_rfl
theorem ss_167 : slSz Try.prog 167 = none := by kernel_rfl
theorem ss_22 : slSz Try.prog 22 = some 6 := by kernel_rfl
theorem ss_30 : slSz Try.prog 30 = some 1 := by kernel_rfl
theorem ss_33 : slSz Try.prog 33 = some 3 := by kernel_rfl
theorem ss_48 : slSz Try.prog 48 = some 1 := by kernel_rfl
theorem ss_50 : slSz Try.prog 50 = some 6 := by kernel_rfl
theorem ss_54 : slSz Try.prog 54 = some 1 := by kernel_rfl
theorem ss_55 : slSz Try.prog 55 = some 1 := by kernel_rfl
theorem ss_91 : slSz Try.prog 91 = some 1 := by kernel_rfl
theorem ss_92 : slSz Try.prog 92 = some 1 := by kernel_rfl
theorem ss_97 : slSz Try.prog 97 = some 1 := by kernel_rfl
theorem st_9 : strT Try.prog 9 = true := by kernel_rfl
theorem z0_33 : zeroT Try.prog 33 = some (.slice none 0 0) := by kernel_rfl
theorem z0_39 : zeroT Try.prog 39 = some (.agg #[.int .i64 0, .int .i64 0, .slice none 0 0]) := by kernel_rfl
theorem zc_106 : zeroC Try.prog 106 = some [.pnil, .snil, .int .i64 0] := by kernel_rfl
theorem zc_110 : zeroC Try.prog 110 = some [.nilIface] := by kernel_rfl
theorem zc_130 : zeroC Try.prog 130 = some [.snil] := by kernel_rfl
theorem zc_145 : zeroC Try.prog 145 = some [.int .i64 0] := by kernel_rfl
theorem zc_167 : zeroC Try.prog 167 = some [.int .u8 0, .int .u8 0, .int .u8 0, .int .u8 0] := by kernel_rfl
theorem zc_32 : zeroC Try.prog 32 = some [.int .i64 0, .int .i64 0, .int .i64 0, .int .i64 0, .int .i64 0, .snil] := by kernel_rfl
theorem zc_39 : zeroC Try.prog 39 = some [.int .i64 0, .int .i64 0, .snil] := by kernel_rfl
theorem zc_57 : zeroC Try.prog 57 = some [.int .i64 0, .int .i64 0, .int .i64 0, .int .i64 0, .snil, .snil] := by kernel_rfl
theorem zc_73 : zeroC Try.prog 73 = some [.int .i64 0, .snil, .int .i64 0] := by kernel_rfl
theorem zc_78 : zeroC Try.prog 78 = some [.pnil, .int .i64 0, .mnil] := by kernel_rfl
theorem zc_80 : zeroC Try.prog 80 = some [.int .i64 0, .int .i64 0, .int .i64 0, .snil] := by kernel_rfl
theorem zc_94 : zeroC Try.prog 94 = some [.snil, .snil, .bool false, .int .i64 0, .snil] := by kernel_rfl
theorem zc_97 : zeroC Try.prog 97 = some [.snil] := by kernel_rfl
theorem zt_167 : sizeT Try.prog 167 = some 4 := by kernel_rfl
theorem zt_28 : sizeT Try.prog 28 = some 1 := by kernel_rfl
theorem zt_3 : sizeT Try.prog 3 = some 1 := by kernel_rfl
theorem zt_30 : sizeT Try.prog 30 = some 1 := by kernel_rfl
theorem zt_32 : sizeT Try.prog 32 = some 6 := by kernel_rfl
theorem zt_39 : sizeT Try.prog 39 = some 3 := by kernel_rfl
theorem zt_4 : sizeT Try.prog 4 = some 1 := by kernel_rfl
theorem zt_5 : sizeT Try.prog 5 = some 1 := by kernel_rfl
theorem zt_54 : sizeT Try.prog 54 = some 1 := by kernel_rfl
theorem zt_57 : sizeT Try.prog 57 = some 6 := by kernel_rfl
theorem zt_80 : sizeT Try.prog 80 = some 4 := by kernel_rfl
theorem zt_91 : sizeT Try.prog 91 = some 1 := by kernel_rfl
theorem zt_92 : sizeT Try.prog 92 = some 1 := by kernel_rfl
theorem zt_97 : sizeT Try.prog 97 = some 1 := by kernel_rfl
end Go.Proofs.Ytlbekgogjlchjaa.Pk
