/-
  What functions of the program do, told of abstract states. Conditions: as each theorem says.
-/
import Derived.Test.YtpjfhfmbhjghcaaDoorAbD
import Derived.Test.YtpjfhfmbhjghcaaDoorAbD
import Derived.Test.YtpjfhfmbhjghcaaDoorAbD
import Derived.Test.YtpjfhfmbhjghcaaDoorAbD
import Derived.Test.YtpjfhfmbhjghcaaDoorProg
namespace Go.Proofs.YtpjfhfmbhjghcaaDoor.Pk
open Go Go.Proofs Go.Proofs.YtpjfhfmbhjghcaaDoor.Ab

theorem as_105 : arSz Tryd.prog 105 = none := by kernel_rfl
theorem as_115 : arSz Tryd.prog 115 = some (17, 1) := by kernel_rfl
theorem as_22 : arSz Tryd.prog 22 = none := by kernel_rfl
theorem as_28 : arSz Tryd.prog 28 = none := by kernel_rfl
theorem as_29 : arSz Tryd.prog 29 = none := by kernel_rfl
theorem as_37 : arSz Tryd.prog 37 = none := by kernel_rfl
theorem as_48 : arSz Tryd.prog 48 = none := by kernel_rfl
theorem as_99 : arSz Tryd.prog 99 = none := by kernel_rfl
theorem bt_4 : boolT Tryd.prog 4 = true := by kernel_rfl
theorem cal10 : callable Tryd.prog 10 = true := by kernel_rfl
theorem cal11 : callable Tryd.prog 11 = true := by kernel_rfl
theorem cal12 : callable Tryd.prog 12 = true := by kernel_rfl
theorem cal13 : callable Tryd.prog 13 = true := by kernel_rfl
theorem cal14 : callable Tryd.prog 14 = true := by kernel_rfl
theorem cal15 : callable Tryd.prog 15 = true := by kernel_rfl
theorem cal16 : callable Tryd.prog 16 = true := by kernel_rfl
theorem cal17 : callable Tryd.prog 17 = true := by kernel_rfl
theorem cal18 : callable Tryd.prog 18 = true := by kernel_rfl
theorem cal19 : callable Tryd.prog 19 = true := by kernel_rfl
theorem cal20 : callable Tryd.prog 20 = true := by kernel_rfl
theorem cal21 : callable Tryd.prog 21 = true := by kernel_rfl
theorem cal22 : callable Tryd.prog 22 = true := by kernel_rfl
theorem cal23 : callable Tryd.prog 23 = true := by kernel_rfl
theorem cal24 : callable Tryd.prog 24 = true := by kernel_rfl
theorem cal25 : callable Tryd.prog 25 = true := by kernel_rfl
theorem cal26 : callable Tryd.prog 26 = true := by kernel_rfl
theorem cal27 : callable Tryd.prog 27 = true := by kernel_rfl
theorem cal28 : callable Tryd.prog 28 = true := by kernel_rfl
theorem cal29 : callable Tryd.prog 29 = true := by kernel_rfl
theorem cal3 : callable Tryd.prog 3 = true := by kernel_rfl
theorem cal30 : callable Tryd.prog 30 = true := by kernel_rfl
theorem cal31 : callable Tryd.prog 31 = true := by kernel_rfl
theorem cal32 : callable Tryd.prog 32 = true := by kernel_rfl
theorem cal33 : callable Tryd.prog 33 = true := by kernel_rfl
theorem cal34 : callable Tryd.prog 34 = true := by kernel_rfl
theorem cal35 : callable Tryd.prog 35 = true := by kernel_rfl
theorem cal36 : callable Tryd.prog 36 = true := by kernel_rfl
theorem cal37 : callable Tryd.prog 37 = true := by kernel_rfl
theorem cal38 : callable Tryd.prog 38 = true := by kernel_rfl
theorem cal39 : callable Tryd.prog 39 = true := by kernel_rfl
theorem cal4 : callable Tryd.prog 4 = true := by kernel_rfl
theorem cal40 : callable Tryd.prog 40 = true := by kernel_rfl
theorem cal41 : callable Tryd.prog 41 = true := by kernel_rfl
theorem cal42 : callable Tryd.prog 42 = true := by kernel_rfl
theorem cal43 : callable Tryd.prog 43 = true := by kernel_rfl
theorem cal44 : callable Tryd.prog 44 = true := by kernel_rfl
theorem cal45 : callable Tryd.prog 45 = true := by kernel_rfl
theorem cal46 : callable Tryd.prog 46 = true := by kernel_rfl
theorem cal47 : callable Tryd.prog 47 = true := by kernel_rfl
theorem cal48 : callable Tryd.prog 48 = true := by kernel_rfl
theorem cal49 : callable Tryd.prog 49 = true := by kernel_rfl
theorem cal5 : callable Tryd.prog 5 = true := by kernel_rfl
theorem cal50 : callable Tryd.prog 50 = true := by kernel_rfl
theorem cal51 : callable Tryd.prog 51 = true := by kernel_rfl
theorem cal52 : callable Tryd.prog 52 = true := by kernel_rfl
theorem cal53 : callable Tryd.prog 53 = true := by kernel_rfl
theorem cal54 : callable Tryd.prog 54 = true := by kernel_rfl
theorem cal55 : callable Tryd.prog 55 = true := by kernel_rfl
theorem cal56 : callable Tryd.prog 56 = true := by kernel_rfl
theorem cal57 : callable Tryd.prog 57 = true := by kernel_rfl
theorem cal58 : callable Tryd.prog 58 = true := by kernel_rfl
theorem cal59 : callable Tryd.prog 59 = true := by kernel_rfl
theorem cal6 : callable Tryd.prog 6 = true := by kernel_rfl
theorem cal60 : callable Tryd.prog 60 = true := by kernel_rfl
theorem cal61 : callable Tryd.prog 61 = true := by kernel_rfl
theorem cal62 : callable Tryd.prog 62 = true := by kernel_rfl
theorem cal63 : callable Tryd.prog 63 = true := by kernel_rfl
theorem cal64 : callable Tryd.prog 64 = true := by kernel_rfl
theorem cal65 : callable Tryd.prog 65 = true := by kernel_rfl
theorem cal66 : callable Tryd.prog 66 = true := by kernel_rfl
theorem cal67 : callable Tryd.prog 67 = true := by kernel_rfl
theorem cal69 : callable Tryd.prog 69 = true := by kernel_rfl
theorem cal7 : callable Tryd.prog 7 = true := by kernel_rfl
theorem cal70 : callable Tryd.prog 70 = true := by kernel_rfl
theorem cal71 : callable Tryd.prog 71 = true := by kernel_rfl
theorem cal72 : callable Tryd.prog 72 = true := by kernel_rfl
theorem cal73 : callable Tryd.prog 73 = true := by kernel_rfl
theorem cal74 : callable Tryd.prog 74 = true := by kernel_rfl
theorem cal75 : callable Tryd.prog 75 = true := by kernel_rfl
theorem cal77 : callable Tryd.prog 77 = true := by kernel_rfl
theorem cal78 : callable Tryd.prog 78 = true := by kernel_rfl
theorem cal79 : callable Tryd.prog 79 = true := by kernel_rfl
theorem cal8 : callable Tryd.prog 8 = true := by kernel_rfl
theorem cal80 : callable Tryd.prog 80 = true := by kernel_rfl
theorem cal81 : callable Tryd.prog 81 = true := by kernel_rfl
theorem cal82 : callable Tryd.prog 82 = true := by kernel_rfl
theorem cal83 : callable Tryd.prog 83 = true := by kernel_rfl
theorem cal9 : callable Tryd.prog 9 = true := by kernel_rfl
theorem fl_139 : floatT Tryd.prog 139 = some .f64 := by kernel_rfl
theorem ft_101_0 : fieldT Tryd.prog 101 0 = some 0 := by kernel_rfl
theorem ft_101_1 : fieldT Tryd.prog 101 1 = some 1 := by kernel_rfl
theorem ft_104_0 : fieldT Tryd.prog 104 0 = some 0 := by kernel_rfl
theorem ft_104_1 : fieldT Tryd.prog 104 1 = some 1 := by kernel_rfl
theorem ft_104_2 : fieldT Tryd.prog 104 2 = some 2 := by kernel_rfl
theorem ft_107_0 : fieldT Tryd.prog 107 0 = some 0 := by kernel_rfl
theorem ft_107_1 : fieldT Tryd.prog 107 1 = some 1 := by kernel_rfl
theorem ft_107_2 : fieldT Tryd.prog 107 2 = some 2 := by kernel_rfl
theorem ft_110_0 : fieldT Tryd.prog 110 0 = some 0 := by kernel_rfl
theorem ft_120_0 : fieldT Tryd.prog 120 0 = some 0 := by kernel_rfl
theorem ft_120_1 : fieldT Tryd.prog 120 1 = some 1 := by kernel_rfl
theorem ft_122_0 : fieldT Tryd.prog 122 0 = some 0 := by kernel_rfl
theorem ft_122_1 : fieldT Tryd.prog 122 1 = some 1 := by kernel_rfl
theorem ft_125_0 : fieldT Tryd.prog 125 0 = some 0 := by kernel_rfl
theorem ft_125_1 : fieldT Tryd.prog 125 1 = some 1 := by kernel_rfl
theorem ft_125_2 : fieldT Tryd.prog 125 2 = some 2 := by kernel_rfl
theorem ft_31_0 : fieldT Tryd.prog 31 0 = some 0 := by kernel_rfl
theorem ft_31_1 : fieldT Tryd.prog 31 1 = some 1 := by kernel_rfl
theorem ft_31_2 : fieldT Tryd.prog 31 2 = some 2 := by kernel_rfl
theorem ft_33_0 : fieldT Tryd.prog 33 0 = some 0 := by kernel_rfl
theorem ft_33_2 : fieldT Tryd.prog 33 2 = some 2 := by kernel_rfl
theorem ft_33_3 : fieldT Tryd.prog 33 3 = some 5 := by kernel_rfl
theorem ft_36_0 : fieldT Tryd.prog 36 0 = some 0 := by kernel_rfl
theorem ft_36_1 : fieldT Tryd.prog 36 1 = some 1 := by kernel_rfl
theorem ft_36_2 : fieldT Tryd.prog 36 2 = some 2 := by kernel_rfl
theorem ft_47_0 : fieldT Tryd.prog 47 0 = some 0 := by kernel_rfl
theorem ft_47_1 : fieldT Tryd.prog 47 1 = some 1 := by kernel_rfl
theorem ft_47_2 : fieldT Tryd.prog 47 2 = some 2 := by kernel_rfl
theorem ft_47_3 : fieldT Tryd.prog 47 3 = some 3 := by kernel_rfl
theorem ft_58_0 : fieldT Tryd.prog 58 0 = some 0 := by kernel_rfl
theorem ft_58_2 : fieldT Tryd.prog 58 2 = some 4 := by kernel_rfl
theorem ft_80_0 : fieldT Tryd.prog 80 0 = some 0 := by kernel_rfl
theorem ft_80_1 : fieldT Tryd.prog 80 1 = some 1 := by kernel_rfl
theorem if_25 : isIfaceT Tryd.prog 25 = some false := by kernel_rfl
theorem if_68 : isIfaceT Tryd.prog 68 = some false := by kernel_rfl
theorem if_71 : isIfaceT Tryd.prog 71 = some false := by kernel_rfl
theorem if_74 : isIfaceT Tryd.prog 74 = some false := by kernel_rfl
theorem it_145 : intT Tryd.prog 145 = some .u64 := by kernel_rfl
theorem it_2 : intT Tryd.prog 2 = some .i64 := by kernel_rfl
theorem it_3 : intT Tryd.prog 3 = some .i64 := by kernel_rfl
theorem it_42 : intT Tryd.prog 42 = some .u16 := by kernel_rfl
theorem it_5 : intT Tryd.prog 5 = some .u8 := by kernel_rfl
theorem it_97 : intT Tryd.prog 97 = some .u64 := by kernel_rfl
theorem kt_102 : kindT Tryd.prog 102 = some 2 := by kernel_rfl
theorem kt_105 : kindT Tryd.prog 105 = some 1 := by kernel_rfl
theorem kt_20 : kindT Tryd.prog 20 = some 4 := by kernel_rfl
theorem kt_22 : kindT Tryd.prog 22 = some 1 := by kernel_rfl
theorem kt_24 : kindT Tryd.prog 24 = some 0 := by kernel_rfl
theorem kt_28 : kindT Tryd.prog 28 = some 1 := by kernel_rfl
theorem kt_29 : kindT Tryd.prog 29 = some 1 := by kernel_rfl
theorem kt_37 : kindT Tryd.prog 37 = some 1 := by kernel_rfl
theorem kt_48 : kindT Tryd.prog 48 = some 1 := by kernel_rfl
theorem kt_52 : kindT Tryd.prog 52 = some 4 := by kernel_rfl
theorem kt_68 : kindT Tryd.prog 68 = some 0 := by kernel_rfl
theorem kt_71 : kindT Tryd.prog 71 = some 0 := by kernel_rfl
theorem kt_74 : kindT Tryd.prog 74 = some 0 := by kernel_rfl
theorem kt_77 : kindT Tryd.prog 77 = some 0 := by kernel_rfl
theorem kt_99 : kindT Tryd.prog 99 = some 1 := by kernel_rfl
theorem lt_102 : loadT Tryd.prog 102 = some none := by kernel_rfl
theorem lt_105 : loadT Tryd.prog 105 = some none := by kernel_rfl
theorem lt_120 : loadT Tryd.prog 120 = some (some 2) := by kernel_rfl
theorem lt_122 : loadT Tryd.prog 122 = some (some 2) := by kernel_rfl
theorem lt_123 : loadT Tryd.prog 123 = some none := by kernel_rfl
theorem lt_125 : loadT Tryd.prog 125 = some (some 3) := by kernel_rfl
theorem lt_2 : loadT Tryd.prog 2 = some none := by kernel_rfl
theorem lt_25 : loadT Tryd.prog 25 = some none := by kernel_rfl
theorem lt_29 : loadT Tryd.prog 29 = some none := by kernel_rfl
theorem lt_3 : loadT Tryd.prog 3 = some none := by kernel_rfl
theorem lt_31 : loadT Tryd.prog 31 = some (some 3) := by kernel_rfl
theorem lt_33 : loadT Tryd.prog 33 = some (some 6) := by kernel_rfl
theorem lt_36 : loadT Tryd.prog 36 = some (some 3) := by kernel_rfl
theorem lt_47 : loadT Tryd.prog 47 = some (some 5) := by kernel_rfl
theorem lt_48 : loadT Tryd.prog 48 = some none := by kernel_rfl
theorem lt_5 : loadT Tryd.prog 5 = some none := by kernel_rfl
theorem lt_52 : loadT Tryd.prog 52 = some none := by kernel_rfl
theorem lt_68 : loadT Tryd.prog 68 = some none := by kernel_rfl
theorem lt_77 : loadT Tryd.prog 77 = some none := by kernel_rfl
theorem lt_99 : loadT Tryd.prog 99 = some none := by kernel_rfl
theorem ncal68 : callable Tryd.prog 68 = false := by kernel_rfl
theorem ncal76 : callable Tryd.prog 76 = false := by kernel_rfl
theorem pl_101 : bplT Tryd.prog 101 = some (.inl [(0, 1), (1, 1)]) := by kernel_rfl
theorem pl_104 : bplT Tryd.prog 104 = some (.inl [(0, 1), (1, 1), (2, 1)]) := by kernel_rfl
theorem pl_107 : bplT Tryd.prog 107 = some (.inl [(0, 1), (1, 1), (2, 1)]) := by kernel_rfl
theorem pl_110 : bplT Tryd.prog 110 = some (.inl [(0, 1)]) := by kernel_rfl
theorem pl_120 : bplT Tryd.prog 120 = some (.inl [(0, 1), (1, 1)]) := by kernel_rfl
theorem pl_122 : bplT Tryd.prog 122 = some (.inl [(0, 1), (1, 1)]) := by kernel_rfl
theorem pl_125 : bplT Tryd.prog 125 = some (.inl [(0, 1), (1, 1), (2, 1)]) := by kernel_rfl
theorem pl_31 : bplT Tryd.prog 31 = some (.inl [(0, 1), (1, 1), (2, 1)]) := by kernel_rfl
theorem pl_33 : bplT Tryd.prog 33 = some (.inl [(0, 1), (1, 1), (2, 3), (5, 1)]) := by kernel_rfl
theorem pl_36 : bplT Tryd.prog 36 = some (.inl [(0, 1), (1, 1), (2, 1)]) := by kernel_rfl
theorem pl_47 : bplT Tryd.prog 47 = some (.inl [(0, 1), (1, 1), (2, 1), (3, 1), (4, 1)]) := by kernel_rfl
theorem pl_58 : bplT Tryd.prog 58 = some (.inl [(0, 3), (3, 1), (4, 1)]) := by kernel_rfl
theorem pl_80 : bplT Tryd.prog 80 = some (.inl [(0, 1), (1, 1)]) := by kernel_rfl
theorem sk_36 : structK Tryd.prog 36 = some [0, 0, 0] := by kernel_rfl
theorem sk_47 : structK Tryd.prog 47 = some [0, 0, 0, 0, 1] := by kernel_rfl
theorem sl_105 : slT Tryd.prog 105 = some ⟨125, [.int .i64 0, .complex .f64 0 0, .int .i64 0], 3, 32⟩ := by kernel_rfl
theorem sl_28 : slT Tryd.prog 28 = some ⟨3, [.int .i64 0], 1, 8⟩ := by kernel_rfl
theorem sl_29 : slT Tryd.prog 29 = some ⟨31, [.int .i64 0, .int .i64 0, .snil], 3, 40⟩ := by kernel_rfl
theorem sl_37 : slT Tryd.prog 37 = some ⟨47, [.int .i64 0, .int .i64 0, .int .i64 0, .int .i64 0, .bool false], 5, 40⟩ := by kernel_rfl
theorem sl_48 : slT Tryd.prog 48 = some ⟨5, [.int .u8 0], 1, 1⟩ := by kernel_rfl
theorem sl_99 : slT Tryd.prog 99 = some ⟨120, [.int .i64 0, .int .i64 0], 2, 16⟩ := by kernel_rfl
theorem ss_105 : slSz Tryd.prog 105 = some 3 := by kernel_rfl
theorem ss_115 : slSz Tryd.prog 115 = none := by kernel_rfl
theorem ss_22 : slSz Tryd.prog 22 = some 3 := by kernel_rfl
theorem ss_28 : slSz Tryd.prog 28 = some 1 := by kernel_rfl
theorem ss_29 : slSz Tryd.prog 29 = some 3 := by kernel_rfl
theorem ss_37 : slSz Tryd.prog 37 = some 5 := by kernel_rfl
theorem ss_48 : slSz Tryd.prog 48 = some 1 := by kernel_rfl
theorem ss_99 : slSz Tryd.prog 99 = some 2 := by kernel_rfl
theorem z0_2 : zeroT Tryd.prog 2 = some (.int .i64 0) := by kernel_rfl
theorem zc_101 : zeroC Tryd.prog 101 = some [.int .i64 0, .snil] := by kernel_rfl
theorem zc_104 : zeroC Tryd.prog 104 = some [.int .i64 0, .int .i64 0, .mnil] := by kernel_rfl
theorem zc_107 : zeroC Tryd.prog 107 = some [.int .i64 0, .int .i64 0, .snil] := by kernel_rfl
theorem zc_110 : zeroC Tryd.prog 110 = some [.snil] := by kernel_rfl
theorem zc_120 : zeroC Tryd.prog 120 = some [.int .i64 0, .int .i64 0] := by kernel_rfl
theorem zc_122 : zeroC Tryd.prog 122 = some [.int .i64 0, .int .i64 0] := by kernel_rfl
theorem zc_125 : zeroC Tryd.prog 125 = some [.int .i64 0, .complex .f64 0 0, .int .i64 0] := by kernel_rfl
theorem zc_2 : zeroC Tryd.prog 2 = some [.int .i64 0] := by kernel_rfl
theorem zc_25 : zeroC Tryd.prog 25 = some [.int .i64 0] := by kernel_rfl
theorem zc_31 : zeroC Tryd.prog 31 = some [.int .i64 0, .int .i64 0, .snil] := by kernel_rfl
theorem zc_33 : zeroC Tryd.prog 33 = some [.int .i64 0, .snil, .int .i64 0, .int .i64 0, .snil, .int .i64 0] := by kernel_rfl
theorem zc_36 : zeroC Tryd.prog 36 = some [.int .i64 0, .int .i64 0, .int .i64 0] := by kernel_rfl
theorem zc_47 : zeroC Tryd.prog 47 = some [.int .i64 0, .int .i64 0, .int .i64 0, .int .i64 0, .bool false] := by kernel_rfl
theorem zc_58 : zeroC Tryd.prog 58 = some [.int .i64 0, .int .i64 0, .snil, .int .i64 0, .nilIface] := by kernel_rfl
theorem zc_80 : zeroC Tryd.prog 80 = some [.pnil, .int .i64 0] := by kernel_rfl
theorem zt_105 : sizeT Tryd.prog 105 = some 1 := by kernel_rfl
theorem zt_120 : sizeT Tryd.prog 120 = some 2 := by kernel_rfl
theorem zt_122 : sizeT Tryd.prog 122 = some 2 := by kernel_rfl
theorem zt_125 : sizeT Tryd.prog 125 = some 3 := by kernel_rfl
theorem zt_2 : sizeT Tryd.prog 2 = some 1 := by kernel_rfl
theorem zt_25 : sizeT Tryd.prog 25 = some 1 := by kernel_rfl
theorem zt_29 : sizeT Tryd.prog 29 = some 1 := by kernel_rfl
theorem zt_3 : sizeT Tryd.prog 3 = some 1 := by kernel_rfl
theorem zt_31 : sizeT Tryd.prog 31 = some 3 := by kernel_rfl
theorem zt_33 : sizeT Tryd.prog 33 = some 6 := by kernel_rfl
theorem zt_36 : sizeT Tryd.prog 36 = some 3 := by kernel_rfl
theorem zt_47 : sizeT Tryd.prog 47 = some 5 := by kernel_rfl
theorem zt_48 : sizeT Tryd.prog 48 = some 1 := by kernel_rfl
theorem zt_80 : sizeT Tryd.prog 80 = some 2 := by kernel_rfl
theorem zt_99 : sizeT Tryd.prog 99 = some 1 := by kernel_rfl
end Go.Proofs.YtpjfhfmbhjghcaaDoor.Pk
