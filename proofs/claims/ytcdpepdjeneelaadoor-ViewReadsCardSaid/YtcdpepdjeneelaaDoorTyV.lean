/-
  What functions of the program do, told of abstract states. Conditions: as each theorem says.
-/
import Derived.Test.YtcdpepdjeneelaaDoorAbD
import Derived.Test.YtcdpepdjeneelaaDoorAbD
import Derived.Test.YtcdpepdjeneelaaDoorAbD
import Derived.Test.YtcdpepdjeneelaaDoorProg
namespace Go.Proofs.YtcdpepdjeneelaaDoor.Pk
open Go Go.Proofs Go.Proofs.YtcdpepdjeneelaaDoor.Ab

theorem as_22 : arSz Tryd.prog 22 = none := by kernel_rfl
theorem as_26 : arSz Tryd.prog 26 = none := by kernel_rfl
theorem as_27 : arSz Tryd.prog 27 = none := by kernel_rfl
theorem as_33 : arSz Tryd.prog 33 = none := by kernel_rfl
theorem as_34 : arSz Tryd.prog 34 = none := by kernel_rfl
theorem as_39 : arSz Tryd.prog 39 = none := by kernel_rfl
theorem as_49 : arSz Tryd.prog 49 = none := by kernel_rfl
theorem as_51 : arSz Tryd.prog 51 = some (3, 1) := by kernel_rfl
theorem as_69 : arSz Tryd.prog 69 = none := by kernel_rfl
theorem as_93 : arSz Tryd.prog 93 = none := by kernel_rfl
theorem as_97 : arSz Tryd.prog 97 = some (7, 1) := by kernel_rfl
theorem bt_4 : boolT Tryd.prog 4 = true := by kernel_rfl
theorem cal10 : callable Tryd.prog 10 = true := by kernel_rfl
theorem cal11 : callable Tryd.prog 11 = true := by kernel_rfl
theorem cal12 : callable Tryd.prog 12 = true := by kernel_rfl
theorem cal13 : callable Tryd.prog 13 = true := by kernel_rfl
theorem cal14 : callable Tryd.prog 14 = true := by kernel_rfl
theorem cal15 : callable Tryd.prog 15 = true := by kernel_rfl
theorem cal16 : callable Tryd.prog 16 = true := by kernel_rfl
theorem cal17 : callable Tryd.prog 17 = true := by kernel_rfl
theorem cal18 : callable Tryd.prog 18 = true := by kernel_rfl
theorem cal19 : callable Tryd.prog 19 = true := by kernel_rfl
theorem cal20 : callable Tryd.prog 20 = true := by kernel_rfl
theorem cal21 : callable Tryd.prog 21 = true := by kernel_rfl
theorem cal22 : callable Tryd.prog 22 = true := by kernel_rfl
theorem cal23 : callable Tryd.prog 23 = true := by kernel_rfl
theorem cal24 : callable Tryd.prog 24 = true := by kernel_rfl
theorem cal25 : callable Tryd.prog 25 = true := by kernel_rfl
theorem cal26 : callable Tryd.prog 26 = true := by kernel_rfl
theorem cal27 : callable Tryd.prog 27 = true := by kernel_rfl
theorem cal28 : callable Tryd.prog 28 = true := by kernel_rfl
theorem cal29 : callable Tryd.prog 29 = true := by kernel_rfl
theorem cal3 : callable Tryd.prog 3 = true := by kernel_rfl
theorem cal30 : callable Tryd.prog 30 = true := by kernel_rfl
theorem cal31 : callable Tryd.prog 31 = true := by kernel_rfl
theorem cal32 : callable Tryd.prog 32 = true := by kernel_rfl
theorem cal33 : callable Tryd.prog 33 = true := by kernel_rfl
theorem cal34 : callable Tryd.prog 34 = true := by kernel_rfl
theorem cal35 : callable Tryd.prog 35 = true := by kernel_rfl
theorem cal36 : callable Tryd.prog 36 = true := by kernel_rfl
theorem cal37 : callable Tryd.prog 37 = true := by kernel_rfl
theorem cal38 : callable Tryd.prog 38 = true := by kernel_rfl
theorem cal39 : callable Tryd.prog 39 = true := by kernel_rfl
theorem cal4 : callable Tryd.prog 4 = true := by kernel_rfl
theorem cal40 : callable Tryd.prog 40 = true := by kernel_rfl
theorem cal41 : callable Tryd.prog 41 = true := by kernel_rfl
theorem cal42 : callable Tryd.prog 42 = true := by kernel_rfl
theorem cal43 : callable Tryd.prog 43 = true := by kernel_rfl
theorem cal44 : callable Tryd.prog 44 = true := by kernel_rfl
theorem cal45 : callable Tryd.prog 45 = true := by kernel_rfl
theorem cal46 : callable Tryd.prog 46 = true := by kernel_rfl
theorem cal47 : callable Tryd.prog 47 = true := by kernel_rfl
theorem cal48 : callable Tryd.prog 48 = true := by kernel_rfl
theorem cal49 : callable Tryd.prog 49 = true := by kernel_rfl
theorem cal5 : callable Tryd.prog 5 = true := by kernel_rfl
theorem cal50 : callable Tryd.prog 50 = true := by kernel_rfl
theorem cal51 : callable Tryd.prog 51 = true := by kernel_rfl
theorem cal52 : callable Tryd.prog 52 = true := by kernel_rfl
theorem cal53 : callable Tryd.prog 53 = true := by kernel_rfl
theorem cal54 : callable Tryd.prog 54 = true := by kernel_rfl
theorem cal55 : callable Tryd.prog 55 = true := by kernel_rfl
theorem cal56 : callable Tryd.prog 56 = true := by kernel_rfl
theorem cal57 : callable Tryd.prog 57 = true := by kernel_rfl
theorem cal58 : callable Tryd.prog 58 = true := by kernel_rfl
theorem cal59 : callable Tryd.prog 59 = true := by kernel_rfl
theorem cal6 : callable Tryd.prog 6 = true := by kernel_rfl
theorem cal60 : callable Tryd.prog 60 = true := by kernel_rfl
theorem cal61 : callable Tryd.prog 61 = true := by kernel_rfl
theorem cal62 : callable Tryd.prog 62 = true := by kernel_rfl
theorem cal63 : callable Tryd.prog 63 = true := by kernel_rfl
theorem cal64 : callable Tryd.prog 64 = true := by kernel_rfl
theorem cal65 : callable Tryd.prog 65 = true := by kernel_rfl
theorem cal66 : callable Tryd.prog 66 = true := by kernel_rfl
theorem cal67 : callable Tryd.prog 67 = true := by kernel_rfl
theorem cal68 : callable Tryd.prog 68 = true := by kernel_rfl
theorem cal69 : callable Tryd.prog 69 = true := by kernel_rfl
theorem cal7 : callable Tryd.prog 7 = true := by kernel_rfl
theorem cal70 : callable Tryd.prog 70 = true := by kernel_rfl
theorem cal71 : callable Tryd.prog 71 = true := by kernel_rfl
theorem cal72 : callable Tryd.prog 72 = true := by kernel_rfl
theorem cal73 : callable Tryd.prog 73 = true := by kernel_rfl
theorem cal74 : callable Tryd.prog 74 = true := by kernel_rfl
theorem cal8 : callable Tryd.prog 8 = true := by kernel_rfl
theorem cal9 : callable Tryd.prog 9 = true := by kernel_rfl
theorem ft_106_0 : fieldT Tryd.prog 106 0 = some 0 := by kernel_rfl
theorem ft_106_1 : fieldT Tryd.prog 106 1 = some 1 := by kernel_rfl
theorem ft_29_0 : fieldT Tryd.prog 29 0 = some 0 := by kernel_rfl
theorem ft_29_1 : fieldT Tryd.prog 29 1 = some 1 := by kernel_rfl
theorem ft_29_2 : fieldT Tryd.prog 29 2 = some 2 := by kernel_rfl
theorem ft_36_0 : fieldT Tryd.prog 36 0 = some 0 := by kernel_rfl
theorem ft_36_1 : fieldT Tryd.prog 36 1 = some 1 := by kernel_rfl
theorem ft_36_2 : fieldT Tryd.prog 36 2 = some 2 := by kernel_rfl
theorem ft_41_0 : fieldT Tryd.prog 41 0 = some 0 := by kernel_rfl
theorem ft_41_1 : fieldT Tryd.prog 41 1 = some 1 := by kernel_rfl
theorem ft_41_2 : fieldT Tryd.prog 41 2 = some 2 := by kernel_rfl
theorem ft_41_3 : fieldT Tryd.prog 41 3 = some 3 := by kernel_rfl
theorem ft_41_4 : fieldT Tryd.prog 41 4 = some 4 := by kernel_rfl
theorem ft_41_5 : fieldT Tryd.prog 41 5 = some 5 := by kernel_rfl
theorem ft_45_2 : fieldT Tryd.prog 45 2 = some 2 := by kernel_rfl
theorem ft_47_0 : fieldT Tryd.prog 47 0 = some 0 := by kernel_rfl
theorem ft_47_1 : fieldT Tryd.prog 47 1 = some 1 := by kernel_rfl
theorem ft_47_2 : fieldT Tryd.prog 47 2 = some 2 := by kernel_rfl
theorem ft_47_3 : fieldT Tryd.prog 47 3 = some 3 := by kernel_rfl
theorem ft_47_4 : fieldT Tryd.prog 47 4 = some 4 := by kernel_rfl
theorem ft_47_5 : fieldT Tryd.prog 47 5 = some 5 := by kernel_rfl
theorem ft_47_6 : fieldT Tryd.prog 47 6 = some 8 := by kernel_rfl
theorem ft_47_7 : fieldT Tryd.prog 47 7 = some 9 := by kernel_rfl
theorem ft_47_8 : fieldT Tryd.prog 47 8 = some 10 := by kernel_rfl
theorem ft_58_0 : fieldT Tryd.prog 58 0 = some 0 := by kernel_rfl
theorem ft_58_1 : fieldT Tryd.prog 58 1 = some 1 := by kernel_rfl
theorem ft_64_0 : fieldT Tryd.prog 64 0 = some 0 := by kernel_rfl
theorem ft_64_1 : fieldT Tryd.prog 64 1 = some 6 := by kernel_rfl
theorem ft_64_2 : fieldT Tryd.prog 64 2 = some 7 := by kernel_rfl
theorem ft_64_3 : fieldT Tryd.prog 64 3 = some 8 := by kernel_rfl
theorem ft_71_0 : fieldT Tryd.prog 71 0 = some 0 := by kernel_rfl
theorem ft_71_1 : fieldT Tryd.prog 71 1 = some 6 := by kernel_rfl
theorem ft_73_0 : fieldT Tryd.prog 73 0 = some 0 := by kernel_rfl
theorem ft_73_1 : fieldT Tryd.prog 73 1 = some 11 := by kernel_rfl
theorem it_102 : intT Tryd.prog 102 = some .u64 := by kernel_rfl
theorem it_117 : intT Tryd.prog 117 = some .u32 := by kernel_rfl
theorem it_119 : intT Tryd.prog 119 = some .u64 := by kernel_rfl
theorem it_3 : intT Tryd.prog 3 = some .i64 := by kernel_rfl
theorem it_5 : intT Tryd.prog 5 = some .u8 := by kernel_rfl
theorem kt_22 : kindT Tryd.prog 22 = some 1 := by kernel_rfl
theorem kt_26 : kindT Tryd.prog 26 = some 1 := by kernel_rfl
theorem kt_27 : kindT Tryd.prog 27 = some 1 := by kernel_rfl
theorem kt_33 : kindT Tryd.prog 33 = some 1 := by kernel_rfl
theorem kt_34 : kindT Tryd.prog 34 = some 1 := by kernel_rfl
theorem kt_39 : kindT Tryd.prog 39 = some 1 := by kernel_rfl
theorem kt_49 : kindT Tryd.prog 49 = some 1 := by kernel_rfl
theorem kt_69 : kindT Tryd.prog 69 = some 1 := by kernel_rfl
theorem kt_93 : kindT Tryd.prog 93 = some 1 := by kernel_rfl
theorem lt_2 : loadT Tryd.prog 2 = some none := by kernel_rfl
theorem lt_26 : loadT Tryd.prog 26 = some none := by kernel_rfl
theorem lt_27 : loadT Tryd.prog 27 = some none := by kernel_rfl
theorem lt_29 : loadT Tryd.prog 29 = some (some 3) := by kernel_rfl
theorem lt_3 : loadT Tryd.prog 3 = some none := by kernel_rfl
theorem lt_33 : loadT Tryd.prog 33 = some none := by kernel_rfl
theorem lt_34 : loadT Tryd.prog 34 = some none := by kernel_rfl
theorem lt_36 : loadT Tryd.prog 36 = some (some 3) := by kernel_rfl
theorem lt_39 : loadT Tryd.prog 39 = some none := by kernel_rfl
theorem lt_4 : loadT Tryd.prog 4 = some none := by kernel_rfl
theorem lt_41 : loadT Tryd.prog 41 = some (some 6) := by kernel_rfl
theorem lt_45 : loadT Tryd.prog 45 = some (some 3) := by kernel_rfl
theorem lt_47 : loadT Tryd.prog 47 = some (some 11) := by kernel_rfl
theorem lt_5 : loadT Tryd.prog 5 = some none := by kernel_rfl
theorem lt_55 : loadT Tryd.prog 55 = some none := by kernel_rfl
theorem lt_56 : loadT Tryd.prog 56 = some none := by kernel_rfl
theorem lt_58 : loadT Tryd.prog 58 = some (some 2) := by kernel_rfl
theorem lt_64 : loadT Tryd.prog 64 = some (some 9) := by kernel_rfl
theorem lt_69 : loadT Tryd.prog 69 = some none := by kernel_rfl
theorem lt_73 : loadT Tryd.prog 73 = some (some 12) := by kernel_rfl
theorem mt_55 : mapT Tryd.prog 55 = some (3, 87, .int .i64) := by kernel_rfl
theorem mt_56 : mapT Tryd.prog 56 = some (3, 68, .int .i64) := by kernel_rfl
theorem pl_106 : bplT Tryd.prog 106 = some (.inl [(0, 1), (1, 1)]) := by kernel_rfl
theorem pl_107 : bplT Tryd.prog 107 = some (.inr 2) := by kernel_rfl
theorem pl_29 : bplT Tryd.prog 29 = some (.inl [(0, 1), (1, 1), (2, 1)]) := by kernel_rfl
theorem pl_36 : bplT Tryd.prog 36 = some (.inl [(0, 1), (1, 1), (2, 1)]) := by kernel_rfl
theorem pl_41 : bplT Tryd.prog 41 = some (.inl [(0, 1), (1, 1), (2, 1), (3, 1), (4, 1), (5, 1)]) := by kernel_rfl
theorem pl_45 : bplT Tryd.prog 45 = some (.inl [(0, 1), (1, 1), (2, 1)]) := by kernel_rfl
theorem pl_47 : bplT Tryd.prog 47 = some (.inl [(0, 1), (1, 1), (2, 1), (3, 1), (4, 1), (5, 3), (8, 1), (9, 1), (10, 1)]) := by kernel_rfl
theorem pl_58 : bplT Tryd.prog 58 = some (.inl [(0, 1), (1, 1)]) := by kernel_rfl
theorem pl_64 : bplT Tryd.prog 64 = some (.inl [(0, 6), (6, 1), (7, 1), (8, 1)]) := by kernel_rfl
theorem pl_71 : bplT Tryd.prog 71 = some (.inl [(0, 6), (6, 1)]) := by kernel_rfl
theorem pl_73 : bplT Tryd.prog 73 = some (.inl [(0, 11), (11, 1)]) := by kernel_rfl
theorem pt_36_1 : partT Tryd.prog 36 1 = some (1, none) := by kernel_rfl
theorem pt_41_1 : partT Tryd.prog 41 1 = some (1, none) := by kernel_rfl
theorem pt_41_2 : partT Tryd.prog 41 2 = some (2, none) := by kernel_rfl
theorem pt_41_5 : partT Tryd.prog 41 5 = some (5, none) := by kernel_rfl
theorem pt_58_1 : partT Tryd.prog 58 1 = some (1, none) := by kernel_rfl
theorem sk_45 : structK Tryd.prog 45 = some [0, 0, 0] := by kernel_rfl
theorem sl_22 : slT Tryd.prog 22 = some ⟨47, [.int .i64 0, .int .i64 0, .int .i64 0, .int .i64 0, .int .i64 0, .int .i64 0, .int .i64 0, .int .i64 0, .bool false, .snil, .snil], 11, 120⟩ := by kernel_rfl
theorem sl_26 : slT Tryd.prog 26 = some ⟨36, [.int .i64 0, .snil, .snil], 3, 56⟩ := by kernel_rfl
theorem sl_27 : slT Tryd.prog 27 = some ⟨41, [.int .i64 0, .int .i64 0, .int .i64 0, .snil, .snil, .int .i64 0], 6, 80⟩ := by kernel_rfl
theorem sl_33 : slT Tryd.prog 33 = some ⟨45, [.int .i64 0, .int .i64 0, .int .i64 0], 3, 24⟩ := by kernel_rfl
theorem sl_34 : slT Tryd.prog 34 = some ⟨4, [.bool false], 1, 1⟩ := by kernel_rfl
theorem sl_39 : slT Tryd.prog 39 = some ⟨3, [.int .i64 0], 1, 8⟩ := by kernel_rfl
theorem sl_69 : slT Tryd.prog 69 = some ⟨73, [.int .i64 0, .int .i64 0, .int .i64 0, .int .i64 0, .int .i64 0, .int .i64 0, .int .i64 0, .int .i64 0, .bool false, .snil, .snil, .int .i64 0], 12, 128⟩ := by kernel_rfl
theorem sl_93 : slT Tryd.prog 93 = some ⟨64, [.int .i64 0, .int .i64 0, .int .i64 0, .snil, .snil, .int .i64 0, .snil, .snil, .snil], 9, 152⟩ := by kernel_rfl
theorem ss_22 : slSz Tryd.prog 22 = some 11 := by kernel_rfl
theorem ss_26 : slSz Tryd.prog 26 = some 3 := by kernel_rfl
theorem ss_27 : slSz Tryd.prog 27 = some 6 := by kernel_rfl
theorem ss_33 : slSz Tryd.prog 33 = some 3 := by kernel_rfl
theorem ss_34 : slSz Tryd.prog 34 = some 1 := by kernel_rfl
theorem ss_39 : slSz Tryd.prog 39 = some 1 := by kernel_rfl
theorem ss_49 : slSz Tryd.prog 49 = some 1 := by kernel_rfl
theorem ss_51 : slSz Tryd.prog 51 = none := by kernel_rfl
theorem ss_69 : slSz Tryd.prog 69 = some 12 := by kernel_rfl
theorem ss_93 : slSz Tryd.prog 93 = some 9 := by kernel_rfl
theorem ss_97 : slSz Tryd.prog 97 = none := by kernel_rfl
theorem z0_68 : zeroT Tryd.prog 68 = some (.pointer none) := by kernel_rfl
theorem z0_87 : zeroT Tryd.prog 87 = some (.pointer none) := by kernel_rfl
theorem zc_106 : zeroC Tryd.prog 106 = some [.bool false, .int .i64 0] := by kernel_rfl
theorem zc_107 : zeroC Tryd.prog 107 = some [.bool false, .int .i64 0, .bool false, .int .i64 0, .bool false, .int .i64 0, .bool false, .int .i64 0, .bool false, .int .i64 0, .bool false, .int .i64 0, .bool false, .int .i64 0, .bool false, .int .i64 0] := by kernel_rfl
theorem zc_29 : zeroC Tryd.prog 29 = some [.snil, .snil, .int .i64 0] := by kernel_rfl
theorem zc_36 : zeroC Tryd.prog 36 = some [.int .i64 0, .snil, .snil] := by kernel_rfl
theorem zc_41 : zeroC Tryd.prog 41 = some [.int .i64 0, .int .i64 0, .int .i64 0, .snil, .snil, .int .i64 0] := by kernel_rfl
theorem zc_45 : zeroC Tryd.prog 45 = some [.int .i64 0, .int .i64 0, .int .i64 0] := by kernel_rfl
theorem zc_47 : zeroC Tryd.prog 47 = some [.int .i64 0, .int .i64 0, .int .i64 0, .int .i64 0, .int .i64 0, .int .i64 0, .int .i64 0, .int .i64 0, .bool false, .snil, .snil] := by kernel_rfl
theorem zc_51 : zeroC Tryd.prog 51 = some [.snil, .snil, .snil] := by kernel_rfl
theorem zc_58 : zeroC Tryd.prog 58 = some [.mnil, .mnil] := by kernel_rfl
theorem zc_64 : zeroC Tryd.prog 64 = some [.int .i64 0, .int .i64 0, .int .i64 0, .snil, .snil, .int .i64 0, .snil, .snil, .snil] := by kernel_rfl
theorem zc_71 : zeroC Tryd.prog 71 = some [.int .i64 0, .int .i64 0, .int .i64 0, .snil, .snil, .int .i64 0, .snil] := by kernel_rfl
theorem zc_73 : zeroC Tryd.prog 73 = some [.int .i64 0, .int .i64 0, .int .i64 0, .int .i64 0, .int .i64 0, .int .i64 0, .int .i64 0, .int .i64 0, .bool false, .snil, .snil, .int .i64 0] := by kernel_rfl
theorem zt_106 : sizeT Tryd.prog 106 = some 2 := by kernel_rfl
theorem zt_2 : sizeT Tryd.prog 2 = some 1 := by kernel_rfl
theorem zt_26 : sizeT Tryd.prog 26 = some 1 := by kernel_rfl
theorem zt_27 : sizeT Tryd.prog 27 = some 1 := by kernel_rfl
theorem zt_29 : sizeT Tryd.prog 29 = some 3 := by kernel_rfl
theorem zt_3 : sizeT Tryd.prog 3 = some 1 := by kernel_rfl
theorem zt_33 : sizeT Tryd.prog 33 = some 1 := by kernel_rfl
theorem zt_34 : sizeT Tryd.prog 34 = some 1 := by kernel_rfl
theorem zt_36 : sizeT Tryd.prog 36 = some 3 := by kernel_rfl
theorem zt_39 : sizeT Tryd.prog 39 = some 1 := by kernel_rfl
theorem zt_41 : sizeT Tryd.prog 41 = some 6 := by kernel_rfl
theorem zt_45 : sizeT Tryd.prog 45 = some 3 := by kernel_rfl
theorem zt_47 : sizeT Tryd.prog 47 = some 11 := by kernel_rfl
theorem zt_58 : sizeT Tryd.prog 58 = some 2 := by kernel_rfl
theorem zt_64 : sizeT Tryd.prog 64 = some 9 := by kernel_rfl
theorem zt_69 : sizeT Tryd.prog 69 = some 1 := by kernel_rfl
theorem zt_73 : sizeT Tryd.prog 73 = some 12 := by kernel_rfl
end Go.Proofs.YtcdpepdjeneelaaDoor.Pk
