/-
  What functions of the program do, told of abstract states. Conditions: as each theorem says.
-/
import Derived.Test.YtilgpaibolollaaGreatAcD
import Derived.Test.YtilgpaibolollaaGreatProg
namespace Go.Proofs.YtilgpaibolollaaGreat.Pk
open Go Go.Proofs Go.Proofs.YtilgpaibolollaaGreat.Ab

theorem bt_4 : boolT Tryz.prog 4 = true := by kernel_rfl
theorem cal10 : callable Tryz.prog 10 = true := by kernel_rfl
theorem cal100 : callable Tryz.prog 100 = true := by kernel_rfl
theorem cal101 : callable Tryz.prog 101 = true := by kernel_rfl
theorem cal102 : callable Tryz.prog 102 = true := by kernel_rfl
theorem cal104 : callable Tryz.prog 104 = true := by kernel_rfl
theorem cal105 : callable Tryz.prog 105 = true := by kernel_rfl
theorem cal106 : callable Tryz.prog 106 = true := by kernel_rfl
theorem cal107 : callable Tryz.prog 107 = true := by kernel_rfl
theorem cal108 : callable Tryz.prog 108 = true := by kernel_rfl
theorem cal109 : callable Tryz.prog 109 = true := by kernel_rfl
theorem cal110 : callable Tryz.prog 110 = true := by kernel_rfl
theorem cal111 : callable Tryz.prog 111 = true := by kernel_rfl
theorem cal113 : callable Tryz.prog 113 = true := by kernel_rfl
theorem cal114 : callable Tryz.prog 114 = true := by kernel_rfl
theorem cal115 : callable Tryz.prog 115 = true := by kernel_rfl
theorem cal116 : callable Tryz.prog 116 = true := by kernel_rfl
theorem cal117 : callable Tryz.prog 117 = true := by kernel_rfl
theorem cal118 : callable Tryz.prog 118 = true := by kernel_rfl
theorem cal121 : callable Tryz.prog 121 = true := by kernel_rfl
theorem cal122 : callable Tryz.prog 122 = true := by kernel_rfl
theorem cal123 : callable Tryz.prog 123 = true := by kernel_rfl
theorem cal124 : callable Tryz.prog 124 = true := by kernel_rfl
theorem cal125 : callable Tryz.prog 125 = true := by kernel_rfl
theorem cal134 : callable Tryz.prog 134 = true := by kernel_rfl
theorem cal137 : callable Tryz.prog 137 = true := by kernel_rfl
theorem cal143 : callable Tryz.prog 143 = true := by kernel_rfl
theorem cal145 : callable Tryz.prog 145 = true := by kernel_rfl
theorem cal15 : callable Tryz.prog 15 = true := by kernel_rfl
theorem cal161 : callable Tryz.prog 161 = true := by kernel_rfl
theorem cal162 : callable Tryz.prog 162 = true := by kernel_rfl
theorem cal18 : callable Tryz.prog 18 = true := by kernel_rfl
theorem cal20 : callable Tryz.prog 20 = true := by kernel_rfl
theorem cal21 : callable Tryz.prog 21 = true := by kernel_rfl
theorem cal25 : callable Tryz.prog 25 = true := by kernel_rfl
theorem cal26 : callable Tryz.prog 26 = true := by kernel_rfl
theorem cal27 : callable Tryz.prog 27 = true := by kernel_rfl
theorem cal28 : callable Tryz.prog 28 = true := by kernel_rfl
theorem cal29 : callable Tryz.prog 29 = true := by kernel_rfl
theorem cal30 : callable Tryz.prog 30 = true := by kernel_rfl
theorem cal31 : callable Tryz.prog 31 = true := by kernel_rfl
theorem cal32 : callable Tryz.prog 32 = true := by kernel_rfl
theorem cal33 : callable Tryz.prog 33 = true := by kernel_rfl
theorem cal34 : callable Tryz.prog 34 = true := by kernel_rfl
theorem cal35 : callable Tryz.prog 35 = true := by kernel_rfl
theorem cal38 : callable Tryz.prog 38 = true := by kernel_rfl
theorem cal39 : callable Tryz.prog 39 = true := by kernel_rfl
theorem cal40 : callable Tryz.prog 40 = true := by kernel_rfl
theorem cal41 : callable Tryz.prog 41 = true := by kernel_rfl
theorem cal42 : callable Tryz.prog 42 = true := by kernel_rfl
theorem cal43 : callable Tryz.prog 43 = true := by kernel_rfl
theorem cal44 : callable Tryz.prog 44 = true := by kernel_rfl
theorem cal45 : callable Tryz.prog 45 = true := by kernel_rfl
theorem cal46 : callable Tryz.prog 46 = true := by kernel_rfl
theorem cal47 : callable Tryz.prog 47 = true := by kernel_rfl
theorem cal48 : callable Tryz.prog 48 = true := by kernel_rfl
theorem cal49 : callable Tryz.prog 49 = true := by kernel_rfl
theorem cal50 : callable Tryz.prog 50 = true := by kernel_rfl
theorem cal51 : callable Tryz.prog 51 = true := by kernel_rfl
theorem cal52 : callable Tryz.prog 52 = true := by kernel_rfl
theorem cal54 : callable Tryz.prog 54 = true := by kernel_rfl
theorem cal55 : callable Tryz.prog 55 = true := by kernel_rfl
theorem cal57 : callable Tryz.prog 57 = true := by kernel_rfl
theorem cal58 : callable Tryz.prog 58 = true := by kernel_rfl
theorem cal59 : callable Tryz.prog 59 = true := by kernel_rfl
theorem cal6 : callable Tryz.prog 6 = true := by kernel_rfl
theorem cal60 : callable Tryz.prog 60 = true := by kernel_rfl
theorem cal61 : callable Tryz.prog 61 = true := by kernel_rfl
theorem cal62 : callable Tryz.prog 62 = true := by kernel_rfl
theorem cal63 : callable Tryz.prog 63 = true := by kernel_rfl
theorem cal64 : callable Tryz.prog 64 = true := by kernel_rfl
theorem cal65 : callable Tryz.prog 65 = true := by kernel_rfl
theorem cal66 : callable Tryz.prog 66 = true := by kernel_rfl
theorem cal67 : callable Tryz.prog 67 = true := by kernel_rfl
theorem cal68 : callable Tryz.prog 68 = true := by kernel_rfl
theorem cal69 : callable Tryz.prog 69 = true := by kernel_rfl
theorem cal7 : callable Tryz.prog 7 = true := by kernel_rfl
theorem cal70 : callable Tryz.prog 70 = true := by kernel_rfl
theorem cal71 : callable Tryz.prog 71 = true := by kernel_rfl
theorem cal72 : callable Tryz.prog 72 = true := by kernel_rfl
theorem cal73 : callable Tryz.prog 73 = true := by kernel_rfl
theorem cal74 : callable Tryz.prog 74 = true := by kernel_rfl
theorem cal75 : callable Tryz.prog 75 = true := by kernel_rfl
theorem cal76 : callable Tryz.prog 76 = true := by kernel_rfl
theorem cal77 : callable Tryz.prog 77 = true := by kernel_rfl
theorem cal78 : callable Tryz.prog 78 = true := by kernel_rfl
theorem cal79 : callable Tryz.prog 79 = true := by kernel_rfl
theorem cal8 : callable Tryz.prog 8 = true := by kernel_rfl
theorem cal80 : callable Tryz.prog 80 = true := by kernel_rfl
theorem cal81 : callable Tryz.prog 81 = true := by kernel_rfl
theorem cal82 : callable Tryz.prog 82 = true := by kernel_rfl
theorem cal83 : callable Tryz.prog 83 = true := by kernel_rfl
theorem cal84 : callable Tryz.prog 84 = true := by kernel_rfl
theorem cal85 : callable Tryz.prog 85 = true := by kernel_rfl
theorem cal86 : callable Tryz.prog 86 = true := by kernel_rfl
theorem cal87 : callable Tryz.prog 87 = true := by kernel_rfl
theorem cal88 : callable Tryz.prog 88 = true := by kernel_rfl
theorem cal89 : callable Tryz.prog 89 = true := by kernel_rfl
theorem cal90 : callable Tryz.prog 90 = true := by kernel_rfl
theorem cal92 : callable Tryz.prog 92 = true := by kernel_rfl
theorem cal93 : callable Tryz.prog 93 = true := by kernel_rfl
theorem cal94 : callable Tryz.prog 94 = true := by kernel_rfl
theorem cal96 : callable Tryz.prog 96 = true := by kernel_rfl
theorem cal97 : callable Tryz.prog 97 = true := by kernel_rfl
theorem cal98 : callable Tryz.prog 98 = true := by kernel_rfl
theorem cal99 : callable Tryz.prog 99 = true := by kernel_rfl
theorem ft_100_0 : fieldT Tryz.prog 100 0 = some 0 := by kernel_rfl
theorem ft_100_1 : fieldT Tryz.prog 100 1 = some 1 := by kernel_rfl
theorem ft_100_2 : fieldT Tryz.prog 100 2 = some 2 := by kernel_rfl
theorem ft_104_0 : fieldT Tryz.prog 104 0 = some 0 := by kernel_rfl
theorem ft_104_1 : fieldT Tryz.prog 104 1 = some 1 := by kernel_rfl
theorem ft_104_2 : fieldT Tryz.prog 104 2 = some 2 := by kernel_rfl
theorem ft_104_3 : fieldT Tryz.prog 104 3 = some 3 := by kernel_rfl
theorem ft_129_0 : fieldT Tryz.prog 129 0 = some 0 := by kernel_rfl
theorem ft_129_1 : fieldT Tryz.prog 129 1 = some 1 := by kernel_rfl
theorem ft_129_2 : fieldT Tryz.prog 129 2 = some 2 := by kernel_rfl
theorem ft_129_3 : fieldT Tryz.prog 129 3 = some 3 := by kernel_rfl
theorem ft_129_4 : fieldT Tryz.prog 129 4 = some 4 := by kernel_rfl
theorem ft_148_0 : fieldT Tryz.prog 148 0 = some 0 := by kernel_rfl
theorem ft_148_1 : fieldT Tryz.prog 148 1 = some 1 := by kernel_rfl
theorem ft_148_2 : fieldT Tryz.prog 148 2 = some 2 := by kernel_rfl
theorem ft_152_0 : fieldT Tryz.prog 152 0 = some 0 := by kernel_rfl
theorem ft_162_0 : fieldT Tryz.prog 162 0 = some 0 := by kernel_rfl
theorem ft_162_1 : fieldT Tryz.prog 162 1 = some 1 := by kernel_rfl
theorem ft_162_2 : fieldT Tryz.prog 162 2 = some 2 := by kernel_rfl
theorem ft_182_0 : fieldT Tryz.prog 182 0 = some 0 := by kernel_rfl
theorem ft_198_2 : fieldT Tryz.prog 198 2 = some 0 := by kernel_rfl
theorem ft_31_0 : fieldT Tryz.prog 31 0 = some 0 := by kernel_rfl
theorem ft_31_1 : fieldT Tryz.prog 31 1 = some 1 := by kernel_rfl
theorem ft_31_2 : fieldT Tryz.prog 31 2 = some 2 := by kernel_rfl
theorem ft_37_0 : fieldT Tryz.prog 37 0 = some 0 := by kernel_rfl
theorem ft_40_0 : fieldT Tryz.prog 40 0 = some 0 := by kernel_rfl
theorem ft_40_1 : fieldT Tryz.prog 40 1 = some 4 := by kernel_rfl
theorem ft_40_2 : fieldT Tryz.prog 40 2 = some 5 := by kernel_rfl
theorem ft_48_0 : fieldT Tryz.prog 48 0 = some 0 := by kernel_rfl
theorem ft_48_1 : fieldT Tryz.prog 48 1 = some 1 := by kernel_rfl
theorem ft_48_2 : fieldT Tryz.prog 48 2 = some 2 := by kernel_rfl
theorem ft_51_0 : fieldT Tryz.prog 51 0 = some 0 := by kernel_rfl
theorem ft_51_1 : fieldT Tryz.prog 51 1 = some 1 := by kernel_rfl
theorem ft_51_2 : fieldT Tryz.prog 51 2 = some 2 := by kernel_rfl
theorem ft_75_0 : fieldT Tryz.prog 75 0 = some 0 := by kernel_rfl
theorem ft_75_1 : fieldT Tryz.prog 75 1 = some 1 := by kernel_rfl
theorem ft_75_2 : fieldT Tryz.prog 75 2 = some 2 := by kernel_rfl
theorem ft_75_3 : fieldT Tryz.prog 75 3 = some 3 := by kernel_rfl
theorem ft_80_0 : fieldT Tryz.prog 80 0 = some 0 := by kernel_rfl
theorem ft_80_1 : fieldT Tryz.prog 80 1 = some 1 := by kernel_rfl
theorem ft_80_2 : fieldT Tryz.prog 80 2 = some 2 := by kernel_rfl
theorem ft_80_3 : fieldT Tryz.prog 80 3 = some 3 := by kernel_rfl
theorem ft_80_4 : fieldT Tryz.prog 80 4 = some 4 := by kernel_rfl
theorem ft_80_5 : fieldT Tryz.prog 80 5 = some 5 := by kernel_rfl
theorem ft_95_0 : fieldT Tryz.prog 95 0 = some 0 := by kernel_rfl
theorem ft_95_1 : fieldT Tryz.prog 95 1 = some 1 := by kernel_rfl
theorem ft_95_2 : fieldT Tryz.prog 95 2 = some 2 := by kernel_rfl
theorem if_25 : isIfaceT Tryz.prog 25 = some false := by kernel_rfl
theorem it_117 : intT Tryz.prog 117 = some .u64 := by kernel_rfl
theorem it_193 : intT Tryz.prog 193 = some .u64 := by kernel_rfl
theorem it_204 : intT Tryz.prog 204 = some .u32 := by kernel_rfl
theorem it_22 : intT Tryz.prog 22 = some .u16 := by kernel_rfl
theorem it_3 : intT Tryz.prog 3 = some .i64 := by kernel_rfl
theorem it_5 : intT Tryz.prog 5 = some .u8 := by kernel_rfl
theorem kt_127 : kindT Tryz.prog 127 = some 1 := by kernel_rfl
theorem kt_134 : kindT Tryz.prog 134 = some 1 := by kernel_rfl
theorem kt_146 : kindT Tryz.prog 146 = some 0 := by kernel_rfl
theorem kt_155 : kindT Tryz.prog 155 = some 0 := by kernel_rfl
theorem kt_25 : kindT Tryz.prog 25 = some 0 := by kernel_rfl
theorem kt_29 : kindT Tryz.prog 29 = some 1 := by kernel_rfl
theorem kt_34 : kindT Tryz.prog 34 = some 0 := by kernel_rfl
theorem kt_38 : kindT Tryz.prog 38 = some 1 := by kernel_rfl
theorem kt_55 : kindT Tryz.prog 55 = some 1 := by kernel_rfl
theorem kt_68 : kindT Tryz.prog 68 = some 1 := by kernel_rfl
theorem kt_69 : kindT Tryz.prog 69 = some 0 := by kernel_rfl
theorem kt_72 : kindT Tryz.prog 72 = some 1 := by kernel_rfl
theorem kt_73 : kindT Tryz.prog 73 = some 1 := by kernel_rfl
theorem kt_78 : kindT Tryz.prog 78 = some 1 := by kernel_rfl
theorem kt_96 : kindT Tryz.prog 96 = some 0 := by kernel_rfl
theorem lt_104 : loadT Tryz.prog 104 = some (some 4) := by kernel_rfl
theorem lt_117 : loadT Tryz.prog 117 = some none := by kernel_rfl
theorem lt_126 : loadT Tryz.prog 126 = some none := by kernel_rfl
theorem lt_127 : loadT Tryz.prog 127 = some none := by kernel_rfl
theorem lt_134 : loadT Tryz.prog 134 = some none := by kernel_rfl
theorem lt_146 : loadT Tryz.prog 146 = some none := by kernel_rfl
theorem lt_150 : loadT Tryz.prog 150 = some none := by kernel_rfl
theorem lt_162 : loadT Tryz.prog 162 = some (some 3) := by kernel_rfl
theorem lt_220 : loadT Tryz.prog 220 = some (some 4) := by kernel_rfl
theorem lt_25 : loadT Tryz.prog 25 = some none := by kernel_rfl
theorem lt_29 : loadT Tryz.prog 29 = some none := by kernel_rfl
theorem lt_3 : loadT Tryz.prog 3 = some none := by kernel_rfl
theorem lt_31 : loadT Tryz.prog 31 = some (some 3) := by kernel_rfl
theorem lt_34 : loadT Tryz.prog 34 = some none := by kernel_rfl
theorem lt_37 : loadT Tryz.prog 37 = some (some 4) := by kernel_rfl
theorem lt_38 : loadT Tryz.prog 38 = some none := by kernel_rfl
theorem lt_4 : loadT Tryz.prog 4 = some none := by kernel_rfl
theorem lt_40 : loadT Tryz.prog 40 = some (some 6) := by kernel_rfl
theorem lt_48 : loadT Tryz.prog 48 = some (some 3) := by kernel_rfl
theorem lt_5 : loadT Tryz.prog 5 = some none := by kernel_rfl
theorem lt_51 : loadT Tryz.prog 51 = some (some 3) := by kernel_rfl
theorem lt_55 : loadT Tryz.prog 55 = some none := by kernel_rfl
theorem lt_69 : loadT Tryz.prog 69 = some none := by kernel_rfl
theorem lt_72 : loadT Tryz.prog 72 = some none := by kernel_rfl
theorem lt_73 : loadT Tryz.prog 73 = some none := by kernel_rfl
theorem lt_75 : loadT Tryz.prog 75 = some (some 4) := by kernel_rfl
theorem lt_78 : loadT Tryz.prog 78 = some none := by kernel_rfl
theorem lt_80 : loadT Tryz.prog 80 = some (some 6) := by kernel_rfl
theorem lt_96 : loadT Tryz.prog 96 = some none := by kernel_rfl
theorem lt_98 : loadT Tryz.prog 98 = some none := by kernel_rfl
theorem mt_98 : mapT Tryz.prog 98 = some (3, 48, .int .i64) := by kernel_rfl
theorem ncal135 : callable Tryz.prog 135 = false := by kernel_rfl
theorem ncal136 : callable Tryz.prog 136 = false := by kernel_rfl
theorem pl_100 : bplT Tryz.prog 100 = some (.inl [(0, 1), (1, 1), (2, 1)]) := by kernel_rfl
theorem pl_104 : bplT Tryz.prog 104 = some (.inl [(0, 1), (1, 1), (2, 1), (3, 1)]) := by kernel_rfl
theorem pl_129 : bplT Tryz.prog 129 = some (.inl [(0, 1), (1, 1), (2, 1), (3, 1), (4, 1)]) := by kernel_rfl
theorem pl_148 : bplT Tryz.prog 148 = some (.inl [(0, 1), (1, 1), (2, 1)]) := by kernel_rfl
theorem pl_152 : bplT Tryz.prog 152 = some (.inl [(0, 1)]) := by kernel_rfl
theorem pl_162 : bplT Tryz.prog 162 = some (.inl [(0, 1), (1, 1), (2, 1)]) := by kernel_rfl
theorem pl_182 : bplT Tryz.prog 182 = some (.inl [(0, 1)]) := by kernel_rfl
theorem pl_31 : bplT Tryz.prog 31 = some (.inl [(0, 1), (1, 1), (2, 1)]) := by kernel_rfl
theorem pl_37 : bplT Tryz.prog 37 = some (.inl [(0, 3), (3, 1)]) := by kernel_rfl
theorem pl_40 : bplT Tryz.prog 40 = some (.inl [(0, 4), (4, 1), (5, 1)]) := by kernel_rfl
theorem pl_48 : bplT Tryz.prog 48 = some (.inl [(0, 1), (1, 1), (2, 1)]) := by kernel_rfl
theorem pl_51 : bplT Tryz.prog 51 = some (.inl [(0, 1), (1, 1), (2, 1)]) := by kernel_rfl
theorem pl_75 : bplT Tryz.prog 75 = some (.inl [(0, 1), (1, 1), (2, 1), (3, 1)]) := by kernel_rfl
theorem pl_95 : bplT Tryz.prog 95 = some (.inl [(0, 1), (1, 1), (2, 1)]) := by kernel_rfl
theorem sl_126 : slT Tryz.prog 126 = some ⟨25, [.pnil], 1, 8⟩ := by kernel_rfl
theorem sl_127 : slT Tryz.prog 127 = some ⟨34, [.pnil], 1, 8⟩ := by kernel_rfl
theorem sl_134 : slT Tryz.prog 134 = some ⟨55, [.snil], 1, 24⟩ := by kernel_rfl
theorem sl_29 : slT Tryz.prog 29 = some ⟨5, [.int .u8 0], 1, 1⟩ := by kernel_rfl
theorem sl_38 : slT Tryz.prog 38 = some ⟨51, [.int .i64 0, .int .i64 0, .snil], 3, 40⟩ := by kernel_rfl
theorem sl_55 : slT Tryz.prog 55 = some ⟨48, [.int .i64 0, .int .i64 0, .snil], 3, 40⟩ := by kernel_rfl
theorem sl_72 : slT Tryz.prog 72 = some ⟨40, [.int .i64 0, .snil, .snil, .int .i64 0, .int .i64 0, .snil], 6, 96⟩ := by kernel_rfl
theorem sl_73 : slT Tryz.prog 73 = some ⟨29, [.snil], 1, 24⟩ := by kernel_rfl
theorem sl_78 : slT Tryz.prog 78 = some ⟨4, [.bool false], 1, 1⟩ := by kernel_rfl
theorem ss_126 : slSz Tryz.prog 126 = some 1 := by kernel_rfl
theorem ss_127 : slSz Tryz.prog 127 = some 1 := by kernel_rfl
theorem ss_134 : slSz Tryz.prog 134 = some 1 := by kernel_rfl
theorem ss_29 : slSz Tryz.prog 29 = some 1 := by kernel_rfl
theorem ss_38 : slSz Tryz.prog 38 = some 3 := by kernel_rfl
theorem ss_55 : slSz Tryz.prog 55 = some 3 := by kernel_rfl
theorem ss_68 : slSz Tryz.prog 68 = some 6 := by kernel_rfl
theorem ss_72 : slSz Tryz.prog 72 = some 6 := by kernel_rfl
theorem ss_73 : slSz Tryz.prog 73 = some 1 := by kernel_rfl
theorem ss_78 : slSz Tryz.prog 78 = some 1 := by kernel_rfl
theorem st_9 : strT Tryz.prog 9 = true := by kernel_rfl
theorem zc_100 : zeroC Tryz.prog 100 = some [.pnil, .int .i64 0, .mnil] := by kernel_rfl
theorem zc_104 : zeroC Tryz.prog 104 = some [.int .i64 0, .int .i64 0, .int .i64 0, .snil] := by kernel_rfl
theorem zc_129 : zeroC Tryz.prog 129 = some [.snil, .snil, .bool false, .int .i64 0, .snil] := by kernel_rfl
theorem zc_134 : zeroC Tryz.prog 134 = some [.snil] := by kernel_rfl
theorem zc_148 : zeroC Tryz.prog 148 = some [.pnil, .snil, .int .i64 0] := by kernel_rfl
theorem zc_152 : zeroC Tryz.prog 152 = some [.nilIface] := by kernel_rfl
theorem zc_162 : zeroC Tryz.prog 162 = some [.int .u64 0, .snil, .int .i64 0] := by kernel_rfl
theorem zc_182 : zeroC Tryz.prog 182 = some [.snil] := by kernel_rfl
theorem zc_198 : zeroC Tryz.prog 198 = some [.int .i64 0] := by kernel_rfl
theorem zc_220 : zeroC Tryz.prog 220 = some [.int .u8 0, .int .u8 0, .int .u8 0, .int .u8 0] := by kernel_rfl
theorem zc_31 : zeroC Tryz.prog 31 = some [.int .i64 0, .snil, .snil] := by kernel_rfl
theorem zc_37 : zeroC Tryz.prog 37 = some [.int .i64 0, .snil, .snil, .int .i64 0] := by kernel_rfl
theorem zc_40 : zeroC Tryz.prog 40 = some [.int .i64 0, .snil, .snil, .int .i64 0, .int .i64 0, .snil] := by kernel_rfl
theorem zc_48 : zeroC Tryz.prog 48 = some [.int .i64 0, .int .i64 0, .snil] := by kernel_rfl
theorem zc_51 : zeroC Tryz.prog 51 = some [.int .i64 0, .int .i64 0, .snil] := by kernel_rfl
theorem zc_75 : zeroC Tryz.prog 75 = some [.snil, .bool false, .int .i64 0, .snil] := by kernel_rfl
theorem zc_80 : zeroC Tryz.prog 80 = some [.int .i64 0, .int .i64 0, .int .i64 0, .int .i64 0, .snil, .snil] := by kernel_rfl
theorem zc_95 : zeroC Tryz.prog 95 = some [.int .i64 0, .snil, .int .i64 0] := by kernel_rfl
theorem zt_104 : sizeT Tryz.prog 104 = some 4 := by kernel_rfl
theorem zt_126 : sizeT Tryz.prog 126 = some 1 := by kernel_rfl
theorem zt_127 : sizeT Tryz.prog 127 = some 1 := by kernel_rfl
theorem zt_134 : sizeT Tryz.prog 134 = some 1 := by kernel_rfl
theorem zt_162 : sizeT Tryz.prog 162 = some 3 := by kernel_rfl
theorem zt_220 : sizeT Tryz.prog 220 = some 4 := by kernel_rfl
theorem zt_29 : sizeT Tryz.prog 29 = some 1 := by kernel_rfl
theorem zt_3 : sizeT Tryz.prog 3 = some 1 := by kernel_rfl
theorem zt_31 : sizeT Tryz.prog 31 = some 3 := by kernel_rfl
theorem zt_34 : sizeT Tryz.prog 34 = some 1 := by kernel_rfl
theorem zt_37 : sizeT Tryz.prog 37 = some 4 := by kernel_rfl
theorem zt_38 : sizeT Tryz.prog 38 = some 1 := by kernel_rfl
theorem zt_4 : sizeT Tryz.prog 4 = some 1 := by kernel_rfl
theorem zt_40 : sizeT Tryz.prog 40 = some 6 := by kernel_rfl
theorem zt_48 : sizeT Tryz.prog 48 = some 3 := by kernel_rfl
theorem zt_5 : sizeT Tryz.prog 5 = some 1 := by kernel_rfl
theorem zt_72 : sizeT Tryz.prog 72 = some 1 := by kernel_rfl
theorem zt_73 : sizeT Tryz.prog 73 = some 1 := by kernel_rfl
theorem zt_75 : sizeT Tryz.prog 75 = some 4 := by kernel_rfl
theorem zt_80 : sizeT Tryz.prog 80 = some 6 := by kernel_rfl
end Go.Proofs.YtilgpaibolollaaGreat.Pk
namespace Go.Proofs.YtilgpaibolollaaGreat.Pk
open Go Go.Proofs Go.Proofs.YtilgpaibolollaaGreat.Ab
set_option maxRecDepth 10000
set_option linter.unusedVariables false
set_option linter.unusedSimpArgs false

def bytesV (l : List Nat) : List V := l.map fun (n : Nat) => V.int .u8 (n : Int)
theorem bytesV_one (l : List Nat) : (bytesV l).all (·.one) = true := by
  rw [List.all_eq_true]; intro x hx
  obtain ⟨n, _, rfl⟩ := List.mem_map.1 hx
  rfl
theorem bytesV_append (a b : List Nat) : bytesV (a ++ b) = bytesV a ++ bytesV b := by simp [bytesV]
theorem bytesV_length (a : List Nat) : (bytesV a).length = a.length := by simp [bytesV]
theorem bytesV_clo (a : List Nat) : CloL (bytesV a) := CloL.map fun _ _ => Clo.int _ _

def enc (n : Nat) : List Nat := if n < 128 then [n] else (n % 128 + 128) :: enc (n / 128)
termination_by n
theorem enc_small {n : Nat} (h : n < 128) : enc n = [n] := by rw [enc, if_pos h]
theorem enc_big {n : Nat} (h : ¬ n < 128) : enc n = (n % 128 + 128) :: enc (n / 128) := by rw [enc, if_neg h]
theorem enc_len (k : Nat) : ∀ n, n < 128 ^ (k + 1) → 1 ≤ (enc n).length ∧ (enc n).length ≤ k + 1 := by
  induction k with
  | zero => intro n h; rw [enc_small (by simpa using h)]; simp
  | succ k ih =>
    intro n h
    by_cases hn : n < 128
    · rw [enc_small hn]; simp
    · rw [enc_big hn]
      have := ih (n / 128) (by rw [Nat.pow_succ] at h; exact Nat.div_lt_of_lt_mul (by rw [Nat.mul_comm]; exact h))
      simp; omega
theorem enc_le (n : Nat) (h : n < 2 ^ 64) : 1 ≤ (enc n).length ∧ (enc n).length ≤ 10 := by
  have : (2:Nat) ^ 64 < 128 ^ 10 := by decide
  exact enc_len 9 n (by omega)

theorem or128 (n : Nat) : bOr .u8 (IntKind.u8.wrap (n : Int)) 128 = ((n % 128 + 128 : Nat) : Int) := by
  rw [IntKind.wrap_u8]
  unfold bOr
  rw [IntKind.wrap_u8]
  have e1 : BitVec.ofInt IntKind.u8.bits ((n : Int) % 256) = BitVec.ofNat 8 (n % 256) := by
    apply BitVec.eq_of_toNat_eq
    simp [IntKind.bits]
    omega
  rw [e1]
  have h : ∀ m : Fin 256, ((BitVec.ofNat 8 m.val ||| BitVec.ofInt 8 128).toNat : Int) % 256 = ((m.val % 128 + 128 : Nat) : Int) := by decide +kernel
  have := h ⟨n % 256, Nat.mod_lt _ (by decide)⟩
  have e2 : ((n % 256 % 128 + 128 : Nat) : Int) = ((n % 128 + 128 : Nat) : Int) := by omega
  exact this.trans e2
theorem shr7 (n : Nat) : (n : Int).fdiv (2 ^ (min (Int.toNat 7) IntKind.u64.bits)) = ((n / 128 : Nat) : Int) := by
  have : (2 ^ (min (Int.toNat 7) IntKind.u64.bits) : Int) = 128 := by decide
  rw [this, Int.fdiv_eq_ediv_of_nonneg _ (by omega)]
  rfl
theorem wrapu8 (n : Nat) (h : n < 128) : IntKind.u8.wrap (n : Int) = (n : Int) := by rw [IntKind.wrap_u8]; omega


theorem lit1b (h : AHeap) (a : Int) : aBuildSlice Tryz.prog 29 1 [(0, .int .u8 a)] h = some (.sl h.n 0 1 1, h.push (.cells [.int .u8 a] 5 none)) := by rw [buildSlice_go sl_29]; rfl

set_option maxRecDepth 10000 in
theorem addUint (s : V) (cs : List Nat) (n : Nat) (h : AHeap) (ho : Own h 5 1 s (bytesV cs)) (hc : cs.length ≤ 2 ^ 46) (hn : n < 2 ^ 64) :
    SCalls Tryz.prog 123 [s, .int .u64 n] h (fun r h' => Own h' 5 1 r (bytesV (cs ++ enc n)) ∧ Keep h h' (isId s) ∧ NewOr h s r) := by
  refine SCalls.enterI (c := _) Tryz.func123 rfl (by kernel_rfl) (by simp) ?_
  simp only [bW]
  refine SWp.loopG (α := V × List Nat × Nat) (fun x f h' => f 0 = x.1 ∧ f 1 = .int .u64 (x.2.2 : Nat) ∧ Own h' 5 1 x.1 (bytesV x.2.1) ∧ Keep h h' (isId s) ∧ NewOr h s x.1 ∧ x.2.1 ++ enc x.2.2 = cs ++ enc n ∧ x.2.2 < 2 ^ 64) (fun x => x.2.2) (s, cs, n)
    ⟨rfl, rfl, ho, Keep.refl _ _, .inl rfl, rfl, hn⟩ ?_
  rintro ⟨s', cs', n'⟩ f h1 ⟨f0, f1, ho', hk, hid, hcs, hn'⟩
  simp only at f0 f1 ho' hid hcs hn'
  refine wpI_sound (by kernel_rfl) ?_
  have hlen : cs'.length + 1 ≤ cs.length + 10 := by
    have h1 := congrArg List.length hcs
    have h2 := enc_le n hn
    have h3 := enc_le n' hn'
    simp at h1
    omega
  have next : ∀ (v : V) (h2 : AHeap), Keep h1 h2 (isId s') → NewOr h1 s' v → Keep h h2 (isId s) ∧ NewOr h s v := fun v h2 k2 d2 => by
    refine ⟨hk.trans k2 fun k hk1 hk2 => ?_, ?_⟩
    · rcases hid with hid | hid
      · unfold isId at hk2 ⊢; rw [← hid]; exact hk2
      · have := hid k hk2; omega
    · rcases d2 with d2 | d2
      · rcases hid with hid | hid
        · exact .inl (d2.trans hid)
        · exact .inr fun k hk1 => hid k (by rw [← d2]; exact hk1)
      · exact .inr fun k hk1 => Nat.le_trans hk.n (d2 k hk1)
  by_cases hlt : 128 ≤ n'
  · have c1 : decide ((128 : Int) ≤ (n' : Int)) = true := by simp; omega
    obtain ⟨v, h2, q1, q2, q3, q4⟩ := append_elem (P := Tryz.prog) sl_29 (by decide) ho' (xs := [.int .u8 ((n' % 128 + 128 : Nat) : Int)]) rfl rfl (by simp [bytesV_length, lim]; omega) (by simp [bytesV_length, lim]; omega)
    obtain ⟨k2, d2⟩ := next v h2 q3 q4
    simp only [bW, Nat.reduceEqDiff, reduceCtorEq, f0, f1, c1, aConv_int it_117 it_5, or128, lit1b, q1, aBin_shr (show (0 : Int) ≤ 7 by decide), shr7]
    refine hid_mk ⟨(v, cs' ++ [n' % 128 + 128], n' / 128), ⟨rfl, rfl, ?_, k2, d2, ?_, by simp only; omega⟩, by simp; omega⟩
    · rw [bytesV_append]; exact q2
    · simp only
      rw [← hcs, enc_big (n := n') (by omega)]
      simp
  · have c1 : decide ((128 : Int) ≤ (n' : Int)) = false := by simp; omega
    obtain ⟨v, h2, q1, q2, q3, q4⟩ := append_elem (P := Tryz.prog) sl_29 (by decide) ho' (xs := [.int .u8 (n' : Int)]) rfl rfl (by simp [bytesV_length, lim]; omega) (by simp [bytesV_length, lim]; omega)
    obtain ⟨k2, d2⟩ := next v h2 q3 q4
    simp only [bW, Nat.reduceEqDiff, reduceCtorEq, f0, f1, c1, aConv_int it_117 it_5, wrapu8 n' (by omega), lit1b, q1, retA_ret, Tryz.results123, resultsA_1]
    refine hid_mk ⟨?_, k2, d2⟩
    rw [← hcs, enc_small (by omega), bytesV_append]
    exact q2
end Go.Proofs.YtilgpaibolollaaGreat.Pk
namespace Go.Proofs.YtilgpaibolollaaGreat.Pk
open Go Go.Proofs Go.Proofs.YtilgpaibolollaaGreat.Ab
set_option maxRecDepth 10000
set_option linter.unusedVariables false
set_option linter.unusedSimpArgs false

/-- What can be read as bytes: in this memory, and when more was made. -/
structure Rd (h : AHeap) (s : V) (cs : List Nat) : Prop where
  len : ∀ h', Keep h h' none_ → aLen Tryz.prog 29 s h' = some (.int .i64 cs.length)
  lenOf : aLenOf s = some cs.length
  first : ∀ h', Keep h h' none_ → aFirst 1 cs.length s h' = some (bytesV cs)
  src : ∀ h', Keep h h' none_ → aSrc Tryz.prog 1 29 s h' = some (cs.length, bytesV cs)
theorem Rd.snil (h : AHeap) : Rd h .snil [] := ⟨fun _ _ => aLen_snil kt_29, rfl, fun _ _ => rfl, fun _ _ => by
  obtain ⟨d, hu, hd⟩ := kindT_eq kt_29
  cases d <;> simp [descKind] at hd
  simp [aSrc, hu, bytesV]⟩
theorem Rd.imm (h : AHeap) (cs : List Nat) : Rd h (.imm cs.length (bytesV cs)) cs := ⟨fun _ _ => aLen_imm kt_29, rfl, fun h' _ => by
  simp only [aFirst, bytesV_length, Nat.mul_one, Nat.le_refl, and_self, if_true]
  rw [List.take_of_length_le (by rw [bytesV_length]; exact Nat.le_refl _)], fun h' _ => imm_src kt_29 (by rw [bytesV_length, Nat.mul_one]) (bytesV_one cs)⟩
theorem Rd.keep {h h' : AHeap} {s : V} {cs : List Nat} (rd : Rd h s cs) (k : Keep h h' none_) : Rd h' s cs :=
  ⟨fun h2 k2 => rd.len h2 (k.trans' k2), rd.lenOf, fun h2 k2 => rd.first h2 (k.trans' k2), fun h2 k2 => rd.src h2 (k.trans' k2)⟩

set_option maxRecDepth 10000 in
theorem fresh (s : V) (cs : List Nat) (m : Nat) (h : AHeap) (rd : Rd h s cs) (hc : cs.length + m ≤ 2 ^ 47) :
    SCalls Tryz.prog 106 [s, .int .i64 m] h (fun r h' => r = .sl h.n 0 cs.length (cs.length + m) ∧ Own h' 5 1 r (bytesV cs) ∧ Keep h h' none_) := by
  refine SCalls.enterI (c := _) Tryz.func106 rfl (by kernel_rfl) (by simp) ?_
  have hw : IntKind.i64.wrap ((cs.length : Int) + (m : Int)) = ((cs.length + m : Nat) : Int) := by rw [Go.IntWalk.i64_in _ (by omega)]; omega
  obtain ⟨h1, h2, q1, q2, q3, q4, q5⟩ := own_clone2 (P := Tryz.prog) (tx := 29) (k := .i64) (k' := .i64) (h := h) (c := cs.length + m) sl_29 rd.lenOf rd.first (bytesV_one cs) (by simp [bytesV_length]) (by omega) (by simp only; omega) (by omega)
  simp only [bW, Nat.reduceEqDiff, reduceCtorEq, rd.len h (Keep.refl _ _), hw, q1, q2, retA_ret, Tryz.results106, resultsA_1]
  exact hid_mk ⟨rfl, q3, q5⟩

theorem Uint (s : V) (cs : List Nat) (n : Nat) (h : AHeap) (rd : Rd h s cs) (hc : cs.length ≤ 2 ^ 46) (hn : n < 2 ^ 64) :
    SCalls Tryz.prog 112 [s, .int .u64 n] h (fun r h' => Own h' 5 1 r (bytesV (cs ++ enc n)) ∧ Keep h h' none_ ∧ ∀ k, idOf r = some k → h.n ≤ k) := by
  refine SCalls.enterI (c := _) Tryz.func112 rfl (by kernel_rfl) (by simp) ?_
  simp only [bW, Nat.reduceEqDiff, reduceCtorEq]
  refine callI_of cal106 (fresh s cs 10 h rd (by omega)) fun r1 h1 ⟨e1, o1, k1⟩ => ?_
  have d1 : ∀ k, idOf r1 = some k → h.n ≤ k := fun k hk => by subst e1; simp [idOf] at hk; omega
  simp only [bW, Nat.reduceEqDiff]
  refine callI_of cal123 (addUint r1 cs n h1 o1 hc hn) fun r2 h2 ⟨o2, k2, d2⟩ => ?_
  simp only [bW, Nat.reduceEqDiff, retA_ret, Tryz.results112, resultsA_1]
  refine hid_mk ⟨o2, k1.trans k2 fun k hk hi => ?_, fun k hk => ?_⟩
  · have := d1 k hi; omega
  · rcases d2 with d2 | d2
    · exact d1 k (d2 ▸ hk)
    · exact Nat.le_trans k1.n (d2 k hk)
theorem pUint (s : V) (cs : List Nat) (n : Nat) (h : AHeap) (rd : Rd h s cs) (hc : cs.length ≤ 2 ^ 46) (hn : n < 2 ^ 64) :
    Pure Tryz.prog 112 [s, .int .u64 n] h (.imm (cs ++ enc n).length (bytesV (cs ++ enc n))) := by
  refine Pure.of (Clo.imm (bytesV_clo _)) ((Uint s cs n h rd hc hn).mono fun r h' ⟨o, k, d⟩ => ?_)
  obtain ⟨h2, c, k2⟩ := Cast.own o (n := (cs ++ enc n).length) (by simp [bytesV_length]) (by omega)
  exact ⟨h2, c, k.trans k2 fun j hj hs => by have := d j hs; omega⟩
theorem pFresh (s : V) (cs : List Nat) (m : Nat) (h : AHeap) (rd : Rd h s cs) (hc : cs.length + m ≤ 2 ^ 47) :
    Pure Tryz.prog 106 [s, .int .i64 m] h (.imm cs.length (bytesV cs)) := by
  refine Pure.of (Clo.imm (bytesV_clo _)) ((fresh s cs m h rd hc).mono fun r h' ⟨e, o, k⟩ => ?_)
  obtain ⟨h2, c, k2⟩ := Cast.own o (n := cs.length) (by simp [bytesV_length]) (by omega)
  refine ⟨h2, c, k.trans k2 fun j hj hs => ?_⟩
  subst e
  simp [isId, idOf] at hs
  omega

/-- A reader: the bytes that are left. -/
def IsRd (h : AHeap) (p : V) (i : Nat) (cs : List Nat) : Prop := p = .ptr i 0 ∧ i < h.n ∧ h.get i = .cells [.imm cs.length (bytesV cs)] 182 none
theorem From (s : V) (cs : List Nat) (h : AHeap) (rd : Rd h s cs) (hc : cs.length ≤ 2 ^ 47) :
    SCalls Tryz.prog 81 [s] h (fun r h' => r = .ptr h.n 0 ∧ IsRd h' r h.n cs ∧ Keep h h' none_) := by
  refine SCalls.enterI (c := _) Tryz.func81 rfl (by kernel_rfl) (by simp) ?_
  simp only [bW, Nat.reduceEqDiff, reduceCtorEq]
  refine callI_pure cal106 (pFresh s cs 0 h rd (by omega)) ?_
  simp only [bW, Nat.reduceEqDiff, pl_182, zc_182, retA_ret, Tryz.results81, resultsA_1]
  exact hid_mk ⟨rfl, ⟨rfl, by rw [push_n]; omega, get_push_new⟩, Keep.push _ _ _⟩
theorem rest (h : AHeap) (p : V) (i : Nat) (cs : List Nat) (hr : IsRd h p i cs) : Pure Tryz.prog 108 [p] h (.imm cs.length (bytesV cs)) := by
  obtain ⟨rfl, hi, hg⟩ := hr
  refine SCalls.enterI (c := _) Tryz.func108 rfl (by kernel_rfl) (by simp) ?_
  simp only [bW, Nat.reduceEqDiff, reduceCtorEq, ft_182_0, kt_155, lt_29, hg, retA_ret, Tryz.results108, resultsA_1]
  exact hid_mk ⟨rfl, rfl⟩
theorem Left (h : AHeap) (p : V) (i : Nat) (cs : List Nat) (hr : IsRd h p i cs) : Pure Tryz.prog 83 [p] h (.int .i64 cs.length) := by
  refine SCalls.enterI (c := _) Tryz.func83 rfl (by kernel_rfl) (by simp) ?_
  simp only [bW, Nat.reduceEqDiff, reduceCtorEq]
  refine callI_pure cal108 (rest h p i cs hr) ?_
  simp only [bW, Nat.reduceEqDiff, kt_29, retA_ret, Tryz.results83, resultsA_1]
  exact hid_mk ⟨rfl, rfl⟩
end Go.Proofs.YtilgpaibolollaaGreat.Pk
namespace Go.Proofs.YtilgpaibolollaaGreat.Pk
open Go Go.Proofs Go.Proofs.YtilgpaibolollaaGreat.Ab
set_option maxRecDepth 10000
set_option linter.unusedVariables false
set_option linter.unusedSimpArgs false

theorem ofInt_nat (w n : Nat) : BitVec.ofInt w (n : Int) = BitVec.ofNat w n := by
  apply BitVec.eq_of_toNat_eq
  simp
/-- or of numbers that share no bit -/
theorem bOr_add (a b k : Nat) (hb : b < 2 ^ k) (hk : k ≤ 64) (ha : a * 2 ^ k < 2 ^ 64) : bOr .u64 (b : Int) ((a * 2 ^ k : Nat) : Int) = ((a * 2 ^ k + b : Nat) : Int) := by
  have hlt : a * 2 ^ k + b < 2 ^ 64 := by
    have e : (2 : Nat) ^ 64 = 2 ^ (64 - k) * 2 ^ k := by rw [← Nat.pow_add]; congr 1; omega
    rw [e] at ha ⊢
    have h1 : a < 2 ^ (64 - k) := Nat.lt_of_mul_lt_mul_right ha
    calc a * 2 ^ k + b < a * 2 ^ k + 2 ^ k := by omega
      _ = (a + 1) * 2 ^ k := by rw [Nat.add_mul]; simp
      _ ≤ _ := Nat.mul_le_mul_right _ h1
  unfold bOr
  rw [ofInt_nat, ofInt_nat]
  have e1 : (BitVec.ofNat IntKind.u64.bits b ||| BitVec.ofNat IntKind.u64.bits (a * 2 ^ k)).toNat = a * 2 ^ k + b := by
    rw [BitVec.toNat_or]
    simp only [BitVec.toNat_ofNat, IntKind.bits]
    rw [Nat.mod_eq_of_lt (by omega), Nat.mod_eq_of_lt ha]
    have := Nat.shiftLeft_add_eq_or_of_lt hb a
    rw [Nat.shiftLeft_eq] at this
    rw [this, Nat.or_comm]
  rw [e1, IntKind.wrap_u64]
  omega
theorem low7 (g : Nat) (hg : g < 256) : IntKind.u64.wrap (bAndNot .u8 (g : Int) 128) = ((g % 128 : Nat) : Int) := by
  have h : ∀ m : Fin 256, IntKind.u64.wrap (bAndNot .u8 (m.val : Int) 128) = ((m.val % 128 : Nat) : Int) := by decide +kernel
  exact h ⟨g, hg⟩
theorem sh7 (g at_ : Nat) (hg : g % 128 * 2 ^ (7 * at_) < 2 ^ 64) (ha : at_ ≤ 9) : IntKind.u64.wrap (((g % 128 : Nat) : Int) * 2 ^ (min (IntKind.i64.wrap (7 * (at_ : Int))).toNat IntKind.u64.bits)) = ((g % 128 * 2 ^ (7 * at_) : Nat) : Int) := by
  have e : (min (IntKind.i64.wrap (7 * (at_ : Int))).toNat IntKind.u64.bits) = 7 * at_ := by
    rw [IntKind.wrap_i64]
    have h1 : ((7 * (at_ : Int) + 9223372036854775808) % 18446744073709551616 - 9223372036854775808) = ((7 * at_ : Nat) : Int) := by omega
    rw [h1, Int.toNat_natCast]
    simp only [IntKind.bits]
    omega
  rw [e, IntKind.wrap_u64]
  have : (((g % 128 : Nat) : Int) * 2 ^ (7 * at_)) = ((g % 128 * 2 ^ (7 * at_) : Nat) : Int) := by push_cast; rfl
  rw [this]
  omega

theorem fits7 (g at_ : Nat) (ha9 : at_ ≤ 9) (hbad : ¬(at_ = 9 ∧ 1 < g)) (hg : g < 256) : g % 128 * 2 ^ (7 * at_) < 2 ^ 64 := by
  by_cases h8 : at_ ≤ 8
  · have h1 : (2 : Nat) ^ (7 * at_) ≤ 2 ^ 56 := Nat.pow_le_pow_right (by decide) (by omega)
    have h2 : g % 128 < 128 := Nat.mod_lt _ (by decide)
    have h3 : g % 128 * 2 ^ (7 * at_) ≤ 127 * 2 ^ 56 := Nat.mul_le_mul (by omega) h1
    exact Nat.lt_of_le_of_lt h3 (by decide)
  · have : at_ = 9 := by omega
    subst this
    have : g % 128 ≤ 1 := by omega
    exact Nat.lt_of_le_of_lt (Nat.mul_le_mul_right _ this) (by decide)
theorem or7 (g n at_ : Nat) (hn : n < 2 ^ (7 * at_)) (ha9 : at_ ≤ 9) (hn7 : g % 128 * 2 ^ (7 * at_) < 2 ^ 64) : bOr .u64 (n : Int) ((g % 128 * 2 ^ (7 * at_) : Nat) : Int) = ((n + g % 128 * 2 ^ (7 * at_) : Nat) : Int) := by
  rw [bOr_add (g % 128) n (7 * at_) hn (by omega) hn7, Nat.add_comm]
theorem next7 (g n at_ : Nat) (hn : n < 2 ^ (7 * at_)) : n + g % 128 * 2 ^ (7 * at_) < 2 ^ (7 * (at_ + 1)) := by
  have e : (2 : Nat) ^ (7 * (at_ + 1)) = 128 * 2 ^ (7 * at_) := by rw [Nat.mul_add, Nat.pow_add]; omega
  rw [e]
  have h2 : g % 128 < 128 := Nat.mod_lt _ (by decide)
  have h3 := Nat.mul_le_mul_right (2 ^ (7 * at_)) (show g % 128 ≤ 127 by omega)
  generalize 2 ^ (7 * at_) = p at *
  omega

/-- What number tells: of bytes from here on, so many of them taken, so much told by those. -/
def dec : List Nat → Nat → Nat → Nat × Nat × Nat
  | [], _, _ => (0, 0, 4)
  | g :: r, at_, n =>
    if at_ = 9 ∧ 1 < g then (0, 0, 5)
    else if 128 ≤ g then dec r (at_ + 1) (n + g % 128 * 2 ^ (7 * at_))
    else if g = 0 ∧ 0 < at_ then (0, 0, 5)
    else (n + g % 128 * 2 ^ (7 * at_), at_ + 1, 0)
def decV (r : Nat × Nat × Nat) : V := .tuple [.int .u64 (r.1 : Nat), .int .i64 (r.2.1 : Nat), .int .i64 (r.2.2 : Nat)]
theorem bytes_drop {bs : List Nat} {k : Nat} (hk : k < bs.length) : (bytesV bs).drop (k * 1) = .int .u8 (bs[k] : Nat) :: bytesV (bs.drop (k + 1)) := by
  rw [Nat.mul_one]
  unfold bytesV
  rw [← List.map_drop, List.drop_eq_getElem_cons hk]
  rfl

set_option maxRecDepth 10000 in
theorem number (bs : List Nat) (h : AHeap) (hb : ∀ b ∈ bs, b < 256) (hc : bs.length ≤ 2 ^ 47) :
    Pure Tryz.prog 109 [.imm bs.length (bytesV bs)] h (decV (dec bs 0 0)) := by
  refine SCalls.enterI (c := _) Tryz.func109 rfl (by kernel_rfl) (by simp) ?_
  simp only [bW]
  refine SWp.scopeG (α := Nat × Nat) (l := 0) rfl (fun x f h' => h' = h ∧ f 0 = .imm bs.length (bytesV bs) ∧ f 5 = .int .u64 (x.2 : Nat) ∧ f 6 = .int .i64 (x.1 : Nat) ∧ dec (bs.drop x.1) x.1 x.2 = dec bs 0 0 ∧ x.2 < 2 ^ (7 * x.1) ∧ x.1 ≤ 9 ∧ x.1 ≤ bs.length) (fun x => 10 - x.1) ?_ ?_ ?_
  · rintro x f h1 _
    omega
  · rintro ⟨at_, n⟩ f h1 ⟨rfl, f0, f5, f6, hd, hn, ha9, hab⟩
    simp only at f5 f6 hd hn ha9 hab
    refine wpI_sound (by kernel_rfl) ?_
    by_cases hend : at_ = bs.length
    · have hb1 : ((at_ : Int) == (bs.length : Int)) = true := by simp [hend]
      simp only [bW, Nat.reduceEqDiff, reduceCtorEq, kt_29, f0, f6, hb1, jumpA_ret, retA_ret, Tryz.results109, resultsA_3]
      refine hid_mk ⟨?_, rfl⟩
      rw [← hd, hend, List.drop_length]
      rfl
    · have hb1 : ((at_ : Int) == (bs.length : Int)) = false := by simp; omega
      have hlt : at_ < bs.length := by omega
      have hg256 : bs[at_] < 256 := hb _ (List.getElem_mem hlt)
      have hdrop : bs.drop at_ = bs[at_] :: bs.drop (at_ + 1) := List.drop_eq_getElem_cons hlt
      have hix := index_imm (P := Tryz.prog) (t := 29) (k := .i64) (i := (at_ : Int)) (n := bs.length) (cs := bytesV bs) ss_29 (by omega) (by omega) (by rw [bytesV_length]; omega)
      rw [Int.toNat_natCast, bytes_drop hlt] at hix
      have hd2 : dec (bs.drop at_) at_ n = dec (bs[at_] :: bs.drop (at_ + 1)) at_ n := by rw [← hdrop]
      generalize bs[at_] = g at hg256 hix hd2
      clear hdrop
      by_cases hbad : at_ = 9 ∧ 1 < g
      · have hb2 : ((at_ : Int) == 9) = true := by simp [hbad.1]
        have hb3 : decide ((1 : Int) < (g : Int)) = true := by simp; omega
        simp only [bW, Nat.reduceEqDiff, reduceCtorEq, kt_29, lt_5, f0, f6, hb1, hix, hb2, hb3, jumpA_ret, retA_ret, Tryz.results109, resultsA_3]
        refine hid_mk ⟨?_, rfl⟩
        rw [← hd, hd2, dec, if_pos hbad]
        rfl
      · have hn7 := fits7 g at_ ha9 hbad hg256
        have hor := or7 g n at_ hn ha9 hn7
        have hnext := next7 g n at_ hn
        have hs7 := sh7 g at_ hn7 ha9
        have hl7 := low7 g hg256
        have hpos : (0 : Int) ≤ IntKind.i64.wrap (7 * (at_ : Int)) := by
          rw [Go.IntWalk.i64_in _ (by omega)]
          omega
        have hw1 : IntKind.i64.wrap ((at_ : Int) + 1) = ((at_ + 1 : Nat) : Int) := by rw [Go.IntWalk.i64_in _ (by omega)]; rfl
        have hcond : (((at_ : Int) == 9) = true ∧ decide ((1 : Int) < (g : Int)) = false) ∨ ((at_ : Int) == 9) = false := by
          by_cases h9 : at_ = 9
          · left; refine ⟨by simp [h9], by simp; omega⟩
          · right; simp; omega
        by_cases hbig : 128 ≤ g
        · have hb4 : decide ((128 : Int) ≤ (g : Int)) = true := by simp; omega
          have h8 : at_ ≤ 8 := by
            rcases Nat.lt_or_ge at_ 9 with h | h
            · omega
            · exact absurd ⟨by omega, by omega⟩ hbad
          have hfin : dec (bs.drop (at_ + 1)) (at_ + 1) (n + g % 128 * 2 ^ (7 * at_)) = dec bs 0 0 := by
            rw [← hd, hd2, dec, if_neg hbad, if_pos hbig]
          rcases hcond with ⟨c1, c2⟩ | c1
          · exfalso
            simp at c1
            omega
          · simp only [bW, Nat.reduceEqDiff, reduceCtorEq, kt_29, lt_5, f0, f5, f6, hb1, hix, c1, hb4, aConv_int it_5 it_117, hl7, aBin_shl hpos, hs7, hor, hw1, jumpA_goto]
            exact hid_mk ⟨(at_ + 1, _), ⟨rfl, f0, rfl, rfl, hfin, hnext, by simp only; omega, by simp only; omega⟩, by simp; omega⟩
        · have hb4 : decide ((128 : Int) ≤ (g : Int)) = false := by simp; omega
          have hr : dec bs 0 0 = if g = 0 ∧ 0 < at_ then (0, 0, 5) else (n + g % 128 * 2 ^ (7 * at_), at_ + 1, 0) := by
            rw [← hd, hd2, dec, if_neg hbad, if_neg hbig]
          have hc3 : ((g : Int) == 0) = false ∨ (((g : Int) == 0) = true ∧ decide ((1 : Int) < ((at_ + 1 : Nat) : Int)) = decide (0 < at_)) := by
            by_cases h0 : g = 0
            · right; exact ⟨by simp [h0], by rw [decide_eq_decide]; omega⟩
            · left; simp; omega
          rcases hc3 with c3 | ⟨c3, c4⟩
          · have h0 : ¬ (g = 0 ∧ 0 < at_) := by intro h; simp [h.1] at c3
            rw [if_neg h0] at hr
            rcases hcond with ⟨c1, c2⟩ | c1
            · simp only [bW, Nat.reduceEqDiff, reduceCtorEq, kt_29, lt_5, f0, f5, f6, hb1, hix, c1, c2, c3, hb4, aConv_int it_5 it_117, hl7, aBin_shl hpos, hs7, hor, hw1, jumpA_ret, retA_ret, Tryz.results109, resultsA_3]
              exact hid_mk ⟨by rw [hr]; rfl, rfl⟩
            · simp only [bW, Nat.reduceEqDiff, reduceCtorEq, kt_29, lt_5, f0, f5, f6, hb1, hix, c1, c3, hb4, aConv_int it_5 it_117, hl7, aBin_shl hpos, hs7, hor, hw1, jumpA_ret, retA_ret, Tryz.results109, resultsA_3]
              exact hid_mk ⟨by rw [hr]; rfl, rfl⟩
          · by_cases hat : 0 < at_
            · have h0 : (g = 0 ∧ 0 < at_) := ⟨by simpa using c3, hat⟩
              rw [if_pos h0] at hr
              simp only [hat, decide_true] at c4
              rcases hcond with ⟨c1, c2⟩ | c1
              · simp only [bW, Nat.reduceEqDiff, reduceCtorEq, kt_29, lt_5, f0, f5, f6, hb1, hix, c1, c2, c3, c4, hb4, aConv_int it_5 it_117, hl7, aBin_shl hpos, hs7, hor, hw1, jumpA_ret, retA_ret, Tryz.results109, resultsA_3]
                exact hid_mk ⟨by rw [hr]; rfl, rfl⟩
              · simp only [bW, Nat.reduceEqDiff, reduceCtorEq, kt_29, lt_5, f0, f5, f6, hb1, hix, c1, c3, c4, hb4, aConv_int it_5 it_117, hl7, aBin_shl hpos, hs7, hor, hw1, jumpA_ret, retA_ret, Tryz.results109, resultsA_3]
                exact hid_mk ⟨by rw [hr]; rfl, rfl⟩
            · have h0 : ¬ (g = 0 ∧ 0 < at_) := fun h => hat h.2
              rw [if_neg h0] at hr
              simp only [hat, decide_false] at c4
              rcases hcond with ⟨c1, c2⟩ | c1
              · simp only [bW, Nat.reduceEqDiff, reduceCtorEq, kt_29, lt_5, f0, f5, f6, hb1, hix, c1, c2, c3, c4, hb4, aConv_int it_5 it_117, hl7, aBin_shl hpos, hs7, hor, hw1, jumpA_ret, retA_ret, Tryz.results109, resultsA_3]
                exact hid_mk ⟨by rw [hr]; rfl, rfl⟩
              · simp only [bW, Nat.reduceEqDiff, reduceCtorEq, kt_29, lt_5, f0, f5, f6, hb1, hix, c1, c3, c4, hb4, aConv_int it_5 it_117, hl7, aBin_shl hpos, hs7, hor, hw1, jumpA_ret, retA_ret, Tryz.results109, resultsA_3]
                exact hid_mk ⟨by rw [hr]; rfl, rfl⟩
  · intro step
    refine SWp.seq (wpI_sound (by kernel_rfl) ?_)
    simp only [bW]
    refine SWp.seq (wpI_sound (by kernel_rfl) ?_)
    simp only [bW]
    refine SWp.seq (.label ?_)
    exact step (0, 0) _ _ ⟨rfl, rfl, rfl, rfl, rfl, by decide, by decide, by omega⟩
end Go.Proofs.YtilgpaibolollaaGreat.Pk
namespace Go.Proofs.YtilgpaibolollaaGreat.Pk
open Go Go.Proofs Go.Proofs.YtilgpaibolollaaGreat.Ab
set_option maxRecDepth 10000
set_option linter.unusedVariables false
set_option linter.unusedSimpArgs false

theorem dec_err (l : List Nat) : ∀ k n, (dec l k n).2.2 ≠ 0 → dec l k n = (0, 0, (dec l k n).2.2) := by
  induction l with
  | nil => intro k n _; rfl
  | cons g r ih =>
    intro k n h
    unfold dec at h ⊢
    split
    · rfl
    · rename_i h1
      rw [if_neg h1] at h
      split
      · rename_i h2
        rw [if_pos h2] at h
        exact ih _ _ h
      · rename_i h2
        rw [if_neg h2] at h
        split
        · rfl
        · rename_i h3
          rw [if_neg h3] at h
          simp at h
theorem dec_used (l : List Nat) : ∀ k n, (dec l k n).2.1 ≤ l.length + k := by
  induction l with
  | nil => intro k n; simp [dec]
  | cons g r ih =>
    intro k n
    unfold dec
    split
    · simp
    · split
      · have := ih (k + 1) (n + g % 128 * 2 ^ (7 * k))
        simp; omega
      · split
        · simp
        · simp; omega

theorem IsRd.keep {h h' : AHeap} {p : V} {i : Nat} {cs : List Nat} {own : Nat → Prop} (hr : IsRd h p i cs) (hk : Keep h h' own) (hne : ¬ own i) : IsRd h' p i cs :=
  ⟨hr.1, Nat.lt_of_lt_of_le hr.2.1 hk.n, (hk.get i hr.2.1 hne).trans hr.2.2⟩
theorem RUint (p : V) (i : Nat) (bs : List Nat) (h : AHeap) (hr : IsRd h p i bs) (hb : ∀ b ∈ bs, b < 256) (hc : bs.length ≤ 2 ^ 47) :
    SCalls Tryz.prog 107 [p] h (fun r h' => r = .tuple [.int .u64 ((dec bs 0 0).1 : Nat), .int .i64 ((dec bs 0 0).2.2 : Nat)] ∧ IsRd h' p i (bs.drop (dec bs 0 0).2.1) ∧ Keep h h' (· = i)) := by
  refine SCalls.enterI (c := _) Tryz.func107 rfl (by kernel_rfl) (by simp) ?_
  simp only [bW, Nat.reduceEqDiff, reduceCtorEq]
  refine callI_pure cal108 (rest h p i bs hr) ?_
  simp only [bW, Nat.reduceEqDiff]
  refine callI_pure cal109 (number bs h hb hc) ?_
  by_cases herr : (dec bs 0 0).2.2 = 0
  · have hne : ((((dec bs 0 0).2.2 : Nat) : Int) != 0) = false := by simp [herr]
    have hused := dec_used bs 0 0
    obtain ⟨rfl, hi, hg⟩ := hr
    have hsl : aSlice Tryz.prog 29 (.imm bs.length (bytesV bs)) (some (.int .i64 ((dec bs 0 0).2.1 : Nat))) none none = some (.imm (bs.drop (dec bs 0 0).2.1).length (bytesV (bs.drop (dec bs 0 0).2.1))) := by
      rw [slice_imm_lo ss_29 (by omega) (by omega) (by rw [bytesV_length]; omega)]
      rw [Int.toNat_natCast, Nat.mul_one]
      unfold bytesV
      rw [List.map_drop, List.length_drop]
    simp only [bW, Nat.reduceEqDiff, reduceCtorEq, ft_182_0, lt_29, zt_29, decV, hne, hg, hsl, retA_ret, Tryz.results107, resultsA_2]
    exact hid_mk ⟨by simp [herr], ⟨rfl, by rw [set_n]; exact hi, get_set_same⟩, Keep.set _ _ _⟩
  · have hne : ((((dec bs 0 0).2.2 : Nat) : Int) != 0) = true := by simp; omega
    have hd := dec_err bs 0 0 herr
    simp only [bW, Nat.reduceEqDiff, decV, hne, retA_ret, Tryz.results107, resultsA_2]
    refine hid_mk ⟨?_, ?_, Keep.refl _ _⟩
    · rw [hd]; rfl
    · rw [hd]; simpa using hr

end Go.Proofs.YtilgpaibolollaaGreat.Pk
namespace Go.Proofs.YtilgpaibolollaaGreat.Pk
open Go Go.Proofs Go.Proofs.YtilgpaibolollaaGreat.Ab
set_option maxRecDepth 10000
set_option linter.unusedVariables false
set_option linter.unusedSimpArgs false
theorem dec_enc : ∀ (bs : List Nat) (k acc m used : Nat), (∀ b ∈ bs, b < 256) → dec bs k acc = (m, used, 0) → k < used ∧ ∃ x, m = acc + x * 2 ^ (7 * k) ∧ bs.take (used - k) = enc x ∧ (0 < k → 0 < x)
  | [], k, acc, m, used, _, h => by simp [dec] at h
  | g :: r, k, acc, m, used, hb, h => by
    have hg : g < 256 := hb g (by simp)
    unfold dec at h
    split at h
    · simp at h
    · split at h
      · rename_i h2
        obtain ⟨hu, x, h3, h4, h5⟩ := dec_enc r (k + 1) _ m used (fun b hb' => hb b (by simp [hb'])) h
        have hx := h5 (by omega)
        refine ⟨by omega, g % 128 + 128 * x, ?_, ?_, by omega⟩
        · rw [h3, Nat.mul_add, Nat.pow_add, Nat.add_mul, Nat.add_assoc]
          congr 2
          have e : (2 : Nat) ^ (7 * 1) = 128 := by decide
          rw [e, Nat.mul_comm (2 ^ (7 * k)) 128, ← Nat.mul_assoc, Nat.mul_comm x 128]
        · rw [show used - k = (used - (k + 1)) + 1 by omega, List.take_succ_cons, h4, enc_big (n := g % 128 + 128 * x) (by omega)]
          congr 1
          · omega
          · congr 1; omega
      · split at h
        · simp at h
        · rename_i h1 h2 h3
          simp only [Prod.mk.injEq, and_true] at h
          obtain ⟨rfl, rfl⟩ := h
          refine ⟨by omega, g, ?_, ?_, by omega⟩
          · rw [Nat.mod_eq_of_lt (by omega)]
          · rw [show k + 1 - k = 1 by omega, enc_small (by omega)]; rfl
theorem dec_lt : ∀ (bs : List Nat) (k acc : Nat), k ≤ 9 → acc < 2 ^ (7 * k) → (∀ b ∈ bs, b < 256) → (dec bs k acc).1 < 2 ^ 64
  | [], k, acc, _, _, _ => by simp [dec]
  | g :: r, k, acc, hk, ha, hb => by
    have hg : g < 256 := hb g (by simp)
    unfold dec
    split
    · simp
    · rename_i h1
      have h7 := fits7 g k hk h1 hg
      have hn := next7 g acc k ha
      split
      · rename_i h2
        by_cases hk8 : k ≤ 8
        · exact dec_lt r (k + 1) _ (by omega) hn fun b hb' => hb b (by simp [hb'])
        · exfalso
          omega
      · split
        · simp
        · show acc + g % 128 * 2 ^ (7 * k) < 2 ^ 64
          have e : (2 : Nat) ^ 64 = 2 ^ (64 - 7 * k) * 2 ^ (7 * k) := by rw [← Nat.pow_add]; congr 1; omega
          rw [e] at h7 ⊢
          have h8 : g % 128 < 2 ^ (64 - 7 * k) := Nat.lt_of_mul_lt_mul_right h7
          calc acc + g % 128 * 2 ^ (7 * k) < 2 ^ (7 * k) + g % 128 * 2 ^ (7 * k) := by omega
            _ = (g % 128 + 1) * 2 ^ (7 * k) := by rw [Nat.add_mul]; omega
            _ ≤ _ := Nat.mul_le_mul_right _ h8
theorem enc_lt : ∀ (m n : Nat), n ≤ m → ∀ b ∈ enc n, b < 256
  | m, n, h, b, hb => by
    by_cases hn : n < 128
    · rw [enc_small hn] at hb; simp at hb; omega
    · rw [enc_big hn] at hb
      rcases List.mem_cons.1 hb with rfl | hb
      · omega
      · cases m with
        | zero => omega
        | succ m => exact enc_lt m (n / 128) (by omega) b hb
theorem dec_enc_app (r : List Nat) : ∀ (m x k acc : Nat), x ≤ m → k ≤ 9 → x * 2 ^ (7 * k) < 2 ^ 64 → (0 < k → 0 < x) → dec (enc x ++ r) k acc = (acc + x * 2 ^ (7 * k), k + (enc x).length, 0)
  | m, x, k, acc, hm, hk, hx, h0 => by
    by_cases hs : x < 128
    · rw [enc_small hs, List.cons_append, dec, if_neg, if_neg (by omega), if_neg, Nat.mod_eq_of_lt hs]
      · rfl
      · intro hh; have := h0 hh.2; omega
      · rintro ⟨rfl, h1⟩
        have h2 : 2 * 2 ^ (7 * 9) ≤ x * 2 ^ (7 * 9) := Nat.mul_le_mul_right _ h1
        have h3 : 2 * 2 ^ (7 * 9) = 2 ^ 64 := by decide
        omega
    · have hk8 : k ≤ 8 := by
        rcases Nat.lt_or_ge k 9 with h | h
        · omega
        · have hk9 : k = 9 := by omega
          subst hk9
          have h2 : 128 * 2 ^ (7 * 9) ≤ x * 2 ^ (7 * 9) := Nat.mul_le_mul_right _ (by omega)
          have h3 : 2 ^ 64 ≤ 128 * 2 ^ (7 * 9) := by decide
          omega
      have e7 : 2 ^ (7 * (k + 1)) = 128 * 2 ^ (7 * k) := by rw [Nat.mul_add, Nat.pow_add, Nat.mul_comm]
      rw [enc_big hs, List.cons_append, dec, if_neg (by omega), if_pos (by omega)]
      cases m with
      | zero => omega
      | succ m =>
        rw [dec_enc_app r m (x / 128) (k + 1) _ (by omega) (by omega) (by
          rw [e7, ← Nat.mul_assoc]
          exact Nat.lt_of_le_of_lt (Nat.mul_le_mul_right _ (Nat.div_mul_le_self x 128)) hx) (by omega)]
        simp only [Prod.mk.injEq, List.length_cons, and_true]
        refine ⟨?_, by omega⟩
        rw [e7]
        have e1 : (x % 128 + 128) % 128 = x % 128 := by omega
        rw [e1, ← Nat.mul_assoc, Nat.add_assoc, ← Nat.add_mul, Nat.mul_comm (x / 128) 128, Nat.mod_add_div]
theorem dec_app (x : Nat) (hx : x < 2 ^ 64) (r : List Nat) : dec (enc x ++ r) 0 0 = (x, (enc x).length, 0) := by
  rw [dec_enc_app r x x 0 0 (Nat.le_refl _) (by omega) (by simpa using hx) (by omega)]
  simp
end Go.Proofs.YtilgpaibolollaaGreat.Pk
namespace Go.Proofs.YtilgpaibolollaaGreat.Pk
open Go Go.Proofs Go.Proofs.YtilgpaibolollaaGreat.Ab
set_option maxRecDepth 10000
set_option linter.unusedVariables false
set_option linter.unusedSimpArgs false



theorem wrap_nat {n : Nat} (h : n < 2 ^ 63) : IntKind.i64.wrap (n : Int) = (n : Int) := Go.IntWalk.i64_in _ (by omega)
theorem wrap_natU {n : Nat} (h : n < 2 ^ 64) : IntKind.u64.wrap (n : Int) = (n : Int) := by rw [IntKind.wrap_u64]; omega

def encBytes (x : List Nat) : List Nat := enc x.length ++ x
theorem freshA (s : V) (cs : List Nat) (m : Nat) (h : AHeap) (rd : Rd h s cs) (hc : cs.length + m ≤ 2 ^ 47) :
    SCalls Tryz.prog 106 [s, .int .i64 m] h (fun r h' => Acc h h' 5 1 r (bytesV cs)) :=
  (fresh s cs m h rd hc).mono fun r h' ⟨e, o, k⟩ => ⟨o, k, fun j hj => by subst e; simp [idOf] at hj; omega⟩
theorem addUintA {h0 : AHeap} (s : V) (cs : List Nat) (n : Nat) (h : AHeap) (a : Acc h0 h 5 1 s (bytesV cs)) (hc : cs.length ≤ 2 ^ 46) (hn : n < 2 ^ 64) :
    SCalls Tryz.prog 123 [s, .int .u64 n] h (fun r h' => Acc h0 h' 5 1 r (bytesV (cs ++ enc n))) :=
  (addUint s cs n h a.own hc hn).mono fun r h' ⟨o, k, d⟩ => a.step o k d

set_option maxRecDepth 10000 in
theorem pBytes (s x : V) (cs xs : List Nat) (h : AHeap) (rd : Rd h s cs) (rx : Rd h x xs) (hc : cs.length + xs.length ≤ 2 ^ 45) :
    Pure Tryz.prog 113 [s, x] h (.imm (cs ++ encBytes xs).length (bytesV (cs ++ encBytes xs))) := by
  refine Pure.acc (e := 5) (sz := 1) (bytesV_clo _) (by rw [bytesV_length, Nat.mul_one]) (by omega) ?_
  refine SCalls.enterI (c := _) Tryz.func113 rfl (by kernel_rfl) (by simp) ?_
  have hw : IntKind.i64.wrap (10 + (xs.length : Int)) = ((10 + xs.length : Nat) : Int) := by rw [Go.IntWalk.i64_in _ (by omega)]; omega
  have hu := wrap_natU (n := xs.length) (by omega)
  simp only [bW, Nat.reduceEqDiff, reduceCtorEq, rx.len h (Keep.refl _ _), hw]
  refine callI_of cal106 (freshA s cs (10 + xs.length) h rd (by omega)) fun r1 h1 a1 => ?_
  simp only [bW, Nat.reduceEqDiff, rx.len h1 a1.keep, aConv_int it_3 it_117, hu]
  refine callI_of cal123 (addUintA r1 cs xs.length h1 a1 (by omega) (by omega)) fun r2 h2 a2 => ?_
  have hl := (enc_le xs.length (by omega)).2
  obtain ⟨v, h3, e3, a3⟩ := a2.app (P := Tryz.prog) (tx := 29) sl_29 (by decide) (rx.src h2 a2.keep) (by rw [bytesV_length, Nat.mul_one]) (by simp only [bytesV_length, List.length_append, lim]; omega) (by simp only [bytesV_length, List.length_append, lim]; omega)
  simp only [bW, Nat.reduceEqDiff, e3, retA_ret, Tryz.results113, resultsA_1]
  exact hid_mk (a3.conv (by rw [← bytesV_append, List.append_assoc]; rfl))

end Go.Proofs.YtilgpaibolollaaGreat.Pk
namespace Go.Proofs.YtilgpaibolollaaGreat.Pk
open Go Go.Proofs Go.Proofs.YtilgpaibolollaaGreat.Ab
set_option maxRecDepth 10000
set_option linter.unusedVariables false
set_option linter.unusedSimpArgs false
def strB (l : List Nat) : ByteArray := strOfNums (l.map fun n : Nat => (n : Int))
theorem convB (l : List Nat) (h : AHeap) : aConv Tryz.prog 29 9 (.imm l.length (bytesV l)) h = some (.string (strB l)) := by
  have := conv_imm (P := Tryz.prog) (s := 29) (d := 9) (h := h) (n := l.length) (ns := l.map fun n : Nat => (n : Int)) (by kernel_rfl) st_9 (by simp)
  rw [List.map_map] at this
  exact this
def getBytes (bs : List Nat) : List Nat × List Nat × Nat :=
  if (dec bs 0 0).2.2 ≠ 0 then ([], bs, (dec bs 0 0).2.2)
  else if (bs.drop (dec bs 0 0).2.1).length < (dec bs 0 0).1 then ([], bs, 4)
  else ((bs.drop (dec bs 0 0).2.1).take (dec bs 0 0).1, (bs.drop (dec bs 0 0).2.1).drop (dec bs 0 0).1, 0)
theorem slice_from (l : List Nat) (k : Nat) (hk : k ≤ l.length) {kk : IntKind} : aSlice Tryz.prog 29 (.imm l.length (bytesV l)) (some (.int kk (k : Nat))) none none = some (.imm (l.drop k).length (bytesV (l.drop k))) := by
  rw [slice_imm_lo ss_29 (by omega) (by omega) (by rw [bytesV_length]; omega)]
  rw [Int.toNat_natCast, Nat.mul_one]
  unfold bytesV
  rw [List.map_drop, List.length_drop]
theorem slice_toK (l : List Nat) (k : Nat) (hk : k ≤ l.length) {kk : IntKind} : aSlice Tryz.prog 29 (.imm l.length (bytesV l)) none (some (.int kk (k : Nat))) none = some (.imm (l.take k).length (bytesV (l.take k))) := by
  rw [slice_imm_hi ss_29 (by omega) (by omega) (by rw [bytesV_length]; omega)]
  rw [Int.toNat_natCast, Nat.mul_one, List.length_take, Nat.min_eq_left hk]
  unfold bytesV
  rw [List.map_take]
theorem nil_cast (h : AHeap) (l : List V) : Cast (.tuple (.snil :: l)) h (.tuple (.imm 0 [] :: l)) h := fun ρ B w0 w r' hw hv => by
  cases hv with
  | tuple hs hx =>
    refine ⟨ρ, Ren.le.refl ρ, hw, .tuple hs fun k v v' a b => ?_⟩
    match k with
    | 0 =>
      simp at a
      subst a
      have := hx 0 .snil v' rfl b
      cases this
      exact .immZ _ _ (by simp)
    | k + 1 => exact hx (k + 1) v v' (by simpa using a) b
set_option maxRecDepth 10000 in
theorem RBytes (p : V) (i : Nat) (bs : List Nat) (h : AHeap) (hr : IsRd h p i bs) (hb : ∀ b ∈ bs, b < 256) (hc : bs.length ≤ 2 ^ 47) :
    SCalls Tryz.prog 84 [p] h (fun r h' => r = .tuple [.imm (getBytes bs).1.length (bytesV (getBytes bs).1), .int .i64 ((getBytes bs).2.2 : Nat)] ∧ IsRd h' p i (getBytes bs).2.1 ∧ Keep h h' (· = i)) := by
  refine SCalls.cast ?_
  refine SCalls.enterI (c := _) Tryz.func84 rfl (by kernel_rfl) (by simp) ?_
  simp only [bW, Nat.reduceEqDiff, reduceCtorEq]
  refine callI_pure cal108 (rest h p i bs hr) ?_
  simp only [bW, Nat.reduceEqDiff]
  refine callI_pure cal109 (number bs h hb (by omega)) ?_
  by_cases herr : (dec bs 0 0).2.2 = 0
  · have hne : ((((dec bs 0 0).2.2 : Nat) : Int) != 0) = false := by simp [herr]
    have hused := dec_used bs 0 0
    have hlt := dec_lt bs 0 0 (by omega) (by decide) hb
    obtain ⟨rfl, hi, hg⟩ := hr
    have hsl := slice_from bs (dec bs 0 0).2.1 (by omega) (kk := .i64)
    have hul := wrap_natU (n := (bs.drop (dec bs 0 0).2.1).length) (by rw [List.length_drop]; omega)
    by_cases hfit : (bs.drop (dec bs 0 0).2.1).length < (dec bs 0 0).1
    · have c1 : decide ((((bs.drop (dec bs 0 0).2.1).length : Nat) : Int) < (((dec bs 0 0).1 : Nat) : Int)) = true := by simpa using hfit
      have hG : getBytes bs = ([], bs, 4) := by unfold getBytes; rw [if_neg (by omega), if_pos hfit]
      simp only [bW, Nat.reduceEqDiff, reduceCtorEq, ft_182_0, kt_29, lt_29, decV, hne, hg, hsl, aConv_int it_3 it_117, hul, c1, retA_ret, Tryz.results84, resultsA_2]
      exact hid_mk ⟨_, _, nil_cast _ _, by rw [hG]; rfl, by rw [hG]; exact ⟨rfl, hi, hg⟩, Keep.refl _ _⟩
    · have c1 : decide ((((bs.drop (dec bs 0 0).2.1).length : Nat) : Int) < (((dec bs 0 0).1 : Nat) : Int)) = false := by simp only [decide_eq_false_iff_not]; omega
      have hG : getBytes bs = ((bs.drop (dec bs 0 0).2.1).take (dec bs 0 0).1, (bs.drop (dec bs 0 0).2.1).drop (dec bs 0 0).1, 0) := by unfold getBytes; rw [if_neg (by omega), if_neg hfit]
      have hl1 : (bs.drop (dec bs 0 0).2.1).length ≤ 2 ^ 47 := by rw [List.length_drop]; omega
      have s1 := slice_from (bs.drop (dec bs 0 0).2.1) (dec bs 0 0).1 (by omega) (kk := .u64)
      have s2 := slice_toK (bs.drop (dec bs 0 0).2.1) (dec bs 0 0).1 (by omega) (kk := .u64)
      simp only [bW, Nat.reduceEqDiff, reduceCtorEq, ft_182_0, kt_29, lt_29, zt_29, decV, hne, hg, hsl, aConv_int it_3 it_117, hul, c1, s1, s2]
      refine callI_pure cal106 (pFresh _ _ 0 _ (Rd.imm _ _) (by rw [List.length_take]; omega)) ?_
      simp only [bW, Nat.reduceEqDiff, retA_ret, Tryz.results84, resultsA_2]
      exact hid_mk ⟨_, _, Cast.refl _ _, by rw [hG]; rfl, by rw [hG]; exact ⟨rfl, by rw [set_n]; exact hi, get_set_same⟩, Keep.set _ _ _⟩
  · have hne : ((((dec bs 0 0).2.2 : Nat) : Int) != 0) = true := by simp; omega
    have hd := dec_err bs 0 0 herr
    have hG : getBytes bs = ([], bs, (dec bs 0 0).2.2) := by unfold getBytes; rw [if_pos herr]
    simp only [bW, Nat.reduceEqDiff, decV, hne, retA_ret, Tryz.results84, resultsA_2]
    exact hid_mk ⟨_, _, nil_cast _ _, by rw [hG]; rfl, by rw [hG]; exact hr, Keep.refl _ _⟩
end Go.Proofs.YtilgpaibolollaaGreat.Pk
namespace Go.Proofs.YtilgpaibolollaaGreat.Pk
open Go Go.Proofs Go.Proofs.YtilgpaibolollaaGreat.Ab
set_option maxRecDepth 10000
set_option linter.unusedVariables false
set_option linter.unusedSimpArgs false
/-! ### The checksum: a function of the bytes -/
/-- One bit of the register. -/
def entS (r : Int) : Int := if bAnd .u32 r 1 = 0 then r.fdiv (2 ^ (min (Int.toNat 1) IntKind.u32.bits)) else bXor .u32 (r.fdiv (2 ^ (min (Int.toNat 1) IntKind.u32.bits))) 2197175160
def entF (r : Int) : Nat → Int
  | 0 => r
  | k + 1 => entS (entF r k)
set_option maxRecDepth 10000 in
theorem entry (c : Int) (h : AHeap) : Pure Tryz.prog 145 [.int .u8 c] h (.int .u32 (entF (IntKind.u32.wrap c) 8)) := by
  refine SCalls.enterI (c := _) Tryz.func145 rfl (by kernel_rfl) (by simp) ?_
  simp only [bW, Nat.reduceEqDiff, reduceCtorEq, it_204, it_5]
  refine SWp.loopG (α := Nat) (fun i f h' => h' = h ∧ f 3 = .int .u32 (entF (IntKind.u32.wrap c) i) ∧ f 7 = .int .i64 (i : Nat) ∧ i ≤ 8) (fun i => 8 - i) 0
    ⟨rfl, rfl, rfl, Nat.zero_le _⟩ ?_
  rintro i f h' ⟨rfl, f3, f7, hi⟩
  refine wpI_sound (by kernel_rfl) ?_
  by_cases hlast : i < 8
  · have d1 : decide ((i : Int) < 8) = true := by simp; omega
    have hw : IntKind.i64.wrap ((i : Int) + 1) = ((i + 1 : Nat) : Int) := by rw [Go.IntWalk.i64_in _ (by omega)]; rfl
    by_cases c1 : bAnd .u32 (entF (IntKind.u32.wrap c) i) 1 = 0
    · have c1' : (bAnd .u32 (entF (IntKind.u32.wrap c) i) 1 != 0) = false := by simp [c1]
      simp only [bW, Nat.reduceEqDiff, f3, f7, d1, c1', hw, aBin_shr (show (0 : Int) ≤ 1 by decide)]
      have e : entF (IntKind.u32.wrap c) (i + 1) = (entF (IntKind.u32.wrap c) i).fdiv (2 ^ (min (Int.toNat 1) IntKind.u32.bits)) := by rw [entF, entS, if_pos c1]
      exact hid_mk ⟨i + 1, ⟨rfl, by rw [e]; rfl, rfl, hlast⟩, by omega⟩
    · have c1' : (bAnd .u32 (entF (IntKind.u32.wrap c) i) 1 != 0) = true := by simp [c1]
      simp only [bW, Nat.reduceEqDiff, f3, f7, d1, c1', hw, aBin_shr (show (0 : Int) ≤ 1 by decide)]
      have e : entF (IntKind.u32.wrap c) (i + 1) = bXor .u32 ((entF (IntKind.u32.wrap c) i).fdiv (2 ^ (min (Int.toNat 1) IntKind.u32.bits))) 2197175160 := by rw [entF, entS, if_neg c1]
      exact hid_mk ⟨i + 1, ⟨rfl, by rw [e]; rfl, rfl, hlast⟩, by omega⟩
  · have d1 : decide ((i : Int) < 8) = false := by simp; omega
    have e : i = 8 := by omega
    subst e
    simp only [bW, Nat.reduceEqDiff, f3, f7, d1, retA_ret, Tryz.results145, resultsA_1]
    exact hid_mk ⟨rfl, rfl⟩

/-- One byte of the checksum. -/
def crcS (r c : Int) : Int := bXor .u32 (r.fdiv (2 ^ (min (Int.toNat 8) IntKind.u32.bits))) (entF (IntKind.u32.wrap (bXor .u8 (IntKind.u8.wrap r) c)) 8)
def crcN (l : List Nat) : Int := l.foldl (fun (r : Int) (c : Nat) => crcS r (c : Int)) 4294967295
def crcF (l : List Nat) : Int := bXor .u32 (if IntKind.u32.signed = true then -1 else IntKind.u32.max) (crcN l)
set_option maxRecDepth 10000 in
theorem checksum (l : List Nat) (h : AHeap) (hl : l.length ≤ 2 ^ 47) : Pure Tryz.prog 143 [.imm l.length (bytesV l)] h (.int .u32 (crcF l)) := by
  refine SCalls.enterI (c := _) Tryz.func143 rfl (by kernel_rfl) (by simp) ?_
  simp only [bW, Nat.reduceEqDiff, reduceCtorEq, kt_29]
  refine SWp.loopG (α := Nat) (fun i f h' => h' = h ∧ f 3 = .int .u32 (crcN (l.take i)) ∧ f 6 = .imm l.length (bytesV l) ∧ f 7 = .int .i64 (l.length : Nat) ∧ f 8 = .int .i64 (i : Nat) ∧ i ≤ l.length) (fun i => l.length - i) 0
    ⟨rfl, rfl, rfl, rfl, rfl, Nat.zero_le _⟩ ?_
  rintro i f h' ⟨rfl, f3, f6, f7, f8, hi⟩
  refine wpI_sound (by kernel_rfl) ?_
  by_cases hlast : i < l.length
  · have d1 : decide ((i : Int) < ((l.length : Nat) : Int)) = true := by simp; omega
    have hw : IntKind.i64.wrap ((i : Int) + 1) = ((i + 1 : Nat) : Int) := by rw [Go.IntWalk.i64_in _ (by omega)]; rfl
    have hx : aIndexAddr Tryz.prog 29 (.imm l.length (bytesV l)) (.int .i64 (i : Int)) = some (.at (.int .u8 (l[i] : Nat) :: bytesV (l.drop (i + 1)))) := by
      have hix := index_imm (P := Tryz.prog) (t := 29) (k := .i64) (i := (i : Int)) (n := l.length) (cs := bytesV l) ss_29 (by omega) (by omega) (by rw [bytesV_length]; omega)
      rw [Int.toNat_natCast, bytes_drop hlast] at hix
      exact hix
    have e : crcN (l.take (i + 1)) = crcS (crcN (l.take i)) (l[i] : Nat) := by
      rw [List.take_succ_eq_append_getElem hlast]
      unfold crcN
      rw [List.foldl_append]
      rfl
    simp only [bW, Nat.reduceEqDiff, lt_5, f3, f6, f7, f8, d1, hx, aBin_shr (show (0 : Int) ≤ 8 by decide), aConv_int it_204 it_5]
    refine callI_pure cal145 (entry _ h') ?_
    simp only [bW, Nat.reduceEqDiff, f8, hw]
    exact hid_mk ⟨i + 1, ⟨rfl, by rw [e]; rfl, f6, f7, rfl, hlast⟩, by omega⟩
  · have d1 : decide ((i : Int) < ((l.length : Nat) : Int)) = false := by simp; omega
    have e : crcN (l.take i) = crcN l := by rw [show i = l.length by omega, List.take_length]
    simp only [bW, Nat.reduceEqDiff, f3, f7, f8, d1]
    exact hid_mk ⟨by rw [e]; rfl, rfl⟩

/-- The checksum as a frame has it: four bytes, the lowest first. -/
def sumB (l : List Nat) (i : Nat) : Int := IntKind.u8.wrap ((crcF l).fdiv (2 ^ (min (Int.toNat (8 * (i : Int))) IntKind.u32.bits)))
def sumV (l : List Nat) : V := .agg [.int .u8 (sumB l 0), .int .u8 (sumB l 1), .int .u8 (sumB l 2), .int .u8 (sumB l 3)]
def sumC (l : List Nat) (k : Nat) : List V := [.int .u8 (if 0 < k then sumB l 0 else 0), .int .u8 (if 1 < k then sumB l 1 else 0), .int .u8 (if 2 < k then sumB l 2 else 0), .int .u8 (if 3 < k then sumB l 3 else 0)]
set_option maxRecDepth 10000 in
theorem sumOf (l : List Nat) (h : AHeap) (hl : l.length ≤ 2 ^ 47) : Pure Tryz.prog 137 [.imm l.length (bytesV l)] h (sumV l) := by
  refine Pure.val (Clo.agg (CloL.cons (Clo.int _ _) (CloL.cons (Clo.int _ _) (CloL.cons (Clo.int _ _) (CloL.cons (Clo.int _ _) CloL.nil))))) ?_
  refine SCalls.enterI (c := _) Tryz.func137 rfl (by kernel_rfl) (by simp) ?_
  simp only [bW, Nat.reduceEqDiff, reduceCtorEq, zc_220]
  refine callI_pure cal143 (checksum l _ hl) ?_
  simp only [bW, Nat.reduceEqDiff, zc_220]
  refine SWp.loopG (α := Nat) (fun i f h' => f 2 = .ptr h.n 0 ∧ f 3 = .int .u32 (crcF l) ∧ f 4 = .ptr (h.n + 1) 0 ∧ f 8 = .int .i64 (i : Nat) ∧ i ≤ 4 ∧ h'.n = h.n + 2 ∧ h'.get h.n = .cells (sumC l 0) 220 none ∧ h'.get (h.n + 1) = .cells (sumC l i) 220 none ∧ Keep h h' none_) (fun i => 4 - i) 0
    ⟨rfl, rfl, rfl, rfl, Nat.zero_le _, rfl, (get_push_lt (by rw [push_n]; omega)).trans get_push_new, get_push_new, (Keep.push _ _ _).trans (Keep.push _ _ _) (fun _ _ h => h)⟩ ?_
  rintro i f h' ⟨f2, f3, f4, f8, hi, hn, g0, g1, hk⟩
  refine wpI_sound (by kernel_rfl) ?_
  have hmul : ∀ j : Nat, j < 4 → IntKind.i64.wrap (8 * (j : Int)) = 8 * (j : Int) := fun j hj => Go.IntWalk.i64_in _ (by omega)
  by_cases hlast : i < 4
  · have d1 : decide ((i : Int) < 4) = true := by simp; omega
    have hw : IntKind.i64.wrap ((i : Int) + 1) = ((i + 1 : Nat) : Int) := by rw [Go.IntWalk.i64_in _ (by omega)]; rfl
    have hm := hmul i hlast
    have hx : aIndexAddr Tryz.prog 220 (.ptr (h.n + 1) 0) (.int .i64 (i : Int)) = some (.ptr (h.n + 1) i) := by
      have : i = 0 ∨ i = 1 ∨ i = 2 ∨ i = 3 := by omega
      have z5 : sizeT Tryz.prog 5 = some 1 := by kernel_rfl
      rcases this with rfl | rfl | rfl | rfl <;> simp [aIndexAddr, z5]
    have hl2 : i + 1 ≤ (sumC l i).length := by simp [sumC]; omega
    have hset : (sumC l i).set i (.int .u8 (IntKind.u8.wrap ((crcF l).fdiv (2 ^ min (8 * (i : Int)).toNat IntKind.u32.bits)))) = sumC l (i + 1) := by
      have : i = 0 ∨ i = 1 ∨ i = 2 ∨ i = 3 := by omega
      rcases this with rfl | rfl | rfl | rfl <;> simp [sumC, sumB]
    simp only [bW, Nat.reduceEqDiff, zt_5, f3, f4, f8, d1, hw, hm, g1, hx, aBin_shr (show (0 : Int) ≤ 8 * (i : Int) by omega), aConv_int it_204 it_5, hl2, hset]
    exact hid_mk ⟨i + 1, ⟨f2, f3, f4, rfl, hlast, hn, (get_set_ne (by omega)).trans g0, get_set_same, hk.trans (Keep.set _ _ _) (fun k hk hi => by omega)⟩, by omega⟩
  · have d1 : decide ((i : Int) < 4) = false := by simp; omega
    have e : i = 4 := by omega
    subst e
    have e0 : sumC l 0 = [.int .u8 0, .int .u8 0, .int .u8 0, .int .u8 0] := by simp [sumC]
    have e4 : sumC l 4 = [.int .u8 (sumB l 0), .int .u8 (sumB l 1), .int .u8 (sumB l 2), .int .u8 (sumB l 3)] := by simp [sumC]
    rw [e4] at g1
    rw [e0] at g0
    simp only [bW, Nat.reduceEqDiff, Nat.reduceAdd, lt_220, zt_220, f2, f4, f8, d1, g0, g1, retA_ret, Tryz.results137, resultsC_1, resultA_cell]
    exact hid_mk ⟨rfl, hk.trans (Keep.set _ _ _) (fun k hk hi => by omega)⟩
end Go.Proofs.YtilgpaibolollaaGreat.Pk
namespace Go.Proofs.YtilgpaibolollaaGreat.Pk
open Go Go.Proofs Go.Proofs.YtilgpaibolollaaGreat.Ab
set_option maxRecDepth 10000
set_option linter.unusedVariables false
set_option linter.unusedSimpArgs false
set_option maxRecDepth 10000 in
theorem bytesA (s x : V) (cs xs : List Nat) (h : AHeap) (rd : Rd h s cs) (rx : Rd h x xs) (hc : cs.length + xs.length ≤ 2 ^ 45) :
    SCalls Tryz.prog 113 [s, x] h (fun r h' => Acc h h' 5 1 r (bytesV (cs ++ encBytes xs))) := by
  refine SCalls.enterI (c := _) Tryz.func113 rfl (by kernel_rfl) (by simp) ?_
  have hw : IntKind.i64.wrap (10 + (xs.length : Int)) = ((10 + xs.length : Nat) : Int) := by rw [Go.IntWalk.i64_in _ (by omega)]; omega
  have hu := wrap_natU (n := xs.length) (by omega)
  simp only [bW, Nat.reduceEqDiff, reduceCtorEq, rx.len h (Keep.refl _ _), hw]
  refine callI_of cal106 (freshA s cs (10 + xs.length) h rd (by omega)) fun r1 h1 a1 => ?_
  simp only [bW, Nat.reduceEqDiff, rx.len h1 a1.keep, aConv_int it_3 it_117, hu]
  refine callI_of cal123 (addUintA r1 cs xs.length h1 a1 (by omega) (by omega)) fun r2 h2 a2 => ?_
  have hl := (enc_le xs.length (by omega)).2
  obtain ⟨v, h3, e3, a3⟩ := a2.app (P := Tryz.prog) (tx := 29) sl_29 (by decide) (rx.src h2 a2.keep) (by rw [bytesV_length, Nat.mul_one]) (by simp only [bytesV_length, List.length_append, lim]; omega) (by simp only [bytesV_length, List.length_append, lim]; omega)
  simp only [bW, Nat.reduceEqDiff, e3, retA_ret, Tryz.results113, resultsA_1]
  exact hid_mk (a3.conv (by rw [← bytesV_append, List.append_assoc]; rfl))

/-- The four bytes of a checksum. -/
def sumL (l : List Nat) : List Nat := [(sumB l 0).toNat, (sumB l 1).toNat, (sumB l 2).toNat, (sumB l 3).toNat]
theorem sumB_nat (l : List Nat) (i : Nat) : ((sumB l i).toNat : Int) = sumB l i := by
  unfold sumB
  rw [IntKind.wrap_u8]
  omega
theorem sumB_lt (l : List Nat) (i : Nat) : (sumB l i).toNat < 256 := by
  unfold sumB
  rw [IntKind.wrap_u8]
  omega
theorem sumV_eq (l : List Nat) : sumV l = .agg (bytesV (sumL l)) := by
  simp only [sumV, sumL, bytesV, List.map_cons, List.map_nil, sumB_nat]
/-- A frame. -/
def frame (l : List Nat) : List Nat := encBytes l ++ sumL l
def frameV (l : List Nat) : V := if 4096 < l.length then .tuple [.snil, .int .i64 2] else .tuple [.imm (frame l).length (bytesV (frame l)), .int .i64 0]
theorem arrSl (i : Nat) : aSlice Tryz.prog 220 (.ptr i 0) none none none = some (.sl i 0 4 4) := by
  have u : Tryz.prog.underlying 220 = some (.array 4 5) := by kernel_rfl
  have z : sizeT Tryz.prog 5 = some 1 := by kernel_rfl
  unfold aSlice
  simp only [u, z]
  rfl
theorem arrSrc {h : AHeap} {i : Nat} {cs : List V} (hg : h.get i = .cells cs 220 none) (hl : cs.length = 4) (h1 : cs.all (·.one) = true) : aSrc Tryz.prog 1 29 (.sl i 0 4 4) h = some (4, cs) := by
  have u : Tryz.prog.underlying 29 = some (.slice 5) := by kernel_rfl
  unfold aSrc
  simp only [u, hg, List.drop_zero, Nat.mul_one, Nat.zero_add]
  rw [List.take_of_length_le (by omega), if_pos ⟨by omega, h1⟩]
set_option maxRecDepth 10000 in
theorem Frame (l : List Nat) (h : AHeap) (hl : l.length ≤ 2 ^ 40) : Pure Tryz.prog 122 [.imm l.length (bytesV l)] h (frameV l) := by
  by_cases hbig : 4096 < l.length
  · have d1 : decide ((4096 : Int) < (l.length : Nat)) = true := by simp; omega
    refine SCalls.enterI (c := _) Tryz.func122 rfl (by kernel_rfl) (by simp) ?_
    simp only [bW, Nat.reduceEqDiff, reduceCtorEq, kt_29, d1, retA_ret, Tryz.results122, resultsA_2]
    exact hid_mk ⟨by rw [frameV, if_pos hbig], rfl⟩
  have d1 : decide ((4096 : Int) < (l.length : Nat)) = false := by simp; omega
  rw [frameV, if_neg hbig]
  refine Pure.of (Clo.tuple (CloL.cons (Clo.imm (bytesV_clo _)) (CloL.cons (Clo.int _ _) CloL.nil))) ?_
  refine SCalls.enterI (c := _) Tryz.func122 rfl (by kernel_rfl) (by simp) ?_
  simp only [bW, Nat.reduceEqDiff, reduceCtorEq, kt_29, d1]
  refine callI_pure cal137 (sumOf l _ (by omega)) ?_
  rw [sumV_eq]
  have hset : setC (some 4) (AObj.cells [.int .u8 0, .int .u8 0, .int .u8 0, .int .u8 0] 220 none) 0 (bytesV (sumL l)) = some (.cells (bytesV (sumL l)) 220 none) := by
    rw [setC_row (n := 4) rfl (bytesV_one _), if_pos (by decide)]; rfl
  simp only [bW, Nat.reduceEqDiff, zc_220, zt_220, hset]
  refine SWp.drawnS none_ [1, 3] (.q 0 (.q 2 (.e 1 (.a 3 (.q 4 (.q 5 .done))) .stop))) (by kernel_rfl) (by kernel_rfl) (by kernel_rfl) ?_
  simp only [bW, bS, Nat.reduceEqDiff, reduceCtorEq, arrSl]
  refine callI_of cal113 (bytesA .snil (.imm l.length (bytesV l)) [] l _ (Rd.snil _) (Rd.imm _ _) (by simp; omega)) fun r h1 a1 => ?_
  have g1 : h1.get h.n = .cells (bytesV (sumL l)) 220 none := (a1.keep.get h.n (by rw [push_n]; omega) (fun h => h)).trans get_push_new
  have a2 : Acc h h1 5 1 r (bytesV ([] ++ encBytes l)) := ⟨a1.own, (Keep.push _ _ _).trans a1.keep fun _ _ h => h, fun k hk => by have := a1.new k hk; rw [push_n] at this; omega⟩
  have hle := (enc_le l.length (by omega)).2
  obtain ⟨v, h3, e3, a3⟩ := a2.app (P := Tryz.prog) (tx := 29) sl_29 (by decide) (arrSrc g1 rfl (bytesV_one _)) (by rfl) (by simp only [bytesV_length, List.length_append, lim, encBytes, sumL, List.length_cons, List.length_nil]; omega) (by simp only [bytesV_length, List.length_append, lim, encBytes, sumL, List.length_cons, List.length_nil]; omega)
  simp only [bW, bS, Nat.reduceEqDiff, e3, retA_ret, Tryz.results122, resultsA_2]
  refine ⟨a1.keep, hid_mk ?_⟩
  have a4 := a3.conv (show bytesV ([] ++ encBytes l) ++ bytesV (sumL l) = bytesV (frame l) by rw [← bytesV_append]; rfl)
  obtain ⟨h2, c, k2⟩ := a4.cast (n := (frame l).length) (by rw [bytesV_length, Nat.mul_one]) (by decide)
  exact ⟨h2, Cast.tuple (CastL.cons c (CastL.refl _ _)), k2⟩
end Go.Proofs.YtilgpaibolollaaGreat.Pk
namespace Go.Proofs.YtilgpaibolollaaGreat.Pk
open Go Go.Proofs Go.Proofs.YtilgpaibolollaaGreat.Ab
set_option maxRecDepth 10000
set_option linter.unusedVariables false
set_option linter.unusedSimpArgs false
/-! ### Two arrays of four bytes, compared -/
theorem pr_ints4 (a0 a1 a2 a3 b0 b1 b2 b3 : Int) : pureRun Tryz.prog (Op.equal 220 (.agg #[.int .u8 a0, .int .u8 a1, .int .u8 a2, .int .u8 a3]) (.agg #[.int .u8 b0, .int .u8 b1, .int .u8 b2, .int .u8 b3])) =
    some ((a0 == b0) && ((a1 == b1) && ((a2 == b2) && (a3 == b3)))) := by
  have u : Tryz.prog.underlying 220 = some (.array 4 5) := by kernel_rfl
  have u5 : Tryz.prog.underlying 5 = some (.int .u8) := by kernel_rfl
  have z5 : pureRun Tryz.prog (sizeOf 5) = some 1 := by kernel_rfl
  have p5 : ∀ (cs : Array Value) (o : Nat) (v : Value), cs[o]? = some v → pureRun Tryz.prog (part 5 cs o) = some v := fun cs o v hv => pr_part u5 rfl hv
  show pureRun Tryz.prog (Op.equalIn (9999 + 1) 220 _ _) = _
  unfold Op.equalIn
  simp only [pureRun_bind, pr_underlying u, Option.bind_some, z5]
  simp only [Std.Legacy.Range.forIn_eq_forIn_range', Std.Legacy.Range.size, List.range', List.forIn_cons, List.forIn_nil]
  have q : ∀ a b : Int, pureRun Tryz.prog (Op.equalIn 9999 5 (.int .u8 a) (.int .u8 b)) = some (a == b) := fun a b => pr_equal_int (d := 9998) u5
  have p0 : ∀ w x y z : Value, pureRun Tryz.prog (part 5 #[w, x, y, z] 0) = some w := fun w x y z => p5 _ 0 w rfl
  have p1 : ∀ w x y z : Value, pureRun Tryz.prog (part 5 #[w, x, y, z] 1) = some x := fun w x y z => p5 _ 1 x rfl
  have p2 : ∀ w x y z : Value, pureRun Tryz.prog (part 5 #[w, x, y, z] 2) = some y := fun w x y z => p5 _ 2 y rfl
  have p3 : ∀ w x y z : Value, pureRun Tryz.prog (part 5 #[w, x, y, z] 3) = some z := fun w x y z => p5 _ 3 z rfl
  simp only [Nat.zero_add, Nat.mul_one, Nat.reduceAdd, pureRun_bind, p0, q, Option.bind_some]
  cases (a0 == b0)
  · rfl
  simp only [Bool.not_true, Bool.false_eq_true, if_false, pr_pure, Option.bind_some, pureRun_bind, p1, q]
  cases (a1 == b1)
  · rfl
  simp only [Bool.not_true, Bool.false_eq_true, if_false, pr_pure, Option.bind_some, pureRun_bind, p2, q]
  cases (a2 == b2)
  · rfl
  simp only [Bool.not_true, Bool.false_eq_true, if_false, pr_pure, Option.bind_some, pureRun_bind, p3, q]
  cases (a3 == b3) <;> rfl
theorem neq4 (a0 a1 a2 a3 b0 b1 b2 b3 : Int) {xo yo : Operand} : aBin Tryz.prog .neq 220 xo yo (.agg [.int .u8 a0, .int .u8 a1, .int .u8 a2, .int .u8 a3]) (.agg [.int .u8 b0, .int .u8 b1, .int .u8 b2, .int .u8 b3]) =
    some (.bool (!((a0 == b0) && ((a1 == b1) && ((a2 == b2) && (a3 == b3)))))) := by
  have hg : Tryz.prog.eqGuardType Tryz.prog.depth 220 = false := by kernel_rfl
  have h1 := pr_ints4 a0 a1 a2 a3 b0 b1 b2 b3
  unfold aBin
  have fx : ∀ w x y z : Int, plainV (.agg [.int .u8 w, .int .u8 x, .int .u8 y, .int .u8 z]) = some (.agg #[.int .u8 w, .int .u8 x, .int .u8 y, .int .u8 z]) := fun _ _ _ _ => rfl
  simp only [fx]
  have h2 : pureRun Tryz.prog (eqGuard .neq 220 xo yo (.agg #[.int .u8 a0, .int .u8 a1, .int .u8 a2, .int .u8 a3]) (.agg #[.int .u8 b0, .int .u8 b1, .int .u8 b2, .int .u8 b3])) = some () := by
    simp [eqGuard, pureRun_bind, pr_program, hg, pr_pure]
  rw [pureRun_bind, h2]
  simp only [Option.bind_some, binOp, pureRun_bind, h1, pr_pure, Option.map_some]
  rfl
end Go.Proofs.YtilgpaibolollaaGreat.Pk
namespace Go.Proofs.YtilgpaibolollaaGreat.Pk
open Go Go.Proofs Go.Proofs.YtilgpaibolollaaGreat.Ab
set_option maxRecDepth 10000
set_option linter.unusedVariables false
set_option linter.unusedSimpArgs false
theorem lit0y (h : AHeap) : aBuildSlice Tryz.prog 29 0 [] h = some (.sl h.n 0 0 0, h.push (.cells [] 5 none)) := by rw [buildSlice_go sl_29]; rfl
theorem acc0y (h : AHeap) : Acc h (h.push (.cells [] 5 none)) 5 1 (.sl h.n 0 0 0) (bytesV []) :=
  ⟨.inr ⟨h.n, 0, 0, [], none, rfl, Nat.lt_succ_self _, get_push_new, rfl, rfl, .inl ⟨by simp [unk], Nat.le_refl _, Nat.le_refl _⟩⟩, Keep.push _ _ _, fun k hk => by simp [idOf] at hk; omega⟩
set_option maxRecDepth 10000 in
theorem pCloneB (l : List Nat) (hl : l.length ≤ 2 ^ 40) (h : AHeap) : Pure Tryz.prog 64 [.imm l.length (bytesV l)] h (.imm l.length (bytesV l)) := by
  refine Pure.of (Clo.imm (bytesV_clo _)) ?_
  cases l with
  | nil =>
    refine SCalls.imm0 ?_ ?_
    · refine SCalls.enterI (c := _) Tryz.func64 rfl (by kernel_rfl) (by simp) ?_
      have e := snil_nil_eql (xo := .tmp 3) (yo := .const (.slice none 0 0)) kt_29
      simp only [bW, Nat.reduceEqDiff, reduceCtorEq, e, retA_ret, Tryz.results64, resultsA_1]
      exact hid_mk ⟨h, Cast.snil0 h, Keep.refl _ _⟩
    · refine SCalls.enterI (c := _) Tryz.func64 rfl (by kernel_rfl) (by simp) ?_
      have e : ∀ xo yo, aBin Tryz.prog .eql 29 xo yo .e0 .snil = some (.bool false) := fun xo yo => e0_nil_eql kt_29
      obtain ⟨v1, h1, e1, a1⟩ := Acc.appM (P := Tryz.prog) (tx := 29) sl_29 (acc0y h) (by decide) (e0_src kt_29) rfl (fun m hm => by
        change m * 1 = _ at hm
        simp [bytesV] at hm
        subst hm; exact ⟨by decide, by decide⟩)
      have b0 := lit0y h
      simp only [bW, Nat.reduceEqDiff, reduceCtorEq, e, b0, e1, retA_ret, Tryz.results64, resultsA_1]
      obtain ⟨h2, c2, k2⟩ := a1.cast (n := 0) rfl (by decide)
      exact hid_mk ⟨h2, c2, k2⟩
  | cons x l =>
    refine SCalls.enterI (c := _) Tryz.func64 rfl (by kernel_rfl) (by simp) ?_
    have e : ∀ xo yo, aBin Tryz.prog .eql 29 xo yo (.imm (x :: l).length (bytesV (x :: l))) .snil = some (.bool false) := fun xo yo => imm_nil_eql kt_29 (by simp)
    obtain ⟨v1, h1, e1, a1⟩ := Acc.appM (P := Tryz.prog) (tx := 29) sl_29 (acc0y h) (by decide) (imm_src kt_29 (by rw [bytesV_length, Nat.mul_one]) (bytesV_one (x :: l))) (by rw [bytesV_length]; exact (Nat.mul_one _).symm) (fun m hm => by
      change m * 1 = (bytesV []).length + (bytesV (x :: l)).length at hm
      rw [bytesV_length, bytesV_length, List.length_nil] at hm
      exact ⟨by simp only [lim]; omega, by simp only [lim]; omega⟩)
    have b0 := lit0y h
    generalize (x :: l) = q at e e1 a1 hl ⊢
    simp only [bW, Nat.reduceEqDiff, reduceCtorEq, e, b0, e1, retA_ret, Tryz.results64, resultsA_1]
    obtain ⟨h2, c2, k2⟩ := a1.cast (n := q.length) (by rw [show bytesV [] = [] from rfl, List.nil_append, bytesV_length, Nat.mul_one]) (by decide)
    exact hid_mk ⟨h2, c2, k2⟩
end Go.Proofs.YtilgpaibolollaaGreat.Pk
namespace Go.Proofs.YtilgpaibolollaaGreat.Pk
open Go Go.Proofs Go.Proofs.YtilgpaibolollaaGreat.Ab
set_option maxRecDepth 10000
set_option linter.unusedVariables false
set_option linter.unusedSimpArgs false
/-! ### The frame that stands at the head of a row of bytes -/
/-- Its payload, its length, the error. -/
def openC (b : List Nat) : List Nat × Nat × Nat :=
  if (dec (b.take 10) 0 0).2.2 ≠ 0 then ([], 0, (dec (b.take 10) 0 0).2.2)
  else if 4096 < (dec (b.take 10) 0 0).1 then ([], 0, 2)
  else if b.length < (dec (b.take 10) 0 0).2.1 + (dec (b.take 10) 0 0).1 + 4 then ([], 0, 4)
  else if (b.drop ((dec (b.take 10) 0 0).2.1 + (dec (b.take 10) 0 0).1)).take 4 = sumL ((b.drop (dec (b.take 10) 0 0).2.1).take (dec (b.take 10) 0 0).1) then
    ((b.drop (dec (b.take 10) 0 0).2.1).take (dec (b.take 10) 0 0).1, (dec (b.take 10) 0 0).2.1 + (dec (b.take 10) 0 0).1 + 4, 0)
  else ([], 0, 5)
def openV (r : List Nat × Nat × Nat) : V := if r.2.2 = 0 then .tuple [.imm r.1.length (bytesV r.1), .int .i64 (r.2.1 : Nat), .int .i64 0] else .tuple [.snil, .int .i64 0, .int .i64 (r.2.2 : Nat)]
theorem openV_clo (r : List Nat × Nat × Nat) : Clo (openV r) := by
  unfold openV
  split
  · exact Clo.tuple (CloL.cons (Clo.imm (bytesV_clo _)) (CloL.cons (Clo.int _ _) (CloL.cons (Clo.int _ _) CloL.nil)))
  · exact Clo.tuple (CloL.cons Clo.snil (CloL.cons (Clo.int _ _) (CloL.cons (Clo.int _ _) CloL.nil)))
theorem copy4 {h : AHeap} {i n : Nat} {c cs : List V} (hg : h.get i = .cells c 220 none) (hc : c.length = 4) (hn : 4 ≤ n) (hcs : cs.length = n) (h1 : cs.all (·.one) = true) :
    aCopy Tryz.prog 29 (.sl i 0 4 4) (.imm n cs) h = some (.int .i64 4, h.set i (.cells (cs.take 4) 220 none)) := by
  have e : elemT Tryz.prog 29 = some 5 := by kernel_rfl
  have z : sizeT Tryz.prog 5 = some 1 := by kernel_rfl
  have m : Nat.min n 4 = 4 := Nat.min_eq_right hn
  have l4 : (cs.take 4).length = 4 := by rw [List.length_take]; omega
  have hone : (cs.take 4).all (·.one) = true := List.all_eq_true.2 fun x hx => List.all_eq_true.1 h1 x (List.mem_of_mem_take hx)
  have hlay : lay c 0 (cs.take 4) = cs.take 4 := by
    unfold lay
    rw [List.drop_of_length_le (by omega)]
    simp
  unfold aCopy
  simp only [e, z, aLenOf, m, aFirst, hg, Nat.mul_one]
  rw [if_pos ⟨hn, by omega⟩]
  simp only
  rw [if_neg (by decide), if_pos ⟨by omega, hone⟩, hlay]
  rfl
theorem natOf_nat {k : IntKind} (n : Nat) : natOf (.int k (n : Int)) = some n := by
  unfold natOf
  simp
theorem bytesV_take (l : List Nat) (k : Nat) : (bytesV l).take k = bytesV (l.take k) := by unfold bytesV; rw [List.map_take]
set_option maxRecDepth 10000 in
theorem Open (b : List Nat) (h : AHeap) (hb : ∀ x ∈ b, x < 256) (hl : b.length ≤ 2 ^ 40) : Pure Tryz.prog 121 [.imm b.length (bytesV b)] h (openV (openC b)) := by
  refine Pure.val (openV_clo _) ?_
  have hb10 : ∀ x ∈ b.take 10, x < 256 := fun x hx => hb x (List.mem_of_mem_take hx)
  have hl10 : (b.take 10).length ≤ 10 := by rw [List.length_take]; omega
  refine SCalls.enterI (c := _) Tryz.func121 rfl (by kernel_rfl) (by simp) ?_
  have hsl : aSlice Tryz.prog 29 (.imm b.length (bytesV b)) none (some (.int .i64 (min (b.length : Int) 10))) none = some (.imm (b.take 10).length (bytesV (b.take 10))) := by
    have h1 := slice_toK b (min b.length 10) (by omega) (kk := .i64)
    have h2 : b.take (min b.length 10) = b.take 10 := by
      rcases Nat.le_total b.length 10 with hle | hle
      · rw [Nat.min_eq_left hle, List.take_of_length_le (Nat.le_refl _), List.take_of_length_le hle]
      · rw [Nat.min_eq_right hle]
    rw [h2] at h1
    rw [← h1]
    congr 4
    omega
  simp only [bW, Nat.reduceEqDiff, reduceCtorEq, kt_29, hsl]
  refine callI_of cal81 (From (.imm (b.take 10).length (bytesV (b.take 10))) (b.take 10) h (Rd.imm _ _) (by omega)) fun r1 h1 ⟨e1, rd1, k1⟩ => ?_
  subst e1
  simp only [bW, Nat.reduceEqDiff]
  refine callI_of cal107 (RUint _ _ (b.take 10) h1 rd1 hb10 (by omega)) fun r2 h2 ⟨e2, rd2, k2⟩ => ?_
  subst e2
  have k3 : Keep h h2 none_ := k1.trans k2 fun k hk hi => by omega
  have hu := dec_used (b.take 10) 0 0
  have hx := dec_lt (b.take 10) 0 0 (by omega) (by decide) hb10
  unfold openC
  generalize hd : dec (b.take 10) 0 0 = D at *
  obtain ⟨n, used, err⟩ := D
  simp only at hu hx rd2 ⊢
  by_cases herr : err = 0
  case neg =>
    have d1 : ((err : Int) != 0) = true := by simp; omega
    simp only [bW, Nat.reduceEqDiff, d1, retA_ret, Tryz.results121, resultsA_3]
    rw [if_pos herr]
    exact hid_mk ⟨by simp [openV, herr], k3⟩
  subst herr
  rw [if_neg (by simp)]
  have d0 : (((0 : Nat) : Int) != 0) = false := by simp
  by_cases hbig : 4096 < n
  · have d2 : decide ((4096 : Int) < (n : Int)) = true := by simp; omega
    simp only [bW, Nat.reduceEqDiff, d0, d2, retA_ret, Tryz.results121, resultsA_3]
    rw [if_pos hbig]
    exact hid_mk ⟨by simp [openV], k3⟩
  rw [if_neg hbig]
  have d2 : decide ((4096 : Int) < (n : Int)) = false := by simp; omega
  simp only [bW, Nat.reduceEqDiff, kt_29, d0, d2]
  refine callI_pure cal83 (Left _ _ _ _ rd2) ?_
  have hwl : IntKind.i64.wrap ((((b.take 10).length : Nat) : Int) - ((((b.take 10).drop used).length : Nat) : Int)) = (used : Int) := by
    rw [List.length_drop, Go.IntWalk.i64_in _ (by omega)]; omega
  have hwn : IntKind.i64.wrap (n : Int) = (n : Int) := wrap_nat (by omega)
  have hwe : IntKind.i64.wrap ((used : Int) + (n : Int)) = ((used + n : Nat) : Int) := by rw [Go.IntWalk.i64_in _ (by omega)]; omega
  have hwd : IntKind.i64.wrap ((b.length : Int) - ((used + n : Nat) : Int)) = (b.length : Int) - ((used + n : Nat) : Int) := Go.IntWalk.i64_in _ (by omega)
  by_cases hsh : b.length < used + n + 4
  · have d3 : decide ((b.length : Int) - ((used + n : Nat) : Int) < 4) = true := by rw [decide_eq_true_iff]; omega
    simp only [bW, Nat.reduceEqDiff, reduceCtorEq, kt_29, hwl, aConv_int it_117 it_3, hwn, hwe, hwd, d3, retA_ret, Tryz.results121, resultsA_3]
    rw [if_pos hsh]
    exact hid_mk ⟨by simp [openV], k3⟩
  rw [if_neg hsh]
  have d3 : decide ((b.length : Int) - ((used + n : Nat) : Int) < 4) = false := by rw [decide_eq_false_iff_not]; omega
  simp only [bW, Nat.reduceEqDiff, reduceCtorEq, kt_29, zc_220, hwl, aConv_int it_117 it_3, hwn, hwe, hwd, d3]
  have hse := slice_from b (used + n) (by omega) (kk := .i64)
  have hcp : aCopy Tryz.prog 29 (.sl h2.n 0 4 4) (.imm (b.drop (used + n)).length (bytesV (b.drop (used + n)))) (h2.push (.cells [.int .u8 0, .int .u8 0, .int .u8 0, .int .u8 0] 220 none)) =
      some (.int .i64 4, (h2.push (.cells [.int .u8 0, .int .u8 0, .int .u8 0, .int .u8 0] 220 none)).set h2.n (.cells (bytesV ((b.drop (used + n)).take 4)) 220 none)) := by
    rw [copy4 get_push_new rfl (by rw [List.length_drop]; omega) (bytesV_length _) (bytesV_one _), bytesV_take]
  refine SWp.drawnS none_ [4] (.q 0 (.q 1 (.q 2 (.q 3 (.a 4 .done))))) (by kernel_rfl) (by kernel_rfl) (by kernel_rfl) ?_
  simp only [bW, bS, Nat.reduceEqDiff, reduceCtorEq, arrSl, hse, hcp]
  have hpl : ((b.drop used).take n).length = n := by rw [List.length_take, List.length_drop]; omega
  have hsp : aSlice Tryz.prog 29 (.imm b.length (bytesV b)) (some (.int .i64 (used : Int))) (some (.int .i64 ((used + n : Nat) : Int))) none = some (.imm ((b.drop used).take n).length (bytesV ((b.drop used).take n))) := by
    rw [slice_imm (lo := some (.int .i64 (used : Int))) (hi := some (.int .i64 ((used + n : Nat) : Int))) (l := used) (m := used + n) ss_29 (natOf_nat (k := .i64) used) (natOf_nat (k := .i64) (used + n)) (by omega) (by omega) (by rw [bytesV_length, Nat.mul_one])]
    rw [hpl]
    unfold bytesV
    rw [Nat.mul_one, Nat.add_sub_cancel_left, Nat.mul_one, ← List.map_drop, ← List.map_take]
  have hg3 : (h2.push (.cells (bytesV ((b.drop (used + n)).take 4)) 220 none)).get h2.n = .cells (bytesV ((b.drop (used + n)).take 4)) 220 none := get_push_new
  have k4 : Keep h (h2.push (.cells (bytesV ((b.drop (used + n)).take 4)) 220 none)) none_ := k3.trans (Keep.push _ _ _) (fun _ _ h => h)
  generalize h2.push (.cells (bytesV ((b.drop (used + n)).take 4)) 220 none) = h4 at hg3 k4 ⊢
  generalize hpay : (b.drop used).take n = pay at hpl hsp ⊢
  generalize htold : (b.drop (used + n)).take 4 = told at hg3 ⊢
  have htl : told.length = 4 := by rw [← htold, List.length_take, List.length_drop]; omega
  obtain ⟨t0, t1, t2, t3, rfl⟩ : ∃ t0 t1 t2 t3, told = [t0, t1, t2, t3] := by
    match told, htl with
    | [t0, t1, t2, t3], _ => exact ⟨t0, t1, t2, t3, rfl⟩
  simp only [bW, Nat.reduceEqDiff, hsp]
  refine SWp.drawnS none_ [] (.q 0 (.q 1 (.c 2 (.q 3 .done)))) (by kernel_rfl) (by kernel_rfl) (by kernel_rfl) ?_
  have hdc : dropC (.cells (bytesV [t0, t1, t2, t3]) 220 none) 0 = some (bytesV [t0, t1, t2, t3]) := rfl
  have hld : loadGo (some (some 4)) (some (bytesV [t0, t1, t2, t3])) = some (.agg (bytesV [t0, t1, t2, t3])) := rfl
  simp only [bW, bS, Nat.reduceEqDiff, lt_220, hg3, hdc, hld]
  refine siI_c rfl rfl rfl (fun h' _ => sumOf pay h' (by omega)) ?_
  have hcond : (((t0 : Int) == sumB pay 0) && (((t1 : Int) == sumB pay 1) && (((t2 : Int) == sumB pay 2) && ((t3 : Int) == sumB pay 3)))) = decide ([t0, t1, t2, t3] = sumL pay) := by
    rw [Bool.eq_iff_iff]
    have e0 := sumB_nat pay 0
    have e1 := sumB_nat pay 1
    have e2 := sumB_nat pay 2
    have e3 := sumB_nat pay 3
    simp only [Bool.and_eq_true, beq_iff_eq, decide_eq_true_iff, sumL, List.cons.injEq, and_true]
    constructor
    · rintro ⟨h0, h1, h2, h3⟩
      omega
    · rintro ⟨h0, h1, h2, h3⟩
      omega
  have hneq : ∀ xo yo, aBin Tryz.prog .neq 220 xo yo (.agg [.int .u8 (t0 : Int), .int .u8 (t1 : Int), .int .u8 (t2 : Int), .int .u8 (t3 : Int)]) (.agg [.int .u8 (sumB pay 0), .int .u8 (sumB pay 1), .int .u8 (sumB pay 2), .int .u8 (sumB pay 3)]) = some (.bool (!decide ([t0, t1, t2, t3] = sumL pay))) := fun xo yo => by rw [neq4, hcond]
  have hbv : bytesV [t0, t1, t2, t3] = [.int .u8 (t0 : Int), .int .u8 (t1 : Int), .int .u8 (t2 : Int), .int .u8 (t3 : Int)] := rfl
  by_cases hok : [t0, t1, t2, t3] = sumL pay
  · have d4 : (!decide ([t0, t1, t2, t3] = sumL pay)) = false := by simp [hok]
    rw [if_pos hok]
    simp only [bW, bS, Nat.reduceEqDiff, sumV, hbv, hneq, d4]
    refine callI_pure cal64 (pCloneB pay (by omega) h4) ?_
    have hw4 : IntKind.i64.wrap (((used + n : Nat) : Int) + 4) = ((used + n + 4 : Nat) : Int) := by rw [Go.IntWalk.i64_in _ (by omega)]; omega
    simp only [bW, Nat.reduceEqDiff, hw4, retA_ret, Tryz.results121, resultsA_3]
    exact hid_mk ⟨by simp [openV], k4⟩
  · have d4 : (!decide ([t0, t1, t2, t3] = sumL pay)) = true := by simp [hok]
    rw [if_neg hok]
    simp only [bW, bS, Nat.reduceEqDiff, sumV, hbv, hneq, d4, Nat.reduceEqDiff, retA_ret, Tryz.results121, resultsA_3]
    exact hid_mk ⟨by simp [openV], k4⟩
end Go.Proofs.YtilgpaibolollaaGreat.Pk
