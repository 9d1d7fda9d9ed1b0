/-
  What functions of the program do, told of abstract states. Conditions: as each theorem says.
-/
import Derived.Test.YtpjfhfmbhjghcaaGreatDoorAbD
import Derived.Test.YtpjfhfmbhjghcaaGreatDoorAbD
import Derived.Test.YtpjfhfmbhjghcaaGreatDoorAbD
import Derived.Test.YtpjfhfmbhjghcaaGreatDoorAbD
import Derived.Test.YtpjfhfmbhjghcaaGreatDoorProg
namespace Go.Proofs.YtpjfhfmbhjghcaaGreatDoor.Pk
open Go Go.Proofs Go.Proofs.YtpjfhfmbhjghcaaGreatDoor.Ab

theorem as_193 : arSz Tryz.prog 193 = none := by kernel_rfl
theorem as_199 : arSz Tryz.prog 199 = none := by kernel_rfl
theorem as_209 : arSz Tryz.prog 209 = some (17, 1) := by kernel_rfl
theorem as_22 : arSz Tryz.prog 22 = none := by kernel_rfl
theorem as_24 : arSz Tryz.prog 24 = none := by kernel_rfl
theorem as_25 : arSz Tryz.prog 25 = none := by kernel_rfl
theorem as_35 : arSz Tryz.prog 35 = none := by kernel_rfl
theorem as_49 : arSz Tryz.prog 49 = none := by kernel_rfl
theorem as_55 : arSz Tryz.prog 55 = none := by kernel_rfl
theorem as_58 : arSz Tryz.prog 58 = none := by kernel_rfl
theorem as_65 : arSz Tryz.prog 65 = none := by kernel_rfl
theorem as_66 : arSz Tryz.prog 66 = none := by kernel_rfl
theorem as_76 : arSz Tryz.prog 76 = none := by kernel_rfl
theorem as_89 : arSz Tryz.prog 89 = none := by kernel_rfl
theorem bt_4 : boolT Tryz.prog 4 = true := by kernel_rfl
theorem cal10 : callable Tryz.prog 10 = true := by kernel_rfl
theorem cal100 : callable Tryz.prog 100 = true := by kernel_rfl
theorem cal102 : callable Tryz.prog 102 = true := by kernel_rfl
theorem cal103 : callable Tryz.prog 103 = true := by kernel_rfl
theorem cal104 : callable Tryz.prog 104 = true := by kernel_rfl
theorem cal105 : callable Tryz.prog 105 = true := by kernel_rfl
theorem cal106 : callable Tryz.prog 106 = true := by kernel_rfl
theorem cal107 : callable Tryz.prog 107 = true := by kernel_rfl
theorem cal108 : callable Tryz.prog 108 = true := by kernel_rfl
theorem cal109 : callable Tryz.prog 109 = true := by kernel_rfl
theorem cal11 : callable Tryz.prog 11 = true := by kernel_rfl
theorem cal110 : callable Tryz.prog 110 = true := by kernel_rfl
theorem cal111 : callable Tryz.prog 111 = true := by kernel_rfl
theorem cal112 : callable Tryz.prog 112 = true := by kernel_rfl
theorem cal113 : callable Tryz.prog 113 = true := by kernel_rfl
theorem cal114 : callable Tryz.prog 114 = true := by kernel_rfl
theorem cal115 : callable Tryz.prog 115 = true := by kernel_rfl
theorem cal116 : callable Tryz.prog 116 = true := by kernel_rfl
theorem cal117 : callable Tryz.prog 117 = true := by kernel_rfl
theorem cal118 : callable Tryz.prog 118 = true := by kernel_rfl
theorem cal119 : callable Tryz.prog 119 = true := by kernel_rfl
theorem cal12 : callable Tryz.prog 12 = true := by kernel_rfl
theorem cal120 : callable Tryz.prog 120 = true := by kernel_rfl
theorem cal121 : callable Tryz.prog 121 = true := by kernel_rfl
theorem cal122 : callable Tryz.prog 122 = true := by kernel_rfl
theorem cal123 : callable Tryz.prog 123 = true := by kernel_rfl
theorem cal125 : callable Tryz.prog 125 = true := by kernel_rfl
theorem cal126 : callable Tryz.prog 126 = true := by kernel_rfl
theorem cal129 : callable Tryz.prog 129 = true := by kernel_rfl
theorem cal13 : callable Tryz.prog 13 = true := by kernel_rfl
theorem cal130 : callable Tryz.prog 130 = true := by kernel_rfl
theorem cal131 : callable Tryz.prog 131 = true := by kernel_rfl
theorem cal132 : callable Tryz.prog 132 = true := by kernel_rfl
theorem cal133 : callable Tryz.prog 133 = true := by kernel_rfl
theorem cal134 : callable Tryz.prog 134 = true := by kernel_rfl
theorem cal135 : callable Tryz.prog 135 = true := by kernel_rfl
theorem cal136 : callable Tryz.prog 136 = true := by kernel_rfl
theorem cal138 : callable Tryz.prog 138 = true := by kernel_rfl
theorem cal139 : callable Tryz.prog 139 = true := by kernel_rfl
theorem cal14 : callable Tryz.prog 14 = true := by kernel_rfl
theorem cal140 : callable Tryz.prog 140 = true := by kernel_rfl
theorem cal141 : callable Tryz.prog 141 = true := by kernel_rfl
theorem cal142 : callable Tryz.prog 142 = true := by kernel_rfl
theorem cal143 : callable Tryz.prog 143 = true := by kernel_rfl
theorem cal144 : callable Tryz.prog 144 = true := by kernel_rfl
theorem cal145 : callable Tryz.prog 145 = true := by kernel_rfl
theorem cal146 : callable Tryz.prog 146 = true := by kernel_rfl
theorem cal147 : callable Tryz.prog 147 = true := by kernel_rfl
theorem cal149 : callable Tryz.prog 149 = true := by kernel_rfl
theorem cal15 : callable Tryz.prog 15 = true := by kernel_rfl
theorem cal150 : callable Tryz.prog 150 = true := by kernel_rfl
theorem cal151 : callable Tryz.prog 151 = true := by kernel_rfl
theorem cal152 : callable Tryz.prog 152 = true := by kernel_rfl
theorem cal154 : callable Tryz.prog 154 = true := by kernel_rfl
theorem cal155 : callable Tryz.prog 155 = true := by kernel_rfl
theorem cal156 : callable Tryz.prog 156 = true := by kernel_rfl
theorem cal157 : callable Tryz.prog 157 = true := by kernel_rfl
theorem cal158 : callable Tryz.prog 158 = true := by kernel_rfl
theorem cal159 : callable Tryz.prog 159 = true := by kernel_rfl
theorem cal16 : callable Tryz.prog 16 = true := by kernel_rfl
theorem cal160 : callable Tryz.prog 160 = true := by kernel_rfl
theorem cal161 : callable Tryz.prog 161 = true := by kernel_rfl
theorem cal162 : callable Tryz.prog 162 = true := by kernel_rfl
theorem cal163 : callable Tryz.prog 163 = true := by kernel_rfl
theorem cal164 : callable Tryz.prog 164 = true := by kernel_rfl
theorem cal165 : callable Tryz.prog 165 = true := by kernel_rfl
theorem cal166 : callable Tryz.prog 166 = true := by kernel_rfl
theorem cal167 : callable Tryz.prog 167 = true := by kernel_rfl
theorem cal168 : callable Tryz.prog 168 = true := by kernel_rfl
theorem cal169 : callable Tryz.prog 169 = true := by kernel_rfl
theorem cal17 : callable Tryz.prog 17 = true := by kernel_rfl
theorem cal170 : callable Tryz.prog 170 = true := by kernel_rfl
theorem cal171 : callable Tryz.prog 171 = true := by kernel_rfl
theorem cal172 : callable Tryz.prog 172 = true := by kernel_rfl
theorem cal173 : callable Tryz.prog 173 = true := by kernel_rfl
theorem cal174 : callable Tryz.prog 174 = true := by kernel_rfl
theorem cal175 : callable Tryz.prog 175 = true := by kernel_rfl
theorem cal176 : callable Tryz.prog 176 = true := by kernel_rfl
theorem cal177 : callable Tryz.prog 177 = true := by kernel_rfl
theorem cal178 : callable Tryz.prog 178 = true := by kernel_rfl
theorem cal18 : callable Tryz.prog 18 = true := by kernel_rfl
theorem cal180 : callable Tryz.prog 180 = true := by kernel_rfl
theorem cal182 : callable Tryz.prog 182 = true := by kernel_rfl
theorem cal183 : callable Tryz.prog 183 = true := by kernel_rfl
theorem cal184 : callable Tryz.prog 184 = true := by kernel_rfl
theorem cal185 : callable Tryz.prog 185 = true := by kernel_rfl
theorem cal186 : callable Tryz.prog 186 = true := by kernel_rfl
theorem cal187 : callable Tryz.prog 187 = true := by kernel_rfl
theorem cal188 : callable Tryz.prog 188 = true := by kernel_rfl
theorem cal189 : callable Tryz.prog 189 = true := by kernel_rfl
theorem cal19 : callable Tryz.prog 19 = true := by kernel_rfl
theorem cal190 : callable Tryz.prog 190 = true := by kernel_rfl
theorem cal191 : callable Tryz.prog 191 = true := by kernel_rfl
theorem cal192 : callable Tryz.prog 192 = true := by kernel_rfl
theorem cal193 : callable Tryz.prog 193 = true := by kernel_rfl
theorem cal194 : callable Tryz.prog 194 = true := by kernel_rfl
theorem cal195 : callable Tryz.prog 195 = true := by kernel_rfl
theorem cal196 : callable Tryz.prog 196 = true := by kernel_rfl
theorem cal20 : callable Tryz.prog 20 = true := by kernel_rfl
theorem cal21 : callable Tryz.prog 21 = true := by kernel_rfl
theorem cal212 : callable Tryz.prog 212 = true := by kernel_rfl
theorem cal214 : callable Tryz.prog 214 = true := by kernel_rfl
theorem cal215 : callable Tryz.prog 215 = true := by kernel_rfl
theorem cal216 : callable Tryz.prog 216 = true := by kernel_rfl
theorem cal217 : callable Tryz.prog 217 = true := by kernel_rfl
theorem cal219 : callable Tryz.prog 219 = true := by kernel_rfl
theorem cal22 : callable Tryz.prog 22 = true := by kernel_rfl
theorem cal220 : callable Tryz.prog 220 = true := by kernel_rfl
theorem cal221 : callable Tryz.prog 221 = true := by kernel_rfl
theorem cal223 : callable Tryz.prog 223 = true := by kernel_rfl
theorem cal23 : callable Tryz.prog 23 = true := by kernel_rfl
theorem cal24 : callable Tryz.prog 24 = true := by kernel_rfl
theorem cal25 : callable Tryz.prog 25 = true := by kernel_rfl
theorem cal26 : callable Tryz.prog 26 = true := by kernel_rfl
theorem cal27 : callable Tryz.prog 27 = true := by kernel_rfl
theorem cal28 : callable Tryz.prog 28 = true := by kernel_rfl
theorem cal29 : callable Tryz.prog 29 = true := by kernel_rfl
theorem cal3 : callable Tryz.prog 3 = true := by kernel_rfl
theorem cal30 : callable Tryz.prog 30 = true := by kernel_rfl
theorem cal31 : callable Tryz.prog 31 = true := by kernel_rfl
theorem cal32 : callable Tryz.prog 32 = true := by kernel_rfl
theorem cal33 : callable Tryz.prog 33 = true := by kernel_rfl
theorem cal34 : callable Tryz.prog 34 = true := by kernel_rfl
theorem cal35 : callable Tryz.prog 35 = true := by kernel_rfl
theorem cal36 : callable Tryz.prog 36 = true := by kernel_rfl
theorem cal37 : callable Tryz.prog 37 = true := by kernel_rfl
theorem cal38 : callable Tryz.prog 38 = true := by kernel_rfl
theorem cal39 : callable Tryz.prog 39 = true := by kernel_rfl
theorem cal4 : callable Tryz.prog 4 = true := by kernel_rfl
theorem cal40 : callable Tryz.prog 40 = true := by kernel_rfl
theorem cal41 : callable Tryz.prog 41 = true := by kernel_rfl
theorem cal42 : callable Tryz.prog 42 = true := by kernel_rfl
theorem cal43 : callable Tryz.prog 43 = true := by kernel_rfl
theorem cal44 : callable Tryz.prog 44 = true := by kernel_rfl
theorem cal45 : callable Tryz.prog 45 = true := by kernel_rfl
theorem cal46 : callable Tryz.prog 46 = true := by kernel_rfl
theorem cal47 : callable Tryz.prog 47 = true := by kernel_rfl
theorem cal48 : callable Tryz.prog 48 = true := by kernel_rfl
theorem cal49 : callable Tryz.prog 49 = true := by kernel_rfl
theorem cal5 : callable Tryz.prog 5 = true := by kernel_rfl
theorem cal50 : callable Tryz.prog 50 = true := by kernel_rfl
theorem cal51 : callable Tryz.prog 51 = true := by kernel_rfl
theorem cal52 : callable Tryz.prog 52 = true := by kernel_rfl
theorem cal53 : callable Tryz.prog 53 = true := by kernel_rfl
theorem cal54 : callable Tryz.prog 54 = true := by kernel_rfl
theorem cal55 : callable Tryz.prog 55 = true := by kernel_rfl
theorem cal56 : callable Tryz.prog 56 = true := by kernel_rfl
theorem cal57 : callable Tryz.prog 57 = true := by kernel_rfl
theorem cal58 : callable Tryz.prog 58 = true := by kernel_rfl
theorem cal59 : callable Tryz.prog 59 = true := by kernel_rfl
theorem cal6 : callable Tryz.prog 6 = true := by kernel_rfl
theorem cal60 : callable Tryz.prog 60 = true := by kernel_rfl
theorem cal61 : callable Tryz.prog 61 = true := by kernel_rfl
theorem cal62 : callable Tryz.prog 62 = true := by kernel_rfl
theorem cal63 : callable Tryz.prog 63 = true := by kernel_rfl
theorem cal64 : callable Tryz.prog 64 = true := by kernel_rfl
theorem cal65 : callable Tryz.prog 65 = true := by kernel_rfl
theorem cal67 : callable Tryz.prog 67 = true := by kernel_rfl
theorem cal68 : callable Tryz.prog 68 = true := by kernel_rfl
theorem cal69 : callable Tryz.prog 69 = true := by kernel_rfl
theorem cal7 : callable Tryz.prog 7 = true := by kernel_rfl
theorem cal70 : callable Tryz.prog 70 = true := by kernel_rfl
theorem cal71 : callable Tryz.prog 71 = true := by kernel_rfl
theorem cal72 : callable Tryz.prog 72 = true := by kernel_rfl
theorem cal73 : callable Tryz.prog 73 = true := by kernel_rfl
theorem cal74 : callable Tryz.prog 74 = true := by kernel_rfl
theorem cal75 : callable Tryz.prog 75 = true := by kernel_rfl
theorem cal76 : callable Tryz.prog 76 = true := by kernel_rfl
theorem cal77 : callable Tryz.prog 77 = true := by kernel_rfl
theorem cal78 : callable Tryz.prog 78 = true := by kernel_rfl
theorem cal79 : callable Tryz.prog 79 = true := by kernel_rfl
theorem cal8 : callable Tryz.prog 8 = true := by kernel_rfl
theorem cal80 : callable Tryz.prog 80 = true := by kernel_rfl
theorem cal81 : callable Tryz.prog 81 = true := by kernel_rfl
theorem cal82 : callable Tryz.prog 82 = true := by kernel_rfl
theorem cal83 : callable Tryz.prog 83 = true := by kernel_rfl
theorem cal84 : callable Tryz.prog 84 = true := by kernel_rfl
theorem cal85 : callable Tryz.prog 85 = true := by kernel_rfl
theorem cal86 : callable Tryz.prog 86 = true := by kernel_rfl
theorem cal88 : callable Tryz.prog 88 = true := by kernel_rfl
theorem cal89 : callable Tryz.prog 89 = true := by kernel_rfl
theorem cal9 : callable Tryz.prog 9 = true := by kernel_rfl
theorem cal90 : callable Tryz.prog 90 = true := by kernel_rfl
theorem cal91 : callable Tryz.prog 91 = true := by kernel_rfl
theorem cal94 : callable Tryz.prog 94 = true := by kernel_rfl
theorem cal95 : callable Tryz.prog 95 = true := by kernel_rfl
theorem cal96 : callable Tryz.prog 96 = true := by kernel_rfl
theorem cal98 : callable Tryz.prog 98 = true := by kernel_rfl
theorem cal99 : callable Tryz.prog 99 = true := by kernel_rfl
theorem fl_246 : floatT Tryz.prog 246 = some .f64 := by kernel_rfl
theorem ft_123_0 : fieldT Tryz.prog 123 0 = some 0 := by kernel_rfl
theorem ft_123_1 : fieldT Tryz.prog 123 1 = some 2 := by kernel_rfl
theorem ft_123_2 : fieldT Tryz.prog 123 2 = some 3 := by kernel_rfl
theorem ft_123_3 : fieldT Tryz.prog 123 3 = some 4 := by kernel_rfl
theorem ft_123_4 : fieldT Tryz.prog 123 4 = some 5 := by kernel_rfl
theorem ft_127_0 : fieldT Tryz.prog 127 0 = some 0 := by kernel_rfl
theorem ft_127_1 : fieldT Tryz.prog 127 1 = some 1 := by kernel_rfl
theorem ft_127_2 : fieldT Tryz.prog 127 2 = some 5 := by kernel_rfl
theorem ft_157_0 : fieldT Tryz.prog 157 0 = some 0 := by kernel_rfl
theorem ft_157_1 : fieldT Tryz.prog 157 1 = some 1 := by kernel_rfl
theorem ft_195_0 : fieldT Tryz.prog 195 0 = some 0 := by kernel_rfl
theorem ft_195_1 : fieldT Tryz.prog 195 1 = some 1 := by kernel_rfl
theorem ft_198_0 : fieldT Tryz.prog 198 0 = some 0 := by kernel_rfl
theorem ft_198_1 : fieldT Tryz.prog 198 1 = some 1 := by kernel_rfl
theorem ft_198_2 : fieldT Tryz.prog 198 2 = some 2 := by kernel_rfl
theorem ft_201_0 : fieldT Tryz.prog 201 0 = some 0 := by kernel_rfl
theorem ft_201_1 : fieldT Tryz.prog 201 1 = some 1 := by kernel_rfl
theorem ft_201_2 : fieldT Tryz.prog 201 2 = some 2 := by kernel_rfl
theorem ft_204_0 : fieldT Tryz.prog 204 0 = some 0 := by kernel_rfl
theorem ft_212_0 : fieldT Tryz.prog 212 0 = some 0 := by kernel_rfl
theorem ft_212_1 : fieldT Tryz.prog 212 1 = some 1 := by kernel_rfl
theorem ft_218_0 : fieldT Tryz.prog 218 0 = some 0 := by kernel_rfl
theorem ft_218_1 : fieldT Tryz.prog 218 1 = some 1 := by kernel_rfl
theorem ft_218_2 : fieldT Tryz.prog 218 2 = some 2 := by kernel_rfl
theorem ft_223_0 : fieldT Tryz.prog 223 0 = some 0 := by kernel_rfl
theorem ft_223_1 : fieldT Tryz.prog 223 1 = some 1 := by kernel_rfl
theorem ft_27_0 : fieldT Tryz.prog 27 0 = some 0 := by kernel_rfl
theorem ft_27_1 : fieldT Tryz.prog 27 1 = some 1 := by kernel_rfl
theorem ft_27_2 : fieldT Tryz.prog 27 2 = some 2 := by kernel_rfl
theorem ft_29_0 : fieldT Tryz.prog 29 0 = some 0 := by kernel_rfl
theorem ft_29_1 : fieldT Tryz.prog 29 1 = some 1 := by kernel_rfl
theorem ft_29_2 : fieldT Tryz.prog 29 2 = some 2 := by kernel_rfl
theorem ft_29_3 : fieldT Tryz.prog 29 3 = some 5 := by kernel_rfl
theorem ft_38_0 : fieldT Tryz.prog 38 0 = some 0 := by kernel_rfl
theorem ft_38_1 : fieldT Tryz.prog 38 1 = some 1 := by kernel_rfl
theorem ft_38_2 : fieldT Tryz.prog 38 2 = some 2 := by kernel_rfl
theorem ft_40_0 : fieldT Tryz.prog 40 0 = some 0 := by kernel_rfl
theorem ft_40_1 : fieldT Tryz.prog 40 1 = some 1 := by kernel_rfl
theorem ft_40_2 : fieldT Tryz.prog 40 2 = some 2 := by kernel_rfl
theorem ft_40_3 : fieldT Tryz.prog 40 3 = some 3 := by kernel_rfl
theorem ft_40_4 : fieldT Tryz.prog 40 4 = some 4 := by kernel_rfl
theorem ft_42_0 : fieldT Tryz.prog 42 0 = some 0 := by kernel_rfl
theorem ft_42_1 : fieldT Tryz.prog 42 1 = some 1 := by kernel_rfl
theorem ft_42_2 : fieldT Tryz.prog 42 2 = some 4 := by kernel_rfl
theorem ft_57_0 : fieldT Tryz.prog 57 0 = some 0 := by kernel_rfl
theorem ft_60_0 : fieldT Tryz.prog 60 0 = some 0 := by kernel_rfl
theorem ft_60_1 : fieldT Tryz.prog 60 1 = some 1 := by kernel_rfl
theorem ft_68_0 : fieldT Tryz.prog 68 0 = some 0 := by kernel_rfl
theorem ft_68_1 : fieldT Tryz.prog 68 1 = some 1 := by kernel_rfl
theorem ft_68_2 : fieldT Tryz.prog 68 2 = some 2 := by kernel_rfl
theorem ft_68_3 : fieldT Tryz.prog 68 3 = some 3 := by kernel_rfl
theorem ft_80_0 : fieldT Tryz.prog 80 0 = some 0 := by kernel_rfl
theorem ft_80_1 : fieldT Tryz.prog 80 1 = some 1 := by kernel_rfl
theorem ft_82_0 : fieldT Tryz.prog 82 0 = some 0 := by kernel_rfl
theorem ft_82_2 : fieldT Tryz.prog 82 2 = some 4 := by kernel_rfl
theorem ft_99_0 : fieldT Tryz.prog 99 0 = some 0 := by kernel_rfl
theorem ft_99_1 : fieldT Tryz.prog 99 1 = some 3 := by kernel_rfl
theorem ft_99_2 : fieldT Tryz.prog 99 2 = some 4 := by kernel_rfl
theorem if_145 : isIfaceT Tryz.prog 145 = some false := by kernel_rfl
theorem if_148 : isIfaceT Tryz.prog 148 = some false := by kernel_rfl
theorem if_151 : isIfaceT Tryz.prog 151 = some false := by kernel_rfl
theorem if_32 : isIfaceT Tryz.prog 32 = some false := by kernel_rfl
theorem it_173 : intT Tryz.prog 173 = some .u64 := by kernel_rfl
theorem it_2 : intT Tryz.prog 2 = some .i64 := by kernel_rfl
theorem it_238 : intT Tryz.prog 238 = some .u64 := by kernel_rfl
theorem it_271 : intT Tryz.prog 271 = some .u32 := by kernel_rfl
theorem it_283 : intT Tryz.prog 283 = some .u64 := by kernel_rfl
theorem it_3 : intT Tryz.prog 3 = some .i64 := by kernel_rfl
theorem it_5 : intT Tryz.prog 5 = some .u8 := by kernel_rfl
theorem it_50 : intT Tryz.prog 50 = some .u16 := by kernel_rfl
theorem kt_145 : kindT Tryz.prog 145 = some 0 := by kernel_rfl
theorem kt_148 : kindT Tryz.prog 148 = some 0 := by kernel_rfl
theorem kt_151 : kindT Tryz.prog 151 = some 0 := by kernel_rfl
theorem kt_154 : kindT Tryz.prog 154 = some 0 := by kernel_rfl
theorem kt_193 : kindT Tryz.prog 193 = some 1 := by kernel_rfl
theorem kt_196 : kindT Tryz.prog 196 = some 2 := by kernel_rfl
theorem kt_199 : kindT Tryz.prog 199 = some 1 := by kernel_rfl
theorem kt_20 : kindT Tryz.prog 20 = some 4 := by kernel_rfl
theorem kt_22 : kindT Tryz.prog 22 = some 1 := by kernel_rfl
theorem kt_24 : kindT Tryz.prog 24 = some 1 := by kernel_rfl
theorem kt_25 : kindT Tryz.prog 25 = some 1 := by kernel_rfl
theorem kt_31 : kindT Tryz.prog 31 = some 0 := by kernel_rfl
theorem kt_35 : kindT Tryz.prog 35 = some 1 := by kernel_rfl
theorem kt_49 : kindT Tryz.prog 49 = some 1 := by kernel_rfl
theorem kt_55 : kindT Tryz.prog 55 = some 1 := by kernel_rfl
theorem kt_58 : kindT Tryz.prog 58 = some 1 := by kernel_rfl
theorem kt_62 : kindT Tryz.prog 62 = some 0 := by kernel_rfl
theorem kt_65 : kindT Tryz.prog 65 = some 1 := by kernel_rfl
theorem kt_66 : kindT Tryz.prog 66 = some 1 := by kernel_rfl
theorem kt_76 : kindT Tryz.prog 76 = some 1 := by kernel_rfl
theorem kt_89 : kindT Tryz.prog 89 = some 1 := by kernel_rfl
theorem kt_93 : kindT Tryz.prog 93 = some 4 := by kernel_rfl
theorem lt_117 : loadT Tryz.prog 117 = some none := by kernel_rfl
theorem lt_121 : loadT Tryz.prog 121 = some none := by kernel_rfl
theorem lt_125 : loadT Tryz.prog 125 = some none := by kernel_rfl
theorem lt_145 : loadT Tryz.prog 145 = some none := by kernel_rfl
theorem lt_154 : loadT Tryz.prog 154 = some none := by kernel_rfl
theorem lt_193 : loadT Tryz.prog 193 = some none := by kernel_rfl
theorem lt_196 : loadT Tryz.prog 196 = some none := by kernel_rfl
theorem lt_199 : loadT Tryz.prog 199 = some none := by kernel_rfl
theorem lt_2 : loadT Tryz.prog 2 = some none := by kernel_rfl
theorem lt_212 : loadT Tryz.prog 212 = some (some 2) := by kernel_rfl
theorem lt_216 : loadT Tryz.prog 216 = some none := by kernel_rfl
theorem lt_218 : loadT Tryz.prog 218 = some (some 3) := by kernel_rfl
theorem lt_223 : loadT Tryz.prog 223 = some (some 2) := by kernel_rfl
theorem lt_24 : loadT Tryz.prog 24 = some none := by kernel_rfl
theorem lt_25 : loadT Tryz.prog 25 = some none := by kernel_rfl
theorem lt_27 : loadT Tryz.prog 27 = some (some 3) := by kernel_rfl
theorem lt_283 : loadT Tryz.prog 283 = some none := by kernel_rfl
theorem lt_29 : loadT Tryz.prog 29 = some (some 6) := by kernel_rfl
theorem lt_3 : loadT Tryz.prog 3 = some none := by kernel_rfl
theorem lt_32 : loadT Tryz.prog 32 = some none := by kernel_rfl
theorem lt_35 : loadT Tryz.prog 35 = some none := by kernel_rfl
theorem lt_38 : loadT Tryz.prog 38 = some (some 3) := by kernel_rfl
theorem lt_4 : loadT Tryz.prog 4 = some none := by kernel_rfl
theorem lt_40 : loadT Tryz.prog 40 = some (some 5) := by kernel_rfl
theorem lt_5 : loadT Tryz.prog 5 = some none := by kernel_rfl
theorem lt_55 : loadT Tryz.prog 55 = some none := by kernel_rfl
theorem lt_57 : loadT Tryz.prog 57 = some (some 2) := by kernel_rfl
theorem lt_62 : loadT Tryz.prog 62 = some none := by kernel_rfl
theorem lt_65 : loadT Tryz.prog 65 = some none := by kernel_rfl
theorem lt_66 : loadT Tryz.prog 66 = some none := by kernel_rfl
theorem lt_68 : loadT Tryz.prog 68 = some (some 4) := by kernel_rfl
theorem lt_89 : loadT Tryz.prog 89 = some none := by kernel_rfl
theorem lt_93 : loadT Tryz.prog 93 = some none := by kernel_rfl
theorem mt_121 : mapT Tryz.prog 121 = some (3, 31, .int .i64) := by kernel_rfl
theorem ncal148 : callable Tryz.prog 148 = false := by kernel_rfl
theorem ncal179 : callable Tryz.prog 179 = false := by kernel_rfl
theorem pl_123 : bplT Tryz.prog 123 = some (.inl [(0, 2), (2, 1), (3, 1), (4, 1), (5, 1)]) := by kernel_rfl
theorem pl_127 : bplT Tryz.prog 127 = some (.inl [(0, 1), (1, 4), (5, 1)]) := by kernel_rfl
theorem pl_157 : bplT Tryz.prog 157 = some (.inl [(0, 1), (1, 1)]) := by kernel_rfl
theorem pl_195 : bplT Tryz.prog 195 = some (.inl [(0, 1), (1, 1)]) := by kernel_rfl
theorem pl_198 : bplT Tryz.prog 198 = some (.inl [(0, 1), (1, 1), (2, 1)]) := by kernel_rfl
theorem pl_201 : bplT Tryz.prog 201 = some (.inl [(0, 1), (1, 1), (2, 1)]) := by kernel_rfl
theorem pl_204 : bplT Tryz.prog 204 = some (.inl [(0, 1)]) := by kernel_rfl
theorem pl_212 : bplT Tryz.prog 212 = some (.inl [(0, 1), (1, 1)]) := by kernel_rfl
theorem pl_218 : bplT Tryz.prog 218 = some (.inl [(0, 1), (1, 1), (2, 1)]) := by kernel_rfl
theorem pl_223 : bplT Tryz.prog 223 = some (.inl [(0, 1), (1, 1)]) := by kernel_rfl
theorem pl_27 : bplT Tryz.prog 27 = some (.inl [(0, 1), (1, 1), (2, 1)]) := by kernel_rfl
theorem pl_29 : bplT Tryz.prog 29 = some (.inl [(0, 1), (1, 1), (2, 3), (5, 1)]) := by kernel_rfl
theorem pl_38 : bplT Tryz.prog 38 = some (.inl [(0, 1), (1, 1), (2, 1)]) := by kernel_rfl
theorem pl_40 : bplT Tryz.prog 40 = some (.inl [(0, 1), (1, 1), (2, 1), (3, 1), (4, 1)]) := by kernel_rfl
theorem pl_57 : bplT Tryz.prog 57 = some (.inl [(0, 1), (1, 1)]) := by kernel_rfl
theorem pl_68 : bplT Tryz.prog 68 = some (.inl [(0, 1), (1, 1), (2, 1), (3, 1)]) := by kernel_rfl
theorem pl_80 : bplT Tryz.prog 80 = some (.inl [(0, 1), (1, 3)]) := by kernel_rfl
theorem pl_82 : bplT Tryz.prog 82 = some (.inl [(0, 1), (1, 3), (4, 1)]) := by kernel_rfl
theorem pl_99 : bplT Tryz.prog 99 = some (.inl [(0, 3), (3, 1), (4, 1)]) := by kernel_rfl
theorem sk_38 : structK Tryz.prog 38 = some [0, 0, 0] := by kernel_rfl
theorem sk_40 : structK Tryz.prog 40 = some [0, 0, 0, 0, 1] := by kernel_rfl
theorem sl_193 : slT Tryz.prog 193 = some ⟨223, [.int .i64 0, .int .i64 0], 2, 16⟩ := by kernel_rfl
theorem sl_199 : slT Tryz.prog 199 = some ⟨218, [.int .i64 0, .complex .f64 0 0, .int .i64 0], 3, 32⟩ := by kernel_rfl
theorem sl_24 : slT Tryz.prog 24 = some ⟨3, [.int .i64 0], 1, 8⟩ := by kernel_rfl
theorem sl_25 : slT Tryz.prog 25 = some ⟨27, [.int .i64 0, .int .i64 0, .snil], 3, 40⟩ := by kernel_rfl
theorem sl_35 : slT Tryz.prog 35 = some ⟨40, [.int .i64 0, .int .i64 0, .int .i64 0, .int .i64 0, .bool false], 5, 40⟩ := by kernel_rfl
theorem sl_55 : slT Tryz.prog 55 = some ⟨29, [.int .i64 0, .snil, .int .i64 0, .int .i64 0, .snil, .int .i64 0], 6, 80⟩ := by kernel_rfl
theorem sl_65 : slT Tryz.prog 65 = some ⟨80, [.int .i64 0, .int .i64 0, .int .i64 0, .int .i64 0], 4, 32⟩ := by kernel_rfl
theorem sl_66 : slT Tryz.prog 66 = some ⟨82, [.int .i64 0, .int .i64 0, .int .i64 0, .int .i64 0, .int .i64 0], 5, 40⟩ := by kernel_rfl
theorem sl_76 : slT Tryz.prog 76 = some ⟨68, [.snil, .snil, .snil, .snil], 4, 96⟩ := by kernel_rfl
theorem sl_89 : slT Tryz.prog 89 = some ⟨5, [.int .u8 0], 1, 1⟩ := by kernel_rfl
theorem ss_193 : slSz Tryz.prog 193 = some 2 := by kernel_rfl
theorem ss_199 : slSz Tryz.prog 199 = some 3 := by kernel_rfl
theorem ss_209 : slSz Tryz.prog 209 = none := by kernel_rfl
theorem ss_22 : slSz Tryz.prog 22 = some 10 := by kernel_rfl
theorem ss_24 : slSz Tryz.prog 24 = some 1 := by kernel_rfl
theorem ss_25 : slSz Tryz.prog 25 = some 3 := by kernel_rfl
theorem ss_35 : slSz Tryz.prog 35 = some 5 := by kernel_rfl
theorem ss_49 : slSz Tryz.prog 49 = some 3 := by kernel_rfl
theorem ss_55 : slSz Tryz.prog 55 = some 6 := by kernel_rfl
theorem ss_58 : slSz Tryz.prog 58 = some 10 := by kernel_rfl
theorem ss_65 : slSz Tryz.prog 65 = some 4 := by kernel_rfl
theorem ss_66 : slSz Tryz.prog 66 = some 5 := by kernel_rfl
theorem ss_76 : slSz Tryz.prog 76 = some 4 := by kernel_rfl
theorem ss_89 : slSz Tryz.prog 89 = some 1 := by kernel_rfl
theorem z0_2 : zeroT Tryz.prog 2 = some (.int .i64 0) := by kernel_rfl
theorem z0_31 : zeroT Tryz.prog 31 = some (.pointer none) := by kernel_rfl
theorem zc_123 : zeroC Tryz.prog 123 = some [.snil, .int .i64 0, .snil, .int .i64 0, .pnil, .mnil] := by kernel_rfl
theorem zc_127 : zeroC Tryz.prog 127 = some [.pnil, .snil, .snil, .snil, .snil, .int .i64 0] := by kernel_rfl
theorem zc_157 : zeroC Tryz.prog 157 = some [.pnil, .int .i64 0] := by kernel_rfl
theorem zc_195 : zeroC Tryz.prog 195 = some [.int .i64 0, .snil] := by kernel_rfl
theorem zc_198 : zeroC Tryz.prog 198 = some [.int .i64 0, .int .i64 0, .mnil] := by kernel_rfl
theorem zc_2 : zeroC Tryz.prog 2 = some [.int .i64 0] := by kernel_rfl
theorem zc_201 : zeroC Tryz.prog 201 = some [.int .i64 0, .int .i64 0, .snil] := by kernel_rfl
theorem zc_204 : zeroC Tryz.prog 204 = some [.snil] := by kernel_rfl
theorem zc_212 : zeroC Tryz.prog 212 = some [.int .i64 0, .int .i64 0] := by kernel_rfl
theorem zc_218 : zeroC Tryz.prog 218 = some [.int .i64 0, .complex .f64 0 0, .int .i64 0] := by kernel_rfl
theorem zc_223 : zeroC Tryz.prog 223 = some [.int .i64 0, .int .i64 0] := by kernel_rfl
theorem zc_27 : zeroC Tryz.prog 27 = some [.int .i64 0, .int .i64 0, .snil] := by kernel_rfl
theorem zc_283 : zeroC Tryz.prog 283 = some [.int .u64 0] := by kernel_rfl
theorem zc_29 : zeroC Tryz.prog 29 = some [.int .i64 0, .snil, .int .i64 0, .int .i64 0, .snil, .int .i64 0] := by kernel_rfl
theorem zc_3 : zeroC Tryz.prog 3 = some [.int .i64 0] := by kernel_rfl
theorem zc_32 : zeroC Tryz.prog 32 = some [.int .i64 0] := by kernel_rfl
theorem zc_38 : zeroC Tryz.prog 38 = some [.int .i64 0, .int .i64 0, .int .i64 0] := by kernel_rfl
theorem zc_40 : zeroC Tryz.prog 40 = some [.int .i64 0, .int .i64 0, .int .i64 0, .int .i64 0, .bool false] := by kernel_rfl
theorem zc_57 : zeroC Tryz.prog 57 = some [.snil, .int .i64 0] := by kernel_rfl
theorem zc_68 : zeroC Tryz.prog 68 = some [.snil, .snil, .snil, .snil] := by kernel_rfl
theorem zc_80 : zeroC Tryz.prog 80 = some [.int .i64 0, .int .i64 0, .int .i64 0, .int .i64 0] := by kernel_rfl
theorem zc_82 : zeroC Tryz.prog 82 = some [.int .i64 0, .int .i64 0, .int .i64 0, .int .i64 0, .int .i64 0] := by kernel_rfl
theorem zc_99 : zeroC Tryz.prog 99 = some [.int .i64 0, .int .i64 0, .snil, .int .i64 0, .nilIface] := by kernel_rfl
theorem zt_157 : sizeT Tryz.prog 157 = some 2 := by kernel_rfl
theorem zt_193 : sizeT Tryz.prog 193 = some 1 := by kernel_rfl
theorem zt_199 : sizeT Tryz.prog 199 = some 1 := by kernel_rfl
theorem zt_2 : sizeT Tryz.prog 2 = some 1 := by kernel_rfl
theorem zt_204 : sizeT Tryz.prog 204 = some 1 := by kernel_rfl
theorem zt_212 : sizeT Tryz.prog 212 = some 2 := by kernel_rfl
theorem zt_218 : sizeT Tryz.prog 218 = some 3 := by kernel_rfl
theorem zt_223 : sizeT Tryz.prog 223 = some 2 := by kernel_rfl
theorem zt_24 : sizeT Tryz.prog 24 = some 1 := by kernel_rfl
theorem zt_25 : sizeT Tryz.prog 25 = some 1 := by kernel_rfl
theorem zt_27 : sizeT Tryz.prog 27 = some 3 := by kernel_rfl
theorem zt_283 : sizeT Tryz.prog 283 = some 1 := by kernel_rfl
theorem zt_29 : sizeT Tryz.prog 29 = some 6 := by kernel_rfl
theorem zt_3 : sizeT Tryz.prog 3 = some 1 := by kernel_rfl
theorem zt_32 : sizeT Tryz.prog 32 = some 1 := by kernel_rfl
theorem zt_35 : sizeT Tryz.prog 35 = some 1 := by kernel_rfl
theorem zt_38 : sizeT Tryz.prog 38 = some 3 := by kernel_rfl
theorem zt_40 : sizeT Tryz.prog 40 = some 5 := by kernel_rfl
theorem zt_55 : sizeT Tryz.prog 55 = some 1 := by kernel_rfl
theorem zt_57 : sizeT Tryz.prog 57 = some 2 := by kernel_rfl
theorem zt_65 : sizeT Tryz.prog 65 = some 1 := by kernel_rfl
theorem zt_66 : sizeT Tryz.prog 66 = some 1 := by kernel_rfl
theorem zt_68 : sizeT Tryz.prog 68 = some 4 := by kernel_rfl
theorem zt_89 : sizeT Tryz.prog 89 = some 1 := by kernel_rfl
end Go.Proofs.YtpjfhfmbhjghcaaGreatDoor.Pk
