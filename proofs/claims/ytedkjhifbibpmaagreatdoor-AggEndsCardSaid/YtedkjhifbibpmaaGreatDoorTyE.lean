/-
  What functions of the program do, told of abstract states. Conditions: as each theorem says.
-/
import Derived.Test.YtedkjhifbibpmaaGreatDoorAbD
import Derived.Test.YtedkjhifbibpmaaGreatDoorAbD
import Derived.Test.YtedkjhifbibpmaaGreatDoorAbD
import Derived.Test.YtedkjhifbibpmaaGreatDoorAbD
import Derived.Test.YtedkjhifbibpmaaGreatDoorProg
namespace Go.Proofs.YtedkjhifbibpmaaGreatDoor.Pk
open Go Go.Proofs Go.Proofs.YtedkjhifbibpmaaGreatDoor.Ab

theorem as_24 : arSz Tryz.prog 24 = none := by kernel_rfl
theorem as_283 : arSz Tryz.prog 283 = some (17, 1) := by kernel_rfl
theorem as_35 : arSz Tryz.prog 35 = none := by kernel_rfl
theorem bt_4 : boolT Tryz.prog 4 = true := by kernel_rfl
theorem cal103 : callable Tryz.prog 103 = true := by kernel_rfl
theorem cal104 : callable Tryz.prog 104 = true := by kernel_rfl
theorem cal105 : callable Tryz.prog 105 = true := by kernel_rfl
theorem cal106 : callable Tryz.prog 106 = true := by kernel_rfl
theorem cal107 : callable Tryz.prog 107 = true := by kernel_rfl
theorem cal108 : callable Tryz.prog 108 = true := by kernel_rfl
theorem cal109 : callable Tryz.prog 109 = true := by kernel_rfl
theorem cal110 : callable Tryz.prog 110 = true := by kernel_rfl
theorem cal111 : callable Tryz.prog 111 = true := by kernel_rfl
theorem cal112 : callable Tryz.prog 112 = true := by kernel_rfl
theorem cal113 : callable Tryz.prog 113 = true := by kernel_rfl
theorem cal114 : callable Tryz.prog 114 = true := by kernel_rfl
theorem cal115 : callable Tryz.prog 115 = true := by kernel_rfl
theorem cal116 : callable Tryz.prog 116 = true := by kernel_rfl
theorem cal117 : callable Tryz.prog 117 = true := by kernel_rfl
theorem cal118 : callable Tryz.prog 118 = true := by kernel_rfl
theorem cal119 : callable Tryz.prog 119 = true := by kernel_rfl
theorem cal120 : callable Tryz.prog 120 = true := by kernel_rfl
theorem cal121 : callable Tryz.prog 121 = true := by kernel_rfl
theorem cal122 : callable Tryz.prog 122 = true := by kernel_rfl
theorem cal124 : callable Tryz.prog 124 = true := by kernel_rfl
theorem cal126 : callable Tryz.prog 126 = true := by kernel_rfl
theorem cal15 : callable Tryz.prog 15 = true := by kernel_rfl
theorem cal156 : callable Tryz.prog 156 = true := by kernel_rfl
theorem cal157 : callable Tryz.prog 157 = true := by kernel_rfl
theorem cal158 : callable Tryz.prog 158 = true := by kernel_rfl
theorem cal159 : callable Tryz.prog 159 = true := by kernel_rfl
theorem cal16 : callable Tryz.prog 16 = true := by kernel_rfl
theorem cal160 : callable Tryz.prog 160 = true := by kernel_rfl
theorem cal161 : callable Tryz.prog 161 = true := by kernel_rfl
theorem cal162 : callable Tryz.prog 162 = true := by kernel_rfl
theorem cal163 : callable Tryz.prog 163 = true := by kernel_rfl
theorem cal166 : callable Tryz.prog 166 = true := by kernel_rfl
theorem cal167 : callable Tryz.prog 167 = true := by kernel_rfl
theorem cal168 : callable Tryz.prog 168 = true := by kernel_rfl
theorem cal169 : callable Tryz.prog 169 = true := by kernel_rfl
theorem cal17 : callable Tryz.prog 17 = true := by kernel_rfl
theorem cal171 : callable Tryz.prog 171 = true := by kernel_rfl
theorem cal172 : callable Tryz.prog 172 = true := by kernel_rfl
theorem cal173 : callable Tryz.prog 173 = true := by kernel_rfl
theorem cal174 : callable Tryz.prog 174 = true := by kernel_rfl
theorem cal175 : callable Tryz.prog 175 = true := by kernel_rfl
theorem cal176 : callable Tryz.prog 176 = true := by kernel_rfl
theorem cal177 : callable Tryz.prog 177 = true := by kernel_rfl
theorem cal179 : callable Tryz.prog 179 = true := by kernel_rfl
theorem cal18 : callable Tryz.prog 18 = true := by kernel_rfl
theorem cal180 : callable Tryz.prog 180 = true := by kernel_rfl
theorem cal19 : callable Tryz.prog 19 = true := by kernel_rfl
theorem cal190 : callable Tryz.prog 190 = true := by kernel_rfl
theorem cal198 : callable Tryz.prog 198 = true := by kernel_rfl
theorem cal199 : callable Tryz.prog 199 = true := by kernel_rfl
theorem cal200 : callable Tryz.prog 200 = true := by kernel_rfl
theorem cal201 : callable Tryz.prog 201 = true := by kernel_rfl
theorem cal202 : callable Tryz.prog 202 = true := by kernel_rfl
theorem cal204 : callable Tryz.prog 204 = true := by kernel_rfl
theorem cal205 : callable Tryz.prog 205 = true := by kernel_rfl
theorem cal206 : callable Tryz.prog 206 = true := by kernel_rfl
theorem cal207 : callable Tryz.prog 207 = true := by kernel_rfl
theorem cal21 : callable Tryz.prog 21 = true := by kernel_rfl
theorem cal210 : callable Tryz.prog 210 = true := by kernel_rfl
theorem cal211 : callable Tryz.prog 211 = true := by kernel_rfl
theorem cal212 : callable Tryz.prog 212 = true := by kernel_rfl
theorem cal22 : callable Tryz.prog 22 = true := by kernel_rfl
theorem cal226 : callable Tryz.prog 226 = true := by kernel_rfl
theorem cal23 : callable Tryz.prog 23 = true := by kernel_rfl
theorem cal243 : callable Tryz.prog 243 = true := by kernel_rfl
theorem cal251 : callable Tryz.prog 251 = true := by kernel_rfl
theorem cal51 : callable Tryz.prog 51 = true := by kernel_rfl
theorem cal52 : callable Tryz.prog 52 = true := by kernel_rfl
theorem cal53 : callable Tryz.prog 53 = true := by kernel_rfl
theorem cal54 : callable Tryz.prog 54 = true := by kernel_rfl
theorem cal55 : callable Tryz.prog 55 = true := by kernel_rfl
theorem cal56 : callable Tryz.prog 56 = true := by kernel_rfl
theorem cal57 : callable Tryz.prog 57 = true := by kernel_rfl
theorem cal58 : callable Tryz.prog 58 = true := by kernel_rfl
theorem cal61 : callable Tryz.prog 61 = true := by kernel_rfl
theorem fl_328 : floatT Tryz.prog 328 = some .f64 := by kernel_rfl
theorem ft_124_0 : fieldT Tryz.prog 124 0 = some 0 := by kernel_rfl
theorem ft_124_1 : fieldT Tryz.prog 124 1 = some 3 := by kernel_rfl
theorem ft_124_2 : fieldT Tryz.prog 124 2 = some 4 := by kernel_rfl
theorem ft_206_0 : fieldT Tryz.prog 206 0 = some 0 := by kernel_rfl
theorem ft_206_1 : fieldT Tryz.prog 206 1 = some 1 := by kernel_rfl
theorem ft_269_0 : fieldT Tryz.prog 269 0 = some 0 := by kernel_rfl
theorem ft_269_1 : fieldT Tryz.prog 269 1 = some 1 := by kernel_rfl
theorem ft_272_0 : fieldT Tryz.prog 272 0 = some 0 := by kernel_rfl
theorem ft_272_1 : fieldT Tryz.prog 272 1 = some 1 := by kernel_rfl
theorem ft_272_2 : fieldT Tryz.prog 272 2 = some 2 := by kernel_rfl
theorem ft_275_0 : fieldT Tryz.prog 275 0 = some 0 := by kernel_rfl
theorem ft_275_1 : fieldT Tryz.prog 275 1 = some 1 := by kernel_rfl
theorem ft_275_2 : fieldT Tryz.prog 275 2 = some 2 := by kernel_rfl
theorem ft_278_0 : fieldT Tryz.prog 278 0 = some 0 := by kernel_rfl
theorem ft_27_0 : fieldT Tryz.prog 27 0 = some 0 := by kernel_rfl
theorem ft_27_1 : fieldT Tryz.prog 27 1 = some 1 := by kernel_rfl
theorem ft_27_2 : fieldT Tryz.prog 27 2 = some 2 := by kernel_rfl
theorem ft_286_0 : fieldT Tryz.prog 286 0 = some 0 := by kernel_rfl
theorem ft_286_1 : fieldT Tryz.prog 286 1 = some 1 := by kernel_rfl
theorem ft_292_0 : fieldT Tryz.prog 292 0 = some 0 := by kernel_rfl
theorem ft_292_1 : fieldT Tryz.prog 292 1 = some 1 := by kernel_rfl
theorem ft_292_2 : fieldT Tryz.prog 292 2 = some 2 := by kernel_rfl
theorem ft_297_0 : fieldT Tryz.prog 297 0 = some 0 := by kernel_rfl
theorem ft_297_1 : fieldT Tryz.prog 297 1 = some 1 := by kernel_rfl
theorem ft_29_0 : fieldT Tryz.prog 29 0 = some 0 := by kernel_rfl
theorem ft_29_2 : fieldT Tryz.prog 29 2 = some 2 := by kernel_rfl
theorem ft_29_3 : fieldT Tryz.prog 29 3 = some 5 := by kernel_rfl
theorem ft_38_0 : fieldT Tryz.prog 38 0 = some 0 := by kernel_rfl
theorem ft_38_1 : fieldT Tryz.prog 38 1 = some 1 := by kernel_rfl
theorem ft_38_2 : fieldT Tryz.prog 38 2 = some 2 := by kernel_rfl
theorem ft_40_0 : fieldT Tryz.prog 40 0 = some 0 := by kernel_rfl
theorem ft_40_1 : fieldT Tryz.prog 40 1 = some 1 := by kernel_rfl
theorem ft_40_2 : fieldT Tryz.prog 40 2 = some 2 := by kernel_rfl
theorem ft_40_3 : fieldT Tryz.prog 40 3 = some 3 := by kernel_rfl
theorem if_194 : isIfaceT Tryz.prog 194 = some false := by kernel_rfl
theorem if_197 : isIfaceT Tryz.prog 197 = some false := by kernel_rfl
theorem if_200 : isIfaceT Tryz.prog 200 = some false := by kernel_rfl
theorem if_32 : isIfaceT Tryz.prog 32 = some false := by kernel_rfl
theorem it_2 : intT Tryz.prog 2 = some .i64 := by kernel_rfl
theorem it_221 : intT Tryz.prog 221 = some .u64 := by kernel_rfl
theorem it_3 : intT Tryz.prog 3 = some .i64 := by kernel_rfl
theorem it_312 : intT Tryz.prog 312 = some .u64 := by kernel_rfl
theorem it_5 : intT Tryz.prog 5 = some .u8 := by kernel_rfl
theorem it_50 : intT Tryz.prog 50 = some .u16 := by kernel_rfl
theorem kt_194 : kindT Tryz.prog 194 = some 0 := by kernel_rfl
theorem kt_197 : kindT Tryz.prog 197 = some 0 := by kernel_rfl
theorem kt_200 : kindT Tryz.prog 200 = some 0 := by kernel_rfl
theorem kt_203 : kindT Tryz.prog 203 = some 0 := by kernel_rfl
theorem kt_24 : kindT Tryz.prog 24 = some 1 := by kernel_rfl
theorem kt_25 : kindT Tryz.prog 25 = some 1 := by kernel_rfl
theorem kt_267 : kindT Tryz.prog 267 = some 1 := by kernel_rfl
theorem kt_270 : kindT Tryz.prog 270 = some 2 := by kernel_rfl
theorem kt_273 : kindT Tryz.prog 273 = some 1 := by kernel_rfl
theorem kt_31 : kindT Tryz.prog 31 = some 0 := by kernel_rfl
theorem kt_35 : kindT Tryz.prog 35 = some 1 := by kernel_rfl
theorem kt_49 : kindT Tryz.prog 49 = some 1 := by kernel_rfl
theorem kt_87 : kindT Tryz.prog 87 = some 1 := by kernel_rfl
theorem lt_118 : loadT Tryz.prog 118 = some none := by kernel_rfl
theorem lt_194 : loadT Tryz.prog 194 = some none := by kernel_rfl
theorem lt_2 : loadT Tryz.prog 2 = some none := by kernel_rfl
theorem lt_203 : loadT Tryz.prog 203 = some none := by kernel_rfl
theorem lt_25 : loadT Tryz.prog 25 = some none := by kernel_rfl
theorem lt_267 : loadT Tryz.prog 267 = some none := by kernel_rfl
theorem lt_27 : loadT Tryz.prog 27 = some (some 3) := by kernel_rfl
theorem lt_270 : loadT Tryz.prog 270 = some none := by kernel_rfl
theorem lt_273 : loadT Tryz.prog 273 = some none := by kernel_rfl
theorem lt_286 : loadT Tryz.prog 286 = some (some 2) := by kernel_rfl
theorem lt_29 : loadT Tryz.prog 29 = some (some 6) := by kernel_rfl
theorem lt_290 : loadT Tryz.prog 290 = some none := by kernel_rfl
theorem lt_292 : loadT Tryz.prog 292 = some (some 3) := by kernel_rfl
theorem lt_297 : loadT Tryz.prog 297 = some (some 2) := by kernel_rfl
theorem lt_3 : loadT Tryz.prog 3 = some none := by kernel_rfl
theorem lt_32 : loadT Tryz.prog 32 = some none := by kernel_rfl
theorem lt_38 : loadT Tryz.prog 38 = some (some 3) := by kernel_rfl
theorem lt_40 : loadT Tryz.prog 40 = some (some 5) := by kernel_rfl
theorem lt_5 : loadT Tryz.prog 5 = some none := by kernel_rfl
theorem lt_87 : loadT Tryz.prog 87 = some none := by kernel_rfl
theorem ncal208 : callable Tryz.prog 208 = false := by kernel_rfl
theorem ncal255 : callable Tryz.prog 255 = false := by kernel_rfl
theorem pl_124 : bplT Tryz.prog 124 = some (.inl [(0, 3), (3, 1), (4, 1)]) := by kernel_rfl
theorem pl_206 : bplT Tryz.prog 206 = some (.inl [(0, 1), (1, 1)]) := by kernel_rfl
theorem pl_269 : bplT Tryz.prog 269 = some (.inl [(0, 1), (1, 1)]) := by kernel_rfl
theorem pl_27 : bplT Tryz.prog 27 = some (.inl [(0, 1), (1, 1), (2, 1)]) := by kernel_rfl
theorem pl_272 : bplT Tryz.prog 272 = some (.inl [(0, 1), (1, 1), (2, 1)]) := by kernel_rfl
theorem pl_275 : bplT Tryz.prog 275 = some (.inl [(0, 1), (1, 1), (2, 1)]) := by kernel_rfl
theorem pl_278 : bplT Tryz.prog 278 = some (.inl [(0, 1)]) := by kernel_rfl
theorem pl_286 : bplT Tryz.prog 286 = some (.inl [(0, 1), (1, 1)]) := by kernel_rfl
theorem pl_29 : bplT Tryz.prog 29 = some (.inl [(0, 1), (1, 1), (2, 3), (5, 1)]) := by kernel_rfl
theorem pl_292 : bplT Tryz.prog 292 = some (.inl [(0, 1), (1, 1), (2, 1)]) := by kernel_rfl
theorem pl_297 : bplT Tryz.prog 297 = some (.inl [(0, 1), (1, 1)]) := by kernel_rfl
theorem pl_38 : bplT Tryz.prog 38 = some (.inl [(0, 1), (1, 1), (2, 1)]) := by kernel_rfl
theorem pl_40 : bplT Tryz.prog 40 = some (.inl [(0, 1), (1, 1), (2, 1), (3, 1), (4, 1)]) := by kernel_rfl
theorem sk_38 : structK Tryz.prog 38 = some [0, 0, 0] := by kernel_rfl
theorem sk_40 : structK Tryz.prog 40 = some [0, 0, 0, 0, 1] := by kernel_rfl
theorem sl_24 : slT Tryz.prog 24 = some ⟨3, [.int .i64 0], 1, 8⟩ := by kernel_rfl
theorem sl_25 : slT Tryz.prog 25 = some ⟨27, [.int .i64 0, .int .i64 0, .snil], 3, 40⟩ := by kernel_rfl
theorem sl_267 : slT Tryz.prog 267 = some ⟨297, [.int .i64 0, .int .i64 0], 2, 16⟩ := by kernel_rfl
theorem sl_273 : slT Tryz.prog 273 = some ⟨292, [.int .i64 0, .complex .f64 0 0, .int .i64 0], 3, 32⟩ := by kernel_rfl
theorem sl_35 : slT Tryz.prog 35 = some ⟨40, [.int .i64 0, .int .i64 0, .int .i64 0, .int .i64 0, .bool false], 5, 40⟩ := by kernel_rfl
theorem sl_87 : slT Tryz.prog 87 = some ⟨5, [.int .u8 0], 1, 1⟩ := by kernel_rfl
theorem ss_24 : slSz Tryz.prog 24 = some 1 := by kernel_rfl
theorem ss_25 : slSz Tryz.prog 25 = some 3 := by kernel_rfl
theorem ss_267 : slSz Tryz.prog 267 = some 2 := by kernel_rfl
theorem ss_273 : slSz Tryz.prog 273 = some 3 := by kernel_rfl
theorem ss_283 : slSz Tryz.prog 283 = none := by kernel_rfl
theorem ss_35 : slSz Tryz.prog 35 = some 5 := by kernel_rfl
theorem ss_49 : slSz Tryz.prog 49 = some 3 := by kernel_rfl
theorem ss_87 : slSz Tryz.prog 87 = some 1 := by kernel_rfl
theorem z0_2 : zeroT Tryz.prog 2 = some (.int .i64 0) := by kernel_rfl
theorem zc_124 : zeroC Tryz.prog 124 = some [.int .i64 0, .int .i64 0, .snil, .int .i64 0, .nilIface] := by kernel_rfl
theorem zc_2 : zeroC Tryz.prog 2 = some [.int .i64 0] := by kernel_rfl
theorem zc_206 : zeroC Tryz.prog 206 = some [.pnil, .int .i64 0] := by kernel_rfl
theorem zc_269 : zeroC Tryz.prog 269 = some [.int .i64 0, .snil] := by kernel_rfl
theorem zc_27 : zeroC Tryz.prog 27 = some [.int .i64 0, .int .i64 0, .snil] := by kernel_rfl
theorem zc_272 : zeroC Tryz.prog 272 = some [.int .i64 0, .int .i64 0, .mnil] := by kernel_rfl
theorem zc_275 : zeroC Tryz.prog 275 = some [.int .i64 0, .int .i64 0, .snil] := by kernel_rfl
theorem zc_278 : zeroC Tryz.prog 278 = some [.snil] := by kernel_rfl
theorem zc_286 : zeroC Tryz.prog 286 = some [.int .i64 0, .int .i64 0] := by kernel_rfl
theorem zc_29 : zeroC Tryz.prog 29 = some [.int .i64 0, .snil, .int .i64 0, .int .i64 0, .snil, .int .i64 0] := by kernel_rfl
theorem zc_292 : zeroC Tryz.prog 292 = some [.int .i64 0, .complex .f64 0 0, .int .i64 0] := by kernel_rfl
theorem zc_297 : zeroC Tryz.prog 297 = some [.int .i64 0, .int .i64 0] := by kernel_rfl
theorem zc_32 : zeroC Tryz.prog 32 = some [.int .i64 0] := by kernel_rfl
theorem zc_38 : zeroC Tryz.prog 38 = some [.int .i64 0, .int .i64 0, .int .i64 0] := by kernel_rfl
theorem zc_40 : zeroC Tryz.prog 40 = some [.int .i64 0, .int .i64 0, .int .i64 0, .int .i64 0, .bool false] := by kernel_rfl
theorem zt_2 : sizeT Tryz.prog 2 = some 1 := by kernel_rfl
theorem zt_206 : sizeT Tryz.prog 206 = some 2 := by kernel_rfl
theorem zt_25 : sizeT Tryz.prog 25 = some 1 := by kernel_rfl
theorem zt_267 : sizeT Tryz.prog 267 = some 1 := by kernel_rfl
theorem zt_27 : sizeT Tryz.prog 27 = some 3 := by kernel_rfl
theorem zt_273 : sizeT Tryz.prog 273 = some 1 := by kernel_rfl
theorem zt_286 : sizeT Tryz.prog 286 = some 2 := by kernel_rfl
theorem zt_29 : sizeT Tryz.prog 29 = some 6 := by kernel_rfl
theorem zt_292 : sizeT Tryz.prog 292 = some 3 := by kernel_rfl
theorem zt_297 : sizeT Tryz.prog 297 = some 2 := by kernel_rfl
theorem zt_3 : sizeT Tryz.prog 3 = some 1 := by kernel_rfl
theorem zt_32 : sizeT Tryz.prog 32 = some 1 := by kernel_rfl
theorem zt_38 : sizeT Tryz.prog 38 = some 3 := by kernel_rfl
theorem zt_40 : sizeT Tryz.prog 40 = some 5 := by kernel_rfl
theorem zt_87 : sizeT Tryz.prog 87 = some 1 := by kernel_rfl
end Go.Proofs.YtedkjhifbibpmaaGreatDoor.Pk




