/-
  What functions of the program do, told of abstract states. Conditions: as each theorem says.
-/
import Derived.Test.YthnleejpeocaeaaDoorAbD
import Derived.Test.YthnleejpeocaeaaDoorAbD
import Derived.Test.YthnleejpeocaeaaDoorAbD
import Derived.Test.YthnleejpeocaeaaDoorProg
namespace Go.Proofs.YthnleejpeocaeaaDoor.Pk
open Go Go.Proofs Go.Proofs.YthnleejpeocaeaaDoor.Ab

theorem as_22 : arSz Tryd.prog 22 = none := by kernel_rfl
theorem as_28 : arSz Tryd.prog 28 = none := by kernel_rfl
theorem as_38 : arSz Tryd.prog 38 = none := by kernel_rfl
theorem as_42 : arSz Tryd.prog 42 = none := by kernel_rfl
theorem as_68 : arSz Tryd.prog 68 = some (17, 1) := by kernel_rfl
theorem cal10 : callable Tryd.prog 10 = true := by kernel_rfl
theorem cal11 : callable Tryd.prog 11 = true := by kernel_rfl
theorem cal12 : callable Tryd.prog 12 = true := by kernel_rfl
theorem cal13 : callable Tryd.prog 13 = true := by kernel_rfl
theorem cal14 : callable Tryd.prog 14 = true := by kernel_rfl
theorem cal15 : callable Tryd.prog 15 = true := by kernel_rfl
theorem cal16 : callable Tryd.prog 16 = true := by kernel_rfl
theorem cal17 : callable Tryd.prog 17 = true := by kernel_rfl
theorem cal18 : callable Tryd.prog 18 = true := by kernel_rfl
theorem cal19 : callable Tryd.prog 19 = true := by kernel_rfl
theorem cal20 : callable Tryd.prog 20 = true := by kernel_rfl
theorem cal21 : callable Tryd.prog 21 = true := by kernel_rfl
theorem cal22 : callable Tryd.prog 22 = true := by kernel_rfl
theorem cal23 : callable Tryd.prog 23 = true := by kernel_rfl
theorem cal24 : callable Tryd.prog 24 = true := by kernel_rfl
theorem cal25 : callable Tryd.prog 25 = true := by kernel_rfl
theorem cal26 : callable Tryd.prog 26 = true := by kernel_rfl
theorem cal27 : callable Tryd.prog 27 = true := by kernel_rfl
theorem cal28 : callable Tryd.prog 28 = true := by kernel_rfl
theorem cal29 : callable Tryd.prog 29 = true := by kernel_rfl
theorem cal3 : callable Tryd.prog 3 = true := by kernel_rfl
theorem cal30 : callable Tryd.prog 30 = true := by kernel_rfl
theorem cal31 : callable Tryd.prog 31 = true := by kernel_rfl
theorem cal32 : callable Tryd.prog 32 = true := by kernel_rfl
theorem cal4 : callable Tryd.prog 4 = true := by kernel_rfl
theorem cal5 : callable Tryd.prog 5 = true := by kernel_rfl
theorem cal6 : callable Tryd.prog 6 = true := by kernel_rfl
theorem cal7 : callable Tryd.prog 7 = true := by kernel_rfl
theorem cal8 : callable Tryd.prog 8 = true := by kernel_rfl
theorem cal9 : callable Tryd.prog 9 = true := by kernel_rfl
theorem ft_24_0 : fieldT Tryd.prog 24 0 = some 0 := by kernel_rfl
theorem ft_24_1 : fieldT Tryd.prog 24 1 = some 1 := by kernel_rfl
theorem ft_24_2 : fieldT Tryd.prog 24 2 = some 2 := by kernel_rfl
theorem ft_40_0 : fieldT Tryd.prog 40 0 = some 0 := by kernel_rfl
theorem ft_40_1 : fieldT Tryd.prog 40 1 = some 1 := by kernel_rfl
theorem ft_40_2 : fieldT Tryd.prog 40 2 = some 2 := by kernel_rfl
theorem ft_44_0 : fieldT Tryd.prog 44 0 = some 0 := by kernel_rfl
theorem ft_44_2 : fieldT Tryd.prog 44 2 = some 2 := by kernel_rfl
theorem ft_49_0 : fieldT Tryd.prog 49 0 = some 0 := by kernel_rfl
theorem ft_49_1 : fieldT Tryd.prog 49 1 = some 1 := by kernel_rfl
theorem ft_49_2 : fieldT Tryd.prog 49 2 = some 2 := by kernel_rfl
theorem ft_49_3 : fieldT Tryd.prog 49 3 = some 3 := by kernel_rfl
theorem if_29 : isIfaceT Tryd.prog 29 = some false := by kernel_rfl
theorem kt_20 : kindT Tryd.prog 20 = some 4 := by kernel_rfl
theorem kt_22 : kindT Tryd.prog 22 = some 1 := by kernel_rfl
theorem kt_28 : kindT Tryd.prog 28 = some 1 := by kernel_rfl
theorem kt_38 : kindT Tryd.prog 38 = some 1 := by kernel_rfl
theorem lt_2 : loadT Tryd.prog 2 = some none := by kernel_rfl
theorem lt_22 : loadT Tryd.prog 22 = some none := by kernel_rfl
theorem lt_24 : loadT Tryd.prog 24 = some (some 3) := by kernel_rfl
theorem lt_28 : loadT Tryd.prog 28 = some none := by kernel_rfl
theorem lt_29 : loadT Tryd.prog 29 = some none := by kernel_rfl
theorem lt_3 : loadT Tryd.prog 3 = some none := by kernel_rfl
theorem lt_38 : loadT Tryd.prog 38 = some none := by kernel_rfl
theorem lt_40 : loadT Tryd.prog 40 = some (some 3) := by kernel_rfl
theorem lt_42 : loadT Tryd.prog 42 = some none := by kernel_rfl
theorem lt_44 : loadT Tryd.prog 44 = some (some 6) := by kernel_rfl
theorem lt_46 : loadT Tryd.prog 46 = some none := by kernel_rfl
theorem lt_49 : loadT Tryd.prog 49 = some (some 4) := by kernel_rfl
theorem pl_24 : bplT Tryd.prog 24 = some (.inl [(0, 1), (1, 1), (2, 1)]) := by kernel_rfl
theorem pl_40 : bplT Tryd.prog 40 = some (.inl [(0, 1), (1, 1), (2, 1)]) := by kernel_rfl
theorem pl_44 : bplT Tryd.prog 44 = some (.inl [(0, 1), (1, 1), (2, 3), (5, 1)]) := by kernel_rfl
theorem pl_49 : bplT Tryd.prog 49 = some (.inl [(0, 1), (1, 1), (2, 1), (3, 1)]) := by kernel_rfl
theorem sk_24 : structK Tryd.prog 24 = some [0, 0, 0] := by kernel_rfl
theorem sl_22 : slT Tryd.prog 22 = some ⟨44, [.int .i64 0, .snil, .int .i64 0, .int .i64 0, .snil, .int .i64 0], 6, 80⟩ := by kernel_rfl
theorem sl_28 : slT Tryd.prog 28 = some ⟨24, [.int .i64 0, .int .i64 0, .int .i64 0], 3, 24⟩ := by kernel_rfl
theorem sl_38 : slT Tryd.prog 38 = some ⟨40, [.int .i64 0, .int .i64 0, .snil], 3, 40⟩ := by kernel_rfl
theorem sl_42 : slT Tryd.prog 42 = some ⟨3, [.int .i64 0], 1, 8⟩ := by kernel_rfl
theorem ss_22 : slSz Tryd.prog 22 = some 6 := by kernel_rfl
theorem ss_28 : slSz Tryd.prog 28 = some 3 := by kernel_rfl
theorem ss_38 : slSz Tryd.prog 38 = some 3 := by kernel_rfl
theorem ss_42 : slSz Tryd.prog 42 = some 1 := by kernel_rfl
theorem ss_68 : slSz Tryd.prog 68 = none := by kernel_rfl
theorem zc_2 : zeroC Tryd.prog 2 = some [.int .i64 0] := by kernel_rfl
theorem zc_24 : zeroC Tryd.prog 24 = some [.int .i64 0, .int .i64 0, .int .i64 0] := by kernel_rfl
theorem zc_28 : zeroC Tryd.prog 28 = some [.snil] := by kernel_rfl
theorem zc_29 : zeroC Tryd.prog 29 = some [.int .i64 0] := by kernel_rfl
theorem zc_40 : zeroC Tryd.prog 40 = some [.int .i64 0, .int .i64 0, .snil] := by kernel_rfl
theorem zc_42 : zeroC Tryd.prog 42 = some [.snil] := by kernel_rfl
theorem zc_44 : zeroC Tryd.prog 44 = some [.int .i64 0, .snil, .int .i64 0, .int .i64 0, .snil, .int .i64 0] := by kernel_rfl
theorem zc_46 : zeroC Tryd.prog 46 = some [.nilFunc] := by kernel_rfl
theorem zc_49 : zeroC Tryd.prog 49 = some [.snil, .snil, .int .i64 0, .int .i64 0] := by kernel_rfl
theorem zt_2 : sizeT Tryd.prog 2 = some 1 := by kernel_rfl
theorem zt_24 : sizeT Tryd.prog 24 = some 3 := by kernel_rfl
theorem zt_28 : sizeT Tryd.prog 28 = some 1 := by kernel_rfl
theorem zt_29 : sizeT Tryd.prog 29 = some 1 := by kernel_rfl
theorem zt_3 : sizeT Tryd.prog 3 = some 1 := by kernel_rfl
theorem zt_40 : sizeT Tryd.prog 40 = some 3 := by kernel_rfl
theorem zt_42 : sizeT Tryd.prog 42 = some 1 := by kernel_rfl
theorem zt_46 : sizeT Tryd.prog 46 = some 1 := by kernel_rfl
theorem zt_49 : sizeT Tryd.prog 49 = some 4 := by kernel_rfl
end Go.Proofs.YthnleejpeocaeaaDoor.Pk
