/-
  What functions of the program do, told of abstract states. Conditions: as each theorem says.
-/
import Derived.Test.YtpobgoeeljknpaaDoorFlU
import Derived.Test.YtpobgoeeljknpaaDoorFlV
namespace Go.Proofs.YtpobgoeeljknpaaDoor.Pk
open Go Go.Proofs Go.Proofs.YtpobgoeeljknpaaDoor.Ab
set_option linter.unusedVariables false
set_option linter.unusedSimpArgs false
set_option maxHeartbeats 2000000 in
set_option maxRecDepth 10000 in
theorem flowMaps (a b : Int) (r : Rec) (h : AHeap) (hg : KG h) : SCalls Tryd.prog 12 [.int .i64 a, .int .i64 b, .agg (recE r)] h (fun r h' => r = .bool true) := by
  refine SCalls.enterI (c := _) Tryd.func12 rfl (by kernel_rfl) (by simp) ?_
  have hcr : (V.agg (recE r)).cells = some (recE r) := rfl
  simp only [wpA_region, wpA_seq, seqQ_normal, goI_out, goI_ops, opsA_nil, opsA_cons, stepA_assign, stepA_box, stepA_call, thenH_some, eval_tmp, eval_const, enterF_zero, enterF_succ, absV_bool, aBox_eq, List.map_nil, Option.map_some, hcr]
  obtain ⟨H, hH⟩ : ∃ x, x = h.push (.cells (recE r) 32 none) := ⟨_, rfl⟩
  have g3 : H.get h.n = .cells (recE r) 32 none := by rw [hH]; exact get_push_new
  have kH : Keep h H none_ := by rw [hH]; exact Keep.push _ _ _
  have gH : KG H := hg.keep kH
  have nH : h.n < H.n := by rw [hH, push_n]; omega
  have r0 : dropC (AObj.cells (recE r) 32 none) 0 = some (recE r) := rfl
  have r1 : dropC (AObj.cells (recE r) 32 none) 1 = some [.int .i64 r.v, .int .i64 r.t] := rfl
  have lr0 : loadGo (some (some 3)) (some (recE r)) = some (.agg (recE r)) := rfl
  have x0 : ∀ v, dropC (AObj.cells (encX v) 58 none) 0 = some (encX v) := fun v => by rw [dropC_cells, if_pos (Nat.zero_le _), List.drop_zero]
  have lx0 : ∀ v, loadGo (some (some 6)) (some (encX v)) = some (.agg (encX v)) := fun v => by
    have := load_row (e := encX v) (r := []) (encX_len _)
    rwa [List.append_nil] at this
  rw [← hH]
  clear hH
  refine callI_pure cal31 (pShown17 H gH) ?_
  simp only [wpA_region, wpA_seq, seqQ_normal, goI_out, goI_ops, opsA_nil, opsA_cons, stepA_move, stepA_assign, stepA_build, stepA_call, thenV_some, eval_tmp, eval_const, put_some, enterF_zero, enterF_succ, absV_int, cells_int, setAll_nil, setAll_cons, aBuild_go, aFill_nil, aFill_cons, fillGo_some, buildGo_struct, List.getElem?_cons_zero, Nat.reduceEqDiff, Nat.reduceAdd, Nat.reduceLeDiff, reduceCtorEq, List.map_cons, List.map_nil, Option.map_some, Nat.zero_add, List.length_cons, List.length_nil, List.set_cons_zero, and_self, if_true, if_false, pl_25, zc_25]
  refine callI_pure cal32 (pCon17 a H) ?_
  simp only [wpA_region, wpA_seq, seqQ_normal, goI_out, goI_ops, opsA_nil, opsA_cons, stepA_move, stepA_alloc, stepA_build, stepA_buildSlice, stepA_store, stepA_call, thenV_some, thenH_some, thenS_some, eval_tmp, eval_const, put_some, put_none, enterF_zero, enterF_succ, absV_int, cells_int, cells_sl, cells_agg, one_int, one_snil, one_sl, all_nil, all_cons, aStore_eq, storeGo_ptr, setC_row, setAll_nil, setAll_cons, aAlloc_eq, aBuild_go, aFill_nil, aFill_cons, fillGo_some, buildGo_struct, push_n, get_push2, set_push2, List.getElem?_cons_zero, List.getElem?_cons_succ, Nat.reduceEqDiff, Nat.reduceAdd, Nat.reduceLeDiff, List.map_cons, List.map_nil, Option.map_some, Nat.zero_add, List.length_cons, List.length_nil, List.set_cons_zero, List.set_cons_succ, List.nil_append, List.cons_append, and_self, if_true, if_false, Bool.and_self, Nat.le_refl, pl_25, pl_58, zc_25, zc_58, zt_58, litE2c]
  obtain ⟨h1, hh1⟩ : ∃ x, x = (H.push (.cells (.int .i64 3 :: .int .i64 0 :: .snil :: encE (.mk 1 a [])) 25 none)).push (.cells (vxO 2 6 H.n) 58 none) := ⟨_, rfl⟩
  have k1 : Keep H h1 none_ := by rw [hh1]; exact (Keep.push _ _ _).then_push _
  have n1 : h1.n = H.n + 2 := by rw [hh1]; rfl
  have hX1 : h1.get (H.n + 1) = .cells (vxO 2 6 H.n) 58 none := by rw [hh1]; exact get_push2
  have hK1 : h1.get H.n = .cells (.int .i64 3 :: .int .i64 0 :: .snil :: encE (.mk 1 a [])) 25 none := by rw [hh1]; exact get_push2'
  unfold vxO at hh1
  rw [← hh1]
  clear hh1
  refine callI_of cal32 (vxStep (pCon17 b h1) k1 hX1 hK1 (by omega) (by omega) (by omega) (by omega)) (fun q H1 ⟨e1, X1, kH1, nH1, oth1⟩ => ?_)
  subst e1
  simp only [wpA_region, wpA_seq, seqQ_normal, goI_out, goI_ops, opsA_nil, opsA_cons, stepA_move, stepA_alloc, stepA_build, stepA_buildSlice, stepA_store, stepA_call, thenV_some, thenH_some, thenS_some, eval_tmp, eval_const, put_some, put_none, enterF_zero, enterF_succ, absV_int, cells_int, cells_sl, cells_agg, one_int, one_snil, one_sl, all_nil, all_cons, aStore_eq, storeGo_ptr, setC_row, setAll_nil, setAll_cons, aAlloc_eq, aBuild_go, aFill_nil, aFill_cons, fillGo_some, buildGo_struct, push_n, get_push2, set_push2, List.getElem?_cons_zero, List.getElem?_cons_succ, Nat.reduceEqDiff, Nat.reduceAdd, Nat.reduceLeDiff, reduceCtorEq, List.map_cons, List.map_nil, Option.map_some, Nat.zero_add, List.length_cons, List.length_nil, List.set_cons_zero, List.set_cons_succ, List.nil_append, List.cons_append, and_self, if_true, if_false, Bool.and_self, Nat.le_refl, pl_25, pl_58, zc_25, zc_58, zt_58, litE2c]
  obtain ⟨h2, hh2⟩ : ∃ x, x = (H1.push (.cells (.int .i64 3 :: .int .i64 0 :: .snil :: encE (.mk 1 b [])) 25 none)).push (.cells (vxO 2 8 H1.n) 58 none) := ⟨_, rfl⟩
  have k2 : Keep H1 h2 none_ := by rw [hh2]; exact (Keep.push _ _ _).then_push _
  have n2 : h2.n = H1.n + 2 := by rw [hh2]; rfl
  have hX2 : h2.get (H1.n + 1) = .cells (vxO 2 8 H1.n) 58 none := by rw [hh2]; exact get_push2
  have hK2 : h2.get H1.n = .cells (.int .i64 3 :: .int .i64 0 :: .snil :: encE (.mk 1 b [])) 25 none := by rw [hh2]; exact get_push2'
  unfold vxO at hh2
  rw [← hh2]
  clear hh2
  refine callI_of cal32 (vxStep (pCon17 a h2) k2 hX2 hK2 (by omega) (by omega) (by omega) (by omega)) (fun q H2 ⟨e1, X2, kH2, nH2, oth2⟩ => ?_)
  subst e1
  have X1' : H2.get (H.n + 1) = .cells (encX (vAdd a)) 58 none := (kH2.get _ (by omega) (fun q => q)).trans X1
  have X2' : H2.get (H1.n + 1) = .cells (encX (vMul b)) 58 none := X2
  have g32 : H2.get h.n = .cells (recE r) 32 none := ((kH1.trans' kH2).get _ nH (fun q => q)).trans g3
  have gH2 : KG H2 := gH.keep (kH1.trans' kH2)
  have u1 : ∀ A B, ((H2.push A).push B).get (H.n + 1) = .cells (encX (vAdd a)) 58 none := fun A B => (((Keep.push _ _ none_).then_push B).get _ (by omega) (fun q => q)).trans X1'
  have u2 : ∀ A B, ((H2.push A).push B).get (H1.n + 1) = .cells (encX (vMul b)) 58 none := fun A B => (((Keep.push _ _ none_).then_push B).get _ (by omega) (fun q => q)).trans X2'
  have u3 : ∀ A B C, (((H2.push A).push B).push C).get h.n = .cells (recE r) 32 none := fun A B C => ((((Keep.push _ _ none_).then_push B).then_push C).get _ (by omega) (fun q => q)).trans g32
  simp only [wpA_region, wpA_seq, seqQ_normal, goI_out, goI_ops, opsA_nil, opsA_cons, stepA_alloc, stepA_build, stepA_buildSlice, stepA_load, stepA_store, stepA_call, thenV_some, thenH_some, thenS_some, eval_tmp, eval_const, put_some, put_none, enterF_succ, absV_int, cells_int, cells_sl, cells_agg, one_int, one_snil, one_sl, all_nil, all_cons, aLoad_eq, aPlace_ptr, aStore_eq, storeGo_ptr, setC_row, setAll_nil, setAll_cons, aAlloc_eq, aBuild_go, aFill_nil, aFill_cons, fillGo_some, buildGo_struct, push_n, get_push2, set_push2, List.getElem?_cons_zero, List.getElem?_cons_succ, Nat.reduceEqDiff, Nat.reduceAdd, Nat.reduceLeDiff, List.map_cons, List.map_nil, Option.map_some, Nat.zero_add, List.length_cons, List.length_nil, List.set_cons_zero, List.set_cons_succ, List.nil_append, List.cons_append, and_self, if_true, if_false, Bool.and_self, Nat.le_refl, lt_32, lt_58, pl_25, pl_58, zc_25, zc_58, zt_58, litE2c, u1, u2, u3, x0, lx0, r0, lr0, litVV]
  obtain ⟨h3, hh3⟩ : ∃ x, x = ((H2.push (.cells (.int .i64 3 :: .int .i64 0 :: .snil :: encE (.mk 1 a [])) 25 none)).push (.cells (vxO 3 11 H2.n) 58 none)).push (.cells (encX (vAdd a) ++ encX (vMul b)) 58 none) := ⟨_, rfl⟩
  have k3 : Keep H2 h3 none_ := by rw [hh3]; exact ((Keep.push _ _ _).then_push _).then_push _
  have n3 : h3.n = H2.n + 3 := by rw [hh3]; rfl
  have hX3 : h3.get (H2.n + 1) = .cells (vxO 3 11 H2.n) 58 none := by rw [hh3]; exact get_push3b
  have hK3 : h3.get H2.n = .cells (.int .i64 3 :: .int .i64 0 :: .snil :: encE (.mk 1 a [])) 25 none := by rw [hh3]; exact get_push3a
  have hB3 : h3.get (H2.n + 1 + 1) = .cells ([vAdd a, vMul b].flatMap encX) 58 none := by rw [hh3, get_push3c]; simp
  unfold vxO at hh3
  rw [← hh3]
  clear hh3
  have ch1 := chainOwnX [vAdd a, vMul b] (by simp) r H2 h3 gH2 k3 (H2.n + 1 + 1) (by omega) (by omega) hB3 hX3 hK3 (by omega) (by omega) (by omega) (by omega) (by omega) (by omega) (by omega)
  rw [chainMaps] at ch1
  refine callI_of cal33 ch1 (fun q H3 ⟨e1, X3, kH3, mn3⟩ => ?_)
  subst e1
  have X3' : H3.get (H2.n + 1) = .cells (encX (vLess a)) 58 none := X3
  have kn3 := kH3.n
  have g33 : H3.get h.n = .cells (recE r) 32 none := (kH3.get _ (by omega) (fun q => q)).trans g32
  have gH3 : KG H3 := gH2.keep kH3
  have hlt3 : H2.n + 1 < H3.n := by omega
  have u4 : ∀ A, (H3.push A).get h.n = .cells (recE r) 32 none := fun A => ((Keep.push _ _ none_).get _ (by omega) (fun q => q)).trans g33
  obtain ⟨x, hx⟩ : ∃ x : Rec, x = ⟨r.k, w64 (w64 (r.v + a) * b), r.t⟩ := ⟨_, rfl⟩
  have hxv : x.v = w64 (w64 (r.v + a) * b) := by rw [hx]
  rw [← hx]
  obtain ⟨p1, hp1⟩ : ∃ p, p = V.imm [x].length ([x].flatMap recE) := ⟨_, rfl⟩
  simp only [chV, ← hp1]
  simp only [wpA_region, wpA_seq, seqQ_normal, goI_out, goI_ops, opsA_nil, opsA_cons, stepA_move, stepA_assign, stepA_buildSlice, stepA_load, stepA_extract, stepA_call, thenV_some, thenH_some, extV_zero, extV_succ, eval_tmp, put_some, put_none, enterF_succ, aLoad_eq, aPlace_ptr, Int.reduceNeg, Nat.reduceEqDiff, List.map_cons, List.map_nil, if_true, if_false, lt_32, lt_58, X3', x0, lx0, u4, r0, lr0, litVV]
  obtain ⟨h4, hh4⟩ : ∃ x, x = H3.push (.cells (encX (vLess a) ++ encX (vLess a)) 58 none) := ⟨_, rfl⟩
  have k4 : Keep H3 h4 none_ := by rw [hh4]; exact Keep.push _ _ _
  have n4 : h4.n = H3.n + 1 := by rw [hh4]; rfl
  have hB4 : h4.get H3.n = .cells ([vLess a, vLess a].flatMap encX) 58 none := by rw [hh4, get_push_new]; simp
  rw [← hh4]
  clear hh4
  have ch2 := chainOwn [vLess a, vLess a] (by simp) r H3 h4 gH3 k4 H3.n (by omega) (by omega) hB4
  rw [chainLess2] at ch2
  obtain ⟨Z, hZ⟩ : ∃ Z : List Rec, Z = if r.v < a then [r] else [] := ⟨_, rfl⟩
  rw [← hZ] at ch2
  refine callI_of cal33 ch2 (fun q H4 ⟨e1, kH4, _⟩ => ?_)
  subst e1
  have X4' : H4.get (H2.n + 1) = .cells (encX (vLess a)) 58 none := (kH4.get _ hlt3 (fun q => q)).trans X3'
  have g34 : H4.get h.n = .cells (recE r) 32 none := (kH4.get _ (by omega) (fun q => q)).trans g33
  have gH4 : KG H4 := gH3.keep kH4
  have kn4 := kH4.n
  have u5 : ∀ A, (H4.push A).get h.n = .cells (recE r) 32 none := fun A => ((Keep.push _ _ none_).get _ (by omega) (fun q => q)).trans g34
  obtain ⟨p2, hp2⟩ : ∃ p, p = V.imm Z.length (Z.flatMap recE) := ⟨_, rfl⟩
  simp only [chV, ← hp2]
  simp only [wpA_region, wpA_seq, seqQ_normal, goI_out, goI_ops, opsA_nil, opsA_cons, stepA_move, stepA_assign, stepA_buildSlice, stepA_load, stepA_extract, stepA_call, thenV_some, thenH_some, extV_zero, extV_succ, eval_tmp, put_some, put_none, enterF_succ, aLoad_eq, aPlace_ptr, Int.reduceNeg, Nat.reduceEqDiff, List.map_cons, List.map_nil, if_true, if_false, lt_32, lt_58, X4', x0, lx0, u5, r0, lr0, litVU]
  obtain ⟨h5, hh5⟩ : ∃ x, x = H4.push (.cells (encX (vLess a)) 58 none) := ⟨_, rfl⟩
  have k5 : Keep H4 h5 none_ := by rw [hh5]; exact Keep.push _ _ _
  have n5 : h5.n = H4.n + 1 := by rw [hh5]; rfl
  have hB5 : h5.get H4.n = .cells ([vLess a].flatMap encX) 58 none := by rw [hh5, get_push_new]; simp
  rw [← hh5]
  clear hh5
  have ch3 := chainOwn [vLess a] (by simp) r H4 h5 gH4 k5 H4.n (by omega) (by omega) hB5
  rw [chainLess, ← hZ] at ch3
  refine callI_of cal33 ch3 (fun q H5 ⟨e1, kH5, _⟩ => ?_)
  subst e1
  have g35 : H5.get h.n = .cells (recE r) 32 none := (kH5.get _ (by omega) (fun q => q)).trans g34
  have hl1 : ∀ h, aLen Tryd.prog 59 p1 h = some (.int .i64 1) := fun h => by rw [hp1]; rfl
  have hl2 : ∀ h, aLen Tryd.prog 59 p2 h = some (.int .i64 (Z.length : Nat)) := fun h => by rw [hp2]; rfl
  simp only [chV, ← hp2]
  simp only [wpA_skip, wpA_region, wpA_seq, wpA_cond, wpA_draw, condI_false, seqQ_normal, goI_out, goI_ops, opsA_nil, opsA_cons, opsA_guardS, gvI_same, slotAt_zero, slotAt_succ, stepA_move, stepA_assign, stepA_pick, stepA_binOp, stepA_extract, stepA_len, thenV_some, pickV_false, extV_zero, extV_succ, eval_tmp, eval_const, put_some, put_none, enterF_succ, aBin_neq, absV_int, absV_bool, bne_self_eq_false, Int.reduceNeg, Nat.reduceEqDiff, if_true, if_false, hl1]
  refine SWp.drawnI [] (by kernel_rfl) (by kernel_rfl) (by kernel_rfl) ?_
  have ix0 : aIndexAddr Tryd.prog 59 p1 (.int .i64 0) = some (.at [.int .i64 x.k, .int .i64 x.v, .int .i64 x.t]) := by rw [hp1]; rfl
  have cE : (x.v == IntKind.i64.wrap (IntKind.i64.wrap (r.v + a) * b)) = true := by rw [hxv]; simp [w64]
  have cZ : (((Z.length : Nat) : Int) == 1) = decide (r.v < a) := by
    rw [hZ]
    by_cases c : r.v < a <;> simp [c]
  simp only [gI_cons, goI_rest, ggI_true, wantedA_none, wantedA_some, wantS_some, wantV_tt, idleOp, Bool.or_false, List.contains_nil, slotAt_zero, slotAt_succ, stepA_move, stepA_pick, stepA_load, stepA_binOp, stepA_fieldAddr, stepA_indexAddr, thenV_some, pickV_true, eval_tmp, eval_const, put_some, put_none, enterF_zero, enterF_succ, aBin_add, aBin_mul, aBin_eql, absV_int, absV_bool, aField_eq, fieldGo_ptr, fieldGo_at, aLoad_eq, loadGo_one, aPlace_ptr, aPlace_at, Int.reduceNeg, Nat.reduceEqDiff, Nat.reduceAdd, Nat.reduceLeDiff, reduceCtorEq, Nat.zero_add, List.length_cons, List.length_nil, List.drop_zero, List.drop_succ_cons, if_true, if_false, ft_32_1, lt_2, ix0, g35, r1, cE]
  have hZl : Z.length ≤ 2 ^ 61 := by
    rw [hZ]
    by_cases c : r.v < a <;> simp [c]
  have pr : Pure Tryd.prog 35 [p2, p2] H5 (.bool true) := by
    have := pRecsEq Z Z H5 hZl
    rw [decide_eq_true rfl] at this
    rw [hp2]; exact this
  refine gI_pure rfl rfl rfl pr ?_
  simp only [gI_nil, gI_cons, goI_rest, ggI_true, wantedA_none, wantedA_some, wantS_some, wantV_tt, idleOp, Bool.or_false, List.contains_nil, beq_self_eq_true, wpA_ret, seqQ_normal, endI_mk, goI_out, slotAt_zero, slotAt_succ, stepA_move, stepA_assign, stepA_pick, stepA_load, stepA_binOp, stepA_fieldAddr, stepA_len, thenV_some, pickV_true, eval_tmp, eval_const, put_some, put_none, enterF_zero, enterF_succ, aBin_eql, aBin_lss, aBin_bool_eql, absV_int, absV_bool, aField_eq, fieldGo_ptr, aLoad_eq, loadGo_one, aPlace_ptr, beq_self_eq_true, Int.reduceNeg, Nat.reduceEqDiff, Nat.reduceAdd, reduceCtorEq, Nat.zero_add, if_true, if_false, bt_4, ft_32_1, lt_2, hl2, g35, r1, cZ, retA_ret, Tryd.results12, resultsA_1]
  exact hid_mk rfl
end Go.Proofs.YtpobgoeeljknpaaDoor.Pk
