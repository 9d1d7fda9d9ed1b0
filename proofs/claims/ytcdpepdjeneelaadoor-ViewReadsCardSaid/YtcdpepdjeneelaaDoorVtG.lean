/-
  What functions of the program do, told of abstract states. Conditions: as each theorem says.
-/
import Derived.Test.YtcdpepdjeneelaaDoorVtF
namespace Go.Proofs.YtcdpepdjeneelaaDoor.Pk
open Go Go.Proofs Go.Proofs.YtcdpepdjeneelaaDoor.Ab Go.Proofs.Vw
set_option linter.unusedVariables false
set_option linter.unusedSimpArgs false
theorem tdOk_D : TdOk (toldOf [xD]) := ⟨by decide, by decide, by decide, by decide⟩
theorem tdOk_DC : TdOk (toldOf [xD, xC]) := ⟨by decide, by decide, by decide, by decide⟩
theorem tdOk_FDC : TdOk (toldOf [xF, xD, xC]) := ⟨by decide, by decide, by decide, by decide⟩
theorem stable1 {v : Nat} (h : MinAt [xD].length v (IsOpen (readV [xD]))) : v = 0 := by
  have := h.2.1 (xD, 0) ⟨1, ⟨0, 0, [], [], [(xD, 0)]⟩, rfl, by simp⟩
  simp only at this
  omega
set_option maxHeartbeats 4000000 in
set_option maxRecDepth 20000 in
theorem pShown (h : AHeap) (hu : KU h) : Pure Tryd.prog 9 [] h (.bool true) := by
  refine Pure.val (Clo.bool _) ?_
  refine SCalls.enterI (c := _) Tryd.func9 rfl (by kernel_rfl) (by simp) ?_
  obtain ⟨H, hH⟩ : ∃ y, y = ((h.push (.cells [V.int .i64 2, .int .i64 1, .int .i64 0, .int .i64 0, .int .i64 5, .int .i64 3, .int .i64 0, .int .i64 0, .bool false, .snil, .snil] 47 none)).push (.cells [V.int .i64 3, .int .i64 1, .int .i64 0, .int .i64 0, .int .i64 0, .int .i64 0, .int .i64 0, .int .i64 0, .bool false, .snil, .snil] 47 none)).push (.cells [V.int .i64 5, .int .i64 1, .int .i64 1, .int .i64 0, .int .i64 0, .int .i64 0, .int .i64 0, .int .i64 0, .bool false, .snil, .snil] 47 none) := ⟨_, rfl⟩
  have kH : Keep h H none_ := by rw [hH]; exact ((Keep.push _ _ _).trans' (Keep.push _ _ _)).trans' (Keep.push _ _ _)
  have nH : H.n = h.n + 3 := by rw [hH]; simp only [push_n]
  have g0 : H.get h.n = .cells [V.int .i64 2, .int .i64 1, .int .i64 0, .int .i64 0, .int .i64 5, .int .i64 3, .int .i64 0, .int .i64 0, .bool false, .snil, .snil] 47 none := by rw [hH, get_push_lt (by simp only [push_n]; omega), get_push_lt (by simp only [push_n]; omega)]; exact get_push_new
  have g1 : H.get (h.n + 1) = .cells [V.int .i64 3, .int .i64 1, .int .i64 0, .int .i64 0, .int .i64 0, .int .i64 0, .int .i64 0, .int .i64 0, .bool false, .snil, .snil] 47 none := by rw [hH, get_push_lt (by simp only [push_n]; omega)]; exact get_push_new
  have g2 : H.get (h.n + 2) = .cells [V.int .i64 5, .int .i64 1, .int .i64 1, .int .i64 0, .int .i64 0, .int .i64 0, .int .i64 0, .int .i64 0, .bool false, .snil, .snil] 47 none := by rw [hH]; exact get_push_new
  have b1 : ∀ hh : AHeap, aBuildSlice Tryd.prog 22 1 [(0, .agg [V.int .i64 2, .int .i64 1, .int .i64 0, .int .i64 0, .int .i64 5, .int .i64 3, .int .i64 0, .int .i64 0, .bool false, .snil, .snil])] hh = some (.sl hh.n 0 1 1, hh.push (.cells ([xD].flatMap entS) 47 none)) := fun hh => litE1 hh xD
  have b2 : ∀ hh : AHeap, aBuildSlice Tryd.prog 22 2 [(0, .agg [V.int .i64 2, .int .i64 1, .int .i64 0, .int .i64 0, .int .i64 5, .int .i64 3, .int .i64 0, .int .i64 0, .bool false, .snil, .snil]), (1, .agg [V.int .i64 3, .int .i64 1, .int .i64 0, .int .i64 0, .int .i64 0, .int .i64 0, .int .i64 0, .int .i64 0, .bool false, .snil, .snil])] hh = some (.sl hh.n 0 2 2, hh.push (.cells ([xD, xC].flatMap entS) 47 none)) := fun hh => litE2 hh xD xC
  have b3 : ∀ hh : AHeap, aBuildSlice Tryd.prog 22 3 [(0, .agg [V.int .i64 5, .int .i64 1, .int .i64 1, .int .i64 0, .int .i64 0, .int .i64 0, .int .i64 0, .int .i64 0, .bool false, .snil, .snil]), (1, .agg [V.int .i64 2, .int .i64 1, .int .i64 0, .int .i64 0, .int .i64 5, .int .i64 3, .int .i64 0, .int .i64 0, .bool false, .snil, .snil]), (2, .agg [V.int .i64 3, .int .i64 1, .int .i64 0, .int .i64 0, .int .i64 0, .int .i64 0, .int .i64 0, .int .i64 0, .bool false, .snil, .snil])] hh = some (.sl hh.n 0 3 3, hh.push (.cells ([xF, xD, xC].flatMap entS) 47 none)) := fun hh => litE3 hh xF xD xC
  simp only [wpA_region, wpA_seq, seqQ_normal, goI_out, goI_ops, opsA_nil, opsA_cons, stepA_assign, stepA_alloc, stepA_build, stepA_buildSlice, stepA_load, stepA_store, stepA_call, thenV_some, thenH_some, thenS_some, eval_tmp, eval_const, put_some, put_none, absV_int, absV_bool, cells_int, cells_agg, one_int, one_bool, one_snil, all_nil, all_cons, aLoad_eq, loadGo_row, aPlace_ptr, dropC_cells, aStore_eq, storeGo_ptr, setC_row, setAll_nil, setAll_cons, aAlloc_eq, aBuild_go, aFill_nil, aFill_cons, fillGo_some, buildGo_struct, push_n, get_push_new, set_push, get_push2, set_push2, get_push3a, get_push3c, set_push3c, List.getElem?_cons_zero, List.getElem?_cons_succ, Nat.reduceEqDiff, Nat.reduceAdd, Nat.reduceLeDiff, reduceCtorEq, List.map_cons, List.map_nil, Option.map_some, Nat.zero_add, Nat.zero_le, List.length_cons, List.length_nil, List.drop_zero, List.take_succ_cons, List.take_nil, List.set_cons_zero, List.set_cons_succ, and_self, if_true, if_false, Bool.and_self, Nat.le_refl, lt_47, pl_45, pl_47, zc_45, zc_47, zt_47, b1]
  rw [← hH]
  clear hH
  refine callI_of cal12 (readLit [xD] (by simp [bare, xD]) (by decide) H (by unfold KU; rw [kH.glob]; exact hu) (by omega)) fun r h1 ⟨er, k1⟩ => ?_
  subst er
  have n1 := k1.n
  have t1 := told1
  have cT : ∀ t : TD, (V.agg (tdC t)).cells = some (tdC t) := fun _ => rfl
  have sT : ∀ t : TD, setC (some 3) (AObj.cells [V.snil, .snil, .int .i64 0] 29 none) 0 (tdC t) = some (.cells (tdC t) 29 none) := fun _ => rfl
  have p0 := (k1.get h.n (by omega) (by simp [none_])).trans g0
  have p1 := (k1.get (h.n + 1) (by omega) (by simp [none_])).trans g1
  have p2 := (k1.get (h.n + 2) (by omega) (by simp [none_])).trans g2
  obtain ⟨H1, hH1⟩ : ∃ y, y = h1.push (.cells (tdC (toldOf [xD])) 29 none) := ⟨_, rfl⟩
  have kH1 : Keep h1 H1 none_ := by rw [hH1]; exact Keep.push _ _ _
  have nH1 : H1.n = h1.n + 1 := by rw [hH1]; rfl
  have q4 : H1.get h1.n = .cells (tdC (toldOf [xD])) 29 none := by rw [hH1]; exact get_push_new
  have q0 := (kH1.get h.n (by omega) (by simp [none_])).trans p0
  have q1 := (kH1.get (h.n + 1) (by omega) (by simp [none_])).trans p1
  have q2 := (kH1.get (h.n + 2) (by omega) (by simp [none_])).trans p2
  simp only [wpA_region, wpA_seq, seqQ_normal, goI_out, goI_ops, opsA_nil, opsA_cons, stepA_alloc, stepA_load, stepA_store, thenH_some, thenS_some, eval_tmp, put_some, put_none, aLoad_eq, aPlace_ptr, aStore_eq, storeGo_ptr, aAlloc_eq, get_push_new, set_push, Nat.reduceEqDiff, reduceCtorEq, Option.map_some, if_true, if_false, lt_47, zc_29, zt_29, cT, sT]
  rw [← hH1]
  clear hH1
  simp only [goI_ops, opsA_cons, stepA_buildSlice, stepA_load, stepA_call, thenV_some, thenH_some, eval_tmp, put_some, put_none, aLoad_eq, loadGo_row, aPlace_ptr, dropC_cells, Nat.reduceEqDiff, Nat.reduceAdd, reduceCtorEq, List.map_cons, List.map_nil, Nat.zero_add, Nat.zero_le, List.length_cons, List.length_nil, List.drop_zero, List.take_succ_cons, List.take_nil, if_true, if_false, Nat.le_refl, lt_47, q0, q1, b2]
  have kA : Keep h H1 none_ := (kH.trans' k1).trans' kH1
  refine callI_of cal12 (readLit [xD, xC] (by simp [bare, xD, xC]) (by decide) H1 (by unfold KU; rw [kA.glob]; exact hu) (by omega)) fun r h2 ⟨er, k2⟩ => ?_
  subst er
  have n2 := k2.n
  obtain ⟨H2, hH2⟩ : ∃ y, y = h2.push (.cells (tdC (toldOf [xD, xC])) 29 none) := ⟨_, rfl⟩
  have kH2 : Keep h2 H2 none_ := by rw [hH2]; exact Keep.push _ _ _
  have kk2 := k2.trans' kH2
  have nH2 : H2.n = h2.n + 1 := by rw [hH2]; rfl
  have r5 : H2.get h2.n = .cells (tdC (toldOf [xD, xC])) 29 none := by rw [hH2]; exact get_push_new
  have r4 := (kk2.get h1.n (by omega) (by simp [none_])).trans q4
  have r0 := (kk2.get h.n (by omega) (by simp [none_])).trans q0
  have r1 := (kk2.get (h.n + 1) (by omega) (by simp [none_])).trans q1
  have r2 := (kk2.get (h.n + 2) (by omega) (by simp [none_])).trans q2
  simp only [wpA_region, wpA_seq, seqQ_normal, goI_out, goI_ops, opsA_nil, opsA_cons, stepA_alloc, stepA_load, stepA_store, thenH_some, thenS_some, eval_tmp, put_some, put_none, aLoad_eq, aPlace_ptr, aStore_eq, storeGo_ptr, aAlloc_eq, get_push_new, set_push, Nat.reduceEqDiff, reduceCtorEq, Option.map_some, if_true, if_false, lt_47, zc_29, zt_29, cT, sT]
  rw [← hH2]
  clear hH2
  simp only [goI_ops, opsA_cons, stepA_buildSlice, stepA_load, stepA_call, thenV_some, thenH_some, eval_tmp, put_some, put_none, aLoad_eq, loadGo_row, aPlace_ptr, dropC_cells, Nat.reduceEqDiff, Nat.reduceAdd, reduceCtorEq, List.map_cons, List.map_nil, Nat.zero_add, Nat.zero_le, List.length_cons, List.length_nil, List.drop_zero, List.take_succ_cons, List.take_nil, if_true, if_false, Nat.le_refl, lt_47, r0, r1, r2, b3]
  have kB : Keep h H2 none_ := kA.trans' kk2
  refine callI_of cal12 (readLit [xF, xD, xC] (by simp [bare, xD, xC, xF]) (by decide) H2 (by unfold KU; rw [kB.glob]; exact hu) (by omega)) fun r h3 ⟨er, k3⟩ => ?_
  subst er
  have n3 := k3.n
  obtain ⟨H3, hH3⟩ : ∃ y, y = h3.push (.cells (tdC (toldOf [xF, xD, xC])) 29 none) := ⟨_, rfl⟩
  have kH3 : Keep h3 H3 none_ := by rw [hH3]; exact Keep.push _ _ _
  have kk3 := k3.trans' kH3
  have nH3 : H3.n = h3.n + 1 := by rw [hH3]; rfl
  have s6 : H3.get h3.n = .cells (tdC (toldOf [xF, xD, xC])) 29 none := by rw [hH3]; exact get_push_new
  have s5 := (kk3.get h2.n (by omega) (by simp [none_])).trans r5
  have s4 := (kk3.get h1.n (by omega) (by simp [none_])).trans r4
  have s0 := (kk3.get h.n (by omega) (by simp [none_])).trans r0
  simp only [wpA_region, wpA_seq, seqQ_normal, goI_out, goI_ops, opsA_nil, opsA_cons, stepA_alloc, stepA_load, stepA_store, thenH_some, thenS_some, eval_tmp, put_some, put_none, aLoad_eq, aPlace_ptr, aStore_eq, storeGo_ptr, aAlloc_eq, get_push_new, set_push, Nat.reduceEqDiff, reduceCtorEq, Option.map_some, if_true, if_false, lt_47, zc_29, zt_29, cT, sT]
  rw [← hH3]
  clear hH3
  simp only [goI_ops, opsA_cons, stepA_buildSlice, stepA_call, thenV_some, thenH_some, eval_tmp, put_some, put_none, loadGo_row, dropC_cells, Nat.reduceEqDiff, Nat.reduceAdd, reduceCtorEq, List.map_cons, List.map_nil, Nat.zero_add, Nat.zero_le, List.length_cons, List.length_nil, List.drop_zero, List.take_succ_cons, List.take_nil, if_true, if_false, Nat.le_refl, s0, b1]
  have kC : Keep h H3 none_ := kB.trans' kk3
  refine callI_of cal14 (stableLit [xD] (by simp [bare, xD]) (by decide) H3 (by unfold KU; rw [kC.glob]; exact hu) (by omega)) fun r h4 ⟨⟨v, er, hv⟩, k4⟩ => ?_
  subst er
  obtain rfl := stable1 hv
  have u6 := (k4.get h3.n (by omega) (by simp [none_])).trans s6
  have u5 := (k4.get h2.n (by omega) (by simp [none_])).trans s5
  have u4 := (k4.get h1.n (by omega) (by simp [none_])).trans s4
  have x1 : tdC (toldOf [xD]) = [.imm 0 [], .imm 1 (tvC ⟨1, 0, 0, [], [], 1⟩), .int .i64 1] := rfl
  have x2 : ∃ y, tdC (toldOf [xD, xC]) = [.imm 1 (logC (5, [(⟨3, 0, 0⟩, false)])), y, .int .i64 2] := ⟨_, rfl⟩
  have x3 : ∃ y, tdC (toldOf [xF, xD, xC]) = [.imm 0 [], y, .int .i64 3] := ⟨_, rfl⟩
  have e1 : (((1 : Nat) : Int) == 1) = true := rfl
  have e0 : (((0 : Nat) : Int) == 0) = true := rfl
  have tk : ∀ t : TD, (tdC t).take 3 = tdC t := fun _ => rfl
  have tl : ∀ t : TD, (tdC t).length = 3 := fun _ => rfl
  have d0 : ∀ t : TD, dropC (AObj.cells (tdC t) 29 none) 0 = some (tdC t) := fun _ => rfl
  have l1 : loadGo (some none) (some (tdC (toldOf [xD]))) = some (.imm 0 []) := rfl
  have l2 : loadGo (some none) (some (tdC (toldOf [xD, xC]))) = some (.imm 1 (logC (5, [(⟨3, 0, 0⟩, false)]))) := rfl
  have l3 : loadGo (some none) (some (tdC (toldOf [xF, xD, xC]))) = some (.imm 0 []) := rfl
  simp only [goI_ops, opsA_cons, opsA_guardS, gvI_same, slotAt_zero, slotAt_succ, stepA_move, stepA_pick, stepA_load, stepA_binOp, stepA_fieldAddr, stepA_len, stepA_call, thenV_some, pickV_true, eval_tmp, eval_const, put_some, put_none, aBin_eql, absV_int, absV_bool, aField_eq, fieldGo_ptr, aLoad_eq, loadGo_row, aPlace_ptr, aLen_imm, Nat.reduceEqDiff, reduceCtorEq, List.map_cons, List.map_nil, Nat.add_zero, if_true, if_false, Nat.le_refl, ft_29_0, kt_26, lt_26, lt_29, u4, u5, d0, l1, l2, tk, tl, e0, e1]
  refine callI_pure cal16 (pViewLog (toldOf [xD, xC]) tdOk_DC 5 _) ?_
  have pt : logC (5, logAt (toldOf [xD, xC]).logs 5) = [.int .i64 5, .imm 1 (recL [(⟨3, 0, 0⟩, false)]), .imm 1 (delL [(⟨3, 0, 0⟩, false)])] := rfl
  simp only [goI_ops, opsA_cons, opsA_guardS, gvI_same, slotAt_zero, slotAt_succ, stepA_move, stepA_pick, stepA_load, stepA_binOp, stepA_fieldAddr, stepA_field, stepA_len, stepA_call, thenV_some, pickV_true, eval_tmp, eval_const, put_some, put_none, aBin_eql, absV_int, absV_bool, aField_eq, fieldGo_ptr, aLoad_eq, loadGo_row, aPlace_ptr, aLen_imm, aFieldOf_eq, partGo_one, List.getElem?_cons_zero, List.getElem?_cons_succ, Nat.reduceEqDiff, reduceCtorEq, List.map_cons, List.map_nil, Nat.add_zero, if_true, if_false, Nat.le_refl, ft_29_0, kt_26, kt_33, lt_26, lt_29, pt_36_1, u6, d0, l3, tk, tl, e0, e1, pt]
  refine callI_pure cal18 (pViewTask (toldOf [xF, xD, xC]) tdOk_FDC 1 _) ?_
  have pu : tvC (taskAt (toldOf [xF, xD, xC]).tasks 1) = [.int .i64 1, .int .i64 1, .int .i64 0, .imm 0 [], .imm 0 [], .int .i64 0] := rfl
  simp only [wpA_ret, seqQ_normal, endI_mk, goI_out, goI_ops, opsA_nil, opsA_cons, opsA_guardS, gvI_same, slotAt_zero, slotAt_succ, stepA_assign, stepA_pick, stepA_binOp, stepA_field, thenV_some, pickV_true, eval_tmp, eval_const, put_some, put_none, aBin_eql, absV_int, absV_bool, aFieldOf_eq, partGo_one, List.getElem?_cons_zero, List.getElem?_cons_succ, beq_self_eq_true, Nat.reduceEqDiff, reduceCtorEq, if_true, if_false, pt_41_1, pu, retA_ret, Tryd.results9, resultsA_1]
  exact hid_mk ⟨rfl, kC.trans' k4⟩
end Go.Proofs.YtcdpepdjeneelaaDoor.Pk
