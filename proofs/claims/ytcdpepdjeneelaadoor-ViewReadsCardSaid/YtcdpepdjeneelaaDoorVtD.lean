/-
  What functions of the program do, told of abstract states. Conditions: as each theorem says.
-/
import Derived.Test.YtcdpepdjeneelaaDoorVtC
import Derived.Test.YtcdpepdjeneelaaDoorVsH
namespace Go.Proofs.YtcdpepdjeneelaaDoor.Pk
open Go Go.Proofs Go.Proofs.YtcdpepdjeneelaaDoor.Ab Go.Proofs.Vw
set_option linter.unusedVariables false
set_option linter.unusedSimpArgs false
def logAt (l : List (Int × List LR)) (n : Int) : List LR := ((l.find? fun c => c.1 == n).map (·.2)).getD []
def taskAt (l : List TV) (n : Int) : TV := (l.find? fun c => c.t == n).getD ⟨n, 0, 0, [], [], 0⟩
theorem ixOf_find {α : Type} {p : α → Bool} {l : List α} : (ixOf p l = -1 ∧ l.find? p = none) ∨ ∃ k, ∃ hk : k < l.length, ixOf p l = (k : Int) ∧ l.find? p = some l[k] := by
  by_cases h : l.findIdx p < l.length
  · refine .inr ⟨_, h, by unfold ixOf; rw [if_pos h], ?_⟩
    rw [List.find?_eq_some_iff_getElem]
    exact ⟨List.findIdx_getElem, _, h, rfl, fun j hj => by have := List.not_of_lt_findIdx hj; simpa using this⟩
  · refine .inl ⟨by unfold ixOf; rw [if_neg h], ?_⟩
    rw [List.findIdx_lt_length] at h
    rw [List.find?_eq_none]
    exact fun x hx hh => h ⟨x, hx, hh⟩
def TdOk (t : TD) : Prop := t.logs.length ≤ 2 ^ 30 ∧ t.tasks.length ≤ 2 ^ 30 ∧ (∀ p ∈ t.logs, p.2.length ≤ 2 ^ 30) ∧ ∀ x ∈ t.tasks, x.offs.length ≤ 2 ^ 30 ∧ x.ord.length ≤ 2 ^ 30
set_option maxHeartbeats 2000000 in
set_option maxRecDepth 20000 in
theorem pViewLog (t : TD) (ht : TdOk t) (n : Int) (h : AHeap) : Pure Tryd.prog 16 [.agg (tdC t), .int .i64 n] h (.agg (logC (n, logAt t.logs n))) := by
  refine Pure.of (Clo.agg (logC_clo _)) ?_
  refine SCalls.enterI (c := _) Tryd.func16 rfl (by kernel_rfl) (by simp) ?_
  have cT : (V.agg (tdC t)).cells = some (tdC t) := rfl
  obtain ⟨H, hH⟩ : ∃ y, y = (((h.push (.cells (tdC t) 29 none)).push (.cells [.int .i64 n] 3 none)).push (.cells [.int .i64 0, .snil, .snil] 36 none)).push (.cells [.int .i64 n, .snil, .snil] 36 none) := ⟨_, rfl⟩
  have kH : Keep h H none_ := by rw [hH]; exact (((Keep.push _ _ _).trans' (Keep.push _ _ _)).trans' (Keep.push _ _ _)).trans' (Keep.push _ _ _)
  have nH : H.n = h.n + 4 := by rw [hH]; simp only [push_n]
  have g0 : H.get h.n = .cells (tdC t) 29 none := by rw [hH, get_push_lt (by simp only [push_n]; omega), get_push_lt (by simp only [push_n]; omega), get_push_lt (by simp only [push_n]; omega)]; exact get_push_new
  have g1 : H.get (h.n + 1) = .cells [.int .i64 n] 3 none := by rw [hH]; simp [AHeap.push]
  have g2 : H.get (h.n + 2) = .cells [.int .i64 0, .snil, .snil] 36 none := by rw [hH]; simp [AHeap.push]
  have g3 : H.get (h.n + 3) = .cells [.int .i64 n, .snil, .snil] 36 none := by rw [hH]; simp [AHeap.push]
  have st : setC (some 3) (AObj.cells [V.int .i64 0, .snil, .snil] 36 none) 0 [.int .i64 n, .snil, .snil] = some (.cells [.int .i64 n, .snil, .snil] 36 none) := rfl
  have d0 : dropC (AObj.cells (tdC t) 29 none) 0 = some (tdC t) := rfl
  have l0 : loadGo (some none) (some (tdC t)) = some (.imm t.logs.length (t.logs.flatMap logC)) := rfl
  simp only [wpA_region, wpA_seq, seqQ_normal, goI_out, goI_ops, opsA_nil, opsA_cons, stepA_alloc, stepA_box, stepA_build, stepA_load, stepA_store, stepA_fieldAddr, thenV_some, thenH_some, thenS_some, eval_tmp, put_some, put_none, enterF_zero, enterF_succ, cells_int, cells_agg, aField_eq, fieldGo_ptr, aLoad_eq, loadGo_one, aPlace_ptr, dropC_cells, aStore_eq, storeGo_ptr, setAll_nil, setAll_cons, aAlloc_eq, aBox_eq, aBuild_go, aFill_nil, aFill_cons, fillGo_some, buildGo_struct, push_n, get_push3b, get_push4a, get_push4d, set_push4d, List.getElem?_cons_zero, Nat.reduceEqDiff, Nat.reduceAdd, Nat.reduceLeDiff, List.map_cons, List.map_nil, Option.map_some, Nat.add_zero, Nat.zero_add, Nat.zero_le, List.length_cons, List.length_nil, List.drop_zero, List.set_cons_zero, and_self, if_true, if_false, ft_29_0, lt_26, lt_3, pl_36, zc_36, zt_36, cT, st]
  rw [← hH]
  clear hH
  simp only [goI_ops, opsA_cons, stepA_makeFunc, stepA_call, thenV_some, eval_tmp, put_some, put_none, enterF_succ, Nat.reduceEqDiff, List.map_cons, List.map_nil, if_true, if_false, l0]
  refine callI_pure cal28 (pIxL t.logs ht.1 n H (h.n + 1) (by omega) g1) ?_
  rcases ixOf_find (p := fun c : Int × List LR => c.1 == n) (l := t.logs) with ⟨e1, e2⟩ | ⟨k, hk, e1, e2⟩
  · have eL : logAt t.logs n = [] := by unfold logAt; rw [e2]; rfl
    have c1 : decide (-1 ≥ (0 : Int)) = false := rfl
    rw [eL]
    have st2 : setC (some 3) (AObj.cells [V.int .i64 0, .snil, .snil] 36 none) 0 [.int .i64 n, .snil, .snil] = some (.cells [.int .i64 n, .snil, .snil] 36 none) := rfl
    simp only [wpA_skip, wpA_region, wpA_seq, wpA_cond, wpA_ret, condI_false, seqQ_normal, endI_mk, goI_out, goI_ops, opsA_nil, opsA_cons, stepA_move, stepA_assign, stepA_load, stepA_store, stepA_binOp, thenV_some, thenS_some, eval_tmp, eval_const, put_some, put_none, enterF_succ, aBin_geq, absV_int, cells_agg, aLoad_eq, loadGo_row, aPlace_ptr, dropC_cells, aStore_eq, storeGo_ptr, get_set_same, Int.reduceLE, Int.reduceNeg, decide_false, Nat.reduceEqDiff, Nat.reduceAdd, Option.map_some, Nat.zero_add, Nat.zero_le, List.length_cons, List.length_nil, List.drop_zero, List.take_succ_cons, List.take_nil, if_true, if_false, Nat.le_refl, lt_36, zt_36, e1, g3, g2, st2, retA_ret, Tryd.results16, resultsC_1, resultA_cell]
    refine hid_mk ⟨_, aggC (CastL.cons (Cast.refl _ _) (CastL.cons (Cast.nil0 _) (CastL.cons (Cast.nil0 _) (CastL.refl _ _)))), kH.trans (Keep.set _ _ _) fun q hq hh => by omega⟩
  · have eL : logAt t.logs n = t.logs[k].2 := by unfold logAt; rw [e2]; rfl
    have hmem := ht.2.2.1 _ (List.getElem_mem hk)
    have hll := ht.1
    have x1 := lv_ix (kk := .i64) hk
    rw [eL]
    generalize t.logs[k] = c at *
    obtain ⟨cn, rs⟩ := c
    have hrl : rs.length ≤ 2 ^ 30 := hmem
    have ex : logC (cn, rs) = [.int .i64 cn, .imm rs.length (recL rs), .imm rs.length (delL rs)] := rfl
    rw [ex] at x1
    have c1 : decide ((k : Int) ≥ 0) = true := decide_eq_true (by omega)
    have st3 : setC (some 1) (AObj.cells [V.int .i64 n, .snil, .snil] 36 none) 1 [.imm rs.length (recL rs)] = some (.cells [.int .i64 n, .imm rs.length (recL rs), .snil] 36 none) := rfl
    have st4 : setC (some 1) (AObj.cells [V.int .i64 n, .imm rs.length (recL rs), .snil] 36 none) 2 [.imm rs.length (delL rs)] = some (.cells [.int .i64 n, .imm rs.length (recL rs), .imm rs.length (delL rs)] 36 none) := rfl
    simp only [wpA_region, wpA_seq, wpA_cond, condI_true, seqQ_normal, goI_out, goI_ops, opsA_nil, opsA_cons, stepA_move, stepA_assign, stepA_load, stepA_binOp, stepA_fieldAddr, stepA_indexAddr, stepA_call, thenV_some, eval_tmp, eval_const, put_some, put_none, enterF_succ, aBin_geq, absV_int, aField_eq, fieldGo_ptr, fieldGo_at, aLoad_eq, loadGo_one, aPlace_ptr, aPlace_at, Nat.reduceEqDiff, Nat.reduceLeDiff, List.map_cons, List.map_nil, Nat.add_zero, List.length_cons, List.drop_zero, List.drop_succ_cons, List.nil_append, List.cons_append, if_true, if_false, ft_29_0, ft_36_1, lt_26, lt_33, e1, c1, g0, d0, l0, x1]
    refine callI_pure cal30 (pCloneR rs (by omega) _) ?_
    obtain ⟨H2, hH2⟩ : ∃ y, y = H.set (h.n + 3) (.cells [.int .i64 n, .imm rs.length (recL rs), .snil] 36 none) := ⟨_, rfl⟩
    have k2 : Keep H H2 (· = h.n + 3) := by rw [hH2]; exact Keep.set _ _ _
    have g02 := (k2.get h.n (by omega) (by omega)).trans g0
    have g22 := (k2.get (h.n + 2) (by omega) (by omega)).trans g2
    have g32 : H2.get (h.n + 3) = .cells [.int .i64 n, .imm rs.length (recL rs), .snil] 36 none := by rw [hH2]; exact get_set_same
    simp only [wpA_region, seqQ_normal, goI_out, goI_ops, opsA_nil, opsA_cons, stepA_load, stepA_store, stepA_fieldAddr, thenV_some, thenS_some, eval_tmp, put_some, put_none, enterF_succ, cells_imm, aField_eq, fieldGo_ptr, aLoad_eq, aPlace_ptr, aStore_eq, storeGo_ptr, Nat.reduceEqDiff, Option.map_some, Nat.add_zero, Nat.zero_add, if_true, if_false, ft_29_0, ft_36_1, lt_26, zt_33, g3, st3]
    rw [← hH2]
    clear hH2
    simp only [goI_ops, opsA_cons, stepA_move, stepA_load, stepA_fieldAddr, stepA_indexAddr, stepA_call, thenV_some, eval_tmp, put_some, put_none, enterF_succ, aField_eq, fieldGo_at, aLoad_eq, loadGo_one, aPlace_at, Nat.reduceEqDiff, Nat.reduceLeDiff, List.map_cons, List.map_nil, List.length_cons, List.drop_zero, List.drop_succ_cons, List.nil_append, List.cons_append, if_true, if_false, ft_36_2, lt_34, g02, d0, l0, x1]
    refine callI_pure cal31 (pCloneB rs (by omega) _) ?_
    have k3 : ∀ o, Keep H2 (H2.set (h.n + 3) o) (· = h.n + 3) := fun o => Keep.set _ _ _
    have g23 : ∀ o, (H2.set (h.n + 3) o).get (h.n + 2) = .cells [.int .i64 0, .snil, .snil] 36 none := fun o => ((k3 o).get (h.n + 2) (by have := k2.n; omega) (by omega)).trans g22
    have st5 : setC (some 3) (AObj.cells [V.int .i64 0, .snil, .snil] 36 none) 0 [.int .i64 n, .imm rs.length (recL rs), .imm rs.length (delL rs)] = some (.cells [.int .i64 n, .imm rs.length (recL rs), .imm rs.length (delL rs)] 36 none) := rfl
    simp only [wpA_region, wpA_seq, wpA_ret, seqQ_normal, endI_mk, goI_out, goI_ops, opsA_nil, opsA_cons, stepA_load, stepA_store, stepA_fieldAddr, thenV_some, thenS_some, eval_tmp, put_some, put_none, enterF_succ, cells_imm, cells_agg, aField_eq, fieldGo_ptr, aLoad_eq, loadGo_row, aPlace_ptr, dropC_cells, aStore_eq, storeGo_ptr, get_set_same, Nat.reduceEqDiff, Nat.reduceAdd, Option.map_some, Nat.zero_add, Nat.zero_le, List.length_cons, List.length_nil, List.drop_zero, List.take_succ_cons, List.take_nil, if_true, if_false, Nat.le_refl, ft_36_2, lt_36, zt_34, zt_36, g32, st4, g23, st5, retA_ret, Tryd.results16, resultsC_1, resultA_cell]
    refine hid_mk ⟨_, Cast.refl _ _, ((kH.trans k2 fun q hq hh => by omega).trans (k3 _) fun q hq hh => by omega).trans (Keep.set _ _ _) fun q hq hh => by omega⟩
set_option maxHeartbeats 2000000 in
set_option maxRecDepth 20000 in
theorem pViewTask (t : TD) (ht : TdOk t) (n : Int) (h : AHeap) : Pure Tryd.prog 18 [.agg (tdC t), .int .i64 n] h (.agg (tvC (taskAt t.tasks n))) := by
  refine Pure.of (Clo.agg (tvC_clo _)) ?_
  refine SCalls.enterI (c := _) Tryd.func18 rfl (by kernel_rfl) (by simp) ?_
  have cT : (V.agg (tdC t)).cells = some (tdC t) := rfl
  obtain ⟨H, hH⟩ : ∃ y, y = ((h.push (.cells (tdC t) 29 none)).push (.cells [.int .i64 n] 3 none)).push (.cells [.int .i64 0, .int .i64 0, .int .i64 0, .snil, .snil, .int .i64 0] 41 none) := ⟨_, rfl⟩
  have kH : Keep h H none_ := by rw [hH]; exact ((Keep.push _ _ _).trans' (Keep.push _ _ _)).trans' (Keep.push _ _ _)
  have nH : H.n = h.n + 3 := by rw [hH]; simp only [push_n]
  have g0 : H.get h.n = .cells (tdC t) 29 none := by rw [hH, get_push_lt (by simp only [push_n]; omega), get_push_lt (by simp only [push_n]; omega)]; exact get_push_new
  have g1 : H.get (h.n + 1) = .cells [.int .i64 n] 3 none := by rw [hH]; simp [AHeap.push]
  have g2 : H.get (h.n + 2) = .cells [.int .i64 0, .int .i64 0, .int .i64 0, .snil, .snil, .int .i64 0] 41 none := by rw [hH]; simp [AHeap.push]
  have d0 : dropC (AObj.cells (tdC t) 29 none) 1 = some ((tdC t).drop 1) := rfl
  have l0 : loadGo (some none) (some ((tdC t).drop 1)) = some (.imm t.tasks.length (t.tasks.flatMap tvC)) := rfl
  simp only [wpA_region, wpA_seq, seqQ_normal, goI_out, goI_ops, opsA_nil, opsA_cons, stepA_alloc, stepA_box, stepA_load, stepA_fieldAddr, stepA_makeFunc, stepA_call, thenV_some, thenH_some, eval_tmp, put_some, enterF_zero, enterF_succ, cells_int, aField_eq, fieldGo_ptr, aLoad_eq, aPlace_ptr, aAlloc_eq, aBox_eq, push_n, get_push3a, Nat.reduceEqDiff, List.map_cons, List.map_nil, Option.map_some, Nat.zero_add, if_true, if_false, ft_29_1, lt_27, zc_41, cT, d0, l0]
  rw [← hH]
  clear hH
  refine callI_pure cal32 (pIxT t.tasks ht.2.1 n H (h.n + 1) (by omega) g1) ?_
  rcases ixOf_find (p := fun c : TV => c.t == n) (l := t.tasks) with ⟨e1, e2⟩ | ⟨k, hk, e1, e2⟩
  · have eL : taskAt t.tasks n = ⟨n, 0, 0, [], [], 0⟩ := by unfold taskAt; rw [e2]; rfl
    have c1 : decide (-1 < (0 : Int)) = true := rfl
    rw [eL]
    have st2 : setC (some 6) (AObj.cells [V.int .i64 0, .int .i64 0, .int .i64 0, .snil, .snil, .int .i64 0] 41 none) 0 [.int .i64 n, .int .i64 0, .int .i64 0, .snil, .snil, .int .i64 0] = some (.cells [.int .i64 n, .int .i64 0, .int .i64 0, .snil, .snil, .int .i64 0] 41 none) := rfl
    simp only [wpA_region, wpA_seq, wpA_cond, wpA_ret, condI_true, seqQ_normal, seqQ_ret, endI_mk, goI_out, goI_ops, opsA_nil, opsA_cons, stepA_move, stepA_assign, stepA_build, stepA_load, stepA_store, stepA_binOp, thenV_some, thenS_some, eval_tmp, eval_const, put_some, put_none, enterF_succ, aBin_lss, absV_int, cells_int, cells_agg, aLoad_eq, loadGo_one, loadGo_row, aPlace_ptr, dropC_cells, aStore_eq, storeGo_ptr, setAll_nil, setAll_cons, aBuild_go, aFill_nil, aFill_cons, fillGo_some, buildGo_struct, get_set_same, List.getElem?_cons_zero, Int.reduceLT, Int.reduceNeg, decide_true, Nat.reduceEqDiff, Nat.reduceAdd, Nat.reduceLeDiff, List.map_cons, List.map_nil, Option.map_some, Nat.zero_add, Nat.zero_le, List.length_cons, List.length_nil, List.drop_zero, List.take_succ_cons, List.take_nil, List.set_cons_zero, and_self, if_true, if_false, Nat.le_refl, lt_3, lt_41, pl_41, zc_41, zt_41, e1, g1, g2, st2, retA_ret, Tryd.results18, resultsC_1, resultA_cell]
    refine hid_mk ⟨_, aggC (CastL.cons (Cast.refl _ _) (CastL.cons (Cast.refl _ _) (CastL.cons (Cast.refl _ _) (CastL.cons (Cast.nil0 _) (CastL.cons (Cast.nil0 _) (CastL.refl _ _)))))), kH.trans (Keep.set _ _ _) fun q hq hh => by omega⟩
  · have eL : taskAt t.tasks n = t.tasks[k] := by unfold taskAt; rw [e2]; rfl
    have hmem := ht.2.2.2 _ (List.getElem_mem hk)
    have hll := ht.2.1
    have x1 := tv_ix (kk := .i64) hk
    rw [eL]
    generalize t.tasks[k] = c at *
    have c1 : decide ((k : Int) < 0) = false := decide_eq_false (by omega)
    have ld := tv_ld
    have hm1 := hmem.1
    have hm2 := hmem.2
    have cc : (V.agg (tvC c)).cells = some (tvC c) := rfl
    have st : setC (some 6) (AObj.cells [V.int .i64 0, .int .i64 0, .int .i64 0, .snil, .snil, .int .i64 0] 41 none) 0 (tvC c) = some (.cells (tvC c) 41 none) := rfl
    have d3 : dropC (AObj.cells (tvC c) 41 none) 3 = some ((tvC c).drop 3) := rfl
    have l3 : loadGo (some none) (some ((tvC c).drop 3)) = some (.imm c.offs.length (i64V c.offs)) := rfl
    simp only [wpA_skip, wpA_region, wpA_seq, wpA_cond, condI_false, seqQ_normal, goI_out, goI_ops, opsA_nil, opsA_cons, stepA_move, stepA_assign, stepA_alloc, stepA_load, stepA_store, stepA_binOp, stepA_fieldAddr, stepA_indexAddr, stepA_call, thenV_some, thenH_some, thenS_some, eval_tmp, eval_const, put_some, put_none, enterF_succ, aBin_lss, absV_int, aField_eq, fieldGo_ptr, aLoad_eq, aPlace_ptr, aPlace_at, aStore_eq, storeGo_ptr, aAlloc_eq, get_push_new, set_push, Nat.reduceEqDiff, List.map_cons, List.map_nil, Option.map_some, Nat.zero_add, if_true, if_false, ft_29_1, ft_41_3, lt_27, lt_39, lt_41, zc_41, zt_41, e1, c1, g0, d0, l0, x1, ld, cc, st, d3, l3]
    obtain ⟨H2, hH2⟩ : ∃ y, y = H.push (.cells (tvC c) 41 none) := ⟨_, rfl⟩
    have k2 : Keep H H2 none_ := by rw [hH2]; exact Keep.push _ _ _
    have n2 : H2.n = H.n + 1 := by rw [hH2]; rfl
    have gC : H2.get H.n = .cells (tvC c) 41 none := by rw [hH2]; exact get_push_new
    have g22 := (k2.get (h.n + 2) (by omega) (by simp [none_])).trans g2
    have d4 : dropC (AObj.cells (tvC c) 41 none) 4 = some ((tvC c).drop 4) := rfl
    have l4 : loadGo (some none) (some ((tvC c).drop 4)) = some (.imm c.ord.length (i64V c.ord)) := rfl
    have s3 : setC (some 1) (AObj.cells (tvC c) 41 none) 3 [.imm c.offs.length (i64V c.offs)] = some (.cells (tvC c) 41 none) := rfl
    have s4 : setC (some 1) (AObj.cells (tvC c) 41 none) 4 [.imm c.ord.length (i64V c.ord)] = some (.cells (tvC c) 41 none) := rfl
    have s6 : setC (some 6) (AObj.cells [V.int .i64 0, .int .i64 0, .int .i64 0, .snil, .snil, .int .i64 0] 41 none) 0 (tvC c) = some (.cells (tvC c) 41 none) := rfl
    have tk : (tvC c).take 6 = tvC c := rfl
    have ln := tvC_len c
    have dC : dropC (AObj.cells (tvC c) 41 none) 0 = some (tvC c) := rfl
    rw [← hH2]
    clear hH2
    refine callI_pure cal34 (pCloneI c.offs (by omega) _) ?_
    have kS : ∀ (hh : AHeap) o, Keep hh (hh.set H.n o) (· = H.n) := fun hh o => Keep.set _ _ _
    obtain ⟨H3, hH3⟩ : ∃ y, y = H2.set H.n (.cells (tvC c) 41 none) := ⟨_, rfl⟩
    have k3 : Keep H2 H3 (· = H.n) := by rw [hH3]; exact Keep.set _ _ _
    have n3 := k3.n
    have gC3 : H3.get H.n = .cells (tvC c) 41 none := by rw [hH3]; exact get_set_same
    have g23 := (k3.get (h.n + 2) (by omega) (by omega)).trans g22
    simp only [wpA_region, wpA_seq, seqQ_normal, goI_out, goI_ops, opsA_nil, opsA_cons, stepA_load, stepA_store, stepA_fieldAddr, stepA_call, thenV_some, thenS_some, eval_tmp, put_some, put_none, enterF_succ, cells_imm, aField_eq, fieldGo_ptr, aLoad_eq, aPlace_ptr, aStore_eq, storeGo_ptr, get_set_same, Nat.reduceEqDiff, List.map_cons, List.map_nil, Option.map_some, Nat.zero_add, if_true, if_false, ft_41_3, ft_41_4, lt_39, zt_39, gC, s3, d4, l4]
    rw [← hH3]
    clear hH3
    refine callI_pure cal34 (pCloneI c.ord (by omega) _) ?_
    obtain ⟨H4, hH4⟩ : ∃ y, y = H3.set H.n (.cells (tvC c) 41 none) := ⟨_, rfl⟩
    have k4 : Keep H3 H4 (· = H.n) := by rw [hH4]; exact Keep.set _ _ _
    have n4 := k4.n
    have gC4 : H4.get H.n = .cells (tvC c) 41 none := by rw [hH4]; exact get_set_same
    have g24 := (k4.get (h.n + 2) (by omega) (by omega)).trans g23
    simp only [wpA_region, wpA_seq, seqQ_normal, goI_out, goI_ops, opsA_nil, opsA_cons, stepA_load, stepA_store, stepA_fieldAddr, thenV_some, thenS_some, eval_tmp, put_some, put_none, enterF_succ, cells_imm, aField_eq, fieldGo_ptr, aLoad_eq, loadGo_row, aPlace_ptr, dropC_cells, aStore_eq, storeGo_ptr, get_set_same, Nat.reduceEqDiff, Option.map_some, Nat.zero_add, Nat.zero_le, List.drop_zero, if_true, if_false, ft_41_4, lt_41, zt_39, gC3, s4]
    rw [← hH4]
    clear hH4
    simp only [wpA_ret, seqQ_normal, endI_mk, goI_out, goI_ops, opsA_nil, opsA_cons, stepA_store, thenV_some, thenS_some, eval_tmp, put_some, put_none, enterF_succ, aLoad_eq, loadGo_row, aPlace_ptr, aStore_eq, storeGo_ptr, get_set_same, Nat.reduceEqDiff, Option.map_some, if_true, if_false, Nat.le_refl, lt_41, zt_41, g24, dC, tk, ln, cc, s6, retA_ret, Tryd.results18, resultsC_1, resultA_cell]
    refine hid_mk ⟨_, Cast.refl _ _, ?_⟩
    exact (((kH.trans' k2).trans k3 fun q hq hh => by omega).trans k4 fun q hq hh => by omega).trans (Keep.set _ _ _) fun q hq hh => by omega
end Go.Proofs.YtcdpepdjeneelaaDoor.Pk
