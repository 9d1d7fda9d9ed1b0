/-
  What functions of the program do, told of abstract states. Conditions: as each theorem says.
-/
import Derived.Test.YtpjfhfmbhjghcaaGreatDoorKvD
namespace Go.Proofs.YtpjfhfmbhjghcaaGreatDoor.Pk
open Go Go.Proofs Go.Proofs.YtpjfhfmbhjghcaaGreatDoor.Ab
set_option linter.unusedVariables false
set_option linter.unusedSimpArgs false

def zC : Chg := ⟨0, 0, 0, 0, false⟩
/-- Is there no room for a key? -/
def full (room : Int) (l : List Pr) (k : Int) : Bool := !has l k && decide (room ≤ (l.length : Int))
def putL (room : Int) (l : List Pr) (k v : Int) : List Pr := if full room l k then l else put l k v
def putX (room : Int) (l : List Pr) (k v : Int) : Chg := if full room l k then zC else ⟨k, 0, 0, v, false⟩
def putE (room : Int) (l : List Pr) (k : Int) : Int := if full room l k then 3 else 0
theorem full_has {room : Int} {l : List Pr} {k : Int} (h : has l k = true) : full room l k = false := by simp [full, h]
theorem full_no {room : Int} {l : List Pr} {k : Int} (h : has l k = false) : full room l k = decide (room ≤ (l.length : Int)) := by simp [full, h]
/-- What a store's call touches. -/
def kvO (i : Nat) (v : V) : Nat → Prop := fun q => q = i ∨ isId v q
theorem lit1p (h : AHeap) (p : Pr) : aBuildSlice Tryz.prog 193 1 [(0, .agg (prE p))] h = some (.sl h.n 0 1 1, h.push (.cells (prE p) 223 none)) := slice1 sl_193 rfl rfl (by decide)
set_option maxHeartbeats 2000000 in
set_option maxRecDepth 10000 in
theorem kvPut (h : AHeap) (i : Nat) (v : V) (room key val : Int) (l : List Pr) (k : IsKv h i v room l) :
    SCalls Tryz.prog 83 [.ptr i 0, .int .i64 key, .int .i64 val] h (fun r h' => ∃ v', r = .tuple [.agg (chgE (putX room l key val)), .int .i64 (putE room l key)] ∧ IsKv h' i v' room (putL room l key val) ∧ Keep h h' (kvO i v) ∧ NewOr h v v') := by
  refine SCalls.enterI (c := _) Tryz.func83 rfl (by kernel_rfl) (by simp) ?_
  obtain ⟨H, hH⟩ : ∃ y, y = (h.push (.cells [.int .i64 0, .int .i64 0, .int .i64 0, .int .i64 0, .bool false] 40 none)).push (.cells [.int .i64 key, .int .i64 val] 223 none) := ⟨_, rfl⟩
  have g0 : H.get h.n = .cells [.int .i64 0, .int .i64 0, .int .i64 0, .int .i64 0, .bool false] 40 none := by rw [hH]; exact get_push2'
  have g1 : H.get (h.n + 1) = .cells [.int .i64 key, .int .i64 val] 223 none := by rw [hH]; exact get_push2
  have kH : Keep h H none_ := by rw [hH]; exact (Keep.push _ _ _).then_push _
  have nH : H.n = h.n + 2 := by rw [hH]; rfl
  have kk := k.keepN kH
  have hg := kk.get
  have hin := k.lt
  simp only [wpA_region, wpA_seq, seqQ_normal, goI_out, goI_ops, opsA_nil, opsA_cons, stepA_move, stepA_assign, stepA_alloc, stepA_build, stepA_store, stepA_call, thenV_some, thenH_some, thenS_some, eval_tmp, eval_const, put_some, put_none, enterF_zero, enterF_succ, absV_int, cells_int, cells_agg, one_int, all_nil, all_cons, aStore_eq, storeGo_ptr, setC_row, setAll_nil, setAll_cons, aAlloc_eq, aBuild_go, aFill_nil, aFill_cons, fillGo_some, buildGo_struct, push_n, get_push2, set_push2, List.getElem?_cons_zero, List.getElem?_cons_succ, Nat.reduceEqDiff, Nat.reduceAdd, Nat.reduceLeDiff, reduceCtorEq, List.map_cons, List.map_nil, Option.map_some, Nat.zero_add, List.length_cons, List.length_nil, List.set_cons_zero, List.set_cons_succ, and_self, if_true, if_false, Bool.and_self, Nat.le_refl, pl_223, zc_223, zc_40, zt_223]
  rw [← hH]
  clear hH
  refine callI_pure cal114 (pFind H i v room key l kk) ?_
  have hl := kk.alen (h' := H)
  rcases at_pos k.srt key with ⟨e1, p, e2, e3, e4⟩ | ⟨e1, e2, e3⟩
  · have hf := full_has (room := room) e1
    have c1 : putX room l key val = ⟨key, 0, 0, val, false⟩ := by simp [putX, hf]
    have c2 : putE room l key = 0 := by simp [putE, hf]
    have c3 : putL room l key val = l.set (pos l key) (key, val) := by rw [putL, hf]; exact put_has k.srt key val e1
    rw [c1, c2, c3]
    obtain ⟨j, r0, r1, x1, x2, x3, _, _, x4⟩ := kk.row e2
    have x1 := x1 .i64
    obtain ⟨ob, y1, y2, y3⟩ := x4 (key, val)
    unfold prE at y1
    have hij : j ≠ i := fun hh => kk.ne (by rw [x2, hh])
    have hjh : j < h.n := k.own.lt j x2
    have z0 : (H.set j ob).get h.n = _ := (get_set_ne (by omega)).trans g0
    have z1 : (H.set j ob).get (h.n + 1) = _ := (get_set_ne (by omega)).trans g1
    simp only [wpA_region, wpA_seq, wpA_cond, wpA_block, wpA_draw, condI_true, seqQ_normal, goI_out, goI_ops, opsA_nil, opsA_cons, stepA_move, stepA_assign, stepA_extract, thenV_some, extV_zero, extV_succ, eval_tmp, put_some, put_none, enterF_succ, Nat.reduceEqDiff, if_true, if_false, e1]
    refine SWp.drawnS none_ [7] (.q 0 (.q 1 (.q 2 (.q 3 (.q 4 (.q 5 (.q 6 (.a 7 .done)))))))) (by kernel_rfl) (by kernel_rfl) (by kernel_rfl) ?_
    simp only [siI_done, siI_q, siI_a, sqI_some, saI_some, mOk_none', implies_true, qI_nil, qI_cons, thenQ_some, q_move, q_load, q_nilCheck, q_fieldAddr, q_indexAddr, wpA_region, wpA_seq, seqQ_normal, blkQ_normal, goI_out, goI_ops, goI_mk, opsA_nil, opsA_cons, stepA_load, stepA_store, stepA_call, thenV_some, thenS_some, nilV_ptr, eval_tmp, put_some, put_none, enterF_zero, enterF_succ, cells_agg, aField_eq, fieldGo_ptr, aLoad_eq, loadGo_one, loadGo_row, aPlace_ptr, dropC_cells, aStore_eq, storeGo_ptr, List.getElem?_cons_zero, List.getElem?_cons_succ, Nat.reduceEqDiff, Nat.reduceAdd, Nat.reduceLeDiff, reduceCtorEq, List.map_cons, List.map_nil, Option.map_some, Nat.zero_add, Nat.zero_le, List.length_cons, List.length_nil, List.drop_zero, List.drop_succ_cons, List.take_succ_cons, List.take_nil, true_and, if_true, if_false, Nat.le_refl, ft_195_1, lt_193, lt_223, zt_223, g1, hg, x1, y1, z1]
    refine callI_pure cal119 (pChange (key, val) _) ?_
    have hcc : (V.agg (chgE ⟨key, 0, 0, val, false⟩)).cells = some [.int .i64 key, .int .i64 0, .int .i64 0, .int .i64 val, .bool false] := rfl
    simp only [wpA_ret, seqQ_normal, endI_mk, goI_out, goI_ops, opsA_nil, opsA_cons, stepA_assign, stepA_store, thenS_some, eval_tmp, eval_const, put_some, put_none, enterF_succ, absV_int, one_int, one_bool, all_nil, all_cons, aLoad_eq, loadGo_row, aPlace_ptr, dropC_cells, aStore_eq, storeGo_ptr, setC_row, setAll_nil, setAll_cons, get_set_same, Nat.reduceEqDiff, Nat.reduceAdd, Option.map_some, Nat.zero_add, Nat.zero_le, List.length_cons, List.length_nil, List.drop_zero, List.take_succ_cons, List.take_nil, List.set_cons_zero, List.set_cons_succ, if_true, if_false, Bool.and_self, Nat.le_refl, lt_40, zt_40, z0, hcc, retA_ret, Tryz.results83, resultsC_2, resultA_tmp, resultA_cell, res2_some]
    have kx : Keep (H.set j ob) ((H.set j ob).set h.n (.cells [.int .i64 key, .int .i64 0, .int .i64 0, .int .i64 val, .bool false] 40 none)) (fun q => q = h.n) := Keep.set _ _ _
    have kw : Keep H (H.set j ob) (fun q => q = j) := Keep.set _ _ _
    refine hid_mk ⟨v, rfl, ⟨by rw [set_n, set_n]; exact kk.lt, ?_, y2.keep kx fun q hq => by rw [x2] at hq; cases hq; omega, k.ne, ?_, by rw [List.length_set]; exact k.len, k.room⟩, ?_, .inl rfl⟩
    · rw [get_set_ne (by omega), get_set_ne (by omega)]; exact hg
    · rw [← put_has k.srt key val e1]; exact srt_put k.srt _ _
    · refine ((kH.up (o := kvO i v)).trans kw fun q hq hh => .inr ?_).trans kx fun q hq hh => by omega
      subst hh; exact x2
  · have hf := full_no (room := room) e1
    by_cases hfull : room ≤ (l.length : Int)
    · have hf : full room l key = true := by rw [hf]; exact decide_eq_true hfull
      have c1 : putX room l key val = zC := by simp [putX, hf]
      have c2 : putE room l key = 3 := by simp [putE, hf]
      have c3 : putL room l key val = l := by simp [putL, hf]
      rw [c1, c2, c3]
      have d1 : decide (room ≤ ((l.length : Nat) : Int)) = true := decide_eq_true hfull
      simp only [wpA_region, wpA_seq, wpA_cond, wpA_block, wpA_draw, condI_false, seqQ_normal, goI_out, goI_ops, opsA_nil, opsA_cons, stepA_move, stepA_assign, stepA_extract, thenV_some, extV_zero, extV_succ, eval_tmp, put_some, put_none, enterF_succ, Nat.reduceEqDiff, if_true, if_false, e1]
      refine SWp.drawnS none_ [] (.q 0 (.q 1 (.q 2 (.q 3 (.q 4 (.q 5 (.q 6 (.q 7 (.q 8 (.q 9 (.q 10 (.q 11 (.q 12 (.q 13 (.q 14 .done))))))))))))))) (by kernel_rfl) (by kernel_rfl) (by kernel_rfl) ?_
      simp only [siI_done, siI_q, sqI_some, mOk_none', implies_true, qI_nil, qI_cons, qI_guard, qgI_same, thenQ_some, q_move, q_assign, q_pick, q_load, q_nilCheck, q_binOp, q_fieldAddr, q_len, wpA_region, wpA_seq, wpA_cond, wpA_ret, condI_true, seqQ_normal, seqQ_ret, blkQ_ret, endI_mk, goI_out, goI_ops, goI_mk, opsA_nil, opsA_cons, slotAt_zero, slotAt_succ, stepA_assign, stepA_build, stepA_store, thenV_some, thenS_some, pickV_false, nilV_ptr, eval_tmp, eval_const, put_some, put_none, enterF_zero, enterF_succ, aBin_geq, ptr_nil_eql, absV_int, absV_bool, absV_pnil, cells_agg, one_int, one_bool, all_nil, all_cons, aField_eq, fieldGo_ptr, aLoad_eq, loadGo_one, loadGo_row, aPlace_ptr, dropC_cells, aStore_eq, storeGo_ptr, setC_row, setAll_nil, setAll_cons, aBuild_go, aFill_nil, buildGo_struct, get_set_same, List.getElem?_cons_zero, List.getElem?_cons_succ, Nat.reduceEqDiff, Nat.reduceAdd, Nat.reduceLeDiff, reduceCtorEq, List.map_nil, Option.map_some, Nat.add_zero, Nat.zero_add, Nat.zero_le, List.length_cons, List.length_nil, List.drop_zero, List.drop_succ_cons, List.take_succ_cons, List.take_nil, List.set_cons_zero, List.set_cons_succ, true_and, if_true, if_false, Bool.and_self, Nat.le_refl, ft_195_0, ft_195_1, kt_145, lt_193, lt_3, lt_40, pl_40, zc_40, zt_40, g0, hg, hl, d1, retA_ret, Tryz.results83, resultsC_2, resultA_tmp, resultA_cell, res2_some]
      have kx : Keep H (H.set h.n (.cells [.int .i64 0, .int .i64 0, .int .i64 0, .int .i64 0, .bool false] 40 none)) (fun q => q = h.n) := Keep.set _ _ _
      refine hid_mk ⟨v, rfl, kk.keep kx (by omega) fun q hq => by have := k.own.lt q hq; omega, ?_, .inl rfl⟩
      exact (kH.up (o := kvO i v)).trans kx fun q hq hh => by omega
    · have hf : full room l key = false := by rw [hf]; exact decide_eq_false hfull
      have c1 : putX room l key val = ⟨key, 0, 0, val, false⟩ := by simp [putX, hf]
      have c2 : putE room l key = 0 := by simp [putE, hf]
      have c3 : putL room l key val = put l key val := by simp [putL, hf]
      rw [c1, c2, c3]
      have d1 : decide (room ≤ ((l.length : Nat) : Int)) = false := decide_eq_false hfull
      simp only [wpA_region, wpA_seq, wpA_cond, wpA_block, wpA_draw, condI_false, seqQ_normal, goI_out, goI_ops, opsA_nil, opsA_cons, stepA_move, stepA_assign, stepA_extract, thenV_some, extV_zero, extV_succ, eval_tmp, put_some, put_none, enterF_succ, Nat.reduceEqDiff, if_true, if_false, e1]
      refine SWp.drawnS none_ [] (.q 0 (.q 1 (.q 2 (.q 3 (.q 4 (.q 5 (.q 6 (.q 7 (.q 8 (.q 9 (.q 10 (.q 11 (.q 12 (.q 13 (.q 14 .done))))))))))))))) (by kernel_rfl) (by kernel_rfl) (by kernel_rfl) ?_
      simp only [siI_done, siI_q, sqI_some, mOk_none', implies_true, qI_nil, qI_cons, qI_guard, qgI_same, thenQ_some, q_move, q_assign, q_pick, q_load, q_nilCheck, q_binOp, q_fieldAddr, q_len, wpA_cond, wpA_draw, condI_false, seqQ_normal, goI_out, goI_mk, slotAt_zero, slotAt_succ, pickV_false, nilV_ptr, eval_tmp, eval_const, put_some, put_none, enterF_zero, enterF_succ, aBin_geq, ptr_nil_eql, absV_bool, absV_pnil, aField_eq, fieldGo_ptr, aLoad_eq, loadGo_one, aPlace_ptr, dropC_cells, List.getElem?_cons_zero, List.getElem?_cons_succ, Nat.reduceEqDiff, Nat.reduceAdd, Nat.reduceLeDiff, reduceCtorEq, Nat.add_zero, Nat.zero_add, Nat.zero_le, List.length_cons, List.length_nil, List.drop_zero, List.drop_succ_cons, true_and, if_true, if_false, ft_195_0, ft_195_1, kt_145, lt_193, lt_3, hg, hl, d1]
      have f1 : isId v i = False := eq_false fun hh => k.ne hh
      have f2 : isId v (h.n + 1) = False := eq_false fun hh => by have := k.own.lt _ hh; omega
      obtain ⟨H2, hH2⟩ : ∃ y, y = H.push (.cells (prE (key, val)) 223 none) := ⟨_, rfl⟩
      have k2 : Keep H H2 none_ := by rw [hH2]; exact Keep.push _ _ _
      have n2 : H2.n = H.n + 1 := by rw [hH2]; rfl
      have q2 : H2.get H.n = .cells (prE (key, val)) 223 none := by rw [hH2]; exact get_push_new
      have kk2 := kk.keepN k2
      have hlit := lit1p H (key, val)
      rw [← hH2] at hlit
      unfold prE at hlit
      refine SWp.drawnS (fun x => isId v x) [7, 8, 11] (.q 0 (.q 1 (.q 2 (.q 3 (.q 4 (.q 5 (.q 6 (.e 7 (.e 8 (.q 9 (.q 10 (.a 11 .done))) .stop) .stop)))))))) (by kernel_rfl) (by kernel_rfl) (by kernel_rfl) ?_
      simp only [mOk_move, mOk_nilCheck, mOk_fieldAddr, mOk_load, mOkV_ptr, nne2, nne3, nne4, nne1', nne2', nne3', not_false_eq_true, siI_stop, siI_q, siI_e, sqI_some, seI_some, implies_true, qI_nil, qI_cons, thenQ_some, q_move, q_load, q_nilCheck, q_fieldAddr, goI_ops, goI_mk, opsA_nil, opsA_cons, stepA_buildSlice, stepA_call, thenH_some, nilV_ptr, eval_tmp, put_some, put_none, enterF_zero, enterF_succ, aField_eq, fieldGo_ptr, aLoad_eq, loadGo_one, loadGo_row, aPlace_ptr, dropC_cells, List.getElem?_cons_zero, List.getElem?_cons_succ, Nat.reduceEqDiff, Nat.reduceAdd, Nat.reduceLeDiff, reduceCtorEq, List.map_cons, List.map_nil, Nat.zero_add, Nat.zero_le, List.length_cons, List.length_nil, List.drop_zero, List.drop_succ_cons, List.take_succ_cons, List.take_nil, and_true, true_and, if_true, if_false, Nat.le_refl, ft_195_1, lt_193, lt_223, g1, hg, f1, f2, hlit]
      refine ⟨k2.up, ?_⟩
      refine callI_of cal118 (insertC v (pos l key) H.n (l.flatMap prE) (prE (key, val)) H2 kk2.own (by rw [k.rows]; have := k.len40; omega) (by rw [k.rows]; have := pos_le l key; omega) q2 (by omega) (fun hh => by have := k.own.lt _ hh; omega) rfl rfl (rows_one prE_one l)) fun r h3 ⟨o3, k3, d3⟩ => ?_
      have hrow : (l.flatMap prE).take (pos l key * 2) ++ prE (key, val) ++ (l.flatMap prE).drop (pos l key * 2) = (put l key val).flatMap prE := by
        rw [rows_take prE_len, rows_drop prE_len, put_new k.srt key val e1]; simp
      rw [hrow] at o3
      have gi3 := (k3.get i (by omega) (by rw [f1]; exact id)).trans kk2.get
      have g03 := (k3.get h.n (by omega) (fun hh => by have := k.own.lt _ hh; omega)).trans ((k2.get h.n (by omega) (by simp [none_])).trans g0)
      have g13 := (k3.get (h.n + 1) (by omega) (by rw [f2]; exact id)).trans ((k2.get (h.n + 1) (by omega) (by simp [none_])).trans g1)
      have one_r : r.one = true := by
        rcases o3 with ⟨rfl | rfl, _⟩ | ⟨_, _, _, _, _, rfl, _⟩ <;> rfl
      have cell_r : r.cells = some [r] := by
        rcases o3 with ⟨rfl | rfl, _⟩ | ⟨_, _, _, _, _, rfl, _⟩ <;> rfl
      have hset : setC (some 1) (AObj.cells [V.int .i64 room, v] 195 none) 1 [r] = some (.cells [.int .i64 room, r] 195 none) := by rw [setC_one one_r]; rfl
      have kH3 : Keep H h3 (fun x => isId v x) := (k2.up).trans' k3
      have n3 := k3.n
      simp only [mOk_nilCheck, mOk_fieldAddr, nne2, nne3, nne4, nne1', nne2', nne3', siI_done, siI_q, siI_a, sqI_some, saI_some, implies_true, qI_nil, qI_cons, thenQ_some, q_nilCheck, q_fieldAddr, wpA_region, wpA_seq, seqQ_normal, blkQ_normal, goI_out, goI_ops, goI_mk, opsA_nil, opsA_cons, stepA_load, stepA_store, thenS_some, nilV_ptr, eval_tmp, put_some, put_none, enterF_succ, aField_eq, fieldGo_ptr, aLoad_eq, aPlace_ptr, aStore_eq, storeGo_ptr, List.getElem?_cons_zero, List.getElem?_cons_succ, Bool.false_eq_true, Nat.reduceEqDiff, Option.map_some, Nat.zero_add, true_and, if_true, if_false, ft_195_1, lt_223, zt_193, gi3, cell_r, hset, kH3]
      obtain ⟨H4, hH4⟩ : ∃ y, y = h3.set i (.cells [V.int .i64 room, r] 195 none) := ⟨_, rfl⟩
      have k4 : Keep h3 H4 (fun q => q = i) := by rw [hH4]; exact Keep.set _ _ _
      have z0 : H4.get h.n = _ := (k4.get h.n (by omega) (by omega)).trans g03
      have z1 : H4.get (h.n + 1) = _ := (k4.get (h.n + 1) (by omega) (by omega)).trans g13
      have zi : H4.get i = .cells [.int .i64 room, r] 195 none := by rw [hH4]; exact get_set_same
      have n4 : H4.n = h3.n := by rw [hH4]; rfl
      have hri : idOf r ≠ some i := fun hh => by
        rcases d3 with d3 | d3
        · rw [d3] at hh; exact k.ne hh
        · have := d3 i hh; omega
      have o4 : Own H4 223 2 r ((put l key val).flatMap prE) := o3.keep k4 fun q hq hh => hri (by rw [hq, hh])
      rw [← hH4]
      clear hH4
      simp only [goI_ops, opsA_cons, stepA_call, thenV_some, eval_tmp, put_some, put_none, enterF_succ, loadGo_row, dropC_cells, Nat.reduceEqDiff, Nat.reduceAdd, List.map_cons, List.map_nil, Nat.zero_add, Nat.zero_le, List.length_cons, List.length_nil, List.drop_zero, List.take_succ_cons, List.take_nil, if_true, if_false, Nat.le_refl, z1]
      refine callI_pure cal119 (pChange (key, val) _) ?_
      have hcc : (V.agg (chgE ⟨key, 0, 0, val, false⟩)).cells = some [.int .i64 key, .int .i64 0, .int .i64 0, .int .i64 val, .bool false] := rfl
      simp only [wpA_ret, seqQ_normal, endI_mk, goI_out, goI_ops, opsA_nil, opsA_cons, stepA_assign, stepA_store, thenS_some, eval_tmp, eval_const, put_some, put_none, enterF_succ, absV_int, one_int, one_bool, all_nil, all_cons, aLoad_eq, loadGo_row, aPlace_ptr, dropC_cells, aStore_eq, storeGo_ptr, setC_row, setAll_nil, setAll_cons, get_set_same, Nat.reduceEqDiff, Nat.reduceAdd, Option.map_some, Nat.zero_add, Nat.zero_le, List.length_cons, List.length_nil, List.drop_zero, List.take_succ_cons, List.take_nil, List.set_cons_zero, List.set_cons_succ, if_true, if_false, Bool.and_self, Nat.le_refl, lt_40, zt_40, z0, hcc, retA_ret, Tryz.results83, resultsC_2, resultA_tmp, resultA_cell, res2_some]
      have kx : Keep H4 (H4.set h.n (.cells [.int .i64 key, .int .i64 0, .int .i64 0, .int .i64 val, .bool false] 40 none)) (fun q => q = h.n) := Keep.set _ _ _
      have hrn : ∀ q, idOf r = some q → q ≠ h.n := fun q hq hh => by
        rcases d3 with d3 | d3
        · rw [d3] at hq; have := k.own.lt q hq; omega
        · have := d3 q hq; omega
      refine hid_mk ⟨r, rfl, ⟨by rw [set_n]; omega, ?_, o4.keep kx fun q hq => hrn q hq, hri, srt_put k.srt _ _, ?_, k.room⟩, ?_, ?_⟩
      · rw [get_set_ne (by omega)]; exact zi
      · rw [len_put k.srt, if_neg (by rw [e1]; simp)]; omega
      · refine (((kH.up (o := kvO i v)).trans kH3 fun q hq hh => .inr hh).trans k4 fun q hq hh => .inl hh).trans kx fun q hq hh => by omega
      · rcases d3 with d3 | d3
        · exact .inl d3
        · exact .inr fun q hq => by have := d3 q hq; omega
end Go.Proofs.YtpjfhfmbhjghcaaGreatDoor.Pk
