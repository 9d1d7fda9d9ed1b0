/-
  What functions of the program do, told of abstract states. Conditions: as each theorem says.
-/
import Derived.Test.YtecabknnggamhaaKvE
namespace Go.Proofs.Ytecabknnggamhaa.Pk
open Go Go.Proofs Go.Proofs.Ytecabknnggamhaa.Ab
set_option linter.unusedVariables false
set_option linter.unusedSimpArgs false

def delX (l : List Pr) (k : Int) : Chg := if has l k then ⟨k, 0, 0, 0, true⟩ else zC
def delE (l : List Pr) (k : Int) : Int := if has l k then 0 else 6
set_option maxHeartbeats 2000000 in
set_option maxRecDepth 10000 in
theorem kvDel (h : AHeap) (i : Nat) (v : V) (room key : Int) (l : List Pr) (k : IsKv h i v room l) :
    SCalls Try.prog 20 [.ptr i 0, .int .i64 key] h (fun r h' => ∃ v', r = .tuple [.agg (chgE (delX l key)), .int .i64 (delE l key)] ∧ IsKv h' i v' room (rm l key) ∧ Keep h h' (kvO i v) ∧ NewOr h v v') := by
  refine SCalls.enterI (c := _) Try.func20 rfl (by kernel_rfl) (by simp) ?_
  obtain ⟨H, hH⟩ : ∃ y, y = h.push (.cells [.int .i64 0, .int .i64 0, .int .i64 0, .int .i64 0, .bool false] 30 none) := ⟨_, rfl⟩
  have g0 : H.get h.n = .cells [.int .i64 0, .int .i64 0, .int .i64 0, .int .i64 0, .bool false] 30 none := by rw [hH]; exact get_push_new
  have kH : Keep h H none_ := by rw [hH]; exact Keep.push _ _ _
  have nH : H.n = h.n + 1 := by rw [hH]; rfl
  have kk := k.keepN kH
  have hg := kk.get
  have hin := k.lt
  simp only [wpA_region, wpA_seq, seqQ_normal, goI_out, goI_ops, opsA_nil, opsA_cons, stepA_move, stepA_assign, stepA_alloc, stepA_call, thenH_some, eval_tmp, eval_const, put_some, enterF_zero, enterF_succ, absV_int, aAlloc_eq, Nat.reduceEqDiff, reduceCtorEq, List.map_cons, List.map_nil, Option.map_some, if_true, if_false, zc_30]
  rw [← hH]
  clear hH
  refine callI_pure cal42 (pFind H i v room key l kk) ?_
  rcases at_pos k.srt key with ⟨e1, p, e2, e3, e4⟩ | ⟨e1, e2, e3⟩
  rotate_left
  · have c1 : delX l key = zC := by simp [delX, e1]
    have c2 : delE l key = 6 := by simp [delE, e1]
    rw [c1, c2, rm_no k.srt key e1]
    simp only [wpA_region, wpA_seq, wpA_cond, wpA_ret, condI_true, seqQ_normal, seqQ_ret, endI_mk, goI_out, goI_ops, opsA_nil, opsA_cons, stepA_move, stepA_assign, stepA_build, stepA_store, stepA_unOp, stepA_extract, thenV_some, thenS_some, extV_zero, extV_succ, eval_tmp, eval_const, put_some, put_none, enterF_succ, aUn_not, absV_int, cells_agg, one_int, one_bool, all_nil, all_cons, aLoad_eq, loadGo_row, aPlace_ptr, dropC_cells, aStore_eq, storeGo_ptr, setC_row, setAll_nil, setAll_cons, aBuild_go, aFill_nil, buildGo_struct, get_set_same, Nat.reduceEqDiff, Nat.reduceAdd, List.map_nil, Option.map_some, Nat.zero_add, Nat.zero_le, List.length_cons, List.length_nil, List.drop_zero, List.take_succ_cons, List.take_nil, List.set_cons_zero, List.set_cons_succ, if_true, if_false, Bool.and_self, Bool.not_false, Nat.le_refl, lt_30, pl_30, zc_30, zt_30, e1, g0, retA_ret, Try.results20, resultsC_2, resultA_tmp, resultA_cell, res2_some]
    have kx : Keep H (H.set h.n (.cells [.int .i64 0, .int .i64 0, .int .i64 0, .int .i64 0, .bool false] 30 none)) (fun q => q = h.n) := Keep.set _ _ _
    refine hid_mk ⟨v, rfl, kk.keep kx (by omega) fun q hq => by have := k.own.lt q hq; omega, ?_, .inl rfl⟩
    exact (kH.up (o := kvO i v)).trans kx fun q hq hh => by omega
  have c1 : delX l key = ⟨key, 0, 0, 0, true⟩ := by simp [delX, e1]
  have c2 : delE l key = 0 := by simp [delE, e1]
  rw [c1, c2]
  have hlt := (List.getElem?_eq_some_iff.1 e2).1
  have hw := inc64 hlt (by have := k.len40; omega)
  simp only [wpA_skip, wpA_region, wpA_seq, wpA_cond, condI_false, seqQ_normal, goI_out, goI_ops, opsA_nil, opsA_cons, stepA_move, stepA_assign, stepA_load, stepA_nilCheck, stepA_binOp, stepA_unOp, stepA_fieldAddr, stepA_extract, stepA_call, thenV_some, nilV_ptr, extV_zero, extV_succ, eval_tmp, eval_const, put_some, enterF_zero, enterF_succ, aBin_add, aUn_not, absV_int, aField_eq, fieldGo_ptr, aLoad_eq, loadGo_one, aPlace_ptr, dropC_cells, Nat.reduceEqDiff, Nat.reduceAdd, Nat.reduceLeDiff, reduceCtorEq, List.map_cons, List.map_nil, Nat.zero_add, List.length_cons, List.length_nil, List.drop_zero, List.drop_succ_cons, if_true, if_false, Bool.not_true, ft_89_1, lt_87, e1, hg, hw]
  have hple := pos_le l key
  refine callI_of cal45 (deleteC v (pos l key) (l.flatMap prE) H kk.own (by rw [k.rows]; have := k.len40; omega) (by rw [k.rows]; omega) (rows_one prE_one l)) fun r h3 ⟨o3, k3, d3⟩ => ?_
  have hrow : (l.flatMap prE).take (pos l key * 2) ++ (l.flatMap prE).drop ((pos l key + 1) * 2) = (rm l key).flatMap prE := by
    rw [rows_take prE_len, rows_drop prE_len, rm_has k.srt key e1]; simp
  rw [hrow] at o3
  have gi3 := (k3.get i (by omega) (fun hh => k.ne hh)).trans hg
  have g03 := (k3.get h.n (by omega) (fun hh => by have := k.own.lt _ hh; omega)).trans g0
  have one_r : r.one = true := by
    rcases o3 with ⟨rfl | rfl, _⟩ | ⟨_, _, _, _, _, rfl, _⟩ <;> rfl
  have cell_r : r.cells = some [r] := by
    rcases o3 with ⟨rfl | rfl, _⟩ | ⟨_, _, _, _, _, rfl, _⟩ <;> rfl
  have hset : setC (some 1) (AObj.cells [V.int .i64 room, v] 89 none) 1 [r] = some (.cells [.int .i64 room, r] 89 none) := by rw [setC_one one_r]; rfl
  have n3 := k3.n
  have z0 : (h3.set i (.cells [V.int .i64 room, r] 89 none)).get h.n = _ := (get_set_ne (by omega)).trans g03
  simp only [wpA_region, wpA_seq, wpA_ret, seqQ_normal, endI_mk, goI_out, goI_ops, opsA_nil, opsA_cons, stepA_move, stepA_assign, stepA_build, stepA_store, stepA_nilCheck, stepA_fieldAddr, thenV_some, thenS_some, nilV_ptr, eval_tmp, eval_const, put_some, put_none, enterF_zero, enterF_succ, absV_int, absV_bool, cells_int, cells_bool, cells_agg, one_int, one_bool, all_nil, all_cons, aField_eq, fieldGo_ptr, aLoad_eq, loadGo_row, aPlace_ptr, dropC_cells, aStore_eq, storeGo_ptr, setC_row, setAll_nil, setAll_cons, aBuild_go, aFill_nil, aFill_cons, fillGo_some, buildGo_struct, get_set_same, List.getElem?_cons_zero, List.getElem?_cons_succ, Nat.reduceEqDiff, Nat.reduceAdd, Nat.reduceLeDiff, List.map_cons, List.map_nil, Option.map_some, Nat.zero_add, Nat.zero_le, List.length_cons, List.length_nil, List.drop_zero, List.take_succ_cons, List.take_nil, List.set_cons_zero, List.set_cons_succ, and_self, if_true, if_false, Bool.and_self, Nat.le_refl, ft_89_1, lt_30, pl_30, zc_30, zt_30, zt_87, gi3, cell_r, hset, z0, retA_ret, Try.results20, resultsC_2, resultA_tmp, resultA_cell, res2_some]
  have hri : idOf r ≠ some i := fun hh => by
    rcases d3 with d3 | d3
    · rw [d3] at hh; exact k.ne hh
    · have := d3 i hh; omega
  have hrn : ∀ q, idOf r = some q → q ≠ h.n := fun q hq hh => by
    rcases d3 with d3 | d3
    · rw [d3] at hq; have := k.own.lt q hq; omega
    · have := d3 q hq; omega
  have k4 : Keep h3 (h3.set i (.cells [V.int .i64 room, r] 89 none)) (fun q => q = i) := Keep.set _ _ _
  have kx : Keep (h3.set i (.cells [V.int .i64 room, r] 89 none)) ((h3.set i (.cells [V.int .i64 room, r] 89 none)).set h.n (.cells [.int .i64 key, .int .i64 0, .int .i64 0, .int .i64 0, .bool true] 30 none)) (fun q => q = h.n) := Keep.set _ _ _
  refine hid_mk ⟨r, rfl, ⟨by rw [set_n, set_n]; omega, ?_, (o3.keep k4 fun q hq hh => hri (by rw [hq, hh])).keep kx fun q hq => hrn q hq, hri, srt_rm k.srt _, ?_, k.room⟩, ?_, ?_⟩
  · rw [get_set_ne (by omega), get_set_same]
  · have := len_rm k.srt key e1; have := k.len; omega
  · exact (((kH.up (o := kvO i v)).trans k3 fun q hq hh => .inr hh).trans k4 fun q hq hh => .inl hh).trans kx fun q hq hh => by omega
  · rcases d3 with d3 | d3
    · exact .inl d3
    · exact .inr fun q hq => by have := d3 q hq; omega
theorem kvGet (h : AHeap) (i : Nat) (v : V) (room key : Int) (l : List Pr) (k : IsKv h i v room l) :
    Pure Try.prog 23 [.ptr i 0, .int .i64 key] h (.tuple [.int .i64 ((look l key).getD 0), .bool (has l key)]) := by
  refine SCalls.enterI (c := _) Try.func23 rfl (by kernel_rfl) (by simp) ?_
  have hg := k.get
  simp only [wpA_region, wpA_seq, seqQ_normal, goI_out, goI_ops, opsA_nil, opsA_cons, stepA_move, stepA_assign, stepA_call, eval_tmp, eval_const, put_some, enterF_zero, enterF_succ, absV_int, absV_bool, Nat.reduceEqDiff, reduceCtorEq, List.map_cons, List.map_nil, if_true, if_false]
  refine callI_pure cal42 (pFind h i v room key l k) ?_
  rcases at_pos k.srt key with ⟨e1, p, e2, e3, e4⟩ | ⟨e1, e2, e3⟩
  · obtain ⟨j, r0, r1, x1, _, _, _, x2, _⟩ := k.row e2
    have x1 := x1 .i64
    simp only [wpA_skip, wpA_region, wpA_seq, wpA_cond, wpA_ret, condI_false, seqQ_normal, endI_mk, goI_out, goI_ops, opsA_nil, opsA_cons, stepA_move, stepA_assign, stepA_load, stepA_nilCheck, stepA_unOp, stepA_fieldAddr, stepA_indexAddr, stepA_extract, thenV_some, nilV_ptr, extV_zero, extV_succ, eval_tmp, eval_const, put_some, enterF_zero, enterF_succ, aUn_not, absV_bool, aField_eq, fieldGo_ptr, aLoad_eq, loadGo_one, aPlace_ptr, dropC_cells, Nat.reduceEqDiff, Nat.reduceAdd, Nat.reduceLeDiff, reduceCtorEq, Nat.zero_add, List.length_cons, List.length_nil, List.drop_zero, List.drop_succ_cons, if_true, if_false, Bool.not_true, ft_89_1, ft_91_1, lt_2, lt_87, e1, hg, x1, x2, retA_ret, Try.results23, resultsA_2]
    exact hid_mk ⟨by rw [e4, e1]; rfl, rfl⟩
  · simp only [wpA_region, wpA_seq, wpA_cond, wpA_ret, condI_true, seqQ_normal, seqQ_ret, endI_mk, goI_out, goI_ops, opsA_nil, opsA_cons, stepA_move, stepA_assign, stepA_unOp, stepA_extract, thenV_some, extV_zero, extV_succ, eval_tmp, eval_const, put_some, enterF_succ, aUn_not, absV_int, absV_bool, Nat.reduceEqDiff, if_true, if_false, Bool.not_false, e1, retA_ret, Try.results23, resultsA_2]
    exact hid_mk ⟨by rw [e2, e1]; rfl, rfl⟩
theorem kvLen (h : AHeap) (i : Nat) (v : V) (room : Int) (l : List Pr) (k : IsKv h i v room l) : Pure Try.prog 22 [.ptr i 0] h (.int .i64 (l.length : Nat)) := by
  refine SCalls.enterI (c := _) Try.func22 rfl (by kernel_rfl) (by simp) ?_
  have hg := k.get
  have hl := k.alen (h' := h)
  simp only [wpA_skip, wpA_region, wpA_seq, wpA_cond, wpA_ret, condI_false, seqQ_normal, endI_mk, goI_out, goI_ops, opsA_nil, opsA_cons, stepA_move, stepA_assign, stepA_load, stepA_nilCheck, stepA_binOp, stepA_fieldAddr, stepA_len, thenV_some, nilV_ptr, eval_tmp, eval_const, put_some, enterF_zero, enterF_succ, ptr_nil_eql, absV_int, absV_pnil, aField_eq, fieldGo_ptr, aLoad_eq, loadGo_one, aPlace_ptr, dropC_cells, Nat.reduceEqDiff, Nat.reduceAdd, Nat.reduceLeDiff, reduceCtorEq, Nat.zero_add, List.length_cons, List.length_nil, List.drop_zero, List.drop_succ_cons, if_true, if_false, ft_89_1, kt_24, lt_87, hg, hl, retA_ret, Try.results22, resultsA_1]
  exact hid_mk ⟨rfl, rfl⟩
def chgOf (p : Pr) : Chg := ⟨p.1, 0, 0, p.2, false⟩
def listC (l : List Pr) : List Chg := l.map chgOf
theorem lit1c (h : AHeap) (c : Chg) : aBuildSlice Try.prog 34 1 [(0, .agg (chgE c))] h = some (.sl h.n 0 1 1, h.push (.cells (chgE c) 30 none)) := slice1 sl_34 rfl rfl (by decide)
set_option maxHeartbeats 1000000 in
set_option maxRecDepth 10000 in
theorem kvList (h : AHeap) (i : Nat) (v : V) (room : Int) (l : List Pr) (k : IsKv h i v room l) : Pure Try.prog 19 [.ptr i 0] h (.imm (listC l).length ((listC l).flatMap chgE)) := by
  refine Pure.acc (rows_clo chgE_clo _) (rows_len chgE_len _) (by decide) (e := 30) (sz := 5) ?_
  refine SCalls.enterI (c := _) Try.func19 rfl (by kernel_rfl) (by simp) ?_
  have hg := k.get
  have hl := k.alen (h' := h)
  have l40 := k.len40
  simp only [wpA_skip, wpA_region, wpA_seq, wpA_cond, wpA_block, wpA_loop, condI_false, seqQ_normal, goI_out, goI_ops, opsA_nil, opsA_cons, stepA_move, stepA_assign, stepA_load, stepA_nilCheck, stepA_binOp, stepA_fieldAddr, stepA_len, thenV_some, nilV_ptr, eval_tmp, eval_const, put_some, enterF_zero, enterF_succ, ptr_nil_eql, absV_int, absV_pnil, absV_snil, aField_eq, fieldGo_ptr, aLoad_eq, loadGo_one, aPlace_ptr, dropC_cells, Nat.reduceEqDiff, Nat.reduceAdd, Nat.reduceLeDiff, reduceCtorEq, Nat.zero_add, List.length_cons, List.length_nil, List.drop_zero, List.drop_succ_cons, if_true, if_false, ft_89_1, kt_24, lt_87, hg, hl]
  refine SWp.loopG (α := Nat × V) (fun x f h' => f 3 = x.2 ∧ f 11 = v ∧ f 12 = .int .i64 (l.length : Nat) ∧ f 13 = .int .i64 (x.1 : Nat) ∧ x.1 ≤ l.length ∧ Acc h h' 30 5 x.2 ((listC (l.take x.1)).flatMap chgE)) (fun x => l.length - x.1) (0, .snil)
    ⟨rfl, rfl, rfl, rfl, Nat.zero_le _, Acc.nil (Keep.refl _ _)⟩ ?_
  rintro ⟨t, s⟩ f h1 ⟨f3, f11, f12, f13, ht, acc⟩
  simp only at f3 f13 ht acc
  refine wpI_sound (by kernel_rfl) ?_
  by_cases hlt : t < l.length
  · have d1 : decide ((t : Int) < ((l.length : Nat) : Int)) = true := decide_eq_true (by omega)
    have hw := inc64 hlt (by omega)
    have k1 := k.keepN acc.keep
    obtain ⟨j, r0, r1, x1, x3, x4, x2, _, _⟩ := k1.row (List.getElem?_eq_getElem hlt)
    have x1 := x1 .i64
    have lr : ∀ (a b : Int) (q : List V), loadGo (some (some 2)) (some (V.int .i64 a :: V.int .i64 b :: q)) = some (.agg (prE (a, b))) := fun a b q => rfl
    have cr : ∀ p : Pr, (V.agg (prE p)).cells = some (prE p) := fun _ => rfl
    have ld : ∀ p : Pr, (if 2 ≤ (prE p).length then some (V.agg (List.take 2 (prE p))) else none) = some (.agg (prE p)) := fun _ => rfl
    have st : ∀ p : Pr, setC (some 2) (AObj.cells [V.int .i64 0, V.int .i64 0] 91 none) 0 (prE p) = some (.cells (prE p) 91 none) := fun _ => rfl
    have acc2 := acc.on (Keep.push h1 (.cells (prE (l[t].1, l[t].2)) 91 none) none_)
    obtain ⟨s', h2, ea, a2⟩ := acc2.elemM sl_34 (by decide) (xs := chgE (chgOf l[t])) rfl rfl (fun m hm => by
      change m * 5 = _ + 5 at hm
      rw [rows_len chgE_len] at hm
      simp only [listC, List.length_map, List.length_take] at hm
      exact ⟨by simp only [lim]; omega, by simp only [lim]; omega⟩)
    simp only [wpA_skip, wpA_region, wpA_seq, wpA_cond, wpA_block, condI_true, seqQ_normal, goI_out, goI_ops, opsA_nil, opsA_cons, stepA_move, stepA_alloc, stepA_load, stepA_store, stepA_binOp, stepA_indexAddr, stepA_call, thenV_some, thenH_some, thenS_some, eval_tmp, put_some, put_none, aBin_lss, aLoad_eq, loadGo_row, aPlace_ptr, dropC_cells, aStore_eq, storeGo_ptr, aAlloc_eq, get_push_new, set_push, Nat.reduceEqDiff, List.map_cons, List.map_nil, Option.map_some, Nat.zero_le, List.drop_zero, if_true, if_false, lt_91, zc_91, zt_91, f3, f11, f12, f13, d1, x1, x2, lr, cr, st, ld]
    refine callI_pure cal44 (pChange (l[t].1, l[t].2) _) ?_
    have hlit := lit1c (h1.push (.cells (prE (l[t].1, l[t].2)) 91 none)) (chgOf l[t])
    unfold chgOf at hlit ea
    rw [push_n] at ea
    simp only [wpA_region, seqQ_normal, blkQ_normal, endI_mk, andThen_normal, goI_out, goI_ops, opsA_nil, opsA_cons, stepA_move, stepA_assign, stepA_buildSlice, stepA_binOp, stepA_append, thenV_some, thenH_some, eval_tmp, eval_const, put_some, put_none, aBin_add, absV_int, push_n, Nat.reduceEqDiff, List.map_cons, List.map_nil, if_true, if_false, f13, hlit, ea, hw]
    refine hid_mk ⟨(t + 1, s'), ⟨rfl, f11, f12, rfl, hlt, a2.conv ?_⟩, by simp only; omega⟩
    rw [List.take_succ_eq_append_getElem hlt, listC, listC, List.map_append, List.flatMap_append]
    simp
  · have d1 : decide ((t : Int) < ((l.length : Nat) : Int)) = false := decide_eq_false (by omega)
    rw [List.take_of_length_le (by omega)] at acc
    simp only [wpA_region, wpA_seq, wpA_cond, wpA_exit, wpA_ret, condI_false, seqQ_normal, seqQ_exit, blkQ_exit, endI_mk, goE, andThen_exit, goI_out, goI_ops, opsA_nil, opsA_cons, stepA_move, stepA_assign, stepA_binOp, thenV_some, eval_tmp, put_some, aBin_lss, Nat.reduceEqDiff, if_true, if_false, f3, f12, f13, d1, retA_ret, Try.results19, resultsA_1]
    exact hid_mk acc
end Go.Proofs.Ytecabknnggamhaa.Pk
