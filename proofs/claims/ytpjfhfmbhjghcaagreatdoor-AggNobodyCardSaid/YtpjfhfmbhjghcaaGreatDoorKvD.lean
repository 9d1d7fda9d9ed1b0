/-
  What functions of the program do, told of abstract states. Conditions: as each theorem says.
-/
import Derived.Test.YtpjfhfmbhjghcaaGreatDoorKvC
import Derived.Test.YtpjfhfmbhjghcaaGreatDoorKvL
import Derived.Test.YtpjfhfmbhjghcaaGreatDoorChK
namespace Go.Proofs.YtpjfhfmbhjghcaaGreatDoor.Pk
open Go Go.Proofs Go.Proofs.YtpjfhfmbhjghcaaGreatDoor.Ab
set_option linter.unusedVariables false
set_option linter.unusedSimpArgs false

def prE (p : Pr) : List V := [.int .i64 p.1, .int .i64 p.2]
theorem prE_len (p : Pr) : (prE p).length = 2 := rfl
theorem prE_one (p : Pr) : (prE p).all (·.one) = true := rfl
theorem rows_set (l : List Pr) (k : Nat) (p : Pr) (hk : k < l.length) : lay (l.flatMap prE) (k * 2) (prE p) = (l.set k p).flatMap prE := by
  unfold lay
  rw [rows_take prE_len, show k * 2 + (prE p).length = (k + 1) * 2 by rw [prE_len]; omega, rows_drop prE_len, List.set_eq_take_append_cons_drop, if_pos hk]
  simp
/-- A store. -/
structure IsKv (h : AHeap) (i : Nat) (v : V) (room : Int) (l : List Pr) : Prop where
  lt : i < h.n
  get : h.get i = .cells [.int .i64 room, v] 195 none
  own : Own h 223 2 v (l.flatMap prE)
  ne : idOf v ≠ some i
  srt : Srt l
  len : (l.length : Int) ≤ room
  room : room ≤ 1024
theorem IsKv.len40 {h : AHeap} {i : Nat} {v : V} {room : Int} {l : List Pr} (k : IsKv h i v room l) : l.length ≤ 1024 := by have := k.len; have := k.room; omega
theorem IsKv.rows {h : AHeap} {i : Nat} {v : V} {room : Int} {l : List Pr} (k : IsKv h i v room l) : (l.flatMap prE).length = l.length * 2 := rows_len prE_len l
theorem IsKv.keep {h h' : AHeap} {i : Nat} {v : V} {room : Int} {l : List Pr} {own : Nat → Prop} (k : IsKv h i v room l) (hk : Keep h h' own) (h1 : ¬ own i) (h2 : ∀ j, idOf v = some j → ¬ own j) : IsKv h' i v room l :=
  ⟨Nat.lt_of_lt_of_le k.lt hk.n, (hk.get i k.lt h1).trans k.get, k.own.keep hk h2, k.ne, k.srt, k.len, k.room⟩
theorem IsKv.keepN {h h' : AHeap} {i : Nat} {v : V} {room : Int} {l : List Pr} (k : IsKv h i v room l) (hk : Keep h h' none_) : IsKv h' i v room l := k.keep hk (by simp [none_]) (by simp [none_])
theorem IsKv.alen {h h' : AHeap} {i : Nat} {v : V} {room : Int} {l : List Pr} (k : IsKv h i v room l) : aLen Tryz.prog 193 v h' = some (.int .i64 (l.length : Nat)) := by
  have := k.own.length (by decide) Tryz.prog kt_193
  rw [k.rows, Nat.mul_div_cancel _ (by decide)] at this
  rw [← this]
  rcases k.own with ⟨rfl | rfl, _⟩ | ⟨j, n, c, _, _, rfl, _⟩
  · rw [aLen_snil kt_193, aLen_snil kt_193]
  · rw [aLen_z0 kt_193, aLen_z0 kt_193]
  · rw [aLen_sl kt_193, aLen_sl kt_193]
theorem IsKv.row {h : AHeap} {i : Nat} {v : V} {room : Int} {l : List Pr} (k : IsKv h i v room l) {t : Nat} {p : Pr} (hp : l[t]? = some p) :
    ∃ j r0 r1, (∀ kk, aIndexAddr Tryz.prog 193 v (.int kk (t : Int)) = some (.ptr j (t * 2))) ∧ idOf v = some j ∧ j < h.n ∧ dropC (h.get j) (t * 2) = some (.int .i64 p.1 :: .int .i64 p.2 :: r0) ∧ dropC (h.get j) (t * 2 + 1) = some (.int .i64 p.2 :: r1) ∧
      ∀ q : Pr, ∃ ob, setC (some 2) (h.get j) (t * 2) (prE q) = some ob ∧ Own (h.set j ob) 223 2 v ((l.set t q).flatMap prE) ∧ Keep h (h.set j ob) (isId v) := by
  have ht := (List.getElem?_eq_some_iff.1 hp).1
  have hd : ((l.flatMap prE).drop (t * 2)).take 2 = prE p := by
    rw [rows_drop prE_len, show 2 = 1 * 2 from rfl, rows_take prE_len, List.drop_eq_getElem_cons ht, (List.getElem?_eq_some_iff.1 hp).2]
    simp
  obtain ⟨j, a1, a2, a3, a4, a5⟩ := own_row (P := Tryz.prog) (t := 193) (kk := .i64) ss_193 (by decide) k.own (k := t) (by rw [k.rows]; omega)
  obtain ⟨r0, h0⟩ := a4 h 0 rfl (by decide)
  obtain ⟨r1, h1⟩ := a4 h 1 rfl (by decide)
  rw [hd] at h0 h1
  refine ⟨j, r0, r1, fun kk => ?_, a2, a3, h0, h1, fun q => ?_⟩
  · obtain ⟨j2, b1, b2, _⟩ := own_row (P := Tryz.prog) (t := 193) (kk := kk) ss_193 (by decide) k.own (k := t) (by rw [k.rows]; omega)
    rw [a2] at b2
    cases b2
    exact b1
  · obtain ⟨ob, c1, c2, c3⟩ := a5 (prE q) (prE_len q) (prE_one q)
    rw [rows_set l t q ht] at c2
    exact ⟨ob, c1, c2, c3⟩
set_option maxRecDepth 10000 in
theorem pFindF (h : AHeap) (i a b t : Nat) (v : V) (room key : Int) (l : List Pr) (p : Pr) (k : IsKv h i v room l) (ha : h.get a = .cells [.ptr i 0] 145 none) (hb : h.get b = .cells [.int .i64 key] 2 none) (hp : l[t]? = some p) :
    Pure Tryz.prog 147 [.int .i64 (t : Nat), .ptr a 0, .ptr b 0] h (.bool (decide (key ≤ p.1))) := by
  refine SCalls.enterI (c := _) Tryz.func147 rfl (by kernel_rfl) (by simp) ?_
  obtain ⟨j, r0, r1, x1, _, _, x2, _⟩ := k.row hp
  have hg := k.get
  have x1 := x1 .i64
  simp only [wpA_region, wpA_seq, wpA_draw, seqQ_normal, goI_out, goI_ops, opsA_nil, opsA_cons, stepA_assign, eval_const, absV_bool]
  refine SWp.drawnS none_ [] (.q 0 (.q 1 (.q 2 (.q 3 (.q 4 (.q 5 (.q 6 (.q 7 (.q 8 (.q 9 (.q 10 .done))))))))))) (by kernel_rfl) (by kernel_rfl) (by kernel_rfl) ?_
  simp only [siI_done, siI_q, sqI_some, mOk_none', implies_true, qI_nil, qI_cons, thenQ_some, q_move, q_assign, q_load, q_nilCheck, q_binOp, q_fieldAddr, q_indexAddr, wpA_ret, seqQ_normal, endI_mk, goI_out, goI_mk, nilV_ptr, eval_tmp, put_some, enterF_zero, enterF_succ, aBin_geq, aField_eq, fieldGo_ptr, aLoad_eq, loadGo_one, aPlace_ptr, dropC_cells, List.getElem?_cons_zero, List.getElem?_cons_succ, Nat.reduceEqDiff, Nat.reduceAdd, Nat.reduceLeDiff, reduceCtorEq, Nat.add_zero, Nat.zero_add, Nat.zero_le, List.length_cons, List.length_nil, List.drop_zero, List.drop_succ_cons, true_and, if_true, if_false, ft_195_1, ft_223_0, lt_145, lt_193, lt_2, ha, hb, hg, x1, x2, retA_ret, Tryz.results147, resultsA_1]
  exact hid_mk ⟨rfl, rfl⟩
set_option maxHeartbeats 1000000 in
set_option maxRecDepth 10000 in
theorem pFind (h : AHeap) (i : Nat) (v : V) (room key : Int) (l : List Pr) (k : IsKv h i v room l) :
    Pure Tryz.prog 114 [.ptr i 0, .int .i64 key] h (.tuple [.int .i64 (pos l key : Nat), .bool (has l key)]) := by
  refine Pure.val (Clo.tuple (CloL.cons (Clo.int _ _) (CloL.cons (Clo.bool _) CloL.nil))) ?_
  refine SCalls.enterI (c := _) Tryz.func114 rfl (by kernel_rfl) (by simp) ?_
  obtain ⟨H, hH⟩ : ∃ y, y = (h.push (.cells [.ptr i 0] 145 none)).push (.cells [.int .i64 key] 2 none) := ⟨_, rfl⟩
  have g0 : H.get h.n = .cells [.ptr i 0] 145 none := by rw [hH]; exact get_push2'
  have g1 : H.get (h.n + 1) = .cells [.int .i64 key] 2 none := by rw [hH]; exact get_push2
  have kH : Keep h H none_ := by rw [hH]; exact (Keep.push _ _ _).then_push _
  have kk := k.keepN kH
  have hg := kk.get
  simp only [wpA_skip, wpA_region, wpA_seq, wpA_cond, condI_false, seqQ_normal, goI_out, goI_ops, opsA_nil, opsA_cons, stepA_assign, stepA_box, stepA_load, stepA_nilCheck, stepA_binOp, stepA_fieldAddr, thenV_some, thenH_some, nilV_ptr, eval_tmp, eval_const, put_some, enterF_zero, enterF_succ, ptr_nil_eql, absV_int, absV_bool, absV_pnil, cells_int, cells_ptr, aField_eq, fieldGo_ptr, aLoad_eq, loadGo_one, aPlace_ptr, dropC_cells, aBox_eq, push_n, get_push2', Nat.reduceEqDiff, Option.map_some, Nat.zero_add, Nat.zero_le, List.length_cons, List.length_nil, List.drop_zero, if_true, if_false, ft_195_1, kt_145, lt_145, lt_193]
  rw [← hH]
  clear hH
  have hl := kk.alen (h' := H)
  simp only [goI_ops, opsA_cons, stepA_makeFunc, stepA_len, stepA_call, thenV_some, eval_tmp, put_some, enterF_succ, loadGo_one, dropC_cells, Nat.reduceEqDiff, Nat.reduceAdd, Nat.reduceLeDiff, List.map_cons, List.map_nil, Nat.zero_add, List.length_cons, List.length_nil, List.drop_zero, List.drop_succ_cons, if_true, if_false, hg, hl]
  refine callI_pure cal146 (pSearch l.length _ _ (fun t => match l[t]? with | some p => decide (key ≤ p.1) | none => true) H (by have := k.len40; omega) cal147 (fun t ht => ?_) (pos l key) (pos_le l key) (fun t ht => ?_) (fun t h1 h2 => ?_)) ?_
  · have hp : l[t]? = some l[t] := List.getElem?_eq_getElem ht
    rw [hp]
    exact pFindF H i h.n (h.n + 1) t v room key l l[t] kk g0 g1 hp
  · cases hp : l[t]? with
    | none => have := pos_le l key; rw [List.getElem?_eq_none_iff] at hp; omega
    | some p => have := pos_lt l key t p ht hp; simp only [decide_eq_false_iff_not]; omega
  · cases hp : l[t]? with
    | none => rfl
    | some p => have := pos_ge k.srt key t p h1 hp; simp only [decide_eq_true_eq]; exact this
  have hple := pos_le l key
  rcases at_pos k.srt key with ⟨e1, p, e2, e3, e4⟩ | ⟨e1, e2, e3⟩
  · obtain ⟨j, r0, r1, x1, _, _, x2, _⟩ := kk.row e2
    have x1 := x1 .i64
    have hlt := (List.getElem?_eq_some_iff.1 e2).1
    have d1 : decide (((pos l key : Nat) : Int) < ((l.length : Nat) : Int)) = true := decide_eq_true (by omega)
    have d2 : (p.1 == key) = true := by simp [e3]
    simp only [wpA_seq, wpA_draw, seqQ_normal, goI_out, goI_ops, opsA_nil, opsA_cons, stepA_assign, eval_tmp, put_some, enterF_succ, Nat.reduceEqDiff, if_true, if_false]
    refine SWp.drawnS none_ [] (.q 0 (.q 1 (.q 2 (.q 3 (.q 4 (.q 5 (.q 6 (.q 7 (.q 8 (.q 9 (.q 10 (.q 11 (.q 12 (.q 13 (.q 14 (.q 15 (.q 16 (.q 17 (.q 18 (.q 19 (.q 20 (.q 21 .done)))))))))))))))))))))) (by kernel_rfl) (by kernel_rfl) (by kernel_rfl) ?_
    simp only [siI_done, siI_q, sqI_some, mOk_none', implies_true, qI_nil, qI_cons, qI_guard, qgI_same, thenQ_some, q_move, q_assign, q_pick, q_load, q_nilCheck, q_binOp, q_fieldAddr, q_indexAddr, q_len, wpA_ret, seqQ_normal, endI_mk, goI_out, goI_mk, slotAt_zero, slotAt_succ, pickV_true, nilV_ptr, eval_tmp, eval_const, put_some, enterF_succ, aBin_eql, aBin_lss, absV_bool, aField_eq, fieldGo_ptr, aLoad_eq, loadGo_one, aPlace_ptr, dropC_cells, List.getElem?_cons_zero, List.getElem?_cons_succ, Nat.reduceEqDiff, Nat.reduceAdd, Nat.reduceLeDiff, Nat.add_zero, Nat.zero_add, Nat.zero_le, List.length_cons, List.length_nil, List.drop_zero, List.drop_succ_cons, true_and, if_true, if_false, ft_195_1, ft_223_0, lt_145, lt_193, lt_2, g0, g1, hg, hl, d1, x1, x2, d2, retA_ret, Tryz.results114, resultsA_2]
    exact hid_mk ⟨by rw [e1], kH⟩
  · by_cases hlt : pos l key < l.length
    · have hp : l[pos l key]? = some l[pos l key] := List.getElem?_eq_getElem hlt
      obtain ⟨j, r0, r1, x1, _, _, x2, _⟩ := kk.row hp
      have x1 := x1 .i64
      have d1 : decide (((pos l key : Nat) : Int) < ((l.length : Nat) : Int)) = true := decide_eq_true (by omega)
      have d2 : (l[pos l key].1 == key) = false := by have := e3 _ hp; simp; omega
      simp only [wpA_seq, wpA_draw, seqQ_normal, goI_out, goI_ops, opsA_nil, opsA_cons, stepA_assign, eval_tmp, put_some, enterF_succ, Nat.reduceEqDiff, if_true, if_false]
      refine SWp.drawnS none_ [] (.q 0 (.q 1 (.q 2 (.q 3 (.q 4 (.q 5 (.q 6 (.q 7 (.q 8 (.q 9 (.q 10 (.q 11 (.q 12 (.q 13 (.q 14 (.q 15 (.q 16 (.q 17 (.q 18 (.q 19 (.q 20 (.q 21 .done)))))))))))))))))))))) (by kernel_rfl) (by kernel_rfl) (by kernel_rfl) ?_
      simp only [siI_done, siI_q, sqI_some, mOk_none', implies_true, qI_nil, qI_cons, qI_guard, qgI_same, thenQ_some, q_move, q_assign, q_pick, q_load, q_nilCheck, q_binOp, q_fieldAddr, q_indexAddr, q_len, wpA_ret, seqQ_normal, endI_mk, goI_out, goI_mk, slotAt_zero, slotAt_succ, pickV_true, nilV_ptr, eval_tmp, eval_const, put_some, enterF_succ, aBin_eql, aBin_lss, absV_bool, aField_eq, fieldGo_ptr, aLoad_eq, loadGo_one, aPlace_ptr, dropC_cells, List.getElem?_cons_zero, List.getElem?_cons_succ, Nat.reduceEqDiff, Nat.reduceAdd, Nat.reduceLeDiff, Nat.add_zero, Nat.zero_add, Nat.zero_le, List.length_cons, List.length_nil, List.drop_zero, List.drop_succ_cons, true_and, if_true, if_false, ft_195_1, ft_223_0, lt_145, lt_193, lt_2, g0, g1, hg, hl, d1, x1, x2, d2, retA_ret, Tryz.results114, resultsA_2]
      exact hid_mk ⟨by rw [e1], kH⟩
    · have d1 : decide (((pos l key : Nat) : Int) < ((l.length : Nat) : Int)) = false := decide_eq_false (by omega)
      simp only [wpA_seq, wpA_draw, seqQ_normal, goI_out, goI_ops, opsA_nil, opsA_cons, stepA_assign, eval_tmp, put_some, enterF_succ, Nat.reduceEqDiff, if_true, if_false]
      refine SWp.drawnS none_ [] (.q 0 (.q 1 (.q 2 (.q 3 (.q 4 (.q 5 (.q 6 (.q 7 (.q 8 (.q 9 (.q 10 (.q 11 (.q 12 (.q 13 (.q 14 (.q 15 (.q 16 (.q 17 (.q 18 (.q 19 (.q 20 (.q 21 .done)))))))))))))))))))))) (by kernel_rfl) (by kernel_rfl) (by kernel_rfl) ?_
      simp only [siI_done, siI_q, sqI_some, mOk_none', implies_true, qI_nil, qI_cons, qI_guard, qgI_ft, thenQ_some, q_move, q_assign, q_pick, q_load, q_nilCheck, q_binOp, q_fieldAddr, q_len, wpA_ret, seqQ_normal, endI_mk, goI_out, goI_mk, slotAt_zero, slotAt_succ, pickV_false, nilV_ptr, eval_tmp, eval_const, put_some, enterF_succ, aBin_lss, absV_bool, aField_eq, fieldGo_ptr, aLoad_eq, loadGo_one, aPlace_ptr, dropC_cells, List.getElem?_cons_zero, List.getElem?_cons_succ, Nat.reduceEqDiff, Nat.reduceAdd, Nat.reduceLeDiff, Nat.zero_add, Nat.zero_le, List.length_cons, List.length_nil, List.drop_zero, List.drop_succ_cons, true_and, if_true, if_false, ft_195_1, lt_145, lt_193, g0, hg, hl, d1, retA_ret, Tryz.results114, resultsA_2]
      exact hid_mk ⟨by rw [e1], kH⟩
theorem pFindNil (h : AHeap) (key : Int) : Pure Tryz.prog 114 [.pnil, .int .i64 key] h (.tuple [.int .i64 0, .bool false]) := by
  refine Pure.val (Clo.tuple (CloL.cons (Clo.int _ _) (CloL.cons (Clo.bool _) CloL.nil))) ?_
  refine SCalls.enterI (c := _) Tryz.func114 rfl (by kernel_rfl) (by simp) ?_
  simp only [wpA_region, wpA_seq, wpA_cond, wpA_ret, condI_true, seqQ_normal, seqQ_ret, endI_mk, goI_out, goI_ops, opsA_nil, opsA_cons, stepA_assign, stepA_box, stepA_load, stepA_binOp, thenV_some, thenH_some, eval_tmp, eval_const, put_some, enterF_zero, enterF_succ, nil_nil_eql, absV_int, absV_bool, absV_pnil, cells_int, cells_pnil, aLoad_eq, loadGo_one, aPlace_ptr, dropC_cells, aBox_eq, push_n, get_push2', Nat.reduceEqDiff, Option.map_some, Nat.zero_add, Nat.zero_le, List.length_cons, List.length_nil, List.drop_zero, if_true, if_false, kt_145, lt_145, retA_ret, Tryz.results114, resultsA_2]
  exact hid_mk ⟨rfl, (Keep.push _ _ _).then_push _⟩
theorem pChange (p : Pr) (h : AHeap) : Pure Tryz.prog 119 [.agg (prE p)] h (.agg (chgE ⟨p.1, 0, 0, p.2, false⟩)) := by
  refine Pure.val (Clo.agg (chgE_clo _)) ?_
  refine SCalls.enterI (c := _) Tryz.func119 rfl (by kernel_rfl) (by simp) ?_
  have hc : (V.agg (prE p)).cells = some [.int .i64 p.1, .int .i64 p.2] := rfl
  simp only [wpA_region, wpA_seq, wpA_ret, seqQ_normal, endI_mk, goI_out, goI_ops, opsA_nil, opsA_cons, stepA_alloc, stepA_box, stepA_build, stepA_load, stepA_store, stepA_fieldAddr, thenV_some, thenH_some, thenS_some, eval_tmp, put_some, put_none, enterF_zero, enterF_succ, cells_int, cells_agg, one_int, one_bool, all_nil, all_cons, aField_eq, fieldGo_ptr, aLoad_eq, loadGo_one, loadGo_row, aPlace_ptr, dropC_cells, aStore_eq, storeGo_ptr, setC_row, setAll_nil, setAll_cons, aAlloc_eq, aBox_eq, aBuild_go, aFill_nil, aFill_cons, fillGo_some, buildGo_struct, push_n, get_push2, get_push2', set_push2, List.getElem?_cons_zero, List.getElem?_cons_succ, Nat.reduceEqDiff, Nat.reduceAdd, Nat.reduceLeDiff, List.map_cons, List.map_nil, Option.map_some, Nat.add_zero, Nat.zero_add, Nat.zero_le, List.length_cons, List.length_nil, List.drop_zero, List.drop_succ_cons, List.take_succ_cons, List.take_nil, List.set_cons_zero, List.set_cons_succ, and_self, if_true, if_false, Bool.and_self, Nat.le_refl, ft_223_0, ft_223_1, lt_2, lt_40, pl_40, zc_40, zt_40, hc, retA_ret, Tryz.results119, resultsC_1, resultA_cell]
  exact hid_mk ⟨rfl, (Keep.push _ _ _).then_push _⟩
end Go.Proofs.YtpjfhfmbhjghcaaGreatDoor.Pk
