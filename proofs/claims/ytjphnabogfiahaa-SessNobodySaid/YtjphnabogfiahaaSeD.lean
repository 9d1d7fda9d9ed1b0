/-
  What functions of the program do, told of abstract states. Conditions: as each theorem says.
-/
import Derived.Test.YtjphnabogfiahaaSeC
namespace Go.Proofs.Ytjphnabogfiahaa.Pk
open Go Go.Proofs Go.Proofs.Ytjphnabogfiahaa.Ab
set_option linter.unusedVariables false
set_option linter.unusedSimpArgs false
set_option maxRecDepth 10000 in
theorem sesNew (room g : Int) (h1 : 1 ≤ room) (h2 : room ≤ 1024) (h3 : 1 ≤ g) (h4 : g ≤ 2 ^ 20) (h : AHeap) :
    SCalls Try.prog 9 [.int .i64 room, .int .i64 g] h (fun r h' => r = .tuple [.ptr h.n 0, .int .i64 0] ∧ h' = h.push (.cells [.int .i64 room, .int .i64 g, .snil] 49 none)) := by
  refine SCalls.enterI (c := _) Try.func9 rfl (by kernel_rfl) (by simp) ?_
  have d1 : decide (room < 1) = false := decide_eq_false (by omega)
  have d2 : decide (1024 < room) = false := decide_eq_false (by omega)
  have d3 : decide (g < 1) = false := decide_eq_false (by omega)
  have d4 : decide (1048576 < g) = false := decide_eq_false (by omega)
  simp only [wpA_skip, wpA_region, wpA_seq, wpA_cond, wpA_ret, condI_false, seqQ_normal, endI_mk, goI_out, goI_ops, opsA_nil, opsA_cons, opsA_guardS, gvI_same, slotAt_zero, slotAt_succ, stepA_move, stepA_assign, stepA_pick, stepA_box, stepA_build, stepA_binOp, thenV_some, thenH_some, pickV_false, eval_tmp, eval_const, put_some, enterF_zero, enterF_succ, aBin_lss, aBin_gtr, absV_int, absV_bool, absV_pnil, cells_int, cells_agg, setAll_nil, setAll_cons, aBox_eq, aBuild_go, aFill_nil, aFill_cons, fillGo_some, buildGo_struct, List.getElem?_cons_zero, List.getElem?_cons_succ, Nat.reduceEqDiff, Nat.reduceAdd, Nat.reduceLeDiff, reduceCtorEq, List.map_cons, List.map_nil, Option.map_some, Nat.zero_add, List.length_cons, List.length_nil, List.set_cons_zero, List.set_cons_succ, and_self, if_true, if_false, pl_49, zc_49, d1, d2, d3, d4, retA_ret, Try.results9, resultsA_2]
  exact hid_mk ⟨rfl, rfl⟩
theorem IsSes.new {h : AHeap} {room g : Int} (h3 : 1 ≤ g) (h4 : g ≤ 2 ^ 20) : IsSes (h.push (.cells [.int .i64 room, .int .i64 g, .snil] 49 none)) h.n .snil room g [] :=
  ⟨Nat.lt_succ_self _, get_push_new, Own.snil _ _ _, by simp [idOf], List.Pairwise.nil, by simp, by simp, h3, h4⟩
theorem sesLen (h : AHeap) (i : Nat) (v : V) (room g : Int) (l : List Chg) (k : IsSes h i v room g l) : Pure Try.prog 16 [.ptr i 0] h (.int .i64 (l.length : Nat)) := by
  refine SCalls.enterI (c := _) Try.func16 rfl (by kernel_rfl) (by simp) ?_
  have hg := k.get
  have hl := k.alen h
  simp only [wpA_skip, wpA_region, wpA_seq, wpA_cond, wpA_ret, condI_false, seqQ_normal, endI_mk, goI_out, goI_ops, opsA_nil, opsA_cons, stepA_move, stepA_assign, stepA_load, stepA_nilCheck, stepA_binOp, stepA_fieldAddr, stepA_len, thenV_some, nilV_ptr, eval_tmp, eval_const, put_some, enterF_zero, enterF_succ, ptr_nil_eql, absV_int, absV_pnil, aField_eq, fieldGo_ptr, aLoad_eq, loadGo_one, aPlace_ptr, dropC_cells, Nat.reduceEqDiff, Nat.reduceAdd, Nat.reduceLeDiff, reduceCtorEq, Nat.zero_add, List.length_cons, List.length_nil, List.drop_zero, List.drop_succ_cons, if_true, if_false, ft_49_2, kt_24, lt_47, hg, hl, retA_ret, Try.results16, resultsA_1]
  exact hid_mk ⟨rfl, rfl⟩
theorem sesLenNil (h : AHeap) : Pure Try.prog 16 [.pnil] h (.int .i64 0) := by
  refine SCalls.enterI (c := _) Try.func16 rfl (by kernel_rfl) (by simp) ?_
  simp only [wpA_region, wpA_seq, wpA_cond, wpA_ret, condI_true, seqQ_normal, seqQ_ret, endI_mk, goI_out, goI_ops, opsA_nil, opsA_cons, stepA_move, stepA_assign, stepA_binOp, thenV_some, eval_tmp, eval_const, put_some, enterF_zero, enterF_succ, nil_nil_eql, absV_int, absV_pnil, Nat.reduceEqDiff, reduceCtorEq, if_true, if_false, kt_24, retA_ret, Try.results16, resultsA_1]
  exact hid_mk ⟨rfl, rfl⟩
theorem ses_ldc (p : Chg) : (if 3 ≤ (sesE p).length then some (V.agg (List.take 3 (sesE p))) else none) = some (.agg (sesE p)) := rfl
theorem ses_st (p : Chg) : setC (some 3) (AObj.cells [V.int .i64 0, V.complex .f64 0 0, V.int .i64 0] 52 none) 0 (sesE p) = some (.cells (sesE p) 52 none) := rfl
theorem ses_cellsE (p : Chg) : (V.agg (sesE p)).cells = some (sesE p) := rfl
set_option maxHeartbeats 1000000 in
set_option maxRecDepth 10000 in
theorem sesList (h : AHeap) (i : Nat) (v : V) (room g : Int) (l : List Chg) (k : IsSes h i v room g l) : Pure Try.prog 14 [.ptr i 0] h (.imm l.length (l.flatMap chgE)) := by
  refine Pure.acc (rows_clo chgE_clo _) (rows_len chgE_len _) (by decide) (e := 30) (sz := 5) ?_
  refine SCalls.enterI (c := _) Try.func14 rfl (by kernel_rfl) (by simp) ?_
  have hg := k.get
  have hl := k.alen h
  have l40 := k.len
  simp only [wpA_skip, wpA_region, wpA_seq, wpA_cond, wpA_block, wpA_loop, condI_false, seqQ_normal, goI_out, goI_ops, opsA_nil, opsA_cons, stepA_move, stepA_assign, stepA_load, stepA_nilCheck, stepA_binOp, stepA_fieldAddr, stepA_len, thenV_some, nilV_ptr, eval_tmp, eval_const, put_some, enterF_zero, enterF_succ, ptr_nil_eql, absV_int, absV_pnil, absV_snil, aField_eq, fieldGo_ptr, aLoad_eq, loadGo_one, aPlace_ptr, dropC_cells, Nat.reduceEqDiff, Nat.reduceAdd, Nat.reduceLeDiff, reduceCtorEq, Nat.zero_add, List.length_cons, List.length_nil, List.drop_zero, List.drop_succ_cons, if_true, if_false, ft_49_2, kt_24, lt_47, hg, hl]
  refine SWp.loopG (α := Nat × V) (fun x f h' => f 3 = x.2 ∧ f 11 = v ∧ f 12 = .int .i64 (l.length : Nat) ∧ f 13 = .int .i64 (x.1 : Nat) ∧ x.1 ≤ l.length ∧ Acc h h' 30 5 x.2 ((l.take x.1).flatMap chgE)) (fun x => l.length - x.1) (0, .snil)
    ⟨rfl, rfl, rfl, rfl, Nat.zero_le _, Acc.nil (Keep.refl _ _)⟩ ?_
  rintro ⟨t, s⟩ f h1 ⟨f3, f11, f12, f13, ht, acc⟩
  simp only at f3 f13 ht acc
  refine wpI_sound (by kernel_rfl) ?_
  by_cases hlt : t < l.length
  · have d1 : decide ((t : Int) < ((l.length : Nat) : Int)) = true := decide_eq_true (by omega)
    have hw := inc64 hlt (by omega)
    have k1 := k.keepN acc.keep
    have hp : l[t]? = some l[t] := List.getElem?_eq_getElem hlt
    have ht1 : l.take (t + 1) = l.take t ++ [l[t]] := List.take_succ_eq_append_getElem hlt
    generalize l[t] = p at hp ht1
    obtain ⟨j, r, x1, x2, x3, x4, _⟩ := srow k1.own hp
    have hpok := k.ok p (List.mem_of_getElem? hp)
    have ld := ses_ld p r
    have cr := ses_cellsE p
    have ldc := ses_ldc p
    have st := ses_st p
    have acc2 := acc.on (Keep.push h1 (.cells (sesE p) 52 none) none_)
    obtain ⟨s', h2, ea, a2⟩ := acc2.elemM sl_28 (by decide) (xs := chgE p) rfl rfl (fun m hm => by
      change m * 5 = _ + 5 at hm
      rw [rows_len chgE_len] at hm
      simp only [List.length_take] at hm
      exact ⟨by simp only [lim]; omega, by simp only [lim]; omega⟩)
    simp only [wpA_skip, wpA_region, wpA_seq, wpA_cond, wpA_block, condI_true, seqQ_normal, goI_out, goI_ops, opsA_nil, opsA_cons, stepA_move, stepA_alloc, stepA_load, stepA_store, stepA_binOp, stepA_indexAddr, stepA_call, thenV_some, thenH_some, thenS_some, eval_tmp, put_some, put_none, aBin_lss, aLoad_eq, loadGo_row, aPlace_ptr, dropC_cells, aStore_eq, storeGo_ptr, aAlloc_eq, get_push_new, set_push, Nat.reduceEqDiff, List.map_cons, List.map_nil, Option.map_some, Nat.zero_le, List.drop_zero, if_true, if_false, lt_52, zc_52, zt_52, f3, f11, f12, f13, d1, x1, x4, ld, cr, st, ldc]
    refine callI_pure cal24 (pSet p hpok _) ?_
    have hlit := lit1cS (h1.push (.cells (sesE p) 52 none)) p
    rw [push_n] at ea
    simp only [wpA_region, seqQ_normal, blkQ_normal, endI_mk, andThen_normal, goI_out, goI_ops, opsA_nil, opsA_cons, stepA_move, stepA_assign, stepA_buildSlice, stepA_binOp, stepA_append, thenV_some, thenH_some, eval_tmp, eval_const, put_some, put_none, aBin_add, absV_int, push_n, Nat.reduceEqDiff, List.map_cons, List.map_nil, if_true, if_false, f13, hlit, ea, hw]
    refine hid_mk ⟨(t + 1, s'), ⟨rfl, f11, f12, rfl, hlt, a2.conv ?_⟩, by simp only; omega⟩
    rw [ht1, List.flatMap_append]
    simp
  · have d1 : decide ((t : Int) < ((l.length : Nat) : Int)) = false := decide_eq_false (by omega)
    rw [List.take_of_length_le (by omega)] at acc
    simp only [wpA_region, wpA_seq, wpA_cond, wpA_exit, wpA_ret, condI_false, seqQ_normal, seqQ_exit, blkQ_exit, endI_mk, goE, andThen_exit, goI_out, goI_ops, opsA_nil, opsA_cons, stepA_move, stepA_assign, stepA_binOp, thenV_some, eval_tmp, put_some, aBin_lss, Nat.reduceEqDiff, if_true, if_false, f3, f12, f13, d1, retA_ret, Try.results14, resultsA_1]
    exact hid_mk acc
theorem sesListNil (h : AHeap) : Pure Try.prog 14 [.pnil] h (.imm 0 []) := by
  refine Pure.of (Clo.imm CloL.nil) ?_
  refine SCalls.enterI (c := _) Try.func14 rfl (by kernel_rfl) (by simp) ?_
  simp only [wpA_region, wpA_seq, wpA_cond, wpA_ret, condI_true, seqQ_normal, seqQ_ret, endI_mk, goI_out, goI_ops, opsA_nil, opsA_cons, stepA_move, stepA_assign, stepA_binOp, thenV_some, eval_tmp, eval_const, put_some, enterF_zero, enterF_succ, nil_nil_eql, absV_pnil, absV_snil, Nat.reduceEqDiff, reduceCtorEq, if_true, if_false, kt_24, retA_ret, Try.results14, resultsA_1]
  exact hid_mk ⟨h, Cast.snil0 h, Keep.refl _ _⟩
/-! ### Find -/
def foundT (g : Int) (l : List Chg) (k t : Int) : List Chg := if mayT t = true then found g l k t else []
theorem found_snoc (g : Int) (l : List Chg) (k t : Int) (p : Chg) : found g (l ++ [p]) k t = found g l k t ++ (if touch g k t p = true then [p] else []) := by
  unfold found
  rw [List.filter_append]
  cases h : touch g k t p <;> simp [h]
theorem found_le (g : Int) (l : List Chg) (k t : Int) : (found g l k t).length ≤ l.length := List.length_filter_le ..
set_option maxHeartbeats 2000000 in
set_option maxRecDepth 10000 in
theorem sesFind (h : AHeap) (i : Nat) (v : V) (room g key time : Int) (l : List Chg) (k : IsSes h i v room g l) : Pure Try.prog 15 [.ptr i 0, .int .i64 key, .int .i64 time] h (.imm (foundT g l key time).length ((foundT g l key time).flatMap chgE)) := by
  refine Pure.acc (rows_clo chgE_clo _) (rows_len chgE_len _) (by decide) (e := 30) (sz := 5) ?_
  refine SCalls.enterI (c := _) Try.func15 rfl (by kernel_rfl) (by simp) ?_
  have hg := k.get
  have hl := k.alen h
  have l40 := k.len
  simp only [wpA_region, wpA_seq, seqQ_normal, goI_out, goI_ops, opsA_nil, opsA_cons, opsA_guardS, gvI_same, slotAt_zero, slotAt_succ, stepA_move, stepA_assign, stepA_binOp, stepA_call, thenV_some, eval_tmp, eval_const, put_some, enterF_zero, enterF_succ, ptr_nil_eql, absV_pnil, absV_snil, Nat.reduceEqDiff, reduceCtorEq, List.map_cons, List.map_nil, if_true, if_false, kt_24]
  refine callI_pure cal19 (pMayT time h) ?_
  unfold foundT
  cases hmt : mayT time
  · simp only [wpA_region, wpA_seq, wpA_cond, wpA_ret, condI_true, seqQ_normal, seqQ_ret, endI_mk, goI_out, goI_ops, opsA_nil, opsA_cons, opsA_guardS, gvI_same, slotAt_zero, slotAt_succ, stepA_assign, stepA_pick, stepA_unOp, thenV_some, pickV_false, eval_tmp, eval_const, put_some, enterF_succ, aUn_not, absV_bool, absV_snil, Nat.reduceEqDiff, if_true, if_false, Bool.not_false, retA_ret, Try.results15, resultsA_1]
    exact hid_mk (Acc.nil (Keep.refl _ _))
  have hti := mayT_iff.1 hmt
  rw [if_pos rfl]
  simp only [wpA_skip, wpA_region, wpA_seq, wpA_cond, wpA_block, wpA_loop, condI_false, seqQ_normal, goI_out, goI_ops, opsA_nil, opsA_cons, opsA_guardS, gvI_same, slotAt_zero, slotAt_succ, stepA_move, stepA_assign, stepA_pick, stepA_load, stepA_nilCheck, stepA_unOp, stepA_fieldAddr, stepA_len, thenV_some, pickV_false, nilV_ptr, eval_tmp, eval_const, put_some, enterF_zero, enterF_succ, aUn_not, absV_int, absV_bool, absV_snil, aField_eq, fieldGo_ptr, aLoad_eq, loadGo_one, aPlace_ptr, dropC_cells, Nat.reduceEqDiff, Nat.reduceAdd, Nat.reduceLeDiff, reduceCtorEq, Nat.zero_add, List.length_cons, List.length_nil, List.drop_zero, List.drop_succ_cons, if_true, if_false, Bool.not_true, ft_49_2, lt_47, hg, hl]
  refine SWp.loopG (α := Nat × V) (fun x f h' => f 0 = .ptr i 0 ∧ f 1 = .int .i64 key ∧ f 2 = .int .i64 time ∧ f 7 = x.2 ∧ f 20 = v ∧ f 21 = .int .i64 (l.length : Nat) ∧ f 22 = .int .i64 (x.1 : Nat) ∧ x.1 ≤ l.length ∧ Acc h h' 30 5 x.2 ((found g (l.take x.1) key time).flatMap chgE)) (fun x => l.length - x.1) (0, .snil)
    ⟨rfl, rfl, rfl, rfl, rfl, rfl, rfl, Nat.zero_le _, Acc.nil (Keep.refl _ _)⟩ ?_
  rintro ⟨t, s⟩ f h1 ⟨f0, f1, f2, f7, f20, f21, f22, ht, acc⟩
  simp only at f7 f22 ht acc
  refine wpI_sound (by kernel_rfl) ?_
  by_cases hlt : t < l.length
  · have d1 : decide ((t : Int) < ((l.length : Nat) : Int)) = true := decide_eq_true (by omega)
    have hw := inc64 hlt (by omega)
    have k1 := k.keepN acc.keep
    have hp : l[t]? = some l[t] := List.getElem?_eq_getElem hlt
    have ht1 : l.take (t + 1) = l.take t ++ [l[t]] := List.take_succ_eq_append_getElem hlt
    have hfs := found_snoc g (l.take t) key time l[t]
    rw [← ht1] at hfs
    generalize l[t] = p at hp ht1 hfs
    obtain ⟨j, r, x1, x2, x3, x4, _⟩ := srow k1.own hp
    have hpok := k.ok p (List.mem_of_getElem? hp)
    have ld := ses_ld p r
    have cr := ses_cellsE p
    have ldc := ses_ldc p
    have st := ses_st p
    have ck : loadGo (some none) (some (sesE p)) = some (.int .i64 p.key) := rfl
    obtain ⟨H, hH⟩ : ∃ y, y = h1.push (.cells (sesE p) 52 none) := ⟨_, rfl⟩
    have gH : H.get h1.n = .cells (sesE p) 52 none := by rw [hH]; exact get_push_new
    have kH : Keep h1 H none_ := by rw [hH]; exact Keep.push _ _ _
    have kk := k1.keepN kH
    have hg1 := kk.get
    have accH := acc.on kH
    have w1 : IntKind.i64.wrap (p.fr - g) = p.fr - g := Go.IntWalk.i64_in _ (by have := hpok.lo; have := hpok.le; have := hpok.hi; have := k.g1; have := k.g2; omega)
    have w2 : IntKind.i64.wrap (p.to + g) = p.to + g := Go.IntWalk.i64_in _ (by have := hpok.lo; have := hpok.le; have := hpok.hi; have := k.g1; have := k.g2; omega)
    simp only [wpA_skip, wpA_region, wpA_seq, wpA_cond, wpA_block, wpA_draw, condI_true, seqQ_normal, goI_out, goI_ops, opsA_nil, opsA_cons, stepA_alloc, stepA_load, stepA_store, stepA_binOp, stepA_indexAddr, thenV_some, thenH_some, thenS_some, eval_tmp, put_some, aBin_lss, aLoad_eq, aPlace_ptr, aStore_eq, storeGo_ptr, aAlloc_eq, get_push_new, set_push, Nat.reduceEqDiff, Option.map_some, if_true, if_false, lt_52, zc_52, zt_52, f20, f21, f22, d1, x1, x4, ld, cr, st]
    rw [← hH]
    cases e1 : (p.key == key)
    · have hn : touch g key time p = false := by
        cases e : touch g key time p
        · rfl
        · have := (touch_iff.1 e).1; simp at e1; omega
      rw [hn] at hfs
      simp only [Bool.false_eq_true, if_false, List.append_nil] at hfs
      refine SWp.drawnS none_ [] (.q 0 (.q 1 (.q 2 (.q 3 (.q 4 (.q 5 (.c 6 (.q 7 (.q 8 (.q 9 (.q 10 (.q 11 (.q 12 (.q 13 (.q 14 (.q 15 (.q 16 (.q 17 (.c 18 (.q 19 (.q 20 (.q 21 (.q 22 (.q 23 (.q 24 (.q 25 .done)))))))))))))))))))))))))) (by kernel_rfl) (by kernel_rfl) (by kernel_rfl) ?_
      simp only [siI_q, sqI_some, mOk_none', implies_true, qI_nil, qI_cons, qI_guard, qgI_ft, thenQ_some, q_move, q_load, q_binOp, q_fieldAddr, goI_mk, slotAt_zero, slotAt_succ, eval_tmp, put_some, put_none, aBin_eql, aField_eq, fieldGo_ptr, aLoad_eq, aPlace_ptr, dropC_cells, List.getElem?_cons_zero, List.getElem?_cons_succ, Nat.reduceEqDiff, Nat.add_zero, Nat.zero_le, List.drop_zero, true_and, if_true, if_false, ft_52_0, lt_2, f1, gH, ck, e1]
      refine siI_cskip rfl rfl ?_
      simp only [siI_q, sqI_some, mOk_none', implies_true, qI_nil, qI_cons, qI_guard, qgI_ft, thenQ_some, q_move, q_pick, goI_mk, slotAt_zero, slotAt_succ, pickV_false, eval_tmp, eval_const, put_some, put_none, absV_bool, List.getElem?_cons_zero, List.getElem?_cons_succ, Nat.reduceEqDiff, true_and, if_true, if_false]
      refine siI_cskip rfl rfl ?_
      simp only [siI_done, siI_q, sqI_some, mOk_none', implies_true, qI_nil, qI_cons, qI_guard, qgI_ft, thenQ_some, q_pick, wpA_skip, wpA_region, wpA_cond, condI_false, seqQ_normal, blkQ_normal, endI_mk, andThen_normal, goI_out, goI_ops, goI_mk, opsA_nil, opsA_cons, slotAt_zero, slotAt_succ, stepA_move, stepA_binOp, thenV_some, pickV_false, eval_tmp, eval_const, put_some, put_none, aBin_add, absV_int, absV_bool, List.getElem?_cons_zero, List.getElem?_cons_succ, Nat.reduceEqDiff, true_and, if_true, if_false, f22, hw]
      exact hid_mk ⟨(t + 1, s), ⟨f0, f1, f2, f7, f20, f21, rfl, hlt, by simp only; rw [hfs]; exact accH⟩, by simp only; omega⟩
    have e1' : p.key = key := by simpa using e1
    cases e2 : decide (p.fr - g ≤ time)
    · have hn : touch g key time p = false := by
        cases e : touch g key time p
        · rfl
        · have := (touch_iff.1 e).2.1; have := of_decide_eq_false e2; omega
      rw [hn] at hfs
      simp only [Bool.false_eq_true, if_false, List.append_nil] at hfs
      refine SWp.drawnS none_ [] (.q 0 (.q 1 (.q 2 (.q 3 (.q 4 (.q 5 (.c 6 (.q 7 (.q 8 (.q 9 (.q 10 (.q 11 (.q 12 (.q 13 (.q 14 (.q 15 (.q 16 (.q 17 (.c 18 (.q 19 (.q 20 (.q 21 (.q 22 (.q 23 (.q 24 (.q 25 .done)))))))))))))))))))))))))) (by kernel_rfl) (by kernel_rfl) (by kernel_rfl) ?_
      simp only [siI_q, sqI_some, mOk_none', implies_true, qI_nil, qI_cons, qI_guard, qgI_same, thenQ_some, q_move, q_load, q_binOp, q_fieldAddr, goI_mk, slotAt_zero, slotAt_succ, eval_tmp, put_some, put_none, aBin_eql, aField_eq, fieldGo_ptr, aLoad_eq, loadGo_row, aPlace_ptr, dropC_cells, List.getElem?_cons_zero, List.getElem?_cons_succ, Nat.reduceEqDiff, Nat.add_zero, Nat.zero_le, List.drop_zero, true_and, if_true, if_false, ft_52_0, lt_2, lt_52, f1, gH, ck, e1, ldc]
      refine siI_c rfl rfl rfl (fun h' _ => pFirstS p hpok h') ?_
      simp only [siI_q, sqI_some, mOk_none', implies_true, qI_nil, qI_cons, qI_guard, qgI_same, qgI_ft, thenQ_some, q_move, q_pick, q_load, q_nilCheck, q_binOp, q_fieldAddr, goI_mk, slotAt_zero, slotAt_succ, pickV_true, nilV_ptr, eval_tmp, eval_const, put_some, put_none, aBin_sub, aBin_leq, absV_bool, aField_eq, fieldGo_ptr, aLoad_eq, loadGo_one, aPlace_ptr, dropC_cells, List.getElem?_cons_zero, List.getElem?_cons_succ, Nat.reduceEqDiff, Nat.reduceAdd, Nat.reduceLeDiff, reduceCtorEq, Nat.zero_add, List.length_cons, List.length_nil, List.drop_zero, List.drop_succ_cons, true_and, if_true, if_false, ft_49_1, lt_2, f0, f2, hg1, w1, e2]
      refine siI_cskip rfl rfl ?_
      simp only [siI_done, siI_q, sqI_some, mOk_none', implies_true, qI_nil, qI_cons, qI_guard, qgI_ft, thenQ_some, q_pick, wpA_skip, wpA_region, wpA_cond, condI_false, seqQ_normal, blkQ_normal, endI_mk, andThen_normal, goI_out, goI_ops, goI_mk, opsA_nil, opsA_cons, slotAt_zero, slotAt_succ, stepA_move, stepA_binOp, thenV_some, pickV_false, eval_tmp, eval_const, put_some, put_none, aBin_add, absV_int, absV_bool, List.getElem?_cons_zero, List.getElem?_cons_succ, Nat.reduceEqDiff, true_and, if_true, if_false, f22, hw]
      exact hid_mk ⟨(t + 1, s), ⟨f0, f1, f2, f7, f20, f21, rfl, hlt, by simp only; rw [hfs]; exact accH⟩, by simp only; omega⟩
    cases e3 : decide (time ≤ p.to + g)
    · have hn : touch g key time p = false := by
        cases e : touch g key time p
        · rfl
        · have := (touch_iff.1 e).2.2; have := of_decide_eq_false e3; omega
      rw [hn] at hfs
      simp only [Bool.false_eq_true, if_false, List.append_nil] at hfs
      refine SWp.drawnS none_ [] (.q 0 (.q 1 (.q 2 (.q 3 (.q 4 (.q 5 (.c 6 (.q 7 (.q 8 (.q 9 (.q 10 (.q 11 (.q 12 (.q 13 (.q 14 (.q 15 (.q 16 (.q 17 (.c 18 (.q 19 (.q 20 (.q 21 (.q 22 (.q 23 (.q 24 (.q 25 .done)))))))))))))))))))))))))) (by kernel_rfl) (by kernel_rfl) (by kernel_rfl) ?_
      simp only [siI_q, sqI_some, mOk_none', implies_true, qI_nil, qI_cons, qI_guard, qgI_same, thenQ_some, q_move, q_load, q_binOp, q_fieldAddr, goI_mk, slotAt_zero, slotAt_succ, eval_tmp, put_some, put_none, aBin_eql, aField_eq, fieldGo_ptr, aLoad_eq, loadGo_row, aPlace_ptr, dropC_cells, List.getElem?_cons_zero, List.getElem?_cons_succ, Nat.reduceEqDiff, Nat.add_zero, Nat.zero_le, List.drop_zero, true_and, if_true, if_false, ft_52_0, lt_2, lt_52, f1, gH, ck, e1, ldc]
      refine siI_c rfl rfl rfl (fun h' _ => pFirstS p hpok h') ?_
      simp only [siI_q, sqI_some, mOk_none', implies_true, qI_nil, qI_cons, qI_guard, qgI_same, thenQ_some, q_move, q_pick, q_load, q_nilCheck, q_binOp, q_fieldAddr, goI_mk, slotAt_zero, slotAt_succ, pickV_true, nilV_ptr, eval_tmp, eval_const, put_some, put_none, aBin_sub, aBin_leq, absV_bool, aField_eq, fieldGo_ptr, aLoad_eq, loadGo_one, loadGo_row, aPlace_ptr, dropC_cells, List.getElem?_cons_zero, List.getElem?_cons_succ, Nat.reduceEqDiff, Nat.reduceAdd, Nat.reduceLeDiff, reduceCtorEq, Nat.zero_add, Nat.zero_le, List.length_cons, List.length_nil, List.drop_zero, List.drop_succ_cons, true_and, if_true, if_false, ft_49_1, lt_2, lt_52, f0, f2, gH, hg1, ldc, w1, e2]
      refine siI_c rfl rfl rfl (fun h' _ => pLastS p hpok h') ?_
      simp only [siI_done, siI_q, sqI_some, mOk_none', implies_true, qI_nil, qI_cons, qI_guard, qgI_same, thenQ_some, q_move, q_pick, q_load, q_nilCheck, q_binOp, q_fieldAddr, wpA_skip, wpA_region, wpA_cond, condI_false, seqQ_normal, blkQ_normal, endI_mk, andThen_normal, goI_out, goI_ops, goI_mk, opsA_nil, opsA_cons, slotAt_zero, slotAt_succ, stepA_move, stepA_binOp, thenV_some, pickV_true, nilV_ptr, eval_tmp, eval_const, put_some, put_none, aBin_add, aBin_leq, absV_int, absV_bool, aField_eq, fieldGo_ptr, aLoad_eq, loadGo_one, aPlace_ptr, dropC_cells, List.getElem?_cons_zero, List.getElem?_cons_succ, Nat.reduceEqDiff, Nat.reduceAdd, Nat.reduceLeDiff, reduceCtorEq, Nat.zero_add, List.length_cons, List.length_nil, List.drop_zero, List.drop_succ_cons, true_and, if_true, if_false, ft_49_1, lt_2, f0, f22, hg1, w2, e3, hw]
      exact hid_mk ⟨(t + 1, s), ⟨f0, f1, f2, f7, f20, f21, rfl, hlt, by simp only; rw [hfs]; exact accH⟩, by simp only; omega⟩
    · have hn : touch g key time p = true := touch_iff.2 ⟨e1', of_decide_eq_true e2, of_decide_eq_true e3⟩
      rw [hn, if_pos rfl] at hfs
      obtain ⟨s', h2, ea, a2⟩ := accH.elemM sl_28 (by decide) (xs := chgE p) rfl rfl (fun m hm => by
        change m * 5 = _ + 5 at hm
        rw [rows_len chgE_len] at hm
        have := found_le g (l.take t) key time
        simp only [List.length_take] at this
        exact ⟨by simp only [lim]; omega, by simp only [lim]; omega⟩)
      have hlit := lit1cS H p
      refine SWp.drawnS none_ [] (.q 0 (.q 1 (.q 2 (.q 3 (.q 4 (.q 5 (.c 6 (.q 7 (.q 8 (.q 9 (.q 10 (.q 11 (.q 12 (.q 13 (.q 14 (.q 15 (.q 16 (.q 17 (.c 18 (.q 19 (.q 20 (.q 21 (.q 22 (.q 23 (.q 24 (.q 25 .done)))))))))))))))))))))))))) (by kernel_rfl) (by kernel_rfl) (by kernel_rfl) ?_
      simp only [siI_q, sqI_some, mOk_none', implies_true, qI_nil, qI_cons, qI_guard, qgI_same, thenQ_some, q_move, q_load, q_binOp, q_fieldAddr, goI_mk, slotAt_zero, slotAt_succ, eval_tmp, put_some, put_none, aBin_eql, aField_eq, fieldGo_ptr, aLoad_eq, loadGo_row, aPlace_ptr, dropC_cells, List.getElem?_cons_zero, List.getElem?_cons_succ, Nat.reduceEqDiff, Nat.add_zero, Nat.zero_le, List.drop_zero, true_and, if_true, if_false, ft_52_0, lt_2, lt_52, f1, gH, ck, e1, ldc]
      refine siI_c rfl rfl rfl (fun h' _ => pFirstS p hpok h') ?_
      simp only [siI_q, sqI_some, mOk_none', implies_true, qI_nil, qI_cons, qI_guard, qgI_same, thenQ_some, q_move, q_pick, q_load, q_nilCheck, q_binOp, q_fieldAddr, goI_mk, slotAt_zero, slotAt_succ, pickV_true, nilV_ptr, eval_tmp, eval_const, put_some, put_none, aBin_sub, aBin_leq, absV_bool, aField_eq, fieldGo_ptr, aLoad_eq, loadGo_one, loadGo_row, aPlace_ptr, dropC_cells, List.getElem?_cons_zero, List.getElem?_cons_succ, Nat.reduceEqDiff, Nat.reduceAdd, Nat.reduceLeDiff, reduceCtorEq, Nat.zero_add, Nat.zero_le, List.length_cons, List.length_nil, List.drop_zero, List.drop_succ_cons, true_and, if_true, if_false, ft_49_1, lt_2, lt_52, f0, f2, gH, hg1, ldc, w1, e2]
      refine siI_c rfl rfl rfl (fun h' _ => pLastS p hpok h') ?_
      simp only [siI_done, siI_q, sqI_some, mOk_none', implies_true, qI_nil, qI_cons, qI_guard, qgI_same, thenQ_some, q_move, q_pick, q_load, q_nilCheck, q_binOp, q_fieldAddr, wpA_region, wpA_cond, condI_true, seqQ_normal, goI_out, goI_ops, goI_mk, opsA_cons, slotAt_zero, slotAt_succ, stepA_move, stepA_load, stepA_call, thenV_some, pickV_true, nilV_ptr, eval_tmp, eval_const, put_some, put_none, aBin_add, aBin_leq, absV_bool, aField_eq, fieldGo_ptr, aLoad_eq, loadGo_one, loadGo_row, aPlace_ptr, dropC_cells, List.getElem?_cons_zero, List.getElem?_cons_succ, Nat.reduceEqDiff, Nat.reduceAdd, Nat.reduceLeDiff, reduceCtorEq, List.map_cons, List.map_nil, Nat.zero_add, Nat.zero_le, List.length_cons, List.length_nil, List.drop_zero, List.drop_succ_cons, true_and, if_true, if_false, ft_49_1, lt_2, lt_52, f0, f7, gH, hg1, ldc, w2, e3]
      refine callI_pure cal24 (pSet p hpok _) ?_
      simp only [wpA_region, seqQ_normal, blkQ_normal, endI_mk, andThen_normal, goI_out, goI_ops, opsA_nil, opsA_cons, stepA_move, stepA_assign, stepA_buildSlice, stepA_binOp, stepA_append, thenV_some, thenH_some, eval_tmp, eval_const, put_some, put_none, aBin_add, absV_int, Nat.reduceEqDiff, List.map_cons, List.map_nil, if_true, if_false, f22, hlit, ea, hw]
      refine hid_mk ⟨(t + 1, s'), ⟨f0, f1, f2, rfl, f20, f21, rfl, hlt, a2.conv ?_⟩, by simp only; omega⟩
      rw [hfs, List.flatMap_append]
      simp
  · have d1 : decide ((t : Int) < ((l.length : Nat) : Int)) = false := decide_eq_false (by omega)
    rw [List.take_of_length_le (by omega)] at acc
    simp only [wpA_region, wpA_seq, wpA_cond, wpA_exit, wpA_ret, condI_false, seqQ_normal, seqQ_exit, blkQ_exit, endI_mk, goE, andThen_exit, goI_out, goI_ops, opsA_nil, opsA_cons, stepA_move, stepA_assign, stepA_binOp, thenV_some, eval_tmp, put_some, aBin_lss, Nat.reduceEqDiff, if_true, if_false, f7, f21, f22, d1, retA_ret, Try.results15, resultsA_1]
    exact hid_mk acc
theorem sesFindNil (h : AHeap) (key time : Int) : Pure Try.prog 15 [.pnil, .int .i64 key, .int .i64 time] h (.imm 0 []) := by
  refine Pure.of (Clo.imm CloL.nil) ?_
  refine SCalls.enterI (c := _) Try.func15 rfl (by kernel_rfl) (by simp) ?_
  simp only [wpA_region, wpA_seq, wpA_cond, wpA_ret, condI_true, seqQ_normal, seqQ_ret, endI_mk, goI_out, goI_ops, opsA_nil, opsA_cons, opsA_guardS, gvI_tf, slotAt_zero, slotAt_succ, stepA_move, stepA_assign, stepA_pick, stepA_binOp, thenV_some, pickV_true, eval_tmp, eval_const, put_some, enterF_zero, enterF_succ, nil_nil_eql, absV_bool, absV_pnil, absV_snil, Nat.reduceEqDiff, reduceCtorEq, if_true, if_false, kt_24, retA_ret, Try.results15, resultsA_1]
  exact hid_mk ⟨h, Cast.snil0 h, Keep.refl _ _⟩
end Go.Proofs.Ytjphnabogfiahaa.Pk
