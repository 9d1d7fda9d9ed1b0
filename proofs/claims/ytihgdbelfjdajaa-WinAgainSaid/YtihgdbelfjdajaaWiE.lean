/-
  What functions of the program do, told of abstract states. Conditions: as each theorem says.
-/
import Derived.Test.YtihgdbelfjdajaaWiD
namespace Go.Proofs.Ytihgdbelfjdajaa.Pk
open Go Go.Proofs Go.Proofs.Ytihgdbelfjdajaa.Ab
set_option linter.unusedVariables false
set_option linter.unusedSimpArgs false
theorem alts_1 {d : Option Tmp} {K : Kt} {f : AFrame} {v : V} {h' : AHeap} (g : @goI K (f.put d v) h') : @altsI (some [(v, h')]) d K f := by
  intro v2 h2 hm
  simp only [List.mem_singleton, Prod.mk.injEq] at hm
  obtain ⟨rfl, rfl⟩ := hm
  exact g
theorem alts_eq {d : Option Tmp} {K : Kt} {f : AFrame} {v : V} {h' : AHeap} {x : Option (List (V × AHeap))} (e : x = some [(v, h')]) (g : @goI K (f.put d v) h') : @altsI x d K f := e ▸ alts_1 g
theorem len_snil34 (h : AHeap) : aLen Try.prog 33 .snil h = some (.int .i64 0) := aLen_snil kt_33
set_option maxHeartbeats 1000000 in
set_option maxRecDepth 20000 in
theorem winExpNo (h : AHeap) (i m cl s : Nat) (room size before key fr v : Int) (k : IsWin h i m room size [(s, pE key fr, .int .i64 v)] cl) (hs : s < cl) (h0 : 0 ≤ fr) (h1 : fr ≤ 2 ^ 41) (hb : before < fr + size) :
    SCalls Try.prog 8 [.ptr i 0, .int .i64 before] h (fun r h' => r = .snil ∧ Keep h h' none_) := by
  refine SCalls.enterI (c := _) Try.func8 rfl (by kernel_rfl) (by simp) ?_
  have gi := k.get
  have gm := k.map
  simp only [wpA_region, wpA_seq, seqQ_normal, goI_out, goI_ops, opsA_nil, opsA_cons, stepA_move, stepA_assign, stepA_call, eval_tmp, eval_const, put_some, enterF_zero, enterF_succ, absV_snil, Nat.reduceEqDiff, reduceCtorEq, List.map_cons, List.map_nil, if_true, if_false]
  refine callI_pure cal16 (winMiss h i m cl room size _ k) ?_
  obtain ⟨q, hq⟩ := mt_114x
  have hrg := range_map hq gm
  simp only [wpA_skip, wpA_region, wpA_seq, wpA_cond, wpA_block, wpA_loop, condI_false, seqQ_normal, goI_out, goI_ops, opsA_nil, opsA_cons, stepA_move, stepA_assign, stepA_load, stepA_nilCheck, stepA_fieldAddr, stepA_range, thenV_some, thenH_some, nilV_ptr, eval_tmp, eval_const, put_some, enterF_zero, enterF_succ, absV_snil, aField_eq, fieldGo_ptr, aLoad_eq, loadGo_one, aPlace_ptr, dropC_cells, Nat.reduceEqDiff, Nat.reduceAdd, Nat.reduceLeDiff, reduceCtorEq, Nat.zero_add, List.length_cons, List.length_nil, List.drop_zero, List.drop_succ_cons, if_true, if_false, ft_49_2, lt_47, gi, hrg]
  refine SWp.loopG (α := Bool) (fun x f h' => f 0 = .ptr i 0 ∧ f 1 = .int .i64 before ∧ f 13 = .ptr h.n 0 ∧ f 5 = .snil ∧ Keep h h' none_ ∧ h.n < h'.n ∧ h'.get h.n = .iter m cl (if x then [s] else []) cl) (fun x => if x then 0 else 1) false
    ⟨rfl, rfl, rfl, rfl, Keep.push _ _ _, by simp only [push_n]; omega, get_push_new⟩ ?_
  rintro x f h' ⟨f0, f1, f13, f5, kH, hn, hr⟩
  have k1 := k.keepN kH
  refine wpI_sound (by kernel_rfl) ?_
  simp only [wpA_region, wpA_seq, opsA_cons, stepA_next, eval_tmp, f13]
  cases x
  · refine alts_eq (next_first hr k1.map hs) ?_
    generalize hH : h'.set h.n (.iter m cl [s] cl) = H
    have kS : Keep h H none_ := by rw [← hH]; exact kH.setNew (Nat.le_refl _) _
    have nH : H.n = h'.n := by rw [← hH]; rfl
    have gr : H.get h.n = .iter m cl [s] cl := by rw [← hH]; exact get_set_same
    have k2 := k.keepN kS
    have gi2 := k2.get
    have he := entry_1 gr k2.map
    have pc : (pE key fr).cells = some [.int .i64 key, .int .i64 fr] := rfl
    have hw : IntKind.i64.wrap (fr + size) = fr + size := Go.IntWalk.i64_in _ (by have := k.s1; have := k.s2; omega)
    have d1 : decide (fr + size ≤ before) = false := decide_eq_false (by omega)
    simp only [wpA_skip, wpA_region, wpA_seq, wpA_cond, wpA_block, wpA_draw, condI_true, seqQ_normal, goI_out, goI_ops, opsA_nil, opsA_cons, stepA_alloc, stepA_store, stepA_entry, stepA_extract, thenV_some, thenH_some, thenS_some, extV_zero, eval_tmp, put_some, one_int, all_nil, all_cons, aStore_eq, storeGo_ptr, setC_row, setAll_nil, setAll_cons, aAlloc_eq, get_push_new, set_push, Nat.reduceEqDiff, Nat.reduceAdd, Option.map_some, Nat.zero_add, List.length_cons, List.length_nil, List.set_cons_zero, List.set_cons_succ, if_true, if_false, Bool.and_self, Nat.le_refl, zc_51, zt_51, f13, he, pc]
    have gi3 : ∀ A, (H.push A).get i = .cells [.int .i64 room, .int .i64 size, .map m] 49 none := fun A => (get_push_lt k2.lt).trans gi2
    refine SWp.drawnS none_ [] (.q 0 (.q 1 (.q 2 (.q 3 (.q 4 (.q 5 (.q 6 (.q 7 (.q 8 .done))))))))) (by kernel_rfl) (by kernel_rfl) (by kernel_rfl) ?_
    simp only [siI_done, siI_q, sqI_some, mOk_none', implies_true, qI_nil, qI_cons, thenQ_some, q_move, q_load, q_nilCheck, q_binOp, q_fieldAddr, wpA_skip, wpA_cond, condI_false, seqQ_normal, blkQ_normal, endI_mk, andThen_normal, goI_out, goI_mk, nilV_ptr, eval_tmp, put_some, put_none, aBin_add, aBin_leq, aField_eq, fieldGo_ptr, aLoad_eq, loadGo_one, aPlace_ptr, dropC_cells, get_push_new, List.getElem?_cons_zero, List.getElem?_cons_succ, Nat.reduceEqDiff, Nat.reduceAdd, Nat.reduceLeDiff, reduceCtorEq, Nat.zero_add, List.length_cons, List.length_nil, List.drop_zero, List.drop_succ_cons, true_and, if_true, if_false, ft_49_1, ft_51_1, lt_2, f0, f1, gi3, hw, d1]
    refine hid_mk ⟨true, ⟨f0, f1, f13, f5, kS.then_push _, by simp only [push_n]; omega, (get_push_lt (by omega)).trans gr⟩, by simp⟩
  · refine alts_eq (next_end1 hr k1.map hs) ?_
    simp only [wpA_region, wpA_seq, wpA_cond, wpA_exit, condI_false, seqQ_normal, seqQ_exit, blkQ_exit, endI_mk, goE, andThen_exit, goI_out, goI_ops, opsA_nil, opsA_cons, stepA_move, stepA_extract, stepA_call, thenV_some, extV_zero, eval_tmp, eval_func, put_some, Nat.reduceEqDiff, List.map_cons, List.map_nil, if_true, if_false, f5]
    refine callI_pure cal18 (sort1 h' .snil _ 0 (.inl rfl) (len_snil34 h')) ?_
    simp only [wpA_region, wpA_seq, wpA_ret, seqQ_normal, endI_mk, goI_out, goI_ops, opsA_nil, opsA_cons, stepA_move, stepA_assign, eval_tmp, put_some, Nat.reduceEqDiff, if_true, if_false, f5, retA_ret, Try.results8, resultsA_1]
    exact hid_mk ⟨rfl, kH⟩
set_option maxHeartbeats 2000000 in
set_option maxRecDepth 20000 in
theorem winExpYes (h : AHeap) (i m cl s : Nat) (room size before key fr v : Int) (k : IsWin h i m room size [(s, pE key fr, .int .i64 v)] cl) (hs : s < cl) (h0 : 0 ≤ fr) (h1 : fr ≤ 2 ^ 41) (hb : fr + size ≤ before) :
    SCalls Try.prog 8 [.ptr i 0, .int .i64 before] h (fun r h' => Keep h h' (fun q => q = m) ∧ IsWin h' i m room size [] cl ∧ Own h' 30 5 r (chgE ⟨key, fr, fr + size, 0, true⟩) ∧ (∀ j, idOf r = some j → h.n ≤ j)) := by
  refine SCalls.enterI (c := _) Try.func8 rfl (by kernel_rfl) (by simp) ?_
  have gi := k.get
  have gm := k.map
  simp only [wpA_region, wpA_seq, seqQ_normal, goI_out, goI_ops, opsA_nil, opsA_cons, stepA_move, stepA_assign, stepA_call, eval_tmp, eval_const, put_some, enterF_zero, enterF_succ, absV_snil, Nat.reduceEqDiff, reduceCtorEq, List.map_cons, List.map_nil, if_true, if_false]
  refine callI_pure cal16 (winMiss h i m cl room size _ k) ?_
  obtain ⟨q, hq⟩ := mt_114x
  have hrg := range_map hq gm
  simp only [wpA_skip, wpA_region, wpA_seq, wpA_cond, wpA_block, wpA_loop, condI_false, seqQ_normal, goI_out, goI_ops, opsA_nil, opsA_cons, stepA_move, stepA_assign, stepA_load, stepA_nilCheck, stepA_fieldAddr, stepA_range, thenV_some, thenH_some, nilV_ptr, eval_tmp, eval_const, put_some, enterF_zero, enterF_succ, absV_snil, aField_eq, fieldGo_ptr, aLoad_eq, loadGo_one, aPlace_ptr, dropC_cells, Nat.reduceEqDiff, Nat.reduceAdd, Nat.reduceLeDiff, reduceCtorEq, Nat.zero_add, List.length_cons, List.length_nil, List.drop_zero, List.drop_succ_cons, if_true, if_false, ft_49_2, lt_47, gi, hrg]
  refine SWp.loopG (α := Bool) (fun x f h' => f 0 = .ptr i 0 ∧ f 1 = .int .i64 before ∧ f 13 = .ptr h.n 0 ∧ h.n < h'.n ∧
    ((x = false ∧ f 5 = .snil ∧ Keep h h' none_ ∧ h'.get h.n = .iter m cl [] cl) ∨ (x = true ∧ Keep h h' (fun q => q = m) ∧ h'.get h.n = .iter m cl [s] cl ∧ IsWin h' i m room size [] cl ∧ Own h' 30 5 (f 5) (chgE ⟨key, fr, fr + size, 0, true⟩) ∧ (∀ j, idOf (f 5) = some j → h.n ≤ j)))) (fun x => if x then 0 else 1) false
    ⟨rfl, rfl, rfl, by simp only [push_n]; omega, .inl ⟨rfl, rfl, Keep.push _ _ _, get_push_new⟩⟩ ?_
  rintro x f h' ⟨f0, f1, f13, hn, hst⟩
  refine wpI_sound (by kernel_rfl) ?_
  simp only [wpA_region, wpA_seq, opsA_cons, stepA_next, eval_tmp, f13]
  rcases hst with ⟨rfl, f5, kH, hr⟩ | ⟨rfl, kH, hr, kw, ow, hnw⟩
  · have k1 := k.keepN kH
    refine alts_eq (next_first hr k1.map hs) ?_
    generalize hH : h'.set h.n (.iter m cl [s] cl) = H
    have kS : Keep h H none_ := by rw [← hH]; exact kH.setNew (Nat.le_refl _) _
    have nH : H.n = h'.n := by rw [← hH]; rfl
    have gr : H.get h.n = .iter m cl [s] cl := by rw [← hH]; exact get_set_same
    have k2 := k.keepN kS
    have gi2 := k2.get
    have he := entry_1 gr k2.map
    have pc : (pE key fr).cells = some [.int .i64 key, .int .i64 fr] := rfl
    have hw : IntKind.i64.wrap (fr + size) = fr + size := Go.IntWalk.i64_in _ (by have := k.s1; have := k.s2; omega)
    have d1 : decide (fr + size ≤ before) = true := decide_eq_true hb
    simp only [wpA_skip, wpA_region, wpA_seq, wpA_cond, wpA_block, wpA_draw, condI_true, seqQ_normal, goI_out, goI_ops, opsA_nil, opsA_cons, stepA_alloc, stepA_store, stepA_entry, stepA_extract, thenV_some, thenH_some, thenS_some, extV_zero, eval_tmp, put_some, one_int, all_nil, all_cons, aStore_eq, storeGo_ptr, setC_row, setAll_nil, setAll_cons, aAlloc_eq, get_push_new, set_push, Nat.reduceEqDiff, Nat.reduceAdd, Option.map_some, Nat.zero_add, List.length_cons, List.length_nil, List.set_cons_zero, List.set_cons_succ, if_true, if_false, Bool.and_self, Nat.le_refl, zc_51, zt_51, f13, he, pc]
    have gi3 : ∀ A, (H.push A).get i = .cells [.int .i64 room, .int .i64 size, .map m] 49 none := fun A => (get_push_lt k2.lt).trans gi2
    refine SWp.drawnS none_ [] (.q 0 (.q 1 (.q 2 (.q 3 (.q 4 (.q 5 (.q 6 (.q 7 (.q 8 .done))))))))) (by kernel_rfl) (by kernel_rfl) (by kernel_rfl) ?_
    simp only [siI_done, siI_q, sqI_some, mOk_none', implies_true, qI_nil, qI_cons, thenQ_some, q_move, q_load, q_nilCheck, q_binOp, q_fieldAddr, wpA_region, wpA_seq, wpA_cond, condI_true, seqQ_normal, goI_out, goI_ops, goI_mk, opsA_cons, stepA_move, stepA_load, stepA_call, thenV_some, nilV_ptr, eval_tmp, put_some, put_none, aBin_add, aBin_leq, aField_eq, fieldGo_ptr, aLoad_eq, loadGo_one, loadGo_row, aPlace_ptr, dropC_cells, get_push_new, List.getElem?_cons_zero, List.getElem?_cons_succ, Nat.reduceEqDiff, Nat.reduceAdd, Nat.reduceLeDiff, reduceCtorEq, List.map_cons, List.map_nil, Nat.zero_add, Nat.zero_le, List.length_cons, List.length_nil, List.drop_zero, List.drop_succ_cons, List.take_succ_cons, List.take_nil, true_and, if_true, if_false, Nat.le_refl, ft_49_1, ft_51_1, lt_2, lt_51, f0, f1, gi3, hw, d1]
    have kP : Keep h (H.push (.cells [.int .i64 key, .int .i64 fr] 51 none)) none_ := kS.then_push _
    have grP : (H.push (.cells [.int .i64 key, .int .i64 fr] 51 none)).get h.n = .iter m cl [s] cl := (get_push_lt (by omega)).trans gr
    have gpP : (H.push (.cells [.int .i64 key, .int .i64 fr] 51 none)).get H.n = .cells [.int .i64 key, .int .i64 fr] 51 none := get_push_new
    have nP : (H.push (.cells [.int .i64 key, .int .i64 fr] 51 none)).n = H.n + 1 := rfl
    generalize H.push (.cells [.int .i64 key, .int .i64 fr] 51 none) = HP at kP grP gpP nP ⊢
    have k3 := k.keepN kP
    have lp : loadGo (some (some 2)) (some [.int .i64 key, .int .i64 fr]) = some (.agg [.int .i64 key, .int .i64 fr]) := rfl
    simp only [f5]
    refine callI_pure cal17 (winGone HP i m cl room size key fr _ k3 h0 h1) ?_
    have acc : Acc HP HP 30 5 .snil [] := Acc.nil (Keep.refl _ _)
    obtain ⟨s', h2, ea, a2⟩ := acc.elemM sl_33 (by decide) (xs := chgE ⟨key, fr, fr + size, 0, true⟩) rfl rfl (fun m hm => by
      change m * 5 = 0 + 5 at hm
      exact ⟨by simp only [lim]; omega, by simp only [lim]; omega⟩)
    simp only [wpA_draw, seqQ_normal, goI_out, goI_ops, opsA_nil, opsA_cons, stepA_assign, stepA_buildSlice, stepA_append, thenH_some, eval_tmp, put_some, put_none, Nat.reduceEqDiff, List.map_cons, List.map_nil, if_true, if_false, lit1c, ea]
    have kA := a2.keep
    have k4 := k3.keepN kA
    have gp2 := (kA.get H.n (by omega) (by simp [none_])).trans gpP
    have gr2 := (kA.get h.n (by omega) (by simp [none_])).trans grP
    have gi4 := k4.get
    have hdel : aDelete Try.prog 47 (.map m) (.agg [.int .i64 key, .int .i64 fr]) h2 = some (h2.set m (.map [] cl)) := del_1 key fr v k4.map
    refine SWp.drawnS none_ [5] (.q 0 (.q 1 (.q 2 (.q 3 (.q 4 (.a 5 .done)))))) (by kernel_rfl) (by kernel_rfl) (by kernel_rfl) ?_
    simp only [siI_done, siI_q, siI_a, sqI_some, saI_some, mOk_none', implies_true, qI_nil, qI_cons, thenQ_some, q_move, q_load, q_nilCheck, q_fieldAddr, blkQ_normal, endI_mk, andThen_normal, goI_out, goI_ops, goI_mk, opsA_nil, opsA_cons, stepA_delete, thenH_some, nilV_ptr, eval_tmp, put_some, put_none, aField_eq, fieldGo_ptr, aLoad_eq, loadGo_one, aPlace_ptr, dropC_cells, List.getElem?_cons_zero, List.getElem?_cons_succ, Nat.reduceEqDiff, Nat.reduceAdd, Nat.reduceLeDiff, reduceCtorEq, Option.map_some, Nat.zero_add, Nat.zero_le, List.length_cons, List.length_nil, List.drop_zero, List.drop_succ_cons, true_and, if_true, if_false, ft_49_2, lt_47, lt_51, f0, gi4, gp2, lp, hdel]
    have kM : Keep h2 (h2.set m (.map [] cl)) (fun q => q = m) := Keep.set _ _ _
    have il := k.lt
    have ml := k.ml
    have n2 := kA.n
    have o2 : Own (h2.set m (.map [] cl)) 30 5 s' (chgE ⟨key, fr, fr + size, 0, true⟩) := (a2.conv (List.nil_append _)).own.keep kM fun j hj hm => by have := a2.new j hj; omega
    refine hid_mk ⟨true, ⟨f0, f1, f13, ?_, .inr ⟨rfl, ((kP.trans' kA).up).trans' kM, (kM.get h.n (by omega) (by omega)).trans gr2, ⟨(kM.get i k4.lt (by exact k.ne)).trans gi4, get_set_same, k.ne, k4.lt, k4.ml, k.s1, k.s2⟩, o2, fun j hj => by have := a2.new j hj; omega⟩⟩, by simp⟩
    show h.n < h2.n
    omega
  · refine alts_eq (next_end0 hr kw.map) ?_
    simp only [wpA_region, wpA_seq, wpA_cond, wpA_exit, condI_false, seqQ_normal, seqQ_exit, blkQ_exit, endI_mk, goE, andThen_exit, goI_out, goI_ops, opsA_nil, opsA_cons, stepA_move, stepA_extract, stepA_call, thenV_some, extV_zero, eval_tmp, eval_func, put_some, Nat.reduceEqDiff, List.map_cons, List.map_nil, if_true, if_false]
    have hlen : aLen Try.prog 33 (f 5) h' = some (.int .i64 1) := by
      have := ow.length (by decide) Try.prog kt_33
      rw [chgE_len] at this
      exact this
    refine callI_pure cal18 (sort1 h' (f 5) _ 1 (.inr rfl) hlen) ?_
    simp only [wpA_region, wpA_seq, wpA_ret, seqQ_normal, endI_mk, goI_out, goI_ops, opsA_nil, opsA_cons, stepA_move, stepA_assign, eval_tmp, put_some, Nat.reduceEqDiff, if_true, if_false, retA_ret, Try.results8, resultsA_1]
    exact hid_mk ⟨kH, kw, ow, hnw⟩
end Go.Proofs.Ytihgdbelfjdajaa.Pk
