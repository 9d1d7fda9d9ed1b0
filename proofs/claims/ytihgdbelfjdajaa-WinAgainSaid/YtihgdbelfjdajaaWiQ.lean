/-
  What functions of the program do, told of abstract states. Conditions: as each theorem says.
-/
import Derived.Test.YtihgdbelfjdajaaWiP
namespace Go.Proofs.Ytihgdbelfjdajaa.Pk
open Go Go.Proofs Go.Proofs.Ytihgdbelfjdajaa.Ab
set_option linter.unusedVariables false
set_option linter.unusedSimpArgs false
set_option maxHeartbeats 4000000 in
set_option maxRecDepth 20000 in
theorem winExp (SC : SortC byW) (h : AHeap) (i m cl : Nat) (room size before : Int) (l : Ent) (k : IsWin h i m room size (wE l) cl) (hs : Stamps (wE l) cl) (hkn : KNodup l) (hl : l.length ≤ 2 ^ 30) (hf : ∀ e ∈ l, 0 ≤ e.2.1.2 ∧ e.2.1.2 ≤ 2 ^ 41) :
    SCalls Try.prog 8 [.ptr i 0, .int .i64 before] h (fun r h' => Keep h h' (fun q => q = m) ∧ IsWin h' i m room size (wE (l.filter fun e => !gnW size before e)) cl ∧
      ∃ lc, lc.Perm ((l.filter (gnW size before)).map (goneW size)) ∧ SortedW lc ∧ Own h' 30 5 r (lc.flatMap chgE) ∧ (∀ j, idOf r = some j → h.n ≤ j)) := by
  refine SCalls.enterI (c := _) Try.func8 rfl (by kernel_rfl) (by simp) ?_
  have gi := k.get
  have gm := k.map
  have hsn : (l.map (·.1)).Nodup := by rw [← wE_stamps]; exact hs.2
  simp only [wpA_region, wpA_seq, seqQ_normal, goI_out, goI_ops, opsA_nil, opsA_cons, stepA_move, stepA_assign, stepA_call, eval_tmp, eval_const, put_some, enterF_zero, enterF_succ, absV_snil, Nat.reduceEqDiff, reduceCtorEq, List.map_cons, List.map_nil, if_true, if_false]
  refine callI_pure cal16 (winMiss h i m cl room size _ k) ?_
  obtain ⟨q, hq⟩ := mt_114x
  have hrg := range_map hq gm
  simp only [wpA_skip, wpA_region, wpA_seq, wpA_cond, wpA_block, wpA_loop, condI_false, seqQ_normal, goI_out, goI_ops, opsA_nil, opsA_cons, stepA_move, stepA_assign, stepA_load, stepA_nilCheck, stepA_fieldAddr, stepA_range, thenV_some, thenH_some, nilV_ptr, eval_tmp, eval_const, put_some, enterF_zero, enterF_succ, absV_snil, aField_eq, fieldGo_ptr, aLoad_eq, loadGo_one, aPlace_ptr, dropC_cells, Nat.reduceEqDiff, Nat.reduceAdd, Nat.reduceLeDiff, reduceCtorEq, Nat.zero_add, List.length_cons, List.length_nil, List.drop_zero, List.drop_succ_cons, if_true, if_false, ft_49_2, lt_47, gi, hrg]
  have il := k.lt
  have ml := k.ml
  refine SWp.loopG (α := Ent) (fun vis f h' => f 0 = .ptr i 0 ∧ f 1 = .int .i64 before ∧ f 13 = .ptr h.n 0 ∧ h.n < h'.n ∧ h'.get h.n = .iter m cl (vis.map (·.1)) cl ∧ Keep h h' (fun q => q = m) ∧ IsWin h' i m room size (wE (leftW size before l vis)) cl ∧
      Own h' 30 5 (f 5) (((vis.filter (gnW size before)).map (goneW size)).flatMap chgE) ∧ (∀ j, idOf (f 5) = some j → h.n ≤ j) ∧ idOf (f 5) ≠ some h.n ∧ (∀ e ∈ vis, e ∈ l) ∧ (vis.map (·.1)).Nodup)
    (fun vis => l.length - vis.length) []
    ⟨rfl, rfl, rfl, by simp only [push_n]; omega, get_push_new, Keep.push _ _ _, by
      have : leftW size before l [] = l := by unfold leftW; simp
      rw [this]; exact k.keepN (Keep.push _ _ _), Own.snil _ _ _, (show ∀ j, idOf V.snil = some j → h.n ≤ j by simp [idOf]), (show idOf V.snil ≠ some h.n by simp [idOf]), by simp, by simp⟩ ?_
  rintro vis f h' ⟨f0, f1, f13, hn, hr, kp, kw, ow, hnw, hid, hvl, hvn⟩
  refine wpI_sound (by kernel_rfl) ?_
  have hsub : (leftW size before l vis).Sublist l := List.filter_sublist
  have hsW : Stamps (wE (leftW size before l vis)) cl := by
    refine ⟨fun e he => ?_, ?_⟩
    · obtain ⟨x, hx, rfl⟩ := mem_wE he
      exact hs.1 _ (List.mem_map.2 ⟨x, hsub.subset hx, rfl⟩)
    · rw [wE_stamps]; exact hsn.sublist (hsub.map _)
  simp only [wpA_region, wpA_seq, opsA_cons, stepA_next, eval_tmp, f13]
  refine alts_ro hr kw.map hsW (fun hleft => ?_) fun e he => ?_
  · have hall : ∀ e ∈ leftW size before l vis, e.1 ∈ vis.map (·.1) := fun e he => by
      apply Classical.byContradiction
      intro hns
      have : (e.1, plK e.2.1, V.int .i64 e.2.2) ∈ remOf (wE (leftW size before l vis)) (vis.map (·.1)) := by
        unfold remOf
        exact List.mem_filter.2 ⟨List.mem_map.2 ⟨e, he, rfl⟩, by simpa using hns⟩
      rw [hleft] at this
      simp at this
    obtain ⟨hle, hga⟩ := left_end hsn hall
    have hp := perm_gone (size := size) (before := before) hsn hvn hvl hga
    have hpl := hp.length_eq
    have hfl := (List.filter_sublist (p := gnW size before) (l := l)).length_le
    simp only [wpA_region, wpA_seq, wpA_cond, wpA_exit, condI_false, seqQ_normal, seqQ_exit, blkQ_exit, endI_mk, goE, andThen_exit, goI_out, goI_ops, opsA_nil, opsA_cons, stepA_move, stepA_extract, stepA_call, thenV_some, extV_zero, eval_tmp, eval_func, put_some, Nat.reduceEqDiff, List.map_cons, List.map_nil, if_true, if_false]
    refine callI_of cal18 (SC h' (f 5) _ ow (by rw [List.length_map]; omega)) fun r h2 ⟨e1, k2, lc, pl, sl, o2⟩ => ?_
    subst e1
    simp only [wpA_region, wpA_seq, wpA_ret, seqQ_normal, endI_mk, goI_out, goI_ops, opsA_nil, opsA_cons, stepA_move, stepA_assign, eval_tmp, put_some, Nat.reduceEqDiff, if_true, if_false, retA_ret, Try.results8, resultsA_1]
    have nm : ∀ j, isId (f 5) j → h.n ≤ j := fun j hj => hnw j hj
    refine hid_mk ⟨kp.trans k2 fun q hq e => by have := nm q e; omega, ?_, lc, pl.trans (hp.map _), sl, o2, hnw⟩
    rw [← hle]
    have n2 := k2.n
    exact ⟨(k2.get i kw.lt (fun e => by have := nm i e; omega)).trans kw.get, (k2.get m kw.ml (fun e => by have := nm m e; omega)).trans kw.map, k.ne, by have := kw.lt; omega, by have := kw.ml; omega, k.s1, k.s2⟩
  · obtain ⟨x, hxl, rfl⟩ := mem_wE (List.mem_filter.1 he).1
    have hx := hsub.subset hxl
    have hxn : x.1 ∉ vis.map (·.1) := by
      have := (List.mem_filter.1 he).2
      simpa using this
    generalize hH : h'.set h.n (.iter m cl (vis.map (·.1) ++ [x.1]) cl) = H
    have kI : Keep h' H (fun q => q = h.n) := by rw [← hH]; exact Keep.set _ _ _
    have kpH : Keep h H (fun q => q = m) := by rw [← hH]; exact kp.setNew (Nat.le_refl _) _
    have nH : H.n = h'.n := by rw [← hH]; rfl
    have gr : H.get h.n = .iter m cl (vis.map (·.1) ++ [x.1]) cl := by rw [← hH]; exact get_set_same
    have kw2 : IsWin H i m room size (wE (leftW size before l vis)) cl := ⟨(kI.get i kw.lt (by omega)).trans kw.get, (kI.get m kw.ml (by omega)).trans kw.map, k.ne, by have := kw.lt; omega, by have := kw.ml; omega, k.s1, k.s2⟩
    have ow2 : Own H 30 5 (f 5) (((vis.filter (gnW size before)).map (goneW size)).flatMap chgE) := ow.keep kI fun j hj e => hid (by rw [hj, e])
    have hen := entry_ro gr kw2.map hsW (List.mem_filter.1 he).1
    obtain ⟨f0', f1'⟩ := hf x hx
    have n1 : ((vis ++ [x]).map (·.1)).Nodup := by
      rw [List.map_append, List.nodup_append]
      exact ⟨hvn, by simp, fun a ha b hb => by simp at hb; subst hb; exact fun hh => hxn (hh ▸ ha)⟩
    have hvl2 : ∀ e ∈ vis ++ [x], e ∈ l := fun e he => by
      rcases List.mem_append.1 he with h | h
      · exact hvl e h
      · simp at h; subst h; exact hx
    have hlen : vis.length < l.length := by
      have n2 : (vis ++ [x]).Nodup := (List.pairwise_map.1 n1).imp fun h e => h (by rw [e])
      have := n2.length_le_of_subset (l₂ := l) hvl2
      rw [List.length_append] at this
      simp at this
      omega
    have gi2 := kw2.get
    have pc : (plK x.2.1).cells = some [.int .i64 x.2.1.1, .int .i64 x.2.1.2] := rfl
    have lp : loadGo (some (some 2)) (some [.int .i64 x.2.1.1, .int .i64 x.2.1.2]) = some (.agg [.int .i64 x.2.1.1, .int .i64 x.2.1.2]) := rfl
    have hw : IntKind.i64.wrap (x.2.1.2 + size) = x.2.1.2 + size := Go.IntWalk.i64_in _ (by have := k.s1; have := k.s2; omega)
    simp only [wpA_skip, wpA_region, wpA_seq, wpA_cond, wpA_block, wpA_draw, condI_true, seqQ_normal, goI_out, goI_ops, opsA_nil, opsA_cons, stepA_alloc, stepA_store, stepA_entry, stepA_extract, thenV_some, thenH_some, thenS_some, extV_zero, eval_tmp, put_some, one_int, all_nil, all_cons, aStore_eq, storeGo_ptr, setC_row, setAll_nil, setAll_cons, aAlloc_eq, get_push_new, set_push, Nat.reduceEqDiff, Nat.reduceAdd, Option.map_some, Nat.zero_add, List.length_cons, List.length_nil, List.set_cons_zero, List.set_cons_succ, if_true, if_false, Bool.and_self, Nat.le_refl, zc_51, zt_51, f13, hen, pc]
    have gi3 : ∀ A, (H.push A).get i = .cells [.int .i64 room, .int .i64 size, .map m] 49 none := fun A => (get_push_lt kw2.lt).trans gi2
    have hgx : gnW size before x = decide (x.2.1.2 + size ≤ before) := rfl
    cases hg : gnW size before x
    · have d1 : decide (x.2.1.2 + size ≤ before) = false := by rw [← hgx, hg]
      refine SWp.drawnS none_ [] (.q 0 (.q 1 (.q 2 (.q 3 (.q 4 (.q 5 (.q 6 (.q 7 (.q 8 .done))))))))) (by kernel_rfl) (by kernel_rfl) (by kernel_rfl) ?_
      simp only [siI_done, siI_q, sqI_some, mOk_none', implies_true, qI_nil, qI_cons, thenQ_some, q_move, q_load, q_nilCheck, q_binOp, q_fieldAddr, wpA_skip, wpA_cond, condI_false, seqQ_normal, blkQ_normal, endI_mk, andThen_normal, goI_out, goI_mk, nilV_ptr, eval_tmp, put_some, put_none, aBin_add, aBin_leq, aField_eq, fieldGo_ptr, aLoad_eq, loadGo_one, aPlace_ptr, dropC_cells, get_push_new, List.getElem?_cons_zero, List.getElem?_cons_succ, Nat.reduceEqDiff, Nat.reduceAdd, Nat.reduceLeDiff, reduceCtorEq, Nat.zero_add, List.length_cons, List.length_nil, List.drop_zero, List.drop_succ_cons, true_and, if_true, if_false, ft_49_1, ft_51_1, lt_2, f0, f1, gi3, hw, d1]
      refine hid_mk ⟨vis ++ [x], ⟨f0, f1, f13, by simp only [push_n]; omega, (get_push_lt (by omega)).trans (by rw [gr]; simp), kpH.then_push _, ?_, ?_, hnw, hid, hvl2, n1⟩, by simp only [List.length_append, List.length_cons, List.length_nil]; omega⟩
      · rw [← left_stay hsn hx hg]; exact kw2.keepN (Keep.push _ _ _)
      · rw [List.filter_append, List.filter_cons_of_neg (by simp [hg]), List.filter_nil, List.append_nil]; exact ow2.keepN (Keep.push _ _ _)
    · have d1 : decide (x.2.1.2 + size ≤ before) = true := by rw [← hgx, hg]
      refine SWp.drawnS none_ [] (.q 0 (.q 1 (.q 2 (.q 3 (.q 4 (.q 5 (.q 6 (.q 7 (.q 8 .done))))))))) (by kernel_rfl) (by kernel_rfl) (by kernel_rfl) ?_
      simp only [siI_done, siI_q, sqI_some, mOk_none', implies_true, qI_nil, qI_cons, thenQ_some, q_move, q_load, q_nilCheck, q_binOp, q_fieldAddr, wpA_region, wpA_seq, wpA_cond, condI_true, seqQ_normal, goI_out, goI_ops, goI_mk, opsA_cons, stepA_move, stepA_load, stepA_call, thenV_some, nilV_ptr, eval_tmp, put_some, put_none, aBin_add, aBin_leq, aField_eq, fieldGo_ptr, aLoad_eq, loadGo_one, loadGo_row, aPlace_ptr, dropC_cells, get_push_new, List.getElem?_cons_zero, List.getElem?_cons_succ, Nat.reduceEqDiff, Nat.reduceAdd, Nat.reduceLeDiff, reduceCtorEq, List.map_cons, List.map_nil, Nat.zero_add, Nat.zero_le, List.length_cons, List.length_nil, List.drop_zero, List.drop_succ_cons, List.take_succ_cons, List.take_nil, true_and, if_true, if_false, Nat.le_refl, ft_49_1, ft_51_1, lt_2, lt_51, f0, f1, gi3, hw, d1]
      have kP := kpH.then_push (.cells [.int .i64 x.2.1.1, .int .i64 x.2.1.2] 51 none)
      have gP : (H.push (.cells [.int .i64 x.2.1.1, .int .i64 x.2.1.2] 51 none)).get h.n = .iter m cl (vis.map (·.1) ++ [x.1]) cl := (get_push_lt (by omega)).trans gr
      have gpl : (H.push (.cells [.int .i64 x.2.1.1, .int .i64 x.2.1.2] 51 none)).get H.n = .cells [.int .i64 x.2.1.1, .int .i64 x.2.1.2] 51 none := get_push_new
      have nP : (H.push (.cells [.int .i64 x.2.1.1, .int .i64 x.2.1.2] 51 none)).n = H.n + 1 := rfl
      have kw3 := kw2.keepN (Keep.push H (.cells [.int .i64 x.2.1.1, .int .i64 x.2.1.2] 51 none) none_)
      have ow3 := ow2.keepN (Keep.push H (.cells [.int .i64 x.2.1.1, .int .i64 x.2.1.2] 51 none) none_)
      generalize H.push (.cells [.int .i64 x.2.1.1, .int .i64 x.2.1.2] 51 none) = HP at kP gP gpl nP kw3 ow3 ⊢
      refine callI_pure cal17 (winGone HP i m cl room size x.2.1.1 x.2.1.2 _ kw3 f0' f1') ?_
      have hvf := (List.filter_sublist (p := gnW size before) (l := vis)).length_le
      obtain ⟨s', h2, ea, o2, kp2, d2⟩ := append_elemM (P := Try.prog) sl_33 (by decide) ow3 (xs := chgE (goneW size x)) rfl rfl (fun m hm => by
        change m * 5 = _ + 5 at hm
        rw [rows_len chgE_len, List.length_map] at hm
        exact ⟨by simp only [lim]; omega, by simp only [lim]; omega⟩)
      have nm : ∀ j, isId (f 5) j → h.n ≤ j := fun j hj => hnw j hj
      have g2 := (kp2.get h.n (by omega) (fun hh => hid hh)).trans gP
      have gp2 := (kp2.get H.n (by omega) (fun hh => by have := ow2.lt _ hh; omega)).trans gpl
      have n2 := kp2.n
      have hid2 : idOf s' ≠ some h.n := fun hh => by
        rcases d2 with d | d
        · exact hid (d ▸ hh)
        · have := d _ hh; omega
      have hnw2 : ∀ j, idOf s' = some j → h.n ≤ j := fun j hj => by
        rcases d2 with d | d
        · exact hnw j (d ▸ hj)
        · have := d _ hj; omega
      have k4 : IsWin h2 i m room size (wE (leftW size before l vis)) cl := ⟨(kp2.get i kw3.lt (fun e => by have := nm i e; omega)).trans kw3.get, (kp2.get m kw3.ml (fun e => by have := nm m e; omega)).trans kw3.map, k.ne, by have := kw3.lt; omega, by have := kw3.ml; omega, k.s1, k.s2⟩
      have gi4 := k4.get
      have hlit := lit1c HP (goneW size x)
      have hdl := delW _ x.2.1.1 x.2.1.2 k4.map
      unfold goneW at hlit ea
      simp only [wpA_draw, seqQ_normal, goI_out, goI_ops, opsA_nil, opsA_cons, stepA_assign, stepA_buildSlice, stepA_append, thenH_some, eval_tmp, put_some, put_none, Nat.reduceEqDiff, List.map_cons, List.map_nil, if_true, if_false, hlit, ea]
      refine SWp.drawnS none_ [5] (.q 0 (.q 1 (.q 2 (.q 3 (.q 4 (.a 5 .done)))))) (by kernel_rfl) (by kernel_rfl) (by kernel_rfl) ?_
      simp only [siI_done, siI_q, siI_a, sqI_some, saI_some, mOk_none', implies_true, qI_nil, qI_cons, thenQ_some, q_move, q_load, q_nilCheck, q_fieldAddr, blkQ_normal, endI_mk, andThen_normal, goI_out, goI_ops, goI_mk, opsA_nil, opsA_cons, stepA_delete, thenH_some, nilV_ptr, eval_tmp, put_some, put_none, aField_eq, fieldGo_ptr, aLoad_eq, loadGo_one, aPlace_ptr, dropC_cells, List.getElem?_cons_zero, List.getElem?_cons_succ, Nat.reduceEqDiff, Nat.reduceAdd, Nat.reduceLeDiff, reduceCtorEq, Option.map_some, Nat.zero_add, Nat.zero_le, List.length_cons, List.length_nil, List.drop_zero, List.drop_succ_cons, true_and, if_true, if_false, ft_49_2, lt_47, lt_51, f0, gi4, gp2, lp, hdl]
      have kM : Keep h2 (h2.set m (.map (wE (kdel (leftW size before l vis) (x.2.1.1, x.2.1.2))) cl)) (fun q => q = m) := Keep.set _ _ _
      have hkd : kdel (leftW size before l vis) (x.2.1.1, x.2.1.2) = leftW size before l (vis ++ [x]) := left_gone hkn hsn hx hg
      refine hid_mk ⟨vis ++ [x], ⟨f0, f1, f13, by show h.n < h2.n; omega, (kM.get h.n (by omega) (by omega)).trans (by rw [g2]; simp), (kP.trans kp2 fun q hq e => by have := nm q e; omega).trans' kM, ?_, ?_, hnw2, hid2, hvl2, n1⟩, by simp only [List.length_append, List.length_cons, List.length_nil]; omega⟩
      · rw [hkd] at kM ⊢
        exact ⟨(kM.get i k4.lt (by exact k.ne)).trans gi4, get_set_same, k.ne, k4.lt, k4.ml, k.s1, k.s2⟩
      · rw [List.filter_append, List.filter_cons_of_pos (by simp [hg]), List.filter_nil, List.map_append, List.flatMap_append]
        have o3 := o2.keep kM fun j hj e => by have := hnw2 j hj; omega
        rw [show List.flatMap chgE (List.map (goneW size) [x]) = chgE (goneW size x) by simp]
        exact o3
end Go.Proofs.Ytihgdbelfjdajaa.Pk
