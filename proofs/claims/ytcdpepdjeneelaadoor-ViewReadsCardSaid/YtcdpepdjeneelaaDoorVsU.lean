/-
  What functions of the program do, told of abstract states. Conditions: as each theorem says.
-/
import Derived.Test.YtcdpepdjeneelaaDoorVsR
import Derived.Test.YtcdpepdjeneelaaDoorVsK
import Derived.Test.YtcdpepdjeneelaaDoorAbD
namespace Go.Proofs.YtcdpepdjeneelaaDoor.Pk
open Go Go.Proofs Go.Proofs.YtcdpepdjeneelaaDoor.Ab Go.Proofs.Vw
set_option linter.unusedVariables false
set_option linter.unusedSimpArgs false
/-! ### allLogs and allTasks -/
theorem litL1 (h : AHeap) (p : Int × List LR) : aBuildSlice Tryd.prog 26 1 [(0, .agg (logC p))] h = some (.sl h.n 0 1 1, h.push (.cells (logC p) 36 none)) := by rw [buildSlice_go sl_26]; rfl
theorem litT1 (h : AHeap) (p : TV) : aBuildSlice Tryd.prog 27 1 [(0, .agg (tvC p))] h = some (.sl h.n 0 1 1, h.push (.cells (tvC p) 41 none)) := by rw [buildSlice_go sl_27]; rfl
set_option maxHeartbeats 4000000 in
set_option maxRecDepth 20000 in
theorem allLogs {h0 h : AHeap} {lm tm lc tc : Nat} {s : VM} {L T : PM} (w : VF h0 h lm tm s L lc T tc) (hL : L.length ≤ 2 ^ 30) :
    SCalls Tryd.prog 22 [.agg [.map lm, .map tm]] h (fun r h' => ∃ out : List (Int × List LR), out.Perm (L.map fun e => (e.2.1, s.logs e.2.1)) ∧ (out.Pairwise fun a b => ¬ b.1 < a.1) ∧ Acc h h' 36 3 r (out.flatMap logC)) := by
  obtain ⟨q, hq⟩ : ∃ q, mapT Tryd.prog 55 = some q := by
    obtain ⟨et, hm, _⟩ := mp_log
    exact ⟨_, hm⟩
  refine SCalls.enterI (c := _) Tryd.func22 rfl (by kernel_rfl) (by simp) ?_
  have hc : (V.agg [.map lm, .map tm]).cells = some [.map lm, .map tm] := rfl
  have gl1 : (h.push (.cells [.map lm, .map tm] 58 none)).get lm = .map (pmE L) lc := (get_push_lt w.lml).trans w.gl
  have hrg := range_map hq gl1
  have hsn : (L.map (·.1)).Nodup := by
    have := w.stl.2
    rwa [show (pmE L).map (·.1) = L.map (·.1) from mapK_stamps L] at this
  have hlt := w.lml
  simp only [wpA_region, wpA_seq, wpA_block, wpA_loop, seqQ_normal, goI_out, goI_ops, opsA_nil, opsA_cons, stepA_assign, stepA_box, stepA_load, stepA_fieldAddr, stepA_range, thenV_some, thenH_some, eval_tmp, eval_const, put_some, enterF_zero, enterF_succ, absV_snil, aField_eq, fieldGo_ptr, aLoad_eq, loadGo_one, aPlace_ptr, dropC_cells, aBox_eq, push_n, get_push_new, Nat.reduceEqDiff, Nat.reduceAdd, Option.map_some, Nat.add_zero, Nat.zero_add, Nat.zero_le, List.length_cons, List.length_nil, List.drop_zero, if_true, if_false, ft_58_0, lt_55, hc, hrg]
  refine SWp.loopG (α := PM) (fun vis f h' => f 8 = .ptr (h.n + 1) 0 ∧ h.n + 1 < h'.n ∧ h'.get (h.n + 1) = .iter lm lc (vis.map (·.1)) lc ∧ Acc h h' 36 3 (f 3) ((vis.map fun e => (e.2.1, s.logs e.2.1)).flatMap logC) ∧
    idOf (f 3) ≠ some (h.n + 1) ∧ (∀ e ∈ vis, e ∈ L) ∧ (vis.map (·.1)).Nodup) (fun vis => (remOf (pmE L) (vis.map (·.1))).length) []
    ⟨rfl, by simp only [push_n]; omega, by simp [AHeap.push], Acc.nil ((Keep.push _ _ _).trans' (Keep.push _ _ _)), (show idOf V.snil ≠ some (h.n + 1) by simp [idOf]), by simp, by simp⟩ ?_
  rintro vis f h2 ⟨f8, n2, gi, acc, hd1, hvl, hvn⟩
  have gm : h2.get lm = .map (pmE L) lc := (acc.keep.get lm hlt (by simp [none_])).trans w.gl
  refine wpI_sound (by kernel_rfl) ?_
  simp only [wpA_region, wpA_seq, opsA_cons, stepA_next, eval_tmp, f8]
  refine alts_ro gi gm w.stl (fun hleft => ?_) fun e he => ?_
  · have hp := kvis_perm hsn hvn hvl (kvis_all hleft)
    have hpl := hp.length_eq
    simp only [wpA_region, wpA_seq, wpA_cond, wpA_exit, condI_false, seqQ_normal, seqQ_exit, blkQ_exit, endI_mk, goE, andThen_exit, goI_out, goI_ops, opsA_nil, opsA_cons, stepA_move, stepA_extract, stepA_call, thenV_some, extV_zero, eval_tmp, eval_func, put_some, Nat.reduceEqDiff, List.map_cons, List.map_nil, if_true, if_false]
    refine callI_of cal41 (sortbyLog h2 (f 3) _ acc.own (by rw [List.length_map]; omega)) fun r h3 ⟨e1, k3, out, pl, sl, o2⟩ => ?_
    subst e1
    simp only [wpA_region, wpA_seq, wpA_ret, seqQ_normal, endI_mk, goI_out, goI_ops, opsA_nil, opsA_cons, stepA_move, stepA_assign, eval_tmp, put_some, Nat.reduceEqDiff, if_true, if_false, retA_ret, Tryd.results22, resultsA_1]
    exact hid_mk ⟨out, pl.trans (hp.map _), sl, o2, acc.keep.trans k3 fun q hq e => by have := acc.new q e; omega, acc.new⟩
  · obtain ⟨x, hx, rfl, hxn⟩ := kvis_next he
    have less := remOf_snoc he
    obtain ⟨n3, hvl2, hvlen⟩ := kvis_snoc hvn hvl hx hxn
    obtain ⟨hx1, hx2, hx3⟩ := w.has x.2.1 x.2.2 (kmem w.ndl hx)
    obtain ⟨xs, xk, xb⟩ := x
    simp only at less he hxn hx1 hx2 hx3
    generalize hH : h2.set (h.n + 1) (.iter lm lc (vis.map (·.1) ++ [xs]) lc) = H
    have aS : Acc h H 36 3 (f 3) ((vis.map fun e => (e.2.1, s.logs e.2.1)).flatMap logC) := by rw [← hH]; exact acc.set (by omega) hd1 _
    have nH : H.n = h2.n := by rw [← hH]; rfl
    have gr : H.get (h.n + 1) = .iter lm lc (vis.map (·.1) ++ [xs]) lc := by rw [← hH]; exact get_set_same
    have gmH : H.get lm = .map (pmE L) lc := (aS.keep.get lm hlt (by simp [none_])).trans w.gl
    have hen := entry_ro gr gmH w.stl (List.mem_filter.1 he).1
    simp only at hen
    have gx : H.get xb = .cells (logC (xk, s.logs xk)) 36 none := (aS.keep.get xb hx3 (by simp [none_])).trans hx1
    have dx : dropC (AObj.cells (logC (xk, s.logs xk)) 36 none) 0 = some (logC (xk, s.logs xk)) := rfl
    have tk : (logC (xk, s.logs xk)).take 3 = logC (xk, s.logs xk) := rfl
    have ln := logC_len (xk, s.logs xk)
    have lit := litL1 H (xk, s.logs xk)
    obtain ⟨s', h4, ea, o4, kp4, d4⟩ := append_elemM (P := Tryd.prog) sl_26 (by decide) aS.own (xs := logC (xk, s.logs xk)) rfl rfl (fun m hm => by
      change m * 3 = _ + 3 at hm
      rw [rows_len logC_len, List.length_map] at hm
      exact ⟨by simp only [lim]; omega, by simp only [lim]; omega⟩)
    have a4 := aS.step o4 kp4 d4
    have n4' := kp4.n
    simp only [wpA_skip, wpA_region, wpA_seq, wpA_cond, wpA_block, condI_true, seqQ_normal, blkQ_normal, endI_mk, andThen_normal, goI_out, goI_ops, opsA_nil, opsA_cons, stepA_move, stepA_assign, stepA_buildSlice, stepA_load, stepA_nilCheck, stepA_entry, stepA_extract, stepA_append, thenV_some, thenH_some, nilV_ptr, extV_zero, extV_succ, eval_tmp, put_some, aLoad_eq, loadGo_row, aPlace_ptr, Nat.reduceEqDiff, List.map_cons, List.map_nil, if_true, if_false, Nat.le_refl, lt_36, f8, hen, gx, dx, tk, ln, lit, ea]
    refine hid_mk ⟨vis ++ [(xs, xk, xb)], ⟨f8, by omega, ?_, a4.conv ?_, ?_, hvl2, n3⟩, ?_⟩
    · rw [kp4.get (h.n + 1) (by omega) (fun hh => hd1 hh), gr]; simp
    · rw [List.map_append, List.flatMap_append, List.map_cons, List.map_nil]
      simp
    · intro hh
      rcases d4 with d | d
      · exact hd1 (d ▸ hh)
      · have := d _ hh; omega
    · rw [List.map_append]; exact less
set_option maxHeartbeats 4000000 in
set_option maxRecDepth 20000 in
theorem allTasks {h0 h : AHeap} {lm tm lc tc : Nat} {s : VM} {L T : PM} (w : VF h0 h lm tm s L lc T tc) (hL : T.length ≤ 2 ^ 30) :
    SCalls Tryd.prog 23 [.agg [.map lm, .map tm]] h (fun r h' => ∃ out : List TV, out.Perm (T.map fun e => tvOf e.2.1 (jbOf s e.2.1)) ∧ (out.Pairwise fun a b => ¬ b.t < a.t) ∧ Acc h h' 41 6 r (out.flatMap tvC)) := by
  obtain ⟨q, hq⟩ : ∃ q, mapT Tryd.prog 56 = some q := by
    obtain ⟨et, hm, _⟩ := mp_job
    exact ⟨_, hm⟩
  refine SCalls.enterI (c := _) Tryd.func23 rfl (by kernel_rfl) (by simp) ?_
  have hc : (V.agg [.map lm, .map tm]).cells = some [.map lm, .map tm] := rfl
  have gl1 : (h.push (.cells [.map lm, .map tm] 58 none)).get tm = .map (pmE T) tc := (get_push_lt w.tml).trans w.gt
  have hrg := range_map hq gl1
  have hsn : (T.map (·.1)).Nodup := by
    have := w.stt.2
    rwa [show (pmE T).map (·.1) = T.map (·.1) from mapK_stamps T] at this
  have hlt := w.tml
  simp only [wpA_region, wpA_seq, wpA_block, wpA_loop, seqQ_normal, goI_out, goI_ops, opsA_nil, opsA_cons, stepA_assign, stepA_box, stepA_load, stepA_fieldAddr, stepA_range, thenV_some, thenH_some, eval_tmp, eval_const, put_some, enterF_zero, enterF_succ, absV_snil, aField_eq, fieldGo_ptr, aLoad_eq, loadGo_one, aPlace_ptr, dropC_cells, aBox_eq, push_n, get_push_new, Nat.reduceEqDiff, Nat.reduceAdd, Nat.reduceLeDiff, Option.map_some, Nat.zero_add, List.length_cons, List.length_nil, List.drop_zero, List.drop_succ_cons, if_true, if_false, ft_58_1, lt_56, hc, hrg]
  refine SWp.loopG (α := PM) (fun vis f h' => f 9 = .ptr (h.n + 1) 0 ∧ h.n + 1 < h'.n ∧ h'.get (h.n + 1) = .iter tm tc (vis.map (·.1)) tc ∧ Acc h h' 41 6 (f 3) ((vis.map fun e => tvOf e.2.1 (jbOf s e.2.1)).flatMap tvC) ∧
    idOf (f 3) ≠ some (h.n + 1) ∧ (∀ e ∈ vis, e ∈ T) ∧ (vis.map (·.1)).Nodup) (fun vis => (remOf (pmE T) (vis.map (·.1))).length) []
    ⟨rfl, by simp only [push_n]; omega, by simp [AHeap.push], Acc.nil ((Keep.push _ _ _).trans' (Keep.push _ _ _)), (show idOf V.snil ≠ some (h.n + 1) by simp [idOf]), by simp, by simp⟩ ?_
  rintro vis f h2 ⟨f9, n2, gi, acc, hd1, hvl, hvn⟩
  have gm : h2.get tm = .map (pmE T) tc := (acc.keep.get tm hlt (by simp [none_])).trans w.gt
  refine wpI_sound (by kernel_rfl) ?_
  simp only [wpA_region, wpA_seq, opsA_cons, stepA_next, eval_tmp, f9]
  refine alts_ro gi gm w.stt (fun hleft => ?_) fun e he => ?_
  · have hp := kvis_perm hsn hvn hvl (kvis_all hleft)
    have hpl := hp.length_eq
    simp only [wpA_region, wpA_seq, wpA_cond, wpA_exit, condI_false, seqQ_normal, seqQ_exit, blkQ_exit, endI_mk, goE, andThen_exit, goI_out, goI_ops, opsA_nil, opsA_cons, stepA_move, stepA_extract, stepA_call, thenV_some, extV_zero, eval_tmp, eval_func, put_some, Nat.reduceEqDiff, List.map_cons, List.map_nil, if_true, if_false]
    refine callI_of cal44 (sortbyTask h2 (f 3) _ acc.own (by rw [List.length_map]; omega)) fun r h3 ⟨e1, k3, out, pl, sl, o2⟩ => ?_
    subst e1
    simp only [wpA_region, wpA_seq, wpA_ret, seqQ_normal, endI_mk, goI_out, goI_ops, opsA_nil, opsA_cons, stepA_move, stepA_assign, eval_tmp, put_some, Nat.reduceEqDiff, if_true, if_false, retA_ret, Tryd.results23, resultsA_1]
    exact hid_mk ⟨out, pl.trans (hp.map _), sl, o2, acc.keep.trans k3 fun q hq e => by have := acc.new q e; omega, acc.new⟩
  · obtain ⟨x, hx, rfl, hxn⟩ := kvis_next he
    have less := remOf_snoc he
    obtain ⟨n3, hvl2, hvlen⟩ := kvis_snoc hvn hvl hx hxn
    obtain ⟨j, hx1, hx2, hx3⟩ := w.job x.2.1 x.2.2 (kmem w.ndt hx)
    obtain ⟨xs, xk, xb⟩ := x
    simp only at less he hxn hx1 hx2 hx3
    have hjb : jbOf s xk = j := by unfold jbOf; rw [hx1]; rfl
    generalize hH : h2.set (h.n + 1) (.iter tm tc (vis.map (·.1) ++ [xs]) tc) = H
    have aS : Acc h H 41 6 (f 3) ((vis.map fun e => tvOf e.2.1 (jbOf s e.2.1)).flatMap tvC) := by rw [← hH]; exact acc.set (by omega) hd1 _
    have nH : H.n = h2.n := by rw [← hH]; rfl
    have gr : H.get (h.n + 1) = .iter tm tc (vis.map (·.1) ++ [xs]) tc := by rw [← hH]; exact get_set_same
    have gmH : H.get tm = .map (pmE T) tc := (aS.keep.get tm hlt (by simp [none_])).trans w.gt
    have hen := entry_ro gr gmH w.stt (List.mem_filter.1 he).1
    simp only at hen
    have gx : H.get xb = .cells (jobC xk j) 71 none := (aS.keep.get xb hx3 (by simp [none_])).trans hx2
    obtain ⟨H2, hH2⟩ : ∃ y, y = H.push (.cells (tvC (tvOf xk j)) 41 none) := ⟨_, rfl⟩
    have k2 : Keep H H2 none_ := by rw [hH2]; exact Keep.push _ _ _
    have aP := aS.on k2
    have nP : H2.n = H.n + 1 := by rw [hH2]; rfl
    have gP : H2.get H.n = .cells (tvC (tvOf xk j)) 41 none := by rw [hH2]; exact get_push_new
    have lit : aBuildSlice Tryd.prog 27 1 [(0, .agg [.int .i64 xk, .int .i64 j.ep, .int .i64 j.tx, .imm j.offs.length (i64V j.offs), .imm j.ord.length (i64V j.ord), .int .i64 (j.opn.length : Nat)])] H2 = some (.sl H2.n 0 1 1, H2.push (.cells (tvC (tvOf xk j)) 41 none)) := litT1 H2 (tvOf xk j)
    have hX : H.push (.cells [.int .i64 xk, .int .i64 j.ep, .int .i64 j.tx, .imm j.offs.length (i64V j.offs), .imm j.ord.length (i64V j.ord), .int .i64 (j.opn.length : Nat)] 41 none) = H2 := by rw [hH2]; rfl
    obtain ⟨s', h4, ea, o4, kp4, d4⟩ := append_elemM (P := Tryd.prog) sl_27 (by decide) aP.own (xs := tvC (tvOf xk j)) rfl rfl (fun m hm => by
      change m * 6 = _ + 6 at hm
      rw [rows_len tvC_len, List.length_map] at hm
      exact ⟨by simp only [lim]; omega, by simp only [lim]; omega⟩)
    have a4 := aP.step o4 kp4 d4
    have n4' := kp4.n
    have g1 : H2.get (h.n + 1) = .iter tm tc (vis.map (·.1) ++ [xs]) tc := (k2.get (h.n + 1) (by omega) (by simp [none_])).trans gr
    have nS := aS.keep.n
    have gP' : H2.get H.n = .cells [.int .i64 xk, .int .i64 j.ep, .int .i64 j.tx, .imm j.offs.length (i64V j.offs), .imm j.ord.length (i64V j.ord), .int .i64 (j.opn.length : Nat)] 41 none := gP
    have gx2 : ∀ o, (H.push o).get xb = .cells (jobC xk j) 71 none := fun o => (get_push_lt (by omega)).trans gx
    simp only [wpA_skip, wpA_region, wpA_seq, wpA_cond, wpA_block, condI_true, seqQ_normal, blkQ_normal, endI_mk, andThen_normal, goI_out, goI_ops, opsA_nil, opsA_cons, stepA_move, stepA_assign, stepA_alloc, stepA_buildSlice, stepA_load, stepA_store, stepA_nilCheck, stepA_fieldAddr, stepA_entry, stepA_extract, stepA_len, stepA_append, thenV_some, thenH_some, thenS_some, nilV_ptr, extV_zero, extV_succ, eval_tmp, put_some, put_none, cells_int, cells_agg, one_int, one_imm, all_nil, all_cons, aField_eq, fieldGo_ptr, aLoad_eq, loadGo_one, loadGo_row, aPlace_ptr, dropC_cells, aStore_eq, storeGo_ptr, setC_row, setAll_nil, setAll_cons, aAlloc_eq, aLen_imm, get_push_new, set_push, Nat.reduceEqDiff, Nat.reduceAdd, Nat.reduceLeDiff, List.map_cons, List.map_nil, Option.map_some, Nat.add_zero, Nat.zero_add, Nat.zero_le, List.length_cons, List.length_nil, List.drop_zero, List.drop_succ_cons, List.take_succ_cons, List.take_zero, List.take_nil, List.set_cons_zero, List.set_cons_succ, if_true, if_false, Bool.and_self, Nat.le_refl, ft_41_5, ft_71_0, ft_71_1, kt_69, lt_41, lt_69, zc_41, zt_3, zt_41, f9, hen, gx, gx2, gP', jobC, hX, lit, ea]
    refine hid_mk ⟨vis ++ [(xs, xk, xb)], ⟨f9, by omega, ?_, a4.conv ?_, ?_, hvl2, n3⟩, ?_⟩
    · rw [kp4.get (h.n + 1) (by omega) (fun hh => hd1 hh), g1]; simp
    · rw [List.map_append, List.flatMap_append, List.map_cons, List.map_nil, hjb]
      simp
    · intro hh
      rcases d4 with d | d
      · exact hd1 (d ▸ hh)
      · have := d _ hh; omega
    · rw [List.map_append]; exact less
end Go.Proofs.YtcdpepdjeneelaaDoor.Pk
