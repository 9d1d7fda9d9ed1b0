/-
  What functions of the program do, told of abstract states. Conditions: as each theorem says.
-/
import Derived.Test.YtihgdbelfjdajaaWiN
namespace Go.Proofs.Ytihgdbelfjdajaa.Pk
open Go Go.Proofs Go.Proofs.Ytihgdbelfjdajaa.Ab
set_option linter.unusedVariables false
set_option linter.unusedSimpArgs false
/-! ### List, what SortFunc does being given -/
def aheadW (a b : Chg) : Bool := decide (a.fr < b.fr ∨ (a.fr = b.fr ∧ a.key < b.key))
def SortedW (l : List Chg) : Prop := l.Pairwise fun a b => aheadW b a = false
def SortC (fv : V) : Prop := ∀ (h : AHeap) (x : V) (l : List Chg), Own h 30 5 x (l.flatMap chgE) → l.length ≤ 2 ^ 40 →
  SCalls Try.prog 18 [x, fv] h (fun r h' => r = .tuple [] ∧ Keep h h' (isId x) ∧ ∃ l', l'.Perm l ∧ SortedW l' ∧ Own h' 30 5 x (l'.flatMap chgE))
abbrev byW : V := .func (.func 19) [] []
def chgW (size : Int) (e : Nat × (Int × Int) × Int) : Chg := ⟨e.2.1.1, e.2.1.2, e.2.1.2 + size, e.2.2, false⟩
theorem mem_wE {l : Ent} {e : Nat × V × V} (h : e ∈ wE l) : ∃ x ∈ l, e = (x.1, plK x.2.1, .int .i64 x.2.2) := by
  obtain ⟨x, hx, rfl⟩ := List.mem_map.1 h
  exact ⟨x, hx, rfl⟩
theorem wE_stamps (l : Ent) : (wE l).map (·.1) = l.map (·.1) := by simp [wE, mapK]
theorem stamp_inj : ∀ {q : Ent}, (q.map (·.1)).Nodup → ∀ {x y}, x ∈ q → y ∈ q → x.1 = y.1 → x = y
  | [], _, x, y, hx, _, _ => by cases hx
  | z :: q, hq, x, y, hx, hy, e => by
    have hq' := List.nodup_cons.1 hq
    rcases List.mem_cons.1 hx with h1 | h1
    · rcases List.mem_cons.1 hy with h2 | h2
      · rw [h1, h2]
      · exact absurd (List.mem_map.2 ⟨y, h2, by rw [← e, h1]⟩) hq'.1
    · rcases List.mem_cons.1 hy with h2 | h2
      · exact absurd (List.mem_map.2 ⟨x, h1, by rw [e, h2]⟩) hq'.1
      · exact stamp_inj hq'.2 h1 h2 e
theorem accSet {h0 h : AHeap} {e : TypeId} {sz : Nat} {v : V} {cs : List V} (a : Acc h0 h e sz v cs) {i : Nat} (hi : h0.n ≤ i) (hv : idOf v ≠ some i) (o : AObj) : Acc h0 (h.set i o) e sz v cs :=
  ⟨a.own.keep (Keep.set _ _ _) fun k hk he => hv (by rw [hk, he]), a.keep.setNew hi o, a.new⟩
theorem perm_vis {l vis : Ent} (hn : (l.map (·.1)).Nodup) (hv : (vis.map (·.1)).Nodup) (h1 : ∀ e ∈ vis, e ∈ l) (h2 : ∀ e ∈ l, e.1 ∈ vis.map (·.1)) : vis.Perm l := by
  have nl : l.Nodup := (List.pairwise_map.1 hn).imp fun h e => h (by rw [e])
  have nv : vis.Nodup := (List.pairwise_map.1 hv).imp fun h e => h (by rw [e])
  rw [List.perm_ext_iff_of_nodup nv nl]
  intro a
  refine ⟨h1 a, fun ha => ?_⟩
  obtain ⟨b, hb, hab⟩ := List.mem_map.1 (h2 a ha)
  have hbl := h1 b hb
  rw [← stamp_inj hn hbl ha hab]; exact hb
set_option maxHeartbeats 2000000 in
set_option maxRecDepth 20000 in
theorem winList (SC : SortC byW) (h : AHeap) (i m cl : Nat) (room size : Int) (l : Ent) (k : IsWin h i m room size (wE l) cl) (hs : Stamps (wE l) cl) (hl : l.length ≤ 2 ^ 30) (hf : ∀ e ∈ l, 0 ≤ e.2.1.2 ∧ e.2.1.2 ≤ 2 ^ 41) :
    SCalls Try.prog 12 [.ptr i 0] h (fun r h' => Keep h h' none_ ∧ ∃ lc, lc.Perm (l.map (chgW size)) ∧ SortedW lc ∧ Own h' 30 5 r (lc.flatMap chgE) ∧ (∀ j, idOf r = some j → h.n ≤ j)) := by
  refine SCalls.enterI (c := _) Try.func12 rfl (by kernel_rfl) (by simp) ?_
  have gi := k.get
  have gm := k.map
  simp only [wpA_region, wpA_seq, seqQ_normal, goI_out, goI_ops, opsA_nil, opsA_cons, stepA_move, stepA_assign, stepA_call, eval_tmp, eval_const, put_some, enterF_zero, enterF_succ, absV_snil, Nat.reduceEqDiff, reduceCtorEq, List.map_cons, List.map_nil, if_true, if_false]
  refine callI_pure cal16 (winMiss h i m cl room size _ k) ?_
  obtain ⟨q, hq⟩ := mt_114x
  have hrg := range_map hq gm
  simp only [wpA_skip, wpA_region, wpA_seq, wpA_cond, wpA_block, wpA_loop, condI_false, seqQ_normal, goI_out, goI_ops, opsA_nil, opsA_cons, stepA_move, stepA_assign, stepA_load, stepA_nilCheck, stepA_fieldAddr, stepA_range, thenV_some, thenH_some, nilV_ptr, eval_tmp, eval_const, put_some, enterF_zero, enterF_succ, absV_snil, aField_eq, fieldGo_ptr, aLoad_eq, loadGo_one, aPlace_ptr, dropC_cells, Nat.reduceEqDiff, Nat.reduceAdd, Nat.reduceLeDiff, reduceCtorEq, Nat.zero_add, List.length_cons, List.length_nil, List.drop_zero, List.drop_succ_cons, if_true, if_false, ft_49_2, lt_47, gi, hrg]
  refine SWp.loopG (α := Ent) (fun vis f h' => f 0 = .ptr i 0 ∧ f 12 = .ptr h.n 0 ∧ h.n < h'.n ∧ h'.get h.n = .iter m cl (vis.map (·.1)) cl ∧ Acc h h' 30 5 (f 3) ((vis.map (chgW size)).flatMap chgE) ∧ idOf (f 3) ≠ some h.n ∧ (∀ e ∈ vis, e ∈ l) ∧ (vis.map (·.1)).Nodup)
    (fun vis => (remOf (wE l) (vis.map (·.1))).length) []
    ⟨rfl, rfl, by simp only [push_n]; omega, get_push_new, Acc.nil (Keep.push _ _ _), (show idOf V.snil ≠ some h.n by simp [idOf]), by simp, by simp⟩ ?_
  rintro vis f h' ⟨f0, f12, hn, hr, acc, hid, hvl, hvn⟩
  refine wpI_sound (by kernel_rfl) ?_
  have k1 := k.keepN acc.keep
  simp only [wpA_region, wpA_seq, opsA_cons, stepA_next, eval_tmp, f12]
  refine alts_ro hr k1.map hs (fun hleft => ?_) fun e he => ?_
  · have hall : ∀ e ∈ l, e.1 ∈ vis.map (·.1) := fun e he => by
      apply Classical.byContradiction
      intro hns
      have : (e.1, plK e.2.1, V.int .i64 e.2.2) ∈ remOf (wE l) (vis.map (·.1)) := by
        unfold remOf
        exact List.mem_filter.2 ⟨List.mem_map.2 ⟨e, he, rfl⟩, by simpa using hns⟩
      rw [hleft] at this
      simp at this
    have hp : vis.Perm l := perm_vis (by rw [← wE_stamps]; exact hs.2) hvn hvl hall
    have hpl := hp.length_eq
    simp only [wpA_region, wpA_seq, wpA_cond, wpA_exit, condI_false, seqQ_normal, seqQ_exit, blkQ_exit, endI_mk, goE, andThen_exit, goI_out, goI_ops, opsA_nil, opsA_cons, stepA_move, stepA_extract, stepA_call, thenV_some, extV_zero, eval_tmp, eval_func, put_some, Nat.reduceEqDiff, List.map_cons, List.map_nil, if_true, if_false]
    refine callI_of cal18 (SC h' (f 3) (vis.map (chgW size)) acc.own (by rw [List.length_map]; omega)) fun r h2 ⟨e1, k2, lc, pl, sl, o2⟩ => ?_
    subst e1
    simp only [wpA_region, wpA_seq, wpA_ret, seqQ_normal, endI_mk, goI_out, goI_ops, opsA_nil, opsA_cons, stepA_move, stepA_assign, eval_tmp, put_some, Nat.reduceEqDiff, if_true, if_false, retA_ret, Try.results12, resultsA_1]
    refine hid_mk ⟨acc.keep.trans k2 fun q hq e => by have := acc.new q e; omega, lc, pl.trans (hp.map _), sl, o2, acc.new⟩
  · obtain ⟨x, hx, rfl⟩ := mem_wE (List.mem_filter.1 he).1
    have hxn : x.1 ∉ vis.map (·.1) := by
      have := (List.mem_filter.1 he).2
      simpa using this
    have less := remOf_snoc he
    generalize hH : h'.set h.n (.iter m cl (vis.map (·.1) ++ [x.1]) cl) = H
    have aS : Acc h H 30 5 (f 3) ((vis.map (chgW size)).flatMap chgE) := by rw [← hH]; exact accSet acc (Nat.le_refl _) hid _
    have nH : H.n = h'.n := by rw [← hH]; rfl
    have gr : H.get h.n = .iter m cl (vis.map (·.1) ++ [x.1]) cl := by rw [← hH]; exact get_set_same
    have k2 := k.keepN aS.keep
    have hen := entry_ro gr k2.map hs (List.mem_filter.1 he).1
    obtain ⟨f0', f1'⟩ := hf x hx
    have hlen : vis.length < l.length := by
      have n1 : ((vis ++ [x]).map (·.1)).Nodup := by
        rw [List.map_append, List.nodup_append]
        exact ⟨hvn, by simp, fun a ha b hb => by simp at hb; subst hb; exact fun hh => hxn (hh ▸ ha)⟩
      have n2 : (vis ++ [x]).Nodup := (List.pairwise_map.1 n1).imp fun h e => h (by rw [e])
      have := n2.length_le_of_subset (l₂ := l) fun e he => by
        rcases List.mem_append.1 he with h | h
        · exact hvl e h
        · simp at h; subst h; exact hx
      rw [List.length_append] at this
      simp at this
      omega
    have pc : (plK x.2.1).cells = some [.int .i64 x.2.1.1, .int .i64 x.2.1.2] := rfl
    have lp : loadGo (some (some 2)) (some [.int .i64 x.2.1.1, .int .i64 x.2.1.2]) = some (.agg [.int .i64 x.2.1.1, .int .i64 x.2.1.2]) := rfl
    simp only [wpA_skip, wpA_region, wpA_seq, wpA_cond, wpA_block, condI_true, seqQ_normal, goI_out, goI_ops, opsA_nil, opsA_cons, stepA_move, stepA_assign, stepA_alloc, stepA_load, stepA_store, stepA_entry, stepA_extract, stepA_call, thenV_some, thenH_some, thenS_some, extV_zero, extV_succ, eval_tmp, put_some, put_none, one_int, all_nil, all_cons, aLoad_eq, aPlace_ptr, dropC_cells, aStore_eq, storeGo_ptr, setC_row, setAll_nil, setAll_cons, aAlloc_eq, get_push_new, set_push, Nat.reduceEqDiff, Nat.reduceAdd, reduceCtorEq, List.map_cons, List.map_nil, Option.map_some, Nat.zero_add, Nat.zero_le, List.length_cons, List.length_nil, List.drop_zero, List.set_cons_zero, List.set_cons_succ, if_true, if_false, Bool.and_self, Nat.le_refl, lt_51, zc_51, zt_51, f0, f12, hen, pc, lp]
    have aP := aS.on (Keep.push H (.cells [.int .i64 x.2.1.1, .int .i64 x.2.1.2] 51 none) none_)
    have gP : (H.push (.cells [.int .i64 x.2.1.1, .int .i64 x.2.1.2] 51 none)).get h.n = .iter m cl (vis.map (·.1) ++ [x.1]) cl := (get_push_lt (by omega)).trans gr
    have nP : (H.push (.cells [.int .i64 x.2.1.1, .int .i64 x.2.1.2] 51 none)).n = H.n + 1 := rfl
    generalize H.push (.cells [.int .i64 x.2.1.1, .int .i64 x.2.1.2] 51 none) = HP at aP gP nP ⊢
    have k3 := k.keepN aP.keep
    refine callI_pure cal21 (winSet HP i m cl room size x.2.1.1 x.2.1.2 x.2.2 _ k3 f0' f1') ?_
    obtain ⟨s', h2, ea, o2, kp2, d2⟩ := append_elemM (P := Try.prog) sl_33 (by decide) aP.own (xs := chgE (chgW size x)) rfl rfl (fun m hm => by
      change m * 5 = _ + 5 at hm
      rw [rows_len chgE_len, List.length_map] at hm
      exact ⟨by simp only [lim]; omega, by simp only [lim]; omega⟩)
    have hlit := lit1c HP (chgW size x)
    have a2 := aP.step o2 kp2 d2
    have g2 := (kp2.get h.n (by omega) (fun hh => hid hh)).trans gP
    have n2 := kp2.n
    have hid2 : idOf s' ≠ some h.n := fun hh => by
      rcases d2 with d | d
      · exact hid (d ▸ hh)
      · have := d _ hh; omega
    unfold chgW at hlit ea
    simp only [blkQ_normal, endI_mk, andThen_normal, goI_out, goI_ops, opsA_nil, opsA_cons, stepA_assign, stepA_buildSlice, stepA_append, thenH_some, eval_tmp, put_some, put_none, Nat.reduceEqDiff, List.map_cons, List.map_nil, if_true, if_false, hlit, ea]
    refine hid_mk ⟨vis ++ [x], ⟨f0, f12, by omega, by rw [g2]; simp, a2.conv ?_, hid2, ?_, ?_⟩, ?_⟩
    · simp
    · intro e he
      rcases List.mem_append.1 he with h1 | h1
      · exact hvl e h1
      · simp at h1; subst h1; exact hx
    · rw [List.map_append, List.nodup_append]
      exact ⟨hvn, by simp, fun a ha b hb => by simp at hb; subst hb; exact fun hh => hxn (hh ▸ ha)⟩
    · rw [List.map_append]
      exact less
end Go.Proofs.Ytihgdbelfjdajaa.Pk
