/-
  What functions of the program do, told of abstract states. Conditions: as each theorem says.
-/
import Derived.Test.YtedkjhifbibpmaaGreatDoorMeW
import Derived.Test.YtedkjhifbibpmaaGreatDoorMeS
import Derived.Test.YtedkjhifbibpmaaGreatDoorTyE
import Derived.Test.YtedkjhifbibpmaaGreatDoorAbD
namespace Go.Proofs.YtedkjhifbibpmaaGreatDoor.Pk
open Go Go.Proofs Go.Proofs.YtedkjhifbibpmaaGreatDoor.Ab
set_option linter.unusedVariables false
set_option linter.unusedSimpArgs false
end Go.Proofs.YtedkjhifbibpmaaGreatDoor.Pk
namespace Go.Proofs.YtedkjhifbibpmaaGreatDoor.Pk
open Go Go.Proofs Go.Proofs.YtedkjhifbibpmaaGreatDoor.Ab
set_option linter.unusedVariables false
set_option linter.unusedSimpArgs false
/-! ### List, what SortFunc does being given -/
def aheadW (a b : Chg) : Bool := decide (a.fr < b.fr ∨ (a.fr = b.fr ∧ a.key < b.key))
def SortedW (l : List Chg) : Prop := l.Pairwise fun a b => aheadW b a = false
def SortC (fv : V) : Prop := ∀ (h : AHeap) (x : V) (l : List Chg), Own h 40 5 x (l.flatMap chgE) → l.length ≤ 2 ^ 40 →
  SCalls Tryz.prog 163 [x, fv] h (fun r h' => r = .tuple [] ∧ Keep h h' (isId x) ∧ ∃ l', l'.Perm l ∧ SortedW l' ∧ Own h' 40 5 x (l'.flatMap chgE))
abbrev byW : V := .func (.func 164) [] []
def chgW (size : Int) (e : Nat × (Int × Int) × Int) : Chg := ⟨e.2.1.1, e.2.1.2, e.2.1.2 + size, e.2.2, false⟩
theorem mem_wE {l : Ent} {e : Nat × V × V} (h : e ∈ wE l) : ∃ x ∈ l, e = (x.1, plK x.2.1, .int .i64 x.2.2) := by
  obtain ⟨x, hx, rfl⟩ := List.mem_map.1 h
  exact ⟨x, hx, rfl⟩
theorem wE_stamps (l : Ent) : (wE l).map (·.1) = l.map (·.1) := by simp [wE, mapK]
theorem stamp_inj : ∀ {q : Ent}, (q.map (·.1)).Nodup → ∀ {x y}, x ∈ q → y ∈ q → x.1 = y.1 → x = y
  | [], _, x, y, hx, _, _ => by cases hx
  | z :: q, hq, x, y, hx, hy, e => by
    have hq' := List.nodup_cons.1 hq
    rcases List.mem_cons.1 hx with h1 | h1
    · rcases List.mem_cons.1 hy with h2 | h2
      · rw [h1, h2]
      · exact absurd (List.mem_map.2 ⟨y, h2, by rw [← e, h1]⟩) hq'.1
    · rcases List.mem_cons.1 hy with h2 | h2
      · exact absurd (List.mem_map.2 ⟨x, h1, by rw [e, h2]⟩) hq'.1
      · exact stamp_inj hq'.2 h1 h2 e
theorem accSet {h0 h : AHeap} {e : TypeId} {sz : Nat} {v : V} {cs : List V} (a : Acc h0 h e sz v cs) {i : Nat} (hi : h0.n ≤ i) (hv : idOf v ≠ some i) (o : AObj) : Acc h0 (h.set i o) e sz v cs :=
  ⟨a.own.keep (Keep.set _ _ _) fun k hk he => hv (by rw [hk, he]), a.keep.setNew hi o, a.new⟩
theorem perm_vis {l vis : Ent} (hn : (l.map (·.1)).Nodup) (hv : (vis.map (·.1)).Nodup) (h1 : ∀ e ∈ vis, e ∈ l) (h2 : ∀ e ∈ l, e.1 ∈ vis.map (·.1)) : vis.Perm l := by
  have nl : l.Nodup := (List.pairwise_map.1 hn).imp fun h e => h (by rw [e])
  have nv : vis.Nodup := (List.pairwise_map.1 hv).imp fun h e => h (by rw [e])
  rw [List.perm_ext_iff_of_nodup nv nl]
  intro a
  refine ⟨h1 a, fun ha => ?_⟩
  obtain ⟨b, hb, hab⟩ := List.mem_map.1 (h2 a ha)
  have hbl := h1 b hb
  rw [← stamp_inj hn hbl ha hab]; exact hb
set_option maxHeartbeats 2000000 in
set_option maxRecDepth 20000 in
theorem winList (SC : SortC byW) (h : AHeap) (i m cl : Nat) (room size : Int) (l : Ent) (k : IsWin h i m room size (wE l) cl) (hs : Stamps (wE l) cl) (hl : l.length ≤ 2 ^ 30) (hf : ∀ e ∈ l, 0 ≤ e.2.1.2 ∧ e.2.1.2 ≤ 2 ^ 41) :
    SCalls Tryz.prog 302 [.ptr i 0] h (fun r h' => Keep h h' none_ ∧ ∃ lc, lc.Perm (l.map (chgW size)) ∧ SortedW lc ∧ Own h' 40 5 r (lc.flatMap chgE) ∧ (∀ j, idOf r = some j → h.n ≤ j)) := by
  refine SCalls.enterI (c := _) Tryz.func302 rfl (by kernel_rfl) (by simp) ?_
  have gi := k.get
  have gm := k.map
  simp only [wpA_region, wpA_seq, seqQ_normal, goI_out, goI_ops, opsA_nil, opsA_cons, stepA_move, stepA_assign, stepA_call, eval_tmp, eval_const, put_some, enterF_zero, enterF_succ, absV_snil, Nat.reduceEqDiff, reduceCtorEq, List.map_cons, List.map_nil, if_true, if_false]
  refine callI_pure cal161 (winMiss h i m cl room size _ k) ?_
  obtain ⟨q, hq⟩ := mt_114x
  have hrg := range_map hq gm
  simp only [wpA_skip, wpA_region, wpA_seq, wpA_cond, wpA_block, wpA_loop, condI_false, seqQ_normal, goI_out, goI_ops, opsA_nil, opsA_cons, stepA_move, stepA_assign, stepA_load, stepA_nilCheck, stepA_fieldAddr, stepA_range, thenV_some, thenH_some, nilV_ptr, eval_tmp, eval_const, put_some, enterF_zero, enterF_succ, absV_snil, aField_eq, fieldGo_ptr, aLoad_eq, loadGo_one, aPlace_ptr, dropC_cells, Nat.reduceEqDiff, Nat.reduceAdd, Nat.reduceLeDiff, reduceCtorEq, Nat.zero_add, List.length_cons, List.length_nil, List.drop_zero, List.drop_succ_cons, if_true, if_false, ft_272_2, lt_270, gi, hrg]
  refine SWp.loopG (α := Ent) (fun vis f h' => f 0 = .ptr i 0 ∧ f 12 = .ptr h.n 0 ∧ h.n < h'.n ∧ h'.get h.n = .iter m cl (vis.map (·.1)) cl ∧ Acc h h' 40 5 (f 3) ((vis.map (chgW size)).flatMap chgE) ∧ idOf (f 3) ≠ some h.n ∧ (∀ e ∈ vis, e ∈ l) ∧ (vis.map (·.1)).Nodup)
    (fun vis => (remOf (wE l) (vis.map (·.1))).length) []
    ⟨rfl, rfl, by simp only [push_n]; omega, get_push_new, Acc.nil (Keep.push _ _ _), (show idOf V.snil ≠ some h.n by simp [idOf]), by simp, by simp⟩ ?_
  rintro vis f h' ⟨f0, f12, hn, hr, acc, hid, hvl, hvn⟩
  refine wpI_sound (by kernel_rfl) ?_
  have k1 := k.keepN acc.keep
  simp only [wpA_region, wpA_seq, opsA_cons, stepA_next, eval_tmp, f12]
  refine alts_ro hr k1.map hs (fun hleft => ?_) fun e he => ?_
  · have hall : ∀ e ∈ l, e.1 ∈ vis.map (·.1) := fun e he => by
      apply Classical.byContradiction
      intro hns
      have : (e.1, plK e.2.1, V.int .i64 e.2.2) ∈ remOf (wE l) (vis.map (·.1)) := by
        unfold remOf
        exact List.mem_filter.2 ⟨List.mem_map.2 ⟨e, he, rfl⟩, by simpa using hns⟩
      rw [hleft] at this
      simp at this
    have hp : vis.Perm l := perm_vis (by rw [← wE_stamps]; exact hs.2) hvn hvl hall
    have hpl := hp.length_eq
    simp only [wpA_region, wpA_seq, wpA_cond, wpA_exit, condI_false, seqQ_normal, seqQ_exit, blkQ_exit, endI_mk, goE, andThen_exit, goI_out, goI_ops, opsA_nil, opsA_cons, stepA_move, stepA_extract, stepA_call, thenV_some, extV_zero, eval_tmp, eval_func, put_some, Nat.reduceEqDiff, List.map_cons, List.map_nil, if_true, if_false]
    refine callI_of cal163 (SC h' (f 3) (vis.map (chgW size)) acc.own (by rw [List.length_map]; omega)) fun r h2 ⟨e1, k2, lc, pl, sl, o2⟩ => ?_
    subst e1
    simp only [wpA_region, wpA_seq, wpA_ret, seqQ_normal, endI_mk, goI_out, goI_ops, opsA_nil, opsA_cons, stepA_move, stepA_assign, eval_tmp, put_some, Nat.reduceEqDiff, if_true, if_false, retA_ret, Tryz.results302, resultsA_1]
    refine hid_mk ⟨acc.keep.trans k2 fun q hq e => by have := acc.new q e; omega, lc, pl.trans (hp.map _), sl, o2, acc.new⟩
  · obtain ⟨x, hx, rfl⟩ := mem_wE (List.mem_filter.1 he).1
    have hxn : x.1 ∉ vis.map (·.1) := by
      have := (List.mem_filter.1 he).2
      simpa using this
    have less := remOf_snoc he
    generalize hH : h'.set h.n (.iter m cl (vis.map (·.1) ++ [x.1]) cl) = H
    have aS : Acc h H 40 5 (f 3) ((vis.map (chgW size)).flatMap chgE) := by rw [← hH]; exact accSet acc (Nat.le_refl _) hid _
    have nH : H.n = h'.n := by rw [← hH]; rfl
    have gr : H.get h.n = .iter m cl (vis.map (·.1) ++ [x.1]) cl := by rw [← hH]; exact get_set_same
    have k2 := k.keepN aS.keep
    have hen := entry_ro gr k2.map hs (List.mem_filter.1 he).1
    obtain ⟨f0', f1'⟩ := hf x hx
    have hlen : vis.length < l.length := by
      have n1 : ((vis ++ [x]).map (·.1)).Nodup := by
        rw [List.map_append, List.nodup_append]
        exact ⟨hvn, by simp, fun a ha b hb => by simp at hb; subst hb; exact fun hh => hxn (hh ▸ ha)⟩
      have n2 : (vis ++ [x]).Nodup := (List.pairwise_map.1 n1).imp fun h e => h (by rw [e])
      have := n2.length_le_of_subset (l₂ := l) fun e he => by
        rcases List.mem_append.1 he with h | h
        · exact hvl e h
        · simp at h; subst h; exact hx
      rw [List.length_append] at this
      simp at this
      omega
    have pc : (plK x.2.1).cells = some [.int .i64 x.2.1.1, .int .i64 x.2.1.2] := rfl
    have lp : loadGo (some (some 2)) (some [.int .i64 x.2.1.1, .int .i64 x.2.1.2]) = some (.agg [.int .i64 x.2.1.1, .int .i64 x.2.1.2]) := rfl
    simp only [wpA_skip, wpA_region, wpA_seq, wpA_cond, wpA_block, condI_true, seqQ_normal, goI_out, goI_ops, opsA_nil, opsA_cons, stepA_move, stepA_assign, stepA_alloc, stepA_load, stepA_store, stepA_entry, stepA_extract, stepA_call, thenV_some, thenH_some, thenS_some, extV_zero, extV_succ, eval_tmp, put_some, put_none, one_int, all_nil, all_cons, aLoad_eq, aPlace_ptr, dropC_cells, aStore_eq, storeGo_ptr, setC_row, setAll_nil, setAll_cons, aAlloc_eq, get_push_new, set_push, Nat.reduceEqDiff, Nat.reduceAdd, reduceCtorEq, List.map_cons, List.map_nil, Option.map_some, Nat.zero_add, Nat.zero_le, List.length_cons, List.length_nil, List.drop_zero, List.set_cons_zero, List.set_cons_succ, if_true, if_false, Bool.and_self, Nat.le_refl, lt_286, zc_286, zt_286, f0, f12, hen, pc, lp]
    have aP := aS.on (Keep.push H (.cells [.int .i64 x.2.1.1, .int .i64 x.2.1.2] 286 none) none_)
    have gP : (H.push (.cells [.int .i64 x.2.1.1, .int .i64 x.2.1.2] 286 none)).get h.n = .iter m cl (vis.map (·.1) ++ [x.1]) cl := (get_push_lt (by omega)).trans gr
    have nP : (H.push (.cells [.int .i64 x.2.1.1, .int .i64 x.2.1.2] 286 none)).n = H.n + 1 := rfl
    generalize H.push (.cells [.int .i64 x.2.1.1, .int .i64 x.2.1.2] 286 none) = HP at aP gP nP ⊢
    have k3 := k.keepN aP.keep
    refine callI_pure cal174 (winSet HP i m cl room size x.2.1.1 x.2.1.2 x.2.2 _ k3 f0' f1') ?_
    obtain ⟨s', h2, ea, o2, kp2, d2⟩ := append_elemM (P := Tryz.prog) sl_35 (by decide) aP.own (xs := chgE (chgW size x)) rfl rfl (fun m hm => by
      change m * 5 = _ + 5 at hm
      rw [rows_len chgE_len, List.length_map] at hm
      exact ⟨by simp only [lim]; omega, by simp only [lim]; omega⟩)
    have hlit := lit1c HP (chgW size x)
    have a2 := aP.step o2 kp2 d2
    have g2 := (kp2.get h.n (by omega) (fun hh => hid hh)).trans gP
    have n2 := kp2.n
    have hid2 : idOf s' ≠ some h.n := fun hh => by
      rcases d2 with d | d
      · exact hid (d ▸ hh)
      · have := d _ hh; omega
    unfold chgW at hlit ea
    simp only [blkQ_normal, endI_mk, andThen_normal, goI_out, goI_ops, opsA_nil, opsA_cons, stepA_assign, stepA_buildSlice, stepA_append, thenH_some, eval_tmp, put_some, put_none, Nat.reduceEqDiff, List.map_cons, List.map_nil, if_true, if_false, hlit, ea]
    refine hid_mk ⟨vis ++ [x], ⟨f0, f12, by omega, by rw [g2]; simp, a2.conv ?_, hid2, ?_, ?_⟩, ?_⟩
    · simp
    · intro e he
      rcases List.mem_append.1 he with h1 | h1
      · exact hvl e h1
      · simp at h1; subst h1; exact hx
    · rw [List.map_append, List.nodup_append]
      exact ⟨hvn, by simp, fun a ha b hb => by simp at hb; subst hb; exact fun hh => hxn (hh ▸ ha)⟩
    · rw [List.map_append]
      exact less
end Go.Proofs.YtedkjhifbibpmaaGreatDoor.Pk
namespace Go.Proofs.YtedkjhifbibpmaaGreatDoor.Pk
open Go Go.Proofs Go.Proofs.YtedkjhifbibpmaaGreatDoor.Ab
set_option linter.unusedVariables false
set_option linter.unusedSimpArgs false
/-! ### Expire for any store -/
def gnW (size before : Int) (e : Nat × (Int × Int) × Int) : Bool := decide (e.2.1.2 + size ≤ before)
def goneW (size : Int) (e : Nat × (Int × Int) × Int) : Chg := ⟨e.2.1.1, e.2.1.2, e.2.1.2 + size, 0, true⟩
def leftW (size before : Int) (l vis : Ent) : Ent := l.filter fun e => !(gnW size before e && (vis.map (·.1)).contains e.1)
theorem kdel_filter : ∀ {l : Ent}, KNodup l → ∀ k, kdel l k = l.filter fun e => decide (e.2.1 ≠ k)
  | [], _, k => rfl
  | e :: l, hn, k => by
    have hn' := List.nodup_cons.1 hn
    unfold kdel
    by_cases hk : k = e.2.1
    · rw [if_pos hk, List.filter_cons_of_neg (by simp [hk])]
      symm
      rw [List.filter_eq_self]
      intro y hy
      simp only [decide_eq_true_eq]
      exact fun hh => hn'.1 (List.mem_map.2 ⟨y, hy, by rw [hh, hk]⟩)
    · rw [if_neg hk, List.filter_cons_of_pos (by simp [Ne.symm hk]), kdel_filter hn'.2]
theorem key_inj : ∀ {q : Ent}, KNodup q → ∀ {x y}, x ∈ q → y ∈ q → x.2.1 = y.2.1 → x = y
  | [], _, x, y, hx, _, _ => by cases hx
  | z :: q, hq, x, y, hx, hy, e => by
    have hq' := List.nodup_cons.1 hq
    rcases List.mem_cons.1 hx with h1 | h1
    · rcases List.mem_cons.1 hy with h2 | h2
      · rw [h1, h2]
      · exact absurd (List.mem_map.2 ⟨y, h2, by rw [← e, h1]⟩) hq'.1
    · rcases List.mem_cons.1 hy with h2 | h2
      · exact absurd (List.mem_map.2 ⟨x, h1, by rw [e, h2]⟩) hq'.1
      · exact key_inj hq'.2 h1 h2 e
theorem cont_snoc {vis : Ent} {x e : Nat × (Int × Int) × Int} (h : e.1 ≠ x.1) : ((vis ++ [x]).map (·.1)).contains e.1 = (vis.map (·.1)).contains e.1 := by
  rw [Bool.eq_iff_iff, List.contains_iff_mem, List.contains_iff_mem, List.map_append, List.mem_append]
  simp [h]
theorem left_gone {size before : Int} {l vis : Ent} {x : Nat × (Int × Int) × Int} (hk : KNodup l) (hs : (l.map (·.1)).Nodup) (hx : x ∈ l) (hg : gnW size before x = true) : kdel (leftW size before l vis) x.2.1 = leftW size before l (vis ++ [x]) := by
  unfold leftW
  rw [kdel_filter (List.Nodup.sublist ((List.filter_sublist).map _) hk), List.filter_filter]
  apply List.filter_congr
  intro e he
  by_cases hex : e = x
  · subst hex; simp [hg]
  · have h1 : e.2.1 ≠ x.2.1 := fun hh => hex (key_inj hk he hx hh)
    have h2 : e.1 ≠ x.1 := fun hh => hex (stamp_inj hs he hx hh)
    rw [cont_snoc h2]
    simp [h1]
theorem left_stay {size before : Int} {l vis : Ent} {x : Nat × (Int × Int) × Int} (hs : (l.map (·.1)).Nodup) (hx : x ∈ l) (hg : gnW size before x = false) : leftW size before l vis = leftW size before l (vis ++ [x]) := by
  unfold leftW
  apply List.filter_congr
  intro e he
  by_cases hex : e = x
  · subst hex; simp [hg]
  · have h2 : e.1 ≠ x.1 := fun hh => hex (stamp_inj hs he hx hh)
    rw [cont_snoc h2]
theorem left_end {size before : Int} {l vis : Ent} (hs : (l.map (·.1)).Nodup) (hall : ∀ e ∈ leftW size before l vis, e.1 ∈ vis.map (·.1)) : leftW size before l vis = l.filter (fun e => !gnW size before e) ∧ ∀ e ∈ l, gnW size before e = true → e.1 ∈ vis.map (·.1) := by
  have h2 : ∀ e ∈ l, gnW size before e = true → e.1 ∈ vis.map (·.1) := fun e he hg => by
    apply Classical.byContradiction
    intro hn
    have hc : (vis.map (·.1)).contains e.1 = false := by simpa using hn
    exact hn (hall e (List.mem_filter.2 ⟨he, by rw [hg, hc]; rfl⟩))
  refine ⟨?_, h2⟩
  unfold leftW
  apply List.filter_congr
  intro e he
  cases hg : gnW size before e
  · rfl
  · have hc : (vis.map (·.1)).contains e.1 = true := by simpa using h2 e he hg
    rw [hc]; rfl
theorem perm_gone {size before : Int} {l vis : Ent} (hs : (l.map (·.1)).Nodup) (hv : (vis.map (·.1)).Nodup) (h1 : ∀ e ∈ vis, e ∈ l) (h2 : ∀ e ∈ l, gnW size before e = true → e.1 ∈ vis.map (·.1)) : (vis.filter (gnW size before)).Perm (l.filter (gnW size before)) := by
  have nl : l.Nodup := (List.pairwise_map.1 hs).imp fun h e => h (by rw [e])
  have nv : vis.Nodup := (List.pairwise_map.1 hv).imp fun h e => h (by rw [e])
  rw [List.perm_ext_iff_of_nodup (nv.sublist List.filter_sublist) (nl.sublist List.filter_sublist)]
  intro a
  simp only [List.mem_filter]
  refine ⟨fun ⟨ha, hg⟩ => ⟨h1 a ha, hg⟩, fun ⟨ha, hg⟩ => ⟨?_, hg⟩⟩
  obtain ⟨b, hb, hab⟩ := List.mem_map.1 (h2 a ha hg)
  rw [← stamp_inj hs (h1 b hb) ha hab]; exact hb
end Go.Proofs.YtedkjhifbibpmaaGreatDoor.Pk
namespace Go.Proofs.YtedkjhifbibpmaaGreatDoor.Pk
open Go Go.Proofs Go.Proofs.YtedkjhifbibpmaaGreatDoor.Ab
set_option linter.unusedVariables false
set_option linter.unusedSimpArgs false
set_option maxRecDepth 10000 in
theorem winGone (h : AHeap) (i m cl : Nat) (room size key fr : Int) (es : List (Nat × V × V)) (k : IsWin h i m room size es cl) (h0 : 0 ≤ fr) (h1 : fr ≤ 2 ^ 41) : Pure Tryz.prog 162 [.ptr i 0, pE key fr] h (.agg (chgE ⟨key, fr, fr + size, 0, true⟩)) := by
  refine Pure.val (Clo.agg (chgE_clo _)) ?_
  refine SCalls.enterI (c := _) Tryz.func162 rfl (by kernel_rfl) (by simp) ?_
  have hg := k.get
  have il := k.lt
  have hgi : ∀ A B, ((h.push A).push B).get i = .cells [.int .i64 room, .int .i64 size, .map m] 272 none := fun A B => (get_push_lt (by simp only [push_n]; omega)).trans ((get_push_lt il).trans hg)
  have hw : IntKind.i64.wrap (fr + size) = fr + size := Go.IntWalk.i64_in _ (by have := k.s1; have := k.s2; omega)
  simp only [wpA_region, wpA_seq, wpA_draw, seqQ_normal, goI_out, goI_ops, opsA_nil, opsA_cons, stepA_alloc, stepA_box, thenH_some, eval_tmp, enterF_zero, enterF_succ, aAlloc_eq, aBox_eq, push_n, Option.map_some, zc_40, pE_cells]
  refine SWp.drawnS none_ [12] (.q 0 (.q 1 (.q 2 (.q 3 (.q 4 (.q 5 (.q 6 (.q 7 (.q 8 (.q 9 (.q 10 (.q 11 (.a 12 .done))))))))))))) (by kernel_rfl) (by kernel_rfl) (by kernel_rfl) ?_
  simp only [siI_done, siI_q, siI_a, sqI_some, saI_some, mOk_none', implies_true, qI_nil, qI_cons, thenQ_some, q_move, q_load, q_build, q_nilCheck, q_binOp, q_fieldAddr, wpA_ret, seqQ_normal, endI_mk, goI_out, goI_ops, goI_mk, opsA_nil, opsA_cons, stepA_store, thenS_some, nilV_ptr, eval_tmp, eval_const, put_some, put_none, enterF_zero, enterF_succ, aBin_add, absV_bool, cells_int, cells_bool, cells_agg, one_int, one_bool, all_nil, all_cons, aField_eq, fieldGo_ptr, aLoad_eq, loadGo_one, loadGo_row, aPlace_ptr, dropC_cells, aStore_eq, storeGo_ptr, setC_row, setAll_nil, setAll_cons, aBuild_go, aFill_nil, aFill_cons, fillGo_some, buildGo_struct, get_push2, get_push2', set_push2, List.getElem?_cons_zero, List.getElem?_cons_succ, Nat.reduceEqDiff, Nat.reduceAdd, Nat.reduceLeDiff, reduceCtorEq, List.map_cons, List.map_nil, Option.map_some, Nat.add_zero, Nat.zero_add, Nat.zero_le, List.length_cons, List.length_nil, List.drop_zero, List.drop_succ_cons, List.take_succ_cons, List.take_nil, List.set_cons_zero, List.set_cons_succ, true_and, and_self, if_true, if_false, Bool.and_self, Nat.le_refl, ft_272_1, ft_286_0, ft_286_1, lt_2, lt_40, pl_40, zc_40, zt_40, hgi, hw, retA_ret, Tryz.results162, resultsC_1, resultA_cell]
  exact hid_mk ⟨rfl, (Keep.push _ _ _).then_push _⟩
set_option maxHeartbeats 4000000 in
set_option maxRecDepth 20000 in
theorem winExp (SC : SortC byW) (h : AHeap) (i m cl : Nat) (room size before : Int) (l : Ent) (k : IsWin h i m room size (wE l) cl) (hs : Stamps (wE l) cl) (hkn : KNodup l) (hl : l.length ≤ 2 ^ 30) (hf : ∀ e ∈ l, 0 ≤ e.2.1.2 ∧ e.2.1.2 ≤ 2 ^ 41) :
    SCalls Tryz.prog 112 [.ptr i 0, .int .i64 before] h (fun r h' => Keep h h' (fun q => q = m) ∧ IsWin h' i m room size (wE (l.filter fun e => !gnW size before e)) cl ∧
      ∃ lc, lc.Perm ((l.filter (gnW size before)).map (goneW size)) ∧ SortedW lc ∧ Own h' 40 5 r (lc.flatMap chgE) ∧ (∀ j, idOf r = some j → h.n ≤ j)) := by
  refine SCalls.enterI (c := _) Tryz.func112 rfl (by kernel_rfl) (by simp) ?_
  have gi := k.get
  have gm := k.map
  have hsn : (l.map (·.1)).Nodup := by rw [← wE_stamps]; exact hs.2
  simp only [wpA_region, wpA_seq, seqQ_normal, goI_out, goI_ops, opsA_nil, opsA_cons, stepA_move, stepA_assign, stepA_call, eval_tmp, eval_const, put_some, enterF_zero, enterF_succ, absV_snil, Nat.reduceEqDiff, reduceCtorEq, List.map_cons, List.map_nil, if_true, if_false]
  refine callI_pure cal161 (winMiss h i m cl room size _ k) ?_
  obtain ⟨q, hq⟩ := mt_114x
  have hrg := range_map hq gm
  simp only [wpA_skip, wpA_region, wpA_seq, wpA_cond, wpA_block, wpA_loop, condI_false, seqQ_normal, goI_out, goI_ops, opsA_nil, opsA_cons, stepA_move, stepA_assign, stepA_load, stepA_nilCheck, stepA_fieldAddr, stepA_range, thenV_some, thenH_some, nilV_ptr, eval_tmp, eval_const, put_some, enterF_zero, enterF_succ, absV_snil, aField_eq, fieldGo_ptr, aLoad_eq, loadGo_one, aPlace_ptr, dropC_cells, Nat.reduceEqDiff, Nat.reduceAdd, Nat.reduceLeDiff, reduceCtorEq, Nat.zero_add, List.length_cons, List.length_nil, List.drop_zero, List.drop_succ_cons, if_true, if_false, ft_272_2, lt_270, gi, hrg]
  have il := k.lt
  have ml := k.ml
  refine SWp.loopG (α := Ent) (fun vis f h' => f 0 = .ptr i 0 ∧ f 1 = .int .i64 before ∧ f 13 = .ptr h.n 0 ∧ h.n < h'.n ∧ h'.get h.n = .iter m cl (vis.map (·.1)) cl ∧ Keep h h' (fun q => q = m) ∧ IsWin h' i m room size (wE (leftW size before l vis)) cl ∧
      Own h' 40 5 (f 5) (((vis.filter (gnW size before)).map (goneW size)).flatMap chgE) ∧ (∀ j, idOf (f 5) = some j → h.n ≤ j) ∧ idOf (f 5) ≠ some h.n ∧ (∀ e ∈ vis, e ∈ l) ∧ (vis.map (·.1)).Nodup)
    (fun vis => l.length - vis.length) []
    ⟨rfl, rfl, rfl, by simp only [push_n]; omega, get_push_new, Keep.push _ _ _, by
      have : leftW size before l [] = l := by unfold leftW; simp
      rw [this]; exact k.keepN (Keep.push _ _ _), Own.snil _ _ _, (show ∀ j, idOf V.snil = some j → h.n ≤ j by simp [idOf]), (show idOf V.snil ≠ some h.n by simp [idOf]), by simp, by simp⟩ ?_
  rintro vis f h' ⟨f0, f1, f13, hn, hr, kp, kw, ow, hnw, hid, hvl, hvn⟩
  refine wpI_sound (by kernel_rfl) ?_
  have hsub : (leftW size before l vis).Sublist l := List.filter_sublist
  have hsW : Stamps (wE (leftW size before l vis)) cl := by
    refine ⟨fun e he => ?_, ?_⟩
    · obtain ⟨x, hx, rfl⟩ := mem_wE he
      exact hs.1 _ (List.mem_map.2 ⟨x, hsub.subset hx, rfl⟩)
    · rw [wE_stamps]; exact hsn.sublist (hsub.map _)
  simp only [wpA_region, wpA_seq, opsA_cons, stepA_next, eval_tmp, f13]
  refine alts_ro hr kw.map hsW (fun hleft => ?_) fun e he => ?_
  · have hall : ∀ e ∈ leftW size before l vis, e.1 ∈ vis.map (·.1) := fun e he => by
      apply Classical.byContradiction
      intro hns
      have : (e.1, plK e.2.1, V.int .i64 e.2.2) ∈ remOf (wE (leftW size before l vis)) (vis.map (·.1)) := by
        unfold remOf
        exact List.mem_filter.2 ⟨List.mem_map.2 ⟨e, he, rfl⟩, by simpa using hns⟩
      rw [hleft] at this
      simp at this
    obtain ⟨hle, hga⟩ := left_end hsn hall
    have hp := perm_gone (size := size) (before := before) hsn hvn hvl hga
    have hpl := hp.length_eq
    have hfl := (List.filter_sublist (p := gnW size before) (l := l)).length_le
    simp only [wpA_region, wpA_seq, wpA_cond, wpA_exit, condI_false, seqQ_normal, seqQ_exit, blkQ_exit, endI_mk, goE, andThen_exit, goI_out, goI_ops, opsA_nil, opsA_cons, stepA_move, stepA_extract, stepA_call, thenV_some, extV_zero, eval_tmp, eval_func, put_some, Nat.reduceEqDiff, List.map_cons, List.map_nil, if_true, if_false]
    refine callI_of cal163 (SC h' (f 5) _ ow (by rw [List.length_map]; omega)) fun r h2 ⟨e1, k2, lc, pl, sl, o2⟩ => ?_
    subst e1
    simp only [wpA_region, wpA_seq, wpA_ret, seqQ_normal, endI_mk, goI_out, goI_ops, opsA_nil, opsA_cons, stepA_move, stepA_assign, eval_tmp, put_some, Nat.reduceEqDiff, if_true, if_false, retA_ret, Tryz.results112, resultsA_1]
    have nm : ∀ j, isId (f 5) j → h.n ≤ j := fun j hj => hnw j hj
    refine hid_mk ⟨kp.trans k2 fun q hq e => by have := nm q e; omega, ?_, lc, pl.trans (hp.map _), sl, o2, hnw⟩
    rw [← hle]
    have n2 := k2.n
    exact ⟨(k2.get i kw.lt (fun e => by have := nm i e; omega)).trans kw.get, (k2.get m kw.ml (fun e => by have := nm m e; omega)).trans kw.map, k.ne, by have := kw.lt; omega, by have := kw.ml; omega, k.s1, k.s2⟩
  · obtain ⟨x, hxl, rfl⟩ := mem_wE (List.mem_filter.1 he).1
    have hx := hsub.subset hxl
    have hxn : x.1 ∉ vis.map (·.1) := by
      have := (List.mem_filter.1 he).2
      simpa using this
    generalize hH : h'.set h.n (.iter m cl (vis.map (·.1) ++ [x.1]) cl) = H
    have kI : Keep h' H (fun q => q = h.n) := by rw [← hH]; exact Keep.set _ _ _
    have kpH : Keep h H (fun q => q = m) := by rw [← hH]; exact kp.setNew (Nat.le_refl _) _
    have nH : H.n = h'.n := by rw [← hH]; rfl
    have gr : H.get h.n = .iter m cl (vis.map (·.1) ++ [x.1]) cl := by rw [← hH]; exact get_set_same
    have kw2 : IsWin H i m room size (wE (leftW size before l vis)) cl := ⟨(kI.get i kw.lt (by omega)).trans kw.get, (kI.get m kw.ml (by omega)).trans kw.map, k.ne, by have := kw.lt; omega, by have := kw.ml; omega, k.s1, k.s2⟩
    have ow2 : Own H 40 5 (f 5) (((vis.filter (gnW size before)).map (goneW size)).flatMap chgE) := ow.keep kI fun j hj e => hid (by rw [hj, e])
    have hen := entry_ro gr kw2.map hsW (List.mem_filter.1 he).1
    obtain ⟨f0', f1'⟩ := hf x hx
    have n1 : ((vis ++ [x]).map (·.1)).Nodup := by
      rw [List.map_append, List.nodup_append]
      exact ⟨hvn, by simp, fun a ha b hb => by simp at hb; subst hb; exact fun hh => hxn (hh ▸ ha)⟩
    have hvl2 : ∀ e ∈ vis ++ [x], e ∈ l := fun e he => by
      rcases List.mem_append.1 he with h | h
      · exact hvl e h
      · simp at h; subst h; exact hx
    have hlen : vis.length < l.length := by
      have n2 : (vis ++ [x]).Nodup := (List.pairwise_map.1 n1).imp fun h e => h (by rw [e])
      have := n2.length_le_of_subset (l₂ := l) hvl2
      rw [List.length_append] at this
      simp at this
      omega
    have gi2 := kw2.get
    have pc : (plK x.2.1).cells = some [.int .i64 x.2.1.1, .int .i64 x.2.1.2] := rfl
    have lp : loadGo (some (some 2)) (some [.int .i64 x.2.1.1, .int .i64 x.2.1.2]) = some (.agg [.int .i64 x.2.1.1, .int .i64 x.2.1.2]) := rfl
    have hw : IntKind.i64.wrap (x.2.1.2 + size) = x.2.1.2 + size := Go.IntWalk.i64_in _ (by have := k.s1; have := k.s2; omega)
    simp only [wpA_skip, wpA_region, wpA_seq, wpA_cond, wpA_block, wpA_draw, condI_true, seqQ_normal, goI_out, goI_ops, opsA_nil, opsA_cons, stepA_alloc, stepA_store, stepA_entry, stepA_extract, thenV_some, thenH_some, thenS_some, extV_zero, eval_tmp, put_some, one_int, all_nil, all_cons, aStore_eq, storeGo_ptr, setC_row, setAll_nil, setAll_cons, aAlloc_eq, get_push_new, set_push, Nat.reduceEqDiff, Nat.reduceAdd, Option.map_some, Nat.zero_add, List.length_cons, List.length_nil, List.set_cons_zero, List.set_cons_succ, if_true, if_false, Bool.and_self, Nat.le_refl, zc_286, zt_286, f13, hen, pc]
    have gi3 : ∀ A, (H.push A).get i = .cells [.int .i64 room, .int .i64 size, .map m] 272 none := fun A => (get_push_lt kw2.lt).trans gi2
    have hgx : gnW size before x = decide (x.2.1.2 + size ≤ before) := rfl
    cases hg : gnW size before x
    · have d1 : decide (x.2.1.2 + size ≤ before) = false := by rw [← hgx, hg]
      refine SWp.drawnS none_ [] (.q 0 (.q 1 (.q 2 (.q 3 (.q 4 (.q 5 (.q 6 (.q 7 (.q 8 .done))))))))) (by kernel_rfl) (by kernel_rfl) (by kernel_rfl) ?_
      simp only [siI_done, siI_q, sqI_some, mOk_none', implies_true, qI_nil, qI_cons, thenQ_some, q_move, q_load, q_nilCheck, q_binOp, q_fieldAddr, wpA_skip, wpA_cond, condI_false, seqQ_normal, blkQ_normal, endI_mk, andThen_normal, goI_out, goI_mk, nilV_ptr, eval_tmp, put_some, put_none, aBin_add, aBin_leq, aField_eq, fieldGo_ptr, aLoad_eq, loadGo_one, aPlace_ptr, dropC_cells, get_push_new, List.getElem?_cons_zero, List.getElem?_cons_succ, Nat.reduceEqDiff, Nat.reduceAdd, Nat.reduceLeDiff, reduceCtorEq, Nat.zero_add, List.length_cons, List.length_nil, List.drop_zero, List.drop_succ_cons, true_and, if_true, if_false, ft_272_1, ft_286_1, lt_2, f0, f1, gi3, hw, d1]
      refine hid_mk ⟨vis ++ [x], ⟨f0, f1, f13, by simp only [push_n]; omega, (get_push_lt (by omega)).trans (by rw [gr]; simp), kpH.then_push _, ?_, ?_, hnw, hid, hvl2, n1⟩, by simp only [List.length_append, List.length_cons, List.length_nil]; omega⟩
      · rw [← left_stay hsn hx hg]; exact kw2.keepN (Keep.push _ _ _)
      · rw [List.filter_append, List.filter_cons_of_neg (by simp [hg]), List.filter_nil, List.append_nil]; exact ow2.keepN (Keep.push _ _ _)
    · have d1 : decide (x.2.1.2 + size ≤ before) = true := by rw [← hgx, hg]
      refine SWp.drawnS none_ [] (.q 0 (.q 1 (.q 2 (.q 3 (.q 4 (.q 5 (.q 6 (.q 7 (.q 8 .done))))))))) (by kernel_rfl) (by kernel_rfl) (by kernel_rfl) ?_
      simp only [siI_done, siI_q, sqI_some, mOk_none', implies_true, qI_nil, qI_cons, thenQ_some, q_move, q_load, q_nilCheck, q_binOp, q_fieldAddr, wpA_region, wpA_seq, wpA_cond, condI_true, seqQ_normal, goI_out, goI_ops, goI_mk, opsA_cons, stepA_move, stepA_load, stepA_call, thenV_some, nilV_ptr, eval_tmp, put_some, put_none, aBin_add, aBin_leq, aField_eq, fieldGo_ptr, aLoad_eq, loadGo_one, loadGo_row, aPlace_ptr, dropC_cells, get_push_new, List.getElem?_cons_zero, List.getElem?_cons_succ, Nat.reduceEqDiff, Nat.reduceAdd, Nat.reduceLeDiff, reduceCtorEq, List.map_cons, List.map_nil, Nat.zero_add, Nat.zero_le, List.length_cons, List.length_nil, List.drop_zero, List.drop_succ_cons, List.take_succ_cons, List.take_nil, true_and, if_true, if_false, Nat.le_refl, ft_272_1, ft_286_1, lt_2, lt_286, f0, f1, gi3, hw, d1]
      have kP := kpH.then_push (.cells [.int .i64 x.2.1.1, .int .i64 x.2.1.2] 286 none)
      have gP : (H.push (.cells [.int .i64 x.2.1.1, .int .i64 x.2.1.2] 286 none)).get h.n = .iter m cl (vis.map (·.1) ++ [x.1]) cl := (get_push_lt (by omega)).trans gr
      have gpl : (H.push (.cells [.int .i64 x.2.1.1, .int .i64 x.2.1.2] 286 none)).get H.n = .cells [.int .i64 x.2.1.1, .int .i64 x.2.1.2] 286 none := get_push_new
      have nP : (H.push (.cells [.int .i64 x.2.1.1, .int .i64 x.2.1.2] 286 none)).n = H.n + 1 := rfl
      have kw3 := kw2.keepN (Keep.push H (.cells [.int .i64 x.2.1.1, .int .i64 x.2.1.2] 286 none) none_)
      have ow3 := ow2.keepN (Keep.push H (.cells [.int .i64 x.2.1.1, .int .i64 x.2.1.2] 286 none) none_)
      generalize H.push (.cells [.int .i64 x.2.1.1, .int .i64 x.2.1.2] 286 none) = HP at kP gP gpl nP kw3 ow3 ⊢
      refine callI_pure cal162 (winGone HP i m cl room size x.2.1.1 x.2.1.2 _ kw3 f0' f1') ?_
      have hvf := (List.filter_sublist (p := gnW size before) (l := vis)).length_le
      obtain ⟨s', h2, ea, o2, kp2, d2⟩ := append_elemM (P := Tryz.prog) sl_35 (by decide) ow3 (xs := chgE (goneW size x)) rfl rfl (fun m hm => by
        change m * 5 = _ + 5 at hm
        rw [rows_len chgE_len, List.length_map] at hm
        exact ⟨by simp only [lim]; omega, by simp only [lim]; omega⟩)
      have nm : ∀ j, isId (f 5) j → h.n ≤ j := fun j hj => hnw j hj
      have g2 := (kp2.get h.n (by omega) (fun hh => hid hh)).trans gP
      have gp2 := (kp2.get H.n (by omega) (fun hh => by have := ow2.lt _ hh; omega)).trans gpl
      have n2 := kp2.n
      have hid2 : idOf s' ≠ some h.n := fun hh => by
        rcases d2 with d | d
        · exact hid (d ▸ hh)
        · have := d _ hh; omega
      have hnw2 : ∀ j, idOf s' = some j → h.n ≤ j := fun j hj => by
        rcases d2 with d | d
        · exact hnw j (d ▸ hj)
        · have := d _ hj; omega
      have k4 : IsWin h2 i m room size (wE (leftW size before l vis)) cl := ⟨(kp2.get i kw3.lt (fun e => by have := nm i e; omega)).trans kw3.get, (kp2.get m kw3.ml (fun e => by have := nm m e; omega)).trans kw3.map, k.ne, by have := kw3.lt; omega, by have := kw3.ml; omega, k.s1, k.s2⟩
      have gi4 := k4.get
      have hlit := lit1c HP (goneW size x)
      have hdl := delW _ x.2.1.1 x.2.1.2 k4.map
      unfold goneW at hlit ea
      simp only [wpA_draw, seqQ_normal, goI_out, goI_ops, opsA_nil, opsA_cons, stepA_assign, stepA_buildSlice, stepA_append, thenH_some, eval_tmp, put_some, put_none, Nat.reduceEqDiff, List.map_cons, List.map_nil, if_true, if_false, hlit, ea]
      refine SWp.drawnS none_ [5] (.q 0 (.q 1 (.q 2 (.q 3 (.q 4 (.a 5 .done)))))) (by kernel_rfl) (by kernel_rfl) (by kernel_rfl) ?_
      simp only [siI_done, siI_q, siI_a, sqI_some, saI_some, mOk_none', implies_true, qI_nil, qI_cons, thenQ_some, q_move, q_load, q_nilCheck, q_fieldAddr, blkQ_normal, endI_mk, andThen_normal, goI_out, goI_ops, goI_mk, opsA_nil, opsA_cons, stepA_delete, thenH_some, nilV_ptr, eval_tmp, put_some, put_none, aField_eq, fieldGo_ptr, aLoad_eq, loadGo_one, aPlace_ptr, dropC_cells, List.getElem?_cons_zero, List.getElem?_cons_succ, Nat.reduceEqDiff, Nat.reduceAdd, Nat.reduceLeDiff, reduceCtorEq, Option.map_some, Nat.zero_add, Nat.zero_le, List.length_cons, List.length_nil, List.drop_zero, List.drop_succ_cons, true_and, if_true, if_false, ft_272_2, lt_270, lt_286, f0, gi4, gp2, lp, hdl]
      have kM : Keep h2 (h2.set m (.map (wE (kdel (leftW size before l vis) (x.2.1.1, x.2.1.2))) cl)) (fun q => q = m) := Keep.set _ _ _
      have hkd : kdel (leftW size before l vis) (x.2.1.1, x.2.1.2) = leftW size before l (vis ++ [x]) := left_gone hkn hsn hx hg
      refine hid_mk ⟨vis ++ [x], ⟨f0, f1, f13, by show h.n < h2.n; omega, (kM.get h.n (by omega) (by omega)).trans (by rw [g2]; simp), (kP.trans kp2 fun q hq e => by have := nm q e; omega).trans' kM, ?_, ?_, hnw2, hid2, hvl2, n1⟩, by simp only [List.length_append, List.length_cons, List.length_nil]; omega⟩
      · rw [hkd] at kM ⊢
        exact ⟨(kM.get i k4.lt (by exact k.ne)).trans gi4, get_set_same, k.ne, k4.lt, k4.ml, k.s1, k.s2⟩
      · rw [List.filter_append, List.filter_cons_of_pos (by simp [hg]), List.filter_nil, List.map_append, List.flatMap_append]
        have o3 := o2.keep kM fun j hj e => by have := hnw2 j hj; omega
        rw [show List.flatMap chgE (List.map (goneW size) [x]) = chgE (goneW size x) by simp]
        exact o3
end Go.Proofs.YtedkjhifbibpmaaGreatDoor.Pk
namespace Go.Proofs.YtedkjhifbibpmaaGreatDoor.Pk
open Go Go.Proofs Go.Proofs.YtedkjhifbibpmaaGreatDoor.Ab
set_option linter.unusedVariables false
set_option linter.unusedSimpArgs false
/-! ### Sorted changes -/
def plC (c : Chg) : Int × Int := (c.key, c.fr)
theorem ahead_cases {a b : Chg} (h : plC a ≠ plC b) (hn : aheadW b a = false) : aheadW a b = true := by
  unfold aheadW at *
  simp only [decide_eq_false_iff_not, decide_eq_true_eq] at *
  have : ¬ (a.key = b.key ∧ a.fr = b.fr) := fun e => h (Prod.ext e.1 e.2)
  omega
/-- Sorted lists of the same changes, no place twice, are the same. -/
theorem sorted_unique : ∀ {a b : List Chg}, a.Perm b → SortedW a → SortedW b → (a.map plC).Nodup → a = b
  | [], b, hp, _, _, _ => (List.nil_perm.1 hp).symm
  | x :: a, b, hp, ha, hb, hd => by
    cases b with
    | nil => exact absurd (List.perm_nil.1 hp) (by simp)
    | cons y b =>
      have hd' := List.nodup_cons.1 hd
      have ha' := List.pairwise_cons.1 ha
      have hb' := List.pairwise_cons.1 hb
      have hxy : x = y := by
        apply Classical.byContradiction
        intro hne
        have hy : y ∈ a := by
          rcases List.mem_cons.1 (hp.symm.subset (List.mem_cons_self (a := y) (l := b))) with h | h
          · exact absurd h.symm hne
          · exact h
        have hx : x ∈ b := by
          rcases List.mem_cons.1 (hp.subset (List.mem_cons_self (a := x) (l := a))) with h | h
          · exact absurd h hne
          · exact h
        have h1 := ha'.1 y hy
        have h2 := hb'.1 x hx
        have hpl : plC x ≠ plC y := fun e => hd'.1 (List.mem_map.2 ⟨y, hy, e.symm⟩)
        have h3 := ahead_cases hpl h1
        rw [h3] at h2
        cases h2
      subst hxy
      rw [sorted_unique (List.Perm.cons_inv hp) ha'.2 hb'.2 hd'.2]
end Go.Proofs.YtedkjhifbibpmaaGreatDoor.Pk
namespace Go.Proofs.YtedkjhifbibpmaaGreatDoor.Pk
open Go Go.Proofs Go.Proofs.YtedkjhifbibpmaaGreatDoor.Ab
set_option linter.unusedVariables false
set_option linter.unusedSimpArgs false
theorem winListI (SC : SortC byW) (h : AHeap) (i m cl : Nat) (room size : Int) (l : Ent) (k : IsWin h i m room size (wE l) cl) (hs : Stamps (wE l) cl) (hl : l.length ≤ 2 ^ 30) (hf : ∀ e ∈ l, 0 ≤ e.2.1.2 ∧ e.2.1.2 ≤ 2 ^ 41) :
    SCalls Tryz.prog 302 [.ptr i 0] h (fun r h' => Keep h h' none_ ∧ ∃ lc, lc.Perm (l.map (chgW size)) ∧ SortedW lc ∧ r = .imm lc.length (lc.flatMap chgE)) :=
  SCalls.cast ((winList SC h i m cl room size l k hs hl hf).mono fun r h' ⟨kp, lc, p, s, o, nw⟩ => by
    obtain ⟨h2, c, k2⟩ := Cast.own o (n := lc.length) (rows_len chgE_len _) (by decide)
    exact ⟨_, h2, c, kp.trans k2 fun q hq e => by have := nw q e; omega, lc, p, s, rfl⟩)
end Go.Proofs.YtedkjhifbibpmaaGreatDoor.Pk
namespace Go.Proofs.YtedkjhifbibpmaaGreatDoor.Pk
open Go Go.Proofs Go.Proofs.YtedkjhifbibpmaaGreatDoor.Ab
set_option linter.unusedVariables false
set_option linter.unusedSimpArgs false
/-- A store that some puts have made. -/
structure WinSt (h : AHeap) (i m : Nat) (n : Int) (l : Ent) (cl : Nat) : Prop where
  k : IsWin h i m 1024 n (wE l) cl
  st : Stamps (wE l) cl
  nd : KNodup l
  fr : ∀ e ∈ l, 0 ≤ e.2.1.2 ∧ e.2.1.2 ≤ 2 ^ 41
theorem kset_mem : ∀ {l : Ent} {cl : Nat} {k : Int × Int} {a : Int} {e : Nat × (Int × Int) × Int}, e ∈ kset cl l k a → e.2.1 = k ∨ e ∈ l
  | [], cl, k, a, e, h => by simp [kset] at h; exact .inl (by rw [h])
  | x :: l, cl, k, a, e, h => by
    unfold kset at h
    split at h
    · rcases List.mem_cons.1 h with rfl | h
      · exact .inl rfl
      · exact .inr (List.mem_cons_of_mem _ h)
    · rcases List.mem_cons.1 h with rfl | h
      · exact .inr List.mem_cons_self
      · rcases kset_mem h with h | h
        · exact .inl h
        · exact .inr (List.mem_cons_of_mem _ h)
end Go.Proofs.YtedkjhifbibpmaaGreatDoor.Pk
namespace Go.Proofs.YtedkjhifbibpmaaGreatDoor.Pk
open Go Go.Proofs Go.Proofs.YtedkjhifbibpmaaGreatDoor.Ab
set_option linter.unusedVariables false
set_option linter.unusedSimpArgs false
set_option maxHeartbeats 1000000 in
set_option maxRecDepth 10000 in
theorem byWin (h : AHeap) (a b : Chg) : SCalls Tryz.prog 164 [.agg (chgE a), .agg (chgE b)] h (fun r h' => r = .int .i64 (orI [cmpI a.fr b.fr, cmpI a.key b.key]) ∧ Keep h h' none_) := by
  refine SCalls.enterI (c := _) Tryz.func164 rfl (by kernel_rfl) (by simp) ?_
  have cc : ∀ c : Chg, (V.agg (chgE c)).cells = some (chgE c) := fun _ => rfl
  have cl : ∀ c : Chg, (chgE c).length = 5 := chgE_len
  have cd1 : ∀ c : Chg, List.drop 1 (chgE c) = [.int .i64 c.fr, .int .i64 c.to, .int .i64 c.val, .bool c.del] := fun _ => rfl
  have ck0 : ∀ c : Chg, loadGo (some none) (some (chgE c)) = some (.int .i64 c.key) := fun _ => rfl
  simp only [wpA_region, wpA_seq, wpA_draw, seqQ_normal, goI_out, goI_ops, opsA_nil, opsA_cons, stepA_assign, stepA_box, thenH_some, eval_tmp, eval_const, put_some, enterF_zero, enterF_succ, absV_int, aBox_eq, push_n, Nat.reduceEqDiff, Option.map_some, if_false, cc]
  refine SWp.drawnS none_ [10, 11] (.q 0 (.q 1 (.q 2 (.q 3 (.c 4 (.q 5 (.q 6 (.q 7 (.q 8 (.c 9 (.e 10 (.a 11 (.q 12 .done)) .stop))))))))))) (by kernel_rfl) (by kernel_rfl) (by kernel_rfl) ?_
  simp only [siI_q, sqI_some, mOk_none', implies_true, qI_nil, qI_cons, thenQ_some, q_load, q_fieldAddr, goI_mk, eval_tmp, put_some, enterF_succ, aField_eq, fieldGo_ptr, aLoad_eq, loadGo_one, aPlace_ptr, dropC_cells, get_push2, get_push2', List.getElem?_cons_zero, List.getElem?_cons_succ, Nat.reduceEqDiff, Nat.reduceLeDiff, Nat.zero_add, true_and, if_true, if_false, ft_40_1, lt_2, cl, cd1]
  refine siI_c rfl rfl rfl (fun h' _ => cmp64 h' a.fr b.fr) ?_
  simp only [siI_q, sqI_some, mOk_none', implies_true, qI_nil, qI_cons, thenQ_some, q_load, q_fieldAddr, goI_mk, eval_tmp, put_some, enterF_succ, aField_eq, fieldGo_ptr, aLoad_eq, aPlace_ptr, dropC_cells, get_push2, get_push2', List.getElem?_cons_zero, List.getElem?_cons_succ, Nat.reduceEqDiff, Nat.add_zero, Nat.zero_le, List.drop_zero, true_and, if_true, if_false, ft_40_0, lt_2, cl, ck0]
  refine siI_c rfl rfl rfl (fun h' _ => cmp64 h' a.key b.key) ?_
  generalize cmpI a.fr b.fr = x
  generalize cmpI a.key b.key = y
  have lit2 : ∀ H : AHeap, aBuildSlice Tryz.prog 24 2 [(0, .int .i64 x), (1, .int .i64 y)] H = some (.sl H.n 0 2 2, H.push (.cells (i64V [x, y]) 3 none)) := fun H => by rw [buildSlice_go sl_24]; rfl
  simp only [siI_stop, siI_a, siI_e, saI_some, seI_some, keepT1, goI_ops, goI_mk, opsA_nil, opsA_cons, stepA_buildSlice, stepA_call, thenH_some, eval_tmp, put_some, enterF_succ, push_n, List.getElem?_cons_zero, List.getElem?_cons_succ, Nat.reduceEqDiff, List.map_cons, List.map_nil, and_true, true_and, if_true, if_false, lit2]
  obtain ⟨h2, c2, k2⟩ := Cast.lit (h := (h.push (.cells (chgE a) 40 none)).push (.cells (chgE b) 40 none)) (c := i64V [x, y]) (e := 3) (n := 2) (sz := 1) rfl (by decide) (by decide)
  refine callI_of cal202 (SCalls.args (CastL.cons c2 (CastL.refl _ _)) (cmpOr h2 [x, y] (by simp only [List.length_cons, List.length_nil]; omega))) fun r h3 ⟨e3, e4⟩ => ?_
  subst e3
  simp only [siI_done, siI_q, sqI_some, mOk_none', implies_true, qI_nil, qI_cons, q_assign, wpA_ret, seqQ_normal, endI_mk, goI_out, goI_ops, goI_mk, opsA_nil, eval_tmp, put_some, enterF_succ, List.getElem?_cons_zero, List.getElem?_cons_succ, Bool.false_eq_true, Nat.reduceEqDiff, true_and, if_true, if_false, retA_ret, Tryz.results164, resultsA_1]
  refine hid_mk ⟨rfl, ?_⟩
  rw [e4]
  exact ((Keep.push _ _ _).then_push _).trans' k2
end Go.Proofs.YtedkjhifbibpmaaGreatDoor.Pk
namespace Go.Proofs.YtedkjhifbibpmaaGreatDoor.Pk
open Go Go.Proofs Go.Proofs.YtedkjhifbibpmaaGreatDoor.Ab
set_option linter.unusedVariables false
set_option linter.unusedSimpArgs false
/-! ### The comparator's order -/
def cfW (a b : Chg) : Int := orI [cmpI a.fr b.fr, cmpI a.key b.key]
theorem cfW_lt (a b : Chg) : decide (cfW a b < 0) = aheadW a b := by
  unfold cfW orI orI orI cmpI aheadW
  rw [Bool.eq_iff_iff]
  simp only [decide_eq_true_eq]
  by_cases h1 : a.fr < b.fr
  · simp [h1]
  · by_cases h2 : b.fr < a.fr
    · have : ¬ a.fr = b.fr := by omega
      simp [h1, h2, this]
    · have e : a.fr = b.fr := by omega
      by_cases h3 : a.key < b.key
      · simp [e, h3]
      · by_cases h4 : b.key < a.key
        · simp [e, h3, h4]
        · simp [e, h3, h4]
theorem ahead_irr (a : Chg) : aheadW a a = false := by unfold aheadW; exact decide_eq_false (by omega)
theorem ahead_trans (a b c : Chg) (h1 : aheadW a b = true) (h2 : aheadW b c = true) : aheadW a c = true := by
  unfold aheadW at *
  simp only [decide_eq_true_eq] at *
  omega
theorem ahead_ntrans (a b c : Chg) (h1 : aheadW a b = false) (h2 : aheadW b c = false) : aheadW a c = false := by
  unfold aheadW at *
  simp only [decide_eq_false_iff_not] at *
  omega
end Go.Proofs.YtedkjhifbibpmaaGreatDoor.Pk
