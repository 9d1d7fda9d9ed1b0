/-
  What functions of the program do, told of abstract states. Conditions: as each theorem says.
-/
import Derived.Test.YtlbekgogjlchjaaSoC
import Derived.Test.YtlbekgogjlchjaaMaA
namespace Go.Proofs.Ytlbekgogjlchjaa.Pk
open Go Go.Proofs Go.Proofs.Ytlbekgogjlchjaa.Ab Go.Sort
set_option linter.unusedVariables false
set_option linter.unusedSimpArgs false
/-! ### The comparator -/
def cmpI (x y : Int) : Int := if x < y then -1 else if y < x then 1 else 0
set_option maxRecDepth 10000 in
theorem nan64 (h : AHeap) (x : Int) : Pure Try.prog 86 [.int .i64 x] h (.bool false) := by
  refine Pure.val (Clo.bool _) ?_
  refine SCalls.enterI (c := _) Try.func86 rfl (by kernel_rfl) (by simp) ?_
  have e : (x != x) = false := by simp
  simp only [wpA_region, wpA_seq, wpA_ret, seqQ_normal, endI_mk, goI_out, goI_ops, opsA_nil, opsA_cons, stepA_move, stepA_assign, stepA_binOp, thenV_some, eval_tmp, eval_const, put_some, enterF_zero, enterF_succ, aBin_neq, absV_bool, bne_self_eq_false, Nat.reduceEqDiff, reduceCtorEq, if_true, if_false, retA_ret, Try.results86, resultsA_1]
  exact hid_mk ⟨rfl, Keep.refl _ _⟩
set_option maxRecDepth 10000 in
theorem cmp64 (h : AHeap) (x y : Int) : Pure Try.prog 68 [.int .i64 x, .int .i64 y] h (.int .i64 (cmpI x y)) := by
  refine Pure.val (Clo.int _ _) ?_
  refine SCalls.enterI (c := _) Try.func68 rfl (by kernel_rfl) (by simp) ?_
  simp only [wpA_region, wpA_seq, seqQ_normal, goI_out, goI_ops, opsA_nil, opsA_cons, stepA_move, stepA_assign, stepA_call, eval_tmp, eval_const, put_some, enterF_zero, enterF_succ, absV_int, Int.reduceNeg, Nat.reduceEqDiff, reduceCtorEq, List.map_cons, List.map_nil, if_true, if_false]
  refine callI_pure cal86 (nan64 h x) ?_
  simp only [wpA_region, wpA_seq, seqQ_normal, goI_out, goI_ops, opsA_nil, opsA_cons, stepA_move, stepA_assign, stepA_call, eval_tmp, put_some, enterF_zero, enterF_succ, Int.reduceNeg, Nat.reduceEqDiff, List.map_cons, List.map_nil, if_true, if_false]
  refine callI_pure cal86 (nan64 h y) ?_
  by_cases h1 : x < y
  · have d1 : decide (x < y) = true := decide_eq_true h1
    simp only [wpA_skip, wpA_region, wpA_seq, wpA_cond, wpA_ret, condI_true, condI_false, seqQ_normal, seqQ_ret, endI_mk, goI_out, goI_ops, opsA_nil, opsA_cons, stepA_move, stepA_assign, stepA_binOp, thenV_some, eval_tmp, eval_const, put_some, enterF_zero, enterF_succ, aBin_lss, absV_int, Int.reduceNeg, Nat.reduceEqDiff, reduceCtorEq, if_true, if_false, d1, retA_ret, Try.results68, resultsA_1]
    exact hid_mk ⟨by rw [cmpI, if_pos h1], Keep.refl _ _⟩
  · have d1 : decide (x < y) = false := decide_eq_false h1
    by_cases h2 : y < x
    · have d2 : decide (y < x) = true := decide_eq_true h2
      simp only [wpA_skip, wpA_region, wpA_seq, wpA_cond, wpA_ret, condI_true, condI_false, seqQ_normal, seqQ_ret, endI_mk, goI_out, goI_ops, opsA_nil, opsA_cons, stepA_move, stepA_assign, stepA_binOp, thenV_some, eval_tmp, eval_const, put_some, enterF_zero, enterF_succ, aBin_lss, aBin_gtr, absV_int, Int.reduceNeg, Nat.reduceEqDiff, reduceCtorEq, if_true, if_false, d1, d2, retA_ret, Try.results68, resultsA_1]
      exact hid_mk ⟨by rw [cmpI, if_neg h1, if_pos h2], Keep.refl _ _⟩
    · have d2 : decide (y < x) = false := decide_eq_false h2
      simp only [wpA_skip, wpA_region, wpA_seq, wpA_cond, wpA_ret, condI_false, seqQ_normal, endI_mk, goI_out, goI_ops, opsA_nil, opsA_cons, stepA_move, stepA_assign, stepA_binOp, thenV_some, eval_tmp, eval_const, put_some, enterF_zero, enterF_succ, aBin_lss, aBin_gtr, absV_int, Int.reduceNeg, Nat.reduceEqDiff, reduceCtorEq, if_true, if_false, d1, d2, retA_ret, Try.results68, resultsA_1]
      exact hid_mk ⟨by rw [cmpI, if_neg h1, if_neg h2], Keep.refl _ _⟩
set_option maxRecDepth 20000 in
theorem byCel (a b : Cel) (h : AHeap) : Pure Try.prog 67 [.agg (celE a), .agg (celE b)] h (.int .i64 (cmpI a.at_ b.at_)) := by
  refine Pure.val (Clo.int _ _) ?_
  refine SCalls.enterI (c := _) Try.func67 rfl (by kernel_rfl) (by simp) ?_
  have ca : (V.agg (celE a)).cells = some (celE a) := rfl
  have cb : (V.agg (celE b)).cells = some (celE b) := rfl
  have da : dropC (AObj.cells (celE a) 39 none) 0 = some (celE a) := rfl
  have db : dropC (AObj.cells (celE b) 39 none) 0 = some (celE b) := rfl
  have la : loadGo (some none) (some (celE a)) = some (.int .i64 a.at_) := rfl
  have lb : loadGo (some none) (some (celE b)) = some (.int .i64 b.at_) := rfl
  have k2 : Keep h ((h.push (.cells (celE a) 39 none)).push (.cells (celE b) 39 none)) none_ := (Keep.push _ _ _).trans' (Keep.push _ _ _)
  simp only [wpA_region, wpA_seq, seqQ_normal, goI_out, goI_ops, opsA_nil, opsA_cons, stepA_assign, stepA_box, stepA_load, stepA_fieldAddr, stepA_call, thenV_some, thenH_some, eval_tmp, eval_const, put_some, enterF_zero, enterF_succ, absV_int, aField_eq, fieldGo_ptr, aLoad_eq, aPlace_ptr, aBox_eq, push_n, get_push2, get_push2', Nat.reduceEqDiff, List.map_cons, List.map_nil, Option.map_some, Nat.add_zero, if_true, if_false, ft_39_0, lt_3, ca, cb, da, db, la, lb]
  refine callI_pure cal68 (cmp64 _ a.at_ b.at_) ?_
  simp only [wpA_ret, seqQ_normal, endI_mk, goI_out, goI_ops, opsA_nil, opsA_cons, stepA_assign, eval_tmp, put_some, enterF_succ, Nat.reduceEqDiff, if_true, if_false, retA_ret, Try.results67, resultsA_1]
  exact hid_mk ⟨rfl, k2⟩
theorem sortbyCel (h : AHeap) (x : V) (l : List Cel) (ho : Own h 39 3 x (l.flatMap celE)) (hl : l.length ≤ 2 ^ 40) :
    SCalls Try.prog 66 [x, .func (.func 67) [] []] h fun r h' => r = .tuple [] ∧ Keep h h' (isId x) ∧ ∃ l' : List Cel, l'.Perm l ∧ (l'.Pairwise fun a b => ¬ b.at_ < a.at_) ∧ Own h' 39 3 x (l'.flatMap celE) := by
  have e : ∀ a b : Cel, ltOf (fun a b : Cel => cmpI a.at_ b.at_) a b = decide (a.at_ < b.at_) := fun a b => by
    unfold ltOf cmpI
    rw [Bool.eq_iff_iff]
    simp only [decide_eq_true_eq]
    split <;> (try split) <;> omega
  refine (sortOfC (cf := fun a b => cmpI a.at_ b.at_) ⟨fun a => by rw [e]; simp, fun a b c h1 h2 => by rw [e] at *; simp at *; omega, fun a b c h1 h2 => by rw [e] at *; simp at *; omega⟩
    (fun a b => (byCel a b noHeap).mono fun r h' hh => hh.1) (enters_of Try.func67 (by kernel_rfl) rfl) h x l ho hl).mono fun r h' ⟨h1, h2, l', hp, hs, ho⟩ => ⟨h1, h2, l', hp, hs.imp fun {a b} hab => by rw [e] at hab; simpa using hab, ho⟩
theorem litC1 (h : AHeap) (c : Cel) : aBuildSlice Try.prog 33 1 [(0, .agg (celE c))] h = some (.sl h.n 0 1 1, h.push (.cells (celE c) 39 none)) := by rw [buildSlice_go sl_33]; rfl
set_option maxHeartbeats 4000000 in
set_option maxRecDepth 20000 in
theorem nAll (h : AHeap) (a m k : Nat) (s : NSt) (d : IsNod h a m k s.1 s.2.1 s.2.2) (w : NOk s) (hL : s.2.1.length ≤ 2 ^ 30) :
    SCalls Try.prog 43 [.ptr a 0] h (fun r h' => ∃ out : List Cel, out.Perm (s.2.1.map (·.2.2)) ∧ (out.Pairwise fun a b => ¬ b.at_ < a.at_) ∧ Acc h h' 39 3 r (out.flatMap celE)) := by
  obtain ⟨ep, es, cl⟩ := s
  have st := w.st
  have wnd := w.nd
  have wsm := w.sm
  simp only at d st wnd wsm hL ⊢
  have v0 := d.get
  have hrg := range_map mt_76 d.map
  have hsn : (es.map (·.1)).Nodup := by
    have := st.2
    rwa [show (mapK (V.int .i64) celV es).map (·.1) = es.map (·.1) from mapK_stamps es] at this
  have hml := d.ml
  refine SCalls.enterI (c := _) Try.func43 rfl (by kernel_rfl) (by simp) ?_
  simp only [wpA_region, wpA_seq, wpA_block, wpA_loop, seqQ_normal, goI_out, goI_ops, opsA_nil, opsA_cons, stepA_move, stepA_assign, stepA_load, stepA_nilCheck, stepA_fieldAddr, stepA_range, thenV_some, thenH_some, nilV_ptr, eval_tmp, eval_const, put_some, enterF_zero, enterF_succ, absV_snil, aField_eq, fieldGo_ptr, aLoad_eq, loadGo_one, aPlace_ptr, dropC_cells, Nat.reduceEqDiff, Nat.reduceAdd, Nat.reduceLeDiff, reduceCtorEq, Nat.zero_add, List.length_cons, List.length_nil, List.drop_zero, List.drop_succ_cons, if_true, if_false, ft_78_2, lt_76, v0, hrg]
  refine SWp.loopG (α := Ces) (fun vis f h' => f 10 = .ptr h.n 0 ∧ h.n < h'.n ∧ h'.get h.n = .iter m cl (vis.map (·.1)) cl ∧ Acc h h' 39 3 (f 3) ((vis.map (·.2.2)).flatMap celE) ∧
    idOf (f 3) ≠ some h.n ∧ (∀ e ∈ vis, e ∈ es) ∧ (vis.map (·.1)).Nodup) (fun vis => (remOf (mapK (V.int .i64) celV es) (vis.map (·.1))).length) []
    ⟨rfl, by simp only [push_n]; omega, by simp [AHeap.push], Acc.nil (Keep.push _ _ _), (show idOf V.snil ≠ some h.n by simp [idOf]), by simp, by simp⟩ ?_
  rintro vis f h2 ⟨f10, n2, gi, acc, hd1, hvl, hvn⟩
  have gm : h2.get m = .map (mapK (V.int .i64) celV es) cl := (acc.keep.get m hml (fun h => h)).trans d.map
  refine wpI_sound (by kernel_rfl) ?_
  simp only [wpA_region, wpA_seq, opsA_cons, stepA_next, eval_tmp, f10]
  refine alts_ro gi gm st (fun hleft => ?_) fun e he => ?_
  · have hp := kvis_perm hsn hvn hvl (kvis_all hleft)
    have hpl := hp.length_eq
    simp only [wpA_region, wpA_seq, wpA_cond, wpA_exit, condI_false, seqQ_normal, seqQ_exit, blkQ_exit, endI_mk, goE, andThen_exit, goI_out, goI_ops, opsA_nil, opsA_cons, stepA_move, stepA_extract, stepA_call, thenV_some, extV_zero, eval_tmp, eval_func, put_some, Nat.reduceEqDiff, List.map_cons, List.map_nil, if_true, if_false]
    refine callI_of cal66 (sortbyCel h2 (f 3) _ acc.own (by rw [List.length_map]; omega)) fun r h3 ⟨e1, k3, out, pl, sl, o2⟩ => ?_
    subst e1
    simp only [wpA_region, wpA_seq, wpA_ret, seqQ_normal, endI_mk, goI_out, goI_ops, opsA_nil, opsA_cons, stepA_move, stepA_assign, eval_tmp, put_some, Nat.reduceEqDiff, if_true, if_false, retA_ret, Try.results43, resultsA_1]
    exact hid_mk ⟨out, pl.trans (hp.map _), sl, o2, acc.keep.trans k3 fun q hq e => by have := acc.new q e; omega, acc.new⟩
  · obtain ⟨x, hx, rfl, hxn⟩ := kvis_next he
    have less := remOf_snoc he
    obtain ⟨n3, hvl2, hvlen⟩ := kvis_snoc hvn hvl hx hxn
    obtain ⟨xs, xk, xc⟩ := x
    obtain ⟨xl, _⟩ := wsm _ hx
    simp only at less he hxn xl
    generalize hH : h2.set h.n (.iter m cl (vis.map (·.1) ++ [xs]) cl) = H
    have aS : Acc h H 39 3 (f 3) ((vis.map (·.2.2)).flatMap celE) := by rw [← hH]; exact acc.set (Nat.le_refl _) hd1 _
    have nH : H.n = h2.n := by rw [← hH]; rfl
    have gr : H.get h.n = .iter m cl (vis.map (·.1) ++ [xs]) cl := by rw [← hH]; exact get_set_same
    have gmH : H.get m = .map (mapK (V.int .i64) celV es) cl := (aS.keep.get m hml (fun h => h)).trans d.map
    have hen := entry_ro gr gmH st (List.mem_filter.1 he).1
    simp only at hen
    have hcc : (celV xc).cells = some (celE xc) := rfl
    have hst : setC (some 3) (AObj.cells [.int .i64 0, .int .i64 0, .snil] 39 none) 0 (celE xc) = some (.cells (celE xc) 39 none) := by
      rw [setC_row (n := 3) rfl rfl, if_pos (by decide)]; rfl
    have dd : dropC (.cells (celE xc) 39 none) 0 = some (celE xc) := rfl
    have hld : loadGo (some (some 3)) (some (celE xc)) = some (.agg (celE xc)) := rfl
    simp only [wpA_skip, wpA_region, wpA_seq, wpA_cond, wpA_block, condI_true, seqQ_normal, goI_out, goI_ops, opsA_nil, opsA_cons, stepA_move, stepA_alloc, stepA_load, stepA_store, stepA_entry, stepA_extract, stepA_call, thenV_some, thenH_some, thenS_some, extV_zero, extV_succ, eval_tmp, put_some, put_none, aLoad_eq, aPlace_ptr, aStore_eq, storeGo_ptr, aAlloc_eq, get_push_new, set_push, Nat.reduceEqDiff, List.map_cons, List.map_nil, Option.map_some, if_true, if_false, lt_39, zc_39, zt_39, f10, hen, hcc, hst, dd, hld]
    generalize hH1 : H.push (.cells (celE xc) 39 none) = H1
    have k1 : Keep H H1 none_ := by rw [← hH1]; exact Keep.push _ _ _
    have nH1 : H1.n = H.n + 1 := by rw [← hH1]; rfl
    have aS1 := aS.on k1
    have gr1 := (k1.get h.n (by omega) (fun h => h)).trans gr
    refine callI_pure cal46 (pOwn xc H1 (by omega)) ?_
    have lit := litC1 H1 xc
    obtain ⟨s', h4, ea, o4, kp4, d4⟩ := append_elemM (P := Try.prog) sl_33 (by decide) aS1.own (xs := celE xc) rfl rfl (fun m hm => by
      change m * 3 = _ + 3 at hm
      rw [rows_len celE_len, List.length_map] at hm
      exact ⟨by simp only [lim]; omega, by simp only [lim]; omega⟩)
    have a4 := aS1.step o4 kp4 d4
    have n4' := kp4.n
    simp only [blkQ_normal, endI_mk, andThen_normal, goI_out, goI_ops, opsA_nil, opsA_cons, stepA_assign, stepA_buildSlice, stepA_append, thenH_some, eval_tmp, put_some, put_none, Nat.reduceEqDiff, List.map_cons, List.map_nil, if_true, if_false, lit, ea]
    refine hid_mk ⟨vis ++ [(xs, xk, xc)], ⟨f10, by omega, ?_, a4.conv ?_, ?_, hvl2, n3⟩, ?_⟩
    · rw [kp4.get h.n (by omega) (fun hh => hd1 hh), gr1]; simp
    · rw [List.map_append, List.flatMap_append, List.map_cons, List.map_nil]
      simp
    · intro hh
      rcases d4 with d | d
      · exact hd1 (d ▸ hh)
      · have := d _ hh; omega
    · rw [List.map_append]; exact less
end Go.Proofs.Ytlbekgogjlchjaa.Pk
namespace Go.Proofs.Ytlbekgogjlchjaa.Pk
open Go Go.Proofs Go.Proofs.Ytlbekgogjlchjaa.Ab
set_option linter.unusedVariables false
set_option linter.unusedSimpArgs false
def selI (s : NSt) (ep : Int) : Option Int := if mayEp ep = false then some 2 else if ep ≤ s.1 then some 7 else none
def selA (ep : Int) : Act := ⟨2, ep, 0, []⟩
theorem selC (h : AHeap) (a : Nat) (ep : Int) : CastL [.ptr a 0, .agg [.int .i64 2, .int .i64 ep, .int .i64 0, .snil]] h [.ptr a 0, .agg (actE (selA ep))] h :=
  CastL.cons (Cast.refl _ _) (CastL.cons (Cast.agg (CastL.cons (Cast.refl _ _) (CastL.cons (Cast.refl _ _) (CastL.cons (Cast.refl _ _) (CastL.cons (Cast.snil0 h) (CastL.refl _ _)))))) (CastL.refl _ _))
set_option maxRecDepth 10000 in
theorem nSeal (h : AHeap) (a m k j i : Nat) (room safe torn : Int) (bs : List Nat) (v pv : V) (l : List (List Nat)) (s : NSt) (d : IsNode h a m k j i room bs safe v pv l torn s) (w : NOk s) (hl : l.length ≤ 2 ^ 30) (hL : s.2.1.length ≤ 2 ^ 30) (ep : Int) :
    SCalls Try.prog 16 [.ptr a 0, .int .i64 ep] h (fun r h' => match selI s ep with
      | some e => r = .tuple [.snil, .int .i64 e] ∧ IsNode h' a m k j i room bs safe v pv l torn s ∧ Keep h h' none_
      | none => if putBad room bs (payN (selA ep)) = 0 then ∃ (v' pv' rv : V) (out : List Cel), r = .tuple [rv, .int .i64 0] ∧ IsNode h' a m k j i room (bs ++ frame (payN (selA ep))) ((bs ++ frame (payN (selA ep))).length : Nat) v' pv' (l ++ [payN (selA ep)]) torn (appS s (selA ep)) ∧
          out.Perm (s.2.1.map (·.2.2)) ∧ (out.Pairwise fun a b => ¬ b.at_ < a.at_) ∧ Own h' 39 3 rv (out.flatMap celE) ∧ (∀ q, idOf rv = some q → h.n ≤ q ∧ ¬ NodP a m k j i v' pv' q) ∧
          NewP h i v v' ∧ (idOf pv' = idOf pv ∨ ∀ y, idOf pv' = some y → h.n ≤ y) ∧ Keep h h' (NodP a m k j i v pv)
        else r = .tuple [.snil, .int .i64 (putBad room bs (payN (selA ep)))] ∧ IsNode h' a m k j i room bs safe v pv l torn s ∧ Keep h h' none_) := by
  have v0 := d.nod.get
  refine SCalls.enterI (c := _) Try.func16 rfl (by kernel_rfl) (by simp) ?_
  simp only [wpA_skip, wpA_region, wpA_seq, wpA_cond, condI_false, seqQ_normal, goI_out, goI_ops, opsA_nil, opsA_cons, stepA_move, stepA_assign, stepA_binOp, stepA_call, thenV_some, eval_tmp, eval_const, put_some, enterF_zero, enterF_succ, ptr_nil_eql, absV_int, absV_pnil, absV_snil, Nat.reduceEqDiff, reduceCtorEq, List.map_cons, List.map_nil, if_true, if_false, kt_28]
  refine callI_pure cal41 (pMayEpoch ep h) ?_
  cases hm : mayEp ep
  · have hS : selI s ep = some 2 := by unfold selI; rw [if_pos hm]
    simp only [wpA_region, wpA_seq, wpA_cond, wpA_ret, condI_true, seqQ_normal, seqQ_ret, endI_mk, goI_out, goI_ops, opsA_nil, opsA_cons, stepA_assign, stepA_unOp, thenV_some, eval_tmp, eval_const, put_some, enterF_succ, aUn_not, absV_int, absV_snil, Nat.reduceEqDiff, if_true, if_false, Bool.not_false, retA_ret, Try.results16, resultsA_2]
    rw [hS]
    exact hid_mk ⟨rfl, d, Keep.refl _ _⟩
  by_cases hle : ep ≤ s.1
  · have hS : selI s ep = some 7 := by unfold selI; rw [if_neg (by rw [hm]; decide), if_pos hle]
    simp only [wpA_skip, wpA_region, wpA_seq, wpA_cond, wpA_ret, condI_true, condI_false, seqQ_normal, seqQ_ret, endI_mk, goI_out, goI_ops, opsA_nil, opsA_cons, stepA_move, stepA_assign, stepA_load, stepA_nilCheck, stepA_binOp, stepA_unOp, stepA_fieldAddr, thenV_some, nilV_ptr, eval_tmp, eval_const, put_some, enterF_zero, enterF_succ, aBin_leq, aUn_not, absV_int, absV_snil, aField_eq, fieldGo_ptr, aLoad_eq, loadGo_one, aPlace_ptr, dropC_cells, decide_true, Nat.reduceEqDiff, Nat.reduceAdd, Nat.reduceLeDiff, reduceCtorEq, Nat.zero_add, List.length_cons, List.length_nil, List.drop_zero, List.drop_succ_cons, if_true, if_false, Bool.not_true, ft_78_1, lt_3, v0, hle, retA_ret, Try.results16, resultsA_2]
    rw [hS]
    exact hid_mk ⟨rfl, d, Keep.refl _ _⟩
  have hS : selI s ep = none := by unfold selI; rw [if_neg (by rw [hm]; decide), if_neg hle]
  have hok : okAct (selA ep) := by
    unfold mayEp at hm
    simp only [Bool.and_eq_true, decide_eq_true_eq] at hm
    exact ⟨by simp only [selA]; omega, by simp only [selA]; omega, by simp only [selA]; omega, by simp [selA]⟩
  simp only [wpA_skip, wpA_region, wpA_seq, wpA_cond, condI_false, seqQ_normal, goI_out, goI_ops, opsA_nil, opsA_cons, stepA_move, stepA_build, stepA_load, stepA_nilCheck, stepA_binOp, stepA_unOp, stepA_fieldAddr, stepA_call, thenV_some, nilV_ptr, eval_tmp, eval_const, put_some, enterF_zero, enterF_succ, aBin_leq, aUn_not, absV_int, cells_int, aField_eq, fieldGo_ptr, aLoad_eq, loadGo_one, aPlace_ptr, dropC_cells, setAll_nil, setAll_cons, aBuild_go, aFill_nil, aFill_cons, fillGo_some, buildGo_struct, List.getElem?_cons_zero, List.getElem?_cons_succ, decide_false, Nat.reduceEqDiff, Nat.reduceAdd, Nat.reduceLeDiff, reduceCtorEq, List.map_cons, List.map_nil, Option.map_some, Nat.zero_add, List.length_cons, List.length_nil, List.drop_zero, List.drop_succ_cons, List.set_cons_zero, List.set_cons_succ, and_self, if_true, if_false, Bool.not_true, ft_78_1, lt_3, pl_80, zc_80, v0, hle]
  refine callI_of cal42 (SCalls.args (selC h a ep) (nDo h a m k j i room safe torn bs v pv l s d hl (selA ep) hok)) fun r1 h1 ⟨e1, hp⟩ => ?_
  subst e1
  by_cases hP : putBad room bs (payN (selA ep)) = 0
  case neg =>
    have c1 : (putBad room bs (payN (selA ep)) != 0) = true := by simp [hP]
    rw [if_neg hP] at hp
    simp only [wpA_region, wpA_seq, wpA_cond, wpA_ret, condI_true, seqQ_normal, seqQ_ret, endI_mk, goI_out, goI_ops, opsA_nil, opsA_cons, stepA_move, stepA_assign, stepA_binOp, thenV_some, eval_tmp, eval_const, put_some, enterF_succ, aBin_neq, absV_int, absV_snil, Nat.reduceEqDiff, if_true, if_false, c1, retA_ret, Try.results16, resultsA_2]
    rw [hS]
    refine hid_mk ?_
    show if putBad room bs (payN (selA ep)) = 0 then _ else _
    rw [if_neg hP]
    exact ⟨rfl, hp⟩
  rw [if_pos hP] at hp
  obtain ⟨v1, pv1, d1, n1, p1, k1⟩ := hp
  have c1 : ((0 : Int) != 0) = false := rfl
  have q1 := k1.n
  have w1 : NOk (appS s (selA ep)) := ⟨w.st, w.nd, w.sm⟩
  have c2 : (putBad room bs (payN (selA ep)) != 0) = false := by rw [hP]; rfl
  simp only [wpA_skip, wpA_region, wpA_seq, wpA_cond, condI_false, seqQ_normal, goI_out, goI_ops, opsA_nil, opsA_cons, stepA_move, stepA_assign, stepA_binOp, stepA_call, thenV_some, eval_tmp, eval_const, put_some, enterF_zero, enterF_succ, aBin_neq, absV_int, Nat.reduceEqDiff, reduceCtorEq, List.map_cons, List.map_nil, if_true, if_false, c2]
  refine callI_of cal43 (nAll h1 a m k (appS s (selA ep)) d1.nod w1 hL) fun r2 h2 ⟨out, pl, sl, ac⟩ => ?_
  simp only [wpA_ret, seqQ_normal, endI_mk, goI_out, goI_ops, opsA_nil, opsA_cons, stepA_assign, eval_tmp, eval_const, put_some, enterF_succ, absV_int, Nat.reduceEqDiff, if_true, if_false, retA_ret, Try.results16, resultsA_2]
  rw [hS]
  refine hid_mk ?_
  show if putBad room bs (payN (selA ep)) = 0 then _ else _
  rw [if_pos hP]
  exact ⟨v1, pv1, r2, out, rfl, d1.keepN ac.keep, pl, sl, ac.own, fun q hq => ⟨by have := ac.new q hq; omega, fun hh => by have := ac.new q hq; have := d1.parts_lt q hh; omega⟩, n1, p1, k1.trans (ac.keep.mono fun _ h => False.elim h) fun _ _ h => h⟩
end Go.Proofs.Ytlbekgogjlchjaa.Pk
namespace Go.Proofs.Ytlbekgogjlchjaa.Pk
open Go Go.Proofs Go.Proofs.Ytlbekgogjlchjaa.Ab
set_option linter.unusedVariables false
set_option linter.unusedSimpArgs false
theorem getBytes_app (x r : List Nat) (hx : x.length < 2 ^ 64) : getBytes (encBytes x ++ r) = (x, r, 0) := by
  unfold getBytes encBytes
  rw [List.append_assoc, dec_app _ hx]
  simp
end Go.Proofs.Ytlbekgogjlchjaa.Pk
namespace Go.Proofs.Ytlbekgogjlchjaa.Pk
open Go Go.Proofs Go.Proofs.Ytlbekgogjlchjaa.Ab
set_option linter.unusedVariables false
set_option linter.unusedSimpArgs false
/-! ### Frames, there and back -/
theorem sumL_len (p : List Nat) : (sumL p).length = 4 := rfl
theorem openC_frame (p r : List Nat) (hp : p.length ≤ 4096) : openC (frame p ++ r) = (p, (frame p).length, 0) := by
  have he := enc_le p.length (by omega)
  have hb : frame p ++ r = enc p.length ++ (p ++ (sumL p ++ r)) := by unfold frame encBytes; simp [List.append_assoc]
  have ht : (frame p ++ r).take 10 = enc p.length ++ (p ++ (sumL p ++ r)).take (10 - (enc p.length).length) := by
    rw [hb, List.take_append, List.take_of_length_le (by omega)]
  have hd : dec ((frame p ++ r).take 10) 0 0 = (p.length, (enc p.length).length, 0) := by rw [ht]; exact dec_app _ (by omega) _
  have hlen : (frame p).length = (enc p.length).length + p.length + 4 := by
    unfold frame encBytes
    rw [List.length_append, List.length_append, sumL_len]
  have hdr : (frame p ++ r).drop (enc p.length).length = p ++ (sumL p ++ r) := by
    rw [hb, List.drop_left]
  have hpl : ((frame p ++ r).drop (enc p.length).length).take p.length = p := by
    rw [hdr, List.take_left]
  have hsm : ((frame p ++ r).drop ((enc p.length).length + p.length)).take 4 = sumL p := by
    rw [← List.drop_drop, hdr, List.drop_left]
    exact List.take_left (l₁ := sumL p)
  unfold openC
  rw [hd]
  simp only
  rw [if_neg (by simp), if_neg (by omega), if_neg (by rw [List.length_append, hlen]; omega), hpl, if_pos hsm, hlen]
theorem frame_pos (p : List Nat) : 0 < (frame p).length := by
  unfold frame
  rw [List.length_append, sumL_len]
  omega
theorem scan_frames : ∀ (l : List (List Nat)) (k : Nat), (∀ p ∈ l, p.length ≤ 4096) → l.length ≤ k → scanF k (l.flatMap frame) = (l, (l.flatMap frame).length)
  | [], 0, _, _ => rfl
  | [], k + 1, _, _ => by unfold scanF; rw [if_pos (.inl rfl)]; rfl
  | p :: l, 0, _, hk => by simp at hk
  | p :: l, k + 1, hl, hk => by
    have ho := openC_frame p (l.flatMap frame) (hl p (by simp))
    have ih := scan_frames l k (fun q hq => hl q (by simp [hq])) (by simp at hk; omega)
    have hb : (p :: l).flatMap frame = frame p ++ l.flatMap frame := rfl
    have hne : frame p ++ l.flatMap frame ≠ [] := fun hh => by
      have h1 := congrArg List.length hh
      rw [List.length_append, List.length_nil] at h1
      have := frame_pos p
      omega
    unfold scanF
    rw [hb, ho, if_neg (by simp [hne]), List.drop_left, ih]
    simp
theorem frames_len (l : List (List Nat)) : l.length ≤ (l.flatMap frame).length := by
  induction l with
  | nil => simp
  | cons p l ih =>
    have := frame_pos p
    rw [List.flatMap_cons, List.length_append, List.length_cons]
    omega
theorem scan_all (l : List (List Nat)) (hl : ∀ p ∈ l, p.length ≤ 4096) : scanF (l.flatMap frame).length (l.flatMap frame) = (l, (l.flatMap frame).length) := scan_frames l _ hl (frames_len l)
/-! ### Payloads, there and back -/
theorem numN_app (n : Nat) (r : List Nat) (hn : n ≤ 1048576) : numN (enc n ++ r) = n ∧ numR (enc n ++ r) = r := by
  have hd := dec_app n (by omega) r
  constructor
  · unfold numN; rw [hd]; rw [if_neg (by simp; omega)]
  · unfold numR; rw [hd]; exact List.drop_left
theorem readC_seal (ep : Nat) (h : ep ≤ 1048576) : readC (payN (selA ep)) = (selA ep, true) := by
  have hp : payN (selA ep) = enc 2 ++ (enc ep ++ []) := by unfold payN selA; simp
  obtain ⟨a1, a2⟩ := numN_app 2 (enc ep ++ []) (by omega)
  obtain ⟨b1, b2⟩ := numN_app ep [] h
  unfold readC
  rw [hp, a1, a2, b1, b2, if_pos rfl]
  simp [selA, mayEp]
  omega
theorem readC_write (ep at_ : Nat) (b : List Nat) (hm : mayWr ⟨1, ep, at_, b⟩ = true) : readC (payN ⟨1, ep, at_, b⟩) = (⟨1, ep, at_, b⟩, true) := by
  have hm' := hm
  unfold mayWr mayEp at hm'
  simp only [Bool.and_eq_true, decide_eq_true_eq] at hm'
  obtain ⟨⟨⟨m1, m2⟩, m3, m4⟩, m5⟩ := hm'
  have hp : payN ⟨1, ep, at_, b⟩ = enc 1 ++ (enc ep ++ (enc at_ ++ (encBytes b ++ []))) := by unfold payN; simp
  obtain ⟨a1, a2⟩ := numN_app 1 (enc ep ++ (enc at_ ++ (encBytes b ++ []))) (by omega)
  obtain ⟨b1, b2⟩ := numN_app ep (enc at_ ++ (encBytes b ++ [])) (by omega)
  obtain ⟨c1, c2⟩ := numN_app at_ (encBytes b ++ []) (by omega)
  have hg := getBytes_app b [] (by omega)
  unfold readC
  rw [hp, a1, a2, b1, b2, c1, c2, hg, if_neg (by decide), if_pos rfl]
  simp only [Prod.mk.injEq] at *
  simp [hm]
end Go.Proofs.Ytlbekgogjlchjaa.Pk
namespace Go.Proofs.Ytlbekgogjlchjaa.Pk
open Go Go.Proofs Go.Proofs.Ytlbekgogjlchjaa.Ab
set_option linter.unusedVariables false
set_option linter.unusedSimpArgs false
theorem NOk.nil : NOk (0, [], 0) := ⟨Stamps.nil _, KNodup.nil, by simp⟩
theorem NOk.sealed {s : NSt} (w : NOk s) (ep : Int) : NOk (appS s (selA ep)) := ⟨w.st, w.nd, w.sm⟩
theorem kset_mem {κ α : Type} [DecidableEq κ] : ∀ {l : List (Nat × κ × α)} {cl : Nat} {k : κ} {a : α} {e : Nat × κ × α}, e ∈ kset cl l k a → (e.2.1 = k ∧ e.2.2 = a) ∨ e ∈ l
  | [], cl, k, a, e, he => by
    simp [kset] at he
    subst he
    exact .inl ⟨rfl, rfl⟩
  | x :: l, cl, k, a, e, he => by
    unfold kset at he
    split at he
    · rcases List.mem_cons.1 he with rfl | he
      · exact .inl ⟨rfl, rfl⟩
      · exact .inr (List.mem_cons_of_mem _ he)
    · rcases List.mem_cons.1 he with rfl | he
      · exact .inr (List.mem_cons_self ..)
      · exact (kset_mem he).imp id (List.mem_cons_of_mem _)
theorem NOk.write {s : NSt} (w : NOk s) (ep at_ : Int) (b : List Nat) (hb : ∀ n ∈ b, n < 256) (hm : mayWr ⟨1, ep, at_, b⟩ = true) : NOk (appS s ⟨1, ep, at_, b⟩) := by
  unfold mayWr mayEp at hm
  simp only [Bool.and_eq_true, decide_eq_true_eq] at hm
  obtain ⟨⟨⟨m1, m2⟩, m3, m4⟩, m5⟩ := hm
  refine ⟨Stamps.kset w.st at_ ⟨at_, ep, b⟩, w.nd.set _ at_ ⟨at_, ep, b⟩, fun e he => ?_⟩
  rcases kset_mem he with ⟨h1, h2⟩ | he
  · rw [h2, h1]; exact ⟨m5, hb, m1, m2, rfl⟩
  · exact w.sm e he
theorem redoL_snoc (l : List (List Nat)) (p : List Nat) : redoL (l ++ [p]) = redo (redoL l) p := by unfold redoL; rw [List.foldl_append]; rfl
theorem redo_seal (s : NSt) (ep : Nat) (h : ep ≤ 1048576) (hs : s.1 < ep) : redo s (payN (selA ep)) = appS s (selA ep) := by
  unfold redo
  rw [readC_seal ep h]
  have hf : folB s.1 s.2.1 (selA ep) = true := by unfold folB selA; rw [if_pos rfl]; simpa using hs
  simp only [hf, Bool.and_self, if_true]
  rfl
theorem redo_write (s : NSt) (ep at_ : Nat) (b : List Nat) (hw : wrI s ep at_ b = none) : redo s (payN ⟨1, ep, at_, b⟩) = appS s ⟨1, ep, at_, b⟩ := by
  have hm : mayWr ⟨1, ep, at_, b⟩ = true := by
    cases hm : mayWr ⟨1, ep, at_, b⟩
    · unfold wrI at hw; rw [if_pos hm] at hw; cases hw
    · rfl
  have hf : folB s.1 s.2.1 ⟨1, ep, at_, b⟩ = true := by
    unfold wrI at hw
    rw [if_neg (by rw [hm]; decide)] at hw
    split at hw
    · cases hw
    rename_i hlt
    unfold folB
    rw [if_neg (show ¬ ((1 : Int) = 2) by decide), decide_eq_true (show s.1 ≤ (ep : Int) by omega), Bool.true_and]
    simp only
    cases hg : kget s.2.1 (at_ : Int) with
    | none => rfl
    | some c =>
      rw [hg] at hw
      simp only at hw ⊢
      split at hw
      · split at hw <;> cases hw
      · rename_i hh
        rw [decide_eq_true_iff]
        omega
  unfold redo
  rw [readC_write ep at_ b hm]
  simp only [hf, Bool.and_self, if_true]
  rfl
end Go.Proofs.Ytlbekgogjlchjaa.Pk
