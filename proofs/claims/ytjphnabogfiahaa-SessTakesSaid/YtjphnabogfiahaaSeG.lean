/-
  What functions of the program do, told of abstract states. Conditions: as each theorem says.
-/
import Derived.Test.YtjphnabogfiahaaSeE
namespace Go.Proofs.Ytjphnabogfiahaa.Pk
open Go Go.Proofs Go.Proofs.Ytjphnabogfiahaa.Ab
set_option linter.unusedVariables false
set_option linter.unusedSimpArgs false
theorem snilC (h : AHeap) (n : Int) : Cast (.tuple [.snil, .int .i64 n]) h (.tuple [.imm 0 [], .int .i64 n]) h := Cast.tuple (CastL.cons (Cast.snil0 h) (CastL.refl _ _))
theorem sesPutBad (h : AHeap) (i : Nat) (v : V) (room g key time val : Int) (l : List Chg) (hmt : mayT time = false) (k : IsSes h i v room g l) :
    SCalls Try.prog 11 [.ptr i 0, .int .i64 key, .int .i64 time, .int .i64 val] h (fun r h' => r = .tuple [.imm 0 [], .int .i64 2] ∧ h' = h) := by
  refine SCalls.cast ?_
  refine SCalls.enterI (c := _) Try.func11 rfl (by kernel_rfl) (by simp) ?_
  simp only [wpA_skip, wpA_region, wpA_seq, wpA_cond, condI_false, seqQ_normal, goI_out, goI_ops, opsA_nil, opsA_cons, stepA_move, stepA_assign, stepA_binOp, stepA_call, thenV_some, eval_tmp, eval_const, put_some, enterF_zero, enterF_succ, ptr_nil_eql, absV_int, absV_pnil, absV_snil, Nat.reduceEqDiff, reduceCtorEq, List.map_cons, List.map_nil, if_true, if_false, kt_24]
  refine callI_pure cal19 (pMayT time h) ?_
  simp only [wpA_region, wpA_seq, wpA_cond, wpA_ret, condI_true, seqQ_normal, seqQ_ret, endI_mk, goI_out, goI_ops, opsA_nil, opsA_cons, stepA_assign, stepA_unOp, thenV_some, eval_tmp, eval_const, put_some, enterF_succ, aUn_not, absV_int, absV_snil, Nat.reduceEqDiff, if_true, if_false, Bool.not_false, hmt, retA_ret, Try.results11, resultsA_2]
  exact hid_mk ⟨_, h, snilC h 2, rfl, rfl⟩
theorem sesPutNil (h : AHeap) (key time val : Int) : SCalls Try.prog 11 [.pnil, .int .i64 key, .int .i64 time, .int .i64 val] h (fun r h' => r = .tuple [.imm 0 [], .int .i64 3] ∧ h' = h) := by
  refine SCalls.cast ?_
  refine SCalls.enterI (c := _) Try.func11 rfl (by kernel_rfl) (by simp) ?_
  simp only [wpA_region, wpA_seq, wpA_cond, wpA_ret, condI_true, seqQ_normal, seqQ_ret, endI_mk, goI_out, goI_ops, opsA_nil, opsA_cons, stepA_move, stepA_assign, stepA_binOp, thenV_some, eval_tmp, eval_const, put_some, enterF_zero, enterF_succ, nil_nil_eql, absV_int, absV_pnil, absV_snil, Nat.reduceEqDiff, reduceCtorEq, if_true, if_false, kt_24, retA_ret, Try.results11, resultsA_2]
  exact hid_mk ⟨_, h, snilC h 3, rfl, rfl⟩
theorem sesExpireNil (h : AHeap) (t : Int) : Pure Try.prog 10 [.pnil, .int .i64 t] h (.imm 0 []) := by
  refine Pure.of (Clo.imm CloL.nil) ?_
  refine SCalls.enterI (c := _) Try.func10 rfl (by kernel_rfl) (by simp) ?_
  simp only [wpA_region, wpA_seq, wpA_cond, wpA_ret, condI_true, seqQ_normal, seqQ_ret, endI_mk, goI_out, goI_ops, opsA_nil, opsA_cons, stepA_move, stepA_assign, stepA_binOp, thenV_some, eval_tmp, eval_const, put_some, enterF_zero, enterF_succ, nil_nil_eql, absV_pnil, absV_snil, Nat.reduceEqDiff, reduceCtorEq, if_true, if_false, kt_24, retA_ret, Try.results10, resultsA_1]
  exact hid_mk ⟨h, Cast.snil0 h, Keep.refl _ _⟩
set_option maxRecDepth 10000 in
theorem sesDoNil (h : AHeap) (c : Chg) (hc : c.del = false) : Pure Try.prog 12 [.pnil, .agg (chgE c)] h (.int .i64 3) := by
  refine Pure.val (Clo.int _ _) ?_
  refine SCalls.enterI (c := _) Try.func12 rfl (by kernel_rfl) (by simp) ?_
  have cc := chg_cells' c
  simp only [wpA_skip, wpA_region, wpA_seq, wpA_cond, wpA_ret, condI_true, condI_false, seqQ_normal, seqQ_ret, endI_mk, goI_out, goI_ops, opsA_nil, opsA_cons, stepA_move, stepA_assign, stepA_box, stepA_load, stepA_binOp, stepA_fieldAddr, thenV_some, thenH_some, eval_tmp, eval_const, put_some, enterF_zero, enterF_succ, nil_nil_eql, absV_int, absV_pnil, aField_eq, fieldGo_ptr, aLoad_eq, loadGo_one, aPlace_ptr, dropC_cells, aBox_eq, get_push_new, Nat.reduceEqDiff, Nat.reduceAdd, Nat.reduceLeDiff, reduceCtorEq, Option.map_some, Nat.zero_add, List.length_cons, List.length_nil, List.drop_zero, List.drop_succ_cons, if_true, if_false, ft_30_4, kt_24, lt_4, cc, hc, retA_ret, Try.results12, resultsA_1]
  exact hid_mk ⟨rfl, Keep.push _ _ _⟩
theorem app1S {h : AHeap} {s : V} {cs : List Chg} (o : Own h 52 3 s (cs.flatMap sesE)) (hl : cs.length ≤ 2 ^ 40) (c : Chg) :
    ∃ s' h', aAppend Try.prog 47 47 s (.sl h.n 0 1 1) (h.push (.cells (sesE c) 52 none)) = some (s', h') ∧ Own h' 52 3 s' ((cs ++ [c]).flatMap sesE) ∧ Keep h h' (isId s) ∧ NewOr h s s' := by
  have kp : Keep h (h.push (.cells (sesE c) 52 none)) none_ := Keep.push _ _ _
  have oj : Own (h.push (.cells (sesE c) 52 none)) 52 3 (.sl h.n 0 1 1) (sesE c) := Own.fresh' (sesE c) 1 rfl (by decide)
  have hsrc := own_src (P := Try.prog) (t := 47) kt_47 oj (n := 1) rfl (by decide) (sesE_one c)
  obtain ⟨s', h', ea, oa, ka, na⟩ := append_ownM (P := Try.prog) (t := 47) (tx := 47) sl_47 (by decide) (o.keepN kp) hsrc rfl (fun m hm => by
    change m * 3 = _ + 3 at hm
    rw [rows_len sesE_len] at hm
    exact ⟨by simp only [lim]; omega, by simp only [lim]; omega⟩)
  refine ⟨s', h', ea, ?_, (kp.up).trans' ka, NewOr.after na kp.n⟩
  rw [List.flatMap_append]
  simpa using oa
def ended (g t : Int) (x : Chg) : Bool := decide (x.to + g ≤ t)
theorem fil_snoc (q : Chg → Bool) (cs : List Chg) (p : Chg) : (cs ++ [p]).filter q = cs.filter q ++ (if q p = true then [p] else []) := by
  rw [List.filter_append]
  cases h : q p <;> simp [h]
set_option maxHeartbeats 2000000 in
set_option maxRecDepth 10000 in
theorem sesExpire (h : AHeap) (i : Nat) (v : V) (room g time : Int) (l : List Chg) (k : IsSes h i v room g l) :
    SCalls Try.prog 10 [.ptr i 0, .int .i64 time] h (fun r h' => ∃ v', r = .imm ((l.filter (ended g time)).map goneS).length (((l.filter (ended g time)).map goneS).flatMap chgE) ∧ IsSes h' i v' room g (l.filter fun x => !ended g time x) ∧ Keep h h' (sesO i v) ∧ NewOr h v v') := by
  refine SCalls.cast ?_
  refine SCalls.enterI (c := _) Try.func10 rfl (by kernel_rfl) (by simp) ?_
  have hg := k.get
  have hal := k.alen h
  have l40 := k.len
  have hin := k.lt
  simp only [wpA_skip, wpA_region, wpA_seq, wpA_cond, wpA_block, wpA_loop, condI_false, seqQ_normal, goI_out, goI_ops, opsA_nil, opsA_cons, stepA_move, stepA_assign, stepA_load, stepA_nilCheck, stepA_binOp, stepA_fieldAddr, stepA_len, thenV_some, nilV_ptr, eval_tmp, eval_const, put_some, enterF_zero, enterF_succ, ptr_nil_eql, absV_int, absV_pnil, absV_snil, aField_eq, fieldGo_ptr, aLoad_eq, loadGo_one, aPlace_ptr, dropC_cells, Nat.reduceEqDiff, Nat.reduceAdd, Nat.reduceLeDiff, reduceCtorEq, Nat.zero_add, List.length_cons, List.length_nil, List.drop_zero, List.drop_succ_cons, if_true, if_false, ft_49_2, kt_24, lt_47, hg, hal]
  refine SWp.loopG (α := Nat × V × V) (fun x f h' => f 0 = .ptr i 0 ∧ f 1 = .int .i64 time ∧ f 5 = x.2.1 ∧ f 6 = x.2.2 ∧ f 14 = v ∧ f 15 = .int .i64 (l.length : Nat) ∧ f 16 = .int .i64 (x.1 : Nat) ∧ x.1 ≤ l.length ∧ Keep h h' none_ ∧
      Own h' 30 5 x.2.1 ((((l.take x.1).filter (ended g time)).map goneS).flatMap chgE) ∧ Own h' 52 3 x.2.2 (((l.take x.1).filter fun y => !ended g time y).flatMap sesE) ∧
      (∀ j, idOf x.2.1 = some j → h.n ≤ j ∧ idOf x.2.2 ≠ some j) ∧ (∀ j, idOf x.2.2 = some j → h.n ≤ j)) (fun x => l.length - x.1) (0, .snil, .snil)
    ⟨rfl, rfl, rfl, rfl, rfl, rfl, rfl, Nat.zero_le _, Keep.refl _ _, Own.snil _ _ _, Own.snil _ _ _, by simp [idOf], by simp [idOf]⟩ ?_
  rintro ⟨t, a, b⟩ f h1 ⟨f0, f1, f5, f6, f14, f15, f16, ht, k1, oa, ob, na, nb⟩
  simp only at f5 f6 f16 ht oa ob na nb
  refine wpI_sound (by kernel_rfl) ?_
  by_cases hlt : t < l.length
  · have d1 : decide ((t : Int) < ((l.length : Nat) : Int)) = true := decide_eq_true (by omega)
    have hw := inc64 hlt (by omega)
    have ks := k.keepN k1
    have hp : l[t]? = some l[t] := List.getElem?_eq_getElem hlt
    have ht1 : l.take (t + 1) = l.take t ++ [l[t]] := List.take_succ_eq_append_getElem hlt
    have hfa := fil_snoc (ended g time) (l.take t) l[t]
    have hfb := fil_snoc (fun y => !ended g time y) (l.take t) l[t]
    rw [← ht1] at hfa hfb
    generalize l[t] = p at hp ht1 hfa hfb
    obtain ⟨j, r, x1, x2, x3, x4, _⟩ := srow ks.own hp
    have hpok := k.ok p (List.mem_of_getElem? hp)
    have ld := ses_ld p r
    have cr := ses_cellsE p
    have ldc := ses_ldc p
    have st := ses_st p
    obtain ⟨H, hH⟩ : ∃ y, y = h1.push (.cells (sesE p) 52 none) := ⟨_, rfl⟩
    have gH : H.get h1.n = .cells (sesE p) 52 none := by rw [hH]; exact get_push_new
    have kH : Keep h1 H none_ := by rw [hH]; exact Keep.push _ _ _
    have hg1 := (ks.keepN kH).get
    have oaH := oa.keepN kH
    have obH := ob.keepN kH
    have kkH := k1.trans' kH
    have w2 : IntKind.i64.wrap (p.to + g) = p.to + g := Go.IntWalk.i64_in _ (by have := hpok.lo; have := hpok.le; have := hpok.hi; have := k.g1; have := k.g2; omega)
    simp only [wpA_skip, wpA_region, wpA_seq, wpA_cond, wpA_block, wpA_draw, condI_true, seqQ_normal, goI_out, goI_ops, opsA_nil, opsA_cons, stepA_alloc, stepA_load, stepA_store, stepA_binOp, stepA_indexAddr, thenV_some, thenH_some, thenS_some, eval_tmp, put_some, aBin_lss, aLoad_eq, aPlace_ptr, aStore_eq, storeGo_ptr, aAlloc_eq, get_push_new, set_push, Nat.reduceEqDiff, Option.map_some, if_true, if_false, lt_52, zc_52, zt_52, f14, f15, f16, d1, x1, x4, ld, cr, st]
    rw [← hH]
    clear hH
    refine SWp.drawnS none_ [] (.q 0 (.c 1 (.q 2 (.q 3 (.q 4 (.q 5 (.q 6 (.q 7 (.q 8 .done))))))))) (by kernel_rfl) (by kernel_rfl) (by kernel_rfl) ?_
    simp only [siI_q, sqI_some, mOk_none', implies_true, qI_nil, qI_cons, thenQ_some, q_load, goI_mk, eval_tmp, put_some, put_none, aLoad_eq, loadGo_row, aPlace_ptr, dropC_cells, List.getElem?_cons_zero, Nat.reduceEqDiff, Nat.zero_le, List.drop_zero, true_and, if_true, if_false, lt_52, gH, ldc]
    refine siI_c rfl rfl rfl (fun h' _ => pLastS p hpok h') ?_
    cases e : decide (p.to + g ≤ time)
    · have e' : ended g time p = false := e
      rw [e'] at hfa hfb
      simp only [Bool.false_eq_true, if_false, List.append_nil, Bool.not_false, if_true] at hfa hfb
      obtain ⟨b', h4, ea, o4, k4, n4⟩ := app1S obH (by have := List.length_filter_le (fun y => !ended g time y) (l.take t); have := List.length_take_le t l; omega) p
      have hlit := lit1s H p
      simp only [siI_done, siI_q, sqI_some, mOk_none', implies_true, qI_nil, qI_cons, thenQ_some, q_move, q_load, q_nilCheck, q_binOp, q_fieldAddr, wpA_region, wpA_cond, condI_false, seqQ_normal, blkQ_normal, endI_mk, andThen_normal, goI_out, goI_ops, goI_mk, opsA_nil, opsA_cons, stepA_move, stepA_assign, stepA_buildSlice, stepA_load, stepA_binOp, stepA_append, thenV_some, thenH_some, nilV_ptr, eval_tmp, eval_const, put_some, put_none, aBin_add, aBin_leq, absV_int, aField_eq, fieldGo_ptr, aLoad_eq, loadGo_one, loadGo_row, aPlace_ptr, dropC_cells, List.getElem?_cons_zero, List.getElem?_cons_succ, Nat.reduceEqDiff, Nat.reduceAdd, Nat.reduceLeDiff, reduceCtorEq, List.map_cons, List.map_nil, Nat.zero_add, Nat.zero_le, List.length_cons, List.length_nil, List.drop_zero, List.drop_succ_cons, true_and, if_true, if_false, ft_49_1, lt_2, lt_52, f0, f1, f6, f16, gH, hg1, w2, e, ldc, hlit, ea, hw]
      refine hid_mk ⟨(t + 1, a, b'), ⟨f0, f1, f5, rfl, f14, f15, rfl, hlt, kkH.trans k4 fun q hq hh => by have := nb q hh; omega, by simp only; rw [hfa]; exact oaH.keep k4 fun q hq hh => (na q hq).2 hh, by simp only; rw [hfb]; exact o4, fun q hq => ⟨(na q hq).1, fun hh => ?_⟩, fun q hq => ?_⟩, by simp only; omega⟩
      · rcases n4 with n4 | n4
        · rw [n4] at hh; exact (na q hq).2 hh
        · have := n4 q hh; have := oaH.lt q hq; omega
      · rcases n4 with n4 | n4
        · exact nb q (by rw [← n4]; exact hq)
        · have := n4 q hq; have := kkH.n; omega
    · have e' : ended g time p = true := e
      rw [e'] at hfa hfb
      simp only [Bool.not_true, Bool.false_eq_true, if_false, List.append_nil, if_true] at hfa hfb
      obtain ⟨a', h4, ea, o4, k4, n4⟩ := app1C oaH (by simp only [List.length_map]; have := List.length_filter_le (ended g time) (l.take t); have := List.length_take_le t l; omega) (goneS p)
      have hlit := lit1cS H (goneS p)
      simp only [siI_done, siI_q, sqI_some, mOk_none', implies_true, qI_nil, qI_cons, thenQ_some, q_move, q_load, q_nilCheck, q_binOp, q_fieldAddr, wpA_region, wpA_cond, condI_true, seqQ_normal, goI_out, goI_ops, goI_mk, opsA_cons, stepA_move, stepA_load, stepA_call, thenV_some, nilV_ptr, eval_tmp, put_some, put_none, aBin_add, aBin_leq, aField_eq, fieldGo_ptr, aLoad_eq, loadGo_one, loadGo_row, aPlace_ptr, dropC_cells, List.getElem?_cons_zero, List.getElem?_cons_succ, Nat.reduceEqDiff, Nat.reduceAdd, Nat.reduceLeDiff, reduceCtorEq, List.map_cons, List.map_nil, Nat.zero_add, Nat.zero_le, List.length_cons, List.length_nil, List.drop_zero, List.drop_succ_cons, true_and, if_true, if_false, ft_49_1, lt_2, lt_52, f0, f1, f5, gH, hg1, w2, e, ldc]
      refine callI_pure cal18 (pGone p hpok _) ?_
      simp only [wpA_region, seqQ_normal, blkQ_normal, endI_mk, andThen_normal, goI_out, goI_ops, opsA_nil, opsA_cons, stepA_move, stepA_assign, stepA_buildSlice, stepA_binOp, stepA_append, thenV_some, thenH_some, eval_tmp, eval_const, put_some, put_none, aBin_add, absV_int, Nat.reduceEqDiff, List.map_cons, List.map_nil, if_true, if_false, f16, hlit, ea, hw]
      refine hid_mk ⟨(t + 1, a', b), ⟨f0, f1, rfl, f6, f14, f15, rfl, hlt, kkH.trans k4 fun q hq hh => by have := (na q hh).1; omega, by simp only; rw [hfa, List.map_append]; exact o4, by simp only; rw [hfb]; exact obH.keep k4 fun q hq hh => (na q hh).2 hq, fun q hq => ?_, nb⟩, by simp only; omega⟩
      rcases n4 with n4 | n4
      · exact na q (by rw [← n4]; exact hq)
      · exact ⟨by have := n4 q hq; have := kkH.n; omega, fun hh => by have := n4 q hq; have := obH.lt q hh; omega⟩
  · have d1 : decide ((t : Int) < ((l.length : Nat) : Int)) = false := decide_eq_false (by omega)
    rw [List.take_of_length_le (by omega)] at oa ob
    have hg1 := (k.keepN k1).get
    have one_r : b.one = true := by
      rcases ob with ⟨rfl | rfl, _⟩ | ⟨_, _, _, _, _, rfl, _⟩ <;> rfl
    have cell_r : b.cells = some [b] := by
      rcases ob with ⟨rfl | rfl, _⟩ | ⟨_, _, _, _, _, rfl, _⟩ <;> rfl
    have hset : setC (some 1) (AObj.cells [V.int .i64 room, V.int .i64 g, v] 49 none) 2 [b] = some (.cells [.int .i64 room, .int .i64 g, b] 49 none) := by rw [setC_one one_r]; rfl
    simp only [wpA_region, wpA_seq, wpA_cond, wpA_exit, wpA_ret, condI_false, seqQ_normal, seqQ_exit, blkQ_exit, endI_mk, goE, andThen_exit, goI_out, goI_ops, opsA_nil, opsA_cons, stepA_move, stepA_assign, stepA_store, stepA_nilCheck, stepA_binOp, stepA_fieldAddr, thenV_some, thenS_some, nilV_ptr, eval_tmp, put_some, put_none, aBin_lss, aField_eq, fieldGo_ptr, aStore_eq, storeGo_ptr, Nat.reduceEqDiff, reduceCtorEq, Option.map_some, Nat.zero_add, if_true, if_false, ft_49_2, zt_47, f0, f5, f6, f15, f16, d1, hg1, cell_r, hset, retA_ret, Try.results10, resultsA_1]
    have k4 : Keep h1 (h1.set i (.cells [V.int .i64 room, V.int .i64 g, b] 49 none)) (fun q => q = i) := Keep.set _ _ _
    have hbi : idOf b ≠ some i := fun hh => by have := nb i hh; omega
    have hk1n := k1.n
    have oa4 := oa.keep k4 fun q hq hh => by have := (na q hq).1; omega
    have ob4 := ob.keep k4 fun q hq hh => by have := nb q hq; omega
    obtain ⟨h5, c5, k5⟩ := Cast.own oa4 (n := ((l.filter (ended g time)).map goneS).length) (rows_len chgE_len _) (by decide)
    have ks : IsSes (h1.set i (.cells [V.int .i64 room, V.int .i64 g, b] 49 none)) i b room g (l.filter fun x => !ended g time x) :=
      ⟨by rw [set_n]; omega, get_set_same, ob4, hbi, k.ss.filter _, fun y hy => k.ok y (List.mem_filter.1 hy).1, Nat.le_trans (List.length_filter_le ..) l40, k.g1, k.g2⟩
    refine hid_mk ⟨_, h5, c5, b, rfl, ks.keep k5 (fun hh => by have := (na i hh).1; omega) (fun q hq hh => (na q hh).2 hq), ?_, .inr fun q hq => nb q hq⟩
    exact ((k1.up (o := sesO i v)).trans k4 fun q hq hh => .inl hh).trans k5 fun q hq hh => by have := (na q hh).1; omega
end Go.Proofs.Ytjphnabogfiahaa.Pk
