/-
  What functions of the program do, told of abstract states. Conditions: as each theorem says.
-/
import Derived.Test.YtjphnabogfiahaaSeG
namespace Go.Proofs.Ytjphnabogfiahaa.Pk
open Go Go.Proofs Go.Proofs.Ytjphnabogfiahaa.Ab
set_option linter.unusedVariables false
set_option linter.unusedSimpArgs false
theorem has3_same {l : List Chg} {x y : Chg} (h : same3 x y = true) : has3 l x = has3 l y := by
  obtain ⟨h1, h2, h3⟩ := same3_iff.1 h
  unfold has3 same3
  rw [h1, h2, h3]
theorem rm3_same {l : List Chg} {x y : Chg} (h : same3 x y = true) : rm3 l x = rm3 l y := by
  obtain ⟨h1, h2, h3⟩ := same3_iff.1 h
  unfold rm3 same3
  rw [h1, h2, h3]
set_option maxHeartbeats 2000000 in
set_option maxRecDepth 10000 in
theorem sesDoGone (h : AHeap) (i : Nat) (v : V) (room g : Int) (l : List Chg) (x : Chg) (hx : okS x) (hh : has3 l x = true) (k : IsSes h i v room g l) :
    SCalls Try.prog 12 [.ptr i 0, .agg (chgE (goneS x))] h (fun r h' => ∃ v', r = .int .i64 0 ∧ IsSes h' i v' room g (rm3 l x) ∧ Keep h h' (sesO i v) ∧ NewOr h v v') := by
  refine SCalls.enterI (c := _) Try.func12 rfl (by kernel_rfl) (by simp) ?_
  have cc := chg_cellsE (goneS x)
  have c1 : List.drop 1 (chgE (goneS x)) = [.int .i64 x.fr, .int .i64 x.to, .int .i64 0, .bool true] := rfl
  have c2 : List.drop 2 (chgE (goneS x)) = [.int .i64 x.to, .int .i64 0, .bool true] := rfl
  have c3 : List.drop 3 (chgE (goneS x)) = [.int .i64 0, .bool true] := rfl
  have c4 : List.drop 4 (chgE (goneS x)) = [.bool true] := rfl
  have ldc := chg_ldc (goneS x)
  have h0 := hx.lo
  have h1 := hx.le
  have h2 := hx.hi
  have m1 : mayT x.fr = true := mayT_iff.2 ⟨h0, by omega⟩
  have m2 : mayT x.to = true := mayT_iff.2 ⟨by omega, h2⟩
  have d1 : decide (x.to < x.fr) = false := decide_eq_false (by omega)
  have hin := k.lt
  obtain ⟨y, hy⟩ : ∃ y : Chg, y = ⟨x.key, x.fr, x.to, 0, false⟩ := ⟨_, rfl⟩
  have hyok : okS y := by rw [hy]; exact ⟨h0, h1, h2, rfl⟩
  have hys : same3 x y = true := by rw [hy]; exact same3_iff.2 ⟨rfl, rfl, rfl⟩
  have hyE : V.agg (sesE (goneS x)) = .agg (sesE y) := by rw [hy]; rfl
  have hyh : has3 l y = true := by rw [← has3_same hys]; exact hh
  rw [rm3_same hys]
  obtain ⟨H, hH⟩ : ∃ z, z = h.push (.cells (chgE (goneS x)) 30 none) := ⟨_, rfl⟩
  have gA : H.get h.n = .cells (chgE (goneS x)) 30 none := by rw [hH]; exact get_push_new
  have kH : Keep h H none_ := by rw [hH]; exact Keep.push _ _ _
  have nH : H.n = h.n + 1 := by rw [hH]; rfl
  simp only [wpA_skip, wpA_region, wpA_seq, wpA_cond, condI_false, seqQ_normal, goI_out, goI_ops, opsA_nil, opsA_cons, stepA_move, stepA_assign, stepA_box, stepA_load, stepA_binOp, stepA_fieldAddr, stepA_call, thenV_some, thenH_some, eval_tmp, eval_const, put_some, enterF_zero, enterF_succ, ptr_nil_eql, absV_int, absV_pnil, aField_eq, fieldGo_ptr, aLoad_eq, loadGo_one, aPlace_ptr, dropC_cells, aBox_eq, get_push_new, Nat.reduceEqDiff, Nat.reduceLeDiff, reduceCtorEq, List.map_cons, List.map_nil, Option.map_some, Nat.zero_add, if_true, if_false, ft_30_1, kt_24, lt_2, cc, c1, chgE_len]
  rw [← hH]
  clear hH
  refine callI_pure cal19 (pMayT x.fr H) ?_
  simp only [goI_ops, opsA_cons, opsA_guardS, gvI_same, slotAt_zero, slotAt_succ, stepA_move, stepA_load, stepA_unOp, stepA_fieldAddr, stepA_call, thenV_some, eval_tmp, put_some, enterF_succ, aUn_not, aField_eq, fieldGo_ptr, aLoad_eq, loadGo_one, aPlace_ptr, dropC_cells, Nat.reduceEqDiff, Nat.reduceLeDiff, List.map_cons, List.map_nil, Nat.zero_add, if_true, if_false, Bool.not_true, ft_30_2, lt_2, m1, gA, c2, chgE_len]
  refine callI_pure cal19 (pMayT x.to H) ?_
  simp only [wpA_skip, wpA_region, wpA_seq, wpA_cond, condI_false, seqQ_normal, goI_out, goI_ops, opsA_nil, opsA_cons, opsA_guardS, gvI_same, slotAt_zero, slotAt_succ, stepA_move, stepA_pick, stepA_load, stepA_binOp, stepA_unOp, stepA_fieldAddr, stepA_call, thenV_some, pickV_true, pickV_false, eval_tmp, eval_const, put_some, enterF_succ, aBin_neq, aBin_lss, aUn_not, absV_int, absV_bool, aField_eq, fieldGo_ptr, aLoad_eq, loadGo_one, loadGo_row, aPlace_ptr, dropC_cells, bne_self_eq_false, Nat.reduceEqDiff, Nat.reduceLeDiff, List.map_cons, List.map_nil, Nat.zero_add, Nat.zero_le, List.drop_zero, if_true, if_false, Bool.not_true, Nat.le_refl, ft_30_1, ft_30_2, ft_30_3, ft_30_4, lt_2, lt_30, lt_4, m2, gA, c1, c2, c3, c4, chgE_len, d1]
  refine callI_pure cal20 (pSesOf (goneS x) H) ?_
  rw [hyE]
  have sld := ses_ldc y
  have sst := ses_st y
  have scc := ses_cellsE y
  obtain ⟨H2, hH2⟩ : ∃ z, z = H.push (.cells (sesE y) 52 none) := ⟨_, rfl⟩
  have gB : H2.get H.n = .cells (sesE y) 52 none := by rw [hH2]; exact get_push_new
  have kB : Keep H H2 none_ := by rw [hH2]; exact Keep.push _ _ _
  have gA2 : H2.get h.n = .cells (chgE (goneS x)) 30 none := (kB.get h.n (by omega) (by simp [none_])).trans gA
  have k2 := (k.keepN kH).keepN kB
  simp only [wpA_region, wpA_seq, seqQ_normal, goI_out, goI_ops, opsA_nil, opsA_cons, stepA_move, stepA_alloc, stepA_load, stepA_store, stepA_call, thenV_some, thenH_some, thenS_some, eval_tmp, put_some, put_none, enterF_zero, enterF_succ, aLoad_eq, loadGo_row, aPlace_ptr, dropC_cells, aStore_eq, storeGo_ptr, aAlloc_eq, get_push_new, set_push, Nat.reduceEqDiff, reduceCtorEq, List.map_cons, List.map_nil, Option.map_some, Nat.zero_le, List.drop_zero, if_true, if_false, lt_52, zc_52, zt_52, sld, sst, scc]
  rw [← hH2]
  clear hH2
  refine callI_pure cal23 (pFindS H2 i v room g l y hyok k2) ?_
  simp only [wpA_region, wpA_seq, wpA_cond, wpA_block, condI_true, condI_false, seqQ_normal, goI_out, goI_ops, opsA_nil, opsA_cons, opsA_guardS, gvI_same, slotAt_zero, slotAt_succ, stepA_move, stepA_assign, stepA_pick, stepA_load, stepA_unOp, stepA_fieldAddr, stepA_extract, stepA_call, thenV_some, pickV_true, extV_zero, extV_succ, eval_tmp, eval_const, put_some, put_none, enterF_zero, enterF_succ, aUn_not, absV_bool, aField_eq, fieldGo_ptr, aLoad_eq, loadGo_one, loadGo_row, aPlace_ptr, dropC_cells, Nat.reduceEqDiff, Nat.reduceLeDiff, reduceCtorEq, List.map_cons, List.map_nil, Nat.zero_add, Nat.zero_le, List.drop_zero, if_true, if_false, Bool.not_true, ft_30_4, lt_4, lt_52, hyh, gA2, gB, c4, chgE_len, sld]
  refine callI_of cal21 (sesRemove H2 i v room g l y hyok hyh k2) fun r h3 ⟨v2, ks3, k3, n3⟩ => ?_
  simp only [wpA_region, wpA_seq, wpA_ret, seqQ_normal, blkQ_normal, endI_mk, goI_out, goI_ops, opsA_nil, opsA_cons, stepA_assign, eval_const, put_some, put_none, enterF_succ, absV_int, Nat.reduceEqDiff, if_true, if_false, retA_ret, Try.results12, resultsA_1]
  exact hid_mk ⟨v2, rfl, ks3, ((kH.up).trans' kB.up).trans' k3, NewOr.after n3 (Nat.le_trans kH.n kB.n)⟩
set_option maxHeartbeats 2000000 in
set_option maxRecDepth 10000 in
theorem sesDoSet (h : AHeap) (i : Nat) (v : V) (room g : Int) (l : List Chg) (x : Chg) (hx : okS x) (hroom : (l.length : Int) < room ∨ has3 l x = true) (hl : l.length < 1024 ∨ has3 l x = true) (k : IsSes h i v room g l) :
    SCalls Try.prog 12 [.ptr i 0, .agg (chgE x)] h (fun r h' => ∃ v', r = .int .i64 0 ∧ IsSes h' i v' room g (ins3 (rm3 l x) x) ∧ Keep h h' (sesO i v) ∧ NewOr h v v') := by
  refine SCalls.enterI (c := _) Try.func12 rfl (by kernel_rfl) (by simp) ?_
  have cc := chg_cellsE x
  have hxd := hx.del
  have c1 : List.drop 1 (chgE x) = [.int .i64 x.fr, .int .i64 x.to, .int .i64 x.val, .bool false] := by rw [← hxd]; rfl
  have c2 : List.drop 2 (chgE x) = [.int .i64 x.to, .int .i64 x.val, .bool false] := by rw [← hxd]; rfl
  have c3 : List.drop 3 (chgE x) = [.int .i64 x.val, .bool false] := by rw [← hxd]; rfl
  have c4 : List.drop 4 (chgE x) = [.bool false] := by rw [← hxd]; rfl
  have ldc := chg_ldc x
  have h0 := hx.lo
  have h1 := hx.le
  have h2 := hx.hi
  have m1 : mayT x.fr = true := mayT_iff.2 ⟨h0, by omega⟩
  have m2 : mayT x.to = true := mayT_iff.2 ⟨by omega, h2⟩
  have d1 : decide (x.to < x.fr) = false := decide_eq_false (by omega)
  have hin := k.lt
  obtain ⟨H, hH⟩ : ∃ z, z = h.push (.cells (chgE x) 30 none) := ⟨_, rfl⟩
  have gA : H.get h.n = .cells (chgE x) 30 none := by rw [hH]; exact get_push_new
  have kH : Keep h H none_ := by rw [hH]; exact Keep.push _ _ _
  have nH : H.n = h.n + 1 := by rw [hH]; rfl
  simp only [wpA_skip, wpA_region, wpA_seq, wpA_cond, condI_false, seqQ_normal, goI_out, goI_ops, opsA_nil, opsA_cons, stepA_move, stepA_assign, stepA_box, stepA_load, stepA_binOp, stepA_fieldAddr, stepA_call, thenV_some, thenH_some, eval_tmp, eval_const, put_some, enterF_zero, enterF_succ, ptr_nil_eql, absV_int, absV_pnil, aField_eq, fieldGo_ptr, aLoad_eq, loadGo_one, aPlace_ptr, dropC_cells, aBox_eq, get_push_new, Nat.reduceEqDiff, Nat.reduceLeDiff, reduceCtorEq, List.map_cons, List.map_nil, Option.map_some, Nat.zero_add, if_true, if_false, ft_30_1, kt_24, lt_2, cc, c1, chgE_len]
  rw [← hH]
  clear hH
  refine callI_pure cal19 (pMayT x.fr H) ?_
  simp only [goI_ops, opsA_cons, opsA_guardS, gvI_same, slotAt_zero, slotAt_succ, stepA_move, stepA_load, stepA_unOp, stepA_fieldAddr, stepA_call, thenV_some, eval_tmp, put_some, enterF_succ, aUn_not, aField_eq, fieldGo_ptr, aLoad_eq, loadGo_one, aPlace_ptr, dropC_cells, Nat.reduceEqDiff, Nat.reduceLeDiff, List.map_cons, List.map_nil, Nat.zero_add, if_true, if_false, Bool.not_true, ft_30_2, lt_2, m1, gA, c2, chgE_len]
  refine callI_pure cal19 (pMayT x.to H) ?_
  simp only [wpA_skip, wpA_region, wpA_seq, wpA_cond, condI_false, seqQ_normal, goI_out, goI_ops, opsA_nil, opsA_cons, opsA_guardS, gvI_same, gvI_ft, slotAt_zero, slotAt_succ, stepA_move, stepA_pick, stepA_load, stepA_binOp, stepA_unOp, stepA_fieldAddr, stepA_call, thenV_some, pickV_false, eval_tmp, eval_const, put_some, enterF_succ, aBin_lss, aUn_not, absV_bool, aField_eq, fieldGo_ptr, aLoad_eq, loadGo_one, loadGo_row, aPlace_ptr, dropC_cells, Nat.reduceEqDiff, Nat.reduceLeDiff, List.map_cons, List.map_nil, Nat.zero_add, Nat.zero_le, List.drop_zero, if_true, if_false, Bool.not_true, Nat.le_refl, ft_30_1, ft_30_2, ft_30_4, lt_2, lt_30, lt_4, m2, gA, c1, c2, c4, chgE_len, d1]
  refine callI_pure cal20 (pSesOf x H) ?_
  have sld := ses_ldc x
  have sst := ses_st x
  have scc := ses_cellsE x
  obtain ⟨H2, hH2⟩ : ∃ z, z = H.push (.cells (sesE x) 52 none) := ⟨_, rfl⟩
  have gB : H2.get H.n = .cells (sesE x) 52 none := by rw [hH2]; exact get_push_new
  have kB : Keep H H2 none_ := by rw [hH2]; exact Keep.push _ _ _
  have gA2 : H2.get h.n = .cells (chgE x) 30 none := (kB.get h.n (by omega) (by simp [none_])).trans gA
  have k2 := (k.keepN kH).keepN kB
  have hg2 := k2.get
  have hal2 := k2.alen H2
  simp only [wpA_region, wpA_seq, seqQ_normal, goI_out, goI_ops, opsA_nil, opsA_cons, stepA_move, stepA_alloc, stepA_load, stepA_store, stepA_call, thenV_some, thenH_some, thenS_some, eval_tmp, put_some, put_none, enterF_zero, enterF_succ, aLoad_eq, loadGo_row, aPlace_ptr, dropC_cells, aStore_eq, storeGo_ptr, aAlloc_eq, get_push_new, set_push, Nat.reduceEqDiff, reduceCtorEq, List.map_cons, List.map_nil, Option.map_some, Nat.zero_le, List.drop_zero, if_true, if_false, lt_52, zc_52, zt_52, sld, sst, scc]
  rw [← hH2]
  clear hH2
  refine callI_pure cal23 (pFindS H2 i v room g l x hx k2) ?_
  rcases k.ss.at_pos x with ⟨e1, p, e2, e3, e4⟩ | ⟨e1, e2⟩
  · obtain ⟨j, r, x1, x2, x3, x4, x5⟩ := srow k2.own e2
    obtain ⟨ob, y1, y2, y3⟩ := x5 x
    have hij : j ≠ i := fun hh => k2.ne (by rw [x2, hh])
    simp only [wpA_region, wpA_seq, wpA_cond, wpA_block, wpA_draw, condI_true, condI_false, seqQ_normal, goI_out, goI_ops, opsA_nil, opsA_cons, opsA_guardS, gvI_ft, slotAt_zero, slotAt_succ, stepA_move, stepA_assign, stepA_pick, stepA_load, stepA_fieldAddr, stepA_extract, thenV_some, pickV_false, extV_zero, extV_succ, eval_tmp, eval_const, put_some, put_none, enterF_succ, absV_bool, aField_eq, fieldGo_ptr, aLoad_eq, loadGo_one, aPlace_ptr, dropC_cells, Nat.reduceEqDiff, Nat.reduceLeDiff, Nat.zero_add, if_true, if_false, ft_30_4, lt_4, e1, gA2, c4, chgE_len]
    refine SWp.drawnS none_ [7] (.q 0 (.q 1 (.q 2 (.q 3 (.q 4 (.q 5 (.q 6 (.a 7 .done)))))))) (by kernel_rfl) (by kernel_rfl) (by kernel_rfl) ?_
    simp only [siI_done, siI_q, siI_a, sqI_some, saI_some, mOk_none', implies_true, qI_nil, qI_cons, thenQ_some, q_move, q_load, q_nilCheck, q_fieldAddr, q_indexAddr, wpA_region, wpA_seq, wpA_ret, seqQ_normal, blkQ_normal, endI_mk, goI_out, goI_ops, goI_mk, opsA_nil, opsA_cons, stepA_assign, stepA_store, thenS_some, nilV_ptr, eval_tmp, eval_const, put_some, put_none, enterF_zero, enterF_succ, absV_int, aField_eq, fieldGo_ptr, aLoad_eq, loadGo_one, loadGo_row, aPlace_ptr, dropC_cells, aStore_eq, storeGo_ptr, List.getElem?_cons_zero, List.getElem?_cons_succ, Nat.reduceEqDiff, Nat.reduceAdd, Nat.reduceLeDiff, reduceCtorEq, Option.map_some, Nat.zero_add, Nat.zero_le, List.length_cons, List.length_nil, List.drop_zero, List.drop_succ_cons, true_and, if_true, if_false, ft_49_2, lt_47, lt_52, zt_52, gB, hg2, sld, scc, x1, y1, retA_ret, Try.results12, resultsA_1]
    have kx : Keep H2 (H2.set j ob) (fun q => q = j) := Keep.set _ _ _
    refine hid_mk ⟨v, rfl, ⟨k2.lt, (get_set_ne (by omega)).trans hg2, by rw [← k.ss.set3 e1]; exact y2, k.ne, (k.ss.filter _).insS (has3_rm l x), fun z hz => ?_, ?_, k.g1, k.g2⟩, ?_, .inl rfl⟩
    · rcases mem_ins3.1 hz with rfl | hz
      · exact hx
      · exact k.ok z (List.mem_filter.1 hz).1
    · rw [← k.ss.set3 e1, List.length_set]; exact k.len
    · exact ((kH.up (o := sesO i v)).trans' kB.up).trans kx fun q hq hh => .inr (by subst hh; exact x2)
  · have hr : (l.length : Int) < room := by rcases hroom with hr | hr; exact hr; rw [e1] at hr; cases hr
    have hll : l.length < 1024 := by rcases hl with hr | hr; exact hr; rw [e1] at hr; cases hr
    have d2 : decide (room ≤ ((l.length : Nat) : Int)) = false := decide_eq_false (by omega)
    rw [rm3_no e1]
    simp only [wpA_region, wpA_seq, wpA_cond, wpA_block, wpA_draw, condI_false, seqQ_normal, goI_out, goI_ops, opsA_nil, opsA_cons, opsA_guardS, gvI_ft, slotAt_zero, slotAt_succ, stepA_move, stepA_assign, stepA_pick, stepA_load, stepA_fieldAddr, stepA_extract, thenV_some, pickV_false, extV_zero, extV_succ, eval_tmp, eval_const, put_some, put_none, enterF_succ, absV_bool, aField_eq, fieldGo_ptr, aLoad_eq, loadGo_one, aPlace_ptr, dropC_cells, Nat.reduceEqDiff, Nat.reduceLeDiff, Nat.zero_add, if_true, if_false, ft_30_4, lt_4, e1, gA2, c4, chgE_len]
    refine SWp.drawnS none_ [] (.q 0 (.q 1 (.q 2 (.q 3 (.q 4 (.q 5 (.q 6 (.q 7 (.q 8 (.q 9 (.q 10 .done))))))))))) (by kernel_rfl) (by kernel_rfl) (by kernel_rfl) ?_
    simp only [siI_done, siI_q, sqI_some, mOk_none', implies_true, qI_nil, qI_cons, thenQ_some, q_move, q_assign, q_load, q_nilCheck, q_binOp, q_fieldAddr, q_len, wpA_region, wpA_cond, condI_false, seqQ_normal, goI_out, goI_ops, goI_mk, opsA_cons, stepA_move, stepA_load, stepA_call, thenV_some, nilV_ptr, eval_tmp, put_some, put_none, enterF_zero, enterF_succ, aBin_geq, aField_eq, fieldGo_ptr, aLoad_eq, loadGo_one, loadGo_row, aPlace_ptr, dropC_cells, List.getElem?_cons_zero, List.getElem?_cons_succ, Nat.reduceEqDiff, Nat.reduceAdd, Nat.reduceLeDiff, reduceCtorEq, List.map_cons, List.map_nil, Nat.add_zero, Nat.zero_add, Nat.zero_le, List.length_cons, List.length_nil, List.drop_zero, List.drop_succ_cons, true_and, if_true, if_false, ft_49_0, ft_49_2, lt_3, lt_47, lt_52, gB, hg2, hal2, sld, d2]
    refine callI_of cal22 (sesInsert H2 i v room g l x hx e1 hll k2) fun r h3 ⟨v2, ks3, k3, n3⟩ => ?_
    simp only [wpA_region, wpA_seq, wpA_ret, seqQ_normal, blkQ_normal, endI_mk, goI_out, goI_ops, opsA_nil, opsA_cons, stepA_assign, eval_const, put_some, put_none, enterF_succ, absV_int, Nat.reduceEqDiff, if_true, if_false, retA_ret, Try.results12, resultsA_1]
    exact hid_mk ⟨v2, rfl, ks3, ((kH.up).trans' kB.up).trans' k3, NewOr.after n3 (Nat.le_trans kH.n kB.n)⟩
end Go.Proofs.Ytjphnabogfiahaa.Pk
