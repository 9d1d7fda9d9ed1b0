/-
  What functions of the program do, told of abstract states. Conditions: as each theorem says.
-/
import Derived.Test.YtedkjhifbibpmaaGreatDoorKqE
namespace Go.Proofs.YtedkjhifbibpmaaGreatDoor.Pk
open Go Go.Proofs Go.Proofs.YtedkjhifbibpmaaGreatDoor.Ab
set_option linter.unusedVariables false
set_option linter.unusedSimpArgs false
set_option maxRecDepth 10000
set_option maxHeartbeats 4000000 in
theorem aggAgain (kd n : Nat) (ds : List Dd) (hk : kd < 256) (hn : n < 256) (hd : ds.length < 2 ^ 47) (hm : ∀ d ∈ ds, -2 ^ 63 ≤ d.mark ∧ d.mark < 2 ^ 63) (h : AHeap) (hg : KG h) :
    SCalls Tryz.prog 3 [.int .u8 (kd : Nat), .int .u8 (n : Nat), .imm ds.length (ds.flatMap ddE)] h (fun r h' => r = .bool true) := by
  refine SCalls.enterI (c := _) Tryz.func3 rfl (by kernel_rfl) (by simp) ?_
  simp only [wpA_region, wpA_seq, seqQ_normal, goI_out, goI_ops, opsA_nil, opsA_cons, stepA_assign, stepA_call, eval_const, absV_bool, List.map_nil]
  refine callI_pure cal15 (pShownK h hg) ?_
  simp only [wpA_region, wpA_seq, seqQ_normal, goI_out, goI_ops, opsA_nil, opsA_cons, stepA_move, stepA_assign, stepA_call, eval_tmp, put_some, enterF_zero, enterF_succ, Nat.reduceEqDiff, reduceCtorEq, List.map_cons, List.map_nil, if_true, if_false]
  refine callI_pure cal16 (pUsual kd n hk hn h) ?_
  have hkO := kOf_usual kd n hn
  obtain ⟨N, hN⟩ : ∃ N, N = 1 + (n : Int) := ⟨_, rfl⟩
  rw [← hN] at hkO ⊢
  obtain ⟨K, hK⟩ : ∃ K, K = kU kd N := ⟨_, rfl⟩
  rw [← hK] at hkO
  obtain ⟨X, hX⟩ : ∃ X, X = encX ⟨kindN kd, [], sumE, N⟩ := ⟨_, rfl⟩
  have cX : (V.agg X).cells = some X := rfl
  have sX : setC (some 6) (AObj.cells [V.int .i64 0, .snil, .int .i64 0, .int .i64 0, .snil, .int .i64 0] 29 none) 0 X = some (.cells X 29 none) := by rw [hX]; rfl
  have ldX : (if 6 ≤ X.length then some (V.agg (List.take 6 X)) else none) = some (.agg X) := by rw [hX]; rfl
  have dX : dropC (.cells X 29 none) 0 = some X := rfl
  rw [← hX]
  simp only [wpA_region, wpA_seq, seqQ_normal, goI_out, goI_ops, opsA_nil, opsA_cons, stepA_alloc, stepA_load, stepA_store, thenH_some, thenS_some, eval_tmp, put_some, put_none, enterF_succ, aLoad_eq, loadGo_row, aPlace_ptr, dropC_cells, aStore_eq, storeGo_ptr, aAlloc_eq, get_push_new, set_push, Nat.reduceEqDiff, Option.map_some, Nat.zero_le, List.drop_zero, if_true, if_false, lt_29, zc_29, zt_29, cX, sX]
  obtain ⟨H, hH⟩ : ∃ y, y = h.push (.cells X 29 none) := ⟨_, rfl⟩
  have k0 : Keep h H none_ := by rw [hH]; exact Keep.push _ _ _
  have g0 : H.get h.n = .cells X 29 none := by rw [hH]; exact get_push_new
  have n0 : H.n = h.n + 1 := by rw [hH]; rfl
  rw [← hH]
  clear hH
  have hnew : ∀ H', KG H' → SCalls Tryz.prog 17 [.agg X] H' (fun r h' => ∃ a O, r = .tuple [.ptr a 0, .int .i64 0] ∧ Keep H' h' none_ ∧ (∀ q ∈ O, H'.n ≤ q) ∧ IsA h' a O K sumE N []) := fun H' hg' => by
    rw [hX]
    exact agNewK ⟨kindN kd, [], sumE, N⟩ hkO sum_may sum_ok H' hg'
  simp only [goI_ops, opsA_cons, stepA_call, thenV_some, eval_tmp, put_some, put_none, enterF_succ, Nat.reduceEqDiff, List.map_cons, List.map_nil, if_true, if_false, ldX]
  refine callI_of cal17 (hnew H (hg.keep k0)) fun r h1 ⟨a, O, e1, k1, hO, s1⟩ => ?_
  subst e1
  have g1 := (k1.get h.n (by omega) (by simp [none_])).trans g0
  simp only [wpA_region, wpA_seq, seqQ_normal, goI_out, goI_ops, opsA_nil, opsA_cons, stepA_move, stepA_assign, stepA_load, stepA_extract, stepA_call, thenV_some, extV_zero, extV_succ, eval_tmp, put_some, put_none, enterF_succ, aLoad_eq, loadGo_row, aPlace_ptr, Nat.reduceEqDiff, List.map_cons, List.map_nil, if_true, if_false, lt_29, g1, dX, ldX]
  refine callI_of cal17 (hnew h1 ((hg.keep k0).keep k1)) fun r h2 ⟨b, O2, e2, k2, hO2, s2⟩ => ?_
  subst e2
  have hg2 := ((hg.keep k0).keep k1).keep k2
  have s1' := s1.keepN k2
  have d12 : Dis O O2 := fun q hq hh => by have := s1.lt q hq; have := hO2 q hh; omega
  simp only [wpA_skip, wpA_region, wpA_seq, wpA_cond, wpA_block, wpA_loop, condI_false, seqQ_normal, goI_out, goI_ops, opsA_nil, opsA_cons, opsA_guardS, gvI_same, slotAt_zero, slotAt_succ, stepA_move, stepA_assign, stepA_pick, stepA_binOp, stepA_extract, thenV_some, pickV_false, extV_zero, extV_succ, eval_tmp, eval_const, put_some, put_none, enterF_succ, aBin_neq, ptr_nil_eql, absV_int, absV_bool, absV_pnil, bne_self_eq_false, Nat.reduceEqDiff, if_true, if_false, kt_31]
  refine SWp.loopG (α := Nat × List Nat × List Nat × List Chg) (fun x f h' => f 2 = .imm ds.length (ds.flatMap ddE) ∧ f 7 = .bool true ∧ f 9 = .ptr a 0 ∧ f 11 = .ptr b 0 ∧ f 13 = .int .i64 (x.1 : Nat) ∧ x.1 ≤ 120 ∧
      IsA h' a x.2.1 K sumE N x.2.2.2 ∧ IsA h' b x.2.2.1 K sumE N x.2.2.2 ∧ Dis x.2.1 x.2.2.1 ∧ KG h') (fun x => 120 - x.1) (0, O, O2, [])
    ⟨rfl, rfl, rfl, rfl, rfl, Nat.zero_le _, s1', s2, d12, hg2⟩ ?_
  rintro ⟨t, P1, P2, l⟩ f h' ⟨f2, f7, f9, f11, f13, ht, sa, sb, dd, hgh⟩
  simp only at f13 ht sa sb dd
  refine wpI_sound (by kernel_rfl) ?_
  by_cases hlt : t < ds.length ∧ t < 120
  · have d1 : decide ((t : Int) < ((ds.length : Nat) : Int)) = true := decide_eq_true (by omega)
    have d2 : decide ((t : Int) < 120) = true := decide_eq_true (by omega)
    have hw := inc64 hlt.2 (by omega)
    obtain ⟨rr, x1⟩ := dd_ix (kk := .i64) hlt.1
    have hmk := hm ds[t] (List.getElem_mem _)
    generalize ds[t] = d at x1 hmk
    obtain ⟨dk, ⟨rk, rv, rt⟩, mk, ⟨ck, cf, ct, cv, cd⟩⟩ := d
    simp only [ddE, recE, chgE, List.cons_append, List.nil_append] at x1
    simp only [wpA_skip, wpA_region, wpA_seq, wpA_cond, wpA_block, condI_true, seqQ_normal, goI_out, goI_ops, opsA_nil, opsA_cons, opsA_guardS, gvI_same, slotAt_zero, slotAt_succ, stepA_move, stepA_pick, stepA_load, stepA_binOp, stepA_fieldAddr, stepA_indexAddr, stepA_len, stepA_call, thenV_some, pickV_true, eval_tmp, eval_const, put_some, aBin_lss, absV_int, absV_bool, aField_eq, fieldGo_at, aLoad_eq, loadGo_one, aPlace_at, aLen_imm, Nat.reduceEqDiff, Nat.reduceLeDiff, List.map_cons, List.map_nil, List.length_cons, List.drop_zero, List.drop_succ_cons, if_true, if_false, ft_42_2, kt_22, lt_2, f2, f9, f13, d1, d2, x1]
    refine callI_of cal18 (agExpK sa mk hmk) fun r h3 ⟨P3, o3, n3, k3, nl3, s3⟩ => ?_
    have sb3 := sb.side k3 dd
    have dd3 := dd.step sb nl3
    have hg3 := hgh.keep k3
    have hcl : (expC K mk l).length ≤ 1024 := expC_len sa.wf mk
    have hst : ∀ a b c : Int, setC (some 3) (AObj.cells [V.int .i64 0, .int .i64 0, .int .i64 0] 38 none) 0 [V.int .i64 a, .int .i64 b, .int .i64 c] = some (.cells [V.int .i64 a, .int .i64 b, .int .i64 c] 38 none) := fun _ _ _ => rfl
    have hcells : ∀ a b c : Int, (V.agg [V.int .i64 a, .int .i64 b, .int .i64 c]).cells = some [V.int .i64 a, .int .i64 b, .int .i64 c] := fun _ _ _ => rfl
    have hrun3 : runD K l (expC K mk l) = some (expL K mk l) := sa.wf.exps mk
    have n3b : ∀ j, idOf r = some j → j ∉ P2 := fun j hj hh => by have := (n3 j hj).1; have := sb.lt j hh; omega
    cases hkd : (dk != 1)
    · simp only [wpA_skip, wpA_region, wpA_seq, wpA_cond, wpA_block, wpA_loop, condI_false, seqQ_normal, goI_out, goI_ops, opsA_nil, opsA_cons, stepA_move, stepA_assign, stepA_load, stepA_binOp, stepA_fieldAddr, stepA_indexAddr, thenV_some, eval_tmp, eval_const, put_some, aBin_neq, absV_int, aField_eq, fieldGo_at, aLoad_eq, loadGo_one, aPlace_at, Nat.reduceEqDiff, Nat.zero_le, List.length_cons, List.drop_zero, if_true, if_false, ft_42_0, lt_3, f2, f13, x1, hkd]
      obtain ⟨hY, cst, kY⟩ := Cast.own o3 (n := (expC K mk l).length) (rows_len chgE_len _) (by decide)
      have sA := s3.keep kY fun q hq hh => (n3 q hh).2 hq
      have sB := sb3.keep kY fun q hq hh => n3b q hh hq
      have hgA := hg3.keep kY
      have dA := dd3
      have hrun := hrun3
      generalize expL K mk l = la at sA hrun
      generalize hcs : expC K mk l = cs at hcl hrun cst
      have hcl2 : cs.length ≤ 2 ^ 20 := by omega
      clear hcs hrun3 s3 o3 n3 sb3 hcl
      generalize P3 = Pa at sA dA
      refine SWp.cast (CastF.slot (t := 14) (v := rowC cs) cst) ?_
      refine SWp.loopG (α := Nat × List Nat × List Chg) (fun x f h' => f 2 = .imm ds.length (ds.flatMap ddE) ∧ f 7 = .bool true ∧ f 9 = .ptr a 0 ∧ f 11 = .ptr b 0 ∧ f 13 = .int .i64 (t : Nat) ∧ f 14 = .imm cs.length (cs.flatMap chgE) ∧ f 18 = .int .i64 (x.1 : Nat) ∧ x.1 ≤ cs.length ∧
          IsA h' a Pa K sumE N la ∧ IsA h' b x.2.1 K sumE N x.2.2 ∧ runD K x.2.2 (cs.drop x.1) = some la ∧ Dis Pa x.2.1 ∧ KG h') (fun x => cs.length - x.1) (0, P2, l)
        ⟨f2, f7, f9, f11, f13, rfl, rfl, Nat.zero_le _, sA, sB, by simpa using hrun, dA, hgA⟩ ?_
      clear f2 f7 f9 f11 f13 cst sA sB hgA
      rintro ⟨k, Pb, lb⟩ f h9 ⟨f2, f7, f9, f11, f13, f14, f18, hkl, sA, sB, hrun, dA, hgA⟩
      simp only at f18 hkl sB hrun dA
      refine wpI_sound (by kernel_rfl) ?_
      by_cases hkk : k < cs.length
      · have e1 : decide ((k : Int) < ((cs.length : Nat) : Int)) = true := decide_eq_true (by omega)
        have hw2 := inc64 hkk (by omega)
        obtain ⟨rr2, x2⟩ := chg_ixJ (kk := .i64) hkk
        rw [List.drop_eq_getElem_cons hkk] at hrun
        obtain ⟨hdo, hrun2⟩ := runD_cons_inv hrun
        have hD := agDoK sB cs[k] hdo
        generalize cs[k] = c0 at x2 hdo hrun2 hD
        obtain ⟨zk, zf, zt, zv, zd⟩ := c0
        simp only [chgE, List.cons_append, List.nil_append] at x2 hD
        simp only [wpA_skip, wpA_region, wpA_seq, wpA_cond, wpA_block, condI_true, seqQ_normal, goI_out, goI_ops, opsA_nil, opsA_cons, stepA_move, stepA_load, stepA_binOp, stepA_indexAddr, stepA_len, stepA_call, thenV_some, eval_tmp, put_some, aBin_lss, aLoad_eq, loadGo_row, aPlace_at, aLen_imm, Nat.reduceEqDiff, Nat.reduceLeDiff, List.map_cons, List.map_nil, List.length_cons, List.take_succ_cons, List.take_zero, if_true, if_false, kt_35, lt_40, f11, f14, f18, e1, x2]
        refine callI_of cal20 hD fun r5 h5 ⟨P5, e5, k5, nl5, s5⟩ => ?_
        subst e5
        simp only [wpA_skip, wpA_region, wpA_cond, condI_false, seqQ_normal, blkQ_normal, endI_mk, andThen_normal, goI_out, goI_ops, opsA_nil, opsA_cons, stepA_move, stepA_assign, stepA_binOp, thenV_some, eval_tmp, eval_const, put_some, aBin_add, aBin_neq, absV_int, bne_self_eq_false, Nat.reduceEqDiff, if_true, if_false, f18, hw2]
        exact hid_mk ⟨(k + 1, P5, _), ⟨f2, f7, f9, f11, f13, f14, rfl, hkk, sA.side k5 dA.symm, s5, hrun2, (dA.symm.step sA nl5).symm, hgA.keep k5⟩, by simp only; omega⟩
      · have e1 : decide ((k : Int) < ((cs.length : Nat) : Int)) = false := decide_eq_false (by omega)
        rw [List.drop_of_length_le (by omega)] at hrun
        obtain rfl : lb = la := Option.some.inj hrun
        simp only [wpA_region, wpA_seq, wpA_cond, wpA_exit, condI_false, seqQ_normal, seqQ_exit, blkQ_normal, blkQ_exit, endI_mk, goE, andThen_normal, andThen_exit, goI_out, goI_ops, opsA_nil, opsA_cons, opsA_guardS, gvI_same, slotAt_zero, slotAt_succ, stepA_move, stepA_assign, stepA_binOp, stepA_len, stepA_call, thenV_some, eval_tmp, eval_const, put_some, aBin_add, aBin_lss, absV_int, aLen_imm, Nat.reduceEqDiff, reduceCtorEq, List.map_cons, List.map_nil, if_true, if_false, kt_35, f7, f9, f13, f14, f18, e1, hw]
        exact hid_mk ⟨(t + 1, Pa, Pb, lb), ⟨f2, f7, f9, f11, rfl, by simp only; omega, sA, sB, dA, hgA⟩, by simp only; omega⟩
    · simp only [wpA_region, wpA_seq, wpA_cond, condI_true, seqQ_normal, goI_out, goI_ops, opsA_nil, opsA_cons, stepA_move, stepA_assign, stepA_load, stepA_binOp, stepA_fieldAddr, stepA_indexAddr, stepA_call, thenV_some, eval_tmp, eval_const, put_some, aBin_neq, absV_int, aField_eq, fieldGo_at, aLoad_eq, loadGo_one, loadGo_row, aPlace_at, Nat.reduceEqDiff, Nat.reduceLeDiff, List.map_cons, List.map_nil, Nat.zero_le, List.length_cons, List.drop_zero, List.drop_succ_cons, List.take_succ_cons, List.take_zero, if_true, if_false, ft_42_0, ft_42_1, lt_3, lt_38, f2, f9, f13, x1, hkd]
      refine callI_of cal19 (agApplyK s3 sum_may hg3 ⟨rk, rv, rt⟩) fun r4 h4 ⟨P4, e4, k4, nl4, s4⟩ => ?_
      obtain ⟨⟨qk, qv, qt⟩, c4, er, eR, hsrc, _, _⟩ := apR_is K sumE (expL K mk l) ⟨rk, rv, rt⟩
      rw [eR] at e4
      simp only [recE] at e4
      subst e4
      have o4 := o3.keep k4 fun q hq hh => (n3 q hq).2 hh
      obtain ⟨H5, hH5⟩ : ∃ y, y = h4.push (.cells [.int .i64 qk, .int .i64 qv, .int .i64 qt] 38 none) := ⟨_, rfl⟩
      have k5 : Keep h4 H5 none_ := by rw [hH5]; exact Keep.push _ _ _
      have hal := apC_len (e := sumE) (sa.wf.expL mk) ⟨rk, rv, rt⟩
      obtain ⟨s', h6, ea, o6, k6, n6⟩ := appI (o4.keepN k5) (hsrc H5) (by omega) (by omega)
      have j4 : ∀ j, idOf r = some j → j ∉ P4 := fun j hj hh => by
        rcases nl4 j hh with hh | hh
        · exact (n3 j hj).2 hh
        · have := o3.lt j hj; omega
      have j6 : ∀ j, idOf s' = some j → j ∉ P4 ∧ j ∉ P2 := fun j hj => by
        rcases n6 with n6 | n6
        · rw [n6] at hj; exact ⟨j4 j hj, n3b j hj⟩
        · have := n6 j hj
          have h5n := k5.n
          exact ⟨fun hh => by have := s4.lt j hh; omega, fun hh => by have := sb3.lt j hh; have := k4.n; omega⟩
      have sA6 := (s4.keepN k5).keep k6 fun q hq hh => j4 q hh hq
      have sB6 := ((sb3.side k4 dd3).keepN k5).keep k6 fun q hq hh => n3b q hh hq
      have hg6 := ((hg3.keep k4).keep k5).keep k6
      have dd4 := dd3.step sb3 nl4
      have hrun4 : runD K l (expC K mk l ++ apC K sumE (expL K mk l) ⟨rk, rv, rt⟩) = some (apL K sumE (expL K mk l) ⟨rk, rv, rt⟩) := by
        rw [runD_append, hrun3]
        exact apC_again (sa.wf.expL mk) _
      simp only [wpA_region, seqQ_normal, goI_out, goI_ops, opsA_nil, opsA_cons, stepA_move, stepA_assign, stepA_alloc, stepA_store, stepA_extract, stepA_append, thenV_some, thenH_some, thenS_some, extV_zero, extV_succ, eval_tmp, put_some, put_none, aStore_eq, storeGo_ptr, aAlloc_eq, get_push_new, set_push, Nat.reduceEqDiff, Option.map_some, if_true, if_false, zc_38, zt_38, hst, hcells]
      rw [← hH5]
      clear hH5
      simp only [wpA_region, wpA_seq, wpA_block, wpA_loop, seqQ_normal, goI_out, goI_ops, opsA_nil, opsA_cons, stepA_assign, thenH_some, eval_tmp, eval_const, put_some, put_none, absV_int, Nat.reduceEqDiff, if_true, if_false, ea]
      obtain ⟨hY, cst, kY⟩ := Cast.own o6 (n := (expC K mk l ++ apC K sumE (expL K mk l) ⟨rk, rv, rt⟩).length) (rows_len chgE_len _) (by decide)
      have sA := sA6.keep kY fun q hq hh => (j6 q hh).1 hq
      have sB := sB6.keep kY fun q hq hh => (j6 q hh).2 hq
      have hgA := hg6.keep kY
      have dA := dd4
      have hrun := hrun4
      have hcl2 : (expC K mk l ++ apC K sumE (expL K mk l) ⟨rk, rv, rt⟩).length ≤ 2 ^ 20 := by rw [List.length_append]; omega
      generalize apL K sumE (expL K mk l) ⟨rk, rv, rt⟩ = la at sA hrun
      generalize hcs : expC K mk l ++ apC K sumE (expL K mk l) ⟨rk, rv, rt⟩ = cs at hcl2 hrun cst
      clear hcs hrun3 hrun4 s3 o3 n3 sb3 hcl o4 o6 sA6 sB6 hg6 ea s4
      generalize P4 = Pa at sA dA
      refine SWp.cast (CastF.slot (t := 14) (v := rowC cs) cst) ?_
      refine SWp.loopG (α := Nat × List Nat × List Chg) (fun x f h' => f 2 = .imm ds.length (ds.flatMap ddE) ∧ f 7 = .bool true ∧ f 9 = .ptr a 0 ∧ f 11 = .ptr b 0 ∧ f 13 = .int .i64 (t : Nat) ∧ f 14 = .imm cs.length (cs.flatMap chgE) ∧ f 18 = .int .i64 (x.1 : Nat) ∧ x.1 ≤ cs.length ∧
          IsA h' a Pa K sumE N la ∧ IsA h' b x.2.1 K sumE N x.2.2 ∧ runD K x.2.2 (cs.drop x.1) = some la ∧ Dis Pa x.2.1 ∧ KG h') (fun x => cs.length - x.1) (0, P2, l)
        ⟨f2, f7, f9, f11, f13, rfl, rfl, Nat.zero_le _, sA, sB, by simpa using hrun, dA, hgA⟩ ?_
      clear f2 f7 f9 f11 f13 cst sA sB hgA
      rintro ⟨k, Pb, lb⟩ f h9 ⟨f2, f7, f9, f11, f13, f14, f18, hkl, sA, sB, hrun, dA, hgA⟩
      simp only at f18 hkl sB hrun dA
      refine wpI_sound (by kernel_rfl) ?_
      by_cases hkk : k < cs.length
      · have e1 : decide ((k : Int) < ((cs.length : Nat) : Int)) = true := decide_eq_true (by omega)
        have hw2 := inc64 hkk (by omega)
        obtain ⟨rr2, x2⟩ := chg_ixJ (kk := .i64) hkk
        rw [List.drop_eq_getElem_cons hkk] at hrun
        obtain ⟨hdo, hrun2⟩ := runD_cons_inv hrun
        have hD := agDoK sB cs[k] hdo
        generalize cs[k] = c0 at x2 hdo hrun2 hD
        obtain ⟨zk, zf, zt, zv, zd⟩ := c0
        simp only [chgE, List.cons_append, List.nil_append] at x2 hD
        simp only [wpA_skip, wpA_region, wpA_seq, wpA_cond, wpA_block, condI_true, seqQ_normal, goI_out, goI_ops, opsA_nil, opsA_cons, stepA_move, stepA_load, stepA_binOp, stepA_indexAddr, stepA_len, stepA_call, thenV_some, eval_tmp, put_some, aBin_lss, aLoad_eq, loadGo_row, aPlace_at, aLen_imm, Nat.reduceEqDiff, Nat.reduceLeDiff, List.map_cons, List.map_nil, List.length_cons, List.take_succ_cons, List.take_zero, if_true, if_false, kt_35, lt_40, f11, f14, f18, e1, x2]
        refine callI_of cal20 hD fun r5 h5 ⟨P5, e5, k5, nl5, s5⟩ => ?_
        subst e5
        simp only [wpA_skip, wpA_region, wpA_cond, condI_false, seqQ_normal, blkQ_normal, endI_mk, andThen_normal, goI_out, goI_ops, opsA_nil, opsA_cons, stepA_move, stepA_assign, stepA_binOp, thenV_some, eval_tmp, eval_const, put_some, aBin_add, aBin_neq, absV_int, bne_self_eq_false, Nat.reduceEqDiff, if_true, if_false, f18, hw2]
        exact hid_mk ⟨(k + 1, P5, _), ⟨f2, f7, f9, f11, f13, f14, rfl, hkk, sA.side k5 dA.symm, s5, hrun2, (dA.symm.step sA nl5).symm, hgA.keep k5⟩, by simp only; omega⟩
      · have e1 : decide ((k : Int) < ((cs.length : Nat) : Int)) = false := decide_eq_false (by omega)
        rw [List.drop_of_length_le (by omega)] at hrun
        obtain rfl : lb = la := Option.some.inj hrun
        simp only [wpA_region, wpA_seq, wpA_cond, wpA_exit, condI_false, seqQ_normal, seqQ_exit, blkQ_normal, blkQ_exit, endI_mk, goE, andThen_normal, andThen_exit, goI_out, goI_ops, opsA_nil, opsA_cons, opsA_guardS, gvI_same, slotAt_zero, slotAt_succ, stepA_move, stepA_assign, stepA_binOp, stepA_len, stepA_call, thenV_some, eval_tmp, eval_const, put_some, aBin_add, aBin_lss, absV_int, aLen_imm, Nat.reduceEqDiff, reduceCtorEq, List.map_cons, List.map_nil, if_true, if_false, kt_35, f7, f9, f13, f14, f18, e1, hw]
        exact hid_mk ⟨(t + 1, Pa, Pb, lb), ⟨f2, f7, f9, f11, rfl, by simp only; omega, sA, sB, dA, hgA⟩, by simp only; omega⟩
  · have hend : ∀ b1 b2 : Bool, decide ((t : Int) < ((ds.length : Nat) : Int)) = b1 → decide ((t : Int) < 120) = b2 → (b1 && b2) = false := fun b1 b2 h1 h2 => by
      rw [← h1, ← h2, Bool.and_eq_false_iff]
      simp only [decide_eq_false_iff_not]
      omega
    generalize hb1 : decide ((t : Int) < ((ds.length : Nat) : Int)) = b1 at hend
    generalize hb2 : decide ((t : Int) < 120) = b2 at hend
    have hbb := hend b1 b2 rfl rfl
    have hor : b1 = false ∨ (b1 = true ∧ b2 = false) := by
      cases b1
      · exact .inl rfl
      · exact .inr ⟨rfl, by simpa using hbb⟩
    clear hend hbb
    have hpe := fun H => pChgsEq (listK K l) (listK K l) H (by have h1 : (listK K l).length = l.length := (inK_perm K _).length_eq; have := sa.wf.len; omega)
    simp only [decide_true] at hpe
    have hla := agListK sa
    have hlb := agListK sb
    unfold rowC at hla hlb
    rcases hor with rfl | ⟨rfl, rfl⟩
    all_goals
      simp only [wpA_region, wpA_seq, wpA_cond, wpA_exit, condI_false, seqQ_normal, seqQ_exit, blkQ_exit, endI_mk, goE, andThen_exit, goI_out, goI_ops, opsA_nil, opsA_cons, opsA_guardS, gvI_same, gvI_ft, slotAt_zero, slotAt_succ, stepA_move, stepA_pick, stepA_binOp, stepA_len, stepA_call, thenV_some, pickV_true, pickV_false, eval_tmp, eval_const, put_some, aBin_lss, absV_int, absV_bool, aLen_imm, Nat.reduceEqDiff, List.map_cons, List.map_nil, if_true, if_false, kt_22, f2, f7, f9, f13, hb1, hb2]
      refine callI_pure cal22 hla ?_
      simp only [goI_ops, opsA_guardS, gvI_same, slotAt_zero, slotAt_succ, stepA_move, stepA_call, eval_tmp, put_some, Nat.reduceEqDiff, List.map_cons, List.map_nil, if_true, if_false, f11]
      refine callI_pure cal22 hlb ?_
      simp only [goI_ops, opsA_guardS, gvI_same, slotAt_zero, slotAt_succ, stepA_call, eval_tmp, put_some, Nat.reduceEqDiff, List.map_cons, List.map_nil, if_true, if_false]
      refine callI_pure cal21 (hpe _) ?_
      simp only [wpA_ret, seqQ_normal, endI_mk, goI_out, goI_ops, opsA_nil, opsA_cons, stepA_assign, stepA_pick, thenV_some, pickV_true, eval_tmp, eval_const, put_some, absV_bool, Nat.reduceEqDiff, if_true, if_false, retA_ret, Tryz.results3, resultsA_1]
      exact hid_mk rfl
end Go.Proofs.YtedkjhifbibpmaaGreatDoor.Pk
