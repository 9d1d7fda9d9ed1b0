/-
  What functions of the program do, told of abstract states. Conditions: as each theorem says.
-/
import Derived.Test.YtjphnabogfiahaaSeN
namespace Go.Proofs.Ytjphnabogfiahaa.Pk
open Go Go.Proofs Go.Proofs.Ytjphnabogfiahaa.Ab
set_option linter.unusedVariables false
set_option linter.unusedSimpArgs false
set_option maxHeartbeats 4000000 in
set_option maxRecDepth 20000 in
theorem sessTakes (gap : Int) (ds : List Deed) (key time val : Int) (hd : ds.length < 2 ^ 47) (s0 : 0 ≤ gap) (s1 : gap < 256) (t0 : 0 ≤ time) (t1 : time < 65536) (h : AHeap) :
    SCalls Try.prog 7 [.int .u8 gap, .imm ds.length (ds.flatMap dE), .int .i64 key, .int .u16 time, .int .i64 val] h (fun r h' => r = .bool true) := by
  refine SCalls.enterI (c := _) Try.func7 rfl (by kernel_rfl) (by simp) ?_
  simp only [wpA_region, wpA_seq, seqQ_normal, goI_out, goI_ops, opsA_nil, opsA_cons, stepA_assign, stepA_call, eval_const, absV_bool, List.map_nil]
  refine callI_pure cal8 (pShown14 h) ?_
  have w1 : IntKind.i64.wrap gap = gap := Go.IntWalk.i64_in _ (by omega)
  have w2 : IntKind.i64.wrap (1 + gap) = 1 + gap := Go.IntWalk.i64_in _ (by omega)
  have wt : IntKind.i64.wrap time = time := Go.IntWalk.i64_in _ (by omega)
  have hmt : mayT time = true := mayT_iff.2 ⟨t0, by omega⟩
  simp only [wpA_region, wpA_seq, seqQ_normal, goI_out, goI_ops, opsA_nil, opsA_cons, stepA_move, stepA_assign, stepA_binOp, stepA_convert, stepA_call, thenV_some, thenC_some, eval_tmp, eval_const, put_some, enterF_zero, enterF_succ, aBin_add, aConv_int, absV_int, Option.some.injEq, Nat.reduceEqDiff, reduceCtorEq, List.map_cons, List.map_nil, if_true, if_false, it_2, it_5, w1, w2]
  refine callI_of cal9 (sesNew 1024 (1 + gap) (by decide) (by decide) (by omega) (by omega) h) fun r h1 ⟨e1, e2⟩ => ?_
  subst e1
  have k1 : IsSes h1 h.n .snil 1024 (1 + gap) [] := by rw [e2]; exact IsSes.new (by omega) (by omega)
  clear e2
  generalize h.n = i at k1
  have hg0 : 0 ≤ 1 + gap := by omega
  generalize 1 + gap = g at k1 hg0
  simp only [wpA_skip, wpA_region, wpA_seq, wpA_cond, wpA_block, wpA_loop, condI_false, seqQ_normal, goI_out, goI_ops, opsA_nil, opsA_cons, opsA_guardS, gvI_same, slotAt_zero, slotAt_succ, stepA_move, stepA_assign, stepA_pick, stepA_binOp, stepA_extract, thenV_some, pickV_false, extV_zero, extV_succ, eval_tmp, eval_const, put_some, enterF_succ, aBin_neq, ptr_nil_eql, absV_int, absV_bool, absV_pnil, bne_self_eq_false, Nat.reduceEqDiff, if_true, if_false, kt_24]
  refine SWp.loopG (α := Nat × List Chg × V) (fun x f h' => f 1 = .imm ds.length (ds.flatMap dE) ∧ f 2 = .int .i64 key ∧ f 3 = .int .u16 time ∧ f 4 = .int .i64 val ∧ f 11 = .bool true ∧ f 12 = .ptr i 0 ∧ f 14 = .int .i64 (x.1 : Nat) ∧ x.1 ≤ 60 ∧ IsSes h' i x.2.2 1024 g x.2.1 ∧ x.2.1.length ≤ x.1) (fun x => 60 - x.1) (0, [], .snil)
    ⟨rfl, rfl, rfl, rfl, rfl, rfl, rfl, Nat.zero_le _, k1, Nat.zero_le _⟩ ?_
  clear k1
  rintro ⟨t, l, v⟩ f h' ⟨f1, f2, f3, f4, f11, f12, f14, ht, k, hl⟩
  simp only at f14 ht k hl
  refine wpI_sound (by kernel_rfl) ?_
  by_cases hlt : t < ds.length ∧ t < 60
  · have d1 : decide ((t : Int) < ((ds.length : Nat) : Int)) = true := decide_eq_true (by omega)
    have d2 : decide ((t : Int) < 60) = true := decide_eq_true (by omega)
    have hw := inc64w hlt.2 (by omega)
    obtain ⟨rr, x1⟩ := deed_ix hlt.1
    generalize ds[t] = d at x1
    simp only [wpA_skip, wpA_region, wpA_seq, wpA_cond, wpA_block, wpA_draw, condI_true, seqQ_normal, goI_out, goI_ops, opsA_nil, opsA_cons, opsA_guardS, gvI_same, slotAt_zero, slotAt_succ, stepA_move, stepA_pick, stepA_binOp, stepA_len, thenV_some, pickV_true, eval_tmp, eval_const, put_some, aBin_lss, absV_int, absV_bool, aLen_imm, Nat.reduceEqDiff, if_true, if_false, kt_22, f1, f14, d1, d2]
    refine SWp.drawnS none_ [16] (.q 0 (.q 1 (.q 2 (.q 3 (.q 4 (.q 5 (.q 6 (.q 7 (.q 8 (.q 9 (.q 10 (.q 11 (.q 12 (.q 13 (.q 14 (.q 15 (.a 16 .done))))))))))))))))) (by kernel_rfl) (by kernel_rfl) (by kernel_rfl) ?_
    simp only [siI_q, siI_a, sqI_some, saI_some, mOk_none', implies_true, qI_nil, qI_cons, thenQ_some, q_move, q_load, q_fieldAddr, q_indexAddr, goI_mk, opsA_cons, stepA_call, eval_tmp, put_some, aField_eq, fieldGo_at, aLoad_eq, loadGo_one, aPlace_at, List.getElem?_cons_zero, List.getElem?_cons_succ, Nat.reduceEqDiff, List.map_cons, List.map_nil, true_and, if_true, if_false, ft_32_1, ft_32_2, ft_32_3, lt_2, f1, f12, f14, x1, fdE1, fdE2, fdE3]
    refine callI_of cal11 (sesPutAny h' i v 1024 g d.key d.time d.val l (by omega) (by omega) k) fun r h3 ⟨v2, er, k3, _, _⟩ => ?_
    subst er
    have hl3 := putL_len (g := g) k.ss d.key d.time d.val
    simp only [siI_done, wpA_region, seqQ_normal, blkQ_normal, endI_mk, andThen_normal, goI_out, goI_ops, goI_mk, opsA_nil, opsA_cons, stepA_move, stepA_assign, stepA_binOp, thenV_some, eval_tmp, eval_const, put_some, aBin_add, absV_int, Nat.reduceEqDiff, if_true, if_false, f14, hw]
    exact hid_mk ⟨(t + 1, putL g l d.key d.time d.val, v2), ⟨f1, f2, f3, f4, f11, f12, rfl, by simp only; omega, k3, by simp only; omega⟩, by simp only; omega⟩
  have hend : ∀ b1 b2 : Bool, decide ((t : Int) < ((ds.length : Nat) : Int)) = b1 → decide ((t : Int) < 60) = b2 → (b1 && b2) = false := fun b1 b2 h1 h2 => by
    rw [← h1, ← h2, Bool.and_eq_false_iff]
    simp only [decide_eq_false_iff_not]
    omega
  generalize hb1 : decide ((t : Int) < ((ds.length : Nat) : Int)) = b1 at hend
  generalize hb2 : decide ((t : Int) < 60) = b2 at hend
  have hbb := hend b1 b2 rfl rfl
  have hor : b1 = false ∨ (b1 = true ∧ b2 = false) := by
    cases b1
    · exact .inl rfl
    · exact .inr ⟨rfl, by simpa using hbb⟩
  clear hend hbb
  have hft : foundT g l key time = found g l key time := by rw [foundT, if_pos hmt]
  have hm : ∃ m, (putC g l key time val).length = m + 1 ∧ m ≤ l.length ∧ ∀ hm, (putC g l key time val)[m]'hm = mkS g l key time val := by
    refine ⟨(((found g l key time).filter (otherS (mkS g l key time val))).map goneS).length, by simp [putC], ?_, fun hm => ?_⟩
    · have h1 := List.length_filter_le (otherS (mkS g l key time val)) (found g l key time)
      have h2 := found_le g l key time
      rw [List.length_map]; omega
    · simp only [putC]
      exact List.getElem_concat_length rfl _
  obtain ⟨m, hm1, hm2, hm3⟩ := hm
  have hml : m < (putC g l key time val).length := by omega
  have xq := chg_ix (kk := .i64) hml
  rw [hm3 hml] at xq
  have xz : ((((m + 1 : Nat)) : Int) == 0) = false := by simp; omega
  have wm : IntKind.i64.wrap (((m + 1 : Nat) : Int) - 1) = ((m : Nat) : Int) := by rw [Go.IntWalk.i64_in _ (by omega)]; omega
  have hpl := putS_len (g := g) k.ss key time val
  have hfp := found_put hg0 k.ss key time val
  have hfn := found_nil (g := g) (l := l) (k := key) (t := time) (v := val)
  have hF := found_le g l key time
  rcases hor with rfl | ⟨rfl, rfl⟩
  all_goals
    simp only [wpA_region, wpA_seq, wpA_cond, wpA_exit, condI_false, seqQ_normal, seqQ_exit, blkQ_exit, endI_mk, goE, andThen_exit, goI_out, goI_ops, opsA_nil, opsA_cons, opsA_guardS, gvI_same, gvI_ft, slotAt_zero, slotAt_succ, stepA_move, stepA_pick, stepA_binOp, stepA_len, stepA_call, thenV_some, pickV_true, pickV_false, eval_tmp, eval_const, put_some, aBin_lss, absV_int, absV_bool, aLen_imm, Nat.reduceEqDiff, List.map_cons, List.map_nil, if_true, if_false, kt_22, f1, f12, f14, hb1, hb2]
    refine callI_pure cal16 (sesLen _ _ _ _ _ _ k) ?_
    simp only [wpA_region, wpA_seq, seqQ_normal, goI_out, goI_ops, opsA_nil, opsA_cons, stepA_move, stepA_assign, stepA_convert, stepA_call, thenC_some, eval_tmp, put_some, aConv_int, Option.some.injEq, Nat.reduceEqDiff, List.map_cons, List.map_nil, if_true, if_false, it_2, it_41, f2, f3, f12, wt]
    refine callI_pure cal15 (sesFind _ i v 1024 g key time l k) ?_
    rw [hft]
    simp only [wpA_region, wpA_seq, seqQ_normal, goI_out, goI_ops, opsA_nil, opsA_cons, stepA_move, stepA_assign, stepA_convert, stepA_call, thenC_some, eval_tmp, put_some, aConv_int, Option.some.injEq, Nat.reduceEqDiff, List.map_cons, List.map_nil, if_true, if_false, it_2, it_41, f2, f3, f4, f12, wt]
    refine callI_of cal11 (sesPut h' i v 1024 g key time val l hmt (by omega) (by omega) k) fun r h3 ⟨v2, er, k3, _, _⟩ => ?_
    subst er
    have hlast : (mkS g l key time val).fr ≤ time ∧ time ≤ (mkS g l key time val).to := ⟨(loF_le (found g l key time) time).1, (hiF_ge (found g l key time) time).1⟩
    have hck : (mkS g l key time val).key = key := rfl
    have hcv : (mkS g l key time val).val = val := rfl
    rw [hm1]
    rw [hm1] at xq
    generalize (putC g l key time val) = q at xq
    have hft2 : foundT g (putS g l key time val) key time = [mkS g l key time val] := by rw [foundT, if_pos hmt, hfp]
    generalize putS g l key time val = l2 at hpl k3 hft2
    generalize mkS g l key time val = c at xq hlast hck hcv hft2 hfn
    have hff0 : foundT g l2 key time = [c] := hft2
    have c1 := chg_d1 c
    have c2 := chg_d2 c
    have c3 : List.drop 3 (chgE c) = [.int .i64 c.val, .bool c.del] := rfl
    have ck : loadGo (some none) (some (chgE c)) = some (.int .i64 c.key) := rfl
    have ld := ldC c
    have ld' := chg_ld c
    have ldc := chg_ldc c
    have st := chg_st c
    have cc := chg_cellsE c
    simp only [wpA_skip, wpA_region, wpA_seq, wpA_cond, condI_false, seqQ_normal, goI_out, goI_ops, opsA_nil, opsA_cons, opsA_guardS, gvI_same, slotAt_zero, slotAt_succ, stepA_move, stepA_assign, stepA_pick, stepA_alloc, stepA_load, stepA_store, stepA_binOp, stepA_convert, stepA_indexAddr, stepA_extract, stepA_len, stepA_call, thenV_some, thenC_some, thenH_some, thenS_some, pickV_false, extV_zero, extV_succ, eval_tmp, eval_const, put_some, put_none, aBin_sub, aBin_eql, aBin_neq, aConv_int, absV_int, absV_bool, aLoad_eq, aPlace_at, aStore_eq, storeGo_ptr, aAlloc_eq, aLen_imm, get_push_new, set_push, bne_self_eq_false, Option.some.injEq, Nat.reduceEqDiff, List.map_cons, List.map_nil, Option.map_some, if_true, if_false, it_2, it_41, kt_28, lt_30, zc_30, zt_30, f2, f3, f12, xz, wm, xq, ld', st, cc, wt]
    obtain ⟨H, hH⟩ : ∃ y, y = h3.push (.cells (chgE c) 30 none) := ⟨_, rfl⟩
    have gH : H.get h3.n = .cells (chgE c) 30 none := by rw [hH]; exact get_push_new
    have kkH : Keep h3 H none_ := by rw [hH]; exact Keep.push _ _ _
    rw [← hH]
    clear hH
    have kH := k3.keepN kkH
    have hff2 := sesFind H i v2 1024 g key time _ kH
    rw [hff0] at hff2
    refine callI_pure cal15 hff2 ?_
    have x0 : aIndexAddr Try.prog 28 (.imm 1 ([c].flatMap chgE)) (.int .i64 0) = some (.at (chgE c ++ [])) := chg_ix (l := [c]) (k := 0) (kk := .i64) Nat.zero_lt_one
    have c11 : ((((1 : Nat)) : Int) != 1) = false := rfl
    have n1 : (c.val != val) = false := by rw [hcv]; simp
    have n2 : (c.key != key) = false := by rw [hck]; simp
    have n3 : decide (time < c.fr) = false := decide_eq_false (by omega)
    have n4 : decide (c.to < time) = false := decide_eq_false (by omega)
    have u1 : IntKind.i64.wrap (((l.length : Nat) : Int) - ((found g l key time).length : Nat)) = ((l.length - (found g l key time).length : Nat) : Int) := by rw [Go.IntWalk.i64_in _ (by omega)]; omega
    have u2 : IntKind.i64.wrap (((l.length - (found g l key time).length : Nat) : Int) + 1) = ((l2.length : Nat) : Int) := by rw [Go.IntWalk.i64_in _ (by omega)]; omega
    have u3 : ((((l2.length : Nat) : Int)) == ((l2.length : Nat) : Int)) = true := by simp
    have tk : List.take 5 (chgE c) = chgE c := rfl
    have nn : ∀ xo yo, aBin Try.prog .neq 30 xo yo (.agg (chgE c)) (.agg (chgE c)) = some (.bool false) := fun xo yo => by rw [chg_neq]; simp
    simp only [wpA_seq, wpA_draw, seqQ_normal, goI_out, goI_ops, opsA_nil, opsA_cons, stepA_assign, eval_tmp, put_some, put_none, Nat.reduceEqDiff, Nat.zero_add, List.length_cons, List.length_nil, if_true, if_false]
    refine SWp.drawnS none_ [] (.q 0 (.q 1 (.q 2 (.q 3 (.q 4 (.q 5 (.q 6 (.q 7 (.q 8 (.q 9 (.q 10 (.q 11 (.q 12 (.q 13 (.q 14 (.q 15 (.q 16 (.q 17 (.q 18 (.q 19 (.q 20 (.q 21 (.q 22 (.q 23 (.q 24 (.q 25 (.q 26 (.q 27 (.q 28 (.q 29 (.q 30 (.q 31 (.q 32 (.q 33 (.q 34 (.q 35 .done)))))))))))))))))))))))))))))))))))) (by kernel_rfl) (by kernel_rfl) (by kernel_rfl) ?_
    simp only [siI_done, siI_q, sqI_some, mOk_none', implies_true, qI_nil, qI_cons, qI_guard, qgI_same, thenQ_some, q_move, q_pick, q_load, q_binOp, q_convert, q_fieldAddr, q_indexAddr, q_len, wpA_skip, wpA_region, wpA_seq, wpA_cond, condI_false, seqQ_normal, goI_out, goI_ops, goI_mk, opsA_cons, opsA_guardS, gvI_same, slotAt_zero, slotAt_succ, stepA_move, stepA_call, pickV_false, eval_tmp, eval_const, put_some, put_none, aBin_neq, aBin_lss, aBin_gtr, aConv_int, absV_int, absV_bool, aField_eq, fieldGo_ptr, aLoad_eq, loadGo_one, loadGo_row, aPlace_ptr, aPlace_at, dropC_cells, aLen_imm, List.getElem?_cons_zero, List.getElem?_cons_succ, Option.some.injEq, Nat.reduceEqDiff, Nat.reduceLeDiff, List.map_cons, List.map_nil, Nat.add_zero, Nat.zero_add, Nat.zero_le, List.drop_zero, List.append_nil, true_and, if_true, if_false, Nat.le_refl, ft_30_0, ft_30_1, ft_30_2, ft_30_3, it_2, it_41, kt_28, lt_2, lt_30, f2, f3, f4, f11, f12, gH, x0, c11, nn, tk, n1, n2, n3, n4, c1, c2, c3, ck, chgE_len, wt]
    refine callI_pure cal16 (sesLen _ _ _ _ _ _ kH) ?_
    by_cases hF0 : 0 < (found g l key time).length
    · have v1 : decide ((0 : Int) < (((found g l key time).length : Nat) : Int)) = true := decide_eq_true (by omega)
      simp only [wpA_ret, seqQ_normal, endI_mk, goI_out, goI_ops, opsA_nil, opsA_cons, opsA_guardS, gvI_same, gvI_tf, gvI_u, slotAt_zero, slotAt_succ, stepA_move, stepA_assign, stepA_pick, stepA_binOp, stepA_len, thenV_some, pickV_true, eval_tmp, eval_const, put_some, put_none, aBin_add, aBin_sub, aBin_eql, aBin_gtr, absV_int, absV_bool, aLen_imm, beq_self_eq_true, Nat.reduceEqDiff, if_true, if_false, kt_28, u1, u2, v1, retA_ret, Try.results7, resultsA_1]
      exact hid_mk rfl
    · have v1 : decide ((0 : Int) < (((found g l key time).length : Nat) : Int)) = false := decide_eq_false (by omega)
      obtain ⟨q1, q2⟩ := hfn (List.eq_nil_of_length_eq_zero (by omega))
      have v2 : (c.fr == time) = true := by rw [q1]; simp
      have v3 : (c.to == c.fr) = true := by rw [q1, q2]; simp
      simp only [wpA_ret, seqQ_normal, endI_mk, goI_out, goI_ops, opsA_nil, opsA_cons, opsA_guardS, gvI_same, slotAt_zero, slotAt_succ, stepA_move, stepA_assign, stepA_pick, stepA_load, stepA_binOp, stepA_convert, stepA_fieldAddr, stepA_len, thenV_some, thenC_some, pickV_true, pickV_false, eval_tmp, eval_const, put_some, put_none, aBin_add, aBin_sub, aBin_eql, aBin_gtr, aConv_int, absV_int, absV_bool, aField_eq, fieldGo_ptr, aLoad_eq, loadGo_one, aPlace_ptr, dropC_cells, aLen_imm, beq_self_eq_true, Option.some.injEq, Nat.reduceEqDiff, Nat.reduceLeDiff, Nat.zero_add, if_true, if_false, ft_30_1, ft_30_2, it_2, it_41, kt_28, lt_2, f3, gH, u1, u2, v1, v2, v3, c1, c2, chgE_len, wt, retA_ret, Try.results7, resultsA_1]
      exact hid_mk rfl
end Go.Proofs.Ytjphnabogfiahaa.Pk
