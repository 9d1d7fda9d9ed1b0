/-
  What functions of the program do, told of abstract states. Conditions: as each theorem says.
-/
import Derived.Test.YtpjfhfmbhjghcaaDoorAgD
namespace Go.Proofs.YtpjfhfmbhjghcaaDoor.Pk
open Go Go.Proofs Go.Proofs.YtpjfhfmbhjghcaaDoor.Ab
set_option linter.unusedVariables false
set_option linter.unusedSimpArgs false
theorem rec_ix {l : List Rec} {k : Nat} {kk : IntKind} (h : k < l.length) : ∃ r, aIndexAddr Tryd.prog 22 (.imm l.length (l.flatMap recE)) (.int kk (k : Int)) = some (.at (recE l[k] ++ r)) :=
  rows_at recE_len rfl (List.getElem?_eq_getElem h) ss_22
def stepS (l : List Pr) (r : Rec) : List Pr := if mayT r.t then put l r.k (w64 ((look l r.k).getD 0 + r.v)) else l
theorem apO_sum {l : List Pr} (h : l.length < 1024) (r : Rec) : apO sumE l r = if mayT r.t = false then .error 2 else .ok (w64 ((look l r.k).getD 0 + r.v)) := by
  unfold apO
  rw [sum_val, room_no h]
  rfl
set_option maxRecDepth 10000 in
set_option maxHeartbeats 4000000 in
theorem aggSums (rs : List Rec) (key : Int) (hl : rs.length < 2 ^ 47) (h : AHeap) (hg : KG h) : SCalls Tryd.prog 3 [.imm rs.length (rs.flatMap recE), .int .i64 key] h (fun r h' => r = .bool true) := by
  refine SCalls.enterI (c := _) Tryd.func3 rfl (by kernel_rfl) (by simp) ?_
  simp only [wpA_region, wpA_seq, seqQ_normal, goI_out, goI_ops, opsA_nil, opsA_cons, stepA_assign, stepA_call, eval_const, absV_bool, List.map_nil]
  refine callI_pure cal5 (pShown18 h hg) ?_
  simp only [wpA_region, wpA_seq, seqQ_normal, goI_out, goI_ops, opsA_nil, opsA_cons, stepA_assign, stepA_call, eval_tmp, eval_const, put_some, enterF_succ, absV_int, Nat.reduceEqDiff, List.map_cons, List.map_nil, if_true, if_false]
  have hu := pUsual 0 0 (by decide) (by decide) h
  rw [show kindN 0 = 6 from rfl, show 1 + ((0 : Nat) : Int) = 1 from rfl, show ((0 : Nat) : Int) = 0 from rfl] at hu
  refine callI_pure cal7 hu ?_
  simp only [goI_ops, opsA_cons, stepA_call, eval_tmp, put_some, enterF_succ, Nat.reduceEqDiff, List.map_cons, List.map_nil, if_true, if_false]
  refine callI_of cal6 (agNew6 ⟨6, [], sumE, 1⟩ rfl sum_may sum_ok h hg) fun r h1 ⟨a, i, e1, ha, hi, s1, k1⟩ => ?_
  subst e1
  have hg1 := hg.keep k1
  simp only [wpA_skip, wpA_region, wpA_seq, wpA_cond, wpA_block, wpA_loop, condI_false, seqQ_normal, goI_out, goI_ops, opsA_nil, opsA_cons, opsA_guardS, gvI_same, slotAt_zero, slotAt_succ, stepA_move, stepA_assign, stepA_pick, stepA_binOp, stepA_extract, thenV_some, pickV_false, extV_zero, extV_succ, eval_tmp, eval_const, put_some, enterF_succ, aBin_neq, ptr_nil_eql, absV_int, absV_bool, absV_pnil, bne_self_eq_false, Nat.reduceEqDiff, if_true, if_false, kt_24]
  refine SWp.loopG (α := Nat × V × List Pr) (fun x f h' => f 0 = .imm rs.length (rs.flatMap recE) ∧ f 1 = .int .i64 key ∧ f 5 = .bool true ∧ f 6 = .ptr a 0 ∧ f 8 = .int .i64 ((look x.2.2 key).getD 0) ∧ f 9 = .int .i64 (x.1 : Nat) ∧ x.1 ≤ 200 ∧
      IsAg h' a i x.2.1 sumE 1 x.2.2 ∧ x.2.2.length ≤ x.1 ∧ KG h') (fun x => 200 - x.1) (0, .snil, [])
    ⟨rfl, rfl, rfl, rfl, rfl, rfl, Nat.zero_le _, s1, Nat.zero_le _, hg1⟩ ?_
  rintro ⟨t, v, l⟩ f h' ⟨f0, f1, f5, f6, f8, f9, ht, ss, hll, hgh⟩
  simp only at f8 f9 ht ss hll hgh
  refine wpI_sound (by kernel_rfl) ?_
  by_cases hlt : t < rs.length ∧ t < 200
  · have d1 : decide ((t : Int) < ((rs.length : Nat) : Int)) = true := decide_eq_true (by omega)
    have d2 : decide ((t : Int) < 200) = true := decide_eq_true (by omega)
    have hw := inc64 hlt.2 (by omega)
    obtain ⟨rr, x1⟩ := rec_ix (kk := .i64) hlt.1
    generalize rs[t] = d at x1
    obtain ⟨dk, dv, dt⟩ := d
    obtain ⟨H1, hH1⟩ : ∃ y, y = h'.push (.cells [.int .i64 dk, .int .i64 dv, .int .i64 dt] 36 none) := ⟨_, rfl⟩
    have kp : Keep h' H1 none_ := by rw [hH1]; exact Keep.push _ _ _
    have gp : H1.get h'.n = .cells [.int .i64 dk, .int .i64 dv, .int .i64 dt] 36 none := by rw [hH1]; exact get_push_new
    have np : H1.n = h'.n + 1 := by rw [hH1]; rfl
    have sp := ss.keepN kp
    simp only [aIndexAddr_eq, ixGo_imm, List.nil_append, List.cons_append, as_22, ss_22, recE, List.cons_append, List.nil_append] at x1
    have hst : ∀ a b c : Int, setC (some 3) (AObj.cells [V.int .i64 0, .int .i64 0, .int .i64 0] 36 none) 0 [V.int .i64 a, .int .i64 b, .int .i64 c] = some (.cells [V.int .i64 a, .int .i64 b, .int .i64 c] 36 none) := fun _ _ _ => rfl
    simp only [wpA_skip, wpA_region, wpA_seq, wpA_cond, wpA_block, condI_true, seqQ_normal, goI_out, goI_ops, opsA_nil, opsA_cons, opsA_guardS, gvI_same, slotAt_zero, slotAt_succ, stepA_move, stepA_pick, stepA_alloc, stepA_load, stepA_store, stepA_binOp, stepA_indexAddr, stepA_len, stepA_call, thenV_some, thenH_some, thenS_some, pickV_true, eval_tmp, eval_const, put_some, put_none, aBin_lss, absV_int, absV_bool, cells_agg, aLoad_eq, loadGo_row, aPlace_ptr, aPlace_at, dropC_cells, aStore_eq, storeGo_ptr, aAlloc_eq, aIndexAddr_eq, ixGo_imm, aLen_imm, get_push_new, set_push, Nat.reduceEqDiff, Nat.reduceAdd, Nat.reduceLeDiff, reduceCtorEq, List.map_cons, List.map_nil, Option.map_some, Nat.zero_add, Nat.zero_le, List.length_cons, List.length_nil, List.drop_zero, List.take_succ_cons, List.take_zero, List.take_nil, if_true, if_false, Nat.le_refl, as_22, kt_22, lt_36, ss_22, zc_36, zt_36, f0, f6, f9, d1, d2, x1, hst]
    rw [← hH1]
    clear hH1
    refine callI_of cal8 (agApply6 sp sum_may (hgh.keep kp) ⟨dk, dv, dt⟩) fun r h2 ⟨v2, k2, dd2, q2⟩ => ?_
    rw [apO_sum (by omega)] at q2
    have n2 := k2.n
    have spl := sp.kv.own.lt
    have spi := sp.kv.lt
    have hkp : ¬ kvO i v h'.n := by
      rintro (hh | hh)
      · have := ss.kv.lt; omega
      · have := ss.kv.own.lt _ hh; omega
    have gq := (k2.get h'.n (by omega) hkp).trans gp
    have hg2 : KG h2 := (hgh.keep kp).keep k2
    have hmay : mayT dt = (decide (0 ≤ dt) && decide (dt ≤ 1099511627776)) := by
      unfold mayT; by_cases h1 : 0 ≤ dt <;> by_cases h2 : dt ≤ 1099511627776 <;> simp [h1, h2]
    cases hT : mayT dt with
    | false =>
      rw [if_pos hT] at q2
      obtain ⟨e2, s2⟩ := q2
      subst e2
      have hcells : ∀ a b c : Int, (V.agg [V.int .i64 a, .int .i64 b, .int .i64 c]).cells = some [V.int .i64 a, .int .i64 b, .int .i64 c] := fun _ _ _ => rfl
      obtain ⟨H3, hH3⟩ : ∃ y, y = h2.push (.cells [.int .i64 0, .int .i64 0, .int .i64 0] 36 none) := ⟨_, rfl⟩
      have k3 : Keep h2 H3 none_ := by rw [hH3]; exact Keep.push _ _ _
      have g3 : H3.get h2.n = .cells [.int .i64 0, .int .i64 0, .int .i64 0] 36 none := by rw [hH3]; exact get_push_new
      have gq3 := (k3.get h'.n (by omega) (by simp [none_])).trans gq
      have s3 := s2.keepN k3
      have hg3 : KG H3 := hg2.keep k3
      simp only [wpA_region, wpA_seq, seqQ_normal, goI_out, goI_ops, opsA_nil, opsA_cons, stepA_move, stepA_assign, stepA_alloc, stepA_load, stepA_store, stepA_fieldAddr, stepA_extract, thenV_some, thenH_some, thenS_some, extV_zero, extV_succ, eval_tmp, put_some, put_none, aField_eq, fieldGo_ptr, aLoad_eq, aPlace_ptr, aStore_eq, storeGo_ptr, aAlloc_eq, get_push_new, set_push, Nat.reduceEqDiff, Option.map_some, Nat.zero_add, if_true, if_false, ft_36_2, lt_2, zc_36, zt_36, hcells, hst]
      rw [← hH3]
      clear hH3
      have nb : ∀ xo yo, aBin Tryd.prog .neq 4 xo yo (.bool false) (.bool false) = some (.bool false) := fun _ _ => by rw [aBin_bool_neq (by kernel_rfl)]; rfl
      have hor : (decide (0 ≤ dt) = false) ∨ (decide (0 ≤ dt) = true ∧ decide (dt ≤ 1099511627776) = false) := by
        rw [hmay] at hT
        cases h1 : decide (0 ≤ dt)
        · exact .inl rfl
        · rw [h1] at hT; exact .inr ⟨rfl, by simpa using hT⟩
      rcases hor with hb1 | ⟨hb1, hb2⟩
      · simp only [wpA_seq, wpA_draw, seqQ_normal, goI_out, goI_ops, opsA_nil, opsA_cons, opsA_guardS, gvI_ft, slotAt_zero, slotAt_succ, stepA_move, stepA_assign, stepA_pick, stepA_binOp, thenV_some, pickV_false, eval_tmp, eval_const, put_some, put_none, aBin_geq, absV_int, absV_bool, loadGo_one, dropC_cells, Nat.reduceEqDiff, Nat.reduceAdd, Nat.reduceLeDiff, Nat.zero_add, List.length_cons, List.length_nil, List.drop_zero, List.drop_succ_cons, if_true, if_false, gq3, hb1]
        refine SWp.drawnS none_ [] (.q 0 (.q 1 (.q 2 (.q 3 (.q 4 (.q 5 (.q 6 (.q 7 (.q 8 (.q 9 (.q 10 (.q 11 (.q 12 (.q 13 (.q 14 (.q 15 (.q 16 (.q 17 (.q 18 (.q 19 (.q 20 (.q 21 (.q 22 (.q 23 (.q 24 (.q 25 (.q 26 (.q 27 (.c 28 (.q 29 (.q 30 (.q 31 (.q 32 (.q 33 (.q 34 .done))))))))))))))))))))))))))))))))))) (by kernel_rfl) (by kernel_rfl) (by kernel_rfl) ?_
        simp only [siI_q, sqI_some, mOk_none', implies_true, qI_nil, qI_cons, qI_guard, qgI_same, qgI_ft, qgI_u, thenQ_some, q_move, q_binOp, goI_mk, slotAt_zero, slotAt_succ, eval_tmp, eval_const, put_some, put_none, aBin_eql, absV_int, List.getElem?_cons_zero, List.getElem?_cons_succ, Int.reduceBEq, Nat.reduceEqDiff, true_and, if_true, if_false, nb]
        refine siI_cskip rfl rfl ?_
        simp only [siI_done, siI_q, sqI_some, mOk_none', implies_true, qI_nil, qI_cons, qI_guard, qgI_same, qgI_ft, qgI_u, thenQ_some, q_pick, wpA_skip, wpA_region, wpA_seq, wpA_cond, condI_false, seqQ_normal, blkQ_normal, endI_mk, andThen_normal, goI_out, goI_ops, goI_mk, opsA_nil, opsA_cons, opsA_guardS, gvI_ft, slotAt_zero, slotAt_succ, stepA_move, stepA_assign, stepA_pick, stepA_binOp, thenV_some, pickV_false, eval_tmp, eval_const, put_some, put_none, aBin_add, absV_int, absV_bool, List.getElem?_cons_zero, List.getElem?_cons_succ, Nat.reduceEqDiff, true_and, if_true, if_false, f9, hw]
        exact hid_mk ⟨(t + 1, v2, l), ⟨f0, f1, f5, f6, f8, rfl, by simp only; omega, s3, by simp only; omega, hg3⟩, by simp only; omega⟩
      · simp only [wpA_seq, wpA_draw, seqQ_normal, goI_out, goI_ops, opsA_nil, opsA_cons, opsA_guardS, gvI_same, slotAt_zero, slotAt_succ, stepA_move, stepA_assign, stepA_pick, stepA_load, stepA_binOp, stepA_fieldAddr, thenV_some, pickV_true, eval_tmp, eval_const, put_some, put_none, aBin_leq, aBin_geq, absV_int, absV_bool, aField_eq, fieldGo_ptr, aLoad_eq, loadGo_one, aPlace_ptr, dropC_cells, Nat.reduceEqDiff, Nat.reduceAdd, Nat.reduceLeDiff, Nat.zero_add, List.length_cons, List.length_nil, List.drop_zero, List.drop_succ_cons, if_true, if_false, ft_36_2, lt_2, gq3, hb1, hb2]
        refine SWp.drawnS none_ [] (.q 0 (.q 1 (.q 2 (.q 3 (.q 4 (.q 5 (.q 6 (.q 7 (.q 8 (.q 9 (.q 10 (.q 11 (.q 12 (.q 13 (.q 14 (.q 15 (.q 16 (.q 17 (.q 18 (.q 19 (.q 20 (.q 21 (.q 22 (.q 23 (.q 24 (.q 25 (.q 26 (.q 27 (.c 28 (.q 29 (.q 30 (.q 31 (.q 32 (.q 33 (.q 34 .done))))))))))))))))))))))))))))))))))) (by kernel_rfl) (by kernel_rfl) (by kernel_rfl) ?_
        simp only [siI_q, sqI_some, mOk_none', implies_true, qI_nil, qI_cons, qI_guard, qgI_same, qgI_ft, qgI_u, thenQ_some, q_move, q_binOp, goI_mk, slotAt_zero, slotAt_succ, eval_tmp, eval_const, put_some, put_none, aBin_eql, absV_int, List.getElem?_cons_zero, List.getElem?_cons_succ, Int.reduceBEq, Nat.reduceEqDiff, true_and, if_true, if_false, nb]
        refine siI_cskip rfl rfl ?_
        simp only [siI_done, siI_q, sqI_some, mOk_none', implies_true, qI_nil, qI_cons, qI_guard, qgI_same, qgI_ft, qgI_u, thenQ_some, q_pick, wpA_skip, wpA_region, wpA_seq, wpA_cond, condI_false, seqQ_normal, blkQ_normal, endI_mk, andThen_normal, goI_out, goI_ops, goI_mk, opsA_nil, opsA_cons, opsA_guardS, gvI_ft, slotAt_zero, slotAt_succ, stepA_move, stepA_assign, stepA_pick, stepA_binOp, thenV_some, pickV_false, eval_tmp, eval_const, put_some, put_none, aBin_add, absV_int, absV_bool, List.getElem?_cons_zero, List.getElem?_cons_succ, Nat.reduceEqDiff, true_and, if_true, if_false, f9, hw]
        exact hid_mk ⟨(t + 1, v2, l), ⟨f0, f1, f5, f6, f8, rfl, by simp only; omega, s3, by simp only; omega, hg3⟩, by simp only; omega⟩
    | true =>
      rw [if_neg (by rw [hT]; decide)] at q2
      obtain ⟨c2, e2, s2, oc2, ic1, ic2, ic3⟩ := q2
      subst e2
      have hb1 : decide (0 ≤ dt) = true := by rw [hmay] at hT; simp at hT; exact decide_eq_true hT.1
      have hb2 : decide (dt ≤ 1099511627776) = true := by rw [hmay] at hT; simp at hT; exact decide_eq_true hT.2
      have hcells : ∀ a b c : Int, (V.agg [V.int .i64 a, .int .i64 b, .int .i64 c]).cells = some [V.int .i64 a, .int .i64 b, .int .i64 c] := fun _ _ _ => rfl
      generalize hN : w64 ((look l dk).getD 0 + dv) = N at *
      obtain ⟨H3, hH3⟩ : ∃ y, y = h2.push (.cells [.int .i64 dk, .int .i64 N, .int .i64 dt] 36 none) := ⟨_, rfl⟩
      have k3 : Keep h2 H3 none_ := by rw [hH3]; exact Keep.push _ _ _
      have g3 : H3.get h2.n = .cells [.int .i64 dk, .int .i64 N, .int .i64 dt] 36 none := by rw [hH3]; exact get_push_new
      have gq3 := (k3.get h'.n (by omega) (by simp [none_])).trans gq
      have s3 := s2.keepN k3
      have lk : look (put l dk N) dk = some N := by rw [look_put l dk N dk ss.kv.srt, if_pos rfl]
      simp only [wpA_region, wpA_seq, seqQ_normal, goI_out, goI_ops, opsA_nil, opsA_cons, stepA_move, stepA_assign, stepA_alloc, stepA_load, stepA_store, stepA_fieldAddr, stepA_extract, thenV_some, thenH_some, thenS_some, extV_zero, extV_succ, eval_tmp, put_some, put_none, aField_eq, fieldGo_ptr, aLoad_eq, aPlace_ptr, aStore_eq, storeGo_ptr, aAlloc_eq, get_push_new, set_push, Nat.reduceEqDiff, Option.map_some, Nat.zero_add, if_true, if_false, ft_36_2, lt_2, zc_36, zt_36, hcells, hst]
      rw [← hH3]
      clear hH3
      have nb : ∀ xo yo, aBin Tryd.prog .neq 4 xo yo (.bool true) (.bool true) = some (.bool false) := fun _ _ => by rw [aBin_bool_neq (by kernel_rfl)]; rfl
      have z1 : (dk != dk) = false := by simp
      have z2 : (dt != dt) = false := by simp
      have z4 : (((1 : Nat) : Int) != 1) = false := rfl
      have z3 : (N != N) = false := by simp
      simp only [wpA_seq, wpA_draw, seqQ_normal, goI_out, goI_ops, opsA_nil, opsA_cons, opsA_guardS, gvI_same, slotAt_zero, slotAt_succ, stepA_move, stepA_assign, stepA_pick, stepA_load, stepA_binOp, stepA_fieldAddr, thenV_some, pickV_true, eval_tmp, eval_const, put_some, put_none, aBin_leq, aBin_geq, absV_int, absV_bool, aField_eq, fieldGo_ptr, aLoad_eq, loadGo_one, aPlace_ptr, dropC_cells, Nat.reduceEqDiff, Nat.reduceAdd, Nat.reduceLeDiff, Nat.zero_add, List.length_cons, List.length_nil, List.drop_zero, List.drop_succ_cons, if_true, if_false, ft_36_2, lt_2, gq3, hb1, hb2]
      refine SWp.drawnS none_ [] (.q 0 (.q 1 (.q 2 (.q 3 (.q 4 (.q 5 (.q 6 (.q 7 (.q 8 (.q 9 (.q 10 (.q 11 (.q 12 (.q 13 (.q 14 (.q 15 (.q 16 (.q 17 (.q 18 (.q 19 (.q 20 (.q 21 (.q 22 (.q 23 (.q 24 (.q 25 (.q 26 (.q 27 (.c 28 (.q 29 (.q 30 (.q 31 (.q 32 (.q 33 (.q 34 .done))))))))))))))))))))))))))))))))))) (by kernel_rfl) (by kernel_rfl) (by kernel_rfl) ?_
      simp only [siI_q, sqI_some, mOk_none', implies_true, qI_nil, qI_cons, qI_guard, qgI_same, thenQ_some, q_move, q_pick, q_load, q_binOp, q_fieldAddr, q_len, goI_mk, slotAt_zero, slotAt_succ, pickV_false, eval_tmp, eval_const, put_some, put_none, aBin_eql, aBin_neq, absV_int, absV_bool, aField_eq, fieldGo_ptr, aLoad_eq, loadGo_one, aPlace_ptr, dropC_cells, aLen_sl, List.getElem?_cons_zero, List.getElem?_cons_succ, bne_self_eq_false, beq_self_eq_true, Nat.reduceEqDiff, Nat.reduceAdd, Nat.reduceLeDiff, Nat.add_zero, Nat.zero_add, Nat.zero_le, List.length_cons, List.length_nil, List.drop_zero, List.drop_succ_cons, true_and, if_true, if_false, ft_36_0, ft_36_2, kt_37, lt_2, f6, gq3, g3, nb, z4]
      refine siI_c rfl rfl rfl (fun h' hk => agValue6 (by rcases hk with hk | rfl; exact s3.keepN hk; exact s3) dk) ?_
      simp only [siI_done, siI_q, sqI_some, mOk_none', implies_true, qI_nil, qI_cons, qI_guard, qgI_same, thenQ_some, q_pick, q_load, q_binOp, q_fieldAddr, wpA_skip, wpA_region, wpA_seq, wpA_cond, condI_false, seqQ_normal, goI_out, goI_ops, goI_mk, opsA_nil, opsA_cons, opsA_guardS, gvI_same, slotAt_zero, slotAt_succ, stepA_move, stepA_pick, stepA_load, stepA_binOp, stepA_fieldAddr, thenV_some, pickV_true, pickV_false, eval_tmp, eval_const, put_some, put_none, aBin_eql, aBin_neq, absV_bool, aField_eq, fieldGo_ptr, aLoad_eq, loadGo_one, aPlace_ptr, dropC_cells, List.getElem?_cons_zero, List.getElem?_cons_succ, bne_self_eq_false, Nat.reduceEqDiff, Nat.reduceAdd, Nat.reduceLeDiff, Nat.add_zero, Nat.zero_add, Nat.zero_le, List.length_cons, List.length_nil, List.drop_zero, List.drop_succ_cons, true_and, if_true, if_false, ft_36_0, ft_36_1, lt_2, f1, gq3, g3, lk, Option.getD_some]
      have hlen := len_put_le ss.kv.srt dk N
      have hg3 : KG H3 := hg2.keep k3
      by_cases hk : dk = key
      · have c1 : (dk == key) = true := by simp [hk]
        have hN' : IntKind.i64.wrap ((look l key).getD 0 + dv) = N := by rw [← hN, hk]; rfl
        simp only [wpA_region, condI_true, seqQ_normal, blkQ_normal, endI_mk, andThen_normal, goI_out, goI_ops, opsA_nil, opsA_cons, stepA_move, stepA_assign, stepA_load, stepA_binOp, stepA_fieldAddr, thenV_some, eval_tmp, eval_const, put_some, put_none, aBin_add, absV_int, aField_eq, fieldGo_ptr, aLoad_eq, loadGo_one, aPlace_ptr, dropC_cells, Nat.reduceEqDiff, Nat.reduceAdd, Nat.reduceLeDiff, Nat.zero_add, List.length_cons, List.length_nil, List.drop_zero, List.drop_succ_cons, if_true, if_false, ft_36_1, lt_2, f8, f9, gq3, c1, hN', hw]
        exact hid_mk ⟨(t + 1, v2, put l dk N), ⟨f0, f1, f5, f6, by rw [← hk, lk]; rfl, rfl, by simp only; omega, s3, by simp only; omega, hg3⟩, by simp only; omega⟩
      · have c1 : (dk == key) = false := by simp [hk]
        simp only [wpA_skip, wpA_region, condI_false, seqQ_normal, blkQ_normal, endI_mk, andThen_normal, goI_out, goI_ops, opsA_nil, opsA_cons, stepA_move, stepA_assign, stepA_binOp, thenV_some, eval_tmp, eval_const, put_some, put_none, aBin_add, absV_int, Nat.reduceEqDiff, if_true, if_false, f9, c1, hw]
        exact hid_mk ⟨(t + 1, v2, put l dk N), ⟨f0, f1, f5, f6, by rw [look_put l dk N key ss.kv.srt, if_neg (fun q => hk q.symm)]; exact f8, rfl, by simp only; omega, s3, by simp only; omega, hg3⟩, by simp only; omega⟩
  have hend : ∀ b1 b2 : Bool, decide ((t : Int) < ((rs.length : Nat) : Int)) = b1 → decide ((t : Int) < 200) = b2 → (b1 && b2) = false := fun b1 b2 h1 h2 => by
    rw [← h1, ← h2, Bool.and_eq_false_iff]
    simp only [decide_eq_false_iff_not]
    omega
  generalize hb1 : decide ((t : Int) < ((rs.length : Nat) : Int)) = b1 at hend
  generalize hb2 : decide ((t : Int) < 200) = b2 at hend
  have hbb := hend b1 b2 rfl rfl
  have hor : b1 = false ∨ (b1 = true ∧ b2 = false) := by
    cases b1
    · exact .inl rfl
    · exact .inr ⟨rfl, by simpa using hbb⟩
  clear hend hbb
  have ze : ((look l key).getD 0 == (look l key).getD 0) = true := by simp
  rcases hor with rfl | ⟨rfl, rfl⟩
  all_goals
    simp only [wpA_region, wpA_seq, wpA_cond, wpA_exit, condI_false, seqQ_normal, seqQ_exit, blkQ_exit, endI_mk, goE, andThen_exit, goI_out, goI_ops, opsA_nil, opsA_cons, opsA_guardS, gvI_same, gvI_ft, slotAt_zero, slotAt_succ, stepA_move, stepA_pick, stepA_binOp, stepA_len, stepA_call, thenV_some, pickV_true, pickV_false, eval_tmp, eval_const, put_some, aBin_lss, absV_int, absV_bool, aLen_imm, Nat.reduceEqDiff, reduceCtorEq, List.map_cons, List.map_nil, if_true, if_false, kt_22, f0, f1, f5, f6, f9, hb1, hb2]
    refine callI_pure cal9 (agValue6 ss key) ?_
    simp only [wpA_ret, seqQ_normal, endI_mk, goI_out, goI_ops, opsA_nil, opsA_cons, opsA_guardS, gvI_same, slotAt_zero, slotAt_succ, stepA_move, stepA_assign, stepA_pick, stepA_binOp, thenV_some, pickV_true, eval_tmp, eval_const, put_some, aBin_eql, absV_bool, beq_self_eq_true, Nat.reduceEqDiff, if_true, if_false, f8, retA_ret, Tryd.results3, resultsA_1]
    exact hid_mk rfl
end Go.Proofs.YtpjfhfmbhjghcaaDoor.Pk
