/-
  What functions of the program do, told of abstract states. Conditions: as each theorem says.
-/
import Derived.Test.YtlbekgogjlchjaaMaH
namespace Go.Proofs.Ytlbekgogjlchjaa.Pk
open Go Go.Proofs Go.Proofs.Ytlbekgogjlchjaa.Ab
set_option linter.unusedVariables false
set_option linter.unusedSimpArgs false
set_option maxHeartbeats 2000000 in
set_option maxRecDepth 60000 in
theorem slotAgain (at_ ep : Nat) (b c : List Nat) (ha : at_ < 65536) (he : ep < 65536) (hb : ∀ n ∈ b, n < 256) (hc : ∀ n ∈ c, n < 256) (hbl : b.length ≤ 2 ^ 47) (hcl : c.length ≤ 2 ^ 47) (h : AHeap) :
    SCalls Try.prog 5 [.int .u16 (at_ : Int), .int .u16 (ep : Int), .imm b.length (bytesV b), .imm c.length (bytesV c)] h (fun r h' => r = .bool true) := by
  refine SCalls.enterI (c := _) Try.func5 rfl (by kernel_rfl) (by simp) ?_
  simp only [wpA_region, wpA_seq, seqQ_normal, goI_out, goI_ops, opsA_nil, opsA_cons, stepA_assign, stepA_call, eval_const, absV_bool, List.map_nil]
  refine callI_pure cal13 (shown8 h) ?_
  simp only [wpA_region, wpA_seq, seqQ_normal, goI_out, goI_ops, opsA_nil, opsA_cons, stepA_assign, stepA_call, eval_tmp, eval_const, put_some, enterF_succ, absV_int, Nat.reduceEqDiff, List.map_cons, List.map_nil, if_true, if_false]
  refine callI_of cal14 (dNew h 100000 (by decide) (by decide)) fun r1 h1 ⟨e1, d1, k1⟩ => ?_
  subst e1
  have n1 : ((0 : Int) != 0) = false := rfl
  by_cases lb : 2048 < b.length
  · have c1 : decide ((2048 : Int) < (b.length : Nat)) = true := by rw [decide_eq_true_iff]; omega
    simp only [wpA_region, wpA_seq, wpA_cond, wpA_ret, condI_true, seqQ_normal, seqQ_ret, endI_mk, goI_out, goI_ops, opsA_nil, opsA_cons, opsA_guardS, gvI_same, gvI_tf, slotAt_zero, slotAt_succ, stepA_move, stepA_assign, stepA_pick, stepA_binOp, stepA_extract, stepA_len, thenV_some, pickV_true, pickV_false, extV_zero, extV_succ, eval_tmp, eval_const, put_some, enterF_zero, enterF_succ, aBin_eql, aBin_neq, aBin_gtr, ptr_nil_eql, absV_int, absV_bool, absV_pnil, aLen_imm, bne_self_eq_false, beq_self_eq_true, Nat.reduceEqDiff, if_true, if_false, kt_24, kt_30, c1, retA_ret, Try.results5, resultsA_1]
    exact hid_mk rfl
  have c1 : decide ((2048 : Int) < (b.length : Nat)) = false := by rw [decide_eq_false_iff_not]; omega
  by_cases lc : 2048 < c.length
  · have c2 : decide ((2048 : Int) < (c.length : Nat)) = true := by rw [decide_eq_true_iff]; omega
    simp only [wpA_region, wpA_seq, wpA_cond, wpA_ret, condI_true, seqQ_normal, seqQ_ret, endI_mk, goI_out, goI_ops, opsA_nil, opsA_cons, opsA_guardS, gvI_same, slotAt_zero, slotAt_succ, stepA_move, stepA_assign, stepA_pick, stepA_binOp, stepA_extract, stepA_len, thenV_some, pickV_true, pickV_false, extV_zero, extV_succ, eval_tmp, eval_const, put_some, enterF_zero, enterF_succ, aBin_eql, aBin_neq, aBin_gtr, ptr_nil_eql, absV_int, absV_bool, absV_pnil, aLen_imm, bne_self_eq_false, beq_self_eq_true, Nat.reduceEqDiff, if_true, if_false, kt_24, kt_30, c1, c2, retA_ret, Try.results5, resultsA_1]
    exact hid_mk rfl
  have c2 : decide ((2048 : Int) < (c.length : Nat)) = false := by rw [decide_eq_false_iff_not]; omega
  simp only [wpA_skip, wpA_region, wpA_seq, wpA_cond, condI_false, seqQ_normal, goI_out, goI_ops, opsA_nil, opsA_cons, opsA_guardS, gvI_same, slotAt_zero, slotAt_succ, stepA_move, stepA_assign, stepA_pick, stepA_binOp, stepA_extract, stepA_len, stepA_call, thenV_some, pickV_false, extV_zero, extV_succ, eval_tmp, eval_const, put_some, enterF_zero, enterF_succ, aBin_neq, aBin_gtr, ptr_nil_eql, absV_int, absV_bool, absV_pnil, aLen_imm, bne_self_eq_false, Nat.reduceEqDiff, List.map_cons, List.map_nil, if_true, if_false, kt_24, kt_30, c1, c2]
  refine callI_of cal15 (ndOpen d1 k1 (Nat.le_refl _)) fun r2 h2 ⟨a, m, k, j, v2, pv2, e2, d2⟩ => ?_
  subst e2
  have hr : (at_ : Int).tmod 4096 = ((at_ % 4096 : Nat) : Int) := by rw [Int.tmod_eq_emod_of_nonneg (by omega)]; omega
  generalize hK : at_ % 4096 = K at hr
  have hK2 : K < 4096 := by omega
  have wK : IntKind.i64.wrap (K : Int) = (K : Int) := wrap_nat (by omega)
  have wE : IntKind.i64.wrap (ep : Int) = (ep : Int) := wrap_nat (by omega)
  have hm : mayWr ⟨1, ep, K, b⟩ = true := by
    unfold mayWr mayEp
    simp only [Bool.and_eq_true, decide_eq_true_eq]
    exact ⟨⟨⟨by omega, by omega⟩, by omega, by omega⟩, by omega⟩
  have hm2 : mayWr ⟨1, ep, K, c⟩ = true := by
    unfold mayWr mayEp
    simp only [Bool.and_eq_true, decide_eq_true_eq]
    exact ⟨⟨⟨by omega, by omega⟩, by omega, by omega⟩, by omega⟩
  have o1 : okAct ⟨1, ep, K, b⟩ := ⟨by simp only; omega, by simp only; omega, by simp only; omega, by simp only; omega⟩
  simp only [wpA_region, wpA_seq, seqQ_normal, goI_out, goI_ops, opsA_nil, opsA_cons, stepA_move, stepA_assign, stepA_binOp, stepA_convert, stepA_call, thenV_some, thenC_some, eval_tmp, eval_const, put_some, enterF_zero, enterF_succ, absV_int, Nat.reduceEqDiff, reduceCtorEq, List.map_cons, List.map_nil, if_true, if_false, aBin_rem (show (4096 : Int) ≠ 0 by decide), hr, aConv_int it_44 it_3, wK, wE]
  refine callI_of cal17 (ndWrite d2 ep K b hb (by omega)) fun r3 h3 hp => ?_
  have R0 : redoL [] = (0, [], 0) := rfl
  have w1 : wrI (0, [], 0) ep K b = none := by unfold wrI; rw [if_neg (by rw [hm]; decide), if_neg (by simp only; omega)]; rfl
  have w1' : wrI (redoL []) ep K b = none := w1
  rw [w1'] at hp
  obtain ⟨e3, hp⟩ := hp
  have P1 : putBad 100000 (([] : List (List Nat)).flatMap frame) (payN ⟨1, ep, K, b⟩) = 0 := pb0 o1 (by simp; omega)
  rw [if_pos P1] at hp
  rw [P1] at e3
  subst e3
  obtain ⟨v3, pv3, d3⟩ := hp
  have R1 : redoL ([] ++ [payN ⟨1, ep, K, b⟩]) = (0, [(0, (K : Int), ⟨K, ep, b⟩)], 1) := by
    rw [redoL_snoc, R0]
    exact redo_write (0, [], 0) ep K b w1
  have hk : kget ([(0, (K : Int), ⟨K, ep, b⟩)] : Ces) (K : Int) = some ⟨K, ep, b⟩ := by unfold kget; rw [if_pos rfl]
  have w2 : wrI (0, [(0, (K : Int), ⟨K, ep, b⟩)], 1) ep K b = some 0 := by
    unfold wrI; rw [if_neg (by rw [hm]; decide), if_neg (by simp only; omega)]; simp only [hk]; simp
  have w3 : wrI (0, [(0, (K : Int), ⟨K, ep, b⟩)], 1) ep K c = some (if b = c then 0 else 12) := by
    unfold wrI; rw [if_neg (by rw [hm2]; decide), if_neg (by simp only; omega)]; simp only [hk]
    by_cases hbc : b = c <;> simp [hbc]
  have pB := dBytes h3 _ _ _ _ _ _ d3.nd.seg.disk
  rw [nI_len, nI_bytes] at pB
  simp only [wpA_region, wpA_seq, seqQ_normal, goI_out, goI_ops, opsA_nil, opsA_cons, stepA_move, stepA_assign, stepA_call, eval_tmp, put_some, enterF_succ, Nat.reduceEqDiff, List.map_cons, List.map_nil, if_true, if_false]
  refine callI_pure cal22 pB ?_
  simp only [wpA_region, wpA_seq, seqQ_normal, goI_out, goI_ops, opsA_nil, opsA_cons, stepA_move, stepA_assign, stepA_convert, stepA_len, stepA_call, thenV_some, thenC_some, eval_tmp, put_some, enterF_zero, enterF_succ, aLen_imm, Nat.reduceEqDiff, List.map_cons, List.map_nil, List.nil_append, if_true, if_false, kt_30, aConv_int it_44 it_3, wE]
  refine callI_of cal17 (ndWrite d3 ep K b hb (by omega)) fun r4 h4 hp => ?_
  rw [R1, w2] at hp
  obtain ⟨e4, d4⟩ := hp
  subst e4
  simp only [wpA_region, wpA_seq, seqQ_normal, goI_out, goI_ops, opsA_nil, opsA_cons, stepA_move, stepA_assign, stepA_convert, stepA_call, thenC_some, eval_tmp, put_some, enterF_zero, enterF_succ, Nat.reduceEqDiff, List.map_cons, List.map_nil, if_true, if_false, aConv_int it_44 it_3, wE]
  refine callI_of cal17 (ndWrite d4 ep K c hc (by omega)) fun r5 h5 hp => ?_
  rw [R1, w3] at hp
  obtain ⟨e5, d5⟩ := hp
  subst e5
  have hRd := ndRead d5 K
  have hRI : readI (0, [(0, (K : Int), ⟨K, ep, b⟩)], 1) K = (⟨K, ep, b⟩, 0) := by unfold readI; simp only [hk]
  rw [R1, hRI] at hRd
  simp only [wpA_region, wpA_seq, seqQ_normal, goI_out, goI_ops, opsA_nil, opsA_cons, stepA_move, stepA_assign, stepA_call, eval_tmp, put_some, enterF_succ, Nat.reduceEqDiff, List.map_cons, List.map_nil, if_true, if_false]
  refine callI_pure cal20 hRd ?_
  have hst : setC (some 3) (AObj.cells [.int .i64 0, .int .i64 0, .snil] 39 none) 0 (celE ⟨K, ep, b⟩) = some (.cells (celE ⟨K, ep, b⟩) 39 none) := by
    rw [setC_row (n := 3) rfl rfl, if_pos (by decide)]; rfl
  have hcc : (V.agg (celE ⟨K, ep, b⟩)).cells = some (celE ⟨K, ep, b⟩) := rfl
  have q2d : dropC (.cells (celE ⟨K, ep, b⟩) 39 none) 2 = some [.imm b.length (bytesV b)] := rfl
  have l3 : (celE ⟨K, ep, b⟩).length = 3 := rfl
  have p2 : List.drop 2 (celE ⟨K, ep, b⟩) = [.imm b.length (bytesV b)] := rfl
  have ebc := strB_eq hb hc
  have ebb := strB_eq hb hb
  have k6 : Keep h5 (h5.push (.cells (celE ⟨K, ep, b⟩) 39 none)) none_ := Keep.push _ _ _
  have d6 := d5.on k6
  have pB6 := dBytes _ _ _ _ _ _ _ d6.nd.seg.disk
  rw [nI_len, nI_bytes] at pB6
  have hT := ndTail d6
  rw [R1, show topI (([(0, (K : Int), ⟨K, ep, b⟩)] : Ces).map (·.2.1)) = (K : Int) + 1 from by simp [topI]; omega] at hT
  have wT : IntKind.i64.wrap ((K : Int) + 1) = (K : Int) + 1 := Go.IntWalk.i64_in _ (by omega)
  have sz : ∀ n : Nat, ((n : Int) == (n : Int)) = true := fun n => by simp
  by_cases hbc : b = c
  · have eb1 : decide (b = c) = true := by simp [hbc]
    rw [eb1] at ebc
    simp only [wpA_region, wpA_seq, seqQ_normal, goI_out, goI_ops, opsA_nil, opsA_cons, opsA_guardS, gvI_same, gvI_tf, slotAt_zero, slotAt_succ, stepA_move, stepA_assign, stepA_pick, stepA_alloc, stepA_load, stepA_store, stepA_binOp, stepA_convert, stepA_fieldAddr, stepA_extract, stepA_call, thenV_some, thenC_some, thenH_some, thenS_some, pickV_true, extV_zero, extV_succ, eval_tmp, eval_const, put_some, put_none, enterF_zero, enterF_succ, aBin_eql, aBin_bool_eql, aBin_str_eql, absV_int, absV_bool, aField_eq, fieldGo_ptr, aLoad_eq, loadGo_one, aPlace_ptr, aStore_eq, storeGo_ptr, aAlloc_eq, get_push_new, set_push, beq_self_eq_true, Nat.reduceEqDiff, List.map_cons, List.map_nil, Option.map_some, Nat.zero_add, if_true, if_false, bt_4, ft_39_2, lt_30, zc_39, zt_39, hst, hcc, q2d, if_pos hbc, convB, ebc]
    refine callI_pure cal22 pB6 ?_
    simp only [goI_ops, opsA_cons, opsA_guardS, gvI_same, slotAt_zero, slotAt_succ, stepA_move, stepA_pick, stepA_binOp, stepA_len, stepA_call, thenV_some, pickV_true, eval_tmp, eval_const, put_some, put_none, enterF_succ, aBin_eql, absV_bool, aLen_imm, beq_self_eq_true, Nat.reduceEqDiff, List.map_cons, List.map_nil, List.nil_append, if_true, if_false, kt_30]
    refine callI_pure cal19 hT ?_
    simp only [wpA_ret, seqQ_normal, endI_mk, goI_out, goI_ops, opsA_nil, opsA_cons, opsA_guardS, gvI_same, slotAt_zero, slotAt_succ, stepA_move, stepA_assign, stepA_pick, stepA_binOp, thenV_some, pickV_true, eval_tmp, eval_const, put_some, put_none, enterF_succ, aBin_add, aBin_eql, absV_int, absV_bool, beq_self_eq_true, Nat.reduceEqDiff, if_true, if_false, wT, retA_ret, Try.results5, resultsA_1]
    exact hid_mk (by simp)
  · have eb1 : decide (b = c) = false := by simp [hbc]
    rw [eb1] at ebc
    simp only [wpA_region, wpA_seq, seqQ_normal, goI_out, goI_ops, opsA_nil, opsA_cons, opsA_guardS, gvI_same, slotAt_zero, slotAt_succ, stepA_move, stepA_assign, stepA_pick, stepA_alloc, stepA_load, stepA_store, stepA_binOp, stepA_convert, stepA_fieldAddr, stepA_extract, stepA_call, thenV_some, thenC_some, thenH_some, thenS_some, pickV_true, pickV_false, extV_zero, extV_succ, eval_tmp, eval_const, put_some, put_none, enterF_zero, enterF_succ, aBin_eql, aBin_bool_eql, aBin_str_eql, absV_int, absV_bool, aField_eq, fieldGo_ptr, aLoad_eq, loadGo_one, aPlace_ptr, aStore_eq, storeGo_ptr, aAlloc_eq, get_push_new, set_push, Int.reduceBEq, beq_self_eq_true, Nat.reduceEqDiff, List.map_cons, List.map_nil, Option.map_some, Nat.zero_add, if_true, if_false, bt_4, ft_39_2, lt_30, zc_39, zt_39, hst, hcc, q2d, if_neg hbc, convB, ebc]
    refine callI_pure cal22 pB6 ?_
    simp only [goI_ops, opsA_cons, opsA_guardS, gvI_same, slotAt_zero, slotAt_succ, stepA_move, stepA_pick, stepA_binOp, stepA_len, stepA_call, thenV_some, pickV_true, eval_tmp, eval_const, put_some, put_none, enterF_succ, aBin_eql, absV_bool, aLen_imm, beq_self_eq_true, Nat.reduceEqDiff, List.map_cons, List.map_nil, List.nil_append, if_true, if_false, kt_30]
    refine callI_pure cal19 hT ?_
    simp only [wpA_ret, seqQ_normal, endI_mk, goI_out, goI_ops, opsA_nil, opsA_cons, opsA_guardS, gvI_same, slotAt_zero, slotAt_succ, stepA_move, stepA_assign, stepA_pick, stepA_binOp, thenV_some, pickV_true, eval_tmp, eval_const, put_some, put_none, enterF_succ, aBin_add, aBin_eql, absV_int, absV_bool, beq_self_eq_true, Nat.reduceEqDiff, if_true, if_false, wT, retA_ret, Try.results5, resultsA_1]
    exact hid_mk (by simp)
end Go.Proofs.Ytlbekgogjlchjaa.Pk
