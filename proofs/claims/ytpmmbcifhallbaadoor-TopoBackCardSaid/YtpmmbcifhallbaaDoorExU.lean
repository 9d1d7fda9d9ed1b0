/-
  What functions of the program do, told of abstract states. Conditions: as each theorem says.
-/
import Derived.Test.YtpmmbcifhallbaaDoorExT
namespace Go.Proofs.YtpmmbcifhallbaaDoor.Pk
open Go Go.Proofs Go.Proofs.YtpmmbcifhallbaaDoor.Ab
set_option linter.unusedVariables false
set_option linter.unusedSimpArgs false
/-! ### The document's answer: which may be -/
def kidsR (o : Int) : Int := if o ≤ 5 then 0 else if o = 14 then 1 else if o = 13 then 3 else 2
theorem pKids (o : Int) (h : AHeap) : Pure Tryd.prog 89 [.int .i64 o] h (.int .i64 (kidsR o)) := by
  refine SCalls.enterI (c := _) Tryd.func89 rfl (by kernel_rfl) (by simp) ?_
  by_cases h1 : o ≤ 5
  · have c1 : decide (o ≤ 5) = true := by simpa using h1
    simp only [wpA_region, wpA_seq, wpA_cond, wpA_ret, condI_true, seqQ_normal, seqQ_ret, endI_mk, goI_out, goI_ops, opsA_nil, opsA_cons, stepA_move, stepA_assign, stepA_binOp, thenV_some, eval_tmp, eval_const, put_some, enterF_zero, enterF_succ, aBin_leq, absV_int, Nat.reduceEqDiff, reduceCtorEq, if_true, if_false, c1, retA_ret, Tryd.results89, resultsA_1]
    exact hid_mk ⟨by simp [kidsR, h1], rfl⟩
  have c1 : decide (o ≤ 5) = false := by simpa using h1
  by_cases h2 : o = 14
  · have c2 : (o == 14) = true := by simp [h2]
    simp only [wpA_skip, wpA_region, wpA_seq, wpA_cond, wpA_ret, condI_true, condI_false, seqQ_normal, seqQ_ret, endI_mk, goI_out, goI_ops, opsA_nil, opsA_cons, stepA_move, stepA_assign, stepA_binOp, thenV_some, eval_tmp, eval_const, put_some, enterF_zero, enterF_succ, aBin_eql, aBin_leq, absV_int, Nat.reduceEqDiff, reduceCtorEq, if_true, if_false, c1, c2, retA_ret, Tryd.results89, resultsA_1]
    exact hid_mk ⟨by simp [kidsR, h2], rfl⟩
  have c2 : (o == 14) = false := by simp [h2]
  by_cases h3 : o = 13
  · have c3 : (o == 13) = true := by simp [h3]
    simp only [wpA_skip, wpA_region, wpA_seq, wpA_cond, wpA_ret, condI_true, condI_false, seqQ_normal, seqQ_ret, endI_mk, goI_out, goI_ops, opsA_nil, opsA_cons, stepA_move, stepA_assign, stepA_binOp, thenV_some, eval_tmp, eval_const, put_some, enterF_zero, enterF_succ, aBin_eql, aBin_leq, absV_int, Nat.reduceEqDiff, reduceCtorEq, if_true, if_false, c1, c2, c3, retA_ret, Tryd.results89, resultsA_1]
    exact hid_mk ⟨by simp [kidsR, h3], rfl⟩
  have c3 : (o == 13) = false := by simp [h3]
  simp only [wpA_skip, wpA_region, wpA_seq, wpA_cond, wpA_ret, condI_false, seqQ_normal, endI_mk, goI_out, goI_ops, opsA_nil, opsA_cons, stepA_move, stepA_assign, stepA_binOp, thenV_some, eval_tmp, eval_const, put_some, enterF_zero, enterF_succ, aBin_eql, aBin_leq, absV_int, Nat.reduceEqDiff, reduceCtorEq, if_true, if_false, c1, c2, c3, retA_ret, Tryd.results89, resultsA_1]
  exact hid_mk ⟨by simp [kidsR, h1, h2, h3], rfl⟩
theorem kidsR_eq {o : Int} (h1 : 1 ≤ o) (h2 : o ≤ 16) : kidsN.getD o.toNat 0 = kidsR o := by
  obtain ⟨k, rfl⟩ : ∃ k : Nat, o = k := ⟨o.toNat, by omega⟩
  have hk : k < 17 := by omega
  simp only [Int.toNat_natCast]
  have : ∀ k : Nat, k < 17 → 1 ≤ k → kidsN.getD k 0 = kidsR (k : Int) := by decide
  exact this k hk (by omega)
def deepX : Nat → Ex → Bool
  | 0, _ => false
  | n + 1, e => fitsX e && e.ks.all (deepX n)

set_option maxHeartbeats 1000000 in
set_option maxRecDepth 10000 in
theorem pDeep : ∀ (m : Nat) (e : Ex) (h : AHeap), m ≤ 16 → Pure Tryd.prog 84 [.agg (encE e), .int .i64 (m : Nat)] h (.bool (deepX m e))
  | m, .mk o n ks, h, hm => by
    refine Pure.val (Clo.bool _) ?_
    rw [encE_eq]
    refine SCalls.enterI (c := _) Tryd.func84 rfl (by kernel_rfl) (by simp) ?_
    simp only [wpA_region, wpA_seq, wpA_draw, seqQ_normal, goI_out, goI_ops, opsA_nil, opsA_cons, stepA_assign, stepA_box, thenH_some, eval_tmp, eval_const, enterF_zero, absV_bool, cells_agg, aBox_eq, Option.map_some]
    refine SWp.cut (fun f' h' => f' 36 = .bool (!(decide (m ≠ 0) && fitsX (.mk o n ks))) ∧ f' 1 = .int .i64 (m : Nat) ∧ f' 2 = .ptr h.n 0 ∧ h' = h.push (.cells [.int .i64 o, .int .i64 n, .imm ks.length (ks.flatMap encE)] 45 none)) ?_ ?_
    · refine SWp.drawnS none_ [] (.q 0 (.q 1 (.q 2 (.q 3 (.q 4 (.q 5 (.q 6 (.q 7 (.q 8 (.q 9 (.q 10 (.q 11 (.q 12 (.q 13 (.q 14 (.q 15 (.q 16 (.q 17 (.c 18 (.q 19 (.q 20 (.q 21 (.q 22 (.q 23 (.q 24 (.q 25 (.q 26 (.q 27 (.q 28 (.q 29 (.q 30 .done))))))))))))))))))))))))))))))) (by kernel_rfl) (by kernel_rfl) (by kernel_rfl) ?_
      by_cases h0 : m = 0
      · have c0 : (((m : Nat) : Int) == 0) = true := by simp [h0]
        simp only [siI_q, sqI_some, mOk_none', implies_true, qI_nil, qI_cons, qI_guard, qgI_tf, thenQ_some, q_move, q_pick, q_binOp, goI_mk, slotAt_zero, slotAt_succ, pickV_true, eval_tmp, eval_const, put_some, enterF_zero, enterF_succ, aBin_eql, absV_int, absV_bool, List.getElem?_cons_zero, List.getElem?_cons_succ, Nat.reduceEqDiff, true_and, if_true, if_false, c0]
        refine siI_cskip rfl rfl ?_
        simp only [siI_done, siI_q, sqI_some, mOk_none', implies_true, qI_nil, qI_cons, qI_guard, qgI_tf, qgI_u, thenQ_some, q_move, q_pick, endI_mk, goI_out, goI_mk, slotAt_zero, slotAt_succ, pickV_true, eval_tmp, eval_const, put_some, enterF_succ, absV_bool, List.getElem?_cons_zero, List.getElem?_cons_succ, Nat.reduceEqDiff, true_and, if_true, if_false]
        exact hid_mk ⟨rfl, (show V.bool true = _ by simp [h0]), rfl, rfl, rfl⟩
      have hm0 : decide (m ≠ 0) = true := by simpa using h0
      have c0 : (((m : Nat) : Int) == 0) = false := by simp only [beq_eq_false_iff_ne, ne_eq]; omega
      by_cases h1 : o < 1
      · have c1 : decide (o < 1) = true := by simpa using h1
        have hG : fitsX (.mk o n ks) = false := by simp [fitsX]; omega
        simp only [siI_q, sqI_some, mOk_none', implies_true, qI_nil, qI_cons, qI_guard, qgI_same, qgI_tf, thenQ_some, q_move, q_pick, q_load, q_binOp, q_fieldAddr, goI_mk, slotAt_zero, slotAt_succ, pickV_true, pickV_false, eval_tmp, eval_const, put_some, enterF_zero, enterF_succ, aBin_eql, aBin_lss, absV_int, absV_bool, aField_eq, fieldGo_ptr, aLoad_eq, loadGo_one, aPlace_ptr, dropC_cells, get_push_new, List.getElem?_cons_zero, List.getElem?_cons_succ, Nat.reduceEqDiff, Nat.reduceAdd, Nat.add_zero, Nat.zero_add, Nat.zero_le, List.length_cons, List.length_nil, List.drop_zero, true_and, if_true, if_false, ft_45_0, lt_3, c0, c1]
        refine siI_cskip rfl rfl ?_
        simp only [siI_done, siI_q, sqI_some, mOk_none', implies_true, qI_nil, qI_cons, qI_guard, qgI_tf, qgI_u, thenQ_some, q_move, q_pick, endI_mk, goI_out, goI_mk, slotAt_zero, slotAt_succ, pickV_true, eval_tmp, eval_const, put_some, enterF_succ, absV_bool, List.getElem?_cons_zero, List.getElem?_cons_succ, Nat.reduceEqDiff, true_and, if_true, if_false]
        exact hid_mk ⟨rfl, (show V.bool true = _ by rw [hG]; simp), rfl, rfl, rfl⟩
      have c1 : decide (o < 1) = false := by simpa using h1
      by_cases h2 : 16 < o
      · have c2 : decide (16 < o) = true := by simpa using h2
        have hG : fitsX (.mk o n ks) = false := by simp [fitsX]; omega
        simp only [siI_q, sqI_some, mOk_none', implies_true, qI_nil, qI_cons, qI_guard, qgI_same, qgI_tf, thenQ_some, q_move, q_pick, q_load, q_binOp, q_fieldAddr, goI_mk, slotAt_zero, slotAt_succ, pickV_false, eval_tmp, eval_const, put_some, enterF_zero, enterF_succ, aBin_eql, aBin_lss, aBin_gtr, absV_int, absV_bool, aField_eq, fieldGo_ptr, aLoad_eq, loadGo_one, aPlace_ptr, dropC_cells, get_push_new, List.getElem?_cons_zero, List.getElem?_cons_succ, Nat.reduceEqDiff, Nat.reduceAdd, Nat.add_zero, Nat.zero_add, Nat.zero_le, List.length_cons, List.length_nil, List.drop_zero, true_and, if_true, if_false, ft_45_0, lt_3, c0, c1, c2]
        refine siI_cskip rfl rfl ?_
        simp only [siI_done, siI_q, sqI_some, mOk_none', implies_true, qI_nil, qI_cons, qI_guard, qgI_tf, qgI_u, thenQ_some, q_move, q_pick, endI_mk, goI_out, goI_mk, slotAt_zero, slotAt_succ, pickV_true, eval_tmp, eval_const, put_some, enterF_succ, absV_bool, List.getElem?_cons_zero, List.getElem?_cons_succ, Nat.reduceEqDiff, true_and, if_true, if_false]
        exact hid_mk ⟨rfl, (show V.bool true = _ by rw [hG]; simp), rfl, rfl, rfl⟩
      have c2 : decide (16 < o) = false := by simpa using h2
      have hkr := kidsR_eq (o := o) (by omega) (by omega)
      have hrg : decide (1 ≤ o ∧ o ≤ 16) = true := by simp; omega
      simp only [siI_q, sqI_some, mOk_none', implies_true, qI_nil, qI_cons, qI_guard, qgI_same, thenQ_some, q_move, q_pick, q_load, q_binOp, q_fieldAddr, q_len, goI_mk, slotAt_zero, slotAt_succ, pickV_false, eval_tmp, eval_const, put_some, enterF_zero, enterF_succ, aBin_eql, aBin_lss, aBin_gtr, absV_int, absV_bool, aField_eq, fieldGo_ptr, aLoad_eq, loadGo_one, aPlace_ptr, dropC_cells, aLen_imm, get_push_new, List.getElem?_cons_zero, List.getElem?_cons_succ, Nat.reduceEqDiff, Nat.reduceAdd, Nat.reduceLeDiff, Nat.add_zero, Nat.zero_add, Nat.zero_le, List.length_cons, List.length_nil, List.drop_zero, List.drop_succ_cons, true_and, if_true, if_false, ft_45_0, ft_45_2, kt_43, lt_3, lt_43, c0, c1, c2]
      refine siI_c rfl rfl rfl (fun h' _ => pKids o h') ?_
      by_cases h3 : ((ks.length : Nat) : Int) = kidsR o
      rotate_left
      · have c3 : (((ks.length : Nat) : Int) != kidsR o) = true := by simpa using h3
        have hG : fitsX (.mk o n ks) = false := by simp only [fitsX, hkr]; simp [h3]
        simp only [siI_done, siI_q, sqI_some, mOk_none', implies_true, qI_nil, qI_cons, qI_guard, qgI_same, qgI_tf, qgI_u, thenQ_some, q_move, q_pick, q_binOp, endI_mk, goI_out, goI_mk, slotAt_zero, slotAt_succ, pickV_true, pickV_false, eval_tmp, eval_const, put_some, enterF_succ, aBin_neq, absV_bool, List.getElem?_cons_zero, List.getElem?_cons_succ, Nat.reduceEqDiff, true_and, if_true, if_false, c3]
        exact hid_mk ⟨rfl, (show V.bool true = _ by rw [hG]; simp), rfl, rfl, rfl⟩
      have c3 : (((ks.length : Nat) : Int) != kidsR o) = false := by simpa using h3
      by_cases h4 : n = 0
      · have c4 : (n != 0) = false := by simp [h4]
        have hG : fitsX (.mk o n ks) = true := by simp only [fitsX, hkr, hrg]; simp [h3, h4]
        simp only [siI_done, siI_q, sqI_some, mOk_none', implies_true, qI_nil, qI_cons, qI_guard, qgI_same, qgI_ft, thenQ_some, q_move, q_pick, q_load, q_binOp, q_fieldAddr, endI_mk, goI_out, goI_mk, slotAt_zero, slotAt_succ, pickV_false, eval_tmp, eval_const, put_some, enterF_succ, aBin_neq, absV_int, absV_bool, aField_eq, fieldGo_ptr, aLoad_eq, loadGo_one, aPlace_ptr, dropC_cells, get_push_new, List.getElem?_cons_zero, List.getElem?_cons_succ, Nat.reduceEqDiff, Nat.reduceAdd, Nat.reduceLeDiff, Nat.zero_add, List.length_cons, List.length_nil, List.drop_zero, List.drop_succ_cons, true_and, if_true, if_false, ft_45_1, lt_2, c3, c4]
        exact hid_mk ⟨rfl, by rw [hG, hm0]; rfl, rfl, rfl, rfl⟩
      have c4 : (n != 0) = true := by simp [h4]
      by_cases h5 : o = 1
      · have c5 : (o != 1) = false := by simp [h5]
        have hG : fitsX (.mk o n ks) = true := by simp only [fitsX, hkr, hrg]; simp [h3, h5]
        simp only [siI_done, siI_q, sqI_some, mOk_none', implies_true, qI_nil, qI_cons, qI_guard, qgI_same, thenQ_some, q_move, q_pick, q_load, q_binOp, q_fieldAddr, endI_mk, goI_out, goI_mk, slotAt_zero, slotAt_succ, pickV_true, pickV_false, eval_tmp, eval_const, put_some, enterF_succ, aBin_neq, absV_int, absV_bool, aField_eq, fieldGo_ptr, aLoad_eq, loadGo_one, aPlace_ptr, dropC_cells, get_push_new, List.getElem?_cons_zero, List.getElem?_cons_succ, Nat.reduceEqDiff, Nat.reduceAdd, Nat.reduceLeDiff, Nat.add_zero, Nat.zero_add, Nat.zero_le, List.length_cons, List.length_nil, List.drop_zero, List.drop_succ_cons, true_and, if_true, if_false, ft_45_0, ft_45_1, lt_2, lt_3, c3, c4, c5]
        exact hid_mk ⟨rfl, by rw [hG, hm0]; rfl, rfl, rfl, rfl⟩
      · have c5 : (o != 1) = true := by simp [h5]
        have hG : fitsX (.mk o n ks) = false := by simp only [fitsX, hkr, hrg]; simp [h4, h5]
        simp only [siI_done, siI_q, sqI_some, mOk_none', implies_true, qI_nil, qI_cons, qI_guard, qgI_same, thenQ_some, q_move, q_pick, q_load, q_binOp, q_fieldAddr, endI_mk, goI_out, goI_mk, slotAt_zero, slotAt_succ, pickV_true, pickV_false, eval_tmp, eval_const, put_some, enterF_succ, aBin_neq, absV_int, absV_bool, aField_eq, fieldGo_ptr, aLoad_eq, loadGo_one, aPlace_ptr, dropC_cells, get_push_new, List.getElem?_cons_zero, List.getElem?_cons_succ, Nat.reduceEqDiff, Nat.reduceAdd, Nat.reduceLeDiff, Nat.add_zero, Nat.zero_add, Nat.zero_le, List.length_cons, List.length_nil, List.drop_zero, List.drop_succ_cons, true_and, if_true, if_false, ft_45_0, ft_45_1, lt_2, lt_3, c3, c4, c5]
        exact hid_mk ⟨rfl, by rw [hG, hm0]; rfl, rfl, rfl, rfl⟩
    · rintro f h1 ⟨f36, f1, f2, rfl⟩
      cases hb : (decide (m ≠ 0) && fitsX (.mk o n ks)) with
      | false =>
        rw [hb] at f36
        have hG : deepX m (.mk o n ks) = false := by
          cases m with
          | zero => rfl
          | succ m' => simp at hb; simp [deepX, hb]
        simp only [Bool.not_false] at f36
        simp only [wpA_region, wpA_seq, wpA_cond, wpA_ret, condI_true, seqQ_normal, seqQ_ret, endI_mk, goI_out, goI_ops, opsA_nil, opsA_cons, stepA_assign, eval_tmp, eval_const, put_some, absV_bool, if_true, f36, retA_ret, Tryd.results84, resultsA_1]
        exact hid_mk ⟨by rw [hG], Keep.push _ _ _⟩
      | true =>
        rw [hb] at f36
        simp only [Bool.and_eq_true, decide_eq_true_eq, ne_eq] at hb
        obtain ⟨m', rfl⟩ : ∃ m', m = m' + 1 := ⟨m - 1, by omega⟩
        have hk3 := fits_ks hb.2
        have hG : deepX (m' + 1) (.mk o n ks) = ks.all (deepX m') := by simp [deepX, hb.2, Ex.ks]
        simp only [Bool.not_true] at f36
        simp only [wpA_skip, wpA_region, wpA_seq, wpA_cond, wpA_block, wpA_loop, condI_false, seqQ_normal, goI_out, goI_ops, opsA_nil, opsA_cons, stepA_assign, eval_tmp, eval_const, absV_int, f36]
        refine SWp.loopG (α := Nat) (fun i f h' => f 1 = .int .i64 ((m' + 1 : Nat) : Int) ∧ f 2 = .ptr h.n 0 ∧ f 5 = .int .i64 (i : Nat) ∧ i ≤ ks.length ∧ h' = h.push (.cells [.int .i64 o, .int .i64 n, .imm ks.length (ks.flatMap encE)] 45 none) ∧ ks.all (deepX m') = (ks.drop i).all (deepX m')) (fun i => ks.length - i) 0 ⟨f1, f2, rfl, Nat.zero_le _, rfl, rfl⟩ ?_
        rintro i f h' ⟨f1, f2, f5, hi, rfl, hE⟩
        refine wpI_sound (by kernel_rfl) ?_
        by_cases hlt : i < ks.length
        rotate_left
        · have c3 : decide ((i : Int) < ((ks.length : Nat) : Int)) = false := by simp only [decide_eq_false_iff_not]; omega
          rw [List.drop_of_length_le (by omega)] at hE
          simp only [wpA_region, wpA_seq, wpA_cond, wpA_exit, wpA_ret, condI_false, seqQ_normal, seqQ_exit, blkQ_exit, endI_mk, goE, andThen_exit, goI_out, goI_ops, opsA_nil, opsA_cons, stepA_move, stepA_assign, stepA_load, stepA_binOp, stepA_fieldAddr, stepA_len, thenV_some, eval_tmp, eval_const, put_some, aBin_lss, absV_bool, aField_eq, fieldGo_ptr, aLoad_eq, loadGo_one, aPlace_ptr, dropC_cells, aLen_imm, get_push_new, Nat.reduceEqDiff, Nat.reduceAdd, Nat.reduceLeDiff, Nat.zero_add, List.length_cons, List.length_nil, List.drop_zero, List.drop_succ_cons, if_true, if_false, ft_45_2, kt_43, lt_43, f2, f5, c3, retA_ret, Tryd.results84, resultsA_1]
          exact hid_mk ⟨by rw [hG, hE]; rfl, Keep.push _ _ _⟩
        · have c3 : decide ((i : Int) < ((ks.length : Nat) : Int)) = true := by simp only [decide_eq_true_eq]; omega
          rw [List.drop_eq_getElem_cons hlt] at hE
          have x0 := ex_ix (kk := .i64) hlt
          generalize ks[i] = A at *
          have lr : ∀ (q : List V), loadGo (some (some 3)) (some (encE A ++ q)) = some (.agg (encE A)) := fun q => load_row (encE_len A)
          have w0 : IntKind.i64.wrap (((m' + 1 : Nat) : Int) - 1) = ((m' : Nat) : Int) := by rw [Go.IntWalk.i64_in _ (by omega)]; omega
          have w2 : IntKind.i64.wrap (((i : Nat) : Int) + 1) = ((i + 1 : Nat) : Int) := by rw [Go.IntWalk.i64_in _ (by omega)]; omega
          simp only [wpA_skip, wpA_region, wpA_seq, wpA_cond, wpA_block, condI_true, seqQ_normal, goI_out, goI_ops, opsA_nil, opsA_cons, stepA_move, stepA_load, stepA_binOp, stepA_fieldAddr, stepA_indexAddr, stepA_len, stepA_call, thenV_some, eval_tmp, eval_const, put_some, aBin_sub, aBin_lss, absV_int, aField_eq, fieldGo_ptr, aLoad_eq, loadGo_one, aPlace_ptr, aPlace_at, dropC_cells, aLen_imm, get_push_new, Nat.reduceEqDiff, Nat.reduceAdd, Nat.reduceLeDiff, List.map_cons, List.map_nil, Nat.zero_add, List.length_cons, List.length_nil, List.drop_zero, List.drop_succ_cons, if_true, if_false, ft_45_2, kt_43, lt_43, lt_45, f1, f2, f5, c3, x0, lr, w0]
          refine callI_pure cal84 (pDeep m' A _ (by omega)) ?_
          cases hd : deepX m' A with
          | false =>
            simp only [wpA_region, wpA_seq, wpA_cond, wpA_ret, condI_true, seqQ_normal, seqQ_ret, blkQ_ret, endI_mk, goE, andThen_ret, goI_out, goI_ops, opsA_nil, opsA_cons, stepA_assign, stepA_unOp, thenV_some, eval_tmp, eval_const, put_some, aUn_not, absV_bool, Nat.reduceEqDiff, if_true, if_false, Bool.not_false, retA_ret, Tryd.results84, resultsA_1]
            exact hid_mk ⟨by rw [hG, hE]; simp [hd], Keep.push _ _ _⟩
          | true =>
            simp only [wpA_skip, wpA_region, wpA_cond, condI_false, seqQ_normal, blkQ_normal, endI_mk, andThen_normal, goI_out, goI_ops, opsA_nil, opsA_cons, stepA_move, stepA_assign, stepA_binOp, stepA_unOp, thenV_some, eval_tmp, eval_const, put_some, aBin_add, aUn_not, absV_int, Nat.reduceEqDiff, if_true, if_false, Bool.not_true, f5, w2]
            exact hid_mk ⟨i + 1, ⟨f1, f2, rfl, by omega, rfl, by rw [hE]; simp [hd]⟩, by omega⟩

/-! The two agree. -/
theorem szE_pos (e : Ex) : 1 ≤ szE e := by cases e; simp [szE]
theorem cnt_eq : ∀ (l room : Nat) (e : Ex), cnt l room e = if deepX l e = true ∧ szE e ≤ room then some (szE e) else none
  | 0, room, e => by simp [cnt, deepX]
  | l + 1, room, .mk o n ks => by
    have hL : ∀ (ks : List Ex) (m : Nat), 1 ≤ m → cntL (cnt l) room m ks = if ks.all (deepX l) = true ∧ m + szL ks ≤ room ∨ ks = [] then some (m + szL ks) else none := by
      intro ks
      induction ks with
      | nil => intro m hm; simp [cntL, szL]
      | cons k r ih =>
        intro m hm
        have hp := szE_pos k
        unfold cntL
        rw [cnt_eq l (room - m) k]
        by_cases hd : deepX l k = true
        · by_cases hs : szE k ≤ room - m
          · rw [if_pos ⟨hd, hs⟩]
            simp only
            rw [ih _ (by omega)]
            cases r with
            | nil => simp [szL, hd]; omega
            | cons a r =>
              simp only [List.all_cons, hd, Bool.true_and, szL, reduceCtorEq, or_false]
              by_cases hq : (deepX l a && r.all (deepX l)) = true ∧ m + szE k + (szE a + szL r) ≤ room
              · rw [if_pos hq, if_pos ⟨hq.1, by omega⟩]; congr 1; omega
              · rw [if_neg hq, if_neg (fun hh => hq ⟨hh.1, by omega⟩)]
          · rw [if_neg (fun hh => hs hh.2)]
            simp only [List.all_cons, szL, reduceCtorEq, or_false]
            rw [if_neg (fun hh => by omega)]
        · rw [if_neg (fun hh => hd hh.1)]
          simp only [List.all_cons, reduceCtorEq, or_false]
          rw [if_neg (fun hh => by simp [hd] at hh)]
    have hdeep : deepX (l + 1) (.mk o n ks) = (fitsX (.mk o n ks) && ks.all (deepX l)) := rfl
    have hsz : szE (.mk o n ks) = szL ks + 1 := by simp [szE]
    have hcnt : cnt (l + 1) room (.mk o n ks) = if room = 0 ∨ fitsX (.mk o n ks) = false then none else cntL (cnt l) room 1 ks := rfl
    rw [hcnt]
    by_cases h0 : room = 0
    · rw [if_pos (.inl h0), if_neg (fun hh => by omega)]
    · cases hf : fitsX (.mk o n ks) with
      | false => rw [if_pos (.inr rfl), if_neg (fun hh => by rw [hdeep, hf] at hh; simp at hh)]
      | true =>
        rw [if_neg (by simp [h0]), hL ks 1 (Nat.le_refl _)]
        rw [hf, Bool.true_and] at hdeep
        cases ks with
        | nil => rw [if_pos (.inr rfl), if_pos ⟨by rw [hdeep]; rfl, by rw [hsz]; simp [szL]; omega⟩, hsz]; rfl
        | cons a r =>
          by_cases hq : (a :: r).all (deepX l) = true ∧ 1 + szL (a :: r) ≤ room
          · rw [if_pos (.inl hq), if_pos ⟨by rw [hdeep]; exact hq.1, by rw [hsz]; omega⟩, hsz]; congr 1; omega
          · rw [if_neg (by simp only [reduceCtorEq, or_false]; exact hq), if_neg (fun hh => hq ⟨by rw [← hdeep]; exact hh.1, by rw [hsz] at hh; omega⟩)]
theorem szE_bound : ∀ (l : Nat) (e : Ex), deepX l e = true → szE e ≤ 4 ^ l
  | 0, e, h => by simp [deepX] at h
  | l + 1, .mk o n ks, h => by
    simp only [deepX, Bool.and_eq_true, Ex.ks] at h
    have h3 := fits_ks h.1
    have hL : ∀ ks : List Ex, ks.all (deepX l) = true → szL ks ≤ ks.length * 4 ^ l := by
      intro ks
      induction ks with
      | nil => intro _; simp [szL]
      | cons k r ih =>
        intro hk
        simp only [List.all_cons, Bool.and_eq_true] at hk
        have := szE_bound l k hk.1
        have := ih hk.2
        simp only [szL, List.length_cons, Nat.add_mul]
        omega
    have h1 := hL ks h.2
    have h2 : ks.length * 4 ^ l ≤ 3 * 4 ^ l := Nat.mul_le_mul_right _ h3
    have hp : 1 ≤ 4 ^ l := Nat.one_le_pow _ _ (by decide)
    simp only [szE, Nat.pow_succ]
    omega
theorem mayX_eq (e : Ex) : mayX e = (deepX 16 e && decide (IntKind.i64.wrap (szE e : Nat) ≤ 64)) := by
  unfold mayX
  rw [cnt_eq]
  cases hd : deepX 16 e with
  | false => simp
  | true =>
    have hb := szE_bound 16 e hd
    have h16 : (4 : Nat) ^ 16 = 4294967296 := by decide
    have hw : IntKind.i64.wrap (szE e : Nat) = (szE e : Nat) := Go.IntWalk.i64_in _ (by omega)
    rw [hw]
    by_cases hs : szE e ≤ 64
    · have : decide ((szE e : Int) ≤ 64) = true := by simp; omega
      simp [hs, this]
    · have : decide ((szE e : Int) ≤ 64) = false := by simp; omega
      simp [hs, this]
theorem pMayR (e : Ex) (hok : OkE e) (h : AHeap) : Pure Tryd.prog 75 [.agg (encE e)] h (.bool (mayX e)) := by
  refine Pure.val (Clo.bool _) ?_
  refine SCalls.enterI (c := _) Tryd.func75 rfl (by kernel_rfl) (by simp) ?_
  have hc : (V.agg (encE e)).cells = some (encE e) := rfl
  have hdr : dropC (AObj.cells (encE e) 45 none) 0 = some (encE e) := by cases e; rfl
  have hld : loadGo (some (some 3)) (some (encE e)) = some (.agg (encE e)) := by cases e; rfl
  have hm := mayX_eq e
  simp only [wpA_region, wpA_seq, seqQ_normal, goI_out, goI_ops, opsA_nil, opsA_cons, stepA_assign, stepA_box, stepA_load, stepA_call, thenV_some, thenH_some, eval_tmp, eval_const, put_some, enterF_zero, enterF_succ, absV_int, absV_bool, aLoad_eq, aPlace_ptr, aBox_eq, get_push_new, Nat.reduceEqDiff, List.map_cons, List.map_nil, Option.map_some, if_true, if_false, lt_45, hc, hdr, hld]
  refine callI_pure cal84 (pDeep 16 e _ (Nat.le_refl _)) ?_
  cases hd : deepX 16 e with
  | false =>
    simp only [wpA_ret, seqQ_normal, endI_mk, goI_out, goI_ops, opsA_nil, opsA_cons, opsA_guardS, gvI_ft, slotAt_zero, slotAt_succ, stepA_move, stepA_assign, stepA_pick, thenV_some, pickV_false, eval_tmp, eval_const, put_some, enterF_succ, absV_bool, Nat.reduceEqDiff, if_true, if_false, retA_ret, Tryd.results75, resultsA_1]
    exact hid_mk ⟨by rw [hm, hd]; rfl, Keep.push _ _ _⟩
  | true =>
    simp only [goI_ops, opsA_cons, opsA_guardS, gvI_same, slotAt_zero, slotAt_succ, stepA_move, stepA_load, stepA_call, thenV_some, eval_tmp, put_some, enterF_succ, aLoad_eq, aPlace_ptr, get_push_new, Nat.reduceEqDiff, List.map_cons, List.map_nil, if_true, if_false, lt_45, hdr, hld]
    refine callI_pure cal24 (pCountR _ e _ rfl hok) ?_
    simp only [wpA_ret, seqQ_normal, endI_mk, goI_out, goI_ops, opsA_nil, opsA_cons, opsA_guardS, gvI_same, slotAt_zero, slotAt_succ, stepA_assign, stepA_pick, stepA_binOp, thenV_some, pickV_true, eval_tmp, eval_const, put_some, enterF_succ, aBin_leq, absV_int, absV_bool, Nat.reduceEqDiff, if_true, if_false, retA_ret, Tryd.results75, resultsA_1]
    exact hid_mk ⟨by rw [hm, hd]; rfl, Keep.push _ _ _⟩

theorem useL_snoc {op : Int} : ∀ {l : List Ex} {i : Nat}, (hi : i < l.length) → useL op (l.take (i + 1)) = (useL op (l.take i) || useX op l[i])
  | [], i, hi => by simp at hi
  | a :: r, 0, hi => by simp [useL]
  | a :: r, i + 1, hi => by
    simp only [List.take_succ_cons, useL, List.getElem_cons_succ]
    rw [useL_snoc (by simpa using hi), Bool.or_assoc]
set_option maxRecDepth 10000 in
theorem pUsesR (op : Int) : ∀ (s : Nat) (e : Ex) (h : AHeap), szE e = s → OkE e → Pure Tryd.prog 76 [.agg (encE e), .int .i64 op] h (.bool (useX op e)) := by
  intro s
  induction s using Nat.strongRecOn with
  | _ s ih =>
  intro e h hs hok
  obtain ⟨o, n, ks⟩ := e
  refine Pure.val (Clo.bool _) ?_
  have hlen := hok.len
  simp only [Ex.ks] at hlen
  refine SCalls.enterI (c := _) Tryd.func76 rfl (by kernel_rfl) (by simp) ?_
  have hc : (V.agg (encE (.mk o n ks))).cells = some (encE (.mk o n ks)) := rfl
  have hd0 : dropC (AObj.cells (encE (.mk o n ks)) 45 none) 0 = some [.int .i64 o, .int .i64 n, .imm ks.length (ks.flatMap encE)] := by rw [encE_eq]; rfl
  have hd2 : dropC (AObj.cells (encE (.mk o n ks)) 45 none) 2 = some [.imm ks.length (ks.flatMap encE)] := by rw [encE_eq]; rfl
  simp only [wpA_region, wpA_seq, wpA_block, wpA_loop, seqQ_normal, goI_out, goI_ops, opsA_nil, opsA_cons, stepA_move, stepA_assign, stepA_box, stepA_load, stepA_binOp, stepA_fieldAddr, thenV_some, thenH_some, eval_tmp, eval_const, put_some, enterF_zero, enterF_succ, aBin_eql, absV_int, absV_bool, aField_eq, fieldGo_ptr, aLoad_eq, loadGo_one, aPlace_ptr, aBox_eq, get_push_new, Nat.reduceEqDiff, Option.map_some, Nat.add_zero, if_true, if_false, ft_45_0, lt_3, hc, hd0]
  refine SWp.loopG (α := Nat) (fun i f h' => f 1 = .int .i64 op ∧ f 2 = .ptr h.n 0 ∧ f 6 = .int .i64 (i : Nat) ∧ f 5 = .bool (o == op || useL op (ks.take i)) ∧ i ≤ ks.length ∧ h' = h.push (.cells (encE (.mk o n ks)) 45 none)) (fun i => ks.length - i) 0 ⟨rfl, rfl, rfl, (show V.bool _ = _ by simp [useL]), Nat.zero_le _, rfl⟩ ?_
  rintro i f h' ⟨f1, f2, f6, f5, hi, rfl⟩
  refine wpI_sound (by kernel_rfl) ?_
  by_cases hlt : i < ks.length
  rotate_left
  · have c3 : decide ((i : Int) < ((ks.length : Nat) : Int)) = false := by simp only [decide_eq_false_iff_not]; omega
    rw [List.take_of_length_le (by omega)] at f5
    simp only [wpA_region, wpA_seq, wpA_cond, wpA_exit, wpA_ret, condI_false, seqQ_normal, seqQ_exit, blkQ_exit, endI_mk, goE, andThen_exit, goI_out, goI_ops, opsA_nil, opsA_cons, stepA_move, stepA_assign, stepA_load, stepA_binOp, stepA_fieldAddr, stepA_len, thenV_some, eval_tmp, put_some, aBin_lss, aField_eq, fieldGo_ptr, aLoad_eq, loadGo_one, aPlace_ptr, aLen_imm, get_push_new, Nat.reduceEqDiff, Nat.zero_add, if_true, if_false, ft_45_2, kt_43, lt_43, f2, f6, f5, hd2, c3, retA_ret, Tryd.results76, resultsA_1]
    exact hid_mk ⟨by simp [useX], Keep.push _ _ _⟩
  · have c3 : decide ((i : Int) < ((ks.length : Nat) : Int)) = true := by simp only [decide_eq_true_eq]; omega
    have x0 := ex_ix (kk := .i64) hlt
    have hsn := useL_snoc (op := op) hlt
    have hkid : ks[i] ∈ (Ex.mk o n ks).ks := List.getElem_mem hlt
    have hlt2 := szE_kid _ hkid
    have hok2 := hok.kid _ hkid
    generalize ks[i] = A at *
    have lr : ∀ (q : List V), loadGo (some (some 3)) (some (encE A ++ q)) = some (.agg (encE A)) := fun q => load_row (encE_len A)
    have w2 : IntKind.i64.wrap (((i : Nat) : Int) + 1) = ((i + 1 : Nat) : Int) := by rw [Go.IntWalk.i64_in _ (by omega)]; omega
    simp only [wpA_skip, wpA_region, wpA_seq, wpA_cond, wpA_block, condI_true, seqQ_normal, goI_out, goI_ops, opsA_nil, opsA_cons, stepA_move, stepA_load, stepA_binOp, stepA_fieldAddr, stepA_indexAddr, stepA_len, stepA_call, thenV_some, eval_tmp, put_some, aBin_lss, aField_eq, fieldGo_ptr, aLoad_eq, loadGo_one, aPlace_ptr, aPlace_at, aLen_imm, get_push_new, Nat.reduceEqDiff, List.map_cons, List.map_nil, Nat.zero_add, if_true, if_false, ft_45_2, kt_43, lt_43, lt_45, f1, f2, f6, hd2, c3, x0, lr]
    refine callI_pure cal76 (ih (szE A) (by omega) A _ rfl hok2) ?_
    cases hb : (o == op || useL op (ks.take i)) with
    | true =>
      rw [hb] at f5
      simp only [wpA_region, seqQ_normal, blkQ_normal, endI_mk, andThen_normal, goI_out, goI_ops, opsA_nil, opsA_cons, opsA_guardS, gvI_tf, slotAt_zero, slotAt_succ, stepA_move, stepA_assign, stepA_pick, stepA_binOp, thenV_some, pickV_true, eval_tmp, eval_const, put_some, aBin_add, absV_int, absV_bool, Nat.reduceEqDiff, if_true, if_false, f6, f5, w2]
      exact hid_mk ⟨i + 1, ⟨f1, f2, rfl, (show V.bool true = _ by rw [hsn, ← Bool.or_assoc, hb]; rfl), by omega, rfl⟩, by omega⟩
    | false =>
      rw [hb] at f5
      cases hu : useX op A <;>
      · simp only [wpA_region, seqQ_normal, blkQ_normal, endI_mk, andThen_normal, goI_out, goI_ops, opsA_nil, opsA_cons, opsA_guardS, gvI_same, slotAt_zero, slotAt_succ, stepA_move, stepA_assign, stepA_pick, stepA_binOp, thenV_some, pickV_false, eval_tmp, eval_const, put_some, aBin_add, absV_int, absV_bool, Nat.reduceEqDiff, if_true, if_false, f6, f5, w2]
        exact hid_mk ⟨i + 1, ⟨f1, f2, rfl, (show V.bool _ = _ by rw [hsn, ← Bool.or_assoc, hb, hu]; rfl), by omega, rfl⟩, by omega⟩

end Go.Proofs.YtpmmbcifhallbaaDoor.Pk
