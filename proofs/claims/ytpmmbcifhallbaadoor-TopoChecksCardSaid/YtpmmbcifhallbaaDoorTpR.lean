/-
  What functions of the program do, told of abstract states. Conditions: as each theorem says.
-/
import Derived.Test.YtpmmbcifhallbaaDoorTpQ
namespace Go.Proofs.YtpmmbcifhallbaaDoor.Pk
open Go Go.Proofs Go.Proofs.YtpmmbcifhallbaaDoor.Ab
set_option linter.unusedVariables false
set_option linter.unusedSimpArgs false

set_option maxHeartbeats 1000000 in
set_option maxRecDepth 10000 in
theorem pUsersW (l : List Vx) (p v : Int) (hok : OkT l) (hl : l.length ≤ 2 ^ 41) (h : AHeap) : Pure Tryd.prog 19 [.agg (topE l p), .int .i64 v] h (.imm (usF v 0 l).length (i64V (usF v 0 l))) := by
  refine Pure.acc (e := 3) (sz := 1) (i64V_clo _) (by rw [i64V_length, Nat.mul_one]) (by have := usF_len (v := v) (l := l) (j := 0); omega) ?_
  have hc : (V.agg (topE l p)).cells = some [.imm l.length (l.flatMap encX), .int .i64 p] := rfl
  obtain ⟨H, hH⟩ : ∃ x, x = h.push (.cells [.imm l.length (l.flatMap encX), .int .i64 p] 24 none) := ⟨_, rfl⟩
  have gt : H.get h.n = .cells [.imm l.length (l.flatMap encX), .int .i64 p] 24 none := by rw [hH]; exact get_push_new
  have kH : Keep h H none_ := by rw [hH]; exact Keep.push _ _ _
  refine SCalls.enterI (c := _) Tryd.func19 rfl (by kernel_rfl) (by simp) ?_
  simp only [wpA_region, wpA_seq, wpA_block, wpA_loop, seqQ_normal, goI_out, goI_ops, opsA_nil, opsA_cons, stepA_move, stepA_assign, stepA_box, stepA_load, stepA_fieldAddr, stepA_len, thenV_some, thenH_some, eval_tmp, eval_const, put_some, enterF_zero, enterF_succ, absV_int, absV_snil, aField_eq, fieldGo_ptr, aLoad_eq, loadGo_one, aPlace_ptr, dropC_cells, aBox_eq, aLen_imm, Nat.reduceEqDiff, Nat.reduceAdd, Option.map_some, Nat.add_zero, Nat.zero_add, Nat.zero_le, List.length_cons, List.length_nil, List.drop_zero, if_true, if_false, ft_24_0, kt_22, lt_22, hc, ← hH, gt]
  refine SWp.loopG (α := V × Nat) (fun x f h' => f 1 = .int .i64 v ∧ f 5 = x.1 ∧ f 9 = .imm l.length (l.flatMap encX) ∧ f 10 = .int .i64 ((l.length : Nat) : Int) ∧ f 11 = .int .i64 (x.2 : Nat) ∧ x.2 ≤ l.length ∧ Acc h h' 3 1 x.1 (i64V (usF v 0 (l.take x.2)))) (fun x => l.length - x.2) (.snil, 0) ⟨rfl, rfl, rfl, rfl, rfl, Nat.zero_le _, Acc.nil kH⟩ ?_
  rintro ⟨u, i⟩ f h1 ⟨f1, f5, f9, f10, f11, hi, a1⟩
  simp only at f5 f11 hi a1
  refine wpI_sound (by kernel_rfl) ?_
  by_cases hlt : i < l.length
  · have c5 : decide ((i : Int) < ((l.length : Nat) : Int)) = true := by simp only [decide_eq_true_eq]; omega
    obtain ⟨ok1, ok2, _⟩ := hok.2 _ (List.getElem_mem hlt)
    have x0 := rows_ix (kk := .i64) (P := Tryd.prog) encX_len hlt ss_22
    have hsn := usF_snoc v l[i] (l.take i) 0
    rw [← List.take_succ_eq_append_getElem hlt, List.length_take, Nat.min_eq_left (by omega), Nat.zero_add] at hsn
    generalize l[i] = A at *
    have hX := encX_eq A
    have lr : ∀ (q : List V), loadGo (some (some 6)) (some (encX A ++ q)) = some (.agg (encX A)) := fun q => load_row (encX_len A)
    have hone : (V.agg (encX A)).cells = some (encX A) := rfl
    have hset : setC (some 6) (AObj.cells [.int .i64 0, .snil, .int .i64 0, .int .i64 0, .snil, .int .i64 0] 47 none) 0 (encX A) = some (.cells (encX A) 47 none) := by
      rw [setC_row (n := 6) (encX_len A) (encX_one A), if_pos (by decide), hX]; rfl
    have hd1 : dropC (AObj.cells (encX A) 47 none) 1 = some [.imm A.frm.length (i64V A.frm), .int .i64 A.e.op, .int .i64 A.e.num, .imm A.e.ks.length (A.e.ks.flatMap encE), .int .i64 A.n] := by rw [hX]; rfl
    have w2 : IntKind.i64.wrap (((i : Nat) : Int) + 1) = ((i + 1 : Nat) : Int) := by rw [Go.IntWalk.i64_in _ (by omega)]; omega
    have ap := a1.on (Keep.push h1 (.cells (encX A) 47 none) _)
    simp only [wpA_skip, wpA_region, wpA_seq, wpA_cond, wpA_block, condI_true, seqQ_normal, goI_out, goI_ops, opsA_nil, opsA_cons, stepA_move, stepA_assign, stepA_alloc, stepA_load, stepA_store, stepA_binOp, stepA_fieldAddr, stepA_indexAddr, stepA_call, thenV_some, thenH_some, thenS_some, eval_tmp, put_some, put_none, aBin_lss, aField_eq, fieldGo_ptr, aLoad_eq, loadGo_one, aPlace_ptr, aPlace_at, aStore_eq, storeGo_ptr, aAlloc_eq, get_push_new, set_push, Nat.reduceEqDiff, List.map_cons, List.map_nil, Option.map_some, Nat.zero_add, if_true, if_false, ft_47_1, lt_33, lt_47, zc_47, zt_47, f1, f9, f10, f11, c5, x0, lr, hone, hset, hd1]
    refine callI_pure cal42 (pContains A.frm v ok2 _) ?_
    cases hcn : A.frm.contains v
    · rw [hcn, if_neg (by simp), List.append_nil] at hsn
      simp only [wpA_skip, wpA_region, wpA_cond, condI_false, seqQ_normal, blkQ_normal, endI_mk, andThen_normal, goI_out, goI_ops, opsA_nil, opsA_cons, stepA_move, stepA_binOp, thenV_some, eval_tmp, eval_const, put_some, put_none, aBin_add, absV_int, Nat.reduceEqDiff, if_true, if_false, f11, w2]
      exact hid_mk ⟨(u, i + 1), ⟨f1, f5, f9, f10, rfl, by simp only; omega, by simp only; rw [hsn]; exact ap⟩, by simp only; omega⟩
    · rw [hcn, if_pos rfl] at hsn
      obtain ⟨v2, h2, q1, a2⟩ := ap.elem (P := Tryd.prog) sl_33 (by decide) (xs := [.int .i64 (i : Nat)]) rfl rfl (by have := usF_len (v := v) (l := l.take i) (j := 0); simp [i64V_length, lim] at this ⊢; omega) (by have := usF_len (v := v) (l := l.take i) (j := 0); simp [i64V_length, lim] at this ⊢; omega)
      simp only [push_n] at q1
      simp only [wpA_region, wpA_cond, condI_true, seqQ_normal, blkQ_normal, endI_mk, andThen_normal, goI_out, goI_ops, opsA_nil, opsA_cons, stepA_move, stepA_assign, stepA_buildSlice, stepA_binOp, stepA_append, thenV_some, thenH_some, eval_tmp, eval_const, put_some, put_none, aBin_add, absV_int, push_n, Nat.reduceEqDiff, List.map_cons, List.map_nil, if_true, if_false, f5, f11, litI1, push_n, q1, w2]
      exact hid_mk ⟨(v2, i + 1), ⟨f1, rfl, f9, f10, rfl, by simp only; omega, by simp only; rw [hsn, i64V_append]; exact a2⟩, by simp only; omega⟩
  · have c5 : decide ((i : Int) < ((l.length : Nat) : Int)) = false := by simp only [decide_eq_false_iff_not]; omega
    rw [List.take_of_length_le (by omega)] at a1
    simp only [wpA_region, wpA_seq, wpA_cond, wpA_exit, wpA_ret, condI_false, seqQ_normal, seqQ_exit, blkQ_exit, endI_mk, goE, andThen_exit, goI_out, goI_ops, opsA_nil, opsA_cons, stepA_move, stepA_assign, stepA_binOp, thenV_some, eval_tmp, put_some, aBin_lss, Nat.reduceEqDiff, if_true, if_false, f5, f10, f11, c5, retA_ret, Tryd.results19, resultsA_1]
    exact hid_mk a1
set_option linter.unusedVariables false
set_option linter.unusedSimpArgs false
set_option maxRecDepth 10000 in
theorem pSameI (a b : List Int) (h : AHeap) (ha : a.length ≤ 2 ^ 60) : Pure Tryd.prog 18 [.imm a.length (i64V a), .imm b.length (i64V b)] h (.bool (decide (a = b))) := by
  refine Pure.val (Clo.bool _) ?_
  refine SCalls.enterI (c := _) Tryd.func18 rfl (by kernel_rfl) (by simp) ?_
  by_cases hne : a.length = b.length
  rotate_left
  · have c1 : (((a.length : Nat) : Int) != ((b.length : Nat) : Int)) = true := by simp; omega
    have hG : decide (a = b) = false := by simp only [decide_eq_false_iff_not]; rintro rfl; exact hne rfl
    simp only [wpA_region, wpA_seq, wpA_cond, wpA_ret, condI_true, seqQ_normal, seqQ_ret, endI_mk, goI_out, goI_ops, opsA_nil, opsA_cons, stepA_move, stepA_assign, stepA_binOp, stepA_len, thenV_some, eval_tmp, eval_const, put_some, enterF_zero, enterF_succ, aBin_neq, absV_bool, aLen_imm, Nat.reduceEqDiff, reduceCtorEq, if_true, if_false, kt_33, c1, retA_ret, Tryd.results18, resultsA_1]
    exact hid_mk ⟨by rw [hG], Keep.refl _ _⟩
  have c1 : (((a.length : Nat) : Int) != ((b.length : Nat) : Int)) = false := by simp [hne]
  simp only [wpA_skip, wpA_region, wpA_seq, wpA_cond, wpA_block, wpA_loop, condI_false, seqQ_normal, goI_out, goI_ops, opsA_nil, opsA_cons, stepA_move, stepA_assign, stepA_binOp, stepA_len, thenV_some, eval_tmp, eval_const, put_some, enterF_zero, enterF_succ, aBin_neq, absV_int, absV_bool, aLen_imm, Nat.reduceEqDiff, reduceCtorEq, if_true, if_false, kt_33, c1]
  refine SWp.loopG (α := Nat) (fun i f h' => f 0 = .imm a.length (i64V a) ∧ f 1 = .imm b.length (i64V b) ∧ f 5 = .int .i64 (i : Nat) ∧ Keep h h' none_ ∧ i ≤ a.length ∧ a.take i = b.take i) (fun i => a.length - i) 0
    ⟨rfl, rfl, rfl, Keep.refl _ _, Nat.zero_le _, rfl⟩ ?_
  rintro i f h1 ⟨f0, f1, f5, k1, hi, hT⟩
  refine wpI_sound (by kernel_rfl) ?_
  by_cases hlt : i < a.length
  rotate_left
  · have c3 : decide ((i : Int) < ((a.length : Nat) : Int)) = false := decide_eq_false (by omega)
    rw [List.take_of_length_le (by omega), List.take_of_length_le (by omega)] at hT
    simp only [wpA_region, wpA_seq, wpA_cond, wpA_exit, wpA_ret, condI_false, seqQ_normal, seqQ_exit, blkQ_exit, endI_mk, goE, andThen_exit, goI_out, goI_ops, opsA_nil, opsA_cons, stepA_move, stepA_assign, stepA_binOp, stepA_len, thenV_some, eval_tmp, eval_const, put_some, aBin_lss, absV_bool, aLen_imm, Nat.reduceEqDiff, reduceCtorEq, if_true, if_false, kt_33, f0, f5, c3, retA_ret, Tryd.results18, resultsA_1]
    exact hid_mk ⟨by rw [hT]; simp, k1⟩
  · have c3 : decide ((i : Int) < ((a.length : Nat) : Int)) = true := decide_eq_true (by omega)
    have hltb : i < b.length := by omega
    have w1 : IntKind.i64.wrap ((i : Int) + 1) = ((i + 1 : Nat) : Int) := by rw [Go.IntWalk.i64_in _ (by omega)]; omega
    have x0 : ∃ r, aIndexAddr Tryd.prog 33 (.imm a.length (i64V a)) (.int .i64 (i : Int)) = some (.at (.int .i64 a[i] :: r)) := ⟨_, Ab.row_ix (V.int .i64) hlt ss_33⟩
    have x1 : ∃ r, aIndexAddr Tryd.prog 33 (.imm b.length (i64V b)) (.int .i64 (i : Int)) = some (.at (.int .i64 b[i] :: r)) := ⟨_, Ab.row_ix (V.int .i64) hltb ss_33⟩
    obtain ⟨r0, x0⟩ := x0
    obtain ⟨r1, x1⟩ := x1
    have hT2 : a[i] = b[i] → a.take (i + 1) = b.take (i + 1) := fun heq => by rw [List.take_succ_eq_append_getElem hlt, List.take_succ_eq_append_getElem hltb, hT, heq]
    have hG2 : ¬ a[i] = b[i] → decide (a = b) = false := fun heq => by simp only [decide_eq_false_iff_not]; rintro rfl; exact heq rfl
    generalize a[i] = A at x0 hT2 hG2
    generalize b[i] = B at x1 hT2 hG2
    simp only [wpA_skip, wpA_region, wpA_seq, wpA_cond, wpA_block, wpA_draw, condI_true, seqQ_normal, goI_out, goI_ops, opsA_nil, opsA_cons, stepA_move, stepA_binOp, stepA_len, thenV_some, eval_tmp, put_some, aBin_lss, aLen_imm, Nat.reduceEqDiff, reduceCtorEq, if_true, if_false, kt_33, f0, f5, c3]
    refine SWp.drawnS none_ [] (.q 0 (.q 1 (.q 2 (.q 3 (.q 4 (.q 5 (.q 6 (.q 7 (.q 8 .done))))))))) (by kernel_rfl) (by kernel_rfl) (by kernel_rfl) ?_
    by_cases heq : A = B
    · have n1 : (A != B) = false := by simp [heq]
      simp only [siI_done, siI_q, sqI_some, mOk_none', implies_true, qI_nil, qI_cons, thenQ_some, q_move, q_load, q_binOp, q_indexAddr, wpA_skip, wpA_region, wpA_cond, condI_false, seqQ_normal, blkQ_normal, endI_mk, andThen_normal, goI_out, goI_ops, goI_mk, opsA_nil, opsA_cons, stepA_move, stepA_assign, stepA_binOp, thenV_some, eval_tmp, eval_const, put_some, aBin_add, aBin_neq, absV_int, aLoad_eq, loadGo_one, aPlace_at, List.getElem?_cons_zero, List.getElem?_cons_succ, Nat.reduceEqDiff, reduceCtorEq, true_and, if_true, if_false, lt_3, f0, f1, f5, x0, x1, n1, w1]
      exact hid_mk ⟨i + 1, ⟨f0, f1, rfl, k1, by omega, hT2 heq⟩, by omega⟩
    · have n1 : (A != B) = true := by simp [heq]
      simp only [siI_done, siI_q, sqI_some, mOk_none', implies_true, qI_nil, qI_cons, thenQ_some, q_move, q_load, q_binOp, q_indexAddr, wpA_region, wpA_seq, wpA_cond, wpA_ret, condI_true, seqQ_normal, seqQ_ret, blkQ_ret, endI_mk, goE, andThen_ret, goI_out, goI_ops, goI_mk, opsA_nil, opsA_cons, stepA_assign, eval_tmp, eval_const, put_some, aBin_neq, absV_bool, aLoad_eq, loadGo_one, aPlace_at, List.getElem?_cons_zero, List.getElem?_cons_succ, Nat.reduceEqDiff, reduceCtorEq, true_and, if_true, if_false, lt_3, f0, f1, f5, x0, x1, n1, retA_ret, Tryd.results18, resultsA_1]
      exact hid_mk ⟨by rw [hG2 heq], k1⟩
set_option maxHeartbeats 1000000 in
set_option maxRecDepth 10000 in
theorem topoChecks (l : List Vx) (p v : Int) (hok : OkT l) (hlen : l.length ≤ 2 ^ 41) (h : AHeap) (hg : TG h) : SCalls Tryd.prog 3 [.agg (topE l p), .int .i64 v] h (fun r h' => r = .bool true) := by
  have hc : (V.agg (topE l p)).cells = some [.imm l.length (l.flatMap encX), .int .i64 p] := rfl
  obtain ⟨H, hH⟩ : ∃ x, x = h.push (.cells [.imm l.length (l.flatMap encX), .int .i64 p] 24 none) := ⟨_, rfl⟩
  have gt : H.get h.n = .cells [.imm l.length (l.flatMap encX), .int .i64 p] 24 none := by rw [hH]; exact get_push_new
  have kH : Keep h H none_ := by rw [hH]; exact Keep.push _ _ _
  have tH := hg.keep kH
  refine SCalls.enterI (c := _) Tryd.func3 rfl (by kernel_rfl) (by simp) ?_
  simp only [wpA_region, wpA_seq, seqQ_normal, goI_out, goI_ops, opsA_nil, opsA_cons, stepA_assign, stepA_box, stepA_call, thenH_some, eval_tmp, eval_const, enterF_zero, absV_bool, aBox_eq, List.map_nil, Option.map_some, hc, ← hH]
  refine callI_pure cal14 (pShown5 H tH) ?_
  simp only [wpA_region, wpA_seq, seqQ_normal, goI_out, goI_ops, opsA_nil, opsA_cons, stepA_assign, stepA_load, stepA_call, thenV_some, eval_tmp, put_some, enterF_succ, aLoad_eq, loadGo_row, aPlace_ptr, dropC_cells, Nat.reduceEqDiff, Nat.reduceAdd, List.map_cons, List.map_nil, Nat.zero_add, Nat.zero_le, List.length_cons, List.length_nil, List.drop_zero, List.take_succ_cons, List.take_nil, if_true, if_false, Nat.le_refl, lt_24, gt]
  refine callI_pure cal15 (pSmallT l p hok H) ?_
  cases c1 : decide (smF 0 l ≤ 5000)
  · simp only [wpA_region, wpA_seq, wpA_cond, wpA_ret, condI_true, seqQ_normal, seqQ_ret, endI_mk, goI_out, goI_ops, opsA_nil, opsA_cons, stepA_move, stepA_assign, stepA_unOp, thenV_some, eval_tmp, put_some, enterF_succ, aUn_not, Nat.reduceEqDiff, if_true, if_false, Bool.not_false, retA_ret, Tryd.results3, resultsA_1]
    exact hid_mk rfl
  simp only [wpA_skip, wpA_region, wpA_seq, wpA_cond, condI_false, seqQ_normal, goI_out, goI_ops, opsA_nil, opsA_cons, stepA_load, stepA_unOp, stepA_call, thenV_some, eval_tmp, put_some, enterF_succ, aUn_not, aLoad_eq, loadGo_row, aPlace_ptr, dropC_cells, Nat.reduceEqDiff, Nat.reduceAdd, List.map_cons, List.map_nil, Nat.zero_add, Nat.zero_le, List.length_cons, List.length_nil, List.drop_zero, List.take_succ_cons, List.take_nil, if_true, if_false, Bool.not_true, Nat.le_refl, lt_24, gt]
  refine callI_pure cal16 (pCheck l p hok H tH) ?_
  simp only [wpA_region, wpA_seq, seqQ_normal, goI_out, goI_ops, opsA_nil, opsA_cons, stepA_move, stepA_assign, stepA_load, stepA_extract, stepA_call, thenV_some, extV_zero, extV_succ, eval_tmp, put_some, enterF_succ, aLoad_eq, loadGo_row, aPlace_ptr, dropC_cells, Nat.reduceEqDiff, Nat.reduceAdd, List.map_cons, List.map_nil, Nat.zero_add, Nat.zero_le, List.length_cons, List.length_nil, List.drop_zero, List.take_succ_cons, List.take_nil, if_true, if_false, Nat.le_refl, lt_24, chkA, gt]
  refine callI_pure cal17 (pCheckR l p hok H) ?_
  simp only [wpA_seq, wpA_draw, seqQ_normal, goI_out, goI_ops, opsA_nil, opsA_cons, stepA_move, stepA_assign, stepA_extract, thenV_some, extV_zero, extV_succ, eval_tmp, put_some, enterF_succ, Nat.reduceEqDiff, if_true, if_false, chkA]
  have hul := usF_len (v := v) (l := l) (j := 0)
  have x1 : ((chkT p l).1 == (chkT p l).1) = true := by simp
  have x2 : ((chkT p l).2 == (chkT p l).2) = true := by simp
  have hag : V.agg [.imm l.length (l.flatMap encX), .int .i64 p] = .agg (topE l p) := rfl
  refine SWp.drawnS none_ [] (.q 0 (.q 1 (.q 2 (.q 3 (.q 4 (.q 5 (.q 6 (.q 7 (.q 8 (.q 9 (.q 10 (.q 11 (.q 12 (.q 13 (.c 14 (.q 15 (.q 16 (.c 17 (.c 18 (.q 19 (.q 20 .done))))))))))))))))))))) (by kernel_rfl) (by kernel_rfl) (by kernel_rfl) ?_
  simp only [siI_q, sqI_some, mOk_none', implies_true, qI_nil, qI_cons, qI_guard, qgI_same, thenQ_some, q_move, q_pick, q_load, q_binOp, goI_mk, slotAt_zero, slotAt_succ, pickV_true, eval_tmp, eval_const, put_some, enterF_zero, enterF_succ, aBin_eql, absV_bool, aLoad_eq, loadGo_row, aPlace_ptr, dropC_cells, List.getElem?_cons_zero, List.getElem?_cons_succ, beq_self_eq_true, Nat.reduceEqDiff, Nat.reduceAdd, Nat.zero_add, Nat.zero_le, List.length_cons, List.length_nil, List.drop_zero, List.take_succ_cons, List.take_nil, true_and, if_true, if_false, Nat.le_refl, lt_24, gt]
  refine siI_c rfl rfl rfl (fun h' hk => pUsersW l p v hok hlen h') ?_
  simp only [siI_q, sqI_some, mOk_none', implies_true, qI_nil, qI_guard, qgI_same, thenQ_some, q_move, q_load, goI_mk, slotAt_zero, slotAt_succ, eval_tmp, put_some, enterF_zero, enterF_succ, aLoad_eq, loadGo_row, aPlace_ptr, dropC_cells, List.getElem?_cons_zero, List.getElem?_cons_succ, Nat.reduceEqDiff, Nat.reduceAdd, Nat.zero_add, Nat.zero_le, List.length_cons, List.length_nil, List.drop_zero, List.take_succ_cons, List.take_nil, true_and, if_true, if_false, Nat.le_refl, lt_24, gt]
  refine siI_c rfl rfl rfl (fun h' hk => pUsersR l p v hok hlen h') ?_
  simp only [false_implies]
  refine siI_c rfl rfl rfl (fun h' hk => pSameI _ _ h' (by omega)) ?_
  simp only [siI_done, siI_q, sqI_some, mOk_none', implies_true, qI_nil, qI_cons, thenQ_some, q_assign, q_pick, wpA_ret, seqQ_normal, endI_mk, goI_out, goI_mk, pickV_true, eval_tmp, eval_const, put_some, enterF_succ, absV_bool, List.getElem?_cons_zero, List.getElem?_cons_succ, decide_true, Nat.reduceEqDiff, true_and, if_true, if_false, decide_true, retA_ret, Tryd.results3, resultsA_1]
  exact hid_mk rfl
end Go.Proofs.YtpmmbcifhallbaaDoor.Pk
