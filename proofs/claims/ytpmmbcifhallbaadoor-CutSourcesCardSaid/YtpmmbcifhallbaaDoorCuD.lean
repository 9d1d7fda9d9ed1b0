/-
  What functions of the program do, told of abstract states. Conditions: as each theorem says.
-/
import Derived.Test.YtpmmbcifhallbaaDoorCuC
namespace Go.Proofs.YtpmmbcifhallbaaDoor.Pk
open Go Go.Proofs Go.Proofs.YtpmmbcifhallbaaDoor.Ab
set_option linter.unusedVariables false
set_option linter.unusedSimpArgs false

set_option maxRecDepth 10000 in
theorem pSmall16 (l : List Vx) (p : Int) (hok : OkT l) (h : AHeap) : Pure Tryd.prog 26 [.agg (topE l p)] h (.bool (decide (smF 0 l ≤ 5000))) := by
  refine Pure.val (Clo.bool _) ?_
  have hc : (V.agg (topE l p)).cells = some [.imm l.length (l.flatMap encX), .int .i64 p] := rfl
  obtain ⟨H, hH⟩ : ∃ x, x = h.push (.cells [.imm l.length (l.flatMap encX), .int .i64 p] 24 none) := ⟨_, rfl⟩
  have gt : H.get h.n = .cells [.imm l.length (l.flatMap encX), .int .i64 p] 24 none := by rw [hH]; exact get_push_new
  have kH : Keep h H none_ := by rw [hH]; exact Keep.push _ _ _
  have hll := hok.1
  refine SCalls.enterI (c := _) Tryd.func26 rfl (by kernel_rfl) (by simp) ?_
  simp only [wpA_region, wpA_seq, wpA_block, wpA_loop, seqQ_normal, goI_out, goI_ops, opsA_nil, opsA_cons, stepA_assign, stepA_box, thenH_some, eval_tmp, eval_const, enterF_zero, absV_int, absV_bool, aBox_eq, Option.map_some, hc, ← hH]
  refine SWp.loopG (α := Nat × Int) (fun x f h' => f 1 = .ptr h.n 0 ∧ f 4 = .int .i64 (x.1 : Nat) ∧ f 3 = .int .i64 x.2 ∧ x.1 ≤ l.length ∧ h' = H ∧ smF 0 l = smF x.2 (l.drop x.1)) (fun x => l.length - x.1) (0, 0) ⟨rfl, rfl, rfl, Nat.zero_le _, rfl, rfl⟩ ?_
  rintro ⟨i, n⟩ f h1 ⟨f1, f4, f3, hi, rfl, hE⟩
  simp only at f4 f3 hi hE
  refine wpI_sound (by kernel_rfl) ?_
  by_cases hlt : i < l.length
  · have c5 : decide ((i : Int) < ((l.length : Nat) : Int)) = true := by simp only [decide_eq_true_eq]; omega
    rw [List.drop_eq_getElem_cons hlt, smF] at hE
    obtain ⟨ok1, ok2, _⟩ := hok.2 _ (List.getElem_mem hlt)
    have x0 := rows_ix (kk := .i64) (P := Tryd.prog) encX_len hlt ss_22
    generalize l[i] = v at *
    have w2 : IntKind.i64.wrap (((i : Nat) : Int) + 1) = ((i + 1 : Nat) : Int) := by rw [Go.IntWalk.i64_in _ (by omega)]; omega
    by_cases h5 : n ≤ 5000
    · have c6 : decide (n ≤ 5000) = true := by simpa using h5
      rw [if_pos h5] at hE
      have hd : (if 2 ≤ (encX v ++ (l.drop (i + 1)).flatMap encX).length then some (V.at ((encX v ++ (l.drop (i + 1)).flatMap encX).drop 2)) else none) = some (V.at (encE v.e ++ ([.int .i64 v.n] ++ (l.drop (i + 1)).flatMap encX))) := by
        rw [if_pos (by rw [List.length_append, encX_len]; omega)]
        simp [encX]
      have hld : ∀ r, loadGo (some (some 3)) (some (encE v.e ++ r)) = some (.agg (encE v.e)) := fun r => load_row (encE_len v.e)
      simp only [wpA_skip, wpA_region, wpA_seq, wpA_cond, wpA_block, condI_true, seqQ_normal, goI_out, goI_ops, opsA_nil, opsA_cons, opsA_guardS, gvI_same, slotAt_zero, slotAt_succ, stepA_move, stepA_pick, stepA_load, stepA_binOp, stepA_fieldAddr, stepA_indexAddr, stepA_len, stepA_call, thenV_some, pickV_true, eval_tmp, eval_const, put_some, aBin_lss, aBin_leq, absV_int, absV_bool, aField_eq, fieldGo_ptr, fieldGo_at, aLoad_eq, loadGo_one, aPlace_ptr, aPlace_at, dropC_cells, aLen_imm, Nat.reduceEqDiff, Nat.reduceAdd, List.map_cons, List.map_nil, Nat.add_zero, Nat.zero_add, Nat.zero_le, List.length_cons, List.length_nil, List.drop_zero, List.nil_append, List.cons_append, if_true, if_false, ft_24_0, ft_47_2, kt_22, lt_22, lt_45, f1, f4, f3, c5, c6, gt, x0, hd, hld]
      refine callI_pure cal24 (pCountR _ v.e _ rfl ok1) ?_
      simp only [wpA_region, seqQ_normal, blkQ_normal, endI_mk, andThen_normal, goI_out, goI_ops, opsA_nil, opsA_cons, stepA_move, stepA_assign, stepA_binOp, thenV_some, eval_tmp, eval_const, put_some, aBin_add, absV_int, Nat.reduceEqDiff, if_true, if_false, f4, w2]
      exact hid_mk ⟨(i + 1, _), ⟨f1, rfl, rfl, by simp only; omega, rfl, hE⟩, by simp only; omega⟩
    · have c6 : decide (n ≤ 5000) = false := by simpa using h5
      rw [if_neg h5] at hE
      simp only [wpA_region, wpA_seq, wpA_cond, wpA_exit, wpA_ret, condI_false, seqQ_normal, seqQ_exit, blkQ_exit, endI_mk, goE, andThen_exit, goI_out, goI_ops, opsA_nil, opsA_cons, opsA_guardS, gvI_same, slotAt_zero, slotAt_succ, stepA_move, stepA_assign, stepA_pick, stepA_load, stepA_binOp, stepA_fieldAddr, stepA_len, thenV_some, pickV_true, eval_tmp, eval_const, put_some, aBin_lss, aBin_leq, absV_int, absV_bool, aField_eq, fieldGo_ptr, aLoad_eq, loadGo_one, aPlace_ptr, dropC_cells, aLen_imm, Nat.reduceEqDiff, Nat.reduceAdd, Nat.add_zero, Nat.zero_add, Nat.zero_le, List.length_cons, List.length_nil, List.drop_zero, if_true, if_false, ft_24_0, kt_22, lt_22, f1, f4, f3, c5, c6, gt, retA_ret, Tryd.results26, resultsA_1]
      exact hid_mk ⟨by rw [hE, c6], kH⟩
  · have c5 : decide ((i : Int) < ((l.length : Nat) : Int)) = false := by simp only [decide_eq_false_iff_not]; omega
    rw [List.drop_of_length_le (by omega), smF] at hE
    simp only [wpA_region, wpA_seq, wpA_cond, wpA_exit, wpA_ret, condI_false, seqQ_normal, seqQ_exit, blkQ_exit, endI_mk, goE, andThen_exit, goI_out, goI_ops, opsA_nil, opsA_cons, opsA_guardS, gvI_ft, slotAt_zero, slotAt_succ, stepA_move, stepA_assign, stepA_pick, stepA_load, stepA_binOp, stepA_fieldAddr, stepA_len, thenV_some, pickV_false, eval_tmp, eval_const, put_some, aBin_lss, aBin_leq, absV_int, absV_bool, aField_eq, fieldGo_ptr, aLoad_eq, loadGo_one, aPlace_ptr, dropC_cells, aLen_imm, Nat.reduceEqDiff, Nat.reduceAdd, Nat.add_zero, Nat.zero_add, Nat.zero_le, List.length_cons, List.length_nil, List.drop_zero, if_true, if_false, ft_24_0, kt_22, lt_22, f1, f4, f3, c5, gt, retA_ret, Tryd.results26, resultsA_1]
    exact hid_mk ⟨by rw [hE], kH⟩


theorem pValid (l : List Vx) (p : Int) (hok : OkT l) (h : AHeap) (hg : TG h) : Pure Tryd.prog 59 [.agg (topE l p)] h (.bool ((chkT p l).2 == 0)) := by
  refine Pure.val (Clo.bool _) ?_
  have hc : (V.agg (topE l p)).cells = some [.imm l.length (l.flatMap encX), .int .i64 p] := rfl
  obtain ⟨H, hH⟩ : ∃ x, x = h.push (.cells [.imm l.length (l.flatMap encX), .int .i64 p] 24 none) := ⟨_, rfl⟩
  have gt : H.get h.n = .cells [.imm l.length (l.flatMap encX), .int .i64 p] 24 none := by rw [hH]; exact get_push_new
  have kH : Keep h H none_ := by rw [hH]; exact Keep.push _ _ _
  refine SCalls.enterI (c := _) Tryd.func59 rfl (by kernel_rfl) (by simp) ?_
  simp only [wpA_region, wpA_seq, seqQ_normal, goI_out, goI_ops, opsA_nil, opsA_cons, stepA_assign, stepA_box, stepA_load, stepA_call, thenV_some, thenH_some, eval_tmp, eval_const, put_some, enterF_zero, enterF_succ, absV_bool, aLoad_eq, loadGo_row, aPlace_ptr, dropC_cells, aBox_eq, Nat.reduceEqDiff, Nat.reduceAdd, List.map_cons, List.map_nil, Option.map_some, Nat.zero_add, Nat.zero_le, List.length_cons, List.length_nil, List.drop_zero, List.take_succ_cons, List.take_nil, if_true, if_false, Nat.le_refl, lt_24, hc, ← hH, gt]
  refine callI_pure cal16 (pCheck l p hok H (hg.keep kH)) ?_
  simp only [wpA_region, wpA_seq, wpA_ret, seqQ_normal, endI_mk, goI_out, goI_ops, opsA_nil, opsA_cons, stepA_move, stepA_assign, stepA_binOp, stepA_extract, thenV_some, extV_zero, extV_succ, eval_tmp, eval_const, put_some, enterF_succ, aBin_eql, absV_int, Nat.reduceEqDiff, if_true, if_false, chkA, retA_ret, Tryd.results59, resultsA_1]
  exact hid_mk ⟨rfl, kH⟩
def partK (p : Int) (l : List Vx) (key : Int) : Int := if (chkT p l).2 = 0 then (if key.tmod p < 0 then key.tmod p + p else key.tmod p) else -1
theorem tmod_rng {a p : Int} (h1 : 1 ≤ p) : -p < a.tmod p ∧ a.tmod p < p := by
  have e := Int.tmod_lt_of_pos a (show (0 : Int) < p by omega)
  have e2 := Int.tmod_lt_of_pos (-a) (show (0 : Int) < p by omega)
  rw [Int.neg_tmod] at e2
  omega
set_option maxRecDepth 10000 in
theorem pPart (l : List Vx) (p key : Int) (hok : OkT l) (h : AHeap) (hg : TG h) : Pure Tryd.prog 37 [.agg (topE l p), .int .i64 key] h (.int .i64 (partK p l key)) := by
  refine Pure.val (Clo.int _ _) ?_
  have hc : (V.agg (topE l p)).cells = some [.imm l.length (l.flatMap encX), .int .i64 p] := rfl
  obtain ⟨H, hH⟩ : ∃ x, x = h.push (.cells [.imm l.length (l.flatMap encX), .int .i64 p] 24 none) := ⟨_, rfl⟩
  have gt : H.get h.n = .cells [.imm l.length (l.flatMap encX), .int .i64 p] 24 none := by rw [hH]; exact get_push_new
  have kH : Keep h H none_ := by rw [hH]; exact Keep.push _ _ _
  refine SCalls.enterI (c := _) Tryd.func37 rfl (by kernel_rfl) (by simp) ?_
  simp only [wpA_region, wpA_seq, seqQ_normal, goI_out, goI_ops, opsA_nil, opsA_cons, stepA_assign, stepA_box, stepA_load, stepA_call, thenV_some, thenH_some, eval_tmp, eval_const, put_some, enterF_zero, enterF_succ, absV_int, aLoad_eq, loadGo_row, aPlace_ptr, dropC_cells, aBox_eq, Int.reduceNeg, Nat.reduceEqDiff, Nat.reduceAdd, List.map_cons, List.map_nil, Option.map_some, Nat.zero_add, Nat.zero_le, List.length_cons, List.length_nil, List.drop_zero, List.take_succ_cons, List.take_nil, if_true, if_false, Nat.le_refl, lt_24, hc, ← hH, gt]
  refine callI_pure cal59 (pValid l p hok H (hg.keep kH)) ?_
  by_cases h0 : (chkT p l).2 = 0
  rotate_left
  · have c2 : ((chkT p l).2 == 0) = false := by simp [h0]
    simp only [wpA_region, wpA_seq, wpA_cond, wpA_ret, condI_true, seqQ_normal, seqQ_ret, endI_mk, goI_out, goI_ops, opsA_nil, opsA_cons, stepA_assign, stepA_unOp, thenV_some, eval_tmp, eval_const, put_some, enterF_succ, aUn_not, absV_int, Int.reduceNeg, Nat.reduceEqDiff, if_true, if_false, Bool.not_false, c2, retA_ret, Tryd.results37, resultsA_1]
    exact hid_mk ⟨by rw [partK, if_neg h0], kH⟩
  have c2 : ((chkT p l).2 == 0) = true := by simp [h0]
  obtain ⟨_, hp, _⟩ := chk_ok h0
  obtain ⟨t1, t2⟩ := tmod_rng (a := key) hp.1
  by_cases hn : key.tmod p < 0
  · have c3 : decide (key.tmod p < 0) = true := by simpa using hn
    have w1 : IntKind.i64.wrap (key.tmod p + p) = key.tmod p + p := Go.IntWalk.i64_in _ (by omega)
    simp only [wpA_skip, wpA_region, wpA_seq, wpA_cond, wpA_ret, condI_true, condI_false, seqQ_normal, endI_mk, goI_out, goI_ops, opsA_nil, opsA_cons, stepA_move, stepA_assign, stepA_load, stepA_binOp, stepA_unOp, stepA_fieldAddr, thenV_some, eval_tmp, eval_const, put_some, enterF_zero, enterF_succ, aBin_add, aBin_lss, aUn_not, absV_int, aField_eq, fieldGo_ptr, aLoad_eq, loadGo_one, aPlace_ptr, dropC_cells, Int.reduceNeg, Nat.reduceEqDiff, Nat.reduceAdd, Nat.reduceLeDiff, Nat.zero_add, List.length_cons, List.length_nil, List.drop_zero, List.drop_succ_cons, if_true, if_false, Bool.not_true, ft_24_1, lt_3, c2, gt, aBin_rem (show p ≠ 0 by omega), c3, w1, retA_ret, Tryd.results37, resultsA_1]
    exact hid_mk ⟨by rw [partK, if_pos h0, if_pos hn], kH⟩
  · have c3 : decide (key.tmod p < 0) = false := by simpa using hn
    simp only [wpA_skip, wpA_region, wpA_seq, wpA_cond, wpA_ret, condI_false, seqQ_normal, endI_mk, goI_out, goI_ops, opsA_nil, opsA_cons, stepA_move, stepA_assign, stepA_load, stepA_binOp, stepA_unOp, stepA_fieldAddr, thenV_some, eval_tmp, eval_const, put_some, enterF_zero, enterF_succ, aBin_lss, aUn_not, absV_int, aField_eq, fieldGo_ptr, aLoad_eq, loadGo_one, aPlace_ptr, dropC_cells, Int.reduceNeg, Nat.reduceEqDiff, Nat.reduceAdd, Nat.reduceLeDiff, Nat.zero_add, List.length_cons, List.length_nil, List.drop_zero, List.drop_succ_cons, if_true, if_false, Bool.not_true, ft_24_1, lt_3, c2, gt, aBin_rem (show p ≠ 0 by omega), c3, retA_ret, Tryd.results37, resultsA_1]
    exact hid_mk ⟨by rw [partK, if_pos h0, if_neg hn], kH⟩
def mx : Int → List Int → Int
  | a, [] => a
  | a, b :: r => mx (max a b) r
theorem mx_snoc (b : Int) : ∀ (a : Int) (r : List Int), mx a (r ++ [b]) = max (mx a r) b
  | a, [] => rfl
  | a, c :: r => mx_snoc b (max a c) r
set_option maxRecDepth 10000 in
theorem pMax (L : List Int) (a : Int) (r : List Int) (hL : L = a :: r) (hl : L.length < 2 ^ 40) (h : AHeap) : Pure Tryd.prog 54 [.imm L.length (i64V L)] h (.int .i64 (mx a r)) := by
  refine Pure.val (Clo.int _ _) ?_
  have hpos : 0 < L.length := by rw [hL]; simp
  have hn : L.length = r.length + 1 := by rw [hL]; rfl
  refine SCalls.enterI (c := _) Tryd.func54 rfl (by kernel_rfl) (by simp) ?_
  have c0 : decide (((L.length : Nat) : Int) < 1) = false := by simp only [decide_eq_false_iff_not]; omega
  have x0 : (if (0 : Int) < ((L.length : Nat) : Int) ∧ Int.toNat 0 * 1 ≤ (i64V L).length then some (V.at (List.drop (Int.toNat 0 * 1) (i64V L))) else none) = some (V.at (.int .i64 a :: i64V r)) := by
    rw [if_pos ⟨by omega, by simp⟩, hL]; rfl
  simp only [wpA_skip, wpA_region, wpA_seq, wpA_cond, wpA_block, wpA_loop, condI_false, seqQ_normal, goI_out, goI_ops, opsA_nil, opsA_cons, stepA_move, stepA_assign, stepA_load, stepA_binOp, stepA_indexAddr, stepA_len, thenV_some, eval_tmp, eval_const, put_some, enterF_zero, enterF_succ, aBin_lss, absV_int, aLoad_eq, loadGo_one, aPlace_at, aIndexAddr_eq, ixGo_imm, aLen_imm, Int.reduceLE, Nat.reduceEqDiff, reduceCtorEq, true_and, if_true, if_false, as_33, kt_33, lt_3, ss_33, c0, x0]
  refine SWp.loopG (α := Nat) (fun i f h' => f 0 = .imm L.length (i64V L) ∧ f 3 = .int .i64 (mx a (r.take i)) ∧ f 4 = .int .i64 ((i + 1 : Nat) : Int) ∧ i ≤ r.length ∧ h' = h) (fun i => r.length - i) 0 ⟨rfl, rfl, rfl, Nat.zero_le _, rfl⟩ ?_
  rintro i f h1 ⟨f0, f3, f4, hi, rfl⟩
  refine wpI_sound (by kernel_rfl) ?_
  by_cases hlt : i < r.length
  · have c1 : decide (((i + 1 : Nat) : Int) < ((L.length : Nat) : Int)) = true := by simp only [decide_eq_true_eq]; omega
    have x1 := i64V_ix' (P := Tryd.prog) (kk := .i64) (l := L) (k := i + 1) (by omega) ss_33
    have hg : L[i + 1]'(by omega) = r[i] := by subst hL; rfl
    have hsn : r.take (i + 1) = r.take i ++ [r[i]] := List.take_succ_eq_append_getElem hlt
    rw [hg] at x1
    generalize r[i] = B at x1 hsn
    have w2 : IntKind.i64.wrap (((i + 1 : Nat) : Int) + 1) = ((i + 1 + 1 : Nat) : Int) := by rw [Go.IntWalk.i64_in _ (by omega)]; omega
    simp only [wpA_skip, wpA_region, wpA_seq, wpA_cond, wpA_block, condI_true, seqQ_normal, blkQ_normal, endI_mk, andThen_normal, goI_out, goI_ops, opsA_nil, opsA_cons, stepA_move, stepA_assign, stepA_load, stepA_binOp, stepA_indexAddr, stepA_len, stepA_max, thenV_some, eval_tmp, eval_const, put_some, aBin_add, aBin_lss, mmV_max, absV_int, aLoad_eq, loadGo_one, aPlace_at, aLen_imm, Nat.reduceEqDiff, reduceCtorEq, if_true, if_false, kt_33, lt_3, f0, f3, f4, c1, x1, w2]
    exact hid_mk ⟨i + 1, ⟨f0, by rw [hsn, mx_snoc]; rfl, rfl, by omega, rfl⟩, by omega⟩
  · have c1 : decide (((i + 1 : Nat) : Int) < ((L.length : Nat) : Int)) = false := by simp only [decide_eq_false_iff_not]; omega
    rw [List.take_of_length_le (by omega)] at f3
    simp only [wpA_region, wpA_seq, wpA_cond, wpA_exit, wpA_ret, condI_false, seqQ_normal, seqQ_exit, blkQ_exit, endI_mk, goE, andThen_exit, goI_out, goI_ops, opsA_nil, opsA_cons, stepA_move, stepA_assign, stepA_binOp, stepA_len, thenV_some, eval_tmp, put_some, aBin_lss, aLen_imm, Nat.reduceEqDiff, reduceCtorEq, if_true, if_false, kt_33, f0, f3, f4, c1, retA_ret, Tryd.results54, resultsA_1]
    exact hid_mk ⟨rfl, Keep.refl _ _⟩
def tasksX (p : Int) (l : List Vx) : Int := if (chkT p l).2 = 0 then IntKind.i64.wrap (IntKind.i64.wrap (mx ((partsX p l).headD 0) (partsX p l).tail + 1) * p) else 0
theorem partsX_len {p : Int} {l : List Vx} (h0 : (chkT p l).2 = 0) : (partsX p l).length = l.length := by
  unfold partsX
  rw [if_pos h0, ptN_len]
set_option maxRecDepth 10000 in
theorem pTasks (l : List Vx) (p : Int) (hok : OkT l) (h : AHeap) (hg : TG h) : Pure Tryd.prog 29 [.agg (topE l p)] h (.int .i64 (tasksX p l)) := by
  refine Pure.val (Clo.int _ _) ?_
  have hc : (V.agg (topE l p)).cells = some [.imm l.length (l.flatMap encX), .int .i64 p] := rfl
  obtain ⟨H, hH⟩ : ∃ x, x = h.push (.cells [.imm l.length (l.flatMap encX), .int .i64 p] 24 none) := ⟨_, rfl⟩
  have gt : H.get h.n = .cells [.imm l.length (l.flatMap encX), .int .i64 p] 24 none := by rw [hH]; exact get_push_new
  have kH : Keep h H none_ := by rw [hH]; exact Keep.push _ _ _
  refine SCalls.enterI (c := _) Tryd.func29 rfl (by kernel_rfl) (by simp) ?_
  simp only [wpA_region, wpA_seq, seqQ_normal, goI_out, goI_ops, opsA_nil, opsA_cons, stepA_assign, stepA_box, stepA_load, stepA_call, thenV_some, thenH_some, eval_tmp, eval_const, put_some, enterF_zero, enterF_succ, absV_int, aLoad_eq, loadGo_row, aPlace_ptr, dropC_cells, aBox_eq, Nat.reduceEqDiff, Nat.reduceAdd, List.map_cons, List.map_nil, Option.map_some, Nat.zero_add, Nat.zero_le, List.length_cons, List.length_nil, List.drop_zero, List.take_succ_cons, List.take_nil, if_true, if_false, Nat.le_refl, lt_24, hc, ← hH, gt]
  refine callI_pure cal27 (pParts l p hok H (hg.keep kH)) ?_
  by_cases h0 : (chkT p l).2 = 0
  rotate_left
  · have c2 : ((chkT p l).2 != 0) = true := by simp [h0]
    simp only [wpA_region, wpA_seq, wpA_cond, wpA_ret, condI_true, seqQ_normal, seqQ_ret, endI_mk, goI_out, goI_ops, opsA_nil, opsA_cons, stepA_move, stepA_assign, stepA_binOp, stepA_extract, thenV_some, extV_zero, extV_succ, eval_tmp, eval_const, put_some, enterF_succ, aBin_neq, absV_int, Nat.reduceEqDiff, if_true, if_false, c2, retA_ret, Tryd.results29, resultsA_1]
    exact hid_mk ⟨by rw [tasksX, if_neg h0], kH⟩
  have c2 : ((chkT p l).2 != 0) = false := by simp [h0]
  obtain ⟨_, _, l1, l24, _⟩ := chk_ok h0
  have hpl := partsX_len h0
  have hT : tasksX p l = IntKind.i64.wrap (IntKind.i64.wrap (mx ((partsX p l).headD 0) (partsX p l).tail + 1) * p) := if_pos h0
  obtain ⟨a, r, hL⟩ : ∃ a r, partsX p l = a :: r := by
    cases hq : partsX p l with
    | nil => rw [hq] at hpl; simp at hpl; omega
    | cons a r => exact ⟨a, r, rfl⟩
  rw [hL] at hT
  generalize partsX p l = L at hpl hL
  simp only [wpA_skip, wpA_region, wpA_seq, wpA_cond, wpA_draw, condI_false, seqQ_normal, goI_out, goI_ops, opsA_nil, opsA_cons, stepA_move, stepA_assign, stepA_binOp, stepA_extract, thenV_some, extV_zero, extV_succ, eval_tmp, eval_const, put_some, enterF_succ, aBin_neq, absV_int, Nat.reduceEqDiff, if_true, if_false, c2]
  refine SWp.drawnS none_ [] (.q 0 (.c 1 (.q 2 (.q 3 (.q 4 (.q 5 (.q 6 .done))))))) (by kernel_rfl) (by kernel_rfl) (by kernel_rfl) ?_
  simp only [siI_q, sqI_some, mOk_none', implies_true, qI_nil, qI_cons, q_move, goI_mk, eval_tmp, put_some, enterF_succ, List.getElem?_cons_zero, Nat.reduceEqDiff, true_and, if_true, if_false]
  refine siI_c rfl rfl rfl (fun h' hk => pMax L a r hL (by omega) h') ?_
  simp only [siI_done, siI_q, sqI_some, mOk_none', implies_true, qI_nil, qI_cons, thenQ_some, q_assign, q_load, q_binOp, q_fieldAddr, wpA_ret, seqQ_normal, endI_mk, goI_out, goI_mk, eval_tmp, eval_const, put_some, enterF_succ, aBin_add, aBin_mul, absV_int, aField_eq, fieldGo_ptr, aLoad_eq, loadGo_one, aPlace_ptr, dropC_cells, List.getElem?_cons_zero, List.getElem?_cons_succ, Nat.reduceEqDiff, Nat.reduceAdd, Nat.reduceLeDiff, Nat.zero_add, List.length_cons, List.length_nil, List.drop_zero, List.drop_succ_cons, true_and, if_true, if_false, ft_24_1, lt_3, gt, retA_ret, Tryd.results29, resultsA_1]
  exact hid_mk ⟨by rw [hT]; rfl, kH⟩
end Go.Proofs.YtpmmbcifhallbaaDoor.Pk
