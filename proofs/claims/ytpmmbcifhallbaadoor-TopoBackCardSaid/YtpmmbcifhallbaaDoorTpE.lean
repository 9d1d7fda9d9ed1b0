/-
  What functions of the program do, told of abstract states. Conditions: as each theorem says.
-/
import Derived.Test.YtpmmbcifhallbaaDoorTpD
namespace Go.Proofs.YtpmmbcifhallbaaDoor.Pk
open Go Go.Proofs Go.Proofs.YtpmmbcifhallbaaDoor.Ab
set_option linter.unusedVariables false
set_option linter.unusedSimpArgs false

def topE (l : List Vx) (p : Int) : List V := [.imm l.length (l.flatMap encX), .int .i64 p]
theorem topE_clo (l : List Vx) (p : Int) : CloL (topE l p) := CloL.cons (Clo.imm (rows_clo encX_clo _)) (CloL.cons (Clo.int _ _) CloL.nil)
def OkT (l : List Vx) : Prop := l.length < 2 ^ 47 ∧ ∀ v ∈ l, OkX v
def chkA (q : Int × Int) : V := .tuple [.int .i64 q.1, .int .i64 q.2]

set_option maxHeartbeats 1000000 in
set_option maxRecDepth 10000 in
theorem pCheck (l : List Vx) (p : Int) (hok : OkT l) (h : AHeap) (hg : TG h) : Pure Tryd.prog 16 [.agg (topE l p)] h (chkA (chkT p l)) := by
  have hclo : Clo (chkA (chkT p l)) := Clo.tuple (CloL.cons (Clo.int _ _) (CloL.cons (Clo.int _ _) CloL.nil))
  refine Pure.val hclo ?_
  have hc : (V.agg (topE l p)).cells = some [.imm l.length (l.flatMap encX), .int .i64 p] := rfl
  obtain ⟨H, hH⟩ : ∃ x, x = h.push (.cells [.imm l.length (l.flatMap encX), .int .i64 p] 24 none) := ⟨_, rfl⟩
  have gt : H.get h.n = .cells [.imm l.length (l.flatMap encX), .int .i64 p] 24 none := by rw [hH]; exact get_push_new
  have kH : Keep h H none_ := by rw [hH]; exact Keep.push _ _ _
  have nH : H.n = h.n + 1 := by rw [hH]; rfl
  refine SCalls.enterI (c := _) Tryd.func16 rfl (by kernel_rfl) (by simp) ?_
  by_cases h1 : p < 1
  · have c1 : decide (p < 1) = true := by simpa using h1
    have hG : chkT p l = (-1, 2) := if_pos (.inl h1)
    simp only [wpA_region, wpA_seq, wpA_cond, wpA_ret, condI_true, seqQ_normal, seqQ_ret, endI_mk, goI_out, goI_ops, opsA_nil, opsA_cons, opsA_guardS, gvI_tf, slotAt_zero, slotAt_succ, stepA_move, stepA_assign, stepA_pick, stepA_box, stepA_load, stepA_binOp, stepA_fieldAddr, thenV_some, thenH_some, pickV_true, eval_tmp, eval_const, put_some, enterF_zero, enterF_succ, aBin_lss, absV_int, absV_bool, aField_eq, fieldGo_ptr, aLoad_eq, loadGo_one, aPlace_ptr, dropC_cells, aBox_eq, Int.reduceNeg, Nat.reduceEqDiff, Nat.reduceAdd, Nat.reduceLeDiff, Option.map_some, Nat.zero_add, List.length_cons, List.length_nil, List.drop_zero, List.drop_succ_cons, if_true, if_false, ft_24_1, lt_3, hc, ← hH, gt, c1, retA_ret, Tryd.results16, resultsA_2]
    exact hid_mk ⟨by rw [hG]; rfl, kH⟩
  have c1 : decide (p < 1) = false := by simpa using h1
  by_cases h2 : 8 < p
  · have c2 : decide (8 < p) = true := by simpa using h2
    have hG : chkT p l = (-1, 2) := if_pos (.inr (.inl h2))
    simp only [wpA_region, wpA_seq, wpA_cond, wpA_ret, condI_true, seqQ_normal, seqQ_ret, endI_mk, goI_out, goI_ops, opsA_nil, opsA_cons, opsA_guardS, gvI_same, gvI_tf, slotAt_zero, slotAt_succ, stepA_move, stepA_assign, stepA_pick, stepA_box, stepA_load, stepA_binOp, stepA_fieldAddr, thenV_some, thenH_some, pickV_true, pickV_false, eval_tmp, eval_const, put_some, enterF_zero, enterF_succ, aBin_lss, aBin_gtr, absV_int, absV_bool, aField_eq, fieldGo_ptr, aLoad_eq, loadGo_one, aPlace_ptr, dropC_cells, aBox_eq, Int.reduceNeg, Nat.reduceEqDiff, Nat.reduceAdd, Nat.reduceLeDiff, Option.map_some, Nat.zero_add, List.length_cons, List.length_nil, List.drop_zero, List.drop_succ_cons, if_true, if_false, ft_24_1, lt_3, hc, ← hH, gt, c1, c2, retA_ret, Tryd.results16, resultsA_2]
    exact hid_mk ⟨by rw [hG]; rfl, kH⟩
  have c2 : decide (8 < p) = false := by simpa using h2
  by_cases h3 : l.length = 0
  · have c3 : (((l.length : Nat) : Int) == 0) = true := by simp [h3]
    have hG : chkT p l = (-1, 2) := if_pos (.inr (.inr (.inl h3)))
    simp only [wpA_region, wpA_seq, wpA_cond, wpA_ret, condI_true, seqQ_normal, seqQ_ret, endI_mk, goI_out, goI_ops, opsA_nil, opsA_cons, opsA_guardS, gvI_same, gvI_tf, slotAt_zero, slotAt_succ, stepA_move, stepA_assign, stepA_pick, stepA_box, stepA_load, stepA_binOp, stepA_fieldAddr, stepA_len, thenV_some, thenH_some, pickV_true, pickV_false, eval_tmp, eval_const, put_some, enterF_zero, enterF_succ, aBin_eql, aBin_lss, aBin_gtr, absV_int, absV_bool, aField_eq, fieldGo_ptr, aLoad_eq, loadGo_one, aPlace_ptr, dropC_cells, aBox_eq, aLen_imm, Int.reduceNeg, Nat.reduceEqDiff, Nat.reduceAdd, Nat.reduceLeDiff, Option.map_some, Nat.add_zero, Nat.zero_add, Nat.zero_le, List.length_cons, List.length_nil, List.drop_zero, List.drop_succ_cons, if_true, if_false, ft_24_0, ft_24_1, kt_22, lt_22, lt_3, hc, ← hH, gt, c1, c2, c3, retA_ret, Tryd.results16, resultsA_2]
    exact hid_mk ⟨by rw [hG]; rfl, kH⟩
  have c3 : (((l.length : Nat) : Int) == 0) = false := by simp only [beq_eq_false_iff_ne, ne_eq]; omega
  by_cases h4 : 24 < l.length
  · have c4 : decide ((24 : Int) < ((l.length : Nat) : Int)) = true := by simp only [decide_eq_true_eq]; omega
    have hG : chkT p l = (-1, 2) := if_pos (.inr (.inr (.inr h4)))
    simp only [wpA_region, wpA_seq, wpA_cond, wpA_ret, condI_true, seqQ_normal, seqQ_ret, endI_mk, goI_out, goI_ops, opsA_nil, opsA_cons, opsA_guardS, gvI_same, slotAt_zero, slotAt_succ, stepA_move, stepA_assign, stepA_pick, stepA_box, stepA_load, stepA_binOp, stepA_fieldAddr, stepA_len, thenV_some, thenH_some, pickV_false, eval_tmp, eval_const, put_some, enterF_zero, enterF_succ, aBin_eql, aBin_lss, aBin_gtr, absV_int, absV_bool, aField_eq, fieldGo_ptr, aLoad_eq, loadGo_one, aPlace_ptr, dropC_cells, aBox_eq, aLen_imm, Int.reduceNeg, Nat.reduceEqDiff, Nat.reduceAdd, Nat.reduceLeDiff, Option.map_some, Nat.add_zero, Nat.zero_add, Nat.zero_le, List.length_cons, List.length_nil, List.drop_zero, List.drop_succ_cons, if_true, if_false, ft_24_0, ft_24_1, kt_22, lt_22, lt_3, hc, ← hH, gt, c1, c2, c3, c4, retA_ret, Tryd.results16, resultsA_2]
    exact hid_mk ⟨by rw [hG]; rfl, kH⟩
  have c4 : decide ((24 : Int) < ((l.length : Nat) : Int)) = false := by simp only [decide_eq_false_iff_not]; omega
  have hG : chkT p l = chkF l 0 l := if_neg (by omega)
  obtain ⟨HM, hHM⟩ : ∃ x, x = H.push (.map [] 0) := ⟨_, rfl⟩
  have gtm : HM.get h.n = .cells [.imm l.length (l.flatMap encX), .int .i64 p] 24 none := by rw [hHM]; exact (get_push_lt (by omega)).trans gt
  have kM : Keep h HM none_ := by rw [hHM]; exact kH.then_push _
  have gm0 : HM.get H.n = .map (wT []) 0 := by rw [hHM]; exact get_push_new
  have nM : HM.n = H.n + 1 := by rw [hHM]; rfl
  simp only [wpA_skip, wpA_region, wpA_seq, wpA_cond, wpA_block, wpA_loop, condI_false, seqQ_normal, goI_out, goI_ops, opsA_nil, opsA_cons, opsA_guardS, gvI_same, slotAt_zero, slotAt_succ, stepA_move, stepA_assign, stepA_pick, stepA_box, stepA_load, stepA_binOp, stepA_makeMap, stepA_fieldAddr, stepA_len, thenV_some, thenH_some, pickV_false, eval_tmp, eval_const, put_some, enterF_zero, enterF_succ, aBin_eql, aBin_lss, aBin_gtr, absV_int, absV_bool, aField_eq, fieldGo_ptr, aLoad_eq, loadGo_one, aPlace_ptr, dropC_cells, aBox_eq, aLen_imm, makeMap_nil, Int.reduceNeg, Nat.reduceEqDiff, Nat.reduceAdd, Nat.reduceLeDiff, Option.map_some, Option.map_none, Nat.add_zero, Nat.zero_add, Nat.zero_le, List.length_cons, List.length_nil, List.drop_zero, List.drop_succ_cons, if_true, if_false, ft_24_0, ft_24_1, kt_22, lt_22, lt_3, hc, ← hH, gt, c1, c2, c3, c4, ← hHM, gtm]
  refine SWp.loopG (α := Nat × EntT × Nat) (fun x f h' => f 1 = .ptr h.n 0 ∧ f 4 = .map H.n ∧ f 30 = .int .i64 ((l.length : Nat) : Int) ∧ f 31 = .int .i64 (x.1 : Nat) ∧ x.1 ≤ l.length ∧ Keep h h' none_ ∧ H.n < h'.n ∧ h'.get h.n = .cells [.imm l.length (l.flatMap encX), .int .i64 p] 24 none ∧ h'.get H.n = .map (wT x.2.1) x.2.2 ∧ TK (l.take x.1) x.2.1 ∧ chkF l 0 l = chkF l x.1 (l.drop x.1)) (fun x => l.length - x.1) (0, [], 0) ⟨rfl, rfl, rfl, rfl, Nat.zero_le _, kM, by omega, gtm, gm0, TK.nil, rfl⟩ ?_
  rintro ⟨i, es, cl⟩ f h1 ⟨f1, f4, f30, f31, hi, k1, n1, g1, gm, hT, hE⟩
  simp only at f31 hi gm hT hE
  refine wpI_sound (by kernel_rfl) ?_
  by_cases hlt : i < l.length
  · have c5 : decide ((i : Int) < ((l.length : Nat) : Int)) = true := by simp only [decide_eq_true_eq]; omega
    rw [List.drop_eq_getElem_cons hlt] at hE
    obtain ⟨ok1, ok2, _⟩ := hok.2 _ (List.getElem_mem hlt)
    have w2 : IntKind.i64.wrap (((i : Nat) : Int) + 1) = ((i + 1 : Nat) : Int) := by rw [Go.IntWalk.i64_in _ (by omega)]; omega
    simp only [wpA_skip, wpA_region, wpA_seq, wpA_cond, wpA_block, condI_true, seqQ_normal, goI_out, goI_ops, opsA_nil, opsA_cons, stepA_move, stepA_assign, stepA_load, stepA_binOp, stepA_fieldAddr, stepA_call, thenV_some, eval_tmp, put_some, aBin_lss, aField_eq, fieldGo_ptr, aLoad_eq, loadGo_one, aPlace_ptr, dropC_cells, Nat.reduceEqDiff, Nat.reduceAdd, List.map_cons, List.map_nil, Nat.add_zero, Nat.zero_add, Nat.zero_le, List.length_cons, List.length_nil, List.drop_zero, if_true, if_false, ft_24_0, lt_22, f1, f4, f30, f31, c5, g1]
    refine callI_of cal40 (pCheck1 l i H.n cl es hlt (by omega) _ rfl ok1 ok2 h1 (hg.keep k1) n1 gm hT) fun r h2 ⟨e1, k2, hfin⟩ => ?_
    subst e1
    have k3 : Keep h h2 none_ := k1.trans k2 fun k hk hkk => by omega
    have hn2 := k2.n
    have g2 := (k2.get h.n (by omega) (by omega)).trans g1
    replace hE : chkF l 0 l = if chkV l i l[i] = 0 then chkF l (i + 1) (l.drop (i + 1)) else ((i : Int), chkV l i l[i]) := hE
    by_cases h0 : chkV l i l[i] = 0
    · have c6 : (chkV l i l[i] != 0) = false := by simp [h0]
      obtain ⟨es', cl', q1, q2⟩ := hfin h0
      rw [if_pos h0] at hE
      simp only [wpA_skip, wpA_region, wpA_seq, wpA_cond, condI_false, seqQ_normal, blkQ_normal, endI_mk, andThen_normal, goI_out, goI_ops, opsA_nil, opsA_cons, stepA_move, stepA_assign, stepA_binOp, thenV_some, eval_tmp, eval_const, put_some, aBin_add, aBin_neq, absV_int, Int.reduceNeg, Nat.reduceEqDiff, if_true, if_false, f31, c6, w2]
      exact hid_mk ⟨(i + 1, es', cl'), ⟨f1, f4, f30, rfl, by simp only; omega, k3, by omega, g2, q1, q2, hE⟩, by simp only; omega⟩
    · have c6 : (chkV l i l[i] != 0) = true := by simp [h0]
      rw [if_neg h0] at hE
      simp only [wpA_region, wpA_seq, wpA_cond, wpA_ret, condI_true, seqQ_normal, seqQ_ret, blkQ_ret, endI_mk, goE, andThen_ret, goI_out, goI_ops, opsA_nil, opsA_cons, stepA_move, stepA_assign, stepA_binOp, thenV_some, eval_tmp, eval_const, put_some, aBin_neq, absV_int, Int.reduceNeg, Nat.reduceEqDiff, if_true, if_false, c6, retA_ret, Tryd.results16, resultsA_2]
      exact hid_mk ⟨by rw [hG, hE]; rfl, k3⟩
  · have c5 : decide ((i : Int) < ((l.length : Nat) : Int)) = false := by simp only [decide_eq_false_iff_not]; omega
    rw [List.drop_of_length_le (by omega)] at hE
    simp only [wpA_region, wpA_seq, wpA_cond, wpA_exit, wpA_ret, condI_false, seqQ_normal, seqQ_exit, blkQ_exit, endI_mk, goE, andThen_exit, goI_out, goI_ops, opsA_nil, opsA_cons, stepA_assign, stepA_binOp, thenV_some, eval_tmp, eval_const, put_some, aBin_lss, absV_int, Int.reduceNeg, Nat.reduceEqDiff, if_true, if_false, f30, f31, c5, retA_ret, Tryd.results16, resultsA_2]
    exact hid_mk ⟨by rw [hG, hE]; rfl, k1⟩

/-- Whether the expressions are few. -/
def smF : Int → List Vx → Int
  | n, [] => n
  | n, v :: r => if n ≤ 5000 then smF (IntKind.i64.wrap (n + IntKind.i64.wrap (szE v.e : Nat))) r else n
set_option maxRecDepth 10000 in
theorem pSmallT (l : List Vx) (p : Int) (hok : OkT l) (h : AHeap) : Pure Tryd.prog 15 [.agg (topE l p)] h (.bool (decide (smF 0 l ≤ 5000))) := by
  refine Pure.val (Clo.bool _) ?_
  have hc : (V.agg (topE l p)).cells = some [.imm l.length (l.flatMap encX), .int .i64 p] := rfl
  obtain ⟨H, hH⟩ : ∃ x, x = h.push (.cells [.imm l.length (l.flatMap encX), .int .i64 p] 24 none) := ⟨_, rfl⟩
  have gt : H.get h.n = .cells [.imm l.length (l.flatMap encX), .int .i64 p] 24 none := by rw [hH]; exact get_push_new
  have kH : Keep h H none_ := by rw [hH]; exact Keep.push _ _ _
  have hll := hok.1
  refine SCalls.enterI (c := _) Tryd.func15 rfl (by kernel_rfl) (by simp) ?_
  simp only [wpA_region, wpA_seq, wpA_block, wpA_loop, seqQ_normal, goI_out, goI_ops, opsA_nil, opsA_cons, stepA_assign, stepA_box, thenH_some, eval_tmp, eval_const, enterF_zero, absV_int, absV_bool, aBox_eq, Option.map_some, hc, ← hH]
  refine SWp.loopG (α := Nat × Int) (fun x f h' => f 1 = .ptr h.n 0 ∧ f 4 = .int .i64 (x.1 : Nat) ∧ f 3 = .int .i64 x.2 ∧ x.1 ≤ l.length ∧ h' = H ∧ smF 0 l = smF x.2 (l.drop x.1)) (fun x => l.length - x.1) (0, 0) ⟨rfl, rfl, rfl, Nat.zero_le _, rfl, rfl⟩ ?_
  rintro ⟨i, n⟩ f h1 ⟨f1, f4, f3, hi, rfl, hE⟩
  simp only at f4 f3 hi hE
  refine wpI_sound (by kernel_rfl) ?_
  by_cases hlt : i < l.length
  · have c5 : decide ((i : Int) < ((l.length : Nat) : Int)) = true := by simp only [decide_eq_true_eq]; omega
    rw [List.drop_eq_getElem_cons hlt, smF] at hE
    obtain ⟨ok1, ok2, _⟩ := hok.2 _ (List.getElem_mem hlt)
    have x0 := rows_ix (kk := .i64) (P := Tryd.prog) encX_len hlt ss_22
    generalize l[i] = v at *
    have w2 : IntKind.i64.wrap (((i : Nat) : Int) + 1) = ((i + 1 : Nat) : Int) := by rw [Go.IntWalk.i64_in _ (by omega)]; omega
    by_cases h5 : n ≤ 5000
    · have c6 : decide (n ≤ 5000) = true := by simpa using h5
      rw [if_pos h5] at hE
      have hd : (if 2 ≤ (encX v ++ (l.drop (i + 1)).flatMap encX).length then some (V.at ((encX v ++ (l.drop (i + 1)).flatMap encX).drop 2)) else none) = some (V.at (encE v.e ++ ([.int .i64 v.n] ++ (l.drop (i + 1)).flatMap encX))) := by
        rw [if_pos (by rw [List.length_append, encX_len]; omega)]
        simp [encX]
      have hld : ∀ r, loadGo (some (some 3)) (some (encE v.e ++ r)) = some (.agg (encE v.e)) := fun r => load_row (encE_len v.e)
      simp only [wpA_skip, wpA_region, wpA_seq, wpA_cond, wpA_block, condI_true, seqQ_normal, goI_out, goI_ops, opsA_nil, opsA_cons, opsA_guardS, gvI_same, slotAt_zero, slotAt_succ, stepA_move, stepA_pick, stepA_load, stepA_binOp, stepA_fieldAddr, stepA_indexAddr, stepA_len, stepA_call, thenV_some, pickV_true, eval_tmp, eval_const, put_some, aBin_lss, aBin_leq, absV_int, absV_bool, aField_eq, fieldGo_ptr, fieldGo_at, aLoad_eq, loadGo_one, aPlace_ptr, aPlace_at, dropC_cells, aLen_imm, Nat.reduceEqDiff, Nat.reduceAdd, List.map_cons, List.map_nil, Nat.add_zero, Nat.zero_add, Nat.zero_le, List.length_cons, List.length_nil, List.drop_zero, List.nil_append, List.cons_append, if_true, if_false, ft_24_0, ft_47_2, kt_22, lt_22, lt_45, f1, f4, f3, c5, c6, gt, x0, hd, hld]
      refine callI_pure cal24 (pCountR _ v.e _ rfl ok1) ?_
      simp only [wpA_region, seqQ_normal, blkQ_normal, endI_mk, andThen_normal, goI_out, goI_ops, opsA_nil, opsA_cons, stepA_move, stepA_assign, stepA_binOp, thenV_some, eval_tmp, eval_const, put_some, aBin_add, absV_int, Nat.reduceEqDiff, if_true, if_false, f4, w2]
      exact hid_mk ⟨(i + 1, _), ⟨f1, rfl, rfl, by simp only; omega, rfl, hE⟩, by simp only; omega⟩
    · have c6 : decide (n ≤ 5000) = false := by simpa using h5
      rw [if_neg h5] at hE
      simp only [wpA_region, wpA_seq, wpA_cond, wpA_exit, wpA_ret, condI_false, seqQ_normal, seqQ_exit, blkQ_exit, endI_mk, goE, andThen_exit, goI_out, goI_ops, opsA_nil, opsA_cons, opsA_guardS, gvI_same, slotAt_zero, slotAt_succ, stepA_move, stepA_assign, stepA_pick, stepA_load, stepA_binOp, stepA_fieldAddr, stepA_len, thenV_some, pickV_true, eval_tmp, eval_const, put_some, aBin_lss, aBin_leq, absV_int, absV_bool, aField_eq, fieldGo_ptr, aLoad_eq, loadGo_one, aPlace_ptr, dropC_cells, aLen_imm, Nat.reduceEqDiff, Nat.reduceAdd, Nat.add_zero, Nat.zero_add, Nat.zero_le, List.length_cons, List.length_nil, List.drop_zero, if_true, if_false, ft_24_0, kt_22, lt_22, f1, f4, f3, c5, c6, gt, retA_ret, Tryd.results15, resultsA_1]
      exact hid_mk ⟨by rw [hE, c6], kH⟩
  · have c5 : decide ((i : Int) < ((l.length : Nat) : Int)) = false := by simp only [decide_eq_false_iff_not]; omega
    rw [List.drop_of_length_le (by omega), smF] at hE
    simp only [wpA_region, wpA_seq, wpA_cond, wpA_exit, wpA_ret, condI_false, seqQ_normal, seqQ_exit, blkQ_exit, endI_mk, goE, andThen_exit, goI_out, goI_ops, opsA_nil, opsA_cons, opsA_guardS, gvI_ft, slotAt_zero, slotAt_succ, stepA_move, stepA_assign, stepA_pick, stepA_load, stepA_binOp, stepA_fieldAddr, stepA_len, thenV_some, pickV_false, eval_tmp, eval_const, put_some, aBin_lss, aBin_leq, absV_int, absV_bool, aField_eq, fieldGo_ptr, aLoad_eq, loadGo_one, aPlace_ptr, dropC_cells, aLen_imm, Nat.reduceEqDiff, Nat.reduceAdd, Nat.add_zero, Nat.zero_add, Nat.zero_le, List.length_cons, List.length_nil, List.drop_zero, if_true, if_false, ft_24_0, kt_22, lt_22, f1, f4, f3, c5, gt, retA_ret, Tryd.results15, resultsA_1]
    exact hid_mk ⟨by rw [hE], kH⟩

theorem litI1 (h : AHeap) (x : Int) : aBuildSlice Tryd.prog 33 1 [(0, .int .i64 x)] h = some (.sl h.n 0 1 1, h.push (.cells [.int .i64 x] 3 none)) := by rw [buildSlice_go sl_33]; rfl
theorem pContains (l : List Int) (x : Int) (hl : l.length < 2 ^ 47) (h : AHeap) : Pure Tryd.prog 42 [.imm l.length (i64V l), .int .i64 x] h (.bool (l.contains x)) := by
  have hix : SCalls Tryd.prog 63 [.imm l.length (i64V l), .int .i64 x] h (fun r h' => (∃ k : Int, r = .int .i64 k ∧ (decide (0 ≤ k)) = l.contains x) ∧ h' = h) := by
    refine SCalls.enterI (c := _) Tryd.func63 rfl (by kernel_rfl) (by simp) ?_
    simp only [wpA_region, wpA_seq, wpA_block, wpA_loop, seqQ_normal, goI_out, goI_ops, opsA_nil, opsA_cons, stepA_move, stepA_assign, stepA_len, thenV_some, eval_tmp, eval_const, put_some, enterF_zero, enterF_succ, absV_int, aLen_imm, Int.reduceNeg, Nat.reduceEqDiff, reduceCtorEq, if_true, if_false, kt_33]
    refine SWp.loopG (α := Nat) (fun j f h' => f 0 = .imm l.length (i64V l) ∧ f 1 = .int .i64 x ∧ f 7 = .int .i64 ((l.length : Nat) : Int) ∧ f 8 = .int .i64 (j : Nat) ∧ j ≤ l.length ∧ h' = h ∧ l.contains x = (l.drop j).contains x) (fun j => l.length - j) 0 ⟨rfl, rfl, rfl, rfl, Nat.zero_le _, rfl, rfl⟩ ?_
    rintro j f h1 ⟨f0, f1, f7, f8, hj, rfl, hE⟩
    refine wpI_sound (by kernel_rfl) ?_
    by_cases hlt : j < l.length
    · have c5 : decide ((j : Int) < ((l.length : Nat) : Int)) = true := by simp only [decide_eq_true_eq]; omega
      rw [List.drop_eq_getElem_cons hlt, List.contains_cons] at hE
      have x1 := i64V_ix' (P := Tryd.prog) (kk := .i64) hlt ss_33
      generalize l[j] = A at *
      have w2 : IntKind.i64.wrap (((j : Nat) : Int) + 1) = ((j + 1 : Nat) : Int) := by rw [Go.IntWalk.i64_in _ (by omega)]; omega
      cases c6 : (x == A)
      · simp only [wpA_skip, wpA_region, wpA_seq, wpA_cond, wpA_block, condI_true, condI_false, seqQ_normal, blkQ_normal, endI_mk, andThen_normal, goI_out, goI_ops, opsA_nil, opsA_cons, stepA_move, stepA_assign, stepA_load, stepA_binOp, stepA_indexAddr, thenV_some, eval_tmp, eval_const, put_some, aBin_add, aBin_eql, aBin_lss, absV_int, aLoad_eq, loadGo_one, aPlace_at, Int.reduceNeg, Nat.reduceEqDiff, reduceCtorEq, if_true, if_false, lt_3, f0, f1, f7, f8, c5, x1, c6, w2]
        rw [c6, Bool.false_or] at hE
        exact hid_mk ⟨j + 1, ⟨f0, f1, f7, rfl, by omega, rfl, hE⟩, by omega⟩
      · simp only [wpA_skip, wpA_region, wpA_seq, wpA_cond, wpA_block, wpA_ret, condI_true, seqQ_normal, seqQ_ret, blkQ_ret, endI_mk, goE, andThen_ret, goI_out, goI_ops, opsA_nil, opsA_cons, stepA_move, stepA_assign, stepA_load, stepA_binOp, stepA_indexAddr, thenV_some, eval_tmp, put_some, aBin_eql, aBin_lss, aLoad_eq, loadGo_one, aPlace_at, Int.reduceNeg, Nat.reduceEqDiff, reduceCtorEq, if_true, if_false, lt_3, f0, f1, f7, f8, c5, x1, c6, retA_ret, Tryd.results63, resultsA_1]
        rw [c6, Bool.true_or] at hE
        exact hid_mk ⟨⟨_, rfl, by rw [hE]; simp⟩, rfl⟩
    · have c5 : decide ((j : Int) < ((l.length : Nat) : Int)) = false := by simp only [decide_eq_false_iff_not]; omega
      rw [List.drop_of_length_le (by omega)] at hE
      simp only [wpA_region, wpA_seq, wpA_cond, wpA_exit, wpA_ret, condI_false, seqQ_normal, seqQ_exit, blkQ_exit, endI_mk, goE, andThen_exit, goI_out, goI_ops, opsA_nil, opsA_cons, stepA_assign, stepA_binOp, thenV_some, eval_tmp, eval_const, put_some, aBin_lss, absV_int, Int.reduceNeg, Nat.reduceEqDiff, if_true, if_false, f7, f8, c5, retA_ret, Tryd.results63, resultsA_1]
      exact hid_mk ⟨⟨_, rfl, by rw [hE]; rfl⟩, rfl⟩
  refine SCalls.enterI (c := _) Tryd.func42 rfl (by kernel_rfl) (by simp) ?_
  simp only [wpA_region, wpA_seq, seqQ_normal, goI_out, goI_ops, opsA_nil, opsA_cons, stepA_move, stepA_assign, stepA_call, eval_tmp, eval_const, put_some, enterF_zero, enterF_succ, absV_bool, Nat.reduceEqDiff, reduceCtorEq, List.map_cons, List.map_nil, if_true, if_false]
  refine callI_of cal63 hix fun r h1 ⟨⟨k, e1, e2⟩, e3⟩ => ?_
  subst e1 e3
  simp only [wpA_ret, seqQ_normal, endI_mk, goI_out, goI_ops, opsA_nil, opsA_cons, stepA_assign, stepA_binOp, thenV_some, eval_tmp, eval_const, put_some, enterF_succ, aBin_geq, absV_int, Nat.reduceEqDiff, if_true, if_false, retA_ret, Tryd.results42, resultsA_1]
  exact hid_mk ⟨by rw [e2], rfl⟩

set_option maxHeartbeats 1000000 in
set_option maxRecDepth 10000 in
theorem pUsers (l : List Vx) (p v : Int) (hok : OkT l) (hl : l.length ≤ 2 ^ 40) (h : AHeap) : Pure Tryd.prog 19 [.agg (topE l p), .int .i64 v] h (.imm (usF v 0 l).length (i64V (usF v 0 l))) := by
  refine Pure.acc (e := 3) (sz := 1) (i64V_clo _) (by rw [i64V_length, Nat.mul_one]) (by have := usF_len (v := v) (l := l) (j := 0); omega) ?_
  have hc : (V.agg (topE l p)).cells = some [.imm l.length (l.flatMap encX), .int .i64 p] := rfl
  obtain ⟨H, hH⟩ : ∃ x, x = h.push (.cells [.imm l.length (l.flatMap encX), .int .i64 p] 24 none) := ⟨_, rfl⟩
  have gt : H.get h.n = .cells [.imm l.length (l.flatMap encX), .int .i64 p] 24 none := by rw [hH]; exact get_push_new
  have kH : Keep h H none_ := by rw [hH]; exact Keep.push _ _ _
  refine SCalls.enterI (c := _) Tryd.func19 rfl (by kernel_rfl) (by simp) ?_
  simp only [wpA_region, wpA_seq, wpA_block, wpA_loop, seqQ_normal, goI_out, goI_ops, opsA_nil, opsA_cons, stepA_move, stepA_assign, stepA_box, stepA_load, stepA_fieldAddr, stepA_len, thenV_some, thenH_some, eval_tmp, eval_const, put_some, enterF_zero, enterF_succ, absV_int, absV_snil, aField_eq, fieldGo_ptr, aLoad_eq, loadGo_one, aPlace_ptr, dropC_cells, aBox_eq, aLen_imm, Nat.reduceEqDiff, Nat.reduceAdd, Option.map_some, Nat.add_zero, Nat.zero_add, Nat.zero_le, List.length_cons, List.length_nil, List.drop_zero, if_true, if_false, ft_24_0, kt_22, lt_22, hc, ← hH, gt]
  refine SWp.loopG (α := V × Nat) (fun x f h' => f 1 = .int .i64 v ∧ f 5 = x.1 ∧ f 9 = .imm l.length (l.flatMap encX) ∧ f 10 = .int .i64 ((l.length : Nat) : Int) ∧ f 11 = .int .i64 (x.2 : Nat) ∧ x.2 ≤ l.length ∧ Acc h h' 3 1 x.1 (i64V (usF v 0 (l.take x.2)))) (fun x => l.length - x.2) (.snil, 0) ⟨rfl, rfl, rfl, rfl, rfl, Nat.zero_le _, Acc.nil kH⟩ ?_
  rintro ⟨u, i⟩ f h1 ⟨f1, f5, f9, f10, f11, hi, a1⟩
  simp only at f5 f11 hi a1
  refine wpI_sound (by kernel_rfl) ?_
  by_cases hlt : i < l.length
  · have c5 : decide ((i : Int) < ((l.length : Nat) : Int)) = true := by simp only [decide_eq_true_eq]; omega
    obtain ⟨ok1, ok2, _⟩ := hok.2 _ (List.getElem_mem hlt)
    have x0 := rows_ix (kk := .i64) (P := Tryd.prog) encX_len hlt ss_22
    have hsn := usF_snoc v l[i] (l.take i) 0
    rw [← List.take_succ_eq_append_getElem hlt, List.length_take, Nat.min_eq_left (by omega), Nat.zero_add] at hsn
    generalize l[i] = A at *
    have hX := encX_eq A
    have lr : ∀ (q : List V), loadGo (some (some 6)) (some (encX A ++ q)) = some (.agg (encX A)) := fun q => load_row (encX_len A)
    have hone : (V.agg (encX A)).cells = some (encX A) := rfl
    have hset : setC (some 6) (AObj.cells [.int .i64 0, .snil, .int .i64 0, .int .i64 0, .snil, .int .i64 0] 47 none) 0 (encX A) = some (.cells (encX A) 47 none) := by
      rw [setC_row (n := 6) (encX_len A) (encX_one A), if_pos (by decide), hX]; rfl
    have hd1 : dropC (AObj.cells (encX A) 47 none) 1 = some [.imm A.frm.length (i64V A.frm), .int .i64 A.e.op, .int .i64 A.e.num, .imm A.e.ks.length (A.e.ks.flatMap encE), .int .i64 A.n] := by rw [hX]; rfl
    have w2 : IntKind.i64.wrap (((i : Nat) : Int) + 1) = ((i + 1 : Nat) : Int) := by rw [Go.IntWalk.i64_in _ (by omega)]; omega
    have ap := a1.on (Keep.push h1 (.cells (encX A) 47 none) _)
    simp only [wpA_skip, wpA_region, wpA_seq, wpA_cond, wpA_block, condI_true, seqQ_normal, goI_out, goI_ops, opsA_nil, opsA_cons, stepA_move, stepA_assign, stepA_alloc, stepA_load, stepA_store, stepA_binOp, stepA_fieldAddr, stepA_indexAddr, stepA_call, thenV_some, thenH_some, thenS_some, eval_tmp, put_some, put_none, aBin_lss, aField_eq, fieldGo_ptr, aLoad_eq, loadGo_one, aPlace_ptr, aPlace_at, aStore_eq, storeGo_ptr, aAlloc_eq, get_push_new, set_push, Nat.reduceEqDiff, List.map_cons, List.map_nil, Option.map_some, Nat.zero_add, if_true, if_false, ft_47_1, lt_33, lt_47, zc_47, zt_47, f1, f9, f10, f11, c5, x0, lr, hone, hset, hd1]
    refine callI_pure cal42 (pContains A.frm v ok2 _) ?_
    cases hcn : A.frm.contains v
    · rw [hcn, if_neg (by simp), List.append_nil] at hsn
      simp only [wpA_skip, wpA_region, wpA_cond, condI_false, seqQ_normal, blkQ_normal, endI_mk, andThen_normal, goI_out, goI_ops, opsA_nil, opsA_cons, stepA_move, stepA_binOp, thenV_some, eval_tmp, eval_const, put_some, put_none, aBin_add, absV_int, Nat.reduceEqDiff, if_true, if_false, f11, w2]
      exact hid_mk ⟨(u, i + 1), ⟨f1, f5, f9, f10, rfl, by simp only; omega, by simp only; rw [hsn]; exact ap⟩, by simp only; omega⟩
    · rw [hcn, if_pos rfl] at hsn
      obtain ⟨v2, h2, q1, a2⟩ := ap.elem (P := Tryd.prog) sl_33 (by decide) (xs := [.int .i64 (i : Nat)]) rfl rfl (by have := usF_len (v := v) (l := l.take i) (j := 0); simp [i64V_length, lim] at this ⊢; omega) (by have := usF_len (v := v) (l := l.take i) (j := 0); simp [i64V_length, lim] at this ⊢; omega)
      simp only [push_n] at q1
      simp only [wpA_region, wpA_cond, condI_true, seqQ_normal, blkQ_normal, endI_mk, andThen_normal, goI_out, goI_ops, opsA_nil, opsA_cons, stepA_move, stepA_assign, stepA_buildSlice, stepA_binOp, stepA_append, thenV_some, thenH_some, eval_tmp, eval_const, put_some, put_none, aBin_add, absV_int, push_n, Nat.reduceEqDiff, List.map_cons, List.map_nil, if_true, if_false, f5, f11, litI1, push_n, q1, w2]
      exact hid_mk ⟨(v2, i + 1), ⟨f1, rfl, f9, f10, rfl, by simp only; omega, by simp only; rw [hsn, i64V_append]; exact a2⟩, by simp only; omega⟩
  · have c5 : decide ((i : Int) < ((l.length : Nat) : Int)) = false := by simp only [decide_eq_false_iff_not]; omega
    rw [List.take_of_length_le (by omega)] at a1
    simp only [wpA_region, wpA_seq, wpA_cond, wpA_exit, wpA_ret, condI_false, seqQ_normal, seqQ_exit, blkQ_exit, endI_mk, goE, andThen_exit, goI_out, goI_ops, opsA_nil, opsA_cons, stepA_move, stepA_assign, stepA_binOp, thenV_some, eval_tmp, put_some, aBin_lss, Nat.reduceEqDiff, if_true, if_false, f5, f10, f11, c5, retA_ret, Tryd.results19, resultsA_1]
    exact hid_mk a1
end Go.Proofs.YtpmmbcifhallbaaDoor.Pk
