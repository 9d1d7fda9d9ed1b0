/-
  What functions of the program do, told of abstract states. Conditions: as each theorem says.
-/
import Derived.Test.YtpmmbcifhallbaaDoorTpI
namespace Go.Proofs.YtpmmbcifhallbaaDoor.Pk
open Go Go.Proofs Go.Proofs.YtpmmbcifhallbaaDoor.Ab
set_option linter.unusedVariables false
set_option linter.unusedSimpArgs false

theorem row_n (X : Vx) (r : List V) : (if 5 ≤ (encX X ++ r).length then some (V.at ((encX X ++ r).drop 5)) else none) = some (V.at (.int .i64 X.n :: r)) := by
  rw [if_pos (by rw [List.length_append, encX_len]; omega), encX_eq]; rfl
theorem row_k (X : Vx) (r : List V) : loadGo (some none) (some (encX X ++ r)) = some (.int .i64 X.kind) := by rw [encX_eq]; rfl
set_option maxHeartbeats 2000000 in
set_option maxRecDepth 10000 in
theorem pTakenR (l : List Vx) (p : Int) (i : Nat) (hi : i < l.length) (hll : l.length < 2 ^ 47) (v : Vx) (hv : l[i] = v) (h : AHeap) : Pure Tryd.prog 62 [.agg (topE l p), .int .i64 (i : Nat)] h (.bool (takenX l i v)) := by
  refine Pure.val (Clo.bool _) ?_
  have hc : (V.agg (topE l p)).cells = some [.imm l.length (l.flatMap encX), .int .i64 p] := rfl
  obtain ⟨H, hH⟩ : ∃ x, x = h.push (.cells [.imm l.length (l.flatMap encX), .int .i64 p] 24 none) := ⟨_, rfl⟩
  have gt : H.get h.n = .cells [.imm l.length (l.flatMap encX), .int .i64 p] 24 none := by rw [hH]; exact get_push_new
  have kH : Keep h H none_ := by rw [hH]; exact Keep.push _ _ _
  have xi := rows_ix (kk := .i64) (P := Tryd.prog) encX_len hi ss_22
  rw [hv] at xi
  refine SCalls.enterI (c := _) Tryd.func62 rfl (by kernel_rfl) (by simp) ?_
  simp only [wpA_region, wpA_seq, wpA_block, wpA_loop, seqQ_normal, goI_out, goI_ops, opsA_nil, opsA_cons, stepA_move, stepA_assign, stepA_box, stepA_load, stepA_fieldAddr, stepA_indexAddr, thenV_some, thenH_some, eval_tmp, eval_const, put_some, enterF_zero, enterF_succ, absV_int, absV_bool, aField_eq, fieldGo_ptr, fieldGo_at, aLoad_eq, loadGo_one, aPlace_ptr, aPlace_at, dropC_cells, aBox_eq, Nat.reduceEqDiff, Nat.reduceAdd, Option.map_some, Nat.add_zero, Nat.zero_add, Nat.zero_le, List.length_cons, List.length_nil, List.drop_zero, if_true, if_false, ft_24_0, ft_47_0, lt_22, lt_3, hc, ← hH, gt, xi, row_k]
  refine SWp.loopG (α := Nat) (fun j f h' => f 1 = .int .i64 (i : Nat) ∧ f 2 = .ptr h.n 0 ∧ f 5 = .int .i64 v.kind ∧ f 6 = .int .i64 (j : Nat) ∧ j ≤ i ∧ h' = H ∧ ((v.kind == 1 || v.kind == 10) && (l.take j).any fun u => u.kind == v.kind && u.n == v.n) = false) (fun j => i - j) 0 ⟨rfl, rfl, rfl, rfl, Nat.zero_le _, rfl, by simp⟩ ?_
  rintro j f h1 ⟨f1, f2, f5, f6, hj, rfl, hE⟩
  refine wpI_sound (by kernel_rfl) ?_
  by_cases hlt : j < i
  · have c5 : decide ((j : Int) < ((i : Nat) : Int)) = true := by simp only [decide_eq_true_eq]; omega
    have xj := rows_ix (kk := .i64) (P := Tryd.prog) encX_len (show j < l.length by omega) ss_22
    have hsn := any_take_succ (fun u : Vx => u.kind == v.kind && u.n == v.n) (show j < l.length by omega)
    have wj : IntKind.i64.wrap (((j : Nat) : Int) + 1) = ((j + 1 : Nat) : Int) := by rw [Go.IntWalk.i64_in _ (by omega)]; omega
    have hin : l[j] ∈ l.take i := by
      rw [List.mem_take_iff_getElem]
      exact ⟨j, by omega, rfl⟩
    generalize l[j] = A at xj hsn hin
    simp only [wpA_skip, wpA_region, wpA_seq, wpA_cond, wpA_block, wpA_draw, condI_true, seqQ_normal, goI_out, goI_ops, opsA_nil, opsA_cons, stepA_move, stepA_binOp, thenV_some, eval_tmp, put_some, aBin_lss, Nat.reduceEqDiff, if_true, if_false, f1, f6, c5]
    refine SWp.drawnS none_ [] (.q 0 (.q 1 (.q 2 (.q 3 (.q 4 (.q 5 (.q 6 (.q 7 (.q 8 (.q 9 (.q 10 (.q 11 (.q 12 (.q 13 (.q 14 (.q 15 (.q 16 (.q 17 (.q 18 (.q 19 (.q 20 (.q 21 (.q 22 (.q 23 (.q 24 (.q 25 (.q 26 (.q 27 (.q 28 (.q 29 (.q 30 .done))))))))))))))))))))))))))))))) (by kernel_rfl) (by kernel_rfl) (by kernel_rfl) ?_
    cases ca : (A.kind == v.kind)
    · rw [ca, Bool.false_and, Bool.or_false] at hsn
      simp only [siI_done, siI_q, sqI_some, mOk_none', implies_true, qI_nil, qI_cons, qI_guard, qgI_ft, qgI_u, thenQ_some, q_move, q_pick, q_load, q_binOp, q_fieldAddr, q_indexAddr, wpA_skip, wpA_region, wpA_cond, condI_false, seqQ_normal, blkQ_normal, endI_mk, andThen_normal, goI_out, goI_ops, goI_mk, opsA_nil, opsA_cons, slotAt_zero, slotAt_succ, stepA_move, stepA_assign, stepA_binOp, thenV_some, pickV_false, eval_tmp, eval_const, put_some, aBin_add, aBin_eql, absV_int, absV_bool, aField_eq, fieldGo_ptr, fieldGo_at, aLoad_eq, loadGo_one, aPlace_ptr, aPlace_at, dropC_cells, List.getElem?_cons_zero, List.getElem?_cons_succ, Nat.reduceEqDiff, Nat.reduceAdd, Nat.add_zero, Nat.zero_add, Nat.zero_le, List.length_cons, List.length_nil, List.drop_zero, true_and, if_true, if_false, ft_24_0, ft_47_0, lt_22, lt_3, f2, f5, f6, gt, xj, row_k, ca, wj]
      exact hid_mk ⟨j + 1, ⟨f1, f2, f5, rfl, by omega, rfl, by rw [hsn]; exact hE⟩, by omega⟩
    cases cb : (A.n == v.n)
    · rw [ca, cb, Bool.and_false, Bool.or_false] at hsn
      simp only [siI_done, siI_q, sqI_some, mOk_none', implies_true, qI_nil, qI_cons, qI_guard, qgI_same, qgI_ft, qgI_u, thenQ_some, q_move, q_pick, q_load, q_binOp, q_fieldAddr, q_indexAddr, wpA_skip, wpA_region, wpA_cond, condI_false, seqQ_normal, blkQ_normal, endI_mk, andThen_normal, goI_out, goI_ops, goI_mk, opsA_nil, opsA_cons, slotAt_zero, slotAt_succ, stepA_move, stepA_assign, stepA_binOp, thenV_some, pickV_true, pickV_false, eval_tmp, eval_const, put_some, aBin_add, aBin_eql, absV_int, absV_bool, aField_eq, fieldGo_ptr, fieldGo_at, aLoad_eq, loadGo_one, aPlace_ptr, aPlace_at, dropC_cells, List.getElem?_cons_zero, List.getElem?_cons_succ, Nat.reduceEqDiff, Nat.reduceAdd, Nat.add_zero, Nat.zero_add, Nat.zero_le, List.length_cons, List.length_nil, List.drop_zero, true_and, if_true, if_false, ft_24_0, ft_47_0, ft_47_3, lt_2, lt_22, lt_3, f1, f2, f5, f6, gt, xi, xj, row_k, row_n, ca, cb, wj]
      exact hid_mk ⟨j + 1, ⟨f1, f2, f5, rfl, by omega, rfl, by rw [hsn]; exact hE⟩, by omega⟩
    have hany : ((l.take i).any fun u => u.kind == v.kind && u.n == v.n) = true := List.any_eq_true.2 ⟨A, hin, by rw [ca, cb]; rfl⟩
    cases c1 : (v.kind == 1)
    · cases c10 : (v.kind == 10)
      · simp only [siI_done, siI_q, sqI_some, mOk_none', implies_true, qI_nil, qI_cons, qI_guard, qgI_same, thenQ_some, q_move, q_pick, q_load, q_binOp, q_fieldAddr, q_indexAddr, wpA_skip, wpA_region, wpA_cond, condI_false, seqQ_normal, blkQ_normal, endI_mk, andThen_normal, goI_out, goI_ops, goI_mk, opsA_nil, opsA_cons, slotAt_zero, slotAt_succ, stepA_move, stepA_assign, stepA_binOp, thenV_some, pickV_true, pickV_false, eval_tmp, eval_const, put_some, aBin_add, aBin_eql, absV_int, absV_bool, aField_eq, fieldGo_ptr, fieldGo_at, aLoad_eq, loadGo_one, aPlace_ptr, aPlace_at, dropC_cells, List.getElem?_cons_zero, List.getElem?_cons_succ, Nat.reduceEqDiff, Nat.reduceAdd, Nat.add_zero, Nat.zero_add, Nat.zero_le, List.length_cons, List.length_nil, List.drop_zero, true_and, if_true, if_false, ft_24_0, ft_47_0, ft_47_3, lt_2, lt_22, lt_3, f1, f2, f5, f6, gt, xi, xj, row_k, row_n, ca, cb, c1, c10, wj]
        exact hid_mk ⟨j + 1, ⟨f1, f2, f5, rfl, by omega, rfl, rfl⟩, by omega⟩
      · simp only [siI_done, siI_q, sqI_some, mOk_none', implies_true, qI_nil, qI_cons, qI_guard, qgI_same, thenQ_some, q_move, q_pick, q_load, q_binOp, q_fieldAddr, q_indexAddr, wpA_region, wpA_seq, wpA_cond, wpA_ret, condI_true, seqQ_normal, seqQ_ret, blkQ_ret, endI_mk, goE, andThen_ret, goI_out, goI_ops, goI_mk, opsA_nil, opsA_cons, slotAt_zero, slotAt_succ, stepA_assign, pickV_true, pickV_false, eval_tmp, eval_const, put_some, aBin_eql, absV_int, absV_bool, aField_eq, fieldGo_ptr, fieldGo_at, aLoad_eq, loadGo_one, aPlace_ptr, aPlace_at, dropC_cells, List.getElem?_cons_zero, List.getElem?_cons_succ, Nat.reduceEqDiff, Nat.reduceAdd, Nat.add_zero, Nat.zero_add, Nat.zero_le, List.length_cons, List.length_nil, List.drop_zero, true_and, if_true, if_false, ft_24_0, ft_47_0, ft_47_3, lt_2, lt_22, lt_3, f1, f2, f5, f6, gt, xi, xj, row_k, row_n, ca, cb, c1, c10, retA_ret, Tryd.results62, resultsA_1]
        exact hid_mk ⟨by simp only [takenX, c1, c10, hany]; rfl, kH⟩
    · simp only [siI_done, siI_q, sqI_some, mOk_none', implies_true, qI_nil, qI_cons, qI_guard, qgI_same, qgI_tf, thenQ_some, q_move, q_pick, q_load, q_binOp, q_fieldAddr, q_indexAddr, wpA_region, wpA_seq, wpA_cond, wpA_ret, condI_true, seqQ_normal, seqQ_ret, blkQ_ret, endI_mk, goE, andThen_ret, goI_out, goI_ops, goI_mk, opsA_nil, opsA_cons, slotAt_zero, slotAt_succ, stepA_assign, pickV_true, eval_tmp, eval_const, put_some, aBin_eql, absV_int, absV_bool, aField_eq, fieldGo_ptr, fieldGo_at, aLoad_eq, loadGo_one, aPlace_ptr, aPlace_at, dropC_cells, List.getElem?_cons_zero, List.getElem?_cons_succ, Nat.reduceEqDiff, Nat.reduceAdd, Nat.add_zero, Nat.zero_add, Nat.zero_le, List.length_cons, List.length_nil, List.drop_zero, true_and, if_true, if_false, ft_24_0, ft_47_0, ft_47_3, lt_2, lt_22, lt_3, f1, f2, f5, f6, gt, xi, xj, row_k, row_n, ca, cb, c1, retA_ret, Tryd.results62, resultsA_1]
      exact hid_mk ⟨by simp only [takenX, c1, hany]; rfl, kH⟩
  · have c5 : decide ((j : Int) < ((i : Nat) : Int)) = false := by simp only [decide_eq_false_iff_not]; omega
    have hij : j = i := by omega
    subst hij
    simp only [wpA_region, wpA_seq, wpA_cond, wpA_exit, wpA_ret, condI_false, seqQ_normal, seqQ_exit, blkQ_exit, endI_mk, goE, andThen_exit, goI_out, goI_ops, opsA_nil, opsA_cons, stepA_move, stepA_assign, stepA_binOp, thenV_some, eval_tmp, eval_const, put_some, aBin_lss, absV_bool, Nat.reduceEqDiff, if_true, if_false, f1, f6, c5, retA_ret, Tryd.results62, resultsA_1]
    exact hid_mk ⟨by rw [show takenX l j v = false from hE], kH⟩

set_option maxHeartbeats 1000000 in
set_option maxRecDepth 10000 in
theorem pUsersR (l : List Vx) (p v : Int) (hok : OkT l) (hl : l.length ≤ 2 ^ 41) (h : AHeap) : Pure Tryd.prog 20 [.agg (topE l p), .int .i64 v] h (.imm (usF v 0 l).length (i64V (usF v 0 l))) := by
  refine Pure.acc (e := 3) (sz := 1) (i64V_clo _) (by rw [i64V_length, Nat.mul_one]) (by have := usF_len (v := v) (l := l) (j := 0); omega) ?_
  have hc : (V.agg (topE l p)).cells = some [.imm l.length (l.flatMap encX), .int .i64 p] := rfl
  obtain ⟨H, hH⟩ : ∃ x, x = h.push (.cells [.imm l.length (l.flatMap encX), .int .i64 p] 24 none) := ⟨_, rfl⟩
  have gt : H.get h.n = .cells [.imm l.length (l.flatMap encX), .int .i64 p] 24 none := by rw [hH]; exact get_push_new
  have kH : Keep h H none_ := by rw [hH]; exact Keep.push _ _ _
  have nH : H.n = h.n + 1 := by rw [hH]; rfl
  refine SCalls.enterI (c := _) Tryd.func20 rfl (by kernel_rfl) (by simp) ?_
  simp only [wpA_region, wpA_seq, wpA_block, wpA_loop, seqQ_normal, goI_out, goI_ops, opsA_nil, opsA_cons, stepA_assign, stepA_box, thenH_some, eval_tmp, eval_const, enterF_zero, absV_int, absV_snil, aBox_eq, Option.map_some, hc, ← hH]
  refine SWp.loopG (α := V × Nat) (fun x f h' => f 1 = .int .i64 v ∧ f 2 = .ptr h.n 0 ∧ f 5 = x.1 ∧ f 6 = .int .i64 (x.2 : Nat) ∧ x.2 ≤ l.length ∧ Acc H h' 3 1 x.1 (i64V (usF v 0 (l.take x.2)))) (fun x => l.length - x.2) (.snil, 0) ⟨rfl, rfl, rfl, rfl, Nat.zero_le _, Acc.nil (Keep.refl _ _)⟩ ?_
  rintro ⟨u, i⟩ f h1 ⟨f1, f2, f5, f6, hi, a1⟩
  simp only at f5 f6 hi a1
  have gt1 := (a1.keep.get h.n (by omega) (by simp [none_])).trans gt
  refine wpI_sound (by kernel_rfl) ?_
  by_cases hlt : i < l.length
  rotate_left
  · have c5 : decide ((i : Int) < ((l.length : Nat) : Int)) = false := by simp only [decide_eq_false_iff_not]; omega
    rw [List.take_of_length_le (by omega)] at a1
    simp only [wpA_region, wpA_seq, wpA_cond, wpA_exit, wpA_ret, condI_false, seqQ_normal, seqQ_exit, blkQ_exit, endI_mk, goE, andThen_exit, goI_out, goI_ops, opsA_nil, opsA_cons, stepA_move, stepA_assign, stepA_load, stepA_binOp, stepA_fieldAddr, stepA_len, thenV_some, eval_tmp, put_some, aBin_lss, aField_eq, fieldGo_ptr, aLoad_eq, loadGo_one, aPlace_ptr, dropC_cells, aLen_imm, Nat.reduceEqDiff, Nat.reduceAdd, Nat.add_zero, Nat.zero_add, Nat.zero_le, List.length_cons, List.length_nil, List.drop_zero, if_true, if_false, ft_24_0, kt_22, lt_22, f2, f5, f6, gt1, c5, retA_ret, Tryd.results20, resultsA_1]
    exact hid_mk ⟨a1.own, kH.trans' a1.keep, fun k hk => by have := a1.new k hk; omega⟩
  have c5 : decide ((i : Int) < ((l.length : Nat) : Int)) = true := by simp only [decide_eq_true_eq]; omega
  obtain ⟨ok1, ok2, _⟩ := hok.2 _ (List.getElem_mem hlt)
  have x0 := rows_ix (kk := .i64) (P := Tryd.prog) encX_len hlt ss_22
  have hsn := usF_snoc v l[i] (l.take i) 0
  rw [← List.take_succ_eq_append_getElem hlt, List.length_take, Nat.min_eq_left (by omega), Nat.zero_add] at hsn
  generalize l[i] = A at *
  have hdu : ∀ r : List V, (if 1 ≤ (encX A ++ r).length then some (V.at ((encX A ++ r).drop 1)) else none) = some (V.at (.imm A.frm.length (i64V A.frm) :: ([.int .i64 A.e.op, .int .i64 A.e.num, .imm A.e.ks.length (A.e.ks.flatMap encE), .int .i64 A.n] ++ r))) := fun r => by
    rw [if_pos (by rw [List.length_append, encX_len]; omega), encX_eq]
    rfl
  have w2 : IntKind.i64.wrap (((i : Nat) : Int) + 1) = ((i + 1 : Nat) : Int) := by rw [Go.IntWalk.i64_in _ (by omega)]; omega
  simp only [wpA_skip, wpA_region, wpA_seq, wpA_cond, wpA_block, wpA_loop, condI_true, seqQ_normal, goI_out, goI_ops, opsA_nil, opsA_cons, stepA_move, stepA_assign, stepA_load, stepA_binOp, stepA_fieldAddr, stepA_len, thenV_some, eval_tmp, eval_const, put_some, aBin_lss, absV_int, absV_bool, aField_eq, fieldGo_ptr, aLoad_eq, loadGo_one, aPlace_ptr, dropC_cells, aLen_imm, Nat.reduceEqDiff, Nat.reduceAdd, Nat.add_zero, Nat.zero_add, Nat.zero_le, List.length_cons, List.length_nil, List.drop_zero, if_true, if_false, ft_24_0, kt_22, lt_22, f2, f6, gt1, c5]
  refine SWp.loopG (α := Nat) (fun m f h' => f 1 = .int .i64 v ∧ f 2 = .ptr h.n 0 ∧ f 5 = u ∧ f 6 = .int .i64 (i : Nat) ∧ f 7 = .bool ((A.frm.take m).any fun x => x == v) ∧ f 8 = .int .i64 (m : Nat) ∧ m ≤ A.frm.length ∧ h' = h1) (fun m => A.frm.length - m) 0 ⟨f1, f2, f5, f6, rfl, rfl, Nat.zero_le _, rfl⟩ ?_
  rintro m g h2 ⟨g1, g2, g5, g6, g7, g8, hm, rfl⟩
  refine wpI_sound (by kernel_rfl) ?_
  by_cases hml : m < A.frm.length
  · have c8 : decide ((m : Int) < ((A.frm.length : Nat) : Int)) = true := by simp only [decide_eq_true_eq]; omega
    have x3 := i64V_ix' (P := Tryd.prog) (kk := .i64) hml ss_33
    have hs2 := any_take_succ (fun x => x == v) hml
    have w4 : IntKind.i64.wrap (((m : Nat) : Int) + 1) = ((m + 1 : Nat) : Int) := by rw [Go.IntWalk.i64_in _ (by omega)]; omega
    generalize A.frm[m] = B at x3 hs2
    cases cb : (A.frm.take m).any fun x => x == v
    · rw [cb] at g7 hs2
      rw [Bool.false_or] at hs2
      simp only [wpA_skip, wpA_region, wpA_seq, wpA_cond, wpA_block, condI_true, seqQ_normal, blkQ_normal, endI_mk, andThen_normal, goI_out, goI_ops, opsA_nil, opsA_cons, opsA_guardS, gvI_same, slotAt_zero, slotAt_succ, stepA_move, stepA_assign, stepA_pick, stepA_load, stepA_binOp, stepA_fieldAddr, stepA_indexAddr, stepA_len, thenV_some, pickV_false, eval_tmp, eval_const, put_some, aBin_add, aBin_eql, aBin_lss, absV_int, absV_bool, aField_eq, fieldGo_ptr, fieldGo_at, aLoad_eq, loadGo_one, aPlace_ptr, aPlace_at, dropC_cells, aLen_imm, Nat.reduceEqDiff, Nat.reduceAdd, Nat.add_zero, Nat.zero_add, Nat.zero_le, List.length_cons, List.length_nil, List.drop_zero, List.nil_append, List.cons_append, if_true, if_false, ft_24_0, ft_47_1, kt_33, lt_22, lt_3, lt_33, g1, g2, g6, g7, g8, gt1, x0, hdu, c8, x3, w4]
      exact hid_mk ⟨m + 1, ⟨g1, g2, g5, g6, by rw [hs2]; rfl, rfl, by omega, rfl⟩, by omega⟩
    · rw [cb] at g7 hs2
      rw [Bool.true_or] at hs2
      simp only [wpA_skip, wpA_region, wpA_seq, wpA_cond, wpA_block, condI_true, seqQ_normal, blkQ_normal, endI_mk, andThen_normal, goI_out, goI_ops, opsA_nil, opsA_cons, opsA_guardS, gvI_tf, slotAt_zero, slotAt_succ, stepA_move, stepA_assign, stepA_pick, stepA_load, stepA_binOp, stepA_fieldAddr, stepA_indexAddr, stepA_len, thenV_some, pickV_true, eval_tmp, eval_const, put_some, aBin_add, aBin_lss, absV_int, absV_bool, aField_eq, fieldGo_ptr, fieldGo_at, aLoad_eq, loadGo_one, aPlace_ptr, aPlace_at, dropC_cells, aLen_imm, Nat.reduceEqDiff, Nat.reduceAdd, Nat.add_zero, Nat.zero_add, Nat.zero_le, List.length_cons, List.length_nil, List.drop_zero, List.nil_append, List.cons_append, if_true, if_false, ft_24_0, ft_47_1, kt_33, lt_22, lt_33, g2, g6, g7, g8, gt1, x0, hdu, c8, w4]
      exact hid_mk ⟨m + 1, ⟨g1, g2, g5, g6, by rw [hs2]; rfl, rfl, by omega, rfl⟩, by omega⟩
  have c8 : decide ((m : Int) < ((A.frm.length : Nat) : Int)) = false := by simp only [decide_eq_false_iff_not]; omega
  rw [List.take_of_length_le (by omega)] at g7
  have hcn : (A.frm.any fun x => x == v) = A.frm.contains v := by
    rw [Bool.eq_iff_iff]
    simp
  rw [hcn] at g7
  cases hct : A.frm.contains v
  · rw [hct] at g7
    rw [hct, if_neg (by simp), List.append_nil] at hsn
    simp only [wpA_skip, wpA_region, wpA_seq, wpA_cond, wpA_exit, wpA_ret, condI_false, seqQ_normal, seqQ_exit, blkQ_normal, blkQ_exit, endI_mk, goE, andThen_normal, andThen_exit, goI_out, goI_ops, opsA_nil, opsA_cons, stepA_move, stepA_assign, stepA_load, stepA_binOp, stepA_fieldAddr, stepA_indexAddr, stepA_len, thenV_some, eval_tmp, eval_const, put_some, aBin_add, aBin_lss, absV_int, aField_eq, fieldGo_ptr, fieldGo_at, aLoad_eq, loadGo_one, aPlace_ptr, aPlace_at, dropC_cells, aLen_imm, Nat.reduceEqDiff, Nat.reduceAdd, reduceCtorEq, Nat.add_zero, Nat.zero_add, Nat.zero_le, List.length_cons, List.length_nil, List.drop_zero, List.nil_append, List.cons_append, if_true, if_false, ft_24_0, ft_47_1, kt_33, lt_22, lt_33, g2, g5, g6, g7, g8, gt1, x0, hdu, c8, w2]
    exact hid_mk ⟨(u, i + 1), ⟨g1, g2, g5, rfl, by simp only; omega, by simp only; rw [hsn]; exact a1⟩, by simp only; omega⟩
  · rw [hct] at g7
    rw [hct, if_pos rfl] at hsn
    obtain ⟨v2, h3, q1, a2⟩ := a1.elem (P := Tryd.prog) sl_33 (by decide) (xs := [.int .i64 (i : Nat)]) rfl rfl (by have := usF_len (v := v) (l := l.take i) (j := 0); simp [i64V_length, lim] at this ⊢; omega) (by have := usF_len (v := v) (l := l.take i) (j := 0); simp [i64V_length, lim] at this ⊢; omega)
    simp only [wpA_region, wpA_seq, wpA_cond, wpA_exit, wpA_ret, condI_true, condI_false, seqQ_normal, seqQ_exit, blkQ_normal, blkQ_exit, endI_mk, goE, andThen_normal, andThen_exit, goI_out, goI_ops, opsA_nil, opsA_cons, stepA_move, stepA_assign, stepA_buildSlice, stepA_load, stepA_binOp, stepA_fieldAddr, stepA_indexAddr, stepA_len, stepA_append, thenV_some, thenH_some, eval_tmp, eval_const, put_some, aBin_add, aBin_lss, absV_int, aField_eq, fieldGo_ptr, fieldGo_at, aLoad_eq, loadGo_one, aPlace_ptr, aPlace_at, dropC_cells, aLen_imm, Nat.reduceEqDiff, Nat.reduceAdd, reduceCtorEq, List.map_cons, List.map_nil, Nat.add_zero, Nat.zero_add, Nat.zero_le, List.length_cons, List.length_nil, List.drop_zero, List.nil_append, List.cons_append, if_true, if_false, ft_24_0, ft_47_1, kt_33, lt_22, lt_33, g2, g5, g6, g7, g8, gt1, x0, hdu, c8, litI1, q1, w2]
    exact hid_mk ⟨(v2, i + 1), ⟨g1, g2, rfl, rfl, by simp only; omega, by simp only; rw [hsn, i64V_append]; exact a2⟩, by simp only; omega⟩
end Go.Proofs.YtpmmbcifhallbaaDoor.Pk
