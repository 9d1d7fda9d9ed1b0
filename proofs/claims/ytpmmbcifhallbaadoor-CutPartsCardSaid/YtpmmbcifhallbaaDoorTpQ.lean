/-
  What functions of the program do, told of abstract states. Conditions: as each theorem says.
-/
import Derived.Test.YtpmmbcifhallbaaDoorTpO
import Derived.Test.YtpmmbcifhallbaaDoorTpN
namespace Go.Proofs.YtpmmbcifhallbaaDoor.Pk
open Go Go.Proofs Go.Proofs.YtpmmbcifhallbaaDoor.Ab
set_option linter.unusedVariables false
set_option linter.unusedSimpArgs false

set_option maxHeartbeats 2000000 in
set_option maxRecDepth 10000 in
theorem pVertexR (l : List Vx) (p : Int) (i : Nat) (hi : i < l.length) (hl24 : l.length ≤ 24) (v : Vx) (hv : l[i] = v) (hok : OkE v.e) (hfl : v.frm.length < 2 ^ 47) (h : AHeap) : Pure Tryd.prog 41 [.agg (topE l p), .int .i64 (i : Nat)] h (.int .i64 (chkV l i v)) := by
  refine Pure.val (Clo.int _ _) ?_
  have hX := encX_eq v
  have hc : (V.agg (topE l p)).cells = some [.imm l.length (l.flatMap encX), .int .i64 p] := rfl
  have x0 := rows_ix (kk := .i64) (P := Tryd.prog) encX_len hi ss_22
  rw [hv] at x0
  have lr : ∀ (q : List V), loadGo (some (some 6)) (some (encX v ++ q)) = some (.agg (encX v)) := fun q => load_row (encX_len v)
  have hone : (V.agg (encX v)).cells = some (encX v) := rfl
  have hset : setC (some 6) (AObj.cells [.int .i64 0, .snil, .int .i64 0, .int .i64 0, .snil, .int .i64 0] 47 none) 0 (encX v) = some (.cells (encX v) 47 none) := by
    rw [setC_row (n := 6) (encX_len v) (encX_one v), if_pos (by decide), hX]; rfl
  have hl0 : loadGo (some none) (some (encX v)) = some (.int .i64 v.kind) := by rw [hX]; rfl
  have hd0 : dropC (AObj.cells (encX v) 47 none) 0 = some (encX v) := by rw [hX]; rfl
  have hd1 : dropC (AObj.cells (encX v) 47 none) 1 = some [.imm v.frm.length (i64V v.frm), .int .i64 v.e.op, .int .i64 v.e.num, .imm v.e.ks.length (v.e.ks.flatMap encE), .int .i64 v.n] := by rw [hX]; rfl
  have hld : loadGo (some (some 6)) (some (encX v)) = some (.agg (encX v)) := by rw [hX]; rfl
  obtain ⟨H0, hH0⟩ : ∃ x, x = h.push (.cells [.imm l.length (l.flatMap encX), .int .i64 p] 24 none) := ⟨_, rfl⟩
  have gt0 : H0.get h.n = .cells [.imm l.length (l.flatMap encX), .int .i64 p] 24 none := by rw [hH0]; exact get_push_new
  have n0 : H0.n = h.n + 1 := by rw [hH0]; rfl
  obtain ⟨H, hH⟩ : ∃ x, x = H0.push (.cells (encX v) 47 none) := ⟨_, rfl⟩
  have gv : H.get H0.n = .cells (encX v) 47 none := by rw [hH]; exact get_push_new
  have gt : H.get h.n = .cells [.imm l.length (l.flatMap encX), .int .i64 p] 24 none := by rw [hH]; exact (get_push_lt (by omega)).trans gt0
  have kH : Keep h H none_ := by rw [hH, hH0]; exact (Keep.push _ _ _).then_push _
  refine SCalls.enterI (c := _) Tryd.func41 rfl (by kernel_rfl) (by simp) ?_
  by_cases h1 : v.kind < 1
  · have c1 : decide (v.kind < 1) = true := by simpa using h1
    have hG : chkV l i v = 1 := by unfold chkV; rw [if_pos (.inl h1)]
    simp only [wpA_region, wpA_seq, wpA_cond, wpA_ret, condI_true, seqQ_normal, seqQ_ret, endI_mk, goI_out, goI_ops, opsA_nil, opsA_cons, opsA_guardS, gvI_tf, slotAt_zero, slotAt_succ, stepA_move, stepA_assign, stepA_pick, stepA_alloc, stepA_box, stepA_load, stepA_store, stepA_binOp, stepA_fieldAddr, stepA_indexAddr, thenV_some, thenH_some, thenS_some, pickV_true, eval_tmp, eval_const, put_some, put_none, enterF_zero, enterF_succ, aBin_lss, absV_int, absV_bool, aField_eq, fieldGo_ptr, aLoad_eq, loadGo_one, aPlace_ptr, aPlace_at, dropC_cells, aStore_eq, storeGo_ptr, aAlloc_eq, aBox_eq, get_push_new, set_push, Nat.reduceEqDiff, Nat.reduceAdd, Option.map_some, Nat.add_zero, Nat.zero_add, Nat.zero_le, List.length_cons, List.length_nil, List.drop_zero, if_true, if_false, ft_24_0, ft_47_0, lt_22, lt_3, lt_47, zc_47, zt_47, hc, ← hH0, gt0, x0, lr, hone, hset, ← hH, gv, hl0, hd0, c1, retA_ret, Tryd.results41, resultsA_1]
    exact hid_mk ⟨by rw [hG], kH⟩
  have c1 : decide (v.kind < 1) = false := by simpa using h1
  by_cases h2 : 10 < v.kind
  · have c2 : decide (10 < v.kind) = true := by simpa using h2
    have hG : chkV l i v = 1 := by unfold chkV; rw [if_pos (.inr h2)]
    simp only [wpA_region, wpA_seq, wpA_cond, wpA_ret, condI_true, seqQ_normal, seqQ_ret, endI_mk, goI_out, goI_ops, opsA_nil, opsA_cons, opsA_guardS, gvI_same, slotAt_zero, slotAt_succ, stepA_move, stepA_assign, stepA_pick, stepA_alloc, stepA_box, stepA_load, stepA_store, stepA_binOp, stepA_fieldAddr, stepA_indexAddr, thenV_some, thenH_some, thenS_some, pickV_false, eval_tmp, eval_const, put_some, put_none, enterF_zero, enterF_succ, aBin_lss, aBin_gtr, absV_int, absV_bool, aField_eq, fieldGo_ptr, aLoad_eq, loadGo_one, aPlace_ptr, aPlace_at, dropC_cells, aStore_eq, storeGo_ptr, aAlloc_eq, aBox_eq, get_push_new, set_push, Nat.reduceEqDiff, Nat.reduceAdd, Option.map_some, Nat.add_zero, Nat.zero_add, Nat.zero_le, List.length_cons, List.length_nil, List.drop_zero, if_true, if_false, ft_24_0, ft_47_0, lt_22, lt_3, lt_47, zc_47, zt_47, hc, ← hH0, gt0, x0, lr, hone, hset, ← hH, gv, hl0, hd0, c1, c2, retA_ret, Tryd.results41, resultsA_1]
    exact hid_mk ⟨by rw [hG], kH⟩
  have c2 : decide (10 < v.kind) = false := by simpa using h2
  simp only [wpA_skip, wpA_region, wpA_seq, wpA_cond, wpA_block, wpA_loop, condI_false, seqQ_normal, goI_out, goI_ops, opsA_nil, opsA_cons, opsA_guardS, gvI_same, slotAt_zero, slotAt_succ, stepA_move, stepA_assign, stepA_pick, stepA_alloc, stepA_box, stepA_load, stepA_store, stepA_binOp, stepA_fieldAddr, stepA_indexAddr, thenV_some, thenH_some, thenS_some, pickV_false, eval_tmp, eval_const, put_some, put_none, enterF_zero, enterF_succ, aBin_lss, aBin_gtr, absV_int, absV_bool, aField_eq, fieldGo_ptr, aLoad_eq, loadGo_one, aPlace_ptr, aPlace_at, dropC_cells, aStore_eq, storeGo_ptr, aAlloc_eq, aBox_eq, get_push_new, set_push, Nat.reduceEqDiff, Nat.reduceAdd, Option.map_some, Nat.add_zero, Nat.zero_add, Nat.zero_le, List.length_cons, List.length_nil, List.drop_zero, if_true, if_false, ft_24_0, ft_47_0, lt_22, lt_3, lt_47, zc_47, zt_47, hc, ← hH0, gt0, x0, lr, hone, hset, ← hH, gv, hl0, hd0, c1, c2]
  refine SWp.loopG (α := Nat) (fun j f h' => f 1 = .int .i64 (i : Nat) ∧ f 2 = .ptr h.n 0 ∧ f 5 = .ptr H0.n 0 ∧ f 6 = .int .i64 (j : Nat) ∧ j ≤ v.frm.length ∧ h' = H ∧ ((v.frm.take j).any fun f => decide (f < 0 ∨ (i : Int) ≤ f)) = false) (fun j => v.frm.length - j) 0 ⟨rfl, rfl, rfl, rfl, Nat.zero_le _, rfl, rfl⟩ ?_
  rintro j f h' ⟨f1, f2, f5, f6, hj, rfl, hA⟩
  refine wpI_sound (by kernel_rfl) ?_
  by_cases hlt : j < v.frm.length
  · have c3 : decide ((j : Int) < ((v.frm.length : Nat) : Int)) = true := by simp only [decide_eq_true_eq]; omega
    have x1 := i64V_ix' (P := Tryd.prog) (kk := .i64) hlt ss_33
    have w2 : IntKind.i64.wrap (((j : Nat) : Int) + 1) = ((j + 1 : Nat) : Int) := by rw [Go.IntWalk.i64_in _ (by omega)]; omega
    have hsn := any_take_succ (fun f => decide (f < 0 ∨ (i : Int) ≤ f)) hlt
    have hin : v.frm[j] ∈ v.frm := List.getElem_mem hlt
    generalize v.frm[j] = A at x1 hsn hin
    have bad : ∀ hb : A < 0 ∨ (i : Int) ≤ A, chkV l i v = 2 := fun hb => by
      unfold chkV
      rw [if_neg (by omega), if_pos (List.any_eq_true.2 ⟨A, hin, by simpa using hb⟩)]
    by_cases n1 : A < 0
    · have d1 : decide (A < 0) = true := by simpa using n1
      simp only [wpA_skip, wpA_region, wpA_seq, wpA_cond, wpA_block, wpA_ret, condI_true, seqQ_normal, seqQ_ret, blkQ_ret, endI_mk, goE, andThen_ret, goI_out, goI_ops, opsA_nil, opsA_cons, opsA_guardS, gvI_tf, slotAt_zero, slotAt_succ, stepA_move, stepA_assign, stepA_pick, stepA_load, stepA_binOp, stepA_fieldAddr, stepA_indexAddr, stepA_len, thenV_some, pickV_true, eval_tmp, eval_const, put_some, aBin_lss, absV_int, absV_bool, aField_eq, fieldGo_ptr, aLoad_eq, loadGo_one, aPlace_ptr, aPlace_at, aLen_imm, Nat.reduceEqDiff, Nat.zero_add, if_true, if_false, ft_47_1, kt_33, lt_3, lt_33, f5, f6, gv, hd1, c3, x1, d1, retA_ret, Tryd.results41, resultsA_1]
      exact hid_mk ⟨by rw [bad (.inl n1)], kH⟩
    have d1 : decide (A < 0) = false := by simpa using n1
    by_cases n2 : (i : Int) ≤ A
    · have d2 : decide ((i : Int) ≤ A) = true := by simpa using n2
      simp only [wpA_skip, wpA_region, wpA_seq, wpA_cond, wpA_block, wpA_ret, condI_true, seqQ_normal, seqQ_ret, blkQ_ret, endI_mk, goE, andThen_ret, goI_out, goI_ops, opsA_nil, opsA_cons, opsA_guardS, gvI_same, slotAt_zero, slotAt_succ, stepA_move, stepA_assign, stepA_pick, stepA_load, stepA_binOp, stepA_fieldAddr, stepA_indexAddr, stepA_len, thenV_some, pickV_false, eval_tmp, eval_const, put_some, aBin_lss, aBin_geq, absV_int, absV_bool, aField_eq, fieldGo_ptr, aLoad_eq, loadGo_one, aPlace_ptr, aPlace_at, aLen_imm, Nat.reduceEqDiff, Nat.zero_add, if_true, if_false, ft_47_1, kt_33, lt_3, lt_33, f1, f5, f6, gv, hd1, c3, x1, d1, d2, retA_ret, Tryd.results41, resultsA_1]
      exact hid_mk ⟨by rw [bad (.inr n2)], kH⟩
    have d2 : decide ((i : Int) ≤ A) = false := by simpa using n2
    simp only [wpA_skip, wpA_region, wpA_seq, wpA_cond, wpA_block, condI_true, condI_false, seqQ_normal, blkQ_normal, endI_mk, andThen_normal, goI_out, goI_ops, opsA_nil, opsA_cons, opsA_guardS, gvI_same, slotAt_zero, slotAt_succ, stepA_move, stepA_assign, stepA_pick, stepA_load, stepA_binOp, stepA_fieldAddr, stepA_indexAddr, stepA_len, thenV_some, pickV_false, eval_tmp, eval_const, put_some, aBin_add, aBin_lss, aBin_geq, absV_int, absV_bool, aField_eq, fieldGo_ptr, aLoad_eq, loadGo_one, aPlace_ptr, aPlace_at, aLen_imm, Nat.reduceEqDiff, Nat.zero_add, if_true, if_false, ft_47_1, kt_33, lt_3, lt_33, f1, f5, f6, gv, hd1, c3, x1, d1, d2, w2]
    exact hid_mk ⟨j + 1, ⟨f1, f2, f5, rfl, by omega, rfl, by rw [hsn, hA]; simp [n1, n2]⟩, by omega⟩
  have c3 : decide ((j : Int) < ((v.frm.length : Nat) : Int)) = false := by simp only [decide_eq_false_iff_not]; omega
  rw [List.take_of_length_le (by omega)] at hA
  have hrg : ∀ x ∈ v.frm, 0 ≤ x ∧ x < i := fun x hx => by
    rw [List.any_eq_false] at hA
    have := hA x hx
    simp only [decide_eq_true_eq] at this
    omega
  have hno : ¬ (v.kind < 1 ∨ 10 < v.kind) := by omega
  have hA2 : ¬ ((v.frm.any fun f => decide (f < 0 ∨ (i : Int) ≤ f)) = true) := by rw [hA]; simp
  simp only [wpA_region, wpA_seq, wpA_cond, wpA_exit, condI_false, seqQ_normal, seqQ_exit, blkQ_exit, endI_mk, goE, andThen_exit, goI_out, goI_ops, opsA_nil, opsA_cons, stepA_move, stepA_load, stepA_binOp, stepA_fieldAddr, stepA_len, stepA_call, thenV_some, eval_tmp, put_some, aBin_lss, aField_eq, fieldGo_ptr, aLoad_eq, loadGo_one, aPlace_ptr, aLen_imm, Nat.reduceEqDiff, List.map_cons, List.map_nil, Nat.zero_add, if_true, if_false, ft_47_1, kt_33, lt_33, lt_47, f5, f6, gv, hd1, hd0, hld, c3]
  refine callI_pure cal61 (pHas v hok (by omega) (by omega) h') ?_
  cases c4 : hasX v
  · have hG : chkV l i v = 5 := by unfold chkV; rw [if_neg hno, if_neg hA2, if_pos c4]
    simp only [wpA_region, wpA_seq, wpA_cond, wpA_ret, condI_true, seqQ_normal, seqQ_ret, endI_mk, goI_out, goI_ops, opsA_nil, opsA_cons, stepA_assign, stepA_unOp, thenV_some, eval_tmp, eval_const, put_some, aUn_not, absV_int, Nat.reduceEqDiff, if_true, if_false, Bool.not_false, retA_ret, Tryd.results41, resultsA_1]
    exact hid_mk ⟨by rw [hG], kH⟩
  have hno5 : ¬ (hasX v = false) := by rw [c4]; simp
  simp only [wpA_skip, wpA_region, wpA_seq, wpA_cond, condI_false, seqQ_normal, goI_out, goI_ops, opsA_nil, opsA_cons, stepA_move, stepA_load, stepA_unOp, stepA_call, thenV_some, eval_tmp, put_some, aUn_not, aLoad_eq, loadGo_row, aPlace_ptr, dropC_cells, Nat.reduceEqDiff, Nat.reduceAdd, List.map_cons, List.map_nil, Nat.zero_add, Nat.zero_le, List.length_cons, List.length_nil, List.drop_zero, List.take_succ_cons, List.take_nil, if_true, if_false, Bool.not_true, Nat.le_refl, lt_24, f1, f2, gt]
  refine callI_pure cal62 (pTakenR l p i hi (by omega) v hv h') ?_
  cases c7 : takenX l i v
  rotate_left
  · have hG : chkV l i v = 12 := by unfold chkV; rw [if_neg hno, if_neg hA2, if_neg hno5, if_pos c7]
    simp only [wpA_region, wpA_seq, wpA_cond, wpA_ret, condI_true, seqQ_normal, seqQ_ret, endI_mk, goI_out, goI_ops, opsA_nil, opsA_cons, stepA_assign, eval_tmp, eval_const, put_some, absV_int, Nat.reduceEqDiff, if_true, if_false, retA_ret, Tryd.results41, resultsA_1]
    exact hid_mk ⟨by rw [hG], kH⟩
  simp only [wpA_skip, wpA_region, wpA_seq, wpA_cond, wpA_block, wpA_loop, condI_false, seqQ_normal, goI_out, goI_ops, opsA_nil, opsA_cons, stepA_assign, eval_tmp, eval_const, put_some, absV_int, Nat.reduceEqDiff, if_true, if_false]
  refine SWp.loopG (α := Nat) (fun j f h1 => f 1 = .int .i64 (i : Nat) ∧ f 2 = .ptr h.n 0 ∧ f 5 = .ptr H0.n 0 ∧ f 7 = .int .i64 (j : Nat) ∧ j ≤ v.frm.length ∧ h1 = h' ∧ ((v.frm.take j).any fun f => kindAt l f == 10) = false) (fun j => v.frm.length - j) 0 ⟨f1, f2, f5, rfl, Nat.zero_le _, rfl, rfl⟩ ?_
  rintro j2 g h2 ⟨g1, g2, g5, g7, hj2, rfl, hB⟩
  refine wpI_sound (by kernel_rfl) ?_
  by_cases hlt2 : j2 < v.frm.length
  · have c8 : decide ((j2 : Int) < ((v.frm.length : Nat) : Int)) = true := by simp only [decide_eq_true_eq]; omega
    have x1 := i64V_ix' (P := Tryd.prog) (kk := .i64) hlt2 ss_33
    have w2 : IntKind.i64.wrap (((j2 : Nat) : Int) + 1) = ((j2 + 1 : Nat) : Int) := by rw [Go.IntWalk.i64_in _ (by omega)]; omega
    have hsn := any_take_succ (fun f => kindAt l f == 10) hlt2
    have hin : v.frm[j2] ∈ v.frm := List.getElem_mem hlt2
    generalize v.frm[j2] = A at x1 hsn hin
    obtain ⟨p1, p2⟩ := hrg A hin
    obtain ⟨q, rfl⟩ : ∃ q : Nat, A = (q : Int) := ⟨A.toNat, by omega⟩
    obtain ⟨x2, lu0, lk⟩ := kind_ix (l := l) (q := q) (by omega)
    simp only [wpA_skip, wpA_region, wpA_seq, wpA_cond, wpA_block, wpA_draw, condI_true, seqQ_normal, goI_out, goI_ops, opsA_nil, opsA_cons, stepA_move, stepA_load, stepA_binOp, stepA_fieldAddr, stepA_len, thenV_some, eval_tmp, put_some, aBin_lss, aField_eq, fieldGo_ptr, aLoad_eq, loadGo_one, aPlace_ptr, aLen_imm, Nat.reduceEqDiff, Nat.zero_add, if_true, if_false, ft_47_1, kt_33, lt_33, g5, g7, gv, hd1, c8]
    refine SWp.drawnS none_ [] (.q 0 (.q 1 (.q 2 (.q 3 (.q 4 (.q 5 (.q 6 (.q 7 (.q 8 (.q 9 (.q 10 .done))))))))))) (by kernel_rfl) (by kernel_rfl) (by kernel_rfl) ?_
    cases c9 : (kindAt l (q : Int) == 10)
    · simp only [siI_done, siI_q, sqI_some, mOk_none', implies_true, qI_nil, qI_cons, thenQ_some, q_move, q_load, q_binOp, q_fieldAddr, q_indexAddr, wpA_skip, wpA_region, wpA_cond, condI_false, seqQ_normal, blkQ_normal, endI_mk, andThen_normal, goI_out, goI_ops, goI_mk, opsA_nil, opsA_cons, stepA_move, stepA_assign, stepA_binOp, thenV_some, eval_tmp, eval_const, put_some, aBin_add, aBin_eql, absV_int, aField_eq, fieldGo_ptr, fieldGo_at, aLoad_eq, loadGo_one, aPlace_ptr, aPlace_at, dropC_cells, List.getElem?_cons_zero, List.getElem?_cons_succ, Nat.reduceEqDiff, Nat.reduceAdd, Nat.add_zero, Nat.zero_add, Nat.zero_le, List.length_cons, List.length_nil, List.drop_zero, true_and, if_true, if_false, ft_24_0, ft_47_0, ft_47_1, lt_22, lt_3, lt_33, g2, g5, g7, gv, gt, hd1, x1, x2, lu0, c9, w2]
      exact hid_mk ⟨j2 + 1, ⟨g1, g2, g5, rfl, by omega, rfl, by rw [hsn, hB, c9]; rfl⟩, by omega⟩
    · have hG : chkV l i v = 5 := by
        unfold chkV
        rw [if_neg hno, if_neg hA2, if_neg hno5, if_neg (by rw [c7]; simp), if_pos (List.any_eq_true.2 ⟨_, hin, c9⟩)]
      simp only [siI_done, siI_q, sqI_some, mOk_none', implies_true, qI_nil, qI_cons, thenQ_some, q_move, q_load, q_binOp, q_fieldAddr, q_indexAddr, wpA_region, wpA_seq, wpA_cond, wpA_ret, condI_true, seqQ_normal, seqQ_ret, blkQ_ret, endI_mk, goE, andThen_ret, goI_out, goI_ops, goI_mk, opsA_nil, opsA_cons, stepA_assign, eval_tmp, eval_const, put_some, aBin_eql, absV_int, aField_eq, fieldGo_ptr, fieldGo_at, aLoad_eq, loadGo_one, aPlace_ptr, aPlace_at, dropC_cells, List.getElem?_cons_zero, List.getElem?_cons_succ, Nat.reduceEqDiff, Nat.reduceAdd, Nat.add_zero, Nat.zero_add, Nat.zero_le, List.length_cons, List.length_nil, List.drop_zero, true_and, if_true, if_false, ft_24_0, ft_47_0, ft_47_1, lt_22, lt_3, lt_33, g2, g5, g7, gv, gt, hd1, x1, x2, lu0, c9, retA_ret, Tryd.results41, resultsA_1]
      exact hid_mk ⟨by rw [hG], kH⟩
  have c8 : decide ((j2 : Int) < ((v.frm.length : Nat) : Int)) = false := by simp only [decide_eq_false_iff_not]; omega
  rw [List.take_of_length_le (by omega)] at hB
  have hB2 : ¬ ((v.frm.any fun f => kindAt l f == 10) = true) := by rw [hB]; simp
  simp only [wpA_region, wpA_seq, wpA_cond, wpA_exit, wpA_draw, condI_false, seqQ_normal, seqQ_exit, blkQ_exit, endI_mk, goE, andThen_exit, goI_out, goI_ops, opsA_nil, opsA_cons, stepA_move, stepA_load, stepA_binOp, stepA_fieldAddr, stepA_len, thenV_some, eval_tmp, put_some, aBin_lss, aField_eq, fieldGo_ptr, aLoad_eq, loadGo_one, aPlace_ptr, aLen_imm, Nat.reduceEqDiff, Nat.zero_add, if_true, if_false, ft_47_1, kt_33, lt_33, g5, g7, gv, hd1, c8]
  refine SWp.drawnS none_ [] (.q 0 (.q 1 (.q 2 (.q 3 (.q 4 (.q 5 (.q 6 (.q 7 (.q 8 (.q 9 (.q 10 (.q 11 (.q 12 (.q 13 (.q 14 .done))))))))))))))) (by kernel_rfl) (by kernel_rfl) (by kernel_rfl) ?_
  by_cases h9 : v.kind = 9
  · have c9 : (v.kind == 9) = true := by simp [h9]
    have hlen : v.frm.length = 2 := has9 h9 c4
    have x1 := frm_1 (l := v.frm) (by omega)
    have hge : v.frm.getD 1 0 = v.frm[1] := by rw [List.getD, List.getElem?_eq_getElem (by omega)]; rfl
    have hin : v.frm[1] ∈ v.frm := List.getElem_mem _
    have hG : chkV l i v = if v.kind = 9 ∧ kindAt l v.frm[1] ≠ 6 then 5 else 0 := by
      unfold chkV
      rw [if_neg hno, if_neg hA2, if_neg hno5, if_neg (by rw [c7]; simp), if_neg hB2, hge]
    generalize v.frm[1] = A at x1 hin hG
    obtain ⟨p1, p2⟩ := hrg A hin
    obtain ⟨q, rfl⟩ : ∃ q : Nat, A = (q : Int) := ⟨A.toNat, by omega⟩
    obtain ⟨x2, lu0, lk⟩ := kind_ix (l := l) (q := q) (by omega)
    by_cases h6 : kindAt l (q : Int) = 6
    · have c10 : (kindAt l (q : Int) != 6) = false := by simp [h6]
      rw [if_neg (by simp [h6])] at hG
      simp only [siI_done, siI_q, sqI_some, mOk_none', implies_true, qI_nil, qI_cons, qI_guard, qgI_same, thenQ_some, q_move, q_pick, q_load, q_binOp, q_fieldAddr, q_indexAddr, wpA_skip, wpA_region, wpA_seq, wpA_cond, wpA_ret, condI_false, seqQ_normal, endI_mk, goI_out, goI_ops, goI_mk, opsA_nil, opsA_cons, slotAt_zero, slotAt_succ, stepA_assign, pickV_true, eval_tmp, eval_const, put_some, aBin_eql, aBin_neq, absV_int, absV_bool, aField_eq, fieldGo_ptr, fieldGo_at, aLoad_eq, loadGo_one, aPlace_ptr, aPlace_at, dropC_cells, aIndexAddr_eq, ixGo_imm, List.getElem?_cons_zero, List.getElem?_cons_succ, Int.reduceLE, Nat.reduceEqDiff, Nat.reduceAdd, Nat.add_zero, Nat.zero_add, Nat.zero_le, List.length_cons, List.length_nil, List.drop_zero, true_and, if_true, if_false, as_33, ft_24_0, ft_47_0, ft_47_1, lt_22, lt_3, lt_33, ss_33, g2, g5, gv, gt, hl0, hd0, hd1, c9, x1, x2, lu0, c10, retA_ret, Tryd.results41, resultsA_1]
      exact hid_mk ⟨by rw [hG], kH⟩
    · have c10 : (kindAt l (q : Int) != 6) = true := by simp [h6]
      rw [if_pos ⟨h9, h6⟩] at hG
      simp only [siI_done, siI_q, sqI_some, mOk_none', implies_true, qI_nil, qI_cons, qI_guard, qgI_same, thenQ_some, q_move, q_pick, q_load, q_binOp, q_fieldAddr, q_indexAddr, wpA_region, wpA_seq, wpA_cond, wpA_ret, condI_true, seqQ_normal, seqQ_ret, endI_mk, goI_out, goI_ops, goI_mk, opsA_nil, opsA_cons, slotAt_zero, slotAt_succ, stepA_assign, pickV_true, eval_tmp, eval_const, put_some, aBin_eql, aBin_neq, absV_int, absV_bool, aField_eq, fieldGo_ptr, fieldGo_at, aLoad_eq, loadGo_one, aPlace_ptr, aPlace_at, dropC_cells, aIndexAddr_eq, ixGo_imm, List.getElem?_cons_zero, List.getElem?_cons_succ, Int.reduceLE, Nat.reduceEqDiff, Nat.reduceAdd, Nat.add_zero, Nat.zero_add, Nat.zero_le, List.length_cons, List.length_nil, List.drop_zero, true_and, if_true, if_false, as_33, ft_24_0, ft_47_0, ft_47_1, lt_22, lt_3, lt_33, ss_33, g2, g5, gv, gt, hl0, hd0, hd1, c9, x1, x2, lu0, c10, retA_ret, Tryd.results41, resultsA_1]
      exact hid_mk ⟨by rw [hG], kH⟩
  · have c9 : (v.kind == 9) = false := by simp [h9]
    have hG : chkV l i v = 0 := by
      unfold chkV
      rw [if_neg hno, if_neg hA2, if_neg hno5, if_neg (by rw [c7]; simp), if_neg hB2, if_neg (by simp [h9])]
    simp only [siI_done, siI_q, sqI_some, mOk_none', implies_true, qI_nil, qI_cons, qI_guard, qgI_ft, thenQ_some, q_move, q_pick, q_load, q_binOp, q_fieldAddr, wpA_skip, wpA_region, wpA_seq, wpA_cond, wpA_ret, condI_false, seqQ_normal, endI_mk, goI_out, goI_ops, goI_mk, opsA_nil, opsA_cons, slotAt_zero, slotAt_succ, stepA_assign, pickV_false, eval_tmp, eval_const, put_some, aBin_eql, absV_int, absV_bool, aField_eq, fieldGo_ptr, aLoad_eq, aPlace_ptr, List.getElem?_cons_zero, List.getElem?_cons_succ, Nat.reduceEqDiff, Nat.add_zero, true_and, if_true, if_false, ft_47_0, lt_3, g5, gv, hl0, hd0, c9, retA_ret, Tryd.results41, resultsA_1]
    exact hid_mk ⟨by rw [hG], kH⟩

set_option maxHeartbeats 1000000 in
set_option maxRecDepth 10000 in
theorem pCheckR (l : List Vx) (p : Int) (hok : OkT l) (h : AHeap) : Pure Tryd.prog 17 [.agg (topE l p)] h (chkA (chkT p l)) := by
  have hclo : Clo (chkA (chkT p l)) := Clo.tuple (CloL.cons (Clo.int _ _) (CloL.cons (Clo.int _ _) CloL.nil))
  refine Pure.val hclo ?_
  have hc : (V.agg (topE l p)).cells = some [.imm l.length (l.flatMap encX), .int .i64 p] := rfl
  obtain ⟨H, hH⟩ : ∃ x, x = h.push (.cells [.imm l.length (l.flatMap encX), .int .i64 p] 24 none) := ⟨_, rfl⟩
  have gt : H.get h.n = .cells [.imm l.length (l.flatMap encX), .int .i64 p] 24 none := by rw [hH]; exact get_push_new
  have kH : Keep h H none_ := by rw [hH]; exact Keep.push _ _ _
  have hag : V.agg [.imm l.length (l.flatMap encX), .int .i64 p] = .agg (topE l p) := rfl
  refine SCalls.enterI (c := _) Tryd.func17 rfl (by kernel_rfl) (by simp) ?_
  by_cases h1 : p < 1
  · have c1 : decide (p < 1) = true := by simpa using h1
    have hG : chkT p l = (-1, 2) := if_pos (.inl h1)
    simp only [wpA_region, wpA_seq, wpA_cond, wpA_ret, condI_true, seqQ_normal, seqQ_ret, endI_mk, goI_out, goI_ops, opsA_nil, opsA_cons, opsA_guardS, gvI_tf, slotAt_zero, slotAt_succ, stepA_move, stepA_assign, stepA_pick, stepA_box, stepA_load, stepA_binOp, stepA_fieldAddr, thenV_some, thenH_some, pickV_true, eval_tmp, eval_const, put_some, enterF_zero, enterF_succ, aBin_lss, absV_int, absV_bool, aField_eq, fieldGo_ptr, aLoad_eq, loadGo_one, aPlace_ptr, dropC_cells, aBox_eq, Int.reduceNeg, Nat.reduceEqDiff, Nat.reduceAdd, Nat.reduceLeDiff, Option.map_some, Nat.zero_add, List.length_cons, List.length_nil, List.drop_zero, List.drop_succ_cons, if_true, if_false, ft_24_1, lt_3, hc, ← hH, gt, c1, retA_ret, Tryd.results17, resultsA_2]
    exact hid_mk ⟨by rw [hG]; rfl, kH⟩
  have c1 : decide (p < 1) = false := by simpa using h1
  by_cases h2 : 8 < p
  · have c2 : decide (8 < p) = true := by simpa using h2
    have hG : chkT p l = (-1, 2) := if_pos (.inr (.inl h2))
    simp only [wpA_region, wpA_seq, wpA_cond, wpA_ret, condI_true, seqQ_normal, seqQ_ret, endI_mk, goI_out, goI_ops, opsA_nil, opsA_cons, opsA_guardS, gvI_same, gvI_tf, slotAt_zero, slotAt_succ, stepA_move, stepA_assign, stepA_pick, stepA_box, stepA_load, stepA_binOp, stepA_fieldAddr, thenV_some, thenH_some, pickV_true, pickV_false, eval_tmp, eval_const, put_some, enterF_zero, enterF_succ, aBin_lss, aBin_gtr, absV_int, absV_bool, aField_eq, fieldGo_ptr, aLoad_eq, loadGo_one, aPlace_ptr, dropC_cells, aBox_eq, Int.reduceNeg, Nat.reduceEqDiff, Nat.reduceAdd, Nat.reduceLeDiff, Option.map_some, Nat.zero_add, List.length_cons, List.length_nil, List.drop_zero, List.drop_succ_cons, if_true, if_false, ft_24_1, lt_3, hc, ← hH, gt, c1, c2, retA_ret, Tryd.results17, resultsA_2]
    exact hid_mk ⟨by rw [hG]; rfl, kH⟩
  have c2 : decide (8 < p) = false := by simpa using h2
  by_cases h3 : l.length = 0
  · have c3 : decide (((l.length : Nat) : Int) < 1) = true := by simp only [decide_eq_true_eq]; omega
    have hG : chkT p l = (-1, 2) := if_pos (.inr (.inr (.inl h3)))
    simp only [wpA_region, wpA_seq, wpA_cond, wpA_ret, condI_true, seqQ_normal, seqQ_ret, endI_mk, goI_out, goI_ops, opsA_nil, opsA_cons, opsA_guardS, gvI_same, gvI_tf, slotAt_zero, slotAt_succ, stepA_move, stepA_assign, stepA_pick, stepA_box, stepA_load, stepA_binOp, stepA_fieldAddr, stepA_len, thenV_some, thenH_some, pickV_true, pickV_false, eval_tmp, eval_const, put_some, enterF_zero, enterF_succ, aBin_lss, aBin_gtr, absV_int, absV_bool, aField_eq, fieldGo_ptr, aLoad_eq, loadGo_one, aPlace_ptr, dropC_cells, aBox_eq, aLen_imm, Int.reduceNeg, Nat.reduceEqDiff, Nat.reduceAdd, Nat.reduceLeDiff, Option.map_some, Nat.add_zero, Nat.zero_add, Nat.zero_le, List.length_cons, List.length_nil, List.drop_zero, List.drop_succ_cons, if_true, if_false, ft_24_0, ft_24_1, kt_22, lt_22, lt_3, hc, ← hH, gt, c1, c2, c3, retA_ret, Tryd.results17, resultsA_2]
    exact hid_mk ⟨by rw [hG]; rfl, kH⟩
  have c3 : decide (((l.length : Nat) : Int) < 1) = false := by simp only [decide_eq_false_iff_not]; omega
  by_cases h4 : 24 < l.length
  · have c4 : decide ((24 : Int) < ((l.length : Nat) : Int)) = true := by simp only [decide_eq_true_eq]; omega
    have hG : chkT p l = (-1, 2) := if_pos (.inr (.inr (.inr h4)))
    simp only [wpA_region, wpA_seq, wpA_cond, wpA_ret, condI_true, seqQ_normal, seqQ_ret, endI_mk, goI_out, goI_ops, opsA_nil, opsA_cons, opsA_guardS, gvI_same, slotAt_zero, slotAt_succ, stepA_move, stepA_assign, stepA_pick, stepA_box, stepA_load, stepA_binOp, stepA_fieldAddr, stepA_len, thenV_some, thenH_some, pickV_false, eval_tmp, eval_const, put_some, enterF_zero, enterF_succ, aBin_lss, aBin_gtr, absV_int, absV_bool, aField_eq, fieldGo_ptr, aLoad_eq, loadGo_one, aPlace_ptr, dropC_cells, aBox_eq, aLen_imm, Int.reduceNeg, Nat.reduceEqDiff, Nat.reduceAdd, Nat.reduceLeDiff, Option.map_some, Nat.add_zero, Nat.zero_add, Nat.zero_le, List.length_cons, List.length_nil, List.drop_zero, List.drop_succ_cons, if_true, if_false, ft_24_0, ft_24_1, kt_22, lt_22, lt_3, hc, ← hH, gt, c1, c2, c3, c4, retA_ret, Tryd.results17, resultsA_2]
    exact hid_mk ⟨by rw [hG]; rfl, kH⟩
  have c4 : decide ((24 : Int) < ((l.length : Nat) : Int)) = false := by simp only [decide_eq_false_iff_not]; omega
  have hG : chkT p l = chkF l 0 l := if_neg (by omega)
  simp only [wpA_skip, wpA_region, wpA_seq, wpA_cond, wpA_block, wpA_loop, condI_false, seqQ_normal, goI_out, goI_ops, opsA_nil, opsA_cons, opsA_guardS, gvI_same, slotAt_zero, slotAt_succ, stepA_move, stepA_assign, stepA_pick, stepA_box, stepA_load, stepA_binOp, stepA_fieldAddr, stepA_len, thenV_some, thenH_some, pickV_false, eval_tmp, eval_const, put_some, enterF_zero, enterF_succ, aBin_lss, aBin_gtr, absV_int, absV_bool, aField_eq, fieldGo_ptr, aLoad_eq, loadGo_one, aPlace_ptr, dropC_cells, aBox_eq, aLen_imm, Int.reduceNeg, Nat.reduceEqDiff, Nat.reduceAdd, Nat.reduceLeDiff, Option.map_some, Nat.add_zero, Nat.zero_add, Nat.zero_le, List.length_cons, List.length_nil, List.drop_zero, List.drop_succ_cons, if_true, if_false, ft_24_0, ft_24_1, kt_22, lt_22, lt_3, hc, ← hH, gt, c1, c2, c3, c4]
  refine SWp.loopG (α := Nat) (fun i f h' => f 1 = .ptr h.n 0 ∧ f 4 = .int .i64 (i : Nat) ∧ i ≤ l.length ∧ h' = H ∧ chkF l 0 l = chkF l i (l.drop i)) (fun i => l.length - i) 0 ⟨rfl, rfl, Nat.zero_le _, rfl, rfl⟩ ?_
  rintro i f h1 ⟨f1, f4, hi, rfl, hE⟩
  refine wpI_sound (by kernel_rfl) ?_
  by_cases hlt : i < l.length
  · have c5 : decide ((i : Int) < ((l.length : Nat) : Int)) = true := by simp only [decide_eq_true_eq]; omega
    rw [List.drop_eq_getElem_cons hlt] at hE
    obtain ⟨ok1, ok2, _⟩ := hok.2 _ (List.getElem_mem hlt)
    have w2 : IntKind.i64.wrap (((i : Nat) : Int) + 1) = ((i + 1 : Nat) : Int) := by rw [Go.IntWalk.i64_in _ (by omega)]; omega
    simp only [wpA_skip, wpA_region, wpA_seq, wpA_cond, wpA_block, condI_true, seqQ_normal, goI_out, goI_ops, opsA_nil, opsA_cons, stepA_move, stepA_load, stepA_binOp, stepA_fieldAddr, stepA_len, stepA_call, thenV_some, eval_tmp, put_some, aBin_lss, aField_eq, fieldGo_ptr, aLoad_eq, loadGo_one, loadGo_row, aPlace_ptr, dropC_cells, aLen_imm, Nat.reduceEqDiff, Nat.reduceAdd, List.map_cons, List.map_nil, Nat.add_zero, Nat.zero_add, Nat.zero_le, List.length_cons, List.length_nil, List.drop_zero, List.take_succ_cons, List.take_nil, if_true, if_false, Nat.le_refl, ft_24_0, kt_22, lt_22, lt_24, f1, f4, gt, c5]
    refine callI_pure cal41 (pVertexR l p i hlt (by omega) _ rfl ok1 ok2 h1) ?_
    replace hE : chkF l 0 l = if chkV l i l[i] = 0 then chkF l (i + 1) (l.drop (i + 1)) else ((i : Int), chkV l i l[i]) := hE
    by_cases h0 : chkV l i l[i] = 0
    · have c6 : (chkV l i l[i] != 0) = false := by simp [h0]
      rw [if_pos h0] at hE
      simp only [wpA_skip, wpA_region, wpA_seq, wpA_cond, condI_false, seqQ_normal, blkQ_normal, endI_mk, andThen_normal, goI_out, goI_ops, opsA_nil, opsA_cons, stepA_move, stepA_assign, stepA_binOp, thenV_some, eval_tmp, eval_const, put_some, aBin_add, aBin_neq, absV_int, Int.reduceNeg, Nat.reduceEqDiff, if_true, if_false, f4, c6, w2]
      exact hid_mk ⟨i + 1, ⟨f1, rfl, by omega, rfl, hE⟩, by omega⟩
    · have c6 : (chkV l i l[i] != 0) = true := by simp [h0]
      rw [if_neg h0] at hE
      simp only [wpA_region, wpA_seq, wpA_cond, wpA_ret, condI_true, seqQ_normal, seqQ_ret, blkQ_ret, endI_mk, goE, andThen_ret, goI_out, goI_ops, opsA_nil, opsA_cons, stepA_move, stepA_assign, stepA_binOp, thenV_some, eval_tmp, eval_const, put_some, aBin_neq, absV_int, Int.reduceNeg, Nat.reduceEqDiff, if_true, if_false, f4, c6, retA_ret, Tryd.results17, resultsA_2]
      exact hid_mk ⟨by rw [hG, hE]; rfl, kH⟩
  · have c5 : decide ((i : Int) < ((l.length : Nat) : Int)) = false := by simp only [decide_eq_false_iff_not]; omega
    rw [List.drop_of_length_le (by omega)] at hE
    simp only [wpA_region, wpA_seq, wpA_cond, wpA_exit, wpA_ret, condI_false, seqQ_normal, seqQ_exit, blkQ_exit, endI_mk, goE, andThen_exit, goI_out, goI_ops, opsA_nil, opsA_cons, stepA_move, stepA_assign, stepA_load, stepA_binOp, stepA_fieldAddr, stepA_len, thenV_some, eval_tmp, eval_const, put_some, aBin_lss, absV_int, aField_eq, fieldGo_ptr, aLoad_eq, loadGo_one, aPlace_ptr, dropC_cells, aLen_imm, Int.reduceNeg, Nat.reduceEqDiff, Nat.reduceAdd, Nat.add_zero, Nat.zero_add, Nat.zero_le, List.length_cons, List.length_nil, List.drop_zero, if_true, if_false, ft_24_0, kt_22, lt_22, f1, f4, gt, c5, retA_ret, Tryd.results17, resultsA_2]
    exact hid_mk ⟨by rw [hG, hE]; rfl, kH⟩

end Go.Proofs.YtpmmbcifhallbaaDoor.Pk
