/-
  What functions of the program do, told of abstract states. Conditions: as each theorem says.
-/
import Derived.Test.YtpmmbcifhallbaaDoorTpBd
namespace Go.Proofs.YtpmmbcifhallbaaDoor.Pk
open Go Go.Proofs Go.Proofs.YtpmmbcifhallbaaDoor.Ab
set_option linter.unusedVariables false
set_option linter.unusedSimpArgs false
set_option maxRecDepth 10000 in
theorem pSameI (a b : List Int) (h : AHeap) (ha : a.length ≤ 2 ^ 60) : Pure Tryd.prog 18 [.imm a.length (i64V a), .imm b.length (i64V b)] h (.bool (decide (a = b))) := by
  refine Pure.val (Clo.bool _) ?_
  refine SCalls.enterI (c := _) Tryd.func18 rfl (by kernel_rfl) (by simp) ?_
  by_cases hne : a.length = b.length
  rotate_left
  · have c1 : (((a.length : Nat) : Int) != ((b.length : Nat) : Int)) = true := by simp; omega
    have hG : decide (a = b) = false := by simp only [decide_eq_false_iff_not]; rintro rfl; exact hne rfl
    simp only [wpA_region, wpA_seq, wpA_cond, wpA_ret, condI_true, seqQ_normal, seqQ_ret, endI_mk, goI_out, goI_ops, opsA_nil, opsA_cons, stepA_move, stepA_assign, stepA_binOp, stepA_len, thenV_some, eval_tmp, eval_const, put_some, enterF_zero, enterF_succ, aBin_neq, absV_bool, aLen_imm, Nat.reduceEqDiff, reduceCtorEq, if_true, if_false, kt_33, c1, retA_ret, Tryd.results18, resultsA_1]
    exact hid_mk ⟨by rw [hG], Keep.refl _ _⟩
  have c1 : (((a.length : Nat) : Int) != ((b.length : Nat) : Int)) = false := by simp [hne]
  simp only [wpA_skip, wpA_region, wpA_seq, wpA_cond, wpA_block, wpA_loop, condI_false, seqQ_normal, goI_out, goI_ops, opsA_nil, opsA_cons, stepA_move, stepA_assign, stepA_binOp, stepA_len, thenV_some, eval_tmp, eval_const, put_some, enterF_zero, enterF_succ, aBin_neq, absV_int, absV_bool, aLen_imm, Nat.reduceEqDiff, reduceCtorEq, if_true, if_false, kt_33, c1]
  refine SWp.loopG (α := Nat) (fun i f h' => f 0 = .imm a.length (i64V a) ∧ f 1 = .imm b.length (i64V b) ∧ f 5 = .int .i64 (i : Nat) ∧ Keep h h' none_ ∧ i ≤ a.length ∧ a.take i = b.take i) (fun i => a.length - i) 0
    ⟨rfl, rfl, rfl, Keep.refl _ _, Nat.zero_le _, rfl⟩ ?_
  rintro i f h1 ⟨f0, f1, f5, k1, hi, hT⟩
  refine wpI_sound (by kernel_rfl) ?_
  by_cases hlt : i < a.length
  rotate_left
  · have c3 : decide ((i : Int) < ((a.length : Nat) : Int)) = false := decide_eq_false (by omega)
    rw [List.take_of_length_le (by omega), List.take_of_length_le (by omega)] at hT
    simp only [wpA_region, wpA_seq, wpA_cond, wpA_exit, wpA_ret, condI_false, seqQ_normal, seqQ_exit, blkQ_exit, endI_mk, goE, andThen_exit, goI_out, goI_ops, opsA_nil, opsA_cons, stepA_move, stepA_assign, stepA_binOp, stepA_len, thenV_some, eval_tmp, eval_const, put_some, aBin_lss, absV_bool, aLen_imm, Nat.reduceEqDiff, reduceCtorEq, if_true, if_false, kt_33, f0, f5, c3, retA_ret, Tryd.results18, resultsA_1]
    exact hid_mk ⟨by rw [hT]; simp, k1⟩
  · have c3 : decide ((i : Int) < ((a.length : Nat) : Int)) = true := decide_eq_true (by omega)
    have hltb : i < b.length := by omega
    have w1 : IntKind.i64.wrap ((i : Int) + 1) = ((i + 1 : Nat) : Int) := by rw [Go.IntWalk.i64_in _ (by omega)]; omega
    have x0 : ∃ r, aIndexAddr Tryd.prog 33 (.imm a.length (i64V a)) (.int .i64 (i : Int)) = some (.at (.int .i64 a[i] :: r)) := ⟨_, Ab.row_ix (V.int .i64) hlt ss_33⟩
    have x1 : ∃ r, aIndexAddr Tryd.prog 33 (.imm b.length (i64V b)) (.int .i64 (i : Int)) = some (.at (.int .i64 b[i] :: r)) := ⟨_, Ab.row_ix (V.int .i64) hltb ss_33⟩
    obtain ⟨r0, x0⟩ := x0
    obtain ⟨r1, x1⟩ := x1
    have hT2 : a[i] = b[i] → a.take (i + 1) = b.take (i + 1) := fun heq => by rw [List.take_succ_eq_append_getElem hlt, List.take_succ_eq_append_getElem hltb, hT, heq]
    have hG2 : ¬ a[i] = b[i] → decide (a = b) = false := fun heq => by simp only [decide_eq_false_iff_not]; rintro rfl; exact heq rfl
    generalize a[i] = A at x0 hT2 hG2
    generalize b[i] = B at x1 hT2 hG2
    simp only [wpA_skip, wpA_region, wpA_seq, wpA_cond, wpA_block, wpA_draw, condI_true, seqQ_normal, goI_out, goI_ops, opsA_nil, opsA_cons, stepA_move, stepA_binOp, stepA_len, thenV_some, eval_tmp, put_some, aBin_lss, aLen_imm, Nat.reduceEqDiff, reduceCtorEq, if_true, if_false, kt_33, f0, f5, c3]
    refine SWp.drawnS none_ [] (.q 0 (.q 1 (.q 2 (.q 3 (.q 4 (.q 5 (.q 6 (.q 7 (.q 8 .done))))))))) (by kernel_rfl) (by kernel_rfl) (by kernel_rfl) ?_
    by_cases heq : A = B
    · have n1 : (A != B) = false := by simp [heq]
      simp only [siI_done, siI_q, sqI_some, mOk_none', implies_true, qI_nil, qI_cons, thenQ_some, q_move, q_load, q_binOp, q_indexAddr, wpA_skip, wpA_region, wpA_cond, condI_false, seqQ_normal, blkQ_normal, endI_mk, andThen_normal, goI_out, goI_ops, goI_mk, opsA_nil, opsA_cons, stepA_move, stepA_assign, stepA_binOp, thenV_some, eval_tmp, eval_const, put_some, aBin_add, aBin_neq, absV_int, aLoad_eq, loadGo_one, aPlace_at, List.getElem?_cons_zero, List.getElem?_cons_succ, Nat.reduceEqDiff, reduceCtorEq, true_and, if_true, if_false, lt_3, f0, f1, f5, x0, x1, n1, w1]
      exact hid_mk ⟨i + 1, ⟨f0, f1, rfl, k1, by omega, hT2 heq⟩, by omega⟩
    · have n1 : (A != B) = true := by simp [heq]
      simp only [siI_done, siI_q, sqI_some, mOk_none', implies_true, qI_nil, qI_cons, thenQ_some, q_move, q_load, q_binOp, q_indexAddr, wpA_region, wpA_seq, wpA_cond, wpA_ret, condI_true, seqQ_normal, seqQ_ret, blkQ_ret, endI_mk, goE, andThen_ret, goI_out, goI_ops, goI_mk, opsA_nil, opsA_cons, stepA_assign, eval_tmp, eval_const, put_some, aBin_neq, absV_bool, aLoad_eq, loadGo_one, aPlace_at, List.getElem?_cons_zero, List.getElem?_cons_succ, Nat.reduceEqDiff, reduceCtorEq, true_and, if_true, if_false, lt_3, f0, f1, f5, x0, x1, n1, retA_ret, Tryd.results18, resultsA_1]
      exact hid_mk ⟨by rw [hG2 heq], k1⟩
set_option maxRecDepth 10000 in
theorem pSameE : ∀ (s : Nat) (e : Ex) (h : AHeap), szE e = s → OkE e → Pure Tryd.prog 51 [.agg (encE e), .agg (encE e)] h (.bool true) := by
  intro s
  induction s using Nat.strongRecOn with
  | _ s ih =>
  intro e h hs hok
  obtain ⟨o, n, ks⟩ := e
  refine Pure.val (Clo.bool _) ?_
  have hlen := hok.len
  simp only [Ex.ks] at hlen
  refine SCalls.enterI (c := _) Tryd.func51 rfl (by kernel_rfl) (by simp) ?_
  have hc := ex_cells (.mk o n ks)
  have hd0 := ex_d0 o n ks
  have hd1 := ex_d1 o n ks
  have hd2 := ex_d2 o n ks
  have e1 : (o != o) = false := by simp
  have e2 : (n != n) = false := by simp
  have e3 : (((ks.length : Nat) : Int) != ((ks.length : Nat) : Int)) = false := by simp
  obtain ⟨H, hH⟩ : ∃ y, y = (h.push (.cells (encE (.mk o n ks)) 45 none)).push (.cells (encE (.mk o n ks)) 45 none) := ⟨_, rfl⟩
  have gA : H.get h.n = .cells (encE (.mk o n ks)) 45 none := by rw [hH]; exact get_push2'
  have gB : H.get (h.n + 1) = .cells (encE (.mk o n ks)) 45 none := by rw [hH]; exact get_push2
  have kH : Keep h H none_ := by rw [hH]; exact (Keep.push _ _ _).then_push _
  simp only [wpA_skip, wpA_region, wpA_seq, wpA_cond, wpA_block, wpA_loop, condI_false, seqQ_normal, goI_out, goI_ops, opsA_nil, opsA_cons, opsA_guardS, gvI_same, slotAt_zero, slotAt_succ, stepA_move, stepA_assign, stepA_pick, stepA_box, stepA_load, stepA_binOp, stepA_fieldAddr, stepA_len, thenV_some, thenH_some, pickV_false, eval_tmp, eval_const, put_some, enterF_zero, enterF_succ, aBin_neq, absV_int, absV_bool, aField_eq, fieldGo_ptr, aLoad_eq, loadGo_one, aPlace_ptr, aBox_eq, aLen_imm, push_n, get_push2, get_push2', bne_self_eq_false, Nat.reduceEqDiff, Option.map_some, Nat.add_zero, Nat.zero_add, if_true, if_false, ft_45_0, ft_45_1, ft_45_2, kt_43, lt_2, lt_3, lt_43, hc, hd0, hd1, hd2]
  rw [← hH]
  clear hH
  refine SWp.loopG (α := Nat) (fun i f h' => f 2 = .ptr h.n 0 ∧ f 3 = .ptr (h.n + 1) 0 ∧ f 5 = .int .i64 (i : Nat) ∧ i ≤ ks.length ∧ h' = H) (fun i => ks.length - i) 0 ⟨rfl, rfl, rfl, Nat.zero_le _, rfl⟩ ?_
  rintro i f h' ⟨f2, f3, f5, hi, rfl⟩
  refine wpI_sound (by kernel_rfl) ?_
  by_cases hlt : i < ks.length
  rotate_left
  · have c3 : decide ((i : Int) < ((ks.length : Nat) : Int)) = false := decide_eq_false (by omega)
    simp only [wpA_region, wpA_seq, wpA_cond, wpA_exit, wpA_ret, condI_false, seqQ_normal, seqQ_exit, blkQ_exit, endI_mk, goE, andThen_exit, goI_out, goI_ops, opsA_nil, opsA_cons, stepA_move, stepA_assign, stepA_load, stepA_binOp, stepA_fieldAddr, stepA_len, thenV_some, eval_tmp, eval_const, put_some, aBin_lss, absV_bool, aField_eq, fieldGo_ptr, aLoad_eq, loadGo_one, aPlace_ptr, aLen_imm, Nat.reduceEqDiff, Nat.zero_add, if_true, if_false, ft_45_2, kt_43, lt_43, f2, f5, gA, hd2, c3, retA_ret, Tryd.results51, resultsA_1]
    exact hid_mk ⟨rfl, kH⟩
  · have c3 : decide ((i : Int) < ((ks.length : Nat) : Int)) = true := decide_eq_true (by omega)
    have x0 := ex_ix (kk := .i64) hlt
    have hkid : ks[i] ∈ (Ex.mk o n ks).ks := List.getElem_mem hlt
    have hlt2 := szE_kid _ hkid
    have hok2 := hok.kid _ hkid
    generalize ks[i] = A at *
    have lr := ex_lr A
    have w2 : IntKind.i64.wrap (((i : Nat) : Int) + 1) = ((i + 1 : Nat) : Int) := by rw [Go.IntWalk.i64_in _ (by omega)]; omega
    simp only [wpA_skip, wpA_region, wpA_seq, wpA_cond, wpA_block, wpA_draw, condI_true, seqQ_normal, goI_out, goI_ops, opsA_nil, opsA_cons, stepA_move, stepA_load, stepA_binOp, stepA_fieldAddr, stepA_len, thenV_some, eval_tmp, put_some, aBin_lss, aField_eq, fieldGo_ptr, aLoad_eq, loadGo_one, aPlace_ptr, aLen_imm, Nat.reduceEqDiff, Nat.zero_add, if_true, if_false, ft_45_2, kt_43, lt_43, f2, f5, gA, hd2, c3]
    refine SWp.drawnS none_ [] (.q 0 (.q 1 (.q 2 (.q 3 (.q 4 (.q 5 (.q 6 (.q 7 (.q 8 (.q 9 (.c 10 (.q 11 .done)))))))))))) (by kernel_rfl) (by kernel_rfl) (by kernel_rfl) ?_
    simp only [siI_q, sqI_some, mOk_none', implies_true, qI_nil, qI_cons, thenQ_some, q_move, q_load, q_fieldAddr, q_indexAddr, goI_mk, eval_tmp, put_some, aField_eq, fieldGo_ptr, aLoad_eq, loadGo_one, aPlace_ptr, aPlace_at, List.getElem?_cons_zero, List.getElem?_cons_succ, Nat.reduceEqDiff, Nat.zero_add, true_and, if_true, if_false, ft_45_2, lt_43, lt_45, f2, f3, f5, gA, gB, hd2, x0, lr]
    refine siI_c rfl rfl rfl (fun h' _ => ih (szE A) (by omega) A h' rfl hok2) ?_
    simp only [siI_done, siI_q, sqI_some, mOk_none', implies_true, qI_nil, qI_cons, thenQ_some, q_unOp, wpA_skip, wpA_region, wpA_cond, condI_false, seqQ_normal, blkQ_normal, endI_mk, andThen_normal, goI_out, goI_ops, goI_mk, opsA_nil, opsA_cons, stepA_move, stepA_assign, stepA_binOp, thenV_some, eval_tmp, eval_const, put_some, aBin_add, aUn_not, absV_int, List.getElem?_cons_zero, List.getElem?_cons_succ, Nat.reduceEqDiff, true_and, if_true, if_false, Bool.not_true, f5, w2]
    exact hid_mk ⟨i + 1, ⟨f2, f3, rfl, hlt, rfl⟩, by omega⟩
set_option maxHeartbeats 1000000 in
set_option maxRecDepth 10000 in
theorem pSameT (l : List Vx) (p : Int) (hok : OkT l) (h : AHeap) : Pure Tryd.prog 23 [.agg (topE l p), .agg (topE l p)] h (.bool true) := by
  refine Pure.val (Clo.bool _) ?_
  have hc : (V.agg (topE l p)).cells = some [.imm l.length (l.flatMap encX), .int .i64 p] := rfl
  obtain ⟨H, hH⟩ : ∃ x, x = (h.push (.cells [.imm l.length (l.flatMap encX), .int .i64 p] 24 none)).push (.cells [.imm l.length (l.flatMap encX), .int .i64 p] 24 none) := ⟨_, rfl⟩
  have gA : H.get h.n = .cells [.imm l.length (l.flatMap encX), .int .i64 p] 24 none := by rw [hH]; exact (get_push_lt (by rw [push_n]; omega)).trans get_push_new
  have gB : H.get (h.n + 1) = .cells [.imm l.length (l.flatMap encX), .int .i64 p] 24 none := by rw [hH]; exact get_push_new
  have kH : Keep h H none_ := by rw [hH]; exact (Keep.push _ _ _).trans' (Keep.push _ _ _)
  have nH : H.n = h.n + 2 := by rw [hH]; rfl
  have nei : ∀ x : Int, (x != x) = false := fun x => by simp
  have hl47 := hok.1
  refine SCalls.enterI (c := _) Tryd.func23 rfl (by kernel_rfl) (by simp) ?_
  simp only [wpA_skip, wpA_region, wpA_seq, wpA_cond, wpA_block, wpA_loop, condI_false, seqQ_normal, goI_out, goI_ops, opsA_nil, opsA_cons, opsA_guardS, gvI_same, slotAt_zero, slotAt_succ, stepA_move, stepA_assign, stepA_pick, stepA_box, stepA_load, stepA_binOp, stepA_fieldAddr, stepA_len, thenV_some, thenH_some, pickV_false, eval_tmp, eval_const, put_some, enterF_zero, enterF_succ, aBin_neq, absV_int, absV_bool, aField_eq, fieldGo_ptr, aLoad_eq, loadGo_one, aPlace_ptr, dropC_cells, aBox_eq, aLen_imm, push_n, get_push2, get_push2', bne_self_eq_false, Nat.reduceEqDiff, Nat.reduceAdd, Nat.reduceLeDiff, Option.map_some, Nat.add_zero, Nat.zero_add, Nat.zero_le, List.length_cons, List.length_nil, List.drop_zero, List.drop_succ_cons, if_true, if_false, ft_24_0, ft_24_1, kt_22, lt_22, lt_3, hc]
  rw [← hH]
  refine SWp.loopG (α := Nat) (fun i f h' => f 2 = .ptr h.n 0 ∧ f 3 = .ptr (h.n + 1) 0 ∧ f 5 = .int .i64 (i : Nat) ∧ i ≤ l.length ∧ Keep H h' none_) (fun i => l.length - i) 0 ⟨rfl, rfl, rfl, Nat.zero_le _, Keep.refl _ _⟩ ?_
  rintro i f h1 ⟨f2, f3, f5, hi, k1⟩
  have gA1 := (k1.get h.n (by omega) (by simp [none_])).trans gA
  have gB1 := (k1.get (h.n + 1) (by omega) (by simp [none_])).trans gB
  have n1 := k1.n
  refine wpI_sound (by kernel_rfl) ?_
  by_cases hlt : i < l.length
  · have c5 : decide ((i : Int) < ((l.length : Nat) : Int)) = true := decide_eq_true (by omega)
    have w2 : IntKind.i64.wrap (((i : Nat) : Int) + 1) = ((i + 1 : Nat) : Int) := by rw [Go.IntWalk.i64_in _ (by omega)]; omega
    have okA := hok.2 _ (List.getElem_mem hlt)
    have x0 := rows_ix (kk := .i64) (P := Tryd.prog) encX_len hlt ss_22
    generalize l[i] = A at *
    have hX := encX_eq A
    have lr : ∀ (q : List V), loadGo (some (some 6)) (some (encX A ++ q)) = some (.agg (encX A)) := fun q => load_row (encX_len A)
    have hone : (V.agg (encX A)).cells = some (encX A) := rfl
    have hset : setC (some 6) (AObj.cells [.int .i64 0, .snil, .int .i64 0, .int .i64 0, .snil, .int .i64 0] 47 none) 0 (encX A) = some (.cells (encX A) 47 none) := by
      rw [setC_row (n := 6) (encX_len A) (encX_one A), if_pos (by decide), hX]; rfl
    have hd0 : dropC (AObj.cells (encX A) 47 none) 0 = some [.int .i64 A.kind, .imm A.frm.length (i64V A.frm), .int .i64 A.e.op, .int .i64 A.e.num, .imm A.e.ks.length (A.e.ks.flatMap encE), .int .i64 A.n] := by rw [hX]; rfl
    have hd1 : dropC (AObj.cells (encX A) 47 none) 1 = some [.imm A.frm.length (i64V A.frm), .int .i64 A.e.op, .int .i64 A.e.num, .imm A.e.ks.length (A.e.ks.flatMap encE), .int .i64 A.n] := by rw [hX]; rfl
    have hd2 : dropC (AObj.cells (encX A) 47 none) 2 = some (encE A.e ++ [.int .i64 A.n]) := by obtain ⟨k, fr, ⟨o, m, ks⟩, n⟩ := A; rw [hX, encE_eq]; rfl
    have hd5 : dropC (AObj.cells (encX A) 47 none) 5 = some [.int .i64 A.n] := by rw [hX]; rfl
    have lrE := ex_lr A.e
    obtain ⟨H5, hH5⟩ : ∃ y, y = h1.push (.cells (encX A) 47 none) := ⟨_, rfl⟩
    have k5 : Keep h1 H5 none_ := by rw [hH5]; exact Keep.push _ _ _
    have n5 : H5.n = h1.n + 1 := by rw [hH5]; rfl
    have gA5 := (k5.get h.n (by omega) (by simp [none_])).trans gA1
    have gB5 := (k5.get (h.n + 1) (by omega) (by simp [none_])).trans gB1
    have gx5 : H5.get h1.n = .cells (encX A) 47 none := by rw [hH5]; exact get_push_new
    obtain ⟨H6, hH6⟩ : ∃ y, y = H5.push (.cells (encX A) 47 none) := ⟨_, rfl⟩
    have k6 : Keep H5 H6 none_ := by rw [hH6]; exact Keep.push _ _ _
    have gx6 := (k6.get h1.n (by omega) (by simp [none_])).trans gx5
    have gy6 : H6.get H5.n = .cells (encX A) 47 none := by rw [hH6]; exact get_push_new
    simp only [wpA_skip, wpA_region, wpA_seq, wpA_cond, wpA_block, condI_true, seqQ_normal, goI_out, goI_ops, opsA_nil, opsA_cons, stepA_move, stepA_alloc, stepA_load, stepA_store, stepA_binOp, stepA_fieldAddr, stepA_indexAddr, stepA_len, thenV_some, thenH_some, thenS_some, eval_tmp, put_some, put_none, aBin_lss, aField_eq, fieldGo_ptr, aLoad_eq, loadGo_one, aPlace_ptr, aPlace_at, dropC_cells, aStore_eq, storeGo_ptr, aAlloc_eq, aLen_imm, get_push_new, set_push, Nat.reduceEqDiff, Nat.reduceAdd, Option.map_some, Nat.add_zero, Nat.zero_add, Nat.zero_le, List.length_cons, List.length_nil, List.drop_zero, if_true, if_false, ft_24_0, kt_22, lt_22, lt_47, zc_47, zt_47, f2, f3, f5, c5, gA1, x0, lr, hone, hset]
    rw [← hH5]
    clear hH5
    simp only [wpA_region, wpA_seq, seqQ_normal, goI_out, goI_ops, opsA_nil, opsA_cons, stepA_move, stepA_alloc, stepA_load, stepA_store, stepA_fieldAddr, stepA_indexAddr, thenV_some, thenH_some, thenS_some, eval_tmp, put_some, put_none, aField_eq, fieldGo_ptr, aLoad_eq, loadGo_one, aPlace_ptr, aPlace_at, dropC_cells, aStore_eq, storeGo_ptr, aAlloc_eq, get_push_new, set_push, Nat.reduceEqDiff, Nat.reduceAdd, Option.map_some, Nat.add_zero, Nat.zero_add, Nat.zero_le, List.length_cons, List.length_nil, List.drop_zero, if_true, if_false, ft_47_0, lt_3, lt_47, zc_47, zt_47, f5, gB5, x0, lr, hone, hset]
    rw [← hH6]
    clear hH6
    simp only [goI_ops, opsA_cons, opsA_guardS, gvI_same, slotAt_zero, slotAt_succ, stepA_move, stepA_pick, stepA_load, stepA_binOp, stepA_fieldAddr, stepA_call, thenV_some, pickV_false, eval_tmp, eval_const, put_some, put_none, aBin_neq, absV_bool, aField_eq, fieldGo_ptr, aLoad_eq, loadGo_one, aPlace_ptr, bne_self_eq_false, Nat.reduceEqDiff, List.map_cons, List.map_nil, Nat.add_zero, Nat.zero_add, if_true, if_false, ft_47_0, ft_47_1, ft_47_3, lt_2, lt_3, lt_33, gx6, gy6, hd0, hd1, hd5]
    refine callI_pure cal18 (pSameI A.frm A.frm H6 (by have := okA.2.1; omega)) ?_
    have dsame : decide (A.frm = A.frm) = true := by simp
    simp only [goI_ops, opsA_cons, opsA_guardS, gvI_same, slotAt_zero, slotAt_succ, stepA_move, stepA_pick, stepA_load, stepA_unOp, stepA_fieldAddr, stepA_call, thenV_some, pickV_false, eval_tmp, eval_const, put_some, put_none, aUn_not, absV_bool, aField_eq, fieldGo_ptr, aLoad_eq, aPlace_ptr, decide_true, Nat.reduceEqDiff, List.map_cons, List.map_nil, Nat.zero_add, if_true, if_false, Bool.not_true, ft_47_2, lt_45, gx6, gy6, hd2, lrE]
    refine callI_pure cal51 (pSameE _ A.e H6 rfl okA.1) ?_
    simp only [wpA_skip, wpA_region, wpA_cond, condI_false, seqQ_normal, blkQ_normal, endI_mk, andThen_normal, goI_out, goI_ops, opsA_nil, opsA_cons, opsA_guardS, gvI_same, slotAt_zero, slotAt_succ, stepA_move, stepA_assign, stepA_pick, stepA_binOp, stepA_unOp, thenV_some, pickV_false, eval_tmp, eval_const, put_some, put_none, aBin_add, aUn_not, absV_int, absV_bool, Nat.reduceEqDiff, if_true, if_false, Bool.not_true, f5, w2]
    exact hid_mk ⟨i + 1, ⟨f2, f3, rfl, hlt, (k1.trans' k5).trans' k6⟩, by omega⟩
  · have c5 : decide ((i : Int) < ((l.length : Nat) : Int)) = false := decide_eq_false (by omega)
    simp only [wpA_region, wpA_seq, wpA_cond, wpA_exit, wpA_ret, condI_false, seqQ_normal, seqQ_exit, blkQ_exit, endI_mk, goE, andThen_exit, goI_out, goI_ops, opsA_nil, opsA_cons, stepA_move, stepA_assign, stepA_load, stepA_binOp, stepA_fieldAddr, stepA_len, thenV_some, eval_tmp, eval_const, put_some, aBin_lss, absV_bool, aField_eq, fieldGo_ptr, aLoad_eq, loadGo_one, aPlace_ptr, dropC_cells, aLen_imm, Nat.reduceEqDiff, Nat.reduceAdd, Nat.add_zero, Nat.zero_add, Nat.zero_le, List.length_cons, List.length_nil, List.drop_zero, if_true, if_false, ft_24_0, kt_22, lt_22, f2, f5, c5, gA1, retA_ret, Tryd.results23, resultsA_1]
    exact hid_mk ⟨rfl, kH.trans' k1⟩
end Go.Proofs.YtpmmbcifhallbaaDoor.Pk
