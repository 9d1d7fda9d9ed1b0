/-
  What functions of the program do, told of abstract states. Conditions: as each theorem says.
-/
import Derived.Test.YtpmmbcifhallbaaDoorCuE
import Derived.Test.YtpmmbcifhallbaaDoorAbD
namespace Go.Proofs.YtpmmbcifhallbaaDoor.Pk
open Go Go.Proofs Go.Proofs.YtpmmbcifhallbaaDoor.Ab
set_option linter.unusedVariables false
set_option linter.unusedSimpArgs false

set_option maxRecDepth 10000 in
theorem pSameI (a b : List Int) (h : AHeap) (ha : a.length ≤ 2 ^ 60) : Pure Tryd.prog 18 [.imm a.length (i64V a), .imm b.length (i64V b)] h (.bool (decide (a = b))) := by
  refine Pure.val (Clo.bool _) ?_
  refine SCalls.enterI (c := _) Tryd.func18 rfl (by kernel_rfl) (by simp) ?_
  by_cases hne : a.length = b.length
  rotate_left
  · have c1 : (((a.length : Nat) : Int) != ((b.length : Nat) : Int)) = true := by simp; omega
    have hG : decide (a = b) = false := by simp only [decide_eq_false_iff_not]; rintro rfl; exact hne rfl
    simp only [wpA_region, wpA_seq, wpA_cond, wpA_ret, condI_true, seqQ_normal, seqQ_ret, endI_mk, goI_out, goI_ops, opsA_nil, opsA_cons, stepA_move, stepA_assign, stepA_binOp, stepA_len, thenV_some, eval_tmp, eval_const, put_some, enterF_zero, enterF_succ, aBin_neq, absV_bool, aLen_imm, Nat.reduceEqDiff, reduceCtorEq, if_true, if_false, kt_33, c1, retA_ret, Tryd.results18, resultsA_1]
    exact hid_mk ⟨by rw [hG], Keep.refl _ _⟩
  have c1 : (((a.length : Nat) : Int) != ((b.length : Nat) : Int)) = false := by simp [hne]
  simp only [wpA_skip, wpA_region, wpA_seq, wpA_cond, wpA_block, wpA_loop, condI_false, seqQ_normal, goI_out, goI_ops, opsA_nil, opsA_cons, stepA_move, stepA_assign, stepA_binOp, stepA_len, thenV_some, eval_tmp, eval_const, put_some, enterF_zero, enterF_succ, aBin_neq, absV_int, absV_bool, aLen_imm, Nat.reduceEqDiff, reduceCtorEq, if_true, if_false, kt_33, c1]
  refine SWp.loopG (α := Nat) (fun i f h' => f 0 = .imm a.length (i64V a) ∧ f 1 = .imm b.length (i64V b) ∧ f 5 = .int .i64 (i : Nat) ∧ Keep h h' none_ ∧ i ≤ a.length ∧ a.take i = b.take i) (fun i => a.length - i) 0
    ⟨rfl, rfl, rfl, Keep.refl _ _, Nat.zero_le _, rfl⟩ ?_
  rintro i f h1 ⟨f0, f1, f5, k1, hi, hT⟩
  refine wpI_sound (by kernel_rfl) ?_
  by_cases hlt : i < a.length
  rotate_left
  · have c3 : decide ((i : Int) < ((a.length : Nat) : Int)) = false := decide_eq_false (by omega)
    rw [List.take_of_length_le (by omega), List.take_of_length_le (by omega)] at hT
    simp only [wpA_region, wpA_seq, wpA_cond, wpA_exit, wpA_ret, condI_false, seqQ_normal, seqQ_exit, blkQ_exit, endI_mk, goE, andThen_exit, goI_out, goI_ops, opsA_nil, opsA_cons, stepA_move, stepA_assign, stepA_binOp, stepA_len, thenV_some, eval_tmp, eval_const, put_some, aBin_lss, absV_bool, aLen_imm, Nat.reduceEqDiff, reduceCtorEq, if_true, if_false, kt_33, f0, f5, c3, retA_ret, Tryd.results18, resultsA_1]
    exact hid_mk ⟨by rw [hT]; simp, k1⟩
  · have c3 : decide ((i : Int) < ((a.length : Nat) : Int)) = true := decide_eq_true (by omega)
    have hltb : i < b.length := by omega
    have w1 : IntKind.i64.wrap ((i : Int) + 1) = ((i + 1 : Nat) : Int) := by rw [Go.IntWalk.i64_in _ (by omega)]; omega
    have x0 : ∃ r, aIndexAddr Tryd.prog 33 (.imm a.length (i64V a)) (.int .i64 (i : Int)) = some (.at (.int .i64 a[i] :: r)) := ⟨_, Ab.row_ix (V.int .i64) hlt ss_33⟩
    have x1 : ∃ r, aIndexAddr Tryd.prog 33 (.imm b.length (i64V b)) (.int .i64 (i : Int)) = some (.at (.int .i64 b[i] :: r)) := ⟨_, Ab.row_ix (V.int .i64) hltb ss_33⟩
    obtain ⟨r0, x0⟩ := x0
    obtain ⟨r1, x1⟩ := x1
    have hT2 : a[i] = b[i] → a.take (i + 1) = b.take (i + 1) := fun heq => by rw [List.take_succ_eq_append_getElem hlt, List.take_succ_eq_append_getElem hltb, hT, heq]
    have hG2 : ¬ a[i] = b[i] → decide (a = b) = false := fun heq => by simp only [decide_eq_false_iff_not]; rintro rfl; exact heq rfl
    generalize a[i] = A at x0 hT2 hG2
    generalize b[i] = B at x1 hT2 hG2
    simp only [wpA_skip, wpA_region, wpA_seq, wpA_cond, wpA_block, wpA_draw, condI_true, seqQ_normal, goI_out, goI_ops, opsA_nil, opsA_cons, stepA_move, stepA_binOp, stepA_len, thenV_some, eval_tmp, put_some, aBin_lss, aLen_imm, Nat.reduceEqDiff, reduceCtorEq, if_true, if_false, kt_33, f0, f5, c3]
    refine SWp.drawnS none_ [] (.q 0 (.q 1 (.q 2 (.q 3 (.q 4 (.q 5 (.q 6 (.q 7 (.q 8 .done))))))))) (by kernel_rfl) (by kernel_rfl) (by kernel_rfl) ?_
    by_cases heq : A = B
    · have n1 : (A != B) = false := by simp [heq]
      simp only [siI_done, siI_q, sqI_some, mOk_none', implies_true, qI_nil, qI_cons, thenQ_some, q_move, q_load, q_binOp, q_indexAddr, wpA_skip, wpA_region, wpA_cond, condI_false, seqQ_normal, blkQ_normal, endI_mk, andThen_normal, goI_out, goI_ops, goI_mk, opsA_nil, opsA_cons, stepA_move, stepA_assign, stepA_binOp, thenV_some, eval_tmp, eval_const, put_some, aBin_add, aBin_neq, absV_int, aLoad_eq, loadGo_one, aPlace_at, List.getElem?_cons_zero, List.getElem?_cons_succ, Nat.reduceEqDiff, reduceCtorEq, true_and, if_true, if_false, lt_3, f0, f1, f5, x0, x1, n1, w1]
      exact hid_mk ⟨i + 1, ⟨f0, f1, rfl, k1, by omega, hT2 heq⟩, by omega⟩
    · have n1 : (A != B) = true := by simp [heq]
      simp only [siI_done, siI_q, sqI_some, mOk_none', implies_true, qI_nil, qI_cons, thenQ_some, q_move, q_load, q_binOp, q_indexAddr, wpA_region, wpA_seq, wpA_cond, wpA_ret, condI_true, seqQ_normal, seqQ_ret, blkQ_ret, endI_mk, goE, andThen_ret, goI_out, goI_ops, goI_mk, opsA_nil, opsA_cons, stepA_assign, eval_tmp, eval_const, put_some, aBin_neq, absV_bool, aLoad_eq, loadGo_one, aPlace_at, List.getElem?_cons_zero, List.getElem?_cons_succ, Nat.reduceEqDiff, reduceCtorEq, true_and, if_true, if_false, lt_3, f0, f1, f5, x0, x1, n1, retA_ret, Tryd.results18, resultsA_1]
      exact hid_mk ⟨by rw [hG2 heq], k1⟩

set_option maxHeartbeats 4000000 in
theorem litV4 (h : AHeap) (i j k : Nat) : aBuildSlice Tryd.prog 22 4 [(0, .agg [.int .i64 1, .snil, .int .i64 0, .int .i64 0, .snil, .int .i64 0]), (1, .agg [.int .i64 5, .sl i 0 1 1, .int .i64 3, .int .i64 0, .snil, .int .i64 0]), (2, .agg [.int .i64 6, .sl j 0 1 1, .int .i64 3, .int .i64 0, .snil, .int .i64 0]), (3, .agg [.int .i64 10, .sl k 0 1 1, .int .i64 0, .int .i64 0, .snil, .int .i64 0])] h = some (.sl h.n 0 4 4, h.push (.cells [.int .i64 1, .snil, .int .i64 0, .int .i64 0, .snil, .int .i64 0, .int .i64 5, .sl i 0 1 1, .int .i64 3, .int .i64 0, .snil, .int .i64 0, .int .i64 6, .sl j 0 1 1, .int .i64 3, .int .i64 0, .snil, .int .i64 0, .int .i64 10, .sl k 0 1 1, .int .i64 0, .int .i64 0, .snil, .int .i64 0] 47 none)) := by rw [buildSlice_go sl_22]; rfl
theorem litI4 (h : AHeap) : aBuildSlice Tryd.prog 33 4 [(0, .int .i64 0), (1, .int .i64 0), (2, .int .i64 1), (3, .int .i64 1)] h = some (.sl h.n 0 4 4, h.push (.cells (i64V [0, 0, 1, 1]) 3 none)) := by rw [buildSlice_go sl_33]; rfl
theorem push6' (h : AHeap) (a b c d e f : AObj) : let H := (((((h.push a).push b).push c).push d).push e).push f
    H.n = h.n + 6 ∧ H.get (h.n + 1) = b ∧ H.get (h.n + 2) = c ∧ H.get (h.n + 3) = d ∧ H.get (h.n + 4) = e ∧ H.get (h.n + 5) = f ∧ Keep h H none_ := by
  intro H
  refine ⟨rfl, ?_, ?_, ?_, ?_, ?_, (((((Keep.push _ _ _).then_push _).then_push _).then_push _).then_push _).then_push _⟩ <;> simp only [H, AHeap.push] <;> repeat first | rfl | rw [if_pos trivial] | rw [if_pos rfl] | rw [if_neg (by omega)]
def cut0 : List Vx := [⟨1, [], .mk 0 0 [], 0⟩, ⟨5, [0], .mk 3 0 [], 0⟩, ⟨6, [1], .mk 3 0 [], 0⟩, ⟨10, [2], .mk 0 0 [], 0⟩]
theorem okCut0 : OkT cut0 := by
  refine ⟨by decide, ?_⟩
  intro v hv
  simp only [cut0, List.mem_cons, List.not_mem_nil, or_false] at hv
  rcases hv with rfl | rfl | rfl | rfl
  · exact ⟨okE0 0 0 (by omega) (by omega), by decide, by unfold inR; decide, by unfold inR; decide, by intro f hf; simp at hf⟩
  · exact ⟨okE0 3 0 (by omega) (by omega), by decide, by unfold inR; decide, by unfold inR; decide, by intro f hf; simp at hf; subst hf; unfold inR; omega⟩
  · exact ⟨okE0 3 0 (by omega) (by omega), by decide, by unfold inR; decide, by unfold inR; decide, by intro f hf; simp at hf; subst hf; unfold inR; omega⟩
  · exact ⟨okE0 0 0 (by omega) (by omega), by decide, by unfold inR; decide, by unfold inR; decide, by intro f hf; simp at hf; subst hf; unfold inR; omega⟩
theorem cutP : partsX 3 cut0 = [0, 0, 1, 1] := by decide
theorem cutC : chkT 3 cut0 = (-1, 0) := by decide
theorem cutI : inputsX 3 cut0 1 = [1] := by decide
theorem cutK : partK 3 cut0 (-1) = 2 := by decide
theorem cutT : tasksX 3 cut0 = 6 := by decide

set_option maxHeartbeats 2000000 in
set_option maxRecDepth 10000 in
theorem pShown16 (h : AHeap) (hg : TG h) : Pure Tryd.prog 25 [] h (.bool true) := by
  refine Pure.val (Clo.bool _) ?_
  refine SCalls.enterI (c := _) Tryd.func25 rfl (by kernel_rfl) (by simp) ?_
  obtain ⟨n6, gb, gc, gd, ge, gf, k6⟩ := push6' h (.cells [.int .i64 3, .int .i64 0, .snil] 45 none) (.cells [.int .i64 0] 3 none) (.cells [.int .i64 1] 3 none) (.cells [.int .i64 2] 3 none) (.cells [.int .i64 1, .snil, .int .i64 0, .int .i64 0, .snil, .int .i64 0, .int .i64 5, .sl (h.n + 1) 0 1 1, .int .i64 3, .int .i64 0, .snil, .int .i64 0, .int .i64 6, .sl (h.n + 1 + 1) 0 1 1, .int .i64 3, .int .i64 0, .snil, .int .i64 0, .int .i64 10, .sl (h.n + 1 + 1 + 1) 0 1 1, .int .i64 0, .int .i64 0, .snil, .int .i64 0] 47 none) (.cells [.snil, .int .i64 0] 24 none)
  simp only [wpA_region, wpA_seq, seqQ_normal, goI_out, goI_ops, opsA_nil, opsA_cons, stepA_assign, stepA_alloc, stepA_build, stepA_buildSlice, stepA_load, stepA_store, thenV_some, thenH_some, thenS_some, eval_tmp, eval_const, put_some, put_none, absV_int, absV_bool, cells_int, cells_sl, cells_agg, one_int, one_snil, all_nil, all_cons, aLoad_eq, loadGo_row, aPlace_ptr, dropC_cells, aStore_eq, storeGo_ptr, setC_row, setAll_nil, setAll_cons, aAlloc_eq, aBuild_go, aFill_nil, aFill_cons, fillGo_some, buildGo_struct, push_n, get_push_new, set_push, get_push2', get_push3a, List.getElem?_cons_zero, List.getElem?_cons_succ, Int.reduceNeg, Nat.reduceEqDiff, Nat.reduceAdd, Nat.reduceLeDiff, reduceCtorEq, List.map_cons, List.map_nil, Option.map_some, Nat.zero_add, Nat.zero_le, List.length_cons, List.length_nil, List.drop_zero, List.take_succ_cons, List.take_nil, List.set_cons_zero, List.set_cons_succ, and_self, if_true, if_false, Bool.and_self, Nat.le_refl, lt_45, pl_24, pl_45, pl_47, zc_24, zc_45, zc_47, zt_24, zt_45, litI1, litV4]
  generalize (((((h.push (.cells [.int .i64 3, .int .i64 0, .snil] 45 none)).push (.cells [.int .i64 0] 3 none)).push (.cells [.int .i64 1] 3 none)).push (.cells [.int .i64 2] 3 none)).push (.cells [.int .i64 1, .snil, .int .i64 0, .int .i64 0, .snil, .int .i64 0, .int .i64 5, .sl (h.n + 1) 0 1 1, .int .i64 3, .int .i64 0, .snil, .int .i64 0, .int .i64 6, .sl (h.n + 1 + 1) 0 1 1, .int .i64 3, .int .i64 0, .snil, .int .i64 0, .int .i64 10, .sl (h.n + 1 + 1 + 1) 0 1 1, .int .i64 0, .int .i64 0, .snil, .int .i64 0] 47 none)).push (.cells [.snil, .int .i64 0] 24 none) = H at n6 gb gc gd ge gf k6 ⊢
  obtain ⟨H7, hH7⟩ : ∃ x, x = H.set (h.n + 1 + 1 + 1 + 1 + 1) (.cells [.sl (h.n + 1 + 1 + 1 + 1) 0 4 4, .int .i64 3] 24 none) := ⟨_, rfl⟩
  have gf' : H.get (h.n + 1 + 1 + 1 + 1 + 1) = .cells [.snil, .int .i64 0] 24 none := gf
  have gT7 : H7.get (h.n + 1 + 1 + 1 + 1 + 1) = .cells [.sl (h.n + 1 + 1 + 1 + 1) 0 4 4, .int .i64 3] 24 none := by rw [hH7]; exact get_set_same
  have k7 : Keep H H7 (· = h.n + 5) := by rw [hH7]; exact Keep.set _ _ _
  have n7 : H7.n = h.n + 6 := by rw [hH7]; exact n6
  simp only [wpA_region, wpA_seq, seqQ_normal, goI_out, goI_ops, opsA_nil, opsA_cons, stepA_load, stepA_call, thenV_some, thenS_some, eval_tmp, put_some, put_none, one_int, one_sl, all_nil, all_cons, aLoad_eq, loadGo_row, aPlace_ptr, dropC_cells, setC_row, setAll_nil, setAll_cons, Int.reduceNeg, Nat.reduceEqDiff, Nat.reduceAdd, reduceCtorEq, List.map_cons, List.map_nil, Option.map_some, Nat.zero_add, Nat.zero_le, List.length_cons, List.length_nil, List.drop_zero, List.take_succ_cons, List.take_nil, List.set_cons_zero, List.set_cons_succ, if_true, if_false, Bool.and_self, Nat.le_refl, lt_24, gf', ← hH7, gT7]
  have gb7 := (k7.get (h.n + 1) (by omega) (by omega)).trans gb
  have gc7 := (k7.get (h.n + 2) (by omega) (by omega)).trans gc
  have gd7 := (k7.get (h.n + 3) (by omega) (by omega)).trans gd
  have ge7 := (k7.get (h.n + 4) (by omega) (by omega)).trans ge
  obtain ⟨h2, c2, q2⟩ := Cast.own (ownL (e := 3) (sz := 1) (n := 1) (by omega) gb7 rfl (by simp [unk])) (n := 1) rfl (by decide)
  have m2 := q2.n
  have gc2 := (q2.get (h.n + 2) (by omega) (by simp [isId, idOf])).trans gc7
  obtain ⟨h3, c3, q3⟩ := Cast.own (ownL (h := h2) (e := 3) (sz := 1) (n := 1) (by omega) gc2 rfl (by simp [unk])) (n := 1) rfl (by decide)
  have m3 := q3.n
  have gd3 := (q3.get (h.n + 3) (by omega) (by simp [isId, idOf])).trans ((q2.get (h.n + 3) (by omega) (by simp [isId, idOf])).trans gd7)
  obtain ⟨h4, c4, q4⟩ := Cast.own (ownL (h := h3) (e := 3) (sz := 1) (n := 1) (by omega) gd3 rfl (by simp [unk])) (n := 1) rfl (by decide)
  have m4 := q4.n
  have ge4 := (q4.get (h.n + 4) (by omega) (by simp [isId, idOf])).trans ((q3.get (h.n + 4) (by omega) (by simp [isId, idOf])).trans ((q2.get (h.n + 4) (by omega) (by simp [isId, idOf])).trans ge7))
  have gT4 := (q4.get (h.n + 1 + 1 + 1 + 1 + 1) (by omega) (by simp [isId, idOf])).trans ((q3.get (h.n + 1 + 1 + 1 + 1 + 1) (by omega) (by simp [isId, idOf])).trans ((q2.get (h.n + 1 + 1 + 1 + 1 + 1) (by omega) (by simp [isId, idOf])).trans gT7))
  have hcu : cut0.flatMap encX = [.int .i64 1, .imm 0 [], .int .i64 0, .int .i64 0, .imm 0 [], .int .i64 0, .int .i64 5, .imm 1 [.int .i64 0], .int .i64 3, .int .i64 0, .imm 0 [], .int .i64 0, .int .i64 6, .imm 1 [.int .i64 1], .int .i64 3, .int .i64 0, .imm 0 [], .int .i64 0, .int .i64 10, .imm 1 [.int .i64 2], .int .i64 0, .int .i64 0, .imm 0 [], .int .i64 0] := by
    simp [cut0, encX, encE_eq, i64V]
  have hcl : CastL [.int .i64 1, .snil, .int .i64 0, .int .i64 0, .snil, .int .i64 0, .int .i64 5, .sl (h.n + 1) 0 1 1, .int .i64 3, .int .i64 0, .snil, .int .i64 0, .int .i64 6, .sl (h.n + 2) 0 1 1, .int .i64 3, .int .i64 0, .snil, .int .i64 0, .int .i64 10, .sl (h.n + 3) 0 1 1, .int .i64 0, .int .i64 0, .snil, .int .i64 0] H7 (cut0.flatMap encX) h4 := by
    rw [hcu]
    exact CastL.cons (Cast.refl (.int .i64 1) _) (CastL.cons (Cast.snil0 _) (CastL.cons (Cast.refl (.int .i64 0) _) (CastL.cons (Cast.refl (.int .i64 0) _) (CastL.cons (Cast.snil0 _) (CastL.cons (Cast.refl (.int .i64 0) _) (CastL.cons (Cast.refl (.int .i64 5) _) (CastL.cons c2 (CastL.cons (Cast.refl (.int .i64 3) _) (CastL.cons (Cast.refl (.int .i64 0) _) (CastL.cons (Cast.snil0 _) (CastL.cons (Cast.refl (.int .i64 0) _) (CastL.cons (Cast.refl (.int .i64 6) _) (CastL.cons c3 (CastL.cons (Cast.refl (.int .i64 3) _) (CastL.cons (Cast.refl (.int .i64 0) _) (CastL.cons (Cast.snil0 _) (CastL.cons (Cast.refl (.int .i64 0) _) (CastL.cons (Cast.refl (.int .i64 10) _) (CastL.cons c4 (CastL.cons (Cast.refl (.int .i64 0) _) (CastL.cons (Cast.refl (.int .i64 0) _) (CastL.cons (Cast.snil0 _) (CastL.cons (Cast.refl (.int .i64 0) _) (CastL.refl [] _))))))))))))))))))))))))
  have hF := Cast.cellC ge7 hcl ge4 (by rw [hcu]; rfl) (.agg [.sl (h.n + 1 + 1 + 1 + 1) 0 4 4, .int .i64 3])
  obtain ⟨h5, hh5⟩ : ∃ x, x = h4.set (h.n + 4) (.cells (cut0.flatMap encX) 47 none) := ⟨_, rfl⟩
  rw [← hh5] at hF
  have k5 : Keep h4 h5 (· = h.n + 4) := by rw [hh5]; exact Keep.set _ _ _
  have n5 : h5.n = h4.n := by rw [hh5]; rfl
  have gF5 : h5.get (h.n + 1 + 1 + 1 + 1) = .cells (cut0.flatMap encX ++ []) 47 none := by rw [hh5, List.append_nil]; exact get_set_same
  have gT5 := (k5.get (h.n + 1 + 1 + 1 + 1 + 1) (by omega) (by omega)).trans gT4
  have ca := CastA.own (n := 4) (cap := 4) (sz := 6) gF5 (by rw [rows_len encX_len]; rfl)
  obtain ⟨h6, hh6⟩ : ∃ x, x = h5.set (h.n + 1 + 1 + 1 + 1) .dead := ⟨_, rfl⟩
  rw [← hh6] at ca
  have k6' : Keep h5 h6 (· = h.n + 4) := by rw [hh6]; exact Keep.set _ _ _
  have n6' : h6.n = h5.n := by rw [hh6]; rfl
  have gT6 := (k6'.get (h.n + 1 + 1 + 1 + 1 + 1) (by omega) (by omega)).trans gT5
  have cb := (CastA.cell ca gT5 gT6).agg (l := [.int .i64 3])
  obtain ⟨h8, hh8⟩ : ∃ x, x = h6.set (h.n + 1 + 1 + 1 + 1 + 1) (.cells [.imm 4 (cut0.flatMap encX), .int .i64 3] 24 none) := ⟨_, rfl⟩
  rw [← hh8] at cb
  have k8 : Keep h6 h8 (· = h.n + 5) := by rw [hh8]; exact Keep.set _ _ _
  have gT8 : h8.get (h.n + 1 + 1 + 1 + 1 + 1) = .cells [.imm 4 (cut0.flatMap encX), .int .i64 3] 24 none := by rw [hh8]; exact get_set_same
  have ct := hF.trans cb.cast
  have kA : Keep h h8 none_ := by
    refine Keep.trans (Keep.trans (Keep.trans (Keep.trans (Keep.trans (Keep.trans (Keep.trans k6 k7 fun q hq e => by omega) q2 fun q hq e => ?_) q3 fun q hq e => ?_) q4 fun q hq e => ?_) k5 fun q hq e => by omega) k6' fun q hq e => by omega) k8 fun q hq e => by omega
    all_goals simp [isId, idOf] at e; omega
  have t8 := hg.keep kA
  have n8 : h8.n = h4.n := by rw [hh8]; exact n6'.trans n5
  refine callI_of cal27 (SCalls.args (CastL.cons ct (CastL.refl _ _)) (pParts cut0 3 okCut0 h8 t8)) fun r h9 ⟨e9, e10⟩ => ?_
  subst e9 e10
  rw [cutP, cutC]
  simp only [wpA_region, wpA_seq, seqQ_normal, goI_out, goI_ops, opsA_nil, opsA_cons, opsA_guardS, gvI_same, slotAt_zero, slotAt_succ, stepA_move, stepA_assign, stepA_buildSlice, stepA_binOp, stepA_extract, stepA_call, thenV_some, thenH_some, extV_zero, extV_succ, eval_tmp, eval_const, put_some, put_none, aBin_eql, absV_int, beq_self_eq_true, Int.reduceNeg, Nat.reduceEqDiff, Nat.reduceAdd, reduceCtorEq, List.map_cons, List.map_nil, Nat.zero_add, List.length_cons, List.length_nil, if_true, if_false, litI4]
  obtain ⟨ha, ca1, ka⟩ := Cast.lit (h := h9) (c := i64V [0, 0, 1, 1]) (e := 3) (n := 4) (sz := 1) rfl (by simp [unk]) (by decide)
  refine callI_of cal18 (SCalls.args (CastL.cons (Cast.refl _ _) (CastL.cons ca1 (CastL.refl _ _))) (pSameI [0, 0, 1, 1] [0, 0, 1, 1] ha (by simp))) fun r h10 ⟨e9, e10⟩ => ?_
  subst e9 e10
  have gT10 := (ka.get (h.n + 1 + 1 + 1 + 1 + 1) (by omega) (by simp [none_])).trans gT8
  have t10 := t8.keep ka
  simp only [goI_ops, opsA_cons, opsA_guardS, gvI_same, slotAt_zero, slotAt_succ, stepA_move, stepA_pick, stepA_load, stepA_call, thenV_some, pickV_true, eval_tmp, eval_const, put_some, put_none, absV_int, absV_bool, aLoad_eq, loadGo_row, aPlace_ptr, dropC_cells, Int.reduceNeg, decide_true, Nat.reduceEqDiff, Nat.reduceAdd, reduceCtorEq, List.map_cons, List.map_nil, Nat.zero_add, Nat.zero_le, List.length_cons, List.length_nil, List.drop_zero, List.take_succ_cons, List.take_nil, if_true, if_false, Nat.le_refl, lt_24, gT10, decide_true]
  refine callI_pure cal33 (pInputs cut0 3 1 okCut0 h10 t10) ?_
  rw [cutI]
  simp only [goI_ops, opsA_guardS, gvI_same, slotAt_zero, slotAt_succ, stepA_buildSlice, stepA_call, thenH_some, eval_tmp, eval_const, put_some, put_none, absV_int, Int.reduceNeg, Nat.reduceEqDiff, reduceCtorEq, List.map_cons, List.map_nil, Nat.zero_add, List.length_cons, List.length_nil, if_true, if_false, litI1]
  obtain ⟨hb, cb1, kb⟩ := Cast.lit (h := h10) (c := i64V [1]) (e := 3) (n := 1) (sz := 1) rfl (by simp [unk]) (by decide)
  refine callI_of cal18 (SCalls.args (CastL.cons (Cast.refl _ _) (CastL.cons cb1 (CastL.refl _ _))) (pSameI [1] [1] hb (by simp))) fun r h11 ⟨e9, e10⟩ => ?_
  subst e9 e10
  have nka := ka.n
  have gT11 := (kb.get (h.n + 1 + 1 + 1 + 1 + 1) (by omega) (by simp [none_])).trans gT10
  have t11 := t10.keep kb
  simp only [goI_ops, opsA_cons, opsA_guardS, gvI_same, slotAt_zero, slotAt_succ, stepA_move, stepA_pick, stepA_load, stepA_call, thenV_some, pickV_true, eval_tmp, eval_const, put_some, put_none, absV_int, absV_bool, aLoad_eq, loadGo_row, aPlace_ptr, dropC_cells, Int.reduceNeg, decide_true, Nat.reduceEqDiff, Nat.reduceAdd, reduceCtorEq, List.map_cons, List.map_nil, Nat.zero_add, Nat.zero_le, List.length_cons, List.length_nil, List.drop_zero, List.take_succ_cons, List.take_nil, if_true, if_false, Nat.le_refl, lt_24, gT11, decide_true]
  refine callI_pure cal37 (pPart cut0 3 (-1) okCut0 h11 t11) ?_
  rw [cutK]
  simp only [goI_ops, opsA_cons, opsA_guardS, gvI_same, slotAt_zero, slotAt_succ, stepA_move, stepA_pick, stepA_load, stepA_binOp, stepA_call, thenV_some, pickV_true, eval_tmp, eval_const, put_some, put_none, aBin_eql, absV_int, absV_bool, aLoad_eq, loadGo_row, aPlace_ptr, dropC_cells, beq_self_eq_true, Int.reduceNeg, Nat.reduceEqDiff, Nat.reduceAdd, reduceCtorEq, List.map_cons, List.map_nil, Nat.zero_add, Nat.zero_le, List.length_cons, List.length_nil, List.drop_zero, List.take_succ_cons, List.take_nil, if_true, if_false, Nat.le_refl, lt_24, gT11]
  refine callI_pure cal29 (pTasks cut0 3 okCut0 h11 t11) ?_
  rw [cutT]
  simp only [wpA_ret, seqQ_normal, endI_mk, goI_out, goI_ops, opsA_nil, opsA_cons, opsA_guardS, gvI_same, slotAt_zero, slotAt_succ, stepA_assign, stepA_pick, stepA_binOp, thenV_some, pickV_true, eval_tmp, eval_const, put_some, put_none, aBin_eql, absV_int, absV_bool, beq_self_eq_true, Int.reduceNeg, Nat.reduceEqDiff, reduceCtorEq, if_true, if_false, retA_ret, Tryd.results25, resultsA_1]
  exact hid_mk ⟨rfl, (kA.trans' ka).trans' kb⟩
end Go.Proofs.YtpmmbcifhallbaaDoor.Pk
