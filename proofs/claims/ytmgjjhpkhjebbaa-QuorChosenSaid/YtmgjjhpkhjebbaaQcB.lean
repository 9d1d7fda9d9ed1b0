/-
  What functions of the program do, told of abstract states. Conditions: as each theorem says.
-/
import Derived.Test.YtmgjjhpkhjebbaaQcA
import Derived.Test.YtmgjjhpkhjebbaaAbD
namespace Go.Proofs.Ytmgjjhpkhjebbaa.Pk
open Go Go.Proofs Go.Proofs.Ytmgjjhpkhjebbaa.Ab Go.Sort
set_option linter.unusedVariables false
set_option linter.unusedSimpArgs false
/-! ### Which cell of a reply is the slot's -/
set_option maxRecDepth 10000 in
theorem pHere (c : Cel) (at_ : Int) (h : AHeap) (i : Nat) (hi : i < h.n) (hg : h.get i = .cells [.int .i64 at_] 3 none) : Pure Try.prog 39 [.agg (celE c), .ptr i 0] h (.bool (decide (c.at_ = at_))) := by
  refine Pure.val (Clo.bool _) ?_
  refine SCalls.enterI (c := _) Try.func39 rfl (by kernel_rfl) (by simp) ?_
  have cc := cel_cells
  have g0 : (h.push (.cells (celE c) 36 none)).get i = .cells [.int .i64 at_] 3 none := (get_push_lt hi).trans hg
  have g1 := cel_ld0' c
  simp only [wpA_region, wpA_seq, wpA_ret, seqQ_normal, endI_mk, goI_out, goI_ops, opsA_nil, opsA_cons, stepA_assign, stepA_box, stepA_load, stepA_binOp, stepA_fieldAddr, thenV_some, thenH_some, eval_tmp, eval_const, put_some, enterF_zero, enterF_succ, aBin_eql, absV_bool, aField_eq, fieldGo_ptr, aLoad_eq, loadGo_one, aPlace_ptr, dropC_cells, aBox_eq, get_push_new, Nat.reduceEqDiff, Option.map_some, Nat.add_zero, Nat.zero_add, Nat.zero_le, List.length_cons, List.length_nil, List.drop_zero, if_true, if_false, ft_36_0, lt_3, cc, g0, g1, retA_ret, Try.results39, resultsA_1]
  exact hid_mk ⟨by congr 1, Keep.push _ _ _⟩
set_option maxRecDepth 10000 in
theorem pIndex0 (at_ : Int) (h : AHeap) (i : Nat) : Pure Try.prog 38 [.imm 0 [], .func (.func 39) [] [.ptr i 0]] h (.int .i64 (-1)) := by
  refine Pure.val (Clo.int _ _) ?_
  refine SCalls.enterI (c := _) Try.func38 rfl (by kernel_rfl) (by simp) ?_
  simp only [wpA_region, wpA_seq, wpA_block, wpA_loop, seqQ_normal, goI_out, goI_ops, opsA_nil, opsA_cons, stepA_move, stepA_assign, stepA_len, thenV_some, eval_tmp, eval_const, put_some, enterF_zero, enterF_succ, absV_int, aLen_imm, Int.reduceNeg, Nat.reduceEqDiff, reduceCtorEq, if_true, if_false, kt_39]
  refine SWp.loopG (α := Unit) (fun k f h' => f 7 = .int .i64 0 ∧ f 8 = .int .i64 0 ∧ h' = h) (fun _ => 0) () ⟨rfl, rfl, rfl⟩ ?_
  rintro k f h' ⟨f7, f8, rfl⟩
  refine wpI_sound (by kernel_rfl) ?_
  simp only [wpA_region, wpA_seq, wpA_cond, wpA_exit, wpA_ret, condI_false, seqQ_normal, seqQ_exit, blkQ_exit, endI_mk, goE, andThen_exit, goI_out, goI_ops, opsA_nil, opsA_cons, stepA_assign, stepA_binOp, thenV_some, eval_tmp, eval_const, put_some, aBin_lss, absV_int, Int.reduceLT, Int.reduceNeg, decide_false, Nat.reduceEqDiff, if_true, if_false, f7, f8, retA_ret, Try.results38, resultsA_1]
  exact hid_mk ⟨rfl, Keep.refl _ _⟩
set_option maxRecDepth 10000 in
theorem pIndex1 (c : Cel) (at_ : Int) (h : AHeap) (i : Nat) (hi : i < h.n) (hg : h.get i = .cells [.int .i64 at_] 3 none) :
    Pure Try.prog 38 [.imm 1 (celE c), .func (.func 39) [] [.ptr i 0]] h (.int .i64 (if c.at_ = at_ then 0 else -1)) := by
  refine Pure.val (Clo.int _ _) ?_
  refine SCalls.enterI (c := _) Try.func38 rfl (by kernel_rfl) (by simp) ?_
  simp only [wpA_region, wpA_seq, wpA_block, wpA_loop, seqQ_normal, goI_out, goI_ops, opsA_nil, opsA_cons, stepA_move, stepA_assign, stepA_len, thenV_some, eval_tmp, eval_const, put_some, enterF_zero, enterF_succ, absV_int, aLen_imm, Int.reduceNeg, Nat.reduceEqDiff, reduceCtorEq, if_true, if_false, kt_39]
  refine SWp.loopG (α := Bool) (fun k f h' => f 0 = .imm 1 (celE c) ∧ f 1 = .func (.func 39) [] [.ptr i 0] ∧ f 7 = .int .i64 1 ∧ f 8 = .int .i64 (if k then 1 else 0) ∧ h' = h ∧ (k = true → c.at_ ≠ at_)) (fun k => if k then 0 else 1) false ⟨rfl, rfl, rfl, rfl, rfl, fun hh => by cases hh⟩ ?_
  rintro k f h' ⟨f0, f1, f7, f8, rfl, hno⟩
  refine wpI_sound (by kernel_rfl) ?_
  cases k with
  | false =>
    have f8 : f 8 = .int .i64 0 := f8
    have x0 : ixGo (some 3) none (.imm 1 (celE c)) 0 = some (.at (celE c)) := rfl
    have w2 : IntKind.i64.wrap (0 + 1) = 1 := rfl
    have ld := cel_ldc c
    simp only [wpA_skip, wpA_region, wpA_seq, wpA_cond, wpA_block, condI_true, seqQ_normal, goI_out, goI_ops, opsA_nil, opsA_cons, stepA_move, stepA_assign, stepA_load, stepA_binOp, stepA_indexAddr, stepA_callv, callvI_func, thenV_some, eval_tmp, put_some, aBin_lss, aLoad_eq, loadGo_row, aPlace_at, aIndexAddr_eq, Int.reduceLT, decide_true, Nat.reduceEqDiff, reduceCtorEq, List.map_cons, List.map_nil, List.nil_append, List.cons_append, if_true, if_false, as_39, lt_36, ss_39, f0, f1, f7, f8, x0, ld]
    refine callI_pure cal39 (pHere c at_ h' i hi hg) ?_
    by_cases hc : c.at_ = at_
    · have c4 : decide (c.at_ = at_) = true := by simpa using hc
      rw [if_pos hc]
      simp only [wpA_region, wpA_seq, wpA_cond, wpA_ret, condI_true, seqQ_normal, seqQ_ret, blkQ_ret, endI_mk, goE, andThen_ret, goI_out, goI_ops, opsA_nil, opsA_cons, stepA_move, stepA_assign, eval_tmp, put_some, Int.reduceNeg, Nat.reduceEqDiff, if_true, if_false, c4, retA_ret, Try.results38, resultsA_1]
      exact hid_mk ⟨rfl, Keep.refl _ _⟩
    · have c4 : decide (c.at_ = at_) = false := by simpa using hc
      simp only [wpA_skip, wpA_region, wpA_cond, condI_false, seqQ_normal, blkQ_normal, endI_mk, andThen_normal, goI_out, goI_ops, opsA_nil, opsA_cons, stepA_move, stepA_binOp, thenV_some, eval_tmp, eval_const, put_some, aBin_add, absV_int, Int.reduceNeg, Nat.reduceEqDiff, if_true, if_false, f8, c4, w2]
      exact hid_mk ⟨true, ⟨f0, f1, f7, rfl, rfl, fun _ => hc⟩, by simp⟩
  | true =>
    have f8 : f 8 = .int .i64 1 := f8
    rw [if_neg (hno rfl)]
    simp only [wpA_region, wpA_seq, wpA_cond, wpA_exit, wpA_ret, condI_false, seqQ_normal, seqQ_exit, blkQ_exit, endI_mk, goE, andThen_exit, goI_out, goI_ops, opsA_nil, opsA_cons, stepA_assign, stepA_binOp, thenV_some, eval_tmp, eval_const, put_some, aBin_lss, absV_int, Int.reduceLT, Int.reduceNeg, decide_false, Nat.reduceEqDiff, if_true, if_false, f7, f8, retA_ret, Try.results38, resultsA_1]
    exact hid_mk ⟨rfl, Keep.refl _ _⟩
end Go.Proofs.Ytmgjjhpkhjebbaa.Pk
