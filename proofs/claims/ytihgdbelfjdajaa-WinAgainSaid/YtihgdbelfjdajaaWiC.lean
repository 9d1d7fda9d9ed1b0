/-
  What functions of the program do, told of abstract states. Conditions: as each theorem says.
-/
import Derived.Test.YtihgdbelfjdajaaWiB
namespace Go.Proofs.Ytihgdbelfjdajaa.Pk
open Go Go.Proofs Go.Proofs.Ytihgdbelfjdajaa.Ab
set_option linter.unusedVariables false
set_option linter.unusedSimpArgs false
set_option maxRecDepth 20000 in
theorem ins1 (h : AHeap) (x c : V) (n lim : Int) (hn : n ≤ 1) (h0 : 0 ≤ n) : Pure Try.prog 26 [x, .int .i64 0, .int .i64 n, c] h (.tuple []) := by
  refine Pure.val (Clo.tuple CloL.nil) ?_
  refine SCalls.enterI (c := _) Try.func26 rfl (by kernel_rfl) (by simp) ?_
  have hz : IntKind.i64.wrap (0 + 1) = 1 := by decide
  simp only [wpA_region, wpA_seq, wpA_block, wpA_loop, seqQ_normal, goI_out, goI_ops, opsA_nil, opsA_cons, stepA_move, stepA_assign, stepA_binOp, thenV_some, eval_tmp, eval_const, put_some, enterF_zero, enterF_succ, aBin_add, absV_int, Nat.reduceEqDiff, if_true, if_false, hz]
  refine SWp.loopG (α := Unit) (fun _ f h' => f 8 = .int .i64 1 ∧ f 2 = .int .i64 n ∧ h' = h) (fun _ => 0) () ⟨rfl, rfl, rfl⟩ ?_
  rintro _ f h' ⟨f8, f2, rfl⟩
  refine wpI_sound (by kernel_rfl) ?_
  have d1 : decide (1 < n) = false := decide_eq_false (by omega)
  simp only [wpA_region, wpA_seq, wpA_cond, wpA_exit, condI_false, seqQ_normal, seqQ_exit, blkQ_exit, endI_mk, goE, andThen_exit, goI_out, goI_ops, opsA_nil, opsA_cons, stepA_move, stepA_binOp, thenV_some, eval_tmp, put_some, aBin_lss, Nat.reduceEqDiff, if_true, if_false, f8, f2, d1, retA_normal, Try.results26, resultsA_0]
  exact hid_mk ⟨rfl, Keep.refl _ _⟩
set_option maxRecDepth 20000 in
theorem pdq1 (h : AHeap) (x c : V) (n l : Int) (hn : n ≤ 1) (h0 : 0 ≤ n) : Pure Try.prog 22 [x, .int .i64 0, .int .i64 n, .int .i64 l, c] h (.tuple []) := by
  refine Pure.val (Clo.tuple CloL.nil) ?_
  refine SCalls.enterI (c := _) Try.func22 rfl (by kernel_rfl) (by simp) ?_
  simp only [wpA_region, wpA_seq, wpA_block, wpA_loop, seqQ_normal, goI_out, goI_ops, opsA_nil, opsA_cons, stepA_assign, eval_const, absV_bool]
  refine SWp.loopG (α := Unit) (fun _ f h' => f 0 = x ∧ f 1 = .int .i64 0 ∧ f 2 = .int .i64 n ∧ f 4 = c ∧ h' = h) (fun _ => 0) () ⟨rfl, rfl, rfl, rfl, rfl⟩ ?_
  rintro _ f h' ⟨f0, f1, f2, f4, rfl⟩
  refine wpI_sound (by kernel_rfl) ?_
  have hw : IntKind.i64.wrap (n - 0) = n := by rw [Go.IntWalk.i64_in _ (by omega)]; omega
  have d1 : decide (n ≤ 12) = true := decide_eq_true (by omega)
  simp only [wpA_region, wpA_seq, wpA_cond, wpA_block, condI_true, seqQ_normal, goI_out, goI_ops, opsA_nil, opsA_cons, stepA_move, stepA_assign, stepA_binOp, stepA_call, thenV_some, eval_tmp, eval_const, put_some, aBin_sub, aBin_leq, absV_int, Nat.reduceEqDiff, reduceCtorEq, List.map_cons, List.map_nil, if_true, if_false, f0, f1, f2, f4, hw, d1]
  refine callI_pure cal26 (ins1 _ x c n 0 hn h0) ?_
  simp only [wpA_ret, seqQ_normal, seqQ_ret, blkQ_ret, endI_mk, goE, andThen_ret, goI_out, goI_ops, opsA_nil, retA_ret, Try.results22, resultsA_0]
  exact hid_mk ⟨rfl, Keep.refl _ _⟩
set_option maxRecDepth 20000 in
theorem then_eq {K : Kt} {x : Option V} {v : V} {d : Option Tmp} {f : AFrame} {h : AHeap} (e : x = some v) (g : @thenV (some v) d K f h) : @thenV x d K f h := e ▸ g
set_option maxRecDepth 20000 in
theorem len64 (h : AHeap) (n : Int) (hn : n = 0 ∨ n = 1) : Pure Try.prog 35 [.int .u64 n] h (.int .i64 n) := by
  refine Pure.val (Clo.int _ _) ?_
  refine SCalls.enterI (c := _) Try.func35 rfl (by kernel_rfl) (by simp) ?_
  have w00 : IntKind.u8.wrap 0 = 0 := by decide
  have w01 : IntKind.u8.wrap 1 = 1 := by decide
  have w1 : IntKind.i64.wrap 1 = 1 := by decide
  have w0 : IntKind.i64.wrap 0 = 0 := by decide
  have w2 : IntKind.i64.wrap (0 + 0) = 0 := by decide
  have w3 : IntKind.i64.wrap (0 + 1) = 1 := by decide
  rcases hn with rfl | rfl
  · simp only [wpA_skip, wpA_region, wpA_seq, wpA_cond, condI_false, seqQ_normal, goI_out, goI_ops, opsA_nil, opsA_cons, stepA_move, stepA_assign, stepA_binOp, stepA_convert, stepA_index, thenV_some, eval_tmp, eval_const, put_some, enterF_zero, enterF_succ, aBin_geq, aConv_int, absV_int, absV_str, Int.reduceLE, Option.some.injEq, decide_false, Nat.reduceEqDiff, reduceCtorEq, if_true, if_false, it_5, it_72, w00]
    refine then_eq (v := .int .u8 0) (by kernel_rfl) ?_
    simp only [wpA_ret, seqQ_normal, endI_mk, goI_out, goI_ops, opsA_nil, opsA_cons, stepA_assign, stepA_binOp, stepA_convert, thenV_some, eval_tmp, put_some, enterF_succ, aBin_add, aConv_int, Option.some.injEq, Nat.reduceEqDiff, if_true, if_false, it_3, it_5, w0, w2, retA_ret, Try.results35, resultsA_1]
    exact hid_mk ⟨rfl, Keep.refl _ _⟩
  · simp only [wpA_skip, wpA_region, wpA_seq, wpA_cond, condI_false, seqQ_normal, goI_out, goI_ops, opsA_nil, opsA_cons, stepA_move, stepA_assign, stepA_binOp, stepA_convert, stepA_index, thenV_some, eval_tmp, eval_const, put_some, enterF_zero, enterF_succ, aBin_geq, aConv_int, absV_int, absV_str, Int.reduceLE, Option.some.injEq, decide_false, Nat.reduceEqDiff, reduceCtorEq, if_true, if_false, it_5, it_72, w01]
    refine then_eq (v := .int .u8 1) (by kernel_rfl) ?_
    simp only [wpA_ret, seqQ_normal, endI_mk, goI_out, goI_ops, opsA_nil, opsA_cons, stepA_assign, stepA_binOp, stepA_convert, thenV_some, eval_tmp, put_some, enterF_succ, aBin_add, aConv_int, Option.some.injEq, Nat.reduceEqDiff, if_true, if_false, it_3, it_5, w1, w3, retA_ret, Try.results35, resultsA_1]
    exact hid_mk ⟨rfl, Keep.refl _ _⟩
set_option maxRecDepth 20000 in
theorem len1 (h : AHeap) (n : Int) (hn : n = 0 ∨ n = 1) : Pure Try.prog 23 [.int .u64 n] h (.int .i64 n) := by
  refine Pure.val (Clo.int _ _) ?_
  refine SCalls.enterI (c := _) Try.func23 rfl (by kernel_rfl) (by simp) ?_
  have hw : IntKind.u64.wrap n = n := by rcases hn with rfl | rfl <;> decide
  simp only [wpA_skip, wpA_region, wpA_seq, wpA_cond, condI_false, seqQ_normal, goI_out, goI_ops, opsA_nil, opsA_cons, stepA_move, stepA_assign, stepA_call, eval_tmp, eval_const, put_some, enterF_zero, enterF_succ, absV_int, absV_bool, Nat.reduceEqDiff, reduceCtorEq, List.map_cons, List.map_nil, if_true, if_false]
  refine callI_pure cal35 (len64 h n hn) ?_
  simp only [wpA_ret, seqQ_normal, endI_mk, goI_out, goI_ops, opsA_nil, opsA_cons, stepA_assign, eval_tmp, put_some, enterF_succ, Nat.reduceEqDiff, if_true, if_false, retA_ret, Try.results23, resultsA_1]
  exact hid_mk ⟨rfl, Keep.refl _ _⟩
set_option maxRecDepth 20000 in
theorem sort1 (h : AHeap) (x c : V) (n : Int) (hn : n = 0 ∨ n = 1) (hl : aLen Try.prog 33 x h = some (.int .i64 n)) : Pure Try.prog 18 [x, c] h (.tuple []) := by
  refine Pure.val (Clo.tuple CloL.nil) ?_
  refine SCalls.enterI (c := _) Try.func18 rfl (by kernel_rfl) (by simp) ?_
  have hw : IntKind.u64.wrap n = n := by rcases hn with rfl | rfl <;> decide
  simp only [wpA_region, wpA_seq, seqQ_normal, goI_out, goI_ops, opsA_nil, opsA_cons, stepA_move, stepA_assign, stepA_convert, stepA_len, stepA_call, thenV_some, eval_tmp, put_some, enterF_zero, enterF_succ, aConv_int, Option.some.injEq, Nat.reduceEqDiff, reduceCtorEq, List.map_cons, List.map_nil, if_true, if_false, it_3, it_58, hl, hw]
  refine callI_pure cal23 (len1 h n hn) ?_
  simp only [goI_ops, opsA_cons, stepA_move, stepA_call, eval_tmp, eval_const, put_some, enterF_zero, enterF_succ, absV_int, Nat.reduceEqDiff, List.map_cons, List.map_nil, if_true, if_false]
  refine callI_pure cal22 (pdq1 h x c n n (by omega) (by omega)) ?_
  simp only [endI_mk, goI_out, goI_ops, opsA_nil, retA_normal, Try.results18, resultsA_0]
  exact hid_mk ⟨rfl, Keep.refl _ _⟩
end Go.Proofs.Ytihgdbelfjdajaa.Pk
