/-
  What functions of the program do, told of abstract states. Conditions: as each theorem says.
-/
import Derived.Test.YtlbekgogjlchjaaMaF
import Derived.Test.YtlbekgogjlchjaaAbD
namespace Go.Proofs.Ytlbekgogjlchjaa.Pk
open Go Go.Proofs Go.Proofs.Ytlbekgogjlchjaa.Ab Go.Sort
set_option linter.unusedVariables false
set_option linter.unusedSimpArgs false
set_option maxRecDepth 20000 in
theorem then_eq {K : Kt} {x : Option V} {v : V} {d : Option Tmp} {f : AFrame} {h : AHeap} (e : x = some v) (g : @thenV (some v) d K f h) : @thenV x d K f h := e ▸ g
set_option maxRecDepth 20000 in
theorem len64 (h : AHeap) (n : Int) (hn : n = 0 ∨ n = 1) : Pure Try.prog 102 [.int .u64 n] h (.int .i64 n) := by
  refine Pure.val (Clo.int _ _) ?_
  refine SCalls.enterI (c := _) Try.func102 rfl (by kernel_rfl) (by simp) ?_
  have w00 : IntKind.u8.wrap 0 = 0 := by decide
  have w01 : IntKind.u8.wrap 1 = 1 := by decide
  have w1 : IntKind.i64.wrap 1 = 1 := by decide
  have w0 : IntKind.i64.wrap 0 = 0 := by decide
  have w2 : IntKind.i64.wrap (0 + 0) = 0 := by decide
  have w3 : IntKind.i64.wrap (0 + 1) = 1 := by decide
  rcases hn with rfl | rfl
  · simp only [wpA_skip, wpA_region, wpA_seq, wpA_cond, condI_false, seqQ_normal, goI_out, goI_ops, opsA_nil, opsA_cons, stepA_move, stepA_assign, stepA_binOp, stepA_convert, stepA_index, thenV_some, thenC_some, eval_tmp, eval_const, put_some, enterF_zero, enterF_succ, aBin_geq, aConv_int, absV_int, absV_str, Int.reduceLE, Option.some.injEq, decide_false, Nat.reduceEqDiff, reduceCtorEq, if_true, if_false, it_131, it_5, w00]
    refine then_eq (v := .int .u8 0) (by kernel_rfl) ?_
    simp only [wpA_ret, seqQ_normal, endI_mk, goI_out, goI_ops, opsA_nil, opsA_cons, stepA_assign, stepA_binOp, stepA_convert, thenV_some, thenC_some, eval_tmp, put_some, enterF_succ, aBin_add, aConv_int, Option.some.injEq, Nat.reduceEqDiff, if_true, if_false, it_3, it_5, w0, w2, retA_ret, Try.results102, resultsA_1]
    exact hid_mk ⟨rfl, Keep.refl _ _⟩
  · simp only [wpA_skip, wpA_region, wpA_seq, wpA_cond, condI_false, seqQ_normal, goI_out, goI_ops, opsA_nil, opsA_cons, stepA_move, stepA_assign, stepA_binOp, stepA_convert, stepA_index, thenV_some, thenC_some, eval_tmp, eval_const, put_some, enterF_zero, enterF_succ, aBin_geq, aConv_int, absV_int, absV_str, Int.reduceLE, Option.some.injEq, decide_false, Nat.reduceEqDiff, reduceCtorEq, if_true, if_false, it_131, it_5, w01]
    refine then_eq (v := .int .u8 1) (by kernel_rfl) ?_
    simp only [wpA_ret, seqQ_normal, endI_mk, goI_out, goI_ops, opsA_nil, opsA_cons, stepA_assign, stepA_binOp, stepA_convert, thenV_some, thenC_some, eval_tmp, put_some, enterF_succ, aBin_add, aConv_int, Option.some.injEq, Nat.reduceEqDiff, if_true, if_false, it_3, it_5, w1, w3, retA_ret, Try.results102, resultsA_1]
    exact hid_mk ⟨rfl, Keep.refl _ _⟩
set_option maxRecDepth 20000 in
theorem len1 (h : AHeap) (n : Int) (hn : n = 0 ∨ n = 1) : Pure Try.prog 85 [.int .u64 n] h (.int .i64 n) := by
  refine Pure.val (Clo.int _ _) ?_
  refine SCalls.enterI (c := _) Try.func85 rfl (by kernel_rfl) (by simp) ?_
  have hw : IntKind.u64.wrap n = n := by rcases hn with rfl | rfl <;> decide
  simp only [wpA_skip, wpA_region, wpA_seq, wpA_cond, condI_false, seqQ_normal, goI_out, goI_ops, opsA_nil, opsA_cons, stepA_move, stepA_assign, stepA_call, eval_tmp, eval_const, put_some, enterF_zero, enterF_succ, absV_int, absV_bool, Nat.reduceEqDiff, reduceCtorEq, List.map_cons, List.map_nil, if_true, if_false]
  refine callI_pure cal102 (len64 h n hn) ?_
  simp only [wpA_ret, seqQ_normal, endI_mk, goI_out, goI_ops, opsA_nil, opsA_cons, stepA_assign, eval_tmp, put_some, enterF_succ, Nat.reduceEqDiff, if_true, if_false, retA_ret, Try.results85, resultsA_1]
  exact hid_mk ⟨rfl, Keep.refl _ _⟩
end Go.Proofs.Ytlbekgogjlchjaa.Pk
