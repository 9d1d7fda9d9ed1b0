/-
  What functions of the program do, told of abstract states. Conditions: as each theorem says.
-/
import Derived.Test.YtlbekgogjlchjaaSoB
import Derived.Test.YtlbekgogjlchjaaSfC
import Derived.Test.YtlbekgogjlchjaaAbD
namespace Go.Proofs.Ytlbekgogjlchjaa.Pk
open Go Go.Proofs Go.Proofs.Ytlbekgogjlchjaa.Ab Go.Sort
set_option linter.unusedVariables false
set_option linter.unusedSimpArgs false
set_option maxRecDepth 20000 in
theorem ins1C (h : AHeap) (x c : V) (n lim : Int) (hn : n ≤ 1) (h0 : 0 ≤ n) : Pure Try.prog 93 [x, .int .i64 0, .int .i64 n, c] h (.tuple []) := by
  refine Pure.val (Clo.tuple CloL.nil) ?_
  refine SCalls.enterI (c := _) Try.func93 rfl (by kernel_rfl) (by simp) ?_
  have hz : IntKind.i64.wrap (0 + 1) = 1 := by decide
  simp only [wpA_region, wpA_seq, wpA_block, wpA_loop, seqQ_normal, goI_out, goI_ops, opsA_nil, opsA_cons, stepA_move, stepA_assign, stepA_binOp, thenV_some, eval_tmp, eval_const, put_some, enterF_zero, enterF_succ, aBin_add, absV_int, Nat.reduceEqDiff, if_true, if_false, hz]
  refine SWp.loopG (α := Unit) (fun _ f h' => f 8 = .int .i64 1 ∧ f 2 = .int .i64 n ∧ h' = h) (fun _ => 0) () ⟨rfl, rfl, rfl⟩ ?_
  rintro _ f h' ⟨f8, f2, rfl⟩
  refine wpI_sound (by kernel_rfl) ?_
  have d1 : decide (1 < n) = false := decide_eq_false (by omega)
  simp only [wpA_region, wpA_seq, wpA_cond, wpA_exit, condI_false, seqQ_normal, seqQ_exit, blkQ_exit, endI_mk, goE, andThen_exit, goI_out, goI_ops, opsA_nil, opsA_cons, stepA_move, stepA_binOp, thenV_some, eval_tmp, put_some, aBin_lss, Nat.reduceEqDiff, if_true, if_false, f8, f2, d1, retA_normal, Try.results93, resultsA_0]
  exact hid_mk ⟨rfl, Keep.refl _ _⟩
set_option maxRecDepth 20000 in
theorem pdq1C (h : AHeap) (x c : V) (n l : Int) (hn : n ≤ 1) (h0 : 0 ≤ n) : Pure Try.prog 84 [x, .int .i64 0, .int .i64 n, .int .i64 l, c] h (.tuple []) := by
  refine Pure.val (Clo.tuple CloL.nil) ?_
  refine SCalls.enterI (c := _) Try.func84 rfl (by kernel_rfl) (by simp) ?_
  simp only [wpA_region, wpA_seq, wpA_block, wpA_loop, seqQ_normal, goI_out, goI_ops, opsA_nil, opsA_cons, stepA_assign, eval_const, absV_bool]
  refine SWp.loopG (α := Unit) (fun _ f h' => f 0 = x ∧ f 1 = .int .i64 0 ∧ f 2 = .int .i64 n ∧ f 4 = c ∧ h' = h) (fun _ => 0) () ⟨rfl, rfl, rfl, rfl, rfl⟩ ?_
  rintro _ f h' ⟨f0, f1, f2, f4, rfl⟩
  refine wpI_sound (by kernel_rfl) ?_
  have hw : IntKind.i64.wrap (n - 0) = n := by rw [Go.IntWalk.i64_in _ (by omega)]; omega
  have d1 : decide (n ≤ 12) = true := decide_eq_true (by omega)
  simp only [wpA_region, wpA_seq, wpA_cond, wpA_block, condI_true, seqQ_normal, goI_out, goI_ops, opsA_nil, opsA_cons, stepA_move, stepA_assign, stepA_binOp, stepA_call, thenV_some, eval_tmp, eval_const, put_some, aBin_sub, aBin_leq, absV_int, Nat.reduceEqDiff, reduceCtorEq, List.map_cons, List.map_nil, if_true, if_false, f0, f1, f2, f4, hw, d1]
  refine callI_pure cal93 (ins1C _ x c n 0 hn h0) ?_
  simp only [wpA_ret, seqQ_normal, seqQ_ret, blkQ_ret, endI_mk, goE, andThen_ret, goI_out, goI_ops, opsA_nil, retA_ret, Try.results84, resultsA_0]
  exact hid_mk ⟨rfl, Keep.refl _ _⟩
set_option maxRecDepth 20000 in
theorem sort1C (h : AHeap) (x c : V) (n : Int) (hn : n = 0 ∨ n = 1) (hl : aLen Try.prog 33 x h = some (.int .i64 n)) : Pure Try.prog 66 [x, c] h (.tuple []) := by
  refine Pure.val (Clo.tuple CloL.nil) ?_
  refine SCalls.enterI (c := _) Try.func66 rfl (by kernel_rfl) (by simp) ?_
  have hw : IntKind.u64.wrap n = n := by rcases hn with rfl | rfl <;> decide
  simp only [wpA_region, wpA_seq, seqQ_normal, goI_out, goI_ops, opsA_nil, opsA_cons, stepA_move, stepA_assign, stepA_convert, stepA_len, stepA_call, thenV_some, thenC_some, eval_tmp, put_some, enterF_zero, enterF_succ, aConv_int, Option.some.injEq, Nat.reduceEqDiff, reduceCtorEq, List.map_cons, List.map_nil, if_true, if_false, it_140, it_3, hl, hw]
  refine callI_pure cal85 (len1 h n hn) ?_
  simp only [goI_ops, opsA_cons, stepA_move, stepA_call, eval_tmp, eval_const, put_some, enterF_zero, enterF_succ, absV_int, Nat.reduceEqDiff, List.map_cons, List.map_nil, if_true, if_false]
  refine callI_pure cal84 (pdq1C h x c n n (by omega) (by omega)) ?_
  simp only [endI_mk, goI_out, goI_ops, opsA_nil, retA_normal, Try.results66, resultsA_0]
  exact hid_mk ⟨rfl, Keep.refl _ _⟩
/-! ### SortFunc, whatever the comparator -/
theorem sortOfC {g : FuncId} {cf : Cel → Cel → Int} (hO : SWO (ltOf cf)) (hcmp : ∀ a b, SCalls Try.prog g [.agg (celE a), .agg (celE b)] noHeap fun r _ => r = .int .i64 (cf a b))
    (eg : ∀ args w, (callFunc g args).run Try.prog w = .ok (.enter g args) w) (h : AHeap) (x : V) (l : List Cel) (ho : Own h 39 3 x (l.flatMap celE)) (hl : l.length ≤ 2 ^ 40) :
    SCalls Try.prog 66 [x, .func (.func g) [] []] h fun r h' => r = .tuple [] ∧ Keep h h' (isId x) ∧ ∃ l' : List Cel, l'.Perm l ∧ (l'.Pairwise fun a b => ltOf cf b a = false) ∧ Own h' 39 3 x (l'.flatMap celE) := by
  refine sortF_own (by decide) celE_len (fun x => rfl) celE_clo hO hcmp
    (fun n enc hk h1 cf hO blk cap d w hc hH hb hs => AnyQ.slices_SortFunc sfC 3 Try.isAgg39 Try.sizeOf39 enc hk h1 cf hO g #[] blk 0 cap d w eg hc hH hb hs) (fun hn => ?_) ho (by omega)
  subst hn
  have hlen : aLen Try.prog 33 x h = some (.int .i64 0) := by
    rcases ho with ⟨rfl | rfl, _⟩ | ⟨i, len, cap, c, ex, rfl, _, _, hl, _⟩
    · exact aLen_snil kt_33
    · exact aLen_z0 kt_33
    · have : len = 0 := by simp at hl; omega
      subst this
      exact aLen_sl kt_33
  exact sort1C h x _ 0 (.inl rfl) hlen
end Go.Proofs.Ytlbekgogjlchjaa.Pk
