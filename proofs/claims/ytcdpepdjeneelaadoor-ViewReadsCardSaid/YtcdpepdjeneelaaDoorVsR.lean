/-
  What functions of the program do, told of abstract states. Conditions: as each theorem says.
-/
import Derived.Test.YtcdpepdjeneelaaDoorSoL
import Derived.Test.YtcdpepdjeneelaaDoorSoT
namespace Go.Proofs.YtcdpepdjeneelaaDoor.Pk
open Go Go.Proofs Go.Proofs.YtcdpepdjeneelaaDoor.Ab Go.Sort
set_option linter.unusedVariables false
set_option linter.unusedSimpArgs false
/-! ### The comparator -/
def cmpI (x y : Int) : Int := if x < y then -1 else if y < x then 1 else 0
set_option maxRecDepth 10000 in
theorem nan64 (h : AHeap) (x : Int) : Pure Tryd.prog 52 [.int .i64 x] h (.bool false) := by
  refine Pure.val (Clo.bool _) ?_
  refine SCalls.enterI (c := _) Tryd.func52 rfl (by kernel_rfl) (by simp) ?_
  have e : (x != x) = false := by simp
  simp only [wpA_region, wpA_seq, wpA_ret, seqQ_normal, endI_mk, goI_out, goI_ops, opsA_nil, opsA_cons, stepA_move, stepA_assign, stepA_binOp, thenV_some, eval_tmp, eval_const, put_some, enterF_zero, enterF_succ, aBin_neq, absV_bool, bne_self_eq_false, Nat.reduceEqDiff, reduceCtorEq, if_true, if_false, retA_ret, Tryd.results52, resultsA_1]
  exact hid_mk ⟨rfl, Keep.refl _ _⟩
set_option maxRecDepth 10000 in
theorem cmp64 (h : AHeap) (x y : Int) : Pure Tryd.prog 43 [.int .i64 x, .int .i64 y] h (.int .i64 (cmpI x y)) := by
  refine Pure.val (Clo.int _ _) ?_
  refine SCalls.enterI (c := _) Tryd.func43 rfl (by kernel_rfl) (by simp) ?_
  simp only [wpA_region, wpA_seq, seqQ_normal, goI_out, goI_ops, opsA_nil, opsA_cons, stepA_move, stepA_assign, stepA_call, eval_tmp, eval_const, put_some, enterF_zero, enterF_succ, absV_int, Int.reduceNeg, Nat.reduceEqDiff, reduceCtorEq, List.map_cons, List.map_nil, if_true, if_false]
  refine callI_pure cal52 (nan64 h x) ?_
  simp only [wpA_region, wpA_seq, seqQ_normal, goI_out, goI_ops, opsA_nil, opsA_cons, stepA_move, stepA_assign, stepA_call, eval_tmp, put_some, enterF_zero, enterF_succ, Int.reduceNeg, Nat.reduceEqDiff, List.map_cons, List.map_nil, if_true, if_false]
  refine callI_pure cal52 (nan64 h y) ?_
  by_cases h1 : x < y
  · have d1 : decide (x < y) = true := decide_eq_true h1
    simp only [wpA_skip, wpA_region, wpA_seq, wpA_cond, wpA_ret, condI_true, condI_false, seqQ_normal, seqQ_ret, endI_mk, goI_out, goI_ops, opsA_nil, opsA_cons, stepA_move, stepA_assign, stepA_binOp, thenV_some, eval_tmp, eval_const, put_some, enterF_zero, enterF_succ, aBin_lss, absV_int, Int.reduceNeg, Nat.reduceEqDiff, reduceCtorEq, if_true, if_false, d1, retA_ret, Tryd.results43, resultsA_1]
    exact hid_mk ⟨by rw [cmpI, if_pos h1], Keep.refl _ _⟩
  · have d1 : decide (x < y) = false := decide_eq_false h1
    by_cases h2 : y < x
    · have d2 : decide (y < x) = true := decide_eq_true h2
      simp only [wpA_skip, wpA_region, wpA_seq, wpA_cond, wpA_ret, condI_true, condI_false, seqQ_normal, seqQ_ret, endI_mk, goI_out, goI_ops, opsA_nil, opsA_cons, stepA_move, stepA_assign, stepA_binOp, thenV_some, eval_tmp, eval_const, put_some, enterF_zero, enterF_succ, aBin_lss, aBin_gtr, absV_int, Int.reduceNeg, Nat.reduceEqDiff, reduceCtorEq, if_true, if_false, d1, d2, retA_ret, Tryd.results43, resultsA_1]
      exact hid_mk ⟨by rw [cmpI, if_neg h1, if_pos h2], Keep.refl _ _⟩
    · have d2 : decide (y < x) = false := decide_eq_false h2
      simp only [wpA_skip, wpA_region, wpA_seq, wpA_cond, wpA_ret, condI_false, seqQ_normal, endI_mk, goI_out, goI_ops, opsA_nil, opsA_cons, stepA_move, stepA_assign, stepA_binOp, thenV_some, eval_tmp, eval_const, put_some, enterF_zero, enterF_succ, aBin_lss, aBin_gtr, absV_int, Int.reduceNeg, Nat.reduceEqDiff, reduceCtorEq, if_true, if_false, d1, d2, retA_ret, Tryd.results43, resultsA_1]
      exact hid_mk ⟨by rw [cmpI, if_neg h1, if_neg h2], Keep.refl _ _⟩
set_option maxRecDepth 20000 in
theorem byLog (a b : (Int × List LR)) (h : AHeap) : Pure Tryd.prog 42 [.agg (logC a), .agg (logC b)] h (.int .i64 (cmpI a.1 b.1)) := by
  refine Pure.val (Clo.int _ _) ?_
  refine SCalls.enterI (c := _) Tryd.func42 rfl (by kernel_rfl) (by simp) ?_
  have ca : (V.agg (logC a)).cells = some (logC a) := rfl
  have cb : (V.agg (logC b)).cells = some (logC b) := rfl
  have da : dropC (AObj.cells (logC a) 36 none) 0 = some (logC a) := rfl
  have db : dropC (AObj.cells (logC b) 36 none) 0 = some (logC b) := rfl
  have la : loadGo (some none) (some (logC a)) = some (.int .i64 a.1) := rfl
  have lb : loadGo (some none) (some (logC b)) = some (.int .i64 b.1) := rfl
  have k2 : Keep h ((h.push (.cells (logC a) 36 none)).push (.cells (logC b) 36 none)) none_ := (Keep.push _ _ _).trans' (Keep.push _ _ _)
  simp only [wpA_region, wpA_seq, seqQ_normal, goI_out, goI_ops, opsA_nil, opsA_cons, stepA_assign, stepA_box, stepA_load, stepA_fieldAddr, stepA_call, thenV_some, thenH_some, eval_tmp, eval_const, put_some, enterF_zero, enterF_succ, absV_int, aField_eq, fieldGo_ptr, aLoad_eq, aPlace_ptr, aBox_eq, push_n, get_push2, get_push2', Nat.reduceEqDiff, List.map_cons, List.map_nil, Option.map_some, Nat.add_zero, if_true, if_false, ft_36_0, lt_3, ca, cb, da, db, la, lb]
  refine callI_pure cal43 (cmp64 _ a.1 b.1) ?_
  simp only [wpA_ret, seqQ_normal, endI_mk, goI_out, goI_ops, opsA_nil, opsA_cons, stepA_assign, eval_tmp, put_some, enterF_succ, Nat.reduceEqDiff, if_true, if_false, retA_ret, Tryd.results42, resultsA_1]
  exact hid_mk ⟨rfl, k2⟩
theorem sortbyLog (h : AHeap) (x : V) (l : List (Int × List LR)) (ho : Own h 36 3 x (l.flatMap logC)) (hl : l.length ≤ 2 ^ 40) :
    SCalls Tryd.prog 41 [x, .func (.func 42) [] []] h fun r h' => r = .tuple [] ∧ Keep h h' (isId x) ∧ ∃ l' : List (Int × List LR), l'.Perm l ∧ (l'.Pairwise fun a b => ¬ b.1 < a.1) ∧ Own h' 36 3 x (l'.flatMap logC) := by
  have e : ∀ a b : (Int × List LR), ltOf (fun a b : (Int × List LR) => cmpI a.1 b.1) a b = decide (a.1 < b.1) := fun a b => by
    unfold ltOf cmpI
    rw [Bool.eq_iff_iff]
    simp only [decide_eq_true_eq]
    split <;> (try split) <;> omega
  refine (sortOfL (cf := fun a b => cmpI a.1 b.1) ⟨fun a => by rw [e]; simp, fun a b c h1 h2 => by rw [e] at *; simp at *; omega, fun a b c h1 h2 => by rw [e] at *; simp at *; omega⟩
    (fun a b => (byLog a b noHeap).mono fun r h' hh => hh.1) (enters_of Tryd.func42 (by kernel_rfl) rfl) h x l ho hl).mono fun r h' ⟨h1, h2, l', hp, hs, ho⟩ => ⟨h1, h2, l', hp, hs.imp fun {a b} hab => by rw [e] at hab; simpa using hab, ho⟩
set_option maxRecDepth 20000 in
theorem byTask (a b : TV) (h : AHeap) : Pure Tryd.prog 45 [.agg (tvC a), .agg (tvC b)] h (.int .i64 (cmpI a.t b.t)) := by
  refine Pure.val (Clo.int _ _) ?_
  refine SCalls.enterI (c := _) Tryd.func45 rfl (by kernel_rfl) (by simp) ?_
  have ca : (V.agg (tvC a)).cells = some (tvC a) := rfl
  have cb : (V.agg (tvC b)).cells = some (tvC b) := rfl
  have da : dropC (AObj.cells (tvC a) 41 none) 0 = some (tvC a) := rfl
  have db : dropC (AObj.cells (tvC b) 41 none) 0 = some (tvC b) := rfl
  have la : loadGo (some none) (some (tvC a)) = some (.int .i64 a.t) := rfl
  have lb : loadGo (some none) (some (tvC b)) = some (.int .i64 b.t) := rfl
  have k2 : Keep h ((h.push (.cells (tvC a) 41 none)).push (.cells (tvC b) 41 none)) none_ := (Keep.push _ _ _).trans' (Keep.push _ _ _)
  simp only [wpA_region, wpA_seq, seqQ_normal, goI_out, goI_ops, opsA_nil, opsA_cons, stepA_assign, stepA_box, stepA_load, stepA_fieldAddr, stepA_call, thenV_some, thenH_some, eval_tmp, eval_const, put_some, enterF_zero, enterF_succ, absV_int, aField_eq, fieldGo_ptr, aLoad_eq, aPlace_ptr, aBox_eq, push_n, get_push2, get_push2', Nat.reduceEqDiff, List.map_cons, List.map_nil, Option.map_some, Nat.add_zero, if_true, if_false, ft_41_0, lt_3, ca, cb, da, db, la, lb]
  refine callI_pure cal43 (cmp64 _ a.t b.t) ?_
  simp only [wpA_ret, seqQ_normal, endI_mk, goI_out, goI_ops, opsA_nil, opsA_cons, stepA_assign, eval_tmp, put_some, enterF_succ, Nat.reduceEqDiff, if_true, if_false, retA_ret, Tryd.results45, resultsA_1]
  exact hid_mk ⟨rfl, k2⟩
theorem sortbyTask (h : AHeap) (x : V) (l : List TV) (ho : Own h 41 6 x (l.flatMap tvC)) (hl : l.length ≤ 2 ^ 40) :
    SCalls Tryd.prog 44 [x, .func (.func 45) [] []] h fun r h' => r = .tuple [] ∧ Keep h h' (isId x) ∧ ∃ l' : List TV, l'.Perm l ∧ (l'.Pairwise fun a b => ¬ b.t < a.t) ∧ Own h' 41 6 x (l'.flatMap tvC) := by
  have e : ∀ a b : TV, ltOf (fun a b : TV => cmpI a.t b.t) a b = decide (a.t < b.t) := fun a b => by
    unfold ltOf cmpI
    rw [Bool.eq_iff_iff]
    simp only [decide_eq_true_eq]
    split <;> (try split) <;> omega
  refine (sortOfT (cf := fun a b => cmpI a.t b.t) ⟨fun a => by rw [e]; simp, fun a b c h1 h2 => by rw [e] at *; simp at *; omega, fun a b c h1 h2 => by rw [e] at *; simp at *; omega⟩
    (fun a b => (byTask a b noHeap).mono fun r h' hh => hh.1) (enters_of Tryd.func45 (by kernel_rfl) rfl) h x l ho hl).mono fun r h' ⟨h1, h2, l', hp, hs, ho⟩ => ⟨h1, h2, l', hp, hs.imp fun {a b} hab => by rw [e] at hab; simpa using hab, ho⟩
end Go.Proofs.YtcdpepdjeneelaaDoor.Pk
