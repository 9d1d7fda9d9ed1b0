/-
  What functions of the program do, told of abstract states. Conditions: as each theorem says.
-/
import Derived.Test.YtcdpepdjeneelaaDoorVtA
import Derived.Test.YtcdpepdjeneelaaDoorVsP
namespace Go.Proofs.YtcdpepdjeneelaaDoor.Pk
open Go Go.Proofs Go.Proofs.YtcdpepdjeneelaaDoor.Ab Go.Proofs.Vw
set_option linter.unusedVariables false
set_option linter.unusedSimpArgs false
/-! ### Log and Task -/
theorem lv_ix {l : List (Int × List LR)} {k : Nat} (hk : k < l.length) {kk : IntKind} : aIndexAddr Tryd.prog 26 (.imm l.length (l.flatMap logC)) (.int kk (k : Int)) = some (.at (logC l[k] ++ (l.drop (k + 1)).flatMap logC)) := rows_ix (enc := logC) (sz := 3) logC_len hk ss_26
theorem lv_ld (x : Int × List LR) (r : List V) : loadGo (some (some 3)) (some (logC x ++ r)) = some (.agg (logC x)) := load_row (logC_len x)
theorem tv_ix {l : List TV} {k : Nat} (hk : k < l.length) {kk : IntKind} : aIndexAddr Tryd.prog 27 (.imm l.length (l.flatMap tvC)) (.int kk (k : Int)) = some (.at (tvC l[k] ++ (l.drop (k + 1)).flatMap tvC)) := rows_ix (enc := tvC) (sz := 6) tvC_len hk ss_27
theorem tv_ld (x : TV) (r : List V) : loadGo (some (some 6)) (some (tvC x ++ r)) = some (.agg (tvC x)) := load_row (tvC_len x)
set_option maxRecDepth 10000 in
theorem pHereL (c : Int × List LR) (n : Int) (h : AHeap) (i : Nat) (hi : i < h.n) (hg : h.get i = .cells [.int .i64 n] 3 none) : Pure Tryd.prog 29 [.agg (logC c), .ptr i 0] h (.bool (c.1 == n)) := by
  refine Pure.val (Clo.bool _) ?_
  refine SCalls.enterI (c := _) Tryd.func29 rfl (by kernel_rfl) (by simp) ?_
  have cc : (V.agg (logC c)).cells = some (logC c) := rfl
  have g0 : (h.push (.cells (logC c) 36 none)).get i = .cells [.int .i64 n] 3 none := (get_push_lt hi).trans hg
  have d0 : dropC (AObj.cells (logC c) 36 none) 0 = some (logC c) := rfl
  have l0 : loadGo (some none) (some (logC c)) = some (.int .i64 c.1) := rfl
  simp only [wpA_region, wpA_seq, wpA_ret, seqQ_normal, endI_mk, goI_out, goI_ops, opsA_nil, opsA_cons, stepA_assign, stepA_box, stepA_load, stepA_binOp, stepA_fieldAddr, thenV_some, thenH_some, eval_tmp, eval_const, put_some, enterF_zero, enterF_succ, aBin_eql, absV_bool, aField_eq, fieldGo_ptr, aLoad_eq, loadGo_one, aPlace_ptr, dropC_cells, aBox_eq, get_push_new, Nat.reduceEqDiff, Option.map_some, Nat.add_zero, Nat.zero_add, Nat.zero_le, List.length_cons, List.length_nil, List.drop_zero, if_true, if_false, ft_36_0, lt_3, cc, g0, d0, l0, retA_ret, Tryd.results29, resultsA_1]
  exact hid_mk ⟨rfl, Keep.push _ _ _⟩
set_option maxRecDepth 10000 in
theorem pHereT (c : TV) (n : Int) (h : AHeap) (i : Nat) (hi : i < h.n) (hg : h.get i = .cells [.int .i64 n] 3 none) : Pure Tryd.prog 33 [.agg (tvC c), .ptr i 0] h (.bool (c.t == n)) := by
  refine Pure.val (Clo.bool _) ?_
  refine SCalls.enterI (c := _) Tryd.func33 rfl (by kernel_rfl) (by simp) ?_
  have cc : (V.agg (tvC c)).cells = some (tvC c) := rfl
  have g0 : (h.push (.cells (tvC c) 41 none)).get i = .cells [.int .i64 n] 3 none := (get_push_lt hi).trans hg
  have d0 : dropC (AObj.cells (tvC c) 41 none) 0 = some (tvC c) := rfl
  have l0 : loadGo (some none) (some (tvC c)) = some (.int .i64 c.t) := rfl
  simp only [wpA_region, wpA_seq, wpA_ret, seqQ_normal, endI_mk, goI_out, goI_ops, opsA_nil, opsA_cons, stepA_assign, stepA_box, stepA_load, stepA_binOp, stepA_fieldAddr, thenV_some, thenH_some, eval_tmp, eval_const, put_some, enterF_zero, enterF_succ, aBin_eql, absV_bool, aField_eq, fieldGo_ptr, aLoad_eq, loadGo_one, aPlace_ptr, dropC_cells, aBox_eq, get_push_new, Nat.reduceEqDiff, Option.map_some, Nat.add_zero, Nat.zero_add, Nat.zero_le, List.length_cons, List.length_nil, List.drop_zero, if_true, if_false, ft_41_0, lt_3, cc, g0, d0, l0, retA_ret, Tryd.results33, resultsA_1]
  exact hid_mk ⟨rfl, Keep.push _ _ _⟩
/-- Where a key stands, or -1. -/
def ixOf {α : Type} (p : α → Bool) (l : List α) : Int := if l.findIdx p < l.length then (l.findIdx p : Int) else -1
theorem ixOf_at {α : Type} {p : α → Bool} {l : List α} {j : Nat} (hj : j < l.length) (hp : p l[j] = true) (hno : ∀ k (hk : k < j), p (l[k]'(by omega)) = false) : ixOf p l = (j : Int) := by
  have e : l.findIdx p = j := (List.findIdx_eq hj).2 ⟨hp, fun k hk => hno k hk⟩
  unfold ixOf
  rw [e, if_pos hj]
theorem ixOf_none {α : Type} {p : α → Bool} {l : List α} (hno : ∀ x ∈ l, p x = false) : ixOf p l = -1 := by
  unfold ixOf
  rw [if_neg]
  rw [List.findIdx_lt_length]
  rintro ⟨x, hx, h⟩
  rw [hno x hx] at h
  cases h
set_option maxRecDepth 10000 in
theorem pIxL (l : List (Int × List LR)) (hl : l.length ≤ 2 ^ 30) (n : Int) (h : AHeap) (i : Nat) (hi : i < h.n) (hg : h.get i = .cells [.int .i64 n] 3 none) :
    Pure Tryd.prog 28 [.imm l.length (l.flatMap logC), .func (.func 29) [] [.ptr i 0]] h (.int .i64 (ixOf (fun c => c.1 == n) l)) := by
  refine Pure.val (Clo.int _ _) ?_
  refine SCalls.enterI (c := _) Tryd.func28 rfl (by kernel_rfl) (by simp) ?_
  simp only [wpA_region, wpA_seq, wpA_block, wpA_loop, seqQ_normal, goI_out, goI_ops, opsA_nil, opsA_cons, stepA_move, stepA_assign, stepA_len, thenV_some, eval_tmp, eval_const, put_some, enterF_zero, enterF_succ, absV_int, aLen_imm, Int.reduceNeg, Nat.reduceEqDiff, reduceCtorEq, if_true, if_false, kt_26]
  refine SWp.loopG (α := Nat) (fun j f h' => f 0 = .imm l.length (l.flatMap logC) ∧ f 1 = .func (.func 29) [] [.ptr i 0] ∧ f 7 = .int .i64 ((l.length : Nat) : Int) ∧ f 8 = .int .i64 (j : Nat) ∧ j ≤ l.length ∧ h' = h ∧ (∀ k (hk : k < l.length), k < j → (l[k].1 == n) = false)) (fun j => l.length - j) 0 ⟨rfl, rfl, rfl, rfl, Nat.zero_le _, rfl, fun k _ hk => by omega⟩ ?_
  rintro j f h1 ⟨f0, f1, f7, f8, hj, rfl, hE⟩
  refine wpI_sound (by kernel_rfl) ?_
  by_cases hlt : j < l.length
  · have c5 : decide ((j : Int) < ((l.length : Nat) : Int)) = true := by simp only [decide_eq_true_eq]; omega
    have x1 := lv_ix (kk := .i64) hlt
    have ld := lv_ld
    have w2 : IntKind.i64.wrap (((j : Nat) : Int) + 1) = ((j + 1 : Nat) : Int) := by rw [Go.IntWalk.i64_in _ (by omega)]; omega
    simp only [wpA_skip, wpA_region, wpA_seq, wpA_cond, wpA_block, condI_true, seqQ_normal, goI_out, goI_ops, opsA_nil, opsA_cons, stepA_move, stepA_assign, stepA_load, stepA_binOp, stepA_indexAddr, stepA_callv, callvI_func, thenV_some, eval_tmp, put_some, aBin_lss, aLoad_eq, aPlace_at, Nat.reduceEqDiff, reduceCtorEq, List.map_cons, List.map_nil, List.nil_append, List.cons_append, if_true, if_false, lt_36, f0, f1, f7, f8, c5, x1, ld]
    refine callI_pure cal29 (pHereL l[j] n h1 i hi hg) ?_
    cases c6 : (l[j].1 == n)
    · simp only [wpA_skip, wpA_region, wpA_cond, condI_false, seqQ_normal, blkQ_normal, endI_mk, andThen_normal, goI_out, goI_ops, opsA_nil, opsA_cons, stepA_move, stepA_binOp, thenV_some, eval_tmp, eval_const, put_some, aBin_add, absV_int, Int.reduceNeg, Nat.reduceEqDiff, if_true, if_false, f8, w2]
      exact hid_mk ⟨j + 1, ⟨f0, f1, f7, rfl, by omega, rfl, fun k hk hkj => by
        by_cases e : k = j
        · subst e; exact c6
        · exact hE k hk (by omega)⟩, by omega⟩
    · simp only [wpA_region, wpA_seq, wpA_cond, wpA_ret, condI_true, seqQ_normal, seqQ_ret, blkQ_ret, endI_mk, goE, andThen_ret, goI_out, goI_ops, opsA_nil, opsA_cons, stepA_move, stepA_assign, eval_tmp, put_some, Int.reduceNeg, Nat.reduceEqDiff, if_true, if_false, retA_ret, Tryd.results28, resultsA_1]
      exact hid_mk ⟨by rw [ixOf_at hlt c6 (fun k hk => hE k (by omega) hk)], Keep.refl _ _⟩
  · have c5 : decide ((j : Int) < ((l.length : Nat) : Int)) = false := by simp only [decide_eq_false_iff_not]; omega
    simp only [wpA_region, wpA_seq, wpA_cond, wpA_exit, wpA_ret, condI_false, seqQ_normal, seqQ_exit, blkQ_exit, endI_mk, goE, andThen_exit, goI_out, goI_ops, opsA_nil, opsA_cons, stepA_assign, stepA_binOp, thenV_some, eval_tmp, eval_const, put_some, aBin_lss, absV_int, Int.reduceNeg, Nat.reduceEqDiff, if_true, if_false, f7, f8, c5, retA_ret, Tryd.results28, resultsA_1]
    exact hid_mk ⟨by rw [ixOf_none fun x hx => by obtain ⟨k, hk, rfl⟩ := List.getElem_of_mem hx; exact hE k hk (by omega)], Keep.refl _ _⟩
set_option maxRecDepth 10000 in
theorem pIxT (l : List TV) (hl : l.length ≤ 2 ^ 30) (n : Int) (h : AHeap) (i : Nat) (hi : i < h.n) (hg : h.get i = .cells [.int .i64 n] 3 none) :
    Pure Tryd.prog 32 [.imm l.length (l.flatMap tvC), .func (.func 33) [] [.ptr i 0]] h (.int .i64 (ixOf (fun c => c.t == n) l)) := by
  refine Pure.val (Clo.int _ _) ?_
  refine SCalls.enterI (c := _) Tryd.func32 rfl (by kernel_rfl) (by simp) ?_
  simp only [wpA_region, wpA_seq, wpA_block, wpA_loop, seqQ_normal, goI_out, goI_ops, opsA_nil, opsA_cons, stepA_move, stepA_assign, stepA_len, thenV_some, eval_tmp, eval_const, put_some, enterF_zero, enterF_succ, absV_int, aLen_imm, Int.reduceNeg, Nat.reduceEqDiff, reduceCtorEq, if_true, if_false, kt_27]
  refine SWp.loopG (α := Nat) (fun j f h' => f 0 = .imm l.length (l.flatMap tvC) ∧ f 1 = .func (.func 33) [] [.ptr i 0] ∧ f 7 = .int .i64 ((l.length : Nat) : Int) ∧ f 8 = .int .i64 (j : Nat) ∧ j ≤ l.length ∧ h' = h ∧ (∀ k (hk : k < l.length), k < j → (l[k].t == n) = false)) (fun j => l.length - j) 0 ⟨rfl, rfl, rfl, rfl, Nat.zero_le _, rfl, fun k _ hk => by omega⟩ ?_
  rintro j f h1 ⟨f0, f1, f7, f8, hj, rfl, hE⟩
  refine wpI_sound (by kernel_rfl) ?_
  by_cases hlt : j < l.length
  · have c5 : decide ((j : Int) < ((l.length : Nat) : Int)) = true := by simp only [decide_eq_true_eq]; omega
    have x1 := tv_ix (kk := .i64) hlt
    have ld := tv_ld
    have w2 : IntKind.i64.wrap (((j : Nat) : Int) + 1) = ((j + 1 : Nat) : Int) := by rw [Go.IntWalk.i64_in _ (by omega)]; omega
    simp only [wpA_skip, wpA_region, wpA_seq, wpA_cond, wpA_block, condI_true, seqQ_normal, goI_out, goI_ops, opsA_nil, opsA_cons, stepA_move, stepA_assign, stepA_load, stepA_binOp, stepA_indexAddr, stepA_callv, callvI_func, thenV_some, eval_tmp, put_some, aBin_lss, aLoad_eq, aPlace_at, Nat.reduceEqDiff, reduceCtorEq, List.map_cons, List.map_nil, List.nil_append, List.cons_append, if_true, if_false, lt_41, f0, f1, f7, f8, c5, x1, ld]
    refine callI_pure cal33 (pHereT l[j] n h1 i hi hg) ?_
    cases c6 : (l[j].t == n)
    · simp only [wpA_skip, wpA_region, wpA_cond, condI_false, seqQ_normal, blkQ_normal, endI_mk, andThen_normal, goI_out, goI_ops, opsA_nil, opsA_cons, stepA_move, stepA_binOp, thenV_some, eval_tmp, eval_const, put_some, aBin_add, absV_int, Int.reduceNeg, Nat.reduceEqDiff, if_true, if_false, f8, w2]
      exact hid_mk ⟨j + 1, ⟨f0, f1, f7, rfl, by omega, rfl, fun k hk hkj => by
        by_cases e : k = j
        · subst e; exact c6
        · exact hE k hk (by omega)⟩, by omega⟩
    · simp only [wpA_region, wpA_seq, wpA_cond, wpA_ret, condI_true, seqQ_normal, seqQ_ret, blkQ_ret, endI_mk, goE, andThen_ret, goI_out, goI_ops, opsA_nil, opsA_cons, stepA_move, stepA_assign, eval_tmp, put_some, Int.reduceNeg, Nat.reduceEqDiff, if_true, if_false, retA_ret, Tryd.results32, resultsA_1]
      exact hid_mk ⟨by rw [ixOf_at hlt c6 (fun k hk => hE k (by omega) hk)], Keep.refl _ _⟩
  · have c5 : decide ((j : Int) < ((l.length : Nat) : Int)) = false := by simp only [decide_eq_false_iff_not]; omega
    simp only [wpA_region, wpA_seq, wpA_cond, wpA_exit, wpA_ret, condI_false, seqQ_normal, seqQ_exit, blkQ_exit, endI_mk, goE, andThen_exit, goI_out, goI_ops, opsA_nil, opsA_cons, stepA_assign, stepA_binOp, thenV_some, eval_tmp, eval_const, put_some, aBin_lss, absV_int, Int.reduceNeg, Nat.reduceEqDiff, if_true, if_false, f7, f8, c5, retA_ret, Tryd.results32, resultsA_1]
    exact hid_mk ⟨by rw [ixOf_none fun x hx => by obtain ⟨k, hk, rfl⟩ := List.getElem_of_mem hx; exact hE k hk (by omega)], Keep.refl _ _⟩
end Go.Proofs.YtcdpepdjeneelaaDoor.Pk
