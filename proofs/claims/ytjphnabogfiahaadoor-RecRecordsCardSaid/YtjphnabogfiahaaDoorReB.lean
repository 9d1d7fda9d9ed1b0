/-
  What functions of the program do, told of abstract states. Conditions: as each theorem says.
-/
import Derived.Test.YtjphnabogfiahaaDoorReA
import Derived.Test.YtjphnabogfiahaaDoorAbD
import Derived.Test.YtjphnabogfiahaaDoorAbD
import Derived.Test.YtjphnabogfiahaaDoorAbD
namespace Go.Proofs.YtjphnabogfiahaaDoor.Pk
open Go Go.Proofs Go.Proofs.YtjphnabogfiahaaDoor.Ab
set_option linter.unusedVariables false
set_option linter.unusedSimpArgs false

theorem ax_flags : arIx Tryd.prog 93 = some (8, 2, true) := by kernel_rfl
theorem ax_five : arIx Tryd.prog 61 = some (5, 1, false) := by kernel_rfl

set_option maxRecDepth 10000 in
theorem pNums (l : List Int) (h : AHeap) (hl : l.length ≤ 2 ^ 47) : Pure Tryd.prog 38 [.imm l.length (i64V l)] h (.bool (l.all fit)) := by
  refine SCalls.enterI (c := _) Tryd.func38 rfl (by kernel_rfl) (by simp) ?_
  simp only [wpA_region, wpA_seq, wpA_block, wpA_loop, seqQ_normal, goI_out, goI_ops, opsA_nil, opsA_cons, stepA_move, stepA_assign, stepA_len, thenV_some, eval_tmp, eval_const, put_some, enterF_zero, enterF_succ, absV_int, absV_bool, aLen_imm, Nat.reduceEqDiff, reduceCtorEq, if_true, if_false, kt_33]
  refine SWp.loopG (α := Nat) (fun i f h' => h' = h ∧ f 5 = .imm l.length (i64V l) ∧ f 6 = .int .i64 l.length ∧ f 7 = .int .i64 (i : Nat) ∧ i ≤ l.length ∧ (l.take i).all fit = true) (fun i => l.length - i) 0
    ⟨rfl, rfl, rfl, rfl, Nat.zero_le _, rfl⟩ ?_
  rintro i f h' ⟨rfl, f5, f6, f7, hi, ha⟩
  refine wpI_sound (by kernel_rfl) ?_
  by_cases hlast : i < l.length
  · have d1 : decide ((i : Int) < ((l.length : Nat) : Int)) = true := by simp; omega
    have hx := i64V_ix (l := l) hlast ss_33
    have hall : l.all fit = true → fit l[i] = true := fun hh => List.all_eq_true.1 hh _ (List.getElem_mem hlast)
    by_cases c1 : l[i] < 0
    · have hG : l.all fit = false := by
        cases hh : l.all fit with
        | false => rfl
        | true => have := (fit_iff _).1 (hall hh); omega
      simp only [wpA_skip, wpA_region, wpA_seq, wpA_cond, wpA_block, wpA_ret, condI_true, seqQ_normal, seqQ_ret, blkQ_ret, endI_mk, goE, andThen_ret, goI_out, goI_ops, opsA_nil, opsA_cons, opsA_guardS, gvI_tf, slotAt_zero, slotAt_succ, stepA_move, stepA_assign, stepA_pick, stepA_load, stepA_binOp, stepA_indexAddr, thenV_some, pickV_true, eval_tmp, eval_const, put_some, aBin_lss, absV_int, absV_bool, aLoad_eq, loadGo_one, aPlace_at, decide_true, Nat.reduceEqDiff, if_true, if_false, lt_3, f5, f6, f7, d1, hx, c1, retA_ret, Tryd.results38, resultsA_1]
      exact hid_mk ⟨by rw [hG], rfl⟩
    by_cases c2 : 1048576 < l[i]
    · have hG : l.all fit = false := by
        cases hh : l.all fit with
        | false => rfl
        | true => have := (fit_iff _).1 (hall hh); omega
      simp only [wpA_skip, wpA_region, wpA_seq, wpA_cond, wpA_block, wpA_ret, condI_true, seqQ_normal, seqQ_ret, blkQ_ret, endI_mk, goE, andThen_ret, goI_out, goI_ops, opsA_nil, opsA_cons, opsA_guardS, gvI_same, slotAt_zero, slotAt_succ, stepA_move, stepA_assign, stepA_pick, stepA_load, stepA_binOp, stepA_indexAddr, thenV_some, pickV_false, eval_tmp, eval_const, put_some, aBin_lss, aBin_gtr, absV_int, absV_bool, aLoad_eq, loadGo_one, aPlace_at, decide_true, decide_false, Nat.reduceEqDiff, if_true, if_false, lt_3, f5, f6, f7, d1, hx, c1, c2, retA_ret, Tryd.results38, resultsA_1]
      exact hid_mk ⟨by rw [hG], rfl⟩
    · have hf : fit l[i] = true := (fit_iff _).2 (by omega)
      have hw := inc64 hlast (by omega)
      simp only [wpA_skip, wpA_region, wpA_seq, wpA_cond, wpA_block, condI_true, condI_false, seqQ_normal, blkQ_normal, endI_mk, andThen_normal, goI_out, goI_ops, opsA_nil, opsA_cons, opsA_guardS, gvI_same, slotAt_zero, slotAt_succ, stepA_move, stepA_assign, stepA_pick, stepA_load, stepA_binOp, stepA_indexAddr, thenV_some, pickV_false, eval_tmp, eval_const, put_some, aBin_add, aBin_lss, aBin_gtr, absV_int, absV_bool, aLoad_eq, loadGo_one, aPlace_at, decide_false, Nat.reduceEqDiff, if_true, if_false, lt_3, f5, f6, f7, d1, hx, c1, c2, hw]
      refine hid_mk ⟨i + 1, ⟨rfl, f5, f6, rfl, hlast, ?_⟩, by omega⟩
      rw [List.take_succ_eq_append_getElem hlast, List.all_append, ha]
      simp [hf]
  · have d1 : decide ((i : Int) < ((l.length : Nat) : Int)) = false := by simp; omega
    have hG : l.all fit = true := by rw [show i = l.length by omega, List.take_length] at ha; exact ha
    simp only [wpA_region, wpA_seq, wpA_cond, wpA_exit, wpA_ret, condI_false, seqQ_normal, seqQ_exit, blkQ_exit, endI_mk, goE, andThen_exit, goI_out, goI_ops, opsA_nil, opsA_cons, stepA_assign, stepA_binOp, thenV_some, eval_tmp, eval_const, put_some, aBin_lss, absV_bool, Nat.reduceEqDiff, if_true, if_false, f6, f7, d1, retA_ret, Tryd.results38, resultsA_1]
    exact hid_mk ⟨by rw [hG], rfl⟩
theorem pTime (t : Int) (h : AHeap) : Pure Tryd.prog 23 [.int .i64 t] h (.bool (timeOk t)) := by
  refine SCalls.enterI (c := _) Tryd.func23 rfl (by kernel_rfl) (by simp) ?_
  by_cases h1 : 0 ≤ t
  · simp only [wpA_region, wpA_seq, wpA_ret, seqQ_normal, endI_mk, goI_out, goI_ops, opsA_nil, opsA_cons, opsA_guardS, gvI_same, slotAt_zero, slotAt_succ, stepA_move, stepA_assign, stepA_pick, stepA_binOp, thenV_some, pickV_true, eval_tmp, eval_const, put_some, enterF_zero, enterF_succ, aBin_leq, aBin_geq, absV_int, absV_bool, decide_true, Nat.reduceEqDiff, reduceCtorEq, if_true, if_false, h1, retA_ret, Tryd.results23, resultsA_1]
    exact hid_mk ⟨by simp [timeOk, h1], rfl⟩
  · simp only [wpA_region, wpA_seq, wpA_ret, seqQ_normal, endI_mk, goI_out, goI_ops, opsA_nil, opsA_cons, opsA_guardS, gvI_ft, slotAt_zero, slotAt_succ, stepA_move, stepA_assign, stepA_pick, stepA_binOp, thenV_some, pickV_false, eval_tmp, eval_const, put_some, enterF_zero, enterF_succ, aBin_geq, absV_int, absV_bool, decide_false, Nat.reduceEqDiff, reduceCtorEq, if_true, if_false, h1, retA_ret, Tryd.results23, resultsA_1]
    exact hid_mk ⟨by simp [timeOk, h1], rfl⟩
theorem pFlag (b : Bool) (h : AHeap) : Pure Tryd.prog 30 [.bool b] h (.int .u64 (if b then 1 else 0)) := by
  refine SCalls.enterI (c := _) Tryd.func30 rfl (by kernel_rfl) (by simp) ?_
  cases b
  · simp only [wpA_skip, wpA_region, wpA_seq, wpA_cond, wpA_ret, condI_false, seqQ_normal, endI_mk, goI_out, goI_ops, opsA_nil, opsA_cons, stepA_move, stepA_assign, eval_tmp, eval_const, put_some, enterF_zero, enterF_succ, absV_int, Nat.reduceEqDiff, reduceCtorEq, if_true, if_false, retA_ret, Tryd.results30, resultsA_1]
    exact hid_mk ⟨rfl, rfl⟩
  · simp only [wpA_region, wpA_seq, wpA_cond, wpA_ret, condI_true, seqQ_normal, seqQ_ret, endI_mk, goI_out, goI_ops, opsA_nil, opsA_cons, stepA_move, stepA_assign, eval_tmp, eval_const, put_some, enterF_zero, enterF_succ, absV_int, Nat.reduceEqDiff, reduceCtorEq, if_true, if_false, retA_ret, Tryd.results30, resultsA_1]
    exact hid_mk ⟨rfl, rfl⟩
end Go.Proofs.YtjphnabogfiahaaDoor.Pk
