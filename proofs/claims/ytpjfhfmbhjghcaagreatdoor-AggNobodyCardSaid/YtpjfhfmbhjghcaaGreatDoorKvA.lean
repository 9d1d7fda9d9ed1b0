/-
  What functions of the program do, told of abstract states. Conditions: as each theorem says.
-/
import Derived.Test.YtpjfhfmbhjghcaaGreatDoorAbD
import Derived.Test.YtpjfhfmbhjghcaaGreatDoorTyK
namespace Go.Proofs.YtpjfhfmbhjghcaaGreatDoor.Pk
open Go Go.Proofs Go.Proofs.YtpjfhfmbhjghcaaGreatDoor.Ab
set_option linter.unusedVariables false
set_option linter.unusedSimpArgs false

/-! ### sort.Search -/
set_option maxRecDepth 10000 in
theorem pSearch (n : Nat) (g : FuncId) (cap : List V) (p : Nat → Bool) (h : AHeap) (hn : n < 2 ^ 61) (hcal : callable Tryz.prog g = true) (hf : ∀ i, i < n → Pure Tryz.prog g (.int .i64 (i : Nat) :: cap) h (.bool (p i)))
    (r : Nat) (hr : r ≤ n) (h1 : ∀ t, t < r → p t = false) (h2 : ∀ t, r ≤ t → t < n → p t = true) : Pure Tryz.prog 146 [.int .i64 (n : Nat), .func (.func g) [] cap] h (.int .i64 (r : Nat)) := by
  refine SCalls.enterI (c := _) Tryz.func146 rfl (by kernel_rfl) (by simp) ?_
  simp only [wpA_region, wpA_seq, wpA_block, wpA_loop, seqQ_normal, goI_out, goI_ops, opsA_nil, opsA_cons, stepA_move, stepA_assign, eval_tmp, eval_const, put_some, enterF_zero, enterF_succ, absV_int, Nat.reduceEqDiff, reduceCtorEq, if_true, if_false]
  refine SWp.loopG (α := Nat × Nat) (fun x f h' => h' = h ∧ f 1 = .func (.func g) [] cap ∧ f 5 = .int .i64 (x.1 : Nat) ∧ f 6 = .int .i64 (x.2 : Nat) ∧ x.1 ≤ r ∧ r ≤ x.2 ∧ x.2 ≤ n) (fun x => x.2 - x.1) (0, n)
    ⟨rfl, rfl, rfl, rfl, Nat.zero_le _, hr, Nat.le_refl _⟩ ?_
  rintro ⟨lo, hi⟩ f h' ⟨rfl, f1, f5, f6, a1, a2, a3⟩
  simp only at f5 f6 a1 a2 a3
  refine wpI_sound (by kernel_rfl) ?_
  by_cases hlt : lo < hi
  · have d1 : decide ((lo : Int) < (hi : Int)) = true := decide_eq_true (by omega)
    have w1 : IntKind.i64.wrap ((lo : Int) + (hi : Int)) = ((lo + hi : Nat) : Int) := by rw [Go.IntWalk.i64_in _ (by omega)]; omega
    have w2 := nat_u64 (n := lo + hi) (by omega)
    have w3 : (((lo + hi : Nat) : Int)).fdiv (2 ^ (min (Int.toNat 1) IntKind.u64.bits)) = (((lo + hi) / 2 : Nat) : Int) := by
      rw [show (2 : Int) ^ (min (Int.toNat 1) IntKind.u64.bits) = 2 from rfl, Int.fdiv_eq_ediv_of_nonneg _ (by omega)]; omega
    have w4 := nat_i64 (n := (lo + hi) / 2) (by omega)
    have w5 := inc64 (i := (lo + hi) / 2) (n := n) (by omega) (by omega)
    simp only [wpA_skip, wpA_region, wpA_seq, wpA_cond, wpA_block, condI_true, seqQ_normal, goI_out, goI_ops, opsA_nil, opsA_cons, stepA_move, stepA_assign, stepA_binOp, stepA_convert, stepA_callv, callvI_func, thenV_some, thenC_some, eval_tmp, eval_const, put_some, aBin_add, aBin_lss, absV_int, Nat.reduceEqDiff, List.map_cons, List.map_nil, List.nil_append, List.cons_append, if_true, if_false, f1, f5, f6, d1, w1, aConv_int it_3 it_238, w2, aBin_shr (show (0 : Int) ≤ 1 by decide), w3, aConv_int it_238 it_3, w4]
    refine callI_pure hcal (hf _ (by omega)) ?_
    cases hp : p ((lo + hi) / 2)
    · have : ¬ r ≤ (lo + hi) / 2 := fun hh => by have := h2 _ hh (by omega); rw [hp] at this; cases this
      simp only [wpA_region, wpA_cond, condI_true, seqQ_normal, blkQ_normal, endI_mk, andThen_normal, goI_out, goI_ops, opsA_nil, opsA_cons, stepA_move, stepA_assign, stepA_binOp, stepA_unOp, thenV_some, eval_tmp, eval_const, put_some, aBin_add, aUn_not, absV_int, Nat.reduceEqDiff, if_true, if_false, Bool.not_false, w5]
      exact hid_mk ⟨((lo + hi) / 2 + 1, hi), ⟨rfl, f1, rfl, f6, by simp only; omega, a2, a3⟩, by simp only; omega⟩
    · have : ¬ (lo + hi) / 2 < r := fun hh => by have := h1 _ hh; rw [hp] at this; cases this
      simp only [wpA_region, wpA_cond, condI_false, seqQ_normal, blkQ_normal, endI_mk, andThen_normal, goI_out, goI_ops, opsA_nil, opsA_cons, stepA_move, stepA_assign, stepA_unOp, thenV_some, eval_tmp, put_some, aUn_not, Nat.reduceEqDiff, if_true, if_false, Bool.not_true]
      exact hid_mk ⟨(lo, (lo + hi) / 2), ⟨rfl, f1, f5, rfl, a1, by simp only; omega, by simp only; omega⟩, by simp only; omega⟩
  · have d1 : decide ((lo : Int) < (hi : Int)) = false := decide_eq_false (by omega)
    obtain rfl : lo = r := by omega
    simp only [wpA_region, wpA_seq, wpA_cond, wpA_exit, wpA_ret, condI_false, seqQ_normal, seqQ_exit, blkQ_exit, endI_mk, goE, andThen_exit, goI_out, goI_ops, opsA_nil, opsA_cons, stepA_move, stepA_assign, stepA_binOp, thenV_some, eval_tmp, put_some, aBin_lss, Nat.reduceEqDiff, if_true, if_false, f5, f6, d1, retA_ret, Tryz.results146, resultsA_1]
    exact hid_mk ⟨rfl, rfl⟩
end Go.Proofs.YtpjfhfmbhjghcaaGreatDoor.Pk
