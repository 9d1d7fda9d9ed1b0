/-
  What functions of the program do, told of abstract states. Conditions: as each theorem says.
-/
import Derived.Test.YtpjfhfmbhjghcaaGreatDoorAbD
import Derived.Test.YtpjfhfmbhjghcaaGreatDoorTyK
namespace Go.Proofs.YtpjfhfmbhjghcaaGreatDoor.Pk
open Go Go.Proofs Go.Proofs.YtpjfhfmbhjghcaaGreatDoor.Ab
set_option linter.unusedVariables false
set_option linter.unusedSimpArgs false

structure Chg where
  key : Int
  fr : Int
  to : Int
  val : Int
  del : Bool
  deriving DecidableEq
def chgE (c : Chg) : List V := [.int .i64 c.key, .int .i64 c.fr, .int .i64 c.to, .int .i64 c.val, .bool c.del]
theorem chgE_len (r : Chg) : (chgE r).length = 5 := rfl
theorem chgE_one (r : Chg) : (chgE r).all (·.one) = true := rfl
theorem chgE_clo (r : Chg) : CloL (chgE r) := CloL.cons (Clo.int _ _) (CloL.cons (Clo.int _ _) (CloL.cons (Clo.int _ _) (CloL.cons (Clo.int _ _) (CloL.cons (Clo.bool _) CloL.nil))))
theorem chg_neq (a b : Chg) {xo yo : Operand} : aBin Tryz.prog .neq 40 xo yo (.agg (chgE a)) (.agg (chgE b)) = some (.bool (decide (a ≠ b))) := by
  have h : eqK [0, 0, 0, 0, 1] (chgE a) (chgE b) = some (decide (a = b)) := by
    simp only [chgE, eqK, if_true, Option.map_some, Option.some.injEq]
    rw [Bool.eq_iff_iff]
    simp only [Bool.and_eq_true, beq_iff_eq, decide_eq_true_eq, Bool.and_true]
    constructor
    · rintro ⟨h1, h2, h3, h4, h5⟩; cases a; cases b; simp_all
    · rintro rfl; simp
  rw [aBin_sk_neq sk_40 h]
  simp

theorem chg_ix {l : List Chg} {k : Nat} (hk : k < l.length) {kk : IntKind} : aIndexAddr Tryz.prog 35 (.imm l.length (l.flatMap chgE)) (.int kk (k : Int)) = some (.at (chgE l[k] ++ (l.drop (k + 1)).flatMap chgE)) := rows_ix chgE_len hk ss_35
set_option maxRecDepth 10000 in
theorem pChgsEq (a b : List Chg) (h : AHeap) (ha : a.length ≤ 2 ^ 61) : Pure Tryz.prog 18 [.imm a.length (a.flatMap chgE), .imm b.length (b.flatMap chgE)] h (.bool (decide (a = b))) := by
  refine Pure.val (Clo.bool _) ?_
  refine SCalls.enterI (c := _) Tryz.func18 rfl (by kernel_rfl) (by simp) ?_
  by_cases hne : a.length = b.length
  rotate_left
  · have c1 : (((a.length : Nat) : Int) != ((b.length : Nat) : Int)) = true := by simp; omega
    have hG : decide (a = b) = false := by simp only [decide_eq_false_iff_not]; rintro rfl; exact hne rfl
    simp only [wpA_region, wpA_seq, wpA_cond, wpA_ret, condI_true, seqQ_normal, seqQ_ret, endI_mk, goI_out, goI_ops, opsA_nil, opsA_cons, stepA_move, stepA_assign, stepA_binOp, stepA_len, thenV_some, eval_tmp, eval_const, put_some, enterF_zero, enterF_succ, aBin_neq, absV_bool, aLen_imm, Nat.reduceEqDiff, reduceCtorEq, if_true, if_false, kt_35, c1, retA_ret, Tryz.results18, resultsA_1]
    exact hid_mk ⟨by rw [hG], Keep.refl _ _⟩
  have c1 : (((a.length : Nat) : Int) != ((b.length : Nat) : Int)) = false := by simp [hne]
  simp only [wpA_skip, wpA_region, wpA_seq, wpA_cond, wpA_block, wpA_loop, condI_false, seqQ_normal, goI_out, goI_ops, opsA_nil, opsA_cons, stepA_move, stepA_assign, stepA_binOp, stepA_len, thenV_some, eval_tmp, eval_const, put_some, enterF_zero, enterF_succ, aBin_neq, absV_int, absV_bool, aLen_imm, Nat.reduceEqDiff, reduceCtorEq, if_true, if_false, kt_35, c1]
  refine SWp.loopG (α := Nat) (fun i f h' => f 0 = .imm a.length (a.flatMap chgE) ∧ f 1 = .imm b.length (b.flatMap chgE) ∧ f 5 = .int .i64 (i : Nat) ∧ Keep h h' none_ ∧ i ≤ a.length ∧ a.take i = b.take i) (fun i => a.length - i) 0
    ⟨rfl, rfl, rfl, Keep.refl _ _, Nat.zero_le _, rfl⟩ ?_
  rintro i f h1 ⟨f0, f1, f5, k1, hi, hT⟩
  refine wpI_sound (by kernel_rfl) ?_
  by_cases hlt : i < a.length
  rotate_left
  · have c3 : decide ((i : Int) < ((a.length : Nat) : Int)) = false := by simp only [decide_eq_false_iff_not]; omega
    rw [List.take_of_length_le (by omega), List.take_of_length_le (by omega)] at hT
    simp only [wpA_region, wpA_seq, wpA_cond, wpA_exit, wpA_ret, condI_false, seqQ_normal, seqQ_exit, blkQ_exit, endI_mk, goE, andThen_exit, goI_out, goI_ops, opsA_nil, opsA_cons, stepA_move, stepA_assign, stepA_binOp, stepA_len, thenV_some, eval_tmp, eval_const, put_some, aBin_lss, absV_bool, aLen_imm, Nat.reduceEqDiff, reduceCtorEq, if_true, if_false, kt_35, f0, f5, c3, retA_ret, Tryz.results18, resultsA_1]
    exact hid_mk ⟨by rw [hT]; simp, k1⟩
  · have c3 : decide ((i : Int) < ((a.length : Nat) : Int)) = true := by simp only [decide_eq_true_eq]; omega
    have hltb : i < b.length := by omega
    have w1 : IntKind.i64.wrap ((i : Int) + 1) = ((i + 1 : Nat) : Int) := inc64 hlt (by omega)
    have x0 := chg_ix (kk := .i64) hlt
    have x1 := chg_ix (kk := .i64) hltb
    have lr : ∀ (x : Chg) (q : List V), loadGo (some (some 5)) (some (chgE x ++ q)) = some (.agg (chgE x)) := fun x q => load_row (chgE_len x)
    by_cases heq : a[i] = b[i]
    · have hT' : a.take (i + 1) = b.take (i + 1) := by rw [List.take_succ_eq_append_getElem hlt, List.take_succ_eq_append_getElem hltb, hT, heq]
      simp only [wpA_skip, wpA_region, wpA_seq, wpA_cond, wpA_block, wpA_draw, condI_true, seqQ_normal, goI_out, goI_ops, opsA_nil, opsA_cons, stepA_move, stepA_binOp, stepA_len, thenV_some, eval_tmp, put_some, aBin_lss, aLen_imm, Nat.reduceEqDiff, reduceCtorEq, if_true, if_false, kt_35, f0, f5, c3]
      generalize a[i] = A at *
      generalize b[i] = B at *
      subst heq
      have n1 : ∀ xo yo, aBin Tryz.prog .neq 40 xo yo (.agg (chgE A)) (.agg (chgE A)) = some (.bool false) := fun xo yo => by rw [chg_neq]; simp
      refine SWp.drawnS none_ [] (.q 0 (.q 1 (.q 2 (.q 3 (.q 4 (.q 5 (.q 6 (.q 7 (.q 8 .done))))))))) (by kernel_rfl) (by kernel_rfl) (by kernel_rfl) ?_
      simp only [siI_done, siI_q, sqI_some, mOk_none', implies_true, qI_nil, qI_cons, thenQ_some, q_move, q_load, q_binOp, q_indexAddr, wpA_skip, wpA_region, wpA_cond, condI_false, seqQ_normal, blkQ_normal, endI_mk, andThen_normal, goI_out, goI_ops, goI_mk, opsA_nil, opsA_cons, stepA_move, stepA_assign, stepA_binOp, thenV_some, eval_tmp, eval_const, put_some, aBin_add, absV_int, aLoad_eq, aPlace_at, List.getElem?_cons_zero, List.getElem?_cons_succ, Nat.reduceEqDiff, reduceCtorEq, true_and, if_true, if_false, lt_40, f0, f1, f5, x0, x1, n1, lr, w1]
      exact hid_mk ⟨i + 1, ⟨f0, f1, rfl, k1, by omega, hT'⟩, by omega⟩
    · have hG : decide (a = b) = false := by simp only [decide_eq_false_iff_not]; rintro rfl; exact heq rfl
      simp only [wpA_skip, wpA_region, wpA_seq, wpA_cond, wpA_block, wpA_draw, condI_true, seqQ_normal, goI_out, goI_ops, opsA_nil, opsA_cons, stepA_move, stepA_binOp, stepA_len, thenV_some, eval_tmp, put_some, aBin_lss, aLen_imm, Nat.reduceEqDiff, reduceCtorEq, if_true, if_false, kt_35, f0, f5, c3]
      generalize a[i] = A at *
      generalize b[i] = B at *
      have n1 : ∀ xo yo, aBin Tryz.prog .neq 40 xo yo (.agg (chgE A)) (.agg (chgE B)) = some (.bool true) := fun xo yo => by rw [chg_neq]; simp [heq]
      refine SWp.drawnS none_ [] (.q 0 (.q 1 (.q 2 (.q 3 (.q 4 (.q 5 (.q 6 (.q 7 (.q 8 .done))))))))) (by kernel_rfl) (by kernel_rfl) (by kernel_rfl) ?_
      simp only [siI_done, siI_q, sqI_some, mOk_none', implies_true, qI_nil, qI_cons, thenQ_some, q_move, q_load, q_binOp, q_indexAddr, wpA_region, wpA_seq, wpA_cond, wpA_ret, condI_true, seqQ_normal, seqQ_ret, blkQ_ret, endI_mk, goE, andThen_ret, goI_out, goI_ops, goI_mk, opsA_nil, opsA_cons, stepA_assign, eval_tmp, eval_const, put_some, absV_bool, aLoad_eq, aPlace_at, List.getElem?_cons_zero, List.getElem?_cons_succ, Nat.reduceEqDiff, reduceCtorEq, true_and, if_true, if_false, lt_40, f0, f1, f5, x0, x1, n1, lr, retA_ret, Tryz.results18, resultsA_1]
      exact hid_mk ⟨by rw [hG], k1⟩

end Go.Proofs.YtpjfhfmbhjghcaaGreatDoor.Pk
