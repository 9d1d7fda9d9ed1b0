/-
  What functions of the program do, told of abstract states. Conditions: as each theorem says.
-/
import Derived.Test.YtcnjnmgnhkjgfaaPkC
namespace Go.Proofs.Ytcnjnmgnhkjgfaa.Pk
open Go Go.Proofs Go.Proofs.Ytcnjnmgnhkjgfaa.Sim
set_option linter.unusedVariables false
set_option linter.unusedSimpArgs false

theorem cal11 : callable Try.prog 11 = true := by kernel_rfl

theorem enc_mono (k : Nat) : ∀ n m, n < 128 ^ (k + 1) → n ≤ m → (enc n).length ≤ (enc m).length := by
  induction k with
  | zero =>
    intro n m hn hle
    rw [enc_small (by simpa using hn)]
    have : 1 ≤ (enc m).length := by
      by_cases h : m < 128
      · rw [enc_small h]; simp
      · rw [enc_big h]; simp
    simpa using this
  | succ k ih =>
    intro n m hn hle
    by_cases h : n < 128
    · rw [enc_small h]
      have : 1 ≤ (enc m).length := by
        by_cases h : m < 128
        · rw [enc_small h]; simp
        · rw [enc_big h]; simp
      simpa using this
    · rw [enc_big h, enc_big (n := m) (by omega)]
      have := ih (n / 128) (m / 128) (by rw [Nat.pow_succ] at hn; exact Nat.div_lt_of_lt_mul (by rw [Nat.mul_comm]; exact hn)) (by omega)
      simpa using this

theorem order (n m c : Nat) (hn : n < 2 ^ 64) (hm : m < 2 ^ 64) (hc : c < 256) (h : AHeap) : SCalls Try.prog 7 [.int .u64 n, .int .u64 m, .int .u8 c] h (fun r h' => r = .bool true) := by
  refine SCalls.enterI (c := _) Try.func7 rfl (by kernel_rfl) (by simp) ?_
  simp only [wpA_skip, wpA_region, wpA_seq, wpA_cond, wpA_block, wpA_exit, wpA_goto, wpA_label, wpA_ret, wpA_loop, wpA_scope, wpA_draw, condI_true, condI_false, pt_mk, seqQ_normal, seqQ_exit, seqQ_goto, seqQ_ret, blkQ_normal, blkQ_exit, blkQ_goto, blkQ_ret, endI_mk, goE, andThen_normal, andThen_exit, andThen_goto, andThen_ret, goI_out, goI_ops, goI_mk, opsA_nil, opsA_cons, opsA_guardS, guardS_some, guardI_same, guardI_tf, guardI_ft, boolOf_bool, slotAt_zero, slotAt_succ, stepA_move, stepA_assign, stepA_pick, stepA_alloc, stepA_box, stepA_build, stepA_buildSlice, stepA_load, stepA_store, stepA_nilCheck, stepA_binOp, stepA_unOp, stepA_convert, stepA_makeSlice, stepA_slice, stepA_fieldAddr, stepA_field, stepA_indexAddr, stepA_index, stepA_extract, stepA_len, stepA_append, stepA_copy, stepA_call, thenV_some, thenH_some, thenS_some, thenV_none, thenH_none, pickV_true, pickV_false, nilV_some, extV_tuple, eval_tmp, eval_const, eval_func, put_some, put_none, enterF_zero, enterF_succ, aBin_add, aBin_sub, aBin_mul, aBin_eql, aBin_neq, aBin_lss, aBin_leq, aBin_gtr, aBin_geq, aBin_and, aBin_or, aBin_xor, aBin_andNot, aUn_not, aUn_neg, aBin_str_eql, aBin_str_neq, Option.some.injEq, Bool.false_eq_true, cells_int, cells_bool, cells_string, cells_pointer, cells_slice, cells_agg, decide_true, decide_false, reduceIte, Nat.reduceEqDiff, Nat.reduceAdd, Nat.reduceLT, Nat.reduceLeDiff, Nat.reduceMul, Nat.reduceSub, reduceCtorEq, List.map_cons, List.map_nil, Option.map_some, Option.map_none]
  refine callI_of cal11 (shown h) fun r1 h1 ⟨e1, k1⟩ => ?_
  subst e1
  simp only [wpA_skip, wpA_region, wpA_seq, wpA_cond, wpA_block, wpA_exit, wpA_goto, wpA_label, wpA_ret, wpA_loop, wpA_scope, wpA_draw, condI_true, condI_false, pt_mk, seqQ_normal, seqQ_exit, seqQ_goto, seqQ_ret, blkQ_normal, blkQ_exit, blkQ_goto, blkQ_ret, endI_mk, goE, andThen_normal, andThen_exit, andThen_goto, andThen_ret, goI_out, goI_ops, goI_mk, opsA_nil, opsA_cons, opsA_guardS, guardS_some, guardI_same, guardI_tf, guardI_ft, boolOf_bool, slotAt_zero, slotAt_succ, stepA_move, stepA_assign, stepA_pick, stepA_alloc, stepA_box, stepA_build, stepA_buildSlice, stepA_load, stepA_store, stepA_nilCheck, stepA_binOp, stepA_unOp, stepA_convert, stepA_makeSlice, stepA_slice, stepA_fieldAddr, stepA_field, stepA_indexAddr, stepA_index, stepA_extract, stepA_len, stepA_append, stepA_copy, stepA_call, thenV_some, thenH_some, thenS_some, thenV_none, thenH_none, pickV_true, pickV_false, nilV_some, extV_tuple, eval_tmp, eval_const, eval_func, put_some, put_none, enterF_zero, enterF_succ, aBin_add, aBin_sub, aBin_mul, aBin_eql, aBin_neq, aBin_lss, aBin_leq, aBin_gtr, aBin_geq, aBin_and, aBin_or, aBin_xor, aBin_andNot, aUn_not, aUn_neg, aBin_str_eql, aBin_str_neq, Option.some.injEq, Bool.false_eq_true, cells_int, cells_bool, cells_string, cells_pointer, cells_slice, cells_agg, decide_true, decide_false, reduceIte, Nat.reduceEqDiff, Nat.reduceAdd, Nat.reduceLT, Nat.reduceLeDiff, Nat.reduceMul, Nat.reduceSub, reduceCtorEq, List.map_cons, List.map_nil, Option.map_some, Option.map_none]
  refine callI_of cal12 (Uint _ [] n h1 (.inl ⟨rfl, rfl⟩) (by decide) hn) fun r2 h2 ⟨o2, k2, d2⟩ => ?_
  have l2 := o2.sl.aLen Try.underlying22
  rw [o2.sl.len, bytesV_length, List.nil_append] at l2
  simp only [wpA_skip, wpA_region, wpA_seq, wpA_cond, wpA_block, wpA_exit, wpA_goto, wpA_label, wpA_ret, wpA_loop, wpA_scope, wpA_draw, condI_true, condI_false, pt_mk, seqQ_normal, seqQ_exit, seqQ_goto, seqQ_ret, blkQ_normal, blkQ_exit, blkQ_goto, blkQ_ret, endI_mk, goE, andThen_normal, andThen_exit, andThen_goto, andThen_ret, goI_out, goI_ops, goI_mk, opsA_nil, opsA_cons, opsA_guardS, guardS_some, guardI_same, guardI_tf, guardI_ft, boolOf_bool, slotAt_zero, slotAt_succ, stepA_move, stepA_assign, stepA_pick, stepA_alloc, stepA_box, stepA_build, stepA_buildSlice, stepA_load, stepA_store, stepA_nilCheck, stepA_binOp, stepA_unOp, stepA_convert, stepA_makeSlice, stepA_slice, stepA_fieldAddr, stepA_field, stepA_indexAddr, stepA_index, stepA_extract, stepA_len, stepA_append, stepA_copy, stepA_call, thenV_some, thenH_some, thenS_some, thenV_none, thenH_none, pickV_true, pickV_false, nilV_some, extV_tuple, eval_tmp, eval_const, eval_func, put_some, put_none, enterF_zero, enterF_succ, aBin_add, aBin_sub, aBin_mul, aBin_eql, aBin_neq, aBin_lss, aBin_leq, aBin_gtr, aBin_geq, aBin_and, aBin_or, aBin_xor, aBin_andNot, aUn_not, aUn_neg, aBin_str_eql, aBin_str_neq, Option.some.injEq, Bool.false_eq_true, cells_int, cells_bool, cells_string, cells_pointer, cells_slice, cells_agg, decide_true, decide_false, reduceIte, Nat.reduceEqDiff, Nat.reduceAdd, Nat.reduceLT, Nat.reduceLeDiff, Nat.reduceMul, Nat.reduceSub, reduceCtorEq, List.map_cons, List.map_nil, Option.map_some, Option.map_none, l2]
  refine callI_of cal12 (Uint _ [] m h2 (.inl ⟨rfl, rfl⟩) (by decide) hm) fun r3 h3 ⟨o3, k3, d3⟩ => ?_
  have l3 := o3.sl.aLen Try.underlying22
  rw [o3.sl.len, bytesV_length, List.nil_append] at l3
  have hrem : ((c : Int).tmod 128) = ((c % 128 : Nat) : Int) := by rw [Int.tmod_eq_emod_of_nonneg (by omega)]; omega
  have hw : IntKind.u64.wrap ((c % 128 : Nat) : Int) = ((c % 128 : Nat) : Int) := by rw [IntKind.wrap_u64]; omega
  simp only [wpA_skip, wpA_region, wpA_seq, wpA_cond, wpA_block, wpA_exit, wpA_goto, wpA_label, wpA_ret, wpA_loop, wpA_scope, wpA_draw, condI_true, condI_false, pt_mk, seqQ_normal, seqQ_exit, seqQ_goto, seqQ_ret, blkQ_normal, blkQ_exit, blkQ_goto, blkQ_ret, endI_mk, goE, andThen_normal, andThen_exit, andThen_goto, andThen_ret, goI_out, goI_ops, goI_mk, opsA_nil, opsA_cons, opsA_guardS, guardS_some, guardI_same, guardI_tf, guardI_ft, boolOf_bool, slotAt_zero, slotAt_succ, stepA_move, stepA_assign, stepA_pick, stepA_alloc, stepA_box, stepA_build, stepA_buildSlice, stepA_load, stepA_store, stepA_nilCheck, stepA_binOp, stepA_unOp, stepA_convert, stepA_makeSlice, stepA_slice, stepA_fieldAddr, stepA_field, stepA_indexAddr, stepA_index, stepA_extract, stepA_len, stepA_append, stepA_copy, stepA_call, thenV_some, thenH_some, thenS_some, thenV_none, thenH_none, pickV_true, pickV_false, nilV_some, extV_tuple, eval_tmp, eval_const, eval_func, put_some, put_none, enterF_zero, enterF_succ, aBin_add, aBin_sub, aBin_mul, aBin_eql, aBin_neq, aBin_lss, aBin_leq, aBin_gtr, aBin_geq, aBin_and, aBin_or, aBin_xor, aBin_andNot, aUn_not, aUn_neg, aBin_str_eql, aBin_str_neq, Option.some.injEq, Bool.false_eq_true, cells_int, cells_bool, cells_string, cells_pointer, cells_slice, cells_agg, decide_true, decide_false, reduceIte, Nat.reduceEqDiff, Nat.reduceAdd, Nat.reduceLT, Nat.reduceLeDiff, Nat.reduceMul, Nat.reduceSub, reduceCtorEq, List.map_cons, List.map_nil, Option.map_some, Option.map_none, l3, aBin_rem (show (128 : Int) ≠ 0 by decide), hrem, aConv_int Try.underlying5 Try.underlying23, hw]
  refine callI_of cal12 (Uint _ [] (c % 128) h3 (.inl ⟨rfl, rfl⟩) (by decide) (by omega)) fun r4 h4 ⟨o4, k4, d4⟩ => ?_
  rw [List.nil_append, enc_small (by omega)] at o4
  have x1 := (enc_le n hn).1
  have q1 : decide ((1 : Int) ≤ ((enc n).length : Int)) = true := by simp; omega
  have s4 := o4.sl
  have hk5 := Keep.push h4 (.cells [.int .u8 ((c % 128 : Nat) : Int)] 5 none true) (none : Option Nat)
  have s4' := s4.keep hk5 (by cases idOf r4 <;> simp)
  have s5 : Sl (h4.push (.cells [.int .u8 ((c % 128 : Nat) : Int)] 5 none true)) 1 (.slice (some ⟨h4.n, 0, none⟩) 1 1) (bytesV [c % 128]) :=
    .inr ⟨h4.n, 0, 1, 1, rfl, by rw [push_n]; omega, by rw [get_push_new]; rfl⟩
  by_cases hgt : m < n
  · have q2 : decide ((m : Int) < (n : Int)) = true := by simp; omega
    simp only [wpA_skip, wpA_region, wpA_seq, wpA_cond, wpA_block, wpA_exit, wpA_goto, wpA_label, wpA_ret, wpA_loop, wpA_scope, wpA_draw, condI_true, condI_false, pt_mk, seqQ_normal, seqQ_exit, seqQ_goto, seqQ_ret, blkQ_normal, blkQ_exit, blkQ_goto, blkQ_ret, endI_mk, goE, andThen_normal, andThen_exit, andThen_goto, andThen_ret, goI_out, goI_ops, goI_mk, opsA_nil, opsA_cons, opsA_guardS, guardS_some, guardI_same, guardI_tf, guardI_ft, boolOf_bool, slotAt_zero, slotAt_succ, stepA_move, stepA_assign, stepA_pick, stepA_alloc, stepA_box, stepA_build, stepA_buildSlice, stepA_load, stepA_store, stepA_nilCheck, stepA_binOp, stepA_unOp, stepA_convert, stepA_makeSlice, stepA_slice, stepA_fieldAddr, stepA_field, stepA_indexAddr, stepA_index, stepA_extract, stepA_len, stepA_append, stepA_copy, stepA_call, thenV_some, thenH_some, thenS_some, thenV_none, thenH_none, pickV_true, pickV_false, nilV_some, extV_tuple, eval_tmp, eval_const, eval_func, put_some, put_none, enterF_zero, enterF_succ, aBin_add, aBin_sub, aBin_mul, aBin_eql, aBin_neq, aBin_lss, aBin_leq, aBin_gtr, aBin_geq, aBin_and, aBin_or, aBin_xor, aBin_andNot, aUn_not, aUn_neg, aBin_str_eql, aBin_str_neq, Option.some.injEq, Bool.false_eq_true, cells_int, cells_bool, cells_string, cells_pointer, cells_slice, cells_agg, decide_true, decide_false, reduceIte, Nat.reduceEqDiff, Nat.reduceAdd, Nat.reduceLT, Nat.reduceLeDiff, Nat.reduceMul, Nat.reduceSub, reduceCtorEq, List.map_cons, List.map_nil, Option.map_some, Option.map_none, q1, q2, aBin_rem (show (128 : Int) ≠ 0 by decide), hrem, slice1_int e22 sz5 z5 rfl rfl, conv_str s4, conv_str s5, beq_self_eq_true, retA_ret, Try.results7, resultsA_1]
  · have q2 : decide ((m : Int) < (n : Int)) = false := by simp; omega
    have q3 : decide (((enc n).length : Int) ≤ ((enc m).length : Int)) = true := by
      have := enc_mono 9 n m (by have : (2 : Nat) ^ 64 < 128 ^ 10 := by decide
                                 omega) (by omega)
      simp; omega
    simp only [wpA_skip, wpA_region, wpA_seq, wpA_cond, wpA_block, wpA_exit, wpA_goto, wpA_label, wpA_ret, wpA_loop, wpA_scope, wpA_draw, condI_true, condI_false, pt_mk, seqQ_normal, seqQ_exit, seqQ_goto, seqQ_ret, blkQ_normal, blkQ_exit, blkQ_goto, blkQ_ret, endI_mk, goE, andThen_normal, andThen_exit, andThen_goto, andThen_ret, goI_out, goI_ops, goI_mk, opsA_nil, opsA_cons, opsA_guardS, guardS_some, guardI_same, guardI_tf, guardI_ft, boolOf_bool, slotAt_zero, slotAt_succ, stepA_move, stepA_assign, stepA_pick, stepA_alloc, stepA_box, stepA_build, stepA_buildSlice, stepA_load, stepA_store, stepA_nilCheck, stepA_binOp, stepA_unOp, stepA_convert, stepA_makeSlice, stepA_slice, stepA_fieldAddr, stepA_field, stepA_indexAddr, stepA_index, stepA_extract, stepA_len, stepA_append, stepA_copy, stepA_call, thenV_some, thenH_some, thenS_some, thenV_none, thenH_none, pickV_true, pickV_false, nilV_some, extV_tuple, eval_tmp, eval_const, eval_func, put_some, put_none, enterF_zero, enterF_succ, aBin_add, aBin_sub, aBin_mul, aBin_eql, aBin_neq, aBin_lss, aBin_leq, aBin_gtr, aBin_geq, aBin_and, aBin_or, aBin_xor, aBin_andNot, aUn_not, aUn_neg, aBin_str_eql, aBin_str_neq, Option.some.injEq, Bool.false_eq_true, cells_int, cells_bool, cells_string, cells_pointer, cells_slice, cells_agg, decide_true, decide_false, reduceIte, Nat.reduceEqDiff, Nat.reduceAdd, Nat.reduceLT, Nat.reduceLeDiff, Nat.reduceMul, Nat.reduceSub, reduceCtorEq, List.map_cons, List.map_nil, Option.map_some, Option.map_none, q1, q2, q3, aBin_rem (show (128 : Int) ≠ 0 by decide), hrem, slice1_int e22 sz5 z5 rfl rfl, conv_str s4, conv_str s5, beq_self_eq_true, retA_ret, Try.results7, resultsA_1]
end Go.Proofs.Ytcnjnmgnhkjgfaa.Pk
