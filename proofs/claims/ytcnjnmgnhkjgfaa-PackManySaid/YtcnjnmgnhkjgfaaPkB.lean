/-
  What functions of the program do, told of abstract states. Conditions: as each theorem says.
-/
import Derived.Test.YtcnjnmgnhkjgfaaPkA
namespace Go.Proofs.Ytcnjnmgnhkjgfaa.Pk
open Go Go.Proofs Go.Proofs.Ytcnjnmgnhkjgfaa.Sim
set_option linter.unusedVariables false
set_option linter.unusedSimpArgs false

theorem row5 : rowT Try.prog 5 = some false := by kernel_rfl
theorem ofInt_nat (w n : Nat) : BitVec.ofInt w (n : Int) = BitVec.ofNat w n := by
  apply BitVec.eq_of_toNat_eq
  simp
/-- or of numbers that share no bit -/
theorem bOr_add (a b k : Nat) (hb : b < 2 ^ k) (hk : k ≤ 64) (ha : a * 2 ^ k < 2 ^ 64) : bOr .u64 (b : Int) ((a * 2 ^ k : Nat) : Int) = ((a * 2 ^ k + b : Nat) : Int) := by
  have hlt : a * 2 ^ k + b < 2 ^ 64 := by
    have e : (2 : Nat) ^ 64 = 2 ^ (64 - k) * 2 ^ k := by rw [← Nat.pow_add]; congr 1; omega
    rw [e] at ha ⊢
    have h1 : a < 2 ^ (64 - k) := Nat.lt_of_mul_lt_mul_right ha
    calc a * 2 ^ k + b < a * 2 ^ k + 2 ^ k := by omega
      _ = (a + 1) * 2 ^ k := by rw [Nat.add_mul]; simp
      _ ≤ _ := Nat.mul_le_mul_right _ h1
  unfold bOr
  rw [ofInt_nat, ofInt_nat]
  have e1 : (BitVec.ofNat IntKind.u64.bits b ||| BitVec.ofNat IntKind.u64.bits (a * 2 ^ k)).toNat = a * 2 ^ k + b := by
    rw [BitVec.toNat_or]
    simp only [BitVec.toNat_ofNat, IntKind.bits]
    rw [Nat.mod_eq_of_lt (by omega), Nat.mod_eq_of_lt ha]
    have := Nat.shiftLeft_add_eq_or_of_lt hb a
    rw [Nat.shiftLeft_eq] at this
    rw [this, Nat.or_comm]
  rw [e1, IntKind.wrap_u64]
  omega
theorem low7 (g : Nat) (hg : g < 256) : IntKind.u64.wrap (bAndNot .u8 (g : Int) 128) = ((g % 128 : Nat) : Int) := by
  have h : ∀ m : Fin 256, IntKind.u64.wrap (bAndNot .u8 (m.val : Int) 128) = ((m.val % 128 : Nat) : Int) := by decide +kernel
  exact h ⟨g, hg⟩
theorem sh7 (g at_ : Nat) (hg : g % 128 * 2 ^ (7 * at_) < 2 ^ 64) (ha : at_ ≤ 9) : IntKind.u64.wrap (((g % 128 : Nat) : Int) * 2 ^ (min (IntKind.i64.wrap (7 * (at_ : Int))).toNat IntKind.u64.bits)) = ((g % 128 * 2 ^ (7 * at_) : Nat) : Int) := by
  have e : (min (IntKind.i64.wrap (7 * (at_ : Int))).toNat IntKind.u64.bits) = 7 * at_ := by
    rw [IntKind.wrap_i64]
    have h1 : ((7 * (at_ : Int) + 9223372036854775808) % 18446744073709551616 - 9223372036854775808) = ((7 * at_ : Nat) : Int) := by omega
    rw [h1, Int.toNat_natCast]
    simp only [IntKind.bits]
    omega
  rw [e, IntKind.wrap_u64]
  have : (((g % 128 : Nat) : Int) * 2 ^ (7 * at_)) = ((g % 128 * 2 ^ (7 * at_) : Nat) : Int) := by push_cast; rfl
  rw [this]
  omega

theorem fits7 (g at_ : Nat) (ha9 : at_ ≤ 9) (hbad : ¬(at_ = 9 ∧ 1 < g)) (hg : g < 256) : g % 128 * 2 ^ (7 * at_) < 2 ^ 64 := by
  by_cases h8 : at_ ≤ 8
  · have h1 : (2 : Nat) ^ (7 * at_) ≤ 2 ^ 56 := Nat.pow_le_pow_right (by decide) (by omega)
    have h2 : g % 128 < 128 := Nat.mod_lt _ (by decide)
    have h3 : g % 128 * 2 ^ (7 * at_) ≤ 127 * 2 ^ 56 := Nat.mul_le_mul (by omega) h1
    exact Nat.lt_of_le_of_lt h3 (by decide)
  · have : at_ = 9 := by omega
    subst this
    have : g % 128 ≤ 1 := by omega
    exact Nat.lt_of_le_of_lt (Nat.mul_le_mul_right _ this) (by decide)
theorem or7 (g n at_ : Nat) (hn : n < 2 ^ (7 * at_)) (ha9 : at_ ≤ 9) (hn7 : g % 128 * 2 ^ (7 * at_) < 2 ^ 64) : bOr .u64 (n : Int) ((g % 128 * 2 ^ (7 * at_) : Nat) : Int) = ((n + g % 128 * 2 ^ (7 * at_) : Nat) : Int) := by
  rw [bOr_add (g % 128) n (7 * at_) hn (by omega) hn7, Nat.add_comm]
theorem next7 (g n at_ : Nat) (hn : n < 2 ^ (7 * at_)) : n + g % 128 * 2 ^ (7 * at_) < 2 ^ (7 * (at_ + 1)) := by
  have e : (2 : Nat) ^ (7 * (at_ + 1)) = 128 * 2 ^ (7 * at_) := by rw [Nat.mul_add, Nat.pow_add]; omega
  rw [e]
  have h2 : g % 128 < 128 := Nat.mod_lt _ (by decide)
  have h3 := Nat.mul_le_mul_right (2 ^ (7 * at_)) (show g % 128 ≤ 127 by omega)
  generalize 2 ^ (7 * at_) = p at *
  omega

/-- What number tells: of bytes from here on, so many of them taken, so much told by those. -/
def dec : List Nat → Nat → Nat → Nat × Nat × Nat
  | [], _, _ => (0, 0, 4)
  | g :: r, at_, n =>
    if at_ = 9 ∧ 1 < g then (0, 0, 5)
    else if 128 ≤ g then dec r (at_ + 1) (n + g % 128 * 2 ^ (7 * at_))
    else if g = 0 ∧ 0 < at_ then (0, 0, 5)
    else (n + g % 128 * 2 ^ (7 * at_), at_ + 1, 0)
def decV (r : Nat × Nat × Nat) : Value := .tuple #[.int .u64 (r.1 : Nat), .int .i64 (r.2.1 : Nat), .int .i64 (r.2.2 : Nat)]

theorem number (s : Value) (bs : List Nat) (h : AHeap) (ho : Sl h 1 s (bytesV bs)) (hb : ∀ b ∈ bs, b < 256) (hc : bs.length ≤ 2 ^ 40) :
    SCalls Try.prog 34 [s] h (fun r h' => r = decV (dec bs 0 0) ∧ h' = h) := by
  refine SCalls.enterI (c := _) Try.func34 rfl (by kernel_rfl) (by simp) ?_
  simp only [wpA_skip, wpA_region, wpA_seq, wpA_cond, wpA_block, wpA_exit, wpA_goto, wpA_label, wpA_ret, wpA_loop, wpA_scope, wpA_draw, condI_true, condI_false, pt_mk, seqQ_normal, seqQ_exit, seqQ_goto, seqQ_ret, blkQ_normal, blkQ_exit, blkQ_goto, blkQ_ret, endI_mk, goE, andThen_normal, andThen_exit, andThen_goto, andThen_ret, goI_out, goI_ops, goI_mk, opsA_nil, opsA_cons, opsA_guardS, guardS_some, guardI_same, guardI_tf, guardI_ft, boolOf_bool, slotAt_zero, slotAt_succ, stepA_move, stepA_assign, stepA_pick, stepA_alloc, stepA_box, stepA_build, stepA_buildSlice, stepA_load, stepA_store, stepA_nilCheck, stepA_binOp, stepA_unOp, stepA_convert, stepA_makeSlice, stepA_slice, stepA_fieldAddr, stepA_field, stepA_indexAddr, stepA_index, stepA_extract, stepA_len, stepA_append, stepA_copy, stepA_call, thenV_some, thenH_some, thenS_some, thenV_none, thenH_none, pickV_true, pickV_false, nilV_some, extV_tuple, eval_tmp, eval_const, eval_func, put_some, put_none, enterF_zero, enterF_succ, aBin_add, aBin_sub, aBin_mul, aBin_eql, aBin_neq, aBin_lss, aBin_leq, aBin_gtr, aBin_geq, aBin_and, aBin_or, aBin_xor, aBin_andNot, aUn_not, aUn_neg, aBin_str_eql, aBin_str_neq, Option.some.injEq, Bool.false_eq_true, cells_int, cells_bool, cells_string, cells_pointer, cells_slice, cells_agg, decide_true, decide_false, reduceIte, Nat.reduceEqDiff, Nat.reduceAdd, Nat.reduceLT, Nat.reduceLeDiff, Nat.reduceMul, Nat.reduceSub, reduceCtorEq, List.map_cons, List.map_nil, Option.map_some, Option.map_none]
  refine SWp.scope1 (l := 0) rfl (fun f h' => h' = h ∧ ∃ at_ n : Nat, f 0 = s ∧ f 5 = .int .u64 (n : Nat) ∧ f 6 = .int .i64 (at_ : Nat) ∧ dec (bs.drop at_) at_ n = dec bs 0 0 ∧ n < 2 ^ (7 * at_) ∧ at_ ≤ 9 ∧ at_ ≤ bs.length) (fun f _ => match f 6 with | .int _ m => 10 - m.toNat | _ => 0) ?_ ?_ ?_
  · rintro f h1 ⟨rfl, at_, n, hf0, hf5, hf6, hd, hn, ha9, hab⟩
    simp only [hf6]
    omega
  · rintro f h1 ⟨rfl, at_, n, hf0, hf5, hf6, hd, hn, ha9, hab⟩
    refine wpI_sound (by kernel_rfl) ?_
    have hl := ho.aLen Try.underlying22
    have hll := ho.len
    rw [bytesV_length] at hll
    rw [hll] at hl
    by_cases hend : at_ = bs.length
    · have hb1 : ((at_ : Int) == (bs.length : Int)) = true := by simp [hend]
      simp only [wpA_skip, wpA_region, wpA_seq, wpA_cond, wpA_block, wpA_exit, wpA_goto, wpA_label, wpA_ret, wpA_loop, wpA_scope, wpA_draw, condI_true, condI_false, pt_mk, seqQ_normal, seqQ_exit, seqQ_goto, seqQ_ret, blkQ_normal, blkQ_exit, blkQ_goto, blkQ_ret, endI_mk, goE, andThen_normal, andThen_exit, andThen_goto, andThen_ret, goI_out, goI_ops, goI_mk, opsA_nil, opsA_cons, opsA_guardS, guardS_some, guardI_same, guardI_tf, guardI_ft, boolOf_bool, slotAt_zero, slotAt_succ, stepA_move, stepA_assign, stepA_pick, stepA_alloc, stepA_box, stepA_build, stepA_buildSlice, stepA_load, stepA_store, stepA_nilCheck, stepA_binOp, stepA_unOp, stepA_convert, stepA_makeSlice, stepA_slice, stepA_fieldAddr, stepA_field, stepA_indexAddr, stepA_index, stepA_extract, stepA_len, stepA_append, stepA_copy, stepA_call, thenV_some, thenH_some, thenS_some, thenV_none, thenH_none, pickV_true, pickV_false, nilV_some, extV_tuple, eval_tmp, eval_const, eval_func, put_some, put_none, enterF_zero, enterF_succ, aBin_add, aBin_sub, aBin_mul, aBin_eql, aBin_neq, aBin_lss, aBin_leq, aBin_gtr, aBin_geq, aBin_and, aBin_or, aBin_xor, aBin_andNot, aUn_not, aUn_neg, aBin_str_eql, aBin_str_neq, Option.some.injEq, Bool.false_eq_true, cells_int, cells_bool, cells_string, cells_pointer, cells_slice, cells_agg, decide_true, decide_false, reduceIte, Nat.reduceEqDiff, Nat.reduceAdd, Nat.reduceLT, Nat.reduceLeDiff, Nat.reduceMul, Nat.reduceSub, reduceCtorEq, List.map_cons, List.map_nil, Option.map_some, Option.map_none, hf0, hf5, hf6, hl, hb1, jumpA_ret, retA_ret, Try.results34, resultsA_3]
      rw [← hd, hend, List.drop_length]
      exact ⟨rfl, trivial⟩
    · have hb1 : ((at_ : Int) == (bs.length : Int)) = false := by simp; omega
      have hlt : at_ < bs.length := by omega
      have hg256 : bs[at_] < 256 := hb _ (List.getElem_mem hlt)
      have hdrop : bs.drop at_ = bs[at_] :: bs.drop (at_ + 1) := List.drop_eq_getElem_cons hlt
      have hix := ho.index Try.underlying22 sz5 at_ (by rw [bytesV_length]; exact hlt) (k := .i64)
      obtain ⟨p, hp1, hp2⟩ := hix
      have hp2' : aLoad Try.prog 5 p h1 = some (.int .u8 (bs[at_] : Nat)) := by
        rw [hp2 5 row5 sz5]
        simp [bytesV, hlt]
      have hd2 : dec (bs.drop at_) at_ n = dec (bs[at_] :: bs.drop (at_ + 1)) at_ n := by rw [← hdrop]
      generalize bs[at_] = g at hg256 hp2' hd2
      clear hp2 hdrop
      have hget : ∀ k, ((k : Int) == (9 : Int)) = decide (k = 9) := fun k => by
        by_cases hk : k = (9 : Int) <;> simp [hk]
      by_cases hbad : at_ = 9 ∧ 1 < g
      · have hb2 : ((at_ : Int) == 9) = true := by simp [hbad.1]
        have hb3 : decide ((1 : Int) < (g : Int)) = true := by simp; omega
        simp only [wpA_skip, wpA_region, wpA_seq, wpA_cond, wpA_block, wpA_exit, wpA_goto, wpA_label, wpA_ret, wpA_loop, wpA_scope, wpA_draw, condI_true, condI_false, pt_mk, seqQ_normal, seqQ_exit, seqQ_goto, seqQ_ret, blkQ_normal, blkQ_exit, blkQ_goto, blkQ_ret, endI_mk, goE, andThen_normal, andThen_exit, andThen_goto, andThen_ret, goI_out, goI_ops, goI_mk, opsA_nil, opsA_cons, opsA_guardS, guardS_some, guardI_same, guardI_tf, guardI_ft, boolOf_bool, slotAt_zero, slotAt_succ, stepA_move, stepA_assign, stepA_pick, stepA_alloc, stepA_box, stepA_build, stepA_buildSlice, stepA_load, stepA_store, stepA_nilCheck, stepA_binOp, stepA_unOp, stepA_convert, stepA_makeSlice, stepA_slice, stepA_fieldAddr, stepA_field, stepA_indexAddr, stepA_index, stepA_extract, stepA_len, stepA_append, stepA_copy, stepA_call, thenV_some, thenH_some, thenS_some, thenV_none, thenH_none, pickV_true, pickV_false, nilV_some, extV_tuple, eval_tmp, eval_const, eval_func, put_some, put_none, enterF_zero, enterF_succ, aBin_add, aBin_sub, aBin_mul, aBin_eql, aBin_neq, aBin_lss, aBin_leq, aBin_gtr, aBin_geq, aBin_and, aBin_or, aBin_xor, aBin_andNot, aUn_not, aUn_neg, aBin_str_eql, aBin_str_neq, Option.some.injEq, Bool.false_eq_true, cells_int, cells_bool, cells_string, cells_pointer, cells_slice, cells_agg, decide_true, decide_false, reduceIte, Nat.reduceEqDiff, Nat.reduceAdd, Nat.reduceLT, Nat.reduceLeDiff, Nat.reduceMul, Nat.reduceSub, reduceCtorEq, List.map_cons, List.map_nil, Option.map_some, Option.map_none, hf0, hf5, hf6, hl, hb1, hp1, hp2', hb2, hb3, jumpA_ret, retA_ret, Try.results34, resultsA_3]
        rw [← hd, hd2, dec, if_pos hbad]
        exact ⟨rfl, trivial⟩
      · have hn7 := fits7 g at_ ha9 hbad hg256
        have hor := or7 g n at_ hn ha9 hn7
        have hnext := next7 g n at_ hn
        have hs7 := sh7 g at_ hn7 ha9
        have hl7 := low7 g hg256
        have hpos : (0 : Int) ≤ IntKind.i64.wrap (7 * (at_ : Int)) := by
          rw [IntWalk.i64_in _ (by omega)]
          omega
        have hw1 : IntKind.i64.wrap ((at_ : Int) + 1) = ((at_ + 1 : Nat) : Int) := by rw [IntKind.wrap_i64]; omega
        have hcond : (((at_ : Int) == 9) = true ∧ decide ((1 : Int) < (g : Int)) = false) ∨ ((at_ : Int) == 9) = false := by
          by_cases h9 : at_ = 9
          · left; refine ⟨by simp [h9], by simp; omega⟩
          · right; simp; omega
        by_cases hbig : 128 ≤ g
        · have hb4 : decide ((128 : Int) ≤ (g : Int)) = true := by simp; omega
          have h8 : at_ ≤ 8 := by
            rcases Nat.lt_or_ge at_ 9 with h | h
            · omega
            · exact absurd ⟨by omega, by omega⟩ hbad
          have hfin : dec (bs.drop (at_ + 1)) (at_ + 1) (n + g % 128 * 2 ^ (7 * at_)) = dec bs 0 0 := by
            rw [← hd, hd2, dec, if_neg hbad, if_pos hbig]
          rcases hcond with ⟨c1, c2⟩ | c1
          · exfalso
            simp at c1
            omega
          · simp only [wpA_skip, wpA_region, wpA_seq, wpA_cond, wpA_block, wpA_exit, wpA_goto, wpA_label, wpA_ret, wpA_loop, wpA_scope, wpA_draw, condI_true, condI_false, pt_mk, seqQ_normal, seqQ_exit, seqQ_goto, seqQ_ret, blkQ_normal, blkQ_exit, blkQ_goto, blkQ_ret, endI_mk, goE, andThen_normal, andThen_exit, andThen_goto, andThen_ret, goI_out, goI_ops, goI_mk, opsA_nil, opsA_cons, opsA_guardS, guardS_some, guardI_same, guardI_tf, guardI_ft, boolOf_bool, slotAt_zero, slotAt_succ, stepA_move, stepA_assign, stepA_pick, stepA_alloc, stepA_box, stepA_build, stepA_buildSlice, stepA_load, stepA_store, stepA_nilCheck, stepA_binOp, stepA_unOp, stepA_convert, stepA_makeSlice, stepA_slice, stepA_fieldAddr, stepA_field, stepA_indexAddr, stepA_index, stepA_extract, stepA_len, stepA_append, stepA_copy, stepA_call, thenV_some, thenH_some, thenS_some, thenV_none, thenH_none, pickV_true, pickV_false, nilV_some, extV_tuple, eval_tmp, eval_const, eval_func, put_some, put_none, enterF_zero, enterF_succ, aBin_add, aBin_sub, aBin_mul, aBin_eql, aBin_neq, aBin_lss, aBin_leq, aBin_gtr, aBin_geq, aBin_and, aBin_or, aBin_xor, aBin_andNot, aUn_not, aUn_neg, aBin_str_eql, aBin_str_neq, Option.some.injEq, Bool.false_eq_true, cells_int, cells_bool, cells_string, cells_pointer, cells_slice, cells_agg, decide_true, decide_false, reduceIte, Nat.reduceEqDiff, Nat.reduceAdd, Nat.reduceLT, Nat.reduceLeDiff, Nat.reduceMul, Nat.reduceSub, reduceCtorEq, List.map_cons, List.map_nil, Option.map_some, Option.map_none, hf0, hf5, hf6, hl, hb1, hp1, hp2', c1, hb4, aConv_int Try.underlying5 Try.underlying23, hl7, aBin_shl hpos, hs7, hor, hw1, jumpA_goto]
            exact ⟨trivial, ⟨trivial, at_ + 1, _, trivial, rfl, rfl, hfin, hnext, by omega, by omega⟩, by simp; omega⟩
        · have hb4 : decide ((128 : Int) ≤ (g : Int)) = false := by simp; omega
          have hr : dec bs 0 0 = if g = 0 ∧ 0 < at_ then (0, 0, 5) else (n + g % 128 * 2 ^ (7 * at_), at_ + 1, 0) := by
            rw [← hd, hd2, dec, if_neg hbad, if_neg hbig]
          have hc3 : ((g : Int) == 0) = false ∨ (((g : Int) == 0) = true ∧ decide ((1 : Int) < ((at_ + 1 : Nat) : Int)) = decide (0 < at_)) := by
            by_cases h0 : g = 0
            · right; exact ⟨by simp [h0], by rw [decide_eq_decide]; omega⟩
            · left; simp; omega
          rcases hcond with ⟨c1, c2⟩ | c1 <;> rcases hc3 with c3 | ⟨c3, c4⟩
          · have h0 : ¬ (g = 0 ∧ 0 < at_) := by intro h; simp [h.1] at c3
            rw [if_neg h0] at hr
            simp only [wpA_skip, wpA_region, wpA_seq, wpA_cond, wpA_block, wpA_exit, wpA_goto, wpA_label, wpA_ret, wpA_loop, wpA_scope, wpA_draw, condI_true, condI_false, pt_mk, seqQ_normal, seqQ_exit, seqQ_goto, seqQ_ret, blkQ_normal, blkQ_exit, blkQ_goto, blkQ_ret, endI_mk, goE, andThen_normal, andThen_exit, andThen_goto, andThen_ret, goI_out, goI_ops, goI_mk, opsA_nil, opsA_cons, opsA_guardS, guardS_some, guardI_same, guardI_tf, guardI_ft, boolOf_bool, slotAt_zero, slotAt_succ, stepA_move, stepA_assign, stepA_pick, stepA_alloc, stepA_box, stepA_build, stepA_buildSlice, stepA_load, stepA_store, stepA_nilCheck, stepA_binOp, stepA_unOp, stepA_convert, stepA_makeSlice, stepA_slice, stepA_fieldAddr, stepA_field, stepA_indexAddr, stepA_index, stepA_extract, stepA_len, stepA_append, stepA_copy, stepA_call, thenV_some, thenH_some, thenS_some, thenV_none, thenH_none, pickV_true, pickV_false, nilV_some, extV_tuple, eval_tmp, eval_const, eval_func, put_some, put_none, enterF_zero, enterF_succ, aBin_add, aBin_sub, aBin_mul, aBin_eql, aBin_neq, aBin_lss, aBin_leq, aBin_gtr, aBin_geq, aBin_and, aBin_or, aBin_xor, aBin_andNot, aUn_not, aUn_neg, aBin_str_eql, aBin_str_neq, Option.some.injEq, Bool.false_eq_true, cells_int, cells_bool, cells_string, cells_pointer, cells_slice, cells_agg, decide_true, decide_false, reduceIte, Nat.reduceEqDiff, Nat.reduceAdd, Nat.reduceLT, Nat.reduceLeDiff, Nat.reduceMul, Nat.reduceSub, reduceCtorEq, List.map_cons, List.map_nil, Option.map_some, Option.map_none, hf0, hf5, hf6, hl, hb1, hp1, hp2', c1, c2, c3, hb4, aConv_int Try.underlying5 Try.underlying23, hl7, aBin_shl hpos, hs7, hor, hw1, jumpA_ret, retA_ret, Try.results34, resultsA_3, hr]
            exact ⟨rfl, trivial⟩
          · have hat : 0 < at_ := by simp at c1; omega
            have h0 : (g = 0 ∧ 0 < at_) := ⟨by simpa using c3, hat⟩
            rw [if_pos h0] at hr
            simp only [hat, decide_true] at c4
            simp only [wpA_skip, wpA_region, wpA_seq, wpA_cond, wpA_block, wpA_exit, wpA_goto, wpA_label, wpA_ret, wpA_loop, wpA_scope, wpA_draw, condI_true, condI_false, pt_mk, seqQ_normal, seqQ_exit, seqQ_goto, seqQ_ret, blkQ_normal, blkQ_exit, blkQ_goto, blkQ_ret, endI_mk, goE, andThen_normal, andThen_exit, andThen_goto, andThen_ret, goI_out, goI_ops, goI_mk, opsA_nil, opsA_cons, opsA_guardS, guardS_some, guardI_same, guardI_tf, guardI_ft, boolOf_bool, slotAt_zero, slotAt_succ, stepA_move, stepA_assign, stepA_pick, stepA_alloc, stepA_box, stepA_build, stepA_buildSlice, stepA_load, stepA_store, stepA_nilCheck, stepA_binOp, stepA_unOp, stepA_convert, stepA_makeSlice, stepA_slice, stepA_fieldAddr, stepA_field, stepA_indexAddr, stepA_index, stepA_extract, stepA_len, stepA_append, stepA_copy, stepA_call, thenV_some, thenH_some, thenS_some, thenV_none, thenH_none, pickV_true, pickV_false, nilV_some, extV_tuple, eval_tmp, eval_const, eval_func, put_some, put_none, enterF_zero, enterF_succ, aBin_add, aBin_sub, aBin_mul, aBin_eql, aBin_neq, aBin_lss, aBin_leq, aBin_gtr, aBin_geq, aBin_and, aBin_or, aBin_xor, aBin_andNot, aUn_not, aUn_neg, aBin_str_eql, aBin_str_neq, Option.some.injEq, Bool.false_eq_true, cells_int, cells_bool, cells_string, cells_pointer, cells_slice, cells_agg, decide_true, decide_false, reduceIte, Nat.reduceEqDiff, Nat.reduceAdd, Nat.reduceLT, Nat.reduceLeDiff, Nat.reduceMul, Nat.reduceSub, reduceCtorEq, List.map_cons, List.map_nil, Option.map_some, Option.map_none, hf0, hf5, hf6, hl, hb1, hp1, hp2', c1, c2, c3, c4, hb4, aConv_int Try.underlying5 Try.underlying23, hl7, aBin_shl hpos, hs7, hor, hw1, jumpA_ret, retA_ret, Try.results34, resultsA_3, hr]
            exact ⟨rfl, trivial⟩
          · have h0 : ¬ (g = 0 ∧ 0 < at_) := by intro h; simp [h.1] at c3
            rw [if_neg h0] at hr
            simp only [wpA_skip, wpA_region, wpA_seq, wpA_cond, wpA_block, wpA_exit, wpA_goto, wpA_label, wpA_ret, wpA_loop, wpA_scope, wpA_draw, condI_true, condI_false, pt_mk, seqQ_normal, seqQ_exit, seqQ_goto, seqQ_ret, blkQ_normal, blkQ_exit, blkQ_goto, blkQ_ret, endI_mk, goE, andThen_normal, andThen_exit, andThen_goto, andThen_ret, goI_out, goI_ops, goI_mk, opsA_nil, opsA_cons, opsA_guardS, guardS_some, guardI_same, guardI_tf, guardI_ft, boolOf_bool, slotAt_zero, slotAt_succ, stepA_move, stepA_assign, stepA_pick, stepA_alloc, stepA_box, stepA_build, stepA_buildSlice, stepA_load, stepA_store, stepA_nilCheck, stepA_binOp, stepA_unOp, stepA_convert, stepA_makeSlice, stepA_slice, stepA_fieldAddr, stepA_field, stepA_indexAddr, stepA_index, stepA_extract, stepA_len, stepA_append, stepA_copy, stepA_call, thenV_some, thenH_some, thenS_some, thenV_none, thenH_none, pickV_true, pickV_false, nilV_some, extV_tuple, eval_tmp, eval_const, eval_func, put_some, put_none, enterF_zero, enterF_succ, aBin_add, aBin_sub, aBin_mul, aBin_eql, aBin_neq, aBin_lss, aBin_leq, aBin_gtr, aBin_geq, aBin_and, aBin_or, aBin_xor, aBin_andNot, aUn_not, aUn_neg, aBin_str_eql, aBin_str_neq, Option.some.injEq, Bool.false_eq_true, cells_int, cells_bool, cells_string, cells_pointer, cells_slice, cells_agg, decide_true, decide_false, reduceIte, Nat.reduceEqDiff, Nat.reduceAdd, Nat.reduceLT, Nat.reduceLeDiff, Nat.reduceMul, Nat.reduceSub, reduceCtorEq, List.map_cons, List.map_nil, Option.map_some, Option.map_none, hf0, hf5, hf6, hl, hb1, hp1, hp2', c1, c3, hb4, aConv_int Try.underlying5 Try.underlying23, hl7, aBin_shl hpos, hs7, hor, hw1, jumpA_ret, retA_ret, Try.results34, resultsA_3, hr]
            exact ⟨rfl, trivial⟩
          · by_cases hat : 0 < at_
            · have h0 : (g = 0 ∧ 0 < at_) := ⟨by simpa using c3, hat⟩
              rw [if_pos h0] at hr
              simp only [hat, decide_true] at c4
              simp only [wpA_skip, wpA_region, wpA_seq, wpA_cond, wpA_block, wpA_exit, wpA_goto, wpA_label, wpA_ret, wpA_loop, wpA_scope, wpA_draw, condI_true, condI_false, pt_mk, seqQ_normal, seqQ_exit, seqQ_goto, seqQ_ret, blkQ_normal, blkQ_exit, blkQ_goto, blkQ_ret, endI_mk, goE, andThen_normal, andThen_exit, andThen_goto, andThen_ret, goI_out, goI_ops, goI_mk, opsA_nil, opsA_cons, opsA_guardS, guardS_some, guardI_same, guardI_tf, guardI_ft, boolOf_bool, slotAt_zero, slotAt_succ, stepA_move, stepA_assign, stepA_pick, stepA_alloc, stepA_box, stepA_build, stepA_buildSlice, stepA_load, stepA_store, stepA_nilCheck, stepA_binOp, stepA_unOp, stepA_convert, stepA_makeSlice, stepA_slice, stepA_fieldAddr, stepA_field, stepA_indexAddr, stepA_index, stepA_extract, stepA_len, stepA_append, stepA_copy, stepA_call, thenV_some, thenH_some, thenS_some, thenV_none, thenH_none, pickV_true, pickV_false, nilV_some, extV_tuple, eval_tmp, eval_const, eval_func, put_some, put_none, enterF_zero, enterF_succ, aBin_add, aBin_sub, aBin_mul, aBin_eql, aBin_neq, aBin_lss, aBin_leq, aBin_gtr, aBin_geq, aBin_and, aBin_or, aBin_xor, aBin_andNot, aUn_not, aUn_neg, aBin_str_eql, aBin_str_neq, Option.some.injEq, Bool.false_eq_true, cells_int, cells_bool, cells_string, cells_pointer, cells_slice, cells_agg, decide_true, decide_false, reduceIte, Nat.reduceEqDiff, Nat.reduceAdd, Nat.reduceLT, Nat.reduceLeDiff, Nat.reduceMul, Nat.reduceSub, reduceCtorEq, List.map_cons, List.map_nil, Option.map_some, Option.map_none, hf0, hf5, hf6, hl, hb1, hp1, hp2', c1, c3, c4, hb4, aConv_int Try.underlying5 Try.underlying23, hl7, aBin_shl hpos, hs7, hor, hw1, jumpA_ret, retA_ret, Try.results34, resultsA_3, hr]
              exact ⟨rfl, trivial⟩
            · have h0 : ¬ (g = 0 ∧ 0 < at_) := fun h => hat h.2
              rw [if_neg h0] at hr
              simp only [hat, decide_false] at c4
              simp only [wpA_skip, wpA_region, wpA_seq, wpA_cond, wpA_block, wpA_exit, wpA_goto, wpA_label, wpA_ret, wpA_loop, wpA_scope, wpA_draw, condI_true, condI_false, pt_mk, seqQ_normal, seqQ_exit, seqQ_goto, seqQ_ret, blkQ_normal, blkQ_exit, blkQ_goto, blkQ_ret, endI_mk, goE, andThen_normal, andThen_exit, andThen_goto, andThen_ret, goI_out, goI_ops, goI_mk, opsA_nil, opsA_cons, opsA_guardS, guardS_some, guardI_same, guardI_tf, guardI_ft, boolOf_bool, slotAt_zero, slotAt_succ, stepA_move, stepA_assign, stepA_pick, stepA_alloc, stepA_box, stepA_build, stepA_buildSlice, stepA_load, stepA_store, stepA_nilCheck, stepA_binOp, stepA_unOp, stepA_convert, stepA_makeSlice, stepA_slice, stepA_fieldAddr, stepA_field, stepA_indexAddr, stepA_index, stepA_extract, stepA_len, stepA_append, stepA_copy, stepA_call, thenV_some, thenH_some, thenS_some, thenV_none, thenH_none, pickV_true, pickV_false, nilV_some, extV_tuple, eval_tmp, eval_const, eval_func, put_some, put_none, enterF_zero, enterF_succ, aBin_add, aBin_sub, aBin_mul, aBin_eql, aBin_neq, aBin_lss, aBin_leq, aBin_gtr, aBin_geq, aBin_and, aBin_or, aBin_xor, aBin_andNot, aUn_not, aUn_neg, aBin_str_eql, aBin_str_neq, Option.some.injEq, Bool.false_eq_true, cells_int, cells_bool, cells_string, cells_pointer, cells_slice, cells_agg, decide_true, decide_false, reduceIte, Nat.reduceEqDiff, Nat.reduceAdd, Nat.reduceLT, Nat.reduceLeDiff, Nat.reduceMul, Nat.reduceSub, reduceCtorEq, List.map_cons, List.map_nil, Option.map_some, Option.map_none, hf0, hf5, hf6, hl, hb1, hp1, hp2', c1, c3, c4, hb4, aConv_int Try.underlying5 Try.underlying23, hl7, aBin_shl hpos, hs7, hor, hw1, jumpA_ret, retA_ret, Try.results34, resultsA_3, hr]
              exact ⟨rfl, trivial⟩
  · intro step
    refine .seq (wpI_sound (by kernel_rfl) ?_)
    simp only [wpA_skip, wpA_region, wpA_seq, wpA_cond, wpA_block, wpA_exit, wpA_goto, wpA_label, wpA_ret, wpA_loop, wpA_scope, wpA_draw, condI_true, condI_false, pt_mk, seqQ_normal, seqQ_exit, seqQ_goto, seqQ_ret, blkQ_normal, blkQ_exit, blkQ_goto, blkQ_ret, endI_mk, goE, andThen_normal, andThen_exit, andThen_goto, andThen_ret, goI_out, goI_ops, goI_mk, opsA_nil, opsA_cons, opsA_guardS, guardS_some, guardI_same, guardI_tf, guardI_ft, boolOf_bool, slotAt_zero, slotAt_succ, stepA_move, stepA_assign, stepA_pick, stepA_alloc, stepA_box, stepA_build, stepA_buildSlice, stepA_load, stepA_store, stepA_nilCheck, stepA_binOp, stepA_unOp, stepA_convert, stepA_makeSlice, stepA_slice, stepA_fieldAddr, stepA_field, stepA_indexAddr, stepA_index, stepA_extract, stepA_len, stepA_append, stepA_copy, stepA_call, thenV_some, thenH_some, thenS_some, thenV_none, thenH_none, pickV_true, pickV_false, nilV_some, extV_tuple, eval_tmp, eval_const, eval_func, put_some, put_none, enterF_zero, enterF_succ, aBin_add, aBin_sub, aBin_mul, aBin_eql, aBin_neq, aBin_lss, aBin_leq, aBin_gtr, aBin_geq, aBin_and, aBin_or, aBin_xor, aBin_andNot, aUn_not, aUn_neg, aBin_str_eql, aBin_str_neq, Option.some.injEq, Bool.false_eq_true, cells_int, cells_bool, cells_string, cells_pointer, cells_slice, cells_agg, decide_true, decide_false, reduceIte, Nat.reduceEqDiff, Nat.reduceAdd, Nat.reduceLT, Nat.reduceLeDiff, Nat.reduceMul, Nat.reduceSub, reduceCtorEq, List.map_cons, List.map_nil, Option.map_some, Option.map_none]
    refine .seq (wpI_sound (by kernel_rfl) ?_)
    simp only [wpA_skip, wpA_region, wpA_seq, wpA_cond, wpA_block, wpA_exit, wpA_goto, wpA_label, wpA_ret, wpA_loop, wpA_scope, wpA_draw, condI_true, condI_false, pt_mk, seqQ_normal, seqQ_exit, seqQ_goto, seqQ_ret, blkQ_normal, blkQ_exit, blkQ_goto, blkQ_ret, endI_mk, goE, andThen_normal, andThen_exit, andThen_goto, andThen_ret, goI_out, goI_ops, goI_mk, opsA_nil, opsA_cons, opsA_guardS, guardS_some, guardI_same, guardI_tf, guardI_ft, boolOf_bool, slotAt_zero, slotAt_succ, stepA_move, stepA_assign, stepA_pick, stepA_alloc, stepA_box, stepA_build, stepA_buildSlice, stepA_load, stepA_store, stepA_nilCheck, stepA_binOp, stepA_unOp, stepA_convert, stepA_makeSlice, stepA_slice, stepA_fieldAddr, stepA_field, stepA_indexAddr, stepA_index, stepA_extract, stepA_len, stepA_append, stepA_copy, stepA_call, thenV_some, thenH_some, thenS_some, thenV_none, thenH_none, pickV_true, pickV_false, nilV_some, extV_tuple, eval_tmp, eval_const, eval_func, put_some, put_none, enterF_zero, enterF_succ, aBin_add, aBin_sub, aBin_mul, aBin_eql, aBin_neq, aBin_lss, aBin_leq, aBin_gtr, aBin_geq, aBin_and, aBin_or, aBin_xor, aBin_andNot, aUn_not, aUn_neg, aBin_str_eql, aBin_str_neq, Option.some.injEq, Bool.false_eq_true, cells_int, cells_bool, cells_string, cells_pointer, cells_slice, cells_agg, decide_true, decide_false, reduceIte, Nat.reduceEqDiff, Nat.reduceAdd, Nat.reduceLT, Nat.reduceLeDiff, Nat.reduceMul, Nat.reduceSub, reduceCtorEq, List.map_cons, List.map_nil, Option.map_some, Option.map_none]
    refine .seq (.label ?_)
    exact step _ _ ⟨rfl, 0, 0, rfl, rfl, rfl, rfl, by decide, by decide, by omega⟩
end Go.Proofs.Ytcnjnmgnhkjgfaa.Pk
