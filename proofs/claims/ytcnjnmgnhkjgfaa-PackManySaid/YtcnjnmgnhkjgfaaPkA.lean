/-
  What functions of the program do, told of abstract states. Conditions: as each theorem says.
-/
import Derived.Test.YtcnjnmgnhkjgfaaSim
import Derived.Test.YtcnjnmgnhkjgfaaProg
namespace Go.Proofs.Ytcnjnmgnhkjgfaa.Pk
open Go Go.Proofs Go.Proofs.Ytcnjnmgnhkjgfaa.Sim
set_option linter.unusedVariables false
set_option linter.unusedSimpArgs false

theorem sz5 : sizeT Try.prog 5 = some 1 := by kernel_rfl
theorem bs5 : bytesT Try.prog 5 = some 1 := by kernel_rfl
theorem z5 : zeroT Try.prog 5 = some (.int .u8 0) := by kernel_rfl
theorem cal31 : callable Try.prog 31 = true := by kernel_rfl
theorem cal32 : callable Try.prog 32 = true := by kernel_rfl
theorem e22 : elemT Try.prog 22 = some 5 := by kernel_rfl

def bytesV (l : List Nat) : List Value := l.map fun (n : Nat) => Value.int .u8 (n : Int)
theorem bytesV_one (l : List Nat) : (bytesV l).all (·.oneCell') = true := by simp [bytesV, Value.oneCell']
theorem bytesV_append (a b : List Nat) : bytesV (a ++ b) = bytesV a ++ bytesV b := by simp [bytesV]
theorem bytesV_length (a : List Nat) : (bytesV a).length = a.length := by simp [bytesV]

def enc (n : Nat) : List Nat := if n < 128 then [n] else (n % 128 + 128) :: enc (n / 128)
termination_by n
theorem enc_small {n : Nat} (h : n < 128) : enc n = [n] := by rw [enc, if_pos h]
theorem enc_big {n : Nat} (h : ¬ n < 128) : enc n = (n % 128 + 128) :: enc (n / 128) := by rw [enc, if_neg h]
theorem enc_len (k : Nat) : ∀ n, n < 128 ^ (k + 1) → 1 ≤ (enc n).length ∧ (enc n).length ≤ k + 1 := by
  induction k with
  | zero => intro n h; rw [enc_small (by simpa using h)]; simp
  | succ k ih =>
    intro n h
    by_cases hn : n < 128
    · rw [enc_small hn]; simp
    · rw [enc_big hn]
      have := ih (n / 128) (by rw [Nat.pow_succ] at h; exact Nat.div_lt_of_lt_mul (by rw [Nat.mul_comm]; exact h))
      simp; omega
theorem enc_le (n : Nat) (h : n < 2 ^ 64) : 1 ≤ (enc n).length ∧ (enc n).length ≤ 10 := by
  have : (2:Nat) ^ 64 < 128 ^ 10 := by decide
  exact enc_len 9 n (by omega)

theorem or128 (n : Nat) : bOr .u8 (IntKind.u8.wrap (n : Int)) 128 = ((n % 128 + 128 : Nat) : Int) := by
  rw [IntKind.wrap_u8]
  unfold bOr
  rw [IntKind.wrap_u8]
  have e1 : BitVec.ofInt IntKind.u8.bits ((n : Int) % 256) = BitVec.ofNat 8 (n % 256) := by
    apply BitVec.eq_of_toNat_eq
    simp [IntKind.bits]
    omega
  rw [e1]
  have h : ∀ m : Fin 256, ((BitVec.ofNat 8 m.val ||| BitVec.ofInt 8 128).toNat : Int) % 256 = ((m.val % 128 + 128 : Nat) : Int) := by decide +kernel
  have := h ⟨n % 256, Nat.mod_lt _ (by decide)⟩
  have e2 : ((n % 256 % 128 + 128 : Nat) : Int) = ((n % 128 + 128 : Nat) : Int) := by omega
  exact this.trans e2
theorem shr7 (n : Nat) : (n : Int).fdiv (2 ^ (min (Int.toNat 7) IntKind.u64.bits)) = ((n / 128 : Nat) : Int) := by
  have : (2 ^ (min (Int.toNat 7) IntKind.u64.bits) : Int) = 128 := by decide
  rw [this, Int.fdiv_eq_ediv_of_nonneg _ (by omega)]
  rfl
theorem wrapu8 (n : Nat) (h : n < 128) : IntKind.u8.wrap (n : Int) = (n : Int) := by rw [IntKind.wrap_u8]; omega

theorem addUint (s : Value) (cs : List Nat) (n : Nat) (h : AHeap) (ho : Own h 5 1 s (bytesV cs)) (hc : cs.length ≤ 2 ^ 40) (hn : n < 2 ^ 64) :
    SCalls Try.prog 31 [s, .int .u64 n] h (fun r h' => Own h' 5 1 r (bytesV (cs ++ enc n)) ∧ Keep h h' (idOf s) ∧ NewOr h (idOf s) (idOf r)) := by
  refine SCalls.enterI (c := _) Try.func31 rfl (by kernel_rfl) (by simp) ?_
  simp only [wpA_skip, wpA_region, wpA_seq, wpA_cond, wpA_block, wpA_exit, wpA_goto, wpA_label, wpA_ret, wpA_loop, wpA_scope, wpA_draw, condI_true, condI_false, pt_mk, seqQ_normal, seqQ_exit, seqQ_goto, seqQ_ret, blkQ_normal, blkQ_exit, blkQ_goto, blkQ_ret, endI_mk, goE, andThen_normal, andThen_exit, andThen_goto, andThen_ret, goI_out, goI_ops, goI_mk, opsA_nil, opsA_cons, opsA_guardS, guardS_some, guardI_same, guardI_tf, guardI_ft, boolOf_bool, slotAt_zero, slotAt_succ, stepA_move, stepA_assign, stepA_pick, stepA_alloc, stepA_box, stepA_build, stepA_buildSlice, stepA_load, stepA_store, stepA_nilCheck, stepA_binOp, stepA_unOp, stepA_convert, stepA_makeSlice, stepA_slice, stepA_fieldAddr, stepA_field, stepA_indexAddr, stepA_index, stepA_extract, stepA_len, stepA_append, stepA_copy, stepA_call, thenV_some, thenH_some, thenS_some, thenV_none, thenH_none, pickV_true, pickV_false, nilV_some, extV_tuple, eval_tmp, eval_const, eval_func, put_some, put_none, enterF_zero, enterF_succ, aBin_add, aBin_sub, aBin_mul, aBin_eql, aBin_neq, aBin_lss, aBin_leq, aBin_gtr, aBin_geq, aBin_and, aBin_or, aBin_xor, aBin_andNot, aUn_not, aUn_neg, aBin_str_eql, aBin_str_neq, Option.some.injEq, Bool.false_eq_true, cells_int, cells_bool, cells_string, cells_pointer, cells_slice, cells_agg, decide_true, decide_false, reduceIte, Nat.reduceEqDiff, Nat.reduceAdd, Nat.reduceLT, Nat.reduceLeDiff, Nat.reduceMul, Nat.reduceSub, reduceCtorEq, List.map_cons, List.map_nil, Option.map_some, Option.map_none]
  refine SWp.loop (fun f h' => ∃ s' cs' n', f 0 = s' ∧ f 1 = .int .u64 (n' : Nat) ∧ Own h' 5 1 s' (bytesV cs') ∧ Keep h h' (idOf s) ∧ NewOr h (idOf s) (idOf s') ∧ cs' ++ enc n' = cs ++ enc n ∧ n' < 2 ^ 64) (fun f _ => match f 1 with | .int _ m => m.toNat | _ => 0) ?_ ?_
  · exact ⟨s, cs, n, rfl, rfl, ho, Keep.refl _ _, .inl rfl, rfl, hn⟩
  · rintro f h1 ⟨s', cs', n', hf0, hf1, ho', hk, hid, hcs, hn'⟩
    refine wpI_sound (by kernel_rfl) ?_
    have hlen : cs'.length + 1 ≤ cs.length + 10 := by
      have h1 := congrArg List.length hcs
      have h2 := enc_le n hn
      have h3 := enc_le n' hn'
      simp at h1
      omega
    by_cases hlt : (128 : Int) ≤ (n' : Int)
    · obtain ⟨v, h2, ha, ho2, hk2, hid2⟩ := append_one e22 Try.underlying22 z5 sz5 bs5 rfl ho' (x := .int .u8 ((n' % 128 + 128 : Nat) : Int)) rfl (by simp [lim, bytesV_length]; omega) (by simp [lim, bytesV_length]; omega)
      simp only [wpA_skip, wpA_region, wpA_seq, wpA_cond, wpA_block, wpA_exit, wpA_goto, wpA_label, wpA_ret, wpA_loop, wpA_scope, wpA_draw, condI_true, condI_false, pt_mk, seqQ_normal, seqQ_exit, seqQ_goto, seqQ_ret, blkQ_normal, blkQ_exit, blkQ_goto, blkQ_ret, endI_mk, goE, andThen_normal, andThen_exit, andThen_goto, andThen_ret, goI_out, goI_ops, goI_mk, opsA_nil, opsA_cons, opsA_guardS, guardS_some, guardI_same, guardI_tf, guardI_ft, boolOf_bool, slotAt_zero, slotAt_succ, stepA_move, stepA_assign, stepA_pick, stepA_alloc, stepA_box, stepA_build, stepA_buildSlice, stepA_load, stepA_store, stepA_nilCheck, stepA_binOp, stepA_unOp, stepA_convert, stepA_makeSlice, stepA_slice, stepA_fieldAddr, stepA_field, stepA_indexAddr, stepA_index, stepA_extract, stepA_len, stepA_append, stepA_copy, stepA_call, thenV_some, thenH_some, thenS_some, thenV_none, thenH_none, pickV_true, pickV_false, nilV_some, extV_tuple, eval_tmp, eval_const, eval_func, put_some, put_none, enterF_zero, enterF_succ, aBin_add, aBin_sub, aBin_mul, aBin_eql, aBin_neq, aBin_lss, aBin_leq, aBin_gtr, aBin_geq, aBin_and, aBin_or, aBin_xor, aBin_andNot, aUn_not, aUn_neg, aBin_str_eql, aBin_str_neq, Option.some.injEq, Bool.false_eq_true, cells_int, cells_bool, cells_string, cells_pointer, cells_slice, cells_agg, decide_true, decide_false, reduceIte, Nat.reduceEqDiff, Nat.reduceAdd, Nat.reduceLT, Nat.reduceLeDiff, Nat.reduceMul, Nat.reduceSub, reduceCtorEq, List.map_cons, List.map_nil, Option.map_some, Option.map_none, hf0, hf1, hlt, aConv_int Try.underlying23 Try.underlying5, or128, slice1_int e22 sz5 z5 rfl rfl, ha, aBin_shr (show (0 : Int) ≤ 7 by decide), shr7]
      refine ⟨⟨v, cs' ++ [n' % 128 + 128], n' / 128, rfl, rfl, by simpa [bytesV] using ho2, hk.trans hk2 hid, hid.trans hk hid2, ?_, by omega⟩, by simp; omega⟩
      rw [← hcs, enc_big (n := n') (by omega)]
      simp
    · obtain ⟨v, h2, ha, ho2, hk2, hid2⟩ := append_one e22 Try.underlying22 z5 sz5 bs5 rfl ho' (x := .int .u8 (n' : Int)) rfl (by simp [lim, bytesV_length]; omega) (by simp [lim, bytesV_length]; omega)
      have hlt' : n' < 128 := by omega
      simp only [wpA_skip, wpA_region, wpA_seq, wpA_cond, wpA_block, wpA_exit, wpA_goto, wpA_label, wpA_ret, wpA_loop, wpA_scope, wpA_draw, condI_true, condI_false, pt_mk, seqQ_normal, seqQ_exit, seqQ_goto, seqQ_ret, blkQ_normal, blkQ_exit, blkQ_goto, blkQ_ret, endI_mk, goE, andThen_normal, andThen_exit, andThen_goto, andThen_ret, goI_out, goI_ops, goI_mk, opsA_nil, opsA_cons, opsA_guardS, guardS_some, guardI_same, guardI_tf, guardI_ft, boolOf_bool, slotAt_zero, slotAt_succ, stepA_move, stepA_assign, stepA_pick, stepA_alloc, stepA_box, stepA_build, stepA_buildSlice, stepA_load, stepA_store, stepA_nilCheck, stepA_binOp, stepA_unOp, stepA_convert, stepA_makeSlice, stepA_slice, stepA_fieldAddr, stepA_field, stepA_indexAddr, stepA_index, stepA_extract, stepA_len, stepA_append, stepA_copy, stepA_call, thenV_some, thenH_some, thenS_some, thenV_none, thenH_none, pickV_true, pickV_false, nilV_some, extV_tuple, eval_tmp, eval_const, eval_func, put_some, put_none, enterF_zero, enterF_succ, aBin_add, aBin_sub, aBin_mul, aBin_eql, aBin_neq, aBin_lss, aBin_leq, aBin_gtr, aBin_geq, aBin_and, aBin_or, aBin_xor, aBin_andNot, aUn_not, aUn_neg, aBin_str_eql, aBin_str_neq, Option.some.injEq, Bool.false_eq_true, cells_int, cells_bool, cells_string, cells_pointer, cells_slice, cells_agg, decide_true, decide_false, reduceIte, Nat.reduceEqDiff, Nat.reduceAdd, Nat.reduceLT, Nat.reduceLeDiff, Nat.reduceMul, Nat.reduceSub, reduceCtorEq, List.map_cons, List.map_nil, Option.map_some, Option.map_none, hf0, hf1, hlt, aConv_int Try.underlying23 Try.underlying5, wrapu8 n' hlt', slice1_int e22 sz5 z5 rfl rfl, ha, retA_ret, Try.results31, resultsA_1]
      refine ⟨?_, hk.trans hk2 hid, hid.trans hk hid2⟩
      rw [← hcs, enc_small hlt']
      simpa [bytesV] using ho2

theorem fresh (s : Value) (cs : List Nat) (m : Nat) (h : AHeap) (ho : Sl h 1 s (bytesV cs)) (hc : cs.length ≤ 2 ^ 40) (hm : m ≤ 2 ^ 42) :
    SCalls Try.prog 32 [s, .int .i64 m] h (fun r h' => r = .slice (some ⟨h.n, 0, none⟩) cs.length (cs.length + m) ∧ Own h' 5 1 r (bytesV cs) ∧ Keep h h' none) := by
  refine SCalls.enterI (c := _) Try.func32 rfl (by kernel_rfl) (by simp) ?_
  have hl := ho.aLen Try.underlying22
  have hll := ho.len
  rw [bytesV_length] at hll
  rw [hll] at hl
  have hw : IntKind.i64.wrap ((cs.length : Int) + (m : Int)) = ((cs.length + m : Nat) : Int) := by rw [IntKind.wrap_i64]; omega
  have hmk := make1 (t := 22) e22 z5 sz5 bs5 rfl rfl (h := h) (k := .i64) (k' := .i64) (l := (cs.length : Int)) (c := ((cs.length + m : Nat) : Int)) (by omega) (by omega) (by simp; omega) (by simp; omega)
  simp only [Int.toNat_natCast] at hmk
  obtain ⟨h', hcp, hn', hg', hne'⟩ := copy_own (P := Try.prog) (t := 22) e22 sz5 (h := h.push (.cells (List.replicate (cs.length + m) (.int .u8 0)) 5 none true)) (i := h.n) (cap := cs.length + m) (cs := bytesV cs) (src := s)
    get_push_new (by rw [push_n]; omega) (ho.keep (Keep.push h _ none) (by cases hh : idOf s <;> simp)) (bytesV_one cs) (by simp [bytesV_length])
  rw [bytesV_length] at hcp
  simp only [wpA_skip, wpA_region, wpA_seq, wpA_cond, wpA_block, wpA_exit, wpA_goto, wpA_label, wpA_ret, wpA_loop, wpA_scope, wpA_draw, condI_true, condI_false, pt_mk, seqQ_normal, seqQ_exit, seqQ_goto, seqQ_ret, blkQ_normal, blkQ_exit, blkQ_goto, blkQ_ret, endI_mk, goE, andThen_normal, andThen_exit, andThen_goto, andThen_ret, goI_out, goI_ops, goI_mk, opsA_nil, opsA_cons, opsA_guardS, guardS_some, guardI_same, guardI_tf, guardI_ft, boolOf_bool, slotAt_zero, slotAt_succ, stepA_move, stepA_assign, stepA_pick, stepA_alloc, stepA_box, stepA_build, stepA_buildSlice, stepA_load, stepA_store, stepA_nilCheck, stepA_binOp, stepA_unOp, stepA_convert, stepA_makeSlice, stepA_slice, stepA_fieldAddr, stepA_field, stepA_indexAddr, stepA_index, stepA_extract, stepA_len, stepA_append, stepA_copy, stepA_call, thenV_some, thenH_some, thenS_some, thenV_none, thenH_none, pickV_true, pickV_false, nilV_some, extV_tuple, eval_tmp, eval_const, eval_func, put_some, put_none, enterF_zero, enterF_succ, aBin_add, aBin_sub, aBin_mul, aBin_eql, aBin_neq, aBin_lss, aBin_leq, aBin_gtr, aBin_geq, aBin_and, aBin_or, aBin_xor, aBin_andNot, aUn_not, aUn_neg, aBin_str_eql, aBin_str_neq, Option.some.injEq, Bool.false_eq_true, cells_int, cells_bool, cells_string, cells_pointer, cells_slice, cells_agg, decide_true, decide_false, reduceIte, Nat.reduceEqDiff, Nat.reduceAdd, Nat.reduceLT, Nat.reduceLeDiff, Nat.reduceMul, Nat.reduceSub, reduceCtorEq, List.map_cons, List.map_nil, Option.map_some, Option.map_none, hl, hw, hmk, hcp, retA_ret, Try.results32, resultsA_1]
  have hlr := lay_replicate (bytesV cs) (cs.length + m) (.int .u8 0) (by simp [bytesV_length])
  refine ⟨trivial, .inr ⟨h.n, cs.length, cs.length + m, _, none, rfl, by rw [hn', push_n]; omega, hg', by simp [bytesV_length], by rw [Nat.mul_one]; have := hlr.1; rwa [bytesV_length] at this, .inl ⟨by unfold unk; omega, rfl, by rw [hlr.2, Nat.mul_one], by omega⟩⟩, ⟨by rw [hn', push_n]; omega, fun j hj _ => ?_⟩⟩
  rw [hne' j (by omega), get_push, if_neg (by omega)]

theorem Uint (s : Value) (cs : List Nat) (n : Nat) (h : AHeap) (ho : Sl h 1 s (bytesV cs)) (hc : cs.length ≤ 2 ^ 40) (hn : n < 2 ^ 64) :
    SCalls Try.prog 12 [s, .int .u64 n] h (fun r h' => Own h' 5 1 r (bytesV (cs ++ enc n)) ∧ Keep h h' none ∧ ∀ k, idOf r = some k → h.n ≤ k) := by
  refine SCalls.enterI (c := _) Try.func12 rfl (by kernel_rfl) (by simp) ?_
  simp only [wpA_skip, wpA_region, wpA_seq, wpA_cond, wpA_block, wpA_exit, wpA_goto, wpA_label, wpA_ret, wpA_loop, wpA_scope, wpA_draw, condI_true, condI_false, pt_mk, seqQ_normal, seqQ_exit, seqQ_goto, seqQ_ret, blkQ_normal, blkQ_exit, blkQ_goto, blkQ_ret, endI_mk, goE, andThen_normal, andThen_exit, andThen_goto, andThen_ret, goI_out, goI_ops, goI_mk, opsA_nil, opsA_cons, opsA_guardS, guardS_some, guardI_same, guardI_tf, guardI_ft, boolOf_bool, slotAt_zero, slotAt_succ, stepA_move, stepA_assign, stepA_pick, stepA_alloc, stepA_box, stepA_build, stepA_buildSlice, stepA_load, stepA_store, stepA_nilCheck, stepA_binOp, stepA_unOp, stepA_convert, stepA_makeSlice, stepA_slice, stepA_fieldAddr, stepA_field, stepA_indexAddr, stepA_index, stepA_extract, stepA_len, stepA_append, stepA_copy, stepA_call, thenV_some, thenH_some, thenS_some, thenV_none, thenH_none, pickV_true, pickV_false, nilV_some, extV_tuple, eval_tmp, eval_const, eval_func, put_some, put_none, enterF_zero, enterF_succ, aBin_add, aBin_sub, aBin_mul, aBin_eql, aBin_neq, aBin_lss, aBin_leq, aBin_gtr, aBin_geq, aBin_and, aBin_or, aBin_xor, aBin_andNot, aUn_not, aUn_neg, aBin_str_eql, aBin_str_neq, Option.some.injEq, Bool.false_eq_true, cells_int, cells_bool, cells_string, cells_pointer, cells_slice, cells_agg, decide_true, decide_false, reduceIte, Nat.reduceEqDiff, Nat.reduceAdd, Nat.reduceLT, Nat.reduceLeDiff, Nat.reduceMul, Nat.reduceSub, reduceCtorEq, List.map_cons, List.map_nil, Option.map_some, Option.map_none]
  refine callI_of cal32 (fresh s cs 10 h ho hc (by decide)) fun r1 h1 ⟨e1, o1, k1⟩ => ?_
  have d1 : ∀ k, idOf r1 = some k → h.n ≤ k := fun k hk => by subst e1; simp [idOf] at hk; omega
  simp only [wpA_skip, wpA_region, wpA_seq, wpA_cond, wpA_block, wpA_exit, wpA_goto, wpA_label, wpA_ret, wpA_loop, wpA_scope, wpA_draw, condI_true, condI_false, pt_mk, seqQ_normal, seqQ_exit, seqQ_goto, seqQ_ret, blkQ_normal, blkQ_exit, blkQ_goto, blkQ_ret, endI_mk, goE, andThen_normal, andThen_exit, andThen_goto, andThen_ret, goI_out, goI_ops, goI_mk, opsA_nil, opsA_cons, opsA_guardS, guardS_some, guardI_same, guardI_tf, guardI_ft, boolOf_bool, slotAt_zero, slotAt_succ, stepA_move, stepA_assign, stepA_pick, stepA_alloc, stepA_box, stepA_build, stepA_buildSlice, stepA_load, stepA_store, stepA_nilCheck, stepA_binOp, stepA_unOp, stepA_convert, stepA_makeSlice, stepA_slice, stepA_fieldAddr, stepA_field, stepA_indexAddr, stepA_index, stepA_extract, stepA_len, stepA_append, stepA_copy, stepA_call, thenV_some, thenH_some, thenS_some, thenV_none, thenH_none, pickV_true, pickV_false, nilV_some, extV_tuple, eval_tmp, eval_const, eval_func, put_some, put_none, enterF_zero, enterF_succ, aBin_add, aBin_sub, aBin_mul, aBin_eql, aBin_neq, aBin_lss, aBin_leq, aBin_gtr, aBin_geq, aBin_and, aBin_or, aBin_xor, aBin_andNot, aUn_not, aUn_neg, aBin_str_eql, aBin_str_neq, Option.some.injEq, Bool.false_eq_true, cells_int, cells_bool, cells_string, cells_pointer, cells_slice, cells_agg, decide_true, decide_false, reduceIte, Nat.reduceEqDiff, Nat.reduceAdd, Nat.reduceLT, Nat.reduceLeDiff, Nat.reduceMul, Nat.reduceSub, reduceCtorEq, List.map_cons, List.map_nil, Option.map_some, Option.map_none]
  refine callI_of cal31 (addUint r1 cs n h1 o1 hc hn) fun r2 h2 ⟨o2, k2, d2⟩ => ?_
  simp only [wpA_skip, wpA_region, wpA_seq, wpA_cond, wpA_block, wpA_exit, wpA_goto, wpA_label, wpA_ret, wpA_loop, wpA_scope, wpA_draw, condI_true, condI_false, pt_mk, seqQ_normal, seqQ_exit, seqQ_goto, seqQ_ret, blkQ_normal, blkQ_exit, blkQ_goto, blkQ_ret, endI_mk, goE, andThen_normal, andThen_exit, andThen_goto, andThen_ret, goI_out, goI_ops, goI_mk, opsA_nil, opsA_cons, opsA_guardS, guardS_some, guardI_same, guardI_tf, guardI_ft, boolOf_bool, slotAt_zero, slotAt_succ, stepA_move, stepA_assign, stepA_pick, stepA_alloc, stepA_box, stepA_build, stepA_buildSlice, stepA_load, stepA_store, stepA_nilCheck, stepA_binOp, stepA_unOp, stepA_convert, stepA_makeSlice, stepA_slice, stepA_fieldAddr, stepA_field, stepA_indexAddr, stepA_index, stepA_extract, stepA_len, stepA_append, stepA_copy, stepA_call, thenV_some, thenH_some, thenS_some, thenV_none, thenH_none, pickV_true, pickV_false, nilV_some, extV_tuple, eval_tmp, eval_const, eval_func, put_some, put_none, enterF_zero, enterF_succ, aBin_add, aBin_sub, aBin_mul, aBin_eql, aBin_neq, aBin_lss, aBin_leq, aBin_gtr, aBin_geq, aBin_and, aBin_or, aBin_xor, aBin_andNot, aUn_not, aUn_neg, aBin_str_eql, aBin_str_neq, Option.some.injEq, Bool.false_eq_true, cells_int, cells_bool, cells_string, cells_pointer, cells_slice, cells_agg, decide_true, decide_false, reduceIte, Nat.reduceEqDiff, Nat.reduceAdd, Nat.reduceLT, Nat.reduceLeDiff, Nat.reduceMul, Nat.reduceSub, reduceCtorEq, List.map_cons, List.map_nil, Option.map_some, Option.map_none, retA_ret, Try.results12, resultsA_1]
  refine ⟨o2, k1.trans k2 (.inr d1), fun k hk => ?_⟩
  rcases d2 with d2 | d2
  · exact d1 k (d2 ▸ hk)
  · exact Nat.le_trans k1.n (d2 k hk)
end Go.Proofs.Ytcnjnmgnhkjgfaa.Pk
