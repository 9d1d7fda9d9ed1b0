/-
  What functions of the program do, told of abstract states. Conditions: as each theorem says.
-/
import Derived.Test.YtkoelbeidffimaaAbC
import Derived.Test.YtkoelbeidffimaaTyP
namespace Go.Proofs.Ytkoelbeidffimaa.Pk
open Go Go.Proofs Go.Proofs.Ytkoelbeidffimaa.Ab
set_option linter.unusedVariables false
set_option linter.unusedSimpArgs false

def bytesV (l : List Nat) : List V := l.map fun (n : Nat) => V.int .u8 (n : Int)
theorem bytesV_one (l : List Nat) : (bytesV l).all (·.one) = true := by
  rw [List.all_eq_true]; intro x hx
  obtain ⟨n, _, rfl⟩ := List.mem_map.1 hx
  rfl
theorem bytesV_append (a b : List Nat) : bytesV (a ++ b) = bytesV a ++ bytesV b := by simp [bytesV]
theorem bytesV_length (a : List Nat) : (bytesV a).length = a.length := by simp [bytesV]
theorem bytesV_clo (a : List Nat) : CloL (bytesV a) := CloL.map fun _ _ => Clo.int _ _

def enc (n : Nat) : List Nat := if n < 128 then [n] else (n % 128 + 128) :: enc (n / 128)
termination_by n
theorem enc_small {n : Nat} (h : n < 128) : enc n = [n] := by rw [enc, if_pos h]
theorem enc_big {n : Nat} (h : ¬ n < 128) : enc n = (n % 128 + 128) :: enc (n / 128) := by rw [enc, if_neg h]
theorem enc_len (k : Nat) : ∀ n, n < 128 ^ (k + 1) → 1 ≤ (enc n).length ∧ (enc n).length ≤ k + 1 := by
  induction k with
  | zero => intro n h; rw [enc_small (by simpa using h)]; simp
  | succ k ih =>
    intro n h
    by_cases hn : n < 128
    · rw [enc_small hn]; simp
    · rw [enc_big hn]
      have := ih (n / 128) (by rw [Nat.pow_succ] at h; exact Nat.div_lt_of_lt_mul (by rw [Nat.mul_comm]; exact h))
      simp; omega
theorem enc_le (n : Nat) (h : n < 2 ^ 64) : 1 ≤ (enc n).length ∧ (enc n).length ≤ 10 := by
  have : (2:Nat) ^ 64 < 128 ^ 10 := by decide
  exact enc_len 9 n (by omega)

theorem or128 (n : Nat) : bOr .u8 (IntKind.u8.wrap (n : Int)) 128 = ((n % 128 + 128 : Nat) : Int) := by
  rw [IntKind.wrap_u8]
  unfold bOr
  rw [IntKind.wrap_u8]
  have e1 : BitVec.ofInt IntKind.u8.bits ((n : Int) % 256) = BitVec.ofNat 8 (n % 256) := by
    apply BitVec.eq_of_toNat_eq
    simp [IntKind.bits]
    omega
  rw [e1]
  have h : ∀ m : Fin 256, ((BitVec.ofNat 8 m.val ||| BitVec.ofInt 8 128).toNat : Int) % 256 = ((m.val % 128 + 128 : Nat) : Int) := by decide +kernel
  have := h ⟨n % 256, Nat.mod_lt _ (by decide)⟩
  have e2 : ((n % 256 % 128 + 128 : Nat) : Int) = ((n % 128 + 128 : Nat) : Int) := by omega
  exact this.trans e2
theorem shr7 (n : Nat) : (n : Int).fdiv (2 ^ (min (Int.toNat 7) IntKind.u64.bits)) = ((n / 128 : Nat) : Int) := by
  have : (2 ^ (min (Int.toNat 7) IntKind.u64.bits) : Int) = 128 := by decide
  rw [this, Int.fdiv_eq_ediv_of_nonneg _ (by omega)]
  rfl
theorem wrapu8 (n : Nat) (h : n < 128) : IntKind.u8.wrap (n : Int) = (n : Int) := by rw [IntKind.wrap_u8]; omega


theorem lit1b (h : AHeap) (a : Int) : aBuildSlice Try.prog 22 1 [(0, .int .u8 a)] h = some (.sl h.n 0 1 1, h.push (.cells [.int .u8 a] 5 none)) := by rw [buildSlice_go sl_22]; rfl

set_option maxRecDepth 10000 in
theorem addUint (s : V) (cs : List Nat) (n : Nat) (h : AHeap) (ho : Own h 5 1 s (bytesV cs)) (hc : cs.length ≤ 2 ^ 46) (hn : n < 2 ^ 64) :
    SCalls Try.prog 47 [s, .int .u64 n] h (fun r h' => Own h' 5 1 r (bytesV (cs ++ enc n)) ∧ Keep h h' (isId s) ∧ NewOr h s r) := by
  refine SCalls.enterI (c := _) Try.func47 rfl (by kernel_rfl) (by simp) ?_
  simp only [wpA_skip, wpA_region, wpA_seq, wpA_cond, wpA_block, wpA_exit, wpA_goto, wpA_label, wpA_ret, wpA_loop, wpA_scope, wpA_draw, condI_true, condI_false, pt_mk, seqQ_normal, seqQ_exit, seqQ_goto, seqQ_ret, seqQ_panic, blkQ_normal, blkQ_exit, blkQ_goto, blkQ_ret, blkQ_panic, endI_mk, goE, excE_out, excE_ops, andThen_normal, andThen_exit, andThen_goto, andThen_ret, andThen_panic, goI_out, goI_ops, goI_mk, opsA_nil, opsA_cons, opsA_guardS, gvI_same, gvI_tf, gvI_ft, gvI_u, slotAt_zero, slotAt_succ, stepA_move, stepA_assign, stepA_pick, stepA_alloc, stepA_box, stepA_build, stepA_buildSlice, stepA_load, stepA_store, stepA_nilCheck, stepA_binOp, stepA_unOp, stepA_convert, stepA_makeMap, stepA_makeSlice, stepA_slice, stepA_fieldAddr, stepA_field, stepA_indexAddr, stepA_index, stepA_lookup, stepA_mapUpdate, stepA_insert, stepA_range, stepA_next, stepA_entry, stepA_typeAssert, stepA_extract, stepA_makeInterface, stepA_makeFunc, stepA_panic, stepA_bpanic, stepA_len, stepA_append, stepA_copy, stepA_delete, stepA_clear, stepA_min, stepA_max, stepA_call, stepA_callv, callvI_func, panI_iface, ifcV_false, thenV_some, thenH_some, thenS_some, thenV_none, thenH_none, thenS_none, pickV_true, pickV_false, nilV_ptr, nilV_at, nilV_func, extV_zero, extV_succ, eval_tmp, eval_const, eval_func, put_some, put_none, enterF_zero, enterF_succ, aBin_add, aBin_sub, aBin_mul, aBin_eql, aBin_neq, aBin_lss, aBin_leq, aBin_gtr, aBin_geq, aBin_and, aBin_or, aBin_xor, aBin_andNot, aUn_not, aUn_neg, aBin_bool_eql, aBin_bool_neq, aBin_str_eql, aBin_str_neq, aConv_int, mmV_min, mmV_max, ptr_nil_eql, ptr_nil_neq, at_nil_eql, at_nil_neq, nil_nil_eql, nil_nil_neq, absV_int, absV_bool, absV_str, absV_pnil, absV_snil, absV_mnil, absV_nilFunc, absV_nilIface, absV_agg, absV_tuple, absF_int, absF_bool, absF_str, absF_pnil, absF_snil, absF_mnil, absF_nilFunc, absF_nilIface, cells_int, cells_bool, cells_string, cells_pnil, cells_snil, cells_mnil, cells_z0, cells_nilFunc, cells_nilIface, cells_ptr, cells_sl, cells_imm, cells_atp, cells_map, cells_func, cells_iface, cells_agg, one_int, one_bool, one_string, one_pnil, one_snil, one_mnil, one_z0, one_nilFunc, one_nilIface, one_ptr, one_sl, one_imm, one_at, one_map, one_func, one_iface, all_nil, all_cons, aField_eq, fieldGo_ptr, fieldGo_at, aLoad_eq, loadGo_one, loadGo_row, aPlace_ptr, aPlace_at, dropC_cells, aStore_eq, storeGo_ptr, setC_one, setC_row, setAll_nil, setAll_cons, aAlloc_eq, aBox_eq, aIndexAddr_eq, ixGo_sl, ixGo_imm, ixGo_ptr, ixGo_at, aLen_sl, aLen_imm, aLen_snil, aLen_z0, aLen_mnil, aLen_str, makeMap_nil, aBuild_go, aFill_nil, aFill_cons, fillGo_some, aFieldOf_eq, partGo_row, partGo_one, buildGo_struct, buildGo_array, push_n, set_n, push_glob, set_glob, get_push_new, get_set_same, set_set, set_push, Int.reduceBEq, Int.reduceBNe, bne_self_eq_false, beq_self_eq_true, Int.reduceLT, Int.reduceLE, Int.reduceNeg, Option.some.injEq, Bool.false_eq_true, decide_true, decide_false, reduceIte, Nat.reduceEqDiff, Nat.reduceAdd, Nat.reduceLT, Nat.reduceLeDiff, Nat.reduceMul, Nat.reduceSub, reduceCtorEq, List.map_cons, List.map_nil, Option.map_some, Option.map_none, Nat.add_zero, Nat.zero_add, Nat.zero_le, List.length_cons, List.length_nil, List.drop_zero, List.drop_succ_cons, List.drop_nil, List.take_succ_cons, List.take_zero, List.take_nil, List.set_cons_zero, List.set_cons_succ, List.nil_append, List.append_nil, List.cons_append, and_true, true_and, and_self, if_true, if_false, Bool.and_true, Bool.true_and, Bool.and_self, Bool.not_true, Bool.not_false, Nat.zero_lt_succ, Nat.lt_irrefl, Nat.le_refl, it_23, it_5, kt_22, sl_22]
  refine SWp.loopG (α := V × List Nat × Nat) (fun x f h' => f 0 = x.1 ∧ f 1 = .int .u64 (x.2.2 : Nat) ∧ Own h' 5 1 x.1 (bytesV x.2.1) ∧ Keep h h' (isId s) ∧ NewOr h s x.1 ∧ x.2.1 ++ enc x.2.2 = cs ++ enc n ∧ x.2.2 < 2 ^ 64) (fun x => x.2.2) (s, cs, n)
    ⟨rfl, rfl, ho, Keep.refl _ _, .inl rfl, rfl, hn⟩ ?_
  rintro ⟨s', cs', n'⟩ f h1 ⟨f0, f1, ho', hk, hid, hcs, hn'⟩
  simp only at f0 f1 ho' hid hcs hn'
  refine wpI_sound (by kernel_rfl) ?_
  have hlen : cs'.length + 1 ≤ cs.length + 10 := by
    have h1 := congrArg List.length hcs
    have h2 := enc_le n hn
    have h3 := enc_le n' hn'
    simp at h1
    omega
  have next : ∀ (v : V) (h2 : AHeap), Keep h1 h2 (isId s') → NewOr h1 s' v → Keep h h2 (isId s) ∧ NewOr h s v := fun v h2 k2 d2 => by
    refine ⟨hk.trans k2 fun k hk1 hk2 => ?_, ?_⟩
    · rcases hid with hid | hid
      · unfold isId at hk2 ⊢; rw [← hid]; exact hk2
      · have := hid k hk2; omega
    · rcases d2 with d2 | d2
      · rcases hid with hid | hid
        · exact .inl (d2.trans hid)
        · exact .inr fun k hk1 => hid k (by rw [← d2]; exact hk1)
      · exact .inr fun k hk1 => Nat.le_trans hk.n (d2 k hk1)
  by_cases hlt : 128 ≤ n'
  · have c1 : decide ((128 : Int) ≤ (n' : Int)) = true := by simp; omega
    obtain ⟨v, h2, q1, q2, q3, q4⟩ := append_elem (P := Try.prog) sl_22 (by decide) ho' (xs := [.int .u8 ((n' % 128 + 128 : Nat) : Int)]) rfl rfl (by simp [bytesV_length, lim]; omega) (by simp [bytesV_length, lim]; omega)
    obtain ⟨k2, d2⟩ := next v h2 q3 q4
    simp only [wpA_skip, wpA_region, wpA_seq, wpA_cond, wpA_block, wpA_exit, wpA_goto, wpA_label, wpA_ret, wpA_loop, wpA_scope, wpA_draw, condI_true, condI_false, pt_mk, seqQ_normal, seqQ_exit, seqQ_goto, seqQ_ret, seqQ_panic, blkQ_normal, blkQ_exit, blkQ_goto, blkQ_ret, blkQ_panic, endI_mk, goE, excE_out, excE_ops, andThen_normal, andThen_exit, andThen_goto, andThen_ret, andThen_panic, goI_out, goI_ops, goI_mk, opsA_nil, opsA_cons, opsA_guardS, gvI_same, gvI_tf, gvI_ft, gvI_u, slotAt_zero, slotAt_succ, stepA_move, stepA_assign, stepA_pick, stepA_alloc, stepA_box, stepA_build, stepA_buildSlice, stepA_load, stepA_store, stepA_nilCheck, stepA_binOp, stepA_unOp, stepA_convert, stepA_makeMap, stepA_makeSlice, stepA_slice, stepA_fieldAddr, stepA_field, stepA_indexAddr, stepA_index, stepA_lookup, stepA_mapUpdate, stepA_insert, stepA_range, stepA_next, stepA_entry, stepA_typeAssert, stepA_extract, stepA_makeInterface, stepA_makeFunc, stepA_panic, stepA_bpanic, stepA_len, stepA_append, stepA_copy, stepA_delete, stepA_clear, stepA_min, stepA_max, stepA_call, stepA_callv, callvI_func, panI_iface, ifcV_false, thenV_some, thenH_some, thenS_some, thenV_none, thenH_none, thenS_none, pickV_true, pickV_false, nilV_ptr, nilV_at, nilV_func, extV_zero, extV_succ, eval_tmp, eval_const, eval_func, put_some, put_none, enterF_zero, enterF_succ, aBin_add, aBin_sub, aBin_mul, aBin_eql, aBin_neq, aBin_lss, aBin_leq, aBin_gtr, aBin_geq, aBin_and, aBin_or, aBin_xor, aBin_andNot, aUn_not, aUn_neg, aBin_bool_eql, aBin_bool_neq, aBin_str_eql, aBin_str_neq, aConv_int, mmV_min, mmV_max, ptr_nil_eql, ptr_nil_neq, at_nil_eql, at_nil_neq, nil_nil_eql, nil_nil_neq, absV_int, absV_bool, absV_str, absV_pnil, absV_snil, absV_mnil, absV_nilFunc, absV_nilIface, absV_agg, absV_tuple, absF_int, absF_bool, absF_str, absF_pnil, absF_snil, absF_mnil, absF_nilFunc, absF_nilIface, cells_int, cells_bool, cells_string, cells_pnil, cells_snil, cells_mnil, cells_z0, cells_nilFunc, cells_nilIface, cells_ptr, cells_sl, cells_imm, cells_atp, cells_map, cells_func, cells_iface, cells_agg, one_int, one_bool, one_string, one_pnil, one_snil, one_mnil, one_z0, one_nilFunc, one_nilIface, one_ptr, one_sl, one_imm, one_at, one_map, one_func, one_iface, all_nil, all_cons, aField_eq, fieldGo_ptr, fieldGo_at, aLoad_eq, loadGo_one, loadGo_row, aPlace_ptr, aPlace_at, dropC_cells, aStore_eq, storeGo_ptr, setC_one, setC_row, setAll_nil, setAll_cons, aAlloc_eq, aBox_eq, aIndexAddr_eq, ixGo_sl, ixGo_imm, ixGo_ptr, ixGo_at, aLen_sl, aLen_imm, aLen_snil, aLen_z0, aLen_mnil, aLen_str, makeMap_nil, aBuild_go, aFill_nil, aFill_cons, fillGo_some, aFieldOf_eq, partGo_row, partGo_one, buildGo_struct, buildGo_array, push_n, set_n, push_glob, set_glob, get_push_new, get_set_same, set_set, set_push, Int.reduceBEq, Int.reduceBNe, bne_self_eq_false, beq_self_eq_true, Int.reduceLT, Int.reduceLE, Int.reduceNeg, Option.some.injEq, Bool.false_eq_true, decide_true, decide_false, reduceIte, Nat.reduceEqDiff, Nat.reduceAdd, Nat.reduceLT, Nat.reduceLeDiff, Nat.reduceMul, Nat.reduceSub, reduceCtorEq, List.map_cons, List.map_nil, Option.map_some, Option.map_none, Nat.add_zero, Nat.zero_add, Nat.zero_le, List.length_cons, List.length_nil, List.drop_zero, List.drop_succ_cons, List.drop_nil, List.take_succ_cons, List.take_zero, List.take_nil, List.set_cons_zero, List.set_cons_succ, List.nil_append, List.append_nil, List.cons_append, and_true, true_and, and_self, if_true, if_false, Bool.and_true, Bool.true_and, Bool.and_self, Bool.not_true, Bool.not_false, Nat.zero_lt_succ, Nat.lt_irrefl, Nat.le_refl, it_23, it_5, kt_22, sl_22, f0, f1, c1, aConv_int it_23 it_5, or128, lit1b, q1, aBin_shr (show (0 : Int) ≤ 7 by decide), shr7]
    refine hid_mk ⟨(v, cs' ++ [n' % 128 + 128], n' / 128), ⟨rfl, rfl, ?_, k2, d2, ?_, by simp only; omega⟩, by simp; omega⟩
    · rw [bytesV_append]; exact q2
    · simp only
      rw [← hcs, enc_big (n := n') (by omega)]
      simp
  · have c1 : decide ((128 : Int) ≤ (n' : Int)) = false := by simp; omega
    obtain ⟨v, h2, q1, q2, q3, q4⟩ := append_elem (P := Try.prog) sl_22 (by decide) ho' (xs := [.int .u8 (n' : Int)]) rfl rfl (by simp [bytesV_length, lim]; omega) (by simp [bytesV_length, lim]; omega)
    obtain ⟨k2, d2⟩ := next v h2 q3 q4
    simp only [wpA_skip, wpA_region, wpA_seq, wpA_cond, wpA_block, wpA_exit, wpA_goto, wpA_label, wpA_ret, wpA_loop, wpA_scope, wpA_draw, condI_true, condI_false, pt_mk, seqQ_normal, seqQ_exit, seqQ_goto, seqQ_ret, seqQ_panic, blkQ_normal, blkQ_exit, blkQ_goto, blkQ_ret, blkQ_panic, endI_mk, goE, excE_out, excE_ops, andThen_normal, andThen_exit, andThen_goto, andThen_ret, andThen_panic, goI_out, goI_ops, goI_mk, opsA_nil, opsA_cons, opsA_guardS, gvI_same, gvI_tf, gvI_ft, gvI_u, slotAt_zero, slotAt_succ, stepA_move, stepA_assign, stepA_pick, stepA_alloc, stepA_box, stepA_build, stepA_buildSlice, stepA_load, stepA_store, stepA_nilCheck, stepA_binOp, stepA_unOp, stepA_convert, stepA_makeMap, stepA_makeSlice, stepA_slice, stepA_fieldAddr, stepA_field, stepA_indexAddr, stepA_index, stepA_lookup, stepA_mapUpdate, stepA_insert, stepA_range, stepA_next, stepA_entry, stepA_typeAssert, stepA_extract, stepA_makeInterface, stepA_makeFunc, stepA_panic, stepA_bpanic, stepA_len, stepA_append, stepA_copy, stepA_delete, stepA_clear, stepA_min, stepA_max, stepA_call, stepA_callv, callvI_func, panI_iface, ifcV_false, thenV_some, thenH_some, thenS_some, thenV_none, thenH_none, thenS_none, pickV_true, pickV_false, nilV_ptr, nilV_at, nilV_func, extV_zero, extV_succ, eval_tmp, eval_const, eval_func, put_some, put_none, enterF_zero, enterF_succ, aBin_add, aBin_sub, aBin_mul, aBin_eql, aBin_neq, aBin_lss, aBin_leq, aBin_gtr, aBin_geq, aBin_and, aBin_or, aBin_xor, aBin_andNot, aUn_not, aUn_neg, aBin_bool_eql, aBin_bool_neq, aBin_str_eql, aBin_str_neq, aConv_int, mmV_min, mmV_max, ptr_nil_eql, ptr_nil_neq, at_nil_eql, at_nil_neq, nil_nil_eql, nil_nil_neq, absV_int, absV_bool, absV_str, absV_pnil, absV_snil, absV_mnil, absV_nilFunc, absV_nilIface, absV_agg, absV_tuple, absF_int, absF_bool, absF_str, absF_pnil, absF_snil, absF_mnil, absF_nilFunc, absF_nilIface, cells_int, cells_bool, cells_string, cells_pnil, cells_snil, cells_mnil, cells_z0, cells_nilFunc, cells_nilIface, cells_ptr, cells_sl, cells_imm, cells_atp, cells_map, cells_func, cells_iface, cells_agg, one_int, one_bool, one_string, one_pnil, one_snil, one_mnil, one_z0, one_nilFunc, one_nilIface, one_ptr, one_sl, one_imm, one_at, one_map, one_func, one_iface, all_nil, all_cons, aField_eq, fieldGo_ptr, fieldGo_at, aLoad_eq, loadGo_one, loadGo_row, aPlace_ptr, aPlace_at, dropC_cells, aStore_eq, storeGo_ptr, setC_one, setC_row, setAll_nil, setAll_cons, aAlloc_eq, aBox_eq, aIndexAddr_eq, ixGo_sl, ixGo_imm, ixGo_ptr, ixGo_at, aLen_sl, aLen_imm, aLen_snil, aLen_z0, aLen_mnil, aLen_str, makeMap_nil, aBuild_go, aFill_nil, aFill_cons, fillGo_some, aFieldOf_eq, partGo_row, partGo_one, buildGo_struct, buildGo_array, push_n, set_n, push_glob, set_glob, get_push_new, get_set_same, set_set, set_push, Int.reduceBEq, Int.reduceBNe, bne_self_eq_false, beq_self_eq_true, Int.reduceLT, Int.reduceLE, Int.reduceNeg, Option.some.injEq, Bool.false_eq_true, decide_true, decide_false, reduceIte, Nat.reduceEqDiff, Nat.reduceAdd, Nat.reduceLT, Nat.reduceLeDiff, Nat.reduceMul, Nat.reduceSub, reduceCtorEq, List.map_cons, List.map_nil, Option.map_some, Option.map_none, Nat.add_zero, Nat.zero_add, Nat.zero_le, List.length_cons, List.length_nil, List.drop_zero, List.drop_succ_cons, List.drop_nil, List.take_succ_cons, List.take_zero, List.take_nil, List.set_cons_zero, List.set_cons_succ, List.nil_append, List.append_nil, List.cons_append, and_true, true_and, and_self, if_true, if_false, Bool.and_true, Bool.true_and, Bool.and_self, Bool.not_true, Bool.not_false, Nat.zero_lt_succ, Nat.lt_irrefl, Nat.le_refl, it_23, it_5, kt_22, sl_22, f0, f1, c1, aConv_int it_23 it_5, wrapu8 n' (by omega), lit1b, q1, retA_ret, retA_normal, Try.results47, resultsA_1]
    refine hid_mk ⟨?_, k2, d2⟩
    rw [← hcs, enc_small (by omega), bytesV_append]
    exact q2
end Go.Proofs.Ytkoelbeidffimaa.Pk
