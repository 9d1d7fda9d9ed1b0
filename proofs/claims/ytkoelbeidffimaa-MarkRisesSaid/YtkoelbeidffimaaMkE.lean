/-
  What functions of the program do, told of abstract states. Conditions: as each theorem says.
-/
import Derived.Test.YtkoelbeidffimaaMkD
import Derived.Test.YtkoelbeidffimaaAbC
namespace Go.Proofs.Ytkoelbeidffimaa.Pk
open Go Go.Proofs Go.Proofs.Ytkoelbeidffimaa.Ab
set_option linter.unusedVariables false
set_option linter.unusedSimpArgs false

set_option maxRecDepth 10000 in
/-- New marks of an own slice of inputs. -/
theorem mNewOwn (h : AHeap) (v : V) (zs : List Int) (ho : Own h 3 1 v (zs.map (.int .i64))) (h1 : 1 ≤ zs.length) (h2 : zs.length ≤ 24) (ha : Asc (-1) zs) :
    SCalls Try.prog 36 [v] h (fun r h' => ∃ i j, r = .tuple [.ptr i 0, .int .i64 0] ∧ IsMarks h' (.ptr i 0) (newFrom 0 zs) i j zs.length ∧ h.n ≤ i ∧ h.n ≤ j ∧ Keep h h' none_) := by
  refine SCalls.enterI (c := _) Try.func36 rfl (by kernel_rfl) (by simp) ?_
  have c1 : decide ((zs.length : Int) < 1) = false := by simp; omega
  have c2 : decide (24 < (zs.length : Int)) = false := by simp; omega
  have hlen : ∀ h', Keep h h' none_ → aLen Try.prog 24 v h' = some (.int .i64 zs.length) := fun h' hk => by
    have := (ho.keepN hk).length (by omega) Try.prog kt_24
    simpa using this
  simp only [wpA_skip, wpA_region, wpA_seq, wpA_cond, wpA_block, wpA_exit, wpA_goto, wpA_label, wpA_ret, wpA_loop, wpA_scope, wpA_draw, condI_true, condI_false, pt_mk, seqQ_normal, seqQ_exit, seqQ_goto, seqQ_ret, seqQ_panic, blkQ_normal, blkQ_exit, blkQ_goto, blkQ_ret, blkQ_panic, endI_mk, goE, excE_out, excE_ops, andThen_normal, andThen_exit, andThen_goto, andThen_ret, andThen_panic, goI_out, goI_ops, goI_mk, opsA_nil, opsA_cons, opsA_guardS, gvI_same, gvI_tf, gvI_ft, slotAt_zero, slotAt_succ, stepA_move, stepA_assign, stepA_pick, stepA_alloc, stepA_box, stepA_build, stepA_buildSlice, stepA_load, stepA_store, stepA_nilCheck, stepA_binOp, stepA_unOp, stepA_convert, stepA_makeMap, stepA_makeSlice, stepA_slice, stepA_fieldAddr, stepA_field, stepA_indexAddr, stepA_index, stepA_lookup, stepA_mapUpdate, stepA_insert, stepA_range, stepA_next, stepA_entry, stepA_typeAssert, stepA_extract, stepA_makeInterface, stepA_makeFunc, stepA_panic, stepA_bpanic, stepA_len, stepA_append, stepA_copy, stepA_delete, stepA_clear, stepA_min, stepA_max, stepA_call, stepA_callv, callvI_func, panI_iface, ifcV_false, thenV_some, thenH_some, thenS_some, thenV_none, thenH_none, thenS_none, pickV_true, pickV_false, nilV_ptr, nilV_at, nilV_func, extV_zero, extV_succ, eval_tmp, eval_const, eval_func, put_some, put_none, enterF_zero, enterF_succ, aBin_add, aBin_sub, aBin_mul, aBin_eql, aBin_neq, aBin_lss, aBin_leq, aBin_gtr, aBin_geq, aBin_and, aBin_or, aBin_xor, aBin_andNot, aUn_not, aUn_neg, aBin_bool_eql, aBin_bool_neq, aBin_str_eql, aBin_str_neq, aConv_int, mmV_min, mmV_max, ptr_nil_eql, ptr_nil_neq, at_nil_eql, at_nil_neq, nil_nil_eql, nil_nil_neq, absV_int, absV_bool, absV_str, absV_pnil, absV_snil, absV_mnil, absV_nilFunc, absV_nilIface, absV_agg, absV_tuple, absF_int, absF_bool, absF_str, absF_pnil, absF_snil, absF_mnil, absF_nilFunc, absF_nilIface, cells_int, cells_bool, cells_string, cells_pnil, cells_snil, cells_mnil, cells_z0, cells_nilFunc, cells_nilIface, cells_ptr, cells_sl, cells_imm, cells_atp, cells_map, cells_func, cells_iface, cells_agg, one_int, one_bool, one_string, one_pnil, one_snil, one_mnil, one_z0, one_nilFunc, one_nilIface, one_ptr, one_sl, one_imm, one_at, one_map, one_func, one_iface, all_nil, all_cons, aField_eq, fieldGo_ptr, fieldGo_at, aLoad_eq, loadGo_one, loadGo_row, aPlace_ptr, aPlace_at, dropC_cells, aStore_eq, storeGo_ptr, setC_one, setC_row, setAll_nil, setAll_cons, aAlloc_eq, aBox_eq, aIndexAddr_eq, ixGo_sl, ixGo_imm, ixGo_ptr, ixGo_at, aLen_sl, aLen_imm, aLen_snil, aLen_z0, aLen_mnil, aLen_str, makeMap_nil, aBuild_go, aFill_nil, aFill_cons, fillGo_some, aFieldOf_eq, partGo_row, partGo_one, buildGo_struct, buildGo_array, push_n, set_n, push_glob, set_glob, get_push_new, get_set_same, set_set, set_push, Int.reduceBEq, Int.reduceBNe, bne_self_eq_false, beq_self_eq_true, Int.reduceLT, Int.reduceLE, Int.reduceNeg, Option.some.injEq, Bool.false_eq_true, decide_true, decide_false, reduceIte, Nat.reduceEqDiff, Nat.reduceAdd, Nat.reduceLT, Nat.reduceLeDiff, Nat.reduceMul, Nat.reduceSub, reduceCtorEq, List.map_cons, List.map_nil, Option.map_some, Option.map_none, Nat.add_zero, Nat.zero_add, Nat.zero_le, List.length_cons, List.length_nil, List.drop_zero, List.drop_succ_cons, List.drop_nil, List.take_succ_cons, List.take_zero, List.take_nil, List.set_cons_zero, List.set_cons_succ, List.nil_append, List.append_nil, List.cons_append, and_true, true_and, and_self, if_true, if_false, Bool.and_true, Bool.true_and, Bool.and_self, Bool.not_true, Bool.not_false, Nat.zero_lt_succ, Nat.lt_irrefl, Nat.le_refl, as_24, ft_90_0, kt_24, lt_3, lt_88, mt_88, pl_90, ss_24, z0_2, zc_90, hlen h (Keep.refl _ _), c1, c2, List.getElem?_cons_zero]
  have kq : Keep h ((h.push (.map [] 0)).push (.cells [.map h.n] 90 none)) none_ := (Keep.push _ _ _).then_push _
  simp only [wpA_skip, wpA_region, wpA_seq, wpA_cond, wpA_block, wpA_exit, wpA_goto, wpA_label, wpA_ret, wpA_loop, wpA_scope, wpA_draw, condI_true, condI_false, pt_mk, seqQ_normal, seqQ_exit, seqQ_goto, seqQ_ret, seqQ_panic, blkQ_normal, blkQ_exit, blkQ_goto, blkQ_ret, blkQ_panic, endI_mk, goE, excE_out, excE_ops, andThen_normal, andThen_exit, andThen_goto, andThen_ret, andThen_panic, goI_out, goI_ops, goI_mk, opsA_nil, opsA_cons, opsA_guardS, gvI_same, gvI_tf, gvI_ft, slotAt_zero, slotAt_succ, stepA_move, stepA_assign, stepA_pick, stepA_alloc, stepA_box, stepA_build, stepA_buildSlice, stepA_load, stepA_store, stepA_nilCheck, stepA_binOp, stepA_unOp, stepA_convert, stepA_makeMap, stepA_makeSlice, stepA_slice, stepA_fieldAddr, stepA_field, stepA_indexAddr, stepA_index, stepA_lookup, stepA_mapUpdate, stepA_insert, stepA_range, stepA_next, stepA_entry, stepA_typeAssert, stepA_extract, stepA_makeInterface, stepA_makeFunc, stepA_panic, stepA_bpanic, stepA_len, stepA_append, stepA_copy, stepA_delete, stepA_clear, stepA_min, stepA_max, stepA_call, stepA_callv, callvI_func, panI_iface, ifcV_false, thenV_some, thenH_some, thenS_some, thenV_none, thenH_none, thenS_none, pickV_true, pickV_false, nilV_ptr, nilV_at, nilV_func, extV_zero, extV_succ, eval_tmp, eval_const, eval_func, put_some, put_none, enterF_zero, enterF_succ, aBin_add, aBin_sub, aBin_mul, aBin_eql, aBin_neq, aBin_lss, aBin_leq, aBin_gtr, aBin_geq, aBin_and, aBin_or, aBin_xor, aBin_andNot, aUn_not, aUn_neg, aBin_bool_eql, aBin_bool_neq, aBin_str_eql, aBin_str_neq, aConv_int, mmV_min, mmV_max, ptr_nil_eql, ptr_nil_neq, at_nil_eql, at_nil_neq, nil_nil_eql, nil_nil_neq, absV_int, absV_bool, absV_str, absV_pnil, absV_snil, absV_mnil, absV_nilFunc, absV_nilIface, absV_agg, absV_tuple, absF_int, absF_bool, absF_str, absF_pnil, absF_snil, absF_mnil, absF_nilFunc, absF_nilIface, cells_int, cells_bool, cells_string, cells_pnil, cells_snil, cells_mnil, cells_z0, cells_nilFunc, cells_nilIface, cells_ptr, cells_sl, cells_imm, cells_atp, cells_map, cells_func, cells_iface, cells_agg, one_int, one_bool, one_string, one_pnil, one_snil, one_mnil, one_z0, one_nilFunc, one_nilIface, one_ptr, one_sl, one_imm, one_at, one_map, one_func, one_iface, all_nil, all_cons, aField_eq, fieldGo_ptr, fieldGo_at, aLoad_eq, loadGo_one, loadGo_row, aPlace_ptr, aPlace_at, dropC_cells, aStore_eq, storeGo_ptr, setC_one, setC_row, setAll_nil, setAll_cons, aAlloc_eq, aBox_eq, aIndexAddr_eq, ixGo_sl, ixGo_imm, ixGo_ptr, ixGo_at, aLen_sl, aLen_imm, aLen_snil, aLen_z0, aLen_mnil, aLen_str, makeMap_nil, aBuild_go, aFill_nil, aFill_cons, fillGo_some, aFieldOf_eq, partGo_row, partGo_one, buildGo_struct, buildGo_array, push_n, set_n, push_glob, set_glob, get_push_new, get_set_same, set_set, set_push, Int.reduceBEq, Int.reduceBNe, bne_self_eq_false, beq_self_eq_true, Int.reduceLT, Int.reduceLE, Int.reduceNeg, Option.some.injEq, Bool.false_eq_true, decide_true, decide_false, reduceIte, Nat.reduceEqDiff, Nat.reduceAdd, Nat.reduceLT, Nat.reduceLeDiff, Nat.reduceMul, Nat.reduceSub, reduceCtorEq, List.map_cons, List.map_nil, Option.map_some, Option.map_none, Nat.add_zero, Nat.zero_add, Nat.zero_le, List.length_cons, List.length_nil, List.drop_zero, List.drop_succ_cons, List.drop_nil, List.take_succ_cons, List.take_zero, List.take_nil, List.set_cons_zero, List.set_cons_succ, List.nil_append, List.append_nil, List.cons_append, and_true, true_and, and_self, if_true, if_false, Bool.and_true, Bool.true_and, Bool.and_self, Bool.not_true, Bool.not_false, Nat.zero_lt_succ, Nat.lt_irrefl, Nat.le_refl, as_24, ft_90_0, kt_24, lt_3, lt_88, mt_88, pl_90, ss_24, z0_2, zc_90, hlen _ kq, List.getElem?_cons_zero]
  refine SWp.loopG (α := Nat) (fun k f h' => k ≤ zs.length ∧ f 4 = .ptr (h.n + 1) 0 ∧ f 5 = .int .i64 (lastOr (-1) (zs.take k)) ∧ f 19 = v ∧ f 20 = .int .i64 zs.length ∧ f 21 = .int .i64 (k : Nat) ∧
    IsMarks h' (.ptr (h.n + 1) 0) (newFrom 0 (zs.take k)) (h.n + 1) h.n k ∧ Keep h h' none_) (fun k => zs.length - k) 0 ?_ ?_
  · refine ⟨Nat.zero_le _, rfl, rfl, rfl, rfl, rfl, ⟨rfl, ?_, ?_, by omega, ?_, ?_, Stamps.nil _⟩, kq⟩
    · rw [push_n, push_n]; omega
    · rw [push_n, push_n]; omega
    · rw [show h.n + 1 = (h.push (.map [] 0)).n by rfl, get_push_new]
    · rw [get_push_lt (by rw [push_n]; omega), get_push_new]; rfl
  · rintro k f h' ⟨hk, f4, f5, f19, f20, f21, hm, kp⟩
    refine wpI_sound (by kernel_rfl) ?_
    obtain ⟨_, hi, hj, hij, hgi, hgj, hs⟩ := hm
    by_cases hlt : k < zs.length
    · have c3 : decide ((k : Int) < (zs.length : Int)) = true := by simp; omega
      obtain ⟨j0, hix, _, ⟨rr, hdr⟩, _⟩ := own_elem (P := Try.prog) (t := 24) (kk := .i64) ss_24 (ho.keepN kp) (k := k) (by simpa using hlt)
      rw [List.getElem_map] at hdr
      obtain ⟨asc1, asc2⟩ := asc_take ha hlt
      have c4 : decide (zs[k] ≤ lastOr (-1) (zs.take k)) = false := by simp; omega
      have hup := update_int (P := Try.prog) (h := h') (k := zs[k]) (a := (-1 : Int)) (v := .int .i64 (-1)) mt_88 hgj rfl
      have hnot : mget (newFrom 0 (zs.take k)) zs[k] = none := by
        rw [mget_new, if_neg]
        intro hmem
        rw [take_succ hlt] at asc1
        have := (asc_last asc1).2.2 _ hmem
        omega
      have hset : mset k (newFrom 0 (zs.take k)) zs[k] (-1) = newFrom 0 (zs.take (k + 1)) := by
        have : (newFrom 0 (zs.take k)).findIdx? (fun e => e.2.1 == zs[k]) = none := by
          cases hf : (newFrom 0 (zs.take k)).findIdx? (fun e => e.2.1 == zs[k]) with
          | none => rfl
          | some q =>
            obtain ⟨e, _, _, h3⟩ := mget_some_idx hf
            rw [hnot] at h3
            cases h3
        rw [mset_none this, take_succ hlt, newFrom_snoc]
        simp
        omega
      have hclk : mclk k (newFrom 0 (zs.take k)) zs[k] = k + 1 := by simp [mclk, hnot]
      rw [hset, hclk] at hup
      have w1 : IntKind.i64.wrap ((k : Int) + 1) = ((k + 1 : Nat) : Int) := by rw [Go.IntWalk.i64_in _ (by omega)]; rfl
      simp only [wpA_skip, wpA_region, wpA_seq, wpA_cond, wpA_block, wpA_exit, wpA_goto, wpA_label, wpA_ret, wpA_loop, wpA_scope, wpA_draw, condI_true, condI_false, pt_mk, seqQ_normal, seqQ_exit, seqQ_goto, seqQ_ret, seqQ_panic, blkQ_normal, blkQ_exit, blkQ_goto, blkQ_ret, blkQ_panic, endI_mk, goE, excE_out, excE_ops, andThen_normal, andThen_exit, andThen_goto, andThen_ret, andThen_panic, goI_out, goI_ops, goI_mk, opsA_nil, opsA_cons, opsA_guardS, gvI_same, gvI_tf, gvI_ft, slotAt_zero, slotAt_succ, stepA_move, stepA_assign, stepA_pick, stepA_alloc, stepA_box, stepA_build, stepA_buildSlice, stepA_load, stepA_store, stepA_nilCheck, stepA_binOp, stepA_unOp, stepA_convert, stepA_makeMap, stepA_makeSlice, stepA_slice, stepA_fieldAddr, stepA_field, stepA_indexAddr, stepA_index, stepA_lookup, stepA_mapUpdate, stepA_insert, stepA_range, stepA_next, stepA_entry, stepA_typeAssert, stepA_extract, stepA_makeInterface, stepA_makeFunc, stepA_panic, stepA_bpanic, stepA_len, stepA_append, stepA_copy, stepA_delete, stepA_clear, stepA_min, stepA_max, stepA_call, stepA_callv, callvI_func, panI_iface, ifcV_false, thenV_some, thenH_some, thenS_some, thenV_none, thenH_none, thenS_none, pickV_true, pickV_false, nilV_ptr, nilV_at, nilV_func, extV_zero, extV_succ, eval_tmp, eval_const, eval_func, put_some, put_none, enterF_zero, enterF_succ, aBin_add, aBin_sub, aBin_mul, aBin_eql, aBin_neq, aBin_lss, aBin_leq, aBin_gtr, aBin_geq, aBin_and, aBin_or, aBin_xor, aBin_andNot, aUn_not, aUn_neg, aBin_bool_eql, aBin_bool_neq, aBin_str_eql, aBin_str_neq, aConv_int, mmV_min, mmV_max, ptr_nil_eql, ptr_nil_neq, at_nil_eql, at_nil_neq, nil_nil_eql, nil_nil_neq, absV_int, absV_bool, absV_str, absV_pnil, absV_snil, absV_mnil, absV_nilFunc, absV_nilIface, absV_agg, absV_tuple, absF_int, absF_bool, absF_str, absF_pnil, absF_snil, absF_mnil, absF_nilFunc, absF_nilIface, cells_int, cells_bool, cells_string, cells_pnil, cells_snil, cells_mnil, cells_z0, cells_nilFunc, cells_nilIface, cells_ptr, cells_sl, cells_imm, cells_atp, cells_map, cells_func, cells_iface, cells_agg, one_int, one_bool, one_string, one_pnil, one_snil, one_mnil, one_z0, one_nilFunc, one_nilIface, one_ptr, one_sl, one_imm, one_at, one_map, one_func, one_iface, all_nil, all_cons, aField_eq, fieldGo_ptr, fieldGo_at, aLoad_eq, loadGo_one, loadGo_row, aPlace_ptr, aPlace_at, dropC_cells, aStore_eq, storeGo_ptr, setC_one, setC_row, setAll_nil, setAll_cons, aAlloc_eq, aBox_eq, aIndexAddr_eq, ixGo_sl, ixGo_imm, ixGo_ptr, ixGo_at, aLen_sl, aLen_imm, aLen_snil, aLen_z0, aLen_mnil, aLen_str, makeMap_nil, aBuild_go, aFill_nil, aFill_cons, fillGo_some, aFieldOf_eq, partGo_row, partGo_one, buildGo_struct, buildGo_array, push_n, set_n, push_glob, set_glob, get_push_new, get_set_same, set_set, set_push, Int.reduceBEq, Int.reduceBNe, bne_self_eq_false, beq_self_eq_true, Int.reduceLT, Int.reduceLE, Int.reduceNeg, Option.some.injEq, Bool.false_eq_true, decide_true, decide_false, reduceIte, Nat.reduceEqDiff, Nat.reduceAdd, Nat.reduceLT, Nat.reduceLeDiff, Nat.reduceMul, Nat.reduceSub, reduceCtorEq, List.map_cons, List.map_nil, Option.map_some, Option.map_none, Nat.add_zero, Nat.zero_add, Nat.zero_le, List.length_cons, List.length_nil, List.drop_zero, List.drop_succ_cons, List.drop_nil, List.take_succ_cons, List.take_zero, List.take_nil, List.set_cons_zero, List.set_cons_succ, List.nil_append, List.append_nil, List.cons_append, and_true, true_and, and_self, if_true, if_false, Bool.and_true, Bool.true_and, Bool.and_self, Bool.not_true, Bool.not_false, Nat.zero_lt_succ, Nat.lt_irrefl, Nat.le_refl, as_24, ft_90_0, kt_24, lt_3, lt_88, mt_88, pl_90, ss_24, z0_2, zc_90, f4, f5, f19, f20, f21, c3, hix, hdr, c4, hgi, hup, w1]
      refine hid_mk ⟨k + 1, ⟨by omega, f4, ?_, f19, f20, rfl, ⟨rfl, hi, hj, hij, by rw [get_set_ne hij]; exact hgi, get_set_same, ?_⟩, kp.setNew (Nat.le_refl _) _⟩, by omega⟩
      · show V.int .i64 zs[k] = _
        rw [take_succ hlt, lastOr_snoc]
      · have e1 : mapOf .i64 encT (newFrom 0 (zs.take (k + 1))) = mapOf .i64 encT (newFrom 0 (zs.take k)) ++ [(k, .int .i64 zs[k], encT (-1))] := by
          rw [take_succ hlt, newFrom_snoc]
          simp [mapOf]
          omega
        rw [e1]
        exact hs.snoc _ _
    · obtain rfl : k = zs.length := by omega
      have c3 : decide ((zs.length : Int) < (zs.length : Int)) = false := by simp
      simp only [wpA_skip, wpA_region, wpA_seq, wpA_cond, wpA_block, wpA_exit, wpA_goto, wpA_label, wpA_ret, wpA_loop, wpA_scope, wpA_draw, condI_true, condI_false, pt_mk, seqQ_normal, seqQ_exit, seqQ_goto, seqQ_ret, seqQ_panic, blkQ_normal, blkQ_exit, blkQ_goto, blkQ_ret, blkQ_panic, endI_mk, goE, excE_out, excE_ops, andThen_normal, andThen_exit, andThen_goto, andThen_ret, andThen_panic, goI_out, goI_ops, goI_mk, opsA_nil, opsA_cons, opsA_guardS, gvI_same, gvI_tf, gvI_ft, slotAt_zero, slotAt_succ, stepA_move, stepA_assign, stepA_pick, stepA_alloc, stepA_box, stepA_build, stepA_buildSlice, stepA_load, stepA_store, stepA_nilCheck, stepA_binOp, stepA_unOp, stepA_convert, stepA_makeMap, stepA_makeSlice, stepA_slice, stepA_fieldAddr, stepA_field, stepA_indexAddr, stepA_index, stepA_lookup, stepA_mapUpdate, stepA_insert, stepA_range, stepA_next, stepA_entry, stepA_typeAssert, stepA_extract, stepA_makeInterface, stepA_makeFunc, stepA_panic, stepA_bpanic, stepA_len, stepA_append, stepA_copy, stepA_delete, stepA_clear, stepA_min, stepA_max, stepA_call, stepA_callv, callvI_func, panI_iface, ifcV_false, thenV_some, thenH_some, thenS_some, thenV_none, thenH_none, thenS_none, pickV_true, pickV_false, nilV_ptr, nilV_at, nilV_func, extV_zero, extV_succ, eval_tmp, eval_const, eval_func, put_some, put_none, enterF_zero, enterF_succ, aBin_add, aBin_sub, aBin_mul, aBin_eql, aBin_neq, aBin_lss, aBin_leq, aBin_gtr, aBin_geq, aBin_and, aBin_or, aBin_xor, aBin_andNot, aUn_not, aUn_neg, aBin_bool_eql, aBin_bool_neq, aBin_str_eql, aBin_str_neq, aConv_int, mmV_min, mmV_max, ptr_nil_eql, ptr_nil_neq, at_nil_eql, at_nil_neq, nil_nil_eql, nil_nil_neq, absV_int, absV_bool, absV_str, absV_pnil, absV_snil, absV_mnil, absV_nilFunc, absV_nilIface, absV_agg, absV_tuple, absF_int, absF_bool, absF_str, absF_pnil, absF_snil, absF_mnil, absF_nilFunc, absF_nilIface, cells_int, cells_bool, cells_string, cells_pnil, cells_snil, cells_mnil, cells_z0, cells_nilFunc, cells_nilIface, cells_ptr, cells_sl, cells_imm, cells_atp, cells_map, cells_func, cells_iface, cells_agg, one_int, one_bool, one_string, one_pnil, one_snil, one_mnil, one_z0, one_nilFunc, one_nilIface, one_ptr, one_sl, one_imm, one_at, one_map, one_func, one_iface, all_nil, all_cons, aField_eq, fieldGo_ptr, fieldGo_at, aLoad_eq, loadGo_one, loadGo_row, aPlace_ptr, aPlace_at, dropC_cells, aStore_eq, storeGo_ptr, setC_one, setC_row, setAll_nil, setAll_cons, aAlloc_eq, aBox_eq, aIndexAddr_eq, ixGo_sl, ixGo_imm, ixGo_ptr, ixGo_at, aLen_sl, aLen_imm, aLen_snil, aLen_z0, aLen_mnil, aLen_str, makeMap_nil, aBuild_go, aFill_nil, aFill_cons, fillGo_some, aFieldOf_eq, partGo_row, partGo_one, buildGo_struct, buildGo_array, push_n, set_n, push_glob, set_glob, get_push_new, get_set_same, set_set, set_push, Int.reduceBEq, Int.reduceBNe, bne_self_eq_false, beq_self_eq_true, Int.reduceLT, Int.reduceLE, Int.reduceNeg, Option.some.injEq, Bool.false_eq_true, decide_true, decide_false, reduceIte, Nat.reduceEqDiff, Nat.reduceAdd, Nat.reduceLT, Nat.reduceLeDiff, Nat.reduceMul, Nat.reduceSub, reduceCtorEq, List.map_cons, List.map_nil, Option.map_some, Option.map_none, Nat.add_zero, Nat.zero_add, Nat.zero_le, List.length_cons, List.length_nil, List.drop_zero, List.drop_succ_cons, List.drop_nil, List.take_succ_cons, List.take_zero, List.take_nil, List.set_cons_zero, List.set_cons_succ, List.nil_append, List.append_nil, List.cons_append, and_true, true_and, and_self, if_true, if_false, Bool.and_true, Bool.true_and, Bool.and_self, Bool.not_true, Bool.not_false, Nat.zero_lt_succ, Nat.lt_irrefl, Nat.le_refl, as_24, ft_90_0, kt_24, lt_3, lt_88, mt_88, pl_90, ss_24, z0_2, zc_90, f4, f5, f19, f20, f21, c3, retA_ret, retA_normal, Try.results36, resultsA_2]
      rw [List.take_length] at hgj hs
      exact hid_mk ⟨h.n + 1, h.n, rfl, ⟨rfl, hi, hj, hij, hgi, hgj, hs⟩, by omega, Nat.le_refl _, kp⟩

/-- k, k + 1, .. -/
def upTo (k : Nat) : Nat → List Int
  | 0 => []
  | m + 1 => (k : Int) :: upTo (k + 1) m
theorem upTo_length : ∀ (m k : Nat), (upTo k m).length = m
  | 0, _ => rfl
  | m + 1, k => by simp [upTo, upTo_length m]
theorem upTo_snoc : ∀ (m k : Nat), upTo k (m + 1) = upTo k m ++ [((k + m : Nat) : Int)]
  | 0, _ => rfl
  | m + 1, k => by
    rw [upTo, upTo_snoc m (k + 1), upTo, List.cons_append]
    rw [show k + 1 + m = k + (m + 1) by omega]
theorem upTo_asc : ∀ (m k : Nat) (lo : Int), lo < k → Asc lo (upTo k m)
  | 0, _, _, _ => trivial
  | m + 1, k, lo, h => ⟨h, upTo_asc m (k + 1) k (by omega)⟩

/-! ### Times in any order -/
def upp (m t : Int) : Int := if 0 ≤ t ∧ t ≤ 1099511627776 ∧ m < t then t else m
theorem upp_comm (m a b : Int) : upp (upp m a) b = upp (upp m b) a := by
  unfold upp
  repeat' split
  all_goals omega
def gee (v t : Int) (e : Nat × Int × Int) : Nat × Int × Int := if e.2.1 = v then (e.1, e.2.1, upp e.2.2 t) else e
theorem gee_key (v t : Int) (e : Nat × Int × Int) : (gee v t e).2.1 = e.2.1 := by unfold gee; split <;> rfl
theorem gee_comm (v t v2 t2 : Int) (e : Nat × Int × Int) : gee v2 t2 (gee v t e) = gee v t (gee v2 t2 e) := by
  unfold gee
  by_cases h1 : e.2.1 = v <;> by_cases h2 : e.2.1 = v2 <;> simp [h1, h2]
  · subst h1
    simp [h2, upp_comm]
  all_goals simp_all
theorem gee_none {v t : Int} : ∀ {s : Seen}, v ∉ s.map (·.2.1) → s.map (gee v t) = s
  | [], _ => rfl
  | e :: s, h => by
    simp only [List.map_cons, List.mem_cons, not_or] at h
    rw [List.map_cons, gee_none h.2]
    unfold gee
    rw [if_neg (Ne.symm h.1)]
theorem seeL_map {cl : Nat} {v t : Int} : ∀ {s : Seen}, (s.map (·.2.1)).Nodup → seeL cl s v t = s.map (gee v t)
  | [], _ => rfl
  | e :: s, hn => by
    simp only [List.map_cons, List.nodup_cons] at hn
    have ih := seeL_map (cl := cl) (v := v) (t := t) hn.2
    by_cases hk : e.2.1 = v
    · have hg : mget (e :: s) v = some e.2.2 := by simp [mget, hk]
      rw [List.map_cons, gee_none (by rw [← hk]; exact hn.1)]
      unfold seeL gee upp
      rw [hg]
      simp only [hk, if_true]
      by_cases c1 : t < 0 ∨ 1099511627776 < t
      · rw [if_pos c1, if_neg (by omega), ← hk]
      · rw [if_neg c1]
        by_cases c2 : t ≤ e.2.2
        · rw [if_pos c2, if_neg (by omega), ← hk]
        · rw [if_neg c2, if_pos (by omega)]
          simp [mset, hk]
    · have hg : mget (e :: s) v = mget s v := by
        unfold mget
        rw [List.find?_cons, show (e.2.1 == v) = false by simp [hk]]
      rw [List.map_cons, ← ih]
      have he : gee v t e = e := by unfold gee; rw [if_neg hk]
      rw [he]
      unfold seeL
      rw [hg]
      cases mget s v with
      | none => rfl
      | some g =>
        simp only
        split
        · rfl
        · split
          · rfl
          · simp [mset, hk]
def run (cl : Nat) (s : Seen) (l : List (Int × Int)) : Seen := l.foldl (fun s p => seeL cl s p.1 p.2) s
theorem run_map {cl : Nat} : ∀ {l : List (Int × Int)} {s : Seen}, (s.map (·.2.1)).Nodup → run cl s l = s.map fun e => l.foldl (fun e p => gee p.1 p.2 e) e
  | [], s, _ => by simp [run]
  | p :: l, s, hn => by
    have hk : ((s.map (gee p.1 p.2)).map (·.2.1)) = s.map (·.2.1) := by
      rw [List.map_map]
      exact List.map_congr_left fun e _ => gee_key _ _ e
    have := run_map (cl := cl) (l := l) (s := s.map (gee p.1 p.2)) (by rw [hk]; exact hn)
    unfold run at this ⊢
    rw [List.foldl_cons, seeL_map hn, this, List.map_map]
    rfl
theorem run_reverse {cl : Nat} {l : List (Int × Int)} {s : Seen} (hn : (s.map (·.2.1)).Nodup) : run cl s l.reverse = run cl s l := by
  rw [run_map hn, run_map hn]
  refine List.map_congr_left fun e _ => ?_
  exact (List.reverse_perm l).foldl_eq' (fun x _ y _ z => gee_comm _ _ _ _ z) e
theorem new_nodup : ∀ (m k i : Nat), ((newFrom i (upTo k m)).map (·.2.1)).Nodup ∧ ∀ x ∈ (newFrom i (upTo k m)).map (·.2.1), (k : Int) ≤ x
  | 0, _, _ => by simp [upTo, newFrom]
  | m + 1, k, i => by
    obtain ⟨h1, h2⟩ := new_nodup m (k + 1) (i + 1)
    simp only [upTo, newFrom, List.map_cons, List.nodup_cons]
    refine ⟨⟨fun h => ?_, h1⟩, fun x hx => ?_⟩
    · have := h2 _ h; omega
    · rcases List.mem_cons.1 hx with rfl | hx
      · exact Int.le_refl _
      · have := h2 _ hx; omega
end Go.Proofs.Ytkoelbeidffimaa.Pk
