/-
  What functions of the program do, told of abstract states. Conditions: as each theorem says.
-/
import Derived.Test.YtmgjjhpkhjebbaaQoB
import Derived.Test.YtmgjjhpkhjebbaaAbD
namespace Go.Proofs.Ytmgjjhpkhjebbaa.Pk
open Go Go.Proofs Go.Proofs.Ytmgjjhpkhjebbaa.Ab Go.Sort
set_option linter.unusedVariables false
set_option linter.unusedSimpArgs false
/-! ### Votes -/
abbrev Vote := Int × ByteArray
def votE (v : Vote) : V := .agg [.int .i64 v.1, .string v.2]
def voteF (c : Cel) : Vote := (c.ep, strOfNums c.by_)
theorem cnvB9 (l : List Int) (h : AHeap) : aConv Try.prog 34 9 (.imm l.length (u8V l)) h = some (.string (strOfNums l)) := conv_imm (by kernel_rfl) st_9 rfl
set_option maxRecDepth 10000 in
theorem pVoteOf (c : Cel) (h : AHeap) : Pure Try.prog 40 [.agg (celE c)] h (votE (voteF c)) := by
  refine Pure.val (Clo.agg (CloL.cons (Clo.int _ _) (CloL.cons (Clo.string _) CloL.nil))) ?_
  refine SCalls.enterI (c := _) Try.func40 rfl (by kernel_rfl) (by simp) ?_
  have cc := cel_cells
  have f1 := cel_fd1
  have f2 := cel_fd2
  have l1 : ∀ c : Cel, List.drop 1 (celE c) = [.int .i64 c.ep, .imm c.by_.length (u8V c.by_)] := fun _ => rfl
  have l2 : ∀ c : Cel, List.drop 2 (celE c) = [.imm c.by_.length (u8V c.by_)] := fun _ => rfl
  have cl := celE_len
  simp only [wpA_skip, wpA_region, wpA_seq, wpA_cond, wpA_block, wpA_exit, wpA_goto, wpA_label, wpA_ret, wpA_loop, wpA_scope, wpA_draw, condI_true, condI_false, pt_mk, seqQ_normal, seqQ_exit, seqQ_goto, seqQ_ret, seqQ_panic, blkQ_normal, blkQ_exit, blkQ_goto, blkQ_ret, blkQ_panic, endI_mk, goE, excE_out, excE_ops, andThen_normal, andThen_exit, andThen_goto, andThen_ret, andThen_panic, goI_out, goI_ops, goI_mk, opsA_nil, opsA_cons, opsA_guardS, gvI_same, gvI_tf, gvI_ft, gvI_u, slotAt_zero, slotAt_succ, stepA_move, stepA_assign, stepA_pick, stepA_alloc, stepA_box, stepA_build, stepA_buildSlice, stepA_load, stepA_store, stepA_nilCheck, stepA_binOp, stepA_unOp, stepA_convert, stepA_makeMap, stepA_makeSlice, stepA_slice, stepA_fieldAddr, stepA_field, stepA_indexAddr, stepA_index, stepA_lookup, stepA_mapUpdate, stepA_mapEntry, stepA_entryStore, stepA_insert, stepA_range, stepA_next, stepA_entry, stepA_typeAssert, stepA_extract, stepA_makeInterface, stepA_makeFunc, stepA_panic, stepA_bpanic, stepA_len, stepA_append, stepA_copy, stepA_cap, stepA_delete, stepA_clear, stepA_min, stepA_max, stepA_call, stepA_callv, callvI_func, panI_iface, ifcV_false, thenV_some, thenC_some, thenC_mark, thenH_some, thenS_some, thenV_none, thenH_none, thenS_none, pickV_true, pickV_false, nilV_ptr, nilV_at, nilV_func, extV_zero, extV_succ, eval_tmp, eval_const, eval_func, put_some, put_none, enterF_zero, enterF_succ, aBin_add, aBin_sub, aBin_mul, aBin_eql, aBin_neq, aBin_lss, aBin_leq, aBin_gtr, aBin_geq, aBin_and, aBin_or, aBin_xor, aBin_andNot, aUn_not, aUn_neg, aBin_bool_eql, aBin_bool_neq, aBin_str_eql, aBin_str_neq, aConv_int, mmV_min, mmV_max, ptr_nil_eql, ptr_nil_neq, at_nil_eql, at_nil_neq, nil_nil_eql, nil_nil_neq, absV_int, absV_bool, absV_str, absV_pnil, absV_snil, absV_mnil, absV_nilFunc, absV_nilIface, absV_agg, absV_tuple, absF_int, absF_bool, absF_str, absF_pnil, absF_snil, absF_mnil, absF_nilFunc, absF_nilIface, cells_int, cells_bool, cells_string, cells_pnil, cells_snil, cells_mnil, cells_z0, cells_nilFunc, cells_nilIface, cells_ptr, cells_sl, cells_imm, cells_atp, cells_map, cells_func, cells_iface, cells_agg, one_int, one_bool, one_string, one_pnil, one_snil, one_mnil, one_z0, one_nilFunc, one_nilIface, one_ptr, one_sl, one_imm, one_at, one_map, one_func, one_iface, all_nil, all_cons, aField_eq, fieldGo_ptr, fieldGo_at, aLoad_eq, loadGo_one, loadGo_row, aPlace_ptr, aPlace_at, dropC_cells, aStore_eq, storeGo_ptr, setC_one, setC_row, setAll_nil, setAll_cons, aAlloc_eq, aBox_eq, aIndexAddr_eq, ixGo_sl, ixGo_imm, ixGo_ptr, ixGo_at, aLen_sl, aLen_imm, aLen_snil, aLen_z0, aLen_mnil, aLen_str, makeMap_nil, aBuild_go, aFill_nil, aFill_cons, fillGo_some, aFieldOf_eq, partGo_row, partGo_one, buildGo_struct, buildGo_array, push_n, set_n, push_glob, set_glob, get_push_new, get_set_same, set_set, set_push, get_push2, get_push2', set_push2, set_push2', get_push3a, get_push3b, get_push3c, get_push4a, get_push4b, get_push4c, get_push4d, set_push3a, set_push3b, set_push3c, set_push4a, set_push4b, set_push4c, set_push4d, List.getElem?_cons_zero, List.getElem?_cons_succ, Int.reduceBEq, Int.reduceBNe, bne_self_eq_false, beq_self_eq_true, Int.reduceLT, Int.reduceLE, Int.reduceNeg, Option.some.injEq, Bool.false_eq_true, decide_true, decide_false, reduceIte, Nat.reduceEqDiff, Nat.reduceAdd, Nat.reduceLT, Nat.reduceLeDiff, Nat.reduceMul, Nat.reduceSub, reduceCtorEq, List.map_cons, List.map_nil, Option.map_some, Option.map_none, Nat.add_zero, Nat.zero_add, Nat.zero_le, List.length_cons, List.length_nil, List.drop_zero, List.drop_succ_cons, List.drop_nil, List.take_succ_cons, List.take_zero, List.take_nil, List.set_cons_zero, List.set_cons_succ, List.nil_append, List.append_nil, List.cons_append, and_true, true_and, and_self, if_true, if_false, Bool.and_true, Bool.true_and, Bool.and_self, Bool.not_true, Bool.not_false, Nat.zero_lt_succ, Nat.lt_irrefl, Nat.le_refl, ft_36_1, ft_36_2, kt_34, lt_3, lt_34, lt_74, pl_74, sl_34, st_9, zc_74, zt_74, cc, f1, f2, l1, l2, cl, cnvB9, retA_ret, retA_normal, Try.results40, resultsC_1, resultA_tmp, resultA_cell]
  exact hid_mk ⟨rfl, (Keep.push _ _ _).then_push _⟩
theorem sk_vote : structK Try.prog 74 = some [0, 2] := by kernel_rfl
theorem mp_vote : ∃ d, mapT Try.prog 70 = some (74, 3, d) ∧ scalarKind d = false := by
  have h : (mapT Try.prog 70).map (fun q => (q.1, q.2.1, scalarKind q.2.2)) = some (74, 3, false) := by kernel_rfl
  cases hm : mapT Try.prog 70 with
  | none => rw [hm] at h; cases h
  | some q =>
    rw [hm] at h
    obtain ⟨a, b, d⟩ := q
    simp only [Option.map_some, Option.some.injEq, Prod.mk.injEq] at h
    obtain ⟨rfl, rfl, h⟩ := h
    exact ⟨d, rfl, h⟩
theorem z0_v : zeroT Try.prog 3 = some (.int .i64 0) := by kernel_rfl
theorem keyOk_vote (e : Bool) (a : Int) (b : ByteArray) : keyOk Try.prog e 74 (votE (a, b)) = true := by
  cases e <;> kernel_rfl
theorem bytes_beq {a b : ByteArray} : (a == b) = true ↔ a = b := by
  constructor
  · intro h
    have : a.data == b.data := h
    have h2 : a.data = b.data := eq_of_beq this
    cases a; cases b; simp at h2; rw [h2]
  · rintro rfl
    show (a.data == a.data) = true
    simp
theorem kVote {d : TypeDesc} (hd : scalarKind d = false) : KeyEnc Try.prog 74 d votE where
  eq a b := by
    have h : eqK [0, 2] [.int .i64 a.1, .string a.2] [.int .i64 b.1, .string b.2] = some (a.1 == b.1 && a.2 == b.2) := by simp [eqK, beq_toListBytes]
    obtain ⟨vx, vy, hx, hy⟩ := eqK_flat h
    obtain ⟨h1, _⟩ := pr_equal_agg sk_vote h hx hy
    have : eqKey Try.prog 74 d (votE a) (votE b) = some (a.1 == b.1 && a.2 == b.2) := by
      unfold eqKey votE
      simp only [plainV, hx, hy, Option.map_some, hd, h1]
      rfl
    rw [this, Option.some.injEq, Bool.eq_iff_iff]
    simp only [Bool.and_eq_true, beq_iff_eq, bytes_beq, decide_eq_true_eq]
    exact ⟨fun h => Prod.ext h.1 h.2, fun h => ⟨congrArg Prod.fst h, congrArg Prod.snd h⟩⟩
  ok b a := keyOk_vote b a.1 a.2
  bits a := by
    refine ⟨_, rfl, ?_⟩
    simp [Instr.sameBits, bytes_beq]
abbrev EntV := List (Nat × Vote × Int)
def vtE (l : EntV) : List (Nat × V × V) := mapK votE (V.int .i64) l
theorem lookVt {h : AHeap} {i cl : Nat} (l : EntV) (v : Vote) (hg : h.get i = .map (vtE l) cl) : aLookup Try.prog 70 (.map i) (votE v) false h = some (.int .i64 ((kget l v).getD 0)) := by
  obtain ⟨d, hm, hd⟩ := mp_vote
  have := lookup_k (enc := V.int .i64) (ok := false) (kVote hd) (k := v) hm z0_v hg
  rw [this]
  cases kget l v <;> simp [absV, absF]
theorem entVt {h : AHeap} {i cl : Nat} (l : EntV) (v : Vote) (hg : h.get i = .map (vtE l) cl) (hs : Stamps (vtE l) cl) :
    ∃ (st : Nat) (o : AObj), aMapEntry Try.prog 70 (.map i) (votE v) h = some (.tuple [.int .i64 ((kget l v).getD 0), .int .i64 (st : Nat)], h.set i o) ∧
      (∀ (h2 : AHeap) (a : Int), h2.get i = o → aEntryStore (.map i) (.int .i64 (st : Nat)) (.int .i64 a) h2 = some (h2.set i (.map (vtE (kset cl l v a)) (kclk cl l v)))) ∧
      ∀ (h2 : AHeap), h2.get i = o → aLookup Try.prog 70 (.map i) (votE v) false h2 = some (.int .i64 ((kget l v).getD 0)) := by
  obtain ⟨d, hm, hd⟩ := mp_vote
  obtain ⟨st, o, h1, h2, h3⟩ := entry_k (enc := V.int .i64) (z0 := 0) (kVote hd) (k := v) hm z0_v (by simp [absV, absF]) hg hs
  exact ⟨st, o, h1, fun hh a hq => h2 hh _ a hq rfl, h3⟩
end Go.Proofs.Ytmgjjhpkhjebbaa.Pk
