/-
  What functions of the program do, told of abstract states. Conditions: as each theorem says.
-/
import Derived.Test.YtcnjnmgnhkjgfaaPkB
namespace Go.Proofs.Ytcnjnmgnhkjgfaa.Pk
open Go Go.Proofs Go.Proofs.Ytcnjnmgnhkjgfaa.Sim
set_option linter.unusedVariables false
set_option linter.unusedSimpArgs false

theorem tup0 {a b c : Value} : (#[a, b, c] : Array Value)[0]? = some a := rfl
theorem tup1 {a b c : Value} : (#[a, b, c] : Array Value)[1]? = some b := rfl
theorem tup2 {a b c : Value} : (#[a, b, c] : Array Value)[2]? = some c := rfl
theorem tup20 {a b : Value} : (#[a, b] : Array Value)[0]? = some a := rfl
theorem tup21 {a b : Value} : (#[a, b] : Array Value)[1]? = some b := rfl
theorem cal12 : callable Try.prog 12 = true := by kernel_rfl
theorem cal14 : callable Try.prog 14 = true := by kernel_rfl
theorem cal20 : callable Try.prog 20 = true := by kernel_rfl
theorem cal21 : callable Try.prog 21 = true := by kernel_rfl
theorem cal30 : callable Try.prog 30 = true := by kernel_rfl
theorem cal33 : callable Try.prog 33 = true := by kernel_rfl
theorem cal34 : callable Try.prog 34 = true := by kernel_rfl
theorem cal35 : callable Try.prog 35 = true := by kernel_rfl
theorem row22 : rowT Try.prog 22 = some false := by kernel_rfl
theorem sz22 : sizeT Try.prog 22 = some 1 := by kernel_rfl

def ptrId : Value → Option Nat
  | .pointer (some a) => some a.block
  | _ => none
/-- A reader, and what it has left; its blocks are numbered from lo to below hi. -/
def RD (h : AHeap) (lo hi : Nat) (p : Value) (bs : List Nat) : Prop :=
  (p = .pointer none ∧ bs = []) ∨ ∃ i v, p = .pointer (some ⟨i, 0, none⟩) ∧ (lo ≤ i ∧ i < hi ∧ hi ≤ h.n) ∧ h.get i = .cells [v] 64 none true ∧ Sl h 1 v (bytesV bs) ∧ capKnown v ∧ idOf v ≠ some i ∧ ∀ k, idOf v = some k → lo ≤ k ∧ k < hi

theorem RD.keep {h h' : AHeap} {lo hi : Nat} {p : Value} {bs : List Nat} {own : Option Nat} (hr : RD h lo hi p bs) (hk : Keep h h' own) (hne : ∀ k, own = some k → k < lo ∨ hi ≤ k) : RD h' lo hi p bs := by
  rcases hr with hr | ⟨i, v, rfl, hi1, hg, hs, hc, hid, hv⟩
  · exact .inl hr
  · refine .inr ⟨i, v, rfl, ⟨hi1.1, hi1.2.1, Nat.le_trans hi1.2.2 hk.n⟩, ?_, hs.keep hk ?_, hc, hid, hv⟩
    · rw [hk.get i (by omega) (by intro hh; have := hne i hh.symm; omega), hg]
    · cases hv2 : idOf v with
      | none => left; rfl
      | some k => right; intro hh; have := hne k hh.symm; have := hv k hv2; omega

theorem sz22' : sizeT Try.prog 22 = some (0 + 1) := sz22
theorem fld64 {i o : Nat} : aField Try.prog 64 (.pointer (some ⟨i, o, none⟩)) 0 = some (.pointer (some ⟨i, o + 0, none⟩)) := by
  refine (field_addr (n := 0) Try.underlying64 rfl ?_).trans ?_
  · exact sz22
  · rfl
theorem build64 (v : Value) (hv : v.cells = #[v]) : aBuild Try.prog 64 [(0, v)] = some (.agg #[v]) := by
  have hz : zeroPlain Try.prog 64 = true := by kernel_rfl
  have hi : (Try.prog.info? 64).map (fun i => (i.zero, i.size)) = some (some (.agg #[.slice none 0 0]), 1) := by kernel_rfl
  unfold aBuild
  rw [if_pos hz]
  cases hq : Try.prog.info? 64 with
  | none => simp [hq] at hi
  | some ti =>
    simp [hq] at hi
    have h22 : (Try.prog.info? 22).map (·.size) = some 1 := by kernel_rfl
    cases hq2 : Try.prog.info? 22 with
    | none => simp [hq2] at h22
    | some t2 =>
      simp [hq2] at h22
      simp [Program.built, hq, Try.underlying64, hi, hq2, h22, Instr.fill, hv, cells_agg]

theorem rest (p : Value) (bs : List Nat) (h : AHeap) {lo hi : Nat} (hr : RD h lo hi p bs) : SCalls Try.prog 35 [p] h (fun r h' => h' = h ∧ Sl h 1 r (bytesV bs) ∧ (p ≠ .pointer none → capKnown r ∧ ∃ i, p = .pointer (some ⟨i, 0, none⟩) ∧ h.get i = .cells [r] 64 none true)) := by
  refine SCalls.enterI (c := _) Try.func35 rfl (by kernel_rfl) (by simp) ?_
  rcases hr with ⟨rfl, rfl⟩ | ⟨i, v, rfl, hi1, hg, hs, hc, hid, hv⟩
  · simp only [wpA_skip, wpA_region, wpA_seq, wpA_cond, wpA_block, wpA_exit, wpA_goto, wpA_label, wpA_ret, wpA_loop, wpA_scope, wpA_draw, condI_true, condI_false, pt_mk, seqQ_normal, seqQ_exit, seqQ_goto, seqQ_ret, blkQ_normal, blkQ_exit, blkQ_goto, blkQ_ret, endI_mk, goE, andThen_normal, andThen_exit, andThen_goto, andThen_ret, goI_out, goI_ops, goI_mk, opsA_nil, opsA_cons, opsA_guardS, guardS_some, guardI_same, guardI_tf, guardI_ft, boolOf_bool, slotAt_zero, slotAt_succ, stepA_move, stepA_assign, stepA_pick, stepA_alloc, stepA_box, stepA_build, stepA_buildSlice, stepA_load, stepA_store, stepA_nilCheck, stepA_binOp, stepA_unOp, stepA_convert, stepA_makeSlice, stepA_slice, stepA_fieldAddr, stepA_field, stepA_indexAddr, stepA_index, stepA_extract, stepA_len, stepA_append, stepA_copy, stepA_call, thenV_some, thenH_some, thenS_some, thenV_none, thenH_none, pickV_true, pickV_false, nilV_some, extV_tuple, eval_tmp, eval_const, eval_func, put_some, put_none, enterF_zero, enterF_succ, aBin_add, aBin_sub, aBin_mul, aBin_eql, aBin_neq, aBin_lss, aBin_leq, aBin_gtr, aBin_geq, aBin_and, aBin_or, aBin_xor, aBin_andNot, aUn_not, aUn_neg, aBin_str_eql, aBin_str_neq, Option.some.injEq, Bool.false_eq_true, cells_int, cells_bool, cells_string, cells_pointer, cells_slice, cells_agg, decide_true, decide_false, reduceIte, Nat.reduceEqDiff, Nat.reduceAdd, Nat.reduceLT, Nat.reduceLeDiff, Nat.reduceMul, Nat.reduceSub, reduceCtorEq, List.map_cons, List.map_nil, Option.map_some, Option.map_none, ptr_nilnil_eql Try.underlying31, retA_ret, Try.results35, resultsA_1]
    exact ⟨trivial, .inl ⟨rfl, rfl⟩, fun h => absurd rfl h⟩
  · simp only [wpA_skip, wpA_region, wpA_seq, wpA_cond, wpA_block, wpA_exit, wpA_goto, wpA_label, wpA_ret, wpA_loop, wpA_scope, wpA_draw, condI_true, condI_false, pt_mk, seqQ_normal, seqQ_exit, seqQ_goto, seqQ_ret, blkQ_normal, blkQ_exit, blkQ_goto, blkQ_ret, endI_mk, goE, andThen_normal, andThen_exit, andThen_goto, andThen_ret, goI_out, goI_ops, goI_mk, opsA_nil, opsA_cons, opsA_guardS, guardS_some, guardI_same, guardI_tf, guardI_ft, boolOf_bool, slotAt_zero, slotAt_succ, stepA_move, stepA_assign, stepA_pick, stepA_alloc, stepA_box, stepA_build, stepA_buildSlice, stepA_load, stepA_store, stepA_nilCheck, stepA_binOp, stepA_unOp, stepA_convert, stepA_makeSlice, stepA_slice, stepA_fieldAddr, stepA_field, stepA_indexAddr, stepA_index, stepA_extract, stepA_len, stepA_append, stepA_copy, stepA_call, thenV_some, thenH_some, thenS_some, thenV_none, thenH_none, pickV_true, pickV_false, nilV_some, extV_tuple, eval_tmp, eval_const, eval_func, put_some, put_none, enterF_zero, enterF_succ, aBin_add, aBin_sub, aBin_mul, aBin_eql, aBin_neq, aBin_lss, aBin_leq, aBin_gtr, aBin_geq, aBin_and, aBin_or, aBin_xor, aBin_andNot, aUn_not, aUn_neg, aBin_str_eql, aBin_str_neq, Option.some.injEq, Bool.false_eq_true, cells_int, cells_bool, cells_string, cells_pointer, cells_slice, cells_agg, decide_true, decide_false, reduceIte, Nat.reduceEqDiff, Nat.reduceAdd, Nat.reduceLT, Nat.reduceLeDiff, Nat.reduceMul, Nat.reduceSub, reduceCtorEq, List.map_cons, List.map_nil, Option.map_some, Option.map_none, ptr_nil_eql Try.underlying31, fld64, Nat.add_zero, load1 row22 sz22 hg (List.getElem?_cons_zero), retA_ret, Try.results35, resultsA_1]
    exact ⟨trivial, hs, fun _ => ⟨hc, i, rfl, hg⟩⟩

theorem From (s : Value) (bs : List Nat) (h : AHeap) (ho : Sl h 1 s (bytesV bs)) (hc : bs.length ≤ 2 ^ 40) :
    SCalls Try.prog 20 [s] h (fun r h' => RD h' h.n h'.n r bs ∧ r ≠ .pointer none ∧ Keep h h' none) := by
  refine SCalls.enterI (c := _) Try.func20 rfl (by kernel_rfl) (by simp) ?_
  simp only [wpA_skip, wpA_region, wpA_seq, wpA_cond, wpA_block, wpA_exit, wpA_goto, wpA_label, wpA_ret, wpA_loop, wpA_scope, wpA_draw, condI_true, condI_false, pt_mk, seqQ_normal, seqQ_exit, seqQ_goto, seqQ_ret, blkQ_normal, blkQ_exit, blkQ_goto, blkQ_ret, endI_mk, goE, andThen_normal, andThen_exit, andThen_goto, andThen_ret, goI_out, goI_ops, goI_mk, opsA_nil, opsA_cons, opsA_guardS, guardS_some, guardI_same, guardI_tf, guardI_ft, boolOf_bool, slotAt_zero, slotAt_succ, stepA_move, stepA_assign, stepA_pick, stepA_alloc, stepA_box, stepA_build, stepA_buildSlice, stepA_load, stepA_store, stepA_nilCheck, stepA_binOp, stepA_unOp, stepA_convert, stepA_makeSlice, stepA_slice, stepA_fieldAddr, stepA_field, stepA_indexAddr, stepA_index, stepA_extract, stepA_len, stepA_append, stepA_copy, stepA_call, thenV_some, thenH_some, thenS_some, thenV_none, thenH_none, pickV_true, pickV_false, nilV_some, extV_tuple, eval_tmp, eval_const, eval_func, put_some, put_none, enterF_zero, enterF_succ, aBin_add, aBin_sub, aBin_mul, aBin_eql, aBin_neq, aBin_lss, aBin_leq, aBin_gtr, aBin_geq, aBin_and, aBin_or, aBin_xor, aBin_andNot, aUn_not, aUn_neg, aBin_str_eql, aBin_str_neq, Option.some.injEq, Bool.false_eq_true, cells_int, cells_bool, cells_string, cells_pointer, cells_slice, cells_agg, decide_true, decide_false, reduceIte, Nat.reduceEqDiff, Nat.reduceAdd, Nat.reduceLT, Nat.reduceLeDiff, Nat.reduceMul, Nat.reduceSub, reduceCtorEq, List.map_cons, List.map_nil, Option.map_some, Option.map_none]
  refine callI_of cal32 (fresh s bs 0 h ho hc (by decide)) fun r1 h1 ⟨e1, o1, k1⟩ => ?_
  subst e1
  simp only [wpA_skip, wpA_region, wpA_seq, wpA_cond, wpA_block, wpA_exit, wpA_goto, wpA_label, wpA_ret, wpA_loop, wpA_scope, wpA_draw, condI_true, condI_false, pt_mk, seqQ_normal, seqQ_exit, seqQ_goto, seqQ_ret, blkQ_normal, blkQ_exit, blkQ_goto, blkQ_ret, endI_mk, goE, andThen_normal, andThen_exit, andThen_goto, andThen_ret, goI_out, goI_ops, goI_mk, opsA_nil, opsA_cons, opsA_guardS, guardS_some, guardI_same, guardI_tf, guardI_ft, boolOf_bool, slotAt_zero, slotAt_succ, stepA_move, stepA_assign, stepA_pick, stepA_alloc, stepA_box, stepA_build, stepA_buildSlice, stepA_load, stepA_store, stepA_nilCheck, stepA_binOp, stepA_unOp, stepA_convert, stepA_makeSlice, stepA_slice, stepA_fieldAddr, stepA_field, stepA_indexAddr, stepA_index, stepA_extract, stepA_len, stepA_append, stepA_copy, stepA_call, thenV_some, thenH_some, thenS_some, thenV_none, thenH_none, pickV_true, pickV_false, nilV_some, extV_tuple, eval_tmp, eval_const, eval_func, put_some, put_none, enterF_zero, enterF_succ, aBin_add, aBin_sub, aBin_mul, aBin_eql, aBin_neq, aBin_lss, aBin_leq, aBin_gtr, aBin_geq, aBin_and, aBin_or, aBin_xor, aBin_andNot, aUn_not, aUn_neg, aBin_str_eql, aBin_str_neq, Option.some.injEq, Bool.false_eq_true, cells_int, cells_bool, cells_string, cells_pointer, cells_slice, cells_agg, decide_true, decide_false, reduceIte, Nat.reduceEqDiff, Nat.reduceAdd, Nat.reduceLT, Nat.reduceLeDiff, Nat.reduceMul, Nat.reduceSub, reduceCtorEq, List.map_cons, List.map_nil, Option.map_some, Option.map_none, build64 _ cells_slice, retA_ret, Try.results20, resultsA_1]
  have k2 := Keep.push h1 (.cells [.slice (some ⟨h.n, 0, none⟩) bs.length (bs.length + 0)] 64 none true) (none : Option Nat)
  have hlt : h.n < h1.n := o1.lt _ rfl
  refine ⟨.inr ⟨h1.n, _, rfl, by rw [push_n]; omega, get_push_new, o1.sl.keep k2 (.inr (by simp [idOf])), ⟨by omega, by unfold unk; omega⟩, by simp [idOf]; omega, fun k hk => ?_⟩, by simp, k1.trans k2 (.inl rfl)⟩
  simp [idOf] at hk
  rw [push_n]
  omega

theorem Left (p : Value) (bs : List Nat) (h : AHeap) {lo hi : Nat} (hr : RD h lo hi p bs) : SCalls Try.prog 30 [p] h (fun r h' => h' = h ∧ r = .int .i64 (bs.length : Nat)) := by
  refine SCalls.enterI (c := _) Try.func30 rfl (by kernel_rfl) (by simp) ?_
  simp only [wpA_skip, wpA_region, wpA_seq, wpA_cond, wpA_block, wpA_exit, wpA_goto, wpA_label, wpA_ret, wpA_loop, wpA_scope, wpA_draw, condI_true, condI_false, pt_mk, seqQ_normal, seqQ_exit, seqQ_goto, seqQ_ret, blkQ_normal, blkQ_exit, blkQ_goto, blkQ_ret, endI_mk, goE, andThen_normal, andThen_exit, andThen_goto, andThen_ret, goI_out, goI_ops, goI_mk, opsA_nil, opsA_cons, opsA_guardS, guardS_some, guardI_same, guardI_tf, guardI_ft, boolOf_bool, slotAt_zero, slotAt_succ, stepA_move, stepA_assign, stepA_pick, stepA_alloc, stepA_box, stepA_build, stepA_buildSlice, stepA_load, stepA_store, stepA_nilCheck, stepA_binOp, stepA_unOp, stepA_convert, stepA_makeSlice, stepA_slice, stepA_fieldAddr, stepA_field, stepA_indexAddr, stepA_index, stepA_extract, stepA_len, stepA_append, stepA_copy, stepA_call, thenV_some, thenH_some, thenS_some, thenV_none, thenH_none, pickV_true, pickV_false, nilV_some, extV_tuple, eval_tmp, eval_const, eval_func, put_some, put_none, enterF_zero, enterF_succ, aBin_add, aBin_sub, aBin_mul, aBin_eql, aBin_neq, aBin_lss, aBin_leq, aBin_gtr, aBin_geq, aBin_and, aBin_or, aBin_xor, aBin_andNot, aUn_not, aUn_neg, aBin_str_eql, aBin_str_neq, Option.some.injEq, Bool.false_eq_true, cells_int, cells_bool, cells_string, cells_pointer, cells_slice, cells_agg, decide_true, decide_false, reduceIte, Nat.reduceEqDiff, Nat.reduceAdd, Nat.reduceLT, Nat.reduceLeDiff, Nat.reduceMul, Nat.reduceSub, reduceCtorEq, List.map_cons, List.map_nil, Option.map_some, Option.map_none]
  refine callI_of cal35 (rest p bs h hr) fun r1 h1 ⟨e1, s1, _⟩ => ?_
  subst e1
  have hl := s1.aLen Try.underlying22
  rw [s1.len, bytesV_length] at hl
  simp only [wpA_skip, wpA_region, wpA_seq, wpA_cond, wpA_block, wpA_exit, wpA_goto, wpA_label, wpA_ret, wpA_loop, wpA_scope, wpA_draw, condI_true, condI_false, pt_mk, seqQ_normal, seqQ_exit, seqQ_goto, seqQ_ret, blkQ_normal, blkQ_exit, blkQ_goto, blkQ_ret, endI_mk, goE, andThen_normal, andThen_exit, andThen_goto, andThen_ret, goI_out, goI_ops, goI_mk, opsA_nil, opsA_cons, opsA_guardS, guardS_some, guardI_same, guardI_tf, guardI_ft, boolOf_bool, slotAt_zero, slotAt_succ, stepA_move, stepA_assign, stepA_pick, stepA_alloc, stepA_box, stepA_build, stepA_buildSlice, stepA_load, stepA_store, stepA_nilCheck, stepA_binOp, stepA_unOp, stepA_convert, stepA_makeSlice, stepA_slice, stepA_fieldAddr, stepA_field, stepA_indexAddr, stepA_index, stepA_extract, stepA_len, stepA_append, stepA_copy, stepA_call, thenV_some, thenH_some, thenS_some, thenV_none, thenH_none, pickV_true, pickV_false, nilV_some, extV_tuple, eval_tmp, eval_const, eval_func, put_some, put_none, enterF_zero, enterF_succ, aBin_add, aBin_sub, aBin_mul, aBin_eql, aBin_neq, aBin_lss, aBin_leq, aBin_gtr, aBin_geq, aBin_and, aBin_or, aBin_xor, aBin_andNot, aUn_not, aUn_neg, aBin_str_eql, aBin_str_neq, Option.some.injEq, Bool.false_eq_true, cells_int, cells_bool, cells_string, cells_pointer, cells_slice, cells_agg, decide_true, decide_false, reduceIte, Nat.reduceEqDiff, Nat.reduceAdd, Nat.reduceLT, Nat.reduceLeDiff, Nat.reduceMul, Nat.reduceSub, reduceCtorEq, List.map_cons, List.map_nil, Option.map_some, Option.map_none, hl, retA_ret, Try.results30, resultsA_1]
  exact ⟨trivial, trivial⟩

theorem dec_err (l : List Nat) : ∀ k n, (dec l k n).2.2 ≠ 0 → dec l k n = (0, 0, (dec l k n).2.2) := by
  induction l with
  | nil => intro k n _; rfl
  | cons g r ih =>
    intro k n h
    unfold dec at h ⊢
    split
    · rfl
    · rename_i h1
      rw [if_neg h1] at h
      split
      · rename_i h2
        rw [if_pos h2] at h
        exact ih _ _ h
      · rename_i h2
        rw [if_neg h2] at h
        split
        · rfl
        · rename_i h3
          rw [if_neg h3] at h
          simp at h
theorem dec_used (l : List Nat) : ∀ k n, (dec l k n).2.1 ≤ l.length + k := by
  induction l with
  | nil => intro k n; simp [dec]
  | cons g r ih =>
    intro k n
    unfold dec
    split
    · simp
    · split
      · have := ih (k + 1) (n + g % 128 * 2 ^ (7 * k))
        simp; omega
      · split
        · simp
        · simp; omega

/-- (*Reader).Uint -/
theorem RUint (p : Value) (bs : List Nat) (h : AHeap) {lo hi : Nat} (hr : RD h lo hi p bs) (hb : ∀ b ∈ bs, b < 256) (hc : bs.length ≤ 2 ^ 40) :
    SCalls Try.prog 21 [p] h (fun r h' => r = .tuple #[.int .u64 ((dec bs 0 0).1 : Nat), .int .i64 ((dec bs 0 0).2.2 : Nat)] ∧ RD h' lo hi p (bs.drop (dec bs 0 0).2.1) ∧ Keep h h' (ptrId p)) := by
  refine SCalls.enterI (c := _) Try.func21 rfl (by kernel_rfl) (by simp) ?_
  simp only [wpA_skip, wpA_region, wpA_seq, wpA_cond, wpA_block, wpA_exit, wpA_goto, wpA_label, wpA_ret, wpA_loop, wpA_scope, wpA_draw, condI_true, condI_false, pt_mk, seqQ_normal, seqQ_exit, seqQ_goto, seqQ_ret, blkQ_normal, blkQ_exit, blkQ_goto, blkQ_ret, endI_mk, goE, andThen_normal, andThen_exit, andThen_goto, andThen_ret, goI_out, goI_ops, goI_mk, opsA_nil, opsA_cons, opsA_guardS, guardS_some, guardI_same, guardI_tf, guardI_ft, boolOf_bool, slotAt_zero, slotAt_succ, stepA_move, stepA_assign, stepA_pick, stepA_alloc, stepA_box, stepA_build, stepA_buildSlice, stepA_load, stepA_store, stepA_nilCheck, stepA_binOp, stepA_unOp, stepA_convert, stepA_makeSlice, stepA_slice, stepA_fieldAddr, stepA_field, stepA_indexAddr, stepA_index, stepA_extract, stepA_len, stepA_append, stepA_copy, stepA_call, thenV_some, thenH_some, thenS_some, thenV_none, thenH_none, pickV_true, pickV_false, nilV_some, extV_tuple, eval_tmp, eval_const, eval_func, put_some, put_none, enterF_zero, enterF_succ, aBin_add, aBin_sub, aBin_mul, aBin_eql, aBin_neq, aBin_lss, aBin_leq, aBin_gtr, aBin_geq, aBin_and, aBin_or, aBin_xor, aBin_andNot, aUn_not, aUn_neg, aBin_str_eql, aBin_str_neq, Option.some.injEq, Bool.false_eq_true, cells_int, cells_bool, cells_string, cells_pointer, cells_slice, cells_agg, decide_true, decide_false, reduceIte, Nat.reduceEqDiff, Nat.reduceAdd, Nat.reduceLT, Nat.reduceLeDiff, Nat.reduceMul, Nat.reduceSub, reduceCtorEq, List.map_cons, List.map_nil, Option.map_some, Option.map_none]
  refine callI_of cal35 (rest p bs h hr) fun r1 h1 ⟨e1, s1, kn⟩ => ?_
  subst e1
  simp only [wpA_skip, wpA_region, wpA_seq, wpA_cond, wpA_block, wpA_exit, wpA_goto, wpA_label, wpA_ret, wpA_loop, wpA_scope, wpA_draw, condI_true, condI_false, pt_mk, seqQ_normal, seqQ_exit, seqQ_goto, seqQ_ret, blkQ_normal, blkQ_exit, blkQ_goto, blkQ_ret, endI_mk, goE, andThen_normal, andThen_exit, andThen_goto, andThen_ret, goI_out, goI_ops, goI_mk, opsA_nil, opsA_cons, opsA_guardS, guardS_some, guardI_same, guardI_tf, guardI_ft, boolOf_bool, slotAt_zero, slotAt_succ, stepA_move, stepA_assign, stepA_pick, stepA_alloc, stepA_box, stepA_build, stepA_buildSlice, stepA_load, stepA_store, stepA_nilCheck, stepA_binOp, stepA_unOp, stepA_convert, stepA_makeSlice, stepA_slice, stepA_fieldAddr, stepA_field, stepA_indexAddr, stepA_index, stepA_extract, stepA_len, stepA_append, stepA_copy, stepA_call, thenV_some, thenH_some, thenS_some, thenV_none, thenH_none, pickV_true, pickV_false, nilV_some, extV_tuple, eval_tmp, eval_const, eval_func, put_some, put_none, enterF_zero, enterF_succ, aBin_add, aBin_sub, aBin_mul, aBin_eql, aBin_neq, aBin_lss, aBin_leq, aBin_gtr, aBin_geq, aBin_and, aBin_or, aBin_xor, aBin_andNot, aUn_not, aUn_neg, aBin_str_eql, aBin_str_neq, Option.some.injEq, Bool.false_eq_true, cells_int, cells_bool, cells_string, cells_pointer, cells_slice, cells_agg, decide_true, decide_false, reduceIte, Nat.reduceEqDiff, Nat.reduceAdd, Nat.reduceLT, Nat.reduceLeDiff, Nat.reduceMul, Nat.reduceSub, reduceCtorEq, List.map_cons, List.map_nil, Option.map_some, Option.map_none]
  refine callI_of cal34 (number r1 bs h1 s1 hb hc) fun r2 h2 ⟨e2, e3⟩ => ?_
  subst e2
  subst e3
  by_cases herr : (dec bs 0 0).2.2 = 0
  · have hne : ((((dec bs 0 0).2.2 : Nat) : Int) != 0) = false := by simp [herr]
    have hp : p ≠ .pointer none := by
      rintro rfl
      rcases hr with ⟨_, rfl⟩ | ⟨i, v, hh, _⟩
      · simp [dec] at herr
      · cases hh
    obtain ⟨hck, i, rfl, hg⟩ := kn hp
    have hused := dec_used bs 0 0
    obtain ⟨v', hv', hs', hc', hid'⟩ := s1.drop (t := 22) hck Try.underlying22 sz5 (dec bs 0 0).2.1 (by rw [bytesV_length]; omega) (ik := .i64)
    have hv1 : v'.cells = #[v'] ∧ v'.oneCell' = true := by cases v' <;> simp_all [capKnown, Value.cells, Value.oneCell']
    have hrng : (lo ≤ i ∧ i < hi ∧ hi ≤ h2.n) ∧ idOf r1 ≠ some i ∧ ∀ k, idOf r1 = some k → lo ≤ k ∧ k < hi := by
      rcases hr with ⟨hh, _⟩ | ⟨j, v, hh, hj, hgj, _, _, hid, hv⟩
      · cases hh
      · simp at hh; subst hh; rw [hg] at hgj; simp at hgj; subst hgj; exact ⟨hj, hid, hv⟩
    obtain ⟨hilt, hidr, hvr⟩ := hrng
    simp only [wpA_skip, wpA_region, wpA_seq, wpA_cond, wpA_block, wpA_exit, wpA_goto, wpA_label, wpA_ret, wpA_loop, wpA_scope, wpA_draw, condI_true, condI_false, pt_mk, seqQ_normal, seqQ_exit, seqQ_goto, seqQ_ret, blkQ_normal, blkQ_exit, blkQ_goto, blkQ_ret, endI_mk, goE, andThen_normal, andThen_exit, andThen_goto, andThen_ret, goI_out, goI_ops, goI_mk, opsA_nil, opsA_cons, opsA_guardS, guardS_some, guardI_same, guardI_tf, guardI_ft, boolOf_bool, slotAt_zero, slotAt_succ, stepA_move, stepA_assign, stepA_pick, stepA_alloc, stepA_box, stepA_build, stepA_buildSlice, stepA_load, stepA_store, stepA_nilCheck, stepA_binOp, stepA_unOp, stepA_convert, stepA_makeSlice, stepA_slice, stepA_fieldAddr, stepA_field, stepA_indexAddr, stepA_index, stepA_extract, stepA_len, stepA_append, stepA_copy, stepA_call, thenV_some, thenH_some, thenS_some, thenV_none, thenH_none, pickV_true, pickV_false, nilV_some, extV_tuple, eval_tmp, eval_const, eval_func, put_some, put_none, enterF_zero, enterF_succ, aBin_add, aBin_sub, aBin_mul, aBin_eql, aBin_neq, aBin_lss, aBin_leq, aBin_gtr, aBin_geq, aBin_and, aBin_or, aBin_xor, aBin_andNot, aUn_not, aUn_neg, aBin_str_eql, aBin_str_neq, Option.some.injEq, Bool.false_eq_true, cells_int, cells_bool, cells_string, cells_pointer, cells_slice, cells_agg, decide_true, decide_false, reduceIte, Nat.reduceEqDiff, Nat.reduceAdd, Nat.reduceLT, Nat.reduceLeDiff, Nat.reduceMul, Nat.reduceSub, reduceCtorEq, List.map_cons, List.map_nil, Option.map_some, Option.map_none, decV, tup0, tup1, tup2, hne, fld64, Nat.add_zero, load1 row22 sz22 hg (List.getElem?_cons_zero), hv', store1 sz22 hg (show 0 < [r1].length by simp) hv1.1 hv1.2, retA_ret, Try.results21, resultsA_2, List.set_cons_zero]
    have kk : Keep h2 (h2.set i (.cells [v'] 64 none true)) (some i) := ⟨Nat.le_refl _, fun j hj hne => by simp [AHeap.set]; intro hji; subst hji; simp at hne⟩
    refine ⟨by simp [herr], .inr ⟨i, v', rfl, hilt, by simp [AHeap.set], ?_, hc', by rw [hid']; exact hidr, by rw [hid']; exact hvr⟩, kk⟩
    have := hs'.keep kk (by rw [hid']; exact .inr hidr)
    simpa [bytesV, List.map_drop] using this
  · have hne : ((((dec bs 0 0).2.2 : Nat) : Int) != 0) = true := by simp; omega
    have hd := dec_err bs 0 0 herr
    simp only [wpA_skip, wpA_region, wpA_seq, wpA_cond, wpA_block, wpA_exit, wpA_goto, wpA_label, wpA_ret, wpA_loop, wpA_scope, wpA_draw, condI_true, condI_false, pt_mk, seqQ_normal, seqQ_exit, seqQ_goto, seqQ_ret, blkQ_normal, blkQ_exit, blkQ_goto, blkQ_ret, endI_mk, goE, andThen_normal, andThen_exit, andThen_goto, andThen_ret, goI_out, goI_ops, goI_mk, opsA_nil, opsA_cons, opsA_guardS, guardS_some, guardI_same, guardI_tf, guardI_ft, boolOf_bool, slotAt_zero, slotAt_succ, stepA_move, stepA_assign, stepA_pick, stepA_alloc, stepA_box, stepA_build, stepA_buildSlice, stepA_load, stepA_store, stepA_nilCheck, stepA_binOp, stepA_unOp, stepA_convert, stepA_makeSlice, stepA_slice, stepA_fieldAddr, stepA_field, stepA_indexAddr, stepA_index, stepA_extract, stepA_len, stepA_append, stepA_copy, stepA_call, thenV_some, thenH_some, thenS_some, thenV_none, thenH_none, pickV_true, pickV_false, nilV_some, extV_tuple, eval_tmp, eval_const, eval_func, put_some, put_none, enterF_zero, enterF_succ, aBin_add, aBin_sub, aBin_mul, aBin_eql, aBin_neq, aBin_lss, aBin_leq, aBin_gtr, aBin_geq, aBin_and, aBin_or, aBin_xor, aBin_andNot, aUn_not, aUn_neg, aBin_str_eql, aBin_str_neq, Option.some.injEq, Bool.false_eq_true, cells_int, cells_bool, cells_string, cells_pointer, cells_slice, cells_agg, decide_true, decide_false, reduceIte, Nat.reduceEqDiff, Nat.reduceAdd, Nat.reduceLT, Nat.reduceLeDiff, Nat.reduceMul, Nat.reduceSub, reduceCtorEq, List.map_cons, List.map_nil, Option.map_some, Option.map_none, decV, tup0, tup1, tup2, hne, retA_ret, Try.results21, resultsA_2]
    rw [hd]
    exact ⟨rfl, by simpa using hr, Keep.refl _ _⟩

theorem bXor_zero (a : Nat) (ha : a < 2 ^ 64) : bXor .u64 (a : Int) 0 = (a : Int) := by
  show IntKind.u64.wrap ((BitVec.ofInt 64 (a : Int) ^^^ BitVec.ofInt 64 0).toNat : Int) = _
  have e : BitVec.ofInt 64 (0 : Int) = BitVec.ofNat 64 0 := rfl
  have e1 : (BitVec.ofNat 64 a ^^^ BitVec.ofNat 64 0).toNat = a := by
    rw [BitVec.toNat_xor, BitVec.toNat_ofNat, BitVec.toNat_ofNat, Nat.zero_mod, Nat.xor_zero]
    exact Nat.mod_eq_of_lt ha
  rw [ofInt_nat, e, e1, IntKind.wrap_u64]
  omega
theorem bXor_ones (a : Nat) (ha : a < 2 ^ 64) : bXor .u64 (a : Int) 18446744073709551615 = ((18446744073709551615 - a : Nat) : Int) := by
  show IntKind.u64.wrap ((BitVec.ofInt 64 (a : Int) ^^^ BitVec.ofInt 64 18446744073709551615).toNat : Int) = _
  have e : BitVec.ofInt 64 (18446744073709551615 : Int) = BitVec.allOnes 64 := by decide
  have e1 : (BitVec.ofNat 64 a ^^^ BitVec.allOnes 64).toNat = 18446744073709551615 - a := by
    rw [BitVec.xor_allOnes, BitVec.toNat_not, BitVec.toNat_ofNat, Nat.mod_eq_of_lt ha]
  rw [ofInt_nat, e, e1, IntKind.wrap_u64]
  omega
theorem zig (n : Int) (h1 : -2 ^ 63 ≤ n) (h2 : n < 2 ^ 63) : bXor .u64 (IntKind.u64.wrap (IntKind.u64.wrap n * 2 ^ min (Int.toNat 1) IntKind.u64.bits)) (IntKind.u64.wrap (n.fdiv (2 ^ min (Int.toNat 63) IntKind.i64.bits))) =
    ((if 0 ≤ n then 2 * n.toNat else 2 * (-n).toNat - 1 : Nat) : Int) := by
  have e1 : (2 : Int) ^ min (Int.toNat 1) IntKind.u64.bits = 2 := by decide
  have e2 : (2 : Int) ^ min (Int.toNat 63) IntKind.i64.bits = 9223372036854775808 := by decide
  rw [e1, e2]
  have h1' : -9223372036854775808 ≤ n := by simpa using h1
  have h2' : n < 9223372036854775808 := by simpa using h2
  by_cases h0 : 0 ≤ n
  · have e3 : n.fdiv 9223372036854775808 = 0 := by rw [Int.fdiv_eq_ediv_of_nonneg _ (by omega)]; omega
    have e4 : IntKind.u64.wrap (IntKind.u64.wrap n * 2) = ((2 * n.toNat : Nat) : Int) := by rw [IntKind.wrap_u64, IntKind.wrap_u64]; omega
    have e5 : IntKind.u64.wrap 0 = 0 := by decide
    rw [e3, e4, e5, bXor_zero _ (by omega), if_pos h0]
  · have e3 : n.fdiv 9223372036854775808 = -1 := by rw [Int.fdiv_eq_ediv_of_nonneg _ (by omega)]; omega
    have e4 : IntKind.u64.wrap (IntKind.u64.wrap n * 2) = ((2 * n + 18446744073709551616).toNat : Int) := by rw [IntKind.wrap_u64, IntKind.wrap_u64]; omega
    have e5 : IntKind.u64.wrap (-1) = 18446744073709551615 := by decide
    rw [e3, e4, e5, bXor_ones _ (by omega), if_neg h0]
    omega

theorem zigzag (n : Int) (h : AHeap) (h1 : -2 ^ 63 ≤ n) (h2 : n < 2 ^ 63) : SCalls Try.prog 33 [.int .i64 n] h (fun r h' => h' = h ∧ r = .int .u64 ((if 0 ≤ n then 2 * n.toNat else 2 * (-n).toNat - 1 : Nat) : Int)) := by
  refine SCalls.enterI (c := _) Try.func33 rfl (by kernel_rfl) (by simp) ?_
  simp only [wpA_skip, wpA_region, wpA_seq, wpA_cond, wpA_block, wpA_exit, wpA_goto, wpA_label, wpA_ret, wpA_loop, wpA_scope, wpA_draw, condI_true, condI_false, pt_mk, seqQ_normal, seqQ_exit, seqQ_goto, seqQ_ret, blkQ_normal, blkQ_exit, blkQ_goto, blkQ_ret, endI_mk, goE, andThen_normal, andThen_exit, andThen_goto, andThen_ret, goI_out, goI_ops, goI_mk, opsA_nil, opsA_cons, opsA_guardS, guardS_some, guardI_same, guardI_tf, guardI_ft, boolOf_bool, slotAt_zero, slotAt_succ, stepA_move, stepA_assign, stepA_pick, stepA_alloc, stepA_box, stepA_build, stepA_buildSlice, stepA_load, stepA_store, stepA_nilCheck, stepA_binOp, stepA_unOp, stepA_convert, stepA_makeSlice, stepA_slice, stepA_fieldAddr, stepA_field, stepA_indexAddr, stepA_index, stepA_extract, stepA_len, stepA_append, stepA_copy, stepA_call, thenV_some, thenH_some, thenS_some, thenV_none, thenH_none, pickV_true, pickV_false, nilV_some, extV_tuple, eval_tmp, eval_const, eval_func, put_some, put_none, enterF_zero, enterF_succ, aBin_add, aBin_sub, aBin_mul, aBin_eql, aBin_neq, aBin_lss, aBin_leq, aBin_gtr, aBin_geq, aBin_and, aBin_or, aBin_xor, aBin_andNot, aUn_not, aUn_neg, aBin_str_eql, aBin_str_neq, Option.some.injEq, Bool.false_eq_true, cells_int, cells_bool, cells_string, cells_pointer, cells_slice, cells_agg, decide_true, decide_false, reduceIte, Nat.reduceEqDiff, Nat.reduceAdd, Nat.reduceLT, Nat.reduceLeDiff, Nat.reduceMul, Nat.reduceSub, reduceCtorEq, List.map_cons, List.map_nil, Option.map_some, Option.map_none, aBin_shl (show (0:Int) ≤ 1 by decide), aBin_shr (show (0:Int) ≤ 63 by decide), aConv_int Try.underlying2 Try.underlying23, retA_ret, Try.results33, resultsA_1]
  exact ⟨trivial, by rw [zig n h1 h2]⟩
def zz (n : Int) : Nat := if 0 ≤ n then 2 * n.toNat else 2 * (-n).toNat - 1
theorem zz_lt (n : Int) (h1 : -2 ^ 63 ≤ n) (h2 : n < 2 ^ 63) : zz n < 2 ^ 64 := by
  have h1' : -9223372036854775808 ≤ n := by simpa using h1
  have h2' : n < 9223372036854775808 := by simpa using h2
  unfold zz
  split <;> omega

theorem IntC (s : Value) (cs : List Nat) (n : Int) (h : AHeap) (ho : Sl h 1 s (bytesV cs)) (hc : cs.length ≤ 2 ^ 40) (h1 : -2 ^ 63 ≤ n) (h2 : n < 2 ^ 63) :
    SCalls Try.prog 14 [s, .int .i64 n] h (fun r h' => Own h' 5 1 r (bytesV (cs ++ enc (zz n))) ∧ Keep h h' none ∧ ∀ k, idOf r = some k → h.n ≤ k) := by
  refine SCalls.enterI (c := _) Try.func14 rfl (by kernel_rfl) (by simp) ?_
  simp only [wpA_skip, wpA_region, wpA_seq, wpA_cond, wpA_block, wpA_exit, wpA_goto, wpA_label, wpA_ret, wpA_loop, wpA_scope, wpA_draw, condI_true, condI_false, pt_mk, seqQ_normal, seqQ_exit, seqQ_goto, seqQ_ret, blkQ_normal, blkQ_exit, blkQ_goto, blkQ_ret, endI_mk, goE, andThen_normal, andThen_exit, andThen_goto, andThen_ret, goI_out, goI_ops, goI_mk, opsA_nil, opsA_cons, opsA_guardS, guardS_some, guardI_same, guardI_tf, guardI_ft, boolOf_bool, slotAt_zero, slotAt_succ, stepA_move, stepA_assign, stepA_pick, stepA_alloc, stepA_box, stepA_build, stepA_buildSlice, stepA_load, stepA_store, stepA_nilCheck, stepA_binOp, stepA_unOp, stepA_convert, stepA_makeSlice, stepA_slice, stepA_fieldAddr, stepA_field, stepA_indexAddr, stepA_index, stepA_extract, stepA_len, stepA_append, stepA_copy, stepA_call, thenV_some, thenH_some, thenS_some, thenV_none, thenH_none, pickV_true, pickV_false, nilV_some, extV_tuple, eval_tmp, eval_const, eval_func, put_some, put_none, enterF_zero, enterF_succ, aBin_add, aBin_sub, aBin_mul, aBin_eql, aBin_neq, aBin_lss, aBin_leq, aBin_gtr, aBin_geq, aBin_and, aBin_or, aBin_xor, aBin_andNot, aUn_not, aUn_neg, aBin_str_eql, aBin_str_neq, Option.some.injEq, Bool.false_eq_true, cells_int, cells_bool, cells_string, cells_pointer, cells_slice, cells_agg, decide_true, decide_false, reduceIte, Nat.reduceEqDiff, Nat.reduceAdd, Nat.reduceLT, Nat.reduceLeDiff, Nat.reduceMul, Nat.reduceSub, reduceCtorEq, List.map_cons, List.map_nil, Option.map_some, Option.map_none]
  refine callI_of cal32 (fresh s cs 10 h ho hc (by decide)) fun r1 h1' ⟨e1, o1, k1⟩ => ?_
  have d1 : ∀ k, idOf r1 = some k → h.n ≤ k := fun k hk => by subst e1; simp [idOf] at hk; omega
  simp only [wpA_skip, wpA_region, wpA_seq, wpA_cond, wpA_block, wpA_exit, wpA_goto, wpA_label, wpA_ret, wpA_loop, wpA_scope, wpA_draw, condI_true, condI_false, pt_mk, seqQ_normal, seqQ_exit, seqQ_goto, seqQ_ret, blkQ_normal, blkQ_exit, blkQ_goto, blkQ_ret, endI_mk, goE, andThen_normal, andThen_exit, andThen_goto, andThen_ret, goI_out, goI_ops, goI_mk, opsA_nil, opsA_cons, opsA_guardS, guardS_some, guardI_same, guardI_tf, guardI_ft, boolOf_bool, slotAt_zero, slotAt_succ, stepA_move, stepA_assign, stepA_pick, stepA_alloc, stepA_box, stepA_build, stepA_buildSlice, stepA_load, stepA_store, stepA_nilCheck, stepA_binOp, stepA_unOp, stepA_convert, stepA_makeSlice, stepA_slice, stepA_fieldAddr, stepA_field, stepA_indexAddr, stepA_index, stepA_extract, stepA_len, stepA_append, stepA_copy, stepA_call, thenV_some, thenH_some, thenS_some, thenV_none, thenH_none, pickV_true, pickV_false, nilV_some, extV_tuple, eval_tmp, eval_const, eval_func, put_some, put_none, enterF_zero, enterF_succ, aBin_add, aBin_sub, aBin_mul, aBin_eql, aBin_neq, aBin_lss, aBin_leq, aBin_gtr, aBin_geq, aBin_and, aBin_or, aBin_xor, aBin_andNot, aUn_not, aUn_neg, aBin_str_eql, aBin_str_neq, Option.some.injEq, Bool.false_eq_true, cells_int, cells_bool, cells_string, cells_pointer, cells_slice, cells_agg, decide_true, decide_false, reduceIte, Nat.reduceEqDiff, Nat.reduceAdd, Nat.reduceLT, Nat.reduceLeDiff, Nat.reduceMul, Nat.reduceSub, reduceCtorEq, List.map_cons, List.map_nil, Option.map_some, Option.map_none]
  refine callI_of cal33 (zigzag n h1' h1 h2) fun r2 h2' ⟨e2, e3⟩ => ?_
  subst e2; subst e3
  simp only [wpA_skip, wpA_region, wpA_seq, wpA_cond, wpA_block, wpA_exit, wpA_goto, wpA_label, wpA_ret, wpA_loop, wpA_scope, wpA_draw, condI_true, condI_false, pt_mk, seqQ_normal, seqQ_exit, seqQ_goto, seqQ_ret, blkQ_normal, blkQ_exit, blkQ_goto, blkQ_ret, endI_mk, goE, andThen_normal, andThen_exit, andThen_goto, andThen_ret, goI_out, goI_ops, goI_mk, opsA_nil, opsA_cons, opsA_guardS, guardS_some, guardI_same, guardI_tf, guardI_ft, boolOf_bool, slotAt_zero, slotAt_succ, stepA_move, stepA_assign, stepA_pick, stepA_alloc, stepA_box, stepA_build, stepA_buildSlice, stepA_load, stepA_store, stepA_nilCheck, stepA_binOp, stepA_unOp, stepA_convert, stepA_makeSlice, stepA_slice, stepA_fieldAddr, stepA_field, stepA_indexAddr, stepA_index, stepA_extract, stepA_len, stepA_append, stepA_copy, stepA_call, thenV_some, thenH_some, thenS_some, thenV_none, thenH_none, pickV_true, pickV_false, nilV_some, extV_tuple, eval_tmp, eval_const, eval_func, put_some, put_none, enterF_zero, enterF_succ, aBin_add, aBin_sub, aBin_mul, aBin_eql, aBin_neq, aBin_lss, aBin_leq, aBin_gtr, aBin_geq, aBin_and, aBin_or, aBin_xor, aBin_andNot, aUn_not, aUn_neg, aBin_str_eql, aBin_str_neq, Option.some.injEq, Bool.false_eq_true, cells_int, cells_bool, cells_string, cells_pointer, cells_slice, cells_agg, decide_true, decide_false, reduceIte, Nat.reduceEqDiff, Nat.reduceAdd, Nat.reduceLT, Nat.reduceLeDiff, Nat.reduceMul, Nat.reduceSub, reduceCtorEq, List.map_cons, List.map_nil, Option.map_some, Option.map_none]
  refine callI_of cal31 (addUint r1 cs (zz n) h2' o1 hc (zz_lt n h1 h2)) fun r3 h3 ⟨o3, k3, d3⟩ => ?_
  simp only [wpA_skip, wpA_region, wpA_seq, wpA_cond, wpA_block, wpA_exit, wpA_goto, wpA_label, wpA_ret, wpA_loop, wpA_scope, wpA_draw, condI_true, condI_false, pt_mk, seqQ_normal, seqQ_exit, seqQ_goto, seqQ_ret, blkQ_normal, blkQ_exit, blkQ_goto, blkQ_ret, endI_mk, goE, andThen_normal, andThen_exit, andThen_goto, andThen_ret, goI_out, goI_ops, goI_mk, opsA_nil, opsA_cons, opsA_guardS, guardS_some, guardI_same, guardI_tf, guardI_ft, boolOf_bool, slotAt_zero, slotAt_succ, stepA_move, stepA_assign, stepA_pick, stepA_alloc, stepA_box, stepA_build, stepA_buildSlice, stepA_load, stepA_store, stepA_nilCheck, stepA_binOp, stepA_unOp, stepA_convert, stepA_makeSlice, stepA_slice, stepA_fieldAddr, stepA_field, stepA_indexAddr, stepA_index, stepA_extract, stepA_len, stepA_append, stepA_copy, stepA_call, thenV_some, thenH_some, thenS_some, thenV_none, thenH_none, pickV_true, pickV_false, nilV_some, extV_tuple, eval_tmp, eval_const, eval_func, put_some, put_none, enterF_zero, enterF_succ, aBin_add, aBin_sub, aBin_mul, aBin_eql, aBin_neq, aBin_lss, aBin_leq, aBin_gtr, aBin_geq, aBin_and, aBin_or, aBin_xor, aBin_andNot, aUn_not, aUn_neg, aBin_str_eql, aBin_str_neq, Option.some.injEq, Bool.false_eq_true, cells_int, cells_bool, cells_string, cells_pointer, cells_slice, cells_agg, decide_true, decide_false, reduceIte, Nat.reduceEqDiff, Nat.reduceAdd, Nat.reduceLT, Nat.reduceLeDiff, Nat.reduceMul, Nat.reduceSub, reduceCtorEq, List.map_cons, List.map_nil, Option.map_some, Option.map_none, retA_ret, Try.results14, resultsA_1]
  refine ⟨o3, k1.trans k3 (.inr d1), fun k hk => ?_⟩
  rcases d3 with d3 | d3
  · exact d1 k (d3 ▸ hk)
  · exact Nat.le_trans k1.n (d3 k hk)

theorem slice2_int {h : AHeap} {a b : Int} : aBuildSlice Try.prog 22 2 [(0, .int .u8 a), (1, .int .u8 b)] h = some (.slice (some ⟨h.n, 0, none⟩) 2 2, h.push (.cells [.int .u8 a, .int .u8 b] 5 none true)) := by
  unfold aBuildSlice
  simp [e22, sz5, z5, Instr.fill, made, cells_int, plain, flat]

theorem numsOf_bytes (bs : List Nat) : numsOf (bytesV bs) = some (bs.map fun (n : Nat) => (n : Int)) := by
  induction bs with
  | nil => rfl
  | cons b r ih =>
    simp only [bytesV, List.map_cons] at ih ⊢
    simp [numsOf, ih]
/-- The string of bytes. -/
def strOf (bs : List Nat) : ByteArray := strOfNums (bs.map fun (n : Nat) => (n : Int))
theorem u8_5 : isU8 Try.prog 5 = true := by kernel_rfl
theorem conv_str {h : AHeap} {v : Value} {bs : List Nat} (ho : Sl h 1 v (bytesV bs)) : aConv Try.prog 22 9 v h = some (.string (strOf bs), h) := by
  rcases ho with ⟨rfl, hb⟩ | ⟨i, o, len, cap, rfl, hi, hr⟩
  · have : bs = [] := by simpa [bytesV] using hb
    subst this
    unfold aConv
    rw [if_pos (show flat (.slice none 0 0) = true from rfl)]
    have e : pureRun Try.prog (convert 22 9 (.slice none 0 0)) = some (.string .empty) := by kernel_rfl
    rw [e]
    rfl
  · rw [Nat.mul_one] at hr
    unfold aConv
    rw [if_neg (by simp [flat])]
    simp only [Try.underlying22, Try.underlying9, u8_5, if_true, hr, numsOf_bytes]
    rfl

theorem shown (h : AHeap) : SCalls Try.prog 11 [] h (fun r h' => r = .bool true ∧ Keep h h' none) := by
  refine SCalls.enterI (c := _) Try.func11 rfl (by kernel_rfl) (by simp) ?_
  simp only [wpA_skip, wpA_region, wpA_seq, wpA_cond, wpA_block, wpA_exit, wpA_goto, wpA_label, wpA_ret, wpA_loop, wpA_scope, wpA_draw, condI_true, condI_false, pt_mk, seqQ_normal, seqQ_exit, seqQ_goto, seqQ_ret, blkQ_normal, blkQ_exit, blkQ_goto, blkQ_ret, endI_mk, goE, andThen_normal, andThen_exit, andThen_goto, andThen_ret, goI_out, goI_ops, goI_mk, opsA_nil, opsA_cons, opsA_guardS, guardS_some, guardI_same, guardI_tf, guardI_ft, boolOf_bool, slotAt_zero, slotAt_succ, stepA_move, stepA_assign, stepA_pick, stepA_alloc, stepA_box, stepA_build, stepA_buildSlice, stepA_load, stepA_store, stepA_nilCheck, stepA_binOp, stepA_unOp, stepA_convert, stepA_makeSlice, stepA_slice, stepA_fieldAddr, stepA_field, stepA_indexAddr, stepA_index, stepA_extract, stepA_len, stepA_append, stepA_copy, stepA_call, thenV_some, thenH_some, thenS_some, thenV_none, thenH_none, pickV_true, pickV_false, nilV_some, extV_tuple, eval_tmp, eval_const, eval_func, put_some, put_none, enterF_zero, enterF_succ, aBin_add, aBin_sub, aBin_mul, aBin_eql, aBin_neq, aBin_lss, aBin_leq, aBin_gtr, aBin_geq, aBin_and, aBin_or, aBin_xor, aBin_andNot, aUn_not, aUn_neg, aBin_str_eql, aBin_str_neq, Option.some.injEq, Bool.false_eq_true, cells_int, cells_bool, cells_string, cells_pointer, cells_slice, cells_agg, decide_true, decide_false, reduceIte, Nat.reduceEqDiff, Nat.reduceAdd, Nat.reduceLT, Nat.reduceLeDiff, Nat.reduceMul, Nat.reduceSub, reduceCtorEq, List.map_cons, List.map_nil, Option.map_some, Option.map_none]
  refine callI_of cal12 (Uint _ [] 300 h (.inl ⟨rfl, rfl⟩) (by decide) (by decide)) fun r1 h1 ⟨o1, k1, d1⟩ => ?_
  simp only [wpA_skip, wpA_region, wpA_seq, wpA_cond, wpA_block, wpA_exit, wpA_goto, wpA_label, wpA_ret, wpA_loop, wpA_scope, wpA_draw, condI_true, condI_false, pt_mk, seqQ_normal, seqQ_exit, seqQ_goto, seqQ_ret, blkQ_normal, blkQ_exit, blkQ_goto, blkQ_ret, endI_mk, goE, andThen_normal, andThen_exit, andThen_goto, andThen_ret, goI_out, goI_ops, goI_mk, opsA_nil, opsA_cons, opsA_guardS, guardS_some, guardI_same, guardI_tf, guardI_ft, boolOf_bool, slotAt_zero, slotAt_succ, stepA_move, stepA_assign, stepA_pick, stepA_alloc, stepA_box, stepA_build, stepA_buildSlice, stepA_load, stepA_store, stepA_nilCheck, stepA_binOp, stepA_unOp, stepA_convert, stepA_makeSlice, stepA_slice, stepA_fieldAddr, stepA_field, stepA_indexAddr, stepA_index, stepA_extract, stepA_len, stepA_append, stepA_copy, stepA_call, thenV_some, thenH_some, thenS_some, thenV_none, thenH_none, pickV_true, pickV_false, nilV_some, extV_tuple, eval_tmp, eval_const, eval_func, put_some, put_none, enterF_zero, enterF_succ, aBin_add, aBin_sub, aBin_mul, aBin_eql, aBin_neq, aBin_lss, aBin_leq, aBin_gtr, aBin_geq, aBin_and, aBin_or, aBin_xor, aBin_andNot, aUn_not, aUn_neg, aBin_str_eql, aBin_str_neq, Option.some.injEq, Bool.false_eq_true, cells_int, cells_bool, cells_string, cells_pointer, cells_slice, cells_agg, decide_true, decide_false, reduceIte, Nat.reduceEqDiff, Nat.reduceAdd, Nat.reduceLT, Nat.reduceLeDiff, Nat.reduceMul, Nat.reduceSub, reduceCtorEq, List.map_cons, List.map_nil, Option.map_some, Option.map_none]
  refine callI_of cal14 (IntC _ [] (-1) h1 (.inl ⟨rfl, rfl⟩) (by decide) (by decide) (by decide)) fun r2 h2 ⟨o2, k2, d2⟩ => ?_
  simp only [wpA_skip, wpA_region, wpA_seq, wpA_cond, wpA_block, wpA_exit, wpA_goto, wpA_label, wpA_ret, wpA_loop, wpA_scope, wpA_draw, condI_true, condI_false, pt_mk, seqQ_normal, seqQ_exit, seqQ_goto, seqQ_ret, blkQ_normal, blkQ_exit, blkQ_goto, blkQ_ret, endI_mk, goE, andThen_normal, andThen_exit, andThen_goto, andThen_ret, goI_out, goI_ops, goI_mk, opsA_nil, opsA_cons, opsA_guardS, guardS_some, guardI_same, guardI_tf, guardI_ft, boolOf_bool, slotAt_zero, slotAt_succ, stepA_move, stepA_assign, stepA_pick, stepA_alloc, stepA_box, stepA_build, stepA_buildSlice, stepA_load, stepA_store, stepA_nilCheck, stepA_binOp, stepA_unOp, stepA_convert, stepA_makeSlice, stepA_slice, stepA_fieldAddr, stepA_field, stepA_indexAddr, stepA_index, stepA_extract, stepA_len, stepA_append, stepA_copy, stepA_call, thenV_some, thenH_some, thenS_some, thenV_none, thenH_none, pickV_true, pickV_false, nilV_some, extV_tuple, eval_tmp, eval_const, eval_func, put_some, put_none, enterF_zero, enterF_succ, aBin_add, aBin_sub, aBin_mul, aBin_eql, aBin_neq, aBin_lss, aBin_leq, aBin_gtr, aBin_geq, aBin_and, aBin_or, aBin_xor, aBin_andNot, aUn_not, aUn_neg, aBin_str_eql, aBin_str_neq, Option.some.injEq, Bool.false_eq_true, cells_int, cells_bool, cells_string, cells_pointer, cells_slice, cells_agg, decide_true, decide_false, reduceIte, Nat.reduceEqDiff, Nat.reduceAdd, Nat.reduceLT, Nat.reduceLeDiff, Nat.reduceMul, Nat.reduceSub, reduceCtorEq, List.map_cons, List.map_nil, Option.map_some, Option.map_none, slice2_int]
  have hk3 := Keep.push h2 (.cells [.int .u8 128, .int .u8 0] 5 none true) (none : Option Nat)
  generalize hg3 : h2.push (.cells [.int .u8 128, .int .u8 0] 5 none true) = h3 at hk3
  have hs3 : Sl h3 1 (.slice (some ⟨h2.n, 0, none⟩) 2 2) (bytesV [128, 0]) := by
    subst hg3
    exact .inr ⟨h2.n, 0, 2, 2, rfl, by rw [push_n]; omega, by rw [get_push_new]; rfl⟩
  refine callI_of cal20 (From _ [128, 0] h3 hs3 (by decide)) fun r4 h4 ⟨rd4, ne4, k4⟩ => ?_
  simp only [wpA_skip, wpA_region, wpA_seq, wpA_cond, wpA_block, wpA_exit, wpA_goto, wpA_label, wpA_ret, wpA_loop, wpA_scope, wpA_draw, condI_true, condI_false, pt_mk, seqQ_normal, seqQ_exit, seqQ_goto, seqQ_ret, blkQ_normal, blkQ_exit, blkQ_goto, blkQ_ret, endI_mk, goE, andThen_normal, andThen_exit, andThen_goto, andThen_ret, goI_out, goI_ops, goI_mk, opsA_nil, opsA_cons, opsA_guardS, guardS_some, guardI_same, guardI_tf, guardI_ft, boolOf_bool, slotAt_zero, slotAt_succ, stepA_move, stepA_assign, stepA_pick, stepA_alloc, stepA_box, stepA_build, stepA_buildSlice, stepA_load, stepA_store, stepA_nilCheck, stepA_binOp, stepA_unOp, stepA_convert, stepA_makeSlice, stepA_slice, stepA_fieldAddr, stepA_field, stepA_indexAddr, stepA_index, stepA_extract, stepA_len, stepA_append, stepA_copy, stepA_call, thenV_some, thenH_some, thenS_some, thenV_none, thenH_none, pickV_true, pickV_false, nilV_some, extV_tuple, eval_tmp, eval_const, eval_func, put_some, put_none, enterF_zero, enterF_succ, aBin_add, aBin_sub, aBin_mul, aBin_eql, aBin_neq, aBin_lss, aBin_leq, aBin_gtr, aBin_geq, aBin_and, aBin_or, aBin_xor, aBin_andNot, aUn_not, aUn_neg, aBin_str_eql, aBin_str_neq, Option.some.injEq, Bool.false_eq_true, cells_int, cells_bool, cells_string, cells_pointer, cells_slice, cells_agg, decide_true, decide_false, reduceIte, Nat.reduceEqDiff, Nat.reduceAdd, Nat.reduceLT, Nat.reduceLeDiff, Nat.reduceMul, Nat.reduceSub, reduceCtorEq, List.map_cons, List.map_nil, Option.map_some, Option.map_none, slice1_int e22 sz5 z5 rfl rfl]
  have hk5 := Keep.push h4 (.cells [.int .u8 128] 5 none true) (none : Option Nat)
  generalize hg5 : h4.push (.cells [.int .u8 128] 5 none true) = h5 at hk5
  have hs5 : Sl h5 1 (.slice (some ⟨h4.n, 0, none⟩) 1 1) (bytesV [128]) := by
    subst hg5
    exact .inr ⟨h4.n, 0, 1, 1, rfl, by rw [push_n]; omega, by rw [get_push_new]; rfl⟩
  refine callI_of cal20 (From _ [128] h5 hs5 (by decide)) fun r6 h6 ⟨rd6, ne6, k6⟩ => ?_
  have rd4' : RD h6 h3.n h4.n r4 [128, 0] := (rd4.keep hk5 (by simp)).keep k6 (by simp)
  obtain ⟨i4, rfl, hi4⟩ : ∃ i, r4 = .pointer (some ⟨i, 0, none⟩) ∧ i < h4.n := by
    rcases rd4 with ⟨rfl, _⟩ | ⟨i, v, rfl, hi, _⟩
    · exact absurd rfl ne4
    · exact ⟨i, rfl, hi.2.1⟩
  obtain ⟨i6, rfl, hi6⟩ : ∃ i, r6 = .pointer (some ⟨i, 0, none⟩) ∧ h5.n ≤ i := by
    rcases rd6 with ⟨rfl, _⟩ | ⟨i, v, rfl, hi, _⟩
    · exact absurd rfl ne6
    · exact ⟨i, rfl, hi.1⟩
  have h45 := hk5.n
  have h34 := k4.n
  have h23 := hk3.n
  simp only [wpA_skip, wpA_region, wpA_seq, wpA_cond, wpA_block, wpA_exit, wpA_goto, wpA_label, wpA_ret, wpA_loop, wpA_scope, wpA_draw, condI_true, condI_false, pt_mk, seqQ_normal, seqQ_exit, seqQ_goto, seqQ_ret, blkQ_normal, blkQ_exit, blkQ_goto, blkQ_ret, endI_mk, goE, andThen_normal, andThen_exit, andThen_goto, andThen_ret, goI_out, goI_ops, goI_mk, opsA_nil, opsA_cons, opsA_guardS, guardS_some, guardI_same, guardI_tf, guardI_ft, boolOf_bool, slotAt_zero, slotAt_succ, stepA_move, stepA_assign, stepA_pick, stepA_alloc, stepA_box, stepA_build, stepA_buildSlice, stepA_load, stepA_store, stepA_nilCheck, stepA_binOp, stepA_unOp, stepA_convert, stepA_makeSlice, stepA_slice, stepA_fieldAddr, stepA_field, stepA_indexAddr, stepA_index, stepA_extract, stepA_len, stepA_append, stepA_copy, stepA_call, thenV_some, thenH_some, thenS_some, thenV_none, thenH_none, pickV_true, pickV_false, nilV_some, extV_tuple, eval_tmp, eval_const, eval_func, put_some, put_none, enterF_zero, enterF_succ, aBin_add, aBin_sub, aBin_mul, aBin_eql, aBin_neq, aBin_lss, aBin_leq, aBin_gtr, aBin_geq, aBin_and, aBin_or, aBin_xor, aBin_andNot, aUn_not, aUn_neg, aBin_str_eql, aBin_str_neq, Option.some.injEq, Bool.false_eq_true, cells_int, cells_bool, cells_string, cells_pointer, cells_slice, cells_agg, decide_true, decide_false, reduceIte, Nat.reduceEqDiff, Nat.reduceAdd, Nat.reduceLT, Nat.reduceLeDiff, Nat.reduceMul, Nat.reduceSub, reduceCtorEq, List.map_cons, List.map_nil, Option.map_some, Option.map_none, ptr_nil_eql Try.underlying31]
  refine callI_of cal21 (RUint _ [128, 0] h6 rd4' (by decide) (by decide)) fun r7 h7 ⟨e7, rd7, k7⟩ => ?_
  subst e7
  simp only [wpA_skip, wpA_region, wpA_seq, wpA_cond, wpA_block, wpA_exit, wpA_goto, wpA_label, wpA_ret, wpA_loop, wpA_scope, wpA_draw, condI_true, condI_false, pt_mk, seqQ_normal, seqQ_exit, seqQ_goto, seqQ_ret, blkQ_normal, blkQ_exit, blkQ_goto, blkQ_ret, endI_mk, goE, andThen_normal, andThen_exit, andThen_goto, andThen_ret, goI_out, goI_ops, goI_mk, opsA_nil, opsA_cons, opsA_guardS, guardS_some, guardI_same, guardI_tf, guardI_ft, boolOf_bool, slotAt_zero, slotAt_succ, stepA_move, stepA_assign, stepA_pick, stepA_alloc, stepA_box, stepA_build, stepA_buildSlice, stepA_load, stepA_store, stepA_nilCheck, stepA_binOp, stepA_unOp, stepA_convert, stepA_makeSlice, stepA_slice, stepA_fieldAddr, stepA_field, stepA_indexAddr, stepA_index, stepA_extract, stepA_len, stepA_append, stepA_copy, stepA_call, thenV_some, thenH_some, thenS_some, thenV_none, thenH_none, pickV_true, pickV_false, nilV_some, extV_tuple, eval_tmp, eval_const, eval_func, put_some, put_none, enterF_zero, enterF_succ, aBin_add, aBin_sub, aBin_mul, aBin_eql, aBin_neq, aBin_lss, aBin_leq, aBin_gtr, aBin_geq, aBin_and, aBin_or, aBin_xor, aBin_andNot, aUn_not, aUn_neg, aBin_str_eql, aBin_str_neq, Option.some.injEq, Bool.false_eq_true, cells_int, cells_bool, cells_string, cells_pointer, cells_slice, cells_agg, decide_true, decide_false, reduceIte, Nat.reduceEqDiff, Nat.reduceAdd, Nat.reduceLT, Nat.reduceLeDiff, Nat.reduceMul, Nat.reduceSub, reduceCtorEq, List.map_cons, List.map_nil, Option.map_some, Option.map_none, tup20, tup21]
  have k7' : Keep h6 h7 (some i4) := k7
  refine callI_of cal21 (RUint _ [128] h7 (rd6.keep k7' (by intro k hk; simp at hk; omega)) (by decide) (by decide)) fun r8 h8 ⟨e8, rd8, k8⟩ => ?_
  subst e8
  have k8' : Keep h7 h8 (some i6) := k8
  have kA : Keep h2 h6 none := hk3.trans (k4.trans (hk5.trans k6 (.inl rfl)) (.inl rfl)) (.inl rfl)
  have hlo4 : h3.n ≤ i4 := by
    rcases rd4 with ⟨hh, _⟩ | ⟨i, v, hh, hi, _⟩
    · cases hh
    · simp at hh; omega
  have kB : Keep h2 h8 none := (kA.trans k7' (.inr (by intro k hk; simp at hk; omega))).trans k8' (.inr (by intro k hk; simp at hk; omega))
  have kC : Keep h1 h8 none := k2.trans kB (.inl rfl)
  have s1 := (o1.keep kC (by cases idOf r1 <;> simp)).sl
  have s2 := (o2.keep kB (by cases idOf r2 <;> simp)).sl
  have x1 : enc 300 = [172, 2] := by rw [enc_big (by decide), enc_small (by decide)]
  have x2 : enc (zz (-1)) = [1] := by rw [show zz (-1) = 1 from rfl, enc_small (by decide)]
  rw [List.nil_append, x1] at s1
  rw [List.nil_append, x2] at s2
  have rd7' := rd7.keep k8' (by intro k hk; simp at hk; omega)
  have y1 : strOf [172, 2] = ⟨#[172, 2]⟩ := rfl
  have y2 : strOf [1] = ⟨#[1]⟩ := rfl
  have y3 : dec [128, 0] 0 0 = (0, 0, 5) := by decide
  have y4 : dec [128] 0 0 = (0, 0, 4) := by decide
  have y5 : (((5 : Nat) : Int) == 5) = true := rfl
  have y6 : (((4 : Nat) : Int) == 4) = true := rfl
  have y7 : (((([128, 0] : List Nat).drop 0).length : Int) == 2) = true := rfl
  rw [y3] at rd7'
  simp only [wpA_skip, wpA_region, wpA_seq, wpA_cond, wpA_block, wpA_exit, wpA_goto, wpA_label, wpA_ret, wpA_loop, wpA_scope, wpA_draw, condI_true, condI_false, pt_mk, seqQ_normal, seqQ_exit, seqQ_goto, seqQ_ret, blkQ_normal, blkQ_exit, blkQ_goto, blkQ_ret, endI_mk, goE, andThen_normal, andThen_exit, andThen_goto, andThen_ret, goI_out, goI_ops, goI_mk, opsA_nil, opsA_cons, opsA_guardS, guardS_some, guardI_same, guardI_tf, guardI_ft, boolOf_bool, slotAt_zero, slotAt_succ, stepA_move, stepA_assign, stepA_pick, stepA_alloc, stepA_box, stepA_build, stepA_buildSlice, stepA_load, stepA_store, stepA_nilCheck, stepA_binOp, stepA_unOp, stepA_convert, stepA_makeSlice, stepA_slice, stepA_fieldAddr, stepA_field, stepA_indexAddr, stepA_index, stepA_extract, stepA_len, stepA_append, stepA_copy, stepA_call, thenV_some, thenH_some, thenS_some, thenV_none, thenH_none, pickV_true, pickV_false, nilV_some, extV_tuple, eval_tmp, eval_const, eval_func, put_some, put_none, enterF_zero, enterF_succ, aBin_add, aBin_sub, aBin_mul, aBin_eql, aBin_neq, aBin_lss, aBin_leq, aBin_gtr, aBin_geq, aBin_and, aBin_or, aBin_xor, aBin_andNot, aUn_not, aUn_neg, aBin_str_eql, aBin_str_neq, Option.some.injEq, Bool.false_eq_true, cells_int, cells_bool, cells_string, cells_pointer, cells_slice, cells_agg, decide_true, decide_false, reduceIte, Nat.reduceEqDiff, Nat.reduceAdd, Nat.reduceLT, Nat.reduceLeDiff, Nat.reduceMul, Nat.reduceSub, reduceCtorEq, List.map_cons, List.map_nil, Option.map_some, Option.map_none, tup20, tup21, conv_str s1, conv_str s2, y1, y2, y3, y4, y5, y6, beq_self_eq_true]
  refine callI_of cal30 (Left _ _ h8 rd7') fun r9 h9 ⟨e9, e10⟩ => ?_
  subst e9
  subst e10
  simp only [wpA_skip, wpA_region, wpA_seq, wpA_cond, wpA_block, wpA_exit, wpA_goto, wpA_label, wpA_ret, wpA_loop, wpA_scope, wpA_draw, condI_true, condI_false, pt_mk, seqQ_normal, seqQ_exit, seqQ_goto, seqQ_ret, blkQ_normal, blkQ_exit, blkQ_goto, blkQ_ret, endI_mk, goE, andThen_normal, andThen_exit, andThen_goto, andThen_ret, goI_out, goI_ops, goI_mk, opsA_nil, opsA_cons, opsA_guardS, guardS_some, guardI_same, guardI_tf, guardI_ft, boolOf_bool, slotAt_zero, slotAt_succ, stepA_move, stepA_assign, stepA_pick, stepA_alloc, stepA_box, stepA_build, stepA_buildSlice, stepA_load, stepA_store, stepA_nilCheck, stepA_binOp, stepA_unOp, stepA_convert, stepA_makeSlice, stepA_slice, stepA_fieldAddr, stepA_field, stepA_indexAddr, stepA_index, stepA_extract, stepA_len, stepA_append, stepA_copy, stepA_call, thenV_some, thenH_some, thenS_some, thenV_none, thenH_none, pickV_true, pickV_false, nilV_some, extV_tuple, eval_tmp, eval_const, eval_func, put_some, put_none, enterF_zero, enterF_succ, aBin_add, aBin_sub, aBin_mul, aBin_eql, aBin_neq, aBin_lss, aBin_leq, aBin_gtr, aBin_geq, aBin_and, aBin_or, aBin_xor, aBin_andNot, aUn_not, aUn_neg, aBin_str_eql, aBin_str_neq, Option.some.injEq, Bool.false_eq_true, cells_int, cells_bool, cells_string, cells_pointer, cells_slice, cells_agg, decide_true, decide_false, reduceIte, Nat.reduceEqDiff, Nat.reduceAdd, Nat.reduceLT, Nat.reduceLeDiff, Nat.reduceMul, Nat.reduceSub, reduceCtorEq, List.map_cons, List.map_nil, Option.map_some, Option.map_none, y7, retA_ret, Try.results11, resultsA_1]
  exact ⟨trivial, k1.trans kC (.inl rfl)⟩
end Go.Proofs.Ytcnjnmgnhkjgfaa.Pk
