/-
  What functions of the program do, told of abstract states. Conditions: as each theorem says.
-/
import Derived.Test.YthnleejpeocaeaaDoorFlA
namespace Go.Proofs.YthnleejpeocaeaaDoor.Pk
open Go Go.Proofs Go.Proofs.YthnleejpeocaeaaDoor.Ab
set_option linter.unusedVariables false
set_option linter.unusedSimpArgs false

def resX (kind n : Int) (r : Rec) : List Rec :=
  if kind = 2 then [⟨r.k, n, r.t⟩] else if kind = 5 then [⟨n, r.v, r.t⟩] else if kind = 3 then (if n = 0 then [] else [r])
  else if kind = 4 then copR r (min n 4).toNat else [r]
theorem immR (l : List Rec) : Clo (V.imm l.length (l.flatMap recE)) := Clo.imm (rows_clo recE_clo _)
theorem cast1 (h : AHeap) (x : Rec) : ∃ h2, Cast (.sl h.n 0 1 1) (h.push (.cells (recE x) 24 none)) (.imm [x].length ([x].flatMap recE)) h2 ∧ Keep h h2 none_ := by
  have := Cast.lit (h := h) (c := [x].flatMap recE) (e := 24) (n := 1) (sz := 3) rfl (by decide) (by decide)
  simpa using this

set_option maxHeartbeats 1000000 in
set_option maxRecDepth 10000 in
theorem pResults (kind n : Int) (r : Rec) (h : AHeap) : Pure Tryd.prog 15 [.int .i64 kind, .int .i64 n, .agg (recE r)] h (.imm (resX kind n r).length ((resX kind n r).flatMap recE)) := by
  refine Pure.of (immR _) ?_
  refine SCalls.enterI (c := _) Tryd.func15 rfl (by kernel_rfl) (by simp) ?_
  by_cases h2 : kind = 2
  · have c : (kind == 2) = true := by simp [h2]
    have hG : resX kind n r = [⟨r.k, n, r.t⟩] := by simp [resX, h2]
    have lit := litR1 (h.push (.cells [.int .i64 r.k, .int .i64 n, .int .i64 r.t] 24 none)) r.k n r.t
    simp only [push_n] at lit
    simp only [wpA_region, wpA_seq, wpA_cond, wpA_block, wpA_ret, condI_true, seqQ_normal, blkQ_normal, endI_mk, goI_out, goI_ops, opsA_nil, opsA_cons, stepA_move, stepA_assign, stepA_box, stepA_buildSlice, stepA_load, stepA_store, stepA_binOp, stepA_fieldAddr, thenV_some, thenH_some, thenS_some, eval_tmp, eval_const, put_some, put_none, enterF_zero, enterF_succ, aBin_eql, absV_int, absV_snil, cells_int, cells_agg, one_int, all_nil, all_cons, aField_eq, fieldGo_ptr, aLoad_eq, loadGo_row, aPlace_ptr, dropC_cells, aStore_eq, storeGo_ptr, setC_row, setAll_nil, setAll_cons, aBox_eq, get_push_new, set_push, Nat.reduceEqDiff, Nat.reduceAdd, Nat.reduceLeDiff, reduceCtorEq, List.map_cons, List.map_nil, Option.map_some, Nat.zero_add, Nat.zero_le, List.length_cons, List.length_nil, List.drop_zero, List.take_succ_cons, List.take_nil, List.set_cons_zero, List.set_cons_succ, if_true, if_false, Bool.and_self, Nat.le_refl, ft_24_1, lt_24, zt_2, recE, c, lit, retA_ret, Tryd.results15, resultsA_1]
    obtain ⟨hh, cc, kk⟩ := cast1 (h.push (.cells [.int .i64 r.k, .int .i64 n, .int .i64 r.t] 24 none)) ⟨r.k, n, r.t⟩
    exact hid_mk ⟨hh, by rw [hG]; exact cc, (Keep.push _ _ _).trans' kk⟩
  have c2 : (kind == 2) = false := by simp [h2]
  by_cases h5 : kind = 5
  · have c : (kind == 5) = true := by simp [h5]
    have hG : resX kind n r = [⟨n, r.v, r.t⟩] := by simp [resX, h5]
    have lit := litR1 (h.push (.cells [.int .i64 n, .int .i64 r.v, .int .i64 r.t] 24 none)) n r.v r.t
    simp only [push_n] at lit
    simp only [wpA_region, wpA_seq, wpA_cond, wpA_block, wpA_ret, condI_true, condI_false, seqQ_normal, blkQ_normal, endI_mk, goI_out, goI_ops, opsA_nil, opsA_cons, stepA_move, stepA_assign, stepA_box, stepA_buildSlice, stepA_load, stepA_store, stepA_binOp, stepA_fieldAddr, thenV_some, thenH_some, thenS_some, eval_tmp, eval_const, put_some, put_none, enterF_zero, enterF_succ, aBin_eql, absV_int, absV_snil, cells_int, cells_agg, one_int, all_nil, all_cons, aField_eq, fieldGo_ptr, aLoad_eq, loadGo_row, aPlace_ptr, dropC_cells, aStore_eq, storeGo_ptr, setC_row, setAll_nil, setAll_cons, aBox_eq, get_push_new, set_push, Nat.reduceEqDiff, Nat.reduceAdd, Nat.reduceLeDiff, reduceCtorEq, List.map_cons, List.map_nil, Option.map_some, Nat.add_zero, Nat.zero_add, Nat.zero_le, List.length_cons, List.length_nil, List.drop_zero, List.take_succ_cons, List.take_nil, List.set_cons_zero, if_true, if_false, Bool.and_self, Nat.le_refl, ft_24_0, lt_24, zt_2, recE, c2, c, lit, retA_ret, Tryd.results15, resultsA_1]
    obtain ⟨hh, cc, kk⟩ := cast1 (h.push (.cells [.int .i64 n, .int .i64 r.v, .int .i64 r.t] 24 none)) ⟨n, r.v, r.t⟩
    exact hid_mk ⟨hh, by rw [hG]; exact cc, (Keep.push _ _ _).trans' kk⟩
  have c5 : (kind == 5) = false := by simp [h5]
  have lit := litR1 (h.push (.cells [.int .i64 r.k, .int .i64 r.v, .int .i64 r.t] 24 none)) r.k r.v r.t
  simp only [push_n] at lit
  obtain ⟨hh, cc, kk⟩ := cast1 (h.push (.cells [.int .i64 r.k, .int .i64 r.v, .int .i64 r.t] 24 none)) r
  by_cases h3 : kind = 3
  · have c : (kind == 3) = true := by simp [h3]
    by_cases hn : n = 0
    · have cn : (n == 0) = true := by simp [hn]
      have hG : resX kind n r = [] := by simp [resX, h3, hn]
      simp only [wpA_region, wpA_seq, wpA_cond, wpA_block, wpA_ret, condI_true, condI_false, seqQ_normal, seqQ_ret, blkQ_ret, endI_mk, goI_out, goI_ops, opsA_nil, opsA_cons, stepA_move, stepA_assign, stepA_box, stepA_binOp, thenV_some, thenH_some, eval_tmp, eval_const, put_some, enterF_zero, enterF_succ, aBin_eql, absV_int, absV_snil, cells_agg, aBox_eq, Nat.reduceEqDiff, reduceCtorEq, Option.map_some, if_true, if_false, recE, c2, c5, c, cn, retA_ret, Tryd.results15, resultsA_1]
      exact hid_mk ⟨_, by rw [hG]; exact Cast.nil0 _, Keep.push _ _ _⟩
    · have cn : (n == 0) = false := by simp [hn]
      have hG : resX kind n r = [r] := by simp [resX, h3, hn]
      simp only [wpA_skip, wpA_region, wpA_seq, wpA_cond, wpA_block, wpA_ret, condI_true, condI_false, seqQ_normal, blkQ_normal, endI_mk, goI_out, goI_ops, opsA_nil, opsA_cons, stepA_move, stepA_assign, stepA_box, stepA_buildSlice, stepA_load, stepA_binOp, thenV_some, thenH_some, eval_tmp, eval_const, put_some, enterF_zero, enterF_succ, aBin_eql, absV_int, absV_snil, cells_agg, aLoad_eq, loadGo_row, aPlace_ptr, dropC_cells, aBox_eq, get_push_new, Nat.reduceEqDiff, Nat.reduceAdd, reduceCtorEq, List.map_cons, List.map_nil, Option.map_some, Nat.zero_add, Nat.zero_le, List.length_cons, List.length_nil, List.drop_zero, List.take_succ_cons, List.take_nil, if_true, if_false, Nat.le_refl, lt_24, recE, c2, c5, c, cn, lit, retA_ret, Tryd.results15, resultsA_1]
      exact hid_mk ⟨hh, by rw [hG]; exact cc, (Keep.push _ _ _).trans' kk⟩
  have c3 : (kind == 3) = false := by simp [h3]
  by_cases h4 : kind = 4
  · have c : (kind == 4) = true := by simp [h4]
    have hG : resX kind n r = copR r (min n 4).toNat := by simp [resX, h4]
    simp only [wpA_region, wpA_seq, wpA_cond, wpA_block, condI_true, condI_false, seqQ_normal, goI_out, goI_ops, opsA_nil, opsA_cons, stepA_move, stepA_assign, stepA_box, stepA_load, stepA_binOp, stepA_min, stepA_call, thenV_some, thenH_some, eval_tmp, eval_const, put_some, enterF_zero, enterF_succ, aBin_eql, mmV_min, absV_int, absV_snil, cells_agg, aLoad_eq, loadGo_row, aPlace_ptr, dropC_cells, aBox_eq, get_push_new, Nat.reduceEqDiff, Nat.reduceAdd, reduceCtorEq, List.map_cons, List.map_nil, Option.map_some, Nat.zero_add, Nat.zero_le, List.length_cons, List.length_nil, List.drop_zero, List.take_succ_cons, List.take_nil, if_true, if_false, Nat.le_refl, lt_24, recE, c2, c5, c3, c]
    refine callI_pure cal20 (pCopies (min n 4) (by omega) r _) ?_
    simp only [wpA_ret, seqQ_normal, seqQ_ret, blkQ_ret, endI_mk, goI_out, goI_ops, opsA_nil, opsA_cons, stepA_assign, eval_tmp, put_some, enterF_succ, Nat.reduceEqDiff, if_true, if_false, retA_ret, Tryd.results15, resultsA_1]
    exact hid_mk ⟨_, by rw [hG, copR_len]; exact Cast.refl _ _, Keep.push _ _ _⟩
  have c4 : (kind == 4) = false := by simp [h4]
  have hG : resX kind n r = [r] := by simp [resX, h2, h5, h3, h4]
  simp only [wpA_skip, wpA_region, wpA_seq, wpA_cond, wpA_block, wpA_ret, condI_false, seqQ_normal, blkQ_normal, endI_mk, goI_out, goI_ops, opsA_nil, opsA_cons, stepA_move, stepA_assign, stepA_box, stepA_buildSlice, stepA_load, stepA_binOp, thenV_some, thenH_some, eval_tmp, eval_const, put_some, enterF_zero, enterF_succ, aBin_eql, absV_int, absV_snil, cells_agg, aLoad_eq, loadGo_row, aPlace_ptr, dropC_cells, aBox_eq, get_push_new, Nat.reduceEqDiff, Nat.reduceAdd, reduceCtorEq, List.map_cons, List.map_nil, Option.map_some, Nat.zero_add, Nat.zero_le, List.length_cons, List.length_nil, List.drop_zero, List.take_succ_cons, List.take_nil, if_true, if_false, Nat.le_refl, lt_24, recE, c2, c5, c3, c4, lit, retA_ret, Tryd.results15, resultsA_1]
  exact hid_mk ⟨hh, by rw [hG]; exact cc, (Keep.push _ _ _).trans' kk⟩

def flatK (k : Int) : Bool := decide (k = 2 ∨ k = 3 ∨ k = 4 ∨ k = 5)
def applyX (v : Vx) (r : Rec) : List Rec × Int :=
  if v.kind = 1 ∨ v.kind = 10 then ([r], 0)
  else if v.kind = 2 ∨ v.kind = 3 ∨ v.kind = 4 ∨ v.kind = 5 then
    (if mayX v.e = true then (match valF r.k r.v r.t 0 16 v.e with | some n => (resX v.kind n r, 0) | none => ([], 10)) else ([], 1))
  else ([], 1)
def apV (p : List Rec × Int) : V := .tuple [.imm p.1.length (p.1.flatMap recE), .int .i64 p.2]
theorem apV_clo (p : List Rec × Int) : Clo (apV p) := Clo.tuple (CloL.cons (immR _) (CloL.cons (Clo.int _ _) CloL.nil))
theorem castNil (h : AHeap) (n : Int) : Cast (.tuple [.snil, .int .i64 n]) h (apV ([], n)) h := Cast.tuple (CastL.cons (Cast.nil0 h) (CastL.refl _ _))

set_option maxHeartbeats 1000000 in
set_option maxRecDepth 10000 in
theorem pApply (v : Vx) (r : Rec) (h : AHeap) (hg : KG h) : Pure Tryd.prog 9 [.agg (encX v), .agg (recE r)] h (apV (applyX v r)) := by
  refine Pure.of (apV_clo _) ?_
  refine SCalls.enterI (c := _) Tryd.func9 rfl (by kernel_rfl) (by simp) ?_
  obtain ⟨kind, frm, e, n⟩ := v
  have hc : (V.agg (encX ⟨kind, frm, e, n⟩)).cells = some (encX ⟨kind, frm, e, n⟩) := rfl
  simp only [wpA_region, wpA_seq, seqQ_normal, goI_out, goI_ops, opsA_nil, opsA_cons, stepA_assign, stepA_box, stepA_load, stepA_fieldAddr, thenV_some, thenH_some, eval_tmp, eval_const, put_some, enterF_zero, enterF_succ, absV_int, absV_snil, cells_agg, aField_eq, fieldGo_ptr, aLoad_eq, aPlace_ptr, dropC_cells, aBox_eq, push_n, get_push2', Nat.reduceEqDiff, Option.map_some, Nat.add_zero, Nat.zero_le, List.drop_zero, if_true, if_false, ft_44_0, lt_3, recE, hc]
  obtain ⟨H, hH⟩ : ∃ x, x = (h.push (.cells (encX ⟨kind, frm, e, n⟩) 44 none)).push (.cells [.int .i64 r.k, .int .i64 r.v, .int .i64 r.t] 24 none) := ⟨_, rfl⟩
  have g2 : dropC (H.get h.n) 0 = some (encX ⟨kind, frm, e, n⟩) := by rw [hH, get_push2']; rfl
  have gE : dropC (H.get h.n) 2 = some (encE e ++ [.int .i64 n]) := by rw [hH, get_push2']; rfl
  have g3 : H.get (h.n + 1) = .cells [.int .i64 r.k, .int .i64 r.v, .int .i64 r.t] 24 none := by rw [hH]; exact get_push2
  have kH : Keep h H none_ := by rw [hH]; exact (Keep.push _ _ _).then_push _
  have gH : KG H := hg.keep kH
  have ld0 : loadGo (some none) (some (encX ⟨kind, frm, e, n⟩)) = some (.int .i64 kind) := rfl
  have ldE : loadGo (some (some 3)) (some (encE e ++ [.int .i64 n])) = some (.agg (encE e)) := load_row (encE_len e)
  rw [← hH]
  clear hH hc
  obtain ⟨hh, cc, kk⟩ := cast1 H r
  have lit := litR1 H r.k r.v r.t
  by_cases h1 : kind = 1
  · have c : (kind == 1) = true := by simp [h1]
    have hG : applyX ⟨kind, frm, e, n⟩ r = ([r], 0) := by simp [applyX, h1]
    simp only [wpA_skip, wpA_region, wpA_seq, wpA_cond, wpA_block, wpA_ret, condI_true, seqQ_normal, seqQ_ret, blkQ_ret, endI_mk, goI_out, goI_ops, opsA_nil, opsA_cons, stepA_assign, stepA_buildSlice, stepA_load, stepA_binOp, thenV_some, thenH_some, eval_tmp, eval_const, put_some, enterF_succ, aBin_eql, absV_int, aLoad_eq, loadGo_row, aPlace_ptr, dropC_cells, Nat.reduceEqDiff, Nat.reduceAdd, List.map_cons, List.map_nil, Nat.zero_add, Nat.zero_le, List.length_cons, List.length_nil, List.drop_zero, List.take_succ_cons, List.take_nil, if_true, if_false, Nat.le_refl, lt_24, g3, ld0, c, lit, retA_ret, Tryd.results9, resultsA_2]
    exact hid_mk ⟨hh, by rw [hG]; exact Cast.tuple (CastL.cons cc (CastL.refl _ _)), kH.trans' kk⟩
  have c1 : (kind == 1) = false := by simp [h1]
  by_cases h10 : kind = 10
  · have c : (kind == 10) = true := by simp [h10]
    have hG : applyX ⟨kind, frm, e, n⟩ r = ([r], 0) := by simp [applyX, h10]
    simp only [wpA_region, wpA_seq, wpA_cond, wpA_block, wpA_ret, condI_true, condI_false, seqQ_normal, seqQ_ret, blkQ_ret, endI_mk, goI_out, goI_ops, opsA_nil, opsA_cons, stepA_assign, stepA_buildSlice, stepA_load, stepA_binOp, thenV_some, thenH_some, eval_tmp, eval_const, put_some, enterF_succ, aBin_eql, absV_int, aLoad_eq, loadGo_row, aPlace_ptr, dropC_cells, Nat.reduceEqDiff, Nat.reduceAdd, List.map_cons, List.map_nil, Nat.zero_add, Nat.zero_le, List.length_cons, List.length_nil, List.drop_zero, List.take_succ_cons, List.take_nil, if_true, if_false, Nat.le_refl, lt_24, g3, ld0, c1, c, lit, retA_ret, Tryd.results9, resultsA_2]
    exact hid_mk ⟨hh, by rw [hG]; exact Cast.tuple (CastL.cons cc (CastL.refl _ _)), kH.trans' kk⟩
  have c10 : (kind == 10) = false := by simp [h10]
  by_cases hk : kind = 2 ∨ kind = 3 ∨ kind = 4 ∨ kind = 5
  rotate_left
  · have c2 : (kind == 2) = false := by simp; intro q; exact hk (.inl q)
    have c3 : (kind == 3) = false := by simp; intro q; exact hk (.inr (.inl q))
    have c4 : (kind == 4) = false := by simp; intro q; exact hk (.inr (.inr (.inl q)))
    have c5 : (kind == 5) = false := by simp; intro q; exact hk (.inr (.inr (.inr q)))
    have hG : applyX ⟨kind, frm, e, n⟩ r = ([], 1) := by simp [applyX, h1, h10]; intro q; exact absurd q hk
    simp only [wpA_skip, wpA_region, wpA_seq, wpA_cond, wpA_block, wpA_ret, condI_false, seqQ_normal, blkQ_normal, endI_mk, goI_out, goI_ops, opsA_nil, opsA_cons, stepA_assign, stepA_binOp, thenV_some, eval_tmp, eval_const, put_some, enterF_succ, aBin_eql, absV_int, absV_snil, Nat.reduceEqDiff, if_true, if_false, ld0, c1, c10, c2, c3, c4, c5, retA_ret, Tryd.results9, resultsA_2]
    exact hid_mk ⟨_, by rw [hG]; exact castNil _ _, kH⟩
  have hG : applyX ⟨kind, frm, e, n⟩ r = (if mayX e = true then (match valF r.k r.v r.t 0 16 e with | some n => (resX kind n r, (0 : Int)) | none => ([], 10)) else ([], 1)) := by
    have : ¬ (kind = 1 ∨ kind = 10) := fun q => by rcases q with q | q; exact h1 q; exact h10 q
    simp only [applyX]
    rw [if_neg this, if_pos hk]
  have hE := pEvalX e r.k r.v r.t 0 H gH
  have cs : ((kind == 2) = true) ∨ ((kind == 2) = false ∧ (kind == 3) = true) ∨ ((kind == 2) = false ∧ (kind == 3) = false ∧ (kind == 4) = true) ∨ ((kind == 2) = false ∧ (kind == 3) = false ∧ (kind == 4) = false ∧ (kind == 5) = true) := by
    rcases hk with q | q | q | q <;> subst q <;> decide
  unfold evR at hE
  cases hm : mayX e with
  | false =>
    rw [hm] at hE hG
    simp only [Bool.false_eq_true, if_false] at hE hG
    rcases cs with d2 | ⟨d2, d3⟩ | ⟨d2, d3, d4⟩ | ⟨d2, d3, d4, d5⟩
    · simp only [wpA_skip, wpA_region, wpA_seq, wpA_cond, wpA_block, condI_true, condI_false, seqQ_normal, goI_out, goI_ops, opsA_nil, opsA_cons, stepA_assign, stepA_load, stepA_binOp, stepA_fieldAddr, stepA_call, thenV_some, eval_tmp, eval_const, put_some, enterF_succ, aBin_eql, absV_int, aField_eq, fieldGo_ptr, aLoad_eq, loadGo_row, aPlace_ptr, dropC_cells, Nat.reduceEqDiff, Nat.reduceAdd, List.map_cons, List.map_nil, Nat.zero_add, Nat.zero_le, List.length_cons, List.length_nil, List.drop_zero, List.take_succ_cons, List.take_nil, if_true, if_false, Nat.le_refl, ft_44_2, lt_24, lt_40, g3, gE, ld0, ldE, c1, c10, d2]
      refine callI_pure cal14 hE ?_
      simp only [wpA_region, wpA_seq, wpA_cond, wpA_ret, condI_true, seqQ_normal, seqQ_ret, blkQ_ret, endI_mk, goI_out, goI_ops, opsA_nil, opsA_cons, stepA_move, stepA_assign, stepA_binOp, stepA_extract, thenV_some, extV_zero, extV_succ, eval_tmp, eval_const, put_some, enterF_succ, aBin_neq, absV_int, absV_snil, Int.reduceBNe, Nat.reduceEqDiff, if_true, if_false, retA_ret, Tryd.results9, resultsA_2]
      exact hid_mk ⟨_, by rw [hG]; exact castNil _ _, kH⟩
    · simp only [wpA_skip, wpA_region, wpA_seq, wpA_cond, wpA_block, condI_true, condI_false, seqQ_normal, goI_out, goI_ops, opsA_nil, opsA_cons, stepA_assign, stepA_load, stepA_binOp, stepA_fieldAddr, stepA_call, thenV_some, eval_tmp, eval_const, put_some, enterF_succ, aBin_eql, absV_int, aField_eq, fieldGo_ptr, aLoad_eq, loadGo_row, aPlace_ptr, dropC_cells, Nat.reduceEqDiff, Nat.reduceAdd, List.map_cons, List.map_nil, Nat.zero_add, Nat.zero_le, List.length_cons, List.length_nil, List.drop_zero, List.take_succ_cons, List.take_nil, if_true, if_false, Nat.le_refl, ft_44_2, lt_24, lt_40, g3, gE, ld0, ldE, c1, c10, d2, d3]
      refine callI_pure cal14 hE ?_
      simp only [wpA_region, wpA_seq, wpA_cond, wpA_ret, condI_true, seqQ_normal, seqQ_ret, blkQ_ret, endI_mk, goI_out, goI_ops, opsA_nil, opsA_cons, stepA_move, stepA_assign, stepA_binOp, stepA_extract, thenV_some, extV_zero, extV_succ, eval_tmp, eval_const, put_some, enterF_succ, aBin_neq, absV_int, absV_snil, Int.reduceBNe, Nat.reduceEqDiff, if_true, if_false, retA_ret, Tryd.results9, resultsA_2]
      exact hid_mk ⟨_, by rw [hG]; exact castNil _ _, kH⟩
    · simp only [wpA_skip, wpA_region, wpA_seq, wpA_cond, wpA_block, condI_true, condI_false, seqQ_normal, goI_out, goI_ops, opsA_nil, opsA_cons, stepA_assign, stepA_load, stepA_binOp, stepA_fieldAddr, stepA_call, thenV_some, eval_tmp, eval_const, put_some, enterF_succ, aBin_eql, absV_int, aField_eq, fieldGo_ptr, aLoad_eq, loadGo_row, aPlace_ptr, dropC_cells, Nat.reduceEqDiff, Nat.reduceAdd, List.map_cons, List.map_nil, Nat.zero_add, Nat.zero_le, List.length_cons, List.length_nil, List.drop_zero, List.take_succ_cons, List.take_nil, if_true, if_false, Nat.le_refl, ft_44_2, lt_24, lt_40, g3, gE, ld0, ldE, c1, c10, d2, d3, d4]
      refine callI_pure cal14 hE ?_
      simp only [wpA_region, wpA_seq, wpA_cond, wpA_ret, condI_true, seqQ_normal, seqQ_ret, blkQ_ret, endI_mk, goI_out, goI_ops, opsA_nil, opsA_cons, stepA_move, stepA_assign, stepA_binOp, stepA_extract, thenV_some, extV_zero, extV_succ, eval_tmp, eval_const, put_some, enterF_succ, aBin_neq, absV_int, absV_snil, Int.reduceBNe, Nat.reduceEqDiff, if_true, if_false, retA_ret, Tryd.results9, resultsA_2]
      exact hid_mk ⟨_, by rw [hG]; exact castNil _ _, kH⟩
    · simp only [wpA_region, wpA_seq, wpA_cond, wpA_block, condI_true, condI_false, seqQ_normal, goI_out, goI_ops, opsA_nil, opsA_cons, stepA_assign, stepA_load, stepA_binOp, stepA_fieldAddr, stepA_call, thenV_some, eval_tmp, eval_const, put_some, enterF_succ, aBin_eql, absV_int, aField_eq, fieldGo_ptr, aLoad_eq, loadGo_row, aPlace_ptr, dropC_cells, Nat.reduceEqDiff, Nat.reduceAdd, List.map_cons, List.map_nil, Nat.zero_add, Nat.zero_le, List.length_cons, List.length_nil, List.drop_zero, List.take_succ_cons, List.take_nil, if_true, if_false, Nat.le_refl, ft_44_2, lt_24, lt_40, g3, gE, ld0, ldE, c1, c10, d2, d3, d4, d5]
      refine callI_pure cal14 hE ?_
      simp only [wpA_region, wpA_seq, wpA_cond, wpA_ret, condI_true, seqQ_normal, seqQ_ret, blkQ_ret, endI_mk, goI_out, goI_ops, opsA_nil, opsA_cons, stepA_move, stepA_assign, stepA_binOp, stepA_extract, thenV_some, extV_zero, extV_succ, eval_tmp, eval_const, put_some, enterF_succ, aBin_neq, absV_int, absV_snil, Int.reduceBNe, Nat.reduceEqDiff, if_true, if_false, retA_ret, Tryd.results9, resultsA_2]
      exact hid_mk ⟨_, by rw [hG]; exact castNil _ _, kH⟩
  | true =>
    rw [hm] at hE hG
    simp only [if_true] at hE hG
    cases hv : valF r.k r.v r.t 0 16 e with
    | none =>
      rw [hv] at hE hG
      rcases cs with d2 | ⟨d2, d3⟩ | ⟨d2, d3, d4⟩ | ⟨d2, d3, d4, d5⟩
      · simp only [wpA_skip, wpA_region, wpA_seq, wpA_cond, wpA_block, condI_true, condI_false, seqQ_normal, goI_out, goI_ops, opsA_nil, opsA_cons, stepA_assign, stepA_load, stepA_binOp, stepA_fieldAddr, stepA_call, thenV_some, eval_tmp, eval_const, put_some, enterF_succ, aBin_eql, absV_int, aField_eq, fieldGo_ptr, aLoad_eq, loadGo_row, aPlace_ptr, dropC_cells, Nat.reduceEqDiff, Nat.reduceAdd, List.map_cons, List.map_nil, Nat.zero_add, Nat.zero_le, List.length_cons, List.length_nil, List.drop_zero, List.take_succ_cons, List.take_nil, if_true, if_false, Nat.le_refl, ft_44_2, lt_24, lt_40, g3, gE, ld0, ldE, c1, c10, d2]
        refine callI_pure cal14 hE ?_
        simp only [wpA_region, wpA_seq, wpA_cond, wpA_ret, condI_true, seqQ_normal, seqQ_ret, blkQ_ret, endI_mk, goI_out, goI_ops, opsA_nil, opsA_cons, stepA_move, stepA_assign, stepA_binOp, stepA_extract, thenV_some, extV_zero, extV_succ, eval_tmp, eval_const, put_some, enterF_succ, aBin_neq, absV_int, absV_snil, Int.reduceBNe, Nat.reduceEqDiff, if_true, if_false, evO, retA_ret, Tryd.results9, resultsA_2]
        exact hid_mk ⟨_, by rw [hG]; exact castNil _ _, kH⟩
      · simp only [wpA_skip, wpA_region, wpA_seq, wpA_cond, wpA_block, condI_true, condI_false, seqQ_normal, goI_out, goI_ops, opsA_nil, opsA_cons, stepA_assign, stepA_load, stepA_binOp, stepA_fieldAddr, stepA_call, thenV_some, eval_tmp, eval_const, put_some, enterF_succ, aBin_eql, absV_int, aField_eq, fieldGo_ptr, aLoad_eq, loadGo_row, aPlace_ptr, dropC_cells, Nat.reduceEqDiff, Nat.reduceAdd, List.map_cons, List.map_nil, Nat.zero_add, Nat.zero_le, List.length_cons, List.length_nil, List.drop_zero, List.take_succ_cons, List.take_nil, if_true, if_false, Nat.le_refl, ft_44_2, lt_24, lt_40, g3, gE, ld0, ldE, c1, c10, d2, d3]
        refine callI_pure cal14 hE ?_
        simp only [wpA_region, wpA_seq, wpA_cond, wpA_ret, condI_true, seqQ_normal, seqQ_ret, blkQ_ret, endI_mk, goI_out, goI_ops, opsA_nil, opsA_cons, stepA_move, stepA_assign, stepA_binOp, stepA_extract, thenV_some, extV_zero, extV_succ, eval_tmp, eval_const, put_some, enterF_succ, aBin_neq, absV_int, absV_snil, Int.reduceBNe, Nat.reduceEqDiff, if_true, if_false, evO, retA_ret, Tryd.results9, resultsA_2]
        exact hid_mk ⟨_, by rw [hG]; exact castNil _ _, kH⟩
      · simp only [wpA_skip, wpA_region, wpA_seq, wpA_cond, wpA_block, condI_true, condI_false, seqQ_normal, goI_out, goI_ops, opsA_nil, opsA_cons, stepA_assign, stepA_load, stepA_binOp, stepA_fieldAddr, stepA_call, thenV_some, eval_tmp, eval_const, put_some, enterF_succ, aBin_eql, absV_int, aField_eq, fieldGo_ptr, aLoad_eq, loadGo_row, aPlace_ptr, dropC_cells, Nat.reduceEqDiff, Nat.reduceAdd, List.map_cons, List.map_nil, Nat.zero_add, Nat.zero_le, List.length_cons, List.length_nil, List.drop_zero, List.take_succ_cons, List.take_nil, if_true, if_false, Nat.le_refl, ft_44_2, lt_24, lt_40, g3, gE, ld0, ldE, c1, c10, d2, d3, d4]
        refine callI_pure cal14 hE ?_
        simp only [wpA_region, wpA_seq, wpA_cond, wpA_ret, condI_true, seqQ_normal, seqQ_ret, blkQ_ret, endI_mk, goI_out, goI_ops, opsA_nil, opsA_cons, stepA_move, stepA_assign, stepA_binOp, stepA_extract, thenV_some, extV_zero, extV_succ, eval_tmp, eval_const, put_some, enterF_succ, aBin_neq, absV_int, absV_snil, Int.reduceBNe, Nat.reduceEqDiff, if_true, if_false, evO, retA_ret, Tryd.results9, resultsA_2]
        exact hid_mk ⟨_, by rw [hG]; exact castNil _ _, kH⟩
      · simp only [wpA_region, wpA_seq, wpA_cond, wpA_block, condI_true, condI_false, seqQ_normal, goI_out, goI_ops, opsA_nil, opsA_cons, stepA_assign, stepA_load, stepA_binOp, stepA_fieldAddr, stepA_call, thenV_some, eval_tmp, eval_const, put_some, enterF_succ, aBin_eql, absV_int, aField_eq, fieldGo_ptr, aLoad_eq, loadGo_row, aPlace_ptr, dropC_cells, Nat.reduceEqDiff, Nat.reduceAdd, List.map_cons, List.map_nil, Nat.zero_add, Nat.zero_le, List.length_cons, List.length_nil, List.drop_zero, List.take_succ_cons, List.take_nil, if_true, if_false, Nat.le_refl, ft_44_2, lt_24, lt_40, g3, gE, ld0, ldE, c1, c10, d2, d3, d4, d5]
        refine callI_pure cal14 hE ?_
        simp only [wpA_region, wpA_seq, wpA_cond, wpA_ret, condI_true, seqQ_normal, seqQ_ret, blkQ_ret, endI_mk, goI_out, goI_ops, opsA_nil, opsA_cons, stepA_move, stepA_assign, stepA_binOp, stepA_extract, thenV_some, extV_zero, extV_succ, eval_tmp, eval_const, put_some, enterF_succ, aBin_neq, absV_int, absV_snil, Int.reduceBNe, Nat.reduceEqDiff, if_true, if_false, evO, retA_ret, Tryd.results9, resultsA_2]
        exact hid_mk ⟨_, by rw [hG]; exact castNil _ _, kH⟩
    | some m =>
      rw [hv] at hE hG
      have hR := pResults kind m r H
      rcases cs with d2 | ⟨d2, d3⟩ | ⟨d2, d3, d4⟩ | ⟨d2, d3, d4, d5⟩
      · simp only [wpA_skip, wpA_region, wpA_seq, wpA_cond, wpA_block, condI_true, condI_false, seqQ_normal, goI_out, goI_ops, opsA_nil, opsA_cons, stepA_assign, stepA_load, stepA_binOp, stepA_fieldAddr, stepA_call, thenV_some, eval_tmp, eval_const, put_some, enterF_succ, aBin_eql, absV_int, aField_eq, fieldGo_ptr, aLoad_eq, loadGo_row, aPlace_ptr, dropC_cells, Nat.reduceEqDiff, Nat.reduceAdd, List.map_cons, List.map_nil, Nat.zero_add, Nat.zero_le, List.length_cons, List.length_nil, List.drop_zero, List.take_succ_cons, List.take_nil, if_true, if_false, Nat.le_refl, ft_44_2, lt_24, lt_40, g3, gE, ld0, ldE, c1, c10, d2]
        refine callI_pure cal14 hE ?_
        simp only [wpA_skip, wpA_region, wpA_seq, wpA_cond, condI_false, seqQ_normal, goI_out, goI_ops, opsA_nil, opsA_cons, stepA_move, stepA_assign, stepA_load, stepA_binOp, stepA_fieldAddr, stepA_extract, stepA_call, thenV_some, extV_zero, extV_succ, eval_tmp, eval_const, put_some, enterF_succ, aBin_neq, absV_int, aField_eq, fieldGo_ptr, aLoad_eq, loadGo_row, aPlace_ptr, dropC_cells, bne_self_eq_false, Nat.reduceEqDiff, Nat.reduceAdd, List.map_cons, List.map_nil, Nat.add_zero, Nat.zero_add, Nat.zero_le, List.length_cons, List.length_nil, List.drop_zero, List.take_succ_cons, List.take_nil, if_true, if_false, Nat.le_refl, ft_44_0, lt_24, lt_3, evO, g2, g3, ld0]
        refine callI_pure cal15 hR ?_
        simp only [wpA_ret, seqQ_normal, seqQ_ret, blkQ_ret, endI_mk, goI_out, goI_ops, opsA_nil, opsA_cons, stepA_assign, eval_tmp, eval_const, put_some, enterF_succ, absV_int, Nat.reduceEqDiff, if_true, if_false, retA_ret, Tryd.results9, resultsA_2]
        exact hid_mk ⟨_, by rw [hG]; exact Cast.refl _ _, kH⟩
      · simp only [wpA_skip, wpA_region, wpA_seq, wpA_cond, wpA_block, condI_true, condI_false, seqQ_normal, goI_out, goI_ops, opsA_nil, opsA_cons, stepA_assign, stepA_load, stepA_binOp, stepA_fieldAddr, stepA_call, thenV_some, eval_tmp, eval_const, put_some, enterF_succ, aBin_eql, absV_int, aField_eq, fieldGo_ptr, aLoad_eq, loadGo_row, aPlace_ptr, dropC_cells, Nat.reduceEqDiff, Nat.reduceAdd, List.map_cons, List.map_nil, Nat.zero_add, Nat.zero_le, List.length_cons, List.length_nil, List.drop_zero, List.take_succ_cons, List.take_nil, if_true, if_false, Nat.le_refl, ft_44_2, lt_24, lt_40, g3, gE, ld0, ldE, c1, c10, d2, d3]
        refine callI_pure cal14 hE ?_
        simp only [wpA_skip, wpA_region, wpA_seq, wpA_cond, condI_false, seqQ_normal, goI_out, goI_ops, opsA_nil, opsA_cons, stepA_move, stepA_assign, stepA_load, stepA_binOp, stepA_fieldAddr, stepA_extract, stepA_call, thenV_some, extV_zero, extV_succ, eval_tmp, eval_const, put_some, enterF_succ, aBin_neq, absV_int, aField_eq, fieldGo_ptr, aLoad_eq, loadGo_row, aPlace_ptr, dropC_cells, bne_self_eq_false, Nat.reduceEqDiff, Nat.reduceAdd, List.map_cons, List.map_nil, Nat.add_zero, Nat.zero_add, Nat.zero_le, List.length_cons, List.length_nil, List.drop_zero, List.take_succ_cons, List.take_nil, if_true, if_false, Nat.le_refl, ft_44_0, lt_24, lt_3, evO, g2, g3, ld0]
        refine callI_pure cal15 hR ?_
        simp only [wpA_ret, seqQ_normal, seqQ_ret, blkQ_ret, endI_mk, goI_out, goI_ops, opsA_nil, opsA_cons, stepA_assign, eval_tmp, eval_const, put_some, enterF_succ, absV_int, Nat.reduceEqDiff, if_true, if_false, retA_ret, Tryd.results9, resultsA_2]
        exact hid_mk ⟨_, by rw [hG]; exact Cast.refl _ _, kH⟩
      · simp only [wpA_skip, wpA_region, wpA_seq, wpA_cond, wpA_block, condI_true, condI_false, seqQ_normal, goI_out, goI_ops, opsA_nil, opsA_cons, stepA_assign, stepA_load, stepA_binOp, stepA_fieldAddr, stepA_call, thenV_some, eval_tmp, eval_const, put_some, enterF_succ, aBin_eql, absV_int, aField_eq, fieldGo_ptr, aLoad_eq, loadGo_row, aPlace_ptr, dropC_cells, Nat.reduceEqDiff, Nat.reduceAdd, List.map_cons, List.map_nil, Nat.zero_add, Nat.zero_le, List.length_cons, List.length_nil, List.drop_zero, List.take_succ_cons, List.take_nil, if_true, if_false, Nat.le_refl, ft_44_2, lt_24, lt_40, g3, gE, ld0, ldE, c1, c10, d2, d3, d4]
        refine callI_pure cal14 hE ?_
        simp only [wpA_skip, wpA_region, wpA_seq, wpA_cond, condI_false, seqQ_normal, goI_out, goI_ops, opsA_nil, opsA_cons, stepA_move, stepA_assign, stepA_load, stepA_binOp, stepA_fieldAddr, stepA_extract, stepA_call, thenV_some, extV_zero, extV_succ, eval_tmp, eval_const, put_some, enterF_succ, aBin_neq, absV_int, aField_eq, fieldGo_ptr, aLoad_eq, loadGo_row, aPlace_ptr, dropC_cells, bne_self_eq_false, Nat.reduceEqDiff, Nat.reduceAdd, List.map_cons, List.map_nil, Nat.add_zero, Nat.zero_add, Nat.zero_le, List.length_cons, List.length_nil, List.drop_zero, List.take_succ_cons, List.take_nil, if_true, if_false, Nat.le_refl, ft_44_0, lt_24, lt_3, evO, g2, g3, ld0]
        refine callI_pure cal15 hR ?_
        simp only [wpA_ret, seqQ_normal, seqQ_ret, blkQ_ret, endI_mk, goI_out, goI_ops, opsA_nil, opsA_cons, stepA_assign, eval_tmp, eval_const, put_some, enterF_succ, absV_int, Nat.reduceEqDiff, if_true, if_false, retA_ret, Tryd.results9, resultsA_2]
        exact hid_mk ⟨_, by rw [hG]; exact Cast.refl _ _, kH⟩
      · simp only [wpA_region, wpA_seq, wpA_cond, wpA_block, condI_true, condI_false, seqQ_normal, goI_out, goI_ops, opsA_nil, opsA_cons, stepA_assign, stepA_load, stepA_binOp, stepA_fieldAddr, stepA_call, thenV_some, eval_tmp, eval_const, put_some, enterF_succ, aBin_eql, absV_int, aField_eq, fieldGo_ptr, aLoad_eq, loadGo_row, aPlace_ptr, dropC_cells, Nat.reduceEqDiff, Nat.reduceAdd, List.map_cons, List.map_nil, Nat.zero_add, Nat.zero_le, List.length_cons, List.length_nil, List.drop_zero, List.take_succ_cons, List.take_nil, if_true, if_false, Nat.le_refl, ft_44_2, lt_24, lt_40, g3, gE, ld0, ldE, c1, c10, d2, d3, d4, d5]
        refine callI_pure cal14 hE ?_
        simp only [wpA_skip, wpA_region, wpA_seq, wpA_cond, condI_false, seqQ_normal, goI_out, goI_ops, opsA_nil, opsA_cons, stepA_move, stepA_assign, stepA_load, stepA_binOp, stepA_fieldAddr, stepA_extract, stepA_call, thenV_some, extV_zero, extV_succ, eval_tmp, eval_const, put_some, enterF_succ, aBin_neq, absV_int, aField_eq, fieldGo_ptr, aLoad_eq, loadGo_row, aPlace_ptr, dropC_cells, bne_self_eq_false, Nat.reduceEqDiff, Nat.reduceAdd, List.map_cons, List.map_nil, Nat.add_zero, Nat.zero_add, Nat.zero_le, List.length_cons, List.length_nil, List.drop_zero, List.take_succ_cons, List.take_nil, if_true, if_false, Nat.le_refl, ft_44_0, lt_24, lt_3, evO, g2, g3, ld0]
        refine callI_pure cal15 hR ?_
        simp only [wpA_ret, seqQ_normal, seqQ_ret, blkQ_ret, endI_mk, goI_out, goI_ops, opsA_nil, opsA_cons, stepA_assign, eval_tmp, eval_const, put_some, enterF_succ, absV_int, Nat.reduceEqDiff, if_true, if_false, retA_ret, Tryd.results9, resultsA_2]
        exact hid_mk ⟨_, by rw [hG]; exact Cast.refl _ _, kH⟩
end Go.Proofs.YthnleejpeocaeaaDoor.Pk
