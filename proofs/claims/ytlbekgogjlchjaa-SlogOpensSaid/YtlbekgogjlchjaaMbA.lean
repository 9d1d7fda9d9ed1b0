/-
  What functions of the program do, told of abstract states. Conditions: as each theorem says.
-/
import Derived.Test.YtlbekgogjlchjaaMaH
import Derived.Test.YtlbekgogjlchjaaAbD
namespace Go.Proofs.Ytlbekgogjlchjaa.Pk
open Go Go.Proofs Go.Proofs.Ytlbekgogjlchjaa.Ab Go.Sort
set_option linter.unusedVariables false
set_option linter.unusedSimpArgs false
theorem celE_one (c : Cel) : (celE c).all (·.one) = true := rfl
theorem cel_cells (c : Cel) : (V.agg (celE c)).cells = some (celE c) := rfl
theorem cel_ix {l : List Cel} {k : Nat} (hk : k < l.length) {kk : IntKind} : aIndexAddr Try.prog 33 (.imm l.length (l.flatMap celE)) (.int kk (k : Int)) = some (.at (celE l[k] ++ (l.drop (k + 1)).flatMap celE)) := rows_ix celE_len hk ss_33
theorem cel_ld (c : Cel) (r : List V) : (if 3 ≤ (celE c ++ r).length then some (V.agg (List.take 3 (celE c ++ r))) else none) = some (.agg (celE c)) := by rw [if_pos (by rw [List.length_append, celE_len]; omega)]; rfl
theorem cel_ldc (c : Cel) : (if 3 ≤ (celE c).length then some (V.agg (List.take 3 (celE c))) else none) = some (.agg (celE c)) := rfl
theorem cel_ld0 (c : Cel) (r : List V) : loadGo (some none) (some (celE c ++ r)) = some (.int .i64 c.at_) := rfl
theorem cel_ld0' (c : Cel) : loadGo (some none) (some (celE c)) = some (.int .i64 c.at_) := rfl
theorem cel_fd1 (c : Cel) : (if 1 ≤ (celE c).length then some (List.drop 1 (celE c)) else none) = some [.int .i64 c.epoch, .imm c.bytes.length (bytesV c.bytes)] := rfl
theorem cel_fd2 (c : Cel) : (if 2 ≤ (celE c).length then some (List.drop 2 (celE c)) else none) = some [.imm c.bytes.length (bytesV c.bytes)] := rfl
theorem cel_store (c : Cel) : setC (some 3) (AObj.cells [V.int .i64 0, V.int .i64 0, V.snil] 39 none) 0 (celE c) = some (.cells (celE c) 39 none) := rfl
theorem lit1q (h : AHeap) (c : Cel) : aBuildSlice Try.prog 33 1 [(0, .agg (celE c))] h = some (.sl h.n 0 1 1, h.push (.cells (celE c) 39 none)) := by rw [buildSlice_go sl_33]; rfl
set_option maxRecDepth 10000 in
theorem pNewer (a b : Cel) (h : AHeap) : Pure Try.prog 73 [.agg (celE a), .agg (celE b)] h (.bool (decide (b.epoch < a.epoch))) := by
  refine Pure.val (Clo.bool _) ?_
  refine SCalls.enterI (c := _) Try.func73 rfl (by kernel_rfl) (by simp) ?_
  have cc := cel_cells
  have f1 := cel_fd1
  have l1 : ∀ c : Cel, List.drop 1 (celE c) = [.int .i64 c.epoch, .imm c.bytes.length (bytesV c.bytes)] := fun _ => rfl
  have cl := celE_len
  simp only [wpA_region, wpA_seq, wpA_ret, seqQ_normal, endI_mk, goI_out, goI_ops, opsA_nil, opsA_cons, stepA_assign, stepA_box, stepA_load, stepA_binOp, stepA_fieldAddr, thenV_some, thenH_some, eval_tmp, eval_const, put_some, enterF_zero, enterF_succ, aBin_gtr, absV_bool, aField_eq, fieldGo_ptr, aLoad_eq, loadGo_one, aPlace_ptr, dropC_cells, aBox_eq, push_n, get_push2, get_push2', Nat.reduceEqDiff, Nat.reduceLeDiff, Option.map_some, Nat.zero_add, if_true, if_false, ft_39_1, lt_3, cc, l1, cl, retA_ret, Try.results73, resultsA_1]
  exact hid_mk ⟨rfl, (Keep.push _ _ _).then_push _⟩
end Go.Proofs.Ytlbekgogjlchjaa.Pk
namespace Go.Proofs.Ytlbekgogjlchjaa.Pk
open Go Go.Proofs Go.Proofs.Ytlbekgogjlchjaa.Ab Go.Sort
set_option linter.unusedVariables false
set_option linter.unusedSimpArgs false
set_option maxRecDepth 10000 in
theorem qOwn (c : Cel) (hl : c.bytes.length ≤ 2 ^ 40) (h : AHeap) : Pure Try.prog 74 [.agg (celE c)] h (.agg (celE c)) := by
  refine Pure.of (Clo.agg (celE_clo _)) ?_
  refine SCalls.enterI (c := _) Try.func74 rfl (by kernel_rfl) (by simp) ?_
  have cc := cel_cells
  have f2 := cel_fd2
  have l2 : ∀ c : Cel, List.drop 2 (celE c) = [.imm c.bytes.length (bytesV c.bytes)] := fun _ => rfl
  have cl := celE_len
  simp only [wpA_region, wpA_seq, seqQ_normal, goI_out, goI_ops, opsA_nil, opsA_cons, stepA_alloc, stepA_box, stepA_load, stepA_fieldAddr, stepA_call, thenV_some, thenH_some, eval_tmp, put_some, enterF_zero, enterF_succ, aField_eq, fieldGo_ptr, aLoad_eq, loadGo_one, aPlace_ptr, dropC_cells, aAlloc_eq, aBox_eq, push_n, get_push2', Nat.reduceEqDiff, Nat.reduceLeDiff, List.map_cons, List.map_nil, Option.map_some, Nat.zero_add, if_true, if_false, ft_39_2, lt_30, zc_39, cc, l2, cl]
  refine callI_pure cal50 (pCloneB c.bytes hl _) ?_
  have tk : List.take 3 (celE c) = celE c := rfl
  have s2 : setC (some 1) (AObj.cells (celE c) 39 none) 2 [.imm c.bytes.length (bytesV c.bytes)] = some (.cells (celE c) 39 none) := rfl
  have st := cel_store
  have ld := cel_ldc
  simp only [wpA_region, wpA_seq, wpA_ret, seqQ_normal, endI_mk, goI_out, goI_ops, opsA_nil, opsA_cons, stepA_load, stepA_store, stepA_fieldAddr, thenV_some, thenS_some, eval_tmp, put_some, put_none, enterF_succ, cells_imm, aField_eq, fieldGo_ptr, aLoad_eq, loadGo_row, aPlace_ptr, dropC_cells, aStore_eq, storeGo_ptr, get_push2, get_push2', set_push2, set_push2', Nat.reduceEqDiff, Option.map_some, Nat.zero_add, Nat.zero_le, List.drop_zero, if_true, if_false, Nat.le_refl, ft_39_2, lt_39, zt_30, zt_39, cc, cl, s2, st, tk, retA_ret, Try.results74, resultsC_1, resultA_cell]
  exact hid_mk ⟨_, Cast.refl _ _, (Keep.push _ _ _).then_push _⟩
/-- The first one of the highest epoch. -/
def bestF (t : Option Cel) (c : Cel) : Option Cel := match t with
  | none => some c
  | some t => if t.epoch < c.epoch then some c else some t
def bestOf (l : List Cel) : Option Cel := l.foldl bestF none
theorem bestOf_snoc (l : List Cel) (c : Cel) : bestOf (l ++ [c]) = bestF (bestOf l) c := by unfold bestOf; rw [List.foldl_append]; rfl
theorem bestF_some (t : Option Cel) (c : Cel) : ∃ d, bestF t c = some d := by
  cases t with
  | none => exact ⟨c, rfl⟩
  | some t => unfold bestF; simp only; split <;> exact ⟨_, rfl⟩
def cel0 : Cel := ⟨0, 0, []⟩
def topC (o : Option Cel) : List V := match o with
  | none => [.int .i64 0, .int .i64 0, .snil]
  | some c => celE c
theorem topC_cast (o : Option Cel) (b : Bool) (h : AHeap) : Cast (.tuple [.agg (topC o), .bool b]) h (.tuple [.agg (celE (o.getD cel0)), .bool b]) h := by
  cases o with
  | some c => exact Cast.refl _ _
  | none =>
    refine Cast.tuple (CastL.cons ?_ (CastL.refl _ _))
    exact castAgg (CastL.cons (Cast.refl _ _) (CastL.cons (Cast.refl _ _) (CastL.cons (Cast.snil0 h) (CastL.refl _ _))))
set_option maxHeartbeats 1000000 in
set_option maxRecDepth 10000 in
theorem pBest (l : List Cel) (hl : l.length ≤ 2 ^ 40) (h : AHeap) : Pure Try.prog 72 [.imm l.length (l.flatMap celE), .func (.func 73) [] []] h (.tuple [.agg (celE ((bestOf l).getD cel0)), .bool (decide (0 < l.length))]) := by
  refine Pure.of (Clo.tuple (CloL.cons (Clo.agg (celE_clo _)) (CloL.cons (Clo.bool _) CloL.nil))) ?_
  refine SCalls.enterI (c := _) Try.func72 rfl (by kernel_rfl) (by simp) ?_
  simp only [wpA_region, wpA_seq, wpA_block, wpA_loop, seqQ_normal, goI_out, goI_ops, opsA_nil, opsA_cons, stepA_move, stepA_assign, stepA_alloc, stepA_len, thenV_some, thenH_some, eval_tmp, eval_const, put_some, enterF_zero, enterF_succ, absV_int, absV_bool, aAlloc_eq, aLen_imm, push_n, Nat.reduceEqDiff, reduceCtorEq, Option.map_some, if_true, if_false, kt_33, zc_39]
  have cc : ∀ o, (V.agg (topC o)).cells = some (topC o) := fun _ => rfl
  have cce := cel_cells
  have tl : ∀ o, (topC o).length = 3 := fun o => by cases o <;> rfl
  have ldt : ∀ o, (if 3 ≤ (topC o).length then some (V.agg (List.take 3 (topC o))) else none) = some (.agg (topC o)) := fun o => by cases o <;> rfl
  have st : ∀ o c, setC (some 3) (AObj.cells (topC o) 39 none) 0 (celE c) = some (.cells (celE c) 39 none) := fun o c => by cases o <;> rfl
  have st2 : ∀ o, setC (some 3) (AObj.cells [V.int .i64 0, V.int .i64 0, V.snil] 39 none) 0 (topC o) = some (.cells (topC o) 39 none) := fun o => by cases o <;> rfl
  have ste := cel_store
  have lde := cel_ldc
  refine SWp.loopG (α := Nat) (fun i f h' => f 0 = .imm l.length (l.flatMap celE) ∧ f 1 = .func (.func 73) [] [] ∧ f 4 = .ptr h.n 0 ∧ f 6 = .ptr (h.n + 1) 0 ∧ f 9 = .imm l.length (l.flatMap celE) ∧ f 10 = .int .i64 (l.length : Nat) ∧ f 11 = .int .i64 (i : Nat) ∧ i ≤ l.length ∧ Keep h h' none_ ∧ h.n + 1 < h'.n ∧
      h'.get h.n = .cells [.int .i64 0, .int .i64 0, .snil] 39 none ∧ h'.get (h.n + 1) = .cells (topC (bestOf (l.take i))) 39 none) (fun i => l.length - i) 0
    ⟨rfl, rfl, rfl, rfl, rfl, rfl, rfl, Nat.zero_le _, (Keep.push _ _ _).then_push _, Nat.lt_succ_self _, (get_push_lt (Nat.lt_succ_self _)).trans get_push_new, get_push_new⟩ ?_
  rintro i f h1 ⟨f0, f1, f4, f6, f9, f10, f11, hi, k1, n1, g4, g6⟩
  refine wpI_sound (by kernel_rfl) ?_
  by_cases hlt : i < l.length
  · have d1 : decide ((i : Int) < ((l.length : Nat) : Int)) = true := decide_eq_true (by omega)
    have hw : IntKind.i64.wrap ((i : Int) + 1) = ((i + 1 : Nat) : Int) := by rw [Go.IntWalk.i64_in _ (by omega)]; omega
    have x1 := cel_ix (kk := .i64) hlt
    have hb := bestOf_snoc (l.take i) l[i]
    rw [← List.take_succ_eq_append_getElem hlt] at hb
    have ld := cel_ld
    generalize hc : l[i] = c at x1 hb
    have kP := k1.then_push (.cells (celE c) 39 none)
    have gP : (h1.push (.cells (celE c) 39 none)).get h1.n = .cells (celE c) 39 none := get_push_new
    have g4P := (get_push_lt (o := .cells (celE c) 39 none) (show h.n < h1.n by omega)).trans g4
    have g6P := (get_push_lt (o := .cells (celE c) 39 none) n1).trans g6
    have nP : (h1.push (.cells (celE c) 39 none)).n = h1.n + 1 := rfl
    simp only [wpA_skip, wpA_region, wpA_seq, wpA_cond, wpA_block, condI_true, seqQ_normal, goI_out, goI_ops, opsA_nil, opsA_cons, opsA_guardS, slotAt_zero, slotAt_succ, stepA_move, stepA_assign, stepA_alloc, stepA_load, stepA_store, stepA_binOp, stepA_indexAddr, thenV_some, thenH_some, thenS_some, eval_tmp, eval_const, put_some, put_none, aBin_eql, aBin_lss, absV_int, aLoad_eq, loadGo_row, aPlace_at, aStore_eq, storeGo_ptr, aAlloc_eq, get_push_new, set_push, Nat.reduceEqDiff, Option.map_some, if_true, if_false, lt_39, zc_39, zt_39, f9, f10, f11, d1, x1, ld, cce, ste]
    generalize h1.push (.cells (celE c) 39 none) = hP at kP gP g4P g6P nP ⊢
    by_cases h0 : i = 0
    · subst h0
      have b0 : ((((0 : Nat) : Int)) == 0) = true := rfl
      rw [List.take_zero] at hb g6P
      have hb' : bestOf (l.take (0 + 1)) = some c := hb
      have kS : ∀ o, Keep h (hP.set (h.n + 1) o) none_ := fun o => kP.setNew (by omega) o
      simp only [wpA_region, wpA_cond, condI_true, seqQ_normal, blkQ_normal, endI_mk, andThen_normal, goI_out, goI_ops, opsA_nil, opsA_cons, opsA_guardS, gvI_tf, slotAt_zero, slotAt_succ, stepA_move, stepA_pick, stepA_load, stepA_store, stepA_binOp, thenV_some, thenS_some, pickV_true, eval_tmp, eval_const, put_some, put_none, aBin_add, absV_int, absV_bool, aLoad_eq, loadGo_row, aPlace_ptr, dropC_cells, aStore_eq, storeGo_ptr, Nat.reduceEqDiff, Option.map_some, Nat.zero_add, Nat.zero_le, List.drop_zero, if_true, if_false, lt_39, zt_39, f6, f11, b0, gP, g6P, lde, cce, st, hw]
      exact hid_mk ⟨1, ⟨f0, f1, f4, f6, f9, f10, rfl, hlt, kS _, by show h.n + 1 < hP.n; omega, (get_set_ne (by omega)).trans g4P, by rw [hb']; exact get_set_same⟩, by omega⟩
    · have b0 : ((i : Int) == 0) = false := by simp; omega
      obtain ⟨t, ht⟩ : ∃ t, bestOf (l.take i) = some t := by
        obtain ⟨j, rfl⟩ : ∃ j, i = j + 1 := ⟨i - 1, by omega⟩
        rw [List.take_succ_eq_append_getElem (by omega), bestOf_snoc]
        exact bestF_some _ _
      rw [ht] at g6P hb
      have tt : topC (some t) = celE t := rfl
      rw [tt] at g6P
      have st3 : ∀ t c, setC (some 3) (AObj.cells (celE t) 39 none) 0 (celE c) = some (.cells (celE c) 39 none) := fun t c => rfl
      simp only [goI_ops, opsA_guardS, gvI_same, slotAt_zero, slotAt_succ, stepA_move, stepA_load, stepA_callv, callvI_func, thenV_some, eval_tmp, put_some, put_none, aLoad_eq, loadGo_row, aPlace_ptr, dropC_cells, Nat.reduceEqDiff, List.map_cons, List.map_nil, Nat.zero_le, List.drop_zero, List.nil_append, List.append_nil, if_true, if_false, lt_39, f1, f6, b0, gP, g6P, lde]
      refine callI_pure cal73 (pNewer c t hP) ?_
      by_cases hn : t.epoch < c.epoch
      · have d2 : decide (t.epoch < c.epoch) = true := decide_eq_true hn
        have hb' : bestOf (l.take (i + 1)) = some c := by rw [hb]; unfold bestF; simp [hn]
        have kS : ∀ o, Keep h (hP.set (h.n + 1) o) none_ := fun o => kP.setNew (by omega) o
        simp only [wpA_region, wpA_cond, condI_true, seqQ_normal, blkQ_normal, endI_mk, andThen_normal, goI_out, goI_ops, opsA_nil, opsA_cons, stepA_move, stepA_pick, stepA_load, stepA_store, stepA_binOp, thenV_some, thenS_some, pickV_false, eval_tmp, eval_const, put_some, put_none, aBin_add, absV_int, absV_bool, aLoad_eq, loadGo_row, aPlace_ptr, dropC_cells, aStore_eq, storeGo_ptr, Nat.reduceEqDiff, Option.map_some, Nat.zero_le, List.drop_zero, if_true, if_false, lt_39, zt_39, f6, f11, gP, g6P, lde, cce, st3, d2, hw]
        exact hid_mk ⟨i + 1, ⟨f0, f1, f4, f6, f9, f10, rfl, hlt, kS _, by show h.n + 1 < hP.n; omega, (get_set_ne (by omega)).trans g4P, by rw [hb']; exact get_set_same⟩, by omega⟩
      · have d2 : decide (t.epoch < c.epoch) = false := decide_eq_false hn
        have hb' : bestOf (l.take (i + 1)) = some t := by rw [hb]; unfold bestF; simp [hn]
        simp only [wpA_skip, wpA_region, wpA_cond, condI_false, seqQ_normal, blkQ_normal, endI_mk, andThen_normal, goI_out, goI_ops, opsA_nil, opsA_cons, stepA_move, stepA_pick, stepA_binOp, thenV_some, pickV_false, eval_tmp, eval_const, put_some, put_none, aBin_add, absV_int, absV_bool, Nat.reduceEqDiff, if_true, if_false, f11, d2, hw]
        exact hid_mk ⟨i + 1, ⟨f0, f1, f4, f6, f9, f10, rfl, hlt, kP, by omega, g4P, by rw [hb']; exact g6P⟩, by omega⟩
  · have d1 : decide ((i : Int) < ((l.length : Nat) : Int)) = false := decide_eq_false (by omega)
    rw [List.take_of_length_le (by omega)] at g6
    have kS : ∀ o, Keep h (h1.set h.n o) none_ := fun o => k1.setNew (by omega) o
    have e2 : decide ((0 : Int) < ((l.length : Nat) : Int)) = decide (0 < l.length) := by rw [Bool.eq_iff_iff]; simp
    simp only [wpA_region, wpA_seq, wpA_cond, wpA_exit, wpA_ret, condI_false, seqQ_normal, seqQ_exit, blkQ_exit, endI_mk, goE, andThen_exit, goI_out, goI_ops, opsA_nil, opsA_cons, stepA_move, stepA_assign, stepA_load, stepA_store, stepA_binOp, stepA_len, thenV_some, thenS_some, eval_tmp, eval_const, put_some, put_none, aBin_lss, aBin_gtr, absV_int, aLoad_eq, loadGo_row, aPlace_ptr, dropC_cells, aStore_eq, storeGo_ptr, aLen_imm, get_set_same, Nat.reduceEqDiff, reduceCtorEq, Option.map_some, Nat.zero_le, List.drop_zero, if_true, if_false, kt_33, lt_39, zt_39, f0, f4, f6, f10, f11, d1, g6, g4, ldt, cc, st2, e2, retA_ret, Try.results72, resultsC_2, resultA_tmp, resultA_cell, res2_some]
    exact hid_mk ⟨_, topC_cast _ _ _, kS _⟩
/-! ### The comparator -/
set_option maxRecDepth 10000 in
theorem byAt (a b : Cel) (h : AHeap) : Pure Try.prog 75 [.agg (celE a), .agg (celE b)] h (.int .i64 (cmpI a.at_ b.at_)) := by
  refine Pure.val (Clo.int _ _) ?_
  refine SCalls.enterI (c := _) Try.func75 rfl (by kernel_rfl) (by simp) ?_
  have cc := cel_cells
  have l0 := cel_ld0'
  have kk : Keep h ((h.push (.cells (celE a) 39 none)).push (.cells (celE b) 39 none)) none_ := (Keep.push _ _ _).then_push _
  simp only [wpA_region, wpA_seq, seqQ_normal, goI_out, goI_ops, opsA_nil, opsA_cons, stepA_assign, stepA_box, stepA_load, stepA_fieldAddr, stepA_call, thenV_some, thenH_some, eval_tmp, eval_const, put_some, enterF_zero, enterF_succ, absV_int, aField_eq, fieldGo_ptr, aLoad_eq, aPlace_ptr, dropC_cells, aBox_eq, push_n, get_push2, get_push2', Nat.reduceEqDiff, List.map_cons, List.map_nil, Option.map_some, Nat.add_zero, Nat.zero_le, List.drop_zero, if_true, if_false, ft_39_0, lt_3, cc, l0]
  refine callI_pure cal68 (cmp64 _ _ _) ?_
  simp only [wpA_ret, seqQ_normal, endI_mk, goI_out, goI_ops, opsA_nil, opsA_cons, stepA_assign, eval_tmp, put_some, enterF_succ, Nat.reduceEqDiff, if_true, if_false, retA_ret, Try.results75, resultsA_1]
  exact hid_mk ⟨rfl, kk⟩
set_option maxRecDepth 10000 in
theorem pNeed (n : Int) (h0 : 0 ≤ n) (h1 : n ≤ 2 ^ 60) (h : AHeap) : Pure Try.prog 89 [.int .i64 n] h (.int .i64 (n / 2 + 1)) := by
  refine Pure.val (Clo.int _ _) ?_
  refine SCalls.enterI (c := _) Try.func89 rfl (by kernel_rfl) (by simp) ?_
  have e1 : (if n < 0 then (0 : Int) else n) = n := if_neg (by omega)
  have e2 : n.tdiv 2 = n / 2 := Int.tdiv_eq_ediv_of_nonneg h0
  have e3 : IntKind.i64.wrap (n / 2) = n / 2 := Go.IntWalk.i64_in _ (by omega)
  have e4 : IntKind.i64.wrap (n / 2 + 1) = n / 2 + 1 := Go.IntWalk.i64_in _ (by omega)
  have e5 : max n 0 = n := by omega
  simp only [wpA_region, wpA_seq, wpA_ret, seqQ_normal, endI_mk, goI_out, goI_ops, opsA_nil, opsA_cons, stepA_move, stepA_assign, stepA_binOp, stepA_max, thenV_some, eval_tmp, eval_const, put_some, enterF_zero, enterF_succ, aBin_add, mmV_max, absV_int, Nat.reduceEqDiff, reduceCtorEq, if_true, if_false, aBin_quo (show (2 : Int) ≠ 0 by decide), e2, e3, e4, e5, retA_ret, Try.results89, resultsA_1]
  exact hid_mk ⟨rfl, Keep.refl _ _⟩
end Go.Proofs.Ytlbekgogjlchjaa.Pk
namespace Go.Proofs.Ytlbekgogjlchjaa.Pk
open Go Go.Proofs Go.Proofs.Ytlbekgogjlchjaa.Ab Go.Sort
set_option linter.unusedVariables false
set_option linter.unusedSimpArgs false
/-! ### Merge: cells by their slots -/
abbrev EntQ := List (Nat × Int × (V × List Cel))
def qE (m : EntQ) : List (Nat × V × V) := mapK (V.int .i64) Prod.fst m
def atOf (cs : List Cel) (k : Int) : List Cel := cs.filter fun c => c.at_ == k
theorem atOf_snoc (cs : List Cel) (c : Cel) (k : Int) : atOf (cs ++ [c]) k = if c.at_ = k then atOf cs k ++ [c] else atOf cs k := by
  unfold atOf
  rw [List.filter_append]
  by_cases h : c.at_ = k <;> simp [h]
theorem mpq : ∃ et, mapT Try.prog 124 = some (3, et, .int .i64) ∧ zeroT Try.prog et = some (.slice none 0 0) := by
  have h : (mapT Try.prog 124).map (fun q => (q.1, q.2.1)) = some (3, 33) := by kernel_rfl
  have hu : Try.prog.underlying 3 = some (.int .i64) := Try.underlying3
  cases hm : mapT Try.prog 124 with
  | none => rw [hm] at h; cases h
  | some q =>
    rw [hm] at h
    obtain ⟨a, b, d⟩ := q
    simp only [Option.map_some, Option.some.injEq, Prod.mk.injEq] at h
    obtain ⟨rfl, rfl⟩ := h
    have := (mapT_eq hm).2
    rw [hu] at this
    cases this
    exact ⟨_, rfl, by kernel_rfl⟩
/-- What a slot has so far. -/
def cur (m : EntQ) (k : Int) : V × List Cel := (kget m k).getD (.snil, [])
theorem lookQ {h : AHeap} {i cl : Nat} (m : EntQ) (k : Int) (hg : h.get i = .map (qE m) cl) : aLookup Try.prog 124 (.map i) (.int .i64 k) false h = some (cur m k).1 := by
  obtain ⟨et, hm, hz⟩ := mpq
  have := lookup_k (enc := (Prod.fst : V × List Cel → V)) (ok := false) (KeyEnc.ofInt hm) (k := k) hm hz hg
  rw [this]
  unfold cur
  cases kget m k <;> rfl
theorem updQ {h : AHeap} {i cl : Nat} (m : EntQ) (k : Int) (v : V) (l : List Cel) (hg : h.get i = .map (qE m) cl) : aUpdate Try.prog 124 (.map i) (.int .i64 k) v h = some (h.set i (.map (qE (kset cl m k (v, l))) (kclk cl m k))) := by
  obtain ⟨et, hm, hz⟩ := mpq
  exact update_k (enc := (Prod.fst : V × List Cel → V)) (KeyEnc.ofInt hm) (k := k) hm hg rfl
structure Bag (h0 h : AHeap) (mi : Nat) (cs : List Cel) (m : EntQ) (cl : Nat) : Prop where
  keep : Keep h0 h none_
  lo : h0.n ≤ mi
  lt : mi < h.n
  get : h.get mi = .map (qE m) cl
  st : Stamps (qE m) cl
  nd : KNodup m
  own : ∀ k a, kget m k = some a → Own h 39 3 a.1 (a.2.flatMap celE) ∧ (∀ i, idOf a.1 = some i → h0.n ≤ i ∧ i ≠ mi)
  apart : ∀ k k' a a' i, kget m k = some a → kget m k' = some a' → k ≠ k' → idOf a.1 = some i → idOf a'.1 ≠ some i
  has : ∀ k a, kget m k = some a → a.2 = atOf cs k ∧ a.2 ≠ []
  non : ∀ k, kget m k = none → atOf cs k = []
  len : m.length ≤ cs.length
theorem Bag.start {h0 h : AHeap} (k : Keep h0 h none_) : Bag h0 (h.push (.map [] 0)) h.n [] [] 0 :=
  ⟨k.then_push _, k.n, Nat.lt_succ_self _, get_push_new, Stamps.nil 0, KNodup.nil, fun _ _ h => (by cases h), fun _ _ _ _ _ h => (by cases h), fun _ _ h => (by cases h), fun _ _ => rfl, Nat.le_refl _⟩
theorem Bag.on {h0 h h' : AHeap} {mi cl : Nat} {cs : List Cel} {m : EntQ} (w : Bag h0 h mi cs m cl) (k : Keep h h' none_) : Bag h0 h' mi cs m cl :=
  ⟨w.keep.trans' k, w.lo, Nat.lt_of_lt_of_le w.lt k.n, (k.get mi w.lt (fun h => h)).trans w.get, w.st, w.nd, fun q a hq => ⟨(w.own q a hq).1.keepN k, (w.own q a hq).2⟩, w.apart, w.has, w.non, w.len⟩
theorem Bag.cur_own {h0 h : AHeap} {mi cl : Nat} {cs : List Cel} {m : EntQ} (w : Bag h0 h mi cs m cl) (k : Int) : Own h 39 3 (cur m k).1 ((cur m k).2.flatMap celE) ∧ (cur m k).2 = atOf cs k ∧ (∀ i, idOf (cur m k).1 = some i → h0.n ≤ i ∧ i ≠ mi) := by
  unfold cur
  cases hk : kget m k with
  | none => exact ⟨Own.snil _ _ _, (w.non k hk).symm, fun i hi => by cases hi⟩
  | some a => exact ⟨(w.own k a hk).1, (w.has k a hk).1, (w.own k a hk).2⟩
/-- A cell more: its slot's slice is appended to, and laid down again. -/
theorem Bag.add {h0 h h' : AHeap} {mi cl : Nat} {cs : List Cel} {m : EntQ} (w : Bag h0 h mi cs m cl) (c : Cel) {v : V} (kp : Keep h h' (isId (cur m c.at_).1)) (o : Own h' 39 3 v (((cur m c.at_).2 ++ [c]).flatMap celE)) (nw : NewOr h (cur m c.at_).1 v) :
    Bag h0 (h'.set mi (.map (qE (kset cl m c.at_ (v, (cur m c.at_).2 ++ [c]))) (kclk cl m c.at_))) mi (cs ++ [c]) (kset cl m c.at_ (v, (cur m c.at_).2 ++ [c])) (kclk cl m c.at_) := by
  obtain ⟨o0, e0, i0⟩ := w.cur_own c.at_
  have kS : ∀ o, Keep h' (h'.set mi o) (fun q => q = mi) := fun o => Keep.set _ _ _
  have hv : ∀ i, idOf v = some i → h0.n ≤ i ∧ i ≠ mi := fun i hi => by
    rcases nw with e | e
    · exact i0 i (e ▸ hi)
    · have := e i hi; have := w.keep.n; have := w.lt; omega
  have other : ∀ k a, kget m k = some a → k ≠ c.at_ → ∀ i, idOf a.1 = some i → idOf (cur m c.at_).1 ≠ some i := fun k a hk hne i hi => by
    unfold cur
    cases hc : kget m c.at_ with
    | none => simp [idOf]
    | some b => exact w.apart k c.at_ a b i hk hc hne hi
  have kall : Keep h0 (h'.set mi (.map (qE (kset cl m c.at_ (v, (cur m c.at_).2 ++ [c]))) (kclk cl m c.at_))) none_ :=
    (w.keep.trans kp fun q hq e => by have := (i0 q e).1; omega).trans (kS _) fun q hq e => by have := w.lo; omega
  refine ⟨kall, w.lo, Nat.lt_of_lt_of_le w.lt (Nat.le_trans kp.n (kS (.map (qE (kset cl m c.at_ (v, (cur m c.at_).2 ++ [c]))) (kclk cl m c.at_))).n), get_set_same, w.st.kset _ _, w.nd.set _ _ _, fun k a hk => ?_, fun k k' a a' i hk hk' hne hi => ?_, fun k a hk => ?_, fun k hk => ?_, ?_⟩
  · rw [kget_kset] at hk
    split at hk
    · cases hk
      exact ⟨o.keep (kS _) fun i hi e => (hv i hi).2 e, hv⟩
    · rename_i hne
      obtain ⟨o1, i1⟩ := w.own k a hk
      exact ⟨(o1.keep kp fun i hi e => other k a hk hne i hi e).keep (kS _) fun i hi e => (i1 i hi).2 e, i1⟩
  · rw [kget_kset] at hk hk'
    split at hk
    · rename_i e1
      split at hk'
      · rename_i e2; exact absurd (e1.trans e2.symm) hne
      · rename_i e2
        cases hk
        intro hi'
        rcases nw with e | e
        · exact other k' a' hk' e2 i hi' (e ▸ hi)
        · have := e i hi
          have := (w.own k' a' hk').1.lt i hi'
          omega
    · rename_i e1
      split at hk'
      · cases hk'
        intro hi'
        rcases nw with e | e
        · exact other k a hk e1 i hi (e ▸ hi')
        · have := e i hi'
          have := (w.own k a hk).1.lt i hi
          omega
      · exact w.apart k k' a a' i hk hk' hne hi
  · rw [kget_kset] at hk
    rw [atOf_snoc]
    split at hk
    · rename_i e1
      cases hk
      rw [if_pos e1.symm, e1, e0]
      exact ⟨rfl, by simp⟩
    · rename_i e1
      rw [if_neg fun e => e1 e.symm]
      exact w.has k a hk
  · rw [kget_kset] at hk
    rw [atOf_snoc]
    split at hk
    · cases hk
    · rename_i e1
      rw [if_neg fun e => e1 e.symm]
      exact w.non k hk
  · rw [klen_set, List.length_append]
    have := w.len
    split <;> simp <;> omega
/-! ### What is told -/
structure IsMerge (cs out : List Cel) : Prop where
  mem : ∀ c, c ∈ out ↔ bestOf (atOf cs c.at_) = some c
  up : out.Pairwise fun a b => a.at_ < b.at_
theorem bestF_mem {t : Option Cel} {c d : Cel} (h : bestF t c = some d) : d = c ∨ t = some d := by
  cases t with
  | none => left; exact (Option.some.inj h).symm
  | some t =>
    unfold bestF at h
    simp only at h
    split at h
    · left; exact (Option.some.inj h).symm
    · right; exact h
theorem bestOf_fold_mem : ∀ (l : List Cel) (t : Option Cel) {d : Cel}, l.foldl bestF t = some d → d ∈ l ∨ t = some d
  | [], t, d, h => .inr h
  | c :: l, t, d, h => by
    rcases bestOf_fold_mem l (bestF t c) h with h | h
    · exact .inl (List.mem_cons_of_mem _ h)
    · rcases bestF_mem h with h | h
      · exact .inl (by rw [h]; exact List.mem_cons_self)
      · exact .inr h
theorem bestOf_mem {l : List Cel} {d : Cel} (h : bestOf l = some d) : d ∈ l := by
  rcases bestOf_fold_mem l none h with h | h
  · exact h
  · cases h
theorem bestOf_ne {l : List Cel} (h : l ≠ []) : ∃ d, bestOf l = some d := by
  obtain ⟨q, c, rfl⟩ : ∃ q c, l = q ++ [c] := ⟨l.dropLast, l.getLast h, (List.dropLast_concat_getLast h).symm⟩
  rw [bestOf_snoc]
  exact bestF_some _ _
theorem atOf_mem {cs : List Cel} {k : Int} {c : Cel} : c ∈ atOf cs k ↔ c ∈ cs ∧ c.at_ = k := by unfold atOf; rw [List.mem_filter]; simp
theorem bag_told {cs : List Cel} {m vis : EntQ} (st : KNodup m) (has : ∀ k a, kget m k = some a → a.2 = atOf cs k ∧ a.2 ≠ []) (non : ∀ k, kget m k = none → atOf cs k = []) (hp : vis.Perm m) {out : List Cel}
    (ho : out.Perm (vis.map fun e => (bestOf e.2.2.2).getD cel0)) (hs : out.Pairwise fun a b => ¬ b.at_ < a.at_) : IsMerge cs out := by
  have key : ∀ e ∈ m, ∃ d, bestOf e.2.2.2 = some d ∧ d.at_ = e.2.1 ∧ e.2.2.2 = atOf cs e.2.1 := fun e he => by
    obtain ⟨h1, h2⟩ := has e.2.1 e.2.2 (kmem st he)
    obtain ⟨d, hd⟩ := bestOf_ne h2
    have := bestOf_mem hd
    rw [h1] at this
    exact ⟨d, hd, (atOf_mem.1 this).2, h1⟩
  have hmem : ∀ c, c ∈ out ↔ bestOf (atOf cs c.at_) = some c := fun c => by
    rw [ho.mem_iff, List.mem_map]
    constructor
    · rintro ⟨e, he, rfl⟩
      obtain ⟨d, hd, h1, h2⟩ := key e (hp.subset he)
      rw [hd]
      show bestOf (atOf cs d.at_) = some d
      rw [h1, ← h2, hd]
    · intro h
      cases hk : kget m c.at_ with
      | none =>
        rw [non c.at_ hk] at h
        cases h
      | some a =>
        obtain ⟨e, he, hee⟩ := kget_mem hk
        have e1 : e.2.1 = c.at_ := congrArg Prod.fst hee
        obtain ⟨d, hd, h1, h2⟩ := key e he
        refine ⟨e, hp.symm.subset he, ?_⟩
        rw [hd]
        rw [e1] at h2
        rw [h2, h] at hd
        exact (Option.some.inj hd).symm
  refine ⟨hmem, ?_⟩
  have nd : (out.map (·.at_)).Nodup := by
    rw [(ho.map (·.at_)).nodup_iff, List.map_map]
    have e1 : vis.map ((fun c : Cel => c.at_) ∘ fun e => (bestOf e.2.2.2).getD cel0) = vis.map (·.2.1) := by
      apply List.map_congr_left
      intro e he
      obtain ⟨d, hd, h1, _⟩ := key e (hp.subset he)
      show ((bestOf e.2.2.2).getD cel0).at_ = e.2.1
      rw [hd]; exact h1
    rw [e1]
    exact ((hp.map (fun e : Nat × Int × (V × List Cel) => e.2.1)).nodup_iff).2 st
  exact (hs.and (List.pairwise_map.1 nd)).imp fun {a b} ⟨h1, h2⟩ => by omega
end Go.Proofs.Ytlbekgogjlchjaa.Pk
namespace Go.Proofs.Ytlbekgogjlchjaa.Pk
open Go Go.Proofs Go.Proofs.Ytlbekgogjlchjaa.Ab Go.Sort
set_option linter.unusedVariables false
set_option linter.unusedSimpArgs false
theorem key_injQ {κ α : Type} [DecidableEq κ] : ∀ {q : List (Nat × κ × α)}, KNodup q → ∀ {x y}, x ∈ q → y ∈ q → x.2.1 = y.2.1 → x = y
  | [], _, x, y, hx, _, _ => by cases hx
  | z :: q, hq, x, y, hx, hy, e => by
    have hq' := List.nodup_cons.1 hq
    rcases List.mem_cons.1 hx with h1 | h1
    · rcases List.mem_cons.1 hy with h2 | h2
      · rw [h1, h2]
      · exact absurd (List.mem_map.2 ⟨y, h2, by rw [← e, h1]⟩) hq'.1
    · rcases List.mem_cons.1 hy with h2 | h2
      · exact absurd (List.mem_map.2 ⟨x, h1, by rw [e, h2]⟩) hq'.1
      · exact key_injQ hq'.2 h1 h2 e
def rowE (l : List Cel) : List V := [.imm l.length (l.flatMap celE)]
theorem rowE_len (l : List Cel) : (rowE l).length = 1 := rfl
theorem rws_ix {rows : List (List Cel)} {k : Nat} (hk : k < rows.length) {kk : IntKind} : aIndexAddr Try.prog 97 (.imm rows.length (rows.flatMap rowE)) (.int kk (k : Int)) = some (.at (rowE rows[k] ++ (rows.drop (k + 1)).flatMap rowE)) := rows_ix (enc := rowE) (sz := 1) rowE_len hk ss_97
theorem row_ld (l : List Cel) (r : List V) : loadGo (some none) (some (rowE l ++ r)) = some (.imm l.length (l.flatMap celE)) := rfl
def smallC (cs : List Cel) : Prop := cs.length ≤ 2 ^ 30 ∧ ∀ c ∈ cs, c.bytes.length ≤ 2 ^ 40
theorem sortAt (h : AHeap) (x : V) (l : List Cel) (ho : Own h 39 3 x (l.flatMap celE)) (hl : l.length ≤ 2 ^ 40) :
    SCalls Try.prog 66 [x, .func (.func 75) [] []] h fun r h' => r = .tuple [] ∧ Keep h h' (isId x) ∧ ∃ l' : List Cel, l'.Perm l ∧ (l'.Pairwise fun a b => ¬ b.at_ < a.at_) ∧ Own h' 39 3 x (l'.flatMap celE) := by
  have e : ∀ a b : Cel, ltOf (fun a b : Cel => cmpI a.at_ b.at_) a b = decide (a.at_ < b.at_) := fun a b => by
    unfold ltOf cmpI
    rw [Bool.eq_iff_iff]
    simp only [decide_eq_true_eq]
    split <;> (try split) <;> omega
  refine (sortOfC (cf := fun a b => cmpI a.at_ b.at_) ⟨fun a => by rw [e]; simp, fun a b c h1 h2 => by rw [e] at *; simp at *; omega, fun a b c h1 h2 => by rw [e] at *; simp at *; omega⟩
    (fun a b => (byAt a b noHeap).mono fun r h' hh => hh.1) (enters_of Try.func75 (by kernel_rfl) rfl) h x l ho hl).mono fun r h' ⟨h1, h2, l', hp, hs, ho⟩ => ⟨h1, h2, l', hp, hs.imp fun {a b} hab => by rw [e] at hab; simpa using hab, ho⟩
/-- best of an own slice. -/
theorem bestOwn {h : AHeap} {v : V} {l : List Cel} (o : Own h 39 3 v (l.flatMap celE)) (hl : l.length ≤ 2 ^ 40) :
    SCalls Try.prog 72 [v, .func (.func 73) [] []] h fun r h' => r = .tuple [.agg (celE ((bestOf l).getD cel0)), .bool (decide (0 < l.length))] ∧ Keep h h' (isId v) := by
  obtain ⟨h2, c, k⟩ := Cast.own o (n := l.length) (rows_len celE_len l) (by decide)
  exact (SCalls.args (CastL.cons c (CastL.refl _ _)) (pBest l hl h2)).mono fun r h' ⟨e, e2⟩ => ⟨e, e2 ▸ k⟩
set_option maxHeartbeats 4000000 in
set_option maxRecDepth 20000 in
theorem merge (rows : List (List Cel)) (hs : smallC rows.flatten) (hr : rows.length ≤ 2 ^ 30) (h : AHeap) : SCalls Try.prog 53 [.imm rows.length (rows.flatMap rowE)] h (fun r h' => ∃ out, IsMerge rows.flatten out ∧ Acc h h' 39 3 r (out.flatMap celE)) := by
  refine SCalls.enterI (c := _) Try.func53 rfl (by kernel_rfl) (by simp) ?_
  simp only [wpA_region, wpA_seq, wpA_block, wpA_loop, seqQ_normal, goI_out, goI_ops, opsA_nil, opsA_cons, stepA_move, stepA_assign, stepA_makeMap, stepA_len, thenV_some, thenH_some, eval_tmp, eval_const, put_some, enterF_zero, enterF_succ, absV_int, absV_snil, aLen_imm, makeMap_nil, Nat.reduceEqDiff, reduceCtorEq, Option.map_none, if_true, if_false, kt_97]
  refine SWp.loopG (α := Nat × EntQ × Nat) (fun x f h' => f 3 = .map h.n ∧ f 14 = .imm rows.length (rows.flatMap rowE) ∧ f 15 = .int .i64 (rows.length : Nat) ∧ f 16 = .int .i64 (x.1 : Nat) ∧ x.1 ≤ rows.length ∧ Bag h h' h.n (rows.take x.1).flatten x.2.1 x.2.2) (fun x => rows.length - x.1) (0, [], 0)
    ⟨rfl, rfl, rfl, rfl, Nat.zero_le _, Bag.start (Keep.refl _ _)⟩ ?_
  rintro ⟨i, m, cl⟩ f h1 ⟨f3, f14, f15, f16, hi, w⟩
  simp only at f16 hi w
  refine wpI_sound (by kernel_rfl) ?_
  by_cases hlt : i < rows.length
  · have d1 : decide ((i : Int) < ((rows.length : Nat) : Int)) = true := decide_eq_true (by omega)
    have hw : IntKind.i64.wrap ((i : Int) + 1) = ((i + 1 : Nat) : Int) := by rw [Go.IntWalk.i64_in _ (by omega)]; omega
    have x1 := rws_ix (kk := .i64) hlt
    have ht : (rows.take (i + 1)).flatten = (rows.take i).flatten ++ rows[i] := by rw [List.take_succ_eq_append_getElem hlt, List.flatten_append]; simp
    have hsub : ∀ c ∈ rows[i], c ∈ rows.flatten := fun c hc => List.mem_flatten.2 ⟨_, List.getElem_mem _, hc⟩
    have hlen : (rows.take i).flatten.length + rows[i].length ≤ 2 ^ 30 := by
      have : (rows.take (i + 1)).flatten.length ≤ rows.flatten.length := by
        conv => rhs; rw [← List.take_append_drop (i + 1) rows, List.flatten_append, List.length_append]
        omega
      rw [ht, List.length_append] at this
      have := hs.1
      omega
    generalize rows[i] = l at x1 ht hsub hlen
    generalize (rows.take i).flatten = cs at w ht hlen
    have ld := row_ld
    simp only [wpA_skip, wpA_region, wpA_seq, wpA_cond, wpA_block, wpA_loop, condI_true, seqQ_normal, goI_out, goI_ops, opsA_nil, opsA_cons, stepA_move, stepA_assign, stepA_load, stepA_binOp, stepA_indexAddr, stepA_len, thenV_some, eval_tmp, eval_const, put_some, aBin_lss, absV_int, aLoad_eq, aPlace_at, aLen_imm, Nat.reduceEqDiff, if_true, if_false, kt_33, lt_33, f14, f15, f16, d1, x1, ld]
    refine SWp.loopG (α := Nat × EntQ × Nat) (fun x f h' => f 3 = .map h.n ∧ f 14 = .imm rows.length (rows.flatMap rowE) ∧ f 15 = .int .i64 (rows.length : Nat) ∧ f 16 = .int .i64 (i : Nat) ∧ f 20 = .imm l.length (l.flatMap celE) ∧ f 21 = .int .i64 (l.length : Nat) ∧ f 22 = .int .i64 (x.1 : Nat) ∧ x.1 ≤ l.length ∧ Bag h h' h.n (cs ++ l.take x.1) x.2.1 x.2.2) (fun x => l.length - x.1) (0, m, cl)
      ⟨f3, f14, f15, f16, rfl, rfl, rfl, Nat.zero_le _, by rw [List.take_zero, List.append_nil]; exact w⟩ ?_
    clear f3 f14 f15 f16 w
    rintro ⟨j, m, cl⟩ f h1 ⟨f3, f14, f15, f16, f20, f21, f22, hj, w⟩
    simp only at f22 hj w
    refine wpI_sound (by kernel_rfl) ?_
    by_cases hlj : j < l.length
    · have d2 : decide ((j : Int) < ((l.length : Nat) : Int)) = true := decide_eq_true (by omega)
      have hw2 : IntKind.i64.wrap ((j : Int) + 1) = ((j + 1 : Nat) : Int) := by rw [Go.IntWalk.i64_in _ (by omega)]; omega
      have x2 := cel_ix (l := l) (kk := .i64) hlj
      have ht2 : cs ++ l.take (j + 1) = cs ++ l.take j ++ [l[j]] := by rw [List.take_succ_eq_append_getElem hlj, List.append_assoc]
      have hlen2 : (cs ++ l.take j).length ≤ 2 ^ 30 := by rw [List.length_append, List.length_take]; omega
      generalize l[j] = c at x2 ht2
      generalize cs ++ l.take j = cs2 at w hlen2 ht2
      have cc := cel_cells
      have st := cel_store
      have ldc := cel_ldc
      have ld0 := cel_ld0'
      have ldl := cel_ld
      have wP := w.on (Keep.push h1 (.cells (celE c) 39 none) none_)
      have gP : (h1.push (.cells (celE c) 39 none)).get h1.n = .cells (celE c) 39 none := get_push_new
      simp only [wpA_skip, wpA_region, wpA_seq, wpA_cond, wpA_block, wpA_draw, condI_true, seqQ_normal, goI_out, goI_ops, opsA_nil, opsA_cons, stepA_alloc, stepA_load, stepA_store, stepA_binOp, stepA_indexAddr, thenV_some, thenH_some, thenS_some, eval_tmp, put_some, aBin_lss, aLoad_eq, loadGo_row, aPlace_at, aStore_eq, storeGo_ptr, aAlloc_eq, get_push_new, set_push, Nat.reduceEqDiff, Option.map_some, if_true, if_false, lt_39, zc_39, zt_39, f20, f21, f22, d2, x2, ldl, cc, st]
      obtain ⟨o0, e0, i0⟩ := w.cur_own c.at_
      have hcur : (cur m c.at_).2.length ≤ 2 ^ 30 := by
        rw [e0]; unfold atOf
        exact Nat.le_trans (List.length_filter_le _ _) hlen2
      obtain ⟨o1, _, _⟩ := wP.cur_own c.at_
      have hlk := lookQ m c.at_ wP.get
      have m1 : ¬ idOf (cur m c.at_).1 = some h.n := fun e => (i0 _ e).2 rfl
      have m2 : ¬ idOf (cur m c.at_).1 = some h1.n := fun e => by have := o0.lt _ e; omega
      generalize hQ : h1.push (.cells (celE c) 39 none) = hP at wP gP hlk o1 ⊢
      obtain ⟨v, h2, ea, o2, kp2, nw2⟩ := append_elemM (P := Try.prog) sl_33 (by decide) o1 (xs := celE c) rfl rfl (fun m hm => by
        change m * 3 = _ + 3 at hm
        rw [rows_len celE_len] at hm
        exact ⟨by simp only [lim]; omega, by simp only [lim]; omega⟩)
      have lit := lit1q hP c
      refine SWp.drawnS (fun x => idOf (cur m c.at_).1 = some x) [8, 9, 10] (.q 0 (.q 1 (.q 2 (.q 3 (.q 4 (.q 5 (.q 6 (.q 7 (.e 8 (.e 9 (.a 10 .done) .stop) .stop))))))))) (by kernel_rfl) (by kernel_rfl) (by kernel_rfl) ?_
      simp only [mOk_lookup, mOk_move, mOk_fieldAddr, mOk_load, mOkV_ptr, mOkV_map, nne2, nne3, nne4, nne1', nne2', nne3', not_false_eq_true, siI_stop, siI_q, siI_a, siI_e, sqI_some, saI_some, seI_some, keepT1, implies_true, qI_nil, qI_cons, thenQ_some, q_move, q_load, q_fieldAddr, q_lookup, goI_ops, goI_mk, opsA_nil, opsA_cons, stepA_buildSlice, stepA_mapUpdate, stepA_append, thenH_some, eval_tmp, put_some, put_none, aField_eq, fieldGo_ptr, aLoad_eq, loadGo_row, aPlace_ptr, dropC_cells, List.getElem?_cons_zero, List.getElem?_cons_succ, Nat.reduceEqDiff, List.map_cons, List.map_nil, Nat.add_zero, Nat.zero_le, List.drop_zero, and_true, true_and, if_true, if_false, ft_39_0, lt_3, lt_39, f3, gP, ld0, ldc, hlk, lit, ea, m1, m2]
      refine ⟨kp2, ?_⟩
      have gm2 : h2.get h.n = .map (qE m) cl := (kp2.get h.n wP.lt (fun hh => m1 hh)).trans wP.get
      have hu := updQ m c.at_ v ((cur m c.at_).2 ++ [c]) gm2
      have wA := wP.add c kp2 (by rw [List.flatMap_append]; simpa using o2) nw2
      simp only [nne2, nne3, nne4, nne1', nne2', nne3', siI_done, wpA_region, seqQ_normal, blkQ_normal, endI_mk, andThen_normal, goI_out, goI_ops, goI_mk, opsA_nil, opsA_cons, stepA_move, stepA_binOp, thenV_some, thenS_some, eval_tmp, eval_const, put_some, put_none, aBin_add, absV_int, Nat.reduceEqDiff, if_true, if_false, hu, f22, hw2]
      exact hid_mk ⟨(j + 1, kset cl m c.at_ (v, (cur m c.at_).2 ++ [c]), kclk cl m c.at_), ⟨f3, f14, f15, f16, f20, f21, rfl, hlj, by rw [ht2]; exact wA⟩, by simp only; omega⟩
    · have d2 : decide ((j : Int) < ((l.length : Nat) : Int)) = false := decide_eq_false (by omega)
      rw [List.take_of_length_le (by omega), ← ht] at w
      simp only [wpA_region, wpA_seq, wpA_cond, wpA_exit, condI_false, seqQ_normal, seqQ_exit, blkQ_normal, blkQ_exit, endI_mk, goE, andThen_normal, andThen_exit, goI_out, goI_ops, opsA_nil, opsA_cons, stepA_move, stepA_assign, stepA_binOp, stepA_range, thenV_some, eval_tmp, eval_const, put_some, aBin_add, aBin_lss, absV_int, absV_snil, Nat.reduceEqDiff, reduceCtorEq, if_true, if_false, f16, f21, f22, d2, hw]
      exact hid_mk ⟨(i + 1, m, cl), ⟨f3, f14, f15, rfl, hlt, w⟩, by simp only; omega⟩
  · have d1 : decide ((i : Int) < ((rows.length : Nat) : Int)) = false := decide_eq_false (by omega)
    rw [List.take_of_length_le (by omega)] at w
    obtain ⟨q, hq⟩ : ∃ q, mapT Try.prog 124 = some q := by
      obtain ⟨et, hm, _⟩ := mpq
      exact ⟨_, hm⟩
    have hrg := range_map hq w.get
    have hsn : (m.map (·.1)).Nodup := by
      have := w.st.2
      rwa [show (qE m).map (·.1) = m.map (·.1) from mapK_stamps m] at this
    have hml : m.length ≤ 2 ^ 30 := Nat.le_trans w.len hs.1
    have hcell : ∀ e ∈ m, ∀ c ∈ e.2.2.2, c.bytes.length ≤ 2 ^ 40 := fun e he c hc => by
      rw [(w.has e.2.1 e.2.2 (kmem w.nd he)).1] at hc
      exact hs.2 c (atOf_mem.1 hc).1
    have hlens : ∀ e ∈ m, e.2.2.2.length ≤ 2 ^ 30 := fun e he => by
      rw [(w.has e.2.1 e.2.2 (kmem w.nd he)).1]
      unfold atOf
      exact Nat.le_trans (List.length_filter_le _ _) hs.1
    have hlt1 := w.lt
    simp only [wpA_region, wpA_seq, wpA_cond, wpA_block, wpA_exit, wpA_loop, condI_false, seqQ_normal, seqQ_exit, blkQ_exit, endI_mk, goE, andThen_exit, goI_out, goI_ops, opsA_nil, opsA_cons, stepA_move, stepA_assign, stepA_binOp, stepA_range, thenV_some, thenH_some, eval_tmp, eval_const, put_some, aBin_lss, absV_snil, Nat.reduceEqDiff, if_true, if_false, f3, f15, f16, d1, hrg]
    refine SWp.loopG (α := EntQ) (fun vis f h' => f 39 = .ptr h1.n 0 ∧ h1.n < h'.n ∧ h'.get h1.n = .iter h.n cl (vis.map (·.1)) cl ∧ h'.get h.n = .map (qE m) cl ∧ Acc h h' 39 3 (f 8) ((vis.map fun e => (bestOf e.2.2.2).getD cel0).flatMap celE) ∧
      idOf (f 8) ≠ some h1.n ∧ idOf (f 8) ≠ some h.n ∧ (∀ e ∈ vis, e ∈ m) ∧ (vis.map (·.1)).Nodup ∧ (∀ e ∈ m, e.1 ∉ vis.map (·.1) → Own h' 39 3 e.2.2.1 (e.2.2.2.flatMap celE) ∧ ∀ i, idOf e.2.2.1 = some i → idOf (f 8) ≠ some i)) (fun vis => (remOf (qE m) (vis.map (·.1))).length) []
      ⟨rfl, by simp only [push_n]; omega, get_push_new, (get_push_lt w.lt).trans w.get, Acc.nil (w.keep.then_push _), (show idOf V.snil ≠ some h1.n by simp [idOf]), (show idOf V.snil ≠ some h.n by simp [idOf]), by simp, by simp,
        fun e he _ => ⟨((w.own e.2.1 e.2.2 (kmem w.nd he)).1).keepN (Keep.push _ _ _), fun i _ => (show idOf V.snil ≠ some i by simp [idOf])⟩⟩ ?_
    rintro vis f h2 ⟨f39, n2, gi, gm, acc, hd1, hd2, hvl, hvn, hown⟩
    refine wpI_sound (by kernel_rfl) ?_
    simp only [wpA_region, wpA_seq, opsA_cons, stepA_next, eval_tmp, f39]
    refine alts_ro gi gm w.st (fun hleft => ?_) fun e he => ?_
    · have hp := kvis_perm hsn hvn hvl (kvis_all hleft)
      have hpl := hp.length_eq
      simp only [wpA_region, wpA_seq, wpA_cond, wpA_exit, condI_false, seqQ_normal, seqQ_exit, blkQ_exit, endI_mk, goE, andThen_exit, goI_out, goI_ops, opsA_nil, opsA_cons, stepA_move, stepA_extract, stepA_call, thenV_some, extV_zero, eval_tmp, eval_func, put_some, Nat.reduceEqDiff, List.map_cons, List.map_nil, if_true, if_false]
      refine callI_of cal66 (sortAt h2 (f 8) _ acc.own (by rw [List.length_map]; omega)) fun r h3 ⟨e1, k3, out, pl, sl, o2⟩ => ?_
      subst e1
      simp only [wpA_region, wpA_seq, wpA_ret, seqQ_normal, endI_mk, goI_out, goI_ops, opsA_nil, opsA_cons, stepA_move, stepA_assign, eval_tmp, put_some, Nat.reduceEqDiff, if_true, if_false, retA_ret, Try.results53, resultsA_1]
      exact hid_mk ⟨out, bag_told w.nd w.has w.non hp pl sl, o2, acc.keep.trans k3 fun q hq e => by have := acc.new q e; omega, acc.new⟩
    · obtain ⟨x, hx, rfl, hxn⟩ := kvis_next he
      have less := remOf_snoc he
      obtain ⟨n3, hvl2, hvlen⟩ := kvis_snoc hvn hvl hx hxn
      obtain ⟨ownx, idx⟩ := hown x hx hxn
      obtain ⟨hx1, hx2⟩ := w.has x.2.1 x.2.2 (kmem w.nd hx)
      have hlx := hlens x hx
      have hcx := hcell x hx
      have hap : ∀ e ∈ m, e.1 ∉ (vis ++ [x]).map (·.1) → ∀ i, idOf e.2.2.1 = some i → idOf x.2.2.1 ≠ some i := fun e he hn i hi => by
        refine w.apart e.2.1 x.2.1 e.2.2 x.2.2 i (kmem w.nd he) (kmem w.nd hx) (fun hk => ?_) hi
        have h1 := kmem w.nd he
        have : e = x := key_injQ w.nd he hx hk
        subst this
        exact hn (by simp)
      obtain ⟨xs, xk, xv, xl⟩ := x
      simp only at less he hxn ownx idx hx1 hx2 hlx hcx hap
      generalize hH : h2.set h1.n (.iter h.n cl (vis.map (·.1) ++ [xs]) cl) = H
      have hge : h.n ≤ h1.n := by omega
      have kSet : Keep h2 H (fun q => q = h1.n) := by rw [← hH]; exact Keep.set _ _ _
      have idn : ∀ i, idOf xv = some i → i ≠ h1.n ∧ i ≠ h.n := fun i hi => by
        have h5 := (w.own xk (xv, xl) (kmem w.nd hx)).1.lt i hi
        have h6 := (w.own xk (xv, xl) (kmem w.nd hx)).2 i hi
        omega
      have aS : Acc h H 39 3 (f 8) ((vis.map fun e => (bestOf e.2.2.2).getD cel0).flatMap celE) := by rw [← hH]; exact acc.set hge hd1 _
      have nH : H.n = h2.n := by rw [← hH]; rfl
      have gr : H.get h1.n = .iter h.n cl (vis.map (·.1) ++ [xs]) cl := by rw [← hH]; exact get_set_same
      have gmH : H.get h.n = .map (qE m) cl := by rw [← hH]; exact (get_set_ne (by omega)).trans gm
      have hen := entry_ro gr gmH w.st (List.mem_filter.1 he).1
      simp only at hen
      have ownH := ownx.keep kSet fun i hi e => (idn i hi).1 e
      simp only [wpA_skip, wpA_region, wpA_seq, wpA_cond, wpA_block, condI_true, seqQ_normal, goI_out, goI_ops, opsA_nil, opsA_cons, stepA_move, stepA_assign, stepA_entry, stepA_extract, stepA_call, thenV_some, extV_zero, extV_succ, eval_tmp, eval_func, put_some, Nat.reduceEqDiff, List.map_cons, List.map_nil, if_true, if_false, f39, hen]
      refine callI_of cal72 (bestOwn ownH (by omega)) fun r h3 ⟨er, k3⟩ => ?_
      subst er
      obtain ⟨b, hb⟩ := bestOf_ne hx2
      have hbl : b.bytes.length ≤ 2 ^ 40 := hcx b (bestOf_mem hb)
      have hbg : (bestOf xl).getD cel0 = b := by rw [hb]; rfl
      rw [hbg]
      have cc := cel_cells
      have st := cel_store
      have ldc := cel_ldc
      have keepId : ∀ q, isId xv q → q ≠ h1.n ∧ q ≠ h.n := fun q hq => idn q hq
      have a3 : Acc h h3 39 3 (f 8) ((vis.map fun e => (bestOf e.2.2.2).getD cel0).flatMap celE) :=
        ⟨aS.own.keep k3 fun i hi e => idx i e hi, aS.keep.trans k3 fun q hq e => by have := (w.own xk (xv, xl) (kmem w.nd hx)).2 q e; omega, aS.new⟩
      have n3' := k3.n
      have aP := a3.on (Keep.push h3 (.cells (celE b) 39 none) none_)
      have g3 := (k3.get h1.n (by omega) (fun hh => (idn _ hh).1 rfl)).trans gr
      have g3m := (k3.get h.n (by omega) (fun hh => (idn _ hh).2 rfl)).trans gmH
      have gP : (h3.push (.cells (celE b) 39 none)).get h1.n = .iter h.n cl (vis.map (·.1) ++ [xs]) cl := (get_push_lt (by omega)).trans g3
      have gPm : (h3.push (.cells (celE b) 39 none)).get h.n = .map (qE m) cl := (get_push_lt (by omega)).trans g3m
      have gB : (h3.push (.cells (celE b) 39 none)).get h3.n = .cells (celE b) 39 none := get_push_new
      have nP : (h3.push (.cells (celE b) 39 none)).n = h3.n + 1 := rfl
      have kP : Keep H (h3.push (.cells (celE b) 39 none)) (isId xv) := k3.then_push _
      simp only [wpA_region, seqQ_normal, goI_out, goI_ops, opsA_nil, opsA_cons, stepA_move, stepA_assign, stepA_alloc, stepA_load, stepA_store, stepA_extract, stepA_call, thenV_some, thenH_some, thenS_some, extV_zero, extV_succ, eval_tmp, put_some, put_none, aLoad_eq, loadGo_row, aPlace_ptr, dropC_cells, aStore_eq, storeGo_ptr, aAlloc_eq, get_push_new, set_push, Nat.reduceEqDiff, List.map_cons, List.map_nil, Option.map_some, Nat.zero_le, List.drop_zero, if_true, if_false, lt_39, zc_39, zt_39, cc, st, ldc]
      generalize h3.push (.cells (celE b) 39 none) = hP at aP gP gPm gB nP kP ⊢
      refine callI_pure cal74 (qOwn b hbl hP) ?_
      have lit := lit1q hP b
      obtain ⟨s', h4, ea, o4, kp4, d4⟩ := append_elemM (P := Try.prog) sl_33 (by decide) aP.own (xs := celE b) rfl rfl (fun m hm => by
        change m * 3 = _ + 3 at hm
        rw [rows_len celE_len, List.length_map] at hm
        exact ⟨by simp only [lim]; omega, by simp only [lim]; omega⟩)
      have a4 := aP.step o4 kp4 d4
      have n4' := kp4.n
      have hne : ∀ k, k < hP.n → idOf (f 8) ≠ some k → idOf s' ≠ some k := fun k hk hh e => by
        rcases d4 with d | d
        · exact hh (d ▸ e)
        · have := d _ e; omega
      simp only [blkQ_normal, endI_mk, andThen_normal, goI_out, goI_ops, opsA_nil, opsA_cons, stepA_assign, stepA_buildSlice, stepA_append, thenH_some, eval_tmp, put_some, put_none, Nat.reduceEqDiff, List.map_cons, List.map_nil, if_true, if_false, lit, ea]
      refine hid_mk ⟨vis ++ [(xs, xk, xv, xl)], ⟨f39, by omega, ?_, (kp4.get h.n (by omega) (fun hh => hd2 hh)).trans gPm, ?_, hne h1.n (by omega) hd1, hne h.n (by omega) hd2, hvl2, n3, fun e hem hen2 => ?_⟩, ?_⟩
      · rw [kp4.get h1.n (by omega) (fun hh => hd1 hh), gP]; simp
      · refine a4.conv ?_
        rw [List.map_append, List.flatMap_append, List.map_cons, List.map_nil, hbg]
        simp
      · obtain ⟨oe, ie⟩ := hown e hem (fun hh => hen2 (by rw [List.map_append]; exact List.mem_append_left _ hh))
        have lte : ∀ i, idOf e.2.2.1 = some i → i < h1.n ∧ i ≠ h.n := fun i hi => by
          have h5 := (w.own e.2.1 e.2.2 (kmem w.nd hem)).1.lt i hi
          have h6 := (w.own e.2.1 e.2.2 (kmem w.nd hem)).2 i hi
          omega
        refine ⟨((oe.keep kSet fun i hi e2 => by have := (lte i hi).1; omega).keep kP fun i hi e2 => hap e hem hen2 i hi e2).keep kp4 fun i hi e2 => ie i hi e2, fun i hi => hne i (by have := (lte i hi).1; omega) (ie i hi)⟩
      · rw [List.map_append]; exact less
end Go.Proofs.Ytlbekgogjlchjaa.Pk
namespace Go.Proofs.Ytlbekgogjlchjaa.Pk
open Go Go.Proofs Go.Proofs.Ytlbekgogjlchjaa.Ab Go.Sort
set_option linter.unusedVariables false
set_option linter.unusedSimpArgs false
theorem rowE_clo (l : List Cel) : CloL (rowE l) := CloL.cons (Clo.imm (rows_clo celE_clo l)) CloL.nil
theorem rowE_one (l : List Cel) : (rowE l).all (·.one) = true := rfl
/-- Merge, its answer being read alone. -/
theorem mergeI (rows : List (List Cel)) (hs : smallC rows.flatten) (hr : rows.length ≤ 2 ^ 30) (h : AHeap) : SCalls Try.prog 53 [.imm rows.length (rows.flatMap rowE)] h (fun r h' => ∃ out, IsMerge rows.flatten out ∧ Keep h h' none_ ∧ r = .imm out.length (out.flatMap celE)) :=
  SCalls.cast ((merge rows hs hr h).mono fun r h' ⟨out, io, acc⟩ => by
    obtain ⟨h2, c, k2⟩ := acc.cast (n := out.length) (rows_len celE_len _) (by decide)
    exact ⟨_, h2, c, out, io, k2, rfl⟩)
theorem IsMerge.sub {cs out : List Cel} (w : IsMerge cs out) : ∀ c ∈ out, c ∈ cs := fun c hc => (atOf_mem.1 (bestOf_mem ((w.mem c).1 hc))).1
theorem IsMerge.unique {cs ds a b : List Cel} (wa : IsMerge cs a) (wb : IsMerge ds b) (h : ∀ k, bestOf (atOf cs k) = bestOf (atOf ds k)) : a = b :=
  strict_unique (r := fun a b : Cel => a.at_ < b.at_) (fun a h => by omega) (fun a b h1 h2 => by omega) wa.up wb.up fun c => by rw [wa.mem, wb.mem, h]
theorem IsMerge.len {cs out : List Cel} (w : IsMerge cs out) : out.length ≤ cs.length := by
  have hn : out.Nodup := w.up.imp fun {a b} hab e => by subst e; omega
  exact hn.length_le_of_subset w.sub
theorem IsMerge.small {cs out : List Cel} (w : IsMerge cs out) (h : smallC cs) : smallC out := ⟨Nat.le_trans w.len h.1, fun c hc => h.2 c (w.sub c hc)⟩
theorem up_atOf : ∀ {l : List Cel}, (l.Pairwise fun a b => a.at_ < b.at_) → ∀ {c}, c ∈ l → atOf l c.at_ = [c]
  | [], _, c, h => by cases h
  | x :: l, hp, c, h => by
    have hp' := List.pairwise_cons.1 hp
    unfold atOf
    rcases List.mem_cons.1 h with rfl | h
    · rw [List.filter_cons_of_pos (by simp), List.filter_eq_nil_iff.2 (fun y hy => by have := hp'.1 y hy; simp; omega)]
    · have := hp'.1 c h
      rw [List.filter_cons_of_neg (by simp; omega)]
      exact up_atOf hp'.2 h
theorem IsMerge.at_eq {cs out : List Cel} (w : IsMerge cs out) (k : Int) : atOf out k = (bestOf (atOf cs k)).toList := by
  cases hb : bestOf (atOf cs k) with
  | some d =>
    have hd := (atOf_mem.1 (bestOf_mem hb)).2
    have hm : d ∈ out := (w.mem d).2 (by rw [hd]; exact hb)
    have := up_atOf w.up hm
    rw [hd] at this
    exact this
  | none =>
    unfold atOf
    rw [List.filter_eq_nil_iff.2]
    · rfl
    · intro c hc hk
      have hk' : c.at_ = k := by simpa using hk
      have := (w.mem c).1 hc
      rw [hk', hb] at this
      cases this
theorem atOf_append (a b : List Cel) (k : Int) : atOf (a ++ b) k = atOf a k ++ atOf b k := List.filter_append ..
/-- Merged again it is itself. -/
theorem IsMerge.again {cs out out2 : List Cel} (w : IsMerge cs out) (w2 : IsMerge out out2) : out2 = out :=
  w2.unique w fun k => by rw [w.at_eq]; cases bestOf (atOf cs k) <;> rfl
theorem IsMerge.twice {cs out out2 : List Cel} (w : IsMerge cs out) (w2 : IsMerge (out ++ out) out2) : out2 = out :=
  w2.unique w fun k => by
    rw [atOf_append, w.at_eq]
    cases bestOf (atOf cs k) with
    | none => rfl
    | some d => show bestF (some d) d = some d; unfold bestF; simp
theorem bestF_ge {t : Option Cel} {c d : Cel} (h : bestF t c = some d) : c.epoch ≤ d.epoch ∧ ∀ t', t = some t' → t'.epoch ≤ d.epoch := by
  cases t with
  | none => cases h; exact ⟨Int.le_refl _, fun t' e => by cases e⟩
  | some t =>
    unfold bestF at h
    simp only at h
    split at h
    · cases h; exact ⟨Int.le_refl _, fun t' e => by cases e; omega⟩
    · cases h; exact ⟨by omega, fun t' e => by cases e; exact Int.le_refl _⟩
theorem bestFold_ge : ∀ (l : List Cel) (t : Option Cel) {d : Cel}, l.foldl bestF t = some d → (∀ c ∈ l, c.epoch ≤ d.epoch) ∧ ∀ t', t = some t' → t'.epoch ≤ d.epoch
  | [], t, d, h => ⟨by simp, fun t' e => by rw [show t = some d from h] at e; cases e; exact Int.le_refl _⟩
  | c :: l, t, d, h => by
    obtain ⟨h1, h2⟩ := bestFold_ge l (bestF t c) h
    obtain ⟨x, hx⟩ := bestF_some t c
    obtain ⟨h3, h4⟩ := bestF_ge hx
    have h5 := h2 x hx
    refine ⟨fun y hy => ?_, fun t' e => Int.le_trans (h4 t' e) h5⟩
    rcases List.mem_cons.1 hy with rfl | hy
    · omega
    · exact h1 y hy
theorem bestOf_ge {l : List Cel} {d : Cel} (h : bestOf l = some d) : ∀ c ∈ l, c.epoch ≤ d.epoch := (bestFold_ge l none h).1
end Go.Proofs.Ytlbekgogjlchjaa.Pk
