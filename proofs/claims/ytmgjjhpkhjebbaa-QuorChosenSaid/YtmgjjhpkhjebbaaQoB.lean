/-
  What functions of the program do, told of abstract states. Conditions: as each theorem says.
-/
import Derived.Test.YtmgjjhpkhjebbaaQoA
namespace Go.Proofs.Ytmgjjhpkhjebbaa.Pk
open Go Go.Proofs Go.Proofs.Ytmgjjhpkhjebbaa.Ab Go.Sort
set_option linter.unusedVariables false
set_option linter.unusedSimpArgs false
set_option maxRecDepth 10000 in
theorem pOwn (c : Cel) (hl : c.by_.length ≤ 140737488355328) (h : AHeap) : Pure Try.prog 34 [.agg (celE c)] h (.agg (celE c)) := by
  refine Pure.of (Clo.agg (celE_clo _)) ?_
  refine SCalls.enterI (c := _) Try.func34 rfl (by kernel_rfl) (by simp) ?_
  have cc := cel_cells
  have f2 := cel_fd2
  have l2 : ∀ c : Cel, List.drop 2 (celE c) = [.imm c.by_.length (u8V c.by_)] := fun _ => rfl
  have cl := celE_len
  simp only [wpA_region, wpA_seq, seqQ_normal, goI_out, goI_ops, opsA_nil, opsA_cons, stepA_alloc, stepA_box, stepA_load, stepA_fieldAddr, stepA_call, thenV_some, thenH_some, eval_tmp, put_some, enterF_zero, enterF_succ, aField_eq, fieldGo_ptr, aLoad_eq, loadGo_one, aPlace_ptr, dropC_cells, aAlloc_eq, aBox_eq, push_n, get_push2', Nat.reduceEqDiff, Nat.reduceLeDiff, List.map_cons, List.map_nil, Option.map_some, Nat.zero_add, if_true, if_false, ft_36_2, lt_34, zc_36, cc, l2, cl]
  refine callI_pure cal47 (pClone c.by_ hl _) ?_
  have tk : List.take 3 (celE c) = celE c := rfl
  have s2 : setC (some 1) (AObj.cells (celE c) 36 none) 2 [.imm c.by_.length (u8V c.by_)] = some (.cells (celE c) 36 none) := rfl
  have st := cel_store
  have ld := cel_ldc
  simp only [wpA_region, wpA_seq, wpA_ret, seqQ_normal, endI_mk, goI_out, goI_ops, opsA_nil, opsA_cons, stepA_load, stepA_store, stepA_fieldAddr, thenV_some, thenS_some, eval_tmp, put_some, put_none, enterF_succ, cells_imm, aField_eq, fieldGo_ptr, aLoad_eq, loadGo_row, aPlace_ptr, dropC_cells, aStore_eq, storeGo_ptr, get_push2, get_push2', set_push2, set_push2', Nat.reduceEqDiff, Option.map_some, Nat.zero_add, Nat.zero_le, List.drop_zero, if_true, if_false, Nat.le_refl, ft_36_2, lt_36, zt_34, zt_36, cc, cl, s2, st, tk, retA_ret, Try.results34, resultsC_1, resultA_cell]
  exact hid_mk ⟨_, Cast.refl _ _, (Keep.push _ _ _).then_push _⟩
/-- The first one of the highest epoch. -/
def bestF (t : Option Cel) (c : Cel) : Option Cel := match t with
  | none => some c
  | some t => if t.ep < c.ep then some c else some t
def bestOf (l : List Cel) : Option Cel := l.foldl bestF none
theorem bestOf_snoc (l : List Cel) (c : Cel) : bestOf (l ++ [c]) = bestF (bestOf l) c := by unfold bestOf; rw [List.foldl_append]; rfl
theorem bestF_some (t : Option Cel) (c : Cel) : ∃ d, bestF t c = some d := by
  cases t with
  | none => exact ⟨c, rfl⟩
  | some t => unfold bestF; simp only; split <;> exact ⟨_, rfl⟩
def cel0 : Cel := ⟨0, 0, []⟩
def topC (o : Option Cel) : List V := match o with
  | none => [.int .i64 0, .int .i64 0, .snil]
  | some c => celE c
theorem topC_cast (o : Option Cel) (b : Bool) (h : AHeap) : Cast (.tuple [.agg (topC o), .bool b]) h (.tuple [.agg (celE (o.getD cel0)), .bool b]) h := by
  cases o with
  | some c => exact Cast.refl _ _
  | none =>
    refine Cast.tuple (CastL.cons ?_ (CastL.refl _ _))
    exact castAgg (CastL.cons (Cast.refl _ _) (CastL.cons (Cast.refl _ _) (CastL.cons (Cast.snil0 h) (CastL.refl _ _))))
set_option maxHeartbeats 1000000 in
set_option maxRecDepth 10000 in
theorem pBest (l : List Cel) (hl : l.length ≤ 2 ^ 40) (h : AHeap) : Pure Try.prog 32 [.imm l.length (l.flatMap celE), .func (.func 33) [] []] h (.tuple [.agg (celE ((bestOf l).getD cel0)), .bool (decide (0 < l.length))]) := by
  refine Pure.of (Clo.tuple (CloL.cons (Clo.agg (celE_clo _)) (CloL.cons (Clo.bool _) CloL.nil))) ?_
  refine SCalls.enterI (c := _) Try.func32 rfl (by kernel_rfl) (by simp) ?_
  simp only [wpA_region, wpA_seq, wpA_block, wpA_loop, seqQ_normal, goI_out, goI_ops, opsA_nil, opsA_cons, stepA_move, stepA_assign, stepA_alloc, stepA_len, thenV_some, thenH_some, eval_tmp, eval_const, put_some, enterF_zero, enterF_succ, absV_int, absV_bool, aAlloc_eq, aLen_imm, push_n, Nat.reduceEqDiff, reduceCtorEq, Option.map_some, if_true, if_false, kt_39, zc_36]
  have cc : ∀ o, (V.agg (topC o)).cells = some (topC o) := fun _ => rfl
  have cce := cel_cells
  have tl : ∀ o, (topC o).length = 3 := fun o => by cases o <;> rfl
  have ldt : ∀ o, (if 3 ≤ (topC o).length then some (V.agg (List.take 3 (topC o))) else none) = some (.agg (topC o)) := fun o => by cases o <;> rfl
  have st : ∀ o c, setC (some 3) (AObj.cells (topC o) 36 none) 0 (celE c) = some (.cells (celE c) 36 none) := fun o c => by cases o <;> rfl
  have st2 : ∀ o, setC (some 3) (AObj.cells [V.int .i64 0, V.int .i64 0, V.snil] 36 none) 0 (topC o) = some (.cells (topC o) 36 none) := fun o => by cases o <;> rfl
  have ste := cel_store
  have lde := cel_ldc
  refine SWp.loopG (α := Nat) (fun i f h' => f 0 = .imm l.length (l.flatMap celE) ∧ f 1 = .func (.func 33) [] [] ∧ f 4 = .ptr h.n 0 ∧ f 6 = .ptr (h.n + 1) 0 ∧ f 9 = .imm l.length (l.flatMap celE) ∧ f 10 = .int .i64 (l.length : Nat) ∧ f 11 = .int .i64 (i : Nat) ∧ i ≤ l.length ∧ Keep h h' none_ ∧ h.n + 1 < h'.n ∧
      h'.get h.n = .cells [.int .i64 0, .int .i64 0, .snil] 36 none ∧ h'.get (h.n + 1) = .cells (topC (bestOf (l.take i))) 36 none) (fun i => l.length - i) 0
    ⟨rfl, rfl, rfl, rfl, rfl, rfl, rfl, Nat.zero_le _, (Keep.push _ _ _).then_push _, Nat.lt_succ_self _, (get_push_lt (Nat.lt_succ_self _)).trans get_push_new, get_push_new⟩ ?_
  rintro i f h1 ⟨f0, f1, f4, f6, f9, f10, f11, hi, k1, n1, g4, g6⟩
  refine wpI_sound (by kernel_rfl) ?_
  by_cases hlt : i < l.length
  · have d1 : decide ((i : Int) < ((l.length : Nat) : Int)) = true := decide_eq_true (by omega)
    have hw : IntKind.i64.wrap ((i : Int) + 1) = ((i + 1 : Nat) : Int) := by rw [Go.IntWalk.i64_in _ (by omega)]; omega
    have x1 := cel_ix (kk := .i64) hlt
    have hb := bestOf_snoc (l.take i) l[i]
    rw [← List.take_succ_eq_append_getElem hlt] at hb
    have ld := cel_ld
    generalize hc : l[i] = c at x1 hb
    have kP := k1.then_push (.cells (celE c) 36 none)
    have gP : (h1.push (.cells (celE c) 36 none)).get h1.n = .cells (celE c) 36 none := get_push_new
    have g4P := (get_push_lt (o := .cells (celE c) 36 none) (show h.n < h1.n by omega)).trans g4
    have g6P := (get_push_lt (o := .cells (celE c) 36 none) n1).trans g6
    have nP : (h1.push (.cells (celE c) 36 none)).n = h1.n + 1 := rfl
    simp only [wpA_skip, wpA_region, wpA_seq, wpA_cond, wpA_block, condI_true, seqQ_normal, goI_out, goI_ops, opsA_nil, opsA_cons, opsA_guardS, slotAt_zero, slotAt_succ, stepA_move, stepA_assign, stepA_alloc, stepA_load, stepA_store, stepA_binOp, stepA_indexAddr, thenV_some, thenH_some, thenS_some, eval_tmp, eval_const, put_some, put_none, aBin_eql, aBin_lss, absV_int, aLoad_eq, loadGo_row, aPlace_at, aStore_eq, storeGo_ptr, aAlloc_eq, get_push_new, set_push, Nat.reduceEqDiff, Option.map_some, if_true, if_false, lt_36, zc_36, zt_36, f9, f10, f11, d1, x1, ld, cce, ste]
    generalize h1.push (.cells (celE c) 36 none) = hP at kP gP g4P g6P nP ⊢
    by_cases h0 : i = 0
    · subst h0
      have b0 : ((((0 : Nat) : Int)) == 0) = true := rfl
      rw [List.take_zero] at hb g6P
      have hb' : bestOf (l.take (0 + 1)) = some c := hb
      have kS : ∀ o, Keep h (hP.set (h.n + 1) o) none_ := fun o => kP.setNew (by omega) o
      simp only [wpA_region, wpA_cond, condI_true, seqQ_normal, blkQ_normal, endI_mk, andThen_normal, goI_out, goI_ops, opsA_nil, opsA_cons, opsA_guardS, gvI_tf, slotAt_zero, slotAt_succ, stepA_move, stepA_pick, stepA_load, stepA_store, stepA_binOp, thenV_some, thenS_some, pickV_true, eval_tmp, eval_const, put_some, put_none, aBin_add, absV_int, absV_bool, aLoad_eq, loadGo_row, aPlace_ptr, dropC_cells, aStore_eq, storeGo_ptr, Nat.reduceEqDiff, Option.map_some, Nat.zero_add, Nat.zero_le, List.drop_zero, if_true, if_false, lt_36, zt_36, f6, f11, b0, gP, g6P, lde, cce, st, hw]
      exact hid_mk ⟨1, ⟨f0, f1, f4, f6, f9, f10, rfl, hlt, kS _, by show h.n + 1 < hP.n; omega, (get_set_ne (by omega)).trans g4P, by rw [hb']; exact get_set_same⟩, by omega⟩
    · have b0 : ((i : Int) == 0) = false := by simp; omega
      obtain ⟨t, ht⟩ : ∃ t, bestOf (l.take i) = some t := by
        obtain ⟨j, rfl⟩ : ∃ j, i = j + 1 := ⟨i - 1, by omega⟩
        rw [List.take_succ_eq_append_getElem (by omega), bestOf_snoc]
        exact bestF_some _ _
      rw [ht] at g6P hb
      have tt : topC (some t) = celE t := rfl
      rw [tt] at g6P
      have st3 : ∀ t c, setC (some 3) (AObj.cells (celE t) 36 none) 0 (celE c) = some (.cells (celE c) 36 none) := fun t c => rfl
      simp only [goI_ops, opsA_guardS, gvI_same, slotAt_zero, slotAt_succ, stepA_move, stepA_load, stepA_callv, callvI_func, thenV_some, eval_tmp, put_some, put_none, aLoad_eq, loadGo_row, aPlace_ptr, dropC_cells, Nat.reduceEqDiff, List.map_cons, List.map_nil, Nat.zero_le, List.drop_zero, List.nil_append, List.append_nil, if_true, if_false, lt_36, f1, f6, b0, gP, g6P, lde]
      refine callI_pure cal33 (pNewer c t hP) ?_
      by_cases hn : t.ep < c.ep
      · have d2 : decide (t.ep < c.ep) = true := decide_eq_true hn
        have hb' : bestOf (l.take (i + 1)) = some c := by rw [hb]; unfold bestF; simp [hn]
        have kS : ∀ o, Keep h (hP.set (h.n + 1) o) none_ := fun o => kP.setNew (by omega) o
        simp only [wpA_region, wpA_cond, condI_true, seqQ_normal, blkQ_normal, endI_mk, andThen_normal, goI_out, goI_ops, opsA_nil, opsA_cons, stepA_move, stepA_pick, stepA_load, stepA_store, stepA_binOp, thenV_some, thenS_some, pickV_false, eval_tmp, eval_const, put_some, put_none, aBin_add, absV_int, absV_bool, aLoad_eq, loadGo_row, aPlace_ptr, dropC_cells, aStore_eq, storeGo_ptr, Nat.reduceEqDiff, Option.map_some, Nat.zero_le, List.drop_zero, if_true, if_false, lt_36, zt_36, f6, f11, gP, g6P, lde, cce, st3, d2, hw]
        exact hid_mk ⟨i + 1, ⟨f0, f1, f4, f6, f9, f10, rfl, hlt, kS _, by show h.n + 1 < hP.n; omega, (get_set_ne (by omega)).trans g4P, by rw [hb']; exact get_set_same⟩, by omega⟩
      · have d2 : decide (t.ep < c.ep) = false := decide_eq_false hn
        have hb' : bestOf (l.take (i + 1)) = some t := by rw [hb]; unfold bestF; simp [hn]
        simp only [wpA_skip, wpA_region, wpA_cond, condI_false, seqQ_normal, blkQ_normal, endI_mk, andThen_normal, goI_out, goI_ops, opsA_nil, opsA_cons, stepA_move, stepA_pick, stepA_binOp, thenV_some, pickV_false, eval_tmp, eval_const, put_some, put_none, aBin_add, absV_int, absV_bool, Nat.reduceEqDiff, if_true, if_false, f11, d2, hw]
        exact hid_mk ⟨i + 1, ⟨f0, f1, f4, f6, f9, f10, rfl, hlt, kP, by omega, g4P, by rw [hb']; exact g6P⟩, by omega⟩
  · have d1 : decide ((i : Int) < ((l.length : Nat) : Int)) = false := decide_eq_false (by omega)
    rw [List.take_of_length_le (by omega)] at g6
    have kS : ∀ o, Keep h (h1.set h.n o) none_ := fun o => k1.setNew (by omega) o
    have e2 : decide ((0 : Int) < ((l.length : Nat) : Int)) = decide (0 < l.length) := by rw [Bool.eq_iff_iff]; simp
    simp only [wpA_region, wpA_seq, wpA_cond, wpA_exit, wpA_ret, condI_false, seqQ_normal, seqQ_exit, blkQ_exit, endI_mk, goE, andThen_exit, goI_out, goI_ops, opsA_nil, opsA_cons, stepA_move, stepA_assign, stepA_load, stepA_store, stepA_binOp, stepA_len, thenV_some, thenS_some, eval_tmp, eval_const, put_some, put_none, aBin_lss, aBin_gtr, absV_int, aLoad_eq, loadGo_row, aPlace_ptr, dropC_cells, aStore_eq, storeGo_ptr, aLen_imm, get_set_same, Nat.reduceEqDiff, reduceCtorEq, Option.map_some, Nat.zero_le, List.drop_zero, if_true, if_false, kt_39, lt_36, zt_36, f0, f4, f6, f10, f11, d1, g6, g4, ldt, cc, st2, e2, retA_ret, Try.results32, resultsC_2, resultA_tmp, resultA_cell, res2_some]
    exact hid_mk ⟨_, topC_cast _ _ _, kS _⟩
/-! ### The comparator -/
def cmpI (x y : Int) : Int := if x < y then -1 else if y < x then 1 else 0
set_option maxRecDepth 10000 in
theorem nanI (h : AHeap) (x : Int) : Pure Try.prog 49 [.int .i64 x] h (.bool false) := by
  refine Pure.val (Clo.bool _) ?_
  refine SCalls.enterI (c := _) Try.func49 rfl (by kernel_rfl) (by simp) ?_
  have e : (x != x) = false := by simp
  simp only [wpA_region, wpA_seq, wpA_ret, seqQ_normal, endI_mk, goI_out, goI_ops, opsA_nil, opsA_cons, stepA_move, stepA_assign, stepA_binOp, thenV_some, eval_tmp, eval_const, put_some, enterF_zero, enterF_succ, aBin_neq, absV_bool, bne_self_eq_false, Nat.reduceEqDiff, reduceCtorEq, if_true, if_false, retA_ret, Try.results49, resultsA_1]
  exact hid_mk ⟨rfl, Keep.refl _ _⟩
set_option maxRecDepth 10000 in
theorem cmpInt (h : AHeap) (x y : Int) : Pure Try.prog 37 [.int .i64 x, .int .i64 y] h (.int .i64 (cmpI x y)) := by
  refine Pure.val (Clo.int _ _) ?_
  refine SCalls.enterI (c := _) Try.func37 rfl (by kernel_rfl) (by simp) ?_
  simp only [wpA_region, wpA_seq, seqQ_normal, goI_out, goI_ops, opsA_nil, opsA_cons, stepA_move, stepA_assign, stepA_call, eval_tmp, eval_const, put_some, enterF_zero, enterF_succ, absV_int, Int.reduceNeg, Nat.reduceEqDiff, reduceCtorEq, List.map_cons, List.map_nil, if_true, if_false]
  refine callI_pure cal49 (nanI h x) ?_
  simp only [wpA_region, wpA_seq, seqQ_normal, goI_out, goI_ops, opsA_nil, opsA_cons, stepA_move, stepA_assign, stepA_call, eval_tmp, put_some, enterF_zero, enterF_succ, Int.reduceNeg, Nat.reduceEqDiff, List.map_cons, List.map_nil, if_true, if_false]
  refine callI_pure cal49 (nanI h y) ?_
  by_cases h1 : x < y
  · have d1 : decide (x < y) = true := decide_eq_true h1
    simp only [wpA_skip, wpA_region, wpA_seq, wpA_cond, wpA_ret, condI_true, condI_false, seqQ_normal, seqQ_ret, endI_mk, goI_out, goI_ops, opsA_nil, opsA_cons, stepA_move, stepA_assign, stepA_binOp, thenV_some, eval_tmp, eval_const, put_some, enterF_zero, enterF_succ, aBin_lss, absV_int, Int.reduceNeg, Nat.reduceEqDiff, reduceCtorEq, if_true, if_false, d1, retA_ret, Try.results37, resultsA_1]
    exact hid_mk ⟨by rw [cmpI, if_pos h1], Keep.refl _ _⟩
  · have d1 : decide (x < y) = false := decide_eq_false h1
    by_cases h2 : y < x
    · have d2 : decide (y < x) = true := decide_eq_true h2
      simp only [wpA_skip, wpA_region, wpA_seq, wpA_cond, wpA_ret, condI_true, condI_false, seqQ_normal, seqQ_ret, endI_mk, goI_out, goI_ops, opsA_nil, opsA_cons, stepA_move, stepA_assign, stepA_binOp, thenV_some, eval_tmp, eval_const, put_some, enterF_zero, enterF_succ, aBin_lss, aBin_gtr, absV_int, Int.reduceNeg, Nat.reduceEqDiff, reduceCtorEq, if_true, if_false, d1, d2, retA_ret, Try.results37, resultsA_1]
      exact hid_mk ⟨by rw [cmpI, if_neg h1, if_pos h2], Keep.refl _ _⟩
    · have d2 : decide (y < x) = false := decide_eq_false h2
      simp only [wpA_skip, wpA_region, wpA_seq, wpA_cond, wpA_ret, condI_false, seqQ_normal, endI_mk, goI_out, goI_ops, opsA_nil, opsA_cons, stepA_move, stepA_assign, stepA_binOp, thenV_some, eval_tmp, eval_const, put_some, enterF_zero, enterF_succ, aBin_lss, aBin_gtr, absV_int, Int.reduceNeg, Nat.reduceEqDiff, reduceCtorEq, if_true, if_false, d1, d2, retA_ret, Try.results37, resultsA_1]
      exact hid_mk ⟨by rw [cmpI, if_neg h1, if_neg h2], Keep.refl _ _⟩
set_option maxRecDepth 10000 in
theorem byAt (a b : Cel) (h : AHeap) : Pure Try.prog 36 [.agg (celE a), .agg (celE b)] h (.int .i64 (cmpI a.at_ b.at_)) := by
  refine Pure.val (Clo.int _ _) ?_
  refine SCalls.enterI (c := _) Try.func36 rfl (by kernel_rfl) (by simp) ?_
  have cc := cel_cells
  have l0 := cel_ld0'
  have kk : Keep h ((h.push (.cells (celE a) 36 none)).push (.cells (celE b) 36 none)) none_ := (Keep.push _ _ _).then_push _
  simp only [wpA_region, wpA_seq, seqQ_normal, goI_out, goI_ops, opsA_nil, opsA_cons, stepA_assign, stepA_box, stepA_load, stepA_fieldAddr, stepA_call, thenV_some, thenH_some, eval_tmp, eval_const, put_some, enterF_zero, enterF_succ, absV_int, aField_eq, fieldGo_ptr, aLoad_eq, aPlace_ptr, dropC_cells, aBox_eq, push_n, get_push2, get_push2', Nat.reduceEqDiff, List.map_cons, List.map_nil, Option.map_some, Nat.add_zero, Nat.zero_le, List.drop_zero, if_true, if_false, ft_36_0, lt_3, cc, l0]
  refine callI_pure cal37 (cmpInt _ _ _) ?_
  simp only [wpA_ret, seqQ_normal, endI_mk, goI_out, goI_ops, opsA_nil, opsA_cons, stepA_assign, eval_tmp, put_some, enterF_succ, Nat.reduceEqDiff, if_true, if_false, retA_ret, Try.results36, resultsA_1]
  exact hid_mk ⟨rfl, kk⟩
set_option maxRecDepth 10000 in
theorem pNeed (n : Int) (h0 : 0 ≤ n) (h1 : n ≤ 2 ^ 60) (h : AHeap) : Pure Try.prog 16 [.int .i64 n] h (.int .i64 (n / 2 + 1)) := by
  refine Pure.val (Clo.int _ _) ?_
  refine SCalls.enterI (c := _) Try.func16 rfl (by kernel_rfl) (by simp) ?_
  have e1 : (if n < 0 then (0 : Int) else n) = n := if_neg (by omega)
  have e2 : n.tdiv 2 = n / 2 := Int.tdiv_eq_ediv_of_nonneg h0
  have e3 : IntKind.i64.wrap (n / 2) = n / 2 := Go.IntWalk.i64_in _ (by omega)
  have e4 : IntKind.i64.wrap (n / 2 + 1) = n / 2 + 1 := Go.IntWalk.i64_in _ (by omega)
  have e5 : max n 0 = n := by omega
  simp only [wpA_region, wpA_seq, wpA_ret, seqQ_normal, endI_mk, goI_out, goI_ops, opsA_nil, opsA_cons, stepA_move, stepA_assign, stepA_binOp, stepA_max, thenV_some, eval_tmp, eval_const, put_some, enterF_zero, enterF_succ, aBin_add, mmV_max, absV_int, Nat.reduceEqDiff, reduceCtorEq, if_true, if_false, aBin_quo (show (2 : Int) ≠ 0 by decide), e2, e3, e4, e5, retA_ret, Try.results16, resultsA_1]
  exact hid_mk ⟨rfl, Keep.refl _ _⟩
end Go.Proofs.Ytmgjjhpkhjebbaa.Pk
