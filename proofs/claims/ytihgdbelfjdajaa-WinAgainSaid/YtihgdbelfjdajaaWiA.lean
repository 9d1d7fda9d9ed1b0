/-
  What functions of the program do, told of abstract states. Conditions: as each theorem says.
-/
import Derived.Test.YtihgdbelfjdajaaTyW
import Derived.Test.YtihgdbelfjdajaaChK
namespace Go.Proofs.Ytihgdbelfjdajaa.Pk
open Go Go.Proofs Go.Proofs.Ytihgdbelfjdajaa.Ab
set_option linter.unusedVariables false
set_option linter.unusedSimpArgs false

/-! ### A map whose keys are places -/
def pE (k f : Int) : V := .agg [.int .i64 k, .int .i64 f]
theorem sk_pl : structK Try.prog 51 = some [0, 0] := by kernel_rfl
theorem eq_pl (a b c e : Int) : ∃ r, eqK [0, 0] [.int .i64 a, .int .i64 b] [.int .i64 c, .int .i64 e] = some r ∧ (r = true ↔ a = c ∧ b = e) := by
  refine ⟨_, rfl, ?_⟩
  simp
theorem keyOk_pl (e : Bool) (a b : Int) : keyOk Try.prog e 51 (pE a b) = true := by
  cases e <;> kernel_rfl
theorem mp_d : ∃ d, mapT Try.prog 47 = some (51, 2, d) ∧ scalarKind d = false := by
  have h : (mapT Try.prog 47).map (fun q => (q.1, q.2.1, scalarKind q.2.2)) = some (51, 2, false) := by kernel_rfl
  cases hm : mapT Try.prog 47 with
  | none => rw [hm] at h; cases h
  | some q =>
    rw [hm] at h
    obtain ⟨a, b, d⟩ := q
    simp only [Option.map_some, Option.some.injEq, Prod.mk.injEq] at h
    obtain ⟨rfl, rfl, h⟩ := h
    exact ⟨d, rfl, h⟩
theorem eqKey_pl {d : TypeDesc} (hd : scalarKind d = false) (a b c e : Int) : eqKey Try.prog 51 d (pE a b) (pE c e) = some (a == c && b == e) := by
  have h : eqK [0, 0] [.int .i64 a, .int .i64 b] [.int .i64 c, .int .i64 e] = some (a == c && b == e) := by simp [eqK]
  obtain ⟨vx, vy, hx, hy⟩ := eqK_flat h
  obtain ⟨h1, _⟩ := pr_equal_agg sk_pl h hx hy
  unfold eqKey pE
  simp only [plainV, hx, hy, Option.map_some, hd, h1]
  rfl
theorem look_0 {h : AHeap} {i cl : Nat} (a b : Int) (hg : h.get i = .map [] cl) : aLookup Try.prog 47 (.map i) (pE a b) true h = some (.tuple [.int .i64 0, .bool false]) := by
  obtain ⟨d, hm, hd⟩ := mp_d
  have hz := z0_2
  unfold aLookup
  simp only [hm, hz, hg, keyOk_pl, if_true, aFind, absV, absF]
theorem look_1 {h : AHeap} {i cl s : Nat} (a b c e v : Int) (hg : h.get i = .map [(s, pE c e, .int .i64 v)] cl) : aLookup Try.prog 47 (.map i) (pE a b) true h = some (.tuple [.int .i64 (if a = c ∧ b = e then v else 0), .bool (decide (a = c ∧ b = e))]) := by
  obtain ⟨d, hm, hd⟩ := mp_d
  have hz := z0_2
  unfold aLookup
  simp only [hm, hz, hg, keyOk_pl, if_true, aFind, eqKey_pl hd]
  by_cases h1 : a = c ∧ b = e
  · have : (a == c && b == e) = true := by simp [h1]
    rw [this]
    simp [h1]
  · have : (a == c && b == e) = false := by
      rw [Bool.eq_false_iff]
      simpa using h1
    rw [this]
    simp only [Option.map_some, Option.map_none, absV, absF]
    rw [if_neg h1, decide_eq_false h1]
theorem upd_0 {h : AHeap} {i cl : Nat} (a b v : Int) (hg : h.get i = .map [] cl) : aUpdate Try.prog 47 (.map i) (pE a b) (.int .i64 v) h = some (h.set i (.map [(cl, pE a b, .int .i64 v)] (cl + 1))) := by
  obtain ⟨d, hm, hd⟩ := mp_d
  unfold aUpdate
  simp only [hm, hg, keyOk_pl, if_true, aFind]
  rfl
theorem del_1 {h : AHeap} {i cl s : Nat} (a b v : Int) (hg : h.get i = .map [(s, pE a b, .int .i64 v)] cl) : aDelete Try.prog 47 (.map i) (pE a b) h = some (h.set i (.map [] cl)) := by
  obtain ⟨d, hm, hd⟩ := mp_d
  unfold aDelete
  simp only [hm, hg, keyOk_pl, if_true, aFind, eqKey_pl hd]
  simp

theorem tmod_rng {time size : Int} (h0 : 0 ≤ time) (h1 : 1 ≤ size) : 0 ≤ time.tmod size ∧ time.tmod size < size ∧ time.tmod size ≤ time := by
  rw [Int.tmod_eq_emod_of_nonneg h0]
  exact ⟨Int.emod_nonneg _ (by omega), Int.emod_lt_of_pos _ (by omega), by
    have h2 := Int.emod_add_mul_ediv time size
    have h3 : 0 ≤ size * (time / size) := Int.mul_nonneg (by omega) (Int.ediv_nonneg h0 (by omega))
    omega⟩
/-! ### The store -/
structure IsWin (h : AHeap) (i m : Nat) (room size : Int) (es : List (Nat × V × V)) (cl : Nat) : Prop where
  get : h.get i = .cells [.int .i64 room, .int .i64 size, .map m] 49 none
  map : h.get m = .map es cl
  ne : i ≠ m
  lt : i < h.n
  ml : m < h.n
  s1 : 1 ≤ size
  s2 : size ≤ 1048576
theorem IsWin.keepN {h h' : AHeap} {i m cl : Nat} {room size : Int} {es : List (Nat × V × V)} (k : IsWin h i m room size es cl) (hk : Keep h h' none_) : IsWin h' i m room size es cl :=
  ⟨(hk.get i k.lt (by simp [none_])).trans k.get, (hk.get m k.ml (by simp [none_])).trans k.map, k.ne, Nat.lt_of_lt_of_le k.lt hk.n, Nat.lt_of_lt_of_le k.ml hk.n, k.s1, k.s2⟩
set_option maxRecDepth 10000 in
theorem winNew (h : AHeap) (room size : Int) (h1 : 1 ≤ room) (h2 : room ≤ 1024) (h3 : 1 ≤ size) (h4 : size ≤ 1048576) :
    SCalls Try.prog 7 [.int .i64 room, .int .i64 size] h (fun r h' => r = .tuple [.ptr (h.n + 1) 0, .int .i64 0] ∧ IsWin h' (h.n + 1) h.n room size [] 0 ∧ Keep h h' none_) := by
  refine SCalls.enterI (c := _) Try.func7 rfl (by kernel_rfl) (by simp) ?_
  have d1 : decide (room < 1) = false := decide_eq_false (by omega)
  have d2 : decide (1024 < room) = false := decide_eq_false (by omega)
  have d3 : decide (size < 1) = false := decide_eq_false (by omega)
  have d4 : decide (1048576 < size) = false := decide_eq_false (by omega)
  simp only [wpA_skip, wpA_region, wpA_seq, wpA_cond, wpA_ret, condI_false, seqQ_normal, endI_mk, goI_out, goI_ops, opsA_nil, opsA_cons, opsA_guardS, gvI_same, slotAt_zero, slotAt_succ, stepA_move, stepA_assign, stepA_pick, stepA_box, stepA_build, stepA_binOp, stepA_makeMap, thenV_some, thenH_some, pickV_false, eval_tmp, eval_const, put_some, enterF_zero, enterF_succ, aBin_lss, aBin_gtr, absV_int, absV_bool, absV_pnil, cells_int, cells_map, cells_agg, setAll_nil, setAll_cons, aBox_eq, makeMap_nil, aBuild_go, aFill_nil, aFill_cons, fillGo_some, buildGo_struct, push_n, List.getElem?_cons_zero, List.getElem?_cons_succ, Nat.reduceEqDiff, Nat.reduceAdd, Nat.reduceLeDiff, reduceCtorEq, List.map_cons, List.map_nil, Option.map_some, Option.map_none, Nat.zero_add, List.length_cons, List.length_nil, List.set_cons_zero, List.set_cons_succ, and_self, if_true, if_false, Nat.le_refl, pl_49, zc_49, d1, d2, d3, d4, retA_ret, Try.results7, resultsA_2]
  refine hid_mk ⟨rfl, ⟨get_push_new, (get_push_lt (by simp only [push_n]; omega)).trans get_push_new, by omega, by simp only [push_n]; omega, by simp only [push_n]; omega, h3, h4⟩, (Keep.push _ _ _).then_push _⟩
set_option maxRecDepth 10000 in
theorem winMiss (h : AHeap) (i m cl : Nat) (room size : Int) (es : List (Nat × V × V)) (k : IsWin h i m room size es cl) : Pure Try.prog 16 [.ptr i 0] h (.bool false) := by
  refine Pure.val (Clo.bool _) ?_
  refine SCalls.enterI (c := _) Try.func16 rfl (by kernel_rfl) (by simp) ?_
  have hg := k.get
  have d1 : (size == 0) = false := by have := k.s1; simp; omega
  simp only [wpA_region, wpA_seq, wpA_ret, seqQ_normal, endI_mk, goI_out, goI_ops, opsA_nil, opsA_cons, opsA_guardS, gvI_same, slotAt_zero, slotAt_succ, stepA_move, stepA_assign, stepA_pick, stepA_load, stepA_nilCheck, stepA_binOp, stepA_fieldAddr, thenV_some, pickV_false, nilV_ptr, eval_tmp, eval_const, put_some, enterF_zero, enterF_succ, aBin_eql, ptr_nil_eql, absV_int, absV_bool, absV_pnil, aField_eq, fieldGo_ptr, aLoad_eq, loadGo_one, aPlace_ptr, dropC_cells, Nat.reduceEqDiff, Nat.reduceAdd, Nat.reduceLeDiff, reduceCtorEq, Nat.zero_add, List.length_cons, List.length_nil, List.drop_zero, List.drop_succ_cons, if_true, if_false, ft_49_1, kt_25, lt_2, hg, d1, retA_ret, Try.results16, resultsA_1]
  exact hid_mk ⟨rfl, Keep.refl _ _⟩
def startW (size time : Int) : Int := if time < 0 ∨ 1099511627776 < time then -1 else time - time.tmod size
set_option maxRecDepth 10000 in
theorem winStart (h : AHeap) (i m cl : Nat) (room size time : Int) (es : List (Nat × V × V)) (k : IsWin h i m room size es cl) : Pure Try.prog 14 [.ptr i 0, .int .i64 time] h (.int .i64 (startW size time)) := by
  refine Pure.val (Clo.int _ _) ?_
  refine SCalls.enterI (c := _) Try.func14 rfl (by kernel_rfl) (by simp) ?_
  have hg := k.get
  simp only [wpA_region, wpA_seq, seqQ_normal, goI_out, goI_ops, opsA_nil, opsA_cons, stepA_move, stepA_assign, stepA_call, eval_tmp, eval_const, put_some, enterF_zero, enterF_succ, absV_int, Int.reduceNeg, Nat.reduceEqDiff, reduceCtorEq, List.map_cons, List.map_nil, if_true, if_false]
  refine callI_pure cal16 (winMiss h i m cl room size es k) ?_
  by_cases t1 : time < 0
  · have d1 : decide (time < 0) = true := decide_eq_true t1
    simp only [wpA_region, wpA_seq, wpA_cond, wpA_ret, condI_true, seqQ_normal, seqQ_ret, endI_mk, goI_out, goI_ops, opsA_nil, opsA_cons, opsA_guardS, gvI_same, gvI_tf, slotAt_zero, slotAt_succ, stepA_move, stepA_assign, stepA_pick, stepA_binOp, thenV_some, pickV_true, pickV_false, eval_tmp, eval_const, put_some, enterF_zero, enterF_succ, aBin_lss, absV_int, absV_bool, Int.reduceNeg, Nat.reduceEqDiff, if_true, if_false, d1, retA_ret, Try.results14, resultsA_1]
    exact hid_mk ⟨by rw [startW, if_pos (.inl t1)], Keep.refl _ _⟩
  have d1 : decide (time < 0) = false := decide_eq_false t1
  by_cases t2 : 1099511627776 < time
  · have d2 : decide (1099511627776 < time) = true := decide_eq_true t2
    simp only [wpA_region, wpA_seq, wpA_cond, wpA_ret, condI_true, seqQ_normal, seqQ_ret, endI_mk, goI_out, goI_ops, opsA_nil, opsA_cons, opsA_guardS, gvI_same, slotAt_zero, slotAt_succ, stepA_move, stepA_assign, stepA_pick, stepA_binOp, thenV_some, pickV_false, eval_tmp, eval_const, put_some, enterF_zero, enterF_succ, aBin_lss, aBin_gtr, absV_int, absV_bool, Int.reduceNeg, Nat.reduceEqDiff, if_true, if_false, d1, d2, retA_ret, Try.results14, resultsA_1]
    exact hid_mk ⟨by rw [startW, if_pos (.inr t2)], Keep.refl _ _⟩
  have d2 : decide (1099511627776 < time) = false := decide_eq_false t2
  have hr : ∀ xo yo, aBin Try.prog .rem 2 xo yo (.int .i64 time) (.int .i64 size) = some (.int .i64 (time.tmod size)) := fun xo yo => aBin_rem (by have := k.s1; omega)
  obtain ⟨m0, m1, m2⟩ := tmod_rng (time := time) (size := size) (by omega) k.s1
  have hw : IntKind.i64.wrap (time - time.tmod size) = time - time.tmod size := Go.IntWalk.i64_in _ (by omega)
  simp only [wpA_skip, wpA_region, wpA_seq, wpA_cond, wpA_ret, condI_false, seqQ_normal, endI_mk, goI_out, goI_ops, opsA_nil, opsA_cons, opsA_guardS, gvI_same, slotAt_zero, slotAt_succ, stepA_move, stepA_assign, stepA_pick, stepA_load, stepA_nilCheck, stepA_binOp, stepA_fieldAddr, thenV_some, pickV_false, nilV_ptr, eval_tmp, eval_const, put_some, enterF_zero, enterF_succ, aBin_sub, aBin_lss, aBin_gtr, absV_int, absV_bool, aField_eq, fieldGo_ptr, aLoad_eq, loadGo_one, aPlace_ptr, dropC_cells, Int.reduceNeg, Nat.reduceEqDiff, Nat.reduceAdd, Nat.reduceLeDiff, reduceCtorEq, Nat.zero_add, List.length_cons, List.length_nil, List.drop_zero, List.drop_succ_cons, if_true, if_false, ft_49_1, lt_2, d1, d2, hg, hr, hw, retA_ret, Try.results14, resultsA_1]
  exact hid_mk ⟨by rw [startW, if_neg (by omega)], Keep.refl _ _⟩
end Go.Proofs.Ytihgdbelfjdajaa.Pk
