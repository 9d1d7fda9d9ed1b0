/-
  What functions of the program do, told of abstract states. Conditions: as each theorem says.
-/
import Derived.Test.YtedkjhifbibpmaaGreatDoorTyE
import Derived.Test.YtedkjhifbibpmaaGreatDoorMeK
import Derived.Test.YtedkjhifbibpmaaGreatDoorAbD
namespace Go.Proofs.YtedkjhifbibpmaaGreatDoor.Pk
open Go Go.Proofs Go.Proofs.YtedkjhifbibpmaaGreatDoor.Ab
set_option linter.unusedVariables false
set_option linter.unusedSimpArgs false

/-! ### A map whose keys are places -/
def pE (k f : Int) : V := .agg [.int .i64 k, .int .i64 f]
theorem sk_pl : structK Tryz.prog 286 = some [0, 0] := by kernel_rfl
theorem keyOk_pl (e : Bool) (a b : Int) : keyOk Tryz.prog e 286 (pE a b) = true := by
  cases e <;> kernel_rfl
theorem mp_d : ∃ d, mapT Tryz.prog 270 = some (286, 2, d) ∧ scalarKind d = false := by
  have h : (mapT Tryz.prog 270).map (fun q => (q.1, q.2.1, scalarKind q.2.2)) = some (286, 2, false) := by kernel_rfl
  cases hm : mapT Tryz.prog 270 with
  | none => rw [hm] at h; cases h
  | some q =>
    rw [hm] at h
    obtain ⟨a, b, d⟩ := q
    simp only [Option.map_some, Option.some.injEq, Prod.mk.injEq] at h
    obtain ⟨rfl, rfl, h⟩ := h
    exact ⟨d, rfl, h⟩
theorem eqKey_pl {d : TypeDesc} (hd : scalarKind d = false) (a b c e : Int) : eqKey Tryz.prog 286 d (pE a b) (pE c e) = some (a == c && b == e) := by
  have h : eqK [0, 0] [.int .i64 a, .int .i64 b] [.int .i64 c, .int .i64 e] = some (a == c && b == e) := by simp [eqK]
  obtain ⟨vx, vy, hx, hy⟩ := eqK_flat h
  obtain ⟨h1, _⟩ := pr_equal_agg sk_pl h hx hy
  unfold eqKey pE
  simp only [plainV, hx, hy, Option.map_some, hd, h1]
  rfl
theorem tmod_rng {time size : Int} (h0 : 0 ≤ time) (h1 : 1 ≤ size) : 0 ≤ time.tmod size ∧ time.tmod size < size ∧ time.tmod size ≤ time := by
  rw [Int.tmod_eq_emod_of_nonneg h0]
  exact ⟨Int.emod_nonneg _ (by omega), Int.emod_lt_of_pos _ (by omega), by
    have h2 := Int.emod_add_mul_ediv time size
    have h3 : 0 ≤ size * (time / size) := Int.mul_nonneg (by omega) (Int.ediv_nonneg h0 (by omega))
    omega⟩
/-! ### The store -/
structure IsWin (h : AHeap) (i m : Nat) (room size : Int) (es : List (Nat × V × V)) (cl : Nat) : Prop where
  get : h.get i = .cells [.int .i64 room, .int .i64 size, .map m] 272 none
  map : h.get m = .map es cl
  ne : i ≠ m
  lt : i < h.n
  ml : m < h.n
  s1 : 1 ≤ size
  s2 : size ≤ 1048576
theorem IsWin.keepN {h h' : AHeap} {i m cl : Nat} {room size : Int} {es : List (Nat × V × V)} (k : IsWin h i m room size es cl) (hk : Keep h h' none_) : IsWin h' i m room size es cl :=
  ⟨(hk.get i k.lt (by simp [none_])).trans k.get, (hk.get m k.ml (by simp [none_])).trans k.map, k.ne, Nat.lt_of_lt_of_le k.lt hk.n, Nat.lt_of_lt_of_le k.ml hk.n, k.s1, k.s2⟩
set_option maxRecDepth 10000 in
theorem winNew (h : AHeap) (room size : Int) (h1 : 1 ≤ room) (h2 : room ≤ 1024) (h3 : 1 ≤ size) (h4 : size ≤ 1048576) :
    SCalls Tryz.prog 107 [.int .i64 room, .int .i64 size] h (fun r h' => r = .tuple [.ptr (h.n + 1) 0, .int .i64 0] ∧ IsWin h' (h.n + 1) h.n room size [] 0 ∧ Keep h h' none_) := by
  refine SCalls.enterI (c := _) Tryz.func107 rfl (by kernel_rfl) (by simp) ?_
  have d1 : decide (room < 1) = false := decide_eq_false (by omega)
  have d2 : decide (1024 < room) = false := decide_eq_false (by omega)
  have d3 : decide (size < 1) = false := decide_eq_false (by omega)
  have d4 : decide (1048576 < size) = false := decide_eq_false (by omega)
  simp only [wpA_skip, wpA_region, wpA_seq, wpA_cond, wpA_ret, condI_false, seqQ_normal, endI_mk, goI_out, goI_ops, opsA_nil, opsA_cons, opsA_guardS, gvI_same, slotAt_zero, slotAt_succ, stepA_move, stepA_assign, stepA_pick, stepA_box, stepA_build, stepA_binOp, stepA_makeMap, thenV_some, thenH_some, pickV_false, eval_tmp, eval_const, put_some, enterF_zero, enterF_succ, aBin_lss, aBin_gtr, absV_int, absV_bool, absV_pnil, cells_int, cells_map, cells_agg, setAll_nil, setAll_cons, aBox_eq, makeMap_nil, aBuild_go, aFill_nil, aFill_cons, fillGo_some, buildGo_struct, push_n, List.getElem?_cons_zero, List.getElem?_cons_succ, Nat.reduceEqDiff, Nat.reduceAdd, Nat.reduceLeDiff, reduceCtorEq, List.map_cons, List.map_nil, Option.map_some, Option.map_none, Nat.zero_add, List.length_cons, List.length_nil, List.set_cons_zero, List.set_cons_succ, and_self, if_true, if_false, Nat.le_refl, pl_272, zc_272, d1, d2, d3, d4, retA_ret, Tryz.results107, resultsA_2]
  refine hid_mk ⟨rfl, ⟨get_push_new, (get_push_lt (by simp only [push_n]; omega)).trans get_push_new, by omega, by simp only [push_n]; omega, by simp only [push_n]; omega, h3, h4⟩, (Keep.push _ _ _).then_push _⟩
set_option maxRecDepth 10000 in
theorem winMiss (h : AHeap) (i m cl : Nat) (room size : Int) (es : List (Nat × V × V)) (k : IsWin h i m room size es cl) : Pure Tryz.prog 161 [.ptr i 0] h (.bool false) := by
  refine Pure.val (Clo.bool _) ?_
  refine SCalls.enterI (c := _) Tryz.func161 rfl (by kernel_rfl) (by simp) ?_
  have hg := k.get
  have d1 : (size == 0) = false := by have := k.s1; simp; omega
  simp only [wpA_region, wpA_seq, wpA_ret, seqQ_normal, endI_mk, goI_out, goI_ops, opsA_nil, opsA_cons, opsA_guardS, gvI_same, slotAt_zero, slotAt_succ, stepA_move, stepA_assign, stepA_pick, stepA_load, stepA_nilCheck, stepA_binOp, stepA_fieldAddr, thenV_some, pickV_false, nilV_ptr, eval_tmp, eval_const, put_some, enterF_zero, enterF_succ, aBin_eql, ptr_nil_eql, absV_int, absV_bool, absV_pnil, aField_eq, fieldGo_ptr, aLoad_eq, loadGo_one, aPlace_ptr, dropC_cells, Nat.reduceEqDiff, Nat.reduceAdd, Nat.reduceLeDiff, reduceCtorEq, Nat.zero_add, List.length_cons, List.length_nil, List.drop_zero, List.drop_succ_cons, if_true, if_false, ft_272_1, kt_197, lt_2, hg, d1, retA_ret, Tryz.results161, resultsA_1]
  exact hid_mk ⟨rfl, Keep.refl _ _⟩
def startW (size time : Int) : Int := if time < 0 ∨ 1099511627776 < time then -1 else time - time.tmod size
set_option maxRecDepth 10000 in
theorem winStart (h : AHeap) (i m cl : Nat) (room size time : Int) (es : List (Nat × V × V)) (k : IsWin h i m room size es cl) : Pure Tryz.prog 122 [.ptr i 0, .int .i64 time] h (.int .i64 (startW size time)) := by
  refine Pure.val (Clo.int _ _) ?_
  refine SCalls.enterI (c := _) Tryz.func122 rfl (by kernel_rfl) (by simp) ?_
  have hg := k.get
  simp only [wpA_region, wpA_seq, seqQ_normal, goI_out, goI_ops, opsA_nil, opsA_cons, stepA_move, stepA_assign, stepA_call, eval_tmp, eval_const, put_some, enterF_zero, enterF_succ, absV_int, Int.reduceNeg, Nat.reduceEqDiff, reduceCtorEq, List.map_cons, List.map_nil, if_true, if_false]
  refine callI_pure cal161 (winMiss h i m cl room size es k) ?_
  by_cases t1 : time < 0
  · have d1 : decide (time < 0) = true := decide_eq_true t1
    simp only [wpA_region, wpA_seq, wpA_cond, wpA_ret, condI_true, seqQ_normal, seqQ_ret, endI_mk, goI_out, goI_ops, opsA_nil, opsA_cons, opsA_guardS, gvI_same, gvI_tf, slotAt_zero, slotAt_succ, stepA_move, stepA_assign, stepA_pick, stepA_binOp, thenV_some, pickV_true, pickV_false, eval_tmp, eval_const, put_some, enterF_zero, enterF_succ, aBin_lss, absV_int, absV_bool, Int.reduceNeg, Nat.reduceEqDiff, if_true, if_false, d1, retA_ret, Tryz.results122, resultsA_1]
    exact hid_mk ⟨by rw [startW, if_pos (.inl t1)], Keep.refl _ _⟩
  have d1 : decide (time < 0) = false := decide_eq_false t1
  by_cases t2 : 1099511627776 < time
  · have d2 : decide (1099511627776 < time) = true := decide_eq_true t2
    simp only [wpA_region, wpA_seq, wpA_cond, wpA_ret, condI_true, seqQ_normal, seqQ_ret, endI_mk, goI_out, goI_ops, opsA_nil, opsA_cons, opsA_guardS, gvI_same, slotAt_zero, slotAt_succ, stepA_move, stepA_assign, stepA_pick, stepA_binOp, thenV_some, pickV_false, eval_tmp, eval_const, put_some, enterF_zero, enterF_succ, aBin_lss, aBin_gtr, absV_int, absV_bool, Int.reduceNeg, Nat.reduceEqDiff, if_true, if_false, d1, d2, retA_ret, Tryz.results122, resultsA_1]
    exact hid_mk ⟨by rw [startW, if_pos (.inr t2)], Keep.refl _ _⟩
  have d2 : decide (1099511627776 < time) = false := decide_eq_false t2
  have hr : ∀ xo yo, aBin Tryz.prog .rem 2 xo yo (.int .i64 time) (.int .i64 size) = some (.int .i64 (time.tmod size)) := fun xo yo => aBin_rem (by have := k.s1; omega)
  obtain ⟨m0, m1, m2⟩ := tmod_rng (time := time) (size := size) (by omega) k.s1
  have hw : IntKind.i64.wrap (time - time.tmod size) = time - time.tmod size := Go.IntWalk.i64_in _ (by omega)
  simp only [wpA_skip, wpA_region, wpA_seq, wpA_cond, wpA_ret, condI_false, seqQ_normal, endI_mk, goI_out, goI_ops, opsA_nil, opsA_cons, opsA_guardS, gvI_same, slotAt_zero, slotAt_succ, stepA_move, stepA_assign, stepA_pick, stepA_load, stepA_nilCheck, stepA_binOp, stepA_fieldAddr, thenV_some, pickV_false, nilV_ptr, eval_tmp, eval_const, put_some, enterF_zero, enterF_succ, aBin_sub, aBin_lss, aBin_gtr, absV_int, absV_bool, aField_eq, fieldGo_ptr, aLoad_eq, loadGo_one, aPlace_ptr, dropC_cells, Int.reduceNeg, Nat.reduceEqDiff, Nat.reduceAdd, Nat.reduceLeDiff, reduceCtorEq, Nat.zero_add, List.length_cons, List.length_nil, List.drop_zero, List.drop_succ_cons, if_true, if_false, ft_272_1, lt_2, d1, d2, hg, hr, hw, retA_ret, Tryz.results122, resultsA_1]
  exact hid_mk ⟨by rw [startW, if_neg (by omega)], Keep.refl _ _⟩
end Go.Proofs.YtedkjhifbibpmaaGreatDoor.Pk
namespace Go.Proofs.YtedkjhifbibpmaaGreatDoor.Pk
open Go Go.Proofs Go.Proofs.YtedkjhifbibpmaaGreatDoor.Ab
set_option linter.unusedVariables false
set_option linter.unusedSimpArgs false
theorem pE_cells (k f : Int) : (pE k f).cells = some [.int .i64 k, .int .i64 f] := rfl
set_option maxRecDepth 10000 in
theorem winSet (h : AHeap) (i m cl : Nat) (room size key fr val : Int) (es : List (Nat × V × V)) (k : IsWin h i m room size es cl) (h0 : 0 ≤ fr) (h1 : fr ≤ 2 ^ 41) : Pure Tryz.prog 174 [.ptr i 0, pE key fr, .int .i64 val] h (.agg (chgE ⟨key, fr, fr + size, val, false⟩)) := by
  refine Pure.val (Clo.agg (chgE_clo _)) ?_
  refine SCalls.enterI (c := _) Tryz.func174 rfl (by kernel_rfl) (by simp) ?_
  have hg := k.get
  have il := k.lt
  have hgi : ∀ A B, ((h.push A).push B).get i = .cells [.int .i64 room, .int .i64 size, .map m] 272 none := fun A B => (get_push_lt (by simp only [push_n]; omega)).trans ((get_push_lt il).trans hg)
  have hw : IntKind.i64.wrap (fr + size) = fr + size := Go.IntWalk.i64_in _ (by have := k.s1; have := k.s2; omega)
  simp only [wpA_region, wpA_seq, wpA_draw, seqQ_normal, goI_out, goI_ops, opsA_nil, opsA_cons, stepA_alloc, stepA_box, thenH_some, eval_tmp, enterF_zero, enterF_succ, aAlloc_eq, aBox_eq, push_n, Option.map_some, zc_40, pE_cells]
  refine SWp.drawnS none_ [13] (.q 0 (.q 1 (.q 2 (.q 3 (.q 4 (.q 5 (.q 6 (.q 7 (.q 8 (.q 9 (.q 10 (.q 11 (.q 12 (.a 13 .done)))))))))))))) (by kernel_rfl) (by kernel_rfl) (by kernel_rfl) ?_
  simp only [siI_done, siI_q, siI_a, sqI_some, saI_some, mOk_none', implies_true, qI_nil, qI_cons, thenQ_some, q_move, q_load, q_build, q_nilCheck, q_binOp, q_fieldAddr, wpA_ret, seqQ_normal, endI_mk, goI_out, goI_ops, goI_mk, opsA_nil, opsA_cons, stepA_store, thenS_some, nilV_ptr, eval_tmp, put_some, put_none, enterF_zero, enterF_succ, aBin_add, cells_int, cells_agg, one_int, one_bool, all_nil, all_cons, aField_eq, fieldGo_ptr, aLoad_eq, loadGo_one, loadGo_row, aPlace_ptr, dropC_cells, aStore_eq, storeGo_ptr, setC_row, setAll_nil, setAll_cons, aBuild_go, aFill_nil, aFill_cons, fillGo_some, buildGo_struct, get_push2, get_push2', set_push2, List.getElem?_cons_zero, List.getElem?_cons_succ, Nat.reduceEqDiff, Nat.reduceAdd, Nat.reduceLeDiff, reduceCtorEq, List.map_cons, List.map_nil, Option.map_some, Nat.add_zero, Nat.zero_add, Nat.zero_le, List.length_cons, List.length_nil, List.drop_zero, List.drop_succ_cons, List.take_succ_cons, List.take_nil, List.set_cons_zero, List.set_cons_succ, true_and, and_self, if_true, if_false, Bool.and_self, Nat.le_refl, ft_272_1, ft_286_0, ft_286_1, lt_2, lt_40, pl_40, zc_40, zt_40, hgi, hw, retA_ret, Tryz.results174, resultsC_1, resultA_cell]
  exact hid_mk ⟨rfl, (Keep.push _ _ _).then_push _⟩
def frW (size time : Int) : Int := time - time.tmod size
theorem startW_ok {size time : Int} (h0 : 0 ≤ time) (h1 : time ≤ 1099511627776) : startW size time = frW size time := by rw [startW, if_neg (by omega)]; rfl
theorem frW_rng {size time : Int} (h0 : 0 ≤ time) (h1 : 1 ≤ size) : 0 ≤ frW size time ∧ frW size time ≤ time ∧ time < frW size time + size := by
  obtain ⟨a, b, c⟩ := tmod_rng h0 h1
  unfold frW
  omega
end Go.Proofs.YtedkjhifbibpmaaGreatDoor.Pk
namespace Go.Proofs.YtedkjhifbibpmaaGreatDoor.Pk
open Go Go.Proofs Go.Proofs.YtedkjhifbibpmaaGreatDoor.Ab
set_option linter.unusedVariables false
set_option linter.unusedSimpArgs false
/-! ### A range over a map with one entry -/
theorem mt_114x : ∃ q, mapT Tryz.prog 270 = some q := by
  obtain ⟨d, hm, _⟩ := mp_d
  exact ⟨_, hm⟩
end Go.Proofs.YtedkjhifbibpmaaGreatDoor.Pk
namespace Go.Proofs.YtedkjhifbibpmaaGreatDoor.Pk
open Go Go.Proofs Go.Proofs.YtedkjhifbibpmaaGreatDoor.Ab
set_option linter.unusedVariables false
set_option linter.unusedSimpArgs false
/-! ### The store with any values -/
def plK (p : Int × Int) : V := pE p.1 p.2
abbrev Ent := List (Nat × (Int × Int) × Int)
def wE (l : Ent) : List (Nat × V × V) := mapK plK (V.int .i64) l
theorem kPlace {d : TypeDesc} (hd : scalarKind d = false) : KeyEnc Tryz.prog 286 d plK where
  eq a b := by
    rw [show plK a = pE a.1 a.2 from rfl, show plK b = pE b.1 b.2 from rfl, eqKey_pl hd]
    rw [Option.some.injEq, Bool.eq_iff_iff]
    simp only [Bool.and_eq_true, beq_iff_eq, decide_eq_true_eq]
    exact ⟨fun h => Prod.ext h.1 h.2, fun h => ⟨congrArg Prod.fst h, congrArg Prod.snd h⟩⟩
  ok b a := keyOk_pl b a.1 a.2
  bits a := by
    refine ⟨_, rfl, ?_⟩
    simp [Instr.sameBits]
theorem lookW {h : AHeap} {i cl : Nat} (l : Ent) (a b : Int) (hg : h.get i = .map (wE l) cl) : aLookup Tryz.prog 270 (.map i) (.agg [.int .i64 a, .int .i64 b]) true h = some (.tuple [.int .i64 ((kget l (a, b)).getD 0), .bool (kget l (a, b)).isSome]) := by
  obtain ⟨d, hm, hd⟩ := mp_d
  have := lookup_k (enc := V.int .i64) (ok := true) (kPlace hd) (k := (a, b)) hm z0_2 hg
  rw [show (V.agg [.int .i64 a, .int .i64 b]) = plK (a, b) from rfl, this]
  cases kget l (a, b) <;> simp [absV, absF]
theorem updW {h : AHeap} {i cl : Nat} (l : Ent) (a b v : Int) (hg : h.get i = .map (wE l) cl) : aUpdate Tryz.prog 270 (.map i) (.agg [.int .i64 a, .int .i64 b]) (.int .i64 v) h = some (h.set i (.map (wE (kset cl l (a, b) v)) (kclk cl l (a, b)))) := by
  obtain ⟨d, hm, hd⟩ := mp_d
  exact update_k (enc := V.int .i64) (kPlace hd) (k := (a, b)) hm hg rfl
theorem delW {h : AHeap} {i cl : Nat} (l : Ent) (a b : Int) (hg : h.get i = .map (wE l) cl) : aDelete Tryz.prog 270 (.map i) (.agg [.int .i64 a, .int .i64 b]) h = some (h.set i (.map (wE (kdel l (a, b))) cl)) := by
  obtain ⟨d, hm, hd⟩ := mp_d
  exact delete_k (enc := V.int .i64) (kPlace hd) (k := (a, b)) hm hg
theorem wlen (l : Ent) : (wE l).length = l.length := by simp [wE, mapK]
set_option maxHeartbeats 1000000 in
set_option maxRecDepth 10000 in
theorem winPutOk (h : AHeap) (i m cl : Nat) (room size key time val : Int) (l : Ent) (k : IsWin h i m room size (wE l) cl) (hr : (kget l (key, frW size time)).isSome = true ∨ (l.length : Int) < room) (h0 : 0 ≤ time) (h1 : time ≤ 1099511627776) :
    SCalls Tryz.prog 120 [.ptr i 0, .int .i64 key, .int .i64 time, .int .i64 val] h (fun r h' => r = .tuple [.agg (chgE ⟨key, frW size time, frW size time + size, val, false⟩), .int .i64 0] ∧ IsWin h' i m room size (wE (kset cl l (key, frW size time) val)) (kclk cl l (key, frW size time)) ∧ Keep h h' (fun q => q = m)) := by
  refine SCalls.enterI (c := _) Tryz.func120 rfl (by kernel_rfl) (by simp) ?_
  have il := k.lt
  have ml := k.ml
  obtain ⟨f0, f1, f2⟩ := frW_rng h0 k.s1
  have so := startW_ok (size := size) h0 h1
  simp only [wpA_region, wpA_seq, seqQ_normal, goI_out, goI_ops, opsA_nil, opsA_cons, stepA_move, stepA_assign, stepA_alloc, stepA_call, thenH_some, eval_tmp, eval_const, put_some, enterF_zero, enterF_succ, absV_int, aAlloc_eq, Nat.reduceEqDiff, reduceCtorEq, List.map_cons, List.map_nil, Option.map_some, if_true, if_false, zc_40]
  have k1 := k.keepN (Keep.push h (.cells [.int .i64 0, .int .i64 0, .int .i64 0, .int .i64 0, .bool false] 40 none) none_)
  refine callI_pure cal161 (winMiss _ i m cl room size _ k1) ?_
  simp only [wpA_skip, wpA_region, wpA_seq, wpA_cond, condI_false, seqQ_normal, goI_out, goI_ops, opsA_nil, opsA_cons, stepA_move, stepA_call, eval_tmp, put_some, enterF_zero, enterF_succ, Nat.reduceEqDiff, reduceCtorEq, List.map_cons, List.map_nil, if_true, if_false]
  refine callI_pure cal122 (winStart _ i m cl room size time _ k1) ?_
  rw [so]
  generalize frW size time = fr at f0 f1 f2 hr ⊢
  have d1 : decide (fr < 0) = false := decide_eq_false (by omega)
  have pc : ∀ a b : Int, (V.agg [.int .i64 a, .int .i64 b]).cells = some [.int .i64 a, .int .i64 b] := fun _ _ => rfl
  simp only [wpA_skip, wpA_region, wpA_seq, wpA_cond, wpA_draw, condI_false, seqQ_normal, goI_out, goI_ops, opsA_nil, opsA_cons, stepA_move, stepA_assign, stepA_alloc, stepA_build, stepA_store, stepA_binOp, thenV_some, thenH_some, thenS_some, eval_tmp, eval_const, put_some, enterF_zero, enterF_succ, aBin_lss, absV_int, cells_int, one_int, all_nil, all_cons, aStore_eq, storeGo_ptr, setC_row, setAll_nil, setAll_cons, aAlloc_eq, aBuild_go, aFill_nil, aFill_cons, fillGo_some, buildGo_struct, push_n, get_push2, set_push2, List.getElem?_cons_zero, List.getElem?_cons_succ, Nat.reduceEqDiff, Nat.reduceAdd, Nat.reduceLeDiff, List.map_cons, List.map_nil, Option.map_some, Nat.zero_add, List.length_cons, List.length_nil, List.set_cons_zero, List.set_cons_succ, and_self, if_true, if_false, Bool.and_self, Nat.le_refl, pl_286, zc_286, zt_286, d1, pc]
  generalize hH : (h.push (.cells [.int .i64 0, .int .i64 0, .int .i64 0, .int .i64 0, .bool false] 40 none)).push (.cells [.int .i64 key, .int .i64 fr] 286 none) = H
  have kH : Keep h H none_ := by rw [← hH]; exact (Keep.push _ _ _).then_push _
  have kk : IsWin H i m room size (wE l) cl := k.keepN kH
  have gi := kk.get
  have gm := kk.map
  have g0 : H.get h.n = .cells [.int .i64 0, .int .i64 0, .int .i64 0, .int .i64 0, .bool false] 40 none := by rw [← hH]; exact (get_push_lt (by simp only [push_n]; omega)).trans get_push_new
  have g1 : H.get (h.n + 1) = .cells [.int .i64 key, .int .i64 fr] 286 none := by rw [← hH]; exact get_push_new
  have nH : H.n = h.n + 2 := by rw [← hH]; rfl
  have hlk : aLookup Tryz.prog 270 (.map m) (.agg [.int .i64 key, .int .i64 fr]) true H = some (.tuple [.int .i64 ((kget l (key, fr)).getD 0), .bool (kget l (key, fr)).isSome]) := lookW l key fr gm
  have hup : aUpdate Tryz.prog 270 (.map m) (.agg [.int .i64 key, .int .i64 fr]) (.int .i64 val) H = some (H.set m (.map (wE (kset cl l (key, fr) val)) (kclk cl l (key, fr)))) := updW l key fr val gm
  have hln : aLen Tryz.prog 270 (.map m) H = some (.int .i64 (l.length : Nat)) := by rw [aLen_map kt_270 gm, wlen]
  have lp : loadGo (some (some 2)) (some [.int .i64 key, .int .i64 fr]) = some (.agg [.int .i64 key, .int .i64 fr]) := rfl
  refine SWp.drawnS none_ [] (.q 0 (.q 1 (.q 2 (.q 3 (.q 4 (.q 5 (.q 6 (.q 7 (.q 8 (.q 9 (.q 10 .done))))))))))) (by kernel_rfl) (by kernel_rfl) (by kernel_rfl) ?_
  simp only [siI_done, siI_q, sqI_some, mOk_none', implies_true, qI_nil, qI_cons, thenQ_some, q_move, q_assign, q_load, q_nilCheck, q_fieldAddr, q_lookup, q_extract, wpA_seq, wpA_draw, seqQ_normal, goI_out, goI_mk, nilV_ptr, extV_zero, extV_succ, eval_tmp, put_some, put_none, enterF_zero, enterF_succ, aField_eq, fieldGo_ptr, aLoad_eq, loadGo_one, aPlace_ptr, dropC_cells, List.getElem?_cons_zero, List.getElem?_cons_succ, Nat.reduceEqDiff, Nat.reduceAdd, Nat.reduceLeDiff, reduceCtorEq, Nat.zero_add, Nat.zero_le, List.length_cons, List.length_nil, List.drop_zero, List.drop_succ_cons, true_and, if_true, if_false, ft_272_2, lt_270, lt_286, gi, g1, lp, hlk]
  generalize kget l (key, fr) = o at hr hlk
  have hc : (o.isSome = true) ∨ (o.isSome = false ∧ decide (room ≤ ((l.length : Nat) : Int)) = false) := by
    cases ho : o.isSome
    · rw [ho] at hr
      exact .inr ⟨rfl, decide_eq_false (by simp at hr; omega)⟩
    · exact .inl rfl
  generalize o.isSome = ob at hc
  refine SWp.drawnS none_ [] (.q 0 (.q 1 (.q 2 (.q 3 (.q 4 (.q 5 (.q 6 (.q 7 (.q 8 (.q 9 (.q 10 (.q 11 (.q 12 (.q 13 .done)))))))))))))) (by kernel_rfl) (by kernel_rfl) (by kernel_rfl) ?_
  rcases hc with q | ⟨q, q2⟩
  all_goals first | simp only [siI_done, siI_q, sqI_some, mOk_none', implies_true, qI_nil, qI_cons, qI_guard, qgI_same, thenQ_some, q_move, q_pick, q_load, q_nilCheck, q_binOp, q_unOp, q_fieldAddr, q_len, wpA_skip, wpA_seq, wpA_cond, wpA_draw, condI_false, seqQ_normal, goI_out, goI_mk, slotAt_zero, slotAt_succ, pickV_true, nilV_ptr, eval_tmp, eval_const, put_some, put_none, enterF_zero, enterF_succ, aBin_geq, aUn_not, absV_bool, aField_eq, fieldGo_ptr, aLoad_eq, loadGo_one, aPlace_ptr, dropC_cells, List.getElem?_cons_zero, List.getElem?_cons_succ, Nat.reduceEqDiff, Nat.reduceAdd, Nat.reduceLeDiff, reduceCtorEq, Nat.add_zero, Nat.zero_add, Nat.zero_le, List.length_cons, List.length_nil, List.drop_zero, List.drop_succ_cons, true_and, if_true, if_false, Bool.not_false, ft_272_0, ft_272_2, lt_270, lt_3, gi, hln, q, q2] | simp only [siI_done, siI_q, sqI_some, mOk_none', implies_true, qI_nil, qI_cons, qI_guard, qgI_ft, thenQ_some, q_move, q_pick, q_unOp, wpA_skip, wpA_seq, wpA_cond, wpA_draw, condI_false, seqQ_normal, goI_out, goI_mk, slotAt_zero, slotAt_succ, pickV_false, eval_tmp, eval_const, put_some, put_none, enterF_succ, aUn_not, absV_bool, List.getElem?_cons_zero, List.getElem?_cons_succ, Nat.reduceEqDiff, true_and, if_true, if_false, Bool.not_true, q]
  all_goals
    refine SWp.drawnS none_ [6] (.q 0 (.q 1 (.q 2 (.q 3 (.q 4 (.q 5 (.a 6 .done))))))) (by kernel_rfl) (by kernel_rfl) (by kernel_rfl) ?_
    simp only [siI_done, siI_q, siI_a, sqI_some, saI_some, mOk_none', implies_true, qI_nil, qI_cons, thenQ_some, q_move, q_load, q_nilCheck, q_fieldAddr, wpA_region, wpA_seq, seqQ_normal, goI_out, goI_ops, goI_mk, opsA_nil, opsA_cons, stepA_move, stepA_load, stepA_mapUpdate, thenS_some, nilV_ptr, eval_tmp, put_some, put_none, enterF_zero, enterF_succ, aField_eq, fieldGo_ptr, aLoad_eq, loadGo_one, aPlace_ptr, dropC_cells, List.getElem?_cons_zero, List.getElem?_cons_succ, Nat.reduceEqDiff, Nat.reduceAdd, Nat.reduceLeDiff, reduceCtorEq, Nat.zero_add, Nat.zero_le, List.length_cons, List.length_nil, List.drop_zero, List.drop_succ_cons, true_and, if_true, if_false, ft_272_2, lt_270, lt_286, gi, g1, lp, hup]
    generalize hH2 : H.set m (.map (wE (kset cl l (key, fr) val)) (kclk cl l (key, fr))) = H2
    have kS : Keep H H2 (fun q => q = m) := by rw [← hH2]; exact Keep.set _ _ _
    have nS : H2.n = H.n := by rw [← hH2]; rfl
    have gi2 := (kS.get i kk.lt (by exact k.ne)).trans gi
    have gm2 : H2.get m = .map (wE (kset cl l (key, fr) val)) (kclk cl l (key, fr)) := by rw [← hH2]; exact get_set_same
    have g02 := (kS.get h.n (by omega) (by omega)).trans g0
    have g12 := (kS.get (h.n + 1) (by omega) (by omega)).trans g1
    have kk2 : IsWin H2 i m room size (wE (kset cl l (key, fr) val)) (kclk cl l (key, fr)) := ⟨gi2, gm2, k.ne, by omega, by omega, k.s1, k.s2⟩
    simp only [goI_ops, opsA_cons, stepA_move, stepA_call, thenV_some, eval_tmp, put_some, put_none, enterF_zero, enterF_succ, dropC_cells, Nat.reduceEqDiff, Nat.reduceAdd, List.map_cons, List.map_nil, Nat.zero_add, Nat.zero_le, List.length_cons, List.length_nil, List.drop_zero, if_true, if_false, g12, lp]
    refine callI_pure cal174 (winSet H2 i m _ room size key fr val _ kk2 f0 (by omega)) ?_
    have cc : ∀ c : Chg, (V.agg (chgE c)).cells = some (chgE c) := fun _ => rfl
    have st : ∀ c : Chg, setC (some 5) (AObj.cells [.int .i64 0, .int .i64 0, .int .i64 0, .int .i64 0, .bool false] 40 none) 0 (chgE c) = some (.cells (chgE c) 40 none) := fun _ => rfl
    have clc : ∀ c : Chg, (if 5 ≤ (chgE c).length then some (V.agg (List.take 5 (chgE c))) else none) = some (.agg (chgE c)) := fun _ => rfl
    simp only [wpA_ret, seqQ_normal, endI_mk, goI_out, goI_ops, opsA_nil, opsA_cons, stepA_assign, stepA_store, thenS_some, eval_tmp, eval_const, put_some, put_none, enterF_succ, absV_int, aLoad_eq, loadGo_row, aPlace_ptr, dropC_cells, aStore_eq, storeGo_ptr, get_set_same, Nat.reduceEqDiff, Option.map_some, Nat.zero_le, List.drop_zero, if_true, if_false, lt_40, zt_40, g02, cc, st, get_set_same, clc, retA_ret, Tryz.results120, resultsC_2, resultA_tmp, resultA_cell, res2_some]
    have kE : Keep H2 (H2.set h.n (.cells (chgE ⟨key, fr, fr + size, val, false⟩) 40 none)) (fun q => q = h.n) := Keep.set _ _ _
    refine hid_mk ⟨rfl, ⟨(kE.get i (by omega) (by omega)).trans gi2, (kE.get m (by omega) (by omega)).trans gm2, k.ne, by show i < H2.n; omega, by show m < H2.n; omega, k.s1, k.s2⟩, ?_⟩
    exact ((kH.up).trans' kS).setNew (Nat.le_refl _) _
set_option maxHeartbeats 1000000 in
set_option maxRecDepth 10000 in
theorem winPutFull (h : AHeap) (i m cl : Nat) (room size key time val : Int) (l : Ent) (k : IsWin h i m room size (wE l) cl) (hr : (kget l (key, frW size time)).isSome = false) (hl : room ≤ (l.length : Int)) (h0 : 0 ≤ time) (h1 : time ≤ 1099511627776) :
    SCalls Tryz.prog 120 [.ptr i 0, .int .i64 key, .int .i64 time, .int .i64 val] h (fun r h' => r = .tuple [.agg (chgE ⟨0, 0, 0, 0, false⟩), .int .i64 3] ∧ Keep h h' none_) := by
  refine SCalls.enterI (c := _) Tryz.func120 rfl (by kernel_rfl) (by simp) ?_
  have il := k.lt
  have ml := k.ml
  obtain ⟨f0, f1, f2⟩ := frW_rng h0 k.s1
  have so := startW_ok (size := size) h0 h1
  simp only [wpA_region, wpA_seq, seqQ_normal, goI_out, goI_ops, opsA_nil, opsA_cons, stepA_move, stepA_assign, stepA_alloc, stepA_call, thenH_some, eval_tmp, eval_const, put_some, enterF_zero, enterF_succ, absV_int, aAlloc_eq, Nat.reduceEqDiff, reduceCtorEq, List.map_cons, List.map_nil, Option.map_some, if_true, if_false, zc_40]
  have k1 := k.keepN (Keep.push h (.cells [.int .i64 0, .int .i64 0, .int .i64 0, .int .i64 0, .bool false] 40 none) none_)
  refine callI_pure cal161 (winMiss _ i m cl room size _ k1) ?_
  simp only [wpA_skip, wpA_region, wpA_seq, wpA_cond, condI_false, seqQ_normal, goI_out, goI_ops, opsA_nil, opsA_cons, stepA_move, stepA_call, eval_tmp, put_some, enterF_zero, enterF_succ, Nat.reduceEqDiff, reduceCtorEq, List.map_cons, List.map_nil, if_true, if_false]
  refine callI_pure cal122 (winStart _ i m cl room size time _ k1) ?_
  rw [so]
  generalize frW size time = fr at f0 f1 f2 hr ⊢
  have d1 : decide (fr < 0) = false := decide_eq_false (by omega)
  have pc : ∀ a b : Int, (V.agg [.int .i64 a, .int .i64 b]).cells = some [.int .i64 a, .int .i64 b] := fun _ _ => rfl
  simp only [wpA_skip, wpA_region, wpA_seq, wpA_cond, wpA_draw, condI_false, seqQ_normal, goI_out, goI_ops, opsA_nil, opsA_cons, stepA_move, stepA_assign, stepA_alloc, stepA_build, stepA_store, stepA_binOp, thenV_some, thenH_some, thenS_some, eval_tmp, eval_const, put_some, enterF_zero, enterF_succ, aBin_lss, absV_int, cells_int, one_int, all_nil, all_cons, aStore_eq, storeGo_ptr, setC_row, setAll_nil, setAll_cons, aAlloc_eq, aBuild_go, aFill_nil, aFill_cons, fillGo_some, buildGo_struct, push_n, get_push2, set_push2, List.getElem?_cons_zero, List.getElem?_cons_succ, Nat.reduceEqDiff, Nat.reduceAdd, Nat.reduceLeDiff, List.map_cons, List.map_nil, Option.map_some, Nat.zero_add, List.length_cons, List.length_nil, List.set_cons_zero, List.set_cons_succ, and_self, if_true, if_false, Bool.and_self, Nat.le_refl, pl_286, zc_286, zt_286, d1, pc]
  generalize hH : (h.push (.cells [.int .i64 0, .int .i64 0, .int .i64 0, .int .i64 0, .bool false] 40 none)).push (.cells [.int .i64 key, .int .i64 fr] 286 none) = H
  have kH : Keep h H none_ := by rw [← hH]; exact (Keep.push _ _ _).then_push _
  have kk : IsWin H i m room size (wE l) cl := k.keepN kH
  have gi := kk.get
  have gm := kk.map
  have g0 : H.get h.n = .cells [.int .i64 0, .int .i64 0, .int .i64 0, .int .i64 0, .bool false] 40 none := by rw [← hH]; exact (get_push_lt (by simp only [push_n]; omega)).trans get_push_new
  have g1 : H.get (h.n + 1) = .cells [.int .i64 key, .int .i64 fr] 286 none := by rw [← hH]; exact get_push_new
  have nH : H.n = h.n + 2 := by rw [← hH]; rfl
  have hlk : aLookup Tryz.prog 270 (.map m) (.agg [.int .i64 key, .int .i64 fr]) true H = some (.tuple [.int .i64 ((kget l (key, fr)).getD 0), .bool (kget l (key, fr)).isSome]) := lookW l key fr gm
  have hln : aLen Tryz.prog 270 (.map m) H = some (.int .i64 (l.length : Nat)) := by rw [aLen_map kt_270 gm, wlen]
  have lp : loadGo (some (some 2)) (some [.int .i64 key, .int .i64 fr]) = some (.agg [.int .i64 key, .int .i64 fr]) := rfl
  refine SWp.drawnS none_ [] (.q 0 (.q 1 (.q 2 (.q 3 (.q 4 (.q 5 (.q 6 (.q 7 (.q 8 (.q 9 (.q 10 .done))))))))))) (by kernel_rfl) (by kernel_rfl) (by kernel_rfl) ?_
  simp only [siI_done, siI_q, sqI_some, mOk_none', implies_true, qI_nil, qI_cons, thenQ_some, q_move, q_assign, q_load, q_nilCheck, q_fieldAddr, q_lookup, q_extract, wpA_seq, wpA_draw, seqQ_normal, goI_out, goI_mk, nilV_ptr, extV_zero, extV_succ, eval_tmp, put_some, put_none, enterF_zero, enterF_succ, aField_eq, fieldGo_ptr, aLoad_eq, loadGo_one, aPlace_ptr, dropC_cells, List.getElem?_cons_zero, List.getElem?_cons_succ, Nat.reduceEqDiff, Nat.reduceAdd, Nat.reduceLeDiff, reduceCtorEq, Nat.zero_add, Nat.zero_le, List.length_cons, List.length_nil, List.drop_zero, List.drop_succ_cons, true_and, if_true, if_false, ft_272_2, lt_270, lt_286, gi, g1, lp, hlk]
  generalize kget l (key, fr) = o at hr hlk
  generalize o.isSome = ob at hr
  subst hr
  have d2 : decide (room ≤ ((l.length : Nat) : Int)) = true := decide_eq_true hl
  have st : ∀ c : Chg, setC (some 5) (AObj.cells [.int .i64 0, .int .i64 0, .int .i64 0, .int .i64 0, .bool false] 40 none) 0 (chgE c) = some (.cells (chgE c) 40 none) := fun _ => rfl
  refine SWp.drawnS none_ [] (.q 0 (.q 1 (.q 2 (.q 3 (.q 4 (.q 5 (.q 6 (.q 7 (.q 8 (.q 9 (.q 10 (.q 11 (.q 12 (.q 13 .done)))))))))))))) (by kernel_rfl) (by kernel_rfl) (by kernel_rfl) ?_
  simp only [siI_done, siI_q, sqI_some, mOk_none', implies_true, qI_nil, qI_cons, qI_guard, qgI_same, thenQ_some, q_move, q_pick, q_load, q_nilCheck, q_binOp, q_unOp, q_fieldAddr, q_len, wpA_region, wpA_seq, wpA_cond, wpA_ret, condI_true, seqQ_normal, seqQ_ret, endI_mk, goI_out, goI_ops, goI_mk, opsA_nil, opsA_cons, slotAt_zero, slotAt_succ, stepA_assign, stepA_build, stepA_store, thenV_some, thenS_some, pickV_true, nilV_ptr, eval_tmp, eval_const, put_some, put_none, enterF_zero, enterF_succ, aBin_geq, aUn_not, absV_int, absV_bool, cells_agg, one_int, one_bool, all_nil, all_cons, aField_eq, fieldGo_ptr, aLoad_eq, loadGo_one, loadGo_row, aPlace_ptr, dropC_cells, aStore_eq, storeGo_ptr, setC_row, setAll_nil, setAll_cons, aBuild_go, aFill_nil, buildGo_struct, get_set_same, List.getElem?_cons_zero, List.getElem?_cons_succ, Nat.reduceEqDiff, Nat.reduceAdd, Nat.reduceLeDiff, reduceCtorEq, List.map_nil, Option.map_some, Nat.add_zero, Nat.zero_add, Nat.zero_le, List.length_cons, List.length_nil, List.drop_zero, List.drop_succ_cons, List.take_succ_cons, List.take_nil, List.set_cons_zero, List.set_cons_succ, true_and, if_true, if_false, Bool.and_self, Bool.not_false, Nat.le_refl, ft_272_0, ft_272_2, lt_270, lt_3, lt_40, pl_40, zc_40, zt_40, gi, hln, d2, g0, get_set_same, retA_ret, Tryz.results120, resultsC_2, resultA_tmp, resultA_cell, res2_some]
  refine hid_mk ⟨rfl, kH.setNew (Nat.le_refl _) _⟩
set_option maxRecDepth 20000 in
theorem winGetOk (h : AHeap) (i m cl : Nat) (room size key time : Int) (l : Ent) (k : IsWin h i m room size (wE l) cl) (h0 : 0 ≤ time) (h1 : time ≤ 1099511627776) :
    Pure Tryz.prog 117 [.ptr i 0, .int .i64 key, .int .i64 time] h (.tuple [.int .i64 ((kget l (key, frW size time)).getD 0), .bool (kget l (key, frW size time)).isSome]) := by
  refine Pure.val (Clo.tuple (CloL.cons (Clo.int _ _) (CloL.cons (Clo.bool _) CloL.nil))) ?_
  refine SCalls.enterI (c := _) Tryz.func117 rfl (by kernel_rfl) (by simp) ?_
  have gi := k.get
  obtain ⟨f0, f1, f2⟩ := frW_rng h0 k.s1
  have so := startW_ok (size := size) h0 h1
  simp only [wpA_region, wpA_seq, seqQ_normal, goI_out, goI_ops, opsA_nil, opsA_cons, stepA_move, stepA_assign, stepA_call, eval_tmp, eval_const, put_some, enterF_zero, enterF_succ, absV_int, absV_bool, Nat.reduceEqDiff, reduceCtorEq, List.map_cons, List.map_nil, if_true, if_false]
  refine callI_pure cal122 (winStart _ i m cl room size time _ k) ?_
  rw [so]
  have d1 : decide (frW size time < 0) = false := decide_eq_false (by omega)
  have hlk := lookW l key (frW size time) k.map
  simp only [wpA_skip, wpA_region, wpA_seq, wpA_cond, wpA_ret, condI_false, seqQ_normal, endI_mk, goI_out, goI_ops, opsA_nil, opsA_cons, stepA_move, stepA_assign, stepA_build, stepA_load, stepA_nilCheck, stepA_binOp, stepA_fieldAddr, stepA_lookup, stepA_extract, thenV_some, nilV_ptr, extV_zero, extV_succ, eval_tmp, eval_const, put_some, enterF_zero, enterF_succ, aBin_lss, absV_int, cells_int, aField_eq, fieldGo_ptr, aLoad_eq, loadGo_one, aPlace_ptr, dropC_cells, setAll_nil, setAll_cons, aBuild_go, aFill_nil, aFill_cons, fillGo_some, buildGo_struct, List.getElem?_cons_zero, List.getElem?_cons_succ, Nat.reduceEqDiff, Nat.reduceAdd, Nat.reduceLeDiff, reduceCtorEq, List.map_cons, List.map_nil, Option.map_some, Nat.zero_add, List.length_cons, List.length_nil, List.drop_zero, List.drop_succ_cons, List.set_cons_zero, List.set_cons_succ, and_self, if_true, if_false, Nat.le_refl, ft_272_2, lt_270, pl_286, zc_286, d1, gi, hlk, retA_ret, Tryz.results117, resultsA_2]
  exact hid_mk ⟨rfl, Keep.refl _ _⟩
end Go.Proofs.YtedkjhifbibpmaaGreatDoor.Pk
