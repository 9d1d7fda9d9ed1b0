/-
  What functions of the program do, told of abstract states. Conditions: as each theorem says.
-/
import Derived.Test.YtpjfhfmbhjghcaaGreatDoorAgC
namespace Go.Proofs.YtpjfhfmbhjghcaaGreatDoor.Pk
open Go Go.Proofs Go.Proofs.YtpjfhfmbhjghcaaGreatDoor.Ab
set_option linter.unusedVariables false
set_option linter.unusedSimpArgs false
theorem len_put_le {l : List Pr} (hs : Srt l) (k v : Int) : (put l k v).length ≤ l.length + 1 := by rw [len_put hs]; split <;> omega
theorem room_no {l : List Pr} (h : l.length < 1024) (k : Int) : full 1024 l k = false := by
  simp only [full, Bool.and_eq_false_iff, decide_eq_false_iff_not]
  right; omega
theorem rec_eql (a b : Rec) {xo yo : Operand} : aBin Tryz.prog .eql 38 xo yo (.agg [.int .i64 a.k, .int .i64 a.v, .int .i64 a.t]) (.agg [.int .i64 b.k, .int .i64 b.v, .int .i64 b.t]) = some (.bool (decide (a = b))) := by
  have h : eqK [0, 0, 0] (recE a) (recE b) = some (decide (a = b)) := by
    simp only [recE, eqK, if_true, Option.map_some, Option.some.injEq]
    rw [Bool.eq_iff_iff]
    simp only [Bool.and_eq_true, beq_iff_eq, decide_eq_true_eq, Bool.and_true]
    constructor
    · rintro ⟨h1, h2, h3⟩; cases a; cases b; simp_all
    · rintro rfl; simp
  exact aBin_sk_eql sk_38 h
/-- A new store of a vertex that its maker has just laid. -/
theorem agNewL6 (n : Int) (h : AHeap) (hg : KG h) :
    SCalls Tryz.prog 14 [.agg ([.int .i64 6, .snil] ++ encE sumE ++ [.int .i64 n])] h (fun r h' => ∃ a i, r = .tuple [.ptr a 0, .int .i64 0] ∧ h.n ≤ a ∧ h.n ≤ i ∧ IsAg h' a i .snil sumE n [] ∧ Keep h h' none_) :=
  SCalls.args (CastL.cons (castX 6 sumE n h) (CastL.refl _ _)) (agNew6 ⟨6, [], sumE, n⟩ rfl sum_may sum_ok h hg)
theorem ag_own {h h' : AHeap} {i : Nat} {v v' : V} {hb : AHeap} (hk : Keep h h' (kvO i v)) (hi : hb.n ≤ i) (hv : ∀ j, idOf v = some j → hb.n ≤ j) {q : Nat} (hq : q < hb.n) : ¬ kvO i v q := by
  rintro (hh | hh)
  · omega
  · have := hv q hh; omega
set_option maxRecDepth 10000 in
set_option maxHeartbeats 2000000 in
theorem pShown18 (h : AHeap) (hg : KG h) : Pure Tryz.prog 12 [] h (.bool true) := by
  refine Pure.val (Clo.bool _) ?_
  refine SCalls.enterI (c := _) Tryz.func12 rfl (by kernel_rfl) (by simp) ?_
  have l3 : (encE sumE).length = 3 := rfl
  have s1 : setAll [V.int .i64 6, .snil, .int .i64 0, .int .i64 0, .snil, .int .i64 0] 2 (encE sumE) = [V.int .i64 6, .snil] ++ encE sumE ++ [.int .i64 0] := rfl
  simp only [wpA_region, wpA_seq, seqQ_normal, goI_out, goI_ops, opsA_nil, opsA_cons, stepA_assign, stepA_call, eval_const, absV_bool, List.map_nil]
  refine callI_pure cal33 (pSum h) ?_
  simp only [goI_ops, opsA_cons, stepA_build, stepA_call, thenV_some, eval_tmp, eval_const, put_some, absV_int, cells_int, cells_agg, setAll_nil, setAll_cons, aBuild_go, aFill_nil, aFill_cons, fillGo_some, buildGo_struct, List.getElem?_cons_zero, List.getElem?_cons_succ, Nat.reduceEqDiff, Nat.reduceAdd, Nat.reduceLeDiff, reduceCtorEq, List.map_cons, List.map_nil, Option.map_some, Nat.zero_add, List.length_cons, List.length_nil, List.set_cons_zero, List.nil_append, List.cons_append, and_self, if_true, if_false, pl_29, zc_29, l3, s1]
  refine callI_of cal14 (agNewL6 0 h hg) fun r h1 ⟨a, i, e1, ha, hi, s1, k1⟩ => ?_
  subst e1
  simp only [wpA_skip, wpA_region, wpA_seq, wpA_cond, condI_false, seqQ_normal, goI_out, goI_ops, opsA_nil, opsA_cons, opsA_guardS, gvI_same, slotAt_zero, slotAt_succ, stepA_move, stepA_assign, stepA_pick, stepA_build, stepA_binOp, stepA_extract, stepA_call, thenV_some, pickV_false, extV_zero, extV_succ, eval_tmp, eval_const, put_some, aBin_neq, ptr_nil_eql, absV_int, absV_bool, absV_pnil, cells_int, setAll_nil, setAll_cons, aBuild_go, aFill_nil, aFill_cons, fillGo_some, buildGo_struct, List.getElem?_cons_zero, List.getElem?_cons_succ, bne_self_eq_false, Nat.reduceEqDiff, Nat.reduceAdd, Nat.reduceLeDiff, reduceCtorEq, List.map_cons, List.map_nil, Option.map_some, Nat.zero_add, List.length_cons, List.length_nil, List.set_cons_zero, List.set_cons_succ, and_self, if_true, if_false, kt_31, pl_38, zc_38]
  refine callI_of cal16 (agApply6 s1 sum_may (hg.keep k1) ⟨1, 5, 0⟩) fun r h2 ⟨v2, k2, d2, q2⟩ => ?_
  rw [show apO sumE [] ⟨1, 5, 0⟩ = .ok 5 from rfl] at q2
  obtain ⟨c2, e2, s2, oc2, ic1, ic2, ic3⟩ := q2
  subst e2
  have kk2 : Keep h h2 none_ := k1.trans k2 fun q hq hh => by
    rcases hh with hh | hh
    · omega
    · cases hh
  have i2 : ∀ j, idOf v2 = some j → h.n ≤ j := fun j hj => by
    rcases d2 with d2 | d2
    · rw [d2] at hj; cases hj
    · exact Nat.le_trans k1.n (d2 j hj)
  obtain ⟨H3, hH3⟩ : ∃ y, y = h2.push (.cells [.int .i64 1, .int .i64 5, .int .i64 0] 38 none) := ⟨_, rfl⟩
  have k3 : Keep h2 H3 none_ := by rw [hH3]; exact Keep.push _ _ _
  have g3 : H3.get h2.n = .cells [.int .i64 1, .int .i64 5, .int .i64 0] 38 none := by rw [hH3]; exact get_push_new
  have n3 : H3.n = h2.n + 1 := by rw [hH3]; rfl
  have s3 := s2.keepN k3
  simp only [wpA_region, wpA_seq, seqQ_normal, goI_out, goI_ops, opsA_nil, opsA_cons, stepA_move, stepA_assign, stepA_alloc, stepA_build, stepA_store, stepA_extract, stepA_call, thenV_some, thenH_some, thenS_some, extV_zero, extV_succ, eval_tmp, eval_const, put_some, put_none, absV_int, cells_int, cells_agg, one_int, all_nil, all_cons, aStore_eq, storeGo_ptr, setC_row, setAll_nil, setAll_cons, aAlloc_eq, aBuild_go, aFill_nil, aFill_cons, fillGo_some, buildGo_struct, get_push_new, set_push, List.getElem?_cons_zero, List.getElem?_cons_succ, Nat.reduceEqDiff, Nat.reduceAdd, Nat.reduceLeDiff, reduceCtorEq, List.map_cons, List.map_nil, Option.map_some, Nat.zero_add, List.length_cons, List.length_nil, List.set_cons_zero, List.set_cons_succ, and_self, if_true, if_false, Bool.and_self, Nat.le_refl, pl_38, zc_38, zt_38]
  rw [← hH3]
  clear hH3
  refine callI_of cal16 (agApply6 s3 sum_may ((hg.keep kk2).keep k3) ⟨1, 6, 3⟩) fun r h4 ⟨v4, k4, d4, q4⟩ => ?_
  rw [show apO sumE (put [] 1 5) ⟨1, 6, 3⟩ = .ok 11 from rfl] at q4
  obtain ⟨c4, e4, s4, oc4, jc1, jc2, jc3⟩ := q4
  subst e4
  have kv2 := s2.kv.own.lt
  have i2n := s2.kv.lt
  have kk4 : Keep h h4 none_ := (kk2.trans' k3).trans k4 fun q hq hh => by
    rcases hh with hh | hh
    · omega
    · have := i2 q hh; omega
  have i4 : ∀ j, idOf v4 = some j → h.n ≤ j := fun j hj => by
    rcases d4 with d4 | d4
    · rw [d4] at hj; exact i2 j hj
    · have := d4 j hj; have := kk2.n; omega
  have g4 := (k4.get h2.n (by omega) (by
    rintro (hh | hh)
    · omega
    · have := kv2 _ hh; omega)).trans g3
  obtain ⟨H5, hH5⟩ : ∃ y, y = h4.push (.cells [.int .i64 1, .int .i64 11, .int .i64 3] 38 none) := ⟨_, rfl⟩
  have k5 : Keep h4 H5 none_ := by rw [hH5]; exact Keep.push _ _ _
  have g5 : H5.get h4.n = .cells [.int .i64 1, .int .i64 11, .int .i64 3] 38 none := by rw [hH5]; exact get_push_new
  have n4 := k4.n
  have n5 : H5.n = h4.n + 1 := by rw [hH5]; rfl
  have g54 := (k5.get h2.n (by omega) (by simp [none_])).trans g4
  have s5 := s4.keepN k5
  simp only [wpA_region, wpA_seq, seqQ_normal, goI_out, goI_ops, opsA_nil, opsA_cons, opsA_guardS, gvI_same, slotAt_zero, slotAt_succ, stepA_move, stepA_assign, stepA_pick, stepA_alloc, stepA_load, stepA_store, stepA_binOp, stepA_fieldAddr, stepA_extract, thenV_some, thenH_some, thenS_some, pickV_true, extV_zero, extV_succ, eval_tmp, eval_const, put_some, put_none, aBin_eql, absV_int, absV_bool, cells_agg, one_int, all_nil, all_cons, aField_eq, fieldGo_ptr, aLoad_eq, aPlace_ptr, aStore_eq, storeGo_ptr, setC_row, setAll_nil, setAll_cons, aAlloc_eq, get_push_new, set_push, beq_self_eq_true, Nat.reduceEqDiff, Nat.reduceAdd, reduceCtorEq, Option.map_some, Nat.zero_add, List.length_cons, List.length_nil, List.set_cons_zero, List.set_cons_succ, if_true, if_false, Bool.and_self, Nat.le_refl, ft_38_1, lt_2, zc_38, zt_38]
  rw [← hH5]
  clear hH5
  have lit : ∀ H : AHeap, aBuildSlice Tryz.prog 35 1 [(0, .agg [.int .i64 1, .int .i64 0, .int .i64 0, .int .i64 11, .bool false])] H = some (.sl H.n 0 1 1, H.push (.cells (chgE ⟨1, 0, 0, 11, false⟩) 40 none)) := fun H => lit1c H ⟨1, 0, 0, 11, false⟩
  have req : ∀ xo yo, aBin Tryz.prog .eql 38 xo yo (.agg [.int .i64 1, .int .i64 11, .int .i64 3]) (.agg [.int .i64 1, .int .i64 11, .int .i64 3]) = some (.bool true) := fun xo yo => by
    have := rec_eql ⟨1, 11, 3⟩ ⟨1, 11, 3⟩ (xo := xo) (yo := yo); simpa using this
  simp only [goI_ops, opsA_cons, opsA_guardS, gvI_same, slotAt_zero, slotAt_succ, stepA_move, stepA_pick, stepA_build, stepA_buildSlice, stepA_load, stepA_binOp, stepA_call, thenV_some, thenH_some, pickV_true, eval_tmp, eval_const, put_some, put_none, aBin_eql, absV_int, absV_bool, cells_int, aLoad_eq, loadGo_one, loadGo_row, aPlace_ptr, dropC_cells, setAll_nil, setAll_cons, aBuild_go, aFill_nil, aFill_cons, fillGo_some, buildGo_struct, List.getElem?_cons_zero, List.getElem?_cons_succ, beq_self_eq_true, Nat.reduceEqDiff, Nat.reduceAdd, Nat.reduceLeDiff, reduceCtorEq, List.map_cons, List.map_nil, Option.map_some, Nat.zero_add, Nat.zero_le, List.length_cons, List.length_nil, List.drop_zero, List.drop_succ_cons, List.take_succ_cons, List.take_nil, List.set_cons_zero, List.set_cons_succ, and_self, if_true, if_false, Nat.le_refl, lt_38, pl_38, pl_40, zc_38, zc_40, g54, g5, lit, req]
  obtain ⟨H6, hH6⟩ : ∃ y, y = H5.push (.cells (chgE ⟨1, 0, 0, 11, false⟩) 40 none) := ⟨_, rfl⟩
  have k6 : Keep H5 H6 none_ := by rw [hH6]; exact Keep.push _ _ _
  have oL : Own H6 40 5 (.sl H5.n 0 1 1) (chgE ⟨1, 0, 0, 11, false⟩) := by rw [hH6]; exact Own.fresh' _ 1 rfl (by decide)
  have n6 : H6.n = H5.n + 1 := by rw [hH6]; rfl
  rw [← hH6]
  clear hH6
  have o6 := (oc4.keepN k5).keepN k6
  obtain ⟨hA, cA, kA⟩ := Cast.own o6 (n := 1) rfl (by decide)
  have c4lt : c4 < h4.n := oc4.lt c4 rfl
  have oL' := oL.keep kA fun j hj hh => by cases hj; simp [isId, idOf] at hh; omega
  obtain ⟨hB, cB, kB⟩ := Cast.own oL' (n := 1) rfl (by decide)
  refine callI_of cal18 (SCalls.args (CastL.cons cA (CastL.cons cB (CastL.refl [] hB))) (pChgsEq [⟨1, 0, 0, 11, false⟩] [⟨1, 0, 0, 11, false⟩] hB (by decide))) fun r h7 ⟨e7, e7'⟩ => ?_
  subst e7 e7'
  have sA : IsAg hA a i v4 sumE 0 (put (put [] 1 5) 1 11) := (s5.keepN k6).keep kA (by simp [isId, idOf]; have := s3.lt; have := k3.n; omega) (by simp [isId, idOf]; omega) fun j hj hh => by
    simp [isId, idOf] at hh; subst hh; exact jc3 hj
  have sB := sA.keep kB (by simp [isId, idOf]; have := s4.lt; omega) (by simp [isId, idOf]; have := s4.kv.lt; omega) fun j hj hh => by
    simp [isId, idOf] at hh; have := s4.kv.own.lt j hj; omega
  simp only [goI_ops, opsA_cons, opsA_guardS, gvI_same, slotAt_zero, slotAt_succ, stepA_move, stepA_pick, stepA_call, thenV_some, pickV_true, eval_tmp, eval_const, put_some, put_none, absV_int, absV_bool, decide_true, Nat.reduceEqDiff, reduceCtorEq, List.map_cons, List.map_nil, if_true, if_false, decide_true]
  refine callI_pure cal21 (agValue6 sB 1) ?_
  simp only [wpA_ret, seqQ_normal, endI_mk, goI_out, goI_ops, opsA_nil, opsA_cons, opsA_guardS, gvI_same, slotAt_zero, slotAt_succ, stepA_assign, stepA_pick, stepA_binOp, thenV_some, pickV_true, eval_tmp, eval_const, put_some, put_none, aBin_eql, absV_int, absV_bool, beq_self_eq_true, Nat.reduceEqDiff, reduceCtorEq, if_true, if_false, show (look (put (put [] 1 5) 1 11) 1).getD 0 = 11 from rfl, retA_ret, Tryz.results12, resultsA_1]
  exact hid_mk ⟨rfl, (((kk4.trans' k5).trans' k6).trans kA fun q hq hh => by simp [isId, idOf] at hh; omega).trans kB fun q hq hh => by simp [isId, idOf] at hh; omega⟩
end Go.Proofs.YtpjfhfmbhjghcaaGreatDoor.Pk
