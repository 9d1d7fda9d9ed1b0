/-
  What functions of the program do, told of abstract states. Conditions: as each theorem says.
-/
import Derived.Test.YtihgdbelfjdajaaWiE
namespace Go.Proofs.Ytihgdbelfjdajaa.Pk
open Go Go.Proofs Go.Proofs.Ytihgdbelfjdajaa.Ab
set_option linter.unusedVariables false
set_option linter.unusedSimpArgs false
theorem chg_eql (a b : Chg) {xo yo : Operand} : aBin Try.prog .eql 30 xo yo (.agg (chgE a)) (.agg (chgE b)) = some (.bool (decide (a = b))) := by
  have h : eqK [0, 0, 0, 0, 1] (chgE a) (chgE b) = some (decide (a = b)) := by
    simp only [chgE, eqK, if_true, Option.map_some, Option.some.injEq]
    rw [Bool.eq_iff_iff]
    simp only [Bool.and_eq_true, beq_iff_eq, decide_eq_true_eq, Bool.and_true]
    constructor
    · rintro ⟨h1, h2, h3, h4, h5⟩; cases a; cases b; simp_all
    · rintro rfl; simp
  exact aBin_sk_eql sk_30 h
set_option maxHeartbeats 2000000 in
set_option maxRecDepth 20000 in
theorem shown13 (h : AHeap) : SCalls Try.prog 6 [] h (fun r h' => r = .bool true ∧ Keep h h' none_) := by
  refine SCalls.enterI (c := _) Try.func6 rfl (by kernel_rfl) (by simp) ?_
  simp only [wpA_region, wpA_seq, seqQ_normal, goI_out, goI_ops, opsA_nil, opsA_cons, stepA_assign, stepA_call, eval_const, absV_int, absV_bool, List.map_cons, List.map_nil]
  refine callI_of cal7 (winNew h 9 10 (by decide) (by decide) (by decide) (by decide)) fun r h1 ⟨e1, k1, p1⟩ => ?_
  subst e1
  have n1 := k1.lt
  simp only [wpA_skip, wpA_region, wpA_seq, wpA_cond, condI_false, seqQ_normal, goI_out, goI_ops, opsA_nil, opsA_cons, opsA_guardS, gvI_same, slotAt_zero, slotAt_succ, stepA_move, stepA_assign, stepA_pick, stepA_binOp, stepA_extract, stepA_call, thenV_some, pickV_false, extV_zero, extV_succ, eval_tmp, eval_const, put_some, aBin_neq, ptr_nil_eql, absV_int, absV_bool, absV_pnil, bne_self_eq_false, Nat.reduceEqDiff, reduceCtorEq, List.map_cons, List.map_nil, if_true, if_false, kt_25]
  refine callI_of cal10 (winPut0 h1 (h.n + 1) h.n 0 9 10 1 25 7 k1 (by decide) (by decide) (by decide)) fun r h2 ⟨e2, k2, p2⟩ => ?_
  rw [show frW 10 25 = 20 from rfl] at e2 k2
  subst e2
  have cc : ∀ c : Chg, (V.agg (chgE c)).cells = some (chgE c) := fun _ => rfl
  have st : ∀ c : Chg, setC (some 5) (AObj.cells [.int .i64 0, .int .i64 0, .int .i64 0, .int .i64 0, .bool false] 30 none) 0 (chgE c) = some (.cells (chgE c) 30 none) := fun _ => rfl
  simp only [wpA_region, wpA_seq, seqQ_normal, goI_out, goI_ops, opsA_nil, opsA_cons, stepA_move, stepA_assign, stepA_alloc, stepA_store, stepA_extract, stepA_call, thenV_some, thenH_some, thenS_some, extV_zero, extV_succ, eval_tmp, eval_const, put_some, put_none, absV_int, aStore_eq, storeGo_ptr, aAlloc_eq, get_push_new, set_push, Nat.reduceEqDiff, reduceCtorEq, List.map_cons, List.map_nil, Option.map_some, if_true, if_false, zc_30, zt_30, cc, st]
  have kP : Keep h2 (h2.push (.cells (chgE ⟨1, 20, 20 + 10, 7, false⟩) 30 none)) none_ := Keep.push _ _ _
  have gP : (h2.push (.cells (chgE ⟨1, 20, 20 + 10, 7, false⟩) 30 none)).get h2.n = .cells (chgE ⟨1, 20, 20 + 10, 7, false⟩) 30 none := get_push_new
  have nP : (h2.push (.cells (chgE ⟨1, 20, 20 + 10, 7, false⟩) 30 none)).n = h2.n + 1 := rfl
  generalize h2.push (.cells (chgE ⟨1, 20, 20 + 10, 7, false⟩) 30 none) = H at kP gP nP ⊢
  have k3 := k2.keepN kP
  refine callI_pure cal13 (winGet1 H (h.n + 1) h.n 1 0 9 10 1 29 1 20 7 k3 (by decide) (by decide)) ?_
  rw [show frW 10 29 = 20 from rfl]
  simp only [wpA_region, wpA_seq, seqQ_normal, goI_out, goI_ops, opsA_nil, opsA_cons, stepA_move, stepA_assign, stepA_extract, stepA_call, thenV_some, extV_zero, extV_succ, eval_tmp, eval_const, put_some, put_none, absV_int, decide_true, Nat.reduceEqDiff, reduceCtorEq, List.map_cons, List.map_nil, and_self, if_true, if_false]
  refine callI_of cal8 (winExpNo H (h.n + 1) h.n 1 0 9 10 29 1 20 7 k3 (by decide) (by decide) (by decide) (by decide)) fun r h4 ⟨e4, p4⟩ => ?_
  subst e4
  have k4 := k3.keepN p4
  have g4 := (p4.get h2.n (by omega) (by simp [none_])).trans gP
  simp only [wpA_region, wpA_seq, seqQ_normal, goI_out, goI_ops, opsA_nil, opsA_cons, stepA_move, stepA_assign, stepA_call, eval_tmp, eval_const, put_some, put_none, absV_int, Nat.reduceEqDiff, reduceCtorEq, List.map_cons, List.map_nil, if_true, if_false]
  refine callI_of cal8 (winExpYes h4 (h.n + 1) h.n 1 0 9 10 30 1 20 7 k4 (by decide) (by decide) (by decide) (by decide)) fun r h5 ⟨p5, k5, o5, nw5⟩ => ?_
  have n4 := p4.n
  have n2 := p2.n
  have g5 := (p5.get h2.n (by omega) (by omega)).trans g4
  have clc : ∀ c : Chg, (if 5 ≤ (chgE c).length then some (V.agg (List.take 5 (chgE c))) else none) = some (.agg (chgE c)) := fun _ => rfl
  have ceq : ∀ a b : Chg, ∀ xo yo, aBin Try.prog .eql 30 xo yo (.agg (chgE a)) (.agg (chgE b)) = some (.bool (decide (a = b))) := fun a b xo yo => chg_eql a b
  have ceq1 : ∀ xo yo, aBin Try.prog .eql 30 xo yo (.agg (chgE ⟨1, 20, 20 + 10, 7, false⟩)) (.agg [.int .i64 1, .int .i64 20, .int .i64 30, .int .i64 7, .bool false]) = some (.bool true) := fun xo yo => chg_eql ⟨1, 20, 20 + 10, 7, false⟩ ⟨1, 20, 30, 7, false⟩
  have hlit : aBuildSlice Try.prog 33 1 [(0, .agg [.int .i64 1, .int .i64 20, .int .i64 30, .int .i64 0, .bool true])] h5 = some (.sl h5.n 0 1 1, h5.push (.cells (chgE ⟨1, 20, 30, 0, true⟩) 30 none)) := lit1c h5 ⟨1, 20, 30, 0, true⟩
  simp only [wpA_region, wpA_seq, seqQ_normal, goI_out, goI_ops, opsA_nil, opsA_cons, opsA_guardS, gvI_same, slotAt_zero, slotAt_succ, stepA_move, stepA_assign, stepA_pick, stepA_build, stepA_buildSlice, stepA_load, stepA_binOp, stepA_len, stepA_call, thenV_some, thenH_some, pickV_true, eval_tmp, eval_const, put_some, put_none, aBin_eql, absV_int, absV_bool, cells_int, cells_bool, aLoad_eq, loadGo_row, aPlace_ptr, dropC_cells, setAll_nil, setAll_cons, aLen_snil, aBuild_go, aFill_nil, aFill_cons, fillGo_some, buildGo_struct, List.getElem?_cons_zero, List.getElem?_cons_succ, beq_self_eq_true, Nat.reduceEqDiff, Nat.reduceAdd, Nat.reduceLeDiff, reduceCtorEq, List.map_cons, List.map_nil, Option.map_some, Nat.zero_add, Nat.zero_le, List.length_cons, List.length_nil, List.drop_zero, List.set_cons_zero, List.set_cons_succ, and_self, if_true, if_false, Nat.le_refl, kt_33, lt_30, pl_30, zc_30, g5, clc, ceq1, hlit]
  have oL : Own (h5.push (.cells (chgE ⟨1, 20, 30, 0, true⟩) 30 none)) 30 5 (.sl h5.n 0 1 1) (chgE ⟨1, 20, 30, 0, true⟩) := Own.fresh' (chgE ⟨1, 20, 30, 0, true⟩) 1 rfl (by decide)
  have oR : Own (h5.push (.cells (chgE ⟨1, 20, 30, 0, true⟩) 30 none)) 30 5 r (chgE ⟨1, 20, 20 + 10, 0, true⟩) := o5.keepN (Keep.push _ _ _)
  have n5 := p5.n
  obtain ⟨h6, cL, kL⟩ := cast_own2 (n := 1) (m := 1) oR oL (fun q hq hh => by
    have := o5.lt q hq
    simp only [idOf, Option.some.injEq] at hh
    omega) rfl rfl (by decide) (by decide)
  refine callI_of cal11 (SCalls.args cL (pChgsEq [⟨1, 20, 20 + 10, 0, true⟩] [⟨1, 20, 30, 0, true⟩] h6 (by decide))) fun r7 h7 ⟨e7, k7⟩ => ?_
  have e7' : r7 = .bool true := e7
  subst e7'
  simp only [wpA_ret, seqQ_normal, endI_mk, goI_out, goI_ops, opsA_nil, opsA_cons, stepA_assign, stepA_pick, thenV_some, pickV_true, eval_tmp, eval_const, put_some, put_none, absV_bool, Nat.reduceEqDiff, reduceCtorEq, if_true, if_false, retA_ret, Try.results6, resultsA_1]
  refine hid_mk ⟨rfl, ?_⟩
  have K2 : Keep h h2 none_ := p1.trans p2 fun q hq e => by omega
  have K4 : Keep h h4 none_ := (K2.trans' kP).trans' p4
  have K5 : Keep h h5 none_ := K4.trans p5 fun q hq e => by omega
  have K6 : Keep h h6 none_ := (K5.then_push _).trans kL fun q hq e => by
    rcases e with e | e
    · have := nw5 q e; have := p1.n; omega
    · simp only [isId, idOf, Option.some.injEq] at e; have := K5.n; omega
  rw [k7]
  exact K6
end Go.Proofs.Ytihgdbelfjdajaa.Pk
