/-
  What functions of the program do, told of abstract states. Conditions: as each theorem says.
-/
import Derived.Test.YtcdpepdjeneelaaDoorVsF
namespace Go.Proofs.YtcdpepdjeneelaaDoor.Pk
open Go Go.Proofs Go.Proofs.YtcdpepdjeneelaaDoor.Ab Go.Proofs.Vw
set_option linter.unusedVariables false
set_option linter.unusedSimpArgs false
def putB (logs : Int → List LR) (l : List (Ent × Nat)) : Int → List LR := l.foldl (fun g p => addS g p.1) logs
def stepL (logs : Int → List LR) (j : Jb) (x : Ent) : Int → List LR := if x.epoch ≠ j.ep ∨ x.txn ≠ j.tx then logs else if x.kind = 3 then putB logs j.opn else logs
def stepB (j : Jb) (x : Ent) (at_ : Nat) : Jb :=
  if x.epoch ≠ j.ep ∨ x.txn ≠ j.tx then j
  else if x.kind = 2 then { j with opn := j.opn ++ [(x, at_)] }
  else if x.kind = 3 then ⟨j.ep, j.tx + 1, x.offs, j.ord ++ x.order, []⟩
  else { j with tx := j.tx + 1, opn := [] }
set_option maxHeartbeats 2000000 in
set_option maxRecDepth 10000 in
theorem pStep {h0 h : AHeap} {lm tm lc tc : Nat} {logs : Int → List LR} {tasks : Int → Option Jb} {L T : PM} {ow : Ow} (x : Ent) (at_ : Nat) (w : VS h0 h lm tm logs tasks L lc T tc ow) {t : Int} {b : Nat} {j : Jb} (hb : kget T t = some b) (hj : tasks t = some j) (hop : j.opn.length ≤ 2 ^ 30) (htx : -2 ^ 62 ≤ j.tx ∧ j.tx < 2 ^ 62) (hk : 2 ≤ x.kind ∧ x.kind ≤ 4) (hk3' : x.kind = 3 → x.epoch ≠ j.ep ∨ x.txn ≠ j.tx) :
    SCalls Tryd.prog 40 [.agg [.map lm, .map tm], .ptr b 0, .agg (entE x), .int .i64 (at_ : Nat)] h (fun r h' => r = .tuple [] ∧ ∃ L' lc' ow', VS h0 h' lm tm (stepL logs j x) (fun n => if n = t then some (stepB j x at_) else tasks n) L' lc' T tc ow' ∧ Keep h h' (fun q => q = lm ∨ ∃ tg, ow q = some tg) ∧ (∀ q tg, ow' q = some tg → ow q = some tg ∨ h.n ≤ q)) := by
  refine SCalls.enterI (c := _) Tryd.func40 rfl (by kernel_rfl) (by simp) ?_
  obtain ⟨H0, hH0⟩ : ∃ y, y = h.push (.cells [.map lm, .map tm] 58 none) := ⟨_, rfl⟩
  have kH0 : Keep h H0 none_ := by rw [hH0]; exact Keep.push _ _ _
  have nH0 : H0.n = h.n + 1 := by rw [hH0]; rfl
  obtain ⟨H, hH⟩ : ∃ y, y = H0.push (.cells (entE x) 47 none) := ⟨_, rfl⟩
  have kH1 : Keep H0 H none_ := by rw [hH]; exact Keep.push _ _ _
  have kH := kH0.trans' kH1
  have gE : H.get (h.n + 1) = .cells (entE x) 47 none := by rw [← nH0, hH]; exact get_push_new
  have nH : H.n = h.n + 2 := by rw [hH, push_n]; omega
  have wH := w.on kH
  have hc : (V.agg [.map lm, .map tm]).cells = some [.map lm, .map tm] := rfl
  have hce : (V.agg (entE x)).cells = some (entE x) := rfl
  obtain ⟨j2, h1, fv, ov, pv, g, hf, o1, o2, t0, t1, t2⟩ := wH.job t b hb
  rw [hj] at h1
  injection h1 with h1
  subst h1
  simp only [wpA_region, wpA_seq, wpA_draw, seqQ_normal, goI_out, goI_ops, opsA_nil, opsA_cons, stepA_box, thenH_some, eval_tmp, put_some, enterF_zero, enterF_succ, aBox_eq, push_n, Nat.reduceEqDiff, Option.map_some, if_false, hc, hce]
  rw [← hH0, ← hH]
  clear hH0 hH
  refine SWp.drawnS none_ [] (.q 0 (.q 1 (.q 2 (.q 3 (.q 4 (.q 5 (.q 6 (.q 7 (.q 8 (.q 9 (.q 10 (.q 11 (.q 12 (.q 13 (.q 14 (.q 15 (.q 16 (.q 17 .done)))))))))))))))))) (by kernel_rfl) (by kernel_rfl) (by kernel_rfl) ?_
  by_cases he : x.epoch = j.ep
  rotate_left
  · have c1 : (x.epoch != j.ep) = true := by simpa using he
    have e1 : stepL logs j x = logs := by unfold stepL; rw [if_pos (.inl he)]
    have e2 : stepB j x at_ = j := by unfold stepB; rw [if_pos (.inl he)]
    have e3 : (fun n => if n = t then some j else tasks n) = tasks := by funext n; split; rename_i hh; rw [hh, hj]; rfl
    simp only [siI_done, siI_q, sqI_some, mOk_none', implies_true, qI_nil, qI_cons, qI_guard, qgI_tf, thenQ_some, q_move, q_pick, q_load, q_nilCheck, q_binOp, q_fieldAddr, wpA_cond, wpA_ret, condI_true, seqQ_normal, seqQ_ret, endI_mk, goI_out, goI_mk, slotAt_zero, slotAt_succ, pickV_true, nilV_ptr, eval_tmp, eval_const, put_some, enterF_zero, enterF_succ, aBin_neq, absV_bool, aField_eq, fieldGo_ptr, aLoad_eq, loadGo_one, aPlace_ptr, dropC_cells, List.getElem?_cons_zero, List.getElem?_cons_succ, Nat.reduceEqDiff, Nat.reduceAdd, Nat.reduceLeDiff, Nat.add_zero, Nat.zero_add, List.length_cons, List.length_nil, List.drop_zero, List.drop_succ_cons, true_and, if_true, if_false, ft_41_1, ft_47_2, ft_71_0, lt_3, gE, g, entE, c1, retA_ret, Tryd.results40, resultsA_0]
    exact hid_mk ⟨rfl, L, lc, ow, by rw [e1, e2, e3]; exact wH, kH.up, fun _ _ hh => .inl hh⟩
  have c1 : (x.epoch != j.ep) = false := by simpa using he
  by_cases hx : x.txn = j.tx
  rotate_left
  · have c2 : (x.txn != j.tx) = true := by simpa using hx
    have e1 : stepL logs j x = logs := by unfold stepL; rw [if_pos (.inr hx)]
    have e2 : stepB j x at_ = j := by unfold stepB; rw [if_pos (.inr hx)]
    have e3 : (fun n => if n = t then some j else tasks n) = tasks := by funext n; split; rename_i hh; rw [hh, hj]; rfl
    simp only [siI_done, siI_q, sqI_some, mOk_none', implies_true, qI_nil, qI_cons, qI_guard, qgI_same, thenQ_some, q_move, q_pick, q_load, q_nilCheck, q_binOp, q_fieldAddr, wpA_cond, wpA_ret, condI_true, seqQ_normal, seqQ_ret, endI_mk, goI_out, goI_mk, slotAt_zero, slotAt_succ, pickV_false, nilV_ptr, eval_tmp, eval_const, put_some, enterF_zero, enterF_succ, aBin_neq, absV_bool, aField_eq, fieldGo_ptr, aLoad_eq, loadGo_one, aPlace_ptr, dropC_cells, List.getElem?_cons_zero, List.getElem?_cons_succ, Nat.reduceEqDiff, Nat.reduceAdd, Nat.reduceLeDiff, Nat.add_zero, Nat.zero_add, List.length_cons, List.length_nil, List.drop_zero, List.drop_succ_cons, true_and, if_true, if_false, ft_41_1, ft_41_2, ft_47_2, ft_47_3, ft_71_0, lt_3, gE, g, entE, c1, c2, retA_ret, Tryd.results40, resultsA_0]
    exact hid_mk ⟨rfl, L, lc, ow, by rw [e1, e2, e3]; exact wH, kH.up, fun _ _ hh => .inl hh⟩
  have c2 : (x.txn != j.tx) = false := by simpa using hx
  have hno : ¬ (x.epoch ≠ j.ep ∨ x.txn ≠ j.tx) := by omega
  have hk3 : x.kind ≠ 3 := fun hh => hno (hk3' hh)
  by_cases h2 : x.kind = 2
  · have c3 : (x.kind == 2) = true := by simpa using h2
    have e1 : stepL logs j x = logs := by unfold stepL; rw [if_neg hno, if_neg hk3]
    have e2 : stepB j x at_ = { j with opn := j.opn ++ [(x, at_)] } := by unfold stepB; rw [if_neg hno, if_pos h2]
    obtain ⟨pv', h2, ow', ea, g2, one, cell, k2i, kF, hinc, hold, ja⟩ := addOpen x at_ hop g hf o1 o2 t0 t1 t2 (fun q tg hq => (wH.old q tg hq).2)
    have hfr : ∀ q, h.n ≤ q → ∀ tg, ow q ≠ some tg := fun q hq tg hh => by have := (w.old _ _ hh).2; omega
    have f1 : isId pv b = False := eq_false fun hh => by have := t2 b hh; rw [t0] at this; simp at this
    have f2 : isId pv (h.n + 1) = False := eq_false fun hh => hfr (h.n + 1) (by omega) _ (t2 _ hh)
    have lP : aBuildSlice Tryd.prog 69 1 [(0, .agg [.int .i64 x.kind, .int .i64 x.task, .int .i64 x.epoch, .int .i64 x.txn, .int .i64 x.log, .int .i64 x.r.k, .int .i64 x.r.v, .int .i64 x.r.t, .bool x.del, .imm x.offs.length (i64V x.offs), .imm x.order.length (i64V x.order), .int .i64 (at_ : Nat)])] H = some (.sl H.n 0 1 1, H.push (.cells (pndE (x, at_)) 73 none)) := litP1 H x at_
    have st : setC (some 1) (AObj.cells [V.int .i64 t, .int .i64 j.ep, .int .i64 j.tx, fv, ov, .int .i64 0, pv] 71 none) 6 [pv'] = some (.cells [.int .i64 t, .int .i64 j.ep, .int .i64 j.tx, fv, ov, .int .i64 0, pv'] 71 none) := by rw [setC_one one]; rfl
    have kp : Keep H (H.push (.cells (pndE (x, at_)) 73 none)) (fun q => isId pv q) := Keep.push _ _ _
    simp only [siI_done, siI_q, sqI_some, mOk_none', implies_true, qI_nil, qI_cons, qI_guard, qgI_same, thenQ_some, q_move, q_pick, q_load, q_nilCheck, q_binOp, q_fieldAddr, wpA_skip, wpA_region, wpA_seq, wpA_cond, wpA_draw, condI_true, condI_false, seqQ_normal, goI_out, goI_ops, goI_mk, opsA_nil, opsA_cons, slotAt_zero, slotAt_succ, stepA_load, stepA_binOp, stepA_fieldAddr, thenV_some, pickV_false, nilV_ptr, eval_tmp, eval_const, put_some, enterF_zero, enterF_succ, aBin_eql, aBin_neq, absV_int, absV_bool, aField_eq, fieldGo_ptr, aLoad_eq, loadGo_one, aPlace_ptr, dropC_cells, List.getElem?_cons_zero, List.getElem?_cons_succ, Nat.reduceEqDiff, Nat.reduceAdd, Nat.reduceLeDiff, Nat.add_zero, Nat.zero_add, Nat.zero_le, List.length_cons, List.length_nil, List.drop_zero, List.drop_succ_cons, true_and, if_true, if_false, ft_41_1, ft_41_2, ft_47_0, ft_47_2, ft_47_3, ft_71_0, lt_3, gE, g, entE, c1, c2, c3]
    refine SWp.drawnS (fun q => isId pv q) [8, 9, 12] (.q 0 (.q 1 (.q 2 (.q 3 (.q 4 (.q 5 (.q 6 (.q 7 (.e 8 (.e 9 (.q 10 (.q 11 (.a 12 .done))) .stop) .stop))))))))) (by kernel_rfl) (by kernel_rfl) (by kernel_rfl) ?_
    simp only [mOk_move, mOk_build, mOk_nilCheck, mOk_fieldAddr, mOk_load, mOkV_ptr, nne2, nne3, nne4, nne1', nne2', nne3', not_false_eq_true, siI_done, siI_stop, siI_q, siI_a, siI_e, sqI_some, saI_some, seI_some, implies_true, qI_nil, qI_cons, thenQ_some, q_move, q_load, q_build, q_nilCheck, q_fieldAddr, wpA_ret, seqQ_normal, seqQ_ret, endI_mk, goI_out, goI_ops, goI_mk, opsA_nil, opsA_cons, stepA_buildSlice, stepA_store, stepA_append, thenH_some, thenS_some, nilV_ptr, eval_tmp, put_some, enterF_zero, enterF_succ, cells_int, cells_agg, aField_eq, fieldGo_ptr, aLoad_eq, loadGo_one, loadGo_row, aPlace_ptr, dropC_cells, aStore_eq, storeGo_ptr, setAll_nil, setAll_cons, aBuild_go, aFill_nil, aFill_cons, fillGo_some, buildGo_struct, List.getElem?_cons_zero, List.getElem?_cons_succ, Bool.false_eq_true, Nat.reduceEqDiff, Nat.reduceAdd, Nat.reduceLeDiff, List.map_cons, List.map_nil, Option.map_some, Nat.zero_add, Nat.zero_le, List.length_cons, List.length_nil, List.drop_zero, List.drop_succ_cons, List.take_succ_cons, List.take_nil, List.set_cons_zero, List.set_cons_succ, and_true, true_and, and_self, if_true, if_false, Nat.le_refl, ft_71_1, lt_47, lt_69, pl_73, zc_73, zt_69, gE, g, entE, lP, ea, g2, st, cell, f1, f2, kp, k2i, retA_ret, Tryd.results40, resultsA_0]
    exact hid_mk ⟨rfl, L, lc, ow', by rw [e1, e2]; exact wH.setJob hb kF (fun q hh => hh) hinc hold ja, (kH.up).trans kF fun q hq ⟨i, hh⟩ => .inr ⟨_, hh⟩, fun q tg hq => (hold q tg hq).imp id fun hh => by omega⟩
  · have c3 : (x.kind == 2) = false := by simpa using h2
    have c4 : (x.kind == 3) = false := by simpa using hk3
    have e1 : stepL logs j x = logs := by unfold stepL; rw [if_neg hno, if_neg hk3]
    have e2 : stepB j x at_ = { j with tx := j.tx + 1, opn := [] } := by unfold stepB; rw [if_neg hno, if_neg h2, if_neg hk3]
    have w1 : IntKind.i64.wrap (j.tx + 1) = j.tx + 1 := Go.IntWalk.i64_in _ (by omega)
    simp only [siI_done, siI_q, sqI_some, mOk_none', implies_true, qI_nil, qI_cons, qI_guard, qgI_same, thenQ_some, q_move, q_pick, q_load, q_nilCheck, q_binOp, q_fieldAddr, wpA_skip, wpA_region, wpA_seq, wpA_cond, condI_false, seqQ_normal, endI_mk, goI_out, goI_ops, goI_mk, opsA_nil, opsA_cons, slotAt_zero, slotAt_succ, stepA_move, stepA_load, stepA_store, stepA_nilCheck, stepA_binOp, stepA_fieldAddr, thenV_some, thenS_some, pickV_false, nilV_ptr, eval_tmp, eval_const, put_some, put_none, enterF_zero, enterF_succ, aBin_add, aBin_eql, aBin_neq, absV_int, absV_bool, absV_snil, cells_int, cells_snil, one_int, one_snil, all_nil, all_cons, aField_eq, fieldGo_ptr, aLoad_eq, loadGo_one, aPlace_ptr, dropC_cells, aStore_eq, storeGo_ptr, setC_row, setAll_nil, setAll_cons, get_set_same, set_set, List.getElem?_cons_zero, List.getElem?_cons_succ, Nat.reduceEqDiff, Nat.reduceAdd, Nat.reduceLeDiff, Option.map_some, Nat.add_zero, Nat.zero_add, Nat.zero_le, List.length_cons, List.length_nil, List.drop_zero, List.drop_succ_cons, List.set_cons_zero, List.set_cons_succ, true_and, if_true, if_false, Bool.and_self, Nat.le_refl, ft_41_1, ft_41_2, ft_47_0, ft_47_2, ft_47_3, ft_71_0, ft_71_1, lt_3, zt_3, zt_69, gE, g, entE, c1, c2, c3, c4, w1, retA_normal, Tryd.results40, resultsA_0]
    have kS : ∀ o, Keep H (H.set b o) (· = b) := fun o => Keep.set _ _ _
    have ne2 : ∀ q, idOf ov = some q → q ≠ b := fun q hq hh => by have := t1 q hq; rw [hh, t0] at this; simp at this
    exact hid_mk ⟨rfl, L, lc, ow, by rw [e1, e2]; exact wH.setJob hb (kS _) (fun q hh => ⟨0, by rw [hh]; exact t0⟩) (fun _ _ hh => hh) (fun _ _ hh => .inl hh) ⟨fv, ov, .snil, get_set_same, hf, o1.keep (kS _) ne2, Own.snil _ _ _, t0, t1, fun q hq => by simp [idOf] at hq⟩, (kH.up).trans (kS _) fun q hq hh => .inr ⟨(1, t, 0), hh ▸ t0⟩, fun _ _ hh => .inl hh⟩
end Go.Proofs.YtcdpepdjeneelaaDoor.Pk
