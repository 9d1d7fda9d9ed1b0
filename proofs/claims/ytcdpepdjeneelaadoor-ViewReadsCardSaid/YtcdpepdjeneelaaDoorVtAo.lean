/-
  What functions of the program do, told of abstract states. Conditions: as each theorem says.
-/
import Derived.Test.YtcdpepdjeneelaaDoorVtA
import Derived.Test.YtcdpepdjeneelaaDoorVsTo
namespace Go.Proofs.YtcdpepdjeneelaaDoor.Pk
open Go Go.Proofs Go.Proofs.YtcdpepdjeneelaaDoor.Ab Go.Proofs.Vw
set_option linter.unusedVariables false
set_option linter.unusedSimpArgs false
set_option maxHeartbeats 4000000 in
set_option maxRecDepth 20000 in
theorem pReadO (l : List Ent) (hl : l.length ≤ 2 ^ 14) (he : ∀ x ∈ l, eLen x) (h : AHeap) (hu : KU h) {v : V} (ov : Own h 47 11 v (l.flatMap entE)) : Pure Tryd.prog 12 [v] h (.agg (tdC (toldOf l))) := by
  refine Pure.of (Clo.agg (tdC_clo _)) ?_
  have hlen := lenO ov
  refine SCalls.enterI (c := _) Tryd.func12 rfl (by kernel_rfl) (by simp) ?_
  simp only [wpA_region, wpA_seq, seqQ_normal, goI_out, goI_ops, opsA_nil, opsA_cons, stepA_move, stepA_alloc, stepA_call, thenH_some, eval_tmp, put_some, enterF_zero, enterF_succ, aAlloc_eq, Nat.reduceEqDiff, reduceCtorEq, List.map_cons, List.map_nil, Option.map_some, if_true, if_false, zc_29]
  obtain ⟨H0, hH0⟩ : ∃ y, y = h.push (.cells [.snil, .snil, .int .i64 0] 29 none) := ⟨_, rfl⟩
  have k0 : Keep h H0 none_ := by rw [hH0]; exact Keep.push _ _ _
  have g0 : H0.get h.n = .cells [.snil, .snil, .int .i64 0] 29 none := by rw [hH0]; exact get_push_new
  have n0 : H0.n = h.n + 1 := by rw [hH0]; rfl
  rw [← hH0]
  clear hH0
  refine callI_of cal21 (pProcessO l hl he H0 (by unfold KU; rw [k0.glob]; exact hu) (ov.keepN k0)) fun r h1 ⟨lm, tm, L, lc, T, tc, er, w⟩ => ?_
  subst er
  obtain ⟨hL, hT⟩ := w.len
  have n1 := w.keep.n
  have hc : (V.agg [.map lm, .map tm]).cells = some [.map lm, .map tm] := rfl
  have st : setC (some 2) (AObj.cells [V.mnil, .mnil] 58 none) 0 [.map lm, .map tm] = some (.cells [.map lm, .map tm] 58 none) := rfl
  obtain ⟨H1, hH1⟩ : ∃ y, y = h1.push (.cells [.map lm, .map tm] 58 none) := ⟨_, rfl⟩
  have k1 : Keep h1 H1 none_ := by rw [hH1]; exact Keep.push _ _ _
  have g1 : H1.get h1.n = .cells [.map lm, .map tm] 58 none := by rw [hH1]; exact get_push_new
  have n1' : H1.n = h1.n + 1 := by rw [hH1]; rfl
  have g0' : H1.get h.n = _ := ((w.keep.trans' k1).get h.n (by omega) (by simp [none_])).trans g0
  have w1 := w.on k1
  simp only [wpA_seq, wpA_draw, seqQ_normal, goI_out, goI_ops, opsA_nil, opsA_cons, stepA_alloc, stepA_store, thenH_some, thenS_some, eval_tmp, put_some, enterF_succ, aStore_eq, storeGo_ptr, aAlloc_eq, get_push_new, set_push, Nat.reduceEqDiff, Option.map_some, if_true, if_false, zc_58, zt_58, hc, st]
  rw [← hH1]
  clear hH1
  refine SWp.drawnS none_ [1, 3, 7] (.q 0 (.q 2 (.q 4 (.q 5 (.e 1 (.e 3 (.q 6 (.a 7 .done)) .stop) .stop))))) (by kernel_rfl) (by kernel_rfl) (by kernel_rfl) ?_
  simp only [siI_stop, siI_q, siI_e, sqI_some, seI_some, mOk_none', implies_true, qI_nil, qI_cons, thenQ_some, q_move, q_load, q_len, goI_mk, opsA_cons, stepA_call, eval_tmp, put_some, put_none, enterF_zero, enterF_succ, aLoad_eq, loadGo_row, aPlace_ptr, dropC_cells, List.getElem?_cons_zero, List.getElem?_cons_succ, Nat.reduceEqDiff, Nat.reduceAdd, reduceCtorEq, List.map_cons, List.map_nil, Nat.zero_add, Nat.zero_le, List.length_cons, List.length_nil, List.drop_zero, List.take_succ_cons, List.take_nil, and_true, true_and, if_true, if_false, Nat.le_refl, lt_58, hlen, g1]
  refine callI_of cal22 (allLogs w1 (by omega)) fun r1 h2 ⟨out1, p1, s1, a1⟩ => ?_
  obtain rfl := w1.logs_eq p1 s1
  have w2 := w1.on a1.keep
  have hk2 := a1.keep
  simp only [siI_stop, siI_e, seI_some, goI_ops, goI_mk, opsA_nil, opsA_cons, stepA_call, eval_tmp, put_some, put_none, enterF_succ, List.getElem?_cons_zero, List.getElem?_cons_succ, Nat.reduceEqDiff, List.map_cons, List.map_nil, and_true, true_and, if_true, if_false, hk2]
  refine callI_of cal23 (allTasks w2 (by omega)) fun r2 h3 ⟨out2, p2, s2, a2⟩ => ?_
  obtain rfl := w2.tasks_eq p2 s2
  have hk3 : Keep H1 h3 none_ := a1.keep.trans' a2.keep
  have one1 : r1.one = true := by rcases a1.own with ⟨rfl | rfl, _⟩ | ⟨_, _, _, _, _, rfl, _⟩ <;> rfl
  have one2 : r2.one = true := by rcases a2.own with ⟨rfl | rfl, _⟩ | ⟨_, _, _, _, _, rfl, _⟩ <;> rfl
  have cell1 : r1.cells = some [r1] := by rcases a1.own with ⟨rfl | rfl, _⟩ | ⟨_, _, _, _, _, rfl, _⟩ <;> rfl
  have cell2 : r2.cells = some [r2] := by rcases a2.own with ⟨rfl | rfl, _⟩ | ⟨_, _, _, _, _, rfl, _⟩ <;> rfl
  have sA : setC (some 3) (AObj.cells [V.snil, .snil, .int .i64 0] 29 none) 0 [r1, r2, .int .i64 (l.length : Nat)] = some (.cells [r1, r2, .int .i64 (l.length : Nat)] 29 none) := by
    rcases a1.own with ⟨rfl | rfl, _⟩ | ⟨_, _, _, _, _, rfl, _⟩ <;> rcases a2.own with ⟨rfl | rfl, _⟩ | ⟨_, _, _, _, _, rfl, _⟩ <;> rfl
  have g03 : h3.get h.n = .cells [.snil, .snil, .int .i64 0] 29 none := (hk3.get h.n (by omega) (by simp [none_])).trans g0'
  simp only [siI_done, siI_q, siI_a, sqI_some, saI_some, mOk_none', implies_true, qI_nil, qI_cons, thenQ_some, q_build, wpA_ret, seqQ_normal, endI_mk, goI_out, goI_ops, goI_mk, opsA_nil, opsA_cons, stepA_store, thenS_some, eval_tmp, put_some, put_none, enterF_succ, cells_int, cells_agg, aLoad_eq, loadGo_row, aPlace_ptr, dropC_cells, aStore_eq, storeGo_ptr, setAll_nil, setAll_cons, aBuild_go, aFill_nil, aFill_cons, fillGo_some, buildGo_struct, get_set_same, List.getElem?_cons_zero, List.getElem?_cons_succ, Bool.false_eq_true, Nat.reduceEqDiff, Nat.reduceAdd, Nat.reduceLeDiff, List.map_cons, List.map_nil, Option.map_some, Nat.zero_add, Nat.zero_le, List.length_cons, List.length_nil, List.drop_zero, List.take_succ_cons, List.take_nil, List.set_cons_zero, List.set_cons_succ, true_and, and_self, if_true, if_false, Nat.le_refl, lt_29, pl_29, zc_29, zt_29, hk3, g03, sA, cell1, cell2, retA_ret, Tryd.results12, resultsC_1, resultA_cell]
  obtain ⟨F, hF⟩ : ∃ y, y = h3.set h.n (.cells [r1, r2, .int .i64 (l.length : Nat)] 29 none) := ⟨_, rfl⟩
  have kF : Keep h3 F (· = h.n) := by rw [hF]; exact Keep.set _ _ _
  have kAll : Keep h F none_ := (k0.trans' ((w.keep.trans' k1).trans' hk3)).trans (by exact kF) fun q hq hh => by omega
  have hn2 := a1.keep.n
  have o1 : Own F 36 3 r1 ((logsOf l).flatMap logC) := (a1.own.keepN a2.keep).keep kF fun q hq hh => by have := a1.new q hq; omega
  have o2 : Own F 41 6 r2 ((tasksOf l).flatMap tvC) := a2.own.keep kF fun q hq hh => by have := a2.new q hq; omega
  obtain ⟨F1, c1, f1⟩ := Cast.own (cs := (logsOf l).flatMap logC) o1 (n := (logsOf l).length) (rows_len logC_len _) (by decide)
  have o2' := o2.keep f1 fun q hq hh => by have h1 := a2.new q hq; have h2 := a1.own.lt q hh; omega
  obtain ⟨F2, c2, f2⟩ := Cast.own (cs := (tasksOf l).flatMap tvC) o2' (n := (tasksOf l).length) (rows_len tvC_len _) (by decide)
  rw [← hF]
  exact hid_mk ⟨F2, aggC (CastL.cons c1 (CastL.cons c2 (CastL.refl _ _))), (kAll.trans f1 fun q hq hh => by have := a1.new q hh; omega).trans f2 fun q hq hh => by have := a2.new q hh; omega⟩
end Go.Proofs.YtcdpepdjeneelaaDoor.Pk
