/-
  What functions of the program do, told of abstract states. Conditions: as each theorem says.
-/
import Derived.Test.YtcdpepdjeneelaaDoorVsT
import Derived.Test.YtcdpepdjeneelaaDoorVsU
namespace Go.Proofs.YtcdpepdjeneelaaDoor.Pk
open Go Go.Proofs Go.Proofs.YtcdpepdjeneelaaDoor.Ab Go.Proofs.Vw
set_option linter.unusedVariables false
set_option linter.unusedSimpArgs false
/-! ### Read -/
theorem aggC {l l2 : List V} {h h2 : AHeap} (a : CastL l h l2 h2) : Cast (.agg l) h (.agg l2) h2 := fun ρ B w0 w r' hw hv => by
  cases hv with
  | agg hs hx =>
    rename_i xs
    obtain ⟨ρ1, l1, w1, v1⟩ := a ρ B w0 w xs.toList hw ⟨by simpa using hs, by simpa using hx⟩
    exact ⟨ρ1, l1, w1, v1.arr'.agg⟩

theorem strict_of {α : Type} {key : α → Int} {l : List α} (hn : (l.map key).Nodup) (hs : l.Pairwise fun a b => ¬ key b < key a) : l.Pairwise fun a b => key a < key b := by
  have h1 : l.Pairwise fun a b => key a ≠ key b := List.pairwise_map.1 hn
  exact (h1.and hs).imp fun ⟨h1, h2⟩ => by omega
theorem VF.logs_eq {h0 h : AHeap} {lm tm lc tc : Nat} {l : List Ent} {L T : PM} (w : VF h0 h lm tm (readV l) L lc T tc) {out : List (Int × List LR)} (hp : out.Perm (L.map fun e => (e.2.1, (readV l).logs e.2.1))) (hs : out.Pairwise fun a b => ¬ b.1 < a.1) : out = logsOf l := by
  have hn : (out.map (·.1)).Nodup := by
    refine (hp.map (·.1)).nodup_iff.2 ?_
    rw [List.map_map]
    exact w.ndl
  refine up_unique (key := (·.1)) (fun p => ?_) (strict_of (key := fun p : Int × List LR => p.1) hn hs) (isTold l).lu
  rw [hp.mem_iff, (isTold l).lm, List.mem_map]
  constructor
  · rintro ⟨e, he, rfl⟩
    exact ⟨rfl, (w.has _ _ (kmem w.ndl he)).2.1⟩
  · rintro ⟨h1, h2⟩
    cases hk : kget L p.1 with
    | none => exact absurd (w.hasn _ hk) (h1 ▸ h2)
    | some b =>
      obtain ⟨e, he, e2⟩ := kget_mem hk
      refine ⟨e, he, ?_⟩
      rw [e2, ← h1]
theorem VF.tasks_eq {h0 h : AHeap} {lm tm lc tc : Nat} {l : List Ent} {L T : PM} (w : VF h0 h lm tm (readV l) L lc T tc) {out : List TV} (hp : out.Perm (T.map fun e => tvOf e.2.1 (jbOf (readV l) e.2.1))) (hs : out.Pairwise fun a b => ¬ b.t < a.t) : out = tasksOf l := by
  have hn : (out.map (·.t)).Nodup := by
    refine (hp.map (·.t)).nodup_iff.2 ?_
    rw [List.map_map]
    exact w.ndt
  refine up_unique (key := (·.t)) (fun p => ?_) (strict_of (key := fun p : TV => p.t) hn hs) (isTold l).tu
  rw [hp.mem_iff, (isTold l).tm, List.mem_map]
  constructor
  · rintro ⟨e, he, rfl⟩
    obtain ⟨j, h1, _⟩ := w.job _ _ (kmem w.ndt he)
    exact ⟨j, h1, by unfold jbOf; rw [show (tvOf e.2.1 ((readV l).tasks e.2.1 |>.getD jb0)).t = e.2.1 from rfl, h1]; rfl⟩
  · rintro ⟨j, h1, h2⟩
    cases hk : kget T p.t with
    | none => rw [w.jobn _ hk] at h1; cases h1
    | some b =>
      obtain ⟨e, he, e2⟩ := kget_mem hk
      refine ⟨e, he, ?_⟩
      rw [e2]
      unfold jbOf
      rw [h1]
      exact h2.symm
theorem VF.len {h0 h : AHeap} {lm tm lc tc : Nat} {l : List Ent} {L T : PM} (w : VF h0 h lm tm (readV l) L lc T tc) : L.length ≤ l.length ∧ T.length ≤ l.length := by
  have fr := from_read _ l rfl
  have h1 : (L.map (·.2.1)).length ≤ (l.map (·.log)).length := List.Nodup.length_le_of_subset w.ndl fun k hk => by
    obtain ⟨e, he, rfl⟩ := List.mem_map.1 hk
    exact fr.lg _ (w.has _ _ (kmem w.ndl he)).2.1
  have h2 : (T.map (·.2.1)).length ≤ (l.map (·.task)).length := List.Nodup.length_le_of_subset w.ndt fun k hk => by
    obtain ⟨e, he, rfl⟩ := List.mem_map.1 hk
    obtain ⟨j, h1, _⟩ := w.job _ _ (kmem w.ndt he)
    exact (fr.tk _ _ h1).1
  simpa using And.intro h1 h2
set_option maxHeartbeats 4000000 in
set_option maxRecDepth 20000 in
theorem pRead (l : List Ent) (hl : l.length ≤ 2 ^ 14) (he : ∀ x ∈ l, eLen x) (h : AHeap) (hu : KU h) : Pure Tryd.prog 12 [.imm l.length (l.flatMap entE)] h (.agg (tdC (toldOf l))) := by
  refine Pure.of (Clo.agg (tdC_clo _)) ?_
  refine SCalls.enterI (c := _) Tryd.func12 rfl (by kernel_rfl) (by simp) ?_
  simp only [wpA_region, wpA_seq, seqQ_normal, goI_out, goI_ops, opsA_nil, opsA_cons, stepA_move, stepA_alloc, stepA_call, thenH_some, eval_tmp, put_some, enterF_zero, enterF_succ, aAlloc_eq, Nat.reduceEqDiff, reduceCtorEq, List.map_cons, List.map_nil, Option.map_some, if_true, if_false, zc_29]
  obtain ⟨H0, hH0⟩ : ∃ y, y = h.push (.cells [.snil, .snil, .int .i64 0] 29 none) := ⟨_, rfl⟩
  have k0 : Keep h H0 none_ := by rw [hH0]; exact Keep.push _ _ _
  have g0 : H0.get h.n = .cells [.snil, .snil, .int .i64 0] 29 none := by rw [hH0]; exact get_push_new
  have n0 : H0.n = h.n + 1 := by rw [hH0]; rfl
  rw [← hH0]
  clear hH0
  refine callI_of cal21 (pProcess l hl he H0 (by unfold KU; rw [k0.glob]; exact hu)) fun r h1 ⟨lm, tm, L, lc, T, tc, er, w⟩ => ?_
  subst er
  obtain ⟨hL, hT⟩ := w.len
  have n1 := w.keep.n
  have hc : (V.agg [.map lm, .map tm]).cells = some [.map lm, .map tm] := rfl
  have st : setC (some 2) (AObj.cells [V.mnil, .mnil] 58 none) 0 [.map lm, .map tm] = some (.cells [.map lm, .map tm] 58 none) := rfl
  obtain ⟨H1, hH1⟩ : ∃ y, y = h1.push (.cells [.map lm, .map tm] 58 none) := ⟨_, rfl⟩
  have k1 : Keep h1 H1 none_ := by rw [hH1]; exact Keep.push _ _ _
  have g1 : H1.get h1.n = .cells [.map lm, .map tm] 58 none := by rw [hH1]; exact get_push_new
  have n1' : H1.n = h1.n + 1 := by rw [hH1]; rfl
  have g0' : H1.get h.n = _ := ((w.keep.trans' k1).get h.n (by omega) (by simp [none_])).trans g0
  have w1 := w.on k1
  simp only [wpA_seq, wpA_draw, seqQ_normal, goI_out, goI_ops, opsA_nil, opsA_cons, stepA_alloc, stepA_store, thenH_some, thenS_some, eval_tmp, put_some, enterF_succ, aStore_eq, storeGo_ptr, aAlloc_eq, get_push_new, set_push, Nat.reduceEqDiff, Option.map_some, if_true, if_false, zc_58, zt_58, hc, st]
  rw [← hH1]
  clear hH1
  refine SWp.drawnS none_ [1, 3, 7] (.q 0 (.q 2 (.q 4 (.q 5 (.e 1 (.e 3 (.q 6 (.a 7 .done)) .stop) .stop))))) (by kernel_rfl) (by kernel_rfl) (by kernel_rfl) ?_
  simp only [siI_stop, siI_q, siI_e, sqI_some, seI_some, mOk_none', implies_true, qI_nil, qI_cons, thenQ_some, q_move, q_load, q_len, goI_mk, opsA_cons, stepA_call, eval_tmp, put_some, put_none, enterF_zero, enterF_succ, aLoad_eq, loadGo_row, aPlace_ptr, dropC_cells, aLen_imm, List.getElem?_cons_zero, List.getElem?_cons_succ, Nat.reduceEqDiff, Nat.reduceAdd, reduceCtorEq, List.map_cons, List.map_nil, Nat.zero_add, Nat.zero_le, List.length_cons, List.length_nil, List.drop_zero, List.take_succ_cons, List.take_nil, and_true, true_and, if_true, if_false, Nat.le_refl, kt_22, lt_58, g1]
  refine callI_of cal22 (allLogs w1 (by omega)) fun r1 h2 ⟨out1, p1, s1, a1⟩ => ?_
  obtain rfl := w1.logs_eq p1 s1
  have w2 := w1.on a1.keep
  have hk2 := a1.keep
  simp only [siI_stop, siI_e, seI_some, goI_ops, goI_mk, opsA_nil, opsA_cons, stepA_call, eval_tmp, put_some, put_none, enterF_succ, List.getElem?_cons_zero, List.getElem?_cons_succ, Nat.reduceEqDiff, List.map_cons, List.map_nil, and_true, true_and, if_true, if_false, hk2]
  refine callI_of cal23 (allTasks w2 (by omega)) fun r2 h3 ⟨out2, p2, s2, a2⟩ => ?_
  obtain rfl := w2.tasks_eq p2 s2
  have hk3 : Keep H1 h3 none_ := a1.keep.trans' a2.keep
  have one1 : r1.one = true := by rcases a1.own with ⟨rfl | rfl, _⟩ | ⟨_, _, _, _, _, rfl, _⟩ <;> rfl
  have one2 : r2.one = true := by rcases a2.own with ⟨rfl | rfl, _⟩ | ⟨_, _, _, _, _, rfl, _⟩ <;> rfl
  have cell1 : r1.cells = some [r1] := by rcases a1.own with ⟨rfl | rfl, _⟩ | ⟨_, _, _, _, _, rfl, _⟩ <;> rfl
  have cell2 : r2.cells = some [r2] := by rcases a2.own with ⟨rfl | rfl, _⟩ | ⟨_, _, _, _, _, rfl, _⟩ <;> rfl
  have sA : setC (some 3) (AObj.cells [V.snil, .snil, .int .i64 0] 29 none) 0 [r1, r2, .int .i64 (l.length : Nat)] = some (.cells [r1, r2, .int .i64 (l.length : Nat)] 29 none) := by
    rcases a1.own with ⟨rfl | rfl, _⟩ | ⟨_, _, _, _, _, rfl, _⟩ <;> rcases a2.own with ⟨rfl | rfl, _⟩ | ⟨_, _, _, _, _, rfl, _⟩ <;> rfl
  have g03 : h3.get h.n = .cells [.snil, .snil, .int .i64 0] 29 none := (hk3.get h.n (by omega) (by simp [none_])).trans g0'
  simp only [siI_done, siI_q, siI_a, sqI_some, saI_some, mOk_none', implies_true, qI_nil, qI_cons, thenQ_some, q_build, wpA_ret, seqQ_normal, endI_mk, goI_out, goI_ops, goI_mk, opsA_nil, opsA_cons, stepA_store, thenS_some, eval_tmp, put_some, put_none, enterF_succ, cells_int, cells_agg, aLoad_eq, loadGo_row, aPlace_ptr, dropC_cells, aStore_eq, storeGo_ptr, setAll_nil, setAll_cons, aBuild_go, aFill_nil, aFill_cons, fillGo_some, buildGo_struct, get_set_same, List.getElem?_cons_zero, List.getElem?_cons_succ, Bool.false_eq_true, Nat.reduceEqDiff, Nat.reduceAdd, Nat.reduceLeDiff, List.map_cons, List.map_nil, Option.map_some, Nat.zero_add, Nat.zero_le, List.length_cons, List.length_nil, List.drop_zero, List.take_succ_cons, List.take_nil, List.set_cons_zero, List.set_cons_succ, true_and, and_self, if_true, if_false, Nat.le_refl, lt_29, pl_29, zc_29, zt_29, hk3, g03, sA, cell1, cell2, retA_ret, Tryd.results12, resultsC_1, resultA_cell]
  obtain ⟨F, hF⟩ : ∃ y, y = h3.set h.n (.cells [r1, r2, .int .i64 (l.length : Nat)] 29 none) := ⟨_, rfl⟩
  have kF : Keep h3 F (· = h.n) := by rw [hF]; exact Keep.set _ _ _
  have kAll : Keep h F none_ := (k0.trans' ((w.keep.trans' k1).trans' hk3)).trans (by exact kF) fun q hq hh => by omega
  have hn2 := a1.keep.n
  have o1 : Own F 36 3 r1 ((logsOf l).flatMap logC) := (a1.own.keepN a2.keep).keep kF fun q hq hh => by have := a1.new q hq; omega
  have o2 : Own F 41 6 r2 ((tasksOf l).flatMap tvC) := a2.own.keep kF fun q hq hh => by have := a2.new q hq; omega
  obtain ⟨F1, c1, f1⟩ := Cast.own (cs := (logsOf l).flatMap logC) o1 (n := (logsOf l).length) (rows_len logC_len _) (by decide)
  have o2' := o2.keep f1 fun q hq hh => by have h1 := a2.new q hq; have h2 := a1.own.lt q hh; omega
  obtain ⟨F2, c2, f2⟩ := Cast.own (cs := (tasksOf l).flatMap tvC) o2' (n := (tasksOf l).length) (rows_len tvC_len _) (by decide)
  rw [← hF]
  exact hid_mk ⟨F2, aggC (CastL.cons c1 (CastL.cons c2 (CastL.refl _ _))), (kAll.trans f1 fun q hq hh => by have := a1.new q hh; omega).trans f2 fun q hq hh => by have := a2.new q hh; omega⟩
end Go.Proofs.YtcdpepdjeneelaaDoor.Pk
