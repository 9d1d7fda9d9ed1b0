/-
  What functions of the program do, told of abstract states. Conditions: as each theorem says.
-/
import Derived.Test.YtcdpepdjeneelaaDoorVsD
namespace Go.Proofs.YtcdpepdjeneelaaDoor.Pk
open Go Go.Proofs Go.Proofs.YtcdpepdjeneelaaDoor.Ab Go.Proofs.Vw
set_option linter.unusedVariables false
set_option linter.unusedSimpArgs false
/-- A log is longer, or new. -/
theorem VS.setLog {h0 h h' : AHeap} {lm tm lc tc : Nat} {logs : Int → List LR} {tasks : Int → Option Jb} {L T : PM} {ow ow' : Ow} (w : VS h0 h lm tm logs tasks L lc T tc ow) {k : Int} {b : Nat} {rs : List LR} {own : Nat → Prop}
    (hb : kget L k = some b) (kp : Keep h h' own) (hown : ∀ q, own q → ∃ i, ow q = some (0, k, i)) (hinc : ∀ q tg, ow q = some tg → ow' q = some tg) (hold : ∀ q tg, ow' q = some tg → ow q = some tg ∨ (h.n ≤ q ∧ q < h'.n)) (a : LogAt h' ow' b k rs) (hne : rs ≠ []) :
    VS h0 h' lm tm (fun n => if n = k then rs else logs n) tasks L lc T tc ow' where
  keep := w.keep.trans kp fun q hq hh => by
    obtain ⟨i, hi⟩ := hown q hh
    have := (w.old _ _ hi).1
    omega
  old q tg hq := by
    rcases hold q tg hq with hh | hh
    · have := w.old q tg hh; have := kp.n; omega
    · have := w.keep.n; omega
  owl := hinc _ _ w.owl
  owt := hinc _ _ w.owt
  gl := (kp.get lm (w.old _ _ w.owl).2 (fun hh => by obtain ⟨i, hi⟩ := hown _ hh; rw [w.owl] at hi; simp at hi)).trans w.gl
  gt := (kp.get tm (w.old _ _ w.owt).2 (fun hh => by obtain ⟨i, hi⟩ := hown _ hh; rw [w.owt] at hi; simp at hi)).trans w.gt
  stl := w.stl
  stt := w.stt
  ndl := w.ndl
  ndt := w.ndt
  has u c hq := by
    by_cases hu : u = k
    · subst hu
      rw [hb] at hq
      injection hq with hq
      subst hq
      simp only [if_true]
      exact ⟨a, hne⟩
    · simp only [hu, if_false]
      exact ⟨(w.has u c hq).1.on kp (fun p hh i he => by obtain ⟨i2, hi⟩ := hown _ hh; rw [hi] at he; simp at he; exact hu he.1.symm) hinc fun q tg hh => (w.old q tg hh).2, (w.has u c hq).2⟩
  hasn u hq := by
    by_cases hu : u = k
    · subst hu; rw [hb] at hq; cases hq
    · simp only [hu, if_false]; exact w.hasn u hq
  job u c hq := by
    obtain ⟨j2, h1, h2⟩ := w.job u c hq
    exact ⟨j2, h1, h2.on kp (fun p hh i he => by obtain ⟨i2, hi⟩ := hown _ hh; rw [hi] at he; simp at he) hinc fun q tg hh => (w.old q tg hh).2⟩
  jobn := w.jobn
/-- A log that is new. -/
theorem VS.newLog {h0 h h' : AHeap} {lm tm lc tc : Nat} {logs : Int → List LR} {tasks : Int → Option Jb} {L T : PM} {ow ow' : Ow} (w : VS h0 h lm tm logs tasks L lc T tc ow) {k : Int} {b : Nat} {rs : List LR} {own : Nat → Prop}
    (hb : kget L k = none) (kp : Keep h h' own) (hown : ∀ q, own q → q = lm ∨ h.n ≤ q) (gl' : h'.get lm = .map (pmE (kset lc L k b)) (kclk lc L k)) (hinc : ∀ q tg, ow q = some tg → ow' q = some tg) (hold : ∀ q tg, ow' q = some tg → ow q = some tg ∨ (h.n ≤ q ∧ q < h'.n)) (a : LogAt h' ow' b k rs) (hne : rs ≠ []) :
    VS h0 h' lm tm (fun n => if n = k then rs else logs n) tasks (kset lc L k b) (kclk lc L k) T tc ow' where
  keep := w.keep.trans kp fun q hq hh => by
    have := (w.old _ _ w.owl).1
    have := w.keep.n
    rcases hown q hh with h1 | h1 <;> omega
  old q tg hq := by
    rcases hold q tg hq with hh | hh
    · have := w.old q tg hh; have := kp.n; omega
    · have := w.keep.n; omega
  owl := hinc _ _ w.owl
  owt := hinc _ _ w.owt
  gl := gl'
  gt := (kp.get tm (w.old _ _ w.owt).2 (fun hh => by
    rcases hown _ hh with h1 | h1
    · have h2 := w.owl; rw [← h1, w.owt] at h2; simp at h2
    · have := (w.old _ _ w.owt).2; omega)).trans w.gt
  stl := Stamps.kset w.stl k b
  stt := w.stt
  ndl := w.ndl.set lc k b
  ndt := w.ndt
  has u c hq := by
    rw [kget_kset] at hq
    by_cases hu : u = k
    · subst hu
      rw [if_pos rfl] at hq
      injection hq with hq
      subst hq
      simp only [if_true]
      exact ⟨a, hne⟩
    · rw [if_neg hu] at hq
      simp only [hu, if_false]
      exact ⟨(w.has u c hq).1.on kp (fun p hh i he => by
        rcases hown _ hh with h1 | h1
        · rw [h1, w.owl] at he; simp at he
        · have := (w.old _ _ he).2; omega) hinc fun q tg hh => (w.old q tg hh).2, (w.has u c hq).2⟩
  hasn u hq := by
    rw [kget_kset] at hq
    by_cases hu : u = k
    · rw [if_pos hu] at hq; cases hq
    · rw [if_neg hu] at hq; simp only [hu, if_false]; exact w.hasn u hq
  job u c hq := by
    obtain ⟨j2, h1, h2⟩ := w.job u c hq
    exact ⟨j2, h1, h2.on kp (fun p hh i he => by
      rcases hown _ hh with h1 | h1
      · rw [h1, w.owl] at he; simp at he
      · have := (w.old _ _ he).2; omega) hinc fun q tg hh => (w.old q tg hh).2⟩
  jobn := w.jobn
def addS (logs : Int → List LR) (x : Ent) : Int → List LR := fun n => if n = x.log then logs x.log ++ [(x.r, x.del)] else logs n
set_option maxHeartbeats 2000000 in
set_option maxRecDepth 10000 in
theorem pAdd {h0 h : AHeap} {lm tm lc tc : Nat} {logs : Int → List LR} {tasks : Int → Option Jb} {L T : PM} {ow : Ow} (x : Ent) (w : VS h0 h lm tm logs tasks L lc T tc ow) (hlen : (logs x.log).length ≤ 2 ^ 40) :
    SCalls Tryd.prog 37 [.agg [.map lm, .map tm], .agg (entE x)] h (fun r h' => r = .tuple [] ∧ ∃ L' lc' ow', VS h0 h' lm tm (addS logs x) tasks L' lc' T tc ow' ∧ (∀ q tg, ow q = some tg → ow' q = some tg) ∧ Keep h h' (fun q => q = lm ∨ ∃ k i, ow q = some (0, k, i)) ∧ (∀ q tg, ow' q = some tg → ow q = some tg ∨ h.n ≤ q)) := by
  refine SCalls.enterI (c := _) Tryd.func37 rfl (by kernel_rfl) (by simp) ?_
  obtain ⟨H0, hH0⟩ : ∃ y, y = h.push (.cells [.map lm, .map tm] 58 none) := ⟨_, rfl⟩
  have kH0 : Keep h H0 none_ := by rw [hH0]; exact Keep.push _ _ _
  have gS0 : H0.get h.n = .cells [.map lm, .map tm] 58 none := by rw [hH0]; exact get_push_new
  have nH0 : H0.n = h.n + 1 := by rw [hH0]; rfl
  obtain ⟨H, hH⟩ : ∃ y, y = H0.push (.cells (entE x) 47 none) := ⟨_, rfl⟩
  have kH1 : Keep H0 H none_ := by rw [hH]; exact Keep.push _ _ _
  have kH := kH0.trans' kH1
  have gE : H.get H0.n = .cells (entE x) 47 none := by rw [hH]; exact get_push_new
  have gS := (kH1.get h.n (by omega) (by simp [none_])).trans gS0
  have nH : H.n = h.n + 2 := by rw [hH, push_n]; omega
  have wH := w.on kH
  have hc : (V.agg [.map lm, .map tm]).cells = some [.map lm, .map tm] := rfl
  have hce : (V.agg (entE x)).cells = some (entE x) := rfl
  have hlk := lookL L x.log wH.gl
  have d4 : dropC (AObj.cells (entE x) 47 none) 4 = some ((entE x).drop 4) := rfl
  simp only [wpA_region, wpA_seq, seqQ_normal, goI_out, goI_ops, opsA_nil, opsA_cons, stepA_box, stepA_load, stepA_fieldAddr, thenV_some, thenH_some, eval_tmp, put_some, enterF_zero, enterF_succ, aField_eq, fieldGo_ptr, aLoad_eq, loadGo_one, aPlace_ptr, dropC_cells, aBox_eq, push_n, get_push2, get_push2', Nat.reduceEqDiff, Nat.reduceAdd, Option.map_some, Nat.add_zero, Nat.zero_add, Nat.zero_le, List.length_cons, List.length_nil, List.drop_zero, if_true, if_false, ft_47_4, ft_58_0, lt_3, lt_55, hc, hce]
  rw [← hH0, ← hH]
  clear hH0 hH
  cases hk : kget L x.log with
  | some b =>
    rw [hk] at hlk
    obtain ⟨⟨rv, dv, g, o1, o2, t0, t1, t2⟩, hne⟩ := wH.has x.log b hk
    obtain ⟨rv', h2, dv', h4, ow', ea1, g2, one1, cell1, ea2, g4, one2, cell2, k2i, k4i, kk2, kk4, kk5, hinc, hold, la⟩ := addTail (x.r, x.del) hlen g o1 o2 t0 t1 t2 (fun q tg hq => (wH.old q tg hq).2)
    have hfr : ∀ q, h.n ≤ q → ∀ tg, ow q ≠ some tg := fun q hq tg he => by have := (w.old _ _ he).2; omega
    have gE2 := (kk2.get H0.n (by omega) (fun ⟨i, hh⟩ => hfr _ (by omega) _ hh)).trans gE
    have lR := litR1 H x.r
    have st1 : setC (some 1) (AObj.cells [V.int .i64 x.log, rv, dv] 36 none) 1 [rv'] = some (.cells [.int .i64 x.log, rv', dv] 36 none) := by rw [setC_one one1]; rfl
    have st2 : setC (some 1) (AObj.cells [V.int .i64 x.log, rv', dv] 36 none) 2 [dv'] = some (.cells [.int .i64 x.log, rv', dv'] 36 none) := by rw [setC_one one2]; rfl
    simp only at ea1 ea2
    rw [nH0] at gE gE2
    have gS2 := (kk2.get h.n (by omega) (fun ⟨i, hh⟩ => hfr _ (by omega) _ hh)).trans gS
    have lD := litD1 (h2.set b (.cells [.int .i64 x.log, rv', dv] 36 none)) x.del
    have nbE : h.n + 1 ≠ b := fun hh => hfr (h.n + 1) (by omega) _ (by rw [hh]; exact t0)
    have gE3 : (h2.set b (.cells [.int .i64 x.log, rv', dv] 36 none)).get (h.n + 1) = .cells (entE x) 47 none := ((Keep.set h2 b _).get (h.n + 1) (by have := kk2.n; omega) nbE).trans gE2
    simp only [wpA_skip, wpA_region, wpA_seq, wpA_cond, wpA_draw, condI_false, seqQ_normal, goI_out, goI_ops, opsA_nil, opsA_cons, stepA_move, stepA_assign, stepA_unOp, stepA_lookup, stepA_extract, thenV_some, extV_zero, extV_succ, eval_tmp, put_some, enterF_succ, aUn_not, loadGo_one, Nat.reduceEqDiff, Nat.reduceAdd, Nat.reduceLeDiff, Nat.zero_add, List.length_cons, List.length_nil, List.drop_zero, List.drop_succ_cons, if_true, if_false, Bool.not_true, entE, hlk]
    have f1 : isId rv b = False := eq_false fun hh => by have := t1 b hh; rw [t0] at this; simp at this
    have f2 : isId rv (h.n + 1) = False := eq_false fun hh => hfr (h.n + 1) (by omega) _ (t1 _ hh)
    have f3 : isId dv b = False := eq_false fun hh => by have := t2 b hh; rw [t0] at this; simp at this
    have f4 : isId dv (h.n + 1) = False := eq_false fun hh => hfr (h.n + 1) (by omega) _ (t2 _ hh)
    have kp1 : Keep H (H.push (.cells (rcdE x.r) 45 none)) (fun q => isId rv q) := Keep.push _ _ _
    have kp2 : Keep (h2.set b (.cells [.int .i64 x.log, rv', dv] 36 none)) ((h2.set b (.cells [.int .i64 x.log, rv', dv] 36 none)).push (.cells [.bool x.del] 4 none)) (fun q => isId dv q) := Keep.push _ _ _
    refine SWp.drawnS (fun q => isId rv q) [7, 8, 11] (.q 0 (.q 1 (.q 2 (.q 3 (.q 4 (.q 5 (.q 6 (.e 7 (.e 8 (.q 9 (.q 10 (.a 11 .done))) .stop) .stop)))))))) (by kernel_rfl) (by kernel_rfl) (by kernel_rfl) ?_
    simp only [mOk_move, mOk_nilCheck, mOk_fieldAddr, mOk_load, mOkV_ptr, nne2, nne3, nne4, nne1', nne2', nne3', not_false_eq_true, siI_done, siI_stop, siI_q, siI_a, siI_e, sqI_some, saI_some, seI_some, implies_true, qI_nil, qI_cons, thenQ_some, q_move, q_load, q_nilCheck, q_fieldAddr, wpA_draw, seqQ_normal, goI_out, goI_ops, goI_mk, opsA_nil, opsA_cons, stepA_buildSlice, stepA_store, stepA_append, thenH_some, thenS_some, nilV_ptr, eval_tmp, put_some, enterF_succ, aField_eq, fieldGo_ptr, aLoad_eq, loadGo_one, loadGo_row, aPlace_ptr, dropC_cells, aStore_eq, storeGo_ptr, List.getElem?_cons_zero, List.getElem?_cons_succ, Bool.false_eq_true, Nat.reduceEqDiff, Nat.reduceAdd, Nat.reduceLeDiff, List.map_cons, List.map_nil, Option.map_some, Nat.zero_add, List.length_cons, List.length_nil, List.drop_zero, List.drop_succ_cons, List.take_succ_cons, List.take_zero, and_true, true_and, if_true, if_false, ft_36_1, ft_47_5, lt_33, lt_45, zt_33, g, gE, entE, lR, ea1, g2, st1, cell1, f1, f2, kp1, k2i]
    refine SWp.drawnS (fun q => isId dv q) [7, 8, 11] (.q 0 (.q 1 (.q 2 (.q 3 (.q 4 (.q 5 (.q 6 (.e 7 (.e 8 (.q 9 (.q 10 (.a 11 .done))) .stop) .stop)))))))) (by kernel_rfl) (by kernel_rfl) (by kernel_rfl) ?_
    simp only [mOk_move, mOk_nilCheck, mOk_fieldAddr, mOk_load, mOkV_ptr, nne2, nne3, nne4, nne1', nne2', nne3', not_false_eq_true, siI_done, siI_stop, siI_q, siI_a, siI_e, sqI_some, saI_some, seI_some, implies_true, qI_nil, qI_cons, thenQ_some, q_move, q_load, q_nilCheck, q_fieldAddr, endI_mk, goI_out, goI_ops, goI_mk, opsA_nil, opsA_cons, stepA_buildSlice, stepA_store, stepA_append, thenH_some, thenS_some, nilV_ptr, eval_tmp, put_some, put_none, enterF_succ, aField_eq, fieldGo_ptr, aLoad_eq, loadGo_one, aPlace_ptr, dropC_cells, aStore_eq, storeGo_ptr, set_n, get_set_same, List.getElem?_cons_zero, List.getElem?_cons_succ, Bool.false_eq_true, Nat.reduceEqDiff, Nat.reduceAdd, Nat.reduceLeDiff, List.map_cons, List.map_nil, Option.map_some, Nat.zero_add, List.length_cons, List.length_nil, List.drop_zero, List.drop_succ_cons, and_true, true_and, if_true, if_false, ft_36_2, ft_47_6, lt_34, lt_4, zt_34, gE3, entE, lD, ea2, g4, st2, cell2, f3, f4, kp2, k4i, retA_normal, Tryd.results37, resultsA_0]
    refine hid_mk ⟨rfl, L, lc, ow', wH.setLog hk kk5 (fun q hh => hh) hinc hold la (by simp), hinc, (kH.up).trans kk5 fun q hq ⟨i, hh⟩ => .inr ⟨_, i, hh⟩, fun q tg hq => by
      rcases hold q tg hq with hh | hh
      · exact .inl hh
      · exact .inr (by omega)⟩
  | none =>
    rw [hk] at hlk
    have hemp := w.hasn x.log hk
    have hfr : ∀ q, h.n ≤ q → ∀ tg, ow q ≠ some tg := fun q hq tg he => by have := (w.old _ _ he).2; omega
    obtain ⟨H2, hH2⟩ : ∃ y, y = H.push (.cells [V.int .i64 x.log, .snil, .snil] 36 none) := ⟨_, rfl⟩
    have k2 : Keep H H2 none_ := by rw [hH2]; exact Keep.push _ _ _
    have n2 : H2.n = H.n + 1 := by rw [hH2]; rfl
    have gb2 : H2.get H.n = .cells [V.int .i64 x.log, .snil, .snil] 36 none := by rw [hH2]; exact get_push_new
    have gS2 := (k2.get h.n (by omega) (by simp [none_])).trans gS
    rw [nH0] at gE
    have gE2 := (k2.get (h.n + 1) (by omega) (by simp [none_])).trans gE
    have hup := updL L x.log H.n (wH.on k2).gl
    obtain ⟨H3, hH3⟩ : ∃ y, y = H2.set lm (.map (pmE (kset lc L x.log H.n)) (kclk lc L x.log)) := ⟨_, rfl⟩
    have hlm := w.old _ _ w.owl
    have k3 : Keep H2 H3 (· = lm) := by rw [hH3]; exact Keep.set _ _ _
    have n3 : H3.n = H2.n := by rw [hH3]; rfl
    have gl3 : H3.get lm = .map (pmE (kset lc L x.log H.n)) (kclk lc L x.log) := by rw [hH3]; exact get_set_same
    have gb3 := (k3.get H.n (by omega) (by omega)).trans gb2
    have gE3 := (k3.get (h.n + 1) (by omega) (by omega)).trans gE2
    have gS3 := (k3.get h.n (by omega) (by omega)).trans gS2
    obtain ⟨ow1, how1⟩ : ∃ f : Ow, f = fun q => if q = H.n then some (0, x.log, 0) else ow q := ⟨_, rfl⟩
    have hi1 : ∀ q tg, ow q = some tg → ow1 q = some tg := fun q tg hq => by rw [how1]; simp only; rw [if_neg (fun hh => hfr q (by omega) tg hq)]; exact hq
    have ho1 : ∀ q tg, ow1 q = some tg → ow q = some tg ∨ q = H.n := fun q tg hq => by
      rw [how1] at hq
      simp only at hq
      split at hq
      · rename_i hh; exact .inr hh
      · exact .inl hq
    obtain ⟨rv', h2, dv', h4, ow', ea1, g2, one1, cell1, ea2, g4, one2, cell2, k2i, k4i, kk2, kk4, kk5, hinc, hold, la⟩ := addTail (h := H3) (ow := ow1) (b := H.n) (k := x.log) (rs := []) (rv := .snil) (dv := .snil) (x.r, x.del) (by simp) gb3 (Own.snil _ _ _) (Own.snil _ _ _) (by rw [how1]; simp) (fun j hj => by simp [idOf] at hj) (fun j hj => by simp [idOf] at hj) (fun q tg hq => by
      rcases ho1 q tg hq with hh | hh
      · have := (w.old _ _ hh).2; omega
      · omega)
    simp only at ea1 ea2
    have kS : Keep h2 (h2.set H.n (.cells [.int .i64 x.log, rv', .snil] 36 none)) (· = H.n) := Keep.set _ _ _
    have kT : Keep h4 (h4.set H.n (.cells [.int .i64 x.log, rv', dv'] 36 none)) (· = H.n) := Keep.set _ _ _
    have ns : ∀ q, ¬ isId .snil q := fun q hh => by simp [isId, idOf] at hh
    have nn2 := k2i.n
    have gE4 := (kS.get (h.n + 1) (by omega) (by omega)).trans ((k2i.get (h.n + 1) (by omega) (ns _)).trans gE3)
    have kAll : Keep H (h4.set H.n (.cells [.int .i64 x.log, rv', dv'] 36 none)) (fun q => q = lm ∨ H.n ≤ q) :=
      (((((k2.up).trans k3 fun q hq hh => .inl hh).trans k2i fun q hq hh => (ns _ hh).elim).trans kS fun q hq hh => .inr (by omega)).trans k4i fun q hq hh => (ns _ hh).elim).trans kT fun q hq hh => .inr (by omega)
    have glF : (h4.set H.n (.cells [.int .i64 x.log, rv', dv'] 36 none)).get lm = .map (pmE (kset lc L x.log H.n)) (kclk lc L x.log) :=
      (kT.get lm (by have := k4i.n; have : (h2.set H.n (.cells [.int .i64 x.log, rv', .snil] 36 none)).n = h2.n := rfl; omega) (by omega)).trans ((k4i.get lm (by have : (h2.set H.n (.cells [.int .i64 x.log, rv', .snil] 36 none)).n = h2.n := rfl; omega) (ns _)).trans ((kS.get lm (by omega) (by omega)).trans ((k2i.get lm (by omega) (ns _)).trans gl3)))
    have lR := litR1 H3 x.r
    have lD := litD1 (h2.set H.n (.cells [.int .i64 x.log, rv', .snil] 36 none)) x.del
    have st1 : setC (some 1) (AObj.cells [V.int .i64 x.log, .snil, .snil] 36 none) 1 [rv'] = some (.cells [.int .i64 x.log, rv', .snil] 36 none) := by rw [setC_one one1]; rfl
    have st2 : setC (some 1) (AObj.cells [V.int .i64 x.log, rv', .snil] 36 none) 2 [dv'] = some (.cells [.int .i64 x.log, rv', dv'] 36 none) := by rw [setC_one one2]; rfl
    have f1 : ∀ q, isId .snil q = False := fun q => eq_false (ns q)
    have kp1 : Keep H3 (H3.push (.cells (rcdE x.r) 45 none)) (fun q => isId .snil q) := Keep.push _ _ _
    have kp2 : Keep (h2.set H.n (.cells [.int .i64 x.log, rv', .snil] 36 none)) ((h2.set H.n (.cells [.int .i64 x.log, rv', .snil] 36 none)).push (.cells [.bool x.del] 4 none)) (fun q => isId .snil q) := Keep.push _ _ _
    simp only [wpA_region, wpA_seq, wpA_cond, condI_true, seqQ_normal, goI_out, goI_ops, opsA_nil, opsA_cons, stepA_move, stepA_assign, stepA_box, stepA_build, stepA_load, stepA_unOp, stepA_fieldAddr, stepA_lookup, stepA_extract, thenV_some, thenH_some, extV_zero, extV_succ, eval_tmp, put_some, enterF_succ, aUn_not, cells_int, cells_agg, aField_eq, fieldGo_ptr, aLoad_eq, loadGo_one, aPlace_ptr, dropC_cells, setAll_nil, setAll_cons, aBox_eq, aBuild_go, aFill_nil, aFill_cons, fillGo_some, buildGo_struct, List.getElem?_cons_zero, Nat.reduceEqDiff, Nat.reduceAdd, Nat.reduceLeDiff, List.map_cons, List.map_nil, Option.map_some, Nat.add_zero, Nat.zero_add, List.length_cons, List.length_nil, List.drop_zero, List.drop_succ_cons, List.set_cons_zero, and_self, if_true, if_false, Bool.not_false, ft_47_4, ft_58_0, lt_3, lt_55, pl_36, zc_36, gE, entE, hlk]
    rw [← hH2]
    clear hH2
    simp only [wpA_seq, wpA_draw, seqQ_normal, goI_out, goI_ops, opsA_nil, opsA_cons, stepA_move, stepA_load, stepA_fieldAddr, stepA_mapUpdate, thenV_some, thenS_some, eval_tmp, put_some, enterF_succ, aField_eq, fieldGo_ptr, aLoad_eq, loadGo_one, aPlace_ptr, dropC_cells, Nat.reduceEqDiff, Nat.reduceAdd, Nat.reduceLeDiff, Nat.zero_add, Nat.zero_le, List.length_cons, List.length_nil, List.drop_zero, List.drop_succ_cons, if_true, if_false, ft_47_4, lt_3, gS2, gE2, entE, hup]
    rw [← hH3]
    clear hH3
    have k2n : Keep H3 h2 none_ := k2i.mono fun q hh => (ns _ hh).elim
    have k4n : Keep (h2.set H.n (.cells [.int .i64 x.log, rv', .snil] 36 none)) h4 none_ := k4i.mono fun q hh => (ns _ hh).elim
    refine SWp.drawnS none_ [7, 8, 11] (.q 0 (.q 1 (.q 2 (.q 3 (.q 4 (.q 5 (.q 6 (.e 7 (.e 8 (.q 9 (.q 10 (.a 11 .done))) .stop) .stop)))))))) (by kernel_rfl) (by kernel_rfl) (by kernel_rfl) ?_
    simp only [siI_done, siI_stop, siI_q, siI_a, siI_e, sqI_some, saI_some, seI_some, mOk_none', keepT1, implies_true, qI_nil, qI_cons, thenQ_some, q_move, q_load, q_nilCheck, q_fieldAddr, wpA_draw, seqQ_normal, goI_out, goI_ops, goI_mk, opsA_nil, opsA_cons, stepA_buildSlice, stepA_store, stepA_append, thenH_some, thenS_some, nilV_ptr, eval_tmp, put_some, put_none, enterF_succ, aField_eq, fieldGo_ptr, aLoad_eq, loadGo_one, loadGo_row, aPlace_ptr, dropC_cells, aStore_eq, storeGo_ptr, List.getElem?_cons_zero, List.getElem?_cons_succ, Bool.false_eq_true, Nat.reduceEqDiff, Nat.reduceAdd, Nat.reduceLeDiff, List.map_cons, List.map_nil, Option.map_some, Nat.zero_add, List.length_cons, List.length_nil, List.drop_zero, List.drop_succ_cons, List.take_succ_cons, List.take_zero, and_true, true_and, if_true, if_false, ft_36_1, ft_47_5, lt_33, lt_45, zt_33, gb3, gE3, entE, lR, ea1, g2, st1, cell1]
    refine ⟨k2n, ?_⟩
    refine SWp.drawnS none_ [7, 8, 11] (.q 0 (.q 1 (.q 2 (.q 3 (.q 4 (.q 5 (.q 6 (.e 7 (.e 8 (.q 9 (.q 10 (.a 11 .done))) .stop) .stop)))))))) (by kernel_rfl) (by kernel_rfl) (by kernel_rfl) ?_
    simp only [siI_done, siI_stop, siI_q, siI_a, siI_e, sqI_some, saI_some, seI_some, mOk_none', keepT1, implies_true, qI_nil, qI_cons, thenQ_some, q_move, q_load, q_nilCheck, q_fieldAddr, endI_mk, goI_out, goI_ops, goI_mk, opsA_nil, opsA_cons, stepA_buildSlice, stepA_store, stepA_append, thenH_some, thenS_some, nilV_ptr, eval_tmp, put_some, put_none, enterF_succ, aField_eq, fieldGo_ptr, aLoad_eq, loadGo_one, aPlace_ptr, dropC_cells, aStore_eq, storeGo_ptr, set_n, get_set_same, List.getElem?_cons_zero, List.getElem?_cons_succ, Bool.false_eq_true, Nat.reduceEqDiff, Nat.reduceAdd, Nat.reduceLeDiff, List.map_cons, List.map_nil, Option.map_some, Nat.zero_add, List.length_cons, List.length_nil, List.drop_zero, List.drop_succ_cons, and_true, true_and, if_true, if_false, ft_36_2, ft_47_6, lt_34, lt_4, zt_34, gE4, entE, lD, ea2, g4, st2, cell2, retA_normal, Tryd.results37, resultsA_0]
    refine ⟨k4n, ?_⟩
    have wF := wH.newLog (rs := logs x.log ++ [(x.r, x.del)]) hk kAll (fun q hh => hh) glF (fun q tg hq => hinc _ _ (hi1 _ _ hq)) (fun q tg hq => by
      rcases hold q tg hq with hh | hh
      · rcases ho1 q tg hh with h1 | h1
        · exact .inl h1
        · have := kAll.n; have := k4i.n; have : (h4.set H.n (.cells [.int .i64 x.log, rv', dv'] 36 none)).n = h4.n := rfl; have : (h2.set H.n (.cells [.int .i64 x.log, rv', .snil] 36 none)).n = h2.n := rfl; exact .inr ⟨by omega, by omega⟩
      · have : (h4.set H.n (.cells [.int .i64 x.log, rv', dv'] 36 none)).n = h4.n := rfl
        exact .inr ⟨by omega, by omega⟩) (by rw [hemp]; exact la) (by simp)
    exact hid_mk ⟨rfl, _, _, ow', wF, fun q tg hq => hinc _ _ (hi1 _ _ hq), (kH.up).trans kAll fun q hq hh => by
      rcases hh with hh | hh
      · exact .inl hh
      · omega, fun q tg hq => by
      rcases hold q tg hq with hh | hh
      · rcases ho1 q tg hh with h1 | h1
        · exact .inl h1
        · exact .inr (by omega)
      · exact .inr (by omega)⟩
end Go.Proofs.YtcdpepdjeneelaaDoor.Pk
