/-
  What functions of the program do, told of abstract states. Conditions: as each theorem says.
-/
import Derived.Test.YtcdpepdjeneelaaDoorVsA
namespace Go.Proofs.YtcdpepdjeneelaaDoor.Pk
open Go Go.Proofs Go.Proofs.YtcdpepdjeneelaaDoor.Ab Go.Proofs.Vw
set_option linter.unusedVariables false
set_option linter.unusedSimpArgs false
theorem VS.on {h0 h h' : AHeap} {lm tm lc tc : Nat} {logs : Int → List LR} {tasks : Int → Option Jb} {L T : PM} {ow : Ow} (w : VS h0 h lm tm logs tasks L lc T tc ow) (k : Keep h h' none_) : VS h0 h' lm tm logs tasks L lc T tc ow where
  keep := w.keep.trans' k
  old q tg hq := ⟨(w.old q tg hq).1, Nat.lt_of_lt_of_le (w.old q tg hq).2 k.n⟩
  owl := w.owl
  owt := w.owt
  gl := (k.get lm (w.old _ _ w.owl).2 (by simp [none_])).trans w.gl
  gt := (k.get tm (w.old _ _ w.owt).2 (by simp [none_])).trans w.gt
  stl := w.stl
  stt := w.stt
  ndl := w.ndl
  ndt := w.ndt
  has q b hq := ⟨(w.has q b hq).1.on k (fun _ hh => hh.elim) (fun _ _ hh => hh) fun q tg hh => (w.old q tg hh).2, (w.has q b hq).2⟩
  hasn := w.hasn
  job t b hq := by
    obtain ⟨j, h1, h2⟩ := w.job t b hq
    exact ⟨j, h1, h2.on k (fun _ hh => hh.elim) (fun _ _ hh => hh) fun q tg hh => (w.old q tg hh).2⟩
  jobn := w.jobn
def jb0 : Jb := ⟨0, 0, [], [], []⟩
def named (tasks : Int → Option Jb) (t : Int) : Int → Option Jb := fun n => if n = t then some ((tasks t).getD jb0) else tasks n
set_option maxHeartbeats 1000000 in
set_option maxRecDepth 10000 in
theorem pTask {h0 h : AHeap} {lm tm lc tc : Nat} {logs : Int → List LR} {tasks : Int → Option Jb} {L T : PM} {ow : Ow} (t : Int) (w : VS h0 h lm tm logs tasks L lc T tc ow) :
    SCalls Tryd.prog 38 [.agg [.map lm, .map tm], .int .i64 t] h (fun r h' => ∃ b T' tc' ow', r = .ptr b 0 ∧ kget T' t = some b ∧ VS h0 h' lm tm logs (named tasks t) L lc T' tc' ow' ∧ Keep h h' (fun q => q = tm) ∧ (∀ q tg, ow' q = some tg → ow q = some tg ∨ h.n ≤ q)) := by
  refine SCalls.enterI (c := _) Tryd.func38 rfl (by kernel_rfl) (by simp) ?_
  obtain ⟨H, hH⟩ : ∃ y, y = h.push (.cells [.map lm, .map tm] 58 none) := ⟨_, rfl⟩
  have kH : Keep h H none_ := by rw [hH]; exact Keep.push _ _ _
  have gS : H.get h.n = .cells [.map lm, .map tm] 58 none := by rw [hH]; exact get_push_new
  have nH : H.n = h.n + 1 := by rw [hH]; rfl
  have wH := w.on kH
  have hc : (V.agg [.map lm, .map tm]).cells = some [.map lm, .map tm] := rfl
  have hlk := lookJ T t wH.gt
  simp only [wpA_region, wpA_seq, seqQ_normal, goI_out, goI_ops, opsA_nil, opsA_cons, stepA_move, stepA_assign, stepA_box, stepA_load, stepA_fieldAddr, stepA_lookup, thenV_some, thenH_some, eval_tmp, eval_const, put_some, enterF_zero, enterF_succ, absV_pnil, aField_eq, fieldGo_ptr, aLoad_eq, loadGo_one, aPlace_ptr, dropC_cells, aBox_eq, get_push_new, Nat.reduceEqDiff, Nat.reduceAdd, Nat.reduceLeDiff, Option.map_some, Nat.zero_add, List.length_cons, List.length_nil, List.drop_zero, List.drop_succ_cons, if_true, if_false, ft_58_1, lt_56, hc]
  rw [← hH]
  clear hH
  cases hk : kget T t with
  | some b =>
    rw [hk] at hlk
    obtain ⟨j, hj, _⟩ := w.job t b hk
    have hnm : named tasks t = tasks := by
      funext n
      unfold named
      split
      · rename_i hh; rw [hh, hj]; rfl
      · rfl
    simp only [wpA_skip, wpA_region, wpA_seq, wpA_cond, wpA_ret, condI_false, seqQ_normal, endI_mk, goI_out, goI_ops, opsA_nil, opsA_cons, stepA_move, stepA_assign, stepA_unOp, stepA_extract, thenV_some, extV_zero, extV_succ, eval_tmp, put_some, enterF_succ, aUn_not, Nat.reduceEqDiff, if_true, if_false, Bool.not_true, hlk, retA_ret, Tryd.results38, resultsA_1]
    exact hid_mk ⟨b, T, tc, ow, rfl, hk, by rw [hnm]; exact wH, kH.up, fun _ _ hh => .inl hh⟩
  | none =>
    rw [hk] at hlk
    have ht := w.jobn t hk
    obtain ⟨H2, hH2⟩ : ∃ y, y = H.push (.cells [.int .i64 t, .int .i64 0, .int .i64 0, .snil, .snil, .int .i64 0, .snil] 71 none) := ⟨_, rfl⟩
    have k2 : Keep H H2 none_ := by rw [hH2]; exact Keep.push _ _ _
    have gb : H2.get H.n = .cells [.int .i64 t, .int .i64 0, .int .i64 0, .snil, .snil, .int .i64 0, .snil] 71 none := by rw [hH2]; exact get_push_new
    have n2 : H2.n = H.n + 1 := by rw [hH2]; rfl
    have w2 := wH.on k2
    have gS2 := (k2.get h.n (by omega) (by simp [none_])).trans gS
    have hup := updJ T t H.n w2.gt
    simp only [wpA_region, wpA_seq, wpA_cond, condI_true, seqQ_normal, goI_out, goI_ops, opsA_nil, opsA_cons, stepA_move, stepA_assign, stepA_box, stepA_build, stepA_load, stepA_unOp, stepA_fieldAddr, stepA_extract, thenV_some, thenH_some, extV_zero, extV_succ, eval_tmp, put_some, enterF_zero, enterF_succ, aUn_not, cells_int, cells_agg, aField_eq, fieldGo_ptr, aLoad_eq, aPlace_ptr, setAll_nil, setAll_cons, aBox_eq, aBuild_go, aFill_nil, aFill_cons, fillGo_some, buildGo_struct, List.getElem?_cons_zero, Nat.reduceEqDiff, Nat.reduceAdd, Nat.reduceLeDiff, List.map_cons, List.map_nil, Option.map_some, Nat.zero_add, List.length_cons, List.length_nil, List.set_cons_zero, List.set_cons_succ, and_self, if_true, if_false, Bool.not_false, ft_58_1, lt_56, pl_41, pl_71, zc_41, zc_71, hlk]
    rw [← hH2]
    clear hH2
    simp only [wpA_region, wpA_seq, wpA_ret, seqQ_normal, endI_mk, goI_out, goI_ops, opsA_nil, opsA_cons, stepA_move, stepA_assign, stepA_mapUpdate, thenV_some, thenS_some, eval_tmp, put_some, put_none, enterF_zero, enterF_succ, loadGo_one, dropC_cells, Nat.reduceEqDiff, Nat.reduceAdd, Nat.reduceLeDiff, Nat.zero_add, List.length_cons, List.length_nil, List.drop_zero, List.drop_succ_cons, if_true, if_false, gS2, hup, retA_ret, Tryd.results38, resultsA_1]
    have kS : Keep H2 (H2.set tm (.map (pmE (kset tc T t H.n)) (kclk tc T t))) (· = tm) := Keep.set _ _ _
    have hmn := w.old _ _ w.owt
    have hlm := w.old _ _ w.owl
    have hfree : ow H.n = none := by
      cases hq : ow H.n with
      | none => rfl
      | some tg => have := (w.old _ _ hq).2; omega
    obtain ⟨ow', how⟩ : ∃ g : Ow, g = fun q => if q = H.n then some (1, t, 0) else ow q := ⟨_, rfl⟩
    have hinc : ∀ q tg, ow q = some tg → ow' q = some tg := fun q tg hq => by
      rw [how]; simp only; rw [if_neg (fun hh => by rw [hh, hfree] at hq; cases hq)]; exact hq
    have hnew : ow' H.n = some (1, t, 0) := by rw [how]; simp
    refine hid_mk ⟨H.n, kset tc T t H.n, kclk tc T t, ow', rfl, by rw [kget_kset, if_pos rfl], ?_, ((kH.trans' k2).up).trans kS fun q hq hh => hh, fun q tg hq => by
      rw [how] at hq
      simp only at hq
      split at hq
      · exact .inr (by omega)
      · exact .inl hq⟩
    refine ⟨(w.keep.trans' (kH.trans' k2)).trans kS fun q hq hh => by omega, fun q tg hq => ?_, hinc _ _ w.owl, hinc _ _ w.owt, ?_, get_set_same, w.stl, Stamps.kset w.stt t H.n, w.ndl, w.ndt.set tc t H.n, fun k b hq => ?_, w.hasn, fun u b hq => ?_, fun u hq => ?_⟩
    · rw [how] at hq
      simp only at hq
      split at hq
      · have := w.keep.n; rw [set_n]; omega
      · have := w.old q tg hq; rw [set_n]; omega
    · exact (kS.get lm (by omega) (fun hh => by have h1 := w.owl; have h2 := w.owt; rw [hh, h2] at h1; simp at h1)).trans w2.gl
    · refine ⟨(w2.has k b hq).1.on kS (fun q hh i he => ?_) hinc fun q tg hh => (w2.old q tg hh).2, (w2.has k b hq).2⟩
      rw [hh, w.owt] at he
      simp at he
    · rw [kget_kset] at hq
      by_cases hu : u = t
      · rw [if_pos hu] at hq
        injection hq with hq
        subst hq
        subst hu
        refine ⟨jb0, by unfold named; rw [if_pos rfl, ht]; rfl, .snil, .snil, .snil, (kS.get H.n (by omega) (by omega)).trans gb, .inl ⟨rfl, rfl⟩, Own.snil _ _ _, Own.snil _ _ _, hnew, fun q hh => by simp [idOf] at hh, fun q hh => by simp [idOf] at hh⟩
      · rw [if_neg hu] at hq
        obtain ⟨j, h1, h2⟩ := w2.job u b hq
        refine ⟨j, by unfold named; rw [if_neg hu]; exact h1, h2.on kS (fun q hh i he => ?_) hinc fun q tg hh => (w2.old q tg hh).2⟩
        rw [hh, w.owt] at he
        simp at he
    · rw [kget_kset] at hq
      by_cases hu : u = t
      · rw [if_pos hu] at hq; cases hq
      · rw [if_neg hu] at hq
        unfold named
        rw [if_neg hu]
        exact w.jobn u hq
end Go.Proofs.YtcdpepdjeneelaaDoor.Pk
