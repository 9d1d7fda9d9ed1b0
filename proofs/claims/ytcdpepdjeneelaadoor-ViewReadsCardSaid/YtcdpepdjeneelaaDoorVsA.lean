/-
  What functions of the program do, told of abstract states. Conditions: as each theorem says.
-/
import Derived.Test.YtcdpepdjeneelaaDoorVeD
import Derived.Test.YtcdpepdjeneelaaDoorVwM
import Derived.Test.YtcdpepdjeneelaaDoorAbD
import Derived.Test.YtcdpepdjeneelaaDoorAbD
namespace Go.Proofs.YtcdpepdjeneelaaDoor.Pk
open Go Go.Proofs Go.Proofs.YtcdpepdjeneelaaDoor.Ab Go.Proofs.Vw
set_option linter.unusedVariables false
set_option linter.unusedSimpArgs false
/-! ### Where a view's logs and jobs lie -/
abbrev LR := Rcd × Bool
def toEn (x : Ent) : En LR := ⟨x.kind.toNat, x.task, x.epoch, x.txn, x.log, (x.r, x.del), x.offs, x.order⟩
def pndE (p : Ent × Nat) : List V := entE p.1 ++ [.int .i64 (p.2 : Nat)]
theorem pndE_len (p : Ent × Nat) : (pndE p).length = 12 := rfl
abbrev Tag := Nat × Int × Nat
abbrev Ow := Nat → Option Tag
abbrev PM := List (Nat × Int × Nat)
def pmE (m : PM) : List (Nat × V × V) := mapK (V.int .i64) (fun b : Nat => V.ptr b 0) m
/-- A log: which block is which part of it is told by tags, so that parts are apart. -/
def LogAt (h : AHeap) (ow : Ow) (b : Nat) (k : Int) (rs : List LR) : Prop := ∃ rv dv, h.get b = .cells [.int .i64 k, rv, dv] 36 none ∧
  Own h 45 3 rv (rs.flatMap fun p => rcdE p.1) ∧ Own h 4 1 dv (rs.map fun p => V.bool p.2) ∧ ow b = some (0, k, 0) ∧ (∀ j, idOf rv = some j → ow j = some (0, k, 1)) ∧ (∀ j, idOf dv = some j → ow j = some (0, k, 2))
/-- The model's job, with entries as they are in the program. -/
structure Jb where
  ep : Int
  tx : Int
  offs : List Int
  ord : List Int
  opn : List (Ent × Nat)
def Jb.m (j : Jb) : Job LR := ⟨j.ep, j.tx, j.offs, j.ord, j.opn.map fun p => (toEn p.1, p.2)⟩
def OffV (v : V) (l : List Int) : Prop := (v = .snil ∧ l = []) ∨ v = .imm l.length (i64V l)
def JobAt (h : AHeap) (ow : Ow) (b : Nat) (t : Int) (j : Jb) : Prop := ∃ fv ov pv, h.get b = .cells [.int .i64 t, .int .i64 j.ep, .int .i64 j.tx, fv, ov, .int .i64 0, pv] 71 none ∧ OffV fv j.offs ∧
  Own h 3 1 ov (i64V j.ord) ∧ Own h 73 12 pv (j.opn.flatMap pndE) ∧ ow b = some (1, t, 0) ∧ (∀ q, idOf ov = some q → ow q = some (1, t, 1)) ∧ (∀ q, idOf pv = some q → ow q = some (1, t, 2))
theorem LogAt.on {h h' : AHeap} {ow ow' : Ow} {b : Nat} {k : Int} {rs : List LR} (a : LogAt h ow b k rs) {own : Nat → Prop} (kp : Keep h h' own) (hn : ∀ q, own q → ∀ i, ow q ≠ some (0, k, i)) (ho : ∀ q tg, ow q = some tg → ow' q = some tg) (hb : ∀ q tg, ow q = some tg → q < h.n) : LogAt h' ow' b k rs := by
  obtain ⟨rv, dv, h1, h2, h3, h4, h5, h6⟩ := a
  exact ⟨rv, dv, (kp.get b (hb _ _ h4) (fun hh => hn _ hh _ h4)).trans h1, h2.keep kp (fun j hj hh => hn _ hh _ (h5 j hj)), h3.keep kp (fun j hj hh => hn _ hh _ (h6 j hj)), ho _ _ h4, fun j hj => ho _ _ (h5 j hj), fun j hj => ho _ _ (h6 j hj)⟩
theorem JobAt.on {h h' : AHeap} {ow ow' : Ow} {b : Nat} {t : Int} {j : Jb} (a : JobAt h ow b t j) {own : Nat → Prop} (kp : Keep h h' own) (hn : ∀ q, own q → ∀ i, ow q ≠ some (1, t, i)) (ho : ∀ q tg, ow q = some tg → ow' q = some tg) (hb : ∀ q tg, ow q = some tg → q < h.n) : JobAt h' ow' b t j := by
  obtain ⟨fv, ov, pv, h1, h0, h2, h3, h4, h5, h6⟩ := a
  exact ⟨fv, ov, pv, (kp.get b (hb _ _ h4) (fun hh => hn _ hh _ h4)).trans h1, h0, h2.keep kp (fun j hj hh => hn _ hh _ (h5 j hj)), h3.keep kp (fun j hj hh => hn _ hh _ (h6 j hj)), ho _ _ h4, fun j hj => ho _ _ (h5 j hj), fun j hj => ho _ _ (h6 j hj)⟩
/-- The state of a view. -/
structure VS (h0 h : AHeap) (lm tm : Nat) (logs : Int → List LR) (tasks : Int → Option Jb) (L : PM) (lc : Nat) (T : PM) (tc : Nat) (ow : Ow) : Prop where
  keep : Keep h0 h none_
  old : ∀ q tg, ow q = some tg → h0.n ≤ q ∧ q < h.n
  owl : ow lm = some (2, 0, 0)
  owt : ow tm = some (2, 0, 1)
  gl : h.get lm = .map (pmE L) lc
  gt : h.get tm = .map (pmE T) tc
  stl : Stamps (pmE L) lc
  stt : Stamps (pmE T) tc
  ndl : KNodup L
  ndt : KNodup T
  has : ∀ k b, kget L k = some b → LogAt h ow b k (logs k) ∧ logs k ≠ []
  hasn : ∀ k, kget L k = none → logs k = []
  job : ∀ t b, kget T t = some b → ∃ j, tasks t = some j ∧ JobAt h ow b t j
  jobn : ∀ t, kget T t = none → tasks t = none
set_option maxRecDepth 10000 in
/-- A fence. -/
theorem fence (h : AHeap) (ow : Ow) (b : Nat) (t e : Int) (j : Jb) (a : JobAt h ow b t j) (hb : ∀ q tg, ow q = some tg → q < h.n) :
    SCalls Tryd.prog 39 [.ptr b 0, .int .i64 e] h (fun r h' => r = .tuple [] ∧ Keep h h' (· = b) ∧ JobAt h' ow b t (if j.ep < e then { j with ep := e, opn := [] } else j)) := by
  obtain ⟨fv, ov, pv, g, h0, h2, h3, h4, h5, h6⟩ := a
  refine SCalls.enterI (c := _) Tryd.func39 rfl (by kernel_rfl) (by simp) ?_
  by_cases hlt : j.ep < e
  · have c1 : decide (j.ep < e) = true := decide_eq_true hlt
    rw [if_pos hlt]
    simp only [wpA_region, wpA_seq, wpA_cond, condI_true, seqQ_normal, endI_mk, goI_out, goI_ops, opsA_nil, opsA_cons, stepA_move, stepA_load, stepA_store, stepA_nilCheck, stepA_binOp, stepA_fieldAddr, thenV_some, thenS_some, nilV_ptr, eval_tmp, eval_const, put_some, put_none, enterF_zero, enterF_succ, aBin_gtr, absV_snil, cells_int, cells_snil, one_int, one_snil, all_nil, all_cons, aField_eq, fieldGo_ptr, aLoad_eq, loadGo_one, aPlace_ptr, dropC_cells, aStore_eq, storeGo_ptr, setC_row, setAll_nil, setAll_cons, get_set_same, set_set, Nat.reduceEqDiff, Nat.reduceAdd, Nat.reduceLeDiff, reduceCtorEq, Option.map_some, Nat.add_zero, Nat.zero_add, List.length_cons, List.length_nil, List.drop_zero, List.drop_succ_cons, List.set_cons_zero, List.set_cons_succ, if_true, if_false, Bool.and_self, Nat.le_refl, ft_41_1, ft_71_0, ft_71_1, lt_3, zt_3, zt_69, g, c1, retA_normal, Tryd.results39, resultsA_0]
    have kF : ∀ o, Keep h (h.set b o) (· = b) := fun o => Keep.set _ _ _
    refine hid_mk ⟨rfl, kF _, fv, ov, .snil, get_set_same, h0, h2.keep (kF _) (fun q hq hh => ?_), Own.snil _ _ _, h4, h5, fun q hq => by simp [idOf] at hq⟩
    have := h5 q hq
    rw [hh, h4] at this
    simp at this
  · have c1 : decide (j.ep < e) = false := decide_eq_false hlt
    rw [if_neg hlt]
    simp only [wpA_skip, wpA_region, wpA_seq, wpA_cond, condI_false, seqQ_normal, endI_mk, goI_out, goI_ops, opsA_nil, opsA_cons, stepA_move, stepA_load, stepA_nilCheck, stepA_binOp, stepA_fieldAddr, thenV_some, nilV_ptr, eval_tmp, put_some, enterF_zero, enterF_succ, aBin_gtr, aField_eq, fieldGo_ptr, aLoad_eq, loadGo_one, aPlace_ptr, dropC_cells, Nat.reduceEqDiff, Nat.reduceAdd, Nat.reduceLeDiff, reduceCtorEq, Nat.add_zero, Nat.zero_add, List.length_cons, List.length_nil, List.drop_zero, List.drop_succ_cons, if_true, if_false, ft_41_1, ft_71_0, lt_3, g, c1, retA_normal, Tryd.results39, resultsA_0]
    exact hid_mk ⟨rfl, Keep.refl _ _, fv, ov, pv, g, h0, h2, h3, h4, h5, h6⟩
theorem mp_job : ∃ et, mapT Tryd.prog 56 = some (3, et, .int .i64) ∧ zeroT Tryd.prog et = some (.pointer none) := by
  have h : (mapT Tryd.prog 56).map (fun q => (q.1, q.2.1)) = some (3, 68) := by kernel_rfl
  have hu : Tryd.prog.underlying 3 = some (.int .i64) := Tryd.underlying3
  cases hm : mapT Tryd.prog 56 with
  | none => rw [hm] at h; cases h
  | some q =>
    rw [hm] at h
    obtain ⟨a, b, d⟩ := q
    simp only [Option.map_some, Option.some.injEq, Prod.mk.injEq] at h
    obtain ⟨rfl, rfl⟩ := h
    have := (mapT_eq hm).2
    rw [hu] at this
    cases this
    exact ⟨_, rfl, by kernel_rfl⟩
theorem mp_log : ∃ et, mapT Tryd.prog 55 = some (3, et, .int .i64) ∧ zeroT Tryd.prog et = some (.pointer none) := by
  have h : (mapT Tryd.prog 55).map (fun q => (q.1, q.2.1)) = some (3, 87) := by kernel_rfl
  have hu : Tryd.prog.underlying 3 = some (.int .i64) := Tryd.underlying3
  cases hm : mapT Tryd.prog 55 with
  | none => rw [hm] at h; cases h
  | some q =>
    rw [hm] at h
    obtain ⟨a, b, d⟩ := q
    simp only [Option.map_some, Option.some.injEq, Prod.mk.injEq] at h
    obtain ⟨rfl, rfl⟩ := h
    have := (mapT_eq hm).2
    rw [hu] at this
    cases this
    exact ⟨_, rfl, by kernel_rfl⟩
theorem lookJ {h : AHeap} {i cl : Nat} (m : PM) (k : Int) (hg : h.get i = .map (pmE m) cl) : aLookup Tryd.prog 56 (.map i) (.int .i64 k) true h = some (match kget m k with | some b => .tuple [.ptr b 0, .bool true] | none => .tuple [.pnil, .bool false]) := by
  obtain ⟨et, hm, hz⟩ := mp_job
  have := lookup_k (enc := fun b : Nat => V.ptr b 0) (ok := true) (KeyEnc.ofInt hm) (k := k) hm hz hg
  rw [this]
  cases kget m k <;> simp [absV, absF]
theorem updJ {h : AHeap} {i cl : Nat} (m : PM) (k : Int) (b : Nat) (hg : h.get i = .map (pmE m) cl) : aUpdate Tryd.prog 56 (.map i) (.int .i64 k) (.ptr b 0) h = some (h.set i (.map (pmE (kset cl m k b)) (kclk cl m k))) := by
  obtain ⟨et, hm, _⟩ := mp_job
  exact update_k (enc := fun b : Nat => V.ptr b 0) (KeyEnc.ofInt hm) (k := k) hm hg rfl
theorem lookL {h : AHeap} {i cl : Nat} (m : PM) (k : Int) (hg : h.get i = .map (pmE m) cl) : aLookup Tryd.prog 55 (.map i) (.int .i64 k) true h = some (match kget m k with | some b => .tuple [.ptr b 0, .bool true] | none => .tuple [.pnil, .bool false]) := by
  obtain ⟨et, hm, hz⟩ := mp_log
  have := lookup_k (enc := fun b : Nat => V.ptr b 0) (ok := true) (KeyEnc.ofInt hm) (k := k) hm hz hg
  rw [this]
  cases kget m k <;> simp [absV, absF]
theorem updL {h : AHeap} {i cl : Nat} (m : PM) (k : Int) (b : Nat) (hg : h.get i = .map (pmE m) cl) : aUpdate Tryd.prog 55 (.map i) (.int .i64 k) (.ptr b 0) h = some (h.set i (.map (pmE (kset cl m k b)) (kclk cl m k))) := by
  obtain ⟨et, hm, _⟩ := mp_log
  exact update_k (enc := fun b : Nat => V.ptr b 0) (KeyEnc.ofInt hm) (k := k) hm hg rfl
end Go.Proofs.YtcdpepdjeneelaaDoor.Pk
