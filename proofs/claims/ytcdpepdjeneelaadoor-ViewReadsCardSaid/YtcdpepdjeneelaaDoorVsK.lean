/-
  What functions of the program do, told of abstract states. Conditions: as each theorem says.
-/
import Derived.Test.YtcdpepdjeneelaaDoorVsJ
import Derived.Test.YtcdpepdjeneelaaDoorAbD
namespace Go.Proofs.YtcdpepdjeneelaaDoor.Pk
open Go Go.Proofs Go.Proofs.YtcdpepdjeneelaaDoor.Ab Go.Proofs.Vw
set_option linter.unusedVariables false
set_option linter.unusedSimpArgs false
/-! ### What a view's blocks hold, told as read-only -/
def logC (p : Int × List LR) : List V := [.int .i64 p.1, .imm p.2.length (recL p.2), .imm p.2.length (delL p.2)]
def jobC (t : Int) (j : Jb) : List V := [.int .i64 t, .int .i64 j.ep, .int .i64 j.tx, .imm j.offs.length (i64V j.offs), .imm j.ord.length (i64V j.ord), .int .i64 0, .imm j.opn.length (pndL j.opn)]
theorem logC_len (p : Int × List LR) : (logC p).length = 3 := rfl
theorem delL_len (rs : List LR) : (delL rs).length = rs.length * 1 := by simp [delL]
theorem pndL_len (l : List (Ent × Nat)) : (pndL l).length = l.length * 12 := rows_len pndE_len l
theorem CL1 {v v2 : V} {h h2 : AHeap} (a : Cast v h v2 h2) : CastL [v] h [v2] h2 := CastL.cons a (CastL.refl [] h2)
theorem freezeLog {h : AHeap} {ow : Ow} {b : Nat} {k : Int} {rs : List LR} (a : LogAt h ow b k rs) (hold : ∀ q tg, ow q = some tg → q < h.n) :
    ∃ h', (∀ r, Cast r h r h') ∧ Keep h h' (fun q => ∃ i, ow q = some (0, k, i)) ∧ h'.get b = .cells (logC (k, rs)) 36 none := by
  obtain ⟨rv, dv, g, o1, o2, t0, t1, t2⟩ := a
  obtain ⟨h1, c1, k1⟩ := Cast.own (cs := recL rs) o1 (n := rs.length) (recL_len rs) (by decide)
  have o2' := o2.keep k1 fun j hj hh => by have a := t1 j hh; have b := t2 j hj; rw [a] at b; simp at b
  obtain ⟨h2, c2, k2⟩ := Cast.own (cs := delL rs) o2' (n := rs.length) (delL_len rs) (by decide)
  have hb := hold _ _ t0
  have ne1 : ¬ isId rv b := fun hh => by have := t1 b hh; rw [t0] at this; simp at this
  have ne2 : ¬ isId dv b := fun hh => by have := t2 b hh; rw [t0] at this; simp at this
  have g2 : h2.get b = _ := (k2.get b (by have := k1.n; omega) ne2).trans ((k1.get b hb ne1).trans g)
  have hcl : CastL [.int .i64 k, rv, dv] h [.int .i64 k, .imm rs.length (recL rs), .imm rs.length (delL rs)] h2 := CastL.cons (Cast.refl _ _) (CastL.cons c1 (CL1 c2))
  refine ⟨h2.set b (.cells (logC (k, rs)) 36 none), fun r => Cast.cellC g hcl g2 rfl r, ?_, get_set_same⟩
  exact ((k1.mono (o' := fun q => ∃ i, ow q = some (0, k, i)) fun q hh => ⟨1, t1 q hh⟩).trans k2 fun q hq hh => ⟨2, t2 q hh⟩).trans (Keep.set _ _ _) fun q hq hh => ⟨0, by rw [hh]; exact t0⟩
theorem freezeJob {h : AHeap} {ow : Ow} {b : Nat} {t : Int} {j : Jb} (a : JobAt h ow b t j) (hold : ∀ q tg, ow q = some tg → q < h.n) :
    ∃ h', (∀ r, Cast r h r h') ∧ Keep h h' (fun q => ∃ i, ow q = some (1, t, i)) ∧ h'.get b = .cells (jobC t j) 71 none := by
  obtain ⟨fv, ov, pv, g, hf, o1, o2, t0, t1, t2⟩ := a
  obtain ⟨h1, c1, k1⟩ := Cast.own o1 (n := j.ord.length) (by rw [i64V_length, Nat.mul_one]) (by decide)
  have o2' := o2.keep k1 fun q hj hh => by have a := t1 q hh; have b := t2 q hj; rw [a] at b; simp at b
  obtain ⟨h2, c2, k2⟩ := Cast.own (cs := pndL j.opn) o2' (n := j.opn.length) (pndL_len j.opn) (by decide)
  have hb := hold _ _ t0
  have ne1 : ¬ isId ov b := fun hh => by have := t1 b hh; rw [t0] at this; simp at this
  have ne2 : ¬ isId pv b := fun hh => by have := t2 b hh; rw [t0] at this; simp at this
  have g2 : h2.get b = _ := (k2.get b (by have := k1.n; omega) ne2).trans ((k1.get b hb ne1).trans g)
  have cf : Cast fv h (.imm j.offs.length (i64V j.offs)) h := by
    rcases hf with ⟨rfl, e⟩ | rfl
    · rw [e]; exact Cast.nil0 h
    · exact Cast.refl _ h
  have hcl : CastL [.int .i64 t, .int .i64 j.ep, .int .i64 j.tx, fv, ov,  .int .i64 0, pv] h [.int .i64 t, .int .i64 j.ep, .int .i64 j.tx, .imm j.offs.length (i64V j.offs), .imm j.ord.length (i64V j.ord), .int .i64 0, .imm j.opn.length (pndL j.opn)] h2 := CastL.cons (Cast.refl _ _) (CastL.cons (Cast.refl _ _) (CastL.cons (Cast.refl _ _) (CastL.cons cf (CastL.cons c1 (CastL.cons (Cast.refl _ _) (CL1 c2))))))
  refine ⟨h2.set b (.cells (jobC t j) 71 none), fun r => Cast.cellC g hcl g2 rfl r, ?_, get_set_same⟩
  exact ((k1.mono (o' := fun q => ∃ i, ow q = some (1, t, i)) fun q hh => ⟨1, t1 q hh⟩).trans k2 fun q hq hh => ⟨2, t2 q hh⟩).trans (Keep.set _ _ _) fun q hq hh => ⟨0, by rw [hh]; exact t0⟩
theorem freezeLogs {ow : Ow} {logs : Int → List LR} : ∀ (ks : PM) (h : AHeap), KNodup ks → (∀ e ∈ ks, LogAt h ow e.2.2 e.2.1 (logs e.2.1)) → (∀ q tg, ow q = some tg → q < h.n) →
    ∃ h', (∀ r, Cast r h r h') ∧ Keep h h' (fun q => ∃ e ∈ ks, ∃ i, ow q = some (0, e.2.1, i)) ∧ ∀ e ∈ ks, h'.get e.2.2 = .cells (logC (e.2.1, logs e.2.1)) 36 none
  | [], h, _, _, _ => ⟨h, fun r => Cast.refl r h, Keep.refl _ _, by simp⟩
  | e :: ks, h, hn, ha, ho => by
    have hn' := List.nodup_cons.1 hn
    have hne : ∀ x ∈ ks, x.2.1 ≠ e.2.1 := fun x hx hh => hn'.1 (List.mem_map.2 ⟨x, hx, hh⟩)
    have ae := ha e (by simp)
    have t0 := ae
    obtain ⟨_, _, _, _, _, t0, _⟩ := t0
    obtain ⟨h1, c1, k1, g1⟩ := freezeLog ae ho
    have ho1 : ∀ q tg, ow q = some tg → q < h1.n := fun q tg hq => Nat.lt_of_lt_of_le (ho q tg hq) k1.n
    obtain ⟨h2, c2, k2, g2⟩ := freezeLogs ks h1 hn'.2 (fun x hx => (ha x (by simp [hx])).on k1 (fun q ⟨i, hh⟩ i2 he => by rw [hh] at he; simp at he; exact hne x hx he.1.symm) (fun _ _ hh => hh) ho) ho1
    refine ⟨h2, fun r => (c1 r).trans (c2 r), (k1.mono (o' := fun q => ∃ x ∈ e :: ks, ∃ i, ow q = some (0, x.2.1, i)) fun q ⟨i, hh⟩ => ⟨e, by simp, i, hh⟩).trans k2 fun q hq ⟨x, hx, i, hh⟩ => ⟨x, by simp [hx], i, hh⟩, fun x hx => ?_⟩
    rcases List.mem_cons.1 hx with rfl | hx
    · rw [k2.get _ (ho1 _ _ t0) (fun ⟨y, hy, i, hh⟩ => by rw [t0] at hh; simp at hh; exact hne y hy hh.1.symm)]
      exact g1
    · exact g2 x hx
theorem freezeJobs {ow : Ow} {jobs : Int → Jb} : ∀ (ks : PM) (h : AHeap), KNodup ks → (∀ e ∈ ks, JobAt h ow e.2.2 e.2.1 (jobs e.2.1)) → (∀ q tg, ow q = some tg → q < h.n) →
    ∃ h', (∀ r, Cast r h r h') ∧ Keep h h' (fun q => ∃ e ∈ ks, ∃ i, ow q = some (1, e.2.1, i)) ∧ ∀ e ∈ ks, h'.get e.2.2 = .cells (jobC e.2.1 (jobs e.2.1)) 71 none
  | [], h, _, _, _ => ⟨h, fun r => Cast.refl r h, Keep.refl _ _, by simp⟩
  | e :: ks, h, hn, ha, ho => by
    have hn' := List.nodup_cons.1 hn
    have hne : ∀ x ∈ ks, x.2.1 ≠ e.2.1 := fun x hx hh => hn'.1 (List.mem_map.2 ⟨x, hx, hh⟩)
    have ae := ha e (by simp)
    have t0 := ae
    obtain ⟨_, _, _, _, _, _, _, t0, _⟩ := t0
    obtain ⟨h1, c1, k1, g1⟩ := freezeJob ae ho
    have ho1 : ∀ q tg, ow q = some tg → q < h1.n := fun q tg hq => Nat.lt_of_lt_of_le (ho q tg hq) k1.n
    obtain ⟨h2, c2, k2, g2⟩ := freezeJobs ks h1 hn'.2 (fun x hx => (ha x (by simp [hx])).on k1 (fun q ⟨i, hh⟩ i2 he => by rw [hh] at he; simp at he; exact hne x hx he.1.symm) (fun _ _ hh => hh) ho) ho1
    refine ⟨h2, fun r => (c1 r).trans (c2 r), (k1.mono (o' := fun q => ∃ x ∈ e :: ks, ∃ i, ow q = some (1, x.2.1, i)) fun q ⟨i, hh⟩ => ⟨e, by simp, i, hh⟩).trans k2 fun q hq ⟨x, hx, i, hh⟩ => ⟨x, by simp [hx], i, hh⟩, fun x hx => ?_⟩
    rcases List.mem_cons.1 hx with rfl | hx
    · rw [k2.get _ (ho1 _ _ t0) (fun ⟨y, hy, i, hh⟩ => by rw [t0] at hh; simp at hh; exact hne y hy hh.1.symm)]
      exact g1
    · exact g2 x hx
/-- A view's state that is only read from now on. -/
structure VF (h0 h : AHeap) (lm tm : Nat) (s : VM) (L : PM) (lc : Nat) (T : PM) (tc : Nat) : Prop where
  keep : Keep h0 h none_
  lml : lm < h.n
  tml : tm < h.n
  gl : h.get lm = .map (pmE L) lc
  gt : h.get tm = .map (pmE T) tc
  stl : Stamps (pmE L) lc
  stt : Stamps (pmE T) tc
  ndl : KNodup L
  ndt : KNodup T
  has : ∀ k b, kget L k = some b → h.get b = .cells (logC (k, s.logs k)) 36 none ∧ s.logs k ≠ [] ∧ b < h.n
  hasn : ∀ k, kget L k = none → s.logs k = []
  job : ∀ t b, kget T t = some b → ∃ j, s.tasks t = some j ∧ h.get b = .cells (jobC t j) 71 none ∧ b < h.n
  jobn : ∀ t, kget T t = none → s.tasks t = none
theorem VF.on {h0 h h' : AHeap} {lm tm lc tc : Nat} {s : VM} {L T : PM} (w : VF h0 h lm tm s L lc T tc) (k : Keep h h' none_) : VF h0 h' lm tm s L lc T tc where
  keep := w.keep.trans' k
  lml := Nat.lt_of_lt_of_le w.lml k.n
  tml := Nat.lt_of_lt_of_le w.tml k.n
  gl := (k.get lm w.lml (by simp [none_])).trans w.gl
  gt := (k.get tm w.tml (by simp [none_])).trans w.gt
  stl := w.stl
  stt := w.stt
  ndl := w.ndl
  ndt := w.ndt
  has q b hq := ⟨(k.get b (w.has q b hq).2.2 (by simp [none_])).trans (w.has q b hq).1, (w.has q b hq).2.1, Nat.lt_of_lt_of_le (w.has q b hq).2.2 k.n⟩
  hasn := w.hasn
  job t b hq := by
    obtain ⟨j, h1, h2, h3⟩ := w.job t b hq
    exact ⟨j, h1, (k.get b h3 (by simp [none_])).trans h2, Nat.lt_of_lt_of_le h3 k.n⟩
  jobn := w.jobn
theorem VS.freeze {h0 h : AHeap} {lm tm lc tc : Nat} {s : VM} {L T : PM} {ow : Ow} (w : VS h0 h lm tm s.logs s.tasks L lc T tc ow) : ∃ h', (∀ r, Cast r h r h') ∧ VF h0 h' lm tm s L lc T tc := by
  have hold : ∀ q tg, ow q = some tg → q < h.n := fun q tg hq => (w.old q tg hq).2
  obtain ⟨h1, c1, k1, g1⟩ := freezeLogs (logs := s.logs) L h w.ndl (fun e he => (w.has _ _ (kmem w.ndl he)).1) hold
  have hj : ∀ e ∈ T, JobAt h ow e.2.2 e.2.1 (jbOf s e.2.1) := fun e he => by
    obtain ⟨j, h1, h2⟩ := w.job _ _ (kmem w.ndt he)
    unfold jbOf
    rw [h1]
    exact h2
  have hold1 : ∀ q tg, ow q = some tg → q < h1.n := fun q tg hq => Nat.lt_of_lt_of_le (hold q tg hq) k1.n
  obtain ⟨h2, c2, k2, g2⟩ := freezeJobs (jobs := jbOf s) T h1 w.ndt (fun e he => (hj e he).on k1 (fun q ⟨x, hx, i, hh⟩ i2 h3 => by rw [hh] at h3; simp at h3) (fun _ _ hh => hh) hold) hold1
  have kk : Keep h h2 (fun q => ∃ a k i, ow q = some (a, k, i) ∧ a < 2) := (k1.mono (o' := fun q => ∃ a k i, ow q = some (a, k, i) ∧ a < 2) fun q ⟨x, hx, i, hh⟩ => ⟨0, _, i, hh, by decide⟩).trans k2 fun q hq ⟨x, hx, i, hh⟩ => ⟨1, _, i, hh, by decide⟩
  have n1 := k1.n
  have n2 := k2.n
  refine ⟨h2, fun r => (c1 r).trans (c2 r), w.keep.trans kk (fun q hq ⟨a, k, i, hh, _⟩ => by have := (w.old _ _ hh).1; omega), by have := hold _ _ w.owl; omega, by have := hold _ _ w.owt; omega,
    (kk.get lm (hold _ _ w.owl) (fun ⟨a, k, i, hh, h2⟩ => by rw [w.owl] at hh; simp at hh; omega)).trans w.gl, (kk.get tm (hold _ _ w.owt) (fun ⟨a, k, i, hh, h2⟩ => by rw [w.owt] at hh; simp at hh; omega)).trans w.gt,
    w.stl, w.stt, w.ndl, w.ndt, fun k b hb => ?_, w.hasn, fun t b hb => ?_, w.jobn⟩
  · obtain ⟨e, he, e2⟩ := kget_mem hb
    obtain ⟨ei, ek, eb⟩ := e
    simp only [Prod.mk.injEq] at e2
    obtain ⟨rfl, rfl⟩ := e2
    obtain ⟨⟨_, _, _, _, _, t0, _⟩, hne⟩ := w.has _ _ hb
    exact ⟨(k2.get _ (hold1 _ _ t0) (fun ⟨x, hx, i, hh⟩ => by rw [t0] at hh; simp at hh)).trans (g1 _ he), hne, by have := hold _ _ t0; omega⟩
  · obtain ⟨e, he, e2⟩ := kget_mem hb
    obtain ⟨ei, ek, eb⟩ := e
    simp only [Prod.mk.injEq] at e2
    obtain ⟨rfl, rfl⟩ := e2
    obtain ⟨j, h1, a⟩ := w.job _ _ hb
    obtain ⟨_, _, _, _, _, _, _, t0, _⟩ := a
    refine ⟨j, h1, ?_, by have := hold _ _ t0; omega⟩
    have := g2 _ he
    simp only [jbOf, h1, Option.getD_some] at this
    exact this
end Go.Proofs.YtcdpepdjeneelaaDoor.Pk
