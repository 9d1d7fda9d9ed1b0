/-
  What functions of the program do, told of abstract states. Conditions: as each theorem says.
-/
import Derived.Test.YtcdpepdjeneelaaDoorVsB
namespace Go.Proofs.YtcdpepdjeneelaaDoor.Pk
open Go Go.Proofs Go.Proofs.YtcdpepdjeneelaaDoor.Ab Go.Proofs.Vw
set_option linter.unusedVariables false
set_option linter.unusedSimpArgs false
/-- A job is another, in its own blocks. -/
theorem VS.setJob {h0 h h' : AHeap} {lm tm lc tc : Nat} {logs : Int → List LR} {tasks : Int → Option Jb} {L T : PM} {ow ow' : Ow} (w : VS h0 h lm tm logs tasks L lc T tc ow) {t : Int} {b : Nat} {j : Jb} {own : Nat → Prop}
    (hb : kget T t = some b) (k : Keep h h' own) (hown : ∀ q, own q → ∃ i, ow q = some (1, t, i)) (hinc : ∀ q tg, ow q = some tg → ow' q = some tg) (hold : ∀ q tg, ow' q = some tg → ow q = some tg ∨ (h.n ≤ q ∧ q < h'.n)) (a : JobAt h' ow' b t j) :
    VS h0 h' lm tm logs (fun n => if n = t then some j else tasks n) L lc T tc ow' where
  keep := w.keep.trans k fun q hq hh => by
    obtain ⟨i, hi⟩ := hown q hh
    have := (w.old _ _ hi).1
    omega
  old q tg hq := by
    rcases hold q tg hq with hh | hh
    · have := w.old q tg hh; have := k.n; omega
    · have := w.keep.n; omega
  owl := hinc _ _ w.owl
  owt := hinc _ _ w.owt
  gl := (k.get lm (w.old _ _ w.owl).2 (fun hh => by obtain ⟨i, hi⟩ := hown _ hh; rw [w.owl] at hi; simp at hi)).trans w.gl
  gt := (k.get tm (w.old _ _ w.owt).2 (fun hh => by obtain ⟨i, hi⟩ := hown _ hh; rw [w.owt] at hi; simp at hi)).trans w.gt
  stl := w.stl
  stt := w.stt
  ndl := w.ndl
  ndt := w.ndt
  has q c hq := ⟨(w.has q c hq).1.on k (fun p hh i he => by obtain ⟨i2, hi⟩ := hown _ hh; rw [hi] at he; simp at he) hinc fun q tg hh => (w.old q tg hh).2, (w.has q c hq).2⟩
  hasn := w.hasn
  job u c hq := by
    by_cases hu : u = t
    · subst hu
      rw [hb] at hq
      injection hq with hq
      subst hq
      exact ⟨j, by simp, a⟩
    · obtain ⟨j2, h1, h2⟩ := w.job u c hq
      exact ⟨j2, by simp [hu, h1], h2.on k (fun p hh i he => by obtain ⟨i2, hi⟩ := hown _ hh; rw [hi] at he; simp at he; exact hu he.1.symm) hinc fun q tg hh => (w.old q tg hh).2⟩
  jobn u hq := by
    by_cases hu : u = t
    · subst hu; rw [hb] at hq; cases hq
    · simp [hu, w.jobn u hq]
def fenJ (j : Jb) (e : Int) : Jb := if j.ep < e then { j with ep := e, opn := [] } else j
theorem pFence {h0 h : AHeap} {lm tm lc tc : Nat} {logs : Int → List LR} {tasks : Int → Option Jb} {L T : PM} {ow : Ow} (w : VS h0 h lm tm logs tasks L lc T tc ow) {t e : Int} {b : Nat} {j : Jb} (hb : kget T t = some b) (hj : tasks t = some j) :
    SCalls Tryd.prog 39 [.ptr b 0, .int .i64 e] h (fun r h' => r = .tuple [] ∧ VS h0 h' lm tm logs (fun n => if n = t then some (fenJ j e) else tasks n) L lc T tc ow ∧ Keep h h' (fun q => ∃ tg, ow q = some tg)) := by
  obtain ⟨j2, h1, a⟩ := w.job t b hb
  rw [hj] at h1
  injection h1 with h1
  subst h1
  refine (fence h ow b t e j a fun q tg hq => (w.old q tg hq).2).mono fun r h' ⟨e1, k, a2⟩ => ?_
  obtain ⟨_, _, _, _, _, _, _, hw, _⟩ := a
  refine ⟨e1, ?_, k.mono fun q hq => ⟨(1, t, 0), hq ▸ hw⟩⟩
  exact w.setJob hb k (fun q hq => ⟨0, by rw [hq]; exact hw⟩) (fun _ _ hh => hh) (fun _ _ hh => .inl hh) a2
end Go.Proofs.YtcdpepdjeneelaaDoor.Pk
