/-
  What functions of the program do, told of abstract states. Conditions: as each theorem says.
-/
import Derived.Test.YtlbekgogjlchjaaSoP
namespace Go.Proofs.Ytlbekgogjlchjaa.Pk
open Go Go.Proofs Go.Proofs.Ytlbekgogjlchjaa.Ab
set_option linter.unusedVariables false
set_option linter.unusedSimpArgs false
theorem LogS.onZ {h0 h h' : AHeap} {L : Nat} {room : Int} {n : Nat} {rs : Nat → NR} {dv nv pv : V} {ow : Nat → Nat} {s : LS} (w : LogS h0 h L room n rs dv nv pv ow s) {own : Nat → Prop} (k : Keep h h' own) (ho : ∀ x, own x → ow x = 0 ∧ h0.n ≤ x) : LogS h0 h' L room n rs dv nv pv ow s :=
  ⟨w.keep.trans k fun x hx hh => by have := (ho x hh).2; omega, w.new, w.owL, (k.get L w.lt (fun hh => by have := (ho L hh).1; rw [w.owL] at this; cases this)).trans w.get,
    w.dk.keep k fun x hx hh => by have := (ho x hh).1; have := w.owd x hx; omega, w.nk.keep k fun x hx hh => by have := (ho x hh).1; have := w.own_ x hx; omega, w.pk.keep k fun x hx hh => by have := (ho x hh).1; have := w.owp x hx; omega, w.owd, w.own_, w.owp, w.ns.on k fun x hx => by rw [(ho x hx).1]; decide, w.rok, w.rl⟩
theorem RVal.ne {h h' : AHeap} {ow : Nat → Nat} {rv : V} {l : List Bool} (r : RVal h ow rv l) {own : Nat → Prop} (k : Keep h h' own) (hne : ∀ x, idOf rv = some x → ¬ own x) : RVal h' ow rv l := by
  rcases r.v with e | o
  · exact ⟨.inl e, r.ow⟩
  · exact ⟨.inr (o.keep k hne), r.ow⟩
theorem bV_set (l : List Bool) (k : Nat) (b : Bool) : bV (l.set k b) = (bV l).set k (.bool b) := by
  have e : ∀ l : List Bool, bV l = l.map V.bool := fun l => by
    unfold bV boE
    induction l with
    | nil => rfl
    | cons b l ih => simp [ih]
  rw [e, e, List.map_set]
theorem bo_set {h : AHeap} {v : V} {l : List Bool} (o : Own h 4 1 v (bV l)) {k : Nat} (hk : k < l.length) (b : Bool) : ∃ j ob, aIndexAddr Try.prog 55 v (.int .i64 (k : Int)) = some (.ptr j k) ∧ setC (some 1) (h.get j) k [.bool b] = some ob ∧ Own (h.set j ob) 4 1 v (bV (l.set k b)) ∧ Keep h (h.set j ob) (isId v) ∧ idOf v = some j := by
  have hk' : k < (bV l).length := by rw [bV_len]; exact hk
  obtain ⟨j, x1, x2, _, x4⟩ := own_elem (P := Try.prog) (t := 55) (kk := .i64) ss_55 o (k := k) hk'
  obtain ⟨ob, z1, z2, z3⟩ := x4 (.bool b) rfl
  exact ⟨j, ob, x1, z1, by rw [bV_set]; exact z2, z3, x2⟩
theorem three_a {k : Nat} (hk : k < 3) : 3 / 2 + 1 ≤ cntN (rch ([true, true, true].set k false)) 3 ∧ ∃ q, q < 3 ∧ q ≠ k ∧ rch ([true, true, true].set k false) q = true := by
  have : k = 0 ∨ k = 1 ∨ k = 2 := by omega
  rcases this with rfl | rfl | rfl
  · exact ⟨by decide, 1, by decide, by decide, by decide⟩
  · exact ⟨by decide, 0, by decide, by decide, by decide⟩
  · exact ⟨by decide, 0, by decide, by decide, by decide⟩
theorem three_b {k : Nat} (hk : k < 3) : 3 / 2 + 1 ≤ cntN (rch ((([true, true, true].set k false).set k true).set ((k + 1) % 3) false)) 3 ∧ ∃ q, q < 3 ∧ rch ((([true, true, true].set k false).set k true).set ((k + 1) % 3) false) q = true := by
  have : k = 0 ∨ k = 1 ∨ k = 2 := by omega
  rcases this with rfl | rfl | rfl
  · exact ⟨by decide, 0, by decide, by decide⟩
  · exact ⟨by decide, 0, by decide, by decide⟩
  · exact ⟨by decide, 1, by decide, by decide⟩
theorem Good.lose {n : Nat} {nd : Nds} {E : Int} {R : List (List Nat)} {B : Nat} (w : Good n nd E R B) (hE : 0 ≤ E) (k : Nat) : Good n (updN nd k []) E R B := by
  refine ⟨fun q hq => ?_, fun q hq => ?_, fun q hq i c hc => ?_⟩
  · by_cases e : q = k
    · subst e; rw [updN_same]; exact hE
    · rw [updN_ne e]; exact w.ep q hq
  · by_cases e : q = k
    · subst e; rw [updN_same]; exact Nat.zero_le _
    · rw [updN_ne e]; exact w.use_ q hq
  · by_cases e : q = k
    · subst e; rw [updN_same] at hc; cases hc
    · rw [updN_ne e] at hc; exact w.cel q hq i c hc
/-- Whatever is appended to a log whose nodes are all reached: it stays open, and each node has all. -/
theorem app_all {room : Int} {n : Nat} {rc : Nat → Bool} {s : LS} {b : List Nat} {B : Nat} (w : Good n s.nd s.ep s.row B) (ho : s.op = true) (hE : 0 ≤ s.ep ∧ s.ep ≤ 1048576) (hl : s.row.length < 4096) (hB : ((B + (60 + 2048) : Nat) : Int) ≤ room) (hq : n / 2 + 1 ≤ cntN rc n) (hr : ∀ q, q < n → rc q = true) (hf : ∀ q, q < n → Full s.row (s.nd q)) :
    Good n (appL room n rc b s).1.nd (appL room n rc b s).1.ep (appL room n rc b s).1.row (B + (54 + 2048)) ∧ (appL room n rc b s).1.op = true ∧ (appL room n rc b s).1.ep = s.ep ∧ (appL room n rc b s).1.row.length ≤ s.row.length + 1 ∧ ∀ q, q < n → Full (appL room n rc b s).1.row ((appL room n rc b s).1.nd q) := by
  by_cases hb : b.length = 0 ∨ 2048 < b.length
  · rw [app_range ho hb]
    exact ⟨w.rise (Int.le_refl _) (Nat.le_add_right _ _), ho, rfl, Nat.le_succ _, hf⟩
  · obtain ⟨g, fu, ep, A⟩ := w.app (room := room) (rc := rc) (b := b) (M := 2048) ho (by decide) hE (by omega) (by omega) hl hB
    rw [if_pos hq] at A
    obtain ⟨_, row, op⟩ := A
    refine ⟨by rw [row, ep]; exact g, op, ep, by rw [row, List.length_append]; simp, fun q hq => ?_⟩
    rw [row]
    exact fu q hq (hr q hq) (hf q hq)
end Go.Proofs.Ytlbekgogjlchjaa.Pk
