/-
  What functions of the program do, told of abstract states. Conditions: as each theorem says.
-/
import Derived.Test.YtlbekgogjlchjaaMaH
import Derived.Test.YtlbekgogjlchjaaMbA
namespace Go.Proofs.Ytlbekgogjlchjaa.Pk
open Go Go.Proofs Go.Proofs.Ytlbekgogjlchjaa.Ab
set_option linter.unusedVariables false
set_option linter.unusedSimpArgs false
/-! ### The log, as a model: nodes are the payloads on their disks -/
abbrev Pays := List (List Nat)
def cellAt (l : Pays) (k : Int) : Option Cel := kget (redoL l).2.1 k
def epOf (l : Pays) : Int := (redoL l).1
def used (l : Pays) : Nat := (l.flatMap frame).length
def nw (room : Int) (ep at_ : Int) (b : List Nat) (l : Pays) : Pays × Int :=
  match wrI (redoL l) ep at_ b with
  | some e => (l, e)
  | none => if putBad room (l.flatMap frame) (payN ⟨1, ep, at_, b⟩) = 0 then (l ++ [payN ⟨1, ep, at_, b⟩], 0) else (l, putBad room (l.flatMap frame) (payN ⟨1, ep, at_, b⟩))
def nseal (room : Int) (ep : Int) (l : Pays) : Pays × Int :=
  match selI (redoL l) ep with
  | some e => (l, e)
  | none => if putBad room (l.flatMap frame) (payN (selA ep)) = 0 then (l ++ [payN (selA ep)], 0) else (l, putBad room (l.flatMap frame) (payN (selA ep)))
theorem used_snoc (l : Pays) (p : List Nat) : used (l ++ [p]) = used l + (frame p).length := by
  unfold used
  rw [List.flatMap_append, List.length_append]
  simp
theorem wr_redo {l : Pays} {ep at_ : Int} {b : List Nat} (hw : wrI (redoL l) ep at_ b = none) : redoL (l ++ [payN ⟨1, ep, at_, b⟩]) = appS (redoL l) ⟨1, ep, at_, b⟩ := by
  obtain ⟨r1, r2, r3⟩ := wr_rng (wr_ok hw)
  obtain ⟨e1, rfl⟩ : ∃ q : Nat, ep = q := ⟨ep.toNat, by omega⟩
  obtain ⟨e2, rfl⟩ : ∃ q : Nat, at_ = q := ⟨at_.toNat, by omega⟩
  rw [redoL_snoc]
  exact redo_write _ e1 e2 b hw
theorem sel_rng {s : NSt} {ep : Int} (hs : selI s ep = none) : (0 ≤ ep ∧ ep ≤ 1048576) ∧ s.1 < ep := by
  unfold selI at hs
  split at hs
  · cases hs
  split at hs
  · cases hs
  · rename_i h1 h2
    have hm : mayEp ep = true := by simpa using h1
    unfold mayEp at hm
    simp only [Bool.and_eq_true, decide_eq_true_eq] at hm
    exact ⟨hm, by omega⟩
theorem sel_redo {l : Pays} {ep : Int} (hs : selI (redoL l) ep = none) : redoL (l ++ [payN (selA ep)]) = appS (redoL l) (selA ep) := by
  obtain ⟨r1, r2⟩ := sel_rng hs
  obtain ⟨e1, rfl⟩ : ∃ q : Nat, ep = q := ⟨ep.toNat, by omega⟩
  rw [redoL_snoc]
  exact redo_seal _ e1 (by omega) r2
theorem appS_w (s : NSt) (ep at_ : Int) (b : List Nat) : (appS s ⟨1, ep, at_, b⟩).1 = s.1 ∧ ∀ k, kget (appS s ⟨1, ep, at_, b⟩).2.1 k = if k = at_ then some ⟨at_, ep, b⟩ else kget s.2.1 k := by
  refine ⟨by unfold appS appE; simp, fun k => ?_⟩
  unfold appS appC
  simp only
  rw [if_neg (by decide), kget_kset]
theorem appS_s (s : NSt) (ep : Int) : (appS s (selA ep)).1 = ep ∧ (appS s (selA ep)).2.1 = s.2.1 := by
  unfold appS appE appC selA
  simp
/-- What a write makes of a node, whatever it answers. -/
theorem nw_post (room ep at_ : Int) (b : List Nat) (l : Pays) :
    epOf (nw room ep at_ b l).1 = epOf l ∧ (∀ k, k ≠ at_ → cellAt (nw room ep at_ b l).1 k = cellAt l k) ∧
    (cellAt (nw room ep at_ b l).1 at_ = cellAt l at_ ∨ (cellAt (nw room ep at_ b l).1 at_ = some ⟨at_, ep, b⟩ ∧ ∀ c, cellAt l at_ = some c → c.epoch < ep)) ∧
    ((nw room ep at_ b l).2 = 0 → ∃ c, cellAt (nw room ep at_ b l).1 at_ = some c ∧ c.epoch = ep ∧ c.bytes = b) := by
  unfold nw
  cases hw : wrI (redoL l) ep at_ b with
  | some e =>
    refine ⟨rfl, fun _ _ => rfl, .inl rfl, fun he => ?_⟩
    simp only at he
    subst he
    unfold wrI at hw
    split at hw
    · cases hw
    split at hw
    · cases hw
    split at hw
    · rename_i c hc
      split at hw
      · split at hw
        · rename_i h1; exact ⟨c, hc, h1.1, h1.2⟩
        · cases hw
      · cases hw
    · cases hw
  | none =>
    simp only
    split
    · have hR := wr_redo hw
      obtain ⟨a1, a2⟩ := appS_w (redoL l) ep at_ b
      refine ⟨?_, fun k hk => ?_, .inr ⟨?_, fun c hc => ?_⟩, fun _ => ⟨⟨at_, ep, b⟩, ?_, rfl, rfl⟩⟩
      · unfold epOf; rw [hR, a1]
      · unfold cellAt; rw [hR, a2, if_neg hk]
      · unfold cellAt; rw [hR, a2, if_pos rfl]
      · unfold cellAt at hc
        unfold wrI at hw
        rw [hc] at hw
        simp only at hw
        split at hw
        · cases hw
        split at hw
        · cases hw
        split at hw
        · split at hw <;> cases hw
        · omega
      · unfold cellAt; rw [hR, a2, if_pos rfl]
    · rename_i hP
      exact ⟨rfl, fun _ _ => rfl, .inl rfl, fun he => absurd he hP⟩
/-- A write that is answered OK. -/
theorem nw_fine {room ep at_ : Int} {b : List Nat} {l : Pays} (h1 : epOf l ≤ ep) (h2 : 0 ≤ ep ∧ ep ≤ 1048576) (h3 : 0 ≤ at_ ∧ at_ < 4096) (h4 : b.length ≤ 2048) (h5 : ∀ c, cellAt l at_ = some c → c.epoch < ep) (h6 : (used l : Int) + 60 + b.length ≤ room) :
    (nw room ep at_ b l).2 = 0 ∧ used (nw room ep at_ b l).1 ≤ used l + 54 + b.length := by
  have hm : mayWr ⟨1, ep, at_, b⟩ = true := by
    unfold mayWr mayEp
    simp only [Bool.and_eq_true, decide_eq_true_eq]
    exact ⟨⟨h3, h2⟩, h4⟩
  have hw : wrI (redoL l) ep at_ b = none := by
    unfold wrI
    rw [if_neg (by rw [hm]; decide), if_neg (by unfold epOf at h1; omega)]
    cases hc : kget (redoL l).2.1 at_ with
    | none => rfl
    | some c => simp only; rw [if_neg (by have := h5 c hc; omega)]
  have ho : okAct ⟨1, ep, at_, b⟩ := ⟨by simp only; omega, by simp only; omega, by simp only; omega, h4⟩
  have hP : putBad room (l.flatMap frame) (payN ⟨1, ep, at_, b⟩) = 0 := pb0 ho (by unfold used at h6; simp only; omega)
  have hF := fr_len _ ho
  unfold nw
  rw [hw]
  simp only
  rw [if_pos hP]
  refine ⟨rfl, ?_⟩
  simp only at hF ⊢
  rw [used_snoc]
  omega
theorem nseal_post (room ep : Int) (l : Pays) :
    (∀ k, cellAt (nseal room ep l).1 k = cellAt l k) ∧ (epOf (nseal room ep l).1 = epOf l ∨ epOf (nseal room ep l).1 = ep) := by
  unfold nseal
  cases hs : selI (redoL l) ep with
  | some e => exact ⟨fun _ => rfl, .inl rfl⟩
  | none =>
    simp only
    split
    · have hR := sel_redo hs
      obtain ⟨a1, a2⟩ := appS_s (redoL l) ep
      exact ⟨fun k => by unfold cellAt; rw [hR, a2], .inr (by unfold epOf; rw [hR, a1])⟩
    · exact ⟨fun _ => rfl, .inl rfl⟩
theorem nseal_fine {room ep : Int} {l : Pays} (h1 : epOf l < ep) (h2 : 0 ≤ ep ∧ ep ≤ 1048576) (h6 : (used l : Int) + 60 ≤ room) :
    (nseal room ep l).2 = 0 ∧ used (nseal room ep l).1 ≤ used l + 54 ∧ epOf (nseal room ep l).1 = ep := by
  have hs : selI (redoL l) ep = none := by
    unfold selI mayEp
    rw [if_neg (by simp [h2]), if_neg (by unfold epOf at h1; omega)]
  have ho : okAct (selA ep) := ⟨by simp only [selA]; omega, by simp only [selA]; omega, by simp only [selA]; omega, by simp [selA]⟩
  have hP : putBad room (l.flatMap frame) (payN (selA ep)) = 0 := pb0 ho (by unfold used at h6; simp only [selA, List.length_nil]; omega)
  have hF := fr_len _ ho
  have hR := sel_redo hs
  obtain ⟨a1, a2⟩ := appS_s (redoL l) ep
  unfold nseal
  rw [hs]
  simp only
  rw [if_pos hP]
  simp only [selA, List.length_nil] at hF
  refine ⟨rfl, by simp only; rw [used_snoc]; simp only [selA]; omega, ?_⟩
  unfold epOf
  rw [hR, a1]
end Go.Proofs.Ytlbekgogjlchjaa.Pk
namespace Go.Proofs.Ytlbekgogjlchjaa.Pk
open Go Go.Proofs Go.Proofs.Ytlbekgogjlchjaa.Ab
set_option linter.unusedVariables false
set_option linter.unusedSimpArgs false
/-! ### Counting -/
def cntN (P : Nat → Bool) : Nat → Nat
  | 0 => 0
  | i + 1 => cntN P i + if P i = true then 1 else 0
theorem cntN_le (P : Nat → Bool) : ∀ n, cntN P n ≤ n
  | 0 => Nat.le_refl _
  | i + 1 => by have := cntN_le P i; unfold cntN; split <;> omega
theorem cntN_mono {P Q : Nat → Bool} : ∀ {n}, (∀ q, q < n → P q = true → Q q = true) → cntN P n ≤ cntN Q n
  | 0, _ => Nat.le_refl _
  | i + 1, h => by
    have ih := cntN_mono (P := P) (Q := Q) (n := i) fun q hq => h q (by omega)
    have h1 := h i (by omega)
    unfold cntN
    by_cases hp : P i = true
    · rw [if_pos hp, if_pos (h1 hp)]; omega
    · rw [if_neg hp]; omega
theorem cntN_congr {P Q : Nat → Bool} {n : Nat} (h : ∀ q, q < n → P q = Q q) : cntN P n = cntN Q n :=
  Nat.le_antisymm (cntN_mono fun q hq hp => by rw [← h q hq]; exact hp) (cntN_mono fun q hq hp => by rw [h q hq]; exact hp)
theorem cntN_meet {P Q : Nat → Bool} : ∀ {n}, n < cntN P n + cntN Q n → ∃ q, q < n ∧ P q = true ∧ Q q = true
  | 0, h => by simp [cntN] at h
  | i + 1, h => by
    by_cases hb : P i = true ∧ Q i = true
    · exact ⟨i, by omega, hb.1, hb.2⟩
    · have : i < cntN P i + cntN Q i := by
        unfold cntN at h
        by_cases hp : P i = true
        · rw [if_pos hp, if_neg fun hq => hb ⟨hp, hq⟩] at h; omega
        · rw [if_neg hp] at h; split at h <;> omega
      obtain ⟨q, h1, h2⟩ := cntN_meet this
      exact ⟨q, by omega, h2⟩
theorem cntN_pos {P : Nat → Bool} {n : Nat} (h : 0 < cntN P n) : ∃ q, q < n ∧ P q = true := by
  have : n < cntN P n + cntN (fun _ => true) n := by
    have : cntN (fun _ => true) n = n := by
      clear h
      induction n with
      | zero => rfl
      | succ n ih => unfold cntN; rw [ih]; simp
    omega
  obtain ⟨q, h1, h2, _⟩ := cntN_meet this
  exact ⟨q, h1, h2⟩
/-! ### Nodes -/
abbrev Nds := Nat → Pays
def allN (f : Pays → Pays × Int) (rc : Nat → Bool) (i : Nat) (nd : Nds) : Nds := fun q => if q < i ∧ rc q = true then (f (nd q)).1 else nd q
def fineN (f : Pays → Pays × Int) (rc : Nat → Bool) (nd : Nds) (q : Nat) : Bool := rc q && ((f (nd q)).2 == 0)
theorem fineN_rc {f : Pays → Pays × Int} {rc : Nat → Bool} {nd : Nds} {q : Nat} (h : fineN f rc nd q = true) : rc q = true ∧ (f (nd q)).2 = 0 := by
  unfold fineN at h
  simpa using h
theorem allN_zero (f : Pays → Pays × Int) (rc : Nat → Bool) (nd : Nds) : allN f rc 0 nd = nd := by
  funext q; unfold allN; rw [if_neg (by omega)]
theorem allN_at (f : Pays → Pays × Int) (rc : Nat → Bool) (i : Nat) (nd : Nds) : allN f rc i nd i = nd i := by
  unfold allN; rw [if_neg (by omega)]
theorem allN_succ (f : Pays → Pays × Int) (rc : Nat → Bool) (i : Nat) (nd : Nds) : allN f rc (i + 1) nd = if rc i = true then fun q => if q = i then (f (nd i)).1 else allN f rc i nd q else allN f rc i nd := by
  funext q
  by_cases hr : rc i = true
  · rw [if_pos hr]
    by_cases hq : q = i
    · subst hq
      unfold allN
      simp only [if_true]
      rw [if_pos ⟨by omega, hr⟩]
    · simp only [if_neg hq]
      unfold allN
      by_cases h2 : q < i
      · by_cases h3 : rc q = true
        · rw [if_pos ⟨by omega, h3⟩, if_pos ⟨h2, h3⟩]
        · rw [if_neg fun h => h3 h.2, if_neg fun h => h3 h.2]
      · rw [if_neg fun h => by omega, if_neg fun h => h2 h.1]
  · rw [if_neg hr]
    unfold allN
    by_cases hq : q = i
    · subst hq; rw [if_neg fun h => hr h.2, if_neg fun h => hr h.2]
    · by_cases h2 : q < i
      · by_cases h3 : rc q = true
        · rw [if_pos ⟨by omega, h3⟩, if_pos ⟨h2, h3⟩]
        · rw [if_neg fun h => h3 h.2, if_neg fun h => h3 h.2]
      · rw [if_neg fun h => by omega, if_neg fun h => h2 h.1]
theorem allN_n {f : Pays → Pays × Int} {rc : Nat → Bool} {n q : Nat} {nd : Nds} (hq : q < n) : allN f rc n nd q = if rc q = true then (f (nd q)).1 else nd q := by
  unfold allN
  by_cases h : rc q = true
  · rw [if_pos ⟨hq, h⟩, if_pos h]
  · rw [if_neg fun hh => h hh.2, if_neg h]
/-- A slot written at the nodes that are reached. -/
def wrL (room : Int) (n : Nat) (ep at_ : Int) (b : List Nat) (rc : Nat → Bool) (nd : Nds) : Nds × Bool :=
  (allN (nw room ep at_ b) rc n nd, decide (n / 2 + 1 ≤ cntN (fineN (nw room ep at_ b) rc nd) n))
/-- A row of slots, one behind the other. -/
def wRow (room : Int) (n : Nat) (ep : Int) (rc : Nat → Bool) : List (List Nat) → Nat → Nds → Nds × Bool
  | [], _, nd => (nd, true)
  | b :: r, at_, nd => if (wrL room n ep (at_ : Int) b rc nd).2 = true then wRow room n ep rc r (at_ + 1) (wrL room n ep (at_ : Int) b rc nd).1 else ((wrL room n ep (at_ : Int) b rc nd).1, false)
/-- What those that were sealed have at a slot. -/
def votes (P : Nat → Bool) (nd : Nds) (k : Int) : Nat → List Cel
  | 0 => []
  | i + 1 => votes P nd k i ++ if P i = true then (cellAt (nd i) k).toList else []
theorem votes_mem {P : Nat → Bool} {nd : Nds} {k : Int} {c : Cel} : ∀ {n}, c ∈ votes P nd k n ↔ ∃ q, q < n ∧ P q = true ∧ cellAt (nd q) k = some c
  | 0 => by simp [votes]
  | i + 1 => by
    unfold votes
    rw [List.mem_append, votes_mem (n := i)]
    constructor
    · rintro (⟨q, h1, h2⟩ | h)
      · exact ⟨q, by omega, h2⟩
      · split at h
        · rename_i hp
          exact ⟨i, by omega, hp, by simpa using h⟩
        · cases h
    · rintro ⟨q, h1, h2, h3⟩
      by_cases hq : q = i
      · subst hq
        right; rw [if_pos h2, h3]; simp
      · exact .inl ⟨q, by omega, h2, h3⟩
/-- The row that is told by votes. -/
structure RowIs (vt : Int → List Cel) (row : List (List Nat)) : Prop where
  is : ∀ k : Nat, (h : k < row.length) → row[k] = match bestOf (vt (k : Int)) with | some c => c.bytes | none => []
  no : ∀ k : Nat, row.length ≤ k → vt (k : Int) = []
  top : row = [] ∨ vt ((row.length - 1 : Nat) : Int) ≠ []
structure LS where
  nd : Nds
  op : Bool
  ep : Int
  row : List (List Nat)
/-- What Open makes of a log. -/
def OpenR (room : Int) (n : Nat) (rc : Nat → Bool) (s s' : LS) (e : Int) : Prop :=
  if n / 2 + 1 ≤ cntN (fineN (nseal room (s.ep + 1)) rc s.nd) n then
    ∃ row, RowIs (fun k => votes (fineN (nseal room (s.ep + 1)) rc s.nd) s.nd k n) row ∧
      if (wRow room n (s.ep + 1) rc row 0 (allN (nseal room (s.ep + 1)) rc n s.nd)).2 = true then s' = ⟨(wRow room n (s.ep + 1) rc row 0 (allN (nseal room (s.ep + 1)) rc n s.nd)).1, true, s.ep + 1, row⟩ ∧ e = 0
      else s' = ⟨(wRow room n (s.ep + 1) rc row 0 (allN (nseal room (s.ep + 1)) rc n s.nd)).1, false, s.ep + 1, s.row⟩ ∧ e = 8
  else s' = ⟨allN (nseal room (s.ep + 1)) rc n s.nd, false, s.ep + 1, s.row⟩ ∧ e = 8
/-- What Append makes of a log, its place, and its error. -/
def appL (room : Int) (n : Nat) (rc : Nat → Bool) (b : List Nat) (s : LS) : LS × Nat × Int :=
  if s.op = false then (s, 0, 8) else
  if b.length = 0 ∨ 2048 < b.length then (s, 0, 2) else
  if 4096 ≤ s.row.length then (s, 0, 3) else
  if (wrL room n s.ep (s.row.length : Nat) b rc s.nd).2 = true then (⟨(wrL room n s.ep (s.row.length : Nat) b rc s.nd).1, true, s.ep, s.row ++ [b]⟩, s.row.length, 0)
  else (⟨(wrL room n s.ep (s.row.length : Nat) b rc s.nd).1, false, s.ep, s.row⟩, 0, 8)
end Go.Proofs.Ytlbekgogjlchjaa.Pk
namespace Go.Proofs.Ytlbekgogjlchjaa.Pk
open Go Go.Proofs Go.Proofs.Ytlbekgogjlchjaa.Ab
set_option linter.unusedVariables false
set_option linter.unusedSimpArgs false
/-! ### What is known stays -/
def geO : Option Cel → Int → Bool
  | some c, e => decide (e ≤ c.epoch)
  | none, _ => false
def isO : Option Cel → Int → List Nat → Bool
  | some c, e, b => decide (c.epoch = e) && decide (c.bytes = b)
  | none, _, _ => false
theorem geO_some {o : Option Cel} {e : Int} (h : geO o e = true) : ∃ c, o = some c ∧ e ≤ c.epoch := by
  cases o with
  | none => cases h
  | some c => exact ⟨c, rfl, by simpa [geO] using h⟩
theorem isO_some {o : Option Cel} {e : Int} {b : List Nat} (h : isO o e b = true) : ∃ c, o = some c ∧ c.epoch = e ∧ c.bytes = b := by
  cases o with
  | none => cases h
  | some c => simp [isO] at h; exact ⟨c, rfl, h.1, h.2⟩
theorem isO_mk (c : Cel) : isO (some c) c.epoch c.bytes = true := by simp [isO]
/-- A node that a write with the client's epoch was tried at. -/
structure Wst (n : Nat) (ep : Int) (at_ : Int) (b : List Nat) (nd nd' : Nds) : Prop where
  other : ∀ q, q < n → ∀ k, k ≠ at_ → cellAt (nd' q) k = cellAt (nd q) k
  at_ : ∀ q, q < n → cellAt (nd' q) at_ = cellAt (nd q) at_ ∨ (cellAt (nd' q) at_ = some ⟨at_, ep, b⟩ ∧ ∀ c, cellAt (nd q) at_ = some c → c.epoch < ep)
theorem wrL_st (room : Int) (n : Nat) (ep at_ : Int) (b : List Nat) (rc : Nat → Bool) (nd : Nds) : Wst n ep at_ b nd (wrL room n ep at_ b rc nd).1 := by
  constructor
  · intro q hq k hk
    unfold wrL
    simp only
    rw [allN_n hq]
    split
    · exact (nw_post room ep at_ b (nd q)).2.1 k hk
    · rfl
  · intro q hq
    unfold wrL
    simp only
    rw [allN_n hq]
    split
    · exact (nw_post room ep at_ b (nd q)).2.2.1
    · exact .inl rfl
theorem wrL_ok {room : Int} {n : Nat} {ep at_ : Int} {b : List Nat} {rc : Nat → Bool} {nd : Nds} (h : (wrL room n ep at_ b rc nd).2 = true) :
    n < 2 * cntN (fun q => isO (cellAt ((wrL room n ep at_ b rc nd).1 q) at_) ep b) n := by
  have h1 : n / 2 + 1 ≤ cntN (fineN (nw room ep at_ b) rc nd) n := by unfold wrL at h; simpa using h
  have h2 : cntN (fineN (nw room ep at_ b) rc nd) n ≤ cntN (fun q => isO (cellAt ((wrL room n ep at_ b rc nd).1 q) at_) ep b) n := by
    refine cntN_mono fun q hq hp => ?_
    obtain ⟨hr, h0⟩ := fineN_rc hp
    obtain ⟨c, hc, e1, e2⟩ := (nw_post room ep at_ b (nd q)).2.2.2 h0
    have : (wrL room n ep at_ b rc nd).1 q = (nw room ep at_ b (nd q)).1 := by
      unfold wrL; simp only; rw [allN_n hq, if_pos hr]
    simp only [this, hc]
    subst e1 e2
    exact isO_mk c
  omega
/-! Cells up to an epoch, without two values of one epoch; and what is known -/
structure Core (n : Nat) (nd : Nds) (ep : Int) (row : List (List Nat)) (es : List Int) : Prop where
  hi : ∀ q, q < n → ∀ k c, cellAt (nd q) k = some c → c.epoch ≤ ep
  one : ∀ q q', q < n → q' < n → ∀ k c c', cellAt (nd q) k = some c → cellAt (nd q') k = some c' → c.epoch = c'.epoch → c.bytes = c'.bytes
  el : es.length = row.length
  has : ∀ i : Nat, (h : i < es.length) → n < 2 * cntN (fun q => geO (cellAt (nd q) (i : Int)) es[i]) n
  is : ∀ i : Nat, (h : i < es.length) → (h2 : i < row.length) → ∀ q, q < n → ∀ c, cellAt (nd q) (i : Int) = some c → es[i] ≤ c.epoch → c.bytes = row[i]
/-- A write that keeps what is known: whoever has a cell of its epoch at the slot has its value, and so has what is known there. -/
theorem Core.write {n : Nat} {nd nd' : Nds} {ep : Int} {row : List (List Nat)} {es : List Int} (w : Core n nd ep row es) {at_ : Nat} {b : List Nat} (ws : Wst n ep (at_ : Int) b nd nd')
    (h1 : ∀ q, q < n → ∀ c, cellAt (nd q) (at_ : Int) = some c → c.epoch = ep → c.bytes = b) (h2 : (h : at_ < row.length) → row[at_] = b) : Core n nd' ep row es := by
  have step : ∀ q, q < n → ∀ k c, cellAt (nd' q) k = some c → cellAt (nd q) k = some c ∨ (k = at_ ∧ c = ⟨at_, ep, b⟩) := fun q hq k c hc => by
    by_cases hk : k = at_
    · subst hk
      rcases ws.at_ q hq with e | ⟨e, _⟩
      · rw [e] at hc; exact .inl hc
      · rw [e] at hc; exact .inr ⟨rfl, (Option.some.inj hc).symm⟩
    · rw [ws.other q hq k hk] at hc; exact .inl hc
  refine ⟨fun q hq k c hc => ?_, fun q q' hq hq' k c c' hc hc' he => ?_, w.el, fun i hi => ?_, fun i hi hi2 q hq c hc he => ?_⟩
  · rcases step q hq k c hc with h | ⟨_, rfl⟩
    · exact w.hi q hq k c h
    · exact Int.le_refl _
  · rcases step q hq k c hc with h | ⟨e1, rfl⟩
    · rcases step q' hq' k c' hc' with h' | ⟨e2, rfl⟩
      · exact w.one q q' hq hq' k c c' h h' he
      · subst e2; exact h1 q hq c h he
    · rcases step q' hq' k c' hc' with h' | ⟨e2, rfl⟩
      · subst e1; exact (h1 q' hq' c' h' he.symm).symm
      · rfl
  · refine Nat.lt_of_lt_of_le (w.has i hi) (Nat.mul_le_mul_left 2 (cntN_mono fun q hq hp => ?_))
    by_cases hk : (i : Int) = at_
    · rcases ws.at_ q hq with e | ⟨e, e2⟩
      · rw [hk, e, ← hk]; exact hp
      · rw [hk] at hp ⊢
        rw [e]
        obtain ⟨c, hc, h4⟩ := geO_some hp
        have h3 := e2 c hc
        simp only [geO, decide_eq_true_eq]
        omega
    · rw [ws.other q hq _ hk]; exact hp
  · rcases step q hq _ c hc with h | ⟨e1, rfl⟩
    · exact w.is i hi hi2 q hq c h he
    · have : i = at_ := by omega
      subst this
      exact (h2 hi2).symm
/-- A write that a quorum has, of a slot that has no cell of its epoch yet: one more is known. -/
theorem Core.more {n : Nat} {nd : Nds} {ep : Int} {row : List (List Nat)} {es : List Int} (w : Core n nd ep row es) {b : List Nat}
    (h1 : n < 2 * cntN (fun q => isO (cellAt (nd q) (row.length : Nat)) ep b) n)
    (h2 : ∀ q, q < n → ∀ c, cellAt (nd q) (row.length : Nat) = some c → c.epoch = ep → c.bytes = b) : Core n nd ep (row ++ [b]) (es ++ [ep]) := by
  refine ⟨w.hi, w.one, by simp [w.el], fun i hi => ?_, fun i hi hi2 q hq c hc he => ?_⟩
  · by_cases hh : i < es.length
    · rw [List.getElem_append_left hh]; exact w.has i hh
    · have hie : i = row.length := by simp at hi; have := w.el; omega
      subst hie
      rw [List.getElem_append_right (by have := w.el; omega)]
      refine Nat.lt_of_lt_of_le h1 (Nat.mul_le_mul_left 2 (cntN_mono fun q hq hp => ?_))
      obtain ⟨c, hc, h4, h5⟩ := isO_some hp
      rw [hc]
      simp [geO, h4]
  · by_cases hh : i < es.length
    · rw [List.getElem_append_left hh] at he
      rw [List.getElem_append_left (by have := w.el; omega)]
      exact w.is i hh (by have := w.el; omega) q hq c hc he
    · have hie : i = row.length := by simp at hi; have := w.el; omega
      subst hie
      rw [List.getElem_append_right (by have := w.el; omega)] at he
      rw [List.getElem_append_right (Nat.le_refl _)]
      have h3 := w.hi q hq _ c hc
      simp at he
      simp only [Nat.sub_self, List.getElem_cons_zero]
      exact h2 q hq c hc (by omega)
theorem Core.rise {n : Nat} {nd : Nds} {ep ep' : Int} {row : List (List Nat)} {es : List Int} (w : Core n nd ep row es) (h : ep ≤ ep') : Core n nd ep' row es :=
  ⟨fun q hq k c hc => Int.le_trans (w.hi q hq k c hc) h, w.one, w.el, w.has, w.is⟩
theorem Core.same {n : Nat} {nd nd' : Nds} {ep : Int} {row : List (List Nat)} {es : List Int} (w : Core n nd ep row es) (h : ∀ q, q < n → ∀ k, cellAt (nd' q) k = cellAt (nd q) k) : Core n nd' ep row es := by
  refine ⟨fun q hq k c hc => w.hi q hq k c (by rw [← h q hq]; exact hc), fun q q' hq hq' k c c' hc hc' he => w.one q q' hq hq' k c c' (by rw [← h q hq]; exact hc) (by rw [← h q' hq']; exact hc') he, w.el, fun i hi => ?_, fun i hi hi2 q hq c hc he => w.is i hi hi2 q hq c (by rw [← h q hq]; exact hc) he⟩
  have e : cntN (fun q => geO (cellAt (nd' q) (i : Int)) es[i]) n = cntN (fun q => geO (cellAt (nd q) (i : Int)) es[i]) n :=
    cntN_congr fun q hq => by rw [h q hq]
  rw [e]; exact w.has i hi
end Go.Proofs.Ytlbekgogjlchjaa.Pk
namespace Go.Proofs.Ytlbekgogjlchjaa.Pk
open Go Go.Proofs Go.Proofs.Ytlbekgogjlchjaa.Ab
set_option linter.unusedVariables false
set_option linter.unusedSimpArgs false
theorem Wst.step {n : Nat} {ep at_ : Int} {b : List Nat} {nd nd' : Nds} (ws : Wst n ep at_ b nd nd') {q : Nat} (hq : q < n) {k : Int} {c : Cel} (hc : cellAt (nd' q) k = some c) : cellAt (nd q) k = some c ∨ (k = at_ ∧ c = ⟨at_, ep, b⟩) := by
  by_cases hk : k = at_
  · subst hk
    rcases ws.at_ q hq with e | ⟨e, _⟩
    · rw [e] at hc; exact .inl hc
    · rw [e] at hc; exact .inr ⟨rfl, (Option.some.inj hc).symm⟩
  · rw [ws.other q hq k hk] at hc; exact .inl hc
theorem wRow_core {room : Int} {n : Nat} {E : Int} {rc : Nat → Bool} {row row' : List (List Nat)} {es : List Int} (hb2 : ∀ i, (h1 : i < row.length) → (h2 : i < row'.length) → row'[i] = row[i]) :
    ∀ (r pre : List (List Nat)) (nd : Nds), row' = pre ++ r → Core n nd E row es → Core n nd E pre (List.replicate pre.length E) →
      (∀ q, q < n → ∀ k c, cellAt (nd q) k = some c → c.epoch = E → ∃ i : Nat, ∃ h : i < pre.length, k = (i : Int) ∧ c.bytes = pre[i]) →
      Core n (wRow room n E rc r pre.length nd).1 E row es ∧ ((wRow room n E rc r pre.length nd).2 = true → Core n (wRow room n E rc r pre.length nd).1 E row' (List.replicate row'.length E) ∧
        ∀ q, q < n → ∀ k c, cellAt ((wRow room n E rc r pre.length nd).1 q) k = some c → c.epoch = E → ∃ i : Nat, ∃ h : i < row'.length, k = (i : Int) ∧ c.bytes = row'[i])
  | [], pre, nd, hr, w, w2, st => by
    rw [List.append_nil] at hr
    subst hr
    exact ⟨w, fun _ => ⟨w2, st⟩⟩
  | b :: r, pre, nd, hr, w, w2, st => by
    have ws := wrL_st room n E (pre.length : Nat) b rc nd
    have hno : ∀ q, q < n → ∀ c, cellAt (nd q) (pre.length : Nat) = some c → c.epoch = E → c.bytes = b := fun q hq c hc he => by
      obtain ⟨i, h, e, _⟩ := st q hq _ c hc he
      omega
    have w' := w.write ws hno (fun h => by
      have h2 : pre.length < row'.length := by rw [hr]; simp
      rw [← hb2 pre.length h h2]
      subst hr
      rw [List.getElem_append_right (Nat.le_refl _)]
      simp)
    have w2' := w2.write ws hno (fun h => absurd h (Nat.lt_irrefl _))
    unfold wRow
    split
    · rename_i hok
      have m := w2'.more (b := b) (wrL_ok hok) (fun q hq c hc he => by
        rcases ws.step hq hc with h | ⟨_, rfl⟩
        · exact hno q hq c h he
        · rfl)
      have hl : (pre ++ [b]).length = pre.length + 1 := by simp
      have hrep : List.replicate (pre ++ [b]).length E = List.replicate pre.length E ++ [E] := by rw [hl, List.replicate_succ']
      have ih := wRow_core (room := room) (rc := rc) hb2 r (pre ++ [b]) (wrL room n E (pre.length : Nat) b rc nd).1 (by rw [hr]; simp) w' (by rw [hrep]; exact m) (fun q hq k c hc he => by
        rcases ws.step hq hc with h | ⟨e1, rfl⟩
        · obtain ⟨i, h1, h2, h3⟩ := st q hq k c h he
          exact ⟨i, by omega, h2, by rw [List.getElem_append_left h1]; exact h3⟩
        · exact ⟨pre.length, by omega, e1, by rw [List.getElem_append_right (Nat.le_refl _)]; simp⟩)
      rw [hl] at ih
      exact ih
    · exact ⟨w', fun h => by simp at h⟩
structure Safe (n : Nat) (s : LS) : Prop where
  core : ∃ es, Core n s.nd s.ep s.row es
  new : s.op = true → ∀ q, q < n → ∀ k : Nat, s.row.length ≤ k → ∀ c, cellAt (s.nd q) (k : Int) = some c → c.epoch < s.ep
theorem Safe.open_ {room : Int} {n : Nat} {rc : Nat → Bool} {s s' : LS} {e : Int} (w : Safe n s) (h : OpenR room n rc s s' e) :
    Safe n s' ∧ (e = 0 → s.row <+: s'.row) ∧ (e ≠ 0 → s'.row = s.row) := by
  obtain ⟨⟨es, c⟩, _⟩ := w
  have same : ∀ q, q < n → ∀ k, cellAt (allN (nseal room (s.ep + 1)) rc n s.nd q) k = cellAt (s.nd q) k := fun q hq k => by
    rw [allN_n hq]
    split
    · exact (nseal_post room (s.ep + 1) (s.nd q)).1 k
    · rfl
  have c1 := (c.same same).rise (ep' := s.ep + 1) (by omega)
  unfold OpenR at h
  split at h
  · rename_i hq
    obtain ⟨row, ri, h⟩ := h
    have key : ∀ i : Nat, (h1 : i < s.row.length) → ∃ h2 : i < row.length, row[i] = s.row[i] := fun i h1 => by
      have hi : i < es.length := by rw [c.el]; exact h1
      obtain ⟨q, q1, q2, q3⟩ := cntN_meet (n := n) (P := fineN (nseal room (s.ep + 1)) rc s.nd) (Q := fun q => geO (cellAt (s.nd q) (i : Int)) es[i]) (by have := c.has i hi; omega)
      obtain ⟨d, hc, q3⟩ := geO_some q3
      ·
        have hm : d ∈ votes (fineN (nseal room (s.ep + 1)) rc s.nd) s.nd (i : Int) n := votes_mem.2 ⟨q, q1, q2, hc⟩
        have h2 : i < row.length := by
          rcases Nat.lt_or_ge i row.length with h | h
          · exact h
          · have := ri.no i h
            rw [this] at hm
            cases hm
        refine ⟨h2, ?_⟩
        obtain ⟨x, hx⟩ := bestOf_ne (List.ne_nil_of_mem hm)
        have hri := ri.is i h2
        simp only [hx] at hri
        rw [hri]
        obtain ⟨q', p1, p2, p3⟩ := votes_mem.1 (bestOf_mem hx)
        have := bestOf_ge hx d hm
        exact c.is i hi h1 q' p1 x p3 (by omega)
    have hlen : s.row.length ≤ row.length := by
      rcases Nat.lt_or_ge row.length s.row.length with h | h
      · obtain ⟨h2, _⟩ := key row.length h; omega
      · exact h
    have w3 := wRow_core (room := room) (n := n) (E := s.ep + 1) (rc := rc) (row := s.row) (row' := row) (es := es) (fun i h1 h2 => (key i h1).2) row [] (allN (nseal room (s.ep + 1)) rc n s.nd) rfl c1
      ⟨c1.hi, c1.one, rfl, fun i hi => absurd hi (by simp), fun i hi => absurd hi (by simp)⟩ (fun q hq k d hd he => by
        rw [same q hq] at hd
        have := c.hi q hq k d hd
        omega)
    simp only [List.length_nil] at w3
    split at h
    · rename_i hok
      obtain ⟨rfl, rfl⟩ := h
      obtain ⟨c4, st⟩ := w3.2 hok
      refine ⟨⟨⟨_, c4⟩, fun _ q hq k hk d hd => ?_⟩, fun _ => ?_, fun h => absurd rfl h⟩
      · have h1 := c4.hi q hq _ d hd
        have h2 : d.epoch ≠ s.ep + 1 := fun he => by
          obtain ⟨i, hi, e, _⟩ := st q hq _ d hd he
          simp only at hk
          omega
        simp only at h1 ⊢
        omega
      · have : s.row = row.take s.row.length := by
          refine List.ext_getElem (by rw [List.length_take]; omega) fun i h1 h2 => ?_
          rw [List.getElem_take, (key i h1).2]
        simp only
        rw [this]
        exact List.take_prefix _ _
    · obtain ⟨rfl, rfl⟩ := h
      exact ⟨⟨⟨es, w3.1⟩, fun h => (by cases h)⟩, fun h => absurd h (by decide), fun _ => rfl⟩
  · obtain ⟨rfl, rfl⟩ := h
    exact ⟨⟨⟨es, c1⟩, fun h => (by cases h)⟩, fun h => absurd h (by decide), fun _ => rfl⟩
theorem Safe.app {room : Int} {n : Nat} {rc : Nat → Bool} {s : LS} {b : List Nat} (w : Safe n s) :
    Safe n (appL room n rc b s).1 ∧ ((appL room n rc b s).2.2 = 0 → (appL room n rc b s).2.1 = s.row.length ∧ (appL room n rc b s).1.row = s.row ++ [b]) ∧ ((appL room n rc b s).2.2 ≠ 0 → (appL room n rc b s).1.row = s.row) := by
  unfold appL
  split
  · exact ⟨w, fun h => absurd h (by simp), fun _ => rfl⟩
  rename_i hop
  have hop' : s.op = true := by simpa using hop
  split
  · exact ⟨w, fun h => absurd h (by simp), fun _ => rfl⟩
  split
  · exact ⟨w, fun h => absurd h (by simp), fun _ => rfl⟩
  obtain ⟨⟨es, c⟩, nw_⟩ := w
  have nw_ := nw_ hop'
  have ws := wrL_st room n s.ep (s.row.length : Nat) b rc s.nd
  have hno : ∀ q, q < n → ∀ c, cellAt (s.nd q) (s.row.length : Nat) = some c → c.epoch = s.ep → c.bytes = b := fun q hq d hd he => by
    have := nw_ q hq s.row.length (Nat.le_refl _) d hd
    omega
  have c1 := c.write ws hno (fun h => absurd h (Nat.lt_irrefl _))
  split
  · rename_i hok
    refine ⟨⟨⟨_, c1.more (b := b) (wrL_ok hok) (fun q hq d hd he => ?_)⟩, fun _ q hq k hk d hd => ?_⟩, fun _ => ⟨rfl, rfl⟩, fun h => absurd rfl h⟩
    · rcases ws.step hq hd with h | ⟨_, rfl⟩
      · exact hno q hq d h he
      · rfl
    · simp only [List.length_append, List.length_cons, List.length_nil] at hk hd ⊢
      rcases ws.step hq hd with h | ⟨e, rfl⟩
      · exact nw_ q hq k (by omega) d h
      · omega
  · exact ⟨⟨⟨es, c1⟩, fun h => (by cases h)⟩, fun h => absurd h (by simp), fun _ => rfl⟩
theorem Safe.start (n : Nat) (nd : Nds) (h : ∀ q, q < n → ∀ k, cellAt (nd q) k = none) : Safe n ⟨nd, false, 0, []⟩ :=
  ⟨⟨[], fun q hq k c hc => (by rw [h q hq] at hc; cases hc), fun q q' hq hq' k c c' hc => (by rw [h q hq] at hc; cases hc), rfl, fun i hi => absurd hi (by simp), fun i hi => absurd hi (by simp)⟩, fun h => by cases h⟩
theorem Safe.same {n : Nat} {s : LS} {nd : Nds} (w : Safe n s) (h : ∀ q, q < n → ∀ k, cellAt (nd q) k = cellAt (s.nd q) k) : Safe n ⟨nd, s.op, s.ep, s.row⟩ := by
  obtain ⟨⟨es, c⟩, nw_⟩ := w
  exact ⟨⟨es, c.same h⟩, fun ho q hq k hk d hd => nw_ ho q hq k hk d (by rw [← h q hq]; exact hd)⟩
end Go.Proofs.Ytlbekgogjlchjaa.Pk
namespace Go.Proofs.Ytlbekgogjlchjaa.Pk
open Go Go.Proofs Go.Proofs.Ytlbekgogjlchjaa.Ab
set_option linter.unusedVariables false
set_option linter.unusedSimpArgs false
/-! ### What goes well -/
structure Good (n : Nat) (nd : Nds) (E : Int) (R : List (List Nat)) (B : Nat) : Prop where
  ep : ∀ q, q < n → epOf (nd q) ≤ E
  use_ : ∀ q, q < n → used (nd q) ≤ B
  cel : ∀ q, q < n → ∀ k c, cellAt (nd q) k = some c → ∃ i : Nat, ∃ h : i < R.length, k = (i : Int) ∧ c.bytes = R[i] ∧ c.epoch ≤ E
def Full (R : List (List Nat)) (l : Pays) : Prop := ∀ i : Nat, i < R.length → ∃ c, cellAt l (i : Int) = some c
theorem Good.rise {n : Nat} {nd : Nds} {E E' : Int} {R : List (List Nat)} {B B' : Nat} (w : Good n nd E R B) (h : E ≤ E') (hB : B ≤ B') : Good n nd E' R B' :=
  ⟨fun q hq => Int.le_trans (w.ep q hq) h, fun q hq => Nat.le_trans (w.use_ q hq) hB, fun q hq k c hc => by
    obtain ⟨i, h1, h2, h3, h4⟩ := w.cel q hq k c hc
    exact ⟨i, h1, h2, h3, by omega⟩⟩
theorem Good.start (n : Nat) (nd : Nds) (R : List (List Nat)) (h : ∀ q, q < n → (∀ k, cellAt (nd q) k = none) ∧ epOf (nd q) ≤ 0 ∧ used (nd q) ≤ 0) : Good n nd 0 R 0 :=
  ⟨fun q hq => (h q hq).2.1, fun q hq => (h q hq).2.2, fun q hq k c hc => by rw [(h q hq).1] at hc; cases hc⟩
/-- A write that each node that is reached answers OK. -/
theorem wrL_fine {room : Int} {n : Nat} {E at_ : Int} {b : List Nat} {rc : Nat → Bool} {nd : Nds} {B : Nat} (h1 : ∀ q, q < n → epOf (nd q) ≤ E) (h2 : 0 ≤ E ∧ E ≤ 1048576) (h3 : 0 ≤ at_ ∧ at_ < 4096) (h4 : b.length ≤ 2048)
    (h5 : ∀ q, q < n → ∀ c, cellAt (nd q) at_ = some c → c.epoch < E) (h6 : ∀ q, q < n → used (nd q) ≤ B) (h7 : (B : Int) + 60 + b.length ≤ room) :
    cntN (fineN (nw room E at_ b) rc nd) n = cntN rc n ∧ (∀ q, q < n → used ((wrL room n E at_ b rc nd).1 q) ≤ B + 54 + b.length) ∧
    (∀ q, q < n → epOf ((wrL room n E at_ b rc nd).1 q) ≤ E) ∧ (∀ q, q < n → rc q = true → ∃ c, cellAt ((wrL room n E at_ b rc nd).1 q) at_ = some c) := by
  have key : ∀ q, q < n → (nw room E at_ b (nd q)).2 = 0 ∧ used (nw room E at_ b (nd q)).1 ≤ used (nd q) + 54 + b.length := fun q hq =>
    nw_fine (h1 q hq) h2 h3 h4 (h5 q hq) (by have := h6 q hq; omega)
  refine ⟨cntN_congr fun q hq => ?_, fun q hq => ?_, fun q hq => ?_, fun q hq hr => ?_⟩
  · unfold fineN; rw [(key q hq).1]; simp
  · unfold wrL; simp only; rw [allN_n hq]
    have h8 := h6 q hq
    have h9 := (key q hq).2
    split <;> omega
  · unfold wrL; simp only; rw [allN_n hq]
    split
    · rw [(nw_post room E at_ b (nd q)).1]; exact h1 q hq
    · exact h1 q hq
  · unfold wrL; simp only; rw [allN_n hq, if_pos hr]
    obtain ⟨c, hc, _⟩ := (nw_post room E at_ b (nd q)).2.2.2 (key q hq).1
    exact ⟨c, hc⟩
theorem Wst.full {n : Nat} {ep at_ : Int} {b : List Nat} {nd nd' : Nds} (ws : Wst n ep at_ b nd nd') {q : Nat} (hq : q < n) {k : Int} {c : Cel} (hc : cellAt (nd q) k = some c) : ∃ c, cellAt (nd' q) k = some c := by
  by_cases hk : k = at_
  · subst hk
    rcases ws.at_ q hq with e | ⟨e, _⟩
    · exact ⟨c, by rw [e]; exact hc⟩
    · exact ⟨_, e⟩
  · exact ⟨c, by rw [ws.other q hq k hk]; exact hc⟩
theorem Good.write {room : Int} {n : Nat} {nd : Nds} {E : Int} {R : List (List Nat)} {B M : Nat} (w : Good n nd E R B) {at_ : Nat} {b : List Nat} {rc : Nat → Bool} (hE : 0 ≤ E ∧ E ≤ 1048576) (ha : at_ < R.length) (hb : R[at_] = b) (h4 : b.length ≤ M) (hM : M ≤ 2048) (h3 : at_ < 4096)
    (h5 : ∀ q, q < n → ∀ c, cellAt (nd q) (at_ : Int) = some c → c.epoch < E) (h7 : ((B + (60 + M) : Nat) : Int) ≤ room) :
    cntN (fineN (nw room E (at_ : Int) b) rc nd) n = cntN rc n ∧ Good n (wrL room n E (at_ : Int) b rc nd).1 E R (B + (54 + M)) ∧ (∀ q, q < n → rc q = true → ∃ c, cellAt ((wrL room n E (at_ : Int) b rc nd).1 q) (at_ : Int) = some c) := by
  obtain ⟨a1, a2, a3, a4⟩ := wrL_fine (room := room) (rc := rc) (at_ := (at_ : Int)) (b := b) w.ep hE ⟨by omega, by omega⟩ (by omega) h5 w.use_ (by omega)
  refine ⟨a1, ⟨a3, fun q hq => by have := a2 q hq; omega, fun q hq k c hc => ?_⟩, a4⟩
  rcases (wrL_st room n E (at_ : Int) b rc nd).step hq hc with h | ⟨e1, rfl⟩
  · exact w.cel q hq k c h
  · exact ⟨at_, ha, e1, hb.symm, Int.le_refl _⟩
theorem wRow_fine {room : Int} {n : Nat} {E : Int} {rc : Nat → Bool} {R : List (List Nat)} {M : Nat} (hM : M ≤ 2048) (hE : 0 ≤ E ∧ E ≤ 1048576) (hR : R.length ≤ 4096) (hb : ∀ b ∈ R, b.length ≤ M) (hq : n / 2 + 1 ≤ cntN rc n) :
    ∀ (r pre : List (List Nat)) (nd : Nds) (B : Nat), R = pre ++ r → Good n nd E R B → ((B + r.length * (54 + M) + (60 + M) : Nat) : Int) ≤ room →
      (∀ q, q < n → ∀ k c, cellAt (nd q) k = some c → (pre.length : Int) ≤ k → c.epoch < E) → (∀ q, q < n → rc q = true → ∀ i : Nat, i < pre.length → ∃ c, cellAt (nd q) (i : Int) = some c) →
      (wRow room n E rc r pre.length nd).2 = true ∧ Good n (wRow room n E rc r pre.length nd).1 E R (B + r.length * (54 + M)) ∧ (∀ q, q < n → rc q = true → Full R ((wRow room n E rc r pre.length nd).1 q)) ∧
      (∀ q, q < n → ∀ k c, cellAt (nd q) k = some c → ∃ c, cellAt ((wRow room n E rc r pre.length nd).1 q) k = some c)
  | [], pre, nd, B, hr, w, hB, lo, fu => by
    rw [List.append_nil] at hr
    subst hr
    exact ⟨rfl, w.rise (Int.le_refl _) (Nat.le_add_right _ _), fu, fun q hq k c hc => ⟨c, hc⟩⟩
  | b :: r, pre, nd, B, hr, w, hB, lo, fu => by
    have hlt : pre.length < R.length := by rw [hr]; simp
    have hbb : R[pre.length] = b := by
      subst hr
      rw [List.getElem_append_right (Nat.le_refl _)]
      simp
    rw [List.length_cons, Nat.succ_mul] at hB
    generalize hX : r.length * (54 + M) = X at hB
    obtain ⟨a1, a2, a3⟩ := w.write (room := room) (rc := rc) hE hlt hbb (hb b (by rw [hr]; simp)) hM (by omega) (fun q hq c hc => lo q hq _ c hc (Int.le_refl _)) (by omega)
    have ws := wrL_st room n E (pre.length : Nat) b rc nd
    have hok : (wrL room n E (pre.length : Nat) b rc nd).2 = true := by
      unfold wrL
      simp only [decide_eq_true_eq]
      rw [a1]; exact hq
    have hl : (pre ++ [b]).length = pre.length + 1 := by simp
    obtain ⟨c1, c2, c3, c4⟩ := wRow_fine (room := room) (rc := rc) hM hE hR hb hq r (pre ++ [b]) (wrL room n E (pre.length : Nat) b rc nd).1 (B + (54 + M)) (by rw [hr]; simp) a2 (by rw [hX]; omega)
      (fun q hq k c hc hk => by
        rw [hl] at hk
        rcases ws.step hq hc with h | ⟨e, rfl⟩
        · exact lo q hq k c h (by omega)
        · omega)
      (fun q hq hr i hi => by
        rw [hl] at hi
        by_cases hi2 : i < pre.length
        · obtain ⟨c, hc⟩ := fu q hq hr i hi2
          exact ws.full hq hc
        · have : i = pre.length := by omega
          subst this
          exact a3 q hq hr)
    unfold wRow
    rw [if_pos hok]
    rw [hl] at c1 c2 c3 c4
    exact ⟨c1, c2.rise (Int.le_refl _) (by rw [List.length_cons, Nat.succ_mul, hX]; omega), c3, fun q hq k c hc => by
      obtain ⟨d, hd⟩ := ws.full hq hc
      exact c4 q hq k d hd⟩
/-- Open, where a quorum is reached and one of it has all. -/
theorem Good.open_ {room : Int} {n : Nat} {rc : Nat → Bool} {s s' : LS} {e : Int} {R : List (List Nat)} {B M : Nat} (w : Good n s.nd s.ep R B) (h : OpenR room n rc s s' e) (hM : M ≤ 2048) (hE : 0 ≤ s.ep ∧ s.ep < 1048576) (hR : R.length ≤ 4096) (hb : ∀ b ∈ R, b.length ≤ M)
    (hq : n / 2 + 1 ≤ cntN rc n) (hf : R = [] ∨ ∃ q, q < n ∧ rc q = true ∧ Full R (s.nd q)) (hB : ((B + 54 + R.length * (54 + M) + (60 + M) : Nat) : Int) ≤ room) :
    e = 0 ∧ s'.row = R ∧ s'.op = true ∧ s'.ep = s.ep + 1 ∧ Good n s'.nd (s.ep + 1) R (B + 54 + R.length * (54 + M)) ∧ (∀ q, q < n → rc q = true → Full R (s'.nd q)) ∧ (∀ q, q < n → Full R (s.nd q) → Full R (s'.nd q)) := by
  have key : ∀ q, q < n → (nseal room (s.ep + 1) (s.nd q)).2 = 0 ∧ used (nseal room (s.ep + 1) (s.nd q)).1 ≤ used (s.nd q) + 54 ∧ epOf (nseal room (s.ep + 1) (s.nd q)).1 = s.ep + 1 := fun q hq =>
    nseal_fine (by have := w.ep q hq; omega) ⟨by omega, by omega⟩ (by have := w.use_ q hq; generalize R.length * (54 + M) = X at hB; omega)
  have hcnt : cntN (fineN (nseal room (s.ep + 1)) rc s.nd) n = cntN rc n := cntN_congr fun q hq => by unfold fineN; rw [(key q hq).1]; simp
  have same : ∀ q, q < n → ∀ k, cellAt (allN (nseal room (s.ep + 1)) rc n s.nd q) k = cellAt (s.nd q) k := fun q hq k => by
    rw [allN_n hq]
    split
    · exact (nseal_post room (s.ep + 1) (s.nd q)).1 k
    · rfl
  have w1 : Good n (allN (nseal room (s.ep + 1)) rc n s.nd) (s.ep + 1) R (B + 54) := by
    refine ⟨fun q hq => ?_, fun q hq => ?_, fun q hq k c hc => ?_⟩
    · rw [allN_n hq]
      split
      · rw [(key q hq).2.2]; exact Int.le_refl _
      · have := w.ep q hq; omega
    · rw [allN_n hq]
      have := w.use_ q hq
      have := (key q hq).2.1
      split <;> omega
    · rw [same q hq] at hc
      obtain ⟨i, h1, h2, h3, h4⟩ := w.cel q hq k c hc
      exact ⟨i, h1, h2, h3, by omega⟩
  unfold OpenR at h
  rw [if_pos (by rw [hcnt]; exact hq)] at h
  obtain ⟨row, ri, h⟩ := h
  have hv : ∀ (k : Int) (c : Cel), c ∈ votes (fineN (nseal room (s.ep + 1)) rc s.nd) s.nd k n → ∃ i : Nat, ∃ h : i < R.length, k = (i : Int) ∧ c.bytes = R[i] := fun k c hc => by
    obtain ⟨q, h1, _, h3⟩ := votes_mem.1 hc
    obtain ⟨i, x1, x2, x3, _⟩ := w.cel q h1 k c h3
    exact ⟨i, x1, x2, x3⟩
  have hrow : row = R := by
    have hle : ∀ i : Nat, i < R.length → ∃ c, c ∈ votes (fineN (nseal room (s.ep + 1)) rc s.nd) s.nd (i : Int) n := fun i hi => by
      rcases hf with rfl | ⟨q, h1, h2, h3⟩
      · cases hi
      · obtain ⟨c, hc⟩ := h3 i hi
        exact ⟨c, votes_mem.2 ⟨q, h1, by unfold fineN; rw [h2, (key q h1).1]; rfl, hc⟩⟩
    have l1 : R.length ≤ row.length := by
      rcases Nat.lt_or_ge row.length R.length with h | h
      · obtain ⟨c, hc⟩ := hle row.length h
        rw [ri.no row.length (Nat.le_refl _)] at hc
        cases hc
      · exact h
    have l2 : row.length ≤ R.length := by
      rcases ri.top with h | h
      · rw [h]; simp
      · obtain ⟨d, hd⟩ := List.exists_mem_of_ne_nil _ h
        obtain ⟨i, h1, h2, _⟩ := hv _ d hd
        omega
    refine List.ext_getElem (by omega) fun i h1 h2 => ?_
    obtain ⟨c, hc⟩ := hle i h2
    obtain ⟨x, hx⟩ := bestOf_ne (List.ne_nil_of_mem hc)
    have hri := ri.is i h1
    simp only [hx] at hri
    rw [hri]
    obtain ⟨j, y1, y2, y3⟩ := hv _ x (bestOf_mem hx)
    have : j = i := by omega
    subst this
    exact y3
  subst hrow
  obtain ⟨c1, c2, c3, c4⟩ := wRow_fine (room := room) (rc := rc) (n := n) (E := s.ep + 1) hM ⟨by omega, by omega⟩ hR hb hq row [] (allN (nseal room (s.ep + 1)) rc n s.nd) (B + 54) rfl w1 hB
    (fun q hq k c hc _ => by
      rw [same q hq] at hc
      obtain ⟨i, h1, h2, h3, h4⟩ := w.cel q hq k c hc
      omega)
    (fun q hq hr i hi => absurd hi (by simp))
  simp only [List.length_nil] at c1 c2 c3 c4
  rw [if_pos c1] at h
  obtain ⟨rfl, rfl⟩ := h
  exact ⟨rfl, rfl, rfl, rfl, c2, c3, fun q hq hfu i hi => by
    obtain ⟨c, hc⟩ := hfu i hi
    exact c4 q hq _ c (by rw [same q hq]; exact hc)⟩
/-- Append to an open log. -/
theorem Good.app {room : Int} {n : Nat} {rc : Nat → Bool} {s : LS} {b : List Nat} {B M : Nat} (w : Good n s.nd s.ep s.row B) (ho : s.op = true) (hM : M ≤ 2048) (hE : 0 ≤ s.ep ∧ s.ep ≤ 1048576) (h0 : b.length ≠ 0) (h1 : b.length ≤ M) (hl : s.row.length < 4096) (hB : ((B + (60 + M) : Nat) : Int) ≤ room) :
    Good n (appL room n rc b s).1.nd s.ep (s.row ++ [b]) (B + (54 + M)) ∧ (∀ q, q < n → rc q = true → Full s.row (s.nd q) → Full (s.row ++ [b]) ((appL room n rc b s).1.nd q)) ∧ (appL room n rc b s).1.ep = s.ep ∧
    if n / 2 + 1 ≤ cntN rc n then (appL room n rc b s).2 = (s.row.length, 0) ∧ (appL room n rc b s).1.row = s.row ++ [b] ∧ (appL room n rc b s).1.op = true
    else (appL room n rc b s).2 = (0, 8) ∧ (appL room n rc b s).1.row = s.row ∧ (appL room n rc b s).1.op = false := by
  have w2 : Good n s.nd s.ep (s.row ++ [b]) B := ⟨w.ep, w.use_, fun q hq k c hc => by
    obtain ⟨i, h1, h2, h3, h4⟩ := w.cel q hq k c hc
    exact ⟨i, by rw [List.length_append]; omega, h2, by rw [List.getElem_append_left h1]; exact h3, h4⟩⟩
  have hno : ∀ q, q < n → ∀ c, cellAt (s.nd q) (s.row.length : Nat) = some c → c.epoch < s.ep := fun q hq c hc => by
    obtain ⟨i, h1, h2, h3, h4⟩ := w.cel q hq _ c hc
    omega
  obtain ⟨a1, a2, a3⟩ := w2.write (room := room) (rc := rc) (at_ := s.row.length) (b := b) hE (by simp) (by rw [List.getElem_append_right (Nat.le_refl _)]; simp) h1 hM hl hno hB
  have ws := wrL_st room n s.ep (s.row.length : Nat) b rc s.nd
  have fu : ∀ q, q < n → rc q = true → Full s.row (s.nd q) → Full (s.row ++ [b]) ((wrL room n s.ep (s.row.length : Nat) b rc s.nd).1 q) := fun q hq hr hf i hi => by
    by_cases hi2 : i < s.row.length
    · obtain ⟨c, hc⟩ := hf i hi2
      exact ws.full hq hc
    · have : i = s.row.length := by rw [List.length_append] at hi; simp at hi; omega
      subst this
      exact a3 q hq hr
  unfold appL
  rw [if_neg (by rw [ho]; decide), if_neg (by omega), if_neg (by omega)]
  have hok : (wrL room n s.ep (s.row.length : Nat) b rc s.nd).2 = decide (n / 2 + 1 ≤ cntN rc n) := by unfold wrL; simp only; rw [a1]
  by_cases hq : n / 2 + 1 ≤ cntN rc n
  · rw [if_pos (by rw [hok]; simpa using hq), if_pos hq]
    exact ⟨a2, fu, rfl, rfl, rfl, rfl⟩
  · rw [if_neg (by rw [hok]; simpa using hq), if_neg hq]
    exact ⟨a2, fu, rfl, rfl, rfl, rfl⟩
theorem open_few {room : Int} {n : Nat} {rc : Nat → Bool} {s s' : LS} {e : Int} (h : OpenR room n rc s s' e) (hq : ¬ n / 2 + 1 ≤ cntN rc n) : e = 8 ∧ s'.op = false ∧ s'.row = s.row := by
  unfold OpenR at h
  rw [if_neg (fun hh => hq (Nat.le_trans hh (cntN_mono fun q _ hp => (fineN_rc hp).1)))] at h
  obtain ⟨rfl, rfl⟩ := h
  exact ⟨rfl, rfl, rfl⟩
theorem app_shut {room : Int} {n : Nat} {rc : Nat → Bool} {s : LS} {b : List Nat} (h : s.op = false) : appL room n rc b s = (s, 0, 8) := by
  unfold appL; rw [if_pos h]
theorem app_range {room : Int} {n : Nat} {rc : Nat → Bool} {s : LS} {b : List Nat} (h : s.op = true) (hb : b.length = 0 ∨ 2048 < b.length) : appL room n rc b s = (s, 0, 2) := by
  unfold appL; rw [if_neg (by rw [h]; decide), if_pos hb]
end Go.Proofs.Ytlbekgogjlchjaa.Pk
