/-
  An evaluator upon abstract states that the kernel can run, and why what it answers holds. Conditions: as each theorem says.
-/
import Derived.Test.YtfcjehlhoebmnaaGreatDoorEvF
namespace Go.Proofs.YtfcjehlhoebmnaaGreatDoor.Ab
open Go Go.RowKit
noncomputable section
set_option linter.unusedVariables false
set_option linter.unusedSimpArgs false

/-! ### A table of calls that were run -/
theorem all2_eq {α : Type} {p : α → α → Bool} (hp : ∀ a b, p a b = true → a = b) : ∀ {l m : List α}, all2 p l m = true → l = m
  | [], [], _ => rfl
  | a :: l, b :: m, h => by
    simp only [all2, Bool.and_eq_true] at h
    rw [hp a b h.1, all2_eq hp h.2]
  | [], _ :: _, h => by simp [all2] at h
  | _ :: _, [], h => by simp [all2] at h
def eqN : Nat → V → V → Bool
  | 0, _, _ => false
  | k + 1, a, b => match a, b with
    | .ptr i o, .ptr j p => Nat.beq i j && Nat.beq o p
    | .sl i o n c, .sl j p m d => Nat.beq i j && Nat.beq o p && Nat.beq n m && Nat.beq c d
    | .map i, .map j => Nat.beq i j
    | .imm n cs, .imm m ds => Nat.beq n m && all2 (eqN k) cs ds
    | .at cs, .at ds => all2 (eqN k) cs ds
    | .agg cs, .agg ds => all2 (eqN k) cs ds
    | .tuple cs, .tuple ds => all2 (eqN k) cs ds
    | .func (.func f) cs es, .func (.func g) ds fs => Nat.beq f g && all2 (eqN k) cs ds && all2 (eqN k) es fs
    | .iface t v, .iface u w => Nat.beq t u && eqN k v w
    | .bool a, .bool b => a == b
    | .int k a, .int l b => decide (k = l) && decide (a = b)
    | .top, .top => true
    | .snil, .snil => true
    | .pnil, .pnil => true
    | .mnil, .mnil => true
    | .z0, .z0 => true
    | .nilFunc, .nilFunc => true
    | .nilIface, .nilIface => true
    | _, _ => false
theorem eqN_eq : ∀ {k : Nat} {a b : V}, eqN k a b = true → a = b
  | 0, _, _, h => by simp [eqN] at h
  | k + 1, a, b, h => by
    have ih : ∀ a b, eqN k a b = true → a = b := fun a b => eqN_eq
    have nb : ∀ {i j : Nat}, Nat.beq i j = true → i = j := fun h => Nat.eq_of_beq_eq_true h
    unfold eqN at h
    split at h <;> try simp only [Bool.and_eq_true, decide_eq_true_eq, beq_iff_eq, reduceCtorEq] at h
    · rw [nb h.1, nb h.2]
    · rw [nb h.1.1.1, nb h.1.1.2, nb h.1.2, nb h.2]
    · rw [nb h]
    · rw [nb h.1, all2_eq ih h.2]
    · rw [all2_eq ih h]
    · rw [all2_eq ih h]
    · rw [all2_eq ih h]
    · rw [nb h.1.1, all2_eq ih h.1.2, all2_eq ih h.2]
    · rw [nb h.1, ih _ _ h.2]
    · rw [h]
    · rw [h.1, h.2]
    all_goals rfl
def eqOb : AObj → AObj → Bool
  | .dead, .dead => true
  | .cells c e x, .cells d f y => all2 (eqN 9) c d && Nat.beq e f && decide (x = y)
  | .map es cl, .map fs dl => decide (cl = dl) && all2 (fun p q : Nat × V × V => Nat.beq p.1 q.1 && eqN 9 p.2.1 q.2.1 && eqN 9 p.2.2 q.2.2) es fs
  | _, _ => false
theorem eqOb_eq {a b : AObj} (h : eqOb a b = true) : a = b := by
  have nb : ∀ {i j : Nat}, Nat.beq i j = true → i = j := fun h => Nat.eq_of_beq_eq_true h
  unfold eqOb at h
  split at h
  · rfl
  · simp only [Bool.and_eq_true, decide_eq_true_eq] at h
    rw [all2_eq (fun _ _ => eqN_eq) h.1.1, nb h.1.2, h.2]
  · simp only [Bool.and_eq_true, decide_eq_true_eq] at h
    rw [h.1, all2_eq (fun p q hpq => by
      simp only [Bool.and_eq_true] at hpq
      obtain ⟨⟨h1, h2⟩, h3⟩ := hpq
      obtain ⟨a, b, c⟩ := p
      obtain ⟨a', b', c'⟩ := q
      simp only at h1 h2 h3
      rw [nb h1, eqN_eq h2, eqN_eq h3]) h.2]
  · cases h
def mkT (L : List (Nat × AObj)) : Tr AObj := L.foldl (fun t p => t.set p.2 p.1) .e
theorem mkT_obj (L : List (Nat × AObj)) (i : Nat) : tobj (mkT L) i = .dead ∨ ∃ p ∈ L, p.1 = i ∧ tobj (mkT L) i = p.2 := by
  have : ∀ (L : List (Nat × AObj)) (t : Tr AObj), tobj (L.foldl (fun t p => t.set p.2 p.1) t) i = tobj t i ∨ ∃ p ∈ L, p.1 = i ∧ tobj (L.foldl (fun t p => t.set p.2 p.1) t) i = p.2 := by
    intro L
    induction L with
    | nil => intro t; exact .inl rfl
    | cons p L ih =>
      intro t
      rw [List.foldl_cons]
      rcases ih (t.set p.2 p.1) with h | ⟨q, hq, h1, h2⟩
      · rw [h, tobj_set]
        by_cases hi : i = p.1
        · rw [if_pos hi]; exact .inr ⟨p, by simp, hi.symm, rfl⟩
        · rw [if_neg hi]; exact .inl rfl
      · exact .inr ⟨q, by simp [hq], h1, h2⟩
  exact this L .e
structure Ent where
  fid : FuncId
  args : List V
  n : Nat
  b : Nat
  w : List Nat
  L : List (Nat × AObj)
  r : V
  n' : Nat
  w' : List Nat
  L' : List (Nat × AObj)
def Ent.S (e : Ent) : SH := { n := e.n, t := mkT e.L, b := e.b, w := e.w }
def Ent.S' (e : Ent) : SH := { n := e.n', t := mkT e.L', b := e.b, w := e.w' }
section
variable {P : Program} {G : List (Nat × List V)}
def Ent.Ok (P : Program) (G : List (Nat × List V)) (e : Ent) : Prop := Kp e.S e.S' ∧ SCalls P e.fid e.args (e.S.a G) fun x h => x = e.r ∧ h = e.S'.a G
def Ent.chk (P : Program) (G : List (Nat × List V)) (X : Ext P G) (k : Nat) (e : Ent) : Bool :=
  match callF P G X (runC P G X k) e.fid e.args e.S with
  | some [(v, s1)] => eqN 9 v e.r && Nat.ble s1.n e.n' && decide (s1.w = e.w') && (e.L'.all fun p => eqOb (s1.obj p.1) p.2 && Nat.blt p.1 e.n') && (e.L.all fun p => Nat.blt p.1 e.n) &&
    (List.range e.b).all fun j => eqOb (e.S'.obj j) (e.S.obj j) || e.w'.contains j
  | _ => false
theorem Ent.chk_ok {X : Ext P G} {k : Nat} {e : Ent} (h : e.chk P G X k = true) : e.Ok P G := by
  unfold Ent.chk at h
  split at h
  case h_2 => cases h
  rename_i v s1 hc
  simp only [Bool.and_eq_true, List.all_eq_true, decide_eq_true_eq, Bool.or_eq_true] at h
  obtain ⟨⟨⟨⟨⟨h1, h2⟩, h3⟩, h4⟩, h5⟩, h6⟩ := h
  have h2 := Nat.le_of_ble_eq_true h2
  obtain ⟨k1, c1⟩ := run_call hc
  have hv := eqN_eq h1
  have far' : ∀ j, e.n' ≤ j → e.S'.obj j = .dead := fun j hj => (mkT_obj e.L' j).resolve_right fun ⟨p, hp, e1, _⟩ => by
    have := Nat.le_of_ble_eq_true (h4 p hp).2
    omega
  have far : ∀ j, e.n ≤ j → e.S.obj j = .dead := fun j hj => (mkT_obj e.L j).resolve_right fun ⟨p, hp, e1, _⟩ => by
    have := Nat.le_of_ble_eq_true (h5 p hp)
    omega
  have hn : e.n ≤ e.n' := Nat.le_trans k1.n h2
  refine ⟨⟨hn, rfl, fun j hj => ?_, fun j hj hb hw => ?_, fun j hj => ?_⟩, fun ρ B w0 w args' hw ha => ?_⟩
  · have := k1.w j hj
    rw [h3] at this
    exact this
  · rcases h6 j (List.mem_range.2 hb) with h | h
    · exact eqOb_eq h
    · exact absurd (show j ∈ e.w' by simpa using h) hw
  · rw [far' j hj, far j (Nat.le_trans hn hj)]
  · refine (c1 ρ B w0 w args' hw ha).mono fun en w' hh => ?_
    rcases hh with ⟨ρ', r', v', h', e1, e2, e3, e4, e5, e6⟩ | ⟨ρ', ch, h', e1, e2, e3, e4, e5⟩
    · subst e5 e6
      refine .inl ⟨ρ', _, v', e.S'.a G, e1, e2, e3.weak h2 rfl fun i => ?_, e4, hv, rfl⟩
      rcases mkT_obj e.L' i with hd | ⟨p, hp, q1, q2⟩
      · exact .inr hd
      · subst q1
        exact .inl (q2.trans (eqOb_eq (h4 p hp).1).symm)
    · exact e5.elim
/-- Every block of a tree is below n. -/
def bnd (t : Tr AObj) : Nat → Bool := Tr.rec (motive := fun _ => Nat → Bool) (fun _ => true) (fun v _ _ l r n => (Nat.blt 0 n || v.isNone) && (l (Nat.div n 2) && r (Nat.div (Nat.sub n 1) 2))) t
theorem bnd_ok : ∀ (t : Tr AObj) (n i : Nat), bnd t n = true → n ≤ i → t.get i = none
  | .e, _, _, _, _ => rfl
  | .n v l r, n, i, h, hi => by
    have h : ((Nat.blt 0 n || v.isNone) && (bnd l (n / 2) && bnd r ((n - 1) / 2))) = true := h
    simp only [Bool.and_eq_true, Bool.or_eq_true] at h
    obtain ⟨h1, h2, h3⟩ := h
    rw [Tr.get_n]
    by_cases hz : i = 0
    · rw [if_pos hz]
      rcases h1 with h1 | h1
      · have := Nat.le_of_ble_eq_true h1; omega
      · simpa using h1
    · rw [if_neg hz]
      by_cases hm : i % 2 = 0
      · rw [if_pos hm]; exact bnd_ok r _ _ h3 (by omega)
      · rw [if_neg hm]; exact bnd_ok l _ _ h2 (by omega)
def Ent.cov (e : Ent) (s : SH) : Bool := Nat.beq s.n e.n && Nat.beq s.b e.b && decide (s.w = e.w) && (e.L.all fun p => eqOb (s.obj p.1) p.2 && Nat.blt p.1 e.n) && bnd s.t s.n &&
  (List.range e.b).all fun j => eqOb (e.S.obj j) (s.obj j)
theorem Ent.use {e : Ent} (he : e.Ok P G) {s : SH} (h : e.cov s = true) : Kp s e.S' ∧ SCalls P e.fid e.args (s.a G) fun x h => x = e.r ∧ h = e.S'.a G := by
  unfold Ent.cov at h
  simp only [Bool.and_eq_true, List.all_eq_true, decide_eq_true_eq] at h
  obtain ⟨⟨⟨⟨⟨h1, h2⟩, h3⟩, h4⟩, h5⟩, h6⟩ := h
  have h1 : s.n = e.S.n := Nat.eq_of_beq_eq_true h1
  have h2 : s.b = e.S.b := Nat.eq_of_beq_eq_true h2
  have h3 : s.w = e.S.w := h3
  have far : ∀ j, e.n ≤ j → e.S.obj j = .dead := fun j hj => (mkT_obj e.L j).resolve_right fun ⟨p, hp, e1, _⟩ => by
    have := Nat.le_of_ble_eq_true (h4 p hp).2
    omega
  have kS : Kp s e.S := ⟨Nat.le_of_eq h1, h2.symm, fun j hj => by rw [← h3]; exact hj, fun j hn hb _ => eqOb_eq (h6 j (List.mem_range.2 (by rw [h2] at hb; exact hb))), fun j hj => by
    rw [far j hj]
    unfold SH.obj
    rw [bnd_ok s.t s.n j h5 (by omega)]⟩
  refine ⟨kS.trans he.1, fun ρ B w0 w args' hw ha => he.2 ρ B w0 w args' (hw.weak (Nat.le_of_eq h1) rfl fun i => ?_) ha⟩
  rcases mkT_obj e.L i with hd | ⟨p, hp, q1, q2⟩
  · exact .inr hd
  · subst q1
    exact .inl (q2.trans (eqOb_eq (h4 p hp).1).symm)
def lookE (T : List Ent) (fid : FuncId) (args : List V) (s : SH) : Option (V × SH) := (T.find? fun e => Nat.beq e.fid fid && all2 (eqN 9) e.args args && e.cov s).map fun e => (e.r, e.S')
theorem lookE_ok {T : List Ent} (hT : ∀ e ∈ T, e.Ok P G) {fid : FuncId} {args : List V} {s s' : SH} {r : V} (h : lookE T fid args s = some (r, s')) : Kp s s' ∧ SCalls P fid args (s.a G) fun x h => x = r ∧ h = s'.a G := by
  unfold lookE at h
  cases hf : T.find? fun e => Nat.beq e.fid fid && all2 (eqN 9) e.args args && e.cov s with
  | none => rw [hf] at h; cases h
  | some e =>
    rw [hf] at h
    have hp := List.find?_some hf
    simp only [Bool.and_eq_true] at hp
    obtain ⟨⟨h1, h2⟩, h3⟩ := hp
    have h1 := Nat.eq_of_beq_eq_true h1
    have h2 := all2_eq (fun _ _ => eqN_eq) h2
    subst h1 h2
    simp only [Option.map_some, Option.some.injEq, Prod.mk.injEq] at h
    obtain ⟨rfl, rfl⟩ := h
    exact Ent.use (hT e (List.mem_of_find?_eq_some hf)) h3
end
end
end Go.Proofs.YtfcjehlhoebmnaaGreatDoor.Ab
