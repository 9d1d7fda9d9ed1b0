/-
  An evaluator upon abstract states that the kernel can run, and why what it answers holds. Conditions: as each theorem says.
-/
import Derived.Test.YtfcjehlhoebmnaaGreatDoorEvD
namespace Go.Proofs.YtfcjehlhoebmnaaGreatDoor.Ab
noncomputable section
open Go Go.RowKit
set_option linter.unusedVariables false
set_option linter.unusedSimpArgs false

section
variable {P : Program} {G : List (Nat × List V)} {X : Ext P G}
def RcOk (P : Program) (G : List (Nat × List V)) (rc : Nat → Code → Fr → SH → Option (List Res)) : Prop :=
  ∀ n c f s outs, rc n c f s = some outs → (∀ o ∈ outs, Kp s o.2.2) ∧ ∀ Q : AExit → AFrame → AHeap → Prop, (∀ o ∈ outs, Q o.1 o.2.1.a (o.2.2.a G)) → SWp P n c Q f.a (s.a G)
theorem retR_ok {fn : Func} {s : SH} : ∀ {res : List Res} {l : List (V × SH)}, retR P G fn s res = some l → (∀ o ∈ res, (o.1 = .normal ∨ o.1 = .ret) ∧ ∃ r, resultsA P fn.results.toList o.2.1.a (o.2.2.a G) = some r ∧ (r, o.2.2) ∈ l) ∧ ∀ p ∈ l, ∃ o ∈ res, o.2.2 = p.2
  | [], l, h => by
    obtain rfl := Option.some.inj h
    simp
  | (e, f, s1) :: res, l, h => by
    have go : (e = .normal ∨ e = .ret) → (match resultsA P fn.results.toList f.a (s1.a G), retR P G fn s res with | some r, some o => some ((r, s1) :: o) | _, _ => none) = some l →
        (∀ o ∈ (e, f, s1) :: res, (o.1 = .normal ∨ o.1 = .ret) ∧ ∃ r, resultsA P fn.results.toList o.2.1.a (o.2.2.a G) = some r ∧ (r, o.2.2) ∈ l) ∧ ∀ p ∈ l, ∃ o ∈ (e, f, s1) :: res, o.2.2 = p.2 := fun he h => by
      split at h
      case h_2 => cases h
      rename_i r o hr ho
      obtain rfl := Option.some.inj h
      have ih := retR_ok ho
      refine ⟨fun x hx => ?_, fun p hp => ?_⟩
      · rcases List.mem_cons.1 hx with rfl | hx
        · exact ⟨he, r, hr, by simp⟩
        · obtain ⟨h1, r2, h2, h3⟩ := ih.1 x hx
          exact ⟨h1, r2, h2, by simp [h3]⟩
      · rcases List.mem_cons.1 hp with rfl | hp
        · exact ⟨(e, f, s1), by simp, rfl⟩
        · obtain ⟨x, hx, he⟩ := ih.2 p hp
          exact ⟨x, by simp [hx], he⟩
    unfold retR at h
    cases e with
    | normal => exact go (.inl rfl) h
    | ret => exact go (.inr rfl) h
    | exit i => cases h
    | goto l => cases h
    | panic => cases h
theorem joinR_ok {fid : FuncId} {args : List V} {s : SH} {l outs : List (V × SH)} (hk : ∀ p ∈ l, Kp s.enter p.2) (hs : SCalls P fid args (s.a G) fun r h => ∃ p ∈ l, r = p.1 ∧ h = p.2.a G) (hj : joinR s l = some outs) :
    (∀ p ∈ outs, Kp s p.2) ∧ SCalls P fid args (s.a G) fun r h => ∃ p ∈ outs, r = p.1 ∧ h = p.2.a G := by
  unfold joinR at hj
  split at hj
  · cases hj
  · rename_i r s1
    obtain rfl := Option.some.inj hj
    refine ⟨fun p hp => ?_, hs.mono fun r' h' ⟨p, hp, e1, e2⟩ => ?_⟩
    · rw [List.mem_singleton] at hp; subst hp; exact enter_kp (hk (r, s1) (by simp))
    · rw [List.mem_singleton] at hp; subst hp; exact ⟨_, List.mem_singleton.2 rfl, e1, e2⟩
  · rename_i r s1 l' hne
    generalize maxN s1.n l' = m at hj
    cases hc : (Nat.ble s1.n m && l'.all (sameR s m r s1)) with
    | false => rw [hc] at hj; cases hj
    | true =>
    rw [hc] at hj
    obtain rfl := Option.some.inj hj
    rw [Bool.and_eq_true] at hc
    obtain ⟨hm, hc⟩ := hc
    have hm := Nat.le_of_ble_eq_true hm
    refine ⟨fun p hp => ?_, fun ρ B w0 w args' hw ha => ?_⟩
    · rw [List.mem_singleton] at hp; subst hp; exact enter_kp (norm_kp hm (hk (r, s1) (by simp)))
    · have hd : ∀ i, s.n ≤ i → s.obj i = .dead := fun i hi => hw.heap.deadN (i := i) hi
      refine (hs ρ B w0 w args' hw ha).mono fun e w' hh => ?_
      rcases hh with ⟨ρ', r', v', h', h1, h2, h3, h4, p, hp, e1, e2⟩ | ⟨ρ', ch, h', h1, h2, h3, h4, h5⟩
      · have hp2 : p.1 = r ∧ p.2.n ≤ m ∧ normF s m p.1 p.2 = normF s m r s1 := by
          rcases List.mem_cons.1 hp with rfl | hp
          · exact ⟨rfl, hm, rfl⟩
          · exact sameR_norm (List.all_eq_true.1 hc p hp)
        subst e1 e2
        refine .inl ⟨ρ', p.1, v', (s.leave (normF s m r s1)).a G, h1, h2, ?_, h4, _, List.mem_singleton.2 rfl, hp2.1, rfl⟩
        rw [← hp2.2.2]
        exact h3.weak hp2.2.1 rfl fun i => norm_weak (m := m) (hk p hp) hd i
      · exact h5.elim
theorem callF0_ok {rc : Nat → Code → Fr → SH → Option (List Res)} (hr : RcOk P G rc) {fid : FuncId} {args : List V} {s : SH} {outs : List (V × SH)} (hc : callF0 P G rc fid args s = some outs) :
    (∀ p ∈ outs, Kp s p.2) ∧ SCalls P fid args (s.a G) fun r h => ∃ p ∈ outs, r = p.1 ∧ h = p.2.a G := by
  unfold callF0 at hc
  split at hc
  · cases hc
  rename_i fn hfn
  split at hc
  · cases hc
  rename_i c hb
  cases hl : Nat.ble args.length fn.ntmps with
  | false => rw [hl] at hc; cases hc
  | true =>
  rw [hl] at hc
  simp only [cond_true] at hc
  split at hc
  case h_2 => cases hc
  rename_i res hres
  split at hc
  case h_2 => cases hc
  rename_i l hret
  obtain ⟨k1, k2⟩ := hr _ _ _ _ _ hres
  obtain ⟨r1, r2⟩ := retR_ok hret
  refine joinR_ok (fun p hp => ?_) ?_ hc
  · obtain ⟨o, ho, e⟩ := r2 p hp
    rw [← e]; exact k1 o ho
  · refine SCalls.enterS hfn hb (Nat.le_of_ble_eq_true hl) ?_
    rw [← enter_a]
    refine k2 _ fun o ho => ?_
    obtain ⟨he, r, h1, h2⟩ := r1 o ho
    rcases he with he | he
    · rw [he]
      show (match resultsA P fn.results.toList o.2.1.a (o.2.2.a G) with | some r => _ | none => False)
      rw [h1]; exact ⟨_, h2, rfl, rfl⟩
    · rw [he]
      show (match resultsA P fn.results.toList o.2.1.a (o.2.2.a G) with | some r => _ | none => False)
      rw [h1]; exact ⟨_, h2, rfl, rfl⟩
theorem set_a (G : List (Nat × List V)) (s : SH) (i : Nat) (o : AObj) : ({ s with t := s.t.set o i } : SH).a G = (s.a G).set i o := by
  show AHeap.mk s.n (fun j => tobj (s.t.set o i) j) (gl G) = AHeap.mk s.n (fun j => if j = i then o else tobj s.t j) (gl G)
  congr 1
  funext j
  exact tobj_set _ _ _ _
theorem push_a (G : List (Nat × List V)) (s : SH) (o : AObj) (b : Nat) (w : List Nat) : ({ n := s.n + 1, t := s.t.set o s.n, b := b, w := w } : SH).a G = (s.a G).push o := by
  show AHeap.mk (s.n + 1) (fun j => tobj (s.t.set o s.n) j) (gl G) = AHeap.mk (s.n + 1) (fun j => if j = s.n then o else tobj s.t j) (gl G)
  congr 1
  funext j
  exact tobj_set _ _ _ _
theorem nelem {l : List Nat} {i : Nat} (h : (!l.elem i) = true) : i ∉ l := by
  simpa using h
theorem callR_ok {rc : Nat → Code → Fr → SH → Option (List Res)} (hr : RcOk P G rc) {fid : FuncId} {args : List V} {s : SH} {outs : List (V × SH)} (hc : callR P G rc fid args s = some outs) :
    (∀ p ∈ outs, Kp s p.2) ∧ SCalls P fid args (s.a G) fun r h => ∃ p ∈ outs, r = p.1 ∧ h = p.2.a G := by
  unfold callR at hc
  split at hc
  case h_2 => cases hc
  rename_i fn hfn
  split at hc
  case h_2 => cases hc
  rename_i A A2 bid g ps a b hb
  split at hc
  case h_2 => cases hc
  rename_i p hps
  have hps : ps = #[p] := by apply Array.ext'; simpa using hps
  subst hps
  cases hl : Nat.ble args.length fn.ntmps with
  | false => rw [hl] at hc; cases hc
  | true =>
  rw [hl] at hc
  simp only [cond_true] at hc
  split at hc
  case h_2 => cases hc
  rename_i f1 s1 h1
  split at hc
  case h_2 => cases hc
  rename_i f2 s2 h2
  split at hc
  case h_2 => cases hc
  rename_i gf caps hg
  cases hcal : callable P gf with
  | false => rw [hcal] at hc; cases hc
  | true =>
  rw [hcal] at hc
  simp only [cond_true] at hc
  split at hc
  case h_2 => cases hc
  rename_i r4 s4 h4
  cases hw : (!s4.w.elem s2.n && !s4.w.elem (s2.n + 1)) with
  | false => rw [hw] at hc; cases hc
  | true =>
  rw [hw] at hc
  simp only [cond_true] at hc
  split at hc
  case h_2 => cases hc
  rename_i r hres
  obtain rfl := Option.some.inj hc
  simp only [Bool.and_eq_true] at hw
  have w1 := nelem hw.1
  have w2 := nelem hw.2
  obtain ⟨k1, e1⟩ := hr _ _ _ _ _ h1
  obtain ⟨k2, e2⟩ := hr _ _ _ _ _ h2
  have k1 := k1 _ (List.mem_singleton.2 rfl)
  have k2 := k2 _ (List.mem_singleton.2 rfl)
  have k12 : Kp s.enter s2 := k1.trans k2
  obtain ⟨k4, e4⟩ := callF0_ok hr h4
  have k4 := k4 _ (List.mem_singleton.2 rfl)
  have n4 : s2.n + 1 + 1 ≤ s4.n := k4.n
  have n2 : s.n ≤ s2.n := k12.n
  obtain ⟨vs, hvs⟩ : ∃ vs, vs = (List.range fn.ntmps).map f2.a := ⟨_, rfl⟩
  rw [← hvs] at h4 e4 k4
  have ol : ∀ j, (s2.loopS p a b vs).obj j = if j = s2.n + 1 then .pin (.loop s2.n p a b false) vs else if j = s2.n then .pin .dfd [] else s2.obj j := fun j => by
    show tobj ((s2.t.set (.pin .dfd []) s2.n).set (.pin (.loop s2.n p a b false) vs) (s2.n + 1)) j = _
    rw [tobj_set, tobj_set]; rfl
  have la : (s2.loopS p a b vs).a G = ((s2.a G).push (.pin .dfd [])).push (.pin (.loop s2.n p a b false) vs) := by
    have q1 := push_a G s2 (.pin .dfd []) 0 []
    have q2 := push_a G { n := s2.n + 1, t := s2.t.set (.pin .dfd []) s2.n, b := 0, w := [] } (.pin (.loop s2.n p a b false) vs) (s2.n + 1 + 1) []
    rw [q1] at q2
    exact q2
  have g1 : s4.obj (s2.n + 1) = .pin (.loop s2.n p a b false) vs := (k4.old _ (show s2.n + 1 < s2.n + 1 + 1 by omega) (show s2.n + 1 < s2.n + 1 + 1 by omega) w2).trans (by rw [ol]; simp)
  have g0 : s4.obj s2.n = .pin .dfd [] := (k4.old _ (show s2.n < s2.n + 1 + 1 by omega) (show s2.n < s2.n + 1 + 1 by omega) w1).trans (by rw [ol, if_neg (by omega), if_pos rfl])
  have o5 : ∀ (bb : Nat) (ww : List Nat) j, j ≠ s2.n → j ≠ s2.n + 1 → (SH.mk s4.n ((s4.t.set .dead (s2.n + 1)).set .dead s2.n) bb ww).obj j = s4.obj j := fun bb ww j h1 h2 => by
    show tobj ((s4.t.set .dead (s2.n + 1)).set .dead s2.n) j = _
    rw [tobj_set, tobj_set, if_neg h1, if_neg h2]; rfl
  refine ⟨fun q hq => ?_, SCalls.enterF (p := p) (g := g) (gf := gf) (K := fun f h => f = f2.a ∧ h = s2.a G) (caps := fun _ => caps) hfn hb hcal (Nat.le_of_ble_eq_true hl) ?_ (fun f h hk => by rw [hk.1]; exact hg) fun f h hk => ?_⟩
  · rw [List.mem_singleton] at hq
    subst hq
    refine ⟨by show s.n ≤ s4.n; omega, rfl, fun j h => notes_sub h, fun j hn hb hw => ?_, fun j hj => ?_⟩
    · have hw2 : j ∉ s2.w ∧ j ∉ s4.w := ⟨fun h => hw (notes_mem (List.mem_append.2 (.inl h)) hb), fun h => hw (notes_mem (List.mem_append.2 (.inr h)) hb)⟩
      refine (o5 _ _ j (by omega) (by omega)).trans ((k4.old j (show j < s2.n + 1 + 1 by omega) (show j < s2.n + 1 + 1 by omega) hw2.2).trans ?_)
      rw [ol, if_neg (by omega), if_neg (by omega)]
      exact k12.old j hn hn hw2.1
    · have hj : s4.n ≤ j := hj
      refine (o5 _ _ j (by omega) (by omega)).trans ((k4.far j hj).trans ?_)
      rw [ol, if_neg (by omega), if_neg (by omega)]
      exact k12.far j (by omega)
  · rw [← enter_a]
    refine e1 _ fun o ho => ?_
    rw [List.mem_singleton] at ho
    subst ho
    refine ⟨rfl, e2 _ fun o ho => ?_⟩
    rw [List.mem_singleton] at ho
    subst ho
    exact ⟨rfl, rfl, rfl⟩
  · obtain ⟨rfl, rfl⟩ := hk
    have e5 : (SH.mk s4.n ((s4.t.set .dead (s2.n + 1)).set .dead s2.n) s4.b s4.w).a G = ((s4.a G).set (s2.n + 1) .dead).set s2.n .dead := by
      have q1 := set_a G s4 (s2.n + 1) .dead
      have q2 := set_a G { s4 with t := s4.t.set .dead (s2.n + 1) } s2.n .dead
      rw [q1] at q2
      exact q2
    rw [← hvs]
    have e4 := e4
    rw [la] at e4
    refine e4.mono fun r' h' ⟨q, hq, z1, z2⟩ => ?_
    rw [List.mem_singleton] at hq
    subst hq z2
    refine ⟨g1, g0, r, ?_, _, List.mem_singleton.2 rfl, rfl, ?_⟩
    · show resultsA P fn.results.toList f2.a (((s4.a G).set (s2.n + 1) .dead).set s2.n .dead) = some r
      rw [← e5]; exact hres
    · exact e5.symm
theorem callD_ok {rc : Nat → Code → Fr → SH → Option (List Res)} (hr : RcOk P G rc) {fid : FuncId} {args : List V} {s : SH} {outs : List (V × SH)} (hc : callD P G X rc fid args s = some outs) :
    (∀ p ∈ outs, Kp s p.2) ∧ SCalls P fid args (s.a G) fun r h => ∃ p ∈ outs, r = p.1 ∧ h = p.2.a G := by
  unfold callD at hc
  split at hc
  case h_2 => cases hc
  rename_i fn hfn
  split at hc
  case h_2 => cases hc
  rename_i A A2 rid ops C hb
  split at hc
  case h_2 => cases hc
  rename_i t g xs ys ty1 pos1 aft1 t' zs tys ty2 pos2 aft2 hops
  split at hc
  case h_2 => cases hc
  rename_i x y hx hy hz
  have hx : xs = #[] := by apply Array.ext'; simpa using hx
  have hy : ys = #[.tmp x, .tmp y] := by apply Array.ext'; simpa using hy
  have hz : zs = #[] := by apply Array.ext'; simpa using hz
  subst hx hy hz
  cases hl : (Nat.beq t' t && Nat.blt t fn.ntmps && callable P g && X.isDfr g && Nat.ble args.length fn.ntmps) with
  | false => rw [hl] at hc; cases hc
  | true =>
  rw [hl] at hc
  simp only [cond_true] at hc
  simp only [Bool.and_eq_true] at hl
  obtain ⟨⟨⟨⟨l1, l2⟩, l3⟩, l4⟩, l5⟩ := hl
  have l1 := Nat.eq_of_beq_eq_true l1
  subst l1
  have hops : ops = #[⟨some t', .makeFunc (.func g) #[] #[.tmp x, .tmp y], ty1, pos1, aft1, none⟩, ⟨none, .defer ⟨.value (.tmp t'), #[], tys⟩, ty2, pos2, aft2, none⟩] := by apply Array.ext'; simpa using hops
  subst hops
  split at hc
  case h_2 => cases hc
  rename_i f1 s1 h1
  split at hc
  case h_2 => cases hc
  rename_i f2 s2 h2
  split at hc
  case h_2 => cases hc
  rename_i e f3 s3 h3
  cases he : endsOk e with
  | false => rw [he] at hc; cases hc
  | true =>
  rw [he] at hc
  simp only [cond_true] at hc
  split at hc
  case h_2 => cases hc
  rename_i r hres
  obtain rfl := Option.some.inj hc
  obtain ⟨k1, e1⟩ := hr _ _ _ _ _ h1
  obtain ⟨k2, e2⟩ := hr _ _ _ _ _ h2
  obtain ⟨k3, e3⟩ := hr _ _ _ _ _ h3
  have k1 := k1 _ (List.mem_singleton.2 rfl)
  have k2 := k2 _ (List.mem_singleton.2 rfl)
  have k3 := k3 _ (List.mem_singleton.2 rfl)
  have he : e = .ret ∨ e = .normal := by cases e <;> simp_all [endsOk]
  refine ⟨fun q hq => ?_, SCalls.enterD (M := fun f h => f = f2.a ∧ h = s2.a G) (KR := fun _ _ f h => f = f3.a ∧ h = s3.a G) (KP := fun _ _ _ _ => False) hfn hb (Nat.lt_of_succ_le (by simpa [Nat.blt] using l2)) l3 (Nat.le_of_ble_eq_true l5) ?_ (fun f h hk => ?_) (fun vx vy f h hk => ?_) fun _ _ _ _ hk => hk.elim⟩
  · rw [List.mem_singleton] at hq
    subst hq
    exact enter_kp ((k1.trans k2).trans k3)
  · rw [← enter_a]
    refine e1 _ fun o ho => ?_
    rw [List.mem_singleton] at ho
    subst ho
    refine ⟨rfl, e2 _ fun o ho => ?_⟩
    rw [List.mem_singleton] at ho
    subst ho
    exact .inr ⟨rfl, rfl, rfl⟩
  · obtain ⟨rfl, rfl⟩ := hk
    rw [← Fr.a_put]
    refine e3 _ fun o ho => ?_
    rw [List.mem_singleton] at ho
    subst ho
    exact .inl ⟨he, rfl, rfl⟩
  · obtain ⟨rfl, rfl⟩ := hk
    refine X.dfrOk g l4 vx vy _ _ ?_
    unfold endsV
    rw [hres]
    exact ⟨_, List.mem_singleton.2 rfl, rfl, rfl⟩
theorem callF_ok {rc : Nat → Code → Fr → SH → Option (List Res)} (hr : RcOk P G rc) {fid : FuncId} {args : List V} {s : SH} {outs : List (V × SH)} (hc : callF P G X rc fid args s = some outs) :
    (∀ p ∈ outs, Kp s p.2) ∧ SCalls P fid args (s.a G) fun r h => ∃ p ∈ outs, r = p.1 ∧ h = p.2.a G := by
  unfold callF at hc
  split at hc
  · rename_i p hp
    cases ho : X.isOrc fid with
    | true =>
      rw [ho] at hp
      obtain rfl := Option.some.inj hc
      obtain ⟨h1, h2⟩ := X.orcOk fid args s p.1 p.2 ho hp
      exact ⟨fun q hq => by rw [List.mem_singleton] at hq; subst hq; exact h1, h2.mono fun r h ⟨e1, e2⟩ => ⟨p, by simp, e1, e2⟩⟩
    | false => rw [ho] at hp; cases hp
  · cases hg : X.isRng fid with
    | true => rw [hg] at hc; exact callR_ok hr hc
    | false =>
      rw [hg] at hc
      simp only [cond_false] at hc
      cases hd : isDf P fid with
      | true => rw [hd] at hc; exact callD_ok hr hc
      | false => rw [hd] at hc; exact callF0_ok hr hc
def YOk (P : Program) (G : List (Nat × List V)) (y : Nat → List V → SH → Option (List (V × SH))) : Prop :=
  ∀ i args s outs, y i args s = some outs → (∀ p ∈ outs, Kp s p.2) ∧ SRound P i args (s.a G) fun r h => ∃ p ∈ outs, r = p.1 ∧ h = p.2.a G
def StOk (P : Program) (G : List (Nat × List V)) (o : Oper) (f : Fr) (s : SH) (outs : List (V × SH)) : Prop :=
  (∀ p ∈ outs, Kp s p.2) ∧ ∀ next exc : AFrame → AHeap → Prop, (∀ p ∈ outs, next (f.a.put o.dst p.1) (p.2.a G)) → stepA P o next exc f.a (s.a G)
theorem plainO_ok {o : Oper} {f : Fr} {s : SH} {outs : List (V × SH)} (hn : isCallee o.op = false) (h : plainO P G o f s = some outs) : StOk P G o f s outs := by
  unfold plainO at h
  rw [opSel_eq] at h
  cases hI : idleOp o.op with
  | true =>
    rw [hI] at h
    simp only [cond_true] at h
    split at h
    case h_2 => cases h
    rename_i v h' he
    obtain rfl := Option.some.inj h
    obtain ⟨v', hv⟩ := idle_val hI he
    have hv : v = v' ∧ h' = s.a G := by injection hv with a b; exact ⟨a, b⟩
    obtain ⟨rfl, rfl⟩ := hv
    refine ⟨fun p hp => ?_, fun next exc hq => ?_⟩
    · rw [List.mem_singleton] at hp; subst hp; exact Kp.refl s
    · have := hq _ (List.mem_singleton.2 rfl)
      unfold stepA
      rw [he]
      exact this
  | false =>
  rw [hI] at h
  simp only [cond_false] at h
  split at h
  case h_2 => cases h
  rename_i v h' he
  cases hW : inN (wrOp (f.a.eval (s.a G)) o.op) s.n with
  | false => rw [hW] at h; cases h
  | true =>
  rw [hW] at h
  obtain rfl := Option.some.inj h
  have l := loc_op hn he
  refine ⟨fun p hp => ?_, fun next exc hq => ?_⟩
  · rw [List.mem_singleton] at hp; subst hp; exact sync_kp G s h' _ l hW
  · have := hq _ (List.mem_singleton.2 rfl)
    rw [sync_a G s h' _ l] at this
    unfold stepA
    rw [he]
    exact this
theorem opE_callv {o : Oper} {c : Call} {g : Operand} {ev : Operand → V} {h : AHeap} {fid : FuncId} {xs ys : List V} (ho : o.op = .call c) (hc : c.callee = .value g) (hg : ev g = .func (.func fid) xs ys) (hk : callable P fid = true) :
    opEval P o ev h = some (.call fid (xs ++ c.args.toList.map ev ++ ys)) := by
  unfold opEval aCall
  simp only [ho, hc, hg, hk, if_true]
theorem opE_yield {o : Oper} {c : Call} {g : Operand} {ev : Operand → V} {h : AHeap} {i : Nat} (ho : o.op = .call c) (hc : c.callee = .value g) (hg : ev g = .func (.yield i) [] []) : opEval P o ev h = some (.round i (c.args.toList.map ev)) := by
  unfold opEval aCall
  simp only [ho, hc, hg]
theorem opE_ext {o : Oper} {c : Call} {g : Operand} {ev : Operand → V} {h h' : AHeap} {fid : FuncId} {xs ys : List V} {v : V} (ho : o.op = .call c) (hc : c.callee = .value g) (hg : ev g = .func (.func fid) xs ys) (hk : callable P fid = false) (hx : aEx P fid (xs ++ c.args.toList.map ev ++ ys) h = some (v, h')) :
    opEval P o ev h = some (.val v h') := by
  unfold opEval aCall
  simp only [ho, hc, hg, hk, hx]
  rfl
theorem opE_inv {o : Oper} {c : Call} {r : Operand} {name : String} {ev : Operand → V} {h : AHeap} {fid : FuncId} {t : TypeId} {v : V} (ho : o.op = .call c) (hc : c.callee = .invoke r name) (hg : ev r = .iface t v) (hm : methOk P t name fid) :
    opEval P o ev h = some (.call fid (v :: c.args.toList.map ev)) := by
  unfold opEval aCall
  simp only [ho, hc, hg]
  exact aInv_of hm
theorem loc_ad {h h' : AHeap} {args : List V} {v : V} (hs : aAd h args = some (v, h')) : Loc h h' (firstW args) := by
  unfold aAd at hs
  split at hs
  · split at hs
    · split at hs <;> simp at hs
      obtain ⟨_, rfl⟩ := hs
      exact .set _ _ _
    · cases hs
  · cases hs
theorem call_st {o : Oper} {f : Fr} {s : SH} {outs : List (V × SH)} {fid : FuncId} {args : List V} (he : opEval P o (f.a.eval (s.a G)) (s.a G) = some (.call fid args)) (h : (∀ p ∈ outs, Kp s p.2) ∧ SCalls P fid args (s.a G) fun r h => ∃ p ∈ outs, r = p.1 ∧ h = p.2.a G) : StOk P G o f s outs := by
  refine ⟨h.1, fun next exc hq => ?_⟩
  unfold stepA
  rw [he]
  exact SCallsE.mono h.2 (fun r h' ⟨p, hp, e1, e2⟩ => by subst e1 e2; exact hq p hp) fun _ hf => hf.elim
theorem callO_ok {rc : Nat → Code → Fr → SH → Option (List Res)} (hr : RcOk P G rc) {y : Nat → List V → SH → Option (List (V × SH))} (hyo : YOk P G y) {o : Oper} {c : Call} {f : Fr} {s : SH} {outs : List (V × SH)} (ho : o.op = .call c) (h : callO P G X rc y c f s = some outs) : StOk P G o f s outs := by
  unfold callO at h
  split at h
  · cases h
  · rename_i g hc
    split at h
    case h_3 => cases h
    case h_2 =>
      rename_i i hg
      obtain ⟨h1, h2⟩ := hyo _ _ _ _ h
      refine ⟨h1, fun next exc hq => ?_⟩
      unfold stepA
      rw [opE_yield ho hc hg]
      exact h2.mono fun r h' ⟨p, hp, e1, e2⟩ => by subst e1 e2; exact hq p hp
    rename_i fid xs ys hg
    cases hk : callable P fid with
    | true =>
      rw [hk] at h
      exact call_st (opE_callv ho hc hg hk) (callF_ok hr h)
    | false =>
      rw [hk] at h
      simp only [cond_false] at h
      unfold extF at h
      have one : ∀ (v : V) (h' : AHeap) (W : List Nat), aEx P fid (xs ++ c.args.toList.map (f.a.eval (s.a G)) ++ ys) (s.a G) = some (v, h') → ∀ s1, Kp s s1 → s1.a G = h' → StOk P G o f s [(v, s1)] := fun v h' W hx s1 hk1 hs1 => by
        refine ⟨fun p hp => ?_, fun next exc hq => ?_⟩
        · rw [List.mem_singleton] at hp; subst hp; exact hk1
        · have := hq _ (List.mem_singleton.2 rfl)
          rw [hs1] at this
          unfold stepA
          rw [opE_ext ho hc hg hk hx]
          exact this
      split at h
      · rename_i hx
        simp only [Option.map_eq_some_iff] at h
        obtain ⟨v, h1, rfl⟩ := h
        exact one v _ [] (aEx_ov ((X.extOk fid).1 hx) h1) s (Kp.refl s) rfl
      · rename_i hx
        simp only [Option.map_eq_some_iff] at h
        obtain ⟨v, h1, rfl⟩ := h
        exact one v _ [] (aEx_ld ((X.extOk fid).2.1 hx) h1) s (Kp.refl s) rfl
      · rename_i hx
        cases hW : inN (firstW (xs ++ c.args.toList.map (f.a.eval (s.a G)) ++ ys)) s.n with
        | false => rw [hW] at h; cases h
        | true =>
        rw [hW] at h
        simp only [cond_true, Option.map_eq_some_iff] at h
        obtain ⟨p, h1, rfl⟩ := h
        have l := loc_ad h1
        exact one p.1 p.2 [] (aEx_ad ((X.extOk fid).2.2 hx) h1) _ (sync_kp G s p.2 _ l hW) (sync_a G s p.2 _ l)
      · cases h
  · rename_i r name hc
    split at h
    case h_2 => cases h
    rename_i t v hg
    split at h
    case h_2 => cases h
    rename_i fid hm
    exact call_st (opE_inv ho hc hg (X.methOk _ _ _ hm)) (callF_ok hr h)
theorem nextO_ok {o : Oper} {it : Operand} {f : Fr} {s : SH} {outs : List (V × SH)} (ho : o.op = .next it false) (h : nextO G (f.a.eval (s.a G) it) s = some outs) : StOk P G o f s outs := by
  unfold nextO at h
  cases hW : inN (wrV (f.a.eval (s.a G) it)) s.n with
  | false => rw [hW] at h; cases h
  | true =>
  rw [hW] at h
  simp only [cond_true, Option.map_eq_some_iff] at h
  obtain ⟨l, h1, rfl⟩ := h
  have hl := loc_alts h1
  refine ⟨fun p hp => ?_, fun next exc hq => ?_⟩
  · obtain ⟨q, hq, rfl⟩ := List.mem_map.1 hp
    exact sync_kp G s q.2 _ (hl q.1 q.2 hq) hW
  · have he : opEval P o (f.a.eval (s.a G)) (s.a G) = some (.alts l) := by
      obtain ⟨dst, op, type, pos, after, guard⟩ := o
      simp only at ho
      subst ho
      unfold opEval
      simp only [h1]
    unfold stepA
    rw [he]
    intro v h' hm
    have := hq _ (List.mem_map.2 ⟨(v, h'), hm, rfl⟩)
    rw [sync_a G s h' _ (hl v h' hm)] at this
    exact this
theorem stepO_def (X : Ext P G) (rc : Nat → Code → Fr → SH → Option (List Res)) (y : Nat → List V → SH → Option (List (V × SH))) (o : Oper) (f : Fr) (s : SH) : stepO P G X rc y o f s =
  match o.op with
  | .call c => match c.callee with
    | .builtin _ => plainO P G o f s
    | _ => callO P G X rc y c f s
  | .next it false => nextO G (f.a.eval (s.a G) it) s
  | _ => plainO P G o f s := by
  unfold stepO kindO
  cases hop : o.op with
  | call c => simp only; cases c.callee <;> rfl
  | next it b => cases b <;> rfl
  | _ => rfl
theorem stepO_ok {rc : Nat → Code → Fr → SH → Option (List Res)} (hr : RcOk P G rc) {y : Nat → List V → SH → Option (List (V × SH))} (hyo : YOk P G y) {o : Oper} {f : Fr} {s : SH} {outs : List (V × SH)} (h : stepO P G X rc y o f s = some outs) : StOk P G o f s outs := by
  rw [stepO_def] at h
  split at h
  · rename_i c hop
    split at h
    · rename_i b hb
      refine plainO_ok ?_ h
      rw [hop]
      obtain ⟨ca, ar, ty⟩ := c
      simp only at hb
      subst hb
      rfl
    · exact callO_ok hr hyo hop h
  · rename_i it hop
    exact nextO_ok hop h
  · rename_i h1 h2
    refine plainO_ok ?_ h
    cases hop : o.op <;> first | rfl | (exfalso; exact h1 _ hop)
theorem opsC_ok {rc : Nat → Code → Fr → SH → Option (List Res)} (hr : RcOk P G rc) {y : Nat → List V → SH → Option (List (V × SH))} (hyo : YOk P G y) {ol : List Oper} : ∀ {l : List Oper} {f : Fr} {s : SH} {outs : List (Fr × SH)}, opsC P G X rc y ol l f s = some outs →
    (∀ p ∈ outs, Kp s p.2) ∧ ∀ K E : AFrame → AHeap → Prop, (∀ p ∈ outs, K p.1.a (p.2.a G)) → opsA P ol l K E f.a (s.a G)
  | [], f, s, outs, h => by
    obtain rfl := Option.some.inj h
    exact ⟨fun p hp => by rw [List.mem_singleton] at hp; subst hp; exact Kp.refl s, fun K E hq => hq _ (List.mem_singleton.2 rfl)⟩
  | o :: l, f, s, outs, h => by
    rw [opsC_cons] at h
    split at h
    · rename_i hw
      split at h
      case h_2 => cases h
      rename_i o1 h1
      have st := stepO_ok hr hyo h1
      refine ⟨fun p hp => ?_, fun K E hq => ?_⟩
      · obtain ⟨x, hx, a, ha, hy⟩ := bindF_inv h p hp
        exact (st.1 x hx).trans ((opsC_ok hr hyo ha).1 p hy)
      · unfold opsA
        rw [hw]
        refine st.2 _ _ fun p hp => ?_
        obtain ⟨a, ha, hy⟩ := bindF_mem h p hp
        have := (opsC_ok hr hyo ha).2 K E fun y hya => hq y (hy y hya)
        rw [Fr.a_put] at this
        exact this
    · rename_i hw
      have ih := opsC_ok hr hyo h
      refine ⟨ih.1, fun K E hq => ?_⟩
      unfold opsA
      rw [hw]
      have := ih.2 K E hq
      rw [Fr.a_put] at this
      exact this
    · cases h
theorem planC_ok {rc : Nat → Code → Fr → SH → Option (List Res)} (hr : RcOk P G rc) {y : Nat → List V → SH → Option (List (V × SH))} (hyo : YOk P G y) {ol : List Oper} {s0 : SH} (h0 : s0.b = s0.n) : ∀ {sc : Sch} {f : Fr} {s : SH} {outs : List PO}, planC P G X rc y ol s0 sc f s = some outs → Kp s0 s →
    (∀ o ∈ outs, Kp s o.s) ∧ ∀ M : Nat → Prop, (∀ o ∈ outs, ∀ j ∈ o.W, M j) → (∀ o ∈ outs, ∀ r ∈ o.R, ¬ M r) → ∀ (K : AFrame → AHeap → Prop) (E : AHeap → Prop), (∀ o ∈ outs, K o.f.a (o.s.a G)) → evT P ol M (s0.a G) K E sc f.a (s.a G)
  | .done, f, s, outs, h, k0 => by
    obtain rfl := Option.some.inj h
    exact ⟨fun o ho => by rw [List.mem_singleton] at ho; subst ho; exact Kp.refl _, fun M _ _ K E hk => hk _ (List.mem_singleton.2 rfl)⟩
  | .stop, f, s, outs, h, k0 => by
    obtain rfl := Option.some.inj h
    exact ⟨fun o ho => by simp at ho, fun M _ _ K E hk => trivial⟩
  | .q k sc, f, s, outs, h, k0 => by
    unfold planC at h; try simp only [opSel_eq] at h
    split at h
    case h_2 => cases h
    rename_i o ho
    split at h
    · rename_i hw
      cases hi : idleOp o.op with
      | false => rw [hi] at h; cases h
      | true =>
      rw [hi] at h
      simp only [cond_true] at h
      split at h
      case h_2 => cases h
      rename_i v h' he
      split at h
      case h_2 => cases h
      rename_i x l hz
      obtain rfl := Option.some.inj h
      obtain ⟨k1, e1⟩ := planC_ok hr hyo h0 hz k0
      refine ⟨fun p hp => ?_, fun M hm hR K E hk => ?_⟩
      · obtain ⟨q, hq, rfl⟩ := List.mem_map.1 hp
        exact k1 q hq
      obtain ⟨v2, e2⟩ := idle_val hi he
      simp only [Step.val.injEq] at e2
      obtain ⟨rfl, rfl⟩ := e2
      unfold evT
      rw [ho]
      simp only [hw]
      refine ⟨v, he, fun i hri => ?_, ?_⟩
      · refine hR _ (List.mem_map.2 ⟨x, by simp, rfl⟩) i ?_
        simp [PO.addR, hri]
      · have := e1 M (fun q hq j hj => hm _ (List.mem_map.2 ⟨q, hq, rfl⟩) j hj) (fun q hq r hr => hR _ (List.mem_map.2 ⟨q, hq, rfl⟩) r (by unfold PO.addR; split <;> simp [hr])) K E fun q hq => (show K (PO.addR (ridOp (f.a.eval (s0.a G)) o.op) q).f.a ((PO.addR (ridOp (f.a.eval (s0.a G)) o.op) q).s.a G) from hk _ (List.mem_map.2 ⟨q, hq, rfl⟩))
        rw [Fr.a_put] at this
        exact this
    · rename_i hw
      obtain ⟨k1, e1⟩ := planC_ok hr hyo h0 h k0
      refine ⟨k1, fun M hm hR K E hk => ?_⟩
      unfold evT
      rw [ho]
      simp only [hw]
      have := e1 M hm hR K E hk
      rw [Fr.a_put] at this
      exact this
    · cases h
  | .c k sc, f, s, outs, h, k0 => by
    unfold planC at h; try simp only [opSel_eq] at h
    split at h
    case h_2 => cases h
    rename_i o ho
    split at h
    · rename_i hw
      cases hi : idleOp o.op with
      | false => rw [hi] at h; cases h
      | true =>
      rw [hi] at h
      simp only [cond_true] at h
      split at h
      case h_2 => cases h
      rename_i v h' he
      obtain ⟨k1, e1⟩ := planC_ok hr hyo h0 h k0
      refine ⟨k1, fun M hm hR K E hk => ?_⟩
      obtain ⟨v2, e2⟩ := idle_val hi he
      simp only [Step.val.injEq] at e2
      obtain ⟨rfl, rfl⟩ := e2
      unfold evT
      rw [ho]
      simp only [hw]
      refine ⟨v, he, ?_⟩
      have := e1 M hm hR K E hk
      rw [Fr.a_put] at this
      exact this
    · rename_i hw
      obtain ⟨k1, e1⟩ := planC_ok hr hyo h0 h k0
      refine ⟨k1, fun M hm hR K E hk => ?_⟩
      unfold evT
      rw [ho]
      simp only [hw]
      have := e1 M hm hR K E hk
      rw [Fr.a_put] at this
      exact this
    · cases h
  | .a k sc, f, s, outs, h, k0 => by
    unfold planC at h; try simp only [opSel_eq] at h
    split at h
    case h_2 => cases h
    rename_i o ho
    split at h
    · rename_i hw
      split at h
      case h_2 => cases h
      rename_i v s2 hst
      simp only [Option.map_eq_some_iff] at h
      obtain ⟨l, hz, rfl⟩ := h
      have st := stepO_ok hr hyo hst
      have ks := st.1 _ (List.mem_singleton.2 rfl)
      obtain ⟨k1, e1⟩ := planC_ok hr hyo h0 hz (k0.trans ks)
      refine ⟨fun p hp => ?_, fun M hm hR K E hk => ?_⟩
      · obtain ⟨q, hq, rfl⟩ := List.mem_map.1 hp
        exact ks.trans (k1 q hq)
      unfold evT
      rw [ho]
      simp only [hw]
      refine st.2 _ _ fun p hp => ?_
      rw [List.mem_singleton] at hp
      subst hp
      have := e1 M (fun q hq j hj => hm _ (List.mem_map.2 ⟨q, hq, rfl⟩) j (by simpa [PO.addW] using hj)) (fun q hq r hr => hR _ (List.mem_map.2 ⟨q, hq, rfl⟩) r hr) K E fun q hq => (show K (PO.addW [] (k, s.n, s2.n) q).f.a ((PO.addW [] (k, s.n, s2.n) q).s.a G) from hk _ (List.mem_map.2 ⟨q, hq, rfl⟩))
      rw [Fr.a_put] at this
      exact this
    · rename_i hw
      obtain ⟨k1, e1⟩ := planC_ok hr hyo h0 h k0
      refine ⟨k1, fun M hm hR K E hk => ?_⟩
      unfold evT
      rw [ho]
      simp only [hw]
      have := e1 M hm hR K E hk
      rw [Fr.a_put] at this
      exact this
    · cases h
  | .e k sc alt, f, s, outs, h, k0 => by
    have kee : ∀ {s2 : SH}, Kp s0 s2 → ∀ M : Nat → Prop, (∀ j ∈ s2.w, M j) → Keep (s0.a G) (s2.a G) M := fun {s2} a M hm =>
      ⟨a.n, fun j hj hM => a.old j hj (by rw [h0]; exact hj) fun hw => hM (hm j hw), rfl⟩
    unfold planC at h; try simp only [opSel_eq] at h
    split at h
    case h_2 => cases h
    rename_i m hm0
    obtain ⟨a1, a2⟩ := planC_ok hr hyo h0 hm0 k0
    split at h
    case h_2 => cases h
    rename_i o ho
    split at h
    · rename_i hw
      split at h
      case h_2 => cases h
      rename_i v s2 hst
      split at h
      case h_2 => cases h
      rename_i x l hz
      obtain rfl := Option.some.inj h
      have st := stepO_ok hr hyo hst
      have ks := st.1 _ (List.mem_singleton.2 rfl)
      obtain ⟨k1, e1⟩ := planC_ok hr hyo h0 hz (k0.trans ks)
      refine ⟨fun p hp => ?_, fun M hm hR K E hk => ?_⟩
      · rcases List.mem_append.1 hp with hp | hp
        · obtain ⟨q, hq, rfl⟩ := List.mem_map.1 hp
          exact ks.trans (k1 q hq)
        · exact a1 p hp
      have up : ∀ q ∈ x :: l, PO.addW s2.w (k, s.n, s2.n) q ∈ (x :: l).map (PO.addW s2.w (k, s.n, s2.n)) ++ m := fun q hq => List.mem_append.2 (.inl (List.mem_map.2 ⟨q, hq, rfl⟩))
      unfold evT
      rw [ho]
      simp only [hw]
      refine ⟨st.2 _ _ fun p hp => ?_, a2 M (fun q hq => hm q (List.mem_append.2 (.inr hq))) (fun q hq => hR q (List.mem_append.2 (.inr hq))) K E fun q hq => hk q (List.mem_append.2 (.inr hq))⟩
      rw [List.mem_singleton] at hp
      subst hp
      refine ⟨kee (k0.trans ks) M fun j hj => hm _ (up x (by simp)) j (List.mem_append.2 (.inl hj)), ?_⟩
      have := e1 M (fun q hq j hj => hm _ (up q hq) j (List.mem_append.2 (.inr hj))) (fun q hq r hr => hR _ (up q hq) r hr) K E fun q hq => (show K (PO.addW s2.w (k, s.n, s2.n) q).f.a ((PO.addW s2.w (k, s.n, s2.n) q).s.a G) from hk _ (up q hq))
      rw [Fr.a_put] at this
      exact this
    · rename_i hw
      split at h
      case h_2 => cases h
      rename_i x l hz
      obtain rfl := Option.some.inj h
      obtain ⟨k1, e1⟩ := planC_ok hr hyo h0 hz k0
      refine ⟨fun p hp => ?_, fun M hm hR K E hk => ?_⟩
      · rcases List.mem_append.1 hp with hp | hp
        · obtain ⟨q, hq, rfl⟩ := List.mem_map.1 hp
          exact k1 q hq
        · exact a1 p hp
      have up : ∀ q ∈ x :: l, PO.addW s.w (k, s.n, s.n) q ∈ (x :: l).map (PO.addW s.w (k, s.n, s.n)) ++ m := fun q hq => List.mem_append.2 (.inl (List.mem_map.2 ⟨q, hq, rfl⟩))
      unfold evT
      rw [ho]
      simp only [hw]
      refine ⟨⟨kee k0 M fun j hj => hm _ (up x (by simp)) j (List.mem_append.2 (.inl hj)), ?_⟩, a2 M (fun q hq => hm q (List.mem_append.2 (.inr hq))) (fun q hq => hR q (List.mem_append.2 (.inr hq))) K E fun q hq => hk q (List.mem_append.2 (.inr hq))⟩
      have := e1 M (fun q hq j hj => hm _ (up q hq) j (List.mem_append.2 (.inr hj))) (fun q hq r hr => hR _ (up q hq) r hr) K E fun q hq => (show K (PO.addW s.w (k, s.n, s.n) q).f.a ((PO.addW s.w (k, s.n, s.n) q).s.a G) from hk _ (up q hq))
      rw [Fr.a_put] at this
      exact this
    · cases h
theorem all2_ok {α : Type} {p : α → α → Bool} : ∀ {l m : List α}, all2 p l m = true → l.length = m.length ∧ ∀ (k : Nat) (a b : α), l[k]? = some a → m[k]? = some b → p a b = true
  | [], [], _ => ⟨rfl, by simp⟩
  | a :: l, b :: m, h => by
    simp only [all2, Bool.and_eq_true] at h
    obtain ⟨h1, h2⟩ := all2_ok h.2
    refine ⟨by simp [h1], fun k x y hx hy => ?_⟩
    cases k with
    | zero => simp at hx hy; subst hx hy; exact h.1
    | succ k => exact h2 k x y (by simpa using hx) (by simpa using hy)
  | [], _ :: _, h => by cases h
  | _ :: _, [], h => by cases h
theorem eqR_ok {π : Nat → Nat} : ∀ {k : Nat} {a b : V}, eqR π k a b = true → RV π a b
  | 0, _, _, h => by cases h
  | k + 1, a, b, h => by
    have ls : ∀ {cs ds : List V}, all2 (eqR π k) cs ds = true → cs.length = ds.length ∧ ∀ (j : Nat) (v u : V), cs[j]? = some v → ds[j]? = some u → RV π v u := fun hh =>
      let ⟨h1, h2⟩ := all2_ok hh; ⟨h1, fun j v u a b => eqR_ok (h2 j v u a b)⟩
    unfold eqR at h
    split at h
    · simp only [Bool.and_eq_true, beq_iff_eq] at h; obtain ⟨rfl, rfl⟩ := h; exact .ptr _ _
    · simp only [Bool.and_eq_true, beq_iff_eq] at h; obtain ⟨⟨⟨rfl, rfl⟩, rfl⟩, rfl⟩ := h; exact .sl _ _ _ _
    · simp only [beq_iff_eq] at h; subst h; exact .map _
    · simp only [Bool.and_eq_true, beq_iff_eq] at h; obtain ⟨rfl, h⟩ := h; exact .imm _ (ls h).1 (ls h).2
    · exact .at (ls h).1 (ls h).2
    · exact .agg (ls h).1 (ls h).2
    · exact .tuple (ls h).1 (ls h).2
    · simp only [Bool.and_eq_true, beq_iff_eq] at h; obtain ⟨⟨rfl, h1⟩, h2⟩ := h; exact .func _ rfl (ls h1).1 (ls h1).2 (ls h2).1 (ls h2).2
    · simp only [Bool.and_eq_true, beq_iff_eq] at h; obtain ⟨rfl, h⟩ := h; exact .iface _ (eqR_ok h)
    · exact .same _ rfl
    · simp only [beq_iff_eq] at h; subst h; exact .same _ rfl
    · simp only [Bool.and_eq_true, beq_iff_eq, decide_eq_true_eq] at h; obtain ⟨rfl, rfl⟩ := h; exact .same _ rfl
    · exact .same _ rfl
    · exact .same _ rfl
    · exact .same _ rfl
    · exact .same _ rfl
    · exact .same _ rfl
    · exact .same _ rfl
    · cases h
theorem eqOR_ok {π : Nat → Nat} {a b : AObj} (h : eqOR π a b = true) : RO π a b := by
  unfold eqOR at h
  split at h
  · exact trivial
  · simp only [Bool.and_eq_true, beq_iff_eq] at h
    obtain ⟨⟨h1, rfl⟩, rfl⟩ := h
    obtain ⟨a1, a2⟩ := all2_ok h1
    exact ⟨⟨a1, fun k v u x y => eqR_ok (a2 k v u x y)⟩, rfl, rfl⟩
  · simp only [Bool.and_eq_true, beq_iff_eq] at h
    obtain ⟨rfl, h1⟩ := h
    obtain ⟨a1, a2⟩ := all2_ok h1
    refine ⟨a1, rfl, fun k p q x y => ?_⟩
    have := a2 k p q x y
    simp only [Bool.and_eq_true, beq_iff_eq] at this
    exact ⟨this.1.1, eqR_ok this.1.2, eqR_ok this.2⟩
  · simp only [Bool.and_eq_true, beq_iff_eq] at h
    obtain ⟨⟨⟨rfl, rfl⟩, rfl⟩, rfl⟩ := h
    exact ⟨rfl, rfl, rfl, rfl⟩
  · cases h
theorem permOk_ok {n : Nat} {s0 s1 : SH} {F : Fr} {T1 : List (Nat × Nat × Nat)} {o : PO} (hb : s0.b = s0.n) (h : permOk n s0 F s1 T1 o = true) (hF : ∀ t, n ≤ t → F.a t = .top) (k1 : Kp s0 s1) (ko : Kp s0 o.s) (hd : ∀ i, s1.n ≤ i → s1.obj i = .dead) (hdo : ∀ i, o.s.n ≤ i → o.s.obj i = .dead) : CastPt n (s0.a G) o.f.a (o.s.a G) F.a (s1.a G) := by
  unfold permOk at h
  simp only [Bool.and_eq_true, beq_iff_eq, List.all_eq_true, List.mem_range'_1, List.mem_range] at h
  obtain ⟨⟨⟨⟨hn, hw⟩, hp⟩, hwo⟩, hf⟩ := h
  have k1n := k1.n
  generalize hL : trL T1 o.T = L at *
  have inn : ∀ i, s0.n ≤ i → i < s1.n → (pmOf s0.n s1.n (L.map fun p => (p.2, p.1)) (pmOf s0.n s1.n L i) = i ∧ pmOf s0.n s1.n L (pmOf s0.n s1.n (L.map fun p => (p.2, p.1)) i) = i ∧ s0.n ≤ pmOf s0.n s1.n L i ∧ pmOf s0.n s1.n L i < s1.n) ∧ RO (pmOf s0.n s1.n L) (o.s.obj i) (s1.obj (pmOf s0.n s1.n L i)) := fun i hi hi2 => by
    obtain ⟨⟨⟨⟨a1, a2⟩, a3⟩, a4⟩, a5⟩ := hp i ⟨hi, by omega⟩
    exact ⟨⟨a1, a2, Nat.le_of_ble_eq_true a3, Nat.lt_of_succ_le (by simpa [Nat.blt] using a4)⟩, eqOR_ok a5⟩
  have out : ∀ (M : List (Nat × Nat)) i, ¬ (s0.n ≤ i ∧ i < s1.n) → pmOf s0.n s1.n M i = i := fun M i hi => by
    unfold pmOf
    have : (Nat.ble s0.n i && Nat.blt i s1.n) = false := by
      rw [Bool.eq_false_iff]
      intro hh
      simp only [Bool.and_eq_true] at hh
      exact hi ⟨Nat.le_of_ble_eq_true hh.1, Nat.lt_of_succ_le (by simpa [Nat.blt] using hh.2)⟩
    rw [this]; rfl
  refine CastPt.of (π := pmOf s0.n s1.n L) (ι := pmOf s0.n s1.n (L.map fun p => (p.2, p.1))) (fun i => ?_) (fun i => ?_) (fun i hi => ?_) (fun i hi => ?_) hn.symm rfl (fun j => ?_) (fun t ht => eqR_ok (hf t ht)) hF
  · by_cases hi : s0.n ≤ i ∧ i < s1.n
    · exact (inn i hi.1 hi.2).1.1
    · rw [out L i hi, out _ i hi]
  · by_cases hi : s0.n ≤ i ∧ i < s1.n
    · exact (inn i hi.1 hi.2).1.2.1
    · rw [out _ i hi, out L i hi]
  · exact out L i (by show ¬ (s0.n ≤ i ∧ i < s1.n); have : i < s0.n := hi; omega)
  · have hi : o.s.n ≤ i := hi
    rw [out _ i (by omega)]; exact hi
  · by_cases h1 : j < s0.n
    · by_cases h2 : j ∈ o.s.w
      · left
        have := hwo j h2
        rw [out L j (by omega)]
        exact eqOR_ok this
      · right
        exact ⟨h1, ko.old j h1 (by rw [hb]; exact h1) h2, k1.old j h1 (by rw [hb]; exact h1) (by rw [← hw]; exact h2)⟩
    · left
      by_cases h2 : j < s1.n
      · exact (inn j (by omega) h2).2
      · rw [out L j (by omega)]
        have e1 : (o.s.a G).get j = .dead := hdo j (by omega)
        have e2 : (s1.a G).get j = .dead := hd j (by omega)
        rw [e1, e2]
        exact trivial
end
end
end Go.Proofs.YtfcjehlhoebmnaaGreatDoor.Ab
