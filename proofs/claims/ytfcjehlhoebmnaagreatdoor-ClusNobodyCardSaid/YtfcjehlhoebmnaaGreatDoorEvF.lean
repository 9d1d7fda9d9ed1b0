/-
  An evaluator upon abstract states that the kernel can run, and why what it answers holds. Conditions: as each theorem says.
-/
import Derived.Test.YtfcjehlhoebmnaaGreatDoorEvE
namespace Go.Proofs.YtfcjehlhoebmnaaGreatDoor.Ab
noncomputable section
open Go Go.RowKit
set_option linter.unusedVariables false

section
variable {P : Program} {G : List (Nat × List V)} {X : Ext P G} {rc : Nat → Code → Fr → SH → Option (List Res)}
theorem drawC_ok (hr : RcOk P G rc) {y : Nat → List V → SH → Option (List (V × SH))} (hyo : YOk P G y) {n id : Nat} {ops : Array Oper} {sc : Sch} {f : Fr} {s : SH} {outs : List Res} (hok : (ops.toList.all fun o => dstOk n o.dst) = true) (h : drawC P G X rc y n ops sc f s = some outs) :
    (∀ o ∈ outs, Kp s o.2.2) ∧ ∀ Q : AExit → AFrame → AHeap → Prop, (∀ o ∈ outs, Q o.1 o.2.1.a (o.2.2.a G)) → SWp P n (.region id ops true) Q f.a (s.a G) := by
  unfold drawC at h
  cases hB : sc.okM ops (dtM ops) (effs ops) ops.size true true 0 with
  | false => rw [hB] at h; cases h
  | true =>
  rw [hB] at h
  have hB := okM_ok effs_lt sc _ _ _ _ _ (Lm.zero ops) hB
  simp only [cond_true] at h
  split at h
  case h_2 => cases h
  rename_i l hp
  cases ha : l.all fun o => o.R.all fun r => l.all fun p => !p.W.elem r with
  | false => rw [ha] at h; cases h
  | true =>
  rw [ha] at h
  simp only [cond_true] at h
  split at h
  case h_2 => cases h
  rename_i f' s1 hj
  obtain rfl := Option.some.inj h
  obtain ⟨k1, e1⟩ := planC_ok (s0 := s.enter) hr hyo rfl hp (Kp.refl _)
  have dis : ∀ o ∈ l, ∀ r ∈ o.R, ¬ ∃ p ∈ l, r ∈ p.W := fun o ho r hr ⟨p, hp, hw⟩ => by
    have := List.all_eq_true.1 (List.all_eq_true.1 (List.all_eq_true.1 ha o ho) r hr) p hp
    simp only [Bool.not_eq_true', List.elem_eq_mem, decide_eq_false_iff_not] at this
    exact this hw
  have fin : ∀ {Q : AExit → AFrame → AHeap → Prop}, (∀ o ∈ l, Q .normal o.f.a (o.s.a G)) → SWp P n (.region id ops true) Q f.a (s.a G) := fun {Q} hq =>
    SWp.drawnE (fun j => ∃ p ∈ l, j ∈ p.W) sc X.mixed hB hok fun _ => e1 _ (fun o ho j hj => ⟨o, ho, hj⟩) dis _ _ hq
  unfold joinP at hj
  split at hj
  · cases hj
  · rename_i o
    simp only [Option.some.injEq, Prod.mk.injEq] at hj
    obtain ⟨rfl, rfl⟩ := hj
    refine ⟨fun p hp => by rw [List.mem_singleton] at hp; subst hp; exact enter_kp (k1 o (by simp)), fun Q hq => fin fun p hp => ?_⟩
    rw [List.mem_singleton] at hp
    subst hp
    exact hq _ (List.mem_singleton.2 rfl)
  · rename_i o l' hne
    simp only at hj
    cases hc : (o :: l').all (permOk n s.enter (enterAt 0 ((List.range n).map o.f.a) .e) o.s o.T) with
    | false => rw [hc] at hj; cases hj
    | true =>
    rw [hc] at hj
    simp only [cond_true, Option.some.injEq, Prod.mk.injEq] at hj
    obtain ⟨rfl, rfl⟩ := hj
    refine ⟨fun p hp => by rw [List.mem_singleton] at hp; subst hp; exact enter_kp (k1 o (by simp)), fun Q hq => SWp.castP ?_⟩
    intro ρ B w0 a w hw hfr
    have hd : ∀ i, s.n ≤ i → s.obj i = .dead := fun i hi => hw.heap.deadN (i := i) hi
    refine (fin (Q := fun e f1 h1 => ∃ f2 h2, CastPt n (s.a G) f1 h1 f2 h2 ∧ Q e f2 h2) fun p hp => ?_) ρ B w0 a w hw hfr
    refine ⟨_, _, permOk_ok (s0 := s.enter) rfl (List.all_eq_true.1 hc p hp) (fun t ht => ?_) (k1 o (by simp)) (k1 p hp) ?_ ?_, hq _ (List.mem_singleton.2 rfl)⟩
    · rw [enterAt_a, if_neg (by simp; omega)]; rfl
    · exact fun i hi => ((k1 o (by simp)).far i hi).trans (hd i (Nat.le_trans (k1 o (by simp)).n hi))
    · exact fun i hi => ((k1 p hp).far i hi).trans (hd i (Nat.le_trans (k1 p hp).n hi))
theorem noY_ok : YOk P G fun _ _ _ => none := fun _ _ _ _ h => by cases h
theorem range_enter (vs : List V) : (List.range vs.length).map (enterF vs) = vs := by
  apply List.ext_getElem
  · simp
  · intro k h1 h2
    simp [enterF, h2]
theorem yieldO_ok (hr : RcOk P G rc) : YOk P G (yieldO P G X rc) := by
  intro i args s outs h
  unfold yieldO at h
  split at h
  case h_2 => cases h
  rename_i jd p r1 ops1 bid r2 ops2 vs v hg
  cases hc : (Nat.blt p vs.length && Nat.blt i s.n && (ops1.toList.all fun o => dstOk vs.length o.dst) && (ops2.toList.all fun o => dstOk vs.length o.dst)) with
  | false => rw [hc] at h; cases h
  | true =>
  rw [hc] at h
  simp only [cond_true] at h
  simp only [Bool.and_eq_true] at hc
  obtain ⟨⟨⟨c1, c2⟩, c3⟩, c4⟩ := hc
  have c1 : p < vs.length := Nat.lt_of_succ_le (by simpa [Nat.blt] using c1)
  have c2 : i < s.n := Nat.lt_of_succ_le (by simpa [Nat.blt] using c2)
  split at h
  case h_2 => cases h
  rename_i f1 s1 h1
  cases w1 : !s1.w.elem i with
  | false => rw [w1] at h; cases h
  | true =>
  rw [w1] at h
  simp only [cond_true] at h
  split at h
  case h_2 => cases h
  rename_i f2 s3 h2
  cases w3 : !s3.w.elem i with
  | false => rw [w3] at h; cases h
  | true =>
  rw [w3] at h
  obtain rfl := Option.some.inj h
  have w1 := nelem w1
  have w3 := nelem w3
  obtain ⟨k1, e1⟩ := opsC_ok hr noY_ok h1
  obtain ⟨k3, e3⟩ := opsC_ok hr noY_ok h2
  have k1 := k1 _ (List.mem_singleton.2 rfl)
  have k3 := k3 _ (List.mem_singleton.2 rfl)
  obtain ⟨bs, hbs⟩ : ∃ bs, bs = AObj.pin (.loop jd p (.region r1 ops1 false) (.block bid (.region r2 ops2 false)) true) vs := ⟨_, rfl⟩
  obtain ⟨rd, hrd⟩ : ∃ rd, rd = AObj.pin (.loop jd p (.region r1 ops1 false) (.block bid (.region r2 ops2 false)) false) vs := ⟨_, rfl⟩
  rw [← hbs] at h2 k3 e3
  rw [← hrd] at hg
  have n1 : s.n ≤ s1.n := k1.n
  have n3 : s1.n ≤ s3.n := k3.n
  have g1 : s1.obj i = rd := (k1.old i c2 c2 w1).trans hg
  have o2 : ∀ j, (SH.enter { s1 with t := s1.t.set bs i }).obj j = if j = i then bs else s1.obj j := fun j => tobj_set _ _ _ _
  have g3 : s3.obj i = bs := (k3.old i (show i < s1.n by omega) (show i < s1.n by omega) w3).trans (by rw [o2, if_pos rfl])
  have o4 : ∀ (bb : Nat) (ww : List Nat) j, (SH.mk s3.n (s3.t.set rd i) bb ww).obj j = if j = i then rd else s3.obj j := fun bb ww j => tobj_set _ _ _ _
  refine ⟨fun q hq => ?_, ?_⟩
  · rw [List.mem_singleton] at hq
    subst hq
    rw [← hrd]
    refine ⟨by show s.n ≤ s3.n; omega, rfl, fun j h => notes_sub h, fun j hn hb hw => ?_, fun j hj => ?_⟩
    · have hw2 : j ∉ s1.w ∧ j ∉ s3.w := ⟨fun h => hw (notes_mem (List.mem_append.2 (.inl h)) hb), fun h => hw (notes_mem (List.mem_append.2 (.inr h)) hb)⟩
      rw [o4]
      by_cases hj : j = i
      · subst hj; rw [if_pos rfl]; exact hg.symm
      · rw [if_neg hj]
        refine (k3.old j (show j < s1.n by omega) (show j < s1.n by omega) hw2.2).trans ?_
        rw [o2, if_neg hj]
        exact k1.old j hn hn hw2.1
    · have hj : s3.n ≤ j := hj
      rw [o4, if_neg (by omega)]
      refine (k3.far j hj).trans ?_
      rw [o2, if_neg (by omega)]
      exact k1.far j (show s1.n ≤ j by omega)
  · have er := range_enter vs
    have fr : (fun t => if t < vs.length then enterF vs t else .top) = enterF vs := by
      funext t
      by_cases ht : t < vs.length
      · rw [if_pos ht]
      · rw [if_neg ht]
        unfold enterF
        simp [List.getD, List.getElem?_eq_none (Nat.le_of_not_lt ht)]
    have f0 : roundF vs.length (enterF vs) p v = ((enterAt 0 vs .e).put (some p) v).a := by
      rw [Fr.a_put, enter_a]
      unfold roundF
      rw [fr]
    refine SRound.of (n := vs.length) (f := enterF vs) (i := i) (jd := jd) (p := p) (assign := .region r1 ops1 false) (body := .block bid (.region r2 ops2 false)) c1 (by rw [er, ← hrd]; exact hg) (fun f h => f = f1.a ∧ h = s1.a G) (fun l => ?_) fun l f' h' hm => ?_
    · rw [er, ← hrd, f0]
      refine SWpR.region c3 (e1 _ _ fun q hq => ?_)
      rw [List.mem_singleton] at hq
      subst hq
      exact ⟨rfl, g1, rfl, rfl⟩
    · obtain ⟨rfl, rfl⟩ := hm
      rw [er, ← hrd, ← hbs]
      have s2 : (SH.enter { s1 with t := s1.t.set bs i }).a G = (s1.a G).set i bs := set_a G s1 i bs
      rw [← s2]
      refine SWpR.block (SWpR.region c4 (e3 _ _ fun q hq => ?_))
      rw [List.mem_singleton] at hq
      subst hq
      refine ⟨rfl, g3, _, List.mem_singleton.2 rfl, rfl, ?_⟩
      exact (set_a G s3 i rd).symm
theorem loopN_ok (hr : RcOk P G rc) {n : Nat} {c : Code} : ∀ {k : Nat} {f : Fr} {s : SH} {outs : List Res}, loopN rc n c k f s = some outs →
    (∀ o ∈ outs, Kp s o.2.2) ∧ ∀ Q : AExit → AFrame → AHeap → Prop, (∀ o ∈ outs, Q o.1 o.2.1.a (o.2.2.a G)) → loopS P n c Q k f.a (s.a G)
  | 0, _, _, _, h => nomatch (show (none : Option (List Res)) = some _ from h)
  | k + 1, f, s, outs, h => by
    rw [loopN_succ] at h
    split at h
    case h_2 => cases h
    rename_i l hl
    obtain ⟨k1, e1⟩ := hr _ _ _ _ _ hl
    refine ⟨fun o ho => ?_, fun Q hq => ?_⟩
    · obtain ⟨x, hx, a, ha, hy⟩ := bindF_inv h o ho
      obtain ⟨e, f1, s1⟩ := x
      cases e with
      | normal => exact (k1 _ hx).trans ((loopN_ok hr ha).1 o hy)
      | _ =>
        obtain rfl := Option.some.inj ha
        rw [List.mem_singleton] at hy
        subst hy
        exact k1 _ hx
    · refine e1 _ fun x hx => ?_
      obtain ⟨a, ha, hy⟩ := bindF_mem h x hx
      obtain ⟨e, f1, s1⟩ := x
      cases e with
      | normal => exact (loopN_ok hr ha).2 Q fun y hya => hq y (hy y hya)
      | _ =>
        obtain rfl := Option.some.inj ha
        exact hq _ (hy _ (List.mem_singleton.2 rfl))
theorem restN_ok (hr : RcOk P G rc) {n l : Nat} {c : Code} : ∀ {k : Nat} {f : Fr} {s : SH} {outs : List Res}, restN rc n l c k f s = some outs →
    (∀ o ∈ outs, Kp s o.2.2) ∧ ∀ Q : AExit → AFrame → AHeap → Prop, (∀ o ∈ outs, Q o.1 o.2.1.a (o.2.2.a G)) → restS P n l c Q k f.a (s.a G)
  | 0, _, _, _, h => by cases h
  | k + 1, f, s, outs, h => by
    unfold restN at h
    split at h
    · rename_i j f1 s1 h1
      obtain ⟨k1, e1⟩ := hr _ _ _ _ _ h1
      cases hj : Nat.beq j l with
      | false => rw [hj] at h; cases h
      | true =>
      rw [hj] at h
      simp only [cond_true] at h
      have hj := Nat.eq_of_beq_eq_true hj
      have ih := restN_ok hr h
      refine ⟨fun o ho => (k1 _ (List.mem_singleton.2 rfl)).trans (ih.1 o ho), fun Q hq => e1 _ fun x hx => ?_⟩
      rw [List.mem_singleton] at hx
      subst hx
      exact ⟨hj, ih.2 Q hq⟩
    · rename_i e f1 s1 hne h1
      obtain ⟨k1, e1⟩ := hr _ _ _ _ _ h1
      obtain rfl := Option.some.inj h
      refine ⟨k1, fun Q hq => e1 _ fun x hx => ?_⟩
      have := hq x hx
      rw [List.mem_singleton] at hx
      subst hx
      cases e with
      | goto j => exact (hne j rfl).elim
      | _ => exact this
    · cases h
theorem stepC_ok (hr : RcOk P G rc) : RcOk P G (stepC P G X rc) := by
  intro n c f s outs h
  rw [stepC_eq] at h
  have one : ∀ {c : Code} {e : AExit}, (∀ Q : AExit → AFrame → AHeap → Prop, Q e f.a (s.a G) → SWp P n c Q f.a (s.a G)) → some [(e, f, s)] = some outs → (∀ o ∈ outs, Kp s o.2.2) ∧ ∀ Q : AExit → AFrame → AHeap → Prop, (∀ o ∈ outs, Q o.1 o.2.1.a (o.2.2.a G)) → SWp P n c Q f.a (s.a G) := fun hw h => by
    obtain rfl := Option.some.inj h
    exact ⟨fun o ho => by rw [List.mem_singleton] at ho; subst ho; exact Kp.refl s, fun Q hq => hw Q (hq _ (List.mem_singleton.2 rfl))⟩
  cases c with
  | skip => exact one (fun Q hq => .skip hq) h
  | label l => exact one (fun Q hq => .label hq) h
  | exit i => exact one (fun Q hq => .exit hq) h
  | goto l => exact one (fun Q hq => .goto hq) h
  | ret => exact one (fun Q hq => .ret hq) h
  | refuse w => cases h
  | rangeFunc a b c d => cases h
  | seq a b =>
    simp only [stepC0] at h
    split at h
    case h_2 => cases h
    rename_i l hl
    obtain ⟨k1, e1⟩ := hr _ _ _ _ _ hl
    refine ⟨fun o ho => ?_, fun Q hq => ?_⟩
    · obtain ⟨x, hx, a, ha, hy⟩ := bindF_inv h o ho
      obtain ⟨e, f1, s1⟩ := x
      cases e with
      | normal => exact (k1 _ hx).trans ((hr _ _ _ _ _ ha).1 o hy)
      | _ =>
        obtain rfl := Option.some.inj ha
        rw [List.mem_singleton] at hy
        subst hy
        exact k1 _ hx
    · refine SWp.seq (e1 _ fun x hx => ?_)
      obtain ⟨a, ha, hy⟩ := bindF_mem h x hx
      obtain ⟨e, f1, s1⟩ := x
      cases e with
      | normal => exact (hr _ _ _ _ _ ha).2 Q fun y hya => hq y (hy y hya)
      | _ =>
        obtain rfl := Option.some.inj ha
        exact hq _ (hy _ (List.mem_singleton.2 rfl))
  | cond c a b =>
    simp only [stepC0] at h
    split at h
    · rename_i hc
      obtain ⟨k1, e1⟩ := hr _ _ _ _ _ h
      exact ⟨k1, fun Q hq => SWp.cond hc (e1 Q hq)⟩
    · rename_i hc
      obtain ⟨k1, e1⟩ := hr _ _ _ _ _ h
      exact ⟨k1, fun Q hq => SWp.cond hc (e1 Q hq)⟩
    · cases h
  | block i b =>
    simp only [stepC0] at h
    split at h
    case h_2 => cases h
    rename_i l hl
    obtain ⟨k1, e1⟩ := hr _ _ _ _ _ hl
    obtain rfl := Option.some.inj h
    refine ⟨fun o ho => ?_, fun Q hq => SWp.block (e1 _ fun x hx => ?_)⟩
    · obtain ⟨x, hx, rfl⟩ := List.mem_map.1 ho
      obtain ⟨e, f1, s1⟩ := x
      have := k1 _ hx
      cases e <;> exact this
    · have := hq _ (List.mem_map.2 ⟨x, hx, rfl⟩)
      obtain ⟨e, f1, s1⟩ := x
      cases e with
      | exit j =>
        simp only at this
        show if j = i then Q .normal f1.a (s1.a G) else Q (.exit j) f1.a (s1.a G)
        cases hj : Nat.beq j i with
        | true =>
          rw [hj] at this
          rw [if_pos (Nat.eq_of_beq_eq_true hj)]
          exact this
        | false =>
          rw [hj] at this
          rw [if_neg (Nat.ne_of_beq_eq_false hj)]
          exact this
      | _ => exact this
  | loop b =>
    obtain ⟨k1, e1⟩ := loopN_ok hr (show loopN rc n b 5000 f s = some outs from h)
    exact ⟨k1, fun Q hq => SWp.loopS 5000 (e1 Q hq)⟩
  | scope c =>
    simp only [stepC0] at h
    split at h
    · rename_i l f1 s1 h1
      obtain ⟨k1, e1⟩ := hr _ _ _ _ _ h1
      split at h
      case h_2 => cases h
      rename_i r hf
      have ih := restN_ok hr h
      refine ⟨fun o ho => (k1 _ (List.mem_singleton.2 rfl)).trans (ih.1 o ho), fun Q hq => SWp.scopeS hf 100 (e1 _ fun x hx => ?_)⟩
      rw [List.mem_singleton] at hx
      subst hx
      exact ⟨rfl, ih.2 Q hq⟩
    · rename_i e f1 s1 hne h1
      obtain ⟨k1, e1⟩ := hr _ _ _ _ _ h1
      obtain rfl := Option.some.inj h
      refine ⟨k1, fun Q hq => ?_⟩
      exact scope0 (e1 _ fun x hx => ⟨hq x hx, fun j hj => by
        rw [List.mem_singleton] at hx
        subst hx
        exact hne j hj⟩)
    · cases h
  | region id ops d =>
    cases d with
    | false =>
      simp only [stepC0] at h
      cases hok : (ops.toList.all fun o => dstOk n o.dst) with
      | false => rw [hok] at h; cases h
      | true =>
      rw [hok] at h
      simp only [cond_true] at h
      split at h
      case h_2 => cases h
      rename_i l hl
      obtain ⟨k1, e1⟩ := opsC_ok hr (yieldO_ok hr) hl
      obtain rfl := Option.some.inj h
      refine ⟨fun o ho => ?_, fun Q hq => SWp.region hok (e1 _ _ fun p hp => ?_)⟩
      · obtain ⟨p, hp, rfl⟩ := List.mem_map.1 ho
        exact k1 p hp
      · exact hq _ (List.mem_map.2 ⟨p, hp, rfl⟩)
    | true =>
      simp only [stepC0] at h
      cases hok : (ops.toList.all fun o => dstOk n o.dst) with
      | false => rw [hok] at h; cases h
      | true =>
      rw [hok] at h
      exact drawC_ok hr (yieldO_ok hr) hok h
theorem runC_ok : ∀ k, RcOk P G (runC P G X k)
  | 0 => fun n c f s outs h => nomatch (show (none : Option (List Res)) = some _ from h)
  | k + 1 => stepC_ok (runC_ok k)
/-- A call that is run. -/
theorem run_call {fid : FuncId} {args : List V} {s : SH} {k : Nat} {r : V} {s1 : SH} (h : callF P G X (runC P G X k) fid args s = some [(r, s1)]) : Kp s s1 ∧ SCalls P fid args (s.a G) fun x h => x = r ∧ h = s1.a G := by
  obtain ⟨h1, h2⟩ := callF_ok (runC_ok k) h
  refine ⟨h1 _ (List.mem_singleton.2 rfl), h2.mono fun x h ⟨p, hp, e1, e2⟩ => ?_⟩
  rw [List.mem_singleton] at hp
  subst hp
  exact ⟨e1, e2⟩
end
end
end Go.Proofs.YtfcjehlhoebmnaaGreatDoor.Ab
