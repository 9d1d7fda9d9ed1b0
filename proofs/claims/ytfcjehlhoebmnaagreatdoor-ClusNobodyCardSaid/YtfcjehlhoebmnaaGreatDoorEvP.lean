/-
  An evaluator upon abstract states that the kernel can run, and why what it answers holds. Conditions: as each theorem says.
-/
import Derived.Test.YtfcjehlhoebmnaaGreatDoorEvB
namespace Go.Proofs.YtfcjehlhoebmnaaGreatDoor.Ab
noncomputable section
open Go Go.RowKit
set_option linter.unusedVariables false

/-! ### Plans that read ahead what no effect turns, at any point -/
/-- q: may float past effects (it reads what stands still); c: stands in order; e: an effect that keeps what is read ahead; a: one that stands alone. -/
def Sch.okT (ops : Array Oper) (es : List Nat) : Sch → Nat → Bool → Bool → Array Bool → Bool
  | .done, n, top, kf, listed => top && n == 0 && (Region.ready .any ops listed).isEmpty
  | .stop, _, top, _, _ => !top
  | .q k s, n, top, kf, listed => match n, ops[k]? with
    | n + 1, some o => top && !es.contains k && (Region.ready .any ops listed).contains k && Region.free .any ops listed k && idleS o.op && kf && s.okT ops es n true kf (listed.setIfInBounds k true)
    | _, _ => false
  | .c k s, n, top, kf, listed => match n, ops[k]? with
    | n + 1, some o => top && !es.contains k && (Region.ready .any ops listed).contains k && Region.free .any ops listed k && orderedB ops es listed k && s.okT ops es n true kf (listed.setIfInBounds k true)
    | _, _ => false
  | .a k s, n, top, kf, listed => match n with
    | n + 1 => top && es.contains k && Region.ready .any ops listed == [k] && aloneB ops k && s.okT ops es n true false (listed.setIfInBounds k true)
    | 0 => false
  | .e k s alt, n, top, kf, listed => match n with
    | n + 1 => (!top || ((Region.ready .any ops listed).contains k && (Region.ready .any ops listed).all fun i => (k :: alt.keys).contains i)) && es.contains k && s.okT ops es n true true (listed.setIfInBounds k true) && alt.okT ops es (n + 1) false kf listed
    | 0 => false
section
variable {P : Program} {ops : Array Oper} {es : List Nat} {M : Nat → Prop} {hs : AHeap} {K : AFrame → AHeap → Prop} {X : AHeap → Prop}
def evT (P : Program) (ol : List Oper) (M : Nat → Prop) (hs : AHeap) (K : AFrame → AHeap → Prop) (X : AHeap → Prop) : Sch → AFrame → AHeap → Prop
  | .done, f, h => K f h
  | .stop, _, _ => True
  | .q k s, f, h => match ol[k]? with
    | some o => (match wantedA ol o.guard f with
      | some true => ∃ v, opEval P o (f.eval hs) hs = some (.val v hs) ∧ (∀ i, ridOp (f.eval hs) o.op = some i → ¬ M i) ∧ evT P ol M hs K X s (f.put o.dst v) h
      | some false => evT P ol M hs K X s (f.put o.dst (.tuple [])) h
      | none => False)
    | none => False
  | .c k s, f, h => match ol[k]? with
    | some o => (match wantedA ol o.guard f with
      | some true => ∃ v, opEval P o (f.eval h) h = some (.val v h) ∧ evT P ol M hs K X s (f.put o.dst v) h
      | some false => evT P ol M hs K X s (f.put o.dst (.tuple [])) h
      | none => False)
    | none => False
  | .a k s, f, h => match ol[k]? with
    | some o => (match wantedA ol o.guard f with
      | some true => stepA P o (fun f' h' => evT P ol M hs K X s f' h') (fun _ h => X h) f h
      | some false => evT P ol M hs K X s (f.put o.dst (.tuple [])) h
      | none => False)
    | none => False
  | .e k s alt, f, h => (match ol[k]? with
    | some o => (match wantedA ol o.guard f with
      | some true => stepA P o (fun f' h' => Keep hs h' M ∧ evT P ol M hs K X s f' h') (fun _ h => X h) f h
      | some false => Keep hs h M ∧ evT P ol M hs K X s (f.put o.dst (.tuple [])) h
      | none => False)
    | none => False) ∧ evT P ol M hs K X alt f h
theorem evT_any (hwf : Wf hs) : ∀ (s : Sch) (n : Nat) (kf : Bool) (listed : Array Bool) (f : AFrame) (h : AHeap), (kf = true → Keep hs h M) → Down ops listed → evT P ops.toList M hs K X s f h →
    (s.okT ops es n true kf listed = true → anyS P ops es M hs K X n listed f h) ∧
    (∀ m, n = m + 1 → s.okT ops es n false kf listed = true → ∀ i ∈ s.keys, i ∈ Region.ready .any ops listed → es.contains i = true ∧ Clause P ops es M hs K X m listed f h i) := by
  intro s
  induction s with
  | done =>
    intro n kf listed f h hkf hdn he
    refine ⟨fun hok => ?_, fun m hm hok => by simp [Sch.okT] at hok⟩
    simp only [Sch.okT, Bool.true_and, Bool.and_eq_true, beq_iff_eq, List.isEmpty_iff] at hok
    obtain ⟨rfl, hr⟩ := hok
    exact ⟨hr, he⟩
  | stop =>
    intro n kf listed f h hkf hdn he
    exact ⟨fun hok => by simp [Sch.okT] at hok, fun m hm hok i hi => by simp [Sch.keys] at hi⟩
  | q k s ih =>
    intro n kf listed f h hkf hdn he
    refine ⟨fun hok => ?_, fun m hm hok i hi => by simp [Sch.keys] at hi⟩
    cases n with
    | zero => simp [Sch.okT] at hok
    | succ n =>
      cases ho : ops[k]? with
      | none => simp [Sch.okT, ho] at hok
      | some o =>
        simp only [Sch.okT, ho, Bool.true_and, Bool.and_eq_true, Bool.not_eq_true'] at hok
        obtain ⟨⟨⟨⟨⟨hke, hr⟩, hfr⟩, hid⟩, hk1⟩, hs2⟩ := hok
        have hr' := contains_mem hr
        have hol : ops.toList[k]? = some o := by simpa using ho
        simp only [evT, hol] at he
        cases hw : wantedA ops.toList o.guard f with
        | none => rw [hw] at he; exact he.elim
        | some b =>
          rw [hw] at he
          cases b with
          | true =>
            obtain ⟨v, hev, hm, hrest⟩ := he
            refine anyS_first ho hke n listed f h (Region.free_spec ho hfr) hr' hdn ?_ ((ih n kf _ _ h hkf (hdn.add hr') hrest).1 hs2)
            exact .inl ⟨hkf hk1, fun h' hk' => .inl ⟨hw, .inl (by rw [eval_fun hk']; exact idle_keep hwf hk' hid hm hev)⟩⟩
          | false =>
            refine anyS_first (v := .tuple []) ho hke n listed f h (Region.free_spec ho hfr) hr' hdn ?_ ((ih n kf _ _ h hkf (hdn.add hr') he).1 hs2)
            exact .inl ⟨hkf hk1, fun h' hk' => .inr ⟨hw, rfl⟩⟩
  | c k s ih =>
    intro n kf listed f h hkf hdn he
    refine ⟨fun hok => ?_, fun m hm hok i hi => by simp [Sch.keys] at hi⟩
    cases n with
    | zero => simp [Sch.okT] at hok
    | succ n =>
      cases ho : ops[k]? with
      | none => simp [Sch.okT, ho] at hok
      | some o =>
        simp only [Sch.okT, ho, Bool.true_and, Bool.and_eq_true, Bool.not_eq_true'] at hok
        obtain ⟨⟨⟨⟨hke, hr⟩, hfr⟩, hord⟩, hs2⟩ := hok
        have hr' := contains_mem hr
        have hol : ops.toList[k]? = some o := by simpa using ho
        simp only [evT, hol] at he
        cases hw : wantedA ops.toList o.guard f with
        | none => rw [hw] at he; exact he.elim
        | some b =>
          rw [hw] at he
          cases b with
          | true =>
            obtain ⟨v, hev, hrest⟩ := he
            refine anyS_first ho hke n listed f h (Region.free_spec ho hfr) hr' hdn ?_ ((ih n kf _ _ h hkf (hdn.add hr') hrest).1 hs2)
            exact .inr ⟨hord, .inl ⟨hw, .inl hev⟩⟩
          | false =>
            refine anyS_first (v := .tuple []) ho hke n listed f h (Region.free_spec ho hfr) hr' hdn ?_ ((ih n kf _ _ h hkf (hdn.add hr') he).1 hs2)
            exact .inr ⟨hord, .inr ⟨hw, rfl⟩⟩
  | a k s ih =>
    intro n kf listed f h hkf hdn he
    refine ⟨fun hok => ?_, fun m hm hok i hi => by simp [Sch.keys] at hi⟩
    cases n with
    | zero => simp [Sch.okT] at hok
    | succ n =>
      simp only [Sch.okT, Bool.true_and, Bool.and_eq_true, beq_iff_eq] at hok
      obtain ⟨⟨⟨hke, hr⟩, hal⟩, hs2⟩ := hok
      have hr' : k ∈ Region.ready .any ops listed := by rw [hr]; simp
      refine ⟨fun h0 => (by rw [h0] at hr; cases hr), fun i hi o ho => ?_⟩
      rw [hr] at hi
      simp at hi
      subst hi
      rw [if_pos hke]
      have hol : ops.toList[i]? = some o := by simpa using ho
      simp only [evT, hol] at he
      cases hw : wantedA ops.toList o.guard f with
      | none => rw [hw] at he; exact he.elim
      | some b =>
        rw [hw] at he
        cases b with
        | true => exact stepA_weak (fun f' h' hh => ⟨.inl hal, (ih n false _ _ h' (by simp) (hdn.add hr') hh).1 hs2⟩) (fun _ _ h => h) he
        | false => exact (ih n false _ _ h (by simp) (hdn.add hr') he).1 hs2
  | e k s alt ih1 ih2 =>
    intro n kf listed f h hkf hdn he
    have main : ∀ (m : Nat) (top : Bool), n = m + 1 → (Sch.e k s alt).okT ops es n top kf listed = true → ∀ i ∈ (Sch.e k s alt).keys, i ∈ Region.ready .any ops listed → es.contains i = true ∧ Clause P ops es M hs K X m listed f h i := by
      intro m top hn hok i hi hir
      subst hn
      simp only [Sch.okT, Bool.and_eq_true] at hok
      obtain ⟨⟨⟨_, hke⟩, hs2⟩, halt⟩ := hok
      simp only [evT] at he
      simp only [Sch.keys, List.mem_cons] at hi
      by_cases hik : i = k
      · subst hik
        refine ⟨hke, fun o ho => ?_⟩
        have hol : ops.toList[i]? = some o := by simpa using ho
        have h1 := he.1
        rw [hol] at h1
        simp only at h1
        cases hw : wantedA ops.toList o.guard f with
        | none => rw [hw] at h1; exact h1.elim
        | some b =>
          rw [hw] at h1
          cases b with
          | true => exact stepA_weak (fun f' h' hh => ⟨.inr hh.1, (ih1 m true _ _ h' (fun _ => hh.1) (hdn.add hir) hh.2).1 hs2⟩) (fun _ _ h => h) h1
          | false => exact (ih1 m true _ _ h (fun _ => h1.1) (hdn.add hir) h1.2).1 hs2
      · rcases hi with hi | hi
        · exact absurd hi hik
        · exact (ih2 (m + 1) kf listed f h hkf hdn he.2).2 m rfl halt i hi hir
    refine ⟨fun hok => ?_, fun m hm hok => main m false hm hok⟩
    cases n with
    | zero => simp [Sch.okT] at hok
    | succ m =>
      have hcov : (Region.ready .any ops listed).all (fun i => (k :: alt.keys).contains i) = true ∧ (Region.ready .any ops listed).contains k = true := by
        simp only [Sch.okT, Bool.and_eq_true, Bool.not_true, Bool.false_or] at hok
        exact ⟨hok.1.1.1.2, hok.1.1.1.1⟩
      have hin : ∀ i ∈ Region.ready .any ops listed, i ∈ (Sch.e k s alt).keys := fun i hi => by
        have := (List.all_eq_true.1 hcov.1) i hi
        exact contains_mem this
      refine ⟨fun h0 => ?_, fun i hi o ho => ?_⟩
      · have := contains_mem hcov.2
        rw [h0] at this
        cases this
      · obtain ⟨h1, h2⟩ := main m true rfl hok i (hin i hi) hi
        rw [if_pos h1]
        exact h2 o ho
theorem SWp.drawnE {n id : Nat} {Q : AExit → AFrame → AHeap → Prop} (M : Nat → Prop) (s : Sch) (hm : P.follows .mixedOrders = true) (hB : s.okT ops es ops.size true true (Array.replicate ops.size false) = true) (hok : ops.toList.all (fun o => dstOk n o.dst) = true) {f : AFrame} {h : AHeap}
    (hq : Wf h → evT P ops.toList M h (fun f h => Q .normal f h) (fun h => ∀ f, Q .panic f h) s f h) : SWp P n (.region id ops true) Q f h := by
  intro ρ B w0 a w hw hf
  refine wpIn_wide.1 (wpIn_region_any (n := 0) hm (anyG_sound (ρ0 := ρ) (es := es) hok _ _ f h ρ a _ (Ren.le.refl ρ) hw.drew hf ?_))
  have := (evT_any (es := es) hw.wf s _ true _ f h (fun _ => Keep.refl _ _) (fun k o ho hk => by simp [Array.getElem?_replicate] at hk; split at hk <;> simp_all) (hq hw.wf)).1 hB
  exact anyS_G (fun f h hx => hx f) _ _ _ _ this
end
end
end Go.Proofs.YtfcjehlhoebmnaaGreatDoor.Ab
