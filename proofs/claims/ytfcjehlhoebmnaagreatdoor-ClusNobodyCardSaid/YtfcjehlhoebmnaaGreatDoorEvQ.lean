/-
  An evaluator upon abstract states that the kernel can run, and why what it answers holds. Conditions: as each theorem says.
-/
import Derived.Test.YtfcjehlhoebmnaaGreatDoorEvP
namespace Go.Proofs.YtfcjehlhoebmnaaGreatDoor.Ab
noncomputable section
open Go Go.RowKit
set_option linter.unusedVariables false

/-! ### States that differ by the numbers of new blocks alone -/
def simpleV : V → Bool
  | .top | .bool _ | .int .. | .float .. | .complex .. | .string _ | .nilFunc | .nilIface | .pnil | .snil | .mnil | .z0 | .e0 => true
  | _ => false
inductive RV (π : Nat → Nat) : V → V → Prop
  | same (v) (h : simpleV v = true) : RV π v v
  | ptr (i o) : RV π (.ptr i o) (.ptr (π i) o)
  | sl (i o n c) : RV π (.sl i o n c) (.sl (π i) o n c)
  | map (i) : RV π (.map i) (.map (π i))
  | imm (n) {cs ds : List V} (hl : cs.length = ds.length) (h : ∀ (k : Nat) (v u : V), cs[k]? = some v → ds[k]? = some u → RV π v u) : RV π (.imm n cs) (.imm n ds)
  | at {cs ds : List V} (hl : cs.length = ds.length) (h : ∀ (k : Nat) (v u : V), cs[k]? = some v → ds[k]? = some u → RV π v u) : RV π (.at cs) (.at ds)
  | agg {cs ds : List V} (hl : cs.length = ds.length) (h : ∀ (k : Nat) (v u : V), cs[k]? = some v → ds[k]? = some u → RV π v u) : RV π (.agg cs) (.agg ds)
  | tuple {cs ds : List V} (hl : cs.length = ds.length) (h : ∀ (k : Nat) (v u : V), cs[k]? = some v → ds[k]? = some u → RV π v u) : RV π (.tuple cs) (.tuple ds)
  | yl (i) : RV π (.func (.yield i) [] []) (.func (.yield (π i)) [] [])
  | func (fn) (h0 : isYl fn = false) {cs ds es fs : List V} (hl : cs.length = ds.length) (h : ∀ (k : Nat) (v u : V), cs[k]? = some v → ds[k]? = some u → RV π v u) (hl2 : es.length = fs.length) (h2 : ∀ (k : Nat) (v u : V), es[k]? = some v → fs[k]? = some u → RV π v u) : RV π (.func fn cs es) (.func fn ds fs)
  | iface (t) {v u : V} (h : RV π v u) : RV π (.iface t v) (.iface t u)
theorem get_of_len {α β : Type} {l : List α} {m : List β} (h : l.length = m.length) {k : Nat} {y : β} (hy : m[k]? = some y) : ∃ x, l[k]? = some x :=
  ⟨l[k]'(by rw [h]; exact (List.getElem?_eq_some_iff.1 hy).1), List.getElem?_eq_getElem _⟩
theorem VRel.turn {π : Nat → Nat} {ρ ρ2 : Ren} (hr : ∀ i x, ρ.ren i = some x → ρ2.ren (π i) = some x) (hf : ρ2.frz = ρ.frz) {v u : V} (hv : RV π v u) : ∀ {x : Value}, VRel ρ v x → VRel ρ2 u x := by
  induction hv with
  | same v h =>
    intro x hx
    cases hx <;> simp [simpleV] at h
    · exact .top _
    · exact .bool _
    · exact .int _ _
    · exact .float _ _
    · exact .complex _ _ _
    · exact .string _
    · exact .nilFunc
    · exact .nilIface
    · exact .pnil
    · exact .snil
    · exact .mnil
    · exact .z0 _ trivial
    · exact .e0 _ _
  | ptr i o => intro x hx; cases hx with | ptr h o => exact .ptr (hr _ _ h) o
  | sl i o n c => intro x hx; cases hx with | sl h _ _ _ hl => exact .sl (hr _ _ h) o n c hl
  | map i => intro x hx; cases hx with | map h => exact .map (hr _ _ h)
  | @imm n cs ds hl h ih =>
    intro x hx
    cases hx with
    | imm o n cap hb hn ho hx =>
      exact .imm o n cap (by rw [hf]; exact hb) hn (by rw [← hl]; exact ho) fun k u v' hu hv' => by
        obtain ⟨v, hv⟩ := get_of_len hl hu
        exact ih k v u hv hu (hx k v v' hv hv')
    | immZ a c ha =>
      have : ds = [] := List.eq_nil_of_length_eq_zero hl.symm
      subst this
      exact .immZ a c ha
  | @«at» cs ds hl h ih =>
    intro x hx
    cases hx with
    | «at» o hb ho hx =>
      exact .at o (by rw [hf]; exact hb) (by rw [← hl]; exact ho) fun k u v' hu hv' => by
        obtain ⟨v, hv⟩ := get_of_len hl hu
        exact ih k v u hv hu (hx k v v' hv hv')
  | @agg cs ds hl h ih =>
    intro x hx
    cases hx with
    | agg hs hx =>
      exact .agg (hl.symm.trans hs) fun k u v' hu hv' => by
        obtain ⟨v, hv⟩ := get_of_len hl hu
        exact ih k v u hv hu (hx k v v' hv hv')
  | @tuple cs ds hl h ih =>
    intro x hx
    cases hx with
    | tuple hs hx =>
      exact .tuple (hl.symm.trans hs) fun k u v' hu hv' => by
        obtain ⟨v, hv⟩ := get_of_len hl hu
        exact ih k v u hv hu (hx k v v' hv hv')
  | yl i => intro x hx; cases hx with
    | yl h => exact .yl (hr _ _ h)
    | func _ h0 => cases h0
  | @func fn h0 cs ds es fs hl h hl2 h2 ih ih2 =>
    intro x hx
    cases hx with
    | yl h => cases h0
    | func fn _ hs ht hx hy =>
      exact .func fn h0 (hl.symm.trans hs) (hl2.symm.trans ht) (fun k u v' hu hv' => by
        obtain ⟨v, hv⟩ := get_of_len hl hu
        exact ih k v u hv hu (hx k v v' hv hv')) fun k u v' hu hv' => by
        obtain ⟨v, hv⟩ := get_of_len hl2 hu
        exact ih2 k v u hv hu (hy k v v' hv hv')
  | iface t h ih =>
    intro x hx
    cases hx with
    | iface t h => exact .iface t (ih h)
theorem VRel.fixes {π : Nat → Nat} {ρ : Ren} (hr : ∀ i x, ρ.ren i = some x → π i = i) {v : V} {x : Value} (hv : VRel ρ v x) : RV π v v := by
  induction hv with
  | ptr h o => rename_i i b c; have := RV.ptr (π := π) i o; rw [hr _ _ h] at this; exact this
  | sl h o l c hl => rename_i i b c0; have := RV.sl (π := π) i o l c; rw [hr _ _ h] at this; exact this
  | map h => rename_i i b c; have := RV.map (π := π) i; rw [hr _ _ h] at this; exact this
  | @imm b o n cap arr cs hb hn ho hx ih =>
    refine .imm n rfl fun k v u a b => ?_
    rw [a] at b; cases b
    have hk : k < cs.length := (List.getElem?_eq_some_iff.1 a).1
    exact ih k v _ a (Array.getElem?_eq_getElem (show o + k < arr.size by omega))
  | immZ a c ha => exact .imm 0 rfl fun k v u a b => by simp at a
  | @«at» b o arr cs hb ho hx ih =>
    refine .at rfl fun k v u a b => ?_
    rw [a] at b; cases b
    have hk : k < cs.length := (List.getElem?_eq_some_iff.1 a).1
    exact ih k v _ a (Array.getElem?_eq_getElem (show o + k < arr.size by omega))
  | yl h => rename_i i b c; have := RV.yl (π := π) i; rw [hr _ _ h] at this; exact this
  | @func fn h0 xs ys xs' ys' hs ht hx hy ih ih2 =>
    refine .func fn h0 rfl (fun k v u a b => ?_) rfl fun k v u a b => ?_
    · rw [a] at b; cases b
      have hk : k < xs.length := (List.getElem?_eq_some_iff.1 a).1
      exact ih k v _ a (Array.getElem?_eq_getElem (show k < xs'.size by omega))
    · rw [a] at b; cases b
      have hk : k < ys.length := (List.getElem?_eq_some_iff.1 a).1
      exact ih2 k v _ a (Array.getElem?_eq_getElem (show k < ys'.size by omega))
  | iface t h ih => exact .iface t ih
  | @agg xs xs' hs hx ih =>
    refine .agg rfl fun k v u a b => ?_
    rw [a] at b; cases b
    have hk : k < xs.length := (List.getElem?_eq_some_iff.1 a).1
    exact ih k v _ a (Array.getElem?_eq_getElem (show k < xs'.size by omega))
  | @tuple xs xs' hs hx ih =>
    refine .tuple rfl fun k v u a b => ?_
    rw [a] at b; cases b
    have hk : k < xs.length := (List.getElem?_eq_some_iff.1 a).1
    exact ih k v _ a (Array.getElem?_eq_getElem (show k < xs'.size by omega))
  | _ => exact .same _ rfl
/-- Objects, likewise: rows of cells alone (and maps and iterators that stand still). -/
def RL (π : Nat → Nat) (l m : List V) : Prop := l.length = m.length ∧ ∀ (k : Nat) (v u : V), l[k]? = some v → m[k]? = some u → RV π v u
theorem LRel.turn {π : Nat → Nat} {ρ ρ2 : Ren} (hr : ∀ i x, ρ.ren i = some x → ρ2.ren (π i) = some x) (hf : ρ2.frz = ρ.frz) {l m : List V} (h : RL π l m) {l' : List Value} (hl : LRel ρ l l') : LRel ρ2 m l' :=
  ⟨h.1.symm.trans hl.1, fun k u v' hu hv' => by
    obtain ⟨v, hv⟩ := get_of_len h.1 hu
    exact VRel.turn hr hf (h.2 k v u hv hu) (hl.2 k v v' hv hv')⟩
theorem LRel.fixes {π : Nat → Nat} {ρ : Ren} (hr : ∀ i x, ρ.ren i = some x → π i = i) {l : List V} {l' : List Value} (hl : LRel ρ l l') : RL π l l :=
  ⟨rfl, fun k v u a b => by
    rw [a] at b; cases b
    obtain ⟨v', hv', h⟩ := hl.get a
    exact h.fixes hr⟩
def PinR (π : Nat → Nat) : PinK → PinK → Prop
  | .dfd, .dfd => True
  | .loop j p a c y, .loop j' p' a' c' y' => j' = π j ∧ p = p' ∧ a = a' ∧ c = c' ∧ y = y'
  | _, _ => False
theorem PinAt.turn {π : Nat → Nat} {ρ ρ2 : Ren} (hr : ∀ i x, ρ.ren i = some x → ρ2.ren (π i) = some x) {w : World} {b : Nat} {arr : List Value} {k k2 : PinK} (h : PinR π k k2) (hp : PinAt ρ w b arr k) : PinAt ρ2 w b arr k2 := by
  cases k with
  | dfd => cases k2 with
    | dfd => exact hp
    | loop => exact h.elim
  | loop j p a c y => cases k2 with
    | dfd => exact h.elim
    | loop j' p' a' c' y' =>
      obtain ⟨rfl, rfl, rfl, rfl, rfl⟩ := h
      obtain ⟨D, cD, q, h1, h2⟩ := hp
      exact ⟨D, cD, q, hr _ _ h1, h2⟩
theorem PinAt.fixes {π : Nat → Nat} {ρ : Ren} (hr : ∀ i x, ρ.ren i = some x → π i = i) {w : World} {b : Nat} {arr : List Value} {k : PinK} (hp : PinAt ρ w b arr k) : PinR π k k := by
  cases k with
  | dfd => exact trivial
  | loop j p a c y =>
    obtain ⟨D, cD, q, h1, h2⟩ := hp
    exact ⟨(hr _ _ h1).symm, rfl, rfl, rfl, rfl⟩
def RO (π : Nat → Nat) : AObj → AObj → Prop
  | .dead, .dead => True
  | .cells c e x, .cells d f y => RL π c d ∧ e = f ∧ x = y
  | .map es cl, .map fs dl => es.length = fs.length ∧ cl = dl ∧ ∀ (k : Nat) (p q : Nat × V × V), es[k]? = some p → fs[k]? = some q → p.1 = q.1 ∧ RV π p.2.1 q.2.1 ∧ RV π p.2.2 q.2.2
  | .iter m s a b, .iter m' s' a' b' => m' = π m ∧ s = s' ∧ a = a' ∧ b = b'
  | .pin k vs, .pin k' vs' => PinR π k k' ∧ RL π vs vs'
  | _, _ => False
theorem ORel.turn {π : Nat → Nat} {ρ ρ2 : Ren} (hr : ∀ i x, ρ.ren i = some x → ρ2.ren (π i) = some x) (hf : ρ2.frz = ρ.frz) {B : Nat} {w : World} {i : Nat} {o o2 : AObj} (h : RO π o o2) (ho : ORel ρ B w i o) : ORel ρ2 B w (π i) o2 := by
  cases o with
  | dead => cases o2 <;> first | exact trivial | exact h.elim
  | cells c e x =>
    cases o2 with
    | cells d f y =>
      obtain ⟨h1, rfl, rfl⟩ := h
      obtain ⟨b, cp, arr, a1, a2, a3, a4, a5, a6, a7⟩ := ho
      refine ⟨b, cp, arr, hr _ _ a1, by rw [hf]; exact a2, a3, a4, by rw [← h1.1]; exact a5, ?_, by rw [← h1.1]; exact a7⟩
      rw [← h1.1]
      exact LRel.turn hr hf h1 a6
    | _ => exact h.elim
  | map es cl =>
    cases o2 with
    | map fs dl =>
      obtain ⟨h1, rfl, h3⟩ := h
      obtain ⟨b, cp, arr, a1, a2, a3, a4, a5, a6⟩ := ho
      refine ⟨b, cp, arr, hr _ _ a1, by rw [hf]; exact a2, a3, a4, h1.symm.trans a5, fun k q e' hq he => ?_⟩
      obtain ⟨p, hp⟩ := get_of_len h1 hq
      obtain ⟨b1, b2, b3⟩ := h3 k p q hp hq
      obtain ⟨c1, c2, c3⟩ := a6 k p e' hp he
      exact ⟨b1.symm.trans c1, VRel.turn hr hf b2 c2, VRel.turn hr hf b3 c3⟩
    | _ => exact h.elim
  | iter m s a b =>
    cases o2 with
    | iter m' s' a' b' =>
      obtain ⟨rfl, rfl, rfl, rfl⟩ := h
      obtain ⟨b, cp, bm, cm, a1, a2, a3, a4, a5⟩ := ho
      exact ⟨b, cp, bm, cm, hr _ _ a1, by rw [hf]; exact a2, a3, hr _ _ a4, a5⟩
    | _ => exact h.elim
  | pin k vs =>
    cases o2 with
    | pin k' vs' =>
      obtain ⟨h2, h3⟩ := h
      obtain ⟨b, cp, arr, a1, a2, a3, a4, a5⟩ := ho
      exact ⟨b, cp, arr, hr _ _ a1, by rw [hf]; exact a2, a3, a4.turn hr h2, LRel.turn hr hf h3 a5⟩
    | _ => exact h.elim
theorem ORel.fixes {π : Nat → Nat} {ρ : Ren} (hr : ∀ i x, ρ.ren i = some x → π i = i) {B : Nat} {w : World} {i : Nat} {o : AObj} (ho : ORel ρ B w i o) : RO π o o := by
  cases o with
  | dead => exact trivial
  | cells c e x =>
    obtain ⟨b, cp, arr, a1, a2, a3, a4, a5, a6, a7⟩ := ho
    exact ⟨a6.fixes hr, rfl, rfl⟩
  | map es cl =>
    obtain ⟨b, cp, arr, a1, a2, a3, a4, a5, a6⟩ := ho
    refine ⟨rfl, rfl, fun k p q hp hq => ?_⟩
    rw [hp] at hq; cases hq
    obtain ⟨c1, c2, c3⟩ := a6 k p _ hp (Array.getElem?_eq_getElem (show k < arr.size by rw [← a5]; exact (List.getElem?_eq_some_iff.1 hp).1))
    exact ⟨rfl, c2.fixes hr, c3.fixes hr⟩
  | iter m s a b =>
    obtain ⟨b, cp, bm, cm, a1, a2, a3, a4, a5⟩ := ho
    exact ⟨(hr _ _ a4).symm, rfl, rfl, rfl⟩
  | pin k vs =>
    obtain ⟨b, cp, arr, a1, a2, a3, a4, a5⟩ := ho
    exact ⟨a4.fixes hr, a5.fixes hr⟩
def CastPt (n : Nat) (h0 : AHeap) (f : AFrame) (h : AHeap) (f2 : AFrame) (h2 : AHeap) : Prop :=
  ∀ (ρ0 ρ : Ren) (B : Nat) (w0 ws w : World) (a : Act), WRel ρ0 B w0 h0 ws → ρ0.le ρ → WRel ρ B w0 h w → FRel ρ n f a → ∃ ρ2 : Ren, ρ0.le ρ2 ∧ WRel ρ2 B w0 h2 w ∧ FRel ρ2 n f2 a
theorem CastPt.refl (n : Nat) (h0 : AHeap) (f : AFrame) (h : AHeap) : CastPt n h0 f h f h := fun ρ0 ρ B w0 ws w a hw0 hl hw hf => ⟨ρ, hl, hw, hf⟩
theorem CastPt.of {π ι : Nat → Nat} (h1 : ∀ i, ι (π i) = i) (h2 : ∀ j, π (ι j) = j) {n : Nat} {k0 k k2 : AHeap} {f f2 : AFrame} (hlow : ∀ i, i < k0.n → π i = i) (hhigh : ∀ i, k.n ≤ i → k.n ≤ ι i) (hn : k2.n = k.n) (hg : k2.glob = k0.glob)
    (ho : ∀ j, RO π (k.get j) (k2.get (π j)) ∨ (j < k0.n ∧ k.get j = k0.get j ∧ k2.get j = k0.get j)) (hf : ∀ t, t < n → RV π (f t) (f2 t)) (hf2 : ∀ t, n ≤ t → f2 t = .top) : CastPt n k0 f k f2 k2 := by
  intro ρ0 ρ B w0 ws w a hw0 hle hw hfr
  have hr : ∀ i x, ρ.ren i = some x → ({ ρ with ren := fun j => ρ.ren (ι j) } : Ren).ren (π i) = some x := fun i x hx => by simp only [h1]; exact hx
  have lt : ∀ i x, ρ0.ren i = some x → i < k0.n := fun i x hx => hw0.heap.lt hx
  have io : ∀ i, i < k0.n → ι i = i := fun i hi => by have := h1 i; rw [hlow i hi] at this; exact this
  have le : ρ0.le { ρ with ren := fun j => ρ.ren (ι j) } := ⟨fun i x hx => by simp only [io i (lt i x hx)]; exact hle.ren i x hx, hle.frz, hle.dfr⟩
  refine ⟨_, le, ⟨⟨fun j hj => ?_, fun i j b c c' hi hj e1 e2 => ?_, fun j => ?_, hw.heap.frz, fun g cs hgl => ?_, hw.heap.base⟩, hw.below⟩, ⟨fun t => ?_, hfr.size, hfr.defers⟩⟩
  · exact hw.heap.dom _ (hhigh j (by omega))
  · have live : ∀ i, k2.get i ≠ .dead → k.get (ι i) ≠ .dead := fun i hi hd => by
      rcases ho (ι i) with hro | ⟨a1, a2, a3⟩
      · rw [hd, h2] at hro
        apply hi
        cases hk : k2.get i with
        | dead => rfl
        | _ => rw [hk] at hro; exact hro.elim
      · have e : ι i = i := by have := hlow _ a1; rw [h2] at this; exact this.symm
        rw [e] at hd a2 a3
        exact hi (a3.trans (a2.symm.trans hd))
    have := hw.heap.inj (ι i) (ι j) b c c' (live i hi) (live j hj) e1 e2
    rw [← h2 i, this, h2]
  · rcases ho (ι j) with hro | ⟨a1, a2, a3⟩
    · have := ORel.turn hr rfl hro (hw.heap.obj (ι j))
      rw [h2] at this
      exact this
    · have e : ι j = j := by have := hlow _ a1; rw [h2] at this; exact this.symm
      rw [e] at a1 a2 a3
      have f1 := ORel.fixes (π := π) (fun i x hx => hlow i (lt i x hx)) (hw0.heap.obj j)
      have o1 := hw.heap.obj j
      rw [a2] at o1
      rw [a3]
      have := ORel.turn hr rfl f1 o1
      rw [hlow j a1] at this
      exact this
  · rw [hg] at hgl
    obtain ⟨arr, b1, b2⟩ := hw0.heap.glob g cs hgl
    exact ⟨arr, hle.frz _ _ b1, b2.mono le⟩
  · by_cases ht : t < n
    · exact VRel.turn hr rfl (hf t ht) (hfr.tmps t)
    · rw [hf2 t (by omega)]; exact .top _
theorem SWp.castP {P : Program} {n : Nat} {c : Code} {Q : AExit → AFrame → AHeap → Prop} {f : AFrame} {h : AHeap} (hs : SWp P n c (fun e f1 h1 => ∃ f2 h2, CastPt n h f1 h1 f2 h2 ∧ Q e f2 h2) f h) : SWp P n c Q f h := by
  intro ρ B w0 a w hw hf
  refine wp_mono (hs ρ B w0 a w hw hf) fun e a' w' ⟨ρ', x, f', h', hx, hw', hf', hl, f2, h2, hc, hQ⟩ => ?_
  obtain ⟨ρ2, b1, b2, b3⟩ := hc ρ ρ' B w0 w w' a' hw hl hw' hf'
  exact ⟨ρ2, x, f2, h2, hx, b2, b3, b1, hQ⟩
end
end Go.Proofs.YtfcjehlhoebmnaaGreatDoor.Ab
