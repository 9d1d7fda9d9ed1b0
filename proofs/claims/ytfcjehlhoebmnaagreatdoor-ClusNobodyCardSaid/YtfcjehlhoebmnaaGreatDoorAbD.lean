/-
  Abstract values and an abstract heap for Go code, related to the world; the operations on them, and the rules of code. Conditions: none.
-/
import Derived.Test.YtfcjehlhoebmnaaGreatDoorAbC
import Derived.Recover
import Derived.Lib.LaidTab
import Derived.OpenShut
import Derived.Shelf.SlSortCmp.InsertionK
set_option linter.unusedVariables false
set_option linter.unusedSimpArgs false
namespace Go.Proofs.YtfcjehlhoebmnaaGreatDoor.Ab
open Go Go.RowKit
set_option linter.unusedVariables false

/-! ### What came in, of a type that is made of itself: Q tells what its cells are -/
inductive ShQ where
  | bool | int (k : IntKind) | str | sl (s : ShQ) | unit | cat (a b : ShQ) | ext (n : Nat)
def ShQ.width : ShQ → Nat
  | .unit => 0
  | .cat a b => a.width + b.width
  | .ext n => n
  | _ => 1
def ShQ.fitsQ (Q : List V → Prop) : ShQ → List V → Prop
  | .ext n, l => Q l ∧ l.length = n
  | .bool, l => ∃ b, l = [.bool b]
  | .int k, l => ∃ n, l = [.int k n] ∧ (Lit.int k n).wf = true
  | .str, l => ∃ s, l = [.string s]
  | .sl s, l => ∃ es : List (List V), l = [.imm es.length es.flatten] ∧ es.length < 2 ^ 47 ∧ ∀ e ∈ es, s.fitsQ Q e
  | .unit, l => l = []
  | .cat a b, l => ∃ l1 l2, l = l1 ++ l2 ∧ a.fitsQ Q l1 ∧ b.fitsQ Q l2
theorem ShQ.fitsQ_length {Q : List V → Prop} : ∀ {s : ShQ} {l : List V}, s.fitsQ Q l → l.length = s.width
  | .ext _, _, ⟨_, h⟩ => h
  | .bool, _, ⟨_, h⟩ => by subst h; rfl
  | .int _, _, ⟨_, h, _⟩ => by subst h; rfl
  | .str, _, ⟨_, h⟩ => by subst h; rfl
  | .sl _, _, ⟨_, h, _⟩ => by subst h; rfl
  | .unit, _, h => by have : _ = [] := h; subst this; rfl
  | .cat a b, _, ⟨l1, l2, h, h1, h2⟩ => by subst h; rw [List.length_append, ShQ.fitsQ_length h1, ShQ.fitsQ_length h2]; rfl

def shFieldsQ (P : Program) (g : TypeId → Option ShQ) : Nat → List Field → Option ShQ
  | _, [] => some .unit
  | o, f :: fs =>
    if f.offset = o then
      match g f.type, shFieldsQ P g (o + P.cellsOf f.type) fs with
      | some s, some r => if s.width = P.cellsOf f.type then some (.cat s r) else none
      | _, _ => none
    else none
def shapeOfQ (P : Program) (T0 : TypeId) : Nat → TypeId → Option ShQ
  | 0, _ => none
  | n + 1, t =>
    if t = T0 then some (.ext (P.cellsOf t)) else
    match P.underlying t with
    | some .bool => some .bool
    | some (.int k) => some (.int k)
    | some .string => some .str
    | some (.slice e) => match shapeOfQ P T0 n e with | some s => if s.width = P.cellsOf e ∧ 0 < s.width ∧ 1 ≤ P.bytesOf e then some (.sl s) else none | none => none
    | some (.struct fs) => match shFieldsQ P (shapeOfQ P T0 n) 0 fs.toList with | some s => if s.width = P.cellsOf t then some s else none | none => none
    | _ => none

section
variable {H : Type} {enc : TypeId × Value → H} {P : Program} {w : World} {base : Nat} {spare : Nat → Bool} {held : Bool} {Q : List V → Prop} {T0 : TypeId}

theorem fields_readQ {g : TypeId → Option ShQ} {cs : List Value} {fu : Nat} (hg : ∀ t s cs x, g t = some s → DataW.trod enc P w base spare held fu t cs = some x → (∀ n ∈ x.1.weights P t, n ≤ reachBytes) → ∃ l, s.fitsQ Q l ∧ LRel (entryRen w) l cs) :
    ∀ (fs : List Field) (o : Nat) (s : ShQ) (xs : List (DataW H × List MemPlace)), shFieldsQ P g o fs = some s → xs.length = fs.length →
      (∀ (i : Nat) (f : Field), fs[i]? = some f → DataW.trod enc P w base spare held fu f.type ((cs.drop f.offset).take (P.cellsOf f.type)) = xs[i]?) → (∀ n ∈ DataW.weightsEach P (fs.map (·.type)) (xs.map (·.1)), n ≤ reachBytes) → ∃ l, s.fitsQ Q l ∧ LRel (entryRen w) l ((cs.drop o).take s.width)
  | [], o, s, xs, hs, _, _, _ => by
    simp [shFieldsQ] at hs
    subst hs
    exact ⟨[], rfl, by simpa [ShQ.width] using LRel.nil _⟩
  | f :: fs, o, s, xs, hs, hl, hx, hb => by
    unfold shFieldsQ at hs
    split at hs
    case isFalse => cases hs
    rename_i ho
    split at hs
    case h_2 => cases hs
    rename_i s1 s2 h1 h2
    split at hs
    case isFalse => cases hs
    rename_i hw
    obtain rfl := Option.some.inj hs
    cases xs with
    | nil => simp at hl
    | cons x xs =>
      have hx0 := hx 0 f rfl
      obtain ⟨l1, f1, r1⟩ := hg _ _ _ _ h1 hx0 (fun n hn => hb n (by simp only [List.map_cons, DataW.weightsEach, List.mem_append]; exact .inl hn))
      obtain ⟨l2, f2, r2⟩ := fields_readQ hg fs _ s2 xs h2 (by simpa using hl) (fun i f' hf => hx (i + 1) f' (by simpa using hf)) (fun n hn => hb n (by simp only [List.map_cons, DataW.weightsEach, List.mem_append]; exact .inr hn))
      refine ⟨l1 ++ l2, ⟨l1, l2, rfl, f1, f2⟩, ?_⟩
      have := r1.append r2
      rw [ho, ← hw] at this
      have e : ((cs.drop o).take s1.width) ++ ((cs.drop (o + s1.width)).take s2.width) = (cs.drop o).take (s1.width + s2.width) := by
        rw [List.take_add, List.drop_drop]
      rw [e] at this
      exact this

theorem readsQ : ∀ (n : Nat) (t : TypeId) (s : ShQ) (fuel : Nat) (cs : List Value) (x : DataW H × List MemPlace), (∀ k, k ≤ fuel → ∀ cs x, DataW.trod enc P w base spare held k T0 cs = some x → (∀ n ∈ x.1.weights P T0, n ≤ reachBytes) → ∃ l, Q l ∧ l.length = P.cellsOf T0 ∧ LRel (entryRen w) l cs) → shapeOfQ P T0 n t = some s → DataW.trod enc P w base spare held fuel t cs = some x → (∀ n ∈ x.1.weights P t, n ≤ reachBytes) → ∃ l, s.fitsQ Q l ∧ LRel (entryRen w) l cs
  | 0, _, _, _, _, _, _, hs, _, _ => by simp [shapeOfQ] at hs
  | n + 1, t, s, fuel, cs, x, hQ, hs, h, hB => by
    unfold shapeOfQ at hs
    by_cases ht : t = T0
    · rw [if_pos ht] at hs
      obtain rfl := Option.some.inj hs
      subst ht
      obtain ⟨l, h1, h2, h3⟩ := hQ fuel (Nat.le_refl _) cs x h hB
      exact ⟨l, ⟨h1, h2⟩, h3⟩
    rw [if_neg ht] at hs
    split at hs
    · rename_i hu
      obtain rfl := Option.some.inj hs
      obtain ⟨b, rfl, _⟩ := DataW.trod_bool hu h
      exact ⟨[.bool b], ⟨b, rfl⟩, .cons (.bool b) (.nil _)⟩
    · rename_i k hu
      obtain rfl := Option.some.inj hs
      obtain ⟨m, rfl, _, hw⟩ := DataW.trod_int hu h
      exact ⟨[.int k m], ⟨m, rfl, hw⟩, .cons (.int k m) (.nil _)⟩
    · rename_i hu
      obtain rfl := Option.some.inj hs
      obtain ⟨b, rfl, _⟩ := DataW.trod_string hu h
      exact ⟨[.string b], ⟨b, rfl⟩, .cons (.string b) (.nil _)⟩
    · rename_i e hu
      split at hs
      case h_2 => cases hs
      rename_i s1 hs1
      split at hs
      case isFalse => cases hs
      rename_i hw
      obtain rfl := Option.some.inj hs
      rcases DataW.trod_slice hu h with ⟨rfl, _⟩ | ⟨a, len, cap, elems, rest, m, hfu, rfl, hxx, _, hlc, _, hel, hget, _⟩
      · exact ⟨[.imm 0 []], ⟨[], rfl, by decide, by simp⟩, .cons (.immZ none 0 (by simp)) (.nil _)⟩
      · rcases Nat.eq_zero_or_pos len with h0 | hpos
        · subst h0
          exact ⟨[.imm 0 []], ⟨[], rfl, by decide, by simp⟩, .cons (.immZ (some a) cap (by simp)) (.nil _)⟩
        · have each : ∀ i, i < len → ∃ l : List V, s1.fitsQ Q l ∧ ∃ ci : List Value, LRel (entryRen w) l ci ∧ ∀ j, j < s1.width → w.cell? ((a.add (i * s1.width)).add j) = ci[j]? ∧ j < ci.length := fun i hi => by
            have h1 := hget i hi
            have h2 : ∃ y, elems[i]? = some y := ⟨_, List.getElem?_eq_getElem (by omega)⟩
            obtain ⟨y, hy⟩ := h2
            rw [hy, Option.bind_eq_some_iff] at h1
            obtain ⟨ci, hc1, hc2⟩ := h1
            obtain ⟨l, f1, r1⟩ := readsQ n e s1 m ci y (fun k hk => hQ k (by omega)) hs1 hc2 (fun n hn => hB n (by
              rw [hxx]
              simp only [DataW.weights, hu]
              exact List.mem_cons_of_mem _ (List.mem_append_left _ (weightsAll_mem (List.mem_map.2 ⟨y, List.mem_of_getElem? hy, rfl⟩) hn))))
            rw [← hw.1] at hc1
            obtain ⟨g1, g2⟩ := cells_get hc1
            exact ⟨l, f1, ci, r1, fun j hj => ⟨g2 j hj, by omega⟩⟩
          obtain ⟨es, hes1, hes2⟩ := pick_all len each
          have hmem : ∀ e ∈ es, s1.fitsQ Q e := fun e he => by
            obtain ⟨i, hi⟩ := List.getElem?_of_mem he
            exact (hes2 i e hi).1
          have hlen : ∀ e ∈ es, e.length = s1.width := fun e he => ShQ.fitsQ_length (hmem e he)
          obtain ⟨b, off, sp⟩ := a
          have c0 : ∃ v, w.cell? ⟨b, off, sp⟩ = some v := by
            obtain ⟨_, ci, _, hc⟩ := (hes2 0 es[0] (List.getElem?_eq_getElem (by omega)))
            obtain ⟨q1, q2⟩ := hc 0 hw.2.1
            rw [Nat.zero_mul] at q1
            simp only [Addr.add, if_true] at q1
            exact ⟨_, q1.trans (List.getElem?_eq_getElem q2)⟩
          obtain ⟨v0, hv0⟩ := c0
          have hb : ∃ arr et fz, w.heap[b]? = some (.cells arr et fz) ∧ sp = none := by
            unfold World.cell? at hv0
            split at hv0
            · rename_i c et fz hq
              refine ⟨c, et, fz, hq, ?_⟩
              cases sp with
              | none => rfl
              | some _ => simp at hv0
            · cases hv0
          obtain ⟨arr, et, fz, hb, rfl⟩ := hb
          have hcell : ∀ m, w.cell? (Addr.add ⟨b, off, none⟩ m) = arr[off + m]? := fun m => by
            rw [Addr.add_mid]
            simp [World.cell?, hb]
          have hat : ∀ i j, j < s1.width → w.cell? ((Addr.add ⟨b, off, none⟩ (i * s1.width)).add j) = arr[off + (i * s1.width + j)]? := fun i j _ => by
            rw [Addr.add_mid, Addr.add_mid]
            simp [World.cell?, hb, Nat.add_assoc]
          have hsz : es.length < 2 ^ 47 := by
            have h0 := hB ((elems.length + rest.length) * P.bytesOf e) (by rw [hxx]; simp [DataW.weights, hu])
            have h1 := Nat.le_trans (Nat.le_mul_of_pos_right _ hw.2.2) h0
            have h2 := reachBytes_lt
            omega
          refine ⟨[.imm es.length es.flatten], ⟨es, rfl, hsz, hmem⟩, .cons ?_ (.nil _)⟩
          rw [hes1]
          refine .imm off len cap (entry_frz hb) hlc ?_ fun k v v' h1 h2 => ?_
          · rw [flatten_len hlen, hes1]
            obtain ⟨_, ci, _, hc⟩ := (hes2 (len - 1) es[len - 1] (List.getElem?_eq_getElem (by omega)))
            obtain ⟨q1, q2⟩ := hc (s1.width - 1) (by omega)
            rw [hat _ _ (by omega), List.getElem?_eq_getElem q2] at q1
            have q3 := (Array.getElem?_eq_some_iff.1 q1).1
            have : (len - 1) * s1.width + s1.width = len * s1.width := by
              rw [← Nat.succ_mul]; congr 1; omega
            omega
          · obtain ⟨e1, g1, g2⟩ := flatten_get hw.2.1 hlen h1
            obtain ⟨_, ci, hr, hc⟩ := hes2 _ e1 g1
            have hj : k % s1.width < s1.width := Nat.mod_lt _ hw.2.1
            obtain ⟨q1, q2⟩ := hc _ hj
            rw [hat _ _ hj, show k / s1.width * s1.width + k % s1.width = k by rw [Nat.mul_comm]; exact Nat.div_add_mod k s1.width, h2] at q1
            exact hr.2 _ _ _ g2 q1.symm
    · rename_i fs hu
      split at hs
      case h_2 => cases hs
      rename_i s1 hs1
      split at hs
      case isFalse => cases hs
      rename_i hw
      obtain rfl := Option.some.inj hs
      obtain ⟨xs, m, hfu, hxx, hcl, hxl, hx⟩ := DataW.trod_struct hu h
      obtain ⟨l, f1, r1⟩ := fields_readQ (fu := m) (fun t s cs x h1 h2 h3 => readsQ n t s m cs x (fun k hk => hQ k (by omega)) h1 h2 h3) fs.toList 0 s1 xs hs1 (by simpa using hxl) (fun i f hf => hx i f (by simpa using hf)) (fun n hn => hB n (by rw [hxx]; simp only [DataW.weights, hu]; exact hn))
      rw [List.drop_zero, hw, ← hcl, List.take_length] at r1
      exact ⟨l, f1, r1⟩
    · cases hs

/-- The type itself, by its fields' shapes. -/
theorem readsSelf {n : Nat} {fs : Array Field} {s1 : ShQ} (hu : P.underlying T0 = some (.struct fs)) (hs1 : shFieldsQ P (shapeOfQ P T0 n) 0 fs.toList = some s1) (hw : s1.width = P.cellsOf T0) (hQ : ∀ l, s1.fitsQ Q l → Q l) :
    ∀ (fuel : Nat) (cs : List Value) (x : DataW H × List MemPlace), DataW.trod enc P w base spare held fuel T0 cs = some x → (∀ n ∈ x.1.weights P T0, n ≤ reachBytes) → ∃ l, Q l ∧ l.length = P.cellsOf T0 ∧ LRel (entryRen w) l cs := by
  intro fuel
  induction fuel using Nat.strongRecOn with
  | _ fuel ih =>
    intro cs x h hB
    obtain ⟨xs, m, hfu, hxx, hcl, hxl, hx⟩ := DataW.trod_struct hu h
    obtain ⟨l, f1, r1⟩ := fields_readQ (Q := Q) (fu := m) (fun t s cs x h1 h2 h3 => readsQ (Q := Q) n t s m cs x (fun k hk => ih k (by omega)) h1 h2 h3) fs.toList 0 s1 xs hs1 (by simpa using hxl) (fun i f hf => hx i f (by simpa using hf)) (fun n hn => hB n (by rw [hxx]; simp only [DataW.weights, hu]; exact hn))
    rw [List.drop_zero, hw, ← hcl, List.take_length] at r1
    exact ⟨l, hQ l f1, by rw [ShQ.fitsQ_length f1, hw], r1⟩

/-- All that is made of it. -/
theorem reads_ext {n n' : Nat} {fs : Array Field} {s1 : ShQ} (hu : P.underlying T0 = some (.struct fs)) (hs1 : shFieldsQ P (shapeOfQ P T0 n) 0 fs.toList = some s1) (hw : s1.width = P.cellsOf T0) (hQ : ∀ l, s1.fitsQ Q l → Q l)
    {t : TypeId} {s : ShQ} (hs : shapeOfQ P T0 n' t = some s) {fuel : Nat} {cs : List Value} {x : DataW H × List MemPlace} (h : DataW.trod enc P w base spare held fuel t cs = some x) (hB : ∀ n ∈ x.1.weights P t, n ≤ reachBytes) : ∃ l, s.fitsQ Q l ∧ LRel (entryRen w) l cs :=
  readsQ n' t s fuel cs x (fun k _ cs x h hB => readsSelf hu hs1 hw hQ k cs x h hB) hs h hB
end
end Go.Proofs.YtfcjehlhoebmnaaGreatDoor.Ab

namespace Go.Proofs.YtfcjehlhoebmnaaGreatDoor.Ab
open Go Go.RowKit
set_option linter.unusedVariables false
set_option linter.unusedSimpArgs false

/-! ### A function with one deferred closure -/
/-- A deferred call behind a body that returned. -/
def SDefR (P : Program) (g : FuncId) (args : List V) (h : AHeap) (R : AHeap → Prop) : Prop :=
  ∀ (ρ : Ren) (B : Nat) (w0 w : World) (args' : Array Value), WRel ρ B w0 h w → LRel ρ args args'.toList →
    CallsD P g args' .returning w fun e u' w' => e = .returned (.tuple #[]) ∧ u' = .returning ∧ ∃ (ρ' : Ren) (h' : AHeap), WRel ρ' B w0 h' w' ∧ ρ.le ρ' ∧ R h'
/-- A deferred call behind a body that panicked: it recovers. -/
def SDefP (P : Program) (g : FuncId) (args : List V) (h : AHeap) (R : AHeap → Prop) : Prop :=
  ∀ (ρ : Ren) (B : Nat) (w0 w : World) (args' : Array Value) (t : TypeId) (v : Value), WRel ρ B w0 h w → LRel ρ args args'.toList →
    CallsD P g args' (.panicking [{ v := .iface t v, recovered := false }]) w fun e u' w' => e = .returned (.tuple #[]) ∧ u' = .panicking [{ v := .iface t v, recovered := true }] ∧ ∃ (ρ' : Ren) (h' : AHeap), WRel ρ' B w0 h' w' ∧ ρ.le ρ' ∧ R h'

def endsV (P : Program) (fn : Func) (R : V → AHeap → Prop) (f : AFrame) (h : AHeap) : Prop := match resultsA P fn.results.toList f h with | some r => R r h | none => False

theorem SCalls.enterD {P : Program} {fid g : FuncId} {fn : Func} {A A2 C : Code} {rid : Nat} {t x y : Tmp} {ty1 ty2 : TypeId} {pos1 pos2} {aft1 aft2} {tys : Array TypeId} (hfn : P.funcs[fid]? = some fn)
    (hb : fn.body = some (.seq A (.seq A2 (.seq (.region rid #[⟨some t, .makeFunc (.func g) #[] #[.tmp x, .tmp y], ty1, pos1, aft1, none⟩, ⟨none, .defer ⟨.value (.tmp t), #[], tys⟩, ty2, pos2, aft2, none⟩] false) C))))
    (ht : t < fn.ntmps) (hcal : callable P g = true) {args : List V} (hlen : args.length ≤ fn.ntmps) {h : AHeap} {R : V → AHeap → Prop} {M : AFrame → AHeap → Prop} {KR KP : V → V → AFrame → AHeap → Prop}
    (h1 : SWp P fn.ntmps A (fun z f h => z = .normal ∧ SWp P fn.ntmps A2 (fun z f h => (z = .ret ∧ endsV P fn R f h) ∨ (z = .normal ∧ M f h)) f h) (enterF args) h)
    (h3 : ∀ f h, M f h → SWp P fn.ntmps C (fun z f' h' => ((z = .ret ∨ z = .normal) ∧ KR (f x) (f y) f' h') ∨ (z = .panic ∧ KP (f x) (f y) f' h')) (f.put (some t) .top) h)
    (hR : ∀ vx vy f' h', KR vx vy f' h' → SDefR P g [vx, vy] h' (endsV P fn R f'))
    (hP : ∀ vx vy f' h', KP vx vy f' h' → SDefP P g [vx, vy] h' (endsV P fn R f')) : SCalls P fid args h R := by
  intro ρ B w0 w args' hw ha
  refine calls_of_wp_defers hfn hb ?_
  have fin : ∀ (ρ' : Ren) (f : AFrame) (h' : AHeap) (a' : Act) (w' : World), Ren.le { ρ with dfr := [] } { ρ' with dfr := [] } → WRel ρ' B w0 h' w' → FRel ρ' fn.ntmps f a' → endsV P fn R f h' →
      ∃ v, (results fn a'.tmps).run P w' = .ok v w' ∧ ((∃ (ρ' : Ren) (r : V) (r' : Value) (h' : AHeap), Ending.returned v = .returned r' ∧ VRel ρ' r r' ∧ WRel ρ' B w0 h' w' ∧ ρ.le ρ' ∧ R r h') ∨
        (∃ (ρ' : Ren) (ch : List PanicEntry) (h' : AHeap), Ending.returned v = .panicked ch ∧ OneChain ch ∧ WRel ρ' B w0 h' w' ∧ ρ.le ρ' ∧ False)) := by
    intro ρ' f h' a' w' hl hw' hf' hQ
    unfold endsV at hQ
    cases hra : resultsA P fn.results.toList f h' with
    | none => simp [hra] at hQ
    | some r =>
    simp only [hra] at hQ
    obtain ⟨r', q1, q2⟩ := run_resultsA hw' hf' hra
    exact ⟨r', q1, .inl ⟨{ ρ' with dfr := ρ.dfr }, r, r', h', rfl, q2.dfr ρ.dfr, hw'.dfr ρ.dfr, ⟨hl.ren, hl.frz, rfl⟩, hQ⟩⟩
  apply wp_seq
  refine wp_mono (h1 { ρ with dfr := [] } B w0 _ w (hw.dfr []) (enter_rel (ha.dfr []) hlen rfl)) ?_
  rintro e a1 w1 ⟨ρ1, z, f1, hh1, hx, hw1, hf1, hl1, rfl, h2⟩
  cases e <;> simp only [XR] at hx
  show (Code.seq A2 _).wp P _ a1 w1
  apply wp_seq
  refine wp_mono (h2 ρ1 B w0 a1 w1 hw1 hf1) ?_
  rintro e a2 w2 ⟨ρ2, z, f2, hh2, hx, hw2, hf2, hl2, hz⟩
  have l2 : Ren.le { ρ with dfr := [] } { ρ2 with dfr := [] } := ⟨(hl1.trans hl2).ren, (hl1.trans hl2).frz, rfl⟩
  rcases hz with ⟨rfl, hz⟩ | ⟨rfl, hz⟩
  · cases e <;> simp only [XR] at hx
    show Leaves P fn a2.tmps _ a2.defers .returning w2
    rw [show a2.defers = [] from (hf2.defers.trans hl2.dfr).trans hl1.dfr]
    exact fin ρ2 f2 hh2 a2 w2 l2 hw2 hf2 hz
  · cases e <;> simp only [XR] at hx
    show (Code.seq (.region rid _ false) C).wp P _ a2 w2
    apply wp_seq
    apply wp_region
    have hsz := hf2.size
    have hdf : a2.defers = [] := (hf2.defers.trans hl2.dfr).trans hl1.dfr
    have hS := h3 f2 hh2 hz
    obtain ⟨vx, hvx⟩ : ∃ v, v = a2.tmps.getD x undef := ⟨_, rfl⟩
    obtain ⟨vy, hvy⟩ : ∃ v, v = a2.tmps.getD y undef := ⟨_, rfl⟩
    have rx := hf2.tmps x
    have ry := hf2.tmps y
    rw [← hvx] at rx
    rw [← hvy] at ry
    have hput := hf2.put (v := .top) (v' := .func (.func g) #[] #[vx, vy]) (.top _) (some t) (by simpa [dstOk] using ht)
    let d : Deferred := { target := .fn (.func g) #[vx, vy], args := #[] }
    have hgo : C.wp P (bodyPostD P fn fun e w' => (∃ (ρ' : Ren) (r : V) (r' : Value) (h' : AHeap), e = .returned r' ∧ VRel ρ' r r' ∧ WRel ρ' B w0 h' w' ∧ ρ.le ρ' ∧ R r h') ∨
        (∃ (ρ' : Ren) (ch : List PanicEntry) (h' : AHeap), e = .panicked ch ∧ OneChain ch ∧ WRel ρ' B w0 h' w' ∧ ρ.le ρ' ∧ False)) { tmps := (a2.put (some t) (.func (.func g) #[] #[vx, vy])).tmps, defers := [d] } w2 := by
      have hF : FRel { ρ2 with dfr := [d] } fn.ntmps (f2.put (some t) .top) { tmps := (a2.put (some t) (.func (.func g) #[] #[vx, vy])).tmps, defers := [d] } :=
        ⟨fun k => (hput.tmps k).dfr [d], hput.size, rfl⟩
      refine wp_mono (hS { ρ2 with dfr := [d] } B w0 _ w2 (hw2.dfr [d]) hF) ?_
      rintro e a3 w3 ⟨ρ3, z, f3, hh3, hx, hw3, hf3, hl3, hz3⟩
      have hd3 : a3.defers = [d] := hf3.defers.trans hl3.dfr
      have hl3' : ρ2.le { ρ3 with dfr := ρ2.dfr } := hl3.dfr_back
      have ra : LRel { ρ3 with dfr := ρ2.dfr } [f2 x, f2 y] #[vx, vy].toList := LRel.cons (rx.mono hl3') (LRel.cons (ry.mono hl3') (LRel.nil _))
      have l3 : Ren.le { ρ with dfr := [] } { ρ3 with dfr := [] } := ⟨fun i q hq => hl3.ren i q (l2.ren i q hq), fun i q hq => hl3.frz i q (l2.frz i q hq), rfl⟩
      have hinv : (invoke d.target d.args).run P w3 = .ok (.enter g #[vx, vy]) w3 := by
        unfold callable at hcal
        cases hg : P.funcs[g]? with
        | none => simp [hg] at hcal
        | some fg =>
          simp only [hg, Bool.and_eq_true, bne_iff_ne, ne_eq] at hcal
          simp [d, invoke, callFunc, hg, hcal.1, hcal.2, Option.isSome_iff_ne_none.1 hcal.1]
      rcases hz3 with ⟨hz3, hk⟩ | ⟨rfl, hk⟩
      · have fin3 : Leaves P fn a3.tmps (fun e w' => (∃ (ρ' : Ren) (r : V) (r' : Value) (h' : AHeap), e = .returned r' ∧ VRel ρ' r r' ∧ WRel ρ' B w0 h' w' ∧ ρ.le ρ' ∧ R r h') ∨
            (∃ (ρ' : Ren) (ch : List PanicEntry) (h' : AHeap), e = .panicked ch ∧ OneChain ch ∧ WRel ρ' B w0 h' w' ∧ ρ.le ρ' ∧ False)) a3.defers .returning w3 := by
          rw [hd3]
          refine ⟨by simp, _, _, g, #[vx, vy], rfl, hinv, ?_⟩
          refine ((hR _ _ _ _ hk) { ρ3 with dfr := ρ2.dfr } B w0 w3 #[vx, vy] (hw3.dfr ρ2.dfr) ra).mono ?_
          rintro e u' w4 ⟨rfl, rfl, ρ4, h4, hw4, hl4, he⟩
          have hF4 : FRel { ρ4 with dfr := [d] } fn.ntmps f3 a3 := ⟨fun k => VRel.mono0 (ρ := ρ3) (ρ' := { ρ4 with dfr := [d] }) (fun i q hq => hl4.ren i q hq) (fun i q hq => hl4.frz i q hq) (hf3.tmps k), hf3.size, hd3⟩
          exact fin { ρ4 with dfr := [d] } f3 h4 a3 w4 ⟨fun i q hq => hl4.ren i q (l3.ren i q hq), fun i q hq => hl4.frz i q (l3.frz i q hq), rfl⟩ (hw4.dfr [d]) hF4 he
        rcases hz3 with rfl | rfl <;> cases e <;> simp only [XR] at hx <;> exact fin3
      · cases e with
        | panic ch =>
          obtain ⟨tt, vv, rfl⟩ := hx
          show Leaves P fn a3.tmps _ a3.defers (.panicking _) w3
          rw [hd3]
          refine ⟨by simp, _, _, g, #[vx, vy], rfl, hinv, ?_⟩
          refine ((hP _ _ _ _ hk) { ρ3 with dfr := ρ2.dfr } B w0 w3 #[vx, vy] tt vv (hw3.dfr ρ2.dfr) ra).mono ?_
          rintro e u' w4 ⟨rfl, rfl, ρ4, h4, hw4, hl4, he⟩
          have hF4 : FRel { ρ4 with dfr := [d] } fn.ntmps f3 a3 := ⟨fun k => VRel.mono0 (ρ := ρ3) (ρ' := { ρ4 with dfr := [d] }) (fun i q hq => hl4.ren i q hq) (fun i q hq => hl4.frz i q hq) (hf3.tmps k), hf3.size, hd3⟩
          show Leaves P fn a3.tmps _ [] (settle _) w4
          simp only [settle, List.dropWhile_nil]
          exact fin { ρ4 with dfr := [d] } f3 h4 a3 w4 ⟨fun i q hq => hl4.ren i q (l3.ren i q hq), fun i q hq => hl4.frz i q (l3.frz i q hq), rfl⟩ (hw4.dfr [d]) hF4 he
        | _ => simp only [XR] at hx
    have e1 : a2.eval (.tmp x) = vx := by simp [Act.eval, hvx]
    have e2 : a2.eval (.tmp y) = vy := by simp [Act.eval, hvy]
    simp [wpOps, go_sem]
    refine .inl (.inl ?_)
    rw [if_pos (show t < a2.tmps.size from hsz.symm ▸ ht)]
    subst hvx hvy
    simpa [Act.put, hdf, d, go_sem, Oper.upon] using hgo
end Go.Proofs.YtfcjehlhoebmnaaGreatDoor.Ab

namespace Go.Proofs.YtfcjehlhoebmnaaGreatDoor.Ab
set_option linter.unusedVariables false
/-! ### Blocks laid one behind the other -/
section
variable {h : AHeap} {a b c d o : AObj}
theorem get_push3a : (((h.push a).push b).push c).get h.n = a := by simp [get_push, push_n]; intro hh; omega
theorem get_push3b : (((h.push a).push b).push c).get (h.n + 1) = b := by simp [get_push, push_n]
theorem get_push3c : (((h.push a).push b).push c).get (h.n + 1 + 1) = c := by simp [get_push, push_n]
theorem get_push4a : ((((h.push a).push b).push c).push d).get h.n = a := by
  simp only [get_push, push_n]
  rw [if_neg (by omega), if_neg (by omega), if_neg (by omega), if_pos trivial]
theorem get_push4b : ((((h.push a).push b).push c).push d).get (h.n + 1) = b := by
  simp only [get_push, push_n]
  rw [if_neg (by omega), if_neg (by omega), if_pos trivial]
theorem get_push4c : ((((h.push a).push b).push c).push d).get (h.n + 1 + 1) = c := by
  simp only [get_push, push_n]
  rw [if_neg (by omega), if_pos trivial]
theorem get_push4d : ((((h.push a).push b).push c).push d).get (h.n + 1 + 1 + 1) = d := by
  simp only [get_push, push_n]
  rw [if_pos trivial]
theorem ext_get {h1 h2 : AHeap} (hn : h1.n = h2.n) (hg : ∀ j, h1.get j = h2.get j) (hl : h1.glob = h2.glob) : h1 = h2 := by
  cases h1; cases h2
  simp only [AHeap.mk.injEq]
  exact ⟨hn, funext hg, hl⟩
theorem set_push_lt {i : Nat} (hi : i ≠ h.n) : (h.push a).set i o = (h.set i o).push a := ext_get rfl (fun j => by
  simp only [get_set, get_push, set_n]
  by_cases hj : j = i
  · subst hj; rw [if_pos rfl, if_neg hi, if_pos rfl]
  · rw [if_neg hj, if_neg hj]) rfl
theorem set_push3a : (((h.push a).push b).push c).set h.n o = ((h.push o).push b).push c := by
  rw [set_push_lt (by simp only [push_n]; omega), set_push_lt (by simp only [push_n]; omega), set_push]
theorem set_push3b : (((h.push a).push b).push c).set (h.n + 1) o = ((h.push a).push o).push c := by
  rw [set_push_lt (by simp only [push_n]; omega), show h.n + 1 = (h.push a).n from rfl, set_push]
theorem set_push3c : (((h.push a).push b).push c).set (h.n + 1 + 1) o = ((h.push a).push b).push o := by
  rw [show h.n + 1 + 1 = ((h.push a).push b).n from rfl, set_push]
theorem set_push4a : ((((h.push a).push b).push c).push d).set h.n o = (((h.push o).push b).push c).push d := by
  rw [set_push_lt (by simp only [push_n]; omega), set_push3a]
theorem set_push4b : ((((h.push a).push b).push c).push d).set (h.n + 1) o = (((h.push a).push o).push c).push d := by
  rw [set_push_lt (by simp only [push_n]; omega), set_push3b]
theorem set_push4c : ((((h.push a).push b).push c).push d).set (h.n + 1 + 1) o = (((h.push a).push b).push o).push d := by
  rw [set_push_lt (by simp only [push_n]; omega), set_push3c]
theorem set_push4d : ((((h.push a).push b).push c).push d).set (h.n + 1 + 1 + 1) o = (((h.push a).push b).push c).push o := by
  rw [show h.n + 1 + 1 + 1 = (((h.push a).push b).push c).n from rfl, set_push]
end
end Go.Proofs.YtfcjehlhoebmnaaGreatDoor.Ab

namespace Go.Proofs.YtfcjehlhoebmnaaGreatDoor.Ab
open Go Go.RowKit
set_option linter.unusedVariables false
/-! ### Calls from a world that holds package-level variables -/
def globHeap (g : Nat → Option (List V)) : AHeap := { n := 0, get := fun _ => .dead, glob := g }
def GlobOk (g : Nat → Option (List V)) (w : World) : Prop := ∀ k cs, g k = some cs → ∃ arr e fz, w.heap[k]? = some (.cells arr e fz) ∧ ARel (entryRen w) cs arr
theorem entry_relG {g : Nat → Option (List V)} {w : World} (hg : GlobOk g w) : WRel (entryRen w) w.heap.size w (globHeap g) w := by
  have h0 := entry_rel w
  refine ⟨⟨h0.heap.dom, fun i j b c c' h => by simp [globHeap] at h, fun _ => trivial, h0.heap.frz, fun k cs hk => ?_, Nat.le_refl _⟩, Bel.refl _ _⟩
  obtain ⟨arr, e, fz, hw, hr⟩ := hg k cs hk
  exact ⟨arr, entry_frz hw, hr⟩
theorem SCalls.callsG {P : Program} {fid : FuncId} {args : List V} {v : V} {a : Value} {g : Nat → Option (List V)} (hc : SCalls P fid args (globHeap g) fun r _ => r = v) (hv : flatV v = some a) {w : World} (hg : GlobOk g w)
    {args' : Array Value} (ha : LRel (entryRen w) args args'.toList) : Calls P fid args' w fun e w' => e = .returned a ∧ Below w.heap.size w w' :=
  (hc (entryRen w) w.heap.size w w args' (entry_relG hg) ha).mono fun e w' hh => by
    rcases hh with ⟨ρ', r, r', h', he, hrr, hw, _, hR⟩ | ⟨_, _, _, _, _, _, _, hE⟩
    · subst hR
      rw [flatV_eq hrr hv] at he
      exact ⟨he, hw.below.below⟩
    · exact hE.elim
/-- A table of integers. -/
theorem tab_glob {P : Program} {w : World} {name : String} {k : IntKind} {zs : List Int} {g : Nat} (hg : P.globalNamed name = some g) (h : Lib.TabIs P w name k zs) : ∃ arr e fz, w.heap[g]? = some (.cells arr e fz) ∧ ARel (entryRen w) (zs.map (V.int k)) arr := by
  unfold Lib.TabIs World.var? at h
  rw [hg] at h
  simp only [Option.bind_some] at h
  split at h
  · rename_i cs e fz hq
    obtain rfl := Option.some.inj h
    refine ⟨_, e, fz, hq, by simp, fun i v v' h1 h2 => ?_⟩
    simp only [List.getElem?_map, Option.map_eq_some_iff, List.getElem?_toArray] at h1 h2
    obtain ⟨n, hn, rfl⟩ := h1
    obtain ⟨m, hm, rfl⟩ := h2
    rw [hn] at hm
    cases hm
    exact .int k n
  · cases h
end Go.Proofs.YtfcjehlhoebmnaaGreatDoor.Ab

namespace Go.Proofs.YtfcjehlhoebmnaaGreatDoor.Ab
open Go Go.RowKit
set_option linter.unusedVariables false
section
variable {H : Type} {enc : TypeId × Value → H} {P : Program} {w : World} {base : Nat} {spare : Nat → Bool} {held : Bool} {Q : List V → Prop} {T0 : TypeId}
theorem arg_aggQ {n n' : Nat} {fs : Array Field} {s1 : ShQ} {t : TypeId} {s : ShQ} {xs : Array Value} {d : DataW H} {ps : List MemPlace} (hu : P.underlying T0 = some (.struct fs)) (hs1 : shFieldsQ P (shapeOfQ P T0 n) 0 fs.toList = some s1) (hw : s1.width = P.cellsOf T0) (hQ : ∀ l, s1.fitsQ Q l → Q l)
    (hs : shapeOfQ P T0 n' t = some s) (hB : ∀ n ∈ d.weights P t, n ≤ reachBytes) (h : DataW.Trod enc P w base spare held t (.agg xs) d ps) : ∃ l : List V, s.fitsQ Q l ∧ VRel (entryRen w) (.agg l) (.agg xs) := by
  obtain ⟨fuel, hf⟩ := h
  obtain ⟨l, h1, h2⟩ := reads_ext (Q := Q) hu hs1 hw hQ hs hf hB
  exact ⟨l, h1, h2.arr'.agg⟩
theorem arg_sliceQ {n n' : Nat} {fs : Array Field} {s1 : ShQ} {t e : TypeId} {s : ShQ} {a : Option Addr} {len cap : Nat} {d : DataW H} {ps : List MemPlace} (hut : P.underlying t = some (.slice e)) (hu : P.underlying T0 = some (.struct fs)) (hs1 : shFieldsQ P (shapeOfQ P T0 n) 0 fs.toList = some s1) (hw1 : s1.width = P.cellsOf T0) (hQ : ∀ l, s1.fitsQ Q l → Q l)
    (hs : shapeOfQ P T0 n' e = some s) (hw : s.width = P.cellsOf e ∧ 0 < s.width ∧ 1 ≤ P.bytesOf e) (hB : ∀ n ∈ d.weights P t, n ≤ reachBytes) (h : DataW.Trod enc P w base spare held t (.slice a len cap) d ps) :
    ∃ es : List (List V), (∀ x ∈ es, s.fitsQ Q x) ∧ VRel (entryRen w) (.imm es.length es.flatten) (.slice a len cap) ∧ es.length < 2 ^ 47 := by
  obtain ⟨fuel, hf⟩ := h
  have hne : t ≠ T0 := fun hh => by rw [hh, hu] at hut; cases hut
  obtain ⟨l, ⟨es, rfl, hn, hes⟩, hr⟩ := reads_ext (Q := Q) (n' := n' + 1) (s := .sl s) hu hs1 hw1 hQ (by simp only [shapeOfQ, if_neg hne, hut, hs, if_pos hw]) hf hB
  exact ⟨es, hes, hr.2 0 _ _ rfl rfl, hn⟩
end
end Go.Proofs.YtfcjehlhoebmnaaGreatDoor.Ab

namespace Go.Proofs.YtfcjehlhoebmnaaGreatDoor.Ab
open Go Go.RowKit
set_option linter.unusedVariables false
section
variable {P : Program} {t : TypeId}
/-- How an array is indexed: its length, its elements' cells, and whether they are rows. -/
def arIx (P : Program) (t : TypeId) : Option (Nat × Nat × Bool) := match P.underlying t with
  | some (.array n e) => match rowT P e, sizeT P e with
    | some r, some sz => some (n, sz, r)
    | _, _ => none
  | _ => none
def ixA (q : Option (Nat × Nat × Bool)) (cs : List V) (i : Int) : Option V := match q with
  | some (n, sz, r) => if 0 ≤ i ∧ i < n then (if r then some (.agg ((cs.drop (i.toNat * sz)).take sz)) else cs[i.toNat * sz]?) else none
  | none => none
theorem aIndex_arr {q : Nat × Nat × Bool} (h : arIx P t = some q) {cs : List V} {kk : IntKind} {i : Int} : aIndex P t (.agg cs) (.int kk i) = ixA (some q) cs i := by
  unfold arIx at h
  cases hu : P.underlying t with
  | none => simp [hu] at h
  | some d =>
    cases d <;> simp only [hu] at h <;> try (exact absurd h (by simp))
    rename_i n e
    unfold aIndex aPart ixA
    simp only [hu]
    cases hr : rowT P e with
    | none => simp [hr] at h
    | some r =>
      cases hz : sizeT P e with
      | none => simp [hr, hz] at h
      | some sz =>
        simp only [hr, hz, Option.some.injEq] at h
        subst h
        simp only []
        cases r <;> simp
theorem aIndex_one {n : Nat} (h : arIx P t = some (n, 1, false)) {cs : List V} {kk : IntKind} {i : Nat} (hi : i < n) : aIndex P t (.agg cs) (.int kk (i : Int)) = cs[i]? := by
  rw [aIndex_arr h]
  simp only [ixA, Int.toNat_natCast, Nat.mul_one]
  rw [if_pos ⟨by omega, by omega⟩]
  simp
end
end Go.Proofs.YtfcjehlhoebmnaaGreatDoor.Ab

namespace Go.Proofs.YtfcjehlhoebmnaaGreatDoor.Ab
open Go Go.RowKit
set_option linter.unusedVariables false
/-! ### Values told in a weaker way -/
def WkV (v v2 : V) : Prop := ∀ ρ v', VRel ρ v v' → VRel ρ v2 v'
def WkL (l l2 : List V) : Prop := ∀ ρ l', LRel ρ l l' → LRel ρ l2 l'
theorem WkV.refl (v : V) : WkV v v := fun _ _ h => h
theorem WkL.refl (l : List V) : WkL l l := fun _ _ h => h
theorem WkL.cons {v v2 : V} {l l2 : List V} (a : WkV v v2) (b : WkL l l2) : WkL (v :: l) (v2 :: l2) := fun ρ l' h => by
  obtain ⟨v', t', rfl, h1, h2⟩ := h.uncons
  exact LRel.cons (a ρ v' h1) (b ρ t' h2)
theorem WkL.append {a a2 b b2 : List V} (ha : WkL a a2) (hl : a.length = a2.length) (hb : WkL b b2) : WkL (a ++ b) (a2 ++ b2) := fun ρ l' h => by
  have h1 := h.take a.length
  have h2 := h.drop a.length
  rw [List.take_left] at h1
  rw [List.drop_left] at h2
  have := (ha ρ _ h1).append (hb ρ _ h2)
  rwa [List.take_append_drop] at this
theorem WkV.snil : WkV .snil (.imm 0 []) := fun ρ v' h => by cases h; exact .immZ none 0 (by simp)
theorem WkV.imm {n : Nat} {cs cs2 : List V} (h : WkL cs cs2) (hl : cs.length = cs2.length) : WkV (.imm n cs) (.imm n cs2) := fun ρ v' hv => by
  cases hv with
  | imm o n cap hb hn ho hx =>
    rename_i b arr
    have hL : LRel ρ cs ((arr.toList.drop o).take cs.length) := by
      refine ⟨by simp; omega, fun k v v' h1 h2 => ?_⟩
      rw [List.getElem?_take] at h2
      split at h2
      · rw [List.getElem?_drop] at h2
        exact hx k v v' h1 (by simpa using h2)
      · cases h2
    have h2 := h ρ _ hL
    refine .imm o n cap hb hn (by omega) fun k v v' h3 h4 => ?_
    have hk : k < cs.length := by rw [hl]; exact (List.getElem?_eq_some_iff.1 h3).1
    refine h2.2 k v v' h3 ?_
    rw [List.getElem?_take, if_pos hk, List.getElem?_drop]
    simpa using h4
  | immZ a c ha =>
    have : cs2 = [] := List.eq_nil_of_length_eq_zero (by simpa using hl.symm)
    subst this
    exact .immZ a c ha
theorem WkV.cast {v v2 : V} (a : WkV v v2) (h : AHeap) : Cast v h v2 h := fun ρ B w0 w r' hw hv => ⟨ρ, Ren.le.refl ρ, hw, a ρ r' hv⟩
theorem WkV.agg {l l2 : List V} (h : WkL l l2) : WkV (.agg l) (.agg l2) := fun ρ v' hv => by
  cases hv with
  | agg hs hx => exact (h ρ _ (ARel.list ⟨hs, hx⟩)).arr'.agg
theorem WkV.tuple {l l2 : List V} (h : WkL l l2) : WkV (.tuple l) (.tuple l2) := fun ρ v' hv => by
  cases hv with
  | tuple hs hx => exact (h ρ _ (ARel.list ⟨hs, hx⟩)).arr'.tuple
end Go.Proofs.YtfcjehlhoebmnaaGreatDoor.Ab

namespace Go.Proofs.YtfcjehlhoebmnaaGreatDoor.Ab
open Go Go.RowKit
set_option linter.unusedVariables false
section
variable {P : Program} {t : TypeId} {T : SlT}
/-- The first n elements of an own slice, in the same room. -/
theorem own_to {k : IntKind} (hT : slT P t = some T) (hpos : 0 < T.sz) {h : AHeap} {v : V} {cs : List V} (ho : Own h T.e T.sz v cs) {n : Nat} (hn : n * T.sz ≤ cs.length) :
    ∃ v2, aSlice P t v none (some (.int k (n : Int))) none = some v2 ∧ Own h T.e T.sz v2 (cs.take (n * T.sz)) ∧ (idOf v2 = idOf v) := by
  obtain ⟨he, hz, hsz, hbs, hzs, hu2⟩ := slT_eq hT
  rcases ho with ⟨hv, rfl⟩ | ⟨i, len, cap, c, ex, rfl, hi, hg, hlen, htake, hcap⟩
  · have h0 : n = 0 := by
      have : n * T.sz = 0 := by simpa using hn
      rcases Nat.mul_eq_zero.1 this with h | h <;> omega
    subst h0
    rcases hv with rfl | rfl
    · exact ⟨.snil, by simp [aSlice, hu2, hsz, loOf, hiOf, natOf], .inl ⟨.inl rfl, by simp⟩, rfl⟩
    · exact ⟨.z0, by simp [aSlice, hu2, hsz, loOf, hiOf, natOf], .inl ⟨.inr rfl, by simp⟩, rfl⟩
  · have hnl : n ≤ len := by
      rw [hlen] at hn
      exact Nat.le_of_mul_le_mul_right hn hpos
    refine ⟨.sl i 0 n cap, ?_, .inr ⟨i, n, cap, c, ex, rfl, hi, hg, ?_, ?_, ?_⟩, rfl⟩
    · simp only [aSlice, hu2, hsz, loOf, hiOf_int]
      rw [show hiOf cap none = some cap from rfl]
      simp only [Option.isSome_none, Bool.false_eq_true, false_and, if_false]
      unfold cutSlice
      rcases hcap with ⟨h1, h2, h3⟩ | ⟨h1, h2⟩
      · rw [if_pos h1, if_pos ⟨by omega, by omega, Nat.le_refl _⟩]
        simp
      · rw [if_neg (by omega), if_pos ⟨rfl, by omega, hnl⟩]
        simp
    · rw [List.length_take, hlen]; exact Nat.min_eq_left (Nat.mul_le_mul_right _ hnl)
    · rw [← htake, List.take_take]
      congr 1
      have := Nat.mul_le_mul_right T.sz hnl
      omega
    · rcases hcap with ⟨h1, h2, h3⟩ | ⟨h1, h2⟩
      · exact .inl ⟨h1, h2, by omega⟩
      · exact .inr ⟨h1, h2⟩
theorem own_src {h : AHeap} {e : TypeId} {sz : Nat} {v : V} {cs : List V} (hk : kindT P t = some 1) (ho : Own h e sz v cs) {n : Nat} (hn : cs.length = n * sz) (hpos : 0 < sz) (hone : cs.all (·.one) = true) : aSrc P sz t v h = some (n, cs) := by
  obtain ⟨d, hu, hd⟩ := kindT_eq hk
  cases d <;> simp [descKind] at hd
  rcases ho with ⟨hv, rfl⟩ | ⟨i, len, cap, c, ex, rfl, hi, hg, hlen, htake, hcap⟩
  · have h0 : n = 0 := by
      have : n * sz = 0 := by simpa using hn.symm
      rcases Nat.mul_eq_zero.1 this with h | h <;> omega
    subst h0
    rcases hv with rfl | rfl <;> simp only [aSrc, hu]
  · have h1 : len = n := Nat.eq_of_mul_eq_mul_right hpos (hlen.symm.trans hn)
    subst h1
    have hcl : len * sz ≤ c.length := by
      have := congrArg List.length htake
      rw [List.length_take, hlen] at this
      omega
    simp only [aSrc, hu, hg, List.drop_zero, Nat.zero_add]
    rw [htake, if_pos ⟨hcl, hone⟩]
end
end Go.Proofs.YtfcjehlhoebmnaaGreatDoor.Ab

namespace Go.Proofs.YtfcjehlhoebmnaaGreatDoor.Ab
open Go Go.RowKit
set_option linter.unusedVariables false
section
variable {H : Type} {enc : TypeId × Value → H} {P : Program} {w : World} {base : Nat} {spare : Nat → Bool} {held : Bool}
theorem okWide_arr {r : Reach} {t e : TypeId} {n : Nat} {v : Value} {W : World} (ht : P.underlying t = some (.array n e)) (h : Value.okWide P W r base t v) : ∃ cs, v = .agg cs ∧ cs.size = P.cellsOf t := by
  simp only [Value.okWide, ht] at h
  obtain ⟨cs, h1, h2, _⟩ := h
  exact ⟨cs, h1, h2⟩
/-- An array of integers that came in. -/
theorem arg_arrI {n : Nat} {t e : TypeId} {k : IntKind} {xs : Array Value} {d : DataW H} {ps : List MemPlace} (hu : P.underlying t = some (.array n e)) (he : P.underlying e = some (.int k)) (h1 : P.cellsOf e = 1) (h2 : P.cellsOf t = n) (h : DataW.Trod enc P w base spare held t (.agg xs) d ps) :
    ∃ l : List Int, l.length = n ∧ (∀ a ∈ l, (Lit.int k a).wf = true) ∧ VRel (entryRen w) (.agg (l.map (V.int k))) (.agg xs) := by
  obtain ⟨fuel, hf⟩ := h
  obtain ⟨ys, m, _, _, hl, hy, hx⟩ := DataW.trod_array hu hf
  have hxs : (Value.agg xs).cells.toList = xs.toList := rfl
  rw [hxs] at hl hx
  have each : ∀ i, i < n → ∃ a : Int, (Lit.int k a).wf = true ∧ xs.toList[i]? = some (.int k a) := fun i hi => by
    have q := hx i hi
    rw [h1, Nat.mul_one, List.getElem?_eq_getElem (show i < ys.length by omega)] at q
    obtain ⟨a, e1, _, e3⟩ := DataW.trod_int he q
    refine ⟨a, e3, ?_⟩
    have : ((xs.toList.drop i).take 1)[0]? = some (Value.int k a) := by rw [e1]; rfl
    rw [List.getElem?_take] at this
    simpa using this
  obtain ⟨l, hl1, hl2⟩ := pick_all n each
  refine ⟨l, hl1, fun a ha => by obtain ⟨i, hi⟩ := List.getElem?_of_mem ha; exact (hl2 i a hi).1, ?_⟩
  refine .agg (by rw [List.length_map, hl1]; simpa [h2] using hl.symm) fun i v v' hv hv' => ?_
  rw [List.getElem?_map] at hv
  cases hi : l[i]? with
  | none => rw [hi] at hv; cases hv
  | some a =>
    rw [hi] at hv
    obtain rfl := Option.some.inj hv
    have := (hl2 i a hi).2
    rw [Array.getElem?_toList, hv'] at this
    obtain rfl := Option.some.inj this
    exact .int k a
end
end Go.Proofs.YtfcjehlhoebmnaaGreatDoor.Ab

namespace Go.Proofs.YtfcjehlhoebmnaaGreatDoor.Ab
open Go Go.RowKit
set_option linter.unusedVariables false
/-! ### What an idle operation reads, along a plan whose effects touch something -/
section
variable {M : Nat → Prop} {ev : Operand → V} {t s : TypeId} {x y z : Operand} {k : Nat}
theorem keepS1 {h : AHeap} {a a' : AObj} : Keep (h.push a) (h.push a') (fun x => x = h.n) = True := eq_true (by have := Keep.set (h.push a) h.n a'; rw [set_push] at this; exact this)
theorem keepS2 {h : AHeap} {a b a' : AObj} : Keep ((h.push a).push b) ((h.push a').push b) (fun x => x = h.n) = True := eq_true (by have := Keep.set ((h.push a).push b) h.n a'; rw [set_push2'] at this; exact this)
theorem keepS3 {h : AHeap} {a b c a' : AObj} : Keep (((h.push a).push b).push c) (((h.push a').push b).push c) (fun x => x = h.n) = True := eq_true (by have := Keep.set (((h.push a).push b).push c) h.n a'; rw [set_push3a] at this; exact this)
theorem keepS4 {h : AHeap} {a b c d a' : AObj} : Keep ((((h.push a).push b).push c).push d) ((((h.push a').push b).push c).push d) (fun x => x = h.n) = True := eq_true (by have := Keep.set ((((h.push a).push b).push c).push d) h.n a'; rw [set_push4a] at this; exact this)
theorem keepS {h : AHeap} {i : Nat} {o : AObj} : Keep h (h.set i o) (fun x => x = i) = True := eq_true (Keep.set h i o)
theorem nne2 {n : Nat} : (n + 1 + 1 = n) = False := eq_false (by omega)
theorem nne3 {n : Nat} : (n + 1 + 1 + 1 = n) = False := eq_false (by omega)
theorem nne4 {n : Nat} : (n + 1 + 1 + 1 + 1 = n) = False := eq_false (by omega)
theorem nne1' {n : Nat} : (n = n + 1) = False := eq_false (by omega)
theorem nne2' {n : Nat} : (n = n + 1 + 1) = False := eq_false (by omega)
theorem nne3' {n : Nat} : (n = n + 1 + 1 + 1) = False := eq_false (by omega)
def mOkV (M : Nat → Prop) (v : V) : Prop := mOk M (ridV v)
theorem mOk_move : mOk M (ridOp ev (.move x)) = True := eq_true (by intro i hi; cases hi)
theorem mOk_assign : mOk M (ridOp ev (.assign x)) = True := eq_true (by intro i hi; cases hi)
theorem mOk_pick : mOk M (ridOp ev (.pick x y z)) = True := eq_true (by intro i hi; cases hi)
theorem mOk_build {ps : Array (Nat × Operand)} : mOk M (ridOp ev (.build t ps)) = True := eq_true (by intro i hi; cases hi)
theorem mOk_nilCheck : mOk M (ridOp ev (.nilCheck x)) = True := eq_true (by intro i hi; cases hi)
theorem mOk_binOp {op : BinOp} : mOk M (ridOp ev (.binOp op t x y s)) = True := eq_true (by intro i hi; cases hi)
theorem mOk_unOp {op : UnOp} : mOk M (ridOp ev (.unOp op t x)) = True := eq_true (by intro i hi; cases hi)
theorem mOk_fieldAddr : mOk M (ridOp ev (.fieldAddr t x k)) = True := eq_true (by intro i hi; cases hi)
theorem mOk_field : mOk M (ridOp ev (.field t x k)) = True := eq_true (by intro i hi; cases hi)
theorem mOk_indexAddr : mOk M (ridOp ev (.indexAddr t x y)) = True := eq_true (by intro i hi; cases hi)
theorem mOk_index : mOk M (ridOp ev (.index t x y)) = True := eq_true (by intro i hi; cases hi)
theorem mOk_slice {a b c : Option Operand} : mOk M (ridOp ev (.slice t x a b c)) = True := eq_true (by intro i hi; cases hi)
theorem mOk_extract : mOk M (ridOp ev (.extract x k)) = True := eq_true (by intro i hi; cases hi)
theorem mOk_makeInterface : mOk M (ridOp ev (.makeInterface t x)) = True := eq_true (by intro i hi; cases hi)
theorem mOk_makeFunc {fn : Fn} {xs ys : Array Operand} : mOk M (ridOp ev (.makeFunc fn xs ys)) = True := eq_true (by intro i hi; cases hi)
theorem mOk_load : mOk M (ridOp ev (.load t x)) = mOkV M (ev x) := rfl
theorem mOk_convert : mOk M (ridOp ev (.convert s t x)) = mOkV M (ev x) := rfl
theorem mOk_len {ts : Array TypeId} : mOk M (ridOp ev (.call ⟨.builtin .len, #[x], ts⟩)) = mOkV M (ev x) := rfl
theorem mOkV_ptr {i o : Nat} : mOkV M (.ptr i o) = ¬ M i := propext ⟨fun h => h i rfl, fun h j hj => by cases hj; exact h⟩
theorem mOkV_sl {i o n c : Nat} : mOkV M (.sl i o n c) = ¬ M i := propext ⟨fun h => h i rfl, fun h j hj => by cases hj; exact h⟩
theorem mOkV_map {i : Nat} : mOkV M (.map i) = ¬ M i := propext ⟨fun h => h i rfl, fun h j hj => by cases hj; exact h⟩
theorem mOkV_at {cs : List V} : mOkV M (.at cs) = True := eq_true (by intro i hi; cases hi)
theorem mOkV_imm {n : Nat} {cs : List V} : mOkV M (.imm n cs) = True := eq_true (by intro i hi; cases hi)
theorem mOkV_snil : mOkV M .snil = True := eq_true (by intro i hi; cases hi)
theorem mOkV_string {s : ByteArray} : mOkV M (.string s) = True := eq_true (by intro i hi; cases hi)
theorem mOkV_int {k : IntKind} {n : Int} : mOkV M (.int k n) = True := eq_true (by intro i hi; cases hi)
end
end Go.Proofs.YtfcjehlhoebmnaaGreatDoor.Ab

namespace Go.Proofs.YtfcjehlhoebmnaaGreatDoor.Ab
open Go Go.RowKit
set_option linter.unusedVariables false
section
variable {P : Program} {d : Option Tmp} {K : Kt} {f : AFrame} {h : AHeap}
/-- A call that leaves the memory as it was; what the frame holds behind it is told anew. -/
theorem callI_pureG (R : AFrame → Prop) {fid : FuncId} {args : List V} {v : V} (hc : callable P fid = true) (hs : Pure P fid args h v) (hR : R (f.put d v)) (hk : ∀ f', R f' → @goI K f' h) : @callI P fid args h d K f :=
  callI_pure hc hs (hk _ hR)
theorem callI_ofG (R : AFrame → Prop) {fid : FuncId} {args : List V} {Q : V → AHeap → Prop} (hc : callable P fid = true) (hs : SCalls P fid args h Q) (hR : ∀ r, R (f.put d r)) (hk : ∀ r h' f', Q r h' → R f' → @goI K f' h') : @callI P fid args h d K f :=
  callI_of hc hs fun r h' q => hk r h' _ q (hR r)
end
end Go.Proofs.YtfcjehlhoebmnaaGreatDoor.Ab

namespace Go.Proofs.YtfcjehlhoebmnaaGreatDoor.Ab
open Go Go.RowKit
set_option linter.unusedVariables false
section
variable {P : Program} {t : TypeId} {T : SlT}
/-- An own slice with its room known. -/
def OwnK (h : AHeap) (e : TypeId) (sz : Nat) (i len cap : Nat) (c : List V) (ex : Option Nat) (cs : List V) : Prop :=
  i < h.n ∧ h.get i = .cells c e ex ∧ cs.length = len * sz ∧ c.take (len * sz) = cs ∧ cap < unk ∧ cap * sz ≤ c.length ∧ len ≤ cap
theorem OwnK.own {h : AHeap} {e : TypeId} {sz i len cap : Nat} {c cs : List V} {ex : Option Nat} (o : OwnK h e sz i len cap c ex cs) : Own h e sz (.sl i 0 len cap) cs :=
  .inr ⟨i, len, cap, c, ex, rfl, o.1, o.2.1, o.2.2.1, o.2.2.2.1, .inl ⟨o.2.2.2.2.1, o.2.2.2.2.2.1, o.2.2.2.2.2.2⟩⟩
/-- A slice whose room isn't known: it has some room all the same. -/
theorem capK_rel {h : AHeap} {i len sz : Nat} {c : List V} {e : TypeId} (hg : h.get i = .cells c e (some sz)) {ρ : Ren} {B : Nat} {w0 w : World} (R : WRel ρ B w0 h w) {r' : Value} (hr : VRel ρ (.sl i 0 len unk) r') :
    ∃ C, len ≤ C ∧ C < 2 ^ 63 ∧ c.length ≤ C * sz ∧ WRel ρ B w0 (h.set i (.cells (c ++ List.replicate (C * sz - c.length) .top) e none)) w ∧ VRel ρ (.sl i 0 len C) r' := by
  obtain ⟨b, cp, hi, hl, rfl⟩ := hr.sl_inv
  have oi := R.heap.obj i
  rw [hg] at oi
  obtain ⟨b', cp', arr, hi', hf, hB, hw, hc, hrel, hsz, hcp⟩ := oi
  rw [hi] at hi'
  cases hi'
  have hcu : capOf cp unk = cp := by simp [capOf, unk]
  rw [hcu] at hl ⊢
  have hcl : c.length ≤ cp * sz := by omega
  refine ⟨cp, hl, hcp, hcl, R.setO hi (by rw [hg]; simp) (fun k _ => rfl) (Nat.le_refl _) (Bel.refl _ _) ?_, ?_⟩
  · have hlen : (c ++ List.replicate (cp * sz - c.length) V.top).length = arr.size := by simp; omega
    refine ⟨b, cp, arr, hi, hf, hB, hw, by omega, ?_, by rw [hlen]; rfl⟩
    rw [hlen, show arr.toList.take arr.size = arr.toList from by rw [List.take_of_length_le (by simp)]]
    refine ⟨by rw [hlen]; simp, fun k v v' h1 h2 => ?_⟩
    by_cases hk : k < c.length
    · rw [List.getElem?_append_left hk] at h1
      exact hrel.2 k v v' h1 (by rw [List.getElem?_take, if_pos hk]; exact h2)
    · rw [List.getElem?_append_right (by omega)] at h1
      have := List.mem_of_getElem? h1
      rw [List.mem_replicate] at this
      rw [this.2]
      exact .top _
  · have hcc : capOf cp cp = cp := by unfold capOf; rw [if_pos (show cp < unk by unfold unk; omega)]
    have := VRel.sl (ρ := ρ) hi 0 len cp (by rw [hcc]; exact hl)
    rw [hcc] at this
    exact this
/-- A call with an own slice in front: it may be taken to be nil, or to have known room. -/
theorem SCalls.ownK {P : Program} {fid : FuncId} {h : AHeap} {e : TypeId} {sz : Nat} {v : V} {cs rest : List V} {R : V → AHeap → Prop} (ho : Own h e sz v cs) (hsz : 0 < sz)
    (h0 : (v = .snil ∨ v = .z0) → cs = [] → SCalls P fid (v :: rest) h R)
    (h1 : ∀ i len cap c ex h', (v = .sl i 0 len cap ∨ v = .sl i 0 len unk) → OwnK h' e sz i len cap c ex cs → cap < 2 ^ 63 ∨ v = .sl i 0 len cap → Keep h h' (· = i) → h'.n = h.n → SCalls P fid (.sl i 0 len cap :: rest) h' R) : SCalls P fid (v :: rest) h R := by
  rcases ho with ⟨hv, hcs⟩ | ⟨i, len, cap, c, ex, rfl, hi, hg, hlen, htake, ⟨hc1, hc2, hc3⟩ | ⟨rfl, rfl⟩⟩
  · exact h0 hv hcs
  · exact h1 i len cap c ex h (.inl rfl) ⟨hi, hg, hlen, htake, hc1, hc2, hc3⟩ (.inr rfl) (Keep.refl _ _) rfl
  · intro ρ B w0 w args' R1 ha
    cases args' with
    | mk l =>
    cases l with
    | nil => have := ha.1; simp at this
    | cons a l =>
    have hr : VRel ρ (.sl i 0 len unk) a := ha.2 0 _ _ rfl rfl
    obtain ⟨C, k1, k2, k3, R2, r2⟩ := capK_rel hg R1 hr
    have hcl : len * sz ≤ c.length := by
      have := congrArg List.length htake
      rw [List.length_take, hlen] at this
      omega
    refine h1 i len C _ none _ (.inr rfl) ⟨by rw [set_n]; exact hi, get_set_same, hlen, ?_, by unfold unk; omega, ?_, k1⟩ (.inl k2) (Keep.set _ _ _) (set_n) ρ B w0 w _ R2 ?_
    · rw [List.take_append_of_le_length hcl, htake]
    · simp; omega
    · refine ⟨by have := ha.1; simpa using this, fun k v v' q1 q2 => ?_⟩
      cases k with
      | zero => cases q1; cases q2; exact r2
      | succ k => exact ha.2 (k + 1) v v' (by simpa using q1) (by simpa using q2)
/-- An element of an own slice: where it lies, and another one in its place. -/
theorem own_row {sz : Nat} {kk : IntKind} (hs : slSz P t = some sz) (hpos : 0 < sz) {h : AHeap} {e : TypeId} {v : V} {cs : List V} (ho : Own h e sz v cs) {k : Nat} (hk : (k + 1) * sz ≤ cs.length) :
    ∃ i, aIndexAddr P t v (.int kk (k : Int)) = some (.ptr i (k * sz)) ∧ idOf v = some i ∧ i < h.n ∧ (∀ (h' : AHeap) (d : Nat), h'.get i = h.get i → d ≤ sz → ∃ r, dropC (h'.get i) (k * sz + d) = some (((cs.drop (k * sz)).take sz).drop d ++ r)) ∧
      ∀ xs : List V, xs.length = sz → xs.all (·.one) = true → ∃ ob, setC (some sz) (h.get i) (k * sz) xs = some ob ∧ Own (h.set i ob) e sz v (lay cs (k * sz) xs) ∧ Keep h (h.set i ob) (isId v) := by
  rcases ho with ⟨_, rfl⟩ | ⟨i, len, cap, c, ex, rfl, hi, hg, hlen, htake, hcap⟩
  · have : sz ≤ (k + 1) * sz := Nat.le_mul_of_pos_left _ (by omega)
    simp at hk; omega
  · have hcl : len * sz ≤ c.length := by
      have := congrArg List.length htake
      rw [List.length_take, hlen] at this
      omega
    have hkl : k < len := by
      rw [hlen] at hk
      have := Nat.le_of_mul_le_mul_right hk hpos
      omega
    have hmul : k * sz + sz = (k + 1) * sz := by rw [Nat.add_mul]; omega
    refine ⟨i, ?_, rfl, hi, fun h' d hh hd => ⟨c.drop (k * sz + sz), ?_⟩, fun xs hx ho => ⟨.cells (lay c (k * sz) xs) e ex, ?_, .inr ⟨i, len, cap, lay c (k * sz) xs, ex, rfl, by rw [set_n]; exact hi, get_set_same, ?_, ?_, ?_⟩, (Keep.set h i _).mono fun k hk => by subst hk; rfl⟩⟩
    · rw [aIndexAddr_eq, hs, ixGo_sl, if_pos ⟨by omega, by omega⟩]
      simp
    · rw [hh, hg, dropC_cells, if_pos (by omega), ← htake]
      congr 1
      have e1 : ((c.take (len * sz)).drop (k * sz)).take sz = (c.drop (k * sz)).take sz := by
        rw [List.drop_take, List.take_take, Nat.min_eq_left]
        have : (k + 1) * sz ≤ len * sz := Nat.mul_le_mul_right _ hkl
        omega
      have e2 := List.take_append_drop (sz - d) (c.drop (k * sz + d))
      rw [List.drop_drop, show k * sz + d + (sz - d) = k * sz + sz by omega] at e2
      rw [e1, List.drop_take, List.drop_drop]
      exact e2.symm
    · rw [hg]
      unfold setC
      simp only
      rw [if_pos ⟨hx, ho, by omega⟩]
    · rw [length_lay _ _ _ (by rw [hx, hlen]; omega), hlen]
    · rw [lay_take _ _ _ _ (by rw [hx]; omega) hcl, htake]
    · rcases hcap with ⟨a, b, d⟩ | ⟨a, b⟩
      · exact .inl ⟨a, by rw [length_lay _ _ _ (by rw [hx]; omega)]; exact b, d⟩
      · exact .inr ⟨a, b⟩
theorem natOf_nat {k : IntKind} {n : Nat} : natOf (.int k (n : Int)) = some n := by simp [natOf]
theorem aCap_k (hT : slT P t = some T) {i o len cap : Nat} (hc : cap < unk) : aCap P t (.sl i o len cap) = some (.int .i64 cap) := by
  unfold aCap
  rw [(slT_eq hT).2.2.2.2.2]
  simp only
  rw [if_pos hc]
theorem append_made {tn : TypeId} {kn kq : IntKind} (hT : slT P t = some T) (hn : intT P tn = some kn) (hpos : 0 < T.sz) {h : AHeap} {i o len cap n : Nat} {c : List V} {e2 : TypeId} {ex : Option Nat} (hg : h.get i = .cells c e2 ex)
    (h0 : 0 < n) (hu : cap < unk) (hc : cap < len + n) (h1 : (len + n) * T.bs ≤ lim) (h2 : len + n ≤ lim) (hf : o + len * T.sz ≤ c.length) :
    aAppend P t tn (.sl i o len cap) (.int kq (n : Int)) h = some (.sl h.n 0 (len + n) unk, h.push (.cells ((c.drop o).take (len * T.sz) ++ made T.zs n) T.e (some T.sz))) := by
  obtain ⟨he, hz, hsz, hbs, hzs, _⟩ := slT_eq hT
  have hun : ∃ k, P.underlying tn = some (.int k) := by
    unfold intT at hn
    split at hn
    · rename_i k hk; exact ⟨k, hk⟩
    · cases hn
  obtain ⟨k, hun⟩ := hun
  have hsrc : aSrc P T.sz tn (.int kq (n : Int)) h = none := by unfold aSrc; rw [hun]
  unfold aAppend
  simp only [he, hz, hsz, hbs, if_pos hzs, hsrc]
  unfold aAppZ
  simp only [hun, hg]
  rw [if_pos ⟨by omega, hu, by simpa using hc, by simpa using h1, by simpa using h2, hf, hpos⟩]
  simp
section
variable {sz : Nat} {i o len cap : Nat} {k k2 k3 : IntKind}
theorem slK_from (hs : slSz P t = some sz) (hu : cap < unk) {l : Nat} (hl : l ≤ len) (hc : len ≤ cap) :
    aSlice P t (.sl i o len cap) (some (.int k (l : Int))) none none = some (.sl i (if cap = l then o else o + l * sz) (len - l) (cap - l)) := by
  obtain ⟨e, hu1, hz⟩ := slSz_eq hs
  unfold aSlice
  simp only [hu1, hz, loOf_int, hiOf, Option.isSome_none, Bool.false_eq_true, false_and, if_false]
  unfold cutSlice
  rw [if_pos hu, if_pos ⟨hl, hc, Nat.le_refl _⟩]
theorem slK_to (hs : slSz P t = some sz) (hu : cap < unk) {m : Nat} (hm : m ≤ cap) :
    aSlice P t (.sl i o len cap) none (some (.int k (m : Int))) none = some (.sl i o m cap) := by
  obtain ⟨e, hu1, hz⟩ := slSz_eq hs
  unfold aSlice
  simp only [hu1, hz, loOf, hiOf, natOf_nat, Option.isSome_none, Bool.false_eq_true, false_and, if_false]
  unfold cutSlice
  rw [if_pos hu, if_pos ⟨Nat.zero_le _, hm, Nat.le_refl _⟩]
  simp
theorem slK_rng (hs : slSz P t = some sz) (hu : cap < unk) {l m : Nat} (hl : l ≤ m) (hm : m ≤ cap) :
    aSlice P t (.sl i o len cap) (some (.int k (l : Int))) (some (.int k2 (m : Int))) none = some (.sl i (if cap = l then o else o + l * sz) (m - l) (cap - l)) := by
  obtain ⟨e, hu1, hz⟩ := slSz_eq hs
  unfold aSlice
  simp only [hu1, hz, loOf_int, hiOf, natOf_nat, Option.isSome_none, Bool.false_eq_true, false_and, if_false]
  unfold cutSlice
  rw [if_pos hu, if_pos ⟨hl, hm, Nat.le_refl _⟩]
theorem slK_max (hs : slSz P t = some sz) (hu : cap < unk) {l m n : Nat} (hl : l ≤ m) (hm : m ≤ n) (hn : n ≤ cap) :
    ∃ v, aSlice P t (.sl i o len cap) (some (.int k (l : Int))) (some (.int k2 (m : Int))) (some (.int k3 (n : Int))) = some v := by
  obtain ⟨e, hu1, hz⟩ := slSz_eq hs
  refine ⟨.sl i (if n = l then o else o + l * sz) (m - l) (n - l), ?_⟩
  unfold aSlice
  simp only [hu1, hz, loOf_int, hiOf_int, Option.isSome_some, Option.isNone_some, Bool.false_eq_true, and_false, false_or]
  rw [if_neg (by omega), if_neg (by omega)]
  unfold cutSlice
  rw [if_pos hu, if_pos ⟨hl, hm, hn⟩]
theorem slU_from (hs : slSz P t = some sz) {a : Nat} {l : Nat} (hl : l < len) :
    aSlice P t (.sl i o len (unk + a)) (some (.int k (l : Int))) none none = some (.sl i (o + l * sz) (len - l) (unk + a + l)) := by
  obtain ⟨e, hu1, hz⟩ := slSz_eq hs
  unfold aSlice
  simp only [hu1, hz, loOf_int, hiOf, Option.isSome_none, Bool.false_eq_true, false_and, if_false]
  unfold cutSlice
  rw [if_neg (by omega), if_pos ⟨rfl, by omega, Nat.le_refl _⟩, if_pos (.inr hl)]
end
/-- copy between slices of one's own, of the same object or of two. -/
theorem copy_sl (hT : slT P t = some T) {tx : TypeId} {h : AHeap} {i o dl dc j p n d : Nat} {c c2 : List V} {e2 e3 : TypeId} {ex ex2 : Option Nat} (hg : h.get i = .cells c e2 ex) (hg2 : h.get j = .cells c2 e3 ex2)
    {m : Nat} (hm : Nat.min n dl = m) (h0 : 0 < m) (hf2 : p + m * T.sz ≤ c2.length) (hf : o + m * T.sz ≤ c.length) (hone : ((c2.drop p).take (m * T.sz)).all (·.one) = true) :
    aCopy P t (.sl i o dl dc) (.sl j p n d) h = some (.int .i64 m, h.set i (.cells (lay c o ((c2.drop p).take (m * T.sz))) e2 ex)) := by
  obtain ⟨he, hz, hsz, hbs, hzs, _⟩ := slT_eq hT
  have hl : ((c2.drop p).take (m * T.sz)).length = m * T.sz := by rw [List.length_take, List.length_drop]; omega
  unfold aCopy
  simp only [he, hsz, aLenOf, hm]
  simp only [aFirst, hg2, if_pos hf2]
  rw [if_neg (by omega), hg]
  simp only
  rw [if_pos ⟨by rw [hl]; exact hf, hone⟩]
end
end Go.Proofs.YtfcjehlhoebmnaaGreatDoor.Ab

namespace Go.Proofs.YtfcjehlhoebmnaaGreatDoor.Ab
open Go Go.RowKit
set_option linter.unusedVariables false
set_option linter.unusedSimpArgs false

/-! ### Maps whose keys are told by an encoding -/
/-- What a kind of keys asks of an encoding. -/
structure KeyEnc (P : Program) (kt : TypeId) (d : TypeDesc) {κ : Type} [DecidableEq κ] (ke : κ → V) : Prop where
  eq : ∀ a b, eqKey P kt d (ke a) (ke b) = some (decide (a = b))
  ok : ∀ b a, keyOk P b kt (ke a) = true
  bits : ∀ a, ∃ v, plainV (ke a) = some v ∧ Instr.sameBits 10000 v v = true

section
variable {P : Program} {t kt et : TypeId} {d : TypeDesc} {κ : Type} [DecidableEq κ] {ke : κ → V} {α : Type} {enc : α → V}
def mapK (ke : κ → V) (enc : α → V) (l : List (Nat × κ × α)) : List (Nat × V × V) := l.map fun e => (e.1, ke e.2.1, enc e.2.2)
/-- What a key has. -/
def kget (l : List (Nat × κ × α)) (k : κ) : Option α :=
  match l with
  | [] => none
  | e :: r => if k = e.2.1 then some e.2.2 else kget r k
/-- The entries, a key being set. -/
def kset (cl : Nat) (l : List (Nat × κ × α)) (k : κ) (a : α) : List (Nat × κ × α) :=
  match l with
  | [] => [(cl, k, a)]
  | e :: r => if k = e.2.1 then (e.1, k, a) :: r else e :: kset cl r k a
def kclk (cl : Nat) (l : List (Nat × κ × α)) (k : κ) : Nat := if (kget l k).isSome then cl else cl + 1
/-- The entries without a key. -/
def kdel (l : List (Nat × κ × α)) (k : κ) : List (Nat × κ × α) :=
  match l with
  | [] => []
  | e :: r => if k = e.2.1 then r else e :: kdel r k

/-- Where a key is, and what the three operations make of it. -/
theorem kfind (H : KeyEnc P kt d ke) (k : κ) : ∀ (l : List (Nat × κ × α)),
    (kget l k = none ∧ aFind P kt d (ke k) (mapK ke enc l) = some none ∧ (∀ cl a, kset cl l k a = l ++ [(cl, k, a)]) ∧ kdel l k = l) ∨
    (∃ j e, aFind P kt d (ke k) (mapK ke enc l) = some (some j) ∧ l[j]? = some e ∧ e.2.1 = k ∧ kget l k = some e.2.2 ∧
      (∀ cl a, mapK ke enc (kset cl l k a) = (mapK ke enc l).modify j fun e => (e.1, ke k, enc a)) ∧ mapK ke enc (kdel l k) = (mapK ke enc l).eraseIdx j)
  | [] => .inl ⟨rfl, rfl, fun _ _ => rfl, rfl⟩
  | e :: l => by
    have hf : aFind P kt d (ke k) (mapK ke enc (e :: l)) = if k = e.2.1 then some (some 0) else (aFind P kt d (ke k) (mapK ke enc l)).map fun (q : Option Nat) => q.map (· + 1) := by
      show (match eqKey P kt d (ke k) (ke e.2.1) with | some true => some (some 0) | some false => (aFind P kt d (ke k) (mapK ke enc l)).map fun (q : Option Nat) => q.map (· + 1) | none => none) = _
      rw [H.eq]
      by_cases hk : k = e.2.1
      · simp [hk]
      · simp [hk]
    by_cases hk : k = e.2.1
    · refine .inr ⟨0, e, by rw [hf, if_pos hk], rfl, hk.symm, by rw [kget, if_pos hk], fun cl a => by rw [kset, if_pos hk]; rfl, by rw [kdel, if_pos hk]; rfl⟩
    · rcases kfind H k l with ⟨h1, h2, h3, h4⟩ | ⟨j, e', h1, h2, h3, h4, h5, h6⟩
      · refine .inl ⟨by rw [kget, if_neg hk, h1], by rw [hf, if_neg hk, h2]; rfl, fun cl a => by rw [kset, if_neg hk, h3]; rfl, by rw [kdel, if_neg hk, h4]⟩
      · refine .inr ⟨j + 1, e', by rw [hf, if_neg hk, h1]; rfl, by simpa using h2, h3, by rw [kget, if_neg hk, h4], fun cl a => ?_, ?_⟩
        · rw [kset, if_neg hk]
          show (e.1, ke e.2.1, enc e.2.2) :: mapK ke enc (kset cl l k a) = _
          rw [h5]
          rfl
        · rw [kdel, if_neg hk]
          show (e.1, ke e.2.1, enc e.2.2) :: mapK ke enc (kdel l k) = _
          rw [h6]
          rfl

/-- m[k] -/
theorem lookup_k (H : KeyEnc P kt d ke) {z : Value} {h : AHeap} {i : Nat} {l : List (Nat × κ × α)} {cl : Nat} {k : κ} {ok : Bool} (hm : mapT P t = some (kt, et, d)) (hz : zeroT P et = some z) (hg : h.get i = .map (mapK ke enc l) cl) :
    aLookup P t (.map i) (ke k) ok h = some (match kget l k with | some a => (if ok then .tuple [enc a, .bool true] else enc a) | none => (if ok then .tuple [absV z, .bool false] else absV z)) := by
  unfold aLookup
  simp only [hm, hz, hg, H.ok, if_true]
  rcases kfind (enc := enc) H k l with ⟨h1, h2, _⟩ | ⟨j, e, h1, h2, h3, h4, _⟩
  · rw [h2, h1]
  · have : (mapK ke enc l)[j]? = some (e.1, ke e.2.1, enc e.2.2) := by simp [mapK, h2]
    rw [h1, h4]
    simp only [this]
    rfl
/-- m[k] = a -/
theorem update_k (H : KeyEnc P kt d ke) {h : AHeap} {i : Nat} {l : List (Nat × κ × α)} {cl : Nat} {k : κ} {a : α} {v : V} (hm : mapT P t = some (kt, et, d)) (hg : h.get i = .map (mapK ke enc l) cl) (hv : v = enc a) :
    aUpdate P t (.map i) (ke k) v h = some (h.set i (.map (mapK ke enc (kset cl l k a)) (kclk cl l k))) := by
  subst hv
  unfold aUpdate kclk
  simp only [hm, hg, H.ok, if_true]
  rcases kfind (enc := enc) H k l with ⟨h1, h2, h3, _⟩ | ⟨j, e, h1, h2, h3, h4, h5, _⟩
  · rw [h2, h1, h3]
    simp [mapK]
  · have : (mapK ke enc l)[j]? = some (e.1, ke e.2.1, enc e.2.2) := by simp [mapK, h2]
    obtain ⟨v, hv, hs⟩ := H.bits k
    rw [h1, h4]
    simp only [this, Option.bind_some, h3, hv, hs, if_true, h5]
    rfl
/-- delete(m, k) -/
theorem delete_k (H : KeyEnc P kt d ke) {h : AHeap} {i : Nat} {l : List (Nat × κ × α)} {cl : Nat} {k : κ} (hm : mapT P t = some (kt, et, d)) (hg : h.get i = .map (mapK ke enc l) cl) :
    aDelete P t (.map i) (ke k) h = some (h.set i (.map (mapK ke enc (kdel l k)) cl)) := by
  unfold aDelete
  simp only [hm, hg, H.ok, if_true]
  rcases kfind (enc := enc) H k l with ⟨h1, h2, _, h4⟩ | ⟨j, e, h1, h2, h3, h4, _, h6⟩
  · rw [h2, h4]
    simp only
    rw [set_self hg]
  · rw [h1, h6]

/-! ### The keys, the stamps, the number -/
theorem kset_has : ∀ {l : List (Nat × κ × α)} {k : κ}, (kget l k).isSome = true → ∀ (cl : Nat) (a : α), (kset cl l k a).map (fun e => (e.1, e.2.1)) = l.map (fun e => (e.1, e.2.1))
  | [], k, h, cl, a => by simp [kget] at h
  | e :: l, k, h, cl, a => by
    unfold kset
    by_cases hk : k = e.2.1
    · rw [if_pos hk]; simp [hk]
    · rw [kget, if_neg hk] at h
      rw [if_neg hk, List.map_cons, List.map_cons, kset_has h]
theorem kset_new : ∀ {l : List (Nat × κ × α)} {k : κ}, kget l k = none → ∀ (cl : Nat) (a : α), kset cl l k a = l ++ [(cl, k, a)]
  | [], k, h, cl, a => rfl
  | e :: l, k, h, cl, a => by
    unfold kset
    by_cases hk : k = e.2.1
    · rw [kget, if_pos hk] at h; cases h
    · rw [kget, if_neg hk] at h
      rw [if_neg hk, kset_new h]; rfl
theorem kget_none : ∀ {l : List (Nat × κ × α)} {k : κ}, kget l k = none ↔ ∀ e ∈ l, e.2.1 ≠ k
  | [], k => by simp [kget]
  | e :: l, k => by
    unfold kget
    by_cases hk : k = e.2.1
    · simp [hk]
    · rw [if_neg hk, kget_none]
      simp [Ne.symm hk]
theorem kget_kset : ∀ (l : List (Nat × κ × α)) (cl : Nat) (k : κ) (a : α) (x : κ), kget (kset cl l k a) x = if x = k then some a else kget l x
  | [], cl, k, a, x => by simp [kset, kget]
  | e :: l, cl, k, a, x => by
    unfold kset
    by_cases hk : k = e.2.1
    · rw [if_pos hk]
      unfold kget
      by_cases hx : x = k
      · simp [hx]
      · have : x ≠ e.2.1 := hk ▸ hx
        simp [hx, this]
    · rw [if_neg hk]
      unfold kget
      by_cases hx : x = e.2.1
      · have : x ≠ k := fun hh => hk (hh ▸ hx)
        simp [hx, Ne.symm hk]
      · rw [if_neg hx, kget_kset l cl k a x, if_neg hx]
def KNodup (l : List (Nat × κ × α)) : Prop := (l.map (·.2.1)).Nodup
omit [DecidableEq κ] in
theorem KNodup.nil : KNodup ([] : List (Nat × κ × α)) := List.nodup_nil
theorem KNodup.set {l : List (Nat × κ × α)} (hn : KNodup l) (cl : Nat) (k : κ) (a : α) : KNodup (kset cl l k a) := by
  unfold KNodup at *
  cases hg : kget l k with
  | some b =>
    have h := kset_has (l := l) (k := k) (by rw [hg]; rfl) cl a
    have h2 := congrArg (List.map Prod.snd) h
    rw [List.map_map, List.map_map] at h2
    have h3 : (kset cl l k a).map (·.2.1) = l.map (·.2.1) := h2
    rw [h3]; exact hn
  | none =>
    rw [kset_new hg, List.map_append, List.nodup_append]
    refine ⟨hn, by simp, fun x hx y hy => ?_⟩
    obtain ⟨e, he, rfl⟩ := List.mem_map.1 hx
    simp at hy
    subst hy
    exact kget_none.1 hg e he
theorem kdel_sub : ∀ (l : List (Nat × κ × α)) (k : κ), (kdel l k).Sublist l
  | [], k => List.Sublist.refl _
  | e :: l, k => by
    unfold kdel
    split
    · exact List.sublist_cons_self _ _
    · exact (kdel_sub l k).cons_cons _
theorem KNodup.del {l : List (Nat × κ × α)} (hn : KNodup l) (k : κ) : KNodup (kdel l k) := List.Nodup.sublist ((kdel_sub l k).map _) hn
theorem kget_kdel : ∀ {l : List (Nat × κ × α)}, KNodup l → ∀ (k x : κ), kget (kdel l k) x = if x = k then none else kget l x
  | [], _, k, x => by simp [kdel, kget]
  | e :: l, hn, k, x => by
    have hn' := List.nodup_cons.1 hn
    unfold kdel
    by_cases hk : k = e.2.1
    · rw [if_pos hk]
      by_cases hx : x = k
      · rw [if_pos hx, kget_none]
        intro y hy hh
        exact hn'.1 (List.mem_map.2 ⟨y, hy, by rw [hh, hx, hk]⟩)
      · rw [if_neg hx, kget, if_neg fun hh => hx (hh.trans hk.symm)]
    · rw [if_neg hk]
      unfold kget
      by_cases hx : x = e.2.1
      · rw [if_pos hx, if_pos hx, if_neg fun hh => hk (hh.symm.trans hx)]
      · rw [if_neg hx, if_neg hx, kget_kdel hn'.2 k x]
theorem stamps_kset {l : List (Nat × κ × α)} {cl : Nat} {k : κ} {a : α} (h2 : List.map (Prod.fst ∘ fun e => (e.1, e.2.1)) (kset cl l k a) = List.map (Prod.fst ∘ fun e => (e.1, e.2.1)) l) : (mapK ke enc (kset cl l k a)).map (·.1) = (mapK ke enc l).map (·.1) := by
  unfold mapK
  rw [List.map_map, List.map_map]
  exact h2
theorem Stamps.kset {l : List (Nat × κ × α)} {cl : Nat} (hs : Stamps (mapK ke enc l) cl) (k : κ) (a : α) : Stamps (mapK ke enc (kset cl l k a)) (kclk cl l k) := by
  cases hg : kget l k with
  | none =>
    have : kclk cl l k = cl + 1 := by unfold kclk; rw [hg]; rfl
    rw [this, kset_new hg]
    have := hs.snoc (ke k) (enc a)
    simpa [mapK] using this
  | some b =>
    have : kclk cl l k = cl := by unfold kclk; rw [hg]; rfl
    rw [this]
    have h := kset_has (l := l) (k := k) (by rw [hg]; rfl) cl a
    have h2 := congrArg (List.map Prod.fst) h
    rw [List.map_map, List.map_map] at h2
    have h3 := stamps_kset (ke := ke) (enc := enc) h2
    refine ⟨fun e he => ?_, by rw [h3]; exact hs.2⟩
    have : e.1 ∈ (mapK ke enc l).map (·.1) := by rw [← h3]; exact List.mem_map.2 ⟨e, he, rfl⟩
    obtain ⟨e', he', h4⟩ := List.mem_map.1 this
    rw [← h4]; exact hs.1 e' he'
theorem Stamps.kdel {l : List (Nat × κ × α)} {cl : Nat} (hs : Stamps (mapK ke enc l) cl) (k : κ) : Stamps (mapK ke enc (kdel l k)) cl := by
  have h := (kdel_sub l k).map fun e : Nat × κ × α => (e.1, ke e.2.1, enc e.2.2)
  exact ⟨fun e he => hs.1 e (h.subset he), List.Nodup.sublist (h.map _) hs.2⟩
theorem klen_set (l : List (Nat × κ × α)) (cl : Nat) (k : κ) (a : α) : (kset cl l k a).length = if (kget l k).isSome then l.length else l.length + 1 := by
  cases hg : kget l k with
  | some b =>
    have h := congrArg List.length (kset_has (l := l) (k := k) (by rw [hg]; rfl) cl a)
    simpa using h
  | none => rw [kset_new hg]; simp
theorem kmem : ∀ {l : List (Nat × κ × α)}, KNodup l → ∀ {e : Nat × κ × α}, e ∈ l → kget l e.2.1 = some e.2.2
  | [], _, e, he => by cases he
  | x :: l, hn, e, he => by
    have hn' := List.nodup_cons.1 hn
    unfold kget
    rcases List.mem_cons.1 he with rfl | he'
    · rw [if_pos rfl]
    · rw [if_neg fun hh => hn'.1 (List.mem_map.2 ⟨e, he', hh⟩)]
      exact kmem hn'.2 he'
end
end Go.Proofs.YtfcjehlhoebmnaaGreatDoor.Ab

namespace Go.Proofs.YtfcjehlhoebmnaaGreatDoor.Ab
open Go Go.Sort Go.Proofs
set_option linter.unusedVariables false

/-! ### SortFunc of structs: the library's contract, told over the world, as one over an abstract heap -/
theorem Bel.grow {W w' : World} (h : Bel W.heap.size W w') : ∃ q os', w' = Sort.grow (W.drewN q) os' := by
  refine ⟨w'.drawn - W.drawn, w'.heap.extract W.heap.size w'.heap.size, ?_⟩
  obtain ⟨hos, ht, hout, hsz, hb, hd⟩ := h
  have e : w'.heap = W.heap ++ w'.heap.extract W.heap.size w'.heap.size := by
    apply Array.ext_getElem?
    intro k
    rw [Array.getElem?_append]
    by_cases hk : k < W.heap.size
    · rw [if_pos hk]; exact hb k hk
    · rw [if_neg hk, Array.getElem?_extract]
      by_cases h2 : k < w'.heap.size
      · rw [if_pos (by omega), show W.heap.size + (k - W.heap.size) = k by omega]
      · rw [if_neg (by omega), Array.getElem?_eq_none (by omega)]
  have e2 : W.drawn + (w'.drawn - W.drawn) = w'.drawn := by omega
  cases w'
  cases W
  simp only [Sort.grow, World.drewN] at *
  subst hos ht hout
  rw [← e, e2]

section
variable {ρ : Ren} {B : Nat} {w0 : World} {h : AHeap} {w : World}
theorem WRel.putVals (R : WRel ρ B w0 h w) {i b cp : Nat} {c vs : List V} {e : TypeId} {ex : Option Nat} (hg : h.get i = .cells c e ex) (hi : ρ.ren i = some (b, cp)) {d : Array Value} (hv : LRel ρ vs d.toList) (hn : vs.length ≤ c.length) :
    WRel ρ B w0 (h.set i (.cells (vs ++ c.drop vs.length) e ex)) (Sort.putRow id w b 0 d) := by
  have ho := R.heap.obj i
  rw [hg] at ho
  obtain ⟨b', cp', arr, hr, hf, hB, hw, hlen, hrel, hx⟩ := ho
  rw [hi] at hr
  cases hr
  have hlt := (Array.getElem?_eq_some_iff.1 hw).1
  have hds : d.size = vs.length := by have := hv.1; simp at this; omega
  have hheap : ∀ j, (Sort.putRow id w b 0 d).heap[j]? = if b = j then (w.heap[j]?).map (Sort.onCells (Sort.putCells id 0 d)) else w.heap[j]? := fun j => by
    show (w.heap.modify b _)[j]? = _
    rw [Array.getElem?_modify]
  refine R.setO hi (by rw [hg]; simp) (fun j hj => by rw [hheap, if_neg (Ne.symm hj)]) (by rw [Sort.size_putRow]; exact Nat.le_refl _) ⟨rfl, rfl, rfl, by rw [Sort.size_putRow]; exact Nat.le_refl _, fun j hj => by rw [hheap, if_neg (by omega)], Nat.le_refl _⟩ ?_
  have hl : (vs ++ c.drop vs.length).length = c.length := by simp; omega
  refine ⟨b, cp, Sort.putCells id 0 d arr, hi, hf, hB, by rw [hheap, if_pos rfl, hw]; rfl, by rw [hl]; simpa [Sort.putCells] using hlen, ?_, by rw [hl]; simpa [Sort.putCells] using hx⟩
  rw [hl]
  refine ⟨by simp [Sort.putCells]; omega, fun j v v' h1 h2 => ?_⟩
  rw [List.getElem?_take] at h2
  split at h2
  case isFalse => cases h2
  rename_i hj
  rw [Array.getElem?_toList] at h2
  unfold Sort.putCells at h2
  rw [Array.getElem?_mapIdx, Option.map_eq_some_iff] at h2
  obtain ⟨x, hx1, hx2⟩ := h2
  by_cases hjn : j < vs.length
  · rw [if_pos ⟨Nat.zero_le _, by omega⟩] at hx2
    subst hx2
    rw [List.getElem?_append_left hjn] at h1
    refine hv.2 j v _ h1 ?_
    rw [Array.getElem?_toList, Nat.sub_zero, Array.getElem?_eq_getElem (by omega), getElem!_pos d j (by omega)]
    rfl
  · rw [if_neg (by omega)] at hx2
    subst hx2
    rw [List.getElem?_append_right (by omega), List.getElem?_drop, show vs.length + (j - vs.length) = j by omega] at h1
    refine hrel.2 j v x h1 ?_
    rw [List.getElem?_take, if_pos hj, Array.getElem?_toList]
    exact hx1
theorem WRel.holdsV (R : WRel ρ B w0 h w) {i b cp : Nat} {c vs : List V} {e : TypeId} {ex : Option Nat} (hg : h.get i = .cells c e ex) (hi : ρ.ren i = some (b, cp)) (hc : c.take vs.length = vs) :
    ∃ d : Array Value, LRel ρ vs d.toList ∧ Sort.Holds id w b 0 d ∧ b < w.heap.size := by
  have ho := R.heap.obj i
  rw [hg] at ho
  obtain ⟨b', cp', arr, hr, hf, hB, hw, hlen, hrel, hx⟩ := ho
  rw [hi] at hr
  cases hr
  have hcl : vs.length ≤ c.length := by
    have := congrArg List.length hc
    rw [List.length_take] at this
    omega
  refine ⟨(arr.toList.take vs.length).toArray, ?_, fun j hj => ?_, (Array.getElem?_eq_some_iff.1 hw).1⟩
  · have := hrel.take vs.length
    rw [hc, List.take_take, Nat.min_eq_left hcl] at this
    simpa using this
  · simp only [List.size_toArray, List.length_take, Array.length_toList] at hj
    have hja : j < arr.size := by omega
    rw [getElem!_pos _ j (by simp; omega)]
    simp [World.cell?, World.frozen?, hw, Array.getElem?_eq_getElem hja]

/-- What is frozen stays so while a row of the call's own is sorted. -/
theorem WRel.frzSort (R : WRel ρ B w0 h w) {i b cp : Nat} (hl : h.get i ≠ .dead) (hi : ρ.ren i = some (b, cp)) {α : Type} [Inhabited α] (enc : α → List Value) (k m : Nat) (dk : Array α) (os : Array Obj) :
    ∀ b' a, ρ.frz b' = some a → (entryRen (sortWorldK enc k w b 0 m dk os)).frz b' = some a := by
  intro b' a hf
  obtain ⟨e, fz, hw⟩ := R.heap.frz b' a hf
  obtain ⟨b2, cp2, hr, hlt, _, hfb, _⟩ := R.heap.live hl
  rw [hi] at hr
  cases hr
  have hne : b ≠ b' := fun hh => by subst hh; rw [hfb] at hf; cases hf
  have hlt' := (Array.getElem?_eq_some_iff.1 hw).1
  have h1 : (sortWorldK enc k w b 0 m dk os).heap[b']? = w.heap[b']? := by
    show ((w.heap.modify b _) ++ os)[b']? = _
    rw [Array.getElem?_append, if_pos (by simpa using hlt'), Array.getElem?_modify, if_neg hne]
  exact entry_frz (h1.trans hw)
end

theorem SCalls.callsB {P : Program} {fid : FuncId} {args : List V} {v : V} {a : Value} (hc : SCalls P fid args noHeap fun r _ => r = v) (hv : flatV v = some a) {w : World}
    {args' : Array Value} (ha : LRel (entryRen w) args args'.toList) : Calls P fid args' w fun e w' => e = .returned a ∧ Bel w.heap.size w w' :=
  (hc (entryRen w) w.heap.size w w args' (entry_rel w) ha).mono fun e w' hh => by
    rcases hh with ⟨ρ', r, r', h', he, hrr, hw, _, hR⟩ | ⟨_, _, _, _, _, _, _, hE⟩
    · subst hR
      rw [flatV_eq hrr hv] at he
      exact ⟨he, hw.below⟩
    · exact hE.elim

/-- The comparator's contract, as the library's sort asks for it. -/
theorem cmp_lays {P : Program} {g : FuncId} {β : Type} {E : β → List V} {cf : β → β → Int} (hcmp : ∀ a b, SCalls P g [.agg (E a), .agg (E b)] noHeap fun r _ => r = .int .i64 (cf a b)) (hclo : ∀ x, CloL (E x))
    {ρ : Ren} {B : Nat} {w0 : World} {h : AHeap} {w : World} (R : WRel ρ B w0 h w) {i b cp : Nat} (hl : h.get i ≠ .dead) (hi : ρ.ren i = some (b, cp))
    {α : Type} [Inhabited α] (rows : α → β) (enc : α → List Value) (henc : ∀ x, LRel ρ (E (rows x)) (enc x)) (size k : Nat) : CmpLays P g #[] enc k (fun x y => cf (rows x) (rows y)) b 0 size w := by
  intro m os dk hdk x y
  have hf := R.frzSort hl hi enc k m dk os
  have va : ∀ x, VRel (entryRen (sortWorldK enc k w b 0 m dk os)) (.agg (E (rows x))) (.agg (enc x).toArray) := fun x => .agg (by simpa using (henc x).1) fun j v v' h1 h2 => by
    refine hclo (rows x) v (List.mem_of_getElem? h1) ρ _ v' ((henc x).2 j v v' h1 ?_) hf
    simpa using h2
  have hc := (hcmp (rows x) (rows y)).callsB (a := .int .i64 (cf (rows x) (rows y))) rfl (w := sortWorldK enc k w b 0 m dk os) (args' := #[.agg (enc x).toArray, .agg (enc y).toArray]) (LRel.cons (va x) (LRel.cons (va y) (LRel.nil _)))
  rw [Array.append_empty]
  exact hc.mono fun e w' hh => ⟨hh.1, hh.2.grow⟩

theorem flatK_list {α : Type} [Inhabited α] (enc : α → List Value) (k : Nat) (hk : ∀ x, (enc x).length = k) (d : Array α) : (flatK enc k d).toList = d.toList.flatMap enc := by
  have hlen : ∀ l : List α, (l.flatMap enc).length = l.length * k := fun l => by
    induction l with
    | nil => simp
    | cons x l ih => rw [List.flatMap_cons, List.length_append, hk, ih, List.length_cons, Nat.add_mul]; omega
  have hget : ∀ (l : List α) (t : Nat), t < l.length * k → (l.flatMap enc)[t]! = (enc l[t / k]!)[t % k]! := fun l => by
    induction l with
    | nil => intro t ht; simp at ht
    | cons x l ih =>
      intro t ht
      have hk0 : 0 < k := by
        rcases Nat.eq_zero_or_pos k with h0 | h0
        · subst h0; simp at ht
        · exact h0
      rw [List.flatMap_cons]
      by_cases h1 : t < k
      · rw [Nat.div_eq_of_lt h1, Nat.mod_eq_of_lt h1]
        simp [List.getElem!_eq_getElem?_getD, List.getElem?_append_left (show t < (enc x).length by rw [hk]; exact h1)]
      · obtain ⟨u, rfl⟩ : ∃ u, t = u + k := ⟨t - k, by omega⟩
        rw [List.length_cons, Nat.add_mul, Nat.one_mul] at ht
        have := ih u (by omega)
        rw [Nat.add_div_right _ hk0, Nat.add_mod_right]
        simp only [List.getElem!_eq_getElem?_getD, List.getElem?_cons_succ] at this ⊢
        rw [List.getElem?_append_right (by rw [hk]; omega), hk, Nat.add_sub_cancel]
        exact this
  apply List.ext_getElem
  · rw [hlen]; simp
  · intro t h1 h2
    have ht : t < d.size * k := by simpa using h1
    have e1 := get_flatK enc k d t ht
    have e2 := hget d.toList t (by simpa using ht)
    rw [getElem!_pos _ t (by simpa using ht)] at e1
    rw [getElem!_pos _ t h2] at e2
    rw [Array.getElem_toList, e1, e2]
    congr 2
    simp [Array.getElem!_eq_getD, List.getElem!_eq_getElem?_getD, Array.getD_eq_getD_getElem?]

/-- SortFunc of an own slice of structs: some permutation that is sorted. -/
theorem sortF_own {P : Program} {f : FuncId} {g : FuncId} {e : TypeId} {k : Nat} {β : Type} {E : β → List V} {cf : β → β → Int} (hk0 : 0 < k)
    (hk : ∀ x, (E x).length = k) (h1 : ∀ x, (E x).all (·.one) = true) (hclo : ∀ x, CloL (E x)) (hO : SWO (ltOf cf))
    (hcmp : ∀ a b, SCalls P g [.agg (E a), .agg (E b)] noHeap fun r _ => r = .int .i64 (cf a b))
    (hcall : ∀ (n : Nat) (enc : Fin (n + 1) → List Value) (hk : ∀ x, (enc x).length = k) (h1 : ∀ x, ∀ v ∈ enc x, v.oneCell' = true) (cf : Fin (n + 1) → Fin (n + 1) → Int) (hO : SWO (ltOf cf)) (blk cap : Nat) (d : Array (Fin (n + 1))) (w : World),
      CmpLays P g #[] enc k cf blk 0 d.size w → HoldsK enc k w blk 0 d → blk < w.heap.size → d.size < 4611686018427387904 →
      Calls P f #[.slice (some ⟨blk, 0, none⟩) d.size cap, .func (.func g) #[] #[]] w fun e w' => e = .returned (.tuple #[]) ∧ ∃ d' n os, PermIn 0 d.size d d' ∧ SortedIn (ltOf cf) 0 d.size d' ∧ w' = sortWorldK enc k w blk 0 n d' os)
    {h : AHeap} {v : V} {l : List β} (hnone : l = [] → SCalls P f [v, .func (.func g) [] []] h fun r h' => r = .tuple [] ∧ h' = h)
    (ho : Own h e k v (l.flatMap E)) (hl : l.length < 4611686018427387904) :
    SCalls P f [v, .func (.func g) [] []] h fun r h' => r = .tuple [] ∧ Keep h h' (isId v) ∧ ∃ l' : List β, l'.Perm l ∧ (l'.Pairwise fun a b => ltOf cf b a = false) ∧ Own h' e k v (l'.flatMap E) := by
  by_cases hl0 : l = []
  · refine (hnone hl0).mono fun r h' ⟨hr, hh⟩ => ?_
    subst hh
    exact ⟨hr, Keep.refl _ _, l, List.Perm.refl _, by rw [hl0]; exact List.Pairwise.nil, ho⟩
  have hlen := rows_len hk l
  rcases ho with ⟨_, hcs⟩ | ⟨i, len, cap, c, ex, rfl, hilt, hg, hlc, htake, hcap⟩
  · rw [hcs] at hlen
    have : 0 < l.length := List.length_pos_iff.2 hl0
    have := Nat.mul_pos this hk0
    simp at hlen
    omega
  rw [hlen] at hlc
  have hln : l.length = len := Nat.eq_of_mul_eq_mul_right hk0 hlc
  subst hln
  obtain ⟨n, hn⟩ : ∃ n, l.length = n + 1 := ⟨l.length - 1, by have := List.length_pos_iff.2 hl0; omega⟩
  intro ρ B w0 w args' R ha
  obtain ⟨v1, t1, ht1, hv1, ha1⟩ := ha.uncons
  obtain ⟨v2, t2, ht2, hv2, ha2⟩ := ha1.uncons
  have ht3 := ha2.eq_nil
  subst ht3
  have e2 : v2 = .func (.func g) #[] #[] := by
    cases hv2 with
    | func fn _ hs ht _ _ =>
      rename_i xs' ys' _ _ _
      have e1 := Array.eq_empty_of_size_eq_zero (xs := xs') hs.symm
      have e2 := Array.eq_empty_of_size_eq_zero (xs := ys') ht.symm
      rw [e1, e2]
  subst e2
  cases hv1 with
  | sl hi _ _ _ hle =>
  rename_i b cp
  have ea : args' = #[.slice (some ⟨b, 0, none⟩) l.length (capOf cp cap), .func (.func g) #[] #[]] := by
    apply Array.toList_inj.1
    rw [ht1, ht2]
  subst ea
  obtain ⟨D, hD, hH, hlt⟩ := R.holdsV hg hi (vs := l.flatMap E) (by rw [hlen]; exact htake)
  have hDs : D.size = l.length * k := by have := hD.1; simp only [Array.length_toList] at this; omega
  let rows : Fin (n + 1) → β := fun x => l[x.1]'(by omega)
  let enc : Fin (n + 1) → List Value := fun x => (D.toList.drop (x.1 * k)).take k
  have hrow : ∀ x : Fin (n + 1), ((l.flatMap E).drop (x.1 * k)).take k = E (rows x) := fun x => by
    rw [rows_drop hk, List.drop_eq_getElem_cons (show x.1 < l.length by omega), List.flatMap_cons, List.take_left' (hk _)]
  have henc : ∀ x, LRel ρ (E (rows x)) (enc x) := fun x => by
    have := (hD.drop (x.1 * k)).take k
    rwa [hrow x] at this
  have hke : ∀ x, (enc x).length = k := fun x => by rw [← (henc x).1, hk]
  have h1e : ∀ x, ∀ v ∈ enc x, v.oneCell' = true := fun x => (henc x).one (h1 _)
  let d : Array (Fin (n + 1)) := (List.finRange (n + 1)).toArray
  have hds : d.size = l.length := by simp [d, hn]
  have hflat : flatK enc k d = D := by
    apply Array.toList_inj.1
    rw [flatK_list enc k hke]
    have key : ∀ (m : Nat) (hm : m ≤ n + 1), (((List.finRange (n + 1)).take m).flatMap enc) = D.toList.take (m * k) := fun m => by
      induction m with
      | zero => intro _; simp
      | succ m ih =>
        intro hm
        rw [List.take_add_one, List.flatMap_append, ih (by omega), List.getElem?_eq_getElem (by simp; omega)]
        simp only [Option.toList_some, List.flatMap_cons, List.flatMap_nil, List.append_nil, List.getElem_finRange, enc]
        rw [Nat.add_mul, Nat.one_mul]
        simp [List.take_add]
    have := key (n + 1) (Nat.le_refl _)
    rw [List.take_of_length_le (by simp)] at this
    show (List.finRange (n + 1)).flatMap enc = _
    rw [this, List.take_of_length_le (by rw [Array.length_toList, hDs, hn]; exact Nat.le_refl _)]
  have hO2 : SWO (ltOf fun x y => cf (rows x) (rows y)) := ⟨fun x => hO.irrefl _, fun x y z => hO.trans _ _ _, fun x y z => hO.ntrans _ _ _⟩
  have hlive : h.get i ≠ .dead := by rw [hg]; simp
  have hcl := cmp_lays hcmp hclo R hlive hi rows enc henc d.size k
  have hcl2 := hcall n enc hke h1e (fun x y => cf (rows x) (rows y)) hO2 b (capOf cp cap) d w hcl (by unfold HoldsK; rw [hflat]; exact hH) hlt (by rw [hds]; exact hl)
  rw [hds] at hcl2
  refine hcl2.mono fun x w' ⟨hx, d', m, os, hp, hs, hw'⟩ => .inl ⟨ρ, .tuple [], .tuple #[], h.set i (.cells ((d'.toList.map rows).flatMap E ++ c.drop ((d'.toList.map rows).flatMap E).length) e ex), hx, .tuple rfl (by simp), ?_, Ren.le.refl ρ, rfl, ?_, d'.toList.map rows, ?_, ?_, ?_⟩
  · subst hw'
    have hd's : d'.size = l.length := by rw [hp.1, hds]
    have hlen' : ((d'.toList.map rows).flatMap E).length = l.length * k := by rw [rows_len hk]; simp [hd's]
    have hcl3 : l.length * k ≤ c.length := by
      have := congrArg List.length htake
      rw [List.length_take, hlen] at this
      omega
    have hv : LRel ρ ((d'.toList.map rows).flatMap E) (flatK enc k d').toList := by
      rw [flatK_list enc k hke]
      have : ∀ q : List (Fin (n + 1)), LRel ρ ((q.map rows).flatMap E) (q.flatMap enc) := fun q => by
        induction q with
        | nil => exact LRel.nil ρ
        | cons a q ih =>
          rw [List.map_cons, List.flatMap_cons, List.flatMap_cons]
          exact (henc a).append ih
      exact this _
    exact ((R.ahead m).putVals hg hi hv (by rw [hlen']; exact hcl3)).grow os
  · exact (Keep.set h i _).mono fun q hq => by simp [isId, idOf, hq]
  · have hd's : d'.size = l.length := by rw [hp.1, hds]
    have h3 := hp.2.2
    have e1 : d'.extract 0 l.length = d' := by rw [← hd's]; simp
    have e2 : d.extract 0 l.length = d := by rw [← hds]; simp
    rw [e1, e2] at h3
    have h4 := h3.map rows
    have e3 : d.toList.map rows = l := by
      apply List.ext_getElem
      · simp [d, hn]
      · intro j h1 h2
        simp [d, rows]
    rwa [e3] at h4
  · have hd's : d'.size = l.length := by rw [hp.1, hds]
    rw [List.pairwise_map, List.pairwise_iff_getElem]
    intro a b' ha hb hab
    have := hs a b' (Nat.zero_le _) hab (by simp at hb; omega)
    rw [getElem!_pos d' b' (by simpa using hb), getElem!_pos d' a (by simpa using ha)] at this
    simpa [ltOf] using this
  · have hd's : d'.size = l.length := by rw [hp.1, hds]
    have hlen' : ((d'.toList.map rows).flatMap E).length = l.length * k := by rw [rows_len hk]; simp [hd's]
    have hcl3 : l.length * k ≤ c.length := by
      have := congrArg List.length htake
      rw [List.length_take, hlen] at this
      omega
    refine .inr ⟨i, l.length, cap, _, ex, rfl, hilt, get_set_same, by rw [hlen'], ?_, ?_⟩
    · rw [List.take_left' hlen']
    · rcases hcap with ⟨h2, h3, h4⟩ | ⟨h2, h3⟩
      · refine .inl ⟨h2, ?_, h4⟩
        rw [List.length_append, List.length_drop, hlen']
        omega
      · exact .inr ⟨h2, h3⟩
end Go.Proofs.YtfcjehlhoebmnaaGreatDoor.Ab

namespace Go.Proofs.YtfcjehlhoebmnaaGreatDoor.Ab
open Go
set_option linter.unusedVariables false

/-! ### Maps with encoded keys, ranged over -/
section
variable {κ α : Type} {ke : κ → V} {enc : α → V}
theorem mapK_mem {l : List (Nat × κ × α)} {e : Nat × V × V} (h : e ∈ mapK ke enc l) : ∃ x ∈ l, e = (x.1, ke x.2.1, enc x.2.2) := by
  obtain ⟨x, hx, rfl⟩ := List.mem_map.1 h
  exact ⟨x, hx, rfl⟩
theorem mapK_in {l : List (Nat × κ × α)} {x : Nat × κ × α} (h : x ∈ l) : (x.1, ke x.2.1, enc x.2.2) ∈ mapK ke enc l := List.mem_map.2 ⟨x, h, rfl⟩
theorem mapK_stamps (l : List (Nat × κ × α)) : (mapK ke enc l).map (·.1) = l.map (·.1) := by
  unfold mapK
  rw [List.map_map]
  rfl
theorem mapK_len (l : List (Nat × κ × α)) : (mapK ke enc l).length = l.length := by simp [mapK]
theorem kstamp_inj : ∀ {q : List (Nat × κ × α)}, (q.map (·.1)).Nodup → ∀ {x y}, x ∈ q → y ∈ q → x.1 = y.1 → x = y
  | [], _, x, y, hx, _, _ => by cases hx
  | z :: q, hq, x, y, hx, hy, e => by
    have hq' := List.nodup_cons.1 hq
    rcases List.mem_cons.1 hx with h1 | h1
    · rcases List.mem_cons.1 hy with h2 | h2
      · rw [h1, h2]
      · exact absurd (List.mem_map.2 ⟨y, h2, by rw [← e, h1]⟩) hq'.1
    · rcases List.mem_cons.1 hy with h2 | h2
      · exact absurd (List.mem_map.2 ⟨x, h1, by rw [e, h2]⟩) hq'.1
      · exact kstamp_inj hq'.2 h1 h2 e
/-- What was visited is all, in some order. -/
theorem kvis_perm {l vis : List (Nat × κ × α)} (hn : (l.map (·.1)).Nodup) (hv : (vis.map (·.1)).Nodup) (h1 : ∀ e ∈ vis, e ∈ l) (h2 : ∀ e ∈ l, e.1 ∈ vis.map (·.1)) : vis.Perm l := by
  have nl : l.Nodup := (List.pairwise_map.1 hn).imp fun h e => h (by rw [e])
  have nv : vis.Nodup := (List.pairwise_map.1 hv).imp fun h e => h (by rw [e])
  rw [List.perm_ext_iff_of_nodup nv nl]
  intro a
  refine ⟨h1 a, fun ha => ?_⟩
  obtain ⟨b, hb, hab⟩ := List.mem_map.1 (h2 a ha)
  have hbl := h1 b hb
  rw [← kstamp_inj hn hbl ha hab]; exact hb
theorem kvis_all {l vis : List (Nat × κ × α)} (hleft : remOf (mapK ke enc l) (vis.map (·.1)) = []) : ∀ e ∈ l, e.1 ∈ vis.map (·.1) := fun e he => by
  apply Classical.byContradiction
  intro hns
  have : (e.1, ke e.2.1, enc e.2.2) ∈ remOf (mapK ke enc l) (vis.map (·.1)) := by
    unfold remOf
    exact List.mem_filter.2 ⟨mapK_in he, by simpa using hns⟩
  rw [hleft] at this
  simp at this
/-- The next one to visit. -/
theorem kvis_next {l vis : List (Nat × κ × α)} {e : Nat × V × V} (he : e ∈ remOf (mapK ke enc l) (vis.map (·.1))) : ∃ x ∈ l, e = (x.1, ke x.2.1, enc x.2.2) ∧ x.1 ∉ vis.map (·.1) := by
  obtain ⟨h1, h2⟩ := List.mem_filter.1 he
  obtain ⟨x, hx, rfl⟩ := mapK_mem h1
  exact ⟨x, hx, rfl, by simpa using h2⟩
theorem kvis_snoc {l vis : List (Nat × κ × α)} {x : Nat × κ × α} (hvn : (vis.map (·.1)).Nodup) (hvl : ∀ e ∈ vis, e ∈ l) (hx : x ∈ l) (hxn : x.1 ∉ vis.map (·.1)) :
    ((vis ++ [x]).map (·.1)).Nodup ∧ (∀ e ∈ vis ++ [x], e ∈ l) ∧ vis.length < l.length := by
  have n1 : ((vis ++ [x]).map (·.1)).Nodup := by
    rw [List.map_append, List.nodup_append]
    exact ⟨hvn, by simp, fun a ha b hb => by simp at hb; subst hb; exact fun hh => hxn (hh ▸ ha)⟩
  have n2 : ∀ e ∈ vis ++ [x], e ∈ l := fun e he => by
    rcases List.mem_append.1 he with h | h
    · exact hvl e h
    · simp at h; subst h; exact hx
  have n3 : (vis ++ [x]).Nodup := (List.pairwise_map.1 n1).imp fun h e => h (by rw [e])
  have := n3.length_le_of_subset n2
  rw [List.length_append] at this
  simp at this
  exact ⟨n1, n2, by omega⟩
theorem kget_mem {κ α : Type} [DecidableEq κ] : ∀ {l : List (Nat × κ × α)} {k : κ} {v : α}, kget l k = some v → ∃ e ∈ l, e.2 = (k, v)
  | [], k, v, h => by simp [kget] at h
  | e :: l, k, v, h => by
    unfold kget at h
    split at h
    · rename_i hk
      exact ⟨e, by simp, Prod.ext hk.symm (Option.some.inj h)⟩
    · obtain ⟨x, hx, he⟩ := kget_mem h
      exact ⟨x, List.mem_cons_of_mem _ hx, he⟩
end
theorem Acc.set {h0 h : AHeap} {e : TypeId} {sz : Nat} {v : V} {cs : List V} (a : Acc h0 h e sz v cs) {i : Nat} (hi : h0.n ≤ i) (hv : idOf v ≠ some i) (o : AObj) : Acc h0 (h.set i o) e sz v cs :=
  ⟨a.own.keep (Keep.set _ _ _) fun k hk he => hv (by rw [hk, he]), a.keep.setNew hi o, a.new⟩
end Go.Proofs.YtfcjehlhoebmnaaGreatDoor.Ab

namespace Go.Proofs.YtfcjehlhoebmnaaGreatDoor.Ab
open Go
set_option linter.unusedVariables false
/-! ### An empty slice: nil, or not -/
theorem VRel.imm0 {ρ : Ren} {v' : Value} (h : VRel ρ (.imm 0 []) v') : VRel ρ .snil v' ∨ VRel ρ .e0 v' := by
  rcases h.imm_inv with ⟨_, _, a, ca, ha, rfl⟩ | ⟨b, o, cap, arr, hb, hn, ho, hx, rfl⟩
  · cases a with
    | none => rw [ha rfl]; exact .inl .snil
    | some a => exact .inr (.e0 a ca)
  · exact .inr (.e0 _ _)
theorem SCallsE.imm0 {P : Program} {f : FuncId} {rest : List V} {h : AHeap} {R : V → AHeap → Prop} {E : AHeap → Prop} (h1 : SCallsE P f (.snil :: rest) h R E) (h2 : SCallsE P f (.e0 :: rest) h R E) : SCallsE P f (.imm 0 [] :: rest) h R E := by
  intro ρ B w0 w args' hw ha
  obtain ⟨v', t, ht, hv, hr⟩ := ha.uncons
  rcases hv.imm0 with hv | hv
  · exact h1 ρ B w0 w args' hw (by rw [ht]; exact LRel.cons hv hr)
  · exact h2 ρ B w0 w args' hw (by rw [ht]; exact LRel.cons hv hr)
theorem SCalls.imm0 {P : Program} {f : FuncId} {rest : List V} {h : AHeap} {R : V → AHeap → Prop} (h1 : SCalls P f (.snil :: rest) h R) (h2 : SCalls P f (.e0 :: rest) h R) : SCalls P f (.imm 0 [] :: rest) h R := SCallsE.imm0 h1 h2
theorem Cast.snil0 (h : AHeap) : Cast .snil h (.imm 0 []) h := fun ρ B w0 w r' hw hv => ⟨ρ, Ren.le.refl ρ, hw, by cases hv; exact .immZ none 0 fun _ => rfl⟩
theorem Cast.e0 (h : AHeap) : Cast .e0 h (.imm 0 []) h := fun ρ B w0 w r' hw hv => ⟨ρ, Ren.le.refl ρ, hw, by cases hv; exact .immZ _ _ fun e => by cases e⟩
theorem castAgg {l l2 : List V} {h h2 : AHeap} (a : CastL l h l2 h2) : Cast (.agg l) h (.agg l2) h2 := fun ρ B w0 w r' hw hv => by
  cases hv with
  | agg hs hx =>
    obtain ⟨ρ1, l1, w1, v1⟩ := a ρ B w0 w _ hw (ARel.list ⟨hs, hx⟩)
    exact ⟨ρ1, l1, w1, v1.arr'.agg⟩
section
variable {P : Program} {t : TypeId} {xo yo : Operand}
theorem e0_nil_eql (h : kindT P t = some 1) : aBin P .eql t xo yo .e0 .snil = some (.bool false) := aBin_nil_eql h (.inl rfl) (.inr ⟨rfl, rfl⟩)
theorem imm_nil_eql {n : Nat} {cs : List V} (h : kindT P t = some 1) (hn : n ≠ 0) : aBin P .eql t xo yo (.imm n cs) .snil = some (.bool false) := aBin_nil_eql h (.inl rfl) (.inr ⟨by simp [refKind, hn], rfl⟩)
theorem nilEq_run1 (h : kindT P t = some 1) : pureRun P (Op.equal t (.slice none 0 0) (.slice none 0 0)) = some true := by
  obtain ⟨d, hu, hd⟩ := kindT_eq h
  unfold Op.equal Op.maxDepth Op.equalIn
  rw [pureRun_bind, pureRun_underlying hu]
  cases d <;> simp [descKind] at hd
  rfl
theorem snil_nil_eql (h : kindT P t = some 1) : aBin P .eql t xo yo .snil .snil = some (.bool true) := by
  refine aBin_flat (v := .bool true) rfl rfl rfl ?_
  show pureRun P (do pure (Value.bool (← Op.equal t (.slice none 0 0) (.slice none 0 0)))) = _
  rw [pureRun_bind, nilEq_run1 h]
  rfl
theorem e0_src {h : AHeap} {sz : Nat} (hk : kindT P t = some 1) : aSrc P sz t .e0 h = some (0, []) := by
  obtain ⟨d, hd, hk'⟩ : ∃ d, P.underlying t = some d ∧ descKind d = some 1 := by
    unfold kindT at hk
    cases hu : P.underlying t with
    | none => rw [hu] at hk; cases hk
    | some d => rw [hu] at hk; exact ⟨d, rfl, hk⟩
  cases d <;> simp [descKind] at hk'
  simp only [aSrc, hd]
end
end Go.Proofs.YtfcjehlhoebmnaaGreatDoor.Ab
namespace Go.Proofs.YtfcjehlhoebmnaaGreatDoor.Ab
open Go
/-! ### Maps whose keys are integers -/
theorem KeyEnc.ofInt {P : Program} {t kt et : TypeId} {kk : IntKind} (hm : mapT P t = some (kt, et, .int kk)) : KeyEnc P kt (.int kk) (V.int kk) where
  eq a b := by rw [eqKey_int rfl]; rfl
  ok b a := checkKey_int (mapT_eq hm).2 rfl
  bits a := ⟨_, rfl, by simp [Instr.sameBits]⟩
end Go.Proofs.YtfcjehlhoebmnaaGreatDoor.Ab
namespace Go.Proofs.YtfcjehlhoebmnaaGreatDoor.Ab
section
variable {M : Nat → Prop} {ev : Operand → V} {t : TypeId} {m k : Operand} {b : Bool}
theorem mOk_lookup : mOk M (ridOp ev (.lookup t m k b)) = mOkV M (ev m) := rfl
theorem mOkV_e0 : mOkV M .e0 = True := eq_true (by intro i hi; cases hi)
theorem mOkV_z0 : mOkV M .z0 = True := eq_true (by intro i hi; cases hi)
theorem mOkV_bool {b : Bool} : mOkV M (.bool b) = True := eq_true (by intro i hi; cases hi)
theorem mOkV_agg {cs : List V} : mOkV M (.agg cs) = True := eq_true (by intro i hi; cases hi)
theorem mOkV_mnil : mOkV M .mnil = True := eq_true (by intro i hi; cases hi)
end
end Go.Proofs.YtfcjehlhoebmnaaGreatDoor.Ab

namespace Go.Proofs.YtfcjehlhoebmnaaGreatDoor.Ab
open Go Go.RowKit
set_option linter.unusedVariables false
/-! ### What lies in a block, told otherwise -/
/-- An own slice whose elements are told otherwise first. -/
theorem Cast.rowC {h h1 : AHeap} {e : TypeId} {sz i len cap : Nat} {cs es : List V} {own1 : Nat → Prop} (ho : Own h e sz (.sl i 0 len cap) cs) (hcl : CastL cs h es h1) (hk1 : Keep h h1 own1) (hne : ¬ own1 i) (hle : es.length = cs.length) :
    ∃ h2, Cast (.sl i 0 len cap) h (.imm len es) h2 ∧ Keep h1 h2 (· = i) := by
  rcases ho with ⟨q | q, _⟩ | ⟨i', len', cap', c, ex, q, hi, hg, hlen, htake, hcap⟩
  · cases q
  · cases q
  simp only [V.sl.injEq] at q
  obtain ⟨rfl, _, rfl, rfl⟩ := q
  have hg1 : h1.get i = .cells c e ex := (hk1.get i hi hne).trans hg
  have hcc : len * sz ≤ c.length := by
    have := congrArg List.length htake
    rw [List.length_take, hlen] at this
    omega
  refine ⟨h1.set i .dead, fun ρ B w0 w r' hw hv => ?_, Keep.set h1 i .dead⟩
  obtain ⟨ρ0, _, hw0, b, cp, arr, hr, hf, hc, hl⟩ := hw.freeze hg
  have L0 : LRel ρ cs (arr.toList.take (len * sz)) := by
    have hal := hl.1
    refine ⟨by rw [← htake]; simp only [List.length_take] at hal ⊢; omega, fun k v v' h1 h2 => ?_⟩
    have hk : k < len * sz := by rw [← hlen]; exact (List.getElem?_eq_some_iff.1 h1).1
    rw [← htake, List.getElem?_take, if_pos hk] at h1
    rw [List.getElem?_take, if_pos hk] at h2
    refine hl.2 k v v' h1 ?_
    rw [List.getElem?_take, if_pos (by omega)]
    exact h2
  obtain ⟨ρ1, le1, hw1, hl1⟩ := hcl ρ B w0 w _ hw L0
  obtain ⟨ρ2, le2, hw2, b', cp', arr', hr', hf', hc', hl'⟩ := hw1.freeze hg1
  have hr1 := le1.ren _ _ hr
  rw [hr1] at hr'
  simp only [Option.some.injEq, Prod.mk.injEq] at hr'
  obtain ⟨rfl, rfl⟩ := hr'
  obtain ⟨b2, cp2, hi2, hl2, rfl⟩ := hv.sl_inv
  rw [hr] at hi2
  simp only [Option.some.injEq, Prod.mk.injEq] at hi2
  obtain ⟨rfl, rfl⟩ := hi2
  have harr : arr' = arr := by
    obtain ⟨e1, f1, q1⟩ := hw0.heap.frz _ _ hf
    obtain ⟨e2, f2, q2⟩ := hw2.heap.frz _ _ hf'
    rw [q1] at q2
    simp only [Option.some.injEq, Obj.cells.injEq] at q2
    exact q2.1.symm
  subst harr
  refine ⟨ρ2, le1.trans le2, hw2, .imm 0 len _ hf' hl2 (by rw [hle, hlen]; omega) fun k v v' h1 h2 => ?_⟩
  have hk : k < len * sz := by rw [← hlen, ← hle]; exact (List.getElem?_eq_some_iff.1 h1).1
  refine (hl1.2 k v v' h1 ?_).mono le2
  rw [List.getElem?_take, if_pos hk, Array.getElem?_toList]
  simpa using h2
/-- What a block holds is told otherwise, where it lies. -/
theorem Cast.cellC {h h1 : AHeap} {X : Nat} {c c2 : List V} {e : TypeId} {ex : Option Nat} (hg : h.get X = .cells c e ex) (hcl : CastL c h c2 h1) (hg1 : h1.get X = .cells c e ex) (hle : c2.length = c.length) (r : V) :
    Cast r h r (h1.set X (.cells c2 e ex)) := fun ρ B w0 w r' hw hv => by
  have ho := hw.heap.obj X
  rw [hg] at ho
  obtain ⟨b, cp, arr, hr, hf, hB, hW, hc, hl, hx⟩ := ho
  obtain ⟨ρ1, le1, hw1, hl1⟩ := hcl ρ B w0 w _ hw hl
  have ho1 := hw1.heap.obj X
  rw [hg1] at ho1
  obtain ⟨b1, cp1, arr1, hr1, hf1, hB1, hW1, hc1, hl2, hx1⟩ := ho1
  have e1 := le1.ren _ _ hr
  rw [hr1] at e1
  simp only [Option.some.injEq, Prod.mk.injEq] at e1
  obtain ⟨rfl, rfl⟩ := e1
  rw [hW1] at hW
  simp only [Option.some.injEq, Obj.cells.injEq] at hW
  obtain ⟨rfl, -, -⟩ := hW
  have sg : ∀ j, j ≠ X → (h1.set X (.cells c2 e ex)).get j = h1.get j := fun j hj => by simp [AHeap.set, hj]
  have sx : (h1.set X (.cells c2 e ex)).get X = .cells c2 e ex := by simp [AHeap.set]
  have live : ∀ j, (h1.set X (.cells c2 e ex)).get j ≠ .dead → h1.get j ≠ .dead := fun j hj => by
    by_cases hjX : j = X
    · subst hjX; rw [hg1]; intro q; cases q
    · rwa [sg j hjX] at hj
  refine ⟨ρ1, le1, ⟨⟨hw1.heap.dom, fun i j b c c' hi hj h2 h3 => hw1.heap.inj i j b c c' (live i hi) (live j hj) h2 h3, fun j => ?_, hw1.heap.frz, hw1.heap.glob, hw1.heap.base⟩, hw1.below⟩, hv.mono le1⟩
  by_cases hj : j = X
  · subst hj
    rw [sx]
    rw [← hle] at hl1
    exact ⟨_, _, _, hr1, hf1, hB1, hW1, by rw [hle]; exact hc1, hl1, by rw [hle]; exact hx1⟩
  · rw [sg j hj]; exact hw1.heap.obj j
/-- After a call, what a block holds is told otherwise. -/
theorem Pure.cellC {P : Program} {f : FuncId} {args : List V} {h h1 : AHeap} {v : V} (hp : Pure P f args h v) {X : Nat} {c c2 : List V} {e : TypeId} {ex : Option Nat} (hg : h.get X = .cells c e ex) (hcl : CastL c h c2 h1) (hg1 : h1.get X = .cells c e ex) (hle : c2.length = c.length) :
    SCalls P f args h (fun r h' => r = v ∧ h' = h1.set X (.cells c2 e ex)) :=
  SCalls.cast (hp.mono fun r h' ⟨e1, e2⟩ => ⟨v, _, by subst e1; subst e2; exact Cast.cellC hg hcl hg1 hle _, rfl, rfl⟩)
/-- Lists that rise by a strict order are told by what is in them. -/
theorem strict_unique {α : Type} {r : α → α → Prop} (hi : ∀ a, ¬ r a a) (ha : ∀ a b, r a b → ¬ r b a) : ∀ {a b : List α}, a.Pairwise r → b.Pairwise r → (∀ c, c ∈ a ↔ c ∈ b) → a = b
  | [], [], _, _, _ => rfl
  | [], y :: b, _, _, h => by have := (h y).2 List.mem_cons_self; cases this
  | x :: a, [], _, _, h => by have := (h x).1 List.mem_cons_self; cases this
  | x :: a, y :: b, pa, pb, h => by
    have pa' := List.pairwise_cons.1 pa
    have pb' := List.pairwise_cons.1 pb
    have hxy : x = y := by
      apply Classical.byContradiction
      intro hne
      have hy : y ∈ a := by
        rcases List.mem_cons.1 ((h y).2 List.mem_cons_self) with e | e
        · exact absurd e.symm hne
        · exact e
      have hx : x ∈ b := by
        rcases List.mem_cons.1 ((h x).1 List.mem_cons_self) with e | e
        · exact absurd e hne
        · exact e
      exact ha _ _ (pa'.1 y hy) (pb'.1 x hx)
    subst hxy
    rw [strict_unique hi ha pa'.2 pb'.2 fun c => ?_]
    constructor
    · intro hc
      rcases List.mem_cons.1 ((h c).1 (List.mem_cons_of_mem _ hc)) with e | e
      · subst e; exact absurd (pa'.1 c hc) (hi c)
      · exact e
    · intro hc
      rcases List.mem_cons.1 ((h c).2 (List.mem_cons_of_mem _ hc)) with e | e
      · subst e; exact absurd (pb'.1 c hc) (hi c)
      · exact e
end Go.Proofs.YtfcjehlhoebmnaaGreatDoor.Ab
namespace Go.Proofs.YtfcjehlhoebmnaaGreatDoor.Ab
open Go Go.RowKit
section
variable {P : Program} {h : AHeap} {s : TypeId}
theorem aConv_sl {i o n c : Nat} (hs : byT P s = true) : aConv P s s (.sl i o n c) h = none := by
  obtain ⟨e, hu, he⟩ := byT_eq hs
  unfold aConv
  have : (flatV (.sl i o n c)).bind (fun a => pureRun P (convert s s a)) = none := rfl
  rw [this]
  simp only [hu]
theorem convM_lit {n cap : Nat} {cs : List V} {e : TypeId} {ex : Option Nat} (hs : byT P s = true) (hl : cs.length = n) : aConvM P s s (.sl h.n 0 n cap) (h.push (.cells cs e ex)) = some (.imm n cs, h.push .dead) := by
  obtain ⟨e', hu, he⟩ := byT_eq hs
  unfold aConvM
  simp only [hu, true_and]
  rw [if_pos he, get_push_new]
  simp only [Nat.zero_add, List.drop_zero]
  rw [if_pos (by omega), List.take_of_length_le (by omega), set_push]
end
end Go.Proofs.YtfcjehlhoebmnaaGreatDoor.Ab
namespace Go.Proofs.YtfcjehlhoebmnaaGreatDoor.Ab
open Go Go.RowKit
/-! ### A slice of slices: what was appended last is told otherwise -/
theorem CastL.mid {l1 l2 : List V} {v v2 : V} {h h2 : AHeap} (c : Cast v h v2 h2) : CastL (l1 ++ v :: l2) h (l1 ++ v2 :: l2) h2 := fun ρ B w0 w l' hw hl => by
  have hlen := hl.1
  rw [List.length_append, List.length_cons] at hlen
  have hv : (l1 ++ v :: l2)[l1.length]? = some v := by simp
  obtain ⟨v', h1, h3⟩ := hl.get hv
  obtain ⟨ρ1, le1, w1, r1⟩ := c ρ B w0 w v' hw h3
  refine ⟨ρ1, le1, w1, by simpa using hl.1, fun k a b ha hb => ?_⟩
  by_cases hk : k = l1.length
  · subst hk
    rw [h1] at hb
    cases hb
    have : a = v2 := by simpa using ha.symm
    subst this
    exact r1
  · refine (hl.2 k a b ?_ hb).mono le1
    by_cases hlt : k < l1.length
    · rw [List.getElem?_append_left hlt] at ha ⊢; exact ha
    · rw [List.getElem?_append_right (by omega)] at ha ⊢
      obtain ⟨j, hj⟩ : ∃ j, k - l1.length = j + 1 := ⟨k - l1.length - 1, by omega⟩
      rw [hj, List.getElem?_cons_succ] at ha ⊢
      exact ha
theorem CastF.of_top {f : AFrame} {h h2 : AHeap} (c : Cast .top h .top h2) : CastF f h f h2 := fun ρ B w0 w n a hw hf => by
  obtain ⟨ρ1, le1, w1, _⟩ := c ρ B w0 w undef hw (.top _)
  exact ⟨ρ1, le1, w1, hf.mono le1⟩
theorem Own.castLast {h h2 : AHeap} {e : TypeId} {v x x2 : V} {cs : List V} {own1 : Nat → Prop} (o : Own h e 1 v (cs ++ [x])) (c : Cast x h x2 h2) (k : Keep h h2 own1) (hne : ∀ i, idOf v = some i → ¬ own1 i) :
    ∃ h3, Cast .top h .top h3 ∧ Own h3 e 1 v (cs ++ [x2]) ∧ Keep h2 h3 (isId v) := by
  rcases o with ⟨_, hcs⟩ | ⟨i, len, cap, c0, ex, rfl, hi, hg, hlen, htake, hcap⟩
  · simp at hcs
  rw [Nat.mul_one] at hlen htake
  have hcl : len ≤ c0.length := by
    have := congrArg List.length htake
    rw [List.length_take, hlen] at this; omega
  have hl1 : len = cs.length + 1 := by rw [← hlen]; simp
  obtain ⟨rest, hc0⟩ : ∃ rest, c0 = cs ++ x :: rest := ⟨c0.drop len, by
    have := (List.take_append_drop len c0).symm
    rw [htake, List.append_assoc] at this
    exact this⟩
  subst hc0
  have hg2 : h2.get i = .cells (cs ++ x :: rest) e ex := (k.get i hi (hne i rfl)).trans hg
  have hle : (cs ++ x2 :: rest).length = (cs ++ x :: rest).length := by simp
  have hca := Cast.cellC hg (CastL.mid c) hg2 hle .top
  refine ⟨_, hca, .inr ⟨i, len, cap, _, ex, rfl, ?_, get_set_same, by simp [hl1], ?_, ?_⟩, (Keep.set _ _ _).mono fun q hq => by simp [isId, idOf, hq]⟩
  · exact Nat.lt_of_lt_of_le hi k.n
  · rw [Nat.mul_one, hl1, show cs ++ x2 :: rest = (cs ++ [x2]) ++ rest by simp, List.take_left' (by simp)]
  · rcases hcap with ⟨h4, h5, h6⟩ | h4
    · exact .inl ⟨h4, by rw [hle]; exact h5, h6⟩
    · exact .inr h4
end Go.Proofs.YtfcjehlhoebmnaaGreatDoor.Ab

namespace Go.Proofs.YtfcjehlhoebmnaaGreatDoor.Ab
/-- What stands behind a statement that leaves a block, told once for all its ways. -/
theorem SWp.cutX {P : Program} {n : Nat} {c : Code} {f : AFrame} {h : AHeap} {X : AExit} (R : AFrame → AHeap → Prop) {Q : Qt} (hs : SWp P n c (Qt.go (.fn fun x f h => @hidI ⟨x = X ∧ R f h⟩)) f h) (hk : ∀ f h, R f h → @endI X Q f h) : SWp P n c (Qt.go Q) f h :=
  hs.mono fun e f h hq => by
    have hq' : e = X ∧ R f h := hq
    obtain ⟨rfl, hr⟩ := hq'
    exact hk f h hr
end Go.Proofs.YtfcjehlhoebmnaaGreatDoor.Ab

namespace Go.Proofs.YtfcjehlhoebmnaaGreatDoor.Ab
open Go Go.RowKit
set_option linter.unusedVariables false
section
variable {H : Type} {enc : TypeId × Value → H} {P : Program} {w : World} {base : Nat} {spare : Nat → Bool} {held : Bool}
/-- A struct that came in, its first field a slice: how many bytes the slice's elements are. -/
theorem arg_field0W {t ft e : TypeId} {fs : Array Field} {f : Field} {k : Nat} {xs : Array Value} {d : DataW H} {ps : List MemPlace} (hu : P.underlying t = some (.struct fs)) (hf : fs[0]? = some f) (hfo : f.offset = 0) (hft : f.type = ft) (hfu : P.underlying ft = some (.slice e)) (hfc : P.cellsOf ft = 1) (hk : P.bytesOf e = k) (hB : ∀ n ∈ d.weights P t, n ≤ reachBytes)
    (h : DataW.Trod enc P w base spare held t (.agg xs) d ps) : ∀ (a : Option Addr) (len cap : Nat), xs.toList[0]? = some (.slice a len cap) → len * k ≤ 2 ^ 47 := by
  intro a len cap hx
  obtain ⟨fuel, htr⟩ := h
  have htr' : DataW.trod enc P w base spare held fuel t xs.toList = some (d, ps) := htr
  obtain ⟨ys, m, _, hxx, _, hyl, hy⟩ := DataW.trod_struct hu htr'
  have h1 := hy 0 f hf
  rw [hfo, hft, hfc, List.drop_zero] at h1
  have htk : xs.toList.take 1 = [.slice a len cap] := by
    cases hl : xs.toList with
    | nil => rw [hl] at hx; simp at hx
    | cons y r => rw [hl] at hx; simp at hx; subst hx; rfl
  rw [htk] at h1
  have hsz : 0 < ys.length := by
    rw [hyl]
    exact (Array.getElem?_eq_some_iff.1 hf).1
  obtain ⟨y, hy0⟩ : ∃ y, ys[0]? = some y := ⟨_, List.getElem?_eq_getElem hsz⟩
  rw [hy0] at h1
  rcases DataW.trod_slice hfu h1 with ⟨hcs, _⟩ | ⟨a2, len2, cap2, elems, rest, m2, _, hcs, hyx, _, _, _, hel, _, _⟩
  · simp only [List.cons.injEq, Value.slice.injEq, and_true] at hcs
    obtain ⟨_, rfl, _⟩ := hcs
    omega
  · simp only [List.cons.injEq, Value.slice.injEq, and_true] at hcs
    obtain ⟨_, rfl, _⟩ := hcs
    have hd : d = .agg (ys.map (·.1)) := by
      have := congrArg Prod.fst hxx
      simpa using this
    have hmem : (elems.length + rest.length) * P.bytesOf e ∈ d.weights P t := by
      obtain ⟨ys0, yr, rfl⟩ : ∃ y0 r, ys = y0 :: r := by
        cases ys with
        | nil => simp at hsz
        | cons a b => exact ⟨a, b, rfl⟩
      simp at hy0
      subst hy0
      obtain ⟨f0, fr, hfl⟩ : ∃ f0 r, fs.toList = f0 :: r := by
        cases hq : fs.toList with
        | nil => rw [← Array.getElem?_toList, hq] at hf; simp at hf
        | cons a b => exact ⟨a, b, rfl⟩
      have hff : f0 = f := by rw [← Array.getElem?_toList, hfl] at hf; simpa using hf
      subst hff
      rw [hd]
      simp only [DataW.weights, hu, hfl, List.map_cons, DataW.weightsEach]
      refine List.mem_append_left _ ?_
      rw [hft, hyx]
      simp [DataW.weights, hfu]
    have h0 := hB _ hmem
    have h2 := reachBytes_lt
    have h3 : len * k ≤ (elems.length + rest.length) * k := Nat.mul_le_mul_right _ (by omega)
    rw [hk] at h0
    omega
end
end Go.Proofs.YtfcjehlhoebmnaaGreatDoor.Ab

namespace Go.Proofs.YtfcjehlhoebmnaaGreatDoor.Ab
open Go Go.RowKit
set_option linter.unusedVariables false
/-! ### A block is told otherwise once, whoever holds it -/
def CastA (v : V) (h : AHeap) (v2 : V) (h2 : AHeap) : Prop :=
  ∀ (ρ : Ren) (B : Nat) (w0 w : World), WRel ρ B w0 h w → ∃ ρ', ρ.le ρ' ∧ WRel ρ' B w0 h2 w ∧ ∀ r', VRel ρ v r' → VRel ρ' v2 r'
theorem CastA.own {h : AHeap} {i n cap sz : Nat} {c z : List V} {e : TypeId} {ex : Option Nat} (hg : h.get i = .cells (c ++ z) e ex) (hc : c.length = n * sz) : CastA (.sl i 0 n cap) h (.imm n c) (h.set i .dead) := fun ρ B w0 w hw => by
  obtain ⟨ρ', hle, hw', b, cp, arr, hr, hf, hca, hl⟩ := hw.freeze hg
  refine ⟨ρ', hle, hw', fun r' hv => ?_⟩
  obtain ⟨b2, cp2, hi2, hl2, rfl⟩ := hv.sl_inv
  rw [hr] at hi2
  simp only [Option.some.injEq, Prod.mk.injEq] at hi2
  obtain ⟨rfl, rfl⟩ := hi2
  rw [List.length_append] at hca
  refine .imm 0 n _ hf hl2 (by omega) fun k v v' h1 h2 => ?_
  have hk : k < c.length := (List.getElem?_eq_some_iff.1 h1).1
  refine (hl.2 k v v' (by rw [List.getElem?_append_left hk]; exact h1) ?_).mono hle
  rw [List.getElem?_take, if_pos (by rw [List.length_append]; omega), Array.getElem?_toList]
  simpa using h2
theorem CastA.cast {v v2 : V} {h h2 : AHeap} (c : CastA v h v2 h2) : Cast v h v2 h2 := fun ρ B w0 w r' hw hv =>
  let ⟨ρ', l, w', f⟩ := c ρ B w0 w hw
  ⟨ρ', l, w', f r' hv⟩
theorem CastA.agg {v v2 : V} {l : List V} {h h2 : AHeap} (a : CastA v h v2 h2) : CastA (.agg (v :: l)) h (.agg (v2 :: l)) h2 := fun ρ B w0 w hw => by
  obtain ⟨ρ', le, w', f⟩ := a ρ B w0 w hw
  refine ⟨ρ', le, w', fun r' hv => ?_⟩
  cases hv with
  | agg hs hx =>
    rename_i xs
    have L : LRel ρ (v :: l) xs.toList := ⟨by simpa using hs, by simpa using hx⟩
    obtain ⟨v', t', e, h1, h2⟩ := L.uncons
    have L2 : LRel ρ' (v2 :: l) xs.toList := by rw [e]; exact LRel.cons (f v' h1) ⟨h2.1, fun k a b ha hb => (h2.2 k a b ha hb).mono le⟩
    exact L2.arr'.agg
/-- A cell that holds the value is told otherwise with it. -/
theorem CastA.cell {h h1 : AHeap} {X : Nat} {v v2 : V} {c : List V} {e : TypeId} {ex : Option Nat} (ca : CastA v h v2 h1) (hg : h.get X = .cells (v :: c) e ex) (hg1 : h1.get X = .cells (v :: c) e ex) :
    CastA v h v2 (h1.set X (.cells (v2 :: c) e ex)) := fun ρ B w0 w hw => by
  have ho := hw.heap.obj X
  rw [hg] at ho
  obtain ⟨b, cp, arr, hr, hf, hB, hW, hc, hl, hx⟩ := ho
  obtain ⟨ρ1, le1, hw1, hall⟩ := ca ρ B w0 w hw
  have hl1 : LRel ρ1 (v2 :: c) (arr.toList.take (v :: c).length) := by
    obtain ⟨v', t', e', p1, p2⟩ := hl.uncons
    rw [e']
    exact LRel.cons (hall v' p1) ⟨p2.1, fun k a b ha hb => (p2.2 k a b ha hb).mono le1⟩
  have ho1 := hw1.heap.obj X
  rw [hg1] at ho1
  obtain ⟨b1, cp1, arr1, hr1, hf1, hB1, hW1, hc1, hl2, hx1⟩ := ho1
  have e1 := le1.ren _ _ hr
  rw [hr1] at e1
  simp only [Option.some.injEq, Prod.mk.injEq] at e1
  obtain ⟨rfl, rfl⟩ := e1
  rw [hW1] at hW
  simp only [Option.some.injEq, Obj.cells.injEq] at hW
  obtain ⟨rfl, -, -⟩ := hW
  have sg : ∀ j, j ≠ X → (h1.set X (.cells (v2 :: c) e ex)).get j = h1.get j := fun j hj => by simp [AHeap.set, hj]
  have sx : (h1.set X (.cells (v2 :: c) e ex)).get X = .cells (v2 :: c) e ex := by simp [AHeap.set]
  have live : ∀ j, (h1.set X (.cells (v2 :: c) e ex)).get j ≠ .dead → h1.get j ≠ .dead := fun j hj => by
    by_cases hjX : j = X
    · subst hjX; rw [hg1]; intro q; cases q
    · rwa [sg j hjX] at hj
  refine ⟨ρ1, le1, ⟨⟨hw1.heap.dom, fun i j b c c' hi hj h2 h3 => hw1.heap.inj i j b c c' (live i hi) (live j hj) h2 h3, fun j => ?_, hw1.heap.frz, hw1.heap.glob, hw1.heap.base⟩, hw1.below⟩, hall⟩
  by_cases hj : j = X
  · subst hj
    rw [sx]
    exact ⟨_, _, _, hr1, hf1, hB1, hW1, hc1, hl1, hx1⟩
  · rw [sg j hj]; exact hw1.heap.obj j
end Go.Proofs.YtfcjehlhoebmnaaGreatDoor.Ab

namespace Go.Proofs.YtfcjehlhoebmnaaGreatDoor.Ab
open Go Go.RowKit
set_option linter.unusedVariables false
set_option linter.unusedSimpArgs false
/-! ### Complex numbers: made of two floats, taken apart -/
section
variable {P : Program} {d : Option Tmp} {ty : TypeId} {pos : String} {aft : Array Edge} {g : Option (Nat × Bool)} {f : AFrame} {h : AHeap} [K : Kt] {x y : Operand}
def b1V (P : Program) (bi : Builtin) (ts : Array TypeId) (ty : TypeId) (cs : Array Bool) (x : V) : Option V :=
  match flatL [x] with
  | some us => match pureRun P (builtin bi ts ty cs us.toArray) with
    | some (.value v) => some (absF v)
    | _ => none
  | none => none
theorem stepA_complex {t t2 : TypeId} : @stepI P ⟨d, .call ⟨.builtin .complex, #[x, y], #[t, t2]⟩, ty, pos, aft, g⟩ K f h = @thenV (mmV P .complex #[t, t2] ty (constsOf #[x, y]) (f.eval h x) (f.eval h y)) d K f h :=
  justV_step (by
    unfold opEval aCall aBuiltin mmV justV
    simp only [List.map_cons, List.map_nil]
    cases flatL [f.eval h x, f.eval h y] with
    | none => rfl
    | some us =>
      simp only
      generalize pureRun P _ = r
      cases r with
      | none => rfl
      | some n => cases n <;> rfl)
theorem stepA_real {t : TypeId} : @stepI P ⟨d, .call ⟨.builtin .real, #[x], #[t]⟩, ty, pos, aft, g⟩ K f h = @thenV (b1V P .real #[t] ty (constsOf #[x]) (f.eval h x)) d K f h :=
  justV_step (by
    unfold opEval aCall aBuiltin b1V justV
    simp only [List.map_cons, List.map_nil]
    cases flatL [f.eval h x] with
    | none => rfl
    | some us =>
      simp only
      generalize pureRun P _ = r
      cases r with
      | none => rfl
      | some n => cases n <;> rfl)
theorem stepA_imag {t : TypeId} : @stepI P ⟨d, .call ⟨.builtin .imag, #[x], #[t]⟩, ty, pos, aft, g⟩ K f h = @thenV (b1V P .imag #[t] ty (constsOf #[x]) (f.eval h x)) d K f h :=
  justV_step (by
    unfold opEval aCall aBuiltin b1V justV
    simp only [List.map_cons, List.map_nil]
    cases flatL [f.eval h x] with
    | none => rfl
    | some us =>
      simp only
      generalize pureRun P _ = r
      cases r with
      | none => rfl
      | some n => cases n <;> rfl)
end
section
variable {P : Program} {ty : TypeId}
theorem mmV_complex {ts : Array TypeId} {cs : Array Bool} {a b : Nat} : mmV P .complex ts ty cs (.float .f64 a) (.float .f64 b) = some (.complex .f64 a b) := rfl
theorem b1V_real {ts : Array TypeId} {cs : Array Bool} {k : FloatKind} {a b : Nat} : b1V P .real ts ty cs (.complex k a b) = some (.float k a) := rfl
theorem b1V_imag {ts : Array TypeId} {cs : Array Bool} {k : FloatKind} {a b : Nat} : b1V P .imag ts ty cs (.complex k a b) = some (.float k b) := rfl
def floatT (P : Program) (t : TypeId) : Option FloatKind := match P.underlying t with | some (.float k) => some k | _ => none
theorem floatT_eq {t : TypeId} {k : FloatKind} (h : floatT P t = some k) : P.underlying t = some (.float k) := by
  unfold floatT at h; split at h
  · rename_i hu; simp at h; subst h; exact hu
  · cases h
theorem intT_eq {t : TypeId} {k : IntKind} (h : intT P t = some k) : P.underlying t = some (.int k) := by
  unfold intT at h; split at h
  · rename_i hu; simp at h; subst h; exact hu
  · cases h
theorem aConv_i2f {src dst : TypeId} {h : AHeap} {k : IntKind} {k2 : FloatKind} {a : Int} (hs : intT P src = some k) (hd : floatT P dst = some k2) : aConv P src dst (.int k a) h = some (.float k2 (k2.nearest a)) := by
  unfold aConv
  have e : (flatV (.int k a)).bind (fun x => pureRun P (convert src dst x)) = some (.float k2 (k2.nearest a)) := by
    show pureRun P (convert src dst (.int k a)) = _
    unfold convert
    rw [pureRun_bind, pureRun_underlying (intT_eq hs), Option.bind_some, pureRun_bind, pureRun_underlying (floatT_eq hd)]
    rfl
  rw [e]
  rfl
theorem aConv_f2i {src dst : TypeId} {h : AHeap} {k : FloatKind} {k2 : IntKind} {b : Nat} {n : Int} (hs : floatT P src = some k) (hd : intT P dst = some k2) (hn : (k.decode b).toInt .zero = some n) (h1 : k2.min ≤ n) (h2 : n ≤ k2.max) : aConv P src dst (.float k b) h = some (.int k2 n) := by
  unfold aConv
  have e : (flatV (.float k b)).bind (fun x => pureRun P (convert src dst x)) = some (.int k2 n) := by
    show pureRun P (convert src dst (.float k b)) = _
    unfold convert
    rw [pureRun_bind, pureRun_underlying (floatT_eq hs), Option.bind_some, pureRun_bind, pureRun_underlying (intT_eq hd)]
    show pureRun P (Conv.floatToInt k b k2) = _
    unfold Conv.floatToInt
    simp only [hn, if_pos (show k2.min ≤ n ∧ n ≤ k2.max from ⟨h1, h2⟩)]
    rfl
  rw [e]
  rfl
theorem cells_float {k : FloatKind} {b : Nat} : (V.float k b).cells = some [.float k b] := rfl
theorem cells_complex {k : FloatKind} {a b : Nat} : (V.complex k a b).cells = some [.complex k a b] := rfl
theorem one_float {k : FloatKind} {b : Nat} : (V.float k b).one = true := rfl
theorem one_complex {k : FloatKind} {a b : Nat} : (V.complex k a b).one = true := rfl
theorem absF_float {k : FloatKind} {b : Nat} : absF (.float k b) = .float k b := rfl
theorem absF_complex {k : FloatKind} {a b : Nat} : absF (.complex k a b) = .complex k a b := rfl
theorem absV_float {k : FloatKind} {b : Nat} : absV (.float k b) = .float k b := rfl
theorem absV_complex {k : FloatKind} {a b : Nat} : absV (.complex k a b) = .complex k a b := rfl
theorem Clo.complex (k : FloatKind) (a b : Nat) : Clo (.complex k a b) := Clo.flat rfl
end
end Go.Proofs.YtfcjehlhoebmnaaGreatDoor.Ab

namespace Go.Proofs.YtfcjehlhoebmnaaGreatDoor.Ab
open Go Go.RowKit
set_option linter.unusedVariables false
section
variable {P : Program}
/-- A slice in a variable, whose room isn't known: it has some room all the same. -/
theorem SWp.room {n : Nat} {c : Code} {Q : AExit → AFrame → AHeap → Prop} {f : AFrame} {h : AHeap} {t : Tmp} {i len sz : Nat} {cs : List V} {e : TypeId} (ht : f t = .sl i 0 len unk) (hg : h.get i = .cells cs e (some sz))
    (hk : ∀ C, len ≤ C → C < 2 ^ 63 → cs.length ≤ C * sz → SWp P n c Q (f.put (some t) (.sl i 0 len C)) (h.set i (.cells (cs ++ List.replicate (C * sz - cs.length) .top) e none))) : SWp P n c Q f h := by
  intro ρ B w0 a w hw hf
  have hr := hf.tmps t
  rw [ht] at hr
  obtain ⟨C, h1, h2, h3, R, hv⟩ := capK_rel hg hw hr
  refine hk C h1 h2 h3 ρ B w0 a w R ⟨fun k => ?_, hf.size, hf.defers⟩
  simp only [AFrame.put]
  by_cases hkt : k = t
  · subst hkt
    simpa using hv
  · simpa [hkt] using hf.tmps k
end
end Go.Proofs.YtfcjehlhoebmnaaGreatDoor.Ab

namespace Go.Proofs.YtfcjehlhoebmnaaGreatDoor.Ab
open Go Go.RowKit
set_option linter.unusedVariables false
set_option linter.unusedSimpArgs false
/-! ### m[k] op= v -/
section
variable {P : Program} {t kt et : TypeId} {d : TypeDesc} {κ : Type} [DecidableEq κ] {ke : κ → V} {α : Type} {enc : α → V}
theorem findStamp : ∀ {es : List (Nat × V × V)} {j : Nat} {e : Nat × V × V}, (es.map (·.1)).Nodup → es[j]? = some e → es.findIdx? (fun x => (x.1 : Int) == (e.1 : Int)) = some j
  | [], j, e, hn, hj => by simp at hj
  | x :: es, 0, e, hn, hj => by
    simp at hj
    subst hj
    rw [List.findIdx?_cons]
    simp
  | x :: es, j + 1, e, hn, hj => by
    simp only [List.map_cons, List.nodup_cons] at hn
    simp only [List.getElem?_cons_succ] at hj
    have hne : x.1 ≠ e.1 := fun hh => hn.1 (hh ▸ List.mem_map.2 ⟨e, List.mem_of_getElem? hj, rfl⟩)
    rw [List.findIdx?_cons, findStamp hn.2 hj]
    have : ((x.1 : Int) == (e.1 : Int)) = false := by simp; omega
    simp [this]
theorem modify_last {β : Type} (f : β → β) : ∀ (X : List β) (y : β), (X ++ [y]).modify X.length f = X ++ [f y]
  | [], y => rfl
  | x :: X, y => by
    rw [List.cons_append, List.length_cons, List.modify_succ_cons, modify_last f X y, List.cons_append]
/-- The entry of a key, and what storing into it makes. -/
theorem entry_k (H : KeyEnc P kt d ke) {z : Value} {z0 : α} {h : AHeap} {i : Nat} {l : List (Nat × κ × α)} {cl : Nat} {k : κ} (hm : mapT P t = some (kt, et, d)) (hz : zeroT P et = some z) (hz0 : absV z = enc z0)
    (hg : h.get i = .map (mapK ke enc l) cl) (hs : Stamps (mapK ke enc l) cl) :
    ∃ (st : Nat) (o : AObj), aMapEntry P t (.map i) (ke k) h = some (.tuple [enc ((kget l k).getD z0), .int .i64 (st : Nat)], h.set i o) ∧
      (∀ (h2 : AHeap) (v : V) (a : α), h2.get i = o → v = enc a → aEntryStore (.map i) (.int .i64 (st : Nat)) v h2 = some (h2.set i (.map (mapK ke enc (kset cl l k a)) (kclk cl l k)))) ∧
      ∀ (h2 : AHeap), h2.get i = o → aLookup P t (.map i) (ke k) false h2 = some (enc ((kget l k).getD z0)) := by
  unfold aMapEntry kclk
  simp only [hm, hg, H.ok, if_true]
  rcases kfind (enc := enc) H k l with ⟨h1, h2, h3, _⟩ | ⟨j, e, h1, h2, h3, h4, h5, _⟩
  · rw [h2, h1]
    simp only [hz]
    refine ⟨cl, .map (mapK ke enc l ++ [(cl, ke k, absV z)]) (cl + 1), by rw [hz0]; rfl, fun hh v a hgg hv => ?_, fun hh hgg => ?_⟩
    · subst hv
      unfold aEntryStore
      simp only [hgg]
      have hsn := hs.snoc (ke k) (absV z)
      have hj : (mapK ke enc l ++ [(cl, ke k, absV z)])[(mapK ke enc l).length]? = some (cl, ke k, absV z) := by simp
      rw [findStamp hsn.2 hj, h3]
      simp only
      rw [modify_last]
      simp [mapK]
    · have hg2 : hh.get i = .map (mapK ke enc (kset cl l k z0)) (cl + 1) := by rw [hgg, h3, hz0]; simp [mapK]
      rw [lookup_k H hm hz hg2 (ok := false), kget_kset, if_pos rfl]
      rfl
  · have hj : (mapK ke enc l)[j]? = some (e.1, ke e.2.1, enc e.2.2) := by simp [mapK, h2]
    obtain ⟨v, hv, hsb⟩ := H.bits k
    rw [h1, h4]
    simp only [hj, Option.bind_some, h3, hv, hsb, if_true]
    have hself : (mapK ke enc l).modify j (fun e => (e.1, ke k, e.2.2)) = mapK ke enc l := by
      apply List.ext_getElem?
      intro q
      rw [List.getElem?_modify]
      by_cases hq : j = q
      · subst hq
        rw [hj]
        simp [h3]
      · simp [hq]
    refine ⟨e.1, .map (mapK ke enc l) cl, by rw [hself]; rfl, fun hh v2 a hgg hv2 => ?_, fun hh hgg => by rw [lookup_k H hm hz hgg (ok := false), h4]; rfl⟩
    subst hv2
    unfold aEntryStore
    simp only [hgg]
    rw [findStamp (e := (e.1, ke e.2.1, enc e.2.2)) hs.2 hj]
    simp only
    rw [h5]
    have : (mapK ke enc l).modify j (fun e => (e.1, e.2.1, enc a)) = (mapK ke enc l).modify j (fun e => (e.1, ke k, enc a)) := by
      apply List.ext_getElem?
      intro q
      rw [List.getElem?_modify, List.getElem?_modify]
      by_cases hq : j = q
      · subst hq
        rw [hj]
        simp [h3]
      · simp [hq]
    rw [this]
    rfl
end
end Go.Proofs.YtfcjehlhoebmnaaGreatDoor.Ab

namespace Go.Proofs.YtfcjehlhoebmnaaGreatDoor.Ab
open Go Go.RowKit
set_option linter.unusedVariables false
set_option linter.unusedSimpArgs false

/-! ### A piece of code in a round -/
def SWpR (P : Program) (n l : Nat) (c : Code) (Q : AExit → AFrame → AHeap → Prop) (f : AFrame) (h : AHeap) : Prop :=
  ∀ (ρ : Ren) (B : Nat) (w0 : World) (a : Act) (w : World), WRel ρ B w0 h w → FRel ρ n f a → c.wpIn (Fence.wide.inRound l) 0 P (CPost n B w0 ρ Q) a w
section
variable {P : Program} {n l : Nat} {Q : AExit → AFrame → AHeap → Prop} {f : AFrame} {h : AHeap}
theorem SWpR.mono {Q' : AExit → AFrame → AHeap → Prop} {c : Code} (hs : SWpR P n l c Q f h) (hq : ∀ e f h, Q e f h → Q' e f h) : SWpR P n l c Q' f h :=
  fun ρ B w0 a w hw hf => wpIn_mono (hs ρ B w0 a w hw hf) fun _ _ _ ⟨ρ', x, f', h', hx, hw', hf', hl, hQ⟩ => ⟨ρ', x, f', h', hx, hw', hf', hl, hq _ _ _ hQ⟩
theorem SWpR.region {id : Nat} {ops : Array Oper} (hok : ops.toList.all (fun o => dstOk n o.dst) = true)
    (hq : opsA P ops.toList ops.toList (Q .normal) (Q .panic) f h) : SWpR P n l (.region id ops false) Q f h := by
  intro ρ B w0 a w hw hf
  refine wpIn_region ?_
  have := ops_sound (FOk.inRound l) (rm := 0) (P := P) hok (ρ0 := ρ) ops.toList 0 (by simp) ρ f h a w (Ren.le.refl ρ) hw hf hq
  rwa [Array.length_toList, ← List.range_eq_range'] at this
theorem SWpR.block {id : Nat} {c : Code} (hs : SWpR P n l c (inBlk id Q) f h) : SWpR P n l (.block id c) Q f h := by
  intro ρ B w0 a w hw hf
  refine wpIn_block (wpIn_mono (hs ρ B w0 a w hw hf) fun e a' w' ⟨ρ', x, f', h', hx, hw', hf', hl, hQ⟩ => ?_)
  cases x <;> cases e <;> simp only [XR] at hx
  · exact ⟨ρ', .normal, f', h', trivial, hw', hf', hl, hQ⟩
  · subst hx
    simp only [inBlk] at hQ
    simp only [Exit.inBlock]
    split
    · rename_i he
      simp only [he, if_true] at hQ
      exact ⟨ρ', .normal, f', h', trivial, hw', hf', hl, hQ⟩
    · rename_i he
      simp only [he, if_false] at hQ
      exact ⟨ρ', .exit _, f', h', rfl, hw', hf', hl, hQ⟩
  · exact ⟨ρ', .goto _, f', h', hx, hw', hf', hl, hQ⟩
  · exact ⟨ρ', .ret, f', h', trivial, hw', hf', hl, hQ⟩
  · exact ⟨ρ', .panic, f', h', hx, hw', hf', hl, hQ⟩
end

/-! ### Pinned blocks -/
theorem frame_rel {ρ : Ren} {n : Nat} {f : AFrame} {a : Act} (hf : FRel ρ n f a) : LRel ρ ((List.range n).map f) a.tmps.toList := by
  refine ⟨by simp [hf.size], fun k v v' h1 h2 => ?_⟩
  have hk : k < n := by have := (List.getElem?_eq_some_iff.1 h1).1; simpa using this
  have ht := hf.tmps k
  simp only [List.getElem?_map, List.getElem?_range hk, Option.map_some, Option.some.injEq] at h1
  have h2' : a.tmps[k]? = some v' := by simpa using h2
  rw [Array.getD_eq_getD_getElem?, h2'] at ht
  subst h1
  exact ht
theorem rel_frame {ρ : Ren} {n : Nat} {f : AFrame} {arr : List Value} (hl : LRel ρ ((List.range n).map f) arr) (hd : ρ.dfr = []) : FRel ρ n (fun t => if t < n then f t else .top) { tmps := arr.toArray, defers := [] } := by
  have hs : arr.length = n := by have := hl.1; simpa using this.symm
  refine ⟨fun t => ?_, by simpa using hs, hd.symm⟩
  simp only
  split
  · rename_i ht
    obtain ⟨v', h1, h2⟩ := hl.get (k := t) (v := f t) (by simp [ht])
    have : (arr.toArray).getD t undef = v' := by rw [Array.getD_eq_getD_getElem?]; simp [h1]
    rw [this]; exact h2
  · exact .top _
theorem WRel.pinSet {ρ : Ren} {B : Nat} {w0 : World} {h : AHeap} {w : World} (R : WRel ρ B w0 h w) {i l c : Nat} (hi : ρ.ren i = some (l, c)) {k : PinK} {vs : List V} (hg : h.get i = .pin k vs) :
    ∃ arr, PinAt ρ w l arr k ∧ LRel ρ vs arr ∧ l < w.heap.size ∧ ∀ k' ob, PinAt ρ (w.putObj l ob) l arr k' → WRel ρ B w0 (h.set i (.pin k' vs)) (w.putObj l ob) := by
  have ho := R.heap.obj i
  rw [hg] at ho
  obtain ⟨b, cp, arr, hr, hf, hB, hw, hl⟩ := ho
  rw [hi] at hr
  simp only [Option.some.injEq, Prod.mk.injEq] at hr
  obtain ⟨rfl, rfl⟩ := hr
  have hlt : l < w.heap.size := by
    cases k with
    | dfd => exact (Array.getElem?_eq_some_iff.1 hw).1
    | loop j p a bd y => obtain ⟨_, _, _, _, h2⟩ := hw; exact (Array.getElem?_eq_some_iff.1 h2).1
  refine ⟨arr, hw, hl, hlt, fun k' ob hp => R.setO hi (by rw [hg]; simp) (fun k hk => World.putObj_heap_other hk) (by simp) ⟨rfl, rfl, rfl, by simp, fun k hk => World.putObj_heap_other (by omega), Nat.le_refl _⟩ ?_⟩
  exact ⟨l, c, arr, hi, hf, hB, hp, hl⟩
theorem WRel.pinNew {ρ : Ren} {B : Nat} {w0 : World} {h : AHeap} {w : World} (R : WRel ρ B w0 h w) (k : PinK) (ob : Obj) {vs : List V} {arr : List Value} (hl : LRel ρ vs arr) (hp : ∀ ρ', ρ.le ρ' → PinAt ρ' (w.alloc ob) w.heap.size arr k) :
    ∃ ρ', ρ.le ρ' ∧ ρ'.ren h.n = some (w.heap.size, 0) ∧ WRel ρ' B w0 (h.push (.pin k vs)) (w.alloc ob) := by
  have hle := Ren.le_add (R.heap.dom _ (Nat.le_refl _)) w.heap.size 0
  have hnf : ρ.frz w.heap.size = none := by
    cases hf : ρ.frz w.heap.size with
    | none => rfl
    | some a =>
      obtain ⟨e, fz, hw⟩ := R.heap.frz _ _ hf
      have := (Array.getElem?_eq_some_iff.1 hw).1
      omega
  have hold : ∀ k, k < w.heap.size → (w.alloc ob).heap[k]? = w.heap[k]? := fun k hk => Below.heap_alloc _ _ _ hk
  obtain ⟨h1, h2⟩ := R.pushO (w' := w.alloc ob) (o := .pin k vs) 0 (by simp) hold ((Bel.refl _ _).alloc R.heap.base _) ⟨w.heap.size, 0, arr, Ren.add_new, hnf, R.heap.base, hp _ hle, hl.mono hle⟩
  exact ⟨_, h1, Ren.add_new, h2⟩

/-! ### The rule -/
/-- The frame of a round whose one parameter is v. -/
def roundF (n : Nat) (f : AFrame) (p : Tmp) (v : V) : AFrame := AFrame.put (fun t => if t < n then f t else .top) (some p) v
theorem SRound.of {P : Program} {n i jd : Nat} {assign body : Code} {p : Tmp} {f : AFrame} {v : V} {h : AHeap} {R : V → AHeap → Prop} (hp : p < n)
    (hg : h.get i = .pin (.loop jd p assign body false) ((List.range n).map f)) (M : AFrame → AHeap → Prop)
    (ha : ∀ l, SWpR P n l assign (fun z f' h' => z = .normal ∧ h'.get i = .pin (.loop jd p assign body false) ((List.range n).map f) ∧ M f' h') (roundF n f p v) h)
    (hb : ∀ l f' h', M f' h' → SWpR P n l body (fun z _ h2 => z = .normal ∧ h2.get i = .pin (.loop jd p assign body true) ((List.range n).map f) ∧ R (.bool true) (h2.set i (.pin (.loop jd p assign body false) ((List.range n).map f)))) f' (h'.set i (.pin (.loop jd p assign body true) ((List.range n).map f)))) :
    SRound P i [v] h R := by
  intro ρ B w0 w args' l c hi hw ha'
  obtain ⟨arr, ⟨D, cD, fn, hD, hL⟩, hlr, _, _⟩ := hw.pinSet hi hg
  obtain ⟨v', t', he, hv, ht⟩ := ha'.uncons
  obtain rfl := ht.eq_nil
  have hargs : args' = #[v'] := by apply Array.ext'; simpa using he
  subst hargs
  have hy := run_yield (P := P) (args := #[v']) hL rfl
  refine ⟨fn, _, assign, body, hy, roundIn_of_wpIn trivial ?_⟩
  have hfr : FRel { ρ with dfr := [] } n (roundF n f p v) { tmps := ((#[p].zip #[v']).foldl (fun tmps (t, a) => tmps.setIfInBounds t a) arr.toArray), defers := [] } := by
    have := (rel_frame (ρ := { ρ with dfr := [] }) (hlr.dfr []) rfl).put (hv.dfr []) (some p) (by simp [dstOk, hp])
    simpa [Act.put, roundF] using this
  refine wpIn_mono (ha l { ρ with dfr := [] } B w0 _ w (hw.dfr []) hfr) fun e a1 w1 ⟨ρ1, x, f1, h1, hx, hw1, hf1, hl1, hQ⟩ => ?_
  obtain ⟨rfl, hg1, hM⟩ := hQ
  cases e <;> simp only [XR] at hx
  have hi1 := hl1.ren i _ hi
  obtain ⟨arr1, ⟨D1, cD1, fn1, hD1, hL1⟩, hlr1, hlt1, hset⟩ := hw1.pinSet hi1 hg1
  refine ⟨_, run_beginRound hL1 rfl, ?_⟩
  have hw2 := hset (.loop jd p assign body true) (loopO fn1 p assign body D1 .busy arr1) ⟨D1, cD1, fn1, hD1, World.putObj_heap_same hlt1⟩
  refine wpIn_mono (hb l f1 h1 hM ρ1 B w0 a1 _ hw2 hf1) fun e a3 w3 ⟨ρ3, x, f3, h3, hx, hw3, hf3, hl3, hQ⟩ => ?_
  obtain ⟨rfl, hg3, hR⟩ := hQ
  cases e <;> simp only [XR] at hx
  have hi3 := hl3.ren i _ hi1
  obtain ⟨arr3, ⟨D3, cD3, fn3, hD3, hL3⟩, hlr3, hlt3, hset3⟩ := hw3.pinSet hi3 hg3
  refine ⟨_, _, run_endRound none hL3, ?_⟩
  have hw4 := hset3 (.loop jd p assign body false) (loopO fn3 p assign body D3 .ready arr3) ⟨D3, cD3, fn3, hD3, World.putObj_heap_same hlt3⟩
  have hl13 := hl1.trans hl3
  exact ⟨{ ρ3 with dfr := ρ.dfr }, .bool true, .bool true, _, rfl, .bool _, hw4.dfr ρ.dfr, ⟨hl13.ren, hl13.frz, rfl⟩, hR⟩

/-- A function whose last statement ranges over a function. -/
theorem SCalls.enterF {P : Program} {fid gf : FuncId} {fn : Func} {A A2 assign body : Code} {id : Nat} {g p : Tmp} (hfn : P.funcs[fid]? = some fn)
    (hb : fn.body = some (.seq A (.seq A2 (.block id (.rangeFunc (.tmp g) #[p] assign body))))) (hcal : callable P gf = true) {args : List V} (hlen : args.length ≤ fn.ntmps) {h : AHeap} {R : V → AHeap → Prop} {K : AFrame → AHeap → Prop} {caps : AFrame → List V}
    (h1 : SWp P fn.ntmps A (fun z f h => z = .normal ∧ SWp P fn.ntmps A2 (fun z f h => z = .normal ∧ K f h) f h) (enterF args) h)
    (hg : ∀ f h, K f h → f g = .func (.func gf) [] (caps f))
    (hcall : ∀ f h1, K f h1 → SCalls P gf (.func (.yield (h1.n + 1)) [] [] :: caps f) ((h1.push (.pin .dfd [])).push (.pin (.loop h1.n p assign body false) ((List.range fn.ntmps).map f))) (fun _ h3 => h3.get (h1.n + 1) = .pin (.loop h1.n p assign body false) ((List.range fn.ntmps).map f) ∧ h3.get h1.n = .pin .dfd [] ∧
        (∃ r, resultsA P fn.results.toList f ((h3.set (h1.n + 1) .dead).set h1.n .dead) = some r ∧ R r ((h3.set (h1.n + 1) .dead).set h1.n .dead)))) : SCalls P fid args h R := by
  intro ρ B w0 w args' hw ha
  refine callsIn_wide.1 (callsIn_of_wp_marks (n := 0) hfn hb trivial ?_)
  apply wpIn_seq
  refine wpIn_mono (wpIn_wide.2 (h1 { ρ with dfr := [] } B w0 _ w (hw.dfr []) (enter_rel (ha.dfr []) hlen rfl))) ?_
  rintro e a1 w1 ⟨ρ1, z, f1, hh1, hx, hw1, hf1, hl1, rfl, h2⟩
  cases e <;> simp only [XR] at hx
  show (Code.seq A2 _).wpIn Fence.wide 0 P _ a1 w1
  apply wpIn_seq
  refine wpIn_mono (wpIn_wide.2 (h2 ρ1 B w0 a1 w1 hw1 hf1)) ?_
  rintro e a2 w2 ⟨ρ2, z, f2, hh2, hx, hw2, hf2, hl2, rfl, hK⟩
  cases e <;> simp only [XR] at hx
  show (Code.block id _).wpIn Fence.wide 0 P _ a2 w2
  apply wpIn_block
  have hl12 := hl1.trans hl2
  have hd2 : a2.defers = [] := (hf2.defers.trans hl2.dfr).trans hl1.dfr
  refine wpIn_rangeFunc ?_
  intro q hq
  -- the two blocks of the loop
  obtain ⟨ρ3, hl3, hn3, hw3⟩ := hw2.pinNew .dfd (.deferred (some [])) (LRel.nil ρ2) fun _ _ => World.alloc_heap_new _ _
  have hfl : LRel ρ3 ((List.range fn.ntmps).map f2) a2.tmps.toList := (frame_rel hf2).mono hl3
  have hsz : (w2.alloc (Obj.deferred (some []))).heap.size = w2.heap.size + 1 := by simp
  obtain ⟨ρ4, hl4, hn4, hw4⟩ := hw3.pinNew (.loop hh2.n p assign body false) (loopO q p assign body w2.heap.size .ready a2.tmps.toList) hfl fun ρ' hle => ⟨w2.heap.size, 0, q, hle.ren _ _ hn3, World.alloc_heap_new _ _⟩
  rw [hsz] at hn4
  have hcl := hcall f2 hh2 hK
  have hgv := hf2.tmps g
  rw [hg f2 hh2 hK] at hgv
  obtain ⟨caps', hcaps, hgv'⟩ : ∃ caps' : Array Value, LRel ρ4 (caps f2) caps'.toList ∧ a2.eval (.tmp g) = .func (.func gf) #[] caps' := by
    have he : a2.eval (.tmp g) = a2.tmps.getD g undef := rfl
    rw [he]
    generalize a2.tmps.getD g undef = x at hgv
    cases hgv with
    | func fn' _ hs1 hs2 hx hy =>
      rename_i xs' ys' _
      have : xs' = #[] := Array.eq_empty_of_size_eq_zero hs1.symm
      subst this
      exact ⟨ys', ((ARel.list ⟨hs2, hy⟩).mono hl3).mono hl4, rfl⟩
  have hargs : LRel ρ4 (.func (.yield (hh2.n + 1)) [] [] :: caps f2) (#[Value.func (.yield (w2.heap.size + 1)) #[] #[]] ++ caps').toList := by
    have h0 : VRel ρ4 (.func (.yield (hh2.n + 1)) [] []) (.func (.yield (w2.heap.size + 1)) #[] #[]) := .yl hn4
    simpa using LRel.cons h0 hcaps
  have hrun := run_enterLoop_outer (P := P) (w := w2) q a2.tmps #[p] assign body
  have hwe : loopO q p assign body w2.heap.size .ready a2.tmps.toList = .loop { state := .ready, pending := none, fn := q, tmps := a2.tmps, params := #[p], assign, body, defers := w2.heap.size } := by simp [loopO]
  rw [hwe] at hw4
  obtain ⟨W, hW⟩ : ∃ W, W = (w2.alloc (.deferred (some []))).alloc (.loop { state := .ready, pending := none, fn := q, tmps := a2.tmps, params := #[p], assign, body, defers := w2.heap.size }) := ⟨_, rfl⟩
  rw [← hW] at hw4 hrun
  obtain ⟨fn0, hfn0, hcb⟩ : ∃ fn0, P.funcs[gf]? = some fn0 ∧ (fn0.body.isSome && fn0.name != "runtime.NumGoroutine") = true := by
    unfold callable at hcal
    split at hcal
    · rename_i fn0 hf0; exact ⟨fn0, hf0, hcal⟩
    · cases hcal
  simp only [Bool.and_eq_true, bne_iff_ne, ne_eq] at hcb
  have hbn : fn0.body.isNone = false := by cases hb : fn0.body <;> simp_all
  refine ⟨w2.heap.size + 1, [{ target := .collected w2.heap.size, args := #[] }], W, { target := .fn (.func gf) caps', args := #[.func (.yield (w2.heap.size + 1)) #[] #[]] }, W, gf,
    #[.func (.yield (w2.heap.size + 1)) #[] #[]] ++ caps', W, hrun, ?_, ?_, ?_, (fun hh => by cases hh), ?_⟩
  · simp only [resolve, hgv']
    simp [go_sem]
  · intro f' hf'; trivial
  · simp only [invoke, callFunc]
    simp [hfn0, hcb.2]
    intro hh
    simp [hh] at hbn
  · refine callsIn_wide.2 ((hcl ρ4 B w0 _ _ hw4 hargs).mono fun e w5 hh => ?_)
    rcases hh with ⟨ρ5, r, r', h5, rfl, hv5, hw5, hl5, hgl, hgD, r6, hr6, hR⟩ | ⟨_, _, _, _, _, _, _, hE⟩
    case inr => exact hE.elim
    have hnl : ρ5.ren (hh2.n + 1) = some (w2.heap.size + 1, 0) := hl5.ren _ _ hn4
    have hnD : ρ5.ren hh2.n = some (w2.heap.size, 0) := hl5.ren _ _ (hl4.ren _ _ hn3)
    obtain ⟨arr5, ⟨D5, cD5, q5, hD5, hL5⟩, _, hlt5, hset5⟩ := hw5.pinSet hnl hgl
    rw [hnD] at hD5
    simp only [Option.some.injEq, Prod.mk.injEq] at hD5
    obtain ⟨rfl, rfl⟩ := hD5
    obtain ⟨arrD, hwD, hlD, hltD, hsetD⟩ := hw5.pinSet hnD hgD
    refine ⟨none, _, run_endLoop hL5 (by simp [loopO]), ?_⟩
    have hne : w2.heap.size ≠ w2.heap.size + 1 := by omega
    obtain ⟨OB, hOB⟩ : ∃ OB : Obj, OB = .loop { state := .exhausted, pending := none, fn := q5, tmps := arr5.toArray, params := #[p], assign, body, defers := w2.heap.size } := ⟨_, rfl⟩
    have hwD6 : (w5.putObj (w2.heap.size + 1) OB).heap[w2.heap.size]? = some (.deferred (some [])) := (World.putObj_heap_other hne).trans hwD
    -- the world behind the loop, the two blocks forgotten
    have hwE : WRel ρ5 B w0 ((h5.set (hh2.n + 1) .dead).set hh2.n .dead) ((w5.putObj (w2.heap.size + 1) OB).putObj w2.heap.size (.deferred none)) := by
      have k1 := (hw5.kill (hh2.n + 1)).kill hh2.n
      have d1 : ((h5.set (hh2.n + 1) .dead).set hh2.n .dead).get (hh2.n + 1) = .dead := by simp [AHeap.set]
      have d2 : ((h5.set (hh2.n + 1) .dead).set hh2.n .dead).get hh2.n = .dead := by simp [AHeap.set]
      have ne1 : ∀ i b c, ((h5.set (hh2.n + 1) .dead).set hh2.n .dead).get i ≠ .dead → ρ5.ren i = some (b, c) → b ≠ w2.heap.size + 1 ∧ b ≠ w2.heap.size := fun i b c hi hr => by
        have hg5 : h5.get i ≠ .dead ∧ i ≠ hh2.n + 1 ∧ i ≠ hh2.n := by
          refine ⟨fun hd => hi ?_, fun hd => hi (by rw [hd]; exact d1), fun hd => hi (by rw [hd]; exact d2)⟩
          show (if i = hh2.n then AObj.dead else if i = hh2.n + 1 then AObj.dead else h5.get i) = .dead
          split
          · rfl
          · split
            · rfl
            · exact hd
        refine ⟨fun hb => hg5.2.1 (hw5.heap.inj i _ _ _ _ hg5.1 (by rw [hgl]; simp) hr (by rw [hb]; exact hnl)), fun hb => hg5.2.2 (hw5.heap.inj i _ _ _ _ hg5.1 (by rw [hgD]; simp) hr (by rw [hb]; exact hnD))⟩
      have oth : ∀ b, b ≠ w2.heap.size + 1 → b ≠ w2.heap.size → ((w5.putObj (w2.heap.size + 1) OB).putObj w2.heap.size (.deferred none)).heap[b]? = w5.heap[b]? := fun b h1 h2 => (World.putObj_heap_other h2).trans (World.putObj_heap_other h1)
      have frn : ∀ b arr, ρ5.frz b = some arr → b ≠ w2.heap.size + 1 ∧ b ≠ w2.heap.size := fun b arr hf => by
        have o1 := hw5.heap.obj (hh2.n + 1)
        rw [hgl] at o1
        obtain ⟨b1, c1, _, r1, f1, _⟩ := o1
        rw [hnl] at r1; cases r1
        have o2 := hw5.heap.obj hh2.n
        rw [hgD] at o2
        obtain ⟨b2, c2, _, r2, f2, _⟩ := o2
        rw [hnD] at r2; cases r2
        refine ⟨fun hb => ?_, fun hb => ?_⟩
        · rw [hb, f1] at hf; cases hf
        · rw [hb, f2] at hf; cases hf
      have BB : B ≤ w2.heap.size := hw2.heap.base
      refine ⟨⟨k1.heap.dom, k1.heap.inj, fun i => ?_, fun b arr hf => ?_, k1.heap.glob, by simpa using k1.heap.base⟩, hw5.below.trans ⟨rfl, rfl, rfl, by simp, fun k hk => oth k (by omega) (by omega), Nat.le_refl _⟩⟩
      · have o1 := k1.heap.obj i
        by_cases hi : ((h5.set (hh2.n + 1) .dead).set hh2.n .dead).get i = .dead
        · rw [hi]; exact trivial
        · exact ORel.keep (Ren.le.refl ρ5) o1 fun b c hr => ⟨oth b (ne1 i b c hi hr).1 (ne1 i b c hi hr).2, fun h => h⟩
      · obtain ⟨e, fz, hh⟩ := hw5.heap.frz b arr hf
        exact ⟨e, fz, (oth b (frn b arr hf).1 (frn b arr hf).2).trans hh⟩
    rw [hOB] at hwE hwD6
    show LeavesInM _ _ P fn a2.tmps _ ([{ target := .collected w2.heap.size, args := #[] }] ++ a2.defers) .returning _
    rw [hd2]
    refine ⟨by simp, .inl ⟨w2.heap.size, _, rfl, run_takeDeferred hwD6, ?_⟩⟩
    show ∃ v, (results fn a2.tmps).run P _ = .ok v _ ∧ _
    have hle5 : Ren.le { ρ with dfr := [] } ρ5 := ((hl12.trans hl3).trans hl4).trans hl5
    have hf5 : FRel ρ5 fn.ntmps f2 a2 := hf2.mono ((hl3.trans hl4).trans hl5)
    obtain ⟨r7, q1, q2⟩ := run_resultsA hwE hf5 hr6
    exact ⟨r7, q1, .inl ⟨{ ρ5 with dfr := ρ.dfr }, r6, r7, _, rfl, q2.dfr ρ.dfr, hwE.dfr ρ.dfr, ⟨hle5.ren, hle5.frz, rfl⟩, hR⟩⟩
end Go.Proofs.YtfcjehlhoebmnaaGreatDoor.Ab

namespace Go.Proofs.YtfcjehlhoebmnaaGreatDoor.Ab
open Go Go.RowKit
set_option linter.unusedVariables false
/-! ### Lists of values told otherwise at once, whoever holds them -/
def CastLA (l : List V) (h : AHeap) (l2 : List V) (h2 : AHeap) : Prop :=
  ∀ (ρ : Ren) (B : Nat) (w0 w : World), WRel ρ B w0 h w → ∃ ρ', ρ.le ρ' ∧ WRel ρ' B w0 h2 w ∧ ∀ l', LRel ρ l l' → LRel ρ' l2 l'
theorem CastLA.refl (l : List V) (h : AHeap) : CastLA l h l h := fun ρ B w0 w hw => ⟨ρ, Ren.le.refl ρ, hw, fun _ hl => hl⟩
theorem CastA.refl (v : V) (h : AHeap) : CastA v h v h := fun ρ B w0 w hw => ⟨ρ, Ren.le.refl ρ, hw, fun _ hv => hv⟩
theorem CastA.snil0 (h : AHeap) : CastA .snil h (.imm 0 []) h := fun ρ B w0 w hw => ⟨ρ, Ren.le.refl ρ, hw, fun r' hv => by cases hv; exact .immZ none 0 fun _ => rfl⟩
theorem CastLA.cons {v v2 : V} {l l2 : List V} {h h1 h2 : AHeap} (a : CastA v h v2 h1) (b : CastLA l h1 l2 h2) : CastLA (v :: l) h (v2 :: l2) h2 := fun ρ B w0 w hw => by
  obtain ⟨ρ1, le1, hw1, f1⟩ := a ρ B w0 w hw
  obtain ⟨ρ2, le2, hw2, f2⟩ := b ρ1 B w0 w hw1
  refine ⟨ρ2, le1.trans le2, hw2, fun l' hl => ?_⟩
  obtain ⟨v', t', rfl, h1, h2⟩ := hl.uncons
  exact LRel.cons ((f1 v' h1).mono le2) (f2 t' (h2.mono le1))
theorem CastLA.skip {v : V} {l l2 : List V} {h h2 : AHeap} (b : CastLA l h l2 h2) : CastLA (v :: l) h (v :: l2) h2 := CastLA.cons (CastA.refl v h) b
theorem CastLA.last {v v2 : V} {h h2 : AHeap} (a : CastA v h v2 h2) : CastLA [v] h [v2] h2 := CastLA.cons a (CastLA.refl [] _)
theorem CastLA.agg {l l2 : List V} {h h2 : AHeap} (a : CastLA l h l2 h2) : CastA (.agg l) h (.agg l2) h2 := fun ρ B w0 w hw => by
  obtain ⟨ρ', le, w', f⟩ := a ρ B w0 w hw
  refine ⟨ρ', le, w', fun r' hv => ?_⟩
  cases hv with
  | agg hs hx =>
    rename_i xs
    exact (f xs.toList ⟨by simpa using hs, by simpa using hx⟩).arr'.agg
/-- A row of values is told otherwise by a weaker word. -/
theorem CastLA.wk {l l2 : List V} {h : AHeap} (hw : ∀ ρ l', LRel ρ l l' → LRel ρ l2 l') : CastLA l h l2 h := fun ρ B w0 w R => ⟨ρ, Ren.le.refl ρ, R, fun l' hl => hw ρ l' hl⟩
theorem CastLA.append {a a2 b b2 : List V} {h h1 h2 : AHeap} (ha : CastLA a h a2 h1) (hl : a2.length = a.length) (hb : CastLA b h1 b2 h2) : CastLA (a ++ b) h (a2 ++ b2) h2 := fun ρ B w0 w hw => by
  obtain ⟨ρ1, le1, hw1, f1⟩ := ha ρ B w0 w hw
  obtain ⟨ρ2, le2, hw2, f2⟩ := hb ρ1 B w0 w hw1
  refine ⟨ρ2, le1.trans le2, hw2, fun l' hl' => ?_⟩
  have q1 := hl'.take a.length
  have q2 := hl'.drop a.length
  rw [List.take_left] at q1
  rw [List.drop_left] at q2
  have := ((f1 _ q1).mono le2).append (f2 _ (q2.mono le1))
  rwa [List.take_append_drop] at this
theorem CastLA.row {h h1 : AHeap} {e : TypeId} {sz i len cap : Nat} {cs es : List V} {own1 : Nat → Prop} (ho : Own h e sz (.sl i 0 len cap) cs) (hcl : CastLA cs h es h1) (hk1 : Keep h h1 own1) (hne : ¬ own1 i) (hle : es.length = cs.length) :
    ∃ h2, CastA (.sl i 0 len cap) h (.imm len es) h2 ∧ Keep h1 h2 (· = i) := by
  rcases ho with ⟨q | q, _⟩ | ⟨i', len', cap', c, ex, q, hi, hg, hlen, htake, hcap⟩
  · cases q
  · cases q
  simp only [V.sl.injEq] at q
  obtain ⟨rfl, _, rfl, rfl⟩ := q
  have hg1 : h1.get i = .cells c e ex := (hk1.get i hi hne).trans hg
  have hcc : len * sz ≤ c.length := by
    have := congrArg List.length htake
    rw [List.length_take, hlen] at this
    omega
  refine ⟨h1.set i .dead, fun ρ B w0 w hw => ?_, Keep.set h1 i .dead⟩
  obtain ⟨ρ0, _, hw0, b, cp, arr, hr, hf, hc, hl⟩ := hw.freeze hg
  have L0 : LRel ρ cs (arr.toList.take (len * sz)) := by
    have hal := hl.1
    refine ⟨by rw [← htake]; simp only [List.length_take] at hal ⊢; omega, fun k v v' h1 h2 => ?_⟩
    have hk : k < len * sz := by rw [← hlen]; exact (List.getElem?_eq_some_iff.1 h1).1
    rw [← htake, List.getElem?_take, if_pos hk] at h1
    rw [List.getElem?_take, if_pos hk] at h2
    refine hl.2 k v v' h1 ?_
    rw [List.getElem?_take, if_pos (by omega)]
    exact h2
  obtain ⟨ρ1, le1, hw1, hl1⟩ := hcl ρ B w0 w hw
  replace hl1 := hl1 _ L0
  obtain ⟨ρ2, le2, hw2, b', cp', arr', hr', hf', hc', hl'⟩ := hw1.freeze hg1
  have hr1 := le1.ren _ _ hr
  rw [hr1] at hr'
  simp only [Option.some.injEq, Prod.mk.injEq] at hr'
  obtain ⟨rfl, rfl⟩ := hr'
  have harr : arr' = arr := by
    obtain ⟨e1, f1, q1⟩ := hw0.heap.frz _ _ hf
    obtain ⟨e2, f2, q2⟩ := hw2.heap.frz _ _ hf'
    rw [q1] at q2
    simp only [Option.some.injEq, Obj.cells.injEq] at q2
    exact q2.1.symm
  subst harr
  refine ⟨ρ2, le1.trans le2, hw2, fun r' hv => ?_⟩
  obtain ⟨b2, cp2, hi2, hl2, rfl⟩ := hv.sl_inv
  rw [hr] at hi2
  simp only [Option.some.injEq, Prod.mk.injEq] at hi2
  obtain ⟨rfl, rfl⟩ := hi2
  refine .imm 0 len _ hf' hl2 (by rw [hle, hlen]; omega) fun k v v' h1 h2 => ?_
  have hk : k < len * sz := by rw [← hlen, ← hle]; exact (List.getElem?_eq_some_iff.1 h1).1
  refine (hl1.2 k v v' h1 ?_).mono le2
  rw [List.getElem?_take, if_pos hk, Array.getElem?_toList]
  simpa using h2
theorem CastLA.cell {h h1 : AHeap} {X : Nat} {c c2 : List V} {e : TypeId} {ex : Option Nat} (hg : h.get X = .cells c e ex) (hcl : CastLA c h c2 h1) (hg1 : h1.get X = .cells c e ex) (hle : c2.length = c.length) :
    CastLA c h c2 (h1.set X (.cells c2 e ex)) := fun ρ B w0 w hw => by
  have ho := hw.heap.obj X
  rw [hg] at ho
  obtain ⟨b, cp, arr, hr, hf, hB, hW, hc, hl, hx⟩ := ho
  obtain ⟨ρ1, le1, hw1, hall⟩ := hcl ρ B w0 w hw
  have hl1 := hall _ hl
  have ho1 := hw1.heap.obj X
  rw [hg1] at ho1
  obtain ⟨b1, cp1, arr1, hr1, hf1, hB1, hW1, hc1, hl2, hx1⟩ := ho1
  have e1 := le1.ren _ _ hr
  rw [hr1] at e1
  simp only [Option.some.injEq, Prod.mk.injEq] at e1
  obtain ⟨rfl, rfl⟩ := e1
  rw [hW1] at hW
  simp only [Option.some.injEq, Obj.cells.injEq] at hW
  obtain ⟨rfl, -, -⟩ := hW
  have sg : ∀ j, j ≠ X → (h1.set X (.cells c2 e ex)).get j = h1.get j := fun j hj => by simp [AHeap.set, hj]
  have sx : (h1.set X (.cells c2 e ex)).get X = .cells c2 e ex := by simp [AHeap.set]
  have live : ∀ j, (h1.set X (.cells c2 e ex)).get j ≠ .dead → h1.get j ≠ .dead := fun j hj => by
    by_cases hjX : j = X
    · subst hjX; rw [hg1]; intro q; cases q
    · rwa [sg j hjX] at hj
  refine ⟨ρ1, le1, ⟨⟨hw1.heap.dom, fun i j b c c' hi hj h2 h3 => hw1.heap.inj i j b c c' (live i hi) (live j hj) h2 h3, fun j => ?_, hw1.heap.frz, hw1.heap.glob, hw1.heap.base⟩, hw1.below⟩, hall⟩
  by_cases hj : j = X
  · subst hj
    rw [sx]
    rw [← hle] at hl1
    exact ⟨_, _, _, hr1, hf1, hB1, hW1, by rw [hle]; exact hc1, hl1, by rw [hle]; exact hx1⟩
  · rw [sg j hj]; exact hw1.heap.obj j
end Go.Proofs.YtfcjehlhoebmnaaGreatDoor.Ab

namespace Go.Proofs.YtfcjehlhoebmnaaGreatDoor.Ab
open Go Go.RowKit
set_option linter.unusedVariables false
/-! ### Structs with structs in them, equal or not -/
def kinds2Of (P : Program) : Nat → List Field → Option (List (List Nat × Bool))
  | _, [] => some []
  | o, f :: fs => if f.name ≠ "_" ∧ f.offset = o then
      match P.underlying f.type with
      | some (.int _) => (kinds2Of P (o + 1) fs).map fun l => ([0], false) :: l
      | some (.struct gs) => if P.stoodInHeld f.type = false then
          (match kindsOf P 0 gs.toList, P.info? f.type with
          | some ks, some ti => if ti.size = ks.length then (kinds2Of P (o + ks.length) fs).map fun l => (ks, true) :: l else none
          | _, _ => none)
        else none
      | _ => none
    else none
def structK2 (P : Program) (t : TypeId) : Option (List (List Nat × Bool)) := match P.underlying t with
  | some (.struct fs) => if P.stoodInHeld t = false ∧ P.eqGuardType P.depth t = false then kinds2Of P 0 fs.toList else none
  | _ => none
def eqK2 : List (List Nat × Bool) → List V → List V → Option Bool
  | [], [], [] => some true
  | [], _, _ => none
  | (ks, _) :: r, xs, ys => match eqK ks (xs.take ks.length) (ys.take ks.length), eqK2 r (xs.drop ks.length) (ys.drop ks.length) with
    | some a, some b => some (a && b)
    | _, _ => none
section
variable {P : Program}
theorem pr_sizeOf {t : TypeId} {i : TypeInfo} (h : P.info? t = some i) : pureRun P (sizeOf t) = some i.size := by
  have e : pureRun P (typeInfo t) = some i := by
    unfold typeInfo
    rw [pureRun_bind, pr_program]
    simp only [Option.bind_some, h]
    rfl
  show pureRun P (typeInfo t >>= fun q => pure q.size) = _
  rw [pureRun_bind, e]
  rfl
theorem pr_part_row {t : TypeId} {fs : Array Field} {i : TypeInfo} {cs : Array Value} {o : Nat} (hu : P.underlying t = some (.struct fs)) (hi : P.info? t = some i) : pureRun P (part t cs o) = some (.agg (cs.extract o (o + i.size))) := by
  have ha : pureRun P (isAgg t) = some true := by
    unfold isAgg
    rw [pureRun_bind, pr_underlying hu]
    rfl
  unfold part
  rw [pureRun_bind, ha]
  simp only [Option.bind_some, if_true, pureRun_bind, pr_sizeOf hi, pr_pure]
theorem flatL_take : ∀ {xs : List V} {vs : List Value} (n : Nat), flatL xs = some vs → flatL (xs.take n) = some (vs.take n) ∧ flatL (xs.drop n) = some (vs.drop n)
  | xs, vs, 0, h => ⟨rfl, h⟩
  | [], vs, n + 1, h => by
    obtain rfl : [] = vs := by simpa [flatL] using h
    exact ⟨rfl, rfl⟩
  | x :: xs, vs, n + 1, h => by
    unfold flatL at h
    split at h
    · rename_i a l ha hl
      obtain rfl := Option.some.inj h
      obtain ⟨h1, h2⟩ := flatL_take n hl
      refine ⟨?_, h2⟩
      rw [List.take_succ_cons]
      unfold flatL
      rw [ha, h1]
      rfl
    · cases h
theorem flatL_app : ∀ {xs ys : List V} {vs ws : List Value}, flatL xs = some vs → flatL ys = some ws → flatL (xs ++ ys) = some (vs ++ ws)
  | [], ys, vs, ws, h, h2 => by
    obtain rfl : [] = vs := by simpa [flatL] using h
    exact h2
  | x :: xs, ys, vs, ws, h, h2 => by
    unfold flatL at h
    split at h
    · rename_i a l ha hl
      obtain rfl := Option.some.inj h
      rw [List.cons_append]
      unfold flatL
      rw [ha, flatL_app hl h2]
      rfl
    · cases h
/-- A struct's fields one behind the other. -/
theorem pr_equal_str2 {d : Nat} {t : TypeId} {fs : Array Field} {X Y : Array Value} {b : Bool} (hu : P.underlying t = some (.struct fs)) (hst : P.stoodInHeld t = false) (hrun : pureRun P (Op.eqFields d X Y fs.toList) = some b) :
    pureRun P (Op.equalIn (d + 1) t (.agg X) (.agg Y)) = some b := by
  have hF : ∀ fs : List Field, pureRun P (forIn fs ((none, ()) : Option Bool × Unit) fun f r => if f.name ≠ "_" then do
      let a ← part f.type X f.offset
      let c ← part f.type Y f.offset
      let q ← Op.equalIn d f.type a c
      if (!q) = true then pure (ForInStep.done (some false, ())) else pure (ForInStep.yield (none, ()))
      else pure (ForInStep.yield (none, ()))) = (pureRun P (Op.eqFields d X Y fs)).map fun r => if r then (none, ()) else (some false, ()) := fun fs => by
    induction fs with
    | nil => rfl
    | cons f fs ih =>
      rw [List.forIn_cons]
      unfold Op.eqFields
      by_cases hn : f.name ≠ "_"
      · rw [if_pos hn, if_pos hn]
        simp only [pureRun_bind, Option.bind_assoc]
        cases pureRun P (part f.type X f.offset) with
        | none => rfl
        | some a =>
          simp only [Option.bind_some]
          cases pureRun P (part f.type Y f.offset) with
          | none => rfl
          | some c =>
            simp only [Option.bind_some]
            cases pureRun P (Op.equalIn d f.type a c) with
            | none => rfl
            | some q =>
              cases q
              · rfl
              · simpa [pr_pure] using ih
      · rw [if_neg hn, if_neg hn]
        simp only [pureRun_bind, pr_pure, Option.bind_some]
        exact ih
  unfold Op.equalIn
  simp only [pureRun_bind, pr_underlying hu, Option.bind_some, pr_program, hst, Bool.false_eq_true, if_false]
  rw [← Array.forIn_toList]
  have h2 := hF fs.toList
  rw [hrun] at h2
  first
    | (simp only [pureRun_bind] at *; rw [h2]; cases b <;> rfl)
    | (erw [h2]; cases b <;> rfl)
theorem eqF2_run {d : Nat} {X Y : Array Value} : ∀ (fs : List Field) (o : Nat) (ks : List (List Nat × Bool)) (xs ys : List V) (vx vy : List Value) (b : Bool), kinds2Of P o fs = some ks → eqK2 ks xs ys = some b → flatL xs = some vx → flatL ys = some vy →
    X.toList.drop o = vx → Y.toList.drop o = vy → pureRun P (Op.eqFields (d + 2) X Y fs) = some b
  | [], o, ks, xs, ys, vx, vy, b, hk, he, hx, hy, hX, hY => by
    simp [kinds2Of] at hk
    subst hk
    cases xs <;> cases ys <;> simp [eqK2] at he
    subst he
    rfl
  | f :: fs, o, ks, xs, ys, vx, vy, b, hk, he, hx, hy, hX, hY => by
    unfold kinds2Of at hk
    split at hk
    case isFalse => cases hk
    rename_i hn
    have split2 : ∀ (l : List Nat) (q : Bool) (kr : List (List Nat × Bool)), eqK2 ((l, q) :: kr) xs ys = some b → ∃ a c, eqK l (xs.take l.length) (ys.take l.length) = some a ∧ eqK2 kr (xs.drop l.length) (ys.drop l.length) = some c ∧ b = (a && c) := fun l q kr h => by
      unfold eqK2 at h
      split at h
      · rename_i a c h1 h2
        exact ⟨a, c, h1, h2, (Option.some.inj h).symm⟩
      · cases h
    have fin : ∀ (a c : Bool) (pa pb : Value), pureRun P (part f.type X f.offset) = some pa → pureRun P (part f.type Y f.offset) = some pb → pureRun P (Op.equalIn (d + 2) f.type pa pb) = some a → pureRun P (Op.eqFields (d + 2) X Y fs) = some c →
        pureRun P (Op.eqFields (d + 2) X Y (f :: fs)) = some (a && c) := fun a c pa pb h1 h2 h3 h4 => by
      unfold Op.eqFields
      rw [if_pos hn.1, pureRun_bind, h1]
      simp only [Option.bind_some]
      rw [pureRun_bind, h2]
      simp only [Option.bind_some]
      rw [pureRun_bind, h3]
      simp only [Option.bind_some]
      cases a
      · rfl
      · simpa using h4
    split at hk
    · rename_i kk hu
      obtain ⟨kr, hkr, rfl⟩ := Option.map_eq_some_iff.1 hk
      obtain ⟨a, c, h1, h2, rfl⟩ := split2 _ _ _ he
      simp only [List.length_cons, List.length_nil, Nat.zero_add] at h1 h2
      cases xs with
      | nil => simp [eqK] at h1
      | cons xv r1 =>
        cases ys with
        | nil => cases xv <;> simp [eqK] at h1
        | cons yv r2 =>
          cases xv <;> cases yv <;> first | (simp [eqK] at h1; done) | skip
          rename_i k1 p k2 q
          simp only [List.take_succ_cons, List.take_zero, List.drop_succ_cons, List.drop_zero] at h1 h2
          have h1' : (if k1 = k2 then (eqK [] [] []).map (fun x => (p == q) && x) else none) = some a := h1
          split at h1'
          case isFalse => cases h1'
          rename_i hkk
          subst hkk
          have h1'' : some ((p == q) && true) = some a := h1'
          rw [Bool.and_true] at h1''
          obtain rfl := Option.some.inj h1''
          simp only [flatL, flatV] at hx hy
          cases h5 : flatL r1 with
          | none => rw [h5] at hx; cases hx
          | some w1 =>
            cases h6 : flatL r2 with
            | none => rw [h6] at hy; cases hy
            | some w2 =>
              rw [h5] at hx; rw [h6] at hy
              obtain rfl := Option.some.inj hx
              obtain rfl := Option.some.inj hy
              obtain ⟨g1, g2⟩ := drop_cons hX
              obtain ⟨g3, g4⟩ := drop_cons hY
              have ih := eqF2_run (d := d) fs (o + 1) kr r1 r2 w1 w2 c hkr h2 h5 h6 g2 g4
              rw [hn.2] at fin
              exact fin _ _ _ _ (pr_part hu rfl (by rw [← Array.getElem?_toList]; exact g1)) (pr_part hu rfl (by rw [← Array.getElem?_toList]; exact g3)) (pr_equal_int (d := d + 1) hu) ih
    · rename_i gs hu
      split at hk
      case isFalse => cases hk
      rename_i hst
      split at hk
      case h_2 => cases hk
      rename_i l ti hl hti
      split at hk
      case isFalse => cases hk
      rename_i hsz
      obtain ⟨kr, hkr, rfl⟩ := Option.map_eq_some_iff.1 hk
      obtain ⟨a, c, h1, h2, rfl⟩ := split2 _ _ _ he
      obtain ⟨x1, x2⟩ := flatL_take l.length hx
      obtain ⟨y1, y2⟩ := flatL_take l.length hy
      have dX : X.toList.drop (o + l.length) = vx.drop l.length := by rw [← hX, List.drop_drop]
      have dY : Y.toList.drop (o + l.length) = vy.drop l.length := by rw [← hY, List.drop_drop]
      have ih := eqF2_run (d := d) fs (o + l.length) kr _ _ _ _ c hkr h2 x2 y2 dX dY
      have eX : (X.extract o (o + ti.size)).toList = vx.take l.length := by
        rw [Array.toList_extract, List.extract_eq_take_drop, hX, hsz]
        congr 1
        omega
      have eY : (Y.extract o (o + ti.size)).toList = vy.take l.length := by
        rw [Array.toList_extract, List.extract_eq_take_drop, hY, hsz]
        congr 1
        omega
      have hin := eqF_run (P := P) (d := d) (X := X.extract o (o + ti.size)) (Y := Y.extract o (o + ti.size)) gs.toList 0 l _ _ _ _ a hl h1 x1 y1 (by rw [List.drop_zero]; exact eX) (by rw [List.drop_zero]; exact eY)
      rw [hn.2] at fin
      exact fin _ _ _ _ (pr_part_row hu hti) (pr_part_row hu hti) (pr_equal_str2 hu hst hin) ih
    · cases hk
theorem eqK2_flat : ∀ {ks : List (List Nat × Bool)} {xs ys : List V} {b : Bool}, eqK2 ks xs ys = some b → ∃ vx vy, flatL xs = some vx ∧ flatL ys = some vy
  | [], xs, ys, b, h => by
    cases xs <;> cases ys <;> simp [eqK2] at h
    exact ⟨[], [], rfl, rfl⟩
  | (l, q) :: ks, xs, ys, b, h => by
    unfold eqK2 at h
    split at h
    · rename_i a c h1 h2
      obtain ⟨v1, w1, e1, e2⟩ := eqK_flat h1
      obtain ⟨v2, w2, e3, e4⟩ := eqK2_flat h2
      refine ⟨v1 ++ v2, w1 ++ w2, ?_, ?_⟩
      · have := flatL_app e1 e3; rwa [List.take_append_drop] at this
      · have := flatL_app e2 e4; rwa [List.take_append_drop] at this
    · cases h
theorem pr_equal_agg2 {t : TypeId} {ks : List (List Nat × Bool)} {xs ys : List V} {vx vy : List Value} {b : Bool} (hk : structK2 P t = some ks) (he : eqK2 ks xs ys = some b) (hx : flatL xs = some vx) (hy : flatL ys = some vy) :
    pureRun P (Op.equal t (.agg vx.toArray) (.agg vy.toArray)) = some b ∧ P.eqGuardType P.depth t = false := by
  unfold structK2 at hk
  split at hk
  case h_2 => cases hk
  rename_i fs hu
  split at hk
  case isFalse => cases hk
  rename_i hst
  refine ⟨?_, hst.2⟩
  show pureRun P (Op.equalIn (9999 + 1) t _ _) = some b
  exact pr_equal_str2 hu hst.1 (eqF2_run (P := P) (d := 9997) (X := vx.toArray) (Y := vy.toArray) fs.toList 0 ks xs ys vx vy b hk he hx hy (by simp) (by simp))
theorem aBin_sk2_neq {t : TypeId} {ks : List (List Nat × Bool)} {xs ys : List V} {b : Bool} {xo yo : Operand} (hk : structK2 P t = some ks) (he : eqK2 ks xs ys = some b) : aBin P .neq t xo yo (.agg xs) (.agg ys) = some (.bool (!b)) := by
  obtain ⟨vx, vy, hx, hy⟩ := eqK2_flat he
  obtain ⟨h1, h2⟩ := pr_equal_agg2 hk he hx hy
  unfold aBin
  simp only [plainV, hx, hy, Option.map_some]
  have hg : pureRun P (eqGuard .neq t xo yo (.agg vx.toArray) (.agg vy.toArray)) = some () := by
    simp [eqGuard, pureRun_bind, pr_program, h2, pr_pure]
  rw [pureRun_bind, hg]
  simp only [Option.bind_some, binOp, pureRun_bind, h1, pr_pure, Option.map_some]
  rfl
end
end Go.Proofs.YtfcjehlhoebmnaaGreatDoor.Ab
