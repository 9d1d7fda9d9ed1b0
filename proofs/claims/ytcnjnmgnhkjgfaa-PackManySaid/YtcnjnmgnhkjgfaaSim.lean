/-
  Abstract states for Go code, related to the world by a renaming of blocks; the operations on them, and the rules of code. Conditions: none.
-/
import Derived.WalkKit
import Derived.Below
import Derived.Laws.AppendOwn
import Derived.Laws.CopyRow
import Derived.Laws.Rows
import Derived.Deep.MidRow
import Derived.Deep.AppendSrc
import Derived.Laws.MakeOwn
import Derived.Laws.BytesArg
import Derived.LoopN
import Derived.ScopeJumps
import Derived.Deep.Quiet
import Derived.IntWalk
set_option linter.unusedVariables false
set_option linter.unusedSimpArgs false

namespace Go.Proofs.Ytcnjnmgnhkjgfaa.Sim

/-- An object as the abstract heap holds it: nothing is known of it, or its first cells. -/
inductive AObj where
  | dead
  | cells (c : List Value) (elem : TypeId) (ex : Option Nat) (rw : Bool)
  | view (lo : Nat) (c : List Value)

/-- May it be written? -/
def AObj.wr : AObj → Bool
  | .cells _ _ _ rw => rw
  | _ => false

structure AHeap where
  n : Nat
  get : Nat → AObj

def AHeap.set (h : AHeap) (i : Nat) (o : AObj) : AHeap := { h with get := fun j => if j = i then o else h.get j }
def AHeap.push (h : AHeap) (o : AObj) : AHeap := { n := h.n + 1, get := fun j => if j = h.n then o else h.get j }

/-- Capacities from here on stand for 'what the block has'. -/
def unk : Nat := 2 ^ 64
def capOf (c cap : Nat) : Nat := if cap < unk then cap else c - (cap - unk)

abbrev Ren := Nat → Option (Nat × Nat)
def Ren.le (ρ ρ' : Ren) : Prop := ∀ i x, ρ i = some x → ρ' i = some x
theorem Ren.le.refl (ρ : Ren) : ρ.le ρ := fun _ _ h => h
theorem Ren.le.trans {a b c : Ren} (h : a.le b) (k : b.le c) : a.le c := fun i x hx => k i x (h i x hx)

inductive VRel (ρ : Ren) : Value → Value → Prop
  | bool (b) : VRel ρ (.bool b) (.bool b)
  | int (k n) : VRel ρ (.int k n) (.int k n)
  | float (k b) : VRel ρ (.float k b) (.float k b)
  | complex (k a b) : VRel ρ (.complex k a b) (.complex k a b)
  | string (s) : VRel ρ (.string s) (.string s)
  | nilFunc : VRel ρ .nilFunc .nilFunc
  | nilIface : VRel ρ .nilIface .nilIface
  | ptrNil : VRel ρ (.pointer none) (.pointer none)
  | ptr {i b c : Nat} (h : ρ i = some (b, c)) (o : Nat) : VRel ρ (.pointer (some ⟨i, o, none⟩)) (.pointer (some ⟨b, o, none⟩))
  | sliceNil : VRel ρ (.slice none 0 0) (.slice none 0 0)
  | slice {i b c : Nat} (h : ρ i = some (b, c)) (o len cap : Nat) (hl : len ≤ capOf c cap) :
      VRel ρ (.slice (some ⟨i, o, none⟩) len cap) (.slice (some ⟨b, o, none⟩) len (capOf c cap))
  | mapNil : VRel ρ (.map none) (.map none)
  | map {i b c : Nat} (h : ρ i = some (b, c)) : VRel ρ (.map (some i)) (.map (some b))
  | func (fn : Fn) {xs xs' ys ys' : Array Value} (hs : xs.size = xs'.size) (ht : ys.size = ys'.size)
      (hx : ∀ (k : Nat) (v v' : Value), xs[k]? = some v → xs'[k]? = some v' → VRel ρ v v') (hy : ∀ (k : Nat) (v v' : Value), ys[k]? = some v → ys'[k]? = some v' → VRel ρ v v') :
      VRel ρ (.func fn xs ys) (.func fn xs' ys')
  | iface (t : TypeId) {v v' : Value} (h : VRel ρ v v') : VRel ρ (.iface t v) (.iface t v')
  | agg {xs xs' : Array Value} (hs : xs.size = xs'.size) (hx : ∀ (k : Nat) (v v' : Value), xs[k]? = some v → xs'[k]? = some v' → VRel ρ v v') : VRel ρ (.agg xs) (.agg xs')
  | tuple {xs xs' : Array Value} (hs : xs.size = xs'.size) (hx : ∀ (k : Nat) (v v' : Value), xs[k]? = some v → xs'[k]? = some v' → VRel ρ v v') : VRel ρ (.tuple xs) (.tuple xs')

theorem VRel.mono {ρ ρ' : Ren} (hρ : ρ.le ρ') {v v' : Value} (h : VRel ρ v v') : VRel ρ' v v' := by
  induction h with
  | bool b => exact .bool b
  | int k n => exact .int k n
  | float k b => exact .float k b
  | complex k a b => exact .complex k a b
  | string s => exact .string s
  | nilFunc => exact .nilFunc
  | nilIface => exact .nilIface
  | ptrNil => exact .ptrNil
  | ptr h o => exact .ptr (hρ _ _ h) o
  | sliceNil => exact .sliceNil
  | slice h o len cap hl => exact .slice (hρ _ _ h) o len cap hl
  | mapNil => exact .mapNil
  | map h => exact .map (hρ _ _ h)
  | func fn hs ht _ _ ix iy => exact .func fn hs ht ix iy
  | iface t _ ih => exact .iface t ih
  | agg hs _ ih => exact .agg hs ih
  | tuple hs _ ih => exact .tuple hs ih

/-- Two lists of values, place by place. -/
def LRel (ρ : Ren) (l l' : List Value) : Prop := l.length = l'.length ∧ ∀ (k : Nat) (v v' : Value), l[k]? = some v → l'[k]? = some v' → VRel ρ v v'

theorem LRel.mono {ρ ρ' : Ren} (hρ : ρ.le ρ') {l l' : List Value} (h : LRel ρ l l') : LRel ρ' l l' :=
  ⟨h.1, fun k v v' a b => (h.2 k v v' a b).mono hρ⟩
theorem LRel.nil (ρ : Ren) : LRel ρ [] [] := ⟨rfl, by simp⟩
theorem LRel.cons {ρ : Ren} {v v' : Value} {l l' : List Value} (h : VRel ρ v v') (hl : LRel ρ l l') : LRel ρ (v :: l) (v' :: l') := by
  refine ⟨by simp [hl.1], fun k a b ha hb => ?_⟩
  cases k with
  | zero => simp at ha hb; subst ha; subst hb; exact h
  | succ k => exact hl.2 k a b (by simpa using ha) (by simpa using hb)
theorem LRel.uncons {ρ : Ren} {v : Value} {l l' : List Value} (h : LRel ρ (v :: l) l') : ∃ v' t', l' = v' :: t' ∧ VRel ρ v v' ∧ LRel ρ l t' := by
  cases l' with
  | nil => have := h.1; simp at this
  | cons v' t' => exact ⟨v', t', rfl, h.2 0 v v' rfl rfl, ⟨by simpa using h.1, fun k a b ha hb => h.2 (k + 1) a b (by simpa using ha) (by simpa using hb)⟩⟩
theorem LRel.eq_nil {ρ : Ren} {l' : List Value} (h : LRel ρ [] l') : l' = [] := by
  have := h.1; simp at this; exact List.eq_nil_of_length_eq_zero this.symm
theorem LRel.get {ρ : Ren} {l l' : List Value} (h : LRel ρ l l') {k : Nat} {v : Value} (hv : l[k]? = some v) : ∃ v', l'[k]? = some v' ∧ VRel ρ v v' := by
  have hk : k < l.length := (List.getElem?_eq_some_iff.1 hv).1
  have hk' : k < l'.length := by rw [← h.1]; exact hk
  exact ⟨l'[k], List.getElem?_eq_getElem hk', h.2 k v _ hv (List.getElem?_eq_getElem hk')⟩
theorem LRel.take {ρ : Ren} {l l' : List Value} (h : LRel ρ l l') (n : Nat) : LRel ρ (l.take n) (l'.take n) := by
  refine ⟨by simp [h.1], fun k a b ha hb => ?_⟩
  rw [List.getElem?_take] at ha hb
  split at ha <;> simp_all
  exact h.2 k a b ha hb
theorem LRel.drop {ρ : Ren} {l l' : List Value} (h : LRel ρ l l') (n : Nat) : LRel ρ (l.drop n) (l'.drop n) := by
  refine ⟨by simp [h.1], fun k a b ha hb => ?_⟩
  rw [List.getElem?_drop] at ha hb
  exact h.2 _ a b ha hb
theorem LRel.append {ρ : Ren} {l l' m m' : List Value} (h : LRel ρ l l') (g : LRel ρ m m') : LRel ρ (l ++ m) (l' ++ m') := by
  refine ⟨by simp [h.1, g.1], fun k a b ha hb => ?_⟩
  by_cases hk : k < l.length
  · rw [List.getElem?_append_left hk] at ha
    rw [List.getElem?_append_left (by rw [← h.1]; exact hk)] at hb
    exact h.2 k a b ha hb
  · rw [List.getElem?_append_right (by omega)] at ha
    rw [List.getElem?_append_right (by rw [← h.1]; omega)] at hb
    rw [← h.1] at hb
    exact g.2 _ a b ha hb
theorem LRel.set {ρ : Ren} {l l' : List Value} (h : LRel ρ l l') {v v' : Value} (hv : VRel ρ v v') (n : Nat) : LRel ρ (l.set n v) (l'.set n v') := by
  refine ⟨by simp [h.1], fun k a b ha hb => ?_⟩
  rw [List.getElem?_set] at ha hb
  by_cases hk : n = k
  · subst hk
    simp at ha hb
    obtain ⟨_, rfl⟩ := ha
    obtain ⟨_, rfl⟩ := hb
    exact hv
  · simp [hk] at ha hb
    exact h.2 k a b ha hb
theorem LRel.replicate {ρ : Ren} {v v' : Value} (hv : VRel ρ v v') (n : Nat) : LRel ρ (List.replicate n v) (List.replicate n v') := by
  refine ⟨by simp, fun k a b ha hb => ?_⟩
  simp [List.getElem?_replicate] at ha hb
  obtain ⟨_, rfl⟩ := ha
  obtain ⟨_, rfl⟩ := hb
  exact hv

def ARel (ρ : Ren) (xs xs' : Array Value) : Prop := xs.size = xs'.size ∧ ∀ (k : Nat) (v v' : Value), xs[k]? = some v → xs'[k]? = some v' → VRel ρ v v'
theorem ARel.list {ρ : Ren} {xs xs' : Array Value} (h : ARel ρ xs xs') : LRel ρ xs.toList xs'.toList := ⟨by simpa using h.1, by simpa using h.2⟩
theorem LRel.arr {ρ : Ren} {xs xs' : List Value} (h : LRel ρ xs xs') : ARel ρ xs.toArray xs'.toArray := ⟨by simpa using h.1, by simpa using h.2⟩
theorem ARel.agg {ρ : Ren} {xs xs' : Array Value} (h : ARel ρ xs xs') : VRel ρ (.agg xs) (.agg xs') := .agg h.1 h.2
theorem ARel.mono {ρ ρ' : Ren} (hρ : ρ.le ρ') {l l' : Array Value} (h : ARel ρ l l') : ARel ρ' l l' := ⟨h.1, fun k v v' a b => (h.2 k v v' a b).mono hρ⟩

/-- A value that names no block. -/
def flat : Value → Bool
  | .bool _ | .int .. | .float .. | .complex .. | .string _ | .nilFunc | .nilIface | .pointer none | .slice none 0 0 | .map none => true
  | .tuple xs => xs.isEmpty
  | .func _ xs ys => xs.isEmpty && ys.isEmpty
  | _ => false
def plain : Value → Bool
  | .agg xs => xs.toList.all flat
  | .iface _ v => flat v
  | v => flat v

theorem flat.rel {v : Value} (h : flat v = true) (ρ : Ren) : VRel ρ v v := by
  unfold flat at h
  split at h
  · exact .bool _
  · exact .int _ _
  · exact .float _ _
  · exact .complex _ _ _
  · exact .string _
  · exact .nilFunc
  · exact .nilIface
  · exact .ptrNil
  · exact .sliceNil
  · exact .mapNil
  · rename_i xs
    have : xs = #[] := by simpa using h
    subst this
    exact .tuple rfl (by simp)
  · rename_i xs ys
    simp at h
    obtain ⟨h1, h2⟩ := h
    subst h1; subst h2
    exact .func _ rfl rfl (by simp) (by simp)
  · simp at h
theorem plain.rel {v : Value} (h : plain v = true) (ρ : Ren) : VRel ρ v v := by
  unfold plain at h
  split at h
  · rename_i xs
    refine .agg rfl fun k a b ha hb => ?_
    rw [ha] at hb
    obtain rfl : a = b := by simpa using hb
    simp only [List.all_eq_true] at h
    exact flat.rel (h a (by rw [Array.mem_toList_iff]; exact Array.mem_of_getElem? ha)) ρ
  · exact .iface _ (flat.rel h ρ)
  · exact flat.rel h ρ
theorem VRel.eq_of_flat {ρ : Ren} {v v' : Value} (h : VRel ρ v v') (hf : flat v = true) : v' = v := by
  cases h with
  | func fn hs ht hx hy =>
    simp [flat] at hf
    obtain ⟨rfl, rfl⟩ := hf
    simp at hs ht
    have h1 := Array.eq_empty_of_size_eq_zero hs.symm
    have h2 := Array.eq_empty_of_size_eq_zero ht.symm
    subst h1; subst h2; rfl
  | tuple hs hx =>
    simp [flat] at hf
    subst hf
    simp at hs
    have h1 := Array.eq_empty_of_size_eq_zero hs.symm
    subst h1; rfl
  | agg hs hx => simp [flat] at hf
  | iface t h => simp [flat] at hf
  | ptr h o => simp [flat] at hf
  | slice h o len cap hl => simp [flat] at hf
  | map h => simp [flat] at hf
  | _ => rfl

/-- How long a block is: none: just its known cells; some s: its capacity times s. -/
def XRel (ex : Option Nat) (cp size len : Nat) : Prop := match ex with | none => size = len | some s => size = cp * s

/-- What an abstract object says of the world. -/
def ORel (ρ : Ren) (B : Nat) (w : World) (i : Nat) : AObj → Prop
  | .dead => True
  | .cells c e ex rw => ∃ b cp arr fz, ρ i = some (b, cp) ∧ w.heap[b]? = some (.cells arr e fz) ∧ c.length ≤ arr.size ∧ LRel ρ c (arr.toList.take c.length) ∧
      XRel ex cp arr.size c.length ∧ (rw = true → B ≤ b ∧ fz = (0, 0))
  | .view lo c => ∃ b cp arr e fz, ρ i = some (b, cp) ∧ w.heap[b]? = some (.cells arr e fz) ∧ lo + c.length ≤ arr.size ∧ LRel ρ c ((arr.toList.drop lo).take c.length)

structure HRel (ρ : Ren) (B : Nat) (h : AHeap) (w : World) : Prop where
  dom : ∀ i, h.n ≤ i → ρ i = none
  inj : ∀ i j b c c', (h.get i).wr = true → h.get j ≠ .dead → ρ i = some (b, c) → ρ j = some (b, c') → i = j
  obj : ∀ i, ORel ρ B w i (h.get i)
  base : B ≤ w.heap.size

abbrev AFrame := Nat → Value
def AFrame.put (f : AFrame) (d : Option Tmp) (v : Value) : AFrame :=
  match d with
  | some d => fun t => if t = d then v else f t
  | none => f
def AFrame.eval (f : AFrame) : Operand → Value
  | .tmp t => f t
  | .const v => v
  | .global g => .pointer (some ⟨g, 0, none⟩)
  | .func fid => .func (.func fid) #[] #[]

structure FRel (ρ : Ren) (n : Nat) (f : AFrame) (a : Act) : Prop where
  tmps : ∀ t, VRel ρ (f t) (a.tmps.getD t undef)
  size : a.tmps.size = n
  defers : a.defers = []

theorem FRel.mono {ρ ρ' : Ren} (hρ : ρ.le ρ') {n : Nat} {f : AFrame} {a : Act} (h : FRel ρ n f a) : FRel ρ' n f a := ⟨fun t => (h.tmps t).mono hρ, h.size, h.defers⟩
def dstOk (n : Nat) (d : Option Tmp) : Bool := match d with | some t => decide (t < n) | none => true
theorem FRel.put {ρ : Ren} {n : Nat} {f : AFrame} {a : Act} (h : FRel ρ n f a) {v v' : Value} (hv : VRel ρ v v') (d : Option Tmp) (hd : dstOk n d = true) :
    FRel ρ n (f.put d v) (a.put d v') := by
  cases d with
  | none => exact h
  | some d =>
    have hd : d < n := by simpa [dstOk] using hd
    refine ⟨fun t => ?_, by simp [Act.put, h.size], h.defers⟩
    simp only [Act.put, AFrame.put]
    by_cases ht : t = d
    · subst ht
      simp [h.size, hd, hv]
    · have := h.tmps t
      simp [ht] at this ⊢
      rw [Array.getElem?_setIfInBounds_ne (by omega)]
      exact this

/-- A value is related to one value alone. -/
theorem VRel.functional {ρ : Ren} {v a : Value} (h : VRel ρ v a) : ∀ {b : Value}, VRel ρ v b → a = b := by
  induction h with
  | ptr hi o => intro b hb; cases hb with | ptr hj o => rw [hi] at hj; simp at hj; obtain ⟨rfl, rfl⟩ := hj; rfl
  | slice hi o len cap hl => intro b hb; cases hb with | slice hj o len cap hl => rw [hi] at hj; simp at hj; obtain ⟨rfl, rfl⟩ := hj; rfl
  | map hi => intro b hb; cases hb with | map hj => rw [hi] at hj; simp at hj; obtain ⟨rfl, rfl⟩ := hj; rfl
  | func fn hs ht hx hy ix iy =>
    intro b hb
    cases hb with
    | func fn hs2 ht2 hx2 hy2 =>
      congr 1
      · apply Array.ext (by omega)
        intro k h1 h2
        exact ix k _ _ (Array.getElem?_eq_getElem (by omega)) (Array.getElem?_eq_getElem h1) (hx2 k _ _ (Array.getElem?_eq_getElem (by omega)) (Array.getElem?_eq_getElem h2))
      · apply Array.ext (by omega)
        intro k h1 h2
        exact iy k _ _ (Array.getElem?_eq_getElem (by omega)) (Array.getElem?_eq_getElem h1) (hy2 k _ _ (Array.getElem?_eq_getElem (by omega)) (Array.getElem?_eq_getElem h2))
  | iface t h ih => intro b hb; cases hb with | iface t g => rw [ih g]
  | agg hs hx ix =>
    intro b hb
    cases hb with
    | agg hs2 hx2 =>
      congr 1
      apply Array.ext (by omega)
      intro k h1 h2
      exact ix k _ _ (Array.getElem?_eq_getElem (by omega)) (Array.getElem?_eq_getElem h1) (hx2 k _ _ (Array.getElem?_eq_getElem (by omega)) (Array.getElem?_eq_getElem h2))
  | tuple hs hx ix =>
    intro b hb
    cases hb with
    | tuple hs2 hx2 =>
      congr 1
      apply Array.ext (by omega)
      intro k h1 h2
      exact ix k _ _ (Array.getElem?_eq_getElem (by omega)) (Array.getElem?_eq_getElem h1) (hx2 k _ _ (Array.getElem?_eq_getElem (by omega)) (Array.getElem?_eq_getElem h2))
  | _ => intro b hb; cases hb; rfl
end Go.Proofs.Ytcnjnmgnhkjgfaa.Sim

namespace Go.Proofs.Ytcnjnmgnhkjgfaa.Sim
open Go Go.RowKit

structure WRel (ρ : Ren) (B : Nat) (w0 : World) (h : AHeap) (w : World) : Prop where
  heap : HRel ρ B h w
  below : Below B w0 w

def sizeT (P : Program) (t : TypeId) : Option Nat := (P.info? t).map (·.size)
def bytesT (P : Program) (t : TypeId) : Option Nat := (P.info? t).map (·.bytes)
def zeroT (P : Program) (t : TypeId) : Option Value := (P.info? t).bind (·.zero)
def rowT (P : Program) (t : TypeId) : Option Bool := (P.underlying t).map (·.isRow)
def elemT (P : Program) (t : TypeId) : Option TypeId := match P.underlying t with | some (.slice e) => some e | _ => none

/-! ### Laws of the relation -/
theorem HRel.lt {ρ : Ren} {B : Nat} {h : AHeap} {w : World} (H : HRel ρ B h w) {i b cp : Nat} (hi : ρ i = some (b, cp)) : i < h.n := by
  apply Nat.lt_of_not_le
  intro hle
  rw [H.dom i hle] at hi
  cases hi

theorem HRel.live {ρ : Ren} {B : Nat} {h : AHeap} {w : World} (H : HRel ρ B h w) {i : Nat} (hi : h.get i ≠ .dead) :
    ∃ b cp, ρ i = some (b, cp) ∧ b < w.heap.size ∧ i < h.n := by
  have := H.obj i
  cases hg : h.get i with
  | dead => exact absurd hg hi
  | cells c e ex rw =>
    rw [hg] at this
    obtain ⟨b, cp, arr, fz, hr, hw, _⟩ := this
    exact ⟨b, cp, hr, (Array.getElem?_eq_some_iff.1 hw).1, H.lt hr⟩
  | view lo c =>
    rw [hg] at this
    obtain ⟨b, cp, arr, e, fz, hr, hw, _⟩ := this
    exact ⟨b, cp, hr, (Array.getElem?_eq_some_iff.1 hw).1, H.lt hr⟩

theorem AObj.wr_live {o : AObj} (h : o.wr = true) : o ≠ .dead := by cases o <;> simp_all [AObj.wr]

theorem ORel.keep {ρ ρ' : Ren} (hρ : ρ.le ρ') {B : Nat} {w w' : World} {i : Nat} {o : AObj} (h : ORel ρ B w i o)
    (hk : ∀ b c, ρ i = some (b, c) → w'.heap[b]? = w.heap[b]?) : ORel ρ' B w' i o := by
  cases o with
  | dead => trivial
  | cells c e ex rw =>
    obtain ⟨b, cp, arr, fz, hr, hw, hc, hl, hx, hrw⟩ := h
    exact ⟨b, cp, arr, fz, hρ _ _ hr, (hk b cp hr).trans hw, hc, hl.mono hρ, hx, hrw⟩
  | view lo c =>
    obtain ⟨b, cp, arr, e, fz, hr, hw, hc, hl⟩ := h
    exact ⟨b, cp, arr, e, fz, hρ _ _ hr, (hk b cp hr).trans hw, hc, hl.mono hρ⟩

theorem WRel.pushF {ρ : Ren} {B : Nat} {w0 : World} {h : AHeap} {w w' : World} (R : WRel ρ B w0 h w) {c : List Value} {arr : Array Value} {e : TypeId} {ex : Option Nat} {rw : Bool} {fz : Nat × Nat} (hrw : rw = true → fz = (0, 0)) (cp : Nat)
    (hsz : w.heap.size < w'.heap.size) (hold : ∀ k, k < w.heap.size → w'.heap[k]? = w.heap[k]?) (hnew : w'.heap[w.heap.size]? = some (.cells arr e fz))
    (hb : Below B w w') (hc : c.length ≤ arr.size) (hl : LRel ρ c (arr.toList.take c.length)) (hx : XRel ex cp arr.size c.length) :
    ∃ ρ' : Ren, ρ.le ρ' ∧ ρ' h.n = some (w.heap.size, cp) ∧ WRel ρ' B w0 (h.push (.cells c e ex rw)) w' := by
  have hle : ρ.le (fun i => if i = h.n then some (w.heap.size, cp) else ρ i) := fun i x hi => by
    by_cases hin : i = h.n
    · subst hin; rw [R.heap.dom _ (Nat.le_refl _)] at hi; cases hi
    · simp [hin, hi]
  refine ⟨fun i => if i = h.n then some (w.heap.size, cp) else ρ i, hle, by simp, ⟨⟨fun i hi => ?_, fun i j b c1 c2 hi hj h1 h2 => ?_, fun i => ?_, ?_⟩, R.below.trans hb⟩⟩
  · simp only [AHeap.push] at hi
    simp [show i ≠ h.n by omega, R.heap.dom i (by omega)]
  · simp only [AHeap.push] at hi hj
    by_cases hin : i = h.n <;> by_cases hjn : j = h.n
    · omega
    · simp [hin] at h1; simp [hjn] at h2 hj
      obtain ⟨b', cp', hr, hlt, _⟩ := R.heap.live hj
      rw [hr] at h2; simp at h2; omega
    · simp [hjn] at h2; simp [hin] at h1 hi
      obtain ⟨b', cp', hr, hlt, _⟩ := R.heap.live (AObj.wr_live hi)
      rw [hr] at h1; simp at h1; omega
    · simp [hin] at h1 hi; simp [hjn] at h2 hj
      exact R.heap.inj i j b c1 c2 hi hj h1 h2
  · by_cases hin : i = h.n
    · subst hin
      simp only [AHeap.push, if_true]
      exact ⟨w.heap.size, cp, arr, fz, by simp, hnew, hc, hl.mono hle, hx, fun h => ⟨R.heap.base, hrw h⟩⟩
    · simp only [AHeap.push, if_neg hin]
      by_cases hd : h.get i = .dead
      · rw [hd]; trivial
      · refine (R.heap.obj i).keep hle fun b c1 hr => hold b ?_
        obtain ⟨b', cp', hr', hlt, _⟩ := R.heap.live hd
        rw [hr'] at hr; simp at hr
        obtain ⟨rfl, rfl⟩ := hr
        exact hlt
  · exact Nat.le_trans R.heap.base (Nat.le_of_lt hsz)

theorem WRel.push {ρ : Ren} {B : Nat} {w0 : World} {h : AHeap} {w w' : World} (R : WRel ρ B w0 h w) {c : List Value} {arr : Array Value} {e : TypeId} {ex : Option Nat} (cp : Nat)
    (hsz : w.heap.size < w'.heap.size) (hold : ∀ k, k < w.heap.size → w'.heap[k]? = w.heap[k]?) (hnew : w'.heap[w.heap.size]? = some (.cells arr e (0, 0)))
    (hb : Below B w w') (hc : c.length ≤ arr.size) (hl : LRel ρ c (arr.toList.take c.length)) (hx : XRel ex cp arr.size c.length) :
    ∃ ρ' : Ren, ρ.le ρ' ∧ ρ' h.n = some (w.heap.size, cp) ∧ WRel ρ' B w0 (h.push (.cells c e ex true)) w' :=
  R.pushF (rw := true) (fun _ => rfl) cp hsz hold hnew hb hc hl hx

theorem WRel.setBlk {ρ : Ren} {B : Nat} {w0 : World} {h : AHeap} {w w' : World} (R : WRel ρ B w0 h w) {i b cp : Nat} (hi : ρ i = some (b, cp)) (hwr : (h.get i).wr = true)
    {c : List Value} {arr : Array Value} {e : TypeId} {ex : Option Nat} (hB : B ≤ b)
    (hold : ∀ k, k ≠ b → w'.heap[k]? = w.heap[k]?) (hnew : w'.heap[b]? = some (.cells arr e (0, 0))) (hsz : w.heap.size ≤ w'.heap.size)
    (hb : Below B w w') (hc : c.length ≤ arr.size) (hl : LRel ρ c (arr.toList.take c.length)) (hx : XRel ex cp arr.size c.length) :
    WRel ρ B w0 (h.set i (.cells c e ex true)) w' := by
  refine ⟨⟨R.heap.dom, fun j k b' c1 c2 hj hk h1 h2 => ?_, fun j => ?_, Nat.le_trans R.heap.base hsz⟩, R.below.trans hb⟩
  · refine R.heap.inj j k b' c1 c2 ?_ ?_ h1 h2
    · by_cases hji : j = i
      · subst hji; exact hwr
      · simpa [AHeap.set, hji] using hj
    · by_cases hki : k = i
      · subst hki; exact AObj.wr_live hwr
      · simpa [AHeap.set, hki] using hk
  · by_cases hji : j = i
    · subst hji
      simp only [AHeap.set, if_true]
      exact ⟨b, cp, arr, (0, 0), hi, hnew, hc, hl, hx, fun _ => ⟨hB, rfl⟩⟩
    · simp only [AHeap.set, if_neg hji]
      by_cases hd : h.get j = .dead
      · rw [hd]; trivial
      · refine (R.heap.obj j).keep (Ren.le.refl ρ) fun b2 c1 hr => hold b2 ?_
        intro hbb
        subst hbb
        exact hji (R.heap.inj i j b2 cp c1 hwr hd hi hr).symm

theorem WRel.kill {ρ : Ren} {B : Nat} {w0 : World} {h : AHeap} {w : World} (R : WRel ρ B w0 h w) (i : Nat) : WRel ρ B w0 (h.set i .dead) w := by
  refine ⟨⟨R.heap.dom, fun j k b' c1 c2 hj hk h1 h2 => ?_, fun j => ?_, R.heap.base⟩, R.below⟩
  · refine R.heap.inj j k b' c1 c2 ?_ ?_ h1 h2
    · by_cases hji : j = i
      · subst hji; simp [AHeap.set, AObj.wr] at hj
      · simpa [AHeap.set, hji] using hj
    · by_cases hki : k = i
      · subst hki; simp [AHeap.set] at hk
      · simpa [AHeap.set, hki] using hk
  · by_cases hji : j = i
    · subst hji; simp only [AHeap.set, if_true]; trivial
    · simp only [AHeap.set, if_neg hji]; exact R.heap.obj j

theorem WRel.drew {ρ : Ren} {B : Nat} {w0 : World} {h : AHeap} {w : World} (R : WRel ρ B w0 h w) : WRel ρ B w0 h w.drew :=
  ⟨⟨R.heap.dom, R.heap.inj, R.heap.obj, R.heap.base⟩, R.below.drew⟩

/-! ### What an operation yields -/
def Yields (P : Program) (s : Sem Value) (ρ : Ren) (B : Nat) (w0 w : World) (v : Value) (h' : AHeap) : Prop :=
  ∃ ρ' v' w', s.run P w = .ok v' w' ∧ VRel ρ' v v' ∧ WRel ρ' B w0 h' w' ∧ ρ.le ρ'

theorem Yields.same {P : Program} {s : Sem Value} {ρ : Ren} {B : Nat} {w0 w : World} {v v' : Value} {h : AHeap} (R : WRel ρ B w0 h w) (hr : s.run P w = .ok v' w) (hv : VRel ρ v v') :
    Yields P s ρ B w0 w v h := ⟨ρ, v', w, hr, hv, R, Ren.le.refl ρ⟩

/-- The same with the world left alone. -/
def Keeps (P : Program) (s : Sem Value) (ρ : Ren) (w : World) (v : Value) : Prop := ∃ v', s.run P w = .ok v' w ∧ VRel ρ v v'
theorem Keeps.mk {P : Program} {s : Sem Value} {ρ : Ren} {w : World} {v v' : Value} (hr : s.run P w = .ok v' w) (hv : VRel ρ v v') : Keeps P s ρ w v := ⟨v', hr, hv⟩
theorem Keeps.yields {P : Program} {s : Sem Value} {ρ : Ren} {B : Nat} {w0 w : World} {v : Value} {h : AHeap} (k : Keeps P s ρ w v) (R : WRel ρ B w0 h w) : Yields P s ρ B w0 w v h :=
  let ⟨_, hr, hv⟩ := k
  .same R hr hv

/-! ### Reading -/
/-- The n cells of object i from place o on. -/
def AObj.read (ob : AObj) (o n : Nat) : Option (List Value) :=
  match ob with
  | .cells c _ _ _ => if o + n ≤ c.length then some ((c.drop o).take n) else none
  | .view lo c => if lo ≤ o ∧ o + n ≤ lo + c.length then some ((c.drop (o - lo)).take n) else none
  | .dead => none

theorem read_sound {ρ : Ren} {B : Nat} {h : AHeap} {w : World} (H : HRel ρ B h w) {i b cp : Nat} (hi : ρ i = some (b, cp)) {o n : Nat} {vs : List Value} (hs : (h.get i).read o n = some vs) :
    ∃ cs, w.rangeAt b o cs ∧ LRel ρ vs cs ∧ cs.length = n ∧ vs.length = n := by
  have ho := H.obj i
  unfold AObj.read at hs
  split at hs
  · rename_i c e ex rw hg
    rw [hg] at ho
    obtain ⟨b2, cp2, arr, fz, hr, hw, hc, hl, _⟩ := ho
    rw [hr] at hi; simp at hi
    obtain ⟨rfl, rfl⟩ := hi
    split at hs
    case isFalse => cases hs
    rename_i hn
    obtain rfl : _ = vs := by simpa using hs
    refine ⟨((arr.toList.take c.length).drop o).take n, fun j v hv => ?_, (hl.drop o).take n, by simp; omega, by simp; omega⟩
    simp only [World.cell?, hw, Option.isSome_none, Bool.false_eq_true, if_false]
    rw [List.getElem?_take] at hv
    split at hv
    · rw [List.getElem?_drop, List.getElem?_take] at hv
      split at hv
      · simpa using hv
      · cases hv
    · cases hv
  · rename_i lo c hg
    rw [hg] at ho
    obtain ⟨b2, cp2, arr, e, fz, hr, hw, hc, hl⟩ := ho
    rw [hr] at hi; simp at hi
    obtain ⟨rfl, rfl⟩ := hi
    split at hs
    case isFalse => cases hs
    rename_i hn
    obtain rfl : _ = vs := by simpa using hs
    refine ⟨(((arr.toList.drop lo).take c.length).drop (o - lo)).take n, fun j v hv => ?_, (hl.drop (o - lo)).take n, by simp; omega, by simp; omega⟩
    simp only [World.cell?, hw, Option.isSome_none, Bool.false_eq_true, if_false]
    rw [List.getElem?_take] at hv
    split at hv
    · rw [List.getElem?_drop, List.getElem?_take] at hv
      split at hv
      · rw [List.getElem?_drop, show lo + (o - lo + j) = o + j by omega] at hv
        simpa using hv
      · cases hv
    · cases hv
  · cases hs

/-! ### Loads -/
def aLoad (P : Program) (t : TypeId) (x : Value) (h : AHeap) : Option Value :=
  match x with
  | .pointer (some ⟨i, o, none⟩) =>
    match rowT P t, sizeT P t with
    | some true, some n => match (h.get i).read o n with
      | some vs => some (.agg vs.toArray)
      | none => none
    | some false, some _ => match (h.get i).read o 1 with
      | some [v] => some v
      | _ => none
    | _, _ => none
  | _ => none

theorem aLoad_sound {P : Program} {t : TypeId} {x x' v : Value} {h : AHeap} (hs : aLoad P t x h = some v) {ρ : Ren} {B : Nat} {w0 w : World} (R : WRel ρ B w0 h w) (hx : VRel ρ x x') :
    Keeps P (Instr.loadAt t x') ρ w v := by
  unfold aLoad at hs
  split at hs
  case h_2 => cases hs
  rename_i i o
  cases hx with
  | ptr hi o =>
  rename_i b cp
  cases hq : P.info? t with
  | none => simp [sizeT, hq] at hs
  | some ti =>
  cases hu : P.underlying t with
  | none => simp [rowT, hu] at hs
  | some d =>
  simp only [rowT, hu, sizeT, hq, Option.map_some] at hs
  cases hd : d.isRow with
  | true =>
    simp only [hd] at hs
    split at hs
    case h_2 => cases hs
    rename_i vs hvs
    obtain rfl : _ = v := by simpa using hs
    obtain ⟨cs, hcs, hl, hlen, _⟩ := read_sound R.heap hi hvs
    exact Keeps.mk (run_loadAt_mid w b o t cs d hcs hu hd (by simp [hq, hlen])) (hl.arr).agg
  | false =>
    simp only [hd] at hs
    split at hs
    case h_2 => cases hs
    rename_i u hvs
    obtain rfl : u = v := by simpa using hs
    obtain ⟨cs, hcs, hl, hlen, _⟩ := read_sound R.heap hi hvs
    obtain ⟨v', t', rfl, hrel, _⟩ := hl.uncons
    have hcell := hcs 0 v' rfl
    refine Keeps.mk ?_ hrel
    have hagg : (isAgg t).run P w = .ok false w := by
      unfold isAgg
      rw [Sem.run_bind, run_underlying hu w]
      cases d <;> simp_all
    simp only [Nat.add_zero] at hcell
    simp [Instr.loadAt, Instr.sureAddr, loadVar, hagg, load, Sem.run, hcell]
end Go.Proofs.Ytcnjnmgnhkjgfaa.Sim

namespace Go.Proofs.Ytcnjnmgnhkjgfaa.Sim
open Go Go.RowKit

theorem VRel.cells {ρ : Ren} {v v' : Value} (h : VRel ρ v v') : LRel ρ v.cells.toList v'.cells.toList := by
  cases h with
  | agg hs hx => exact ARel.list ⟨hs, hx⟩
  | bool b => exact .cons (.bool b) (.nil ρ)
  | int k n => exact .cons (.int k n) (.nil ρ)
  | float k b => exact .cons (.float k b) (.nil ρ)
  | complex k a b => exact .cons (.complex k a b) (.nil ρ)
  | string s => exact .cons (.string s) (.nil ρ)
  | nilFunc => exact .cons .nilFunc (.nil ρ)
  | nilIface => exact .cons .nilIface (.nil ρ)
  | ptrNil => exact .cons .ptrNil (.nil ρ)
  | ptr h o => exact .cons (.ptr h o) (.nil ρ)
  | sliceNil => exact .cons .sliceNil (.nil ρ)
  | slice h o len cap hl => exact .cons (.slice h o len cap hl) (.nil ρ)
  | mapNil => exact .cons .mapNil (.nil ρ)
  | map h => exact .cons (.map h) (.nil ρ)
  | func fn hs ht hx hy => exact .cons (.func fn hs ht hx hy) (.nil ρ)
  | iface t h => exact .cons (.iface t h) (.nil ρ)
  | tuple hs hx => exact .cons (.tuple hs hx) (.nil ρ)
theorem VRel.one {ρ : Ren} {v v' : Value} (h : VRel ρ v v') : v'.oneCell' = v.oneCell' := by cases h <;> rfl
theorem LRel.one {ρ : Ren} {l l' : List Value} (h : LRel ρ l l') (hl : l.all (·.oneCell') = true) : ∀ v ∈ l', v.oneCell' = true := by
  intro v hv
  obtain ⟨k, hk⟩ := List.getElem?_of_mem hv
  have hlt : k < l'.length := (List.getElem?_eq_some_iff.1 hk).1
  have hlt2 : k < l.length := by rw [h.1]; exact hlt
  have hr := h.2 k l[k] v (List.getElem?_eq_getElem hlt2) hk
  rw [hr.one]
  exact (List.all_eq_true.1 hl) _ (List.getElem_mem hlt2)

/-- 'vs' laid into 'c' from place 'o' on. -/
def lay (c : List Value) (o : Nat) (vs : List Value) : List Value := c.take o ++ vs ++ c.drop (o + vs.length)
theorem length_lay (c : List Value) (o : Nat) (vs : List Value) (h : o + vs.length ≤ c.length) : (lay c o vs).length = c.length := by
  simp [lay]; omega
theorem LRel.lay {ρ : Ren} {c c' : List Value} (h : LRel ρ c c') {vs vs' : List Value} (hv : LRel ρ vs vs') (o : Nat) : LRel ρ (lay c o vs) (lay c' o vs') := by
  unfold Sim.lay
  rw [← hv.1]
  exact ((h.take o).append hv).append (h.drop _)
theorem lay_take (c : List Value) (o : Nat) (vs : List Value) (n : Nat) (h : o + vs.length ≤ n) (hn : n ≤ c.length) : (lay c o vs).take n = lay (c.take n) o vs := by
  apply List.ext_getElem?
  intro k
  simp only [Sim.lay, List.getElem?_take, List.getElem?_append, List.length_append, List.length_take, List.getElem?_drop]
  by_cases h1 : k < n
  · simp only [h1, if_true]
    have e1 : min o c.length = o := by omega
    have e2 : min o (min n c.length) = o := by omega
    simp only [e1, e2]
    by_cases h2 : k < o + vs.length
    · simp only [h2, if_true]
    · simp only [h2, if_false]
      first | done | rw [if_pos (by omega)]
  · simp only [h1, if_false]
    rw [if_neg (by omega)]
    rw [if_neg (by omega)]

/-- Writing related values into a live block of the call's own. -/
theorem write_sound {P : Program} {h : AHeap} {i : Nat} {c : List Value} {e : TypeId} {ex : Option Nat} (hg : h.get i = .cells c e ex true) {ρ : Ren} {B : Nat} {w0 w : World} (R : WRel ρ B w0 h w)
    {b cp : Nat} (hi : ρ i = some (b, cp)) (o : Nat) {vs vs' : List Value} (hv : LRel ρ vs vs') (hone : vs.all (·.oneCell') = true) (hfit : o + vs.length ≤ c.length) :
    ∃ w', (storeCells ⟨b, o, none⟩ vs').run P w = .ok () w' ∧ WRel ρ B w0 (h.set i (.cells (lay c o vs) e ex true)) w' := by
  have ho := R.heap.obj i
  rw [hg] at ho
  obtain ⟨b2, cp2, arr, fz, hr, hw, hc, hl, hx, hrw⟩ := ho
  rw [hr] at hi; simp at hi
  obtain ⟨rfl, rfl⟩ := hi
  obtain ⟨hB, rfl⟩ := hrw rfl
  have hfit' : o + vs'.length ≤ arr.size := by rw [← hv.1]; omega
  have hst := run_storeCells_at P b2 o e vs' 0 arr w hw (by simpa using hfit') (hv.one hone)
  simp only [Nat.add_zero] at hst
  have hsz := (Array.getElem?_eq_some_iff.1 hw).1
  refine ⟨_, hst, R.setBlk hr (by rw [hg]; rfl) hB (fun k hk => ?_) (setRow_heap w b2 arr _ e (0, 0) hw) ?_ ?_ ?_ ?_ ?_⟩
  · simp [World.setRow, Array.getElem?_modify, Ne.symm hk]
  · simp [World.setRow]
  · refine ⟨rfl, rfl, rfl, by simp [World.setRow], fun k hk => ?_⟩
    simp [World.setRow, Array.getElem?_modify, show b2 ≠ k by omega]
  · rw [length_lay _ _ _ hfit]; simp; omega
  · rw [length_lay _ _ _ hfit]
    have := hl.lay hv o
    rw [← lay_take arr.toList o vs' c.length (by rw [← hv.1]; exact hfit) (by simpa using hc)] at this
    exact this
  · rw [length_lay _ _ _ hfit]
    have hlen : (arr.toList.take o ++ vs' ++ arr.toList.drop (o + vs'.length)).toArray.size = arr.size := by simp; omega
    rw [hlen]
    exact hx

/-! ### Stores -/
def aStore (P : Program) (t : TypeId) (x v : Value) (h : AHeap) : Option AHeap :=
  match x with
  | .pointer (some ⟨i, o, none⟩) =>
    match h.get i with
    | .cells c e ex true => if some v.cells.size = sizeT P t ∧ v.cells.toList.all (·.oneCell') = true ∧ o + v.cells.size ≤ c.length
        then some (h.set i (.cells (lay c o v.cells.toList) e ex true)) else none
    | _ => none
  | _ => none

theorem aStore_sound {P : Program} {t : TypeId} {x x' v v' : Value} {h h' : AHeap} (hs : aStore P t x v h = some h') {ρ : Ren} {B : Nat} {w0 w : World} (R : WRel ρ B w0 h w)
    (hx : VRel ρ x x') (hv : VRel ρ v v') : ∃ w', (Instr.storeAt t x' v').run P w = .ok () w' ∧ WRel ρ B w0 h' w' := by
  unfold aStore at hs
  split at hs
  case h_2 => cases hs
  rename_i i o
  cases hx with
  | ptr hi o =>
  rename_i b cp
  split at hs
  case h_2 => cases hs
  rename_i c e ex hg
  split at hs
  case isFalse => cases hs
  rename_i hcond
  obtain ⟨hsz, hone, hfit⟩ := hcond
  obtain rfl : _ = h' := by simpa using hs
  obtain ⟨w', hrun, R'⟩ := write_sound (P := P) hg R hi o hv.cells hone (by simpa using hfit)
  refine ⟨w', ?_, R'⟩
  have hlen : v'.cells.size = v.cells.size := by have := hv.cells.1; simpa using this.symm
  cases hq : P.info? t with
  | none => simp [sizeT, hq] at hsz
  | some ti =>
    simp [sizeT, hq] at hsz
    simp [Instr.storeAt, Instr.sureAddr, storeVar, sizeOf, typeInfo, hq, hlen, hsz, hrun]

/-! ### New blocks -/
theorem push_yields {h : AHeap} {ρ : Ren} {B : Nat} {w0 w : World} (R : WRel ρ B w0 h w) {c c' : List Value} (e : TypeId) (hc : LRel ρ c c') (cp : Nat) :
    ∃ ρ' : Ren, ρ.le ρ' ∧ ρ' h.n = some (w.heap.size, cp) ∧ WRel ρ' B w0 (h.push (.cells c e none true)) (w.alloc (.cells c'.toArray e)) :=
  R.push (arr := c'.toArray) cp (by simp) (fun k hk => Below.heap_alloc w _ k hk) (heap_alloc_new w _) ((Below.refl _ _).alloc R.heap.base _)
    (by simp [hc.1]) (by simpa [hc.1] using hc) (show _ = _ by simp [hc.1])

theorem aNew_sound {P : Program} {h : AHeap} {ρ : Ren} {B : Nat} {w0 w : World} (R : WRel ρ B w0 h w) {v v' : Value} (e : TypeId) (hv : VRel ρ v v') (s : Sem Value)
    (hs : s.run P w = .ok (.pointer (some ⟨w.heap.size, 0, none⟩)) (w.alloc (.cells v'.cells e))) :
    Yields P s ρ B w0 w (.pointer (some ⟨h.n, 0, none⟩)) (h.push (.cells v.cells.toList e none true)) := by
  obtain ⟨ρ', hle, hn, R'⟩ := push_yields R e hv.cells 0
  exact ⟨ρ', _, _, hs, .ptr hn 0, by simpa using R', hle⟩

def aAlloc (P : Program) (e : TypeId) (h : AHeap) : Option (Value × AHeap) :=
  match zeroT P e with
  | some z => if plain z then some (.pointer (some ⟨h.n, 0, none⟩), h.push (.cells z.cells.toList e none true)) else none
  | none => none
def aBox (e : TypeId) (x : Value) (h : AHeap) : Value × AHeap := (.pointer (some ⟨h.n, 0, none⟩), h.push (.cells x.cells.toList e none true))

theorem aAlloc_sound {P : Program} {e : TypeId} {v : Value} {h h' : AHeap} (hs : aAlloc P e h = some (v, h')) {ρ : Ren} {B : Nat} {w0 w : World} (R : WRel ρ B w0 h w) :
    Yields P (Instr.alloc e true (.tuple #[])) ρ B w0 w v h' := by
  unfold aAlloc at hs
  split at hs
  case h_2 => cases hs
  rename_i z hz
  split at hs
  case isFalse => cases hs
  rename_i hp
  simp at hs
  obtain ⟨rfl, rfl⟩ := hs
  refine aNew_sound R e (plain.rel hp ρ) _ ?_
  cases hq : P.info? e with
  | none => simp [zeroT, hq] at hz
  | some ti =>
    simp [zeroT, hq] at hz
    simp [Instr.alloc, zeroValue, typeInfo, hq, hz, newVar, newRow]

theorem aBox_sound {P : Program} {e : TypeId} {x x' : Value} {h : AHeap} {ρ : Ren} {B : Nat} {w0 w : World} (R : WRel ρ B w0 h w) (hx : VRel ρ x x') :
    Yields P (Instr.box e x') ρ B w0 w (aBox e x h).1 (aBox e x h).2 :=
  aNew_sound R e hx _ (by simp [Instr.box, newVar, newRow])
end Go.Proofs.Ytcnjnmgnhkjgfaa.Sim

namespace Go.Proofs.Ytcnjnmgnhkjgfaa.Sim
open Go Go.RowKit

/-! ### Addresses -/
def aField (P : Program) (s : TypeId) (x : Value) (k : Nat) : Option Value :=
  match x with
  | .pointer (some ⟨i, o, none⟩) =>
    match P.underlying s with
    | some (.struct fs) =>
      match fs[k]? with
      | some f => match sizeT P f.type with
        | some (_ + 1) => some (.pointer (some ⟨i, o + f.offset, none⟩))
        | _ => none
      | none => none
    | _ => none
  | _ => none

theorem aField_sound {P : Program} {s : TypeId} {x x' v : Value} {k : Nat} {h : AHeap} (hs : aField P s x k = some v) {ρ : Ren} {B : Nat} {w0 w : World} (R : WRel ρ B w0 h w) (hx : VRel ρ x x') :
    Keeps P (Instr.fieldAt s x' k) ρ w v := by
  unfold aField at hs
  split at hs
  case h_2 => cases hs
  rename_i i o
  cases hx with
  | ptr hi o =>
  rename_i b cp
  split at hs
  case h_2 => cases hs
  rename_i fs hu
  split at hs
  case h_2 => cases hs
  rename_i f hf
  split at hs
  case h_2 => cases hs
  rename_i n hn
  obtain rfl : _ = v := by simpa using hs
  refine Keeps.mk ?_ (.ptr hi (o + f.offset))
  cases hq : P.info? f.type with
  | none => simp [sizeT, hq] at hn
  | some ti =>
    simp [sizeT, hq] at hn
    simp [Instr.fieldAt, run_underlying hu, hf, Instr.sureAddr, fieldPlace, sizeOf, typeInfo, hq, hn, Addr.add_mid]

def aIndexAddr (P : Program) (t : TypeId) (x ix : Value) : Option Value :=
  match ix with
  | .int _ n =>
    match P.underlying t, x with
    | some (.array len e), .pointer (some ⟨i, o, none⟩) =>
      match sizeT P e with
      | some sz => if 0 ≤ n ∧ n < len then some (.pointer (some ⟨i, o + n.toNat * sz, none⟩)) else none
      | none => none
    | some (.slice e), .slice (some ⟨i, o, none⟩) len _ =>
      match sizeT P e with
      | some sz => if 0 ≤ n ∧ n < len then some (.pointer (some ⟨i, o + n.toNat * sz, none⟩)) else none
      | none => none
    | _, _ => none
  | _ => none

theorem aIndexAddr_sound {P : Program} {t : TypeId} {x x' ix ix' v : Value} {h : AHeap} (hs : aIndexAddr P t x ix = some v) {ρ : Ren} {B : Nat} {w0 w : World} (R : WRel ρ B w0 h w)
    (hx : VRel ρ x x') (hix : VRel ρ ix ix') : Keeps P (Instr.indexAt t x' ix') ρ w v := by
  unfold aIndexAddr at hs
  split at hs
  case h_2 => cases hs
  rename_i k n
  cases hix with
  | int k n =>
  split at hs
  · rename_i len e i o hu
    cases hx with
    | ptr hi o =>
    rename_i b cp
    split at hs
    case h_2 => cases hs
    rename_i sz hsz
    split at hs
    case isFalse => cases hs
    rename_i hb
    obtain rfl : _ = v := by simpa using hs
    refine Keeps.mk ?_ (.ptr hi (o + n.toNat * sz))
    cases hq : P.info? e with
    | none => simp [sizeT, hq] at hsz
    | some ti =>
      simp [sizeT, hq] at hsz
      simp [Instr.indexAt, asIntOf, run_underlying hu, Instr.sureAddr, hb, sizeOf, typeInfo, hq, hsz, Addr.add_mid]
  · rename_i e i o len cap hu
    cases hx with
    | slice hi o len cap hl =>
    rename_i b cp
    split at hs
    case h_2 => cases hs
    rename_i sz hsz
    split at hs
    case isFalse => cases hs
    rename_i hb
    obtain rfl : _ = v := by simpa using hs
    refine Keeps.mk ?_ (.ptr hi (o + n.toNat * sz))
    cases hq : P.info? e with
    | none => simp [sizeT, hq] at hsz
    | some ti =>
      simp [sizeT, hq] at hsz
      simp [Instr.indexAt, asIntOf, run_underlying hu, hb, sizeOf, typeInfo, hq, hsz, Addr.add_mid]
  · cases hs

/-! ### Slices of slices -/
def natOf : Value → Option Nat
  | .int _ n => if 0 ≤ n then some n.toNat else none
  | _ => none
theorem natOf_sound {v v' : Value} {n : Nat} (h : natOf v = some n) {ρ : Ren} (hv : VRel ρ v v') : ∃ k, v' = .int k (n : Int) := by
  unfold natOf at h
  split at h
  · rename_i k m
    split at h
    · cases hv
      simp at h
      exact ⟨k, by rw [← h]; congr; omega⟩
    · cases h
  · cases h

def loOf (lo : Option Value) : Option Nat := match lo with | none => some 0 | some v => natOf v
def hiOf (len : Nat) (hi : Option Value) : Option Nat := match hi with | none => some len | some v => natOf v

def cutSlice (i o len cap sz l hh m : Nat) : Option Value :=
  if cap < unk then
    if l ≤ hh ∧ hh ≤ m ∧ m ≤ cap then some (.slice (some ⟨i, if m = l then o else o + l * sz, none⟩) (hh - l) (m - l)) else none
  else
    if m = cap ∧ l ≤ hh ∧ hh ≤ len ∧ (l = 0 ∨ l < len) then some (.slice (some ⟨i, o + l * sz, none⟩) (hh - l) (cap + l)) else none

def aSlice (P : Program) (t : TypeId) (x : Value) (lo hi mx : Option Value) : Option Value :=
  match P.underlying t, x with
  | some (.slice e), .slice (some ⟨i, o, none⟩) len cap =>
    match sizeT P e, loOf lo, hiOf len hi, hiOf cap mx with
    | some sz, some l, some hh, some m => if mx.isSome ∧ (hi.isNone ∨ unk ≤ cap) then none else cutSlice i o len cap sz l hh m
    | _, _, _, _ => none
  | some (.slice e), .slice none 0 0 =>
    match sizeT P e, loOf lo, hiOf 0 hi, hiOf 0 mx with
    | some _, some 0, some 0, some 0 => if mx.isSome ∧ hi.isNone then none else some (.slice none 0 0)
    | _, _, _, _ => none
  | some (.array n e), .pointer (some ⟨i, o, none⟩) =>
    match sizeT P e, loOf lo, hiOf n hi, hiOf n mx with
    | some sz, some l, some hh, some m => if mx.isSome ∧ hi.isNone then none else if n < unk then cutSlice i o n n sz l hh m else none
    | _, _, _, _ => none
  | some .string, .string s =>
    match loOf lo, hiOf s.size hi, mx with
    | some l, some hh, none => if l ≤ hh ∧ hh ≤ s.size then some (.string (s.extract l hh)) else none
    | _, _, _ => none
  | _, _ => none

theorem run_bound {P : Program} {w : World} {k : IntKind} {n y : Nat} {code : BoundsCode} (h : n ≤ y) : (Instr.sliceBound (.int k (n : Int)) y code).run P w = .ok n w := by
  simp [Instr.sliceBound, asIntOf, h]

theorem run_bounds {P : Program} {w : World} {isSlice : Bool} {len cap l hh m : Nat} {lo hi mx lo' hi' mx' : Option Value} {ρ : Ren}
    (r1 : Option.Rel (VRel ρ) lo lo') (r2 : Option.Rel (VRel ρ) hi hi') (r3 : Option.Rel (VRel ρ) mx mx')
    (h1 : loOf lo = some l) (h2 : hiOf len hi = some hh) (h3 : ∃ c0, hiOf c0 mx = some m ∧ (mx = none → m = cap)) (hl : l ≤ hh) (hm : hh ≤ m) (hc : m ≤ cap) (hmx : ¬ (mx.isSome ∧ hi.isNone)) :
    (Instr.sliceBounds isSlice len cap lo' hi' mx').run P w = .ok (l, hh, m) w := by
  obtain ⟨c0, h3, h3n⟩ := h3
  cases r1 with
  | none =>
    simp [loOf] at h1; subst h1
    cases r2 with
    | none =>
      simp [hiOf] at h2; subst h2
      cases r3 with
      | none => simp [Instr.sliceBounds, h3n rfl]
      | some r3 => simp at hmx
    | some r2 =>
      simp only [hiOf] at h2
      obtain ⟨k2, rfl⟩ := natOf_sound h2 r2
      cases r3 with
      | none => obtain rfl := h3n rfl; simp [Instr.sliceBounds, run_bound hm]
      | some r3 => simp only [hiOf] at h3; obtain ⟨k3, rfl⟩ := natOf_sound h3 r3; simp [Instr.sliceBounds, run_bound hm, run_bound hc]
  | some r1 =>
    simp only [loOf] at h1
    obtain ⟨k1, rfl⟩ := natOf_sound h1 r1
    cases r2 with
    | none =>
      simp [hiOf] at h2; subst h2
      cases r3 with
      | none => obtain rfl := h3n rfl; simp [Instr.sliceBounds, run_bound hl]
      | some r3 => simp at hmx
    | some r2 =>
      simp only [hiOf] at h2
      obtain ⟨k2, rfl⟩ := natOf_sound h2 r2
      cases r3 with
      | none => obtain rfl := h3n rfl; simp [Instr.sliceBounds, run_bound hm, run_bound hl]
      | some r3 => simp only [hiOf] at h3; obtain ⟨k3, rfl⟩ := natOf_sound h3 r3; simp [Instr.sliceBounds, run_bound hm, run_bound hc, run_bound hl]

theorem cut_rel {ρ : Ren} {i b cp o len cap sz l hh m : Nat} (hi : ρ i = some (b, cp)) (hl : len ≤ capOf cp cap) {v : Value} (h : cutSlice i o len cap sz l hh m = some v) :
    ∃ m', (m < unk ∧ cap < unk → m' = m) ∧ (unk ≤ cap → m = cap ∧ m' = capOf cp cap) ∧ l ≤ hh ∧ hh ≤ m' ∧ m' ≤ capOf cp cap ∧
      VRel ρ v (.slice (if m' = l then some ⟨b, o, none⟩ else some (Addr.add ⟨b, o, none⟩ (l * sz))) (hh - l) (m' - l)) := by
  unfold cutSlice at h
  split at h
  · rename_i hc
    split at h
    · rename_i hb
      obtain rfl : _ = v := by simpa using h
      refine ⟨m, fun _ => rfl, fun h => by omega, hb.1, hb.2.1, by simp [capOf, hc, hb.2.2], ?_⟩
      have key : VRel ρ (.slice (some ⟨i, if m = l then o else o + l * sz, none⟩) (hh - l) (m - l)) (.slice (some ⟨b, if m = l then o else o + l * sz, none⟩) (hh - l) (capOf cp (m - l))) :=
        .slice hi _ _ _ (by simp [capOf, show m - l < unk by omega]; omega)
      simp only [capOf, show m - l < unk by omega, if_true] at key
      by_cases hml : m = l
      · simpa [hml] using key
      · simpa [hml, Addr.add_mid] using key
    · cases h
  · rename_i hc
    split at h
    · rename_i hb
      obtain rfl : _ = v := by simpa using h
      refine ⟨capOf cp cap, fun h => by omega, fun _ => ⟨hb.1, rfl⟩, hb.2.1, by omega, Nat.le_refl _, ?_⟩
      have e1 : capOf cp (cap + l) = capOf cp cap - l := by simp [capOf, hc, show ¬ cap + l < unk by omega]; omega
      have key : VRel ρ (.slice (some ⟨i, o + l * sz, none⟩) (hh - l) (cap + l)) (.slice (some ⟨b, o + l * sz, none⟩) (hh - l) (capOf cp (cap + l))) :=
        .slice hi _ _ _ (by rw [e1]; omega)
      rw [e1] at key
      by_cases hml : capOf cp cap = l
      · have : l = 0 := by omega
        subst this
        simpa [hml] using key
      · simpa [hml, Addr.add_mid] using key
    · cases h

theorem aSlice_sound {P : Program} {t : TypeId} {x x' v : Value} {lo hi mx lo' hi' mx' : Option Value} {h : AHeap} (hs : aSlice P t x lo hi mx = some v) {ρ : Ren} {B : Nat} {w0 w : World} (R : WRel ρ B w0 h w)
    (hx : VRel ρ x x') (r1 : Option.Rel (VRel ρ) lo lo') (r2 : Option.Rel (VRel ρ) hi hi') (r3 : Option.Rel (VRel ρ) mx mx') : Keeps P (Instr.sliceAt t x' lo' hi' mx') ρ w v := by
  unfold aSlice at hs
  split at hs
  · rename_i e i o len cap hu
    cases hx with
    | slice hr o len cap hl =>
    rename_i b cp
    split at hs
    case h_2 => cases hs
    rename_i sz l hh m hsz h1 h2 h3
    split at hs
    case isTrue => cases hs
    rename_i hmx
    obtain ⟨m', hm1, hm2, a1, a2, a3, hrel⟩ := cut_rel hr hl hs
    refine Keeps.mk ?_ hrel
    have hb : (Instr.sliceBounds true len (capOf cp cap) lo' hi' mx').run P w = .ok (l, hh, m') w := by
      by_cases hc : cap < unk
      · have hcap : capOf cp cap = cap := by simp [capOf, hc]
        have hmu : m < unk := by
          have := hs
          unfold cutSlice at this
          simp only [hc, if_true] at this
          split at this
          · omega
          · cases this
        obtain rfl := hm1 ⟨hmu, hc⟩
        refine run_bounds r1 r2 r3 h1 h2 ⟨cap, h3, fun hn => ?_⟩ a1 a2 a3 (fun hh => hmx ⟨hh.1, .inl hh.2⟩)
        subst hn; simp [hiOf] at h3; omega
      · obtain ⟨rfl, rfl⟩ := hm2 (by omega)
        have hmxn : mx = none := by
          cases mx with
          | none => rfl
          | some _ => exact absurd ⟨rfl, .inr (by omega)⟩ hmx
        subst hmxn
        exact run_bounds r1 r2 r3 h1 h2 ⟨capOf cp m, rfl, fun _ => rfl⟩ a1 a2 a3 (by simp)
    cases hq : P.info? e with
    | none => simp [sizeT, hq] at hsz
    | some ti =>
      simp [sizeT, hq] at hsz
      simp only [Instr.sliceAt, Sem.run_bind, run_underlying hu, Result.andThen_ok, Instr.slice, hb]
      by_cases hml : m' = l
      · simp [hml, sizeOf, typeInfo, hq]
      · simp [hml, sizeOf, typeInfo, hq, hsz]
  · rename_i e hu
    cases hx
    split at hs
    case h_2 => cases hs
    rename_i sz hsz h1 h2 h3
    split at hs
    case isTrue => cases hs
    rename_i hmx
    obtain rfl : _ = v := by simpa using hs
    refine Keeps.mk ?_ .sliceNil
    have hb : (Instr.sliceBounds true 0 0 lo' hi' mx').run P w = .ok (0, 0, 0) w :=
      run_bounds r1 r2 r3 h1 h2 ⟨0, h3, fun _ => rfl⟩ (Nat.le_refl _) (Nat.le_refl _) (Nat.le_refl _) hmx
    cases hq : P.info? e with
    | none => simp [sizeT, hq] at hsz
    | some ti => simp [Instr.sliceAt, run_underlying hu, Instr.slice, hb, sizeOf, typeInfo, hq]
  · rename_i n e i o hu
    cases hx with
    | ptr hr o =>
    rename_i b cp
    split at hs
    case h_2 => cases hs
    rename_i sz l hh m hsz h1 h2 h3
    split at hs
    case isTrue => cases hs
    rename_i hmx
    split at hs
    case isFalse => cases hs
    rename_i hnu
    have hcap : capOf cp n = n := by simp [capOf, hnu]
    obtain ⟨m', hm1, hm2, a1, a2, a3, hrel⟩ := cut_rel hr (by rw [hcap]; exact Nat.le_refl _) hs
    rw [hcap] at a3
    have hmu : m < unk := by
      have := hs
      unfold cutSlice at this
      simp only [hnu, if_true] at this
      split at this
      · omega
      · cases this
    obtain rfl := hm1 ⟨hmu, hnu⟩
    refine Keeps.mk ?_ hrel
    have hb : (Instr.sliceBounds false n n lo' hi' mx').run P w = .ok (l, hh, m') w :=
      run_bounds r1 r2 r3 h1 h2 ⟨n, h3, fun hn => by subst hn; simp [hiOf] at h3; omega⟩ a1 a2 a3 hmx
    cases hq : P.info? e with
    | none => simp [sizeT, hq] at hsz
    | some ti =>
      simp [sizeT, hq] at hsz
      by_cases hml : m' = l
      · simp [Instr.sliceAt, run_underlying hu, Instr.sureAddr, hb, hml, sizeOf, typeInfo, hq]
      · simp [Instr.sliceAt, run_underlying hu, Instr.sureAddr, hb, hml, sizeOf, typeInfo, hq, hsz]
  · rename_i s hu
    cases hx
    split at hs
    case h_2 => cases hs
    rename_i l hh h1 h2
    split at hs
    case isFalse => cases hs
    rename_i hb
    obtain rfl : _ = v := by simpa using hs
    refine Keeps.mk ?_ (.string _)
    cases r3
    have hb : (Instr.sliceBounds false s.size s.size lo' hi' none).run P w = .ok (l, hh, s.size) w :=
      run_bounds r1 r2 .none h1 h2 ⟨s.size, rfl, fun _ => rfl⟩ hb.1 hb.2 (Nat.le_refl _) (by simp)
    simp [Instr.sliceAt, run_underlying hu, Instr.slice, hb]
  · cases hs

/-! ### make -/
def made (z : List Value) (n : Nat) : List Value := (List.replicate n z).flatten
theorem made_succ (z : List Value) (n : Nat) : made z (n + 1) = made z n ++ z := by simp [made, List.replicate_succ']
theorem length_made (z : List Value) (n : Nat) : (made z n).length = n * z.length := by
  induction n with
  | zero => simp [made]
  | succ n ih => rw [made_succ, List.length_append, ih, Nat.succ_mul]
theorem made_eq (z : Array Value) (n : Nat) : (madeCells z (n * z.size)).toList = made z.toList n := by
  have e : ∀ k, (madeCells z k).toList = (List.range k).map (fun i => z[i % z.size]!) := fun k => by simp [madeCells]
  rw [e]
  induction n with
  | zero => simp [made]
  | succ n ih =>
    rw [Nat.succ_mul, List.range_add, List.map_append, ih, made_succ]
    congr 1
    apply List.ext_getElem
    · simp
    · intro k h1 h2
      have hk : k < z.size := by simpa using h2
      simp [Nat.mod_eq_of_lt hk, hk]
theorem LRel.made {ρ : Ren} {z z' : List Value} (h : LRel ρ z z') (n : Nat) : LRel ρ (made z n) (made z' n) := by
  induction n with
  | zero => simp [Sim.made, LRel.nil]
  | succ n ih => rw [made_succ, made_succ]; exact ih.append h

def aMake (P : Program) (t : TypeId) (l c : Value) (h : AHeap) : Option (Value × AHeap) :=
  match elemT P t, natOf l, natOf c with
  | some e, some l, some c =>
    match zeroT P e, bytesT P e with
    | some z, some bs => if some z.cells.size = sizeT P e ∧ plain z = true ∧ l ≤ c ∧ bs * c ≤ 140737488355328 ∧ c ≤ 140737488355328 then
        some (.slice (some ⟨h.n, 0, none⟩) l c, h.push (.cells (made z.cells.toList c) e none true)) else none
    | _, _ => none
  | _, _, _ => none

theorem aMake_sound {P : Program} {t : TypeId} {l l' c c' v : Value} {h h' : AHeap} (hs : aMake P t l c h = some (v, h')) {ρ : Ren} {B : Nat} {w0 w : World} (R : WRel ρ B w0 h w)
    (hl : VRel ρ l l') (hc : VRel ρ c c') : Yields P (Instr.makeSlice t l' c') ρ B w0 w v h' := by
  unfold aMake at hs
  split at hs
  case h_2 => cases hs
  rename_i e ln cn he h1 h2
  split at hs
  case h_2 => cases hs
  rename_i z bs hz hbs
  split at hs
  case isFalse => cases hs
  rename_i hcond
  obtain ⟨c1, c2, c3, c4, c5⟩ := hcond
  simp at hs
  obtain ⟨rfl, rfl⟩ := hs
  obtain ⟨k1, rfl⟩ := natOf_sound h1 hl
  obtain ⟨k2, rfl⟩ := natOf_sound h2 hc
  have hu : P.underlying t = some (.slice e) := by
    unfold elemT at he
    split at he
    · rename_i hu; rw [hu]; simpa using he
    · cases he
  cases hq : P.info? e with
  | none => simp [zeroT, hq] at hz
  | some ti =>
    simp [zeroT, hq] at hz
    simp [bytesT, hq] at hbs
    simp [sizeT, hq] at c1
    have hr := run_make (P := P) w t e ti z hu hq hz k1 k2 (ln : Int) (cn : Int) (by omega) (by omega) (by rw [hbs]; omega) (by omega)
    have hmade : (madeCells z.cells (cn * ti.size)).toList = made z.cells.toList cn := by rw [← c1]; exact made_eq _ _
    have hmk : madeCells z.cells (cn * ti.size) = (made z.cells.toList cn).toArray := by rw [← hmade]
    simp only [Int.toNat_natCast, hmk] at hr
    obtain ⟨ρ', hle, hn, R'⟩ := push_yields R e ((plain.rel c2 ρ).cells.made cn) cn
    refine ⟨ρ', _, _, hr, ?_, R', hle⟩
    have hcu : cn < unk := by unfold unk; omega
    have := VRel.slice hn 0 ln cn (by simp [capOf, hcu, c3])
    simpa [capOf, hcu] using this

/-! ### append -/
def aSrc (P : Program) (sz : Nat) (tx : TypeId) (x : Value) (h : AHeap) : Option (Nat × List Value) :=
  match P.underlying tx, x with
  | some (.slice _), .slice none 0 0 => some (0, [])
  | some (.slice _), .slice (some ⟨i, o, none⟩) n _ =>
    match (h.get i).read o (n * sz) with
    | some vs => if vs.all (·.oneCell') = true then some (n, vs) else none
    | none => none
  | some .string, .string s => if sz = 1 then some (s.size, byteCells s) else none
  | _, _ => none

theorem byteCells_rel (ρ : Ren) (s : ByteArray) : LRel ρ (byteCells s) (byteCells s) := by
  refine ⟨rfl, fun k a b ha hb => ?_⟩
  rw [ha] at hb
  obtain rfl : a = b := by simpa using hb
  have := List.mem_of_getElem? ha
  obtain ⟨u, _, rfl⟩ := List.mem_map.1 this
  exact .int _ _

theorem aSrc_sound {P : Program} {sz : Nat} {tx : TypeId} {x x' : Value} {h : AHeap} {n : Nat} {news : List Value} (hs : aSrc P sz tx x h = some (n, news)) {ρ : Ren} {B : Nat} {w0 w : World} (R : WRel ρ B w0 h w)
    (hx : VRel ρ x x') : ∃ news', Src P sz tx x' n news' w ∧ LRel ρ news news' ∧ news.length = n * sz ∧ news.all (·.oneCell') = true := by
  unfold aSrc at hs
  split at hs
  · rename_i e hu
    cases hx
    simp at hs
    obtain ⟨rfl, rfl⟩ := hs
    exact ⟨[], Src.ofNil w hu 0, .nil ρ, by simp, rfl⟩
  · rename_i e i o n2 cap hu
    cases hx with
    | slice hi o len cap hl =>
    rename_i b cp
    split at hs
    case h_2 => cases hs
    rename_i vs hvs
    split at hs
    case isFalse => cases hs
    rename_i hone
    simp at hs
    obtain ⟨rfl, rfl⟩ := hs
    obtain ⟨cs, hcs, hlr, hlen, hlen2⟩ := read_sound R.heap hi hvs
    exact ⟨cs, Src.ofSlice w hu ⟨b, o, none⟩ n2 (capOf cp cap) cs hlen (fun j u hu => by rw [Addr.add_mid]; exact hcs j u hu) (hlr.one hone), hlr, hlen2, hone⟩
  · rename_i s hu
    cases hx
    split at hs
    case isFalse => cases hs
    rename_i h1
    subst h1
    simp at hs
    obtain ⟨rfl, rfl⟩ := hs
    have hS := Src.ofString w hu s
    refine ⟨byteCells s, hS, byteCells_rel ρ s, hS.newsLen, ?_⟩
    simpa using hS.one
  · cases hs
end Go.Proofs.Ytcnjnmgnhkjgfaa.Sim

namespace Go.Proofs.Ytcnjnmgnhkjgfaa.Sim
open Go Go.RowKit

/-- A block goes on under a new number. -/
theorem WRel.move {ρ : Ren} {B : Nat} {w0 : World} {h : AHeap} {w w' : World} (R : WRel ρ B w0 h w) {i b cp : Nat} (hi : ρ i = some (b, cp)) (hwr : (h.get i).wr = true)
    {c : List Value} {arr : Array Value} {e : TypeId} {ex : Option Nat} (hB : B ≤ b)
    (hold : ∀ k, k ≠ b → w'.heap[k]? = w.heap[k]?) (hnew : w'.heap[b]? = some (.cells arr e (0, 0))) (hsz : w.heap.size ≤ w'.heap.size)
    (hb : Below B w w') (hc : c.length ≤ arr.size) (hl : LRel ρ c (arr.toList.take c.length)) (hx : XRel ex cp arr.size c.length) :
    ∃ ρ' : Ren, ρ.le ρ' ∧ ρ' h.n = some (b, cp) ∧ WRel ρ' B w0 ((h.set i .dead).push (.cells c e ex true)) w' := by
  have hle : ρ.le (fun j => if j = h.n then some (b, cp) else ρ j) := fun j x hj => by
    by_cases hjn : j = h.n
    · subst hjn; rw [R.heap.dom _ (Nat.le_refl _)] at hj; cases hj
    · simp [hjn, hj]
  have hin : i < h.n := R.heap.lt hi
  refine ⟨_, hle, by simp, ⟨⟨fun j hj => ?_, fun j k b' c1 c2 hj hk h1 h2 => ?_, fun j => ?_, Nat.le_trans R.heap.base hsz⟩, R.below.trans hb⟩⟩
  · simp only [AHeap.push, AHeap.set] at hj
    simp [show j ≠ h.n by omega, R.heap.dom j (by omega)]
  · simp only [AHeap.push, AHeap.set] at hj hk
    by_cases hjn : j = h.n <;> by_cases hkn : k = h.n
    · omega
    · simp [hjn] at h1; simp [hkn] at h2 hk
      obtain ⟨rfl, rfl⟩ := h1
      have := R.heap.inj i k b cp c2 hwr hk.2 hi h2
      exact absurd this.symm hk.1
    · simp [hkn] at h2; simp only [hjn, if_false] at h1 hj
      obtain ⟨rfl, rfl⟩ := h2
      by_cases hji : j = i
      · simp [hji, AObj.wr] at hj
      · simp only [hji, if_false] at hj
        have := R.heap.inj j i b c1 cp hj (AObj.wr_live hwr) h1 hi
        exact absurd this hji
    · simp only [hjn, if_false] at h1 hj; simp [hkn] at h2 hk
      by_cases hji : j = i
      · simp [hji, AObj.wr] at hj
      · simp only [hji, if_false] at hj
        exact R.heap.inj j k b' c1 c2 hj hk.2 h1 h2
  · by_cases hjn : j = h.n
    · subst hjn
      simp only [AHeap.push, AHeap.set, if_true]
      exact ⟨b, cp, arr, (0, 0), by simp, hnew, hc, hl.mono hle, hx, fun _ => ⟨hB, rfl⟩⟩
    · simp only [AHeap.push, AHeap.set, hjn, if_false]
      by_cases hji : j = i
      · subst hji; simp only [if_true]; trivial
      · simp only [hji, if_false]
        by_cases hd : h.get j = .dead
        · rw [hd]; trivial
        · refine (R.heap.obj j).keep hle fun b2 c1 hr => hold b2 ?_
          intro hbb
          subst hbb
          exact hji (R.heap.inj i j b2 cp c1 hwr hd hi hr).symm

def lim : Nat := 140737488355328

def aAppend (P : Program) (t tx : TypeId) (s x : Value) (h : AHeap) : Option (Value × AHeap) :=
  match elemT P t with
  | none => none
  | some e =>
  match zeroT P e, sizeT P e, bytesT P e with
  | some z, some sz, some bs =>
    if z.cells.size = sz then
      match aSrc P sz tx x h with
      | none => none
      | some (n, news) =>
        match s with
        | .slice none 0 0 =>
          if n = 0 then some (.slice none 0 0, h)
          else if n * bs ≤ lim ∧ n ≤ lim then some (.slice (some ⟨h.n, 0, none⟩) n unk, h.push (.cells news e (some sz) true)) else none
        | .slice (some ⟨i, o, none⟩) len cap =>
          if n = 0 then some (.slice (some ⟨i, o, none⟩) len cap, h)
          else if (len + n) * bs ≤ lim ∧ len + n ≤ lim then
            if cap < unk then
              if len + n ≤ cap then
                match h.get i with
                | .cells c e2 ex true => if o + (len + n) * sz ≤ c.length then some (.slice (some ⟨i, o, none⟩) (len + n) cap, h.set i (.cells (lay c (o + len * sz) news) e2 ex true)) else none
                | _ => none
              else match (h.get i).read o (len * sz) with
                | some olds => some (.slice (some ⟨h.n, 0, none⟩) (len + n) unk, h.push (.cells (olds ++ news) e (some sz) true))
                | none => none
            else match h.get i with
              | .cells c e2 ex true => if o = 0 ∧ cap = unk ∧ ex = some sz ∧ len * sz ≤ c.length ∧ e2 = e then
                  some (.slice (some ⟨h.n, 0, none⟩) (len + n) unk, (h.set i .dead).push (.cells (c.take (len * sz) ++ news) e (some sz) true))
                else none
              | _ => none
          else none
        | _ => none
    else none
  | _, _, _ => none

theorem run_append_room_h {P : Program} (w w' : World) (t tx ty e : TypeId) (i : TypeInfo) (ht : P.underlying t = some (.slice e)) (hi : P.info? e = some i) (b off sLen sCap : Nat) (x : Value) (n : Nat) (news : List Value)
    (hs : Src P i.size tx x n news w) (hroom : sLen + n ≤ sCap) (hst : (storeCells ⟨b, off + sLen * i.size, none⟩ news).run P w = .ok () w') :
    (Builtin.append_ #[t, tx] ty #[.slice (some ⟨b, off, none⟩) sLen sCap, x]).run P w = .ok (.slice (some ⟨b, off, none⟩) (sLen + n) sCap) w' := by
  rcases hs.kind with ⟨e', hk⟩ | hk <;> simp [Builtin.append_, run_underlying ht, run_underlying hk, sizeOf, typeInfo, hi, hs.len, hroom, hs.cells, Addr.add_lit, hst]

theorem run_append_none_h {P : Program} (w : World) (t tx ty e : TypeId) (i : TypeInfo) (ht : P.underlying t = some (.slice e)) (hi : P.info? e = some i) (x : Value) (news : List Value)
    (hs : Src P i.size tx x 0 news w) :
    (Builtin.append_ #[t, tx] ty #[.slice none 0 0, x]).run P w = .ok (.slice none 0 0) w := by
  have hl := hs.newsLen
  simp at hl
  subst hl
  rcases hs.kind with ⟨e', hk⟩ | hk <;> simp [Builtin.append_, run_underlying ht, run_underlying hk, sizeOf, typeInfo, hi, hs.len, hs.cells]

theorem grow_sound {P : Program} {t tx ty e : TypeId} {ti : TypeInfo} {z : Value} (hu : P.underlying t = some (.slice e)) (hq : P.info? e = some ti) (hz : ti.zero = some z) (hzs : z.cells.size = ti.size)
    {h : AHeap} {ρ : Ren} {B : Nat} {w0 w : World} (R : WRel ρ B w0 h w) {base : Option Addr} {sLen sCap n : Nat} {olds olds' news news' : List Value} {x' : Value}
    (hold : (Builtin.firstCells ti.size sLen (.slice base sLen sCap)).run P w.drew = .ok olds'.toArray w.drew) (hro : LRel ρ olds olds') (hlo : olds.length = sLen * ti.size)
    (hS : Src P ti.size tx x' n news' w) (hrn : LRel ρ news news') (hg : sCap < sLen + n) (h1 : (sLen + n) * ti.bytes ≤ lim) (h2 : sLen + n ≤ lim) :
    Yields P (Builtin.append_ #[t, tx] ty #[.slice base sLen sCap, x']) ρ B w0 w (.slice (some ⟨h.n, 0, none⟩) (sLen + n) unk) (h.push (.cells (olds ++ news) e (some ti.size) true)) := by
  unfold lim at h1 h2
  have hfit : Builtin.nextslicecap (sLen + n) sCap * ti.bytes ≤ 281474976710656 := by
    have := nextslicecap_le hg
    calc _ ≤ (2 * (sLen + n)) * ti.bytes := Nat.mul_le_mul_right _ this
      _ = 2 * ((sLen + n) * ti.bytes) := by rw [Nat.mul_assoc]
      _ ≤ _ := by omega
  have hrun := run_append_grow_src w t tx ty e ti z hu hq hz base sLen sCap olds' hold x' n news' hS hg (by omega) hfit
  have hge := grownCap_ge w (sLen + n) sCap e
  have hlen : (olds' ++ news').length = (sLen + n) * ti.size := by
    rw [List.length_append, ← hro.1, hlo, hS.newsLen, Nat.add_mul]
  obtain ⟨ρ', hle, hn, R'⟩ := R.drew.push (c := olds ++ news) (arr := (olds' ++ news').toArray ++ Builtin.zeroCells z.cells (grownCap w (sLen + n) sCap e - (sLen + n))) (e := e) (ex := some ti.size)
    (w' := w.drew.alloc (.cells ((olds' ++ news').toArray ++ Builtin.zeroCells z.cells (grownCap w (sLen + n) sCap e - (sLen + n))) e)) (grownCap w (sLen + n) sCap e)
    (by simp) (fun k hk => Below.heap_alloc w.drew _ k hk) (heap_alloc_new w.drew _) ((Below.refl _ _).alloc R.drew.heap.base _)
    (by rw [(hro.append hrn).1]; simp)
    (by
      rw [(hro.append hrn).1]
      have e1 : ((olds' ++ news').toArray ++ Builtin.zeroCells z.cells (grownCap w (sLen + n) sCap e - (sLen + n))).toList.take (olds' ++ news').length = olds' ++ news' := by
        simp only [Array.toList_append]
        exact List.take_left
      rw [e1]
      exact hro.append hrn)
    (by
      show _ = _
      rw [Array.size_append, size_zeroCells, hzs, List.size_toArray, hlen, ← Nat.add_mul]
      congr 1
      omega)
  refine ⟨ρ', _, _, hrun, ?_, R', hle⟩
  have := VRel.slice (ρ := ρ') hn 0 (sLen + n) unk (by simp [capOf, hge])
  simpa [capOf] using this

theorem aAppend_sound {P : Program} {t tx ty : TypeId} {s s' x x' v : Value} {h h' : AHeap} (hs : aAppend P t tx s x h = some (v, h')) {ρ : Ren} {B : Nat} {w0 w : World} (R : WRel ρ B w0 h w)
    (hr : VRel ρ s s') (hx : VRel ρ x x') : Yields P (Builtin.append_ #[t, tx] ty #[s', x']) ρ B w0 w v h' := by
  unfold aAppend at hs
  split at hs
  case h_1 => cases hs
  rename_i e he
  have hu : P.underlying t = some (.slice e) := by
    unfold elemT at he
    split at he
    · rename_i hu; rw [hu]; simpa using he
    · cases he
  split at hs
  case h_2 => cases hs
  rename_i z sz bs hz hsz hbs
  split at hs
  case isFalse => cases hs
  rename_i hzs
  split at hs
  case h_1 => cases hs
  rename_i n news hsrc
  cases hq : P.info? e with
  | none => simp [zeroT, hq] at hz
  | some ti =>
  simp [zeroT, hq] at hz
  simp [bytesT, hq] at hbs
  simp [sizeT, hq] at hsz
  subst hsz
  subst hbs
  obtain ⟨news', hS, hrn, hln, hone⟩ := aSrc_sound hsrc R hx
  split at hs
  · cases hr
    split at hs
    · rename_i h0
      subst h0
      simp at hs
      obtain ⟨rfl, rfl⟩ := hs
      exact .same R (run_append_none_h w t tx ty e ti hu hq x' news' hS) .sliceNil
    · rename_i h0
      split at hs
      case isFalse => cases hs
      rename_i hb
      simp at hs
      obtain ⟨rfl, rfl⟩ := hs
      have := grow_sound (ty := ty) hu hq hz hzs R (base := none) (sLen := 0) (sCap := 0) (olds := []) (olds' := []) (by simpa using run_firstCells_none (P := P) w.drew ti.size 0 0 0) (.nil ρ) (by simp) hS hrn (by omega) (by simpa using hb.1) (by simpa using hb.2)
      simpa using this
  · rename_i i o len cap
    cases hr with
    | slice hi o len cap hl =>
    rename_i b cp
    split at hs
    · rename_i h0
      subst h0
      simp at hs
      obtain ⟨rfl, rfl⟩ := hs
      have hl0 : news' = [] := by have := hS.newsLen; simpa using this
      subst hl0
      refine .same R (v' := .slice (some ⟨b, o, none⟩) len (capOf cp cap)) ?_ (.slice hi o len cap hl)
      have := run_append_room_h (P := P) w w t tx ty e ti hu hq b o len (capOf cp cap) x' 0 [] hS (by omega) (by simp [storeCells])
      simpa using this
    · rename_i h0
      split at hs
      case isFalse => cases hs
      rename_i hb
      split at hs
      · rename_i hcu
        have hcap : capOf cp cap = cap := by simp [capOf, hcu]
        rw [hcap]
        rw [hcap] at hl
        split at hs
        · rename_i hroom
          split at hs
          case h_2 => cases hs
          rename_i c e2 ex hg
          split at hs
          case isFalse => cases hs
          rename_i hfit
          simp at hs
          obtain ⟨rfl, rfl⟩ := hs
          obtain ⟨w', hst, R'⟩ := write_sound (P := P) hg R hi (o + len * ti.size) hrn hone (by rw [hln]; have := Nat.add_mul len n ti.size; omega)
          have hrun := run_append_room_h w w' t tx ty e ti hu hq b o len cap x' n news' hS hroom hst
          refine ⟨ρ, _, _, hrun, ?_, R', Ren.le.refl ρ⟩
          have := VRel.slice hi o (len + n) cap (by rw [hcap]; exact hroom)
          rwa [hcap] at this
        · rename_i hroom
          split at hs
          case h_2 => cases hs
          rename_i olds hvs
          simp at hs
          obtain ⟨rfl, rfl⟩ := hs
          obtain ⟨olds', ho1, ho2, ho3, _⟩ := read_sound R.heap hi hvs
          exact grow_sound hu hq hz hzs R (run_firstCells_some (P := P) w.drew ti.size len ⟨b, o, none⟩ len cap olds' ho3 (fun j v hv => by rw [Addr.add_mid]; simpa using ho1 j v hv)) ho2 (by rw [ho2.1, ho3]) hS hrn (by omega) hb.1 hb.2
      · rename_i hcu
        split at hs
        case h_2 => cases hs
        rename_i c e2 ex hg
        split at hs
        case isFalse => cases hs
        rename_i hcond
        obtain ⟨rfl, rfl, rfl, hlc, rfl⟩ := hcond
        simp at hs
        obtain ⟨rfl, rfl⟩ := hs
        have hcap : capOf cp unk = cp := by simp [capOf]
        rw [hcap]
        rw [hcap] at hl
        by_cases hroom : len + n ≤ cp
        · have ho := R.heap.obj i
          rw [hg] at ho
          obtain ⟨b2, cp2, arr, fz, hr2, hw, hc, hlr, hxr, hrw⟩ := ho
          rw [hr2] at hi
          simp at hi
          obtain ⟨rfl, rfl⟩ := hi
          obtain ⟨hB, rfl⟩ := hrw rfl
          have hasz : arr.size = cp2 * ti.size := hxr
          have hspace : len * ti.size + news'.length ≤ arr.size := by
            rw [hS.newsLen, hasz, ← Nat.add_mul]
            exact Nat.mul_le_mul_right _ hroom
          have hst := run_storeCells_at P b2 (len * ti.size) e2 news' 0 arr w hw (by simpa using hspace) (hrn.one hone)
          simp only [Nat.add_zero] at hst
          have hrun := run_append_room_h w _ t tx ty e2 ti hu hq b2 0 len cp2 x' n news' hS hroom (by simpa using hst)
          have hclen : (c.take (len * ti.size)).length = len * ti.size := by simp; omega
          obtain ⟨ρ', hle, hn, R'⟩ := R.move (w' := w.setRow b2 (arr.toList.take (len * ti.size) ++ news' ++ arr.toList.drop (len * ti.size + news'.length)).toArray) (c := c.take (len * ti.size) ++ news) (ex := some ti.size) hr2 (by rw [hg]; rfl) hB
            (fun k hk => by simp [World.setRow, Array.getElem?_modify, Ne.symm hk]) (setRow_heap w b2 arr _ e2 (0, 0) hw) (by simp [World.setRow])
            ⟨rfl, rfl, rfl, by simp [World.setRow], fun k hk => by simp [World.setRow, Array.getElem?_modify, show b2 ≠ k by omega]⟩
            (by rw [List.length_append, hclen, hrn.1]; simp; omega)
            (by
              rw [List.length_append, hclen, hrn.1]
              have e1 : (arr.toList.take (len * ti.size) ++ news' ++ arr.toList.drop (len * ti.size + news'.length)).toArray.toList.take (len * ti.size + news'.length) = arr.toList.take (len * ti.size) ++ news' := by
                have : (arr.toList.take (len * ti.size) ++ news').length = len * ti.size + news'.length := by simp; omega
                rw [← this]
                exact List.take_left
              rw [e1]
              refine LRel.append ?_ hrn
              have := hlr.take (len * ti.size)
              rw [List.take_take] at this
              rwa [Nat.min_eq_left hlc] at this)
            (by
              show _ = _
              simp
              omega)
          refine ⟨ρ', _, _, hrun, ?_, by simpa only [List.append_assoc] using R', hle⟩
          have := VRel.slice (ρ := ρ') hn 0 (len + n) unk (by rw [capOf]; simp; exact hroom)
          rwa [show capOf cp2 unk = cp2 by simp [capOf]] at this
        · have hvs : (h.get i).read 0 (len * ti.size) = some (c.take (len * ti.size)) := by rw [hg]; simp [AObj.read, hlc]
          obtain ⟨olds', ho1, ho2, ho3, _⟩ := read_sound R.heap hi hvs
          have := grow_sound (ty := ty) hu hq hz hzs (R.kill i) (run_firstCells_some (P := P) w.drew ti.size len ⟨b, 0, none⟩ len cp olds' ho3 (fun j v hv => by rw [Addr.add_mid]; simpa using ho1 j v hv)) ho2 (by rw [ho2.1, ho3]) hS hrn (by omega) hb.1 hb.2
          exact this
  · cases hs
end Go.Proofs.Ytcnjnmgnhkjgfaa.Sim

namespace Go.Proofs.Ytcnjnmgnhkjgfaa.Sim
open Go Go.RowKit

/-! ### Operations that ask no memory -/
def pureRun {α : Type} (P : Program) : Sem α → Option α
  | .pure a => some a
  | .program k => pureRun P (k P)
  | .mark _ k => pureRun P k
  | _ => none

theorem pureRun_run {α : Type} {P : Program} : ∀ {s : Sem α} {a : α}, pureRun P s = some a → ∀ w, s.run P w = .ok a w
  | .pure b, a, h, w => by simp [pureRun] at h; subst h; rfl
  | .program k, a, h, w => by
    simp only [pureRun] at h
    exact pureRun_run (s := k P) h w
  | .mark m k, a, h, w => by
    simp only [pureRun] at h
    exact pureRun_run (s := k) h w
  | .load .., _, h, _ => by simp [pureRun] at h
  | .store .., _, h, _ => by simp [pureRun] at h
  | .new .., _, h, _ => by simp [pureRun] at h
  | .shape .., _, h, _ => by simp [pureRun] at h
  | .freeze .., _, h, _ => by simp [pureRun] at h
  | .frozen .., _, h, _ => by simp [pureRun] at h
  | .getObj .., _, h, _ => by simp [pureRun] at h
  | .setObj .., _, h, _ => by simp [pureRun] at h
  | .choose .., _, h, _ => by simp [pureRun] at h
  | .sys .., _, h, _ => by simp [pureRun] at h
  | .halt .., _, h, _ => by simp [pureRun] at h

theorem VRel.eq_of_plain {ρ : Ren} {v v' : Value} (h : VRel ρ v v') (hf : plain v = true) : v' = v := by
  cases h with
  | agg hs hx =>
    rename_i xs xs'
    simp only [plain, List.all_eq_true] at hf
    congr 1
    apply Array.ext_getElem?
    intro k
    cases hk : xs[k]? with
    | none =>
      have : xs.size ≤ k := by simpa using hk
      simp; omega
    | some u =>
      have hlt : k < xs.size := (Array.getElem?_eq_some_iff.1 hk).1
      have hlt' : k < xs'.size := by omega
      rw [Array.getElem?_eq_getElem hlt']
      have := hx k u _ hk (Array.getElem?_eq_getElem hlt')
      rw [this.eq_of_flat (hf u (by rw [Array.mem_toList_iff]; exact Array.mem_of_getElem? hk))]
  | iface t h => simp only [plain] at hf; rw [h.eq_of_flat hf]
  | ptr h o => simp [plain, flat] at hf
  | slice h o len cap hl => simp [plain, flat] at hf
  | map h => simp [plain, flat] at hf
  | func fn hs ht hx hy => exact (VRel.func fn hs ht hx hy).eq_of_flat (by simpa [plain] using hf)
  | tuple hs hx => exact (VRel.tuple hs hx).eq_of_flat (by simpa [plain] using hf)
  | _ => rfl

def isNil : Value → Bool
  | .pointer none | .slice none 0 0 | .map none | .nilFunc | .nilIface => true
  | _ => false
def isRef : Value → Bool
  | .pointer (some ⟨_, _, none⟩) | .slice (some ⟨_, _, none⟩) _ _ | .map (some _) | .func .. | .iface .. => true
  | _ => false
/-- Comparison with nil: what kind of type fits which value. -/
def fitsNil : TypeDesc → Value → Value → Bool
  | .pointer _, .pointer _, .pointer _ => true
  | .slice _, .slice _ _ _, .slice _ _ _ => true
  | .map _ _, .map _, .map _ => true
  | .func _ _ _, .nilFunc, .func _ _ _ | .func _ _ _, .func _ _ _, .nilFunc => true
  | .interface _, .nilIface, .iface _ _ | .interface _, .iface _ _, .nilIface => true
  | _, _, _ => false

def aBin (P : Program) (op : BinOp) (t : TypeId) (xo yo : Operand) (x y : Value) : Option Value :=
  if plain x && plain y then
    match pureRun P (do eqGuard op t xo yo x y; binOp op t x y) with
    | some v => if flat v then some v else none
    | none => none
  else
    match P.underlying t with
    | none => none
    | some d =>
      if fitsNil d x y && ((isNil x && isRef y) || (isRef x && isNil y)) then
        match op with
        | .eql => some (.bool false)
        | .neq => some (.bool true)
        | _ => none
      else none

theorem nil_eq {P : Program} {w : World} {t : TypeId} {d : TypeDesc} (hu : P.underlying t = some d) {x y : Value} (hf : fitsNil d x y = true) (hn : ((isNil x && isRef y) || (isRef x && isNil y)) = true) :
    (Op.equal t x y).run P w = .ok false w := by
  unfold Op.equal
  obtain ⟨n, hd⟩ : ∃ n, Op.maxDepth = n + 1 := ⟨9999, rfl⟩
  rw [hd]
  unfold Op.equalIn
  rw [Sem.run_bind, run_underlying hu, Result.andThen_ok]
  unfold fitsNil at hf
  split at hf
  · rename_i a b
    cases a <;> cases b <;> simp_all [isNil, isRef]
  · rename_i a _ _ b _ _
    cases a <;> cases b <;> simp_all [isNil, isRef]
  · rename_i a b
    cases a <;> cases b <;> simp_all [isNil, isRef]
  · simp
  · simp
  · simp
  · simp
  · cases hf

theorem VRel.isNil {ρ : Ren} {v v' : Value} (h : VRel ρ v v') : isNil v' = isNil v := by cases h <;> rfl
theorem VRel.isRef {ρ : Ren} {v v' : Value} (h : VRel ρ v v') : isRef v' = isRef v := by cases h <;> rfl
theorem VRel.fits {ρ : Ren} {x x' y y' : Value} (h : VRel ρ x x') (g : VRel ρ y y') (d : TypeDesc) : fitsNil d x' y' = fitsNil d x y := by
  cases h <;> cases g <;> cases d <;> rfl

theorem aBin_sound {P : Program} {op : BinOp} {t : TypeId} {xo yo : Operand} {x x' y y' v : Value} {h : AHeap} (hs : aBin P op t xo yo x y = some v) {ρ : Ren} {B : Nat} {w0 w : World} (R : WRel ρ B w0 h w)
    (hx : VRel ρ x x') (hy : VRel ρ y y') : Keeps P (do eqGuard op t xo yo x' y'; binOp op t x' y') ρ w v := by
  unfold aBin at hs
  split at hs
  · rename_i hp
    simp only [Bool.and_eq_true] at hp
    obtain rfl := hx.eq_of_plain hp.1
    obtain rfl := hy.eq_of_plain hp.2
    split at hs
    case h_2 => cases hs
    rename_i u hu
    split at hs
    case isFalse => cases hs
    rename_i hf
    obtain rfl : u = v := by simpa using hs
    exact Keeps.mk (pureRun_run hu w) (flat.rel hf ρ)
  · split at hs
    case h_1 => cases hs
    rename_i d hd
    split at hs
    case isFalse => cases hs
    rename_i hc
    simp only [Bool.and_eq_true] at hc
    obtain ⟨hc1, hc2⟩ := hc
    rw [← hx.fits hy] at hc1
    rw [← hx.isNil, ← hx.isRef, ← hy.isNil, ← hy.isRef] at hc2
    have heq := nil_eq (P := P) (w := w) hd hc1 hc2
    have hg : eqGuard op t xo yo x' y' = pure () := by
      have h1 : ¬ (x' = .nilIface ∧ y' = .nilIface) := by
        rintro ⟨rfl, rfl⟩
        simp [Sim.isNil, Sim.isRef] at hc2
      have h2 : ¬ ∃ a b, x' = .agg a ∧ y' = .agg b := by
        rintro ⟨a, b, rfl, rfl⟩
        simp [Sim.isNil, Sim.isRef] at hc2
      unfold eqGuard
      cases op <;> first | rfl | (simp only [Bool.not_true, Bool.false_eq_true, if_false]; split <;> first | rfl | exact absurd ⟨rfl, rfl⟩ h1 | exact absurd ⟨_, _, rfl, rfl⟩ h2)
    have hb : op = .eql → binOp op t x' y' = (do pure (.bool (← Op.equal t x' y'))) := by
      rintro rfl
      unfold fitsNil at hc1
      split at hc1 <;> first | rfl | cases hc1
    have hb' : op = .neq → binOp op t x' y' = (do pure (.bool (!(← Op.equal t x' y')))) := by
      rintro rfl
      unfold fitsNil at hc1
      split at hc1 <;> first | rfl | cases hc1
    split at hs
    · obtain rfl : _ = v := by simpa using hs
      refine Keeps.mk (v' := .bool false) ?_ (.bool false)
      rw [hg, hb rfl]
      simp [heq]
    · obtain rfl : _ = v := by simpa using hs
      refine Keeps.mk (v' := .bool true) ?_ (.bool true)
      rw [hg, hb' rfl]
      simp [heq]
    · cases hs

def aUn (P : Program) (op : UnOp) (x : Value) : Option Value :=
  if flat x then
    match pureRun P (Op.unary op x) with
    | some v => if flat v then some v else none
    | none => none
  else none
theorem aUn_sound {P : Program} {op : UnOp} {x x' v : Value} {h : AHeap} (hs : aUn P op x = some v) {ρ : Ren} {B : Nat} {w0 w : World} (R : WRel ρ B w0 h w) (hx : VRel ρ x x') :
    Keeps P (Op.unary op x') ρ w v := by
  unfold aUn at hs
  split at hs
  case isFalse => cases hs
  rename_i hf
  obtain rfl := hx.eq_of_flat hf
  split at hs
  case h_2 => cases hs
  rename_i u hu
  split at hs
  case isFalse => cases hs
  rename_i hfu
  obtain rfl : u = v := by simpa using hs
  exact Keeps.mk (pureRun_run hu w) (flat.rel hfu ρ)

/-! ### Conversions -/
def numsOf : List Value → Option (List Int)
  | [] => some []
  | .int .u8 n :: r => (numsOf r).map (n :: ·)
  | _ => none
theorem numsOf_eq : ∀ {l : List Value} {ns : List Int}, numsOf l = some ns → l = ns.map (Value.int .u8)
  | [], ns, h => by simp [numsOf] at h; subst h; rfl
  | v :: r, ns, h => by
    unfold numsOf at h
    split at h
    · rename_i heq; cases heq
    · rename_i n r' heq
      simp only [List.cons.injEq] at heq
      obtain ⟨rfl, rfl⟩ := heq
      cases hr : numsOf r with
      | none => simp [hr] at h
      | some ms => simp [hr] at h; subst h; rw [numsOf_eq hr]; rfl
    · cases h

def isU8 (P : Program) (e : TypeId) : Bool := match P.underlying e with | some (.int .u8) => true | _ => false
theorem isU8_eq {P : Program} {e : TypeId} (h : isU8 P e = true) : P.underlying e = some (.int .u8) := by
  unfold isU8 at h
  split at h
  · assumption
  · cases h

def aConv (P : Program) (src dst : TypeId) (x : Value) (h : AHeap) : Option (Value × AHeap) :=
  if flat x then
    match pureRun P (convert src dst x) with
    | some v => if flat v then some (v, h) else none
    | none =>
      match P.underlying src, P.underlying dst, x with
      | some .string, some (.slice e), .string s =>
        if isU8 P e = true ∧ sizeT P e = some 1 then some (.slice (some ⟨h.n, 0, none⟩) s.size unk, h.push (.cells (byteCells s) e (some 1) false)) else none
      | _, _, _ => none
  else
    match P.underlying src, P.underlying dst, x with
    | some (.slice e), some .string, .slice (some ⟨i, o, none⟩) len _ =>
      if isU8 P e = true then
        match (h.get i).read o len with
        | some vs => match numsOf vs with
            | some ns => some (.string (strOfNums ns), h)
            | none => none
        | none => none
      else none
    | _, _, _ => none

theorem ints_rel {ρ : Ren} : ∀ {ns : List Int} {l : List Value}, LRel ρ (ns.map (Value.int .u8)) l → l = ns.map (Value.int .u8)
  | [], l, h => h.eq_nil
  | n :: ns, l, h => by
    obtain ⟨v', t', rfl, hv, ht⟩ := h.uncons
    cases hv
    rw [ints_rel ht]
    rfl

theorem aConv_sound {P : Program} {src dst : TypeId} {x x' v : Value} {h h' : AHeap} (hs : aConv P src dst x h = some (v, h')) {ρ : Ren} {B : Nat} {w0 w : World} (R : WRel ρ B w0 h w) (hx : VRel ρ x x') :
    Yields P (convert src dst x') ρ B w0 w v h' := by
  unfold aConv at hs
  split at hs
  · rename_i hf
    obtain rfl := hx.eq_of_flat hf
    split at hs
    · rename_i u hu
      split at hs
      case isFalse => cases hs
      rename_i hfu
      simp at hs
      obtain ⟨rfl, rfl⟩ := hs
      exact .same R (pureRun_run hu w) (flat.rel hfu ρ)
    · split at hs
      case h_2 => cases hs
      rename_i e s hu1 hu2 _
      split at hs
      case isFalse => cases hs
      rename_i hc
      simp at hs
      obtain ⟨rfl, rfl⟩ := hs
      have he := isU8_eq hc.1
      have hge := grownCap_ge w s.size 0 e
      let arr : Array Value := s.data.map (fun b => Value.int .u8 b.toNat) ++ Array.replicate (grownCap w s.size 0 e - s.size) (.int .u8 0)
      have hasz : arr.size = grownCap w s.size 0 e := by
        simp only [arr, Array.size_append, Array.size_map, Array.size_replicate]
        have : s.data.size = s.size := rfl
        omega
      have hrun : (convert src dst (.string s)).run P w = .ok (.slice (some ⟨w.heap.size, 0, none⟩) s.size (grownCap w s.size 0 e)) ((w.drew.alloc (.cells arr e)).freeze ⟨w.heap.size, arr.size, none⟩ 1) := by
        have hsh : (w.drew.alloc (.cells arr e)).shape? w.heap.size = some (e, arr.size) := by
          have := heap_alloc_new w.drew (.cells arr e)
          unfold World.shape?
          rw [show w.heap.size = w.drew.heap.size from rfl, this]
        simp [convert, run_underlying hu1, run_underlying hu2, run_underlying he, Conv.stringToBytes, Question.forced, newRow, markStringish]
        have e3 : (Question.appendCap s.size 0 e).cut (w.tape w.drawn (Question.appendCap s.size 0 e)) = grownCap w s.size 0 e := rfl
        simp only [e3]
        rw [hsh]
        simp
        rfl
      have hfz : ((w.drew.alloc (.cells arr e)).freeze ⟨w.heap.size, arr.size, none⟩ 1).heap[w.heap.size]? = some (.cells arr e (arr.size, arr.size + 1)) := by
        have := heap_alloc_new w.drew (.cells arr e)
        simp only [World.freeze, Nat.one_ne_zero, if_false, Array.getElem?_modify, if_true]
        rw [show w.heap.size = w.drew.heap.size from rfl, this]
        simp
      have hother : ∀ k, k < w.heap.size → ((w.drew.alloc (.cells arr e)).freeze ⟨w.heap.size, arr.size, none⟩ 1).heap[k]? = w.heap[k]? := fun k hk => by
        simp only [World.freeze, Nat.one_ne_zero, if_false, Array.getElem?_modify, if_neg (show ¬ w.heap.size = k by omega)]
        exact Below.heap_alloc w.drew _ k hk
      have hsz2 : w.heap.size < ((w.drew.alloc (.cells arr e)).freeze ⟨w.heap.size, arr.size, none⟩ 1).heap.size := by
        simp only [World.freeze, Nat.one_ne_zero, if_false, Array.size_modify]
        simp
      obtain ⟨ρ', hle, hn, R'⟩ := R.pushF (c := byteCells s) (arr := arr) (e := e) (ex := some 1) (rw := false) (fz := (arr.size, arr.size + 1)) (by simp) (grownCap w s.size 0 e) hsz2 hother hfz
        ⟨by simp only [World.freeze, Nat.one_ne_zero, if_false]; rfl, by simp only [World.freeze, Nat.one_ne_zero, if_false]; rfl, by simp only [World.freeze, Nat.one_ne_zero, if_false]; rfl, Nat.le_of_lt hsz2, fun k hk => hother k (Nat.lt_of_lt_of_le hk R.heap.base)⟩
        (by rw [byteCells_length, hasz]; exact hge)
        (by
          have e1 : arr.toList.take (byteCells s).length = byteCells s := by
            have : arr.toList = byteCells s ++ List.replicate (grownCap w s.size 0 e - s.size) (.int .u8 0) := by simp [arr, byteCells]
            rw [this]
            exact List.take_left
          rw [e1]
          exact byteCells_rel ρ s)
        (by show _ = _; rw [hasz]; simp)
      refine ⟨ρ', _, _, hrun, ?_, R', hle⟩
      have := VRel.slice (ρ := ρ') hn 0 s.size unk (by simp [capOf, hge])
      simpa [capOf] using this
  · split at hs
    case h_2 => cases hs
    rename_i e i o len cap hu1 hu2 _
    cases hx with
    | slice hi o len cap hl =>
    rename_i b cp
    split at hs
    case isFalse => cases hs
    rename_i he
    have he := isU8_eq he
    split at hs
    case h_2 => cases hs
    rename_i vs hvs
    split at hs
    case h_2 => cases hs
    rename_i ns hns
    simp at hs
    obtain ⟨rfl, rfl⟩ := hs
    obtain ⟨cs, hcs, hlr, hlen, _⟩ := read_sound R.heap hi hvs
    rw [numsOf_eq hns] at hlr
    have := ints_rel hlr
    subst this
    have hnl : ns.length = len := by simpa using hlen
    refine .same R (run_convert_bytes_arg w src e hu1 he b o len (capOf cp cap) ns hnl (fun k hk => ?_) dst hu2) (.string _)
    exact hcs k _ (by simp [List.getD, List.getElem?_eq_getElem (show k < ns.length by omega)])
end Go.Proofs.Ytcnjnmgnhkjgfaa.Sim

namespace Go.Proofs.Ytcnjnmgnhkjgfaa.Sim
open Go Go.RowKit

/-! ### copy -/
def aLenOf : Value → Option Nat
  | .slice _ n _ => some n
  | .string s => some s.size
  | _ => none
theorem aLenOf_sound {P : Program} {x x' : Value} {n : Nat} (h : aLenOf x = some n) {ρ : Ren} (hx : VRel ρ x x') (w : World) : (Builtin.lenOf x').run P w = .ok n w := by
  cases hx <;> simp [aLenOf] at h <;> subst h <;> rfl

/-- The first n elements of what is copied. -/
def aFirst (sz n : Nat) (x : Value) (h : AHeap) : Option (List Value) :=
  match x with
  | .slice none 0 0 => if n = 0 then some [] else none
  | .slice (some ⟨i, o, none⟩) _ _ =>
    (h.get i).read o (n * sz)
  | .string s => if sz = 1 ∧ n ≤ s.size then some ((byteCells s).take n) else none
  | _ => none
theorem aFirst_sound {P : Program} {sz n : Nat} {x x' : Value} {h : AHeap} {vs : List Value} (hs : aFirst sz n x h = some vs) {ρ : Ren} {B : Nat} {w0 w : World} (R : WRel ρ B w0 h w) (hx : VRel ρ x x') :
    ∃ vs', (Builtin.firstCells sz n x').run P w = .ok vs'.toArray w ∧ LRel ρ vs vs' ∧ vs.length = n * sz := by
  unfold aFirst at hs
  split at hs
  · cases hx
    split at hs
    case isFalse => cases hs
    rename_i h0
    subst h0
    obtain rfl : vs = [] := by simpa using hs
    exact ⟨[], run_firstCells_none w sz 0 0 0, .nil ρ, by simp⟩
  · rename_i i o len cap
    cases hx with
    | slice hi o len cap hl =>
    rename_i b cp
    obtain ⟨cs, hcs, hlr, hlen, hlen2⟩ := read_sound R.heap hi hs
    exact ⟨cs, run_firstCells_some (P := P) w sz n ⟨b, o, none⟩ len (capOf cp cap) cs hlen (fun j v hv => by rw [Addr.add_mid]; exact hcs j v hv), hlr, hlen2⟩
  · rename_i s
    cases hx
    split at hs
    case isFalse => cases hs
    rename_i h1
    obtain ⟨rfl, hn⟩ := h1
    obtain rfl : _ = vs := by simpa using hs
    refine ⟨(byteCells s).take n, ?_, (byteCells_rel ρ s).take n, by rw [List.length_take, byteCells_length]; omega⟩
    simp only [Builtin.firstCells, Sem.run_pure]
    congr 1
    apply Array.ext'
    simp [byteCells, List.map_take]
  · cases hs

def aCopy (P : Program) (dT : TypeId) (dst src : Value) (h : AHeap) : Option (Value × AHeap) :=
  match elemT P dT with
  | none => none
  | some e =>
    match sizeT P e, aLenOf src, dst with
    | some sz, some sl, .slice none 0 0 =>
      match aFirst sz (Nat.min sl 0) src h with
      | some _ => some (.int .i64 0, h)
      | none => none
    | some sz, some sl, .slice (some ⟨i, o, none⟩) dl _ =>
      match aFirst sz (Nat.min sl dl) src h with
      | some vs =>
        if Nat.min sl dl = 0 then some (.int .i64 0, h) else
        match h.get i with
        | .cells c e2 ex true => if o + vs.length ≤ c.length ∧ vs.all (·.oneCell') = true then some (.int .i64 (Nat.min sl dl : Nat), h.set i (.cells (lay c o vs) e2 ex true)) else none
        | _ => none
      | none => none
    | _, _, _ => none

theorem aCopy_sound {P : Program} {dT sT ty : TypeId} {dst dst' src src' v : Value} {h h' : AHeap} (hs : aCopy P dT dst src h = some (v, h')) {ρ : Ren} {B : Nat} {w0 w : World} (R : WRel ρ B w0 h w)
    (hd : VRel ρ dst dst') (hr : VRel ρ src src') : Yields P (Builtin.copy_ #[dT, sT] ty #[dst', src']) ρ B w0 w v h' := by
  unfold aCopy at hs
  split at hs
  case h_1 => cases hs
  rename_i e he
  have hu : P.underlying dT = some (.slice e) := by
    unfold elemT at he
    split at he
    · rename_i hu; rw [hu]; simpa using he
    · cases he
  split at hs
  · rename_i sz sl hsz hsl
    cases hd
    split at hs
    case h_2 => cases hs
    rename_i vs hvs
    simp at hs
    obtain ⟨rfl, rfl⟩ := hs
    obtain ⟨vs', hf, hlr, hlen⟩ := aFirst_sound (P := P) hvs R hr
    have hll := aLenOf_sound (P := P) hsl hr w
    cases hq : P.info? e with
    | none => simp [sizeT, hq] at hsz
    | some ti =>
      simp [sizeT, hq] at hsz
      refine .same R (v' := .int .i64 0) ?_ (.int _ _)
      have hm : Nat.min sl 0 = 0 := Nat.min_zero sl
      rw [hm] at hf
      simp [Builtin.copy_, run_underlying hu, hll, sizeOf, typeInfo, hq, hsz, hf, goInt]
  · rename_i sz sl i o dl dc hsz hsl
    cases hd with
    | slice hi o dl dc hl =>
    rename_i b cp
    split at hs
    case h_2 => cases hs
    rename_i vs hvs
    obtain ⟨vs', hf, hlr, hlen⟩ := aFirst_sound (P := P) hvs R hr
    have hll := aLenOf_sound (P := P) hsl hr w
    cases hq : P.info? e with
    | none => simp [sizeT, hq] at hsz
    | some ti =>
    simp [sizeT, hq] at hsz
    split at hs
    · rename_i h0
      simp at hs
      obtain ⟨rfl, rfl⟩ := hs
      refine .same R (v' := .int .i64 0) ?_ (.int _ _)
      rw [h0] at hlen hf
      have hv0 : vs' = [] := List.eq_nil_of_length_eq_zero (by rw [← hlr.1, hlen]; simp)
      subst hv0
      have hm : (Nat.min sl dl : Nat) = 0 := h0
      simp [Builtin.copy_, run_underlying hu, hll, sizeOf, typeInfo, hq, hsz, hm, hf, goInt, storeCells]
    · split at hs
      case h_2 => cases hs
      rename_i c e2 ex hg
      split at hs
      case isFalse => cases hs
      rename_i hc
      simp at hs
      obtain ⟨rfl, rfl⟩ := hs
      obtain ⟨w', hst, R'⟩ := write_sound (P := P) hg R hi o hlr hc.2 hc.1
      refine ⟨ρ, _, w', ?_, .int _ _, R', Ren.le.refl ρ⟩
      simp [Builtin.copy_, run_underlying hu, hll, sizeOf, typeInfo, hq, hsz, hf, goInt, hst]
  · cases hs
end Go.Proofs.Ytcnjnmgnhkjgfaa.Sim

namespace Go.Proofs.Ytcnjnmgnhkjgfaa.Sim
open Go Go.RowKit

theorem ARel.set {ρ : Ren} {xs xs' : Array Value} (h : ARel ρ xs xs') {v v' : Value} (hv : VRel ρ v v') (n : Nat) : ARel ρ (xs.setIfInBounds n v) (xs'.setIfInBounds n v') := by
  refine ⟨by simp [h.1], fun k a b ha hb => ?_⟩
  rw [Array.getElem?_setIfInBounds] at ha hb
  by_cases hk : n = k
  · subst hk
    simp at ha hb
    obtain ⟨_, rfl⟩ := ha
    obtain ⟨_, rfl⟩ := hb
    exact hv
  · simp [hk] at ha hb
    exact h.2 k a b ha hb

theorem foldl_rel {ρ : Ren} (off : Nat) : ∀ (l l' : List Value) (j : Nat) (cs cs' : Array Value), LRel ρ l l' → ARel ρ cs cs' →
    ARel ρ ((l.zipIdx j).foldl (fun cs p => cs.setIfInBounds (off + p.2) p.1) cs) ((l'.zipIdx j).foldl (fun cs p => cs.setIfInBounds (off + p.2) p.1) cs')
  | [], l', j, cs, cs', hl, hc => by rw [hl.eq_nil]; exact hc
  | v :: l, l', j, cs, cs', hl, hc => by
    obtain ⟨v', t', rfl, hv, ht⟩ := hl.uncons
    simp only [List.zipIdx_cons, List.foldl_cons]
    exact foldl_rel off l t' (j + 1) _ _ ht (hc.set hv _)

/-- Parts, place by place. -/
def PRel (ρ : Ren) : List (Nat × Value) → List (Nat × Value) → Prop
  | [], [] => True
  | (i, v) :: r, (i', v') :: r' => i = i' ∧ VRel ρ v v' ∧ PRel ρ r r'
  | _, _ => False

theorem fill_rel {ρ : Ren} (place : Nat → Option (Nat × Nat)) : ∀ (ps ps' : List (Nat × Value)) (cs cs' r : Array Value), PRel ρ ps ps' → ARel ρ cs cs' → Instr.fill place cs ps = some r →
    ∃ r', Instr.fill place cs' ps' = some r' ∧ ARel ρ r r'
  | [], [], cs, cs', r, _, hc, h => by simp [Instr.fill] at h; subst h; exact ⟨cs', rfl, hc⟩
  | (i, v) :: ps, (i', v') :: ps', cs, cs', r, hp, hc, h => by
    obtain ⟨rfl, hv, hp⟩ := hp
    unfold Instr.fill at h ⊢
    cases hpl : place i with
    | none => simp [hpl] at h
    | some q =>
      obtain ⟨off, size⟩ := q
      simp only [hpl] at h ⊢
      have hsz : v'.cells.size = v.cells.size := by simpa using hv.cells.1.symm
      rw [hsz, ← hc.1]
      split at h
      · cases h
      · rename_i hcond
        rw [if_neg hcond]
        refine fill_rel place ps ps' _ _ r hp ?_ h
        have := foldl_rel off v.cells.toList v'.cells.toList 0 cs cs' hv.cells hc
        have e1 : ∀ (a : Array Value) (c : Array Value), a.zipIdx.foldl (fun cs (x : Value × Nat) => cs.setIfInBounds (off + x.2) x.1) c = (a.toList.zipIdx).foldl (fun cs p => cs.setIfInBounds (off + p.2) p.1) c := fun a c => by
          rw [← Array.foldl_toList]
          simp
        rw [show (v.cells.zipIdx.foldl (fun cs (x : Value × Nat) => match x with | (c, j) => cs.setIfInBounds (off + j) c) cs) = _ from e1 v.cells cs,
          show (v'.cells.zipIdx.foldl (fun cs (x : Value × Nat) => match x with | (c, j) => cs.setIfInBounds (off + j) c) cs') = _ from e1 v'.cells cs']
        exact this
  | [], _ :: _, _, _, _, hp, _, _ => by simp [PRel] at hp
  | _ :: _, [], _, _, _, hp, _, _ => by simp [PRel] at hp

def zeroPlain (P : Program) (t : TypeId) : Bool := match zeroT P t with | some z => plain z | none => false
def aBuild (P : Program) (t : TypeId) (parts : List (Nat × Value)) : Option Value :=
  if zeroPlain P t then (P.built t parts).map .agg else none

theorem aBuild_sound {P : Program} {t : TypeId} {ps : List (Nat × Value)} {ps' : Array (Nat × Value)} {v : Value} {h : AHeap} (hs : aBuild P t ps = some v) {ρ : Ren} {B : Nat} {w0 w : World} (R : WRel ρ B w0 h w)
    (hp : PRel ρ ps ps'.toList) : Keeps P (Instr.build t ps') ρ w v := by
  unfold aBuild at hs
  split at hs
  case isFalse => cases hs
  rename_i hz
  cases hb : P.built t ps with
  | none => simp [hb] at hs
  | some cells =>
    simp [hb] at hs
    subst hs
    unfold zeroPlain zeroT at hz
    have : ∃ cells', P.built t ps'.toList = some cells' ∧ ARel ρ cells cells' := by
      unfold Program.built at hb ⊢
      cases hit : P.info? t with
      | none => simp [hit] at hb
      | some it =>
        cases hu : P.underlying t with
        | none => simp [hit, hu] at hb
        | some d =>
          cases hzz : it.zero with
          | none => cases d <;> simp [hit, hu, hzz] at hb
          | some z =>
            simp [hit, hzz] at hz
            have hzr : ARel ρ z.cells z.cells := by
              have := (plain.rel hz ρ).cells
              exact ⟨rfl, by simpa using this.2⟩
            cases d <;> try (simp [hit, hu] at hb; done)
            case array n e =>
              cases hie : P.info? e with
              | none => simp [hit, hu, hzz, hie] at hb
              | some ie =>
                simp only [hit, hu, hzz, hie] at hb ⊢
                exact fill_rel _ _ _ _ _ _ hp hzr hb
            case struct fields =>
              cases hpl : fields.toList.mapM (fun f => (P.info? f.type).map fun i => (f.offset, i.size)) with
              | none => simp [hit, hu, hzz, hpl] at hb
              | some places =>
                simp only [hit, hu, hzz, hpl] at hb ⊢
                exact fill_rel _ _ _ _ _ _ hp hzr hb
    obtain ⟨cells', hb', hrel⟩ := this
    exact Keeps.mk (run_build w t ps' cells' hb') hrel.agg

def aBuildSlice (P : Program) (t : TypeId) (len : Nat) (parts : List (Nat × Value)) (h : AHeap) : Option (Value × AHeap) :=
  match elemT P t with
  | none => none
  | some e =>
    match sizeT P e, zeroT P e with
    | some sz, some z =>
      if plain z = true ∧ z.cells.size = sz ∧ len * sz ≤ 2 ^ 24 ∧ len ≤ 2 ^ 24 then
        match Instr.fill (fun i => some (i * sz, sz)) (made z.cells.toList len).toArray parts with
        | some cells => some (.slice (some ⟨h.n, 0, none⟩) len len, h.push (.cells cells.toList e none true))
        | none => none
      else none
    | _, _ => none

theorem aBuildSlice_sound {P : Program} {t : TypeId} {len : Nat} {ps : List (Nat × Value)} {ps' : Array (Nat × Value)} {v : Value} {h h' : AHeap} (hs : aBuildSlice P t len ps h = some (v, h')) {ρ : Ren} {B : Nat} {w0 w : World}
    (R : WRel ρ B w0 h w) (hp : PRel ρ ps ps'.toList) : Yields P (Instr.buildSlice t len ps') ρ B w0 w v h' := by
  unfold aBuildSlice at hs
  split at hs
  case h_1 => cases hs
  rename_i e he
  have hu : P.underlying t = some (.slice e) := by
    unfold elemT at he
    split at he
    · rename_i hu; rw [hu]; simpa using he
    · cases he
  split at hs
  case h_2 => cases hs
  rename_i sz z hsz hz
  split at hs
  case isFalse => cases hs
  rename_i hc
  obtain ⟨c1, c2, c3, c4⟩ := hc
  split at hs
  case h_2 => cases hs
  rename_i cells hf
  simp at hs
  obtain ⟨rfl, rfl⟩ := hs
  cases hq : P.info? e with
  | none => simp [zeroT, hq] at hz
  | some ti =>
  simp [zeroT, hq] at hz
  simp [sizeT, hq] at hsz
  have hm : ARel ρ (made z.cells.toList len).toArray (made z.cells.toList len).toArray := ((plain.rel c1 ρ).cells.made len).arr
  obtain ⟨cells', hf', hrel⟩ := fill_rel _ _ _ _ _ _ hp hm hf
  obtain ⟨ρ', hle, hn, R'⟩ := push_yields R e hrel.list len
  have hcu : len < unk := by unfold unk; omega
  have hrun : (Instr.buildSlice t len ps').run P w = .ok (.slice (some ⟨w.heap.size, 0, none⟩) len len) (w.alloc (.cells cells' e)) := by
    have hm2 : (Array.range (len * ti.size)).map (z.cells[· % z.cells.size]!) = (made z.cells.toList len).toArray := by
      have := made_eq z.cells len
      rw [c2, ← hsz] at this
      apply Array.ext'
      simpa [madeCells] using this
    have hno : ¬ (2 ^ 24 < len * ti.size) := by rw [hsz]; omega
    by_cases h0 : len * ti.size = 0
    · have hm3 : (#[] : Array Value) = (made z.cells.toList len).toArray := by rw [← hm2, h0]; simp [Array.range_zero']
      rw [← hm3, ← hsz] at hf'
      have hz0 : len = 0 ∨ ti.size = 0 := Nat.mul_eq_zero.1 h0
      simp [Instr.buildSlice, run_underlying hu, sizeOf, typeInfo, hq, h0, hz0, hf', newRow, Array.range_zero']
    · have hz0 : ¬ (len = 0 ∨ ti.size = 0) := fun h => h0 (Nat.mul_eq_zero.2 h)
      rw [← hm2, ← hsz] at hf'
      have hno' : ¬ (16777216 < len * ti.size) := by omega
      simp [Instr.buildSlice, run_underlying hu, sizeOf, typeInfo, zeroValue, hz, hq, hno', h0, hf', newRow]
  refine ⟨ρ', _, _, hrun, ?_, by simpa using R', hle⟩
  have := VRel.slice hn 0 len len (by simp [capOf, hcu])
  simpa [capOf, hcu] using this
end Go.Proofs.Ytcnjnmgnhkjgfaa.Sim

namespace Go.Proofs.Ytcnjnmgnhkjgfaa.Sim
open Go Go.RowKit

inductive Step where
  | val (v : Value) (h : AHeap)
  | call (f : FuncId) (args : List Value)

def callable (P : Program) (f : FuncId) : Bool :=
  match P.funcs[f]? with
  | some fn => fn.body.isSome && fn.name != "runtime.NumGoroutine"
  | none => false

def aPart (P : Program) (t : TypeId) (cs : Array Value) (off : Nat) : Option Value :=
  match rowT P t, sizeT P t with
  | some true, some n => some (.agg (cs.extract off (off + n)))
  | some false, some _ => cs[off]?
  | _, _ => none
def aFieldOf (P : Program) (t : TypeId) (x : Value) (k : Nat) : Option Value :=
  match P.underlying t, x with
  | some (.struct fs), .agg cs => match fs[k]? with
    | some f => aPart P f.type cs f.offset
    | none => none
  | _, _ => none
def aIndex (P : Program) (t : TypeId) (x ix : Value) : Option Value :=
  match P.underlying t, x, ix with
  | some (.array len e), .agg cs, .int _ n => match sizeT P e with
    | some sz => if 0 ≤ n ∧ n < len then aPart P e cs (n.toNat * sz) else none
    | none => none
  | some .string, .string s, .int _ n => if 0 ≤ n then match s[n.toNat]? with
    | some b => some (.int .u8 b.toNat)
    | none => none else none
  | _, _, _ => none
def aLen (P : Program) (t : TypeId) (x : Value) : Option Value :=
  match P.underlying t, x with
  | some .string, .string s => some (.int .i64 s.size)
  | some (.slice _), .slice _ n _ => some (.int .i64 n)
  | some (.array n _), _ => some (.int .i64 n)
  | some (.pointer arr), _ => match P.underlying arr with
    | some (.array n _) => some (.int .i64 n)
    | _ => none
  | _, _ => none
def aAssert (P : Program) (x : Value) (asserted : TypeId) (ok : Bool) : Option Value :=
  match P.underlying asserted, x with
  | some (.interface _), _ => none
  | some _, .iface t v =>
    if t = asserted then some (if ok then .tuple #[v, .bool true] else v)
    else if ok then (match zeroT P asserted with | some z => if plain z then some (.tuple #[z, .bool false]) else none | none => none) else none
  | _, _ => none
def isIfaceT (P : Program) (t : TypeId) : Option Bool := match P.underlying t with | some (.interface _) => some true | some _ => some false | none => none
def allFlat (l : List Value) : Bool := l.all flat

def aBuiltin (P : Program) (b : Builtin) (types : List TypeId) (ty : TypeId) (consts : Array Bool) (args : List Value) (h : AHeap) : Option (Value × AHeap) :=
  match b, types, args with
  | .len, [t], [x] => match aLen P t x with
    | some v => some (v, h)
    | none => none
  | .append, [t, tx], [s, x] => aAppend P t tx s x h
  | .copy, [t, _], [d, s] => aCopy P t d s h
  | _, _, _ =>
    if allFlat args then
      match pureRun P (builtin b types.toArray ty consts args.toArray) with
      | some (.value v) => if flat v then some (v, h) else none
      | _ => none
    else none

def aCall (P : Program) (c : Call) (ty : TypeId) (ev : Operand → Value) (h : AHeap) : Option Step :=
  match c.callee with
  | .builtin b =>
    match aBuiltin P b c.argTypes.toList ty (c.args.map fun | .const _ => true | _ => false) (c.args.toList.map ev) h with
    | some (v, h') => some (.val v h')
    | none => none
  | .value f =>
    match ev f with
    | .func (.func fid) first captured => if callable P fid then some (.call fid (first.toList ++ c.args.toList.map ev ++ captured.toList)) else none
    | _ => none
  | .invoke _ _ => none

def justV (o : Option Value) (h : AHeap) : Option Step := match o with | some v => some (.val v h) | none => none
def andH (o : Option (Value × AHeap)) : Option Step := match o with | some (v, h) => some (.val v h) | none => none

def opEval (P : Program) (o : Oper) (ev : Operand → Value) (h : AHeap) : Option Step :=
  match o.op with
  | .move x => some (.val (ev x) h)
  | .assign x => some (.val (ev x) h)
  | .pick c a b => match ev c with
    | .bool t => some (.val (if t then ev a else ev b) h)
    | _ => none
  | .alloc e => andH (aAlloc P e h)
  | .box e x => some (.val (aBox e (ev x) h).1 (aBox e (ev x) h).2)
  | .build t ps => justV (aBuild P t (ps.toList.map fun p => (p.1, ev p.2))) h
  | .buildSlice t len ps => andH (aBuildSlice P t len (ps.toList.map fun p => (p.1, ev p.2)) h)
  | .load t a => justV (aLoad P t (ev a) h) h
  | .store t a x => match aStore P t (ev a) (ev x) h with
    | some h' => some (.val undef h')
    | none => none
  | .nilCheck x => match ev x with
    | .pointer (some a) => some (.val (.pointer (some a)) h)
    | _ => none
  | .binOp op t x y _ => justV (aBin P op t x y (ev x) (ev y)) h
  | .unOp op _ x => justV (aUn P op (ev x)) h
  | .convert s d x => andH (aConv P s d (ev x) h)
  | .makeInterface t x => match isIfaceT P t with
    | some false => some (.val (.iface t (ev x)) h)
    | _ => none
  | .makeFunc fn first captured => some (.val (.func fn (first.map ev) (captured.map ev)) h)
  | .makeSlice t l c => andH (aMake P t (ev l) (ev c) h)
  | .slice t x lo hi mx => justV (aSlice P t (ev x) (lo.map ev) (hi.map ev) (mx.map ev)) h
  | .fieldAddr s x k => justV (aField P s (ev x) k) h
  | .field t x k => justV (aFieldOf P t (ev x) k) h
  | .indexAddr t x ix => justV (aIndexAddr P t (ev x) (ev ix)) h
  | .index t x ix => justV (aIndex P t (ev x) (ev ix)) h
  | .typeAssert x _ asserted ok => justV (aAssert P (ev x) asserted ok) h
  | .extract t k => match ev t with
    | .tuple vs => justV vs[k]? h
    | _ => none
  | .call c => aCall P c o.type ev h
  | _ => none

def opndOk : Operand → Bool
  | .tmp _ => true
  | .const v => plain v
  | .global _ => false
  | .func _ => true
def opOk (o : Op) : Bool := o.operands.all opndOk

theorem ARel.part {P : Program} {ρ : Ren} {cs cs' : Array Value} (h : ARel ρ cs cs') {t : TypeId} {off : Nat} {v : Value} (hs : aPart P t cs off = some v) (w : World) :
    ∃ v', (Go.part t cs' off).run P w = .ok v' w ∧ VRel ρ v v' := by
  unfold aPart at hs
  cases hq : P.info? t with
  | none => simp [sizeT, hq] at hs
  | some ti =>
  cases hu : P.underlying t with
  | none => simp [rowT, hu] at hs
  | some d =>
  simp only [rowT, hu, sizeT, hq, Option.map_some] at hs
  cases hd : d.isRow with
  | true =>
    simp only [hd] at hs
    obtain rfl : _ = v := by simpa using hs
    have hagg : (isAgg t).run P w = .ok true w := by
      unfold isAgg
      rw [Sem.run_bind, run_underlying hu w]
      cases d <;> simp_all
    refine ⟨.agg (cs'.extract off (off + ti.size)), by simp [Go.part, hagg, sizeOf, typeInfo, hq], ?_⟩
    have h2 := ((h.list.drop off).take ti.size).arr
    have e1 : ∀ a : Array Value, ((a.toList.drop off).take ti.size).toArray = a.extract off (off + ti.size) := fun a => by
      apply Array.ext'
      simp
    rw [e1, e1] at h2
    exact h2.agg
  | false =>
    simp only [hd] at hs
    have hagg : (isAgg t).run P w = .ok false w := by
      unfold isAgg
      rw [Sem.run_bind, run_underlying hu w]
      cases d <;> simp_all
    have hlt : off < cs.size := (Array.getElem?_eq_some_iff.1 hs).1
    have hlt' : off < cs'.size := by rw [← h.1]; exact hlt
    refine ⟨cs'[off], by simp [Go.part, hagg, Array.getElem?_eq_getElem hlt'], h.2 off v _ hs (Array.getElem?_eq_getElem hlt')⟩
end Go.Proofs.Ytcnjnmgnhkjgfaa.Sim

namespace Go.Proofs.Ytcnjnmgnhkjgfaa.Sim
open Go Go.RowKit

theorem aFieldOf_sound {P : Program} {t : TypeId} {x x' v : Value} {k : Nat} {h : AHeap} (hs : aFieldOf P t x k = some v) {ρ : Ren} {B : Nat} {w0 w : World} (R : WRel ρ B w0 h w) (hx : VRel ρ x x') :
    Keeps P (Instr.field t x' k) ρ w v := by
  unfold aFieldOf at hs
  split at hs
  case h_2 => cases hs
  rename_i fs cs hu
  cases hx with
  | agg hsz hx =>
  split at hs
  case h_2 => cases hs
  rename_i f hf
  obtain ⟨v', hr, hv⟩ := ARel.part ⟨hsz, hx⟩ hs w
  refine Keeps.mk ?_ hv
  simp [Instr.field, run_underlying hu, hf, asAgg, hr]

theorem aIndex_sound {P : Program} {t : TypeId} {x x' ix ix' v : Value} {h : AHeap} (hs : aIndex P t x ix = some v) {ρ : Ren} {B : Nat} {w0 w : World} (R : WRel ρ B w0 h w) (hx : VRel ρ x x') (hix : VRel ρ ix ix') :
    Keeps P (Instr.index t x' ix') ρ w v := by
  unfold aIndex at hs
  split at hs
  · rename_i len e cs k n hu
    cases hix
    cases hx with
    | agg hsz hx =>
    split at hs
    case h_2 => cases hs
    rename_i sz hz
    split at hs
    case isFalse => cases hs
    rename_i hb
    obtain ⟨v', hr, hv⟩ := ARel.part ⟨hsz, hx⟩ hs w
    refine Keeps.mk ?_ hv
    cases hq : P.info? e with
    | none => simp [sizeT, hq] at hz
    | some ti =>
      simp [sizeT, hq] at hz
      simp [Instr.index, asIntOf, run_underlying hu, hb, sizeOf, typeInfo, hq, hz, hr]
  · rename_i s k n hu
    cases hix
    cases hx
    split at hs
    case isFalse => cases hs
    rename_i hb
    split at hs
    case h_2 => cases hs
    rename_i b hbb
    obtain rfl : _ = v := by simpa using hs
    refine Keeps.mk ?_ (.int _ _)
    simp only [Instr.index, asIntOf, Sem.run_bind, Sem.run_pure, Result.andThen_ok, run_underlying hu, if_pos hb, hbb]
  · cases hs

theorem aLen_sound {P : Program} {t ty : TypeId} {x x' v : Value} {h : AHeap} (hs : aLen P t x = some v) {ρ : Ren} {B : Nat} {w0 w : World} (R : WRel ρ B w0 h w) (hx : VRel ρ x x') :
    Keeps P (Builtin.len_ #[t] ty #[x']) ρ w v := by
  unfold aLen at hs
  split at hs
  · rename_i s hu
    cases hx
    obtain rfl : _ = v := by simpa using hs
    exact Keeps.mk (by simp [Builtin.len_, run_underlying hu, goInt]) (.int _ _)
  · rename_i e b n c hu
    obtain rfl : _ = v := by simpa using hs
    cases hx
    · exact Keeps.mk (by simp [Builtin.len_, run_underlying hu, goInt]) (.int _ _)
    · exact Keeps.mk (by simp [Builtin.len_, run_underlying hu, goInt]) (.int _ _)
  · rename_i n e hu
    obtain rfl : _ = v := by simpa using hs
    exact Keeps.mk (by simp [Builtin.len_, run_underlying hu, goInt]) (.int _ _)
  · rename_i arr hu
    split at hs
    case h_2 => cases hs
    rename_i n e hu2
    obtain rfl : _ = v := by simpa using hs
    exact Keeps.mk (by simp [Builtin.len_, run_underlying hu, run_underlying hu2, goInt]) (.int _ _)
  · cases hs

theorem aAssert_sound {P : Program} {x x' v : Value} {xt asserted : TypeId} {ok : Bool} {h : AHeap} (hs : aAssert P x asserted ok = some v) {ρ : Ren} {B : Nat} {w0 w : World} (R : WRel ρ B w0 h w) (hx : VRel ρ x x') :
    Keeps P (Instr.typeAssert x' xt asserted ok) ρ w v := by
  unfold aAssert at hs
  split at hs
  · cases hs
  · rename_i d t u hni hu
    cases hx with
    | iface t hv =>
    rename_i u'
    split at hs
    · rename_i ht
      obtain rfl : _ = v := by simpa using hs
      refine Keeps.mk (v' := if ok then .tuple #[u', .bool true] else u') ?_ ?_
      · cases d with
        | interface ms => exact absurd rfl (hni ms)
        | _ => cases ok <;> simp [Instr.typeAssert, run_underlying hu, ht]
      · cases ok
        · exact hv
        · simp only [if_true]
          have := (LRel.cons hv (.cons (.bool true) (.nil ρ))).arr
          exact .tuple this.1 this.2
    · rename_i ht
      split at hs
      case isFalse => cases hs
      rename_i hok
      subst hok
      split at hs
      case h_2 => cases hs
      rename_i z hz
      split at hs
      case isFalse => cases hs
      rename_i hp
      obtain rfl : _ = v := by simpa using hs
      have := (LRel.cons (plain.rel hp ρ) (.cons (.bool false) (.nil ρ))).arr
      refine Keeps.mk (v' := .tuple #[z, .bool false]) ?_ (.tuple this.1 this.2)
      cases hq : P.info? asserted with
      | none => simp [zeroT, hq] at hz
      | some ti =>
        simp [zeroT, hq] at hz
        cases d with
        | interface ms => exact absurd rfl (hni ms)
        | _ => simp [Instr.typeAssert, run_underlying hu, ht, zeroValue, typeInfo, hq, hz]
  · cases hs

theorem args_rel {ρ : Ren} {ev ev' : Operand → Value} (hev : ∀ x, opndOk x = true → VRel ρ (ev x) (ev' x)) : ∀ l : List Operand, l.all opndOk = true → LRel ρ (l.map ev) (l.map ev')
  | [], _ => .nil ρ
  | x :: l, h => by
    simp only [List.all_cons, Bool.and_eq_true] at h
    exact .cons (hev x h.1) (args_rel hev l h.2)
theorem parts_rel {ρ : Ren} {ev ev' : Operand → Value} (hev : ∀ x, opndOk x = true → VRel ρ (ev x) (ev' x)) : ∀ l : List (Nat × Operand), (l.map (·.2)).all opndOk = true →
    PRel ρ (l.map fun p => (p.1, ev p.2)) (l.map fun p => (p.1, ev' p.2))
  | [], _ => trivial
  | x :: l, h => by
    simp only [List.map_cons, List.all_cons, Bool.and_eq_true] at h
    exact ⟨rfl, hev _ h.1, parts_rel hev l h.2⟩
theorem allFlat_eq {ρ : Ren} : ∀ {l l' : List Value}, LRel ρ l l' → allFlat l = true → l' = l
  | [], l', h, _ => h.eq_nil
  | v :: l, l', h, hf => by
    obtain ⟨v', t', rfl, hv, ht⟩ := h.uncons
    simp only [allFlat, List.all_cons, Bool.and_eq_true] at hf
    rw [hv.eq_of_flat hf.1, allFlat_eq ht hf.2]

/-- What an operation that goes on yields. -/
def YieldsN (P : Program) (s : Sem Next) (ρ : Ren) (B : Nat) (w0 w : World) (v : Value) (h' : AHeap) : Prop :=
  ∃ ρ' v' w', (s.run P w = .ok (.value v') w' ∨ (s.run P w = .ok .skip w' ∧ v' = undef)) ∧ VRel ρ' v v' ∧ WRel ρ' B w0 h' w' ∧ ρ.le ρ'
theorem Yields.next {P : Program} {s : Sem Value} {ρ : Ren} {B : Nat} {w0 w : World} {v : Value} {h' : AHeap} (y : Yields P s ρ B w0 w v h') :
    YieldsN P (do pure (.value (← s))) ρ B w0 w v h' := by
  obtain ⟨ρ', v', w', hr, hv, R, hle⟩ := y
  exact ⟨ρ', v', w', .inl (by simp [hr]), hv, R, hle⟩
theorem YieldsN.same {P : Program} {s : Sem Next} {ρ : Ren} {B : Nat} {w0 w : World} {v v' : Value} {h : AHeap} (R : WRel ρ B w0 h w) (hr : s.run P w = .ok (.value v') w) (hv : VRel ρ v v') :
    YieldsN P s ρ B w0 w v h := ⟨ρ, v', w, .inl hr, hv, R, Ren.le.refl ρ⟩

theorem aBuiltin_sound {P : Program} {b : Builtin} {types : Array TypeId} {ty : TypeId} {consts : Array Bool} {args : List Value} {args' : Array Value} {h h' : AHeap} {v : Value}
    (hs : aBuiltin P b types.toList ty consts args h = some (v, h')) {ρ : Ren} {B : Nat} {w0 w : World} (R : WRel ρ B w0 h w) (ha : LRel ρ args args'.toList) :
    YieldsN P (builtin b types ty consts args') ρ B w0 w v h' := by
  unfold aBuiltin at hs
  split at hs
  · rename_i t x ht
    obtain ⟨x', t', he, hx, ht'⟩ := ha.uncons
    rw [ht'.eq_nil] at he
    have e1 : args' = #[x'] := by apply Array.ext'; simpa using he
    have e2 : types = #[t] := by apply Array.ext'; simpa using ht
    subst e1; subst e2
    split at hs
    case h_2 => cases hs
    rename_i u hu
    simp at hs
    obtain ⟨rfl, rfl⟩ := hs
    exact ((aLen_sound hu R hx).yields R).next
  · rename_i t tx s x ht
    obtain ⟨s', t', he, hx1, ht'⟩ := ha.uncons
    obtain ⟨x', t2', he2, hx2, ht2'⟩ := ht'.uncons
    rw [ht2'.eq_nil] at he2
    have e1 : args' = #[s', x'] := by apply Array.ext'; rw [he, he2]
    have e2 : types = #[t, tx] := by apply Array.ext'; simpa using ht
    subst e1; subst e2
    exact (aAppend_sound hs R hx1 hx2).next
  · rename_i t tx s x ht
    obtain ⟨s', t', he, hx1, ht'⟩ := ha.uncons
    obtain ⟨x', t2', he2, hx2, ht2'⟩ := ht'.uncons
    rw [ht2'.eq_nil] at he2
    have e1 : args' = #[s', x'] := by apply Array.ext'; rw [he, he2]
    have e2 : types = #[t, tx] := by apply Array.ext'; simpa using ht
    subst e1; subst e2
    exact (aCopy_sound hs R hx1 hx2).next
  · split at hs
    case isFalse => cases hs
    rename_i hf
    have e1 := allFlat_eq ha hf
    split at hs
    case h_2 => cases hs
    rename_i u hu
    split at hs
    case isFalse => cases hs
    rename_i hfu
    simp at hs
    obtain ⟨rfl, rfl⟩ := hs
    refine .same R ?_ (flat.rel hfu ρ)
    have := pureRun_run hu w
    rw [← e1] at this
    simpa using this
end Go.Proofs.Ytcnjnmgnhkjgfaa.Sim

namespace Go.Proofs.Ytcnjnmgnhkjgfaa.Sim
open Go Go.RowKit

theorem andH_val {o : Option (Value × AHeap)} {v : Value} {h : AHeap} (hs : andH o = some (.val v h)) : o = some (v, h) := by
  unfold andH at hs
  split at hs
  · simp at hs; obtain ⟨rfl, rfl⟩ := hs; rfl
  · cases hs
theorem justV_val {o : Option Value} {v : Value} {h h' : AHeap} (hs : justV o h = some (.val v h')) : o = some v ∧ h' = h := by
  unfold justV at hs
  split at hs
  · simp at hs; obtain ⟨rfl, rfl⟩ := hs; exact ⟨rfl, rfl⟩
  · cases hs

theorem opt_rel {ρ : Ren} {ev ev' : Operand → Value} (hev : ∀ x, opndOk x = true → VRel ρ (ev x) (ev' x)) (o : Option Operand) (h : o.toArray.all opndOk = true) : Option.Rel (VRel ρ) (o.map ev) (o.map ev') := by
  cases o with
  | none => exact .none
  | some x => exact .some (hev x (by simpa using h))

theorem opEval_val {P : Program} {o : Oper} {ev ev' : Operand → Value} {h h' : AHeap} {v : Value} (hs : opEval P o ev h = some (.val v h')) (hok : opOk o.op = true) {ρ : Ren} {B : Nat} {w0 w : World}
    (R : WRel ρ B w0 h w) (hev : ∀ x, opndOk x = true → VRel ρ (ev x) (ev' x)) : YieldsN P (execOp ev' o) ρ B w0 w v h' := by
  unfold opOk at hok
  unfold opEval at hs
  unfold execOp
  split at hs
  · rename_i x hop
    simp only [hop] at hok ⊢
    simp at hs; obtain ⟨rfl, rfl⟩ := hs
    exact .same R (Sem.run_pure ..) (hev x (by simpa [Op.operands] using hok))
  · rename_i x hop
    simp only [hop] at hok ⊢
    simp at hs; obtain ⟨rfl, rfl⟩ := hs
    exact .same R (Sem.run_pure ..) (hev x (by simpa [Op.operands] using hok))
  · rename_i c a b hop
    simp only [hop] at hok ⊢
    simp [Op.operands] at hok
    split at hs
    case h_2 => cases hs
    rename_i t ht
    simp at hs; obtain ⟨rfl, rfl⟩ := hs
    have hc := hev c hok.1
    rw [ht] at hc
    have hcc : ev' c = .bool t := hc.eq_of_flat rfl
    refine .same R (v' := if t then ev' a else ev' b) ?_ ?_
    · simp [hcc, asBool]
    · cases t
      · exact hev b hok.2.2
      · exact hev a hok.2.1
  · rename_i e hop
    simp only [hop]
    exact (aAlloc_sound (andH_val hs) R).next
  · rename_i e x hop
    simp only [hop] at hok ⊢
    simp at hs; obtain ⟨rfl, rfl⟩ := hs
    exact (aBox_sound R (hev x (by simpa [Op.operands] using hok))).next
  · rename_i t ps hop
    simp only [hop] at hok ⊢
    obtain ⟨hv, he⟩ := justV_val hs
    subst he
    refine ((aBuild_sound hv R ?_).yields R).next
    have := parts_rel hev ps.toList (by simpa [Op.operands] using hok)
    simpa using this
  · rename_i t len ps hop
    simp only [hop] at hok ⊢
    refine (aBuildSlice_sound (andH_val hs) R ?_).next
    have := parts_rel hev ps.toList (by simpa [Op.operands] using hok)
    simpa using this
  · rename_i t a hop
    simp only [hop] at hok ⊢
    obtain ⟨hv, he⟩ := justV_val hs
    subst he
    exact ((aLoad_sound hv R (hev a (by simpa [Op.operands] using hok))).yields R).next
  · rename_i t a x hop
    simp only [hop] at hok ⊢
    simp [Op.operands] at hok
    split at hs
    case h_2 => cases hs
    rename_i h2 hst
    simp at hs; obtain ⟨rfl, rfl⟩ := hs
    obtain ⟨w', hr, R'⟩ := aStore_sound hst R (hev a hok.1) (hev x hok.2)
    exact ⟨ρ, undef, w', .inr ⟨by simp [hr], rfl⟩, .tuple rfl (by simp), R', Ren.le.refl ρ⟩
  · rename_i x hop
    simp only [hop] at hok ⊢
    split at hs
    case h_2 => cases hs
    rename_i a ha
    simp at hs; obtain ⟨rfl, rfl⟩ := hs
    have hx := hev x (by simpa [Op.operands] using hok)
    rw [ha] at hx
    generalize hx' : ev' x = x' at hx
    cases hx with
    | ptr hi o => exact .same R (Sem.run_pure ..) (.ptr hi o)
  · rename_i op t x y yt hop
    simp only [hop] at hok ⊢
    simp [Op.operands] at hok
    obtain ⟨hv, he⟩ := justV_val hs
    subst he
    exact ((aBin_sound hv R (hev x hok.1) (hev y hok.2)).yields R).next
  · rename_i op t x hop
    simp only [hop] at hok ⊢
    obtain ⟨hv, he⟩ := justV_val hs
    subst he
    exact ((aUn_sound hv R (hev x (by simpa [Op.operands] using hok))).yields R).next
  · rename_i s d x hop
    simp only [hop] at hok ⊢
    exact (aConv_sound (andH_val hs) R (hev x (by simpa [Op.operands] using hok))).next
  · rename_i t x hop
    simp only [hop] at hok ⊢
    split at hs
    case h_2 => cases hs
    rename_i ht
    simp at hs; obtain ⟨rfl, rfl⟩ := hs
    have hx := hev x (by simpa [Op.operands] using hok)
    refine Yields.next (.same R (v' := .iface t (ev' x)) ?_ (.iface t hx))
    unfold isIfaceT at ht
    split at ht
    · simp at ht
    · rename_i d hni hu
      cases d with
      | interface ms => exact absurd rfl (hni ms)
      | _ => simp [Instr.makeInterface, run_underlying hu]
    · cases ht
  · rename_i fn first captured hop
    simp only [hop] at hok ⊢
    simp only [Op.operands, Array.all_append, Bool.and_eq_true] at hok
    simp at hs; obtain ⟨rfl, rfl⟩ := hs
    have h1 := (args_rel hev first.toList (by simpa using hok.1)).arr
    have h2 := (args_rel hev captured.toList (by simpa using hok.2)).arr
    refine Yields.next (.same R (v' := .func fn (first.map ev') (captured.map ev')) (Sem.run_pure ..) ?_)
    have e1 : ∀ (f : Operand → Value) (a : Array Operand), (a.toList.map f).toArray = a.map f := fun f a => Array.ext' (by simp)
    rw [e1, e1] at h1 h2
    exact .func fn h1.1 h2.1 h1.2 h2.2
  · rename_i t l c hop
    simp only [hop] at hok ⊢
    simp [Op.operands] at hok
    exact (aMake_sound (andH_val hs) R (hev l hok.1) (hev c hok.2)).next
  · rename_i t x lo hi mx hop
    simp only [hop] at hok ⊢
    simp only [Op.operands, Array.all_append, Bool.and_eq_true] at hok
    obtain ⟨hv, he⟩ := justV_val hs
    subst he
    exact ((aSlice_sound hv R (hev x (by simpa using hok.1.1.1)) (opt_rel hev lo hok.1.1.2) (opt_rel hev hi hok.1.2) (opt_rel hev mx hok.2)).yields R).next
  · rename_i s x k hop
    simp only [hop] at hok ⊢
    obtain ⟨hv, he⟩ := justV_val hs
    subst he
    exact ((aField_sound hv R (hev x (by simpa [Op.operands] using hok))).yields R).next
  · rename_i t x k hop
    simp only [hop] at hok ⊢
    obtain ⟨hv, he⟩ := justV_val hs
    subst he
    exact ((aFieldOf_sound hv R (hev x (by simpa [Op.operands] using hok))).yields R).next
  · rename_i t x ix hop
    simp only [hop] at hok ⊢
    simp [Op.operands] at hok
    obtain ⟨hv, he⟩ := justV_val hs
    subst he
    exact ((aIndexAddr_sound hv R (hev x hok.1) (hev ix hok.2)).yields R).next
  · rename_i t x ix hop
    simp only [hop] at hok ⊢
    simp [Op.operands] at hok
    obtain ⟨hv, he⟩ := justV_val hs
    subst he
    exact ((aIndex_sound hv R (hev x hok.1) (hev ix hok.2)).yields R).next
  · rename_i x xt asserted ok hop
    simp only [hop] at hok ⊢
    obtain ⟨hv, he⟩ := justV_val hs
    subst he
    exact ((aAssert_sound hv R (hev x (by simpa [Op.operands] using hok))).yields R).next
  · rename_i t k hop
    simp only [hop] at hok ⊢
    split at hs
    case h_2 => cases hs
    rename_i vs hvs
    obtain ⟨hv, he⟩ := justV_val hs
    subst he
    have hx := hev t (by simpa [Op.operands] using hok)
    rw [hvs] at hx
    generalize hx' : ev' t = x' at hx
    cases hx with
    | tuple hsz hx =>
      rename_i vs'
      have hlt : k < vs.size := (Array.getElem?_eq_some_iff.1 hv).1
      have hlt' : k < vs'.size := by rw [← hsz]; exact hlt
      refine Yields.next (.same R (v' := vs'[k]) ?_ (hx k v _ hv (Array.getElem?_eq_getElem hlt')))
      simp [Instr.extract, Array.getElem?_eq_getElem hlt']
  · rename_i c hop
    simp only [hop] at hok ⊢
    unfold aCall at hs
    split at hs
    · rename_i b hb
      split at hs
      case h_2 => cases hs
      rename_i u h2 hu
      simp at hs; obtain ⟨rfl, rfl⟩ := hs
      have ha := args_rel hev c.args.toList (by simpa [Op.operands, Call.operands, hb] using hok)
      have := aBuiltin_sound (args' := c.args.map ev') hu R (by simpa using ha)
      have e1 : (do let d ← resolve ev' c o.type; invoke d.target d.args) = builtin b c.argTypes o.type (c.args.map fun | .const _ => true | _ => false) (c.args.map ev') := by
        simp [resolve, hb, invoke]
        rfl
      rw [e1]
      exact this
    · split at hs
      case h_2 => cases hs
      split at hs <;> cases hs
    · cases hs
  · cases hs
end Go.Proofs.Ytcnjnmgnhkjgfaa.Sim

namespace Go.Proofs.Ytcnjnmgnhkjgfaa.Sim
open Go Go.RowKit
set_option linter.unusedVariables false

/-! ### Operations that leave the memory alone -/
def KeepsN (P : Program) (s : Sem Next) (ρ : Ren) (w : World) (v : Value) : Prop := ∃ v', s.run P w = .ok (.value v') w ∧ VRel ρ v v'
theorem KeepsN.mk {P : Program} {s : Sem Next} {ρ : Ren} {w : World} {v v' : Value} (hr : s.run P w = .ok (.value v') w) (hv : VRel ρ v v') : KeepsN P s ρ w v := ⟨v', hr, hv⟩
theorem Keeps.next {P : Program} {s : Sem Value} {ρ : Ren} {w : World} {v : Value} (y : Keeps P s ρ w v) : KeepsN P (do pure (.value (← s))) ρ w v := by
  obtain ⟨v', hr, hv⟩ := y
  exact ⟨v', by simp [hr], hv⟩

def aQuietB (P : Program) (b : Builtin) (types : List TypeId) (ty : TypeId) (consts : Array Bool) (args : List Value) : Option Value :=
  match b, types, args with
  | .len, [t], [x] => aLen P t x
  | _, _, _ =>
    if allFlat args then
      match pureRun P (builtin b types.toArray ty consts args.toArray) with
      | some (.value v) => if flat v then some v else none
      | _ => none
    else none
theorem aQuietB_sound {P : Program} {b : Builtin} {types : Array TypeId} {ty : TypeId} {consts : Array Bool} {args : List Value} {args' : Array Value} {h : AHeap} {v : Value}
    (hs : aQuietB P b types.toList ty consts args = some v) {ρ : Ren} {B : Nat} {w0 w : World} (R : WRel ρ B w0 h w) (ha : LRel ρ args args'.toList) :
    KeepsN P (builtin b types ty consts args') ρ w v := by
  unfold aQuietB at hs
  split at hs
  · rename_i t x ht
    obtain ⟨x', t', he, hx, ht'⟩ := ha.uncons
    rw [ht'.eq_nil] at he
    have e1 : args' = #[x'] := by apply Array.ext'; simpa using he
    have e2 : types = #[t] := by apply Array.ext'; simpa using ht
    subst e1; subst e2
    exact (aLen_sound hs R hx).next
  · split at hs
    case isFalse => cases hs
    rename_i hf
    have e1 := allFlat_eq ha hf
    split at hs
    case h_2 => cases hs
    rename_i u hu
    split at hs
    case isFalse => cases hs
    rename_i hfu
    obtain rfl : u = v := by simpa using hs
    refine .mk ?_ (flat.rel hfu ρ)
    have := pureRun_run hu w
    rw [← e1] at this
    simpa using this

def opQuiet (P : Program) (o : Oper) (ev : Operand → Value) (h : AHeap) : Option Value :=
  match o.op with
  | .move x => some (ev x)
  | .assign x => some (ev x)
  | .pick c a b => match ev c with
    | .bool t => some (if t then ev a else ev b)
    | _ => none
  | .build t ps => aBuild P t (ps.toList.map fun p => (p.1, ev p.2))
  | .load t a => aLoad P t (ev a) h
  | .nilCheck x => match ev x with
    | .pointer (some a) => some (.pointer (some a))
    | _ => none
  | .binOp op t x y _ => aBin P op t x y (ev x) (ev y)
  | .unOp op _ x => aUn P op (ev x)
  | .makeInterface t x => match isIfaceT P t with
    | some false => some (.iface t (ev x))
    | _ => none
  | .makeFunc fn first captured => some (.func fn (first.map ev) (captured.map ev))
  | .slice t x lo hi mx => aSlice P t (ev x) (lo.map ev) (hi.map ev) (mx.map ev)
  | .fieldAddr s x k => aField P s (ev x) k
  | .field t x k => aFieldOf P t (ev x) k
  | .indexAddr t x ix => aIndexAddr P t (ev x) (ev ix)
  | .index t x ix => aIndex P t (ev x) (ev ix)
  | .typeAssert x _ asserted ok => aAssert P (ev x) asserted ok
  | .extract t k => match ev t with
    | .tuple vs => vs[k]?
    | _ => none
  | .call c => match c.callee with
    | .builtin b => aQuietB P b c.argTypes.toList o.type (c.args.map fun | .const _ => true | _ => false) (c.args.toList.map ev)
    | _ => none
  | _ => none

theorem opQuiet_val {P : Program} {o : Oper} {ev ev' : Operand → Value} {h : AHeap} {v : Value} (hs : opQuiet P o ev h = some v) (hok : opOk o.op = true) {ρ : Ren} {B : Nat} {w0 w : World}
    (R : WRel ρ B w0 h w) (hev : ∀ x, opndOk x = true → VRel ρ (ev x) (ev' x)) : KeepsN P (execOp ev' o) ρ w v := by
  unfold opOk at hok
  unfold opQuiet at hs
  unfold execOp
  split at hs
  · rename_i x hop
    simp only [hop] at hok ⊢
    simp at hs; obtain rfl := hs
    exact KeepsN.mk (Sem.run_pure ..) (hev x (by simpa [Op.operands] using hok))
  · rename_i x hop
    simp only [hop] at hok ⊢
    simp at hs; obtain rfl := hs
    exact KeepsN.mk (Sem.run_pure ..) (hev x (by simpa [Op.operands] using hok))
  · rename_i c a b hop
    simp only [hop] at hok ⊢
    simp [Op.operands] at hok
    split at hs
    case h_2 => cases hs
    rename_i t ht
    simp at hs; obtain rfl := hs
    have hc := hev c hok.1
    rw [ht] at hc
    have hcc : ev' c = .bool t := hc.eq_of_flat rfl
    refine KeepsN.mk (v' := if t then ev' a else ev' b) ?_ ?_
    · simp [hcc, asBool]
    · cases t
      · exact hev b hok.2.2
      · exact hev a hok.2.1
  · rename_i t ps hop
    simp only [hop] at hok ⊢
    have hv := hs
    refine (aBuild_sound hv R ?_).next
    have := parts_rel hev ps.toList (by simpa [Op.operands] using hok)
    simpa using this
  · rename_i t a hop
    simp only [hop] at hok ⊢
    have hv := hs
    exact (aLoad_sound hv R (hev a (by simpa [Op.operands] using hok))).next
  · rename_i x hop
    simp only [hop] at hok ⊢
    split at hs
    case h_2 => cases hs
    rename_i a ha
    simp at hs; obtain rfl := hs
    have hx := hev x (by simpa [Op.operands] using hok)
    rw [ha] at hx
    generalize hx' : ev' x = x' at hx
    cases hx with
    | ptr hi o => exact KeepsN.mk (Sem.run_pure ..) (.ptr hi o)
  · rename_i op t x y yt hop
    simp only [hop] at hok ⊢
    simp [Op.operands] at hok
    have hv := hs
    exact (aBin_sound hv R (hev x hok.1) (hev y hok.2)).next
  · rename_i op t x hop
    simp only [hop] at hok ⊢
    have hv := hs
    exact (aUn_sound hv R (hev x (by simpa [Op.operands] using hok))).next
  · rename_i t x hop
    simp only [hop] at hok ⊢
    split at hs
    case h_2 => cases hs
    rename_i ht
    simp at hs; obtain rfl := hs
    have hx := hev x (by simpa [Op.operands] using hok)
    refine Keeps.next (.mk (v' := .iface t (ev' x)) ?_ (.iface t hx))
    unfold isIfaceT at ht
    split at ht
    · simp at ht
    · rename_i d hni hu
      cases d with
      | interface ms => exact absurd rfl (hni ms)
      | _ => simp [Instr.makeInterface, run_underlying hu]
    · cases ht
  · rename_i fn first captured hop
    simp only [hop] at hok ⊢
    simp only [Op.operands, Array.all_append, Bool.and_eq_true] at hok
    simp at hs; obtain rfl := hs
    have h1 := (args_rel hev first.toList (by simpa using hok.1)).arr
    have h2 := (args_rel hev captured.toList (by simpa using hok.2)).arr
    refine Keeps.next (.mk (v' := .func fn (first.map ev') (captured.map ev')) (Sem.run_pure ..) ?_)
    have e1 : ∀ (f : Operand → Value) (a : Array Operand), (a.toList.map f).toArray = a.map f := fun f a => Array.ext' (by simp)
    rw [e1, e1] at h1 h2
    exact .func fn h1.1 h2.1 h1.2 h2.2
  · rename_i t x lo hi mx hop
    simp only [hop] at hok ⊢
    simp only [Op.operands, Array.all_append, Bool.and_eq_true] at hok
    have hv := hs
    exact (aSlice_sound hv R (hev x (by simpa using hok.1.1.1)) (opt_rel hev lo hok.1.1.2) (opt_rel hev hi hok.1.2) (opt_rel hev mx hok.2)).next
  · rename_i s x k hop
    simp only [hop] at hok ⊢
    have hv := hs
    exact (aField_sound hv R (hev x (by simpa [Op.operands] using hok))).next
  · rename_i t x k hop
    simp only [hop] at hok ⊢
    have hv := hs
    exact (aFieldOf_sound hv R (hev x (by simpa [Op.operands] using hok))).next
  · rename_i t x ix hop
    simp only [hop] at hok ⊢
    simp [Op.operands] at hok
    have hv := hs
    exact (aIndexAddr_sound hv R (hev x hok.1) (hev ix hok.2)).next
  · rename_i t x ix hop
    simp only [hop] at hok ⊢
    simp [Op.operands] at hok
    have hv := hs
    exact (aIndex_sound hv R (hev x hok.1) (hev ix hok.2)).next
  · rename_i x xt asserted ok hop
    simp only [hop] at hok ⊢
    have hv := hs
    exact (aAssert_sound hv R (hev x (by simpa [Op.operands] using hok))).next
  · rename_i t k hop
    simp only [hop] at hok ⊢
    split at hs
    case h_2 => cases hs
    rename_i vs hvs
    have hv := hs
    have hx := hev t (by simpa [Op.operands] using hok)
    rw [hvs] at hx
    generalize hx' : ev' t = x' at hx
    cases hx with
    | tuple hsz hx =>
      rename_i vs'
      have hlt : k < vs.size := (Array.getElem?_eq_some_iff.1 hv).1
      have hlt' : k < vs'.size := by rw [← hsz]; exact hlt
      refine Keeps.next (.mk (v' := vs'[k]) ?_ (hx k v _ hv (Array.getElem?_eq_getElem hlt')))
      simp [Instr.extract, Array.getElem?_eq_getElem hlt']
  · rename_i c hop
    simp only [hop] at hok ⊢
    split at hs
    case h_2 => cases hs
    rename_i b hb
    have ha := args_rel hev c.args.toList (by simpa [Op.operands, Call.operands, hb] using hok)
    have := aQuietB_sound (args' := c.args.map ev') hs R (by simpa using ha)
    have e1 : (do let d ← resolve ev' c o.type; invoke d.target d.args) = builtin b c.argTypes o.type (c.args.map fun | .const _ => true | _ => false) (c.args.map ev') := by
      simp [resolve, hb, invoke]
      rfl
    rw [e1]
    exact this
  · cases hs

end Go.Proofs.Ytcnjnmgnhkjgfaa.Sim

namespace Go.Proofs.Ytcnjnmgnhkjgfaa.Sim
open Go Go.RowKit
set_option linter.unusedVariables false

theorem opEval_call {P : Program} {o : Oper} {ev ev' : Operand → Value} {h : AHeap} {g : FuncId} {args : List Value} (hs : opEval P o ev h = some (.call g args)) (hok : opOk o.op = true) {ρ : Ren} {B : Nat} {w0 w : World}
    (R : WRel ρ B w0 h w) (hev : ∀ x, opndOk x = true → VRel ρ (ev x) (ev' x)) : ∃ args', (execOp ev' o).run P w = .ok (.enter g args') w ∧ LRel ρ args args'.toList := by
  have key : ∃ c, o.op = .call c ∧ aCall P c o.type ev h = some (.call g args) := by
    unfold opEval at hs
    split at hs
    all_goals first
      | (rename_i c hop; exact ⟨c, hop, hs⟩)
      | (simp [andH, justV] at hs; done)
      | (unfold andH at hs; split at hs <;> simp at hs; done)
      | (unfold justV at hs; split at hs <;> simp at hs; done)
      | (split at hs <;> (try (unfold justV at hs; split at hs)) <;> simp at hs; done)
  obtain ⟨c, hop, hc⟩ := key
  unfold opOk at hok
  simp only [hop] at hok
  unfold aCall at hc
  split at hc
  · split at hc <;> simp at hc
  · rename_i fo hf
    split at hc
    case h_2 => cases hc
    rename_i fid first captured hfv
    split at hc
    case isFalse => cases hc
    rename_i hcall
    simp at hc
    obtain ⟨rfl, rfl⟩ := hc
    simp only [Op.operands, Call.operands, hf, Array.all_append, Bool.and_eq_true] at hok
    have hv := hev fo (by simpa using hok.1)
    rw [hfv] at hv
    generalize hv' : ev' fo = v' at hv
    cases hv with
    | func fn hs1 hs2 hx hy =>
    rename_i first' captured'
    have ha := args_rel hev c.args.toList (by simpa using hok.2)
    refine ⟨first' ++ c.args.map ev' ++ captured', ?_, ?_⟩
    · unfold callable at hcall
      split at hcall
      case h_2 => cases hcall
      rename_i fn hfn
      simp only [Bool.and_eq_true, bne_iff_ne, ne_eq] at hcall
      have hb : fn.body.isNone = false := by cases hb : fn.body <;> simp_all
      unfold execOp
      simp only [hop]
      simp [resolve, hf, hv', Deferred.ofValue, invoke, callFunc, hfn, hcall.2]
      intro hh
      simp [hh] at hcall
    · have h1 : LRel ρ first.toList first'.toList := ARel.list ⟨hs1, hx⟩
      have h2 : LRel ρ captured.toList captured'.toList := ARel.list ⟨hs2, hy⟩
      have := h1.append (ha.append h2)
      simpa using this
  · cases hc

inductive AExit where
  | normal
  | exit (id : Nat)
  | goto (l : Nat)
  | ret

def XR : AExit → Exit → Prop
  | .normal, .normal => True
  | .exit i, .exit j => i = j
  | .goto i, .goto j => i = j
  | .ret, .ret => True
  | _, _ => False

/-- A call, seen from the abstract states. -/
def SCalls (P : Program) (f : FuncId) (args : List Value) (h : AHeap) (R : Value → AHeap → Prop) : Prop :=
  ∀ (ρ : Ren) (B : Nat) (w0 w : World) (args' : Array Value), WRel ρ B w0 h w → LRel ρ args args'.toList →
    Calls P f args' w fun e w' => ∃ (ρ' : Ren) (r r' : Value) (h' : AHeap), e = .returned r' ∧ VRel ρ' r r' ∧ WRel ρ' B w0 h' w' ∧ ρ.le ρ' ∧ R r h'

theorem SCalls.mono {P : Program} {f : FuncId} {args : List Value} {h : AHeap} {R R' : Value → AHeap → Prop} (hc : SCalls P f args h R) (hr : ∀ r h', R r h' → R' r h') : SCalls P f args h R' :=
  fun ρ B w0 w args' hw ha => (hc ρ B w0 w args' hw ha).mono fun _ _ ⟨ρ', r, r', h', he, hv, hw', hle, hR⟩ => ⟨ρ', r, r', h', he, hv, hw', hle, hr _ _ hR⟩

/-- What is asked of the concrete end of a piece of code. -/
def CPost (n : Nat) (B : Nat) (w0 : World) (ρ : Ren) (Q : AExit → AFrame → AHeap → Prop) (e : Exit) (a : Act) (w : World) : Prop :=
  ∃ (ρ' : Ren) (x : AExit) (f : AFrame) (h : AHeap), XR x e ∧ WRel ρ' B w0 h w ∧ FRel ρ' n f a ∧ ρ.le ρ' ∧ Q x f h

theorem CPost.le {n B : Nat} {w0 : World} {ρ ρ1 : Ren} (hle : ρ.le ρ1) {Q : AExit → AFrame → AHeap → Prop} {e : Exit} {a : Act} {w : World} (h : CPost n B w0 ρ1 Q e a w) : CPost n B w0 ρ Q e a w :=
  let ⟨ρ', x, f, h', hx, hw, hf, hl, hq⟩ := h
  ⟨ρ', x, f, h', hx, hw, hf, hle.trans hl, hq⟩

/-- A piece of code, seen from the abstract states. -/
def SWp (P : Program) (n : Nat) (c : Code) (Q : AExit → AFrame → AHeap → Prop) (f : AFrame) (h : AHeap) : Prop :=
  ∀ (ρ : Ren) (B : Nat) (w0 : World) (a : Act) (w : World), WRel ρ B w0 h w → FRel ρ n f a → c.wp P (CPost n B w0 ρ Q) a w

theorem SWp.mono {P : Program} {n : Nat} {c : Code} {Q Q' : AExit → AFrame → AHeap → Prop} {f : AFrame} {h : AHeap} (hs : SWp P n c Q f h) (hq : ∀ e f h, Q e f h → Q' e f h) : SWp P n c Q' f h :=
  fun ρ B w0 a w hw hf => wp_mono (hs ρ B w0 a w hw hf) fun _ _ _ ⟨ρ', x, f', h', hx, hw', hf', hl, hQ⟩ => ⟨ρ', x, f', h', hx, hw', hf', hl, hq _ _ _ hQ⟩

/-- Behind a first piece. -/
def andThen (K : AFrame → AHeap → Prop) (Q : AExit → AFrame → AHeap → Prop) : AExit → AFrame → AHeap → Prop
  | .normal, f, h => K f h
  | e, f, h => Q e f h

theorem SWp.seq {P : Program} {n : Nat} {x y : Code} {Q : AExit → AFrame → AHeap → Prop} {f : AFrame} {h : AHeap} (hs : SWp P n x (andThen (SWp P n y Q) Q) f h) : SWp P n (.seq x y) Q f h := by
  intro ρ B w0 a w hw hf
  refine wp_seq (wp_mono (hs ρ B w0 a w hw hf) fun e a' w' ⟨ρ', x, f', h', hx, hw', hf', hl, hQ⟩ => ?_)
  cases x <;> cases e <;> simp only [XR] at hx
  · exact wp_mono (hQ ρ' B w0 a' w' hw' hf') fun _ _ _ hp => hp.le hl
  · exact ⟨ρ', _, f', h', by exact hx, hw', hf', hl, hQ⟩
  · exact ⟨ρ', _, f', h', by exact hx, hw', hf', hl, hQ⟩
  · exact ⟨ρ', .ret, f', h', trivial, hw', hf', hl, hQ⟩

theorem SWp.cond {P : Program} {n : Nat} {c : Operand} {x y : Code} {Q : AExit → AFrame → AHeap → Prop} {f : AFrame} {h : AHeap} {t : Bool} (hok : opndOk c = true) (hc : f.eval c = .bool t)
    (hs : SWp P n (if t then x else y) Q f h) : SWp P n (.cond c x y) Q f h := by
  intro ρ B w0 a w hw hf
  have hv : VRel ρ (f.eval c) (a.eval c) := by
    cases c with
    | tmp t => exact hf.tmps t
    | const v => exact plain.rel hok ρ
    | global g => simp [opndOk] at hok
    | func fid => exact .func _ rfl rfl (by simp) (by simp)
  rw [hc] at hv
  exact wp_cond (hv.eq_of_flat rfl) (hs ρ B w0 a w hw hf)

theorem FRel.eval {ρ : Ren} {n : Nat} {f : AFrame} {a : Act} (hf : FRel ρ n f a) : ∀ x, opndOk x = true → VRel ρ (f.eval x) (a.eval x) := by
  intro c hok
  cases c with
  | tmp t => exact hf.tmps t
  | const v => exact plain.rel hok ρ
  | global g => simp [opndOk] at hok
  | func fid => exact .func _ rfl rfl (by simp) (by simp)

def inBlk (id : Nat) (Q : AExit → AFrame → AHeap → Prop) : AExit → AFrame → AHeap → Prop
  | .exit j, f, h => if j = id then Q .normal f h else Q (.exit j) f h
  | e, f, h => Q e f h
theorem SWp.block {P : Program} {n id : Nat} {c : Code} {Q : AExit → AFrame → AHeap → Prop} {f : AFrame} {h : AHeap} (hs : SWp P n c (inBlk id Q) f h) : SWp P n (.block id c) Q f h := by
  intro ρ B w0 a w hw hf
  refine wp_block (wp_mono (hs ρ B w0 a w hw hf) fun e a' w' ⟨ρ', x, f', h', hx, hw', hf', hl, hQ⟩ => ?_)
  cases x <;> cases e <;> simp only [XR] at hx
  · exact ⟨ρ', .normal, f', h', trivial, hw', hf', hl, hQ⟩
  · subst hx
    simp only [inBlk] at hQ
    simp only [Exit.inBlock]
    split
    · rename_i he
      simp only [he, if_true] at hQ
      exact ⟨ρ', .normal, f', h', trivial, hw', hf', hl, hQ⟩
    · rename_i he
      simp only [he, if_false] at hQ
      exact ⟨ρ', .exit _, f', h', rfl, hw', hf', hl, hQ⟩
  · exact ⟨ρ', .goto _, f', h', hx, hw', hf', hl, hQ⟩
  · exact ⟨ρ', .ret, f', h', trivial, hw', hf', hl, hQ⟩

theorem SWp.skip {P : Program} {n : Nat} {Q : AExit → AFrame → AHeap → Prop} {f : AFrame} {h : AHeap} (hq : Q .normal f h) : SWp P n .skip Q f h :=
  fun ρ _ _ _ _ hw hf => wp_skip ⟨ρ, .normal, f, h, trivial, hw, hf, Ren.le.refl ρ, hq⟩
theorem SWp.label {P : Program} {n l : Nat} {Q : AExit → AFrame → AHeap → Prop} {f : AFrame} {h : AHeap} (hq : Q .normal f h) : SWp P n (.label l) Q f h :=
  fun ρ _ _ _ _ hw hf => wp_label ⟨ρ, .normal, f, h, trivial, hw, hf, Ren.le.refl ρ, hq⟩
theorem SWp.exit {P : Program} {n id : Nat} {Q : AExit → AFrame → AHeap → Prop} {f : AFrame} {h : AHeap} (hq : Q (.exit id) f h) : SWp P n (.exit id) Q f h :=
  fun ρ _ _ _ _ hw hf => wp_exit ⟨ρ, .exit id, f, h, rfl, hw, hf, Ren.le.refl ρ, hq⟩
theorem SWp.goto {P : Program} {n l : Nat} {Q : AExit → AFrame → AHeap → Prop} {f : AFrame} {h : AHeap} (hq : Q (.goto l) f h) : SWp P n (.goto l) Q f h :=
  fun ρ _ _ _ _ hw hf => wp_goto ⟨ρ, .goto l, f, h, rfl, hw, hf, Ren.le.refl ρ, hq⟩
theorem SWp.ret {P : Program} {n : Nat} {Q : AExit → AFrame → AHeap → Prop} {f : AFrame} {h : AHeap} (hq : Q .ret f h) : SWp P n .ret Q f h :=
  fun ρ _ _ _ _ hw hf => wp_ret ⟨ρ, .ret, f, h, trivial, hw, hf, Ren.le.refl ρ, hq⟩

theorem SWp.loop {P : Program} {n : Nat} {c : Code} {Q : AExit → AFrame → AHeap → Prop} {f : AFrame} {h : AHeap} (I : AFrame → AHeap → Prop) (μ : AFrame → AHeap → Nat) (h0 : I f h)
    (round : ∀ f h, I f h → SWp P n c (andThen (fun f' h' => I f' h' ∧ μ f' h' < μ f h) Q) f h) : SWp P n (.loop c) Q f h := by
  intro ρ B w0 a w hw hf
  have key : ∀ m f h, I f h → μ f h < m → ∀ ρ1 : Ren, ρ.le ρ1 → ∀ a w, WRel ρ1 B w0 h w → FRel ρ1 n f a → Code.rounds P c (CPost n B w0 ρ Q) m a w := by
    intro m
    induction m with
    | zero => intro f h _ hm; omega
    | succ m ih =>
      intro f h hI hm ρ1 hle a w hw hf
      rw [rounds_succ]
      refine wp_mono (round f h hI ρ1 B w0 a w hw hf) fun e a' w' ⟨ρ', x, f', h', hx, hw', hf', hl, hQ⟩ => ?_
      cases x <;> cases e <;> simp only [XR] at hx
      · exact ih f' h' hQ.1 (by have := hQ.2; omega) ρ' (hle.trans hl) a' w' hw' hf'
      · exact ⟨ρ', .exit _, f', h', hx, hw', hf', hle.trans hl, hQ⟩
      · exact ⟨ρ', .goto _, f', h', hx, hw', hf', hle.trans hl, hQ⟩
      · exact ⟨ρ', .ret, f', h', trivial, hw', hf', hle.trans hl, hQ⟩
  exact wp_loop_rounds (μ f h + 1) (key _ f h h0 (Nat.lt_succ_self _) ρ (Ren.le.refl ρ) a w hw hf)
end Go.Proofs.Ytcnjnmgnhkjgfaa.Sim

namespace Go.Proofs.Ytcnjnmgnhkjgfaa.Sim
open Go Go.RowKit
set_option linter.unusedVariables false

def yieldedA (ops : List Oper) (f : AFrame) (j : Nat) : Option Bool :=
  match (ops[j]?).bind (·.dst) with
  | some d => match f d with
    | .bool b => some b
    | _ => none
  | none => none
def wantedA (ops : List Oper) (g : Option (Nat × Bool)) (f : AFrame) : Bool :=
  match g with
  | none => true
  | some (j, want) => yieldedA ops f j == some want

theorem yielded_eq {ρ : Ren} {n : Nat} {f : AFrame} {a : Act} (hf : FRel ρ n f a) (ops : Array Oper) (j : Nat) : yielded ops a.tmps j = yieldedA ops.toList f j := by
  unfold yielded yieldedA
  have e : ops.toList[j]? = ops[j]? := by simp
  rw [e]
  cases hd : (ops[j]?).bind (·.dst) with
  | none => rfl
  | some d =>
    have hv := hf.tmps d
    simp only [Option.bind_some]
    cases ht : a.tmps[d]? with
    | none =>
      have hu : a.tmps.getD d undef = undef := by simp [ht]
      rw [hu] at hv
      generalize hfd : f d = x at hv
      unfold undef at hv
      cases hv
      rfl
    | some u =>
      have hu : a.tmps.getD d undef = u := by simp [ht]
      rw [hu] at hv
      generalize hfd : f d = x at hv
      cases hv <;> rfl
theorem wanted_eq {ρ : Ren} {n : Nat} {f : AFrame} {a : Act} (hf : FRel ρ n f a) (ops : Array Oper) (o : Oper) : Region.wanted o (yielded ops a.tmps) = wantedA ops.toList o.guard f := by
  unfold Region.wanted wantedA
  cases o.guard with
  | none => rfl
  | some p => obtain ⟨j, want⟩ := p; simp only [yielded_eq hf]

def stepA (P : Program) (o : Oper) (next : AFrame → AHeap → Prop) (f : AFrame) (h : AHeap) : Prop :=
  match opEval P o f.eval h with
  | some (.val v h') => next (f.put o.dst v) h'
  | some (.call g args) => SCalls P g args h fun r h' => next (f.put o.dst r) h'
  | none => False

def opsA (P : Program) (ops : List Oper) : List Oper → (AFrame → AHeap → Prop) → AFrame → AHeap → Prop
  | [], K, f, h => K f h
  | o :: rest, K, f, h => if wantedA ops o.guard f = true then stepA P o (opsA P ops rest K) f h else opsA P ops rest K (f.put o.dst undef) h

def operOk (n : Nat) (o : Oper) : Bool := dstOk n o.dst && opOk o.op
def codeOk (n : Nat) : Code → Bool
  | .region _ ops _ => ops.toList.all (operOk n)
  | .seq a b => codeOk n a && codeOk n b
  | .cond c a b => opndOk c && codeOk n a && codeOk n b
  | .block _ b => codeOk n b
  | .loop b => codeOk n b
  | .scope b => codeOk n b
  | .rangeFunc .. => false
  | .refuse _ => false
  | _ => true

theorem ops_sound {P : Program} {n : Nat} {ops : Array Oper} (hok : ops.toList.all (operOk n) = true) {Q : AExit → AFrame → AHeap → Prop} {ρ0 : Ren} {B : Nat} {w0 : World} :
    ∀ (l : List Oper) (k : Nat), l = ops.toList.drop k → ∀ (ρ : Ren) (f : AFrame) (h : AHeap) (a : Act) (w : World), ρ0.le ρ → WRel ρ B w0 h w → FRel ρ n f a →
      opsA P ops.toList l (Q .normal) f h → wpOps P ops (CPost n B w0 ρ0 Q) (List.range' k l.length) a w
  | [], k, hl, ρ, f, h, a, w, hle, hw, hf, hq => by
    simp only [List.length_nil, List.range'_zero, wpOps]
    exact ⟨ρ, .normal, f, h, trivial, hw, hf, hle, hq⟩
  | o :: rest, k, hl, ρ, f, h, a, w, hle, hw, hf, hq => by
    have hk : ops.toList[k]? = some o := by
      have := congrArg (·[0]?) hl
      simpa using this.symm
    have hrest : rest = ops.toList.drop (k + 1) := by
      have := congrArg List.tail hl
      simpa [List.tail_drop] using this
    have ho : ops[k]? = some o := by simpa using hk
    have hoo : operOk n o = true := (List.all_eq_true.1 hok) o (List.mem_of_getElem? hk)
    unfold operOk at hoo
    simp only [Bool.and_eq_true] at hoo
    obtain ⟨hd, hop⟩ := hoo
    simp only [List.length_cons, List.range'_succ, wpOps, ho]
    rw [wanted_eq hf]
    unfold opsA at hq
    split
    · rename_i hwant
      rw [if_pos hwant] at hq
      left
      unfold stepA at hq
      unfold Oper.wp
      cases he : opEval P o f.eval h with
      | none => simp [he] at hq
      | some s =>
        cases s with
        | val v h' =>
          simp only [he] at hq
          obtain ⟨ρ', v', w', hrun, hv, hw', hl'⟩ := opEval_val he hop hw hf.eval
          rcases hrun with hrun | ⟨hrun, rfl⟩
          · rw [hrun, Oper.upon_value]
            exact ops_sound hok rest (k + 1) hrest ρ' _ _ _ _ (hle.trans hl') hw' ((hf.mono hl').put hv o.dst hd) hq
          · rw [hrun, Oper.upon_skip]
            exact ops_sound hok rest (k + 1) hrest ρ' _ _ _ _ (hle.trans hl') hw' ((hf.mono hl').put hv o.dst hd) hq
        | call g args =>
          simp only [he] at hq
          obtain ⟨args', hrun, ha⟩ := opEval_call he hop hw hf.eval
          rw [hrun, Oper.upon_enter]
          refine (hq ρ B w0 w args' hw ha).mono fun e w' ⟨ρ', r, r', h', hee, hv, hw', hl', hR⟩ => ?_
          subst hee
          exact ops_sound hok rest (k + 1) hrest ρ' _ _ _ _ (hle.trans hl') hw' ((hf.mono hl').put hv o.dst hd) hR
    · rename_i hwant
      rw [if_neg hwant] at hq
      exact ops_sound hok rest (k + 1) hrest ρ _ _ _ _ hle hw (hf.put (.tuple rfl (by simp)) o.dst hd) hq

theorem SWp.region {P : Program} {n id : Nat} {ops : Array Oper} (hok : ops.toList.all (operOk n) = true) {Q : AExit → AFrame → AHeap → Prop} {f : AFrame} {h : AHeap}
    (hq : opsA P ops.toList ops.toList (Q .normal) f h) : SWp P n (.region id ops false) Q f h := by
  intro ρ B w0 a w hw hf
  refine wp_region ?_
  have := ops_sound (P := P) hok (ρ0 := ρ) ops.toList 0 (by simp) ρ f h a w (Ren.le.refl ρ) hw hf hq
  rwa [Array.length_toList, ← List.range_eq_range'] at this

/-- The condition of a piece of code, computed along its text. -/
def wpA (P : Program) (n : Nat) : Code → (AExit → AFrame → AHeap → Prop) → AFrame → AHeap → Prop
  | .skip, Q, f, h => Q .normal f h
  | .region id ops false, Q, f, h => opsA P ops.toList ops.toList (Q .normal) f h
  | .region id ops true, Q, f, h => SWp P n (.region id ops true) Q f h
  | .seq a b, Q, f, h => wpA P n a (andThen (fun f h => wpA P n b Q f h) Q) f h
  | .cond c a b, Q, f, h => match f.eval c with
    | .bool true => wpA P n a Q f h
    | .bool false => wpA P n b Q f h
    | _ => False
  | .block id b, Q, f, h => wpA P n b (inBlk id Q) f h
  | .loop b, Q, f, h => SWp P n (.loop b) Q f h
  | .scope b, Q, f, h => SWp P n (.scope b) Q f h
  | .exit id, Q, f, h => Q (.exit id) f h
  | .goto l, Q, f, h => Q (.goto l) f h
  | .label _, Q, f, h => Q .normal f h
  | .ret, Q, f, h => Q .ret f h
  | _, _, _, _ => False

theorem wpA_sound {P : Program} {n : Nat} : ∀ (c : Code) (Q : AExit → AFrame → AHeap → Prop) (f : AFrame) (h : AHeap), codeOk n c = true → wpA P n c Q f h → SWp P n c Q f h
  | .skip, Q, f, h, _, hq => .skip hq
  | .region id ops false, Q, f, h, hok, hq => .region (by simpa [codeOk] using hok) hq
  | .region id ops true, Q, f, h, _, hq => hq
  | .seq a b, Q, f, h, hok, hq => by
    simp only [codeOk, Bool.and_eq_true] at hok
    refine .seq ((wpA_sound a _ f h hok.1 hq).mono fun e f' h' hh => ?_)
    cases e with
    | normal => exact wpA_sound b Q f' h' hok.2 hh
    | _ => exact hh
  | .cond c a b, Q, f, h, hok, hq => by
    simp only [codeOk, Bool.and_eq_true] at hok
    unfold wpA at hq
    split at hq
    · rename_i hc; exact .cond hok.1.1 hc (wpA_sound a Q f h hok.1.2 hq)
    · rename_i hc; exact .cond hok.1.1 hc (wpA_sound b Q f h hok.2 hq)
    · exact hq.elim
  | .block id b, Q, f, h, hok, hq => .block (wpA_sound b _ f h (by simpa [codeOk] using hok) hq)
  | .loop b, Q, f, h, _, hq => hq
  | .scope b, Q, f, h, _, hq => hq
  | .exit id, Q, f, h, _, hq => .exit hq
  | .goto l, Q, f, h, _, hq => .goto hq
  | .label _, Q, f, h, _, hq => .label hq
  | .ret, Q, f, h, _, hq => .ret hq
  | .rangeFunc .., Q, f, h, hok, _ => by simp [codeOk] at hok
  | .refuse _, Q, f, h, hok, _ => by simp [codeOk] at hok

/-! ### Functions -/
def enterF (args : List Value) : AFrame := fun t => args.getD t undef
def resultA (P : Program) (f : AFrame) (h : AHeap) : ResultVar → Option Value
  | .tmp t => some (f t)
  | .cell a t => aLoad P t (f a) h
def resultsA (P : Program) (rs : List ResultVar) (f : AFrame) (h : AHeap) : Option Value :=
  match rs with
  | [r] => resultA P f h r
  | _ => match rs.mapM (resultA P f h) with
    | some vs => some (.tuple vs.toArray)
    | none => none
def retA (P : Program) (fn : Func) (R : Value → AHeap → Prop) : AExit → AFrame → AHeap → Prop
  | .normal, f, h | .ret, f, h => match resultsA P fn.results.toList f h with
    | some r => R r h
    | none => False
  | _, _, _ => False

theorem run_result {P : Program} {ρ : Ren} {B n : Nat} {w0 w : World} {f : AFrame} {h : AHeap} {a : Act} (hw : WRel ρ B w0 h w) (hf : FRel ρ n f a) {g : ResultVar → Sem Value}
    (hg1 : ∀ t, g (.tmp t) = pure (a.tmps.getD t undef)) (hg2 : ∀ c t, g (.cell c t) = (do loadVar t (← asAddr (a.tmps.getD c undef)))) {r : ResultVar} {v : Value} (hr : resultA P f h r = some v) :
    ∃ v', (g r).run P w = .ok v' w ∧ VRel ρ v v' := by
  cases r with
  | tmp t =>
    obtain rfl : f t = v := by simpa [resultA] using hr
    rw [hg1]
    exact ⟨_, Sem.run_pure .., hf.tmps t⟩
  | cell c t =>
    simp only [resultA] at hr
    obtain ⟨v', hrun, hv⟩ := aLoad_sound hr hw (hf.tmps c)
    refine ⟨v', ?_, hv⟩
    rw [hg2]
    unfold aLoad at hr
    split at hr
    case h_2 => cases hr
    rename_i i o hfc
    have hx := hf.tmps c
    rw [hfc] at hx
    generalize a.tmps.getD c undef = x at hx hrun
    cases hx with
    | ptr hi o =>
      simpa [Instr.loadAt, Instr.sureAddr, asAddr] using hrun

theorem run_results {P : Program} {ρ : Ren} {B n : Nat} {w0 w : World} {f : AFrame} {h : AHeap} {a : Act} (hw : WRel ρ B w0 h w) (hf : FRel ρ n f a) {g : ResultVar → Sem Value}
    (hg1 : ∀ t, g (.tmp t) = pure (a.tmps.getD t undef)) (hg2 : ∀ c t, g (.cell c t) = (do loadVar t (← asAddr (a.tmps.getD c undef)))) : ∀ (rs : List ResultVar) (vs : List Value), rs.mapM (resultA P f h) = some vs →
    vs.length = rs.length ∧ ∃ vs', (rs.mapM g).run P w = .ok vs' w ∧ LRel ρ vs vs'
  | [], vs, hm => by
    simp at hm
    subst hm
    exact ⟨rfl, [], by simp, .nil ρ⟩
  | r :: rs, vs, hm => by
    simp only [List.mapM_cons, Option.bind_eq_bind, Option.pure_def] at hm
    cases hr : resultA P f h r with
    | none => simp [hr] at hm
    | some v =>
      cases hrs : rs.mapM (resultA P f h) with
      | none => simp [hr, hrs] at hm
      | some us =>
        simp [hr, hrs] at hm
        subst hm
        obtain ⟨v', h1, h2⟩ := run_result hw hf hg1 hg2 hr
        obtain ⟨hl, us', h3, h4⟩ := run_results hw hf hg1 hg2 rs us hrs
        refine ⟨by simp [hl], v' :: us', ?_, .cons h2 h4⟩
        simp only [List.mapM_cons, Sem.run_bind, h1, h3, Result.andThen_ok, Sem.run_pure]

def resG (tmps : Array Value) : ResultVar → Sem Value
  | .tmp t => pure (tmps.getD t undef)
  | .cell a t => do loadVar t (← asAddr (tmps.getD a undef))
theorem results_eq (fn : Func) (tmps : Array Value) : results fn tmps = (do let vs ← fn.results.mapM (resG tmps); pure (if h : vs.size = 1 then vs[0] else .tuple vs)) := rfl

theorem SCalls.enter {P : Program} {fid : FuncId} {fn : Func} {c : Code} (hfn : P.funcs[fid]? = some fn) (hb : fn.body = some c) (hok : codeOk fn.ntmps c = true) {args : List Value} (hlen : args.length ≤ fn.ntmps)
    {h : AHeap} {R : Value → AHeap → Prop} (hq : wpA P fn.ntmps c (retA P fn R) (enterF args) h) : SCalls P fid args h R := by
  intro ρ B w0 w args' hw ha
  refine calls_of_wp hfn hb ?_
  have hsz : args'.size = args.length := by have := ha.1; simpa using this.symm
  have hf : FRel ρ fn.ntmps (enterF args) { tmps := args' ++ Array.replicate (fn.ntmps - args'.size) undef, defers := [] } := by
    refine ⟨fun t => ?_, by simp; omega, rfl⟩
    simp only [enterF]
    by_cases ht : t < args.length
    · obtain ⟨v', h1, h2⟩ := ha.get (List.getElem?_eq_getElem ht)
      have h1' : args'[t]? = some v' := by simpa using h1
      simp only [List.getD, List.getElem?_eq_getElem ht, Option.getD_some]
      have : (args' ++ Array.replicate (fn.ntmps - args'.size) undef).getD t undef = v' := by
        rw [Array.getD_eq_getD_getElem?, Array.getElem?_append_left (by omega), h1']
        rfl
      rw [this]
      exact h2
    · simp only [List.getD, List.getElem?_eq_none (show args.length ≤ t by omega), Option.getD_none]
      have : (args' ++ Array.replicate (fn.ntmps - args'.size) undef).getD t undef = undef := by
        rw [Array.getD_eq_getD_getElem?, Array.getElem?_append_right (by omega)]
        by_cases h2 : t - args'.size < fn.ntmps - args'.size
        · simp [h2]
        · simp [h2]
      rw [this]
      exact .tuple rfl (by simp)
  have fin : ∀ (ρ' : Ren) (f : AFrame) (h' : AHeap) (a' : Act) (w' : World), ρ.le ρ' → WRel ρ' B w0 h' w' → FRel ρ' fn.ntmps f a' → (match resultsA P fn.results.toList f h' with | some r => R r h' | none => False) →
      a'.defers = [] ∧ ∃ v, (results fn a'.tmps).run P w' = .ok v w' ∧ ∃ (ρ' : Ren) (r r' : Value) (h' : AHeap), Ending.returned v = .returned r' ∧ VRel ρ' r r' ∧ WRel ρ' B w0 h' w' ∧ ρ.le ρ' ∧ R r h' := by
    intro ρ' f h' a' w' hl hw' hf' hQ
    refine ⟨hf'.defers, ?_⟩
    cases hra : resultsA P fn.results.toList f h' with
    | none => simp [hra] at hQ
    | some r =>
    simp only [hra] at hQ
    rw [results_eq, Array.mapM_eq_mapM_toList]
    unfold resultsA at hra
    split at hra
    · rename_i rv heq
      have hm : [rv].mapM (resultA P f h') = some [r] := by simp [hra]
      rw [heq]
      obtain ⟨_, vs', h1, h2⟩ := run_results hw' hf' (g := resG a'.tmps) (fun _ => rfl) (fun _ _ => rfl) [rv] [r] hm
      obtain ⟨v', t', rfl, hv, ht⟩ := h2.uncons
      obtain rfl := ht.eq_nil
      refine ⟨v', ?_, ρ', r, v', h', rfl, hv, hw', hl, hQ⟩
      simp only [Sem.run_bind, Sem.run_map, h1, Result.andThen_ok]
      simp
    · rename_i hne
      split at hra
      case h_2 => cases hra
      rename_i vs hvs
      obtain rfl : _ = r := by simpa using hra
      obtain ⟨hlen2, vs', h1, h2⟩ := run_results hw' hf' (g := resG a'.tmps) (fun _ => rfl) (fun _ _ => rfl) _ vs hvs
      have hl1 : vs'.length ≠ 1 := by
        rw [← h2.1, hlen2]
        intro hc
        obtain ⟨r, hr⟩ := List.length_eq_one_iff.1 hc
        exact hne r hr
      refine ⟨.tuple vs'.toArray, ?_, ρ', _, _, h', rfl, .tuple h2.arr.1 h2.arr.2, hw', hl, hQ⟩
      simp only [Sem.run_bind, Sem.run_map, h1, Result.andThen_ok]
      simp [hl1]
  refine wp_mono (wpA_sound c _ _ h hok hq ρ B w0 _ w hw hf) fun e a' w' ⟨ρ', x, f, h', hx, hw', hf', hl, hQ⟩ => ?_
  cases x <;> cases e <;> simp only [XR] at hx
  · exact fin ρ' f h' a' w' hl hw' hf' hQ
  · exact hQ.elim
  · exact hQ.elim
  · exact fin ρ' f h' a' w' hl hw' hf' hQ
end Go.Proofs.Ytcnjnmgnhkjgfaa.Sim

namespace Go.Proofs.Ytcnjnmgnhkjgfaa.Sim
open Go Go.RowKit
set_option linter.unusedVariables false

/-! ### The text, step by step. What comes behind stands where the rewriting does not look: among the instances. -/
/-- So that the rewriting gives its reasons. -/
theorem nr {α : Sort _} {a b : α} (h : a = b) : a = b := h
class inductive Qt where
  | fn (run : AExit → AFrame → AHeap → Prop)
  | seq (P : Program) (n : Nat) (b : Code) (Q : Qt)
  | blk (id : Nat) (Q : Qt)
def Qt.go : Qt → AExit → AFrame → AHeap → Prop
  | .fn r => r
  | .seq P n b Q => andThen (fun f h => wpA P n b Q.go f h) Q.go
  | .blk id Q => inBlk id Q.go
class inductive Kt where
  | fn (run : AFrame → AHeap → Prop)
  | out (Q : Qt)
  | ops (P : Program) (ol l : List Oper) (K : Kt)
def Kt.go : Kt → AFrame → AHeap → Prop
  | .fn r => r
  | .out Q => Q.go .normal
  | .ops P ol l K => opsA P ol l K.go
class Pt where
  prop : Prop
def wpI (P : Program) (n : Nat) (c : Code) [Q : Qt] (f : AFrame) (h : AHeap) : Prop := wpA P n c Q.go f h
def opsI (P : Program) (ol l : List Oper) [K : Kt] (f : AFrame) (h : AHeap) : Prop := opsA P ol l K.go f h
def stepI (P : Program) (o : Oper) [K : Kt] (f : AFrame) (h : AHeap) : Prop := stepA P o K.go f h
def endI (x : AExit) [Q : Qt] (f : AFrame) (h : AHeap) : Prop := Q.go x f h
def goI [K : Kt] (f : AFrame) (h : AHeap) : Prop := K.go f h
def condI (v : Value) [p : Pt] [q : Pt] : Prop := match v with | .bool true => p.prop | .bool false => q.prop | _ => False
theorem wpI_mk {P : Program} {n : Nat} {c : Code} {Q : AExit → AFrame → AHeap → Prop} {f : AFrame} {h : AHeap} (hq : @wpI P n c (.fn Q) f h) : wpA P n c Q f h := hq

section
variable {P : Program} {n id : Nat} {ops : Array Oper} {l : List Oper} {Q : Qt} {K : Kt} {f : AFrame} {h : AHeap}
theorem wpA_skip : @wpI P n .skip Q f h = @endI .normal Q f h := nr rfl
theorem wpA_region : @wpI P n (.region id ops false) Q f h = @opsI P ops.toList ops.toList (.out Q) f h := nr rfl
theorem wpA_seq {a b : Code} : @wpI P n (.seq a b) Q f h = @wpI P n a (.seq P n b Q) f h := nr rfl
theorem condI_true {p q : Pt} : @condI (.bool true) p q = p.prop := nr rfl
theorem condI_false {p q : Pt} : @condI (.bool false) p q = q.prop := nr rfl
theorem pt_mk {p : Prop} : @Pt.prop ⟨p⟩ = p := nr rfl
theorem wpA_cond {c : Operand} {a b : Code} : @wpI P n (.cond c a b) Q f h = @condI (f.eval c) ⟨@wpI P n a Q f h⟩ ⟨@wpI P n b Q f h⟩ := by
  show (match f.eval c with | .bool true => wpA P n a Q.go f h | .bool false => wpA P n b Q.go f h | _ => False) = _
  unfold condI
  cases f.eval c with
  | bool t => cases t <;> rfl
  | _ => rfl
theorem wpA_block {b : Code} : @wpI P n (.block id b) Q f h = @wpI P n b (.blk id Q) f h := nr rfl
theorem wpA_exit : @wpI P n (.exit id) Q f h = @endI (.exit id) Q f h := nr rfl
theorem wpA_goto : @wpI P n (.goto id) Q f h = @endI (.goto id) Q f h := nr rfl
theorem wpA_label : @wpI P n (.label id) Q f h = @endI .normal Q f h := nr rfl
theorem wpA_ret : @wpI P n .ret Q f h = @endI .ret Q f h := nr rfl
theorem wpA_loop {b : Code} : @wpI P n (.loop b) Q f h = SWp P n (.loop b) Q.go f h := nr rfl
theorem wpA_scope {b : Code} : @wpI P n (.scope b) Q f h = SWp P n (.scope b) Q.go f h := nr rfl
theorem wpA_draw : @wpI P n (.region id ops true) Q f h = SWp P n (.region id ops true) Q.go f h := nr rfl
theorem seqQ_normal {b : Code} : @endI .normal (.seq P n b Q) f h = @wpI P n b Q f h := nr rfl
theorem seqQ_exit {b : Code} {j : Nat} : @endI (.exit j) (.seq P n b Q) f h = @endI (.exit j) Q f h := nr rfl
theorem seqQ_goto {b : Code} {j : Nat} : @endI (.goto j) (.seq P n b Q) f h = @endI (.goto j) Q f h := nr rfl
theorem seqQ_ret {b : Code} : @endI .ret (.seq P n b Q) f h = @endI .ret Q f h := nr rfl
theorem blkQ_normal : @endI .normal (.blk id Q) f h = @endI .normal Q f h := nr rfl
theorem blkQ_exit {j : Nat} : @endI (.exit j) (.blk id Q) f h = if j = id then @endI .normal Q f h else @endI (.exit j) Q f h := nr rfl
theorem blkQ_goto {j : Nat} : @endI (.goto j) (.blk id Q) f h = @endI (.goto j) Q f h := nr rfl
theorem blkQ_ret : @endI .ret (.blk id Q) f h = @endI .ret Q f h := nr rfl
theorem endI_mk {x : AExit} {Q : AExit → AFrame → AHeap → Prop} : @endI x (.fn Q) f h = Q x f h := nr rfl
theorem goI_out : @goI (.out Q) f h = @endI .normal Q f h := nr rfl
theorem goI_ops {ol : List Oper} : @goI (.ops P ol l K) f h = @opsI P ol l K f h := nr rfl
theorem goI_mk {K : AFrame → AHeap → Prop} : @goI (.fn K) f h = K f h := nr rfl
theorem opsA_nil {ol : List Oper} : @opsI P ol [] K f h = @goI K f h := nr rfl

theorem goE {x : AExit} : Qt.go Q x f h = @endI x Q f h := nr rfl
theorem andThen_normal {K : AFrame → AHeap → Prop} {Q : AExit → AFrame → AHeap → Prop} : andThen K Q .normal f h = K f h := nr rfl
theorem andThen_exit {K : AFrame → AHeap → Prop} {Q : AExit → AFrame → AHeap → Prop} : andThen K Q (.exit id) f h = Q (.exit id) f h := nr rfl
theorem andThen_goto {K : AFrame → AHeap → Prop} {Q : AExit → AFrame → AHeap → Prop} : andThen K Q (.goto id) f h = Q (.goto id) f h := nr rfl
theorem andThen_ret {K : AFrame → AHeap → Prop} {Q : AExit → AFrame → AHeap → Prop} : andThen K Q .ret f h = Q .ret f h := nr rfl
theorem wpI_sound {c : Code} {Q : AExit → AFrame → AHeap → Prop} (hok : codeOk n c = true) (hq : @wpI P n c (.fn Q) f h) : SWp P n c Q f h := wpA_sound c Q f h hok hq
theorem SCalls.enterI {fid : FuncId} {fn : Func} {c : Code} (hfn : P.funcs[fid]? = some fn) (hb : fn.body = some c) (hok : codeOk fn.ntmps c = true) {args : List Value} (hlen : args.length ≤ fn.ntmps)
    {h : AHeap} {R : Value → AHeap → Prop} (hq : @wpI P fn.ntmps c (.fn (retA P fn R)) (enterF args) h) : SCalls P fid args h R := SCalls.enter hfn hb hok hlen hq

variable {d : Option Tmp} {ty : TypeId} {pos : String} {aft : Array Edge} {ol : List Oper}
def thenV (o : Option Value) (d : Option Tmp) [K : Kt] (f : AFrame) (h : AHeap) : Prop := match o with | some v => K.go (f.put d v) h | none => False
def thenH (o : Option (Value × AHeap)) (d : Option Tmp) [K : Kt] (f : AFrame) : Prop := match o with | some (v, h) => K.go (f.put d v) h | none => False
def thenS (o : Option AHeap) (d : Option Tmp) [K : Kt] (f : AFrame) : Prop := match o with | some h => K.go (f.put d undef) h | none => False
theorem thenV_some {v : Value} : @thenV (some v) d K f h = @goI K (f.put d v) h := nr rfl
theorem thenH_some {v : Value} {h' : AHeap} : @thenH (some (v, h')) d K f = @goI K (f.put d v) h' := nr rfl
theorem thenS_some {h' : AHeap} : @thenS (some h') d K f = @goI K (f.put d undef) h' := nr rfl
theorem thenV_none : @thenV none d K f h = False := nr rfl
theorem thenH_none : @thenH none d K f = False := nr rfl

theorem opsA_cons {op : Op} : @opsI P ol (⟨d, op, ty, pos, aft, none⟩ :: l) K f h = @stepI P ⟨d, op, ty, pos, aft, none⟩ (.ops P ol l K) f h := nr rfl
def guardI (v : Option Bool) (b : Bool) [p : Pt] [q : Pt] : Prop := if v = some b then p.prop else q.prop
theorem guardI_same {b : Bool} {p q : Pt} : @guardI (some b) b p q = p.prop := if_pos rfl
theorem guardI_tf {p q : Pt} : @guardI (some true) false p q = q.prop := if_neg (by simp)
theorem guardI_ft {p q : Pt} : @guardI (some false) true p q = q.prop := if_neg (by simp)
def boolOf : Value → Option Bool
  | .bool b => some b
  | _ => none
theorem boolOf_bool {b : Bool} : boolOf (.bool b) = some b := nr rfl
theorem opsA_guard {op : Op} {j : Nat} {b : Bool} {t : Tmp} (ht : (ol[j]?).bind (·.dst) = some t) : @opsI P ol (⟨d, op, ty, pos, aft, some (j, b)⟩ :: l) K f h =
    @guardI (boolOf (f t)) b ⟨@stepI P ⟨d, op, ty, pos, aft, some (j, b)⟩ (.ops P ol l K) f h⟩ ⟨@opsI P ol l K (f.put d undef) h⟩ := by
  have e : yieldedA ol f j = boolOf (f t) := by
    unfold yieldedA boolOf
    rw [ht]
    try rfl
  show opsA P ol (⟨d, op, ty, pos, aft, some (j, b)⟩ :: l) K.go f h = _
  simp only [opsA, wantedA, beq_iff_eq, e]
  try rfl
/-- The guard's slot, found along the text. -/
def slotAt : List Oper → Nat → Option Tmp
  | [], _ => none
  | o :: _, 0 => o.dst
  | _ :: r, j + 1 => slotAt r j
theorem slotAt_eq : ∀ (l : List Oper) (j : Nat), slotAt l j = (l[j]?).bind (·.dst)
  | [], j => by simp [slotAt]
  | o :: r, 0 => by simp [slotAt]
  | o :: r, j + 1 => by simp [slotAt, slotAt_eq r j]
def guardS (t : Option Tmp) (f : AFrame) (b : Bool) [p : Pt] [q : Pt] : Prop := match t with | some t => @guardI (boolOf (f t)) b p q | none => q.prop
theorem guardS_some {t : Tmp} {b : Bool} {p q : Pt} : @guardS (some t) f b p q = @guardI (boolOf (f t)) b p q := nr rfl
theorem opsA_guardS {op : Op} {j : Nat} {b : Bool} : @opsI P ol (⟨d, op, ty, pos, aft, some (j, b)⟩ :: l) K f h =
    @guardS (slotAt ol j) f b ⟨@stepI P ⟨d, op, ty, pos, aft, some (j, b)⟩ (.ops P ol l K) f h⟩ ⟨@opsI P ol l K (f.put d undef) h⟩ := by
  rw [slotAt_eq]
  cases ht : (ol[j]?).bind (·.dst) with
  | some t => rw [opsA_guard ht]; rfl
  | none =>
    have e : yieldedA ol f j = none := by unfold yieldedA; rw [ht]
    show opsA P ol (⟨d, op, ty, pos, aft, some (j, b)⟩ :: l) K.go f h = _
    simp only [opsA, wantedA, e]
    rfl
theorem slotAt_zero {o : Oper} {r : List Oper} : slotAt (o :: r) 0 = o.dst := nr rfl
theorem slotAt_succ {o : Oper} {r : List Oper} {j : Nat} : slotAt (o :: r) (j + 1) = slotAt r j := nr rfl

variable {g : Option (Nat × Bool)}
theorem justV_step {o : Oper} {x : Option Value} (he : opEval P o f.eval h = justV x h) : @stepI P o K f h = @thenV x o.dst K f h := by
  unfold stepI stepA; rw [he]; cases x <;> rfl
theorem andH_step {o : Oper} {x : Option (Value × AHeap)} (he : opEval P o f.eval h = andH x) : @stepI P o K f h = @thenH x o.dst K f := by
  unfold stepI stepA; rw [he]; cases x <;> rfl
theorem stepA_move {x : Operand} : @stepI P ⟨d, .move x, ty, pos, aft, g⟩ K f h = @goI K (f.put d (f.eval x)) h := nr rfl
theorem stepA_assign {x : Operand} : @stepI P ⟨d, .assign x, ty, pos, aft, g⟩ K f h = @goI K (f.put d (f.eval x)) h := nr rfl
def pickV (c a b : Value) : Option Value := match c with | .bool t => some (if t then a else b) | _ => none
theorem stepA_pick {c a b : Operand} : @stepI P ⟨d, .pick c a b, ty, pos, aft, g⟩ K f h = @thenV (pickV (f.eval c) (f.eval a) (f.eval b)) d K f h := by
  unfold stepI stepA opEval pickV thenV; simp only; cases f.eval c <;> rfl
theorem pickV_true {a b : Value} : pickV (.bool true) a b = some a := nr rfl
theorem pickV_false {a b : Value} : pickV (.bool false) a b = some b := nr rfl
theorem stepA_alloc {e : TypeId} : @stepI P ⟨d, .alloc e, ty, pos, aft, g⟩ K f h = @thenH (aAlloc P e h) d K f := andH_step rfl
theorem stepA_box {e : TypeId} {x : Operand} : @stepI P ⟨d, .box e x, ty, pos, aft, g⟩ K f h = @goI K (f.put d (.pointer (some ⟨h.n, 0, none⟩))) (h.push (.cells (f.eval x).cells.toList e none true)) := nr rfl
theorem stepA_build {t : TypeId} {ps : Array (Nat × Operand)} : @stepI P ⟨d, .build t ps, ty, pos, aft, g⟩ K f h = @thenV (aBuild P t (ps.toList.map fun p => (p.1, f.eval p.2))) d K f h := justV_step rfl
theorem stepA_buildSlice {t : TypeId} {len : Nat} {ps : Array (Nat × Operand)} : @stepI P ⟨d, .buildSlice t len ps, ty, pos, aft, g⟩ K f h = @thenH (aBuildSlice P t len (ps.toList.map fun p => (p.1, f.eval p.2)) h) d K f := andH_step rfl
theorem stepA_load {t : TypeId} {a : Operand} : @stepI P ⟨d, .load t a, ty, pos, aft, g⟩ K f h = @thenV (aLoad P t (f.eval a) h) d K f h := justV_step rfl
theorem stepA_store {t : TypeId} {a x : Operand} : @stepI P ⟨d, .store t a x, ty, pos, aft, g⟩ K f h = @thenS (aStore P t (f.eval a) (f.eval x) h) d K f := by
  unfold stepI stepA opEval thenS; simp only; cases aStore P t (f.eval a) (f.eval x) h <;> rfl
def nilV (x : Value) : Option Value := match x with | .pointer (some a) => some (.pointer (some a)) | _ => none
theorem nilV_some {a : Addr} : nilV (.pointer (some a)) = some (.pointer (some a)) := nr rfl
theorem stepA_nilCheck {x : Operand} : @stepI P ⟨d, .nilCheck x, ty, pos, aft, g⟩ K f h = @thenV (nilV (f.eval x)) d K f h := by
  unfold stepI stepA opEval nilV thenV; simp only
  cases f.eval x with
  | pointer a => cases a <;> rfl
  | _ => rfl
theorem stepA_binOp {op : BinOp} {t yt : TypeId} {x y : Operand} : @stepI P ⟨d, .binOp op t x y yt, ty, pos, aft, g⟩ K f h = @thenV (aBin P op t x y (f.eval x) (f.eval y)) d K f h := justV_step rfl
theorem stepA_unOp {op : UnOp} {t : TypeId} {x : Operand} : @stepI P ⟨d, .unOp op t x, ty, pos, aft, g⟩ K f h = @thenV (aUn P op (f.eval x)) d K f h := justV_step rfl
theorem stepA_convert {s t : TypeId} {x : Operand} : @stepI P ⟨d, .convert s t x, ty, pos, aft, g⟩ K f h = @thenH (aConv P s t (f.eval x) h) d K f := andH_step rfl
theorem stepA_makeSlice {t : TypeId} {x y : Operand} : @stepI P ⟨d, .makeSlice t x y, ty, pos, aft, g⟩ K f h = @thenH (aMake P t (f.eval x) (f.eval y) h) d K f := andH_step rfl
theorem stepA_slice {t : TypeId} {x : Operand} {lo hi mx : Option Operand} : @stepI P ⟨d, .slice t x lo hi mx, ty, pos, aft, g⟩ K f h = @thenV (aSlice P t (f.eval x) (lo.map f.eval) (hi.map f.eval) (mx.map f.eval)) d K f h := justV_step rfl
theorem stepA_fieldAddr {t : TypeId} {x : Operand} {k : Nat} : @stepI P ⟨d, .fieldAddr t x k, ty, pos, aft, g⟩ K f h = @thenV (aField P t (f.eval x) k) d K f h := justV_step rfl
theorem stepA_field {t : TypeId} {x : Operand} {k : Nat} : @stepI P ⟨d, .field t x k, ty, pos, aft, g⟩ K f h = @thenV (aFieldOf P t (f.eval x) k) d K f h := justV_step rfl
theorem stepA_indexAddr {t : TypeId} {x y : Operand} : @stepI P ⟨d, .indexAddr t x y, ty, pos, aft, g⟩ K f h = @thenV (aIndexAddr P t (f.eval x) (f.eval y)) d K f h := justV_step rfl
theorem stepA_index {t : TypeId} {x y : Operand} : @stepI P ⟨d, .index t x y, ty, pos, aft, g⟩ K f h = @thenV (aIndex P t (f.eval x) (f.eval y)) d K f h := justV_step rfl
def extV (x : Value) (k : Nat) : Option Value := match x with | .tuple vs => vs[k]? | _ => none
theorem extV_tuple {vs : Array Value} {k : Nat} : extV (.tuple vs) k = vs[k]? := nr rfl
theorem stepA_extract {x : Operand} {k : Nat} : @stepI P ⟨d, .extract x k, ty, pos, aft, g⟩ K f h = @thenV (extV (f.eval x) k) d K f h := by
  unfold stepI stepA opEval extV thenV; simp only
  cases f.eval x with
  | tuple vs => simp only; cases vs[k]? <;> rfl
  | _ => rfl
theorem stepA_len {t : TypeId} {x : Operand} : @stepI P ⟨d, .call ⟨.builtin .len, #[x], #[t]⟩, ty, pos, aft, g⟩ K f h = @thenV (aLen P t (f.eval x)) d K f h := by
  unfold stepI stepA opEval aCall aBuiltin thenV; simp only [List.map_cons, List.map_nil]; cases aLen P t (f.eval x) <;> rfl
theorem stepA_append {t tx : TypeId} {x y : Operand} : @stepI P ⟨d, .call ⟨.builtin .append, #[x, y], #[t, tx]⟩, ty, pos, aft, g⟩ K f h = @thenH (aAppend P t tx (f.eval x) (f.eval y) h) d K f := by
  unfold stepI stepA opEval aCall aBuiltin thenH; simp only [List.map_cons, List.map_nil]; cases aAppend P t tx (f.eval x) (f.eval y) h <;> rfl
theorem stepA_copy {t tx : TypeId} {x y : Operand} : @stepI P ⟨d, .call ⟨.builtin .copy, #[x, y], #[t, tx]⟩, ty, pos, aft, g⟩ K f h = @thenH (aCopy P t (f.eval x) (f.eval y) h) d K f := by
  unfold stepI stepA opEval aCall aBuiltin thenH; simp only [List.map_cons, List.map_nil]; cases aCopy P t (f.eval x) (f.eval y) h <;> rfl
/-- A call; what comes behind it is not looked at. -/
def callI (P : Program) (fid : FuncId) (args : List Value) (h : AHeap) (d : Option Tmp) [K : Kt] (f : AFrame) : Prop := callable P fid = true ∧ SCalls P fid args h fun r h' => K.go (f.put d r) h'
theorem stepA_call {fid : FuncId} {args : Array Operand} {ts : Array TypeId} : @stepI P ⟨d, .call ⟨.value (.func fid), args, ts⟩, ty, pos, aft, g⟩ K f h = @callI P fid (args.toList.map f.eval) h d K f := by
  unfold stepI stepA opEval aCall callI
  simp only [AFrame.eval]
  cases callable P fid <;> simp
theorem callI_of {fid : FuncId} {args : List Value} {R : Value → AHeap → Prop} (hc : callable P fid = true) (hs : SCalls P fid args h R) (hk : ∀ r h', R r h' → @goI K (f.put d r) h') : @callI P fid args h d K f :=
  ⟨hc, hs.mono hk⟩

theorem put_some {t : Tmp} {v : Value} {k : Nat} : AFrame.put f (some t) v k = if k = t then v else f k := nr rfl
theorem put_none {v : Value} {k : Nat} : AFrame.put f none v k = f k := nr rfl
theorem eval_tmp {t : Tmp} : AFrame.eval f (.tmp t) = f t := nr rfl
theorem eval_const {v : Value} : AFrame.eval f (.const v) = v := nr rfl
theorem eval_func {k : FuncId} : AFrame.eval f (.func k) = .func (.func k) #[] #[] := nr rfl
end

/-! ### Values -/
section
variable {P : Program} {t : TypeId} {xo yo : Operand} {k : IntKind} {a b : Int}
theorem aBin_int {op : BinOp} {v : Value} (h : pureRun P (binOp op t (.int k a) (.int k b)) = some v) (hf : flat v = true) : aBin P op t xo yo (.int k a) (.int k b) = some v := by
  unfold aBin
  rw [if_pos (show (plain (.int k a) && plain (.int k b)) = true from rfl)]
  have e : (do eqGuard op t xo yo (.int k a) (.int k b); binOp op t (.int k a) (.int k b)) = binOp op t (.int k a) (.int k b) := by cases op <;> rfl
  rw [e, h]
  exact if_pos hf
theorem aBin_add : aBin P .add t xo yo (.int k a) (.int k b) = some (.int k (k.wrap (a + b))) := aBin_int (by simp [binOp, Op.intArith]; rfl) rfl
theorem aBin_sub : aBin P .sub t xo yo (.int k a) (.int k b) = some (.int k (k.wrap (a - b))) := aBin_int (by simp [binOp, Op.intArith]; rfl) rfl
theorem aBin_mul : aBin P .mul t xo yo (.int k a) (.int k b) = some (.int k (k.wrap (a * b))) := aBin_int (by simp [binOp, Op.intArith]; rfl) rfl
theorem aBin_eql : aBin P .eql t xo yo (.int k a) (.int k b) = some (.bool (a == b)) := aBin_int (by simp [binOp, Op.intCmp]; rfl) rfl
theorem aBin_neq : aBin P .neq t xo yo (.int k a) (.int k b) = some (.bool (a != b)) := aBin_int (by simp [binOp, Op.intCmp]; rfl) rfl
theorem aBin_lss : aBin P .lss t xo yo (.int k a) (.int k b) = some (.bool (decide (a < b))) := aBin_int (by simp [binOp, Op.intCmp]; rfl) rfl
theorem aBin_leq : aBin P .leq t xo yo (.int k a) (.int k b) = some (.bool (decide (a ≤ b))) := aBin_int (by simp [binOp, Op.intCmp]; rfl) rfl
theorem aBin_gtr : aBin P .gtr t xo yo (.int k a) (.int k b) = some (.bool (decide (b < a))) := aBin_int (by simp [binOp, Op.intCmp]; rfl) rfl
theorem aBin_geq : aBin P .geq t xo yo (.int k a) (.int k b) = some (.bool (decide (b ≤ a))) := aBin_int (by simp [binOp, Op.intCmp]; rfl) rfl
end
end Go.Proofs.Ytcnjnmgnhkjgfaa.Sim

namespace Go.Proofs.Ytcnjnmgnhkjgfaa.Sim
open Go Go.RowKit
set_option linter.unusedVariables false

theorem pureRun_bind {α β : Type} {P : Program} : ∀ (s : Sem α) (k : α → Sem β), pureRun P (s >>= k) = (match pureRun P s with | some a => pureRun P (k a) | none => none)
  | .pure a, k => rfl
  | .program g, k => pureRun_bind (g P) k
  | .mark m s, k => pureRun_bind s k
  | .load .., k => rfl
  | .store .., k => rfl
  | .new .., k => rfl
  | .shape .., k => rfl
  | .freeze .., k => rfl
  | .frozen .., k => rfl
  | .getObj .., k => rfl
  | .setObj .., k => rfl
  | .choose .., k => rfl
  | .sys .., k => rfl
  | .halt .., k => rfl
theorem pureRun_pure {α : Type} {P : Program} (a : α) : pureRun P (pure a) = some a := nr rfl
theorem pureRun_underlying {P : Program} {t : TypeId} {d : TypeDesc} (h : P.underlying t = some d) : pureRun P (underlying t) = some d := by
  unfold underlying program
  rw [pureRun_bind]
  simp only [pureRun]
  rw [h]
  rfl

section
variable {P : Program} {t : TypeId} {xo yo : Operand} {k yk : IntKind} {a b : Int}
theorem aBin_sh {op : BinOp} {v : Value} (h : pureRun P (binOp op t (.int k a) (.int yk b)) = some v) (hf : flat v = true) : aBin P op t xo yo (.int k a) (.int yk b) = some v := by
  unfold aBin
  rw [if_pos (show (plain (.int k a) && plain (.int yk b)) = true from rfl)]
  have e : (do eqGuard op t xo yo (.int k a) (.int yk b); binOp op t (.int k a) (.int yk b)) = binOp op t (.int k a) (.int yk b) := by cases op <;> rfl
  rw [e, h]
  exact if_pos hf
theorem aBin_shl (hb : 0 ≤ b) : aBin P .shl t xo yo (.int k a) (.int yk b) = some (.int k (k.wrap (a * 2 ^ (min b.toNat k.bits)))) :=
  aBin_sh (by simp only [binOp, Op.shift, if_neg (show ¬ b < 0 by omega)]; rfl) rfl
theorem aBin_shr (hb : 0 ≤ b) : aBin P .shr t xo yo (.int k a) (.int yk b) = some (.int k (a.fdiv (2 ^ (min b.toNat k.bits)))) :=
  aBin_sh (by simp only [binOp, Op.shift, if_neg (show ¬ b < 0 by omega)]; rfl) rfl
theorem aBin_quo (hb : b ≠ 0) : aBin P .quo t xo yo (.int k a) (.int k b) = some (.int k (k.wrap (a.tdiv b))) :=
  aBin_int (by simp only [binOp, Op.intDiv, ne_eq, not_true, if_false, if_neg hb]; rfl) rfl
theorem aBin_rem (hb : b ≠ 0) : aBin P .rem t xo yo (.int k a) (.int k b) = some (.int k (a.tmod b)) :=
  aBin_int (by simp only [binOp, Op.intDiv, ne_eq, not_true, if_false, if_neg hb]; rfl) rfl
def bAnd (k : IntKind) (a b : Int) : Int := k.wrap ((BitVec.ofInt k.bits a &&& BitVec.ofInt k.bits b).toNat : Int)
def bOr (k : IntKind) (a b : Int) : Int := k.wrap ((BitVec.ofInt k.bits a ||| BitVec.ofInt k.bits b).toNat : Int)
def bXor (k : IntKind) (a b : Int) : Int := k.wrap ((BitVec.ofInt k.bits a ^^^ BitVec.ofInt k.bits b).toNat : Int)
def bAndNot (k : IntKind) (a b : Int) : Int := k.wrap ((BitVec.ofInt k.bits a &&& ~~~(BitVec.ofInt k.bits b)).toNat : Int)
theorem aBin_and : aBin P .and t xo yo (.int k a) (.int k b) = some (.int k (bAnd k a b)) := aBin_int (by simp only [binOp, ne_eq, not_true, if_false]; rfl) rfl
theorem aBin_or : aBin P .or t xo yo (.int k a) (.int k b) = some (.int k (bOr k a b)) := aBin_int (by simp only [binOp, ne_eq, not_true, if_false]; rfl) rfl
theorem aBin_xor : aBin P .xor t xo yo (.int k a) (.int k b) = some (.int k (bXor k a b)) := aBin_int (by simp only [binOp, ne_eq, not_true, if_false]; rfl) rfl
theorem aBin_andNot : aBin P .andNot t xo yo (.int k a) (.int k b) = some (.int k (bAndNot k a b)) := aBin_int (by simp only [binOp, ne_eq, not_true, if_false]; rfl) rfl

theorem aUn_not {b : Bool} : aUn P .not (.bool b) = some (.bool (!b)) := nr rfl
theorem aUn_neg : aUn P .neg (.int k a) = some (.int k (k.wrap (0 - a))) := nr rfl
theorem aConv_int {src dst : TypeId} {h : AHeap} {k' : IntKind} {d : TypeDesc} (hs : P.underlying src = some d) (hd : P.underlying dst = some (.int k)) : aConv P src dst (.int k' a) h = some (.int k (k.wrap a), h) := by
  unfold aConv
  rw [if_pos (show flat (.int k' a) = true from rfl)]
  have e : pureRun P (convert src dst (.int k' a)) = some (.int k (k.wrap a)) := by
    unfold convert
    rw [pureRun_bind, pureRun_underlying hs]
    simp only
    rw [pureRun_bind, pureRun_underlying hd]
    cases d <;> rfl
  rw [e]
  rfl

theorem aBin_bool_eql {x y : Bool} (hu : P.underlying t = some .bool) : aBin P .eql t xo yo (.bool x) (.bool y) = some (.bool (x == y)) := by
  unfold aBin
  rw [if_pos (show (plain (.bool x) && plain (.bool y)) = true from rfl)]
  have e : pureRun P (do eqGuard .eql t xo yo (.bool x) (.bool y); binOp .eql t (.bool x) (.bool y)) = some (.bool (x == y)) := by
    show pureRun P (do pure (Value.bool (← Op.equal t (.bool x) (.bool y)))) = _
    unfold Op.equal Op.maxDepth Op.equalIn
    rw [pureRun_bind, pureRun_bind, pureRun_underlying hu]
    rfl
  rw [e]
  rfl
theorem aBin_bool_neq {x y : Bool} (hu : P.underlying t = some .bool) : aBin P .neq t xo yo (.bool x) (.bool y) = some (.bool (x != y)) := by
  unfold aBin
  rw [if_pos (show (plain (.bool x) && plain (.bool y)) = true from rfl)]
  have e : pureRun P (do eqGuard .neq t xo yo (.bool x) (.bool y); binOp .neq t (.bool x) (.bool y)) = some (.bool (x != y)) := by
    show pureRun P (do pure (Value.bool (!(← Op.equal t (.bool x) (.bool y))))) = _
    unfold Op.equal Op.maxDepth Op.equalIn
    rw [pureRun_bind, pureRun_bind, pureRun_underlying hu]
    rfl
  rw [e]
  rfl
theorem aBin_str {op : BinOp} {x y : ByteArray} {v : Value} (h : pureRun P (Op.stringOp op x y) = some v) (hf : flat v = true) (hop : op ≠ .shl ∧ op ≠ .shr) : aBin P op t xo yo (.string x) (.string y) = some v := by
  unfold aBin
  rw [if_pos (show (plain (.string x) && plain (.string y)) = true from rfl)]
  have e : (do eqGuard op t xo yo (.string x) (.string y); binOp op t (.string x) (.string y)) = Op.stringOp op x y := by
    cases op <;> first | rfl | simp at hop
  rw [e, h]
  exact if_pos hf
theorem aBin_str_eql {x y : ByteArray} : aBin P .eql t xo yo (.string x) (.string y) = some (.bool (x.toList == y.toList)) := aBin_str rfl rfl (by simp)
theorem aBin_str_neq {x y : ByteArray} : aBin P .neq t xo yo (.string x) (.string y) = some (.bool (!(x.toList == y.toList))) := aBin_str rfl rfl (by simp)
/-- Against nil. -/
theorem aBin_nil_eql {d : TypeDesc} (hu : P.underlying t = some d) {x y : Value} (hf : fitsNil d x y = true) (hp : (plain x && plain y) = false) (hn : ((isNil x && isRef y) || (isRef x && isNil y)) = true) :
    aBin P .eql t xo yo x y = some (.bool false) := by
  unfold aBin
  rw [hp, hu]
  simp only [Bool.false_eq_true, if_false, hf, hn, Bool.and_self, if_true]
theorem aBin_nil_neq {d : TypeDesc} (hu : P.underlying t = some d) {x y : Value} (hf : fitsNil d x y = true) (hp : (plain x && plain y) = false) (hn : ((isNil x && isRef y) || (isRef x && isNil y)) = true) :
    aBin P .neq t xo yo x y = some (.bool true) := by
  unfold aBin
  rw [hp, hu]
  simp only [Bool.false_eq_true, if_false, hf, hn, Bool.and_self, if_true]
end

theorem cells_int {k : IntKind} {n : Int} : (Value.int k n).cells = #[.int k n] := nr rfl
theorem cells_bool {b : Bool} : (Value.bool b).cells = #[.bool b] := nr rfl
theorem cells_string {s : ByteArray} : (Value.string s).cells = #[.string s] := nr rfl
theorem cells_pointer {a : Option Addr} : (Value.pointer a).cells = #[.pointer a] := nr rfl
theorem cells_slice {a : Option Addr} {n m : Nat} : (Value.slice a n m).cells = #[.slice a n m] := nr rfl
theorem cells_agg {cs : Array Value} : (Value.agg cs).cells = cs := nr rfl
/-- A new slice of one element. -/
theorem slice1 {t e : TypeId} {z v : Value} {h : AHeap} {P : Program} (he : elemT P t = some e) (hs : sizeT P e = some 1) (hz : zeroT P e = some z) (hp : plain z = true) (hc : z.cells.size = 1) (hv : v.cells = #[v]) :
    aBuildSlice P t 1 [(0, v)] h = some (.slice (some ⟨h.n, 0, none⟩) 1 1, h.push (.cells [v] e none true)) := by
  have hl : z.cells.toList.length = 1 := by simpa using hc
  obtain ⟨y, hy⟩ := List.length_eq_one_iff.1 hl
  unfold aBuildSlice
  simp [he, hs, hz, hp, hc, Instr.fill, hv, made, hy]
theorem slice1_int {t e : TypeId} {z : Value} {h : AHeap} {P : Program} {k : IntKind} {n : Int} (he : elemT P t = some e) (hs : sizeT P e = some 1) (hz : zeroT P e = some z) (hp : plain z = true) (hc : z.cells.size = 1) :
    aBuildSlice P t 1 [(0, .int k n)] h = some (.slice (some ⟨h.n, 0, none⟩) 1 1, h.push (.cells [.int k n] e none true)) := slice1 he hs hz hp hc rfl
theorem enterF_zero {a : Value} {l : List Value} : enterF (a :: l) 0 = a := nr rfl
theorem enterF_succ {a : Value} {l : List Value} {n : Nat} : enterF (a :: l) (n + 1) = enterF l n := nr rfl
theorem enterF_nil {n : Nat} : enterF [] n = undef := nr rfl
theorem aBin_nilnil {P : Program} {op : BinOp} {t : TypeId} {xo yo : Operand} {x : Value} {b : Bool} (hx : plain x = true) (hs : pureRun P (do eqGuard op t xo yo x x; binOp op t x x) = some (.bool b)) :
    aBin P op t xo yo x x = some (.bool b) := by
  unfold aBin
  rw [if_pos (by simp [hx]), hs]
  rfl
section
variable {P : Program} {t e : TypeId} {xo yo : Operand} {i o : Nat} (hu : P.underlying t = some (.pointer e))
include hu
theorem eq_nilnil : pureRun P (Op.equal t (.pointer none) (.pointer none)) = some true := by
  unfold Op.equal Op.maxDepth Op.equalIn
  rw [pureRun_bind, pureRun_underlying hu]
  rfl
theorem ptr_nilnil_eql : aBin P .eql t xo yo (.pointer none) (.pointer none) = some (.bool true) := by
  refine aBin_nilnil rfl ?_
  show pureRun P (do pure (Value.bool (← Op.equal t (.pointer none) (.pointer none)))) = _
  rw [pureRun_bind, eq_nilnil hu]
  rfl
theorem ptr_nilnil_neq : aBin P .neq t xo yo (.pointer none) (.pointer none) = some (.bool false) := by
  refine aBin_nilnil rfl ?_
  show pureRun P (do pure (Value.bool (!(← Op.equal t (.pointer none) (.pointer none))))) = _
  rw [pureRun_bind, eq_nilnil hu]
  rfl
theorem ptr_nil_eql : aBin P .eql t xo yo (.pointer (some ⟨i, o, none⟩)) (.pointer none) = some (.bool false) := aBin_nil_eql hu rfl rfl rfl
theorem ptr_nil_neq : aBin P .neq t xo yo (.pointer (some ⟨i, o, none⟩)) (.pointer none) = some (.bool true) := aBin_nil_neq hu rfl rfl rfl
end
/-- Loads of one cell. -/
theorem load1 {P : Program} {t : TypeId} {h : AHeap} {i o : Nat} {c : List Value} {e : TypeId} {ex : Option Nat} {rw : Bool} {v : Value} (hr : rowT P t = some false) (hs : sizeT P t = some 1) (hg : h.get i = .cells c e ex rw) (hv : c[o]? = some v) :
    aLoad P t (.pointer (some ⟨i, o, none⟩)) h = some v := by
  have hlt : o < c.length := (List.getElem?_eq_some_iff.1 hv).1
  have hrd : (h.get i).read o 1 = some [v] := by
    rw [hg]
    simp only [AObj.read]
    rw [if_pos (by omega), List.drop_eq_getElem_cons hlt]
    simp [(List.getElem?_eq_some_iff.1 hv).2]
  simp [aLoad, hr, hs, hrd]
theorem store1 {P : Program} {t : TypeId} {h : AHeap} {i o : Nat} {c : List Value} {e : TypeId} {ex : Option Nat} {v : Value} (hs : sizeT P t = some 1) (hg : h.get i = .cells c e ex true) (ho : o < c.length) (hv : v.cells = #[v]) (h1 : v.oneCell' = true) :
    aStore P t (.pointer (some ⟨i, o, none⟩)) v h = some (h.set i (.cells (c.set o v) e ex true)) := by
  have hl : lay c o [v] = c.set o v := by
    unfold lay
    rw [List.set_eq_take_append_cons_drop, if_pos ho]
    simp
  simp only [aStore, hg, hs, hv]
  rw [if_pos ⟨rfl, by simp [h1], by simp; omega⟩, hl]
theorem field_addr {P : Program} {s : TypeId} {fs : Array Field} {f : Field} {i o k n : Nat} (hu : P.underlying s = some (.struct fs)) (hf : fs[k]? = some f) (hs : sizeT P f.type = some (n + 1)) :
    aField P s (.pointer (some ⟨i, o, none⟩)) k = some (.pointer (some ⟨i, o + f.offset, none⟩)) := by
  simp [aField, hu, hf, hs]
/-! ### Heaps -/
section
variable {h : AHeap} {o o' : AObj} {i j : Nat}
theorem push_n : (h.push o).n = h.n + 1 := nr rfl
theorem set_n : (h.set i o).n = h.n := nr rfl
theorem get_push_new : (h.push o).get h.n = o := by simp [AHeap.push]
theorem get_push (i : Nat) : (h.push o).get i = if i = h.n then o else h.get i := nr rfl
theorem get_set (i j : Nat) : (h.set j o).get i = if i = j then o else h.get i := nr rfl
theorem set_push : (h.push o).set h.n o' = h.push o' := by
  unfold AHeap.push AHeap.set
  congr 1
  funext k
  simp only
  split <;> rfl
end
end Go.Proofs.Ytcnjnmgnhkjgfaa.Sim

namespace Go.Proofs.Ytcnjnmgnhkjgfaa.Sim
open Go Go.RowKit
set_option linter.unusedVariables false

/-! ### Ends -/
section
variable {P : Program} {fn : Func} {R : Value → AHeap → Prop} {f : AFrame} {h : AHeap}
theorem retA_ret : retA P fn R .ret f h = (match resultsA P fn.results.toList f h with | some r => R r h | none => False) := nr rfl
theorem retA_normal : retA P fn R .normal f h = (match resultsA P fn.results.toList f h with | some r => R r h | none => False) := nr rfl
theorem resultsA_1 {t : Tmp} : resultsA P [.tmp t] f h = some (f t) := nr rfl
theorem resultsA_0 : resultsA P [] f h = some (.tuple #[]) := nr rfl
theorem resultsA_2 {t u : Tmp} : resultsA P [.tmp t, .tmp u] f h = some (.tuple #[f t, f u]) := nr rfl
theorem resultsA_3 {t u v : Tmp} : resultsA P [.tmp t, .tmp u, .tmp v] f h = some (.tuple #[f t, f u, f v]) := nr rfl
end

/-! ### Calls from the world -/
def noHeap : AHeap := { n := 0, get := fun _ => .dead }
theorem noHeap_rel (B : Nat) (w : World) (hB : B ≤ w.heap.size) : HRel (fun _ => none) B noHeap w :=
  ⟨fun _ _ => rfl, fun _ _ _ _ _ h => by simp [noHeap, AObj.wr] at h, fun _ => trivial, hB⟩
theorem SCalls.calls {P : Program} {fid : FuncId} {args : List Value} {h : AHeap} {v : Value} (hc : SCalls P fid args h fun r _ => r = v) (hv : flat v = true) {ρ : Ren} {w : World} (hr : HRel ρ w.heap.size h w)
    {args' : Array Value} (ha : LRel ρ args args'.toList) : Calls P fid args' w fun e w' => e = .returned v ∧ Below w.heap.size w w' :=
  (hc ρ w.heap.size w w args' ⟨hr, Below.refl _ _⟩ ha).mono fun e w' ⟨ρ', r, r', h', he, hrr, hw, _, hR⟩ => by
    subst hR
    rw [hrr.eq_of_flat hv] at he
    exact ⟨he, hw.below⟩

/-! ### Slices of the call's own -/
def idOf : Value → Option Nat
  | .slice (some a) _ _ => some a.block
  | _ => none

structure Keep (h h' : AHeap) (own : Option Nat) : Prop where
  n : h.n ≤ h'.n
  get : ∀ j, j < h.n → some j ≠ own → h'.get j = h.get j
theorem Keep.refl (h : AHeap) (own : Option Nat) : Keep h h own := ⟨Nat.le_refl _, fun _ _ _ => rfl⟩
theorem Keep.trans {h h1 h2 : AHeap} {o o1 : Option Nat} (a : Keep h h1 o) (b : Keep h1 h2 o1) (ho : o1 = o ∨ ∀ k, o1 = some k → h.n ≤ k) : Keep h h2 o :=
  ⟨Nat.le_trans a.n b.n, fun j hj hne => (b.get j (Nat.lt_of_lt_of_le hj a.n) (by
    rcases ho with rfl | ho
    · exact hne
    · intro hc; have := ho j hc.symm; omega)).trans (a.get j hj hne)⟩
theorem Keep.mono {h h' : AHeap} (a : Keep h h' none) (o : Option Nat) : Keep h h' o := ⟨a.n, fun j hj _ => a.get j hj (by simp)⟩
theorem Keep.push (h : AHeap) (o : AObj) (own : Option Nat) : Keep h (h.push o) own := ⟨by simp [AHeap.push], fun j hj _ => by simp [AHeap.push, show j ≠ h.n by omega]⟩

/-- A slice of element type e (sz cells each) that is nil or the call's own, with these cells. -/
def Own (h : AHeap) (e : TypeId) (sz : Nat) (v : Value) (cs : List Value) : Prop :=
  (v = .slice none 0 0 ∧ cs = []) ∨
  ∃ i len cap c ex, v = .slice (some ⟨i, 0, none⟩) len cap ∧ i < h.n ∧ h.get i = .cells c e ex true ∧ cs.length = len * sz ∧ c.take (len * sz) = cs ∧
    ((cap < unk ∧ ex = none ∧ c.length = cap * sz ∧ len ≤ cap) ∨ (cap = unk ∧ ex = some sz))

theorem Own.nil (h : AHeap) (e : TypeId) (sz : Nat) : Own h e sz (.slice none 0 0) [] := .inl ⟨rfl, rfl⟩
theorem Own.keep {h h' : AHeap} {e : TypeId} {sz : Nat} {v : Value} {cs : List Value} {own : Option Nat} (ho : Own h e sz v cs) (hk : Keep h h' own) (hne : idOf v = none ∨ idOf v ≠ own) : Own h' e sz v cs := by
  rcases ho with ho | ⟨i, len, cap, c, ex, rfl, hi, hg, rest⟩
  · exact .inl ho
  · refine .inr ⟨i, len, cap, c, ex, rfl, Nat.lt_of_lt_of_le hi hk.n, ?_, rest⟩
    rw [hk.get i hi (by simpa [idOf] using hne), hg]
theorem Own.lt {h : AHeap} {e : TypeId} {sz : Nat} {v : Value} {cs : List Value} (ho : Own h e sz v cs) : ∀ k, idOf v = some k → k < h.n := by
  intro k hk
  rcases ho with ⟨rfl, _⟩ | ⟨i, len, cap, c, ex, rfl, hi, _⟩
  · simp [idOf] at hk
  · simp [idOf] at hk; omega
/-- A new block, filled. -/
theorem Own.fresh {h : AHeap} {e : TypeId} {sz : Nat} (c : List Value) (len cap : Nat) (hc : c.length = cap * sz) (hl : len ≤ cap) (hu : cap < unk) :
    Own (h.push (.cells c e none true)) e sz (.slice (some ⟨h.n, 0, none⟩) len cap) (c.take (len * sz)) :=
  .inr ⟨h.n, len, cap, c, none, rfl, by simp [AHeap.push], by simp [AHeap.push], by rw [List.length_take, hc]; exact Nat.min_eq_left (Nat.mul_le_mul_right _ hl), rfl, .inl ⟨hu, rfl, hc, hl⟩⟩

theorem Own.grown {h : AHeap} {e : TypeId} {sz i len : Nat} {cs : List Value} (hi : i < h.n) (hg : h.get i = .cells cs e (some sz) true) (hl : cs.length = len * sz) :
    Own h e sz (.slice (some ⟨i, 0, none⟩) len unk) cs :=
  .inr ⟨i, len, unk, cs, some sz, rfl, hi, hg, hl, by rw [← hl]; exact List.take_length, .inr ⟨rfl, rfl⟩⟩

theorem append_own {P : Program} {t tx e : TypeId} {sz bs : Nat} {z : Value} (he : elemT P t = some e) (hz : zeroT P e = some z) (hsz : sizeT P e = some sz) (hbs : bytesT P e = some bs) (hzs : z.cells.size = sz) (hpos : 0 < sz)
    {h : AHeap} {s x : Value} {cs : List Value} (ho : Own h e sz s cs) {n : Nat} {news : List Value} (hsrc : aSrc P sz tx x h = some (n, news)) (hn : news.length = n * sz)
    (h1 : (cs.length + news.length) * bs ≤ lim) (h2 : cs.length + news.length ≤ lim) :
    ∃ v h', aAppend P t tx s x h = some (v, h') ∧ Own h' e sz v (cs ++ news) ∧ Keep h h' (idOf s) ∧ (idOf v = idOf s ∨ ∀ k, idOf v = some k → h.n ≤ k) := by
  unfold aAppend
  simp only [he, hz, hsz, hbs, hzs, if_true, hsrc]
  rcases ho with ⟨rfl, rfl⟩ | ⟨i, len, cap, c, ex, rfl, hi, hg, hlen, htake, hcap⟩
  · by_cases h0 : n = 0
    · subst h0
      have : news = [] := List.eq_nil_of_length_eq_zero (by simpa using hn)
      subst this
      exact ⟨.slice none 0 0, h, by simp, Own.nil _ _ _, Keep.refl _ _, .inl rfl⟩
    · have hn1 : n ≤ news.length := by rw [hn]; exact Nat.le_mul_of_pos_right n hpos
      have c1 : n * bs ≤ lim := Nat.le_trans (Nat.mul_le_mul_right bs (by omega)) h1
      have c2 : n ≤ lim := by omega
      exact ⟨.slice (some ⟨h.n, 0, none⟩) n unk, h.push (.cells news e (some sz) true), by simp [h0, c1, c2], Own.grown (by simp [AHeap.push]) (by simp [AHeap.push]) (by simpa using hn), Keep.push _ _ _, .inr fun k hk => by simp [idOf] at hk; omega⟩
  · by_cases h0 : n = 0
    · subst h0
      have : news = [] := List.eq_nil_of_length_eq_zero (by simpa using hn)
      subst this
      exact ⟨.slice (some ⟨i, 0, none⟩) len cap, h, by simp, by rw [List.append_nil]; exact .inr ⟨i, len, cap, c, ex, rfl, hi, hg, hlen, htake, hcap⟩, Keep.refl _ _, .inl rfl⟩
    · have hn1 : len + n ≤ cs.length + news.length := by
        rw [hn, hlen, ← Nat.add_mul]; exact Nat.le_mul_of_pos_right _ hpos
      have c1 : (len + n) * bs ≤ lim := Nat.le_trans (Nat.mul_le_mul_right bs hn1) h1
      have c2 : len + n ≤ lim := by omega
      have hcl : len * sz ≤ c.length := by
        have := congrArg List.length htake
        rw [List.length_take, hlen] at this
        omega
      simp only [h0, c1, c2, and_self, if_true, if_false, hg]
      rcases hcap with ⟨hcu, rfl, hclen, hle⟩ | ⟨rfl, rfl⟩
      · simp only [hcu, if_true]
        by_cases hroom : len + n ≤ cap
        · have hfit : 0 + (len + n) * sz ≤ c.length := by rw [hclen, Nat.zero_add]; exact Nat.mul_le_mul_right _ hroom
          have hll : (lay c (len * sz) news).length = c.length := length_lay _ _ _ (by rw [hn, ← Nat.add_mul]; omega)
          simp only [hroom, if_true, hfit]
          refine ⟨_, _, rfl, .inr ⟨i, len + n, cap, lay c (0 + len * sz) news, none, rfl, hi, by simp [AHeap.set], by simp [hlen, hn, Nat.add_mul], ?_, .inl ⟨hcu, rfl, ?_, hroom⟩⟩, ⟨Nat.le_refl _, fun j hj hne => ?_⟩, .inl rfl⟩
          · simp only [Nat.zero_add, lay, htake, Nat.add_mul, ← hn]
            have : (cs ++ news).length = len * sz + news.length := by simp [hlen]
            rw [← this]
            exact List.take_left
          · rw [Nat.zero_add, hll, hclen]
          · simp only [AHeap.set]
            rw [if_neg (by intro hji; subst hji; simp [idOf] at hne)]
        · simp only [hroom, if_false]
          have hread : (AObj.cells c e none true).read 0 (len * sz) = some cs := by simp [AObj.read, hcl, htake]
          simp only [hread]
          exact ⟨_, _, rfl, Own.grown (by simp [AHeap.push]) (by simp [AHeap.push]) (by simp [hlen, hn, Nat.add_mul]), Keep.push _ _ _, .inr fun k hk => by simp [idOf] at hk; omega⟩
      · simp only [Nat.lt_irrefl, if_false, true_and, hcl, and_self, if_true]
        refine ⟨_, _, rfl, Own.grown (by simp [AHeap.push, AHeap.set]) (by simp [AHeap.push, AHeap.set, htake]) (by simp [hlen, hn, Nat.add_mul]), ⟨by simp [AHeap.push, AHeap.set], fun j hj hne => ?_⟩, .inr fun k hk => by simp [idOf] at hk; omega⟩
        have h1 : j ≠ i := by intro hji; subst hji; simp [idOf] at hne
        have h2 : j ≠ h.n := by omega
        simp [AHeap.push, AHeap.set, h1, h2]
theorem append_one {P : Program} {t e : TypeId} {bs : Nat} {z : Value} (he : elemT P t = some e) (hu : P.underlying t = some (.slice e)) (hz : zeroT P e = some z) (hsz : sizeT P e = some 1) (hbs : bytesT P e = some bs) (hzs : z.cells.size = 1)
    {h : AHeap} {s x : Value} {cs : List Value} (ho : Own h e 1 s cs) (hx : x.oneCell' = true) (h1 : (cs.length + 1) * bs ≤ lim) (h2 : cs.length + 1 ≤ lim) :
    ∃ v h', aAppend P t t s (.slice (some ⟨h.n, 0, none⟩) 1 1) (h.push (.cells [x] e none true)) = some (v, h') ∧ Own h' e 1 v (cs ++ [x]) ∧ Keep h h' (idOf s) ∧ (idOf v = idOf s ∨ ∀ k, idOf v = some k → h.n ≤ k) := by
  have hk := Keep.push h (.cells [x] e none true) (none : Option Nat)
  have hsrc : aSrc P 1 t (.slice (some ⟨h.n, 0, none⟩) 1 1) (h.push (.cells [x] e none true)) = some (1, [x]) := by
    unfold aSrc
    rw [hu]
    simp [AHeap.push, AObj.read, hx]
  obtain ⟨v, h', ha, ho', hk', hid⟩ := append_own (tx := t) he hz hsz hbs hzs (by omega) (ho.keep hk (by cases hh : idOf s <;> simp)) hsrc (by simp) h1 h2
  refine ⟨v, h', ha, ho', (hk.mono (idOf s)).trans hk' (.inl rfl), hid.imp id fun hh k hk2 => ?_⟩
  have := hh k hk2
  simp [AHeap.push] at this
  omega

/-- What a call may do to slices of its own: it goes on with them, or with new ones. -/
def NewOr (h : AHeap) (a b : Option Nat) : Prop := b = a ∨ ∀ k, b = some k → h.n ≤ k
theorem NewOr.trans {h h1 : AHeap} {a b c : Option Nat} {o : Option Nat} (x : NewOr h a b) (hk : Keep h h1 o) (y : NewOr h1 b c) : NewOr h a c := by
  rcases y with rfl | y
  · exact x
  · exact .inr fun k hc => Nat.le_trans hk.n (y k hc)
end Go.Proofs.Ytcnjnmgnhkjgfaa.Sim

namespace Go.Proofs.Ytcnjnmgnhkjgfaa.Sim
open Go Go.RowKit
set_option linter.unusedVariables false

/-- A slice that may be read: its cells (sz an element). -/
def Sl (h : AHeap) (sz : Nat) (v : Value) (cs : List Value) : Prop :=
  (v = .slice none 0 0 ∧ cs = []) ∨ ∃ i o len cap, v = .slice (some ⟨i, o, none⟩) len cap ∧ i < h.n ∧ (h.get i).read o (len * sz) = some cs
theorem AObj.read_length {ob : AObj} {o n : Nat} {cs : List Value} (h : ob.read o n = some cs) : cs.length = n := by
  unfold AObj.read at h
  split at h
  · split at h
    · simp at h; subst h; simp; omega
    · cases h
  · split at h
    · simp at h; subst h; simp; omega
    · cases h
  · cases h
theorem Sl.keep {h h' : AHeap} {sz : Nat} {v : Value} {cs : List Value} {own : Option Nat} (ho : Sl h sz v cs) (hk : Keep h h' own) (hne : idOf v = none ∨ idOf v ≠ own) : Sl h' sz v cs := by
  rcases ho with ho | ⟨i, o, len, cap, rfl, hi, hg⟩
  · exact .inl ho
  · refine .inr ⟨i, o, len, cap, rfl, Nat.lt_of_lt_of_le hi hk.n, ?_⟩
    rw [hk.get i hi (by simpa [idOf] using hne), hg]
theorem Own.sl {h : AHeap} {e : TypeId} {sz : Nat} {v : Value} {cs : List Value} (ho : Own h e sz v cs) : Sl h sz v cs := by
  rcases ho with ho | ⟨i, len, cap, c, ex, rfl, hi, hg, hlen, htake, _⟩
  · exact .inl ho
  · refine .inr ⟨i, 0, len, cap, rfl, hi, ?_⟩
    have hcl : len * sz ≤ c.length := by
      have := congrArg List.length htake
      rw [List.length_take, hlen] at this
      omega
    rw [hg]
    simp [AObj.read, hcl, htake]
theorem Sl.lt {h : AHeap} {sz : Nat} {v : Value} {cs : List Value} (ho : Sl h sz v cs) : ∀ k, idOf v = some k → k < h.n := by
  intro k hk
  rcases ho with ⟨rfl, _⟩ | ⟨i, o, len, cap, rfl, hi, _⟩
  · simp [idOf] at hk
  · simp [idOf] at hk; omega

/-- How many elements a slice has. -/
def lenV : Value → Nat
  | .slice _ n _ => n
  | _ => 0
theorem Sl.len {h : AHeap} {v : Value} {cs : List Value} (ho : Sl h 1 v cs) : lenV v = cs.length := by
  rcases ho with ⟨rfl, rfl⟩ | ⟨i, o, len, cap, rfl, hi, hr⟩
  · rfl
  · have := AObj.read_length hr
    simp [lenV, this]
theorem Sl.aLen {P : Program} {t e : TypeId} {h : AHeap} {sz : Nat} {v : Value} {cs : List Value} (ho : Sl h sz v cs) (hu : P.underlying t = some (.slice e)) : aLen P t v = some (.int .i64 (lenV v)) := by
  rcases ho with ⟨rfl, rfl⟩ | ⟨i, o, len, cap, rfl, hi, hr⟩ <;> simp [Sim.aLen, hu, lenV]

theorem Sl.src {P : Program} {t e : TypeId} {h : AHeap} {sz : Nat} {v : Value} {cs : List Value} (ho : Sl h sz v cs) (hu : P.underlying t = some (.slice e)) (hone : cs.all (·.oneCell') = true) :
    aSrc P sz t v h = some (lenV v, cs) := by
  rcases ho with ⟨rfl, rfl⟩ | ⟨i, o, len, cap, rfl, hi, hr⟩
  · simp [aSrc, hu, lenV]
  · simp [aSrc, hu, lenV, hr, hone]

/-- An element's address, and what lies there. -/
theorem Sl.index {P : Program} {t e : TypeId} {h : AHeap} {v : Value} {cs : List Value} (ho : Sl h 1 v cs) (hu : P.underlying t = some (.slice e)) (hsz : sizeT P e = some 1) (j : Nat) (hj : j < cs.length) {k : IntKind} :
    ∃ p, aIndexAddr P t v (.int k (j : Int)) = some p ∧ ∀ e', rowT P e' = some false → sizeT P e' = some 1 → aLoad P e' p h = cs[j]? := by
  rcases ho with ⟨rfl, rfl⟩ | ⟨i, o, len, cap, rfl, hi, hr⟩
  · simp at hj
  · have hlen := AObj.read_length hr
    simp only [Nat.mul_one] at hlen hr
    have h2 : (j : Int) < (len : Int) := by omega
    refine ⟨.pointer (some ⟨i, o + j, none⟩), by simp [aIndexAddr, hu, hsz, h2], fun e' h3 h4 => ?_⟩
    have hrd : (h.get i).read (o + j) 1 = some [cs[j]] := by
      unfold AObj.read at hr ⊢
      split at hr
      · split at hr
        · rename_i c _ _ _ _ hcond
          have hcs : (c.drop o).take len = cs := by simpa using hr
          have hjc : o + j < c.length := by omega
          rw [if_pos (by omega)]
          congr 1
          have e1 : cs[j] = c[o + j] := by subst hcs; simp
          rw [e1, List.drop_eq_getElem_cons hjc]
          rfl
        · cases hr
      · split at hr
        · rename_i lo c _ hcond
          have hcs : (c.drop (o - lo)).take len = cs := by simpa using hr
          have hjc : o + j - lo < c.length := by omega
          rw [if_pos (by omega)]
          congr 1
          have e1 : cs[j] = c[o + j - lo] := by
            subst hcs
            simp
            congr 1
            omega
          rw [e1, List.drop_eq_getElem_cons hjc]
          rfl
        · cases hr
      · cases hr
    simp [aLoad, h3, h4, hrd, hj]

/-- A slice whose capacity is known. -/
def capKnown : Value → Prop
  | .slice _ len cap => len ≤ cap ∧ cap < unk
  | _ => False
theorem AObj.read_drop {ob : AObj} {o n k : Nat} {cs : List Value} (h : ob.read o n = some cs) (hk : k ≤ n) : ob.read (o + k) (n - k) = some (cs.drop k) := by
  unfold AObj.read at h ⊢
  split at h
  · split at h
    · rename_i c _ _ _ hcond
      simp only [Option.some.injEq] at h
      rw [if_pos (by omega)]
      subst h
      simp [List.drop_take]
    · cases h
  · split at h
    · rename_i lo c hcond
      simp only [Option.some.injEq] at h
      rw [if_pos (by omega)]
      subst h
      rw [show o + k - lo = (o - lo) + k by omega]
      simp [List.drop_take]
    · cases h
  · cases h
/-- s[k:] -/
theorem Sl.drop {P : Program} {t e : TypeId} {h : AHeap} {v : Value} {cs : List Value} (ho : Sl h 1 v cs) (hc : capKnown v) (hu : P.underlying t = some (.slice e)) (hsz : sizeT P e = some 1) (k : Nat) (hk : k ≤ cs.length) {ik : IntKind} :
    ∃ v', aSlice P t v (some (.int ik (k : Int))) none none = some v' ∧ Sl h 1 v' (cs.drop k) ∧ capKnown v' ∧ idOf v' = idOf v := by
  rcases ho with ⟨rfl, rfl⟩ | ⟨i, o, len, cap, rfl, hi, hr⟩
  · have : k = 0 := by simpa using hk
    subst this
    exact ⟨.slice none 0 0, by simp [aSlice, hu, hsz, loOf, hiOf, natOf], .inl ⟨rfl, by simp⟩, hc, rfl⟩
  · have hlen := AObj.read_length hr
    simp only [Nat.mul_one] at hlen hr
    obtain ⟨hlc, hcu⟩ := hc
    have hkl : k ≤ len := by omega
    refine ⟨.slice (some ⟨i, if cap = k then o else o + k, none⟩) (len - k) (cap - k), ?_, .inr ⟨i, _, len - k, cap - k, rfl, hi, ?_⟩, ⟨by omega, by omega⟩, rfl⟩
    · have : ¬ (unk ≤ cap) := by omega
      simp [aSlice, hu, hsz, loOf, hiOf, natOf, cutSlice, hcu, hkl, hlc]
    · rw [Nat.mul_one]
      by_cases hck : cap = k
      · have h0 : len - k = 0 := by omega
        have hcs : cs.drop k = [] := List.drop_eq_nil_of_le (by omega)
        rw [if_pos hck, h0, hcs]
        have := AObj.read_drop hr (Nat.zero_le _ : 0 ≤ len)
        unfold AObj.read at hr ⊢
        split at hr
        · split at hr
          · rename_i hcond
            rw [if_pos (by omega)]
            simp
          · cases hr
        · split at hr
          · rename_i hcond
            rw [if_pos (by omega)]
            simp
          · cases hr
        · cases hr
      · rw [if_neg hck]
        exact AObj.read_drop hr hkl

/-- make, one cell an element. -/
theorem make1 {P : Program} {t e : TypeId} {z : Value} {bs : Nat} (he : elemT P t = some e) (hz : zeroT P e = some z) (hsz : sizeT P e = some 1) (hbs : bytesT P e = some bs) (hp : plain z = true) (hzc : z.cells = #[z]) {h : AHeap}
    {k k' : IntKind} {l c : Int} (h0 : 0 ≤ l) (hl : l ≤ c) (h1 : bs * c.toNat ≤ 140737488355328) (h2 : c.toNat ≤ 140737488355328) :
    aMake P t (.int k l) (.int k' c) h = some (.slice (some ⟨h.n, 0, none⟩) l.toNat c.toNat, h.push (.cells (List.replicate c.toNat z) e none true)) := by
  have hm : ∀ n, made [z] n = List.replicate n z := fun n => by
    induction n with
    | zero => rfl
    | succ n ih => rw [made_succ, ih]; simp [List.replicate_succ']
  have hc0 : 0 ≤ c := by omega
  have hlc : l.toNat ≤ c.toNat := by omega
  simp [aMake, he, natOf, h0, hc0, hz, hbs, hzc, hsz, hp, hlc, h1, h2, hm]

/-- What copy does to a slice of the call's own that has as many elements. -/
theorem copy_own {P : Program} {t e : TypeId} (he : elemT P t = some e) (hsz : sizeT P e = some 1) {h : AHeap} {i cap : Nat} {c cs : List Value} {src : Value} (hg : h.get i = .cells c e none true) (hi : i < h.n) (hs : Sl h 1 src cs)
    (hone : cs.all (·.oneCell') = true) (hfit : cs.length ≤ c.length) :
    ∃ h', aCopy P t (.slice (some ⟨i, 0, none⟩) cs.length cap) src h = some (.int .i64 cs.length, h') ∧ h'.n = h.n ∧ h'.get i = .cells (lay c 0 cs) e none true ∧ ∀ j, j ≠ i → h'.get j = h.get j := by
  have hlen : aLenOf src = some cs.length := by
    rcases hs with ⟨rfl, rfl⟩ | ⟨j, o, len, cp, rfl, hj, hr⟩
    · rfl
    · have := AObj.read_length hr
      simp [aLenOf, this]
  have hfirst : aFirst 1 cs.length src h = some cs := by
    rcases hs with ⟨rfl, rfl⟩ | ⟨j, o, len, cp, rfl, hj, hr⟩
    · rfl
    · have := AObj.read_length hr
      simp only [Nat.mul_one] at this hr
      simp [aFirst, this, hr]
  have hmin : Nat.min cs.length cs.length = cs.length := Nat.min_self _
  by_cases h0 : cs.length = 0
  · have hcs : cs = [] := List.eq_nil_of_length_eq_zero h0
    subst hcs
    refine ⟨h, ?_, rfl, by rw [hg]; simp [lay], fun _ _ => rfl⟩
    unfold aCopy
    simp only [he, hsz, hlen, hmin]
    rw [hfirst]
    rfl
  · refine ⟨h.set i (.cells (lay c 0 cs) e none true), ?_, rfl, by simp [AHeap.set], fun j hj => by simp [AHeap.set, hj]⟩
    unfold aCopy
    simp only [he, hsz, hlen, hmin]
    rw [hfirst]
    simp only [h0, if_false, hg, Nat.zero_add, hfit, hone, and_self, if_true]
theorem lay_replicate (cs : List Value) (n : Nat) (z : Value) (h : cs.length ≤ n) : (lay (List.replicate n z) 0 cs).take cs.length = cs ∧ (lay (List.replicate n z) 0 cs).length = n := by
  constructor
  · simp [lay]
  · rw [length_lay _ _ _ (by simpa using h)]; simp
end Go.Proofs.Ytcnjnmgnhkjgfaa.Sim

namespace Go.Proofs.Ytcnjnmgnhkjgfaa.Sim
open Go Go.RowKit
set_option linter.unusedVariables false

def scopeRounds (P : Program) (l : Nat) (rest : Code) (Q : Exit → Act → World → Prop) : Nat → Act → World → Prop
  | 0, _, _ => False
  | m + 1, a, w => rest.wp P (Exit.jump l (scopeRounds P l rest Q m) Q) a w

theorem wp_scope_rounds {P : Program} {c rest : Code} {l : Nat} {Q : Exit → Act → World → Prop} {a : Act} {w : World} (hf : findLabel c l = some rest) (m : Nat)
    (first : c.wp P (Exit.jump l (scopeRounds P l rest Q m) Q) a w) : (Code.scope c).wp P Q a w := by
  intro b k cs
  have hg : gotoIn l (.inScope c :: k) = some (.code rest :: .inScope c :: k) := by simp [gotoIn, hf]
  have key : ∀ m a w, scopeRounds P l rest Q m a w → ∃ e a' w', Q e a' w' ∧ Arrives P (lone (b.at a (.code rest :: .inScope c :: k)) cs w) b k cs e a' w' := by
    intro m
    induction m with
    | zero => intro a w h; exact h.elim
    | succ m ih =>
      intro a w hJ
      obtain ⟨e, a₁, w₁, hq, harr⟩ := hJ b (.inScope c :: k) cs
      cases e with
      | normal => exact ⟨.normal, a₁, w₁, hq, Steps.trans harr (.one step_inScope)⟩
      | exit id => exact ⟨.exit id, a₁, w₁, hq, fun k' hk => harr k' (by simp [exitTo, hk])⟩
      | goto l' =>
        obtain ⟨rfl, hJ'⟩ := hq
        obtain ⟨e₂, a₂, w₂, hq₂, harr₂⟩ := ih a₁ w₁ hJ'
        exact ⟨e₂, a₂, w₂, hq₂, .of_steps (harr _ hg) harr₂⟩
      | ret => exact ⟨_, a₁, w₁, hq, harr⟩
      | panic ch => exact ⟨_, a₁, w₁, hq, harr⟩
      | outgrown => exact ⟨_, a₁, w₁, hq, harr⟩
  obtain ⟨e, a₁, w₁, hq, harr⟩ := first b (.inScope c :: k) cs
  cases e with
  | normal => exact ⟨.normal, a₁, w₁, hq, .head step_scope (Steps.trans harr (.one step_inScope))⟩
  | exit id => exact ⟨.exit id, a₁, w₁, hq, fun k' hk => .head step_scope (harr k' (by simp [exitTo, hk]))⟩
  | goto l' =>
    obtain ⟨rfl, hJ'⟩ := hq
    obtain ⟨e₂, a₂, w₂, hq₂, harr₂⟩ := key m a₁ w₁ hJ'
    exact ⟨e₂, a₂, w₂, hq₂, .of_steps (.head step_scope (harr _ hg)) harr₂⟩
  | ret => exact ⟨_, a₁, w₁, hq, .of_steps (.one step_scope) harr⟩
  | panic ch => exact ⟨_, a₁, w₁, hq, .of_steps (.one step_scope) harr⟩
  | outgrown => exact ⟨_, a₁, w₁, hq, .of_steps (.one step_scope) harr⟩

def jumpA (l : Nat) (J : AFrame → AHeap → Prop) (Q : AExit → AFrame → AHeap → Prop) : AExit → AFrame → AHeap → Prop
  | .goto l', f, h => l' = l ∧ J f h
  | e, f, h => Q e f h
section
variable {l : Nat} {J : AFrame → AHeap → Prop} {Q : AExit → AFrame → AHeap → Prop} {f : AFrame} {h : AHeap}
theorem jumpA_normal : jumpA l J Q .normal f h = Q .normal f h := nr rfl
theorem jumpA_exit {j : Nat} : jumpA l J Q (.exit j) f h = Q (.exit j) f h := nr rfl
theorem jumpA_ret : jumpA l J Q .ret f h = Q .ret f h := nr rfl
theorem jumpA_goto {j : Nat} : jumpA l J Q (.goto j) f h = (j = l ∧ J f h) := nr rfl
end

/-- A scope in which the run jumps back to one label. -/
theorem SWp.scope {P : Program} {n l : Nat} {c rest : Code} (hl : findLabel c l = some rest) {Q : AExit → AFrame → AHeap → Prop} {f : AFrame} {h : AHeap} (J : AFrame → AHeap → Prop) (μ : AFrame → AHeap → Nat)
    (first : SWp P n c (jumpA l J Q) f h) (pass : ∀ f h, J f h → SWp P n rest (jumpA l (fun f' h' => J f' h' ∧ μ f' h' < μ f h) Q) f h) (hμ : ∀ f h, J f h → μ f h < 1000000000000000000000) : SWp P n (.scope c) Q f h := by
  intro ρ B w0 a w hw hf
  have key : ∀ m f h, J f h → μ f h < m → ∀ ρ1 : Ren, ρ.le ρ1 → ∀ a w, WRel ρ1 B w0 h w → FRel ρ1 n f a → scopeRounds P l rest (CPost n B w0 ρ Q) m a w := by
    intro m
    induction m with
    | zero => intro f h _ hm; omega
    | succ m ih =>
      intro f h hI hm ρ1 hle a w hw hf
      refine wp_mono (pass f h hI ρ1 B w0 a w hw hf) fun e a' w' ⟨ρ', x, f', h', hx, hw', hf', hl', hQ⟩ => ?_
      cases x <;> cases e <;> simp only [XR] at hx
      · exact ⟨ρ', .normal, f', h', trivial, hw', hf', hle.trans hl', hQ⟩
      · exact ⟨ρ', .exit _, f', h', hx, hw', hf', hle.trans hl', hQ⟩
      · obtain ⟨rfl, hQ1, hQ2⟩ := hQ
        exact ⟨hx.symm, ih f' h' hQ1 (by omega) ρ' (hle.trans hl') a' w' hw' hf'⟩
      · exact ⟨ρ', .ret, f', h', trivial, hw', hf', hle.trans hl', hQ⟩
  refine wp_scope_rounds hl 1000000000000000000000 (wp_mono (first ρ B w0 a w hw hf) fun e a' w' ⟨ρ', x, f', h', hx, hw', hf', hl', hQ⟩ => ?_)
  cases x <;> cases e <;> simp only [XR] at hx
  · exact ⟨ρ', .normal, f', h', trivial, hw', hf', hl', hQ⟩
  · exact ⟨ρ', .exit _, f', h', hx, hw', hf', hl', hQ⟩
  · obtain ⟨rfl, hQ1⟩ := hQ
    exact ⟨hx.symm, key _ f' h' hQ1 (hμ f' h' hQ1) ρ' hl' a' w' hw' hf'⟩
  · exact ⟨ρ', .ret, f', h', trivial, hw', hf', hl', hQ⟩

theorem SWp.scope1 {P : Program} {n l : Nat} {c b : Code} (hl : findLabel c l = some (.seq .skip b)) {Q : AExit → AFrame → AHeap → Prop} {f : AFrame} {h : AHeap} (J : AFrame → AHeap → Prop) (μ : AFrame → AHeap → Nat)
    (hμ : ∀ f h, J f h → μ f h < 1000000000000000000000)
    (pass : ∀ f h, J f h → SWp P n b (jumpA l (fun f' h' => J f' h' ∧ μ f' h' < μ f h) Q) f h)
    (first : (∀ f h, J f h → SWp P n b (jumpA l J Q) f h) → SWp P n c (jumpA l J Q) f h) : SWp P n (.scope c) Q f h :=
  .scope hl J μ (first fun f h hJ => (pass f h hJ).mono fun e f' h' hq => by
    cases e with
    | goto l' => exact ⟨hq.1, hq.2.1⟩
    | _ => exact hq) (fun f h hJ => .seq (.skip (pass f h hJ))) hμ

/-! ### A statement whose order is open, and whose operations leave the memory as it was -/
def callOf (P : Program) (o : Oper) (ev : Operand → Value) : Option (FuncId × List Value) :=
  match o.op with
  | .call c => match c.callee with
    | .value f => match ev f with
      | .func (.func fid) first captured => if callable P fid then some (fid, first.toList ++ c.args.toList.map ev ++ captured.toList) else none
      | _ => none
    | _ => none
  | _ => none

def quietA (P : Program) (ops : List Oper) (h : AHeap) : List Oper → (AFrame → Prop) → AFrame → Prop
  | [], K, f => K f
  | o :: rest, K, f =>
    if wantedA ops o.guard f = true then
      match opQuiet P o f.eval h with
      | some v => quietA P ops h rest K (f.put o.dst v)
      | none => match callOf P o f.eval with
        | some (g, args) => ∃ r, flat r = true ∧ SCalls P g args h (fun r' h' => r' = r ∧ h.n ≤ h'.n ∧ ∀ i, i < h.n → h'.get i = h.get i) ∧ quietA P ops h rest K (f.put o.dst r)
        | none => False
    else quietA P ops h rest K (f.put o.dst undef)

/-- The class of worlds that a region without effect stays in. -/
def Cls (ρ : Ren) (B : Nat) (w0 : World) (h : AHeap) (w : World) : Prop := WRel ρ B w0 h w

theorem WRel.restrict {ρ ρ' : Ren} {B : Nat} {w0 w w' : World} {h h' : AHeap} (R : WRel ρ B w0 h w) (R' : WRel ρ' B w0 h' w') (hle : ρ.le ρ') (hsame : ∀ i, i < h.n → h'.get i = h.get i) : WRel ρ B w0 h w' := by
  have hlt : ∀ i, h.get i ≠ .dead → i < h.n := fun i hi => by obtain ⟨_, _, _, _, hh⟩ := R.heap.live hi; exact hh
  refine ⟨⟨R.heap.dom, R.heap.inj, fun i => ?_, R'.heap.base⟩, R'.below⟩
  cases hg : h.get i with
  | dead => trivial
  | cells c e ex rw =>
    have hi : i < h.n := hlt i (by rw [hg]; simp)
    have o1 := R.heap.obj i
    have o2 := R'.heap.obj i
    rw [hsame i hi, hg] at o2
    rw [hg] at o1
    obtain ⟨b, cp, arr, fz, hr, hw, hc, hl, hx, hrw⟩ := o1
    obtain ⟨b2, cp2, arr2, fz2, hr2, hw2, hc2, hl2, hx2, hrw2⟩ := o2
    have := hle i _ hr
    rw [hr2] at this
    simp at this
    obtain ⟨rfl, rfl⟩ := this
    refine ⟨b2, cp2, arr2, fz2, hr, hw2, hc2, ⟨by simp; omega, fun k v v' hv hv' => ?_⟩, hx2, hrw2⟩
    obtain ⟨u, hu1, hu2⟩ := hl.get hv
    have h3 := hl2.2 k v v' hv hv'
    rw [← (hu2.mono hle).functional h3]
    exact hu2
  | view lo c =>
    have hi : i < h.n := hlt i (by rw [hg]; simp)
    have o1 := R.heap.obj i
    have o2 := R'.heap.obj i
    rw [hsame i hi, hg] at o2
    rw [hg] at o1
    obtain ⟨b, cp, arr, e, fz, hr, hw, hc, hl⟩ := o1
    obtain ⟨b2, cp2, arr2, e2, fz2, hr2, hw2, hc2, hl2⟩ := o2
    have := hle i _ hr
    rw [hr2] at this
    simp at this
    obtain ⟨rfl, rfl⟩ := this
    refine ⟨b2, cp2, arr2, e2, fz2, hr, hw2, hc2, ⟨by simp; omega, fun k v v' hv hv' => ?_⟩⟩
    obtain ⟨u, hu1, hu2⟩ := hl.get hv
    have h3 := hl2.2 k v v' hv hv'
    rw [← (hu2.mono hle).functional h3]
    exact hu2
theorem callOf_sound {P : Program} {o : Oper} {ev ev' : Operand → Value} {g : FuncId} {args : List Value} (hs : callOf P o ev = some (g, args)) (hok : opOk o.op = true) {ρ : Ren} {B : Nat} {w0 w : World} {h : AHeap}
    (R : WRel ρ B w0 h w) (hev : ∀ x, opndOk x = true → VRel ρ (ev x) (ev' x)) : ∃ args', (∀ w, (execOp ev' o).run P w = .ok (.enter g args') w) ∧ LRel ρ args args'.toList := by
  unfold callOf at hs
  split at hs
  case h_2 => cases hs
  rename_i c hop
  unfold opOk at hok
  simp only [hop] at hok
  split at hs
  case h_2 => cases hs
  rename_i fo hf
  split at hs
  case h_2 => cases hs
  rename_i fid first captured hfv
  split at hs
  case isFalse => cases hs
  rename_i hcall
  simp at hs
  obtain ⟨rfl, rfl⟩ := hs
  simp only [Op.operands, Call.operands, hf, Array.all_append, Bool.and_eq_true] at hok
  have hv := hev fo (by simpa using hok.1)
  rw [hfv] at hv
  generalize hv' : ev' fo = v' at hv
  cases hv with
  | func fn hs1 hs2 hx hy =>
  rename_i first' captured'
  have ha := args_rel hev c.args.toList (by simpa using hok.2)
  refine ⟨first' ++ c.args.map ev' ++ captured', fun w => ?_, ?_⟩
  · unfold callable at hcall
    split at hcall
    case h_2 => cases hcall
    rename_i fn hfn
    simp only [Bool.and_eq_true, bne_iff_ne, ne_eq] at hcall
    unfold execOp
    simp only [hop]
    simp [resolve, hf, hv', Deferred.ofValue, invoke, callFunc, hfn, hcall.2]
    intro hh
    simp [hh] at hcall
  · have h1 : LRel ρ first.toList first'.toList := ARel.list ⟨hs1, hx⟩
    have h2 : LRel ρ captured.toList captured'.toList := ARel.list ⟨hs2, hy⟩
    have := h1.append (ha.append h2)
    simpa using this

theorem quiet_sound {P : Program} {n : Nat} {ops : Array Oper} (hok : ops.toList.all (operOk n) = true) {ρ : Ren} {B : Nat} {w0 : World} {h : AHeap} (hex : ∃ w, WRel ρ B w0 h w) {K : AFrame → Prop} {Q : Act → Prop}
    (hK : ∀ f a, FRel ρ n f a → K f → Q a) : ∀ (l : List Oper) (k : Nat), l = ops.toList.drop k → ∀ (f : AFrame) (a : Act), FRel ρ n f a → quietA P ops.toList h l K f → wpQuiet P ops (Cls ρ B w0 h) Q l a
  | [], k, hl, f, a, hf, hq => hK f a hf hq
  | o :: rest, k, hl, f, a, hf, hq => by
    have hk : ops.toList[k]? = some o := by
      have := congrArg (·[0]?) hl
      simpa using this.symm
    have hrest : rest = ops.toList.drop (k + 1) := by
      have := congrArg List.tail hl
      simpa [List.tail_drop] using this
    have hoo : operOk n o = true := (List.all_eq_true.1 hok) o (List.mem_of_getElem? hk)
    unfold operOk at hoo
    simp only [Bool.and_eq_true] at hoo
    obtain ⟨hd, hop⟩ := hoo
    unfold wpQuiet
    rw [wanted_eq hf]
    unfold quietA at hq
    obtain ⟨wx, Rx⟩ := hex
    split
    · rename_i hwant
      rw [if_pos hwant] at hq
      cases he : opQuiet P o f.eval h with
      | some v =>
        simp only [he] at hq
        obtain ⟨v', hr0, hv⟩ := opQuiet_val he hop Rx hf.eval
        refine ⟨v', fun w hw => ?_, quiet_sound hok ⟨wx, Rx⟩ hK rest (k + 1) hrest _ _ (hf.put hv o.dst hd) hq⟩
        obtain ⟨v2, hr, hv2⟩ := opQuiet_val he hop hw hf.eval
        unfold Oper.quietAt
        rw [hr]
        exact ⟨rfl, (hv.functional hv2).symm⟩
      | none =>
        simp only [he] at hq
        cases hc : callOf P o f.eval with
        | none => simp [hc] at hq
        | some p =>
          obtain ⟨g, args⟩ := p
          simp only [hc] at hq
          obtain ⟨r, hflat, hcalls, hq⟩ := hq
          obtain ⟨args', hr, ha⟩ := callOf_sound hc hop Rx hf.eval
          refine ⟨r, fun w hw => ?_, quiet_sound hok ⟨wx, Rx⟩ hK rest (k + 1) hrest _ _ (hf.put (flat.rel hflat ρ) o.dst hd) hq⟩
          unfold Oper.quietAt
          rw [hr w]
          refine ⟨rfl, (hcalls ρ B w0 w args' hw ha).mono fun e w' ⟨ρ', r1, r', h', he2, hv, hw', hl', hR⟩ => ?_⟩
          obtain ⟨rfl, hn, hsame⟩ := hR
          rw [hv.eq_of_flat hflat] at he2
          exact ⟨he2, hw.restrict hw' hl' hsame⟩
    · rename_i hwant
      rw [if_neg hwant] at hq
      exact quiet_sound hok ⟨wx, Rx⟩ hK rest (k + 1) hrest _ _ (hf.put (.tuple rfl (by simp)) o.dst hd) hq

theorem SWp.quiet {P : Program} {n id : Nat} {ops : Array Oper} (hm : P.follows .mixedOrders = true) (hB : Region.lexB .any ops = true) (hok : ops.toList.all (operOk n) = true) {Q : AExit → AFrame → AHeap → Prop} {f : AFrame} {h : AHeap}
    (hq : quietA P ops.toList h ops.toList (fun f => Q .normal f h) f) : SWp P n (.region id ops true) Q f h := by
  intro ρ B w0 a w hw hf
  refine wp_region_quiet (C := Cls ρ B w0 h) hm hB hw.drew ?_
  exact quiet_sound hok ⟨w, hw⟩ (fun f' a' hf' hQ w' hw' => ⟨ρ, .normal, f', h, trivial, hw', hf', Ren.le.refl ρ, hQ⟩) ops.toList 0 (by simp) f a hf hq
end Go.Proofs.Ytcnjnmgnhkjgfaa.Sim

namespace Go.Proofs.Ytcnjnmgnhkjgfaa.Sim
open Go
set_option linter.unusedVariables false

/-! ### Slices that came in: each is a view of its block -/
structure Came where
  b : Nat
  lo : Nat
  c : List Value

def cameHeap (L : List Came) : AHeap := { n := L.length, get := fun i => match L[i]? with | some a => .view a.lo a.c | none => .dead }
def cameRen (L : List Came) : Ren := fun i => (L[i]?).map fun a => (a.b, 0)

/-- What the world must hold of it. -/
def Came.ok (w : World) (a : Came) : Prop :=
  (∀ v ∈ a.c, flat v = true) ∧ ∃ arr e fz, w.heap[a.b]? = some (.cells arr e fz) ∧ a.lo + a.c.length ≤ arr.size ∧ (arr.toList.drop a.lo).take a.c.length = a.c

theorem LRel.flats {ρ : Ren} : ∀ {c : List Value}, (∀ v ∈ c, flat v = true) → LRel ρ c c
  | [], _ => .nil ρ
  | v :: c, h => .cons ((flat.rel (h v (by simp)) ρ)) (LRel.flats fun v hv => h v (by simp [hv]))

theorem came_rel {w : World} {L : List Came} (hL : ∀ a ∈ L, a.ok w) : HRel (cameRen L) w.heap.size (cameHeap L) w := by
  refine ⟨fun i hi => ?_, fun i j b c c' hw => ?_, fun i => ?_, Nat.le_refl _⟩
  · have hi' : L.length ≤ i := hi
    simp [cameRen, List.getElem?_eq_none hi']
  · exfalso
    simp only [cameHeap] at hw
    cases hq : L[i]? <;> simp [hq, AObj.wr] at hw
  · simp only [cameHeap]
    cases hq : L[i]? with
    | none => trivial
    | some a =>
      obtain ⟨hf, arr, e, fz, h1, h2, h3⟩ := hL a (List.mem_of_getElem? hq)
      exact ⟨a.b, 0, arr, e, fz, by simp [cameRen, hq], h1, h2, by rw [h3]; exact LRel.flats hf⟩

theorem came_arg {L : List Came} {i : Nat} {a : Came} (hq : L[i]? = some a) {len cap : Nat} (hl : len ≤ cap) (hc : cap < unk) :
    VRel (cameRen L) (.slice (some ⟨i, a.lo, none⟩) len cap) (.slice (some ⟨a.b, a.lo, none⟩) len cap) := by
  have h : cameRen L i = some (a.b, 0) := by simp [cameRen, hq]
  have hk : capOf 0 cap = cap := by simp [capOf, hc]
  have := VRel.slice h a.lo len cap (by rw [hk]; exact hl)
  rwa [hk] at this

theorem came_sl {L : List Came} {i : Nat} {a : Came} (hq : L[i]? = some a) {len cap : Nat} (hl : len ≤ a.c.length) :
    Sl (cameHeap L) 1 (.slice (some ⟨i, a.lo, none⟩) len cap) (a.c.take len) := by
  have hlt : i < L.length := (List.getElem?_eq_some_iff.1 hq).1
  refine .inr ⟨i, a.lo, len, cap, rfl, hlt, ?_⟩
  simp [cameHeap, hq, AObj.read, hl]

/-! ### What the statement's frame tells of a slice of integers -/
theorem rowAt_le {p : Program} {fits : TypeId → Bool} {d : Nat} {e : TypeId} {count off n : Nat} (h : rowAt p fits d e count off n = true) : off ≤ count * p.cellsOf e := by
  cases d with
  | zero => simp [rowAt] at h
  | succ d =>
    unfold rowAt at h
    by_cases hs : p.cellsOf e = 0
    · simp [hs] at h
    · have hdm := Nat.div_add_mod off (p.cellsOf e)
      have hml := Nat.mod_lt off (Nat.pos_of_ne_zero hs)
      simp only [hs, if_false, Bool.or_eq_true, Bool.and_eq_true, beq_iff_eq, decide_eq_true_eq] at h
      rw [Nat.mul_comm] at hdm
      rcases h with ⟨⟨hr, hi⟩, _⟩ | ⟨hi, _⟩
      · have := Nat.mul_le_mul_right (p.cellsOf e) (show off / p.cellsOf e ≤ count by omega)
        omega
      · have := Nat.mul_le_mul_right (p.cellsOf e) (show off / p.cellsOf e + 1 ≤ count by omega)
        rw [Nat.add_mul] at this
        omega
theorem liesAt_le {p : Program} : ∀ {d : Nat} {e : TypeId} {count off : Nat} {u : TypeId} {n : Nat}, liesAt p d e count off u n = true → off ≤ count * p.cellsOf e
  | 0, _, _, _, _, _, h => by simp [liesAt] at h
  | d + 1, e, count, off, u, n, h => by
    unfold liesAt at h
    rw [Bool.or_eq_true] at h
    rcases h with h | h
    · exact rowAt_le h
    · split at h
      · exact liesAt_le h
      · cases h

def SpotOk (w : World) (a : Option Addr) : Prop := ∀ x, a = some x → x.spot = none ∧ ∃ arr e fz, w.heap[x.block]? = some (.cells arr e fz) ∧ x.off ≤ arr.size
theorem spotOk {P : Program} {w : World} {r : Reach} {base : Nat} {t e : TypeId} {a : Option Addr} {len cap : Nat} (hu : P.underlying t = some (.slice e)) (h : Value.okWide P w r base t (.slice a len cap)) : SpotOk w a := by
  rintro x rfl
  simp only [Value.okWide, hu, Cell.okWide, Cell.ok] at h
  obtain ⟨_, _, _, hsp, row, cells, hsh, hl⟩ := h
  refine ⟨hsp, ?_⟩
  unfold World.shape? at hsh
  split at hsh
  · rename_i c el fz hq
    simp at hsh
    obtain ⟨rfl, rfl⟩ := hsh
    exact ⟨c, el, fz, hq, Nat.le_trans (liesAt_le hl) (Nat.div_mul_le_self _ _)⟩
  · cases hsh

def IsRow (k : IntKind) (w : World) (a : Option Addr) (len cap : Nat) (zs : List Int) : Prop :=
  (a = none ∧ len = 0 ∧ cap = 0 ∧ zs = []) ∨
  ∃ x, a = some x ∧ len ≤ cap ∧ cap ≤ maxLen ∧ zs.length = cap ∧ (∀ i, i < zs.length → w.cell? (x.add i) = some (.int k (zs.getD i 0))) ∧ ∀ n ∈ zs, (Lit.int k n).wf = true

/-- A slice that came in: nil, or a view. -/
theorem came_of {k : IntKind} {w : World} {a : Option Addr} {len cap : Nat} {zs : List Int} (hr : IsRow k w a len cap zs) (hs : SpotOk w a) :
    (a = none ∧ len = 0 ∧ cap = 0 ∧ zs = []) ∨ ∃ b off, a = some ⟨b, off, none⟩ ∧ (⟨b, off, zs.map fun z => .int k z⟩ : Came).ok w ∧ len ≤ zs.length ∧ zs.length = cap ∧ cap < unk ∧ ∀ n ∈ zs, (Lit.int k n).wf = true := by
  rcases hr with hr | ⟨x, rfl, hl, hm, hz, hc, hw⟩
  · exact .inl hr
  · right
    obtain ⟨hsp, arr, e, fz, hb, ho⟩ := hs x rfl
    obtain ⟨b, off, sp⟩ := x
    obtain rfl : sp = none := hsp
    have hcell : ∀ i, i < zs.length → arr[off + i]? = some (.int k (zs.getD i 0)) := by
      intro i hi
      have := hc i hi
      unfold World.cell? Addr.add at this
      by_cases h0 : i = 0
      · subst h0
        simpa [hb] using this
      · simpa [h0, hb] using this
    have hsz : off + zs.length ≤ arr.size := by
      rcases Nat.eq_zero_or_pos zs.length with h0 | h0
      · rw [h0]; exact ho
      · have h1 := hcell (zs.length - 1) (by omega)
        have h2 : off + (zs.length - 1) < arr.size := by
          rcases Nat.lt_or_ge (off + (zs.length - 1)) arr.size with h | h
          · exact h
          · rw [Array.getElem?_eq_none h] at h1
            cases h1
        omega
    refine ⟨b, off, rfl, ⟨fun v hv => ?_, arr, e, fz, hb, by simpa using hsz, ?_⟩, by omega, hz, ?_, hw⟩
    · simp only [List.mem_map] at hv
      obtain ⟨z, _, rfl⟩ := hv
      rfl
    · apply List.ext_getElem?
      intro i
      by_cases hi : i < zs.length
      · have h1 := hcell i hi
        rw [List.getElem?_take, if_pos (by simpa using hi), List.getElem?_drop, Array.getElem?_toList, h1]
        simp [List.getElem?_eq_getElem hi]
      · rw [List.getElem?_eq_none (by simp; omega), List.getElem?_eq_none (by simpa using hi)]
    · unfold unk
      have : maxLen = 2 ^ 63 - 1 := rfl
      omega
end Go.Proofs.Ytcnjnmgnhkjgfaa.Sim
