/-
  Abstract values and an abstract heap for Go code, related to the world; the operations on them, and the rules of code. Conditions: none.
-/
import Derived.WalkKit
import Derived.Below
import Derived.Laws.AppendOwn
import Derived.Laws.CopyRow
import Derived.Laws.Rows
import Derived.Deep.MidRow
import Derived.Deep.AppendSrc
import Derived.Laws.MakeOwn
import Derived.Lib.AppendZerosOnto
import Derived.Laws.BytesArg
import Derived.Laws.Tables
import Derived.Lib.Overlaps
import Derived.Laws.LoneSync
import Derived.LoopN
import Derived.ScopeJumps
import Derived.Deep.Quiet
import Derived.OrdersIn
import Derived.RangeFuncIn
import Derived.RangeFuncLeaves
import Derived.RangeFuncRecord
set_option linter.unusedVariables false
set_option linter.unusedSimpArgs false
namespace Go.Proofs.YtfcjehlhoebmnaaGreatDoor.Ab
set_option linter.unusedVariables false
structure Bel (B : Nat) (w w' : World) : Prop where
 os : w'.os = w.os
 tape : w'.tape = w.tape
 output : w'.output = w.output
 size : w.heap.size ≤ w'.heap.size
 block : ∀ k, k < B → w'.heap[k]? = w.heap[k]?
 drawn : w.drawn ≤ w'.drawn
theorem Bel.below {B : Nat} {w w' : World} (h : Bel B w w') : RowKit.Below B w w' := ⟨h.os, h.tape, h.output, h.size, h.block⟩
theorem Bel.refl (B : Nat) (w : World) : Bel B w w := ⟨rfl, rfl, rfl, Nat.le_refl _, fun _ _ => rfl, Nat.le_refl _⟩
theorem Bel.trans {B : Nat} {a b c : World} (h : Bel B a b) (k : Bel B b c) : Bel B a c :=
 ⟨k.os.trans h.os, k.tape.trans h.tape, k.output.trans h.output, Nat.le_trans h.size k.size, fun i hi => (k.block i hi).trans (h.block i hi), Nat.le_trans h.drawn k.drawn⟩
theorem Bel.drew {B : Nat} {a w : World} (h : Bel B a w) : Bel B a w.drew := ⟨h.os, h.tape, h.output, h.size, h.block, Nat.le_trans h.drawn (Nat.le_succ _)⟩
theorem Bel.alloc {B : Nat} {a w : World} (h : Bel B a w) (hB : B ≤ w.heap.size) (o : Obj) : Bel B a (w.alloc o) :=
 h.trans ⟨rfl, rfl, rfl, by simp, fun k hk => RowKit.Below.heap_alloc _ _ _ (by omega), Nat.le_refl _⟩
inductive V where
 | top
 | bool (b : Bool)
 | int (k : IntKind) (n : Int)
 | float (k : FloatKind) (b : Nat)
 | complex (k : FloatKind) (a b : Nat)
 | string (s : ByteArray)
 | nilFunc
 | nilIface
 | pnil
 | snil
 | mnil
 | z0
 | e0
 | ptr (i o : Nat)
 | sl (i o len cap : Nat)
 | imm (n : Nat) (cs : List V)
 | at (cs : List V)
 | map (i : Nat)
 | func (fn : Fn) (first captured : List V)
 | iface (t : TypeId) (v : V)
 | agg (cs : List V)
 | tuple (vs : List V)
 deriving Inhabited
def isYl : Fn → Bool
 | .yield _ => true
 | _ => false
def absF : Value → V
 | .bool b => .bool b
 | .int k n => .int k n
 | .float k b => .float k b
 | .complex k a b => .complex k a b
 | .string s => .string s
 | .nilFunc => .nilFunc
 | .nilIface => .nilIface
 | .pointer none => .pnil
 | .slice none 0 0 => .snil
 | .map none => .mnil
 | .func fn xs ys => if (xs.isEmpty && ys.isEmpty) && !isYl fn then .func fn [] [] else .top
 | .tuple xs => if xs.isEmpty then .tuple [] else .top
 | _ => .top
def absV : Value → V
 | .agg xs => .agg (xs.toList.map absF)
 | .iface t v => .iface t (absF v)
 | v => absF v
def loopO (fn : FuncId) (p : Tmp) (assign body : Code) (D : Nat) (st : LoopState) : List Value → Obj := fun arr => .loop { state := st, pending := none, fn, tmps := arr.toArray, params := #[p], assign, body, defers := D }
inductive PinK where
 | dfd
 | loop (j : Nat) (p : Tmp) (assign body : Code) (busy : Bool)
inductive AObj where
 | dead
 | cells (c : List V) (elem : TypeId) (ex : Option Nat)
 | map (es : List (Nat × V × V)) (clock : Nat)
 | iter (m : Nat) (since : Nat) (seen : List Nat) (stepped : Nat)
 | pin (k : PinK) (vs : List V)
structure AHeap where
 n : Nat
 get : Nat → AObj
 glob : Nat → Option (List V)
def AHeap.set (h : AHeap) (i : Nat) (o : AObj) : AHeap := { h with get := fun j => if j = i then o else h.get j }
def AHeap.push (h : AHeap) (o : AObj) : AHeap := { h with n := h.n + 1, get := fun j => if j = h.n then o else h.get j }
def unk : Nat := 2 ^ 64
def capOf (c cap : Nat) : Nat := if cap < unk then cap else c - (cap - unk)
structure Ren where
 ren : Nat → Option (Nat × Nat)
 frz : Nat → Option (Array Value)
 dfr : List Deferred := []
structure Ren.le (ρ ρ' : Ren) : Prop where
 ren : ∀ i x, ρ.ren i = some x → ρ'.ren i = some x
 frz : ∀ i x, ρ.frz i = some x → ρ'.frz i = some x
 dfr : ρ'.dfr = ρ.dfr
theorem Ren.le.refl (ρ : Ren) : ρ.le ρ := ⟨fun _ _ h => h, fun _ _ h => h, rfl⟩
theorem Ren.le.trans {a b c : Ren} (h : a.le b) (k : b.le c) : a.le c := ⟨fun i x hx => k.ren i x (h.ren i x hx), fun i x hx => k.frz i x (h.frz i x hx), k.dfr.trans h.dfr⟩
inductive VRel (ρ : Ren) : V → Value → Prop
 | top (v) : VRel ρ .top v
 | bool (b) : VRel ρ (.bool b) (.bool b)
 | int (k n) : VRel ρ (.int k n) (.int k n)
 | float (k b) : VRel ρ (.float k b) (.float k b)
 | complex (k a b) : VRel ρ (.complex k a b) (.complex k a b)
 | string (s) : VRel ρ (.string s) (.string s)
 | nilFunc : VRel ρ .nilFunc .nilFunc
 | nilIface : VRel ρ .nilIface .nilIface
 | pnil : VRel ρ .pnil (.pointer none)
 | snil : VRel ρ .snil (.slice none 0 0)
 | mnil : VRel ρ .mnil (.map none)
 | z0 (a : Option Addr) (ha : True) : VRel ρ .z0 (.slice a 0 0)
 | e0 (a : Addr) (c : Nat) : VRel ρ .e0 (.slice (some a) 0 c)
 | ptr {i b c : Nat} (h : ρ.ren i = some (b, c)) (o : Nat) : VRel ρ (.ptr i o) (.pointer (some ⟨b, o, none⟩))
 | sl {i b c : Nat} (h : ρ.ren i = some (b, c)) (o len cap : Nat) (hl : len ≤ capOf c cap) :
   VRel ρ (.sl i o len cap) (.slice (some ⟨b, o, none⟩) len (capOf c cap))
 | imm {b : Nat} (o n cap : Nat) {arr : Array Value} {cs : List V} (hb : ρ.frz b = some arr) (hn : n ≤ cap) (ho : o + cs.length ≤ arr.size)
   (hx : ∀ (k : Nat) (v : V) (v' : Value), cs[k]? = some v → arr[o + k]? = some v' → VRel ρ v v') : VRel ρ (.imm n cs) (.slice (some ⟨b, o, none⟩) n cap)
 | immZ (a : Option Addr) (c : Nat) (ha : a = none → c = 0) : VRel ρ (.imm 0 []) (.slice a 0 c)
 | at {b : Nat} (o : Nat) {arr : Array Value} {cs : List V} (hb : ρ.frz b = some arr) (ho : o + cs.length ≤ arr.size)
   (hx : ∀ (k : Nat) (v : V) (v' : Value), cs[k]? = some v → arr[o + k]? = some v' → VRel ρ v v') : VRel ρ (.at cs) (.pointer (some ⟨b, o, none⟩))
 | map {i b c : Nat} (h : ρ.ren i = some (b, c)) : VRel ρ (.map i) (.map (some b))
 | yl {i b c : Nat} (h : ρ.ren i = some (b, c)) : VRel ρ (.func (.yield i) [] []) (.func (.yield b) #[] #[])
 | func (fn : Fn) (hy0 : isYl fn = false) {xs ys : List V} {xs' ys' : Array Value} (hs : xs.length = xs'.size) (ht : ys.length = ys'.size)
   (hx : ∀ (k : Nat) (v : V) (v' : Value), xs[k]? = some v → xs'[k]? = some v' → VRel ρ v v') (hy : ∀ (k : Nat) (v : V) (v' : Value), ys[k]? = some v → ys'[k]? = some v' → VRel ρ v v') :
   VRel ρ (.func fn xs ys) (.func fn xs' ys')
 | iface (t : TypeId) {v : V} {v' : Value} (h : VRel ρ v v') : VRel ρ (.iface t v) (.iface t v')
 | agg {xs : List V} {xs' : Array Value} (hs : xs.length = xs'.size) (hx : ∀ (k : Nat) (v : V) (v' : Value), xs[k]? = some v → xs'[k]? = some v' → VRel ρ v v') : VRel ρ (.agg xs) (.agg xs')
 | tuple {xs : List V} {xs' : Array Value} (hs : xs.length = xs'.size) (hx : ∀ (k : Nat) (v : V) (v' : Value), xs[k]? = some v → xs'[k]? = some v' → VRel ρ v v') : VRel ρ (.tuple xs) (.tuple xs')
theorem VRel.mono0 {ρ ρ' : Ren} (hren : ∀ i x, ρ.ren i = some x → ρ'.ren i = some x) (hfrz : ∀ i x, ρ.frz i = some x → ρ'.frz i = some x) {v : V} {v' : Value} (h : VRel ρ v v') : VRel ρ' v v' := by
 induction h with
 | top v => exact .top v
 | bool b => exact .bool b
 | int k n => exact .int k n
 | float k b => exact .float k b
 | complex k a b => exact .complex k a b
 | string s => exact .string s
 | nilFunc => exact .nilFunc
 | nilIface => exact .nilIface
 | pnil => exact .pnil
 | snil => exact .snil
 | mnil => exact .mnil
 | z0 a ha => exact .z0 a ha
 | e0 a c => exact .e0 a c
 | ptr h o => exact .ptr (hren _ _ h) o
 | sl h o len cap hl => exact .sl (hren _ _ h) o len cap hl
 | imm o n cap hb hn ho _ ih => exact .imm o n cap (hfrz _ _ hb) hn ho ih
 | immZ a c ha => exact .immZ a c ha
 | «at» o hb ho _ ih => exact .at o (hfrz _ _ hb) ho ih
 | map h => exact .map (hren _ _ h)
 | yl h => exact .yl (hren _ _ h)
 | func fn h0 hs ht _ _ ix iy => exact .func fn h0 hs ht ix iy
 | iface t _ ih => exact .iface t ih
 | agg hs _ ih => exact .agg hs ih
 | tuple hs _ ih => exact .tuple hs ih
theorem VRel.mono {ρ ρ' : Ren} (hρ : ρ.le ρ') {v : V} {v' : Value} (h : VRel ρ v v') : VRel ρ' v v' := h.mono0 hρ.ren hρ.frz
theorem VRel.dfr {ρ : Ren} {v : V} {v' : Value} (h : VRel ρ v v') (d : List Deferred) : VRel { ρ with dfr := d } v v' := VRel.mono0 (ρ := ρ) (ρ' := { ρ with dfr := d }) (fun _ _ h => h) (fun _ _ h => h) h
def LRel (ρ : Ren) (l : List V) (l' : List Value) : Prop := l.length = l'.length ∧ ∀ (k : Nat) (v : V) (v' : Value), l[k]? = some v → l'[k]? = some v' → VRel ρ v v'
section
variable {ρ ρ' : Ren} {l m : List V} {l' m' : List Value}
theorem LRel.mono (hρ : ρ.le ρ') (h : LRel ρ l l') : LRel ρ' l l' :=
 ⟨h.1, fun k v v' a b => (h.2 k v v' a b).mono hρ⟩
theorem LRel.nil (ρ : Ren) : LRel ρ [] [] := ⟨rfl, by simp⟩
theorem LRel.cons {v : V} {v' : Value} (h : VRel ρ v v') (hl : LRel ρ l l') : LRel ρ (v :: l) (v' :: l') := by
 refine ⟨by simp [hl.1], fun k a b ha hb => ?_⟩
 cases k with
 | zero => simp at ha hb; subst ha; subst hb; exact h
 | succ k => exact hl.2 k a b (by simpa using ha) (by simpa using hb)
theorem LRel.uncons {v : V} (h : LRel ρ (v :: l) l') : ∃ v' t', l' = v' :: t' ∧ VRel ρ v v' ∧ LRel ρ l t' := by
 cases l' with
 | nil => have := h.1; simp at this
 | cons v' t' => exact ⟨v', t', rfl, h.2 0 v v' rfl rfl, ⟨by simpa using h.1, fun k a b ha hb => h.2 (k + 1) a b (by simpa using ha) (by simpa using hb)⟩⟩
theorem LRel.eq_nil (h : LRel ρ [] l') : l' = [] := by
 have := h.1; simp at this; exact List.eq_nil_of_length_eq_zero this.symm
theorem LRel.get (h : LRel ρ l l') {k : Nat} {v : V} (hv : l[k]? = some v) : ∃ v', l'[k]? = some v' ∧ VRel ρ v v' := by
 have hk : k < l.length := (List.getElem?_eq_some_iff.1 hv).1
 have hk' : k < l'.length := by rw [← h.1]; exact hk
 exact ⟨l'[k], List.getElem?_eq_getElem hk', h.2 k v _ hv (List.getElem?_eq_getElem hk')⟩
theorem LRel.take (h : LRel ρ l l') (n : Nat) : LRel ρ (l.take n) (l'.take n) := by
 refine ⟨by simp [h.1], fun k a b ha hb => ?_⟩
 rw [List.getElem?_take] at ha hb
 split at ha <;> simp_all
 exact h.2 k a b ha hb
theorem LRel.drop (h : LRel ρ l l') (n : Nat) : LRel ρ (l.drop n) (l'.drop n) := by
 refine ⟨by simp [h.1], fun k a b ha hb => ?_⟩
 rw [List.getElem?_drop] at ha hb
 exact h.2 _ a b ha hb
theorem LRel.append (h : LRel ρ l l') (g : LRel ρ m m') : LRel ρ (l ++ m) (l' ++ m') := by
 refine ⟨by simp [h.1, g.1], fun k a b ha hb => ?_⟩
 by_cases hk : k < l.length
 ·rw [List.getElem?_append_left hk] at ha
  rw [List.getElem?_append_left (by rw [← h.1]; exact hk)] at hb
  exact h.2 k a b ha hb
 ·rw [List.getElem?_append_right (by omega)] at ha
  rw [List.getElem?_append_right (by rw [← h.1]; omega)] at hb
  rw [← h.1] at hb
  exact g.2 _ a b ha hb
theorem LRel.of_map {f : Value → V} (hf : ∀ v, VRel ρ (f v) v) (l : List Value) : LRel ρ (l.map f) l := by
 refine ⟨by simp, fun k a b ha hb => ?_⟩
 simp [hb] at ha
 subst ha
 exact hf b
end
def ARel (ρ : Ren) (xs : List V) (xs' : Array Value) : Prop := xs.length = xs'.size ∧ ∀ (k : Nat) (v : V) (v' : Value), xs[k]? = some v → xs'[k]? = some v' → VRel ρ v v'
theorem ARel.list {ρ : Ren} {xs : List V} {xs' : Array Value} (h : ARel ρ xs xs') : LRel ρ xs xs'.toList := ⟨by simpa using h.1, by simpa using h.2⟩
theorem LRel.arr {ρ : Ren} {xs : List V} {xs' : List Value} (h : LRel ρ xs xs') : ARel ρ xs xs'.toArray := ⟨by simpa using h.1, by simpa using h.2⟩
theorem LRel.arr' {ρ : Ren} {xs : List V} {xs' : Array Value} (h : LRel ρ xs xs'.toList) : ARel ρ xs xs' := ⟨by simpa using h.1, by simpa using h.2⟩
theorem ARel.agg {ρ : Ren} {xs : List V} {xs' : Array Value} (h : ARel ρ xs xs') : VRel ρ (.agg xs) (.agg xs') := .agg h.1 h.2
theorem ARel.tuple {ρ : Ren} {xs : List V} {xs' : Array Value} (h : ARel ρ xs xs') : VRel ρ (.tuple xs) (.tuple xs') := .tuple h.1 h.2
theorem ARel.mono {ρ ρ' : Ren} (hρ : ρ.le ρ') {l : List V} {l' : Array Value} (h : ARel ρ l l') : ARel ρ' l l' := ⟨h.1, fun k v v' a b => (h.2 k v v' a b).mono hρ⟩
theorem absF_rel (ρ : Ren) (v : Value) : VRel ρ (absF v) v := by
 unfold absF
 split
 ·exact .bool _
 ·exact .int _ _
 ·exact .float _ _
 ·exact .complex _ _ _
 ·exact .string _
 ·exact .nilFunc
 ·exact .nilIface
 ·exact .pnil
 ·exact .snil
 ·exact .mnil
 ·rename_i fn xs ys
  split
  ·rename_i h
   simp at h
   obtain ⟨⟨rfl, rfl⟩, h0⟩ := h
   exact .func fn h0 rfl rfl (by simp) (by simp)
  ·exact .top _
 ·rename_i xs
  split
  ·rename_i h
   simp at h
   subst h
   exact .tuple rfl (by simp)
  ·exact .top _
 ·exact .top _
theorem absV_rel (ρ : Ren) (v : Value) : VRel ρ (absV v) v := by
 unfold absV
 split
 ·exact (LRel.of_map (absF_rel ρ) _).arr'.agg
 ·exact .iface _ (absF_rel ρ _)
 ·exact absF_rel ρ v
def flatV : V → Option Value
 | .bool b => some (.bool b)
 | .int k n => some (.int k n)
 | .float k b => some (.float k b)
 | .complex k a b => some (.complex k a b)
 | .string s => some (.string s)
 | .nilFunc => some .nilFunc
 | .nilIface => some .nilIface
 | .pnil => some (.pointer none)
 | .snil => some (.slice none 0 0)
 | .mnil => some (.map none)
 | .tuple [] => some (.tuple #[])
 | _ => none
def flatL : List V → Option (List Value)
 | [] => some []
 | v :: r => match flatV v, flatL r with
  | some a, some l => some (a :: l)
  | _, _ => none
def plainV : V → Option Value
 | .agg xs => (flatL xs).map fun l => .agg l.toArray
 | .iface t v => (flatV v).map fun a => .iface t a
 | v => flatV v
theorem flatV_eq {ρ : Ren} {v : V} {v' a : Value} (h : VRel ρ v v') (hf : flatV v = some a) : v' = a := by
 cases h <;> simp [flatV] at hf <;> try exact hf
 rename_i xs xs' hs hx
 cases xs with
 | nil => simp at hf hs; rw [← hf, Array.eq_empty_of_size_eq_zero hs.symm]
 | cons x t => simp at hf
theorem flatL_eq {ρ : Ren} : ∀ {l : List V} {l' a : List Value}, LRel ρ l l' → flatL l = some a → l' = a
 | [], l', a, h, hf => by simp [flatL] at hf; rw [hf]; exact h.eq_nil
 | v :: l, l', a, h, hf => by
  obtain ⟨v', t', rfl, hv, ht⟩ := h.uncons
  unfold flatL at hf
  split at hf
  ·rename_i b c hb hc
   simp at hf
   rw [← hf, flatV_eq hv hb, flatL_eq ht hc]
  ·cases hf
theorem plainV_eq {ρ : Ren} {v : V} {v' a : Value} (h : VRel ρ v v') (hf : plainV v = some a) : v' = a := by
 unfold plainV at hf
 split at hf
 ·cases h with
  | agg hs hx =>
   rename_i xs xs'
   cases hl : flatL xs with
   | none => simp [hl] at hf
   | some l =>
    simp [hl] at hf
    have := flatL_eq (ARel.list ⟨hs, hx⟩) hl
    rw [← hf, ← this]
 ·cases h with
  | iface t h =>
   rename_i u u'
   cases hu : flatV u with
   | none => simp [hu] at hf
   | some b => simp [hu] at hf; rw [← hf, flatV_eq h hu]
 ·exact flatV_eq h hf
def XRel (ex : Option Nat) (cp size len : Nat) : Prop := match ex with | none => size = len | some s => size = cp * s ∧ cp < 2 ^ 63
def MRel (ρ : Ren) (es : List (Nat × V × V)) (arr : Array MapEntry) : Prop :=
 es.length = arr.size ∧ ∀ (k : Nat) (e : Nat × V × V) (e' : MapEntry), es[k]? = some e → arr[k]? = some e' → e.1 = e'.born ∧ VRel ρ e.2.1 e'.key ∧ VRel ρ e.2.2 e'.val
def PinAt (ρ : Ren) (w : World) (b : Nat) (arr : List Value) : PinK → Prop
 | .dfd => w.heap[b]? = some (.deferred (some []))
 | .loop j p a c busy => ∃ D cD q, ρ.ren j = some (D, cD) ∧ w.heap[b]? = some (loopO q p a c D (if busy then .busy else .ready) arr)
def ORel (ρ : Ren) (B : Nat) (w : World) (i : Nat) : AObj → Prop
 | .dead => True
 | .cells c e ex => ∃ b cp arr, ρ.ren i = some (b, cp) ∧ ρ.frz b = none ∧ B ≤ b ∧ w.heap[b]? = some (.cells arr e (0, 0)) ∧ c.length ≤ arr.size ∧ LRel ρ c (arr.toList.take c.length) ∧
   XRel ex cp arr.size c.length
 | .map es clock => ∃ b cp arr, ρ.ren i = some (b, cp) ∧ ρ.frz b = none ∧ B ≤ b ∧ w.heap[b]? = some (.map arr clock) ∧ MRel ρ es arr
 | .iter m since seen stepped => ∃ b cp bm cm, ρ.ren i = some (b, cp) ∧ ρ.frz b = none ∧ B ≤ b ∧ ρ.ren m = some (bm, cm) ∧ w.heap[b]? = some (.mapIter (some bm) since seen.toArray stepped)
 | .pin k vs => ∃ b cp arr, ρ.ren i = some (b, cp) ∧ ρ.frz b = none ∧ B ≤ b ∧ PinAt ρ w b arr k ∧ LRel ρ vs arr
structure HRel (ρ : Ren) (B : Nat) (h : AHeap) (w : World) : Prop where
 dom : ∀ i, h.n ≤ i → ρ.ren i = none
 inj : ∀ i j b c c', h.get i ≠ .dead → h.get j ≠ .dead → ρ.ren i = some (b, c) → ρ.ren j = some (b, c') → i = j
 obj : ∀ i, ORel ρ B w i (h.get i)
 frz : ∀ b arr, ρ.frz b = some arr → ∃ e fz, w.heap[b]? = some (.cells arr e fz)
 glob : ∀ g cs, h.glob g = some cs → ∃ arr, ρ.frz g = some arr ∧ ARel ρ cs arr
 base : B ≤ w.heap.size
abbrev AFrame := Nat → V
def AFrame.put (f : AFrame) (d : Option Tmp) (v : V) : AFrame :=
 match d with
 | some d => fun t => if t = d then v else f t
 | none => f
def AFrame.eval (f : AFrame) (h : AHeap) : Operand → V
 | .tmp t => f t
 | .const v => absV v
 | .global g => match h.glob g with | some cs => .at cs | none => .top
 | .func fid => .func (.func fid) [] []
structure FRel (ρ : Ren) (n : Nat) (f : AFrame) (a : Act) : Prop where
 tmps : ∀ t, VRel ρ (f t) (a.tmps.getD t undef)
 size : a.tmps.size = n
 defers : a.defers = ρ.dfr
theorem FRel.mono {ρ ρ' : Ren} (hρ : ρ.le ρ') {n : Nat} {f : AFrame} {a : Act} (h : FRel ρ n f a) : FRel ρ' n f a := ⟨fun t => (h.tmps t).mono hρ, h.size, h.defers.trans hρ.dfr.symm⟩
def dstOk (n : Nat) (d : Option Tmp) : Bool := match d with | some t => decide (t < n) | none => true
theorem FRel.put {ρ : Ren} {n : Nat} {f : AFrame} {a : Act} (h : FRel ρ n f a) {v : V} {v' : Value} (hv : VRel ρ v v') (d : Option Tmp) (hd : dstOk n d = true) :
  FRel ρ n (f.put d v) (a.put d v') := by
 cases d with
 | none => exact h
 | some d =>
  have hd : d < n := by simpa [dstOk] using hd
  refine ⟨fun t => ?_, by simp [Act.put, h.size], h.defers⟩
  simp only [Act.put, AFrame.put]
  by_cases ht : t = d
  ·subst ht
   simp [h.size, hd, hv]
  ·have := h.tmps t
   simp [ht] at this ⊢
   rw [Array.getElem?_setIfInBounds_ne (by omega)]
   exact this
theorem HRel.gl {ρ : Ren} {B : Nat} {h : AHeap} {w : World} (H : HRel ρ B h w) (g : Nat) : VRel ρ (match h.glob g with | some cs => .at cs | none => .top) (.pointer (some ⟨g, 0, none⟩)) := by
 cases hg : h.glob g with
 | none => exact .top _
 | some cs =>
  obtain ⟨arr, hf, hr⟩ := H.glob g cs hg
  exact .at 0 hf (by simp [hr.1]) (by simpa using hr.2)
theorem FRel.eval {ρ : Ren} {n B : Nat} {f : AFrame} {a : Act} {h : AHeap} {w : World} (hf : FRel ρ n f a) (H : HRel ρ B h w) (x : Operand) : VRel ρ (f.eval h x) (a.eval x) := by
 cases x with
 | tmp t => exact hf.tmps t
 | const v => exact absV_rel ρ v
 | global g => exact H.gl g
 | func fid => exact .func _ rfl rfl rfl (by simp) (by simp)
end Go.Proofs.YtfcjehlhoebmnaaGreatDoor.Ab
namespace Go.Proofs.YtfcjehlhoebmnaaGreatDoor.Ab
open Go Go.RowKit
set_option linter.unusedVariables false
structure WRel (ρ : Ren) (B : Nat) (w0 : World) (h : AHeap) (w : World) : Prop where
 heap : HRel ρ B h w
 below : Bel B w0 w
def sizeT (P : Program) (t : TypeId) : Option Nat := (P.info? t).map (·.size)
def bytesT (P : Program) (t : TypeId) : Option Nat := (P.info? t).map (·.bytes)
def zeroT (P : Program) (t : TypeId) : Option Value := (P.info? t).bind (·.zero)
def rowT (P : Program) (t : TypeId) : Option Bool := (P.underlying t).map (·.isRow)
def elemT (P : Program) (t : TypeId) : Option TypeId := match P.underlying t with | some (.slice e) => some e | _ => none
theorem HRel.lt {ρ : Ren} {B : Nat} {h : AHeap} {w : World} (H : HRel ρ B h w) {i b cp : Nat} (hi : ρ.ren i = some (b, cp)) : i < h.n := by
 apply Nat.lt_of_not_le
 intro hle
 rw [H.dom i hle] at hi
 cases hi
theorem HRel.live {ρ : Ren} {B : Nat} {h : AHeap} {w : World} (H : HRel ρ B h w) {i : Nat} (hi : h.get i ≠ .dead) :
  ∃ b cp, ρ.ren i = some (b, cp) ∧ b < w.heap.size ∧ i < h.n ∧ ρ.frz b = none ∧ B ≤ b := by
 have := H.obj i
 cases hg : h.get i with
 | dead => exact absurd hg hi
 | cells c e ex =>
  rw [hg] at this
  obtain ⟨b, cp, arr, hr, hf, hB, hw, _⟩ := this
  exact ⟨b, cp, hr, (Array.getElem?_eq_some_iff.1 hw).1, H.lt hr, hf, hB⟩
 | map es cl =>
  rw [hg] at this
  obtain ⟨b, cp, arr, hr, hf, hB, hw, _⟩ := this
  exact ⟨b, cp, hr, (Array.getElem?_eq_some_iff.1 hw).1, H.lt hr, hf, hB⟩
 | iter m s l st =>
  rw [hg] at this
  obtain ⟨b, cp, bm, cm, hr, hf, hB, hm, hw⟩ := this
  exact ⟨b, cp, hr, (Array.getElem?_eq_some_iff.1 hw).1, H.lt hr, hf, hB⟩
 | pin k vs =>
  rw [hg] at this
  obtain ⟨b, cp, arr, hr, hf, hB, hw, hl⟩ := this
  refine ⟨b, cp, hr, ?_, H.lt hr, hf, hB⟩
  cases k with
  | dfd => exact (Array.getElem?_eq_some_iff.1 hw).1
  | loop j p a c y => obtain ⟨_, _, _, _, h2⟩ := hw; exact (Array.getElem?_eq_some_iff.1 h2).1
theorem MRel.mono {ρ ρ' : Ren} (hρ : ρ.le ρ') {es : List (Nat × V × V)} {arr : Array MapEntry} (h : MRel ρ es arr) : MRel ρ' es arr :=
 ⟨h.1, fun k e e' a b => let ⟨x, y, z⟩ := h.2 k e e' a b; ⟨x, y.mono hρ, z.mono hρ⟩⟩
theorem ORel.keep {ρ ρ' : Ren} (hρ : ρ.le ρ') {B : Nat} {w w' : World} {i : Nat} {o : AObj} (h : ORel ρ B w i o)
  (hk : ∀ b c, ρ.ren i = some (b, c) → w'.heap[b]? = w.heap[b]? ∧ (ρ.frz b = none → ρ'.frz b = none)) : ORel ρ' B w' i o := by
 cases o with
 | dead => trivial
 | cells c e ex =>
  obtain ⟨b, cp, arr, hr, hf, hB, hw, hc, hl, hx⟩ := h
  exact ⟨b, cp, arr, hρ.ren _ _ hr, (hk b cp hr).2 hf, hB, (hk b cp hr).1.trans hw, hc, hl.mono hρ, hx⟩
 | map es cl =>
  obtain ⟨b, cp, arr, hr, hf, hB, hw, hm⟩ := h
  exact ⟨b, cp, arr, hρ.ren _ _ hr, (hk b cp hr).2 hf, hB, (hk b cp hr).1.trans hw, hm.mono hρ⟩
 | iter m s l st =>
  obtain ⟨b, cp, bm, cm, hr, hf, hB, hm, hw⟩ := h
  exact ⟨b, cp, bm, cm, hρ.ren _ _ hr, (hk b cp hr).2 hf, hB, hρ.ren _ _ hm, (hk b cp hr).1.trans hw⟩
 | pin k vs =>
  obtain ⟨b, cp, arr, hr, hf, hB, hw, hl⟩ := h
  refine ⟨b, cp, arr, hρ.ren _ _ hr, (hk b cp hr).2 hf, hB, ?_, hl.mono hρ⟩
  cases k with
  | dfd => exact (hk b cp hr).1.trans hw
  | loop j p a c y => obtain ⟨D, cD, q, h1, h2⟩ := hw; exact ⟨D, cD, q, hρ.ren _ _ h1, (hk b cp hr).1.trans h2⟩
def Ren.add (ρ : Ren) (i b cp : Nat) : Ren := { ρ with ren := fun j => if j = i then some (b, cp) else ρ.ren j }
theorem Ren.le_add {ρ : Ren} {i : Nat} (hi : ρ.ren i = none) (b cp : Nat) : ρ.le (ρ.add i b cp) := by
 refine ⟨fun j x hj => ?_, fun _ _ h => h, rfl⟩
 simp only [Ren.add]
 by_cases hij : j = i
 ·subst hij; rw [hi] at hj; cases hj
 ·simp [hij, hj]
theorem Ren.add_new {ρ : Ren} {i b cp : Nat} : (ρ.add i b cp).ren i = some (b, cp) := by simp [Ren.add]
theorem Ren.add_frz {ρ : Ren} {i b cp : Nat} : (ρ.add i b cp).frz = ρ.frz := rfl
theorem WRel.pushO {ρ : Ren} {B : Nat} {w0 : World} {h : AHeap} {w w' : World} (R : WRel ρ B w0 h w) {o : AObj} (cp : Nat)
  (hsz : w.heap.size < w'.heap.size) (hold : ∀ k, k < w.heap.size → w'.heap[k]? = w.heap[k]?) (hb : Bel B w w')
  (hnew : ORel (ρ.add h.n w.heap.size cp) B w' h.n o) :
  ρ.le (ρ.add h.n w.heap.size cp) ∧ WRel (ρ.add h.n w.heap.size cp) B w0 (h.push o) w' := by
 have hle := Ren.le_add (R.heap.dom _ (Nat.le_refl _)) w.heap.size cp
 have hfl : ∀ b arr, ρ.frz b = some arr → b < w.heap.size := fun b arr hf => by
  obtain ⟨e, fz, hw⟩ := R.heap.frz b arr hf
  exact (Array.getElem?_eq_some_iff.1 hw).1
 refine ⟨hle, ⟨⟨fun i hi => ?_, fun i j b c1 c2 hi hj h1 h2 => ?_, fun i => ?_, fun b arr hf => ?_, fun g cs hg => ?_, ?_⟩, R.below.trans hb⟩⟩
 ·simp only [AHeap.push] at hi
  simp [Ren.add, show i ≠ h.n by omega, R.heap.dom i (by omega)]
 ·simp only [AHeap.push] at hi hj
  simp only [Ren.add] at h1 h2
  by_cases hin : i = h.n <;> by_cases hjn : j = h.n
  ·omega
  ·simp [hin] at h1; simp [hjn] at h2 hj
   obtain ⟨b', cp', hr, hlt, _⟩ := R.heap.live hj
   rw [hr] at h2; simp at h2; omega
  ·simp [hjn] at h2; simp [hin] at h1 hi
   obtain ⟨b', cp', hr, hlt, _⟩ := R.heap.live hi
   rw [hr] at h1; simp at h1; omega
  ·simp [hin] at h1 hi; simp [hjn] at h2 hj
   exact R.heap.inj i j b c1 c2 hi hj h1 h2
 ·by_cases hin : i = h.n
  ·subst hin
   simpa only [AHeap.push, if_true] using hnew
  ·simp only [AHeap.push, if_neg hin]
   by_cases hd : h.get i = .dead
   ·rw [hd]; trivial
   ·refine (R.heap.obj i).keep hle fun b c1 hr => ⟨hold b ?_, fun h => h⟩
    obtain ⟨b', cp', hr', hlt, _⟩ := R.heap.live hd
    rw [hr'] at hr; simp at hr
    obtain ⟨rfl, rfl⟩ := hr
    exact hlt
 ·obtain ⟨e, fz, hw⟩ := R.heap.frz b arr hf
  exact ⟨e, fz, (hold b (hfl b arr hf)).trans hw⟩
 ·obtain ⟨arr, hf, hr⟩ := R.heap.glob g cs hg
  exact ⟨arr, hf, hr.mono hle⟩
 ·exact Nat.le_trans R.heap.base (Nat.le_of_lt hsz)
theorem WRel.push {ρ : Ren} {B : Nat} {w0 : World} {h : AHeap} {w w' : World} (R : WRel ρ B w0 h w) {c : List V} {arr : Array Value} {e : TypeId} {ex : Option Nat} (cp : Nat)
  (hsz : w.heap.size < w'.heap.size) (hold : ∀ k, k < w.heap.size → w'.heap[k]? = w.heap[k]?) (hnew : w'.heap[w.heap.size]? = some (.cells arr e (0, 0)))
  (hb : Bel B w w') (hc : c.length ≤ arr.size) (hl : LRel ρ c (arr.toList.take c.length)) (hx : XRel ex cp arr.size c.length) :
  ∃ ρ' : Ren, ρ.le ρ' ∧ ρ'.ren h.n = some (w.heap.size, cp) ∧ WRel ρ' B w0 (h.push (.cells c e ex)) w' := by
 have hle := Ren.le_add (R.heap.dom _ (Nat.le_refl _)) w.heap.size cp
 have hnf : ρ.frz w.heap.size = none := by
  cases hf : ρ.frz w.heap.size with
  | none => rfl
  | some a =>
   obtain ⟨e, fz, hw⟩ := R.heap.frz _ _ hf
   have := (Array.getElem?_eq_some_iff.1 hw).1
   omega
 obtain ⟨h1, h2⟩ := R.pushO (o := .cells c e ex) cp hsz hold hb ⟨w.heap.size, cp, arr, Ren.add_new, hnf, R.heap.base, hnew, hc, hl.mono hle, hx⟩
 exact ⟨_, h1, Ren.add_new, h2⟩
theorem WRel.pushFrz {ρ : Ren} {B : Nat} {w0 : World} {h : AHeap} {w w' : World} (R : WRel ρ B w0 h w) {arr : Array Value} {e : TypeId} {fz : Nat × Nat}
  (hsz : w.heap.size < w'.heap.size) (hold : ∀ k, k < w.heap.size → w'.heap[k]? = w.heap[k]?) (hnew : w'.heap[w.heap.size]? = some (.cells arr e fz)) (hb : Bel B w w') :
  ∃ ρ' : Ren, ρ.le ρ' ∧ ρ'.frz w.heap.size = some arr ∧ WRel ρ' B w0 h w' := by
 have hfl : ∀ b arr, ρ.frz b = some arr → b < w.heap.size := fun b arr hf => by
  obtain ⟨e, fz, hw⟩ := R.heap.frz b arr hf
  exact (Array.getElem?_eq_some_iff.1 hw).1
 have hle : ρ.le { ρ with frz := fun b => if b = w.heap.size then some arr else ρ.frz b } := by
  refine ⟨fun _ _ h => h, fun b a hb => ?_, rfl⟩
  have := hfl b a hb
  simp [show b ≠ w.heap.size by omega, hb]
 refine ⟨_, hle, by simp, ⟨⟨R.heap.dom, R.heap.inj, fun i => ?_, fun b a hf => ?_, fun g cs hg => ?_, Nat.le_trans R.heap.base (Nat.le_of_lt hsz)⟩, R.below.trans hb⟩⟩
 ·by_cases hd : h.get i = .dead
  ·rw [hd]; trivial
  ·obtain ⟨b', cp', hr', hlt, _⟩ := R.heap.live hd
   refine (R.heap.obj i).keep hle fun b c1 hr => ?_
   rw [hr'] at hr; simp at hr
   obtain ⟨rfl, rfl⟩ := hr
   exact ⟨hold _ hlt, fun h => by simp [show b' ≠ w.heap.size by omega, h]⟩
 ·simp only at hf
  by_cases hbn : b = w.heap.size
  ·subst hbn; simp at hf; subst hf; exact ⟨e, fz, hnew⟩
  ·simp [hbn] at hf
   obtain ⟨e, fz, hw⟩ := R.heap.frz b a hf
   exact ⟨e, fz, (hold b (hfl b a hf)).trans hw⟩
 ·obtain ⟨arr', hf, hr⟩ := R.heap.glob g cs hg
  exact ⟨arr', hle.frz _ _ hf, hr.mono hle⟩
theorem WRel.setO {ρ : Ren} {B : Nat} {w0 : World} {h : AHeap} {w w' : World} (R : WRel ρ B w0 h w) {i b cp : Nat} (hi : ρ.ren i = some (b, cp)) (hl : h.get i ≠ .dead) {o : AObj}
  (hold : ∀ k, k ≠ b → w'.heap[k]? = w.heap[k]?) (hsz : w.heap.size ≤ w'.heap.size) (hb : Bel B w w') (hnew : ORel ρ B w' i o) : WRel ρ B w0 (h.set i o) w' := by
 have hfb : ρ.frz b = none := by
  obtain ⟨b', cp', hr', _, _, hf, _⟩ := R.heap.live hl
  rw [hr'] at hi; simp at hi; rw [← hi.1]; exact hf
 refine ⟨⟨R.heap.dom, fun j k b' c1 c2 hj hk h1 h2 => ?_, fun j => ?_, fun b' arr hf => ?_, R.heap.glob, Nat.le_trans R.heap.base hsz⟩, R.below.trans hb⟩
 ·refine R.heap.inj j k b' c1 c2 ?_ ?_ h1 h2
  ·by_cases hji : j = i
   ·subst hji; exact hl
   ·simpa [AHeap.set, hji] using hj
  ·by_cases hki : k = i
   ·subst hki; exact hl
   ·simpa [AHeap.set, hki] using hk
 ·by_cases hji : j = i
  ·subst hji
   simpa only [AHeap.set, if_true] using hnew
  ·simp only [AHeap.set, if_neg hji]
   by_cases hd : h.get j = .dead
   ·rw [hd]; trivial
   ·refine (R.heap.obj j).keep (Ren.le.refl ρ) fun b2 c1 hr => ⟨hold b2 ?_, fun h => h⟩
    intro hbb
    subst hbb
    exact hji (R.heap.inj i j b2 cp c1 hl hd hi hr).symm
 ·obtain ⟨e, fz, hw⟩ := R.heap.frz b' arr hf
  have : b' ≠ b := by intro hh; subst hh; rw [hfb] at hf; cases hf
  exact ⟨e, fz, (hold b' this).trans hw⟩
theorem WRel.kill {ρ : Ren} {B : Nat} {w0 : World} {h : AHeap} {w : World} (R : WRel ρ B w0 h w) (i : Nat) : WRel ρ B w0 (h.set i .dead) w := by
 refine ⟨⟨R.heap.dom, fun j k b' c1 c2 hj hk h1 h2 => ?_, fun j => ?_, R.heap.frz, R.heap.glob, R.heap.base⟩, R.below⟩
 ·refine R.heap.inj j k b' c1 c2 ?_ ?_ h1 h2
  ·by_cases hji : j = i
   ·subst hji; simp [AHeap.set] at hj
   ·simpa [AHeap.set, hji] using hj
  ·by_cases hki : k = i
   ·subst hki; simp [AHeap.set] at hk
   ·simpa [AHeap.set, hki] using hk
 ·by_cases hji : j = i
  ·subst hji; simp only [AHeap.set, if_true]; trivial
  ·simp only [AHeap.set, if_neg hji]; exact R.heap.obj j
theorem WRel.drew {ρ : Ren} {B : Nat} {w0 : World} {h : AHeap} {w : World} (R : WRel ρ B w0 h w) : WRel ρ B w0 h w.drew := by
 refine ⟨⟨R.heap.dom, R.heap.inj, fun i => ?_, R.heap.frz, R.heap.glob, R.heap.base⟩, R.below.drew⟩
 exact (R.heap.obj i).keep (Ren.le.refl ρ) fun b c hr => ⟨rfl, fun h => h⟩
theorem WRel.freeze {ρ : Ren} {B : Nat} {w0 : World} {h : AHeap} {w : World} (R : WRel ρ B w0 h w) {i : Nat} {c : List V} {e : TypeId} {ex : Option Nat} (hg : h.get i = .cells c e ex) :
  ∃ ρ' : Ren, ρ.le ρ' ∧ WRel ρ' B w0 (h.set i .dead) w ∧ ∃ b cp arr, ρ.ren i = some (b, cp) ∧ ρ'.frz b = some arr ∧ c.length ≤ arr.size ∧ LRel ρ c (arr.toList.take c.length) := by
 have ho := R.heap.obj i
 rw [hg] at ho
 obtain ⟨b, cp, arr, hr, hf, hB, hw, hc, hl, hx⟩ := ho
 have hle : ρ.le { ρ with frz := fun k => if k = b then some arr else ρ.frz k } := by
  refine ⟨fun _ _ h => h, fun k a hk => ?_, rfl⟩
  have : k ≠ b := by intro hh; subst hh; rw [hf] at hk; cases hk
  simp [this, hk]
 have K := R.kill i
 refine ⟨_, hle, ⟨⟨K.heap.dom, K.heap.inj, fun j => ?_, fun k a hk => ?_, fun g cs hg => ?_, K.heap.base⟩, K.below⟩, b, cp, arr, hr, by simp, hc, hl⟩
 ·by_cases hd : (h.set i .dead).get j = .dead
  ·rw [hd]; trivial
  ·refine (K.heap.obj j).keep hle fun b2 c2 hr2 => ⟨rfl, fun h2 => ?_⟩
   have : b2 ≠ b := by
    intro hh
    subst hh
    by_cases hji : j = i
    ·subst hji; simp [AHeap.set] at hd
    ·refine hji (R.heap.inj j i b2 c2 cp ?_ (by rw [hg]; simp) hr2 hr)
     simpa [AHeap.set, hji] using hd
   simp [this, h2]
 ·simp only at hk
  by_cases hkb : k = b
  ·subst hkb; simp at hk; subst hk; exact ⟨e, (0, 0), hw⟩
  ·simp [hkb] at hk
   exact R.heap.frz k a hk
 ·obtain ⟨arr', hf', hr'⟩ := R.heap.glob g cs hg
  exact ⟨arr', hle.frz _ _ hf', hr'.mono hle⟩
def Yields (P : Program) (s : Sem Value) (ρ : Ren) (B : Nat) (w0 w : World) (v : V) (h' : AHeap) : Prop :=
 ∃ ρ' v' w', s.run P w = .ok v' w' ∧ VRel ρ' v v' ∧ WRel ρ' B w0 h' w' ∧ ρ.le ρ'
theorem Yields.same {P : Program} {s : Sem Value} {ρ : Ren} {B : Nat} {w0 w : World} {v : V} {v' : Value} {h : AHeap} (R : WRel ρ B w0 h w) (hr : s.run P w = .ok v' w) (hv : VRel ρ v v') :
  Yields P s ρ B w0 w v h := ⟨ρ, v', w, hr, hv, R, Ren.le.refl ρ⟩
def Keeps (P : Program) (s : Sem Value) (ρ : Ren) (w : World) (v : V) : Prop := ∃ v', s.run P w = .ok v' w ∧ VRel ρ v v'
theorem Keeps.mk {P : Program} {s : Sem Value} {ρ : Ren} {w : World} {v : V} {v' : Value} (hr : s.run P w = .ok v' w) (hv : VRel ρ v v') : Keeps P s ρ w v := ⟨v', hr, hv⟩
theorem Keeps.yields {P : Program} {s : Sem Value} {ρ : Ren} {B : Nat} {w0 w : World} {v : V} {h : AHeap} (k : Keeps P s ρ w v) (R : WRel ρ B w0 h w) : Yields P s ρ B w0 w v h :=
 let ⟨_, hr, hv⟩ := k
 .same R hr hv
def aPlace (h : AHeap) : V → Option (List V)
 | .ptr i o => match h.get i with
  | .cells c _ _ => if o ≤ c.length then some (c.drop o) else none
  | _ => none
 | .at cs => some cs
 | _ => none
theorem cells_at {w : World} {b o : Nat} {arr : Array Value} {e : TypeId} {fz : Nat × Nat} (hw : w.heap[b]? = some (.cells arr e fz)) (n m : Nat) : w.rangeAt b o (((arr.toList.take m).drop o).take n) := by
 intro j v hv
 simp only [World.cell?, hw, Option.isSome_none, Bool.false_eq_true, if_false]
 rw [List.getElem?_take] at hv
 split at hv
 ·rw [List.getElem?_drop, List.getElem?_take] at hv
  split at hv
  ·simpa using hv
  ·cases hv
 ·cases hv
theorem place_sound {ρ : Ren} {B : Nat} {h : AHeap} {w : World} (H : HRel ρ B h w) {p : V} {p' : Value} (hp : VRel ρ p p') {cs : List V} (hs : aPlace h p = some cs) :
  ∃ b o, p' = .pointer (some ⟨b, o, none⟩) ∧ ∀ n, n ≤ cs.length → ∃ vs, w.rangeAt b o vs ∧ LRel ρ (cs.take n) vs ∧ vs.length = n := by
 unfold aPlace at hs
 split at hs
 ·rename_i i o
  split at hs
  case h_2 => cases hs
  rename_i c e ex hg
  split at hs
  case isFalse => cases hs
  rename_i ho
  obtain rfl : _ = cs := by simpa using hs
  have hob := H.obj i
  rw [hg] at hob
  obtain ⟨b2, cp2, arr, hr, hf, hB, hw, hc, hl, hx⟩ := hob
  cases hp with
  | ptr hi o =>
  rw [hr] at hi; simp at hi
  obtain ⟨rfl, rfl⟩ := hi
  refine ⟨b2, o, rfl, fun n hn => ⟨((arr.toList.take c.length).drop o).take n, cells_at hw n _, (hl.drop o).take n, ?_⟩⟩
  simp at hn ⊢; omega
 ·rename_i l
  obtain rfl : l = cs := by simpa using hs
  cases hp with
  | «at» o hb ho hx =>
  rename_i b arr
  obtain ⟨e, fz, hw⟩ := H.frz b arr hb
  refine ⟨b, o, rfl, fun n hn => ⟨((arr.toList.take arr.size).drop o).take n, cells_at hw n _, ?_, ?_⟩⟩
  ·have hL : LRel ρ l ((arr.toList.drop o).take l.length) := by
    refine ⟨by simp; omega, fun k v v' h1 h2 => ?_⟩
    rw [List.getElem?_take] at h2
    split at h2
    ·rw [List.getElem?_drop] at h2
     exact hx k v v' h1 (by simpa using h2)
    ·cases h2
   have := hL.take n
   rw [List.take_take, Nat.min_eq_left hn] at this
   have e1 : arr.toList.take arr.size = arr.toList := List.take_of_length_le (by simp)
   rw [e1]; exact this
  ·simp; omega
 ·cases hs
def aLoad (P : Program) (t : TypeId) (x : V) (h : AHeap) : Option V :=
 match aPlace h x, rowT P t, sizeT P t with
 | some cs, some true, some n => if n ≤ cs.length then some (.agg (cs.take n)) else none
 | some (v :: _), some false, some _ => some v
 | _, _, _ => none
theorem aLoad_sound {P : Program} {t : TypeId} {x v : V} {x' : Value} {h : AHeap} (hs : aLoad P t x h = some v) {ρ : Ren} {B : Nat} {w0 w : World} (R : WRel ρ B w0 h w) (hx : VRel ρ x x') :
  (∃ a, x' = .pointer (some a)) ∧ Keeps P (Instr.loadAt t x') ρ w v := by
 unfold aLoad at hs
 cases hq : P.info? t with
 | none => simp [sizeT, hq] at hs
 | some ti =>
 cases hu : P.underlying t with
 | none => simp [rowT, hu] at hs
 | some d =>
 simp only [rowT, hu, sizeT, hq, Option.map_some] at hs
 cases hp : aPlace h x with
 | none => simp [hp] at hs
 | some cs =>
 obtain ⟨b, o, rfl, hcs⟩ := place_sound R.heap hx hp
 refine ⟨⟨_, rfl⟩, ?_⟩
 cases hd : d.isRow with
 | true =>
  simp only [hp, hd] at hs
  split at hs
  case isFalse => cases hs
  rename_i hn
  obtain rfl : _ = v := by simpa using hs
  obtain ⟨vs, h1, h2, h3⟩ := hcs _ hn
  exact Keeps.mk (run_loadAt_mid w b o t vs d h1 hu hd (by simp [hq, h3])) (h2.arr).agg
 | false =>
  cases cs with
  | nil => simp [hp, hd] at hs
  | cons u r =>
   simp only [hp, hd, Option.some.injEq] at hs
   subst hs
   obtain ⟨vs, h1, h2, h3⟩ := hcs 1 (by simp)
   simp only [List.take_succ_cons, List.take_zero] at h2
   obtain ⟨v', t', rfl, hrel, _⟩ := h2.uncons
   have hcell := h1 0 v' rfl
   refine Keeps.mk ?_ hrel
   have hagg : (isAgg t).run P w = .ok false w := by
    unfold isAgg
    rw [Sem.run_bind, run_underlying hu w]
    cases d <;> simp_all
   simp only [Nat.add_zero] at hcell
   simp [Instr.loadAt, Instr.sureAddr, loadVar, hagg, load, Sem.run, hcell]
theorem LRel.dfr {ρ : Ren} {l : List V} {l' : List Value} (h : LRel ρ l l') (d : List Deferred) : LRel { ρ with dfr := d } l l' := ⟨h.1, fun k v v' a b => (h.2 k v v' a b).dfr d⟩
theorem MRel.dfr {ρ : Ren} {es : List (Nat × V × V)} {arr : Array MapEntry} (h : MRel ρ es arr) (d : List Deferred) : MRel { ρ with dfr := d } es arr :=
 ⟨h.1, fun k e e' a b => ⟨(h.2 k e e' a b).1, (h.2 k e e' a b).2.1.dfr d, (h.2 k e e' a b).2.2.dfr d⟩⟩
theorem ORel.dfr {ρ : Ren} {B : Nat} {w : World} {i : Nat} {o : AObj} (h : ORel ρ B w i o) (d : List Deferred) : ORel { ρ with dfr := d } B w i o := by
 cases o with
 | dead => trivial
 | cells c e ex =>
  obtain ⟨b, cp, arr, hr, hf, hB, hw, hc, hl, hx⟩ := h
  exact ⟨b, cp, arr, hr, hf, hB, hw, hc, hl.dfr d, hx⟩
 | map es cl =>
  obtain ⟨b, cp, arr, hr, hf, hB, hw, hm⟩ := h
  exact ⟨b, cp, arr, hr, hf, hB, hw, hm.dfr d⟩
 | iter m s l st =>
  obtain ⟨b, cp, bm, cm, hr, hf, hB, hm, hw⟩ := h
  exact ⟨b, cp, bm, cm, hr, hf, hB, hm, hw⟩
 | pin k vs =>
  obtain ⟨b, cp, arr, hr, hf, hB, hw, hl⟩ := h
  exact ⟨b, cp, arr, hr, hf, hB, by cases k <;> exact hw, hl.dfr d⟩
theorem WRel.dfr {ρ : Ren} {B : Nat} {w0 : World} {h : AHeap} {w : World} (R : WRel ρ B w0 h w) (d : List Deferred) : WRel { ρ with dfr := d } B w0 h w :=
 ⟨⟨R.heap.dom, R.heap.inj, fun i => (R.heap.obj i).dfr d, R.heap.frz, fun g cs hg => by
  obtain ⟨arr, h1, h2⟩ := R.heap.glob g cs hg
  exact ⟨arr, h1, h2.1, fun k v v' a b => (h2.2 k v v' a b).dfr d⟩, R.heap.base⟩, R.below⟩
theorem Ren.le.dfr_back {ρ ρ' : Ren} {d : List Deferred} (h : Ren.le { ρ with dfr := d } ρ') : ρ.le { ρ' with dfr := ρ.dfr } := ⟨h.ren, h.frz, rfl⟩
end Go.Proofs.YtfcjehlhoebmnaaGreatDoor.Ab
namespace Go.Proofs.YtfcjehlhoebmnaaGreatDoor.Ab
open Go Go.RowKit
set_option linter.unusedVariables false
def V.cells : V → Option (List V)
 | .agg cs => some cs
 | .top => none
 | .tuple _ => none
 | v => some [v]
def V.one : V → Bool
 | .agg _ | .tuple _ | .top => false
 | _ => true
theorem VRel.one {ρ : Ren} {v : V} {v' : Value} (h : VRel ρ v v') (ho : v.one = true) : v'.oneCell' = true := by cases h <;> simp [V.one] at ho <;> rfl
theorem VRel.one1 {ρ : Ren} {v : V} {v' : Value} (h : VRel ρ v v') (ho : v.one = true) : v'.cells = #[v'] := by cases h <;> simp [V.one] at ho <;> rfl
theorem VRel.cells {ρ : Ren} {v : V} {v' : Value} (h : VRel ρ v v') {cs : List V} (hc : v.cells = some cs) : LRel ρ cs v'.cells.toList := by
 have key : ∀ u : V, VRel ρ u v' → u.one = true → u.cells = some [u] → LRel ρ [u] v'.cells.toList := fun u hu h1 _ => by
  rw [hu.one1 h1]
  exact .cons hu (.nil ρ)
 cases h with
 | agg hs hx =>
         obtain rfl : _ = cs := by simpa [V.cells] using hc
         exact ARel.list ⟨hs, hx⟩
 | top => simp [V.cells] at hc
 | tuple hs hx => simp [V.cells] at hc
 | _ =>
     obtain rfl : _ = cs := by simpa [V.cells] using hc
     exact key _ (by constructor <;> assumption) rfl rfl
theorem LRel.one {ρ : Ren} {l : List V} {l' : List Value} (h : LRel ρ l l') (hl : l.all (·.one) = true) : ∀ v ∈ l', v.oneCell' = true := by
 intro v hv
 obtain ⟨k, hk⟩ := List.getElem?_of_mem hv
 have hlt : k < l'.length := (List.getElem?_eq_some_iff.1 hk).1
 have hlt2 : k < l.length := by rw [h.1]; exact hlt
 exact (h.2 k l[k] v (List.getElem?_eq_getElem hlt2) hk).one ((List.all_eq_true.1 hl) _ (List.getElem_mem hlt2))
def lay {α : Type} (c : List α) (o : Nat) (vs : List α) : List α := c.take o ++ vs ++ c.drop (o + vs.length)
theorem length_lay {α : Type} (c : List α) (o : Nat) (vs : List α) (h : o + vs.length ≤ c.length) : (lay c o vs).length = c.length := by
 simp [lay]; omega
theorem LRel.lay {ρ : Ren} {c : List V} {c' : List Value} (h : LRel ρ c c') {vs : List V} {vs' : List Value} (hv : LRel ρ vs vs') (o : Nat) : LRel ρ (lay c o vs) (lay c' o vs') := by
 unfold Ab.lay
 rw [← hv.1]
 exact ((h.take o).append hv).append (h.drop _)
theorem lay_take {α : Type} (c : List α) (o : Nat) (vs : List α) (n : Nat) (h : o + vs.length ≤ n) (hn : n ≤ c.length) : (lay c o vs).take n = lay (c.take n) o vs := by
 apply List.ext_getElem?
 intro k
 simp only [Ab.lay, List.getElem?_take, List.getElem?_append, List.length_append, List.length_take, List.getElem?_drop]
 by_cases h1 : k < n
 ·simp only [h1, if_true]
  have e1 : min o c.length = o := by omega
  have e2 : min o (min n c.length) = o := by omega
  simp only [e1, e2]
  by_cases h2 : k < o + vs.length
  ·simp only [h2, if_true]
  ·simp only [h2, if_false]
   first | done | rw [if_pos (by omega)]
 ·simp only [h1, if_false]
  rw [if_neg (by omega)]
  rw [if_neg (by omega)]
theorem write_sound {P : Program} {h : AHeap} {i : Nat} {c : List V} {e : TypeId} {ex : Option Nat} (hg : h.get i = .cells c e ex) {ρ : Ren} {B : Nat} {w0 w : World} (R : WRel ρ B w0 h w)
  {b cp : Nat} (hi : ρ.ren i = some (b, cp)) (o : Nat) {vs : List V} {vs' : List Value} (hv : LRel ρ vs vs') (hone : vs.all (·.one) = true) (hfit : o + vs.length ≤ c.length) :
  ∃ w', (storeCells ⟨b, o, none⟩ vs').run P w = .ok () w' ∧ WRel ρ B w0 (h.set i (.cells (lay c o vs) e ex)) w' := by
 have ho := R.heap.obj i
 rw [hg] at ho
 obtain ⟨b2, cp2, arr, hr, hf, hB, hw, hc, hl, hx⟩ := ho
 rw [hr] at hi; simp at hi
 obtain ⟨rfl, rfl⟩ := hi
 have hfit' : o + vs'.length ≤ arr.size := by rw [← hv.1]; omega
 have hst := run_storeCells_at P b2 o e vs' 0 arr w hw (by simpa using hfit') (hv.one hone)
 simp only [Nat.add_zero] at hst
 refine ⟨_, hst, R.setO hr (by rw [hg]; simp) (fun k hk => ?_) ?_ ?_ ?_⟩
 ·simp [World.setRow, Array.getElem?_modify, Ne.symm hk]
 ·simp [World.setRow]
 ·refine ⟨rfl, rfl, rfl, by simp [World.setRow], fun k hk => ?_, Nat.le_refl _⟩
  simp [World.setRow, Array.getElem?_modify, show b2 ≠ k by omega]
 ·refine ⟨b2, cp2, _, hr, hf, hB, setRow_heap w b2 arr _ e (0, 0) hw, ?_, ?_, ?_⟩
  ·rw [length_lay _ _ _ hfit]; simp; omega
  ·rw [length_lay _ _ _ hfit]
   have := hl.lay hv o
   rw [← lay_take arr.toList o vs' c.length (by rw [← hv.1]; exact hfit) (by simpa using hc)] at this
   exact this
  ·rw [length_lay _ _ _ hfit]
   have hlen : (arr.toList.take o ++ vs' ++ arr.toList.drop (o + vs'.length)).toArray.size = arr.size := by simp; omega
   rw [hlen]
   exact hx
def aStore (P : Program) (t : TypeId) (x v : V) (h : AHeap) : Option AHeap :=
 match x, v.cells with
 | .ptr i o, some vs =>
  match h.get i with
  | .cells c e ex => if some vs.length = sizeT P t ∧ vs.all (·.one) = true ∧ o + vs.length ≤ c.length then some (h.set i (.cells (lay c o vs) e ex)) else none
  | _ => none
 | _, _ => none
theorem aStore_sound {P : Program} {t : TypeId} {x v : V} {x' v' : Value} {h h' : AHeap} (hs : aStore P t x v h = some h') {ρ : Ren} {B : Nat} {w0 w : World} (R : WRel ρ B w0 h w)
  (hx : VRel ρ x x') (hv : VRel ρ v v') : ∃ w', (Instr.storeAt t x' v').run P w = .ok () w' ∧ WRel ρ B w0 h' w' := by
 unfold aStore at hs
 split at hs
 case h_2 => cases hs
 rename_i i o vs hvs
 cases hx with
 | ptr hi o =>
 rename_i b cp
 split at hs
 case h_2 => cases hs
 rename_i c e ex hg
 split at hs
 case isFalse => cases hs
 rename_i hcond
 obtain ⟨hsz, hone, hfit⟩ := hcond
 obtain rfl : _ = h' := by simpa using hs
 have hcl := hv.cells hvs
 obtain ⟨w', hrun, R'⟩ := write_sound (P := P) hg R hi o hcl hone hfit
 refine ⟨w', ?_, R'⟩
 have hlen : v'.cells.size = vs.length := by have := hcl.1; simpa using this.symm
 cases hq : P.info? t with
 | none => simp [sizeT, hq] at hsz
 | some ti =>
  simp [sizeT, hq] at hsz
  simp [Instr.storeAt, Instr.sureAddr, storeVar, sizeOf, typeInfo, hq, hlen, hsz, hrun]
theorem push_yields {h : AHeap} {ρ : Ren} {B : Nat} {w0 w : World} (R : WRel ρ B w0 h w) {c : List V} {c' : List Value} (e : TypeId) (hc : LRel ρ c c') (cp : Nat) :
  ∃ ρ' : Ren, ρ.le ρ' ∧ ρ'.ren h.n = some (w.heap.size, cp) ∧ WRel ρ' B w0 (h.push (.cells c e none)) (w.alloc (.cells c'.toArray e)) :=
 R.push (arr := c'.toArray) cp (by simp) (fun k hk => Below.heap_alloc w _ k hk) (heap_alloc_new w _) ((Bel.refl _ _).alloc R.heap.base _)
  (by simp [hc.1]) (by simpa [hc.1] using hc) (show _ = _ by simp [hc.1])
theorem aNew_sound {P : Program} {h : AHeap} {ρ : Ren} {B : Nat} {w0 w : World} (R : WRel ρ B w0 h w) {cs : List V} {v' : Value} (e : TypeId) (hv : LRel ρ cs v'.cells.toList) (s : Sem Value)
  (hs : s.run P w = .ok (.pointer (some ⟨w.heap.size, 0, none⟩)) (w.alloc (.cells v'.cells e))) :
  Yields P s ρ B w0 w (.ptr h.n 0) (h.push (.cells cs e none)) := by
 obtain ⟨ρ', hle, hn, R'⟩ := push_yields R e hv 0
 exact ⟨ρ', _, _, hs, .ptr hn 0, by simpa using R', hle⟩
def zeroC (P : Program) (e : TypeId) : Option (List V) := match zeroT P e with | some z => (absV z).cells | none => none
theorem zeroC_rel {P : Program} {e : TypeId} {zs : List V} (h : zeroC P e = some zs) : ∃ z, zeroT P e = some z ∧ ∀ ρ, LRel ρ zs z.cells.toList := by
 unfold zeroC at h
 split at h
 ·rename_i z hz
  exact ⟨z, hz, fun ρ => (absV_rel ρ z).cells h⟩
 ·cases h
def aAlloc (P : Program) (e : TypeId) (h : AHeap) : Option (V × AHeap) :=
 match zeroC P e with
 | some zs => some (.ptr h.n 0, h.push (.cells zs e none))
 | none => none
def aBox (e : TypeId) (x : V) (h : AHeap) : Option (V × AHeap) :=
 match x.cells with
 | some cs => some (.ptr h.n 0, h.push (.cells cs e none))
 | none => none
theorem aAlloc_sound {P : Program} {e : TypeId} {v : V} {h h' : AHeap} (hs : aAlloc P e h = some (v, h')) {ρ : Ren} {B : Nat} {w0 w : World} (R : WRel ρ B w0 h w) :
  Yields P (Instr.alloc e true (.tuple #[])) ρ B w0 w v h' := by
 unfold aAlloc at hs
 split at hs
 case h_2 => cases hs
 rename_i zs hzs
 obtain ⟨z, hz, hrel⟩ := zeroC_rel hzs
 simp at hs
 obtain ⟨rfl, rfl⟩ := hs
 refine aNew_sound R e (hrel ρ) _ ?_
 cases hq : P.info? e with
 | none => simp [zeroT, hq] at hz
 | some ti =>
  simp [zeroT, hq] at hz
  simp [Instr.alloc, zeroValue, typeInfo, hq, hz, newVar, newRow]
theorem aBox_sound {P : Program} {e : TypeId} {x v : V} {x' : Value} {h h' : AHeap} (hs : aBox e x h = some (v, h')) {ρ : Ren} {B : Nat} {w0 w : World} (R : WRel ρ B w0 h w) (hx : VRel ρ x x') :
  Yields P (Instr.box e x') ρ B w0 w v h' := by
 unfold aBox at hs
 split at hs
 case h_2 => cases hs
 rename_i cs hcs
 simp at hs
 obtain ⟨rfl, rfl⟩ := hs
 exact aNew_sound R e (hx.cells hcs) _ (by simp [Instr.box, newVar, newRow])
end Go.Proofs.YtfcjehlhoebmnaaGreatDoor.Ab
namespace Go.Proofs.YtfcjehlhoebmnaaGreatDoor.Ab
open Go Go.RowKit
set_option linter.unusedVariables false
theorem VRel.ptr_inv {ρ : Ren} {i o : Nat} {x' : Value} (h : VRel ρ (.ptr i o) x') : ∃ b c, ρ.ren i = some (b, c) ∧ x' = .pointer (some ⟨b, o, none⟩) := by
 cases h with
 | ptr hi => exact ⟨_, _, hi, rfl⟩
theorem VRel.sl_inv {ρ : Ren} {i o len cap : Nat} {x' : Value} (h : VRel ρ (.sl i o len cap) x') : ∃ b c, ρ.ren i = some (b, c) ∧ len ≤ capOf c cap ∧ x' = .slice (some ⟨b, o, none⟩) len (capOf c cap) := by
 cases h with
 | sl hi _ _ _ hl => exact ⟨_, _, hi, hl, rfl⟩
theorem VRel.at_inv {ρ : Ren} {cs : List V} {x' : Value} (h : VRel ρ (.at cs) x') : ∃ (b o : Nat) (arr : Array Value), ρ.frz b = some arr ∧ o + cs.length ≤ arr.size ∧
  (∀ (k : Nat) (v : V) (v' : Value), cs[k]? = some v → arr[o + k]? = some v' → VRel ρ v v') ∧ x' = .pointer (some ⟨b, o, none⟩) := by
 cases h with
 | «at» o hb ho hx => exact ⟨_, o, _, hb, ho, hx, rfl⟩
theorem VRel.imm_inv {ρ : Ren} {n : Nat} {cs : List V} {x' : Value} (h : VRel ρ (.imm n cs) x') : (n = 0 ∧ cs = [] ∧ ∃ (a : Option Addr) (c : Nat), (a = none → c = 0) ∧ x' = .slice a 0 c) ∨ ∃ (b o cap : Nat) (arr : Array Value), ρ.frz b = some arr ∧ n ≤ cap ∧ o + cs.length ≤ arr.size ∧
  (∀ (k : Nat) (v : V) (v' : Value), cs[k]? = some v → arr[o + k]? = some v' → VRel ρ v v') ∧ x' = .slice (some ⟨b, o, none⟩) n cap := by
 cases h with
 | imm o _ cap hb hn ho hx => exact .inr ⟨_, o, cap, _, hb, hn, ho, hx, rfl⟩
 | immZ a c ha => exact .inl ⟨rfl, rfl, a, c, ha, rfl⟩
theorem VRel.atDrop {ρ : Ren} {b o : Nat} {arr : Array Value} {cs : List V} (hb : ρ.frz b = some arr) (ho : o + cs.length ≤ arr.size)
  (hx : ∀ (k : Nat) (v : V) (v' : Value), cs[k]? = some v → arr[o + k]? = some v' → VRel ρ v v') (d : Nat) (hd : d ≤ cs.length) : VRel ρ (.at (cs.drop d)) (.pointer (some ⟨b, o + d, none⟩)) :=
 .at (o + d) hb (by simp; omega) fun k v v' h1 h2 => by
  rw [List.getElem?_drop] at h1
  exact hx _ v v' h1 (by rw [← Nat.add_assoc]; exact h2)
theorem VRel.immPart {ρ : Ren} {b o n cap : Nat} {arr : Array Value} {cs : List V} (hb : ρ.frz b = some arr) (ho : o + cs.length ≤ arr.size)
  (hx : ∀ (k : Nat) (v : V) (v' : Value), cs[k]? = some v → arr[o + k]? = some v' → VRel ρ v v') (d m : Nat) (hd : d ≤ cs.length) (hn : n ≤ cap) : VRel ρ (.imm n ((cs.drop d).take m)) (.slice (some ⟨b, o + d, none⟩) n cap) :=
 .imm (o + d) n cap hb hn (by simp; omega) fun k v v' h1 h2 => by
  rw [List.getElem?_take] at h1
  split at h1
  ·rw [List.getElem?_drop] at h1
   exact hx _ v v' h1 (by rw [← Nat.add_assoc]; exact h2)
  ·cases h1
def aField (P : Program) (s : TypeId) (x : V) (k : Nat) : Option V :=
 match P.underlying s with
 | some (.struct fs) =>
  match fs[k]? with
  | some f => match sizeT P f.type with
   | some (_ + 1) => match x with
    | .ptr i o => some (.ptr i (o + f.offset))
    | .at cs => if f.offset ≤ cs.length then some (.at (cs.drop f.offset)) else none
    | _ => none
   | _ => none
  | none => none
 | _ => none
theorem aField_sound {P : Program} {s : TypeId} {x v : V} {x' : Value} {k : Nat} {h : AHeap} (hs : aField P s x k = some v) {ρ : Ren} {B : Nat} {w0 w : World} (R : WRel ρ B w0 h w) (hx : VRel ρ x x') :
  Keeps P (Instr.fieldAt s x' k) ρ w v := by
 unfold aField at hs
 split at hs
 case h_2 => cases hs
 rename_i fs hu
 split at hs
 case h_2 => cases hs
 rename_i f hf
 split at hs
 case h_2 => cases hs
 rename_i n hn
 have hq : ∃ ti, P.info? f.type = some ti ∧ ti.size ≠ 0 := by
  cases hq : P.info? f.type with
  | none => simp [sizeT, hq] at hn
  | some ti => simp [sizeT, hq] at hn; exact ⟨ti, rfl, by omega⟩
 obtain ⟨ti, hq, hn⟩ := hq
 have hrun : ∀ b o, (Instr.fieldAt s (.pointer (some ⟨b, o, none⟩)) k).run P w = .ok (.pointer (some ⟨b, o + f.offset, none⟩)) w := fun b o => by
  simp [Instr.fieldAt, run_underlying hu, hf, Instr.sureAddr, fieldPlace, sizeOf, typeInfo, hq, hn, Addr.add_mid]
 split at hs
 ·rename_i i o
  obtain rfl : _ = v := by simpa using hs
  obtain ⟨b, c, hi, rfl⟩ := hx.ptr_inv
  exact Keeps.mk (hrun b o) (.ptr hi _)
 ·split at hs
  case isFalse => cases hs
  rename_i hd
  obtain rfl : _ = v := by simpa using hs
  obtain ⟨b, o, arr, hb, ho, hx2, rfl⟩ := hx.at_inv
  exact Keeps.mk (hrun b o) (.atDrop hb ho hx2 _ hd)
 ·cases hs
def aIndexAddr (P : Program) (t : TypeId) (x ix : V) : Option V :=
 match ix with
 | .int _ n =>
  match P.underlying t, x with
  | some (.array len e), .ptr i o =>
   match sizeT P e with
   | some sz => if 0 ≤ n ∧ n < len then some (.ptr i (o + n.toNat * sz)) else none
   | none => none
  | some (.array len e), .at cs =>
   match sizeT P e with
   | some sz => if 0 ≤ n ∧ n < len ∧ n.toNat * sz ≤ cs.length then some (.at (cs.drop (n.toNat * sz))) else none
   | none => none
  | some (.slice e), .sl i o len _ =>
   match sizeT P e with
   | some sz => if 0 ≤ n ∧ n < len then some (.ptr i (o + n.toNat * sz)) else none
   | none => none
  | some (.slice e), .imm len cs =>
   match sizeT P e with
   | some sz => if 0 ≤ n ∧ n < len ∧ n.toNat * sz ≤ cs.length then some (.at (cs.drop (n.toNat * sz))) else none
   | none => none
  | _, _ => none
 | _ => none
theorem aIndexAddr_sound {P : Program} {t : TypeId} {x ix v : V} {x' ix' : Value} {h : AHeap} (hs : aIndexAddr P t x ix = some v) {ρ : Ren} {B : Nat} {w0 w : World} (R : WRel ρ B w0 h w)
  (hx : VRel ρ x x') (hix : VRel ρ ix ix') : Keeps P (Instr.indexAt t x' ix') ρ w v := by
 unfold aIndexAddr at hs
 split at hs
 case h_2 => cases hs
 rename_i k n
 cases hix with
 | int k n =>
 have hsl : ∀ e ti (len cap b o : Nat), P.underlying t = some (.slice e) → P.info? e = some ti → 0 ≤ n ∧ n < len →
   (Instr.indexAt t (.slice (some ⟨b, o, none⟩) len cap) (.int k n)).run P w = .ok (.pointer (some ⟨b, o + n.toNat * ti.size, none⟩)) w := fun e ti len cap b o hu hq hb => by
  simp [Instr.indexAt, asIntOf, run_underlying hu, hb, sizeOf, typeInfo, hq, Addr.add_mid]
 have har : ∀ e ti (len b o : Nat), P.underlying t = some (.array len e) → P.info? e = some ti → 0 ≤ n ∧ n < len →
   (Instr.indexAt t (.pointer (some ⟨b, o, none⟩)) (.int k n)).run P w = .ok (.pointer (some ⟨b, o + n.toNat * ti.size, none⟩)) w := fun e ti len b o hu hq hb => by
  simp [Instr.indexAt, asIntOf, run_underlying hu, Instr.sureAddr, hb, sizeOf, typeInfo, hq, Addr.add_mid]
 split at hs
 ·rename_i len e i o hu
  cases hx with
  | ptr hi o =>
  split at hs
  case h_2 => cases hs
  rename_i sz hsz
  split at hs
  case isFalse => cases hs
  rename_i hb
  obtain rfl : _ = v := by simpa using hs
  cases hq : P.info? e with
  | none => simp [sizeT, hq] at hsz
  | some ti =>
   simp [sizeT, hq] at hsz
   subst hsz
   exact Keeps.mk (har e ti len _ o hu hq hb) (.ptr hi _)
 ·rename_i len e cs hu
  cases hx with
  | «at» o hfb ho hx =>
  split at hs
  case h_2 => cases hs
  rename_i sz hsz
  split at hs
  case isFalse => cases hs
  rename_i hb
  obtain rfl : _ = v := by simpa using hs
  cases hq : P.info? e with
  | none => simp [sizeT, hq] at hsz
  | some ti =>
   simp [sizeT, hq] at hsz
   subst hsz
   exact Keeps.mk (har e ti len _ o hu hq ⟨hb.1, hb.2.1⟩) (.atDrop hfb ho hx _ hb.2.2)
 ·rename_i e i o len cap hu
  cases hx with
  | sl hi o len cap hl =>
  split at hs
  case h_2 => cases hs
  rename_i sz hsz
  split at hs
  case isFalse => cases hs
  rename_i hb
  obtain rfl : _ = v := by simpa using hs
  cases hq : P.info? e with
  | none => simp [sizeT, hq] at hsz
  | some ti =>
   simp [sizeT, hq] at hsz
   subst hsz
   exact Keeps.mk (hsl e ti len _ _ o hu hq hb) (.ptr hi _)
 ·rename_i e len cs hu
  split at hs
  case h_2 => cases hs
  rename_i sz hsz
  split at hs
  case isFalse => cases hs
  rename_i hb
  obtain rfl : _ = v := by simpa using hs
  cases hq : P.info? e with
  | none => simp [sizeT, hq] at hsz
  | some ti =>
   simp [sizeT, hq] at hsz
   subst hsz
   cases hx with
   | imm o _ cap hfb hn ho hx => exact Keeps.mk (hsl e ti len cap _ o hu hq ⟨hb.1, hb.2.1⟩) (.atDrop hfb ho hx _ hb.2.2)
   | immZ a c ha => omega
 ·cases hs
def natOf : V → Option Nat
 | .int _ n => if 0 ≤ n then some n.toNat else none
 | _ => none
theorem natOf_sound {v : V} {v' : Value} {n : Nat} (h : natOf v = some n) {ρ : Ren} (hv : VRel ρ v v') : ∃ k, v' = .int k (n : Int) := by
 unfold natOf at h
 split at h
 ·rename_i k m
  split at h
  ·cases hv
   simp at h
   exact ⟨k, by rw [← h]; congr; omega⟩
  ·cases h
 ·cases h
def loOf (lo : Option V) : Option Nat := match lo with | none => some 0 | some v => natOf v
def hiOf (len : Nat) (hi : Option V) : Option Nat := match hi with | none => some len | some v => natOf v
def cutSlice (i o len cap sz l hh m : Nat) : Option V :=
 if cap < unk then
  if l ≤ hh ∧ hh ≤ m ∧ m ≤ cap then some (.sl i (if m = l then o else o + l * sz) (hh - l) (m - l)) else none
 else
  if m = cap ∧ l ≤ hh ∧ hh ≤ len then (if l = 0 ∨ l < len then some (.sl i (o + l * sz) (hh - l) (cap + l)) else some (.imm 0 [])) else none
def cutImm (n sz l hh m : Nat) (mx : Bool) (cs : List V) : Option V :=
 if l ≤ hh ∧ hh ≤ m ∧ m ≤ n ∧ l * sz ≤ cs.length then
  if mx = true ∧ m = l then some .z0 else some (.imm (hh - l) ((cs.drop (l * sz)).take ((hh - l) * sz)))
 else none
def aSlice (P : Program) (t : TypeId) (x : V) (lo hi mx : Option V) : Option V :=
 match P.underlying t, x with
 | some (.slice e), .sl i o len cap =>
  match sizeT P e, loOf lo, hiOf len hi, hiOf cap mx with
  | some sz, some l, some hh, some m => if mx.isSome = true ∧ unk ≤ cap then (if hi.isSome = true ∧ m ≤ len ∧ len < unk then cutSlice i o len len sz l hh m else none)
   else if mx.isSome ∧ (hi.isNone ∨ unk ≤ cap) then none else cutSlice i o len cap sz l hh m
  | _, _, _, _ => none
 | some (.slice e), .imm n cs =>
  match sizeT P e, loOf lo, hiOf n hi, hiOf n mx with
  | some sz, some l, some hh, some m => if mx.isSome ∧ hi.isNone then none else cutImm n sz l hh m mx.isSome cs
  | _, _, _, _ => none
 | some (.slice e), .snil =>
  match sizeT P e, loOf lo, hiOf 0 hi, hiOf 0 mx with
  | some _, some 0, some 0, some 0 => if mx.isSome ∧ hi.isNone then none else some .snil
  | _, _, _, _ => none
 | some (.slice e), .z0 =>
  match sizeT P e, loOf lo, hiOf 0 hi, hiOf 0 mx with
  | some _, some 0, some 0, some 0 => if mx.isSome ∧ hi.isNone then none else some .z0
  | _, _, _, _ => none
 | some (.array n e), .ptr i o =>
  match sizeT P e, loOf lo, hiOf n hi, hiOf n mx with
  | some sz, some l, some hh, some m => if mx.isSome ∧ hi.isNone then none else if n < unk then cutSlice i o n n sz l hh m else none
  | _, _, _, _ => none
 | some (.array n e), .at cs =>
  match sizeT P e, loOf lo, hiOf n hi, hiOf n mx with
  | some sz, some l, some hh, some m => if mx.isSome ∧ hi.isNone then none else cutImm n sz l hh m mx.isSome cs
  | _, _, _, _ => none
 | some .string, .string s =>
  match loOf lo, hiOf s.size hi, mx with
  | some l, some hh, none => if l ≤ hh ∧ hh ≤ s.size then some (.string (s.extract l hh)) else none
  | _, _, _ => none
 | _, _ => none
theorem run_bound {P : Program} {w : World} {k : IntKind} {n y : Nat} {code : BoundsCode} (h : n ≤ y) : (Instr.sliceBound (.int k (n : Int)) y code).run P w = .ok n w := by
 simp [Instr.sliceBound, asIntOf, h]
theorem run_bounds {P : Program} {w : World} {isSlice : Bool} {len cap l hh m : Nat} {lo hi mx : Option V} {lo' hi' mx' : Option Value} {ρ : Ren}
  (r1 : Option.Rel (VRel ρ) lo lo') (r2 : Option.Rel (VRel ρ) hi hi') (r3 : Option.Rel (VRel ρ) mx mx')
  (h1 : loOf lo = some l) (h2 : hiOf len hi = some hh) (h3 : ∃ c0, hiOf c0 mx = some m ∧ (mx = none → m = cap)) (hl : l ≤ hh) (hm : hh ≤ m) (hc : m ≤ cap) (hmx : ¬ (mx.isSome ∧ hi.isNone)) :
  (Instr.sliceBounds isSlice len cap lo' hi' mx').run P w = .ok (l, hh, m) w := by
 obtain ⟨c0, h3, h3n⟩ := h3
 cases r1 with
 | none =>
  simp [loOf] at h1; subst h1
  cases r2 with
  | none =>
   simp [hiOf] at h2; subst h2
   cases r3 with
   | none => simp [Instr.sliceBounds, h3n rfl]
   | some r3 => simp at hmx
  | some r2 =>
   simp only [hiOf] at h2
   obtain ⟨k2, rfl⟩ := natOf_sound h2 r2
   cases r3 with
   | none => obtain rfl := h3n rfl; simp [Instr.sliceBounds, run_bound hm]
   | some r3 => simp only [hiOf] at h3; obtain ⟨k3, rfl⟩ := natOf_sound h3 r3; simp [Instr.sliceBounds, run_bound hm, run_bound hc]
 | some r1 =>
  simp only [loOf] at h1
  obtain ⟨k1, rfl⟩ := natOf_sound h1 r1
  cases r2 with
  | none =>
   simp [hiOf] at h2; subst h2
   cases r3 with
   | none => obtain rfl := h3n rfl; simp [Instr.sliceBounds, run_bound hl]
   | some r3 => simp at hmx
  | some r2 =>
   simp only [hiOf] at h2
   obtain ⟨k2, rfl⟩ := natOf_sound h2 r2
   cases r3 with
   | none => obtain rfl := h3n rfl; simp [Instr.sliceBounds, run_bound hm, run_bound hl]
   | some r3 => simp only [hiOf] at h3; obtain ⟨k3, rfl⟩ := natOf_sound h3 r3; simp [Instr.sliceBounds, run_bound hm, run_bound hc, run_bound hl]
theorem cut_rel {ρ : Ren} {i b cp o len cap sz l hh m : Nat} (hi : ρ.ren i = some (b, cp)) (hl : len ≤ capOf cp cap) {v : V} (h : cutSlice i o len cap sz l hh m = some v) :
  ∃ m', (m < unk ∧ cap < unk → m' = m) ∧ (unk ≤ cap → m = cap ∧ m' = capOf cp cap) ∧ l ≤ hh ∧ hh ≤ m' ∧ m' ≤ capOf cp cap ∧
   VRel ρ v (.slice (if m' = l then some ⟨b, o, none⟩ else some (Addr.add ⟨b, o, none⟩ (l * sz))) (hh - l) (m' - l)) := by
 unfold cutSlice at h
 split at h
 ·rename_i hc
  split at h
  ·rename_i hb
   obtain rfl : _ = v := by simpa using h
   refine ⟨m, fun _ => rfl, fun h => by omega, hb.1, hb.2.1, by simp [capOf, hc, hb.2.2], ?_⟩
   have key : VRel ρ (.sl i (if m = l then o else o + l * sz) (hh - l) (m - l)) (.slice (some ⟨b, if m = l then o else o + l * sz, none⟩) (hh - l) (capOf cp (m - l))) :=
    .sl hi _ _ _ (by simp [capOf, show m - l < unk by omega]; omega)
   simp only [capOf, show m - l < unk by omega, if_true] at key
   by_cases hml : m = l
   ·simpa [hml] using key
   ·simpa [hml, Addr.add_mid] using key
  ·cases h
 ·rename_i hc
  split at h
  ·rename_i hb
   refine ⟨capOf cp cap, fun h => by omega, fun _ => ⟨hb.1, rfl⟩, hb.2.1, by omega, Nat.le_refl _, ?_⟩
   split at h
   case isFalse hll =>
    obtain rfl : _ = v := by simpa using h
    rw [show hh - l = 0 by omega]
    refine .immZ _ _ fun hn => ?_
    split at hn <;> cases hn
   rename_i hll
   obtain rfl : _ = v := by simpa using h
   have e1 : capOf cp (cap + l) = capOf cp cap - l := by simp [capOf, hc, show ¬ cap + l < unk by omega]; omega
   have key : VRel ρ (.sl i (o + l * sz) (hh - l) (cap + l)) (.slice (some ⟨b, o + l * sz, none⟩) (hh - l) (capOf cp (cap + l))) :=
    .sl hi _ _ _ (by rw [e1]; omega)
   rw [e1] at key
   by_cases hml : capOf cp cap = l
   ·have : l = 0 := by omega
    subst this
    simpa [hml] using key
   ·simpa [hml, Addr.add_mid] using key
  ·cases h
theorem cutImm_rel {ρ : Ren} {b o n sz l hh m m' : Nat} {arr : Array Value} {cs : List V} {mx : Bool} {v : V} (hb : ρ.frz b = some arr) (ho : o + cs.length ≤ arr.size)
  (hx : ∀ (k : Nat) (v : V) (v' : Value), cs[k]? = some v → arr[o + k]? = some v' → VRel ρ v v') (h : cutImm n sz l hh m mx cs = some v) (hm : mx = true → m' = m) (hm2 : hh ≤ m') :
  VRel ρ v (.slice (if m' = l then some ⟨b, o, none⟩ else some (Addr.add ⟨b, o, none⟩ (l * sz))) (hh - l) (m' - l)) := by
 unfold cutImm at h
 split at h
 case isFalse => cases h
 rename_i hc
 split at h
 ·rename_i hz
  obtain rfl : _ = v := by simpa using h
  have := hm hz.1
  have e1 : m' - l = 0 := by omega
  have e2 : hh - l = 0 := by omega
  rw [e1, e2]
  exact .z0 _ trivial
 ·obtain rfl : _ = v := by simpa using h
  by_cases hml : m' = l
  ·have e2 : hh - l = 0 := by omega
   rw [if_pos hml, e2]
   have := VRel.immPart hb ho hx 0 0 (by omega) (Nat.zero_le (m' - l))
   simpa using this
  ·rw [if_neg hml, Addr.add_mid]
   exact .immPart hb ho hx (l * sz) _ (by omega) (by omega)
theorem cutImm_le {n sz l hh m : Nat} {mx : Bool} {cs : List V} {v : V} (h : cutImm n sz l hh m mx cs = some v) : l ≤ hh ∧ hh ≤ m ∧ m ≤ n := by
 unfold cutImm at h
 split at h
 ·rename_i hc; exact ⟨hc.1, hc.2.1, hc.2.2.1⟩
 ·cases h
theorem aSlice_sound {P : Program} {t : TypeId} {x v : V} {x' : Value} {lo hi mx : Option V} {lo' hi' mx' : Option Value} {h : AHeap} (hs : aSlice P t x lo hi mx = some v) {ρ : Ren} {B : Nat} {w0 w : World} (R : WRel ρ B w0 h w)
  (hx : VRel ρ x x') (r1 : Option.Rel (VRel ρ) lo lo') (r2 : Option.Rel (VRel ρ) hi hi') (r3 : Option.Rel (VRel ρ) mx mx') : Keeps P (Instr.sliceAt t x' lo' hi' mx') ρ w v := by
 have runS : ∀ e ti (b o len cap l hh m : Nat), P.underlying t = some (.slice e) → P.info? e = some ti → (Instr.sliceBounds true len cap lo' hi' mx').run P w = .ok (l, hh, m) w →
   (Instr.sliceAt t (.slice (some ⟨b, o, none⟩) len cap) lo' hi' mx').run P w = .ok (.slice (if m = l then some ⟨b, o, none⟩ else some (Addr.add ⟨b, o, none⟩ (l * ti.size))) (hh - l) (m - l)) w := fun e ti b o len cap l hh m hu hq hb => by
  simp only [Instr.sliceAt, Sem.run_bind, run_underlying hu, Result.andThen_ok, Instr.slice, hb]
  by_cases hml : m = l
  ·simp [hml, sizeOf, typeInfo, hq]
  ·simp [hml, sizeOf, typeInfo, hq]
 have runA : ∀ e ti (b o n l hh m : Nat), P.underlying t = some (.array n e) → P.info? e = some ti → (Instr.sliceBounds false n n lo' hi' mx').run P w = .ok (l, hh, m) w →
   (Instr.sliceAt t (.pointer (some ⟨b, o, none⟩)) lo' hi' mx').run P w = .ok (.slice (if m = l then some ⟨b, o, none⟩ else some (Addr.add ⟨b, o, none⟩ (l * ti.size))) (hh - l) (m - l)) w := fun e ti b o n l hh m hu hq hb => by
  by_cases hml : m = l
  ·simp [Instr.sliceAt, run_underlying hu, Instr.sureAddr, hb, hml, sizeOf, typeInfo, hq]
  ·simp [Instr.sliceAt, run_underlying hu, Instr.sureAddr, hb, hml, sizeOf, typeInfo, hq]
 unfold aSlice at hs
 split at hs
 ·rename_i e i o len cap hu
  cases hx with
  | sl hr o len cap hl =>
  rename_i b cp
  split at hs
  case h_2 => cases hs
  rename_i sz l hh m hsz h1 h2 h3
  cases hq : P.info? e with
  | none => simp [sizeT, hq] at hsz
  | some ti =>
  simp [sizeT, hq] at hsz
  subst hsz
  split at hs
  ·rename_i hmu
   split at hs
   case isFalse => cases hs
   rename_i hml
   have hcl : capOf cp len = len := by simp [capOf, hml.2.2]
   obtain ⟨m', hm1, hm2, a1, a2, a3, hrel⟩ := cut_rel hr (by rw [hcl]; exact Nat.le_refl _) hs
   obtain rfl := hm1 ⟨by omega, hml.2.2⟩
   refine Keeps.mk (runS e ti b o len _ l hh m' hu hq ?_) hrel
   obtain ⟨mv, rfl⟩ := Option.isSome_iff_exists.1 hmu.1
   refine run_bounds r1 r2 r3 h1 h2 ⟨cap, h3, by simp⟩ a1 a2 (by omega) (fun hh => ?_)
   have := hh.2
   cases hi
   ·simp at hml
   ·simp at this
  rename_i hmu
  split at hs
  case isTrue => cases hs
  rename_i hmx
  obtain ⟨m', hm1, hm2, a1, a2, a3, hrel⟩ := cut_rel hr hl hs
  refine Keeps.mk (runS e ti b o len _ l hh m' hu hq ?_) hrel
  by_cases hc : cap < unk
  ·have hcap : capOf cp cap = cap := by simp [capOf, hc]
   have hmu : m < unk := by
    have := hs
    unfold cutSlice at this
    simp only [hc, if_true] at this
    split at this
    ·omega
    ·cases this
   obtain rfl := hm1 ⟨hmu, hc⟩
   refine run_bounds r1 r2 r3 h1 h2 ⟨cap, h3, fun hn => ?_⟩ a1 a2 a3 (fun hh => hmx ⟨hh.1, .inl hh.2⟩)
   subst hn; simp [hiOf] at h3; omega
  ·obtain ⟨rfl, rfl⟩ := hm2 (by omega)
   have hmxn : mx = none := by
    cases mx with
    | none => rfl
    | some _ => exact absurd ⟨rfl, .inr (by omega)⟩ hmx
   subst hmxn
   exact run_bounds r1 r2 r3 h1 h2 ⟨capOf cp m, rfl, fun _ => rfl⟩ a1 a2 a3 (by simp)
 ·rename_i e n cs hu
  split at hs
  case h_2 => cases hs
  rename_i sz l hh m hsz h1 h2 h3
  split at hs
  case isTrue => cases hs
  rename_i hmx
  cases hq : P.info? e with
  | none => simp [sizeT, hq] at hsz
  | some ti =>
  simp [sizeT, hq] at hsz
  subst hsz
  have hle := cutImm_le hs
  cases hx with
  | imm o _ cap hfb hn ho hx =>
   rename_i b arr
   have : ∃ m', (mx.isSome = true → m' = m) ∧ hh ≤ m' ∧ (Instr.sliceBounds true n cap lo' hi' mx').run P w = .ok (l, hh, m') w := by
    cases mx with
    | none => exact ⟨cap, by simp, by omega, run_bounds r1 r2 r3 h1 h2 ⟨cap, rfl, fun _ => rfl⟩ hle.1 (by omega) (Nat.le_refl _) (by simp)⟩
    | some _ => exact ⟨m, fun _ => rfl, hle.2.1, run_bounds r1 r2 r3 h1 h2 ⟨n, h3, by simp⟩ hle.1 hle.2.1 (by omega) hmx⟩
   obtain ⟨m', e1, e2, e3⟩ := this
   exact Keeps.mk (runS e ti b o n cap l hh m' hu hq e3) (cutImm_rel hfb ho hx hs e1 e2)
  | immZ a c ha =>
   have e1 : l = 0 := by omega
   have e2 : hh = 0 := by omega
   have e3 : m = 0 := by omega
   subst e1; subst e2; subst e3
   cases hmx2 : mx.isSome with
   | true =>
    have hb : (Instr.sliceBounds true 0 c lo' hi' mx').run P w = .ok (0, 0, 0) w :=
     run_bounds r1 r2 r3 h1 h2 ⟨0, h3, fun hn => by rw [hn] at hmx2; cases hmx2⟩ (Nat.le_refl _) (Nat.le_refl _) (Nat.zero_le _) hmx
    have hrun : (Instr.sliceAt t (.slice a 0 c) lo' hi' mx').run P w = .ok (.slice a 0 0) w := by
     cases a with
     | none =>
      obtain rfl := ha rfl
      simp [Instr.sliceAt, run_underlying hu, Instr.slice, hb, sizeOf, typeInfo, hq]
     | some a => simp [Instr.sliceAt, run_underlying hu, Instr.slice, hb, sizeOf, typeInfo, hq]
    refine Keeps.mk hrun ?_
    unfold cutImm at hs
    simp [hmx2] at hs
    obtain rfl : _ = v := by simpa using hs
    exact .z0 a trivial
   | false =>
    have hmn : mx = none := by cases mx <;> simp at hmx2 ⊢
    subst hmn
    have hb : (Instr.sliceBounds true 0 c lo' hi' mx').run P w = .ok (0, 0, c) w :=
     run_bounds r1 r2 r3 h1 h2 ⟨c, rfl, fun _ => rfl⟩ (Nat.le_refl _) (Nat.zero_le _) (Nat.le_refl _) hmx
    have hrun : (Instr.sliceAt t (.slice a 0 c) lo' hi' mx').run P w = .ok (.slice a 0 c) w := by
     cases a with
     | none =>
      obtain rfl := ha rfl
      simp [Instr.sliceAt, run_underlying hu, Instr.slice, hb, sizeOf, typeInfo, hq]
     | some a =>
      by_cases hc0 : c = 0
      ·subst hc0; simp [Instr.sliceAt, run_underlying hu, Instr.slice, hb, sizeOf, typeInfo, hq]
      ·simp [Instr.sliceAt, run_underlying hu, Instr.slice, hb, sizeOf, typeInfo, hq, Addr.add, Ne.symm hc0]
    refine Keeps.mk hrun ?_
    unfold cutImm at hs
    simp at hs
    obtain rfl : _ = v := by simpa using hs
    exact .immZ a c ha
 ·rename_i e hu
  cases hx
  split at hs
  case h_2 => cases hs
  rename_i sz hsz h1 h2 h3
  split at hs
  case isTrue => cases hs
  rename_i hmx
  obtain rfl : _ = v := by simpa using hs
  refine Keeps.mk ?_ .snil
  have hb : (Instr.sliceBounds true 0 0 lo' hi' mx').run P w = .ok (0, 0, 0) w :=
   run_bounds r1 r2 r3 h1 h2 ⟨0, h3, fun _ => rfl⟩ (Nat.le_refl _) (Nat.le_refl _) (Nat.le_refl _) hmx
  cases hq : P.info? e with
  | none => simp [sizeT, hq] at hsz
  | some ti => simp [Instr.sliceAt, run_underlying hu, Instr.slice, hb, sizeOf, typeInfo, hq]
 ·rename_i e hu
  cases hx with
  | z0 a ha =>
  split at hs
  case h_2 => cases hs
  rename_i sz hsz h1 h2 h3
  split at hs
  case isTrue => cases hs
  rename_i hmx
  obtain rfl : _ = v := by simpa using hs
  refine Keeps.mk ?_ (.z0 a trivial)
  have hb : (Instr.sliceBounds true 0 0 lo' hi' mx').run P w = .ok (0, 0, 0) w :=
   run_bounds r1 r2 r3 h1 h2 ⟨0, h3, fun _ => rfl⟩ (Nat.le_refl _) (Nat.le_refl _) (Nat.le_refl _) hmx
  cases hq : P.info? e with
  | none => simp [sizeT, hq] at hsz
  | some ti => cases a <;> simp [Instr.sliceAt, run_underlying hu, Instr.slice, hb, sizeOf, typeInfo, hq]
 ·rename_i n e i o hu
  cases hx with
  | ptr hr o =>
  rename_i b cp
  split at hs
  case h_2 => cases hs
  rename_i sz l hh m hsz h1 h2 h3
  split at hs
  case isTrue => cases hs
  rename_i hmx
  split at hs
  case isFalse => cases hs
  rename_i hnu
  cases hq : P.info? e with
  | none => simp [sizeT, hq] at hsz
  | some ti =>
  simp [sizeT, hq] at hsz
  subst hsz
  have hcap : capOf cp n = n := by simp [capOf, hnu]
  obtain ⟨m', hm1, hm2, a1, a2, a3, hrel⟩ := cut_rel hr (by rw [hcap]; exact Nat.le_refl _) hs
  rw [hcap] at a3
  have hmu : m < unk := by
   have := hs
   unfold cutSlice at this
   simp only [hnu, if_true] at this
   split at this
   ·omega
   ·cases this
  obtain rfl := hm1 ⟨hmu, hnu⟩
  exact Keeps.mk (runA e ti b o n l hh m' hu hq (run_bounds r1 r2 r3 h1 h2 ⟨n, h3, fun hn => by subst hn; simp [hiOf] at h3; omega⟩ a1 a2 a3 hmx)) hrel
 ·rename_i n e cs hu
  cases hx with
  | «at» o hfb ho hx =>
  rename_i b arr
  split at hs
  case h_2 => cases hs
  rename_i sz l hh m hsz h1 h2 h3
  split at hs
  case isTrue => cases hs
  rename_i hmx
  cases hq : P.info? e with
  | none => simp [sizeT, hq] at hsz
  | some ti =>
  simp [sizeT, hq] at hsz
  subst hsz
  have hle := cutImm_le hs
  refine Keeps.mk (runA e ti b o n l hh m hu hq (run_bounds r1 r2 r3 h1 h2 ⟨n, h3, fun hn => by subst hn; simp [hiOf] at h3; omega⟩ hle.1 hle.2.1 hle.2.2 hmx)) (cutImm_rel hfb ho hx hs (fun _ => rfl) hle.2.1)
 ·rename_i s hu
  cases hx
  split at hs
  case h_2 => cases hs
  rename_i l hh h1 h2
  split at hs
  case isFalse => cases hs
  rename_i hb
  obtain rfl : _ = v := by simpa using hs
  refine Keeps.mk ?_ (.string _)
  cases r3
  have hb : (Instr.sliceBounds false s.size s.size lo' hi' none).run P w = .ok (l, hh, s.size) w :=
   run_bounds r1 r2 .none h1 h2 ⟨s.size, rfl, fun _ => rfl⟩ hb.1 hb.2 (Nat.le_refl _) (by simp)
  simp [Instr.sliceAt, run_underlying hu, Instr.slice, hb]
 ·cases hs
def made {α : Type} (z : List α) (n : Nat) : List α := (List.replicate n z).flatten
theorem made_succ {α : Type} (z : List α) (n : Nat) : made z (n + 1) = made z n ++ z := by simp [made, List.replicate_succ']
theorem length_made {α : Type} (z : List α) (n : Nat) : (made z n).length = n * z.length := by
 induction n with
 | zero => simp [made]
 | succ n ih => rw [made_succ, List.length_append, ih, Nat.succ_mul]
theorem made_one {α : Type} (z : α) (n : Nat) : made [z] n = List.replicate n z := by
 induction n with
 | zero => rfl
 | succ n ih => rw [made_succ, ih]; simp [List.replicate_succ']
theorem made_eq (z : Array Value) (n : Nat) : (madeCells z (n * z.size)).toList = made z.toList n := by
 have e : ∀ k, (madeCells z k).toList = (List.range k).map (fun i => z[i % z.size]!) := fun k => by simp [madeCells]
 rw [e]
 induction n with
 | zero => simp [made]
 | succ n ih =>
  rw [Nat.succ_mul, List.range_add, List.map_append, ih, made_succ]
  congr 1
  apply List.ext_getElem
  ·simp
  ·intro k h1 h2
   have hk : k < z.size := by simpa using h2
   simp [Nat.mod_eq_of_lt hk, hk]
theorem LRel.made {ρ : Ren} {z : List V} {z' : List Value} (h : LRel ρ z z') (n : Nat) : LRel ρ (made z n) (made z' n) := by
 induction n with
 | zero => simp [Ab.made, LRel.nil]
 | succ n ih => rw [made_succ, made_succ]; exact ih.append h
def aMake (P : Program) (t : TypeId) (l c : V) (h : AHeap) : Option (V × AHeap) :=
 match elemT P t, natOf l, natOf c with
 | some e, some l, some c =>
  match zeroC P e, bytesT P e with
  | some zs, some bs => if some zs.length = sizeT P e ∧ l ≤ c ∧ bs * c ≤ 140737488355328 ∧ c ≤ 140737488355328 then
    some (.sl h.n 0 l c, h.push (.cells (made zs c) e none)) else none
  | _, _ => none
 | _, _, _ => none
theorem aMake_sound {P : Program} {t : TypeId} {l c v : V} {l' c' : Value} {h h' : AHeap} (hs : aMake P t l c h = some (v, h')) {ρ : Ren} {B : Nat} {w0 w : World} (R : WRel ρ B w0 h w)
  (hl : VRel ρ l l') (hc : VRel ρ c c') : Yields P (Instr.makeSlice t l' c') ρ B w0 w v h' := by
 unfold aMake at hs
 split at hs
 case h_2 => cases hs
 rename_i e ln cn he h1 h2
 split at hs
 case h_2 => cases hs
 rename_i zs bs hzs hbs
 split at hs
 case isFalse => cases hs
 rename_i hcond
 obtain ⟨c1, c3, c4, c5⟩ := hcond
 simp at hs
 obtain ⟨rfl, rfl⟩ := hs
 obtain ⟨z, hz, hrel⟩ := zeroC_rel hzs
 obtain ⟨k1, rfl⟩ := natOf_sound h1 hl
 obtain ⟨k2, rfl⟩ := natOf_sound h2 hc
 have hu : P.underlying t = some (.slice e) := by
  unfold elemT at he
  split at he
  ·rename_i hu; rw [hu]; simpa using he
  ·cases he
 cases hq : P.info? e with
 | none => simp [zeroT, hq] at hz
 | some ti =>
  simp [zeroT, hq] at hz
  simp [bytesT, hq] at hbs
  simp [sizeT, hq] at c1
  have hzl := (hrel ρ).1
  simp at hzl
  have hr := run_make (P := P) w t e ti z hu hq hz k1 k2 (ln : Int) (cn : Int) (by omega) (by omega) (by rw [hbs]; omega) (by omega)
  have hmade : (madeCells z.cells (cn * ti.size)).toList = made z.cells.toList cn := by rw [← c1, hzl]; exact made_eq _ _
  have hmk : madeCells z.cells (cn * ti.size) = (made z.cells.toList cn).toArray := by rw [← hmade]
  simp only [Int.toNat_natCast, hmk] at hr
  obtain ⟨ρ', hle, hn, R'⟩ := push_yields R e ((hrel ρ).made cn) cn
  refine ⟨ρ', _, _, hr, ?_, R', hle⟩
  have hcu : cn < unk := by unfold unk; omega
  have := VRel.sl hn 0 ln cn (by simp [capOf, hcu, c3])
  simpa [capOf, hcu] using this
end Go.Proofs.YtfcjehlhoebmnaaGreatDoor.Ab
namespace Go.Proofs.YtfcjehlhoebmnaaGreatDoor.Ab
open Go Go.RowKit
set_option linter.unusedVariables false
def aSrc (P : Program) (sz : Nat) (tx : TypeId) (x : V) (h : AHeap) : Option (Nat × List V) :=
 match P.underlying tx, x with
 | some (.slice _), .snil => some (0, [])
 | some (.slice _), .z0 => some (0, [])
 | some (.slice _), .e0 => some (0, [])
 | some (.slice _), .imm n cs => if cs.length = n * sz ∧ cs.all (·.one) = true then some (n, cs) else none
 | some (.slice _), .sl i o n _ =>
  match h.get i with
  | .cells c _ _ => if o + n * sz ≤ c.length ∧ ((c.drop o).take (n * sz)).all (·.one) = true then some (n, (c.drop o).take (n * sz)) else none
  | _ => none
 | some .string, .string s => if sz = 1 then some (s.size, (byteCells s).map absF) else none
 | _, _ => none
theorem byteCells_flat (s : ByteArray) : (byteCells s).map absF = s.data.toList.map fun b => V.int .u8 b.toNat := by simp [byteCells, absF]
theorem byteCells_rel (ρ : Ren) (s : ByteArray) : LRel ρ ((byteCells s).map absF) (byteCells s) := LRel.of_map (absF_rel ρ) _
theorem aSrc_sound {P : Program} {sz : Nat} {tx : TypeId} {x : V} {x' : Value} {h : AHeap} {n : Nat} {news : List V} (hs : aSrc P sz tx x h = some (n, news)) {ρ : Ren} {B : Nat} {w0 w : World} (R : WRel ρ B w0 h w)
  (hx : VRel ρ x x') : ∃ news', Src P sz tx x' n news' w ∧ LRel ρ news news' ∧ news.length = n * sz ∧ news.all (·.one) = true := by
 unfold aSrc at hs
 split at hs
 ·rename_i e hu
  cases hx
  simp at hs
  obtain ⟨rfl, rfl⟩ := hs
  exact ⟨[], Src.ofNil w hu 0, .nil ρ, by simp, rfl⟩
 ·rename_i e hu
  simp at hs
  obtain ⟨rfl, rfl⟩ := hs
  cases hx with
  | z0 a ha =>
   cases a with
   | none => exact ⟨[], Src.ofNil w hu 0, .nil ρ, by simp, rfl⟩
   | some a => exact ⟨[], Src.ofSlice w hu a 0 0 [] (by simp) (by simp) (by simp), .nil ρ, by simp, rfl⟩
 ·rename_i e hu
  simp at hs
  obtain ⟨rfl, rfl⟩ := hs
  cases hx with
  | e0 a c => exact ⟨[], Src.ofSlice w hu a 0 c [] (by simp) (by simp) (by simp), .nil ρ, by simp, rfl⟩
 ·rename_i e m cs hu
  split at hs
  case isFalse => cases hs
  rename_i hc
  simp at hs
  obtain ⟨rfl, rfl⟩ := hs
  rcases hx.imm_inv with ⟨rfl, rfl, a, ca, ha, rfl⟩ | ⟨b, o, cap, arr, hb, hn, ho, hx2, rfl⟩
  ·cases a with
   | none =>
    obtain rfl := ha rfl
    exact ⟨[], Src.ofNil w hu 0, .nil ρ, by simp, rfl⟩
   | some a => exact ⟨[], Src.ofSlice w hu a 0 ca [] (by simp) (by simp) (by simp), .nil ρ, by simp, rfl⟩
  ·have hA : VRel ρ (.at cs) (.pointer (some ⟨b, o, none⟩)) := .at o hb ho hx2
   obtain ⟨b2, o2, he, hcs⟩ := place_sound R.heap hA (cs := cs) rfl
   simp at he
   obtain ⟨rfl, rfl⟩ := he
   obtain ⟨vs, h1, h2, h3⟩ := hcs cs.length (Nat.le_refl _)
   rw [List.take_length] at h2
   exact ⟨vs, Src.ofSlice w hu ⟨b, o, none⟩ m cap vs (by rw [h3, hc.1]) (fun j u hu => by rw [Addr.add_mid]; exact h1 j u hu) (h2.one hc.2), h2, hc.1, hc.2⟩
 ·rename_i e i o n2 cap hu
  obtain ⟨b, cp, hi, hl, rfl⟩ := hx.sl_inv
  split at hs
  case h_2 => cases hs
  rename_i c e2 ex hg
  split at hs
  case isFalse => cases hs
  rename_i hc
  simp at hs
  obtain ⟨rfl, rfl⟩ := hs
  have hP : VRel ρ (.ptr i o) (.pointer (some ⟨b, o, none⟩)) := .ptr hi o
  obtain ⟨b2, o2, he, hcs⟩ := place_sound R.heap hP (cs := c.drop o) (by simp [aPlace, hg]; omega)
  simp at he
  obtain ⟨rfl, rfl⟩ := he
  obtain ⟨vs, h1, h2, h3⟩ := hcs (n2 * sz) (by simp; omega)
  exact ⟨vs, Src.ofSlice w hu ⟨b, o, none⟩ n2 (capOf cp cap) vs h3 (fun j u hu => by rw [Addr.add_mid]; exact h1 j u hu) (h2.one hc.2), h2, by simp; omega, hc.2⟩
 ·rename_i s hu
  cases hx
  split at hs
  case isFalse => cases hs
  rename_i h1
  subst h1
  simp at hs
  obtain ⟨rfl, rfl⟩ := hs
  have hS := Src.ofString w hu s
  refine ⟨byteCells s, hS, byteCells_rel ρ s, by simp [hS.newsLen], ?_⟩
  rw [byteCells_flat, List.all_eq_true]
  intro v hv
  obtain ⟨b, _, rfl⟩ := List.mem_map.1 hv
  rfl
 ·cases hs
theorem WRel.move {ρ : Ren} {B : Nat} {w0 : World} {h : AHeap} {w w' : World} (R : WRel ρ B w0 h w) {i b cp : Nat} (hi : ρ.ren i = some (b, cp)) (hlv : h.get i ≠ .dead)
  {c : List V} {arr : Array Value} {e : TypeId} {ex : Option Nat}
  (hold : ∀ k, k ≠ b → w'.heap[k]? = w.heap[k]?) (hnew : w'.heap[b]? = some (.cells arr e (0, 0))) (hsz : w.heap.size ≤ w'.heap.size)
  (hb : Bel B w w') (hc : c.length ≤ arr.size) (hl : LRel ρ c (arr.toList.take c.length)) (hx : XRel ex cp arr.size c.length) :
  ∃ ρ' : Ren, ρ.le ρ' ∧ ρ'.ren h.n = some (b, cp) ∧ WRel ρ' B w0 ((h.set i .dead).push (.cells c e ex)) w' := by
 have hle := Ren.le_add (R.heap.dom _ (Nat.le_refl _)) b cp
 have hin : i < h.n := R.heap.lt hi
 obtain ⟨b0, cp0, hr0, hbs, _, hfb, hBb⟩ := R.heap.live hlv
 rw [hr0] at hi; simp at hi
 obtain ⟨rfl, rfl⟩ := hi
 refine ⟨_, hle, Ren.add_new, ⟨⟨fun j hj => ?_, fun j k b' c1 c2 hj hk h1 h2 => ?_, fun j => ?_, fun k a hk => ?_, fun g cs hg => ?_, Nat.le_trans R.heap.base hsz⟩, R.below.trans hb⟩⟩
 ·simp only [AHeap.push, AHeap.set] at hj
  simp [Ren.add, show j ≠ h.n by omega, R.heap.dom j (by omega)]
 ·simp only [AHeap.push, AHeap.set] at hj hk
  simp only [Ren.add] at h1 h2
  by_cases hjn : j = h.n <;> by_cases hkn : k = h.n
  ·omega
  ·simp [hjn] at h1; simp [hkn] at h2 hk
   obtain ⟨rfl, rfl⟩ := h1
   have := R.heap.inj i k b0 cp0 c2 hlv hk.2 hr0 h2
   exact absurd this.symm hk.1
  ·simp [hkn] at h2; simp only [hjn, if_false] at h1 hj
   obtain ⟨rfl, rfl⟩ := h2
   by_cases hji : j = i
   ·simp [hji] at hj
   ·simp only [hji, if_false] at hj
    have := R.heap.inj j i b0 c1 cp0 hj hlv h1 hr0
    exact absurd this hji
  ·simp only [hjn, if_false] at h1 hj; simp [hkn] at h2 hk
   by_cases hji : j = i
   ·simp [hji] at hj
   ·simp only [hji, if_false] at hj
    exact R.heap.inj j k b' c1 c2 hj hk.2 h1 h2
 ·by_cases hjn : j = h.n
  ·subst hjn
   simp only [AHeap.push, AHeap.set, if_true]
   exact ⟨b0, cp0, arr, Ren.add_new, hfb, hBb, hnew, hc, hl.mono hle, hx⟩
  ·simp only [AHeap.push, AHeap.set, hjn, if_false]
   by_cases hji : j = i
   ·subst hji; simp only [if_true]; trivial
   ·simp only [hji, if_false]
    by_cases hd : h.get j = .dead
    ·rw [hd]; trivial
    ·refine (R.heap.obj j).keep hle fun b2 c1 hr => ⟨hold b2 ?_, fun h => h⟩
     intro hbb
     subst hbb
     exact hji (R.heap.inj i j b2 cp0 c1 hlv hd hr0 hr).symm
 ·obtain ⟨e', fz, hw⟩ := R.heap.frz k a hk
  have : k ≠ b0 := by intro hh; subst hh; simp only [Ren.add] at hk; rw [hfb] at hk; cases hk
  exact ⟨e', fz, (hold k this).trans hw⟩
 ·obtain ⟨arr', hf', hr'⟩ := R.heap.glob g cs hg
  exact ⟨arr', hf', hr'.mono hle⟩
def lim : Nat := 140737488355328
def aAppZ (P : Program) (tx e : TypeId) (zs : List V) (sz bs : Nat) (s x : V) (h : AHeap) : Option (V × AHeap) :=
 match P.underlying tx, x, s with
 | some (.int _), .int _ n, .sl i o len cap =>
  match h.get i with
  | .cells c _ _ =>
   if 0 < n ∧ cap < unk ∧ cap < len + n.toNat ∧ (len + n.toNat) * bs ≤ lim ∧ len + n.toNat ≤ lim ∧ o + len * sz ≤ c.length ∧ 0 < sz then
    some (.sl h.n 0 (len + n.toNat) unk, h.push (.cells ((c.drop o).take (len * sz) ++ made zs n.toNat) e (some sz)))
   else none
  | _ => none
 | _, _, _ => none
def aAppend (P : Program) (t tx : TypeId) (s x : V) (h : AHeap) : Option (V × AHeap) :=
 match elemT P t with
 | none => none
 | some e =>
 match zeroC P e, sizeT P e, bytesT P e with
 | some zs, some sz, some bs =>
  if zs.length = sz then
   match aSrc P sz tx x h with
   | none => aAppZ P tx e zs sz bs s x h
   | some (n, news) =>
    match s with
    | .snil =>
     if n = 0 then some (.snil, h)
     else if n * bs ≤ lim ∧ n ≤ lim then some (.sl h.n 0 n unk, h.push (.cells news e (some sz))) else none
    | .z0 =>
     if n = 0 then some (.z0, h)
     else if n * bs ≤ lim ∧ n ≤ lim then some (.sl h.n 0 n unk, h.push (.cells news e (some sz))) else none
    | .sl i o len cap =>
     if n = 0 then some (.sl i o len cap, h)
     else if (len + n) * bs ≤ lim ∧ len + n ≤ lim then
      match h.get i with
      | .cells c e2 ex =>
       if cap < unk then
        if len + n ≤ cap then
         if o + (len + n) * sz ≤ c.length then some (.sl i o (len + n) cap, h.set i (.cells (lay c (o + len * sz) news) e2 ex)) else none
        else if o + len * sz ≤ c.length then some (.sl h.n 0 (len + n) unk, h.push (.cells ((c.drop o).take (len * sz) ++ news) e (some sz))) else none
       else if o = 0 ∧ cap = unk ∧ ex = some sz ∧ len * sz ≤ c.length ∧ e2 = e then
         some (.sl h.n 0 (len + n) unk, (h.set i .dead).push (.cells (c.take (len * sz) ++ news) e (some sz)))
        else none
      | _ => none
     else none
    | _ => none
  else none
 | _, _, _ => none
theorem run_append_room_h {P : Program} (w w' : World) (t tx ty e : TypeId) (i : TypeInfo) (ht : P.underlying t = some (.slice e)) (hi : P.info? e = some i) (b off sLen sCap : Nat) (x : Value) (n : Nat) (news : List Value)
  (hs : Src P i.size tx x n news w) (hroom : sLen + n ≤ sCap) (hst : (storeCells ⟨b, off + sLen * i.size, none⟩ news).run P w = .ok () w') :
  (Builtin.append_ #[t, tx] ty #[.slice (some ⟨b, off, none⟩) sLen sCap, x]).run P w = .ok (.slice (some ⟨b, off, none⟩) (sLen + n) sCap) w' := by
 rcases hs.kind with ⟨e', hk⟩ | hk <;> simp [Builtin.append_, run_underlying ht, run_underlying hk, sizeOf, typeInfo, hi, hs.len, hroom, hs.cells, Addr.add_lit, hst]
theorem run_append_none_h {P : Program} (w : World) (t tx ty e : TypeId) (i : TypeInfo) (ht : P.underlying t = some (.slice e)) (hi : P.info? e = some i) (x : Value) (news : List Value)
  (hs : Src P i.size tx x 0 news w) :
  (Builtin.append_ #[t, tx] ty #[.slice none 0 0, x]).run P w = .ok (.slice none 0 0) w := by
 have hl := hs.newsLen
 simp at hl
 subst hl
 rcases hs.kind with ⟨e', hk⟩ | hk <;> simp [Builtin.append_, run_underlying ht, run_underlying hk, sizeOf, typeInfo, hi, hs.len, hs.cells]
theorem grow_sound {P : Program} {t tx ty e : TypeId} {ti : TypeInfo} {z : Value} (hu : P.underlying t = some (.slice e)) (hq : P.info? e = some ti) (hz : ti.zero = some z) (hzs : z.cells.size = ti.size)
  {h : AHeap} {ρ : Ren} {B : Nat} {w0 w : World} (R : WRel ρ B w0 h w) {base : Option Addr} {sLen sCap n : Nat} {olds news : List V} {olds' news' : List Value} {x' : Value}
  (hold : (Builtin.firstCells ti.size sLen (.slice base sLen sCap)).run P w.drew = .ok olds'.toArray w.drew) (hro : LRel ρ olds olds') (hlo : olds.length = sLen * ti.size)
  (hS : Src P ti.size tx x' n news' w) (hrn : LRel ρ news news') (hg : sCap < sLen + n) (h1 : (sLen + n) * ti.bytes ≤ lim) (h2 : sLen + n ≤ lim) :
  Yields P (Builtin.append_ #[t, tx] ty #[.slice base sLen sCap, x']) ρ B w0 w (.sl h.n 0 (sLen + n) unk) (h.push (.cells (olds ++ news) e (some ti.size))) := by
 unfold lim at h1 h2
 have hfit : Builtin.nextslicecap (sLen + n) sCap * ti.bytes ≤ 281474976710656 := by
  have := nextslicecap_le hg
  calc _ ≤ (2 * (sLen + n)) * ti.bytes := Nat.mul_le_mul_right _ this
   _ = 2 * ((sLen + n) * ti.bytes) := by rw [Nat.mul_assoc]
   _ ≤ _ := by omega
 have hrun := run_append_grow_src w t tx ty e ti z hu hq hz base sLen sCap olds' hold x' n news' hS hg (by omega) hfit
 have hge := grownCap_ge w (sLen + n) sCap e
 have hlen : (olds' ++ news').length = (sLen + n) * ti.size := by
  rw [List.length_append, ← hro.1, hlo, hS.newsLen, Nat.add_mul]
 obtain ⟨ρ', hle, hn, R'⟩ := R.drew.push (c := olds ++ news) (arr := (olds' ++ news').toArray ++ Builtin.zeroCells z.cells (grownCap w (sLen + n) sCap e - (sLen + n))) (e := e) (ex := some ti.size)
  (w' := w.drew.alloc (.cells ((olds' ++ news').toArray ++ Builtin.zeroCells z.cells (grownCap w (sLen + n) sCap e - (sLen + n))) e)) (grownCap w (sLen + n) sCap e)
  (by simp) (fun k hk => Below.heap_alloc w.drew _ k hk) (heap_alloc_new w.drew _) ((Bel.refl _ _).alloc R.drew.heap.base _)
  (by rw [(hro.append hrn).1]; simp)
  (by
   rw [(hro.append hrn).1]
   have e1 : ((olds' ++ news').toArray ++ Builtin.zeroCells z.cells (grownCap w (sLen + n) sCap e - (sLen + n))).toList.take (olds' ++ news').length = olds' ++ news' := by
    simp only [Array.toList_append]
    exact List.take_left
   rw [e1]
   exact hro.append hrn)
  (by
   refine ⟨?_, ?_⟩
   ·rw [Array.size_append, size_zeroCells, hzs, List.size_toArray, hlen, ← Nat.add_mul]
    congr 1
    omega
   ·have := grownCap_le_maxLen w (sLen + n) sCap e (by simp only [maxLen]; omega)
    simp only [maxLen] at this
    omega)
 refine ⟨ρ', _, _, hrun, ?_, R', hle⟩
 have := VRel.sl (ρ := ρ') hn 0 (sLen + n) unk (by simp [capOf, hge])
 simpa [capOf] using this
theorem growZ_sound {P : Program} {t tn ty e : TypeId} {ti : TypeInfo} {z : Value} {kq kn : IntKind} (hu : P.underlying t = some (.slice e)) (hn : P.underlying tn = some (.int kn)) (hq : P.info? e = some ti) (hz : ti.zero = some z) (hzs : z.cells.size = ti.size)
  {h : AHeap} {ρ : Ren} {B : Nat} {w0 w : World} (R : WRel ρ B w0 h w) {base : Option Addr} {sLen sCap n : Nat} {olds zs : List V} {olds' : List Value}
  (hold : (Builtin.firstCells ti.size sLen (.slice base sLen sCap)).run P w.drew = .ok olds'.toArray w.drew) (hro : LRel ρ olds olds') (hlo : olds.length = sLen * ti.size)
  (hzr : LRel ρ zs z.cells.toList) (h0 : 0 < n) (hs : 0 < ti.size) (hg : sCap < sLen + n) (h1 : (sLen + n) * ti.bytes ≤ lim) (h2 : sLen + n ≤ lim) :
  Yields P (Builtin.append_ #[t, tn] ty #[.slice base sLen sCap, .int kq n]) ρ B w0 w (.sl h.n 0 (sLen + n) unk) (h.push (.cells (olds ++ made zs n) e (some ti.size))) := by
 unfold lim at h1 h2
 have hfit : Builtin.nextslicecap (sLen + n) sCap * ti.bytes ≤ 281474976710656 := by
  have := nextslicecap_le hg
  calc _ ≤ (2 * (sLen + n)) * ti.bytes := Nat.mul_le_mul_right _ this
   _ = 2 * ((sLen + n) * ti.bytes) := by rw [Nat.mul_assoc]
   _ ≤ _ := by omega
 have hnb : n * ti.bytes ≤ 281474976710656 := Nat.le_trans (Nat.mul_le_mul_right _ (Nat.le_add_left n sLen)) (by omega)
 have hrun := Lib.run_append_grow_zeros w t tn ty e ti z kq kn hu hn hq hz base sLen sCap olds' hold n h0 hs hg (by omega) hnb hfit
 have hge := grownCap_ge w (sLen + n) sCap e
 have hzl : (Builtin.zeroCells z.cells n).toList = made z.cells.toList n := made_eq z.cells n
 have hrn : LRel ρ (made zs n) (Builtin.zeroCells z.cells n).toList := by rw [hzl]; exact hzr.made n
 have hro2 := hro.append hrn
 have hlen : (olds' ++ (Builtin.zeroCells z.cells n).toList).length = (sLen + n) * ti.size := by
  rw [List.length_append, ← hro.1, hlo, hzl, length_made, Array.length_toList, hzs, Nat.add_mul]
 obtain ⟨ρ', hle, hn', R'⟩ := R.drew.push (c := olds ++ made zs n) (arr := olds'.toArray ++ Builtin.zeroCells z.cells n ++ Builtin.zeroCells z.cells (grownCap w (sLen + n) sCap e - (sLen + n))) (e := e) (ex := some ti.size)
  (w' := w.drew.alloc (.cells (olds'.toArray ++ Builtin.zeroCells z.cells n ++ Builtin.zeroCells z.cells (grownCap w (sLen + n) sCap e - (sLen + n))) e)) (grownCap w (sLen + n) sCap e)
  (by simp) (fun k hk => Below.heap_alloc w.drew _ k hk) (heap_alloc_new w.drew _) ((Bel.refl _ _).alloc R.drew.heap.base _)
  (by rw [hro2.1]; simp)
  (by
   rw [hro2.1]
   have e1 : (olds'.toArray ++ Builtin.zeroCells z.cells n ++ Builtin.zeroCells z.cells (grownCap w (sLen + n) sCap e - (sLen + n))).toList.take (olds' ++ (Builtin.zeroCells z.cells n).toList).length = olds' ++ (Builtin.zeroCells z.cells n).toList := by
    simp only [Array.toList_append]
    exact List.take_left
   rw [e1]
   exact hro2)
  (by
   refine ⟨?_, ?_⟩
   ·have q : (olds'.toArray ++ Builtin.zeroCells z.cells n).size = (sLen + n) * ti.size := by rw [← hlen]; simp
    rw [Array.size_append, size_zeroCells, hzs, q, ← Nat.add_mul]
    congr 1
    omega
   ·have := grownCap_le_maxLen w (sLen + n) sCap e (by simp only [maxLen]; omega)
    simp only [maxLen] at this
    omega)
 refine ⟨ρ', _, _, hrun, ?_, R', hle⟩
 have := VRel.sl (ρ := ρ') hn' 0 (sLen + n) unk (by simp [capOf, hge])
 simpa [capOf] using this
theorem aAppend_sound {P : Program} {t tx ty : TypeId} {s x v : V} {s' x' : Value} {h h' : AHeap} (hs : aAppend P t tx s x h = some (v, h')) {ρ : Ren} {B : Nat} {w0 w : World} (R : WRel ρ B w0 h w)
  (hr : VRel ρ s s') (hx : VRel ρ x x') : Yields P (Builtin.append_ #[t, tx] ty #[s', x']) ρ B w0 w v h' := by
 unfold aAppend at hs
 split at hs
 case h_1 => cases hs
 rename_i e he
 have hu : P.underlying t = some (.slice e) := by
  unfold elemT at he
  split at he
  ·rename_i hu; rw [hu]; simpa using he
  ·cases he
 split at hs
 case h_2 => cases hs
 rename_i zs sz bs hzz hsz hbs
 split at hs
 case isFalse => cases hs
 rename_i hzs
 obtain ⟨z, hz, hzrel⟩ := zeroC_rel hzz
 have hzs : z.cells.size = sz := by have := (hzrel ρ).1; simp at this; omega
 cases hq : P.info? e with
 | none => simp [zeroT, hq] at hz
 | some ti =>
 simp [zeroT, hq] at hz
 simp [bytesT, hq] at hbs
 simp [sizeT, hq] at hsz
 subst hsz
 subst hbs
 split at hs
 case h_1 =>
  unfold aAppZ at hs
  split at hs
  case h_2 => cases hs
  rename_i n i o len cap hni hsn
  split at hs
  case h_2 => cases hs
  rename_i c e2 ex hg
  split at hs
  case isFalse => cases hs
  rename_i hb
  obtain ⟨hn0, hcu, hcl, hb1, hb2, hfit, hs0⟩ := hb
  simp at hs
  obtain ⟨rfl, rfl⟩ := hs
  obtain ⟨b, cp, hi, hl, rfl⟩ := hr.sl_inv
  cases hx
  have hcap : capOf cp cap = cap := by simp [capOf, hcu]
  rw [hcap] at hl ⊢
  have hP : VRel ρ (.ptr i o) (.pointer (some ⟨b, o, none⟩)) := .ptr hi o
  obtain ⟨b2, o2, he2, hcs⟩ := place_sound R.drew.heap hP (cs := c.drop o) (by simp [aPlace, hg]; omega)
  simp at he2
  obtain ⟨rfl, rfl⟩ := he2
  obtain ⟨olds', hr1, hr2, hr3⟩ := hcs (len * ti.size) (by simp; omega)
  have hnn : n = ((n.toNat : Nat) : Int) := by omega
  rw [hnn]
  exact growZ_sound hu hni hq hz hzs R (run_firstCells_some (P := P) w.drew ti.size len ⟨b, o, none⟩ len cap olds' hr3 (fun j v hv => by rw [Addr.add_mid]; simpa using hr1 j v hv)) hr2 (by rw [hr2.1, hr3]) (hzrel ρ) (by omega) hs0 hcl hb1 hb2
 rename_i n news hsrc
 obtain ⟨news', hS, hrn, hln, hone⟩ := aSrc_sound hsrc R hx
 split at hs
 ·cases hr
  split at hs
  ·rename_i h0
   subst h0
   simp at hs
   obtain ⟨rfl, rfl⟩ := hs
   exact .same R (run_append_none_h w t tx ty e ti hu hq x' news' hS) .snil
  ·rename_i h0
   split at hs
   case isFalse => cases hs
   rename_i hb
   simp at hs
   obtain ⟨rfl, rfl⟩ := hs
   have := grow_sound (ty := ty) hu hq hz hzs R (base := none) (sLen := 0) (sCap := 0) (olds := []) (olds' := []) (by simpa using run_firstCells_none (P := P) w.drew ti.size 0 0 0) (.nil ρ) (by simp) hS hrn (by omega) (by simpa using hb.1) (by simpa using hb.2)
   simpa using this
 ·cases hr with
  | z0 a ha =>
  split at hs
  ·rename_i h0
   subst h0
   simp at hs
   obtain ⟨rfl, rfl⟩ := hs
   cases a with
   | none => exact .same R (run_append_none_h w t tx ty e ti hu hq x' news' hS) (.z0 none (by simp))
   | some a =>
    have hl0 : news' = [] := by have := hS.newsLen; simpa using this
    subst hl0
    have : (Builtin.append_ #[t, tx] ty #[.slice (some a) 0 0, x']).run P w = .ok (.slice (some a) 0 0) w := by
     rcases hS.kind with ⟨e', hk⟩ | hk <;> simp [Builtin.append_, run_underlying hu, run_underlying hk, sizeOf, typeInfo, hq, hS.len, hS.cells, storeCells]
    exact .same R this (.z0 _ ha)
  ·rename_i h0
   split at hs
   case isFalse => cases hs
   rename_i hb
   simp at hs
   obtain ⟨rfl, rfl⟩ := hs
   have := grow_sound (ty := ty) hu hq hz hzs R (base := a) (sLen := 0) (sCap := 0) (olds := []) (olds' := []) (by
    cases a with
    | none => simpa using run_firstCells_none (P := P) w.drew ti.size 0 0 0
    | some a => simpa using run_firstCells_some (P := P) w.drew ti.size 0 a 0 0 [] (by simp) (by simp)) (.nil ρ) (by simp) hS hrn (by omega) (by simpa using hb.1) (by simpa using hb.2)
   simpa using this
 ·rename_i i o len cap
  obtain ⟨b, cp, hi, hl, rfl⟩ := hr.sl_inv
  split at hs
  ·rename_i h0
   subst h0
   simp at hs
   obtain ⟨rfl, rfl⟩ := hs
   have hl0 : news' = [] := by have := hS.newsLen; simpa using this
   subst hl0
   refine .same R (v' := .slice (some ⟨b, o, none⟩) len (capOf cp cap)) ?_ (.sl hi o len cap hl)
   have := run_append_room_h (P := P) w w t tx ty e ti hu hq b o len (capOf cp cap) x' 0 [] hS (by omega) (by simp [storeCells])
   simpa using this
  ·rename_i h0
   split at hs
   case isFalse => cases hs
   rename_i hb
   split at hs
   case h_2 => cases hs
   rename_i c e2 ex hg
   have olds : ∀ w2 : World, WRel ρ B w0 h w2 → o + len * ti.size ≤ c.length → ∃ olds', w2.rangeAt b o olds' ∧ LRel ρ ((c.drop o).take (len * ti.size)) olds' ∧ olds'.length = len * ti.size := fun w2 R2 hfit => by
    have hP : VRel ρ (.ptr i o) (.pointer (some ⟨b, o, none⟩)) := .ptr hi o
    obtain ⟨b2, o2, he, hcs⟩ := place_sound R2.heap hP (cs := c.drop o) (by simp [aPlace, hg]; omega)
    simp at he
    obtain ⟨rfl, rfl⟩ := he
    exact hcs _ (by simp; omega)
   split at hs
   ·rename_i hcu
    have hcap : capOf cp cap = cap := by simp [capOf, hcu]
    rw [hcap]
    rw [hcap] at hl
    split at hs
    ·rename_i hroom
     split at hs
     case isFalse => cases hs
     rename_i hfit
     simp at hs
     obtain ⟨rfl, rfl⟩ := hs
     obtain ⟨w', hst, R'⟩ := write_sound (P := P) hg R hi (o + len * ti.size) hrn hone (by rw [hln]; have := Nat.add_mul len n ti.size; omega)
     have hrun := run_append_room_h w w' t tx ty e ti hu hq b o len cap x' n news' hS hroom hst
     refine ⟨ρ, _, _, hrun, ?_, R', Ren.le.refl ρ⟩
     have := VRel.sl hi o (len + n) cap (by rw [hcap]; exact hroom)
     rwa [hcap] at this
    ·rename_i hroom
     split at hs
     case isFalse => cases hs
     rename_i hfit
     simp at hs
     obtain ⟨rfl, rfl⟩ := hs
     obtain ⟨olds', ho1, ho2, ho3⟩ := olds w R hfit
     exact grow_sound hu hq hz hzs R (run_firstCells_some (P := P) w.drew ti.size len ⟨b, o, none⟩ len cap olds' ho3 (fun j v hv => by rw [Addr.add_mid]; simpa using ho1 j v hv)) ho2 (by rw [ho2.1, ho3]) hS hrn (by omega) hb.1 hb.2
   ·rename_i hcu
    split at hs
    case isFalse => cases hs
    rename_i hcond
    obtain ⟨rfl, rfl, rfl, hlc, rfl⟩ := hcond
    simp at hs
    obtain ⟨rfl, rfl⟩ := hs
    have hcap : capOf cp unk = cp := by simp [capOf]
    rw [hcap]
    rw [hcap] at hl
    by_cases hroom : len + n ≤ cp
    ·have ho := R.heap.obj i
     rw [hg] at ho
     obtain ⟨b2, cp2, arr, hr2, hf, hB, hw, hc, hlr, hxr⟩ := ho
     rw [hr2] at hi
     simp at hi
     obtain ⟨rfl, rfl⟩ := hi
     have hasz : arr.size = cp2 * ti.size := hxr.1
     have hspace : len * ti.size + news'.length ≤ arr.size := by
      rw [hS.newsLen, hasz, ← Nat.add_mul]
      exact Nat.mul_le_mul_right _ hroom
     have hst := run_storeCells_at P b2 (len * ti.size) e2 news' 0 arr w hw (by simpa using hspace) (hrn.one hone)
     simp only [Nat.add_zero] at hst
     have hrun := run_append_room_h w _ t tx ty e2 ti hu hq b2 0 len cp2 x' n news' hS hroom (by simpa using hst)
     have hclen : (c.take (len * ti.size)).length = len * ti.size := by simp; omega
     obtain ⟨ρ', hle, hn, R'⟩ := R.move (w' := w.setRow b2 (arr.toList.take (len * ti.size) ++ news' ++ arr.toList.drop (len * ti.size + news'.length)).toArray) (c := c.take (len * ti.size) ++ news) (ex := some ti.size) hr2 (by rw [hg]; simp)
      (fun k hk => by simp [World.setRow, Array.getElem?_modify, Ne.symm hk]) (setRow_heap w b2 arr _ e2 (0, 0) hw) (by simp [World.setRow])
      ⟨rfl, rfl, rfl, by simp [World.setRow], fun k hk => by simp [World.setRow, Array.getElem?_modify, show b2 ≠ k by omega], Nat.le_refl _⟩
      (by rw [List.length_append, hclen, hrn.1]; simp; omega)
      (by
       rw [List.length_append, hclen, hrn.1]
       have e1 : (arr.toList.take (len * ti.size) ++ news' ++ arr.toList.drop (len * ti.size + news'.length)).toArray.toList.take (len * ti.size + news'.length) = arr.toList.take (len * ti.size) ++ news' := by
        have : (arr.toList.take (len * ti.size) ++ news').length = len * ti.size + news'.length := by simp; omega
        rw [← this]
        exact List.take_left
       rw [e1]
       refine LRel.append ?_ hrn
       have := hlr.take (len * ti.size)
       rw [List.take_take] at this
       rwa [Nat.min_eq_left hlc] at this)
      (by
       refine ⟨?_, hxr.2⟩
       simp
       omega)
     refine ⟨ρ', _, _, hrun, ?_, by simpa only [List.append_assoc] using R', hle⟩
     have := VRel.sl (ρ := ρ') hn 0 (len + n) unk (by rw [capOf]; simp; exact hroom)
     rwa [show capOf cp2 unk = cp2 by simp [capOf]] at this
    ·obtain ⟨olds', ho1, ho2, ho3⟩ := olds w R (by simpa using hlc)
     rw [List.drop_zero] at ho2
     exact grow_sound (ty := ty) hu hq hz hzs (R.kill i) (run_firstCells_some (P := P) w.drew ti.size len ⟨b, 0, none⟩ len cp olds' ho3 (fun j v hv => by rw [Addr.add_mid]; simpa using ho1 j v hv)) ho2 (by rw [ho2.1, ho3]) hS hrn (by omega) hb.1 hb.2
 ·cases hs
def aLenOf : V → Option Nat
 | .sl _ _ n _ => some n
 | .imm n _ => some n
 | .snil => some 0
 | .z0 => some 0
 | .string s => some s.size
 | _ => none
theorem aLenOf_sound {P : Program} {x : V} {x' : Value} {n : Nat} (h : aLenOf x = some n) {ρ : Ren} (hx : VRel ρ x x') (w : World) : (Builtin.lenOf x').run P w = .ok n w := by
 cases hx <;> simp [aLenOf] at h <;> subst h <;> rfl
def aFirst (sz n : Nat) (x : V) (h : AHeap) : Option (List V) :=
 match x with
 | .snil | .z0 => if n = 0 then some [] else none
 | .sl i o _ _ =>
  match h.get i with
  | .cells c _ _ => if o + n * sz ≤ c.length then some ((c.drop o).take (n * sz)) else none
  | _ => none
 | .imm m cs => if n ≤ m ∧ n * sz ≤ cs.length then some (cs.take (n * sz)) else none
 | .string s => if sz = 1 ∧ n ≤ s.size then some (((byteCells s).map absF).take n) else none
 | _ => none
theorem aFirst_sound {P : Program} {sz n : Nat} {x : V} {x' : Value} {h : AHeap} {vs : List V} (hs : aFirst sz n x h = some vs) {ρ : Ren} {B : Nat} {w0 w : World} (R : WRel ρ B w0 h w) (hx : VRel ρ x x') :
  ∃ vs', (Builtin.firstCells sz n x').run P w = .ok vs'.toArray w ∧ LRel ρ vs vs' ∧ vs.length = n * sz := by
 unfold aFirst at hs
 split at hs
 ·cases hx
  split at hs
  case isFalse => cases hs
  rename_i h0
  subst h0
  obtain rfl : vs = [] := by simpa using hs
  exact ⟨[], run_firstCells_none w sz 0 0 0, .nil ρ, by simp⟩
 ·cases hx with
  | z0 a ha =>
  split at hs
  case isFalse => cases hs
  rename_i h0
  subst h0
  obtain rfl : vs = [] := by simpa using hs
  cases a with
  | none => exact ⟨[], run_firstCells_none w sz 0 0 0, .nil ρ, by simp⟩
  | some a => exact ⟨[], run_firstCells_some (P := P) w sz 0 a 0 0 [] (by simp) (by simp), .nil ρ, by simp⟩
 ·rename_i i o len cap
  obtain ⟨b, cp, hi, hl, rfl⟩ := hx.sl_inv
  split at hs
  case h_2 => cases hs
  rename_i c e2 ex hg
  split at hs
  case isFalse => cases hs
  rename_i hc
  obtain rfl : _ = vs := by simpa using hs
  have hP : VRel ρ (.ptr i o) (.pointer (some ⟨b, o, none⟩)) := .ptr hi o
  obtain ⟨b2, o2, he, hcs⟩ := place_sound R.heap hP (cs := c.drop o) (by simp [aPlace, hg]; omega)
  simp at he
  obtain ⟨rfl, rfl⟩ := he
  obtain ⟨cs, h1, h2, h3⟩ := hcs (n * sz) (by simp; omega)
  exact ⟨cs, run_firstCells_some (P := P) w sz n ⟨b, o, none⟩ len (capOf cp cap) cs h3 (fun j v hv => by rw [Addr.add_mid]; exact h1 j v hv), h2, by simp; omega⟩
 ·rename_i m cs
  split at hs
  case isFalse => cases hs
  rename_i hc
  obtain rfl : _ = vs := by simpa using hs
  rcases hx.imm_inv with ⟨rfl, rfl, a, ca, ha, rfl⟩ | ⟨b, o, cap, arr, hb, hn, ho, hx2, rfl⟩
  ·obtain rfl : n = 0 := by omega
   cases a with
   | none =>
    obtain rfl := ha rfl
    exact ⟨[], run_firstCells_none w sz 0 0 0, by simpa using LRel.nil ρ, by simp⟩
   | some a => exact ⟨[], run_firstCells_some (P := P) w sz 0 a 0 ca [] (by simp) (by simp), by simpa using LRel.nil ρ, by simp⟩
  ·have hA : VRel ρ (.at cs) (.pointer (some ⟨b, o, none⟩)) := .at o hb ho hx2
   obtain ⟨b2, o2, he, hcs⟩ := place_sound R.heap hA (cs := cs) rfl
   simp at he
   obtain ⟨rfl, rfl⟩ := he
   obtain ⟨vs, h1, h2, h3⟩ := hcs (n * sz) hc.2
   exact ⟨vs, run_firstCells_some (P := P) w sz n ⟨b, o, none⟩ m cap vs h3 (fun j v hv => by rw [Addr.add_mid]; exact h1 j v hv), h2, by simp; omega⟩
 ·rename_i s
  cases hx
  split at hs
  case isFalse => cases hs
  rename_i h1
  obtain ⟨rfl, hn⟩ := h1
  obtain rfl : _ = vs := by simpa using hs
  refine ⟨(byteCells s).take n, ?_, (byteCells_rel ρ s).take n, by rw [List.length_take, List.length_map, byteCells_length]; omega⟩
  simp only [Builtin.firstCells, Sem.run_pure]
  congr 1
  apply Array.ext'
  simp [byteCells]
 ·cases hs
def aCopy (P : Program) (dT : TypeId) (dst src : V) (h : AHeap) : Option (V × AHeap) :=
 match elemT P dT with
 | none => none
 | some e =>
  match sizeT P e, aLenOf src, dst with
  | some sz, some sl, .snil =>
   match aFirst sz (Nat.min sl 0) src h with
   | some _ => some (.int .i64 0, h)
   | none => none
  | some sz, some sl, .sl i o dl _ =>
   match aFirst sz (Nat.min sl dl) src h with
   | some vs =>
    if Nat.min sl dl = 0 then some (.int .i64 0, h) else
    match h.get i with
    | .cells c e2 ex => if o + vs.length ≤ c.length ∧ vs.all (·.one) = true then some (.int .i64 (Nat.min sl dl : Nat), h.set i (.cells (lay c o vs) e2 ex)) else none
    | _ => none
   | none => none
  | _, _, _ => none
theorem aCopy_sound {P : Program} {dT sT ty : TypeId} {dst src v : V} {dst' src' : Value} {h h' : AHeap} (hs : aCopy P dT dst src h = some (v, h')) {ρ : Ren} {B : Nat} {w0 w : World} (R : WRel ρ B w0 h w)
  (hd : VRel ρ dst dst') (hr : VRel ρ src src') : Yields P (Builtin.copy_ #[dT, sT] ty #[dst', src']) ρ B w0 w v h' := by
 unfold aCopy at hs
 split at hs
 case h_1 => cases hs
 rename_i e he
 have hu : P.underlying dT = some (.slice e) := by
  unfold elemT at he
  split at he
  ·rename_i hu; rw [hu]; simpa using he
  ·cases he
 split at hs
 ·rename_i sz sl hsz hsl
  cases hd
  split at hs
  case h_2 => cases hs
  rename_i vs hvs
  simp at hs
  obtain ⟨rfl, rfl⟩ := hs
  obtain ⟨vs', hf, hlr, hlen⟩ := aFirst_sound (P := P) hvs R hr
  have hll := aLenOf_sound (P := P) hsl hr w
  cases hq : P.info? e with
  | none => simp [sizeT, hq] at hsz
  | some ti =>
   simp [sizeT, hq] at hsz
   refine .same R (v' := .int .i64 0) ?_ (.int _ _)
   have hm : Nat.min sl 0 = 0 := Nat.min_zero sl
   rw [hm] at hf
   simp [Builtin.copy_, run_underlying hu, hll, sizeOf, typeInfo, hq, hsz, hf, goInt]
 ·rename_i sz sl i o dl dc hsz hsl
  obtain ⟨b, cp, hi, hl, rfl⟩ := hd.sl_inv
  split at hs
  case h_2 => cases hs
  rename_i vs hvs
  obtain ⟨vs', hf, hlr, hlen⟩ := aFirst_sound (P := P) hvs R hr
  have hll := aLenOf_sound (P := P) hsl hr w
  cases hq : P.info? e with
  | none => simp [sizeT, hq] at hsz
  | some ti =>
  simp [sizeT, hq] at hsz
  split at hs
  ·rename_i h0
   simp at hs
   obtain ⟨rfl, rfl⟩ := hs
   refine .same R (v' := .int .i64 0) ?_ (.int _ _)
   rw [h0] at hlen hf
   have hv0 : vs' = [] := List.eq_nil_of_length_eq_zero (by rw [← hlr.1, hlen]; simp)
   subst hv0
   have hm : (Nat.min sl dl : Nat) = 0 := h0
   simp [Builtin.copy_, run_underlying hu, hll, sizeOf, typeInfo, hq, hsz, hm, hf, goInt, storeCells]
  ·split at hs
   case h_2 => cases hs
   rename_i c e2 ex hg
   split at hs
   case isFalse => cases hs
   rename_i hc
   simp at hs
   obtain ⟨rfl, rfl⟩ := hs
   obtain ⟨w', hst, R'⟩ := write_sound (P := P) hg R hi o hlr hc.2 hc.1
   refine ⟨ρ, _, w', ?_, .int _ _, R', Ren.le.refl ρ⟩
   simp [Builtin.copy_, run_underlying hu, hll, sizeOf, typeInfo, hq, hsz, hf, goInt, hst]
 ·cases hs
end Go.Proofs.YtfcjehlhoebmnaaGreatDoor.Ab
namespace Go.Proofs.YtfcjehlhoebmnaaGreatDoor.Ab
open Go Go.RowKit
set_option linter.unusedVariables false
def pureRun {α : Type} (P : Program) : Sem α → Option α
 | .pure a => some a
 | .program k => pureRun P (k P)
 | .mark _ k => pureRun P k
 | _ => none
theorem pureRun_run {α : Type} {P : Program} : ∀ {s : Sem α} {a : α}, pureRun P s = some a → ∀ w, s.run P w = .ok a w
 | .pure b, a, h, w => by simp [pureRun] at h; subst h; rfl
 | .program k, a, h, w => by
  simp only [pureRun] at h
  exact pureRun_run (s := k P) h w
 | .mark m k, a, h, w => by
  simp only [pureRun] at h
  exact pureRun_run (s := k) h w
 | .load .., _, h, _ => by simp [pureRun] at h
 | .store .., _, h, _ => by simp [pureRun] at h
 | .new .., _, h, _ => by simp [pureRun] at h
 | .shape .., _, h, _ => by simp [pureRun] at h
 | .freeze .., _, h, _ => by simp [pureRun] at h
 | .frozen .., _, h, _ => by simp [pureRun] at h
 | .getObj .., _, h, _ => by simp [pureRun] at h
 | .setObj .., _, h, _ => by simp [pureRun] at h
 | .choose .., _, h, _ => by simp [pureRun] at h
 | .sys .., _, h, _ => by simp [pureRun] at h
 | .halt .., _, h, _ => by simp [pureRun] at h
theorem pureRun_bind {α β : Type} {P : Program} {s : Sem α} {k : α → Sem β} : pureRun P (s >>= k) = (pureRun P s).bind fun a => pureRun P (k a) := by
 induction s with
 | pure a => rfl
 | program k ih => exact ih P
 | mark m k ih => exact ih
 | _ => rfl
def nilKind : V → Option Nat
 | .pnil => some 0 | .snil => some 1 | .mnil => some 2 | .nilFunc => some 3 | .nilIface => some 4 | _ => none
def refKind : V → Option Nat
 | .ptr _ _ => some 0 | .at _ => some 0 | .sl _ _ _ _ => some 1 | .e0 => some 1 | .imm n _ => if n = 0 then none else some 1 | .map _ => some 2 | .func _ _ _ => some 3 | .iface _ _ => some 4 | _ => none
def descKind : TypeDesc → Option Nat
 | .pointer _ => some 0 | .slice _ => some 1 | .map _ _ => some 2 | .func _ _ _ => some 3 | .interface _ => some 4 | _ => none
def nilApart (d : TypeDesc) (x y : V) : Bool :=
 match descKind d with
 | some k => (nilKind x == some k && refKind y == some k) || (refKind x == some k && nilKind y == some k)
 | none => false
theorem nil_eq {P : Program} {w : World} {ρ : Ren} {t : TypeId} {d : TypeDesc} (hu : P.underlying t = some d) {x y : V} {x' y' : Value} (hx : VRel ρ x x') (hy : VRel ρ y y') (hn : nilApart d x y = true) :
  (Op.equal t x' y').run P w = .ok false w ∧ (∀ op xo yo, eqGuard op t xo yo x' y' = pure ()) ∧ binOp .eql t x' y' = (do pure (.bool (← Op.equal t x' y'))) ∧ binOp .neq t x' y' = (do pure (.bool (!(← Op.equal t x' y')))) := by
 have run : ∀ m, (Op.equalIn (m + 1) t x' y').run P w = .ok false w → (Op.equal t x' y').run P w = .ok false w ∨ m ≠ 9999 := fun m h => by
  by_cases hm : m = 9999
  ·subst hm; exact .inl h
  ·exact .inr hm
 have guard : (¬ (x' = .nilIface ∧ y' = .nilIface)) → (¬ ∃ a b, x' = .agg a ∧ y' = .agg b) → ∀ op xo yo, eqGuard op t xo yo x' y' = pure () := fun h1 h2 op xo yo => by
  unfold eqGuard
  cases op <;> first | rfl | (simp only [Bool.not_true, Bool.false_eq_true, if_false]; split <;> first | rfl | exact absurd ⟨rfl, rfl⟩ h1 | exact absurd ⟨_, _, rfl, rfl⟩ h2)
 unfold nilApart at hn
 cases d <;> simp [descKind] at hn
 all_goals
  rcases hn with ⟨h1, h2⟩ | ⟨h1, h2⟩
  all_goals
   cases hx <;> simp [nilKind, refKind] at h1 <;> cases hy <;> simp [nilKind, refKind] at h2
   all_goals first
    | omega
    | (refine ⟨(run 9999 (by unfold Op.equalIn; rw [Sem.run_bind, run_underlying hu, Result.andThen_ok]; simp)).resolve_right (by simp), guard (by simp) (by simp), rfl, rfl⟩)
def aBin (P : Program) (op : BinOp) (t : TypeId) (xo yo : Operand) (x y : V) : Option V :=
 match plainV x, plainV y with
 | some a, some b => (pureRun P (do eqGuard op t xo yo a b; binOp op t a b)).map absF
 | _, _ =>
  match P.underlying t, op with
  | some d, .eql => if nilApart d x y then some (.bool false) else none
  | some d, .neq => if nilApart d x y then some (.bool true) else none
  | _, _ => none
theorem aBin_sound {P : Program} {op : BinOp} {t : TypeId} {xo yo : Operand} {x y v : V} {x' y' : Value} {h : AHeap} (hs : aBin P op t xo yo x y = some v) {ρ : Ren} {B : Nat} {w0 w : World} (R : WRel ρ B w0 h w)
  (hx : VRel ρ x x') (hy : VRel ρ y y') : Keeps P (do eqGuard op t xo yo x' y'; binOp op t x' y') ρ w v := by
 unfold aBin at hs
 split at hs
 ·rename_i a b ha hb
  obtain rfl := plainV_eq hx ha
  obtain rfl := plainV_eq hy hb
  cases hp : pureRun P (do eqGuard op t xo yo x' y'; binOp op t x' y') with
  | none => rw [hp] at hs; cases hs
  | some u =>
   rw [hp] at hs
   obtain rfl : _ = v := by simpa using hs
   exact Keeps.mk (pureRun_run hp w) (absF_rel ρ u)
 ·split at hs
  ·rename_i d hd
   split at hs
   case isFalse => cases hs
   rename_i hn
   obtain rfl : _ = v := by simpa using hs
   obtain ⟨h1, h2, h3, h4⟩ := nil_eq (P := P) (w := w) hd hx hy hn
   refine Keeps.mk (v' := .bool false) ?_ (.bool false)
   rw [h2, h3]
   simp [h1]
  ·rename_i d hd
   split at hs
   case isFalse => cases hs
   rename_i hn
   obtain rfl : _ = v := by simpa using hs
   obtain ⟨h1, h2, h3, h4⟩ := nil_eq (P := P) (w := w) hd hx hy hn
   refine Keeps.mk (v' := .bool true) ?_ (.bool true)
   rw [h2, h4]
   simp [h1]
  ·cases hs
def aUn (P : Program) (op : UnOp) (x : V) : Option V :=
 match flatV x with
 | some a => (pureRun P (Op.unary op a)).map absF
 | none => none
theorem aUn_sound {P : Program} {op : UnOp} {x v : V} {x' : Value} {h : AHeap} (hs : aUn P op x = some v) {ρ : Ren} {B : Nat} {w0 w : World} (R : WRel ρ B w0 h w) (hx : VRel ρ x x') :
  Keeps P (Op.unary op x') ρ w v := by
 unfold aUn at hs
 split at hs
 case h_2 => cases hs
 rename_i a ha
 obtain rfl := flatV_eq hx ha
 cases hp : pureRun P (Op.unary op x') with
 | none => rw [hp] at hs; cases hs
 | some u =>
  rw [hp] at hs
  obtain rfl : _ = v := by simpa using hs
  exact Keeps.mk (pureRun_run hp w) (absF_rel ρ u)
def numsOf : List V → Option (List Int)
 | [] => some []
 | .int .u8 n :: r => (numsOf r).map (n :: ·)
 | _ => none
theorem numsOf_eq : ∀ {l : List V} {ns : List Int}, numsOf l = some ns → l = ns.map (V.int .u8)
 | [], ns, h => by simp [numsOf] at h; subst h; rfl
 | v :: r, ns, h => by
  unfold numsOf at h
  split at h
  ·rename_i heq; cases heq
  ·rename_i n r' heq
   simp only [List.cons.injEq] at heq
   obtain ⟨rfl, rfl⟩ := heq
   cases hr : numsOf r with
   | none => simp [hr] at h
   | some ms => simp [hr] at h; subst h; rw [numsOf_eq hr]; rfl
  ·cases h
theorem ints_rel {ρ : Ren} {k : IntKind} : ∀ {ns : List Int} {l : List Value}, LRel ρ (ns.map (V.int k)) l → l = ns.map (Value.int k)
 | [], l, h => h.eq_nil
 | n :: ns, l, h => by
  obtain ⟨v', t', rfl, hv, ht⟩ := h.uncons
  cases hv
  rw [ints_rel ht]
  rfl
def isU8 (P : Program) (e : TypeId) : Bool := match P.underlying e with | some (.int .u8) => true | _ => false
theorem isU8_eq {P : Program} {e : TypeId} (h : isU8 P e = true) : P.underlying e = some (.int .u8) := by
 unfold isU8 at h
 split at h
 ·assumption
 ·cases h
def aConv (P : Program) (src dst : TypeId) (x : V) (h : AHeap) : Option V :=
 match (flatV x).bind fun a => pureRun P (convert src dst a) with
 | some v => some (absF v)
 | none =>
  match P.underlying src, P.underlying dst, x with
  | some .string, some (.slice e), .string s => if isU8 P e = true then some (.imm s.size ((byteCells s).map absF)) else none
  | some (.slice e), some .string, .sl i o len _ =>
   if isU8 P e = true then
    match h.get i with
    | .cells c _ _ => if o + len ≤ c.length then (numsOf ((c.drop o).take len)).map fun ns => .string (strOfNums ns) else none
    | _ => none
   else none
  | some (.slice e), some .string, .imm n cs =>
   if isU8 P e = true ∧ n = cs.length then (numsOf cs).map fun ns => .string (strOfNums ns) else none
  | _, _, _ => none
theorem bytes_str {P : Program} {ρ : Ren} {src dst e : TypeId} {w : World} {b o len cap : Nat} {ns : List Int} {cs : List Value} (hu1 : P.underlying src = some (.slice e)) (he : P.underlying e = some (.int .u8)) (hu2 : P.underlying dst = some .string)
  (hcs : w.rangeAt b o cs) (hl : LRel ρ (ns.map (V.int .u8)) cs) (hlen : ns.length = len) : (convert src dst (.slice (some ⟨b, o, none⟩) len cap)).run P w = .ok (.string (strOfNums ns)) w := by
 obtain rfl := ints_rel hl
 refine run_convert_bytes_arg w src e hu1 he b o len cap ns hlen (fun k hk => ?_) dst hu2
 exact hcs k _ (by simp [List.getD, List.getElem?_eq_getElem (show k < ns.length by omega)])
theorem aConv_sound {P : Program} {src dst : TypeId} {x v : V} {x' : Value} {h : AHeap} (hs : aConv P src dst x h = some v) {ρ : Ren} {B : Nat} {w0 w : World} (R : WRel ρ B w0 h w) (hx : VRel ρ x x') :
  Yields P (convert src dst x') ρ B w0 w v h := by
 unfold aConv at hs
 split at hs
 ·rename_i u hu
  obtain rfl : _ = v := by simpa using hs
  cases hf : flatV x with
  | none => simp [hf] at hu
  | some a =>
   simp [hf] at hu
   obtain rfl := flatV_eq hx hf
   exact .same R (pureRun_run hu w) (absF_rel ρ u)
 ·split at hs
  ·rename_i e s hu1 hu2 _
   cases hx
   split at hs
   case isFalse => cases hs
   rename_i hc
   obtain rfl : _ = v := by simpa using hs
   have he := isU8_eq hc
   have hge := grownCap_ge w s.size 0 e
   let arr : Array Value := s.data.map (fun b => Value.int .u8 b.toNat) ++ Array.replicate (grownCap w s.size 0 e - s.size) (.int .u8 0)
   have hasz : arr.size = grownCap w s.size 0 e := by
    simp only [arr, Array.size_append, Array.size_map, Array.size_replicate]
    have : s.data.size = s.size := rfl
    omega
   have hrun : (convert src dst (.string s)).run P w = .ok (.slice (some ⟨w.heap.size, 0, none⟩) s.size (grownCap w s.size 0 e)) ((w.drew.alloc (.cells arr e)).freeze ⟨w.heap.size, arr.size, none⟩ 1) := by
    have hsh : (w.drew.alloc (.cells arr e)).shape? w.heap.size = some (e, arr.size) := by
     have := heap_alloc_new w.drew (.cells arr e)
     unfold World.shape?
     rw [show w.heap.size = w.drew.heap.size from rfl, this]
    simp [convert, run_underlying hu1, run_underlying hu2, run_underlying he, Conv.stringToBytes, Question.forced, newRow, markStringish]
    have e3 : (Question.appendCap s.size 0 e).cut (w.tape w.drawn (Question.appendCap s.size 0 e)) = grownCap w s.size 0 e := rfl
    simp only [e3]
    rw [hsh]
    simp
    rfl
   have hfz : ((w.drew.alloc (.cells arr e)).freeze ⟨w.heap.size, arr.size, none⟩ 1).heap[w.heap.size]? = some (.cells arr e (arr.size, arr.size + 1)) := by
    have := heap_alloc_new w.drew (.cells arr e)
    simp only [World.freeze, Nat.one_ne_zero, if_false, Array.getElem?_modify, if_true]
    rw [show w.heap.size = w.drew.heap.size from rfl, this]
    simp
   have hother : ∀ k, k < w.heap.size → ((w.drew.alloc (.cells arr e)).freeze ⟨w.heap.size, arr.size, none⟩ 1).heap[k]? = w.heap[k]? := fun k hk => by
    simp only [World.freeze, Nat.one_ne_zero, if_false, Array.getElem?_modify, if_neg (show ¬ w.heap.size = k by omega)]
    exact Below.heap_alloc w.drew _ k hk
   have hsz2 : w.heap.size < ((w.drew.alloc (.cells arr e)).freeze ⟨w.heap.size, arr.size, none⟩ 1).heap.size := by
    simp only [World.freeze, Nat.one_ne_zero, if_false, Array.size_modify]
    simp
   obtain ⟨ρ', hle, hn, R'⟩ := R.pushFrz hsz2 hother hfz
    ⟨by simp only [World.freeze, Nat.one_ne_zero, if_false]; rfl, by simp only [World.freeze, Nat.one_ne_zero, if_false]; rfl, by simp only [World.freeze, Nat.one_ne_zero, if_false]; rfl, Nat.le_of_lt hsz2, fun k hk => hother k (Nat.lt_of_lt_of_le hk R.heap.base), by simp only [World.freeze, Nat.one_ne_zero, if_false]; exact Nat.le_succ _⟩
   refine ⟨ρ', _, _, hrun, ?_, R', hle⟩
   have hb : ((byteCells s).map absF).length = s.size := by rw [List.length_map, byteCells_length]
   refine .imm 0 s.size _ hn hge (by rw [hb, hasz]; omega) fun k v v' h1 h2 => ?_
   have e1 : arr.toList.take (byteCells s).length = byteCells s := by
    have : arr.toList = byteCells s ++ List.replicate (grownCap w s.size 0 e - s.size) (.int .u8 0) := by simp [arr, byteCells]
    rw [this]
    exact List.take_left
   have hk : k < (byteCells s).length := by rw [← List.length_map (f := absF)]; exact (List.getElem?_eq_some_iff.1 h1).1
   refine (byteCells_rel ρ' s).2 k v v' h1 ?_
   rw [← e1, List.getElem?_take, if_pos hk, Array.getElem?_toList]
   simpa using h2
  ·rename_i e i o len cap hu1 hu2 _
   obtain ⟨b, cp, hi, hl, rfl⟩ := hx.sl_inv
   split at hs
   case isFalse => cases hs
   rename_i he
   split at hs
   case h_2 => cases hs
   rename_i c e2 ex hg
   split at hs
   case isFalse => cases hs
   rename_i hc
   cases hns : numsOf ((c.drop o).take len) with
   | none => simp [hns] at hs
   | some ns =>
    simp [hns] at hs
    subst hs
    have hP : VRel ρ (.ptr i o) (.pointer (some ⟨b, o, none⟩)) := .ptr hi o
    obtain ⟨b2, o2, heq, hcs⟩ := place_sound R.heap hP (cs := c.drop o) (by simp [aPlace, hg]; omega)
    simp at heq
    obtain ⟨rfl, rfl⟩ := heq
    obtain ⟨cs, h1, h2, h3⟩ := hcs len (by simp; omega)
    have hlen : ns.length = len := by
     have := congrArg List.length (numsOf_eq hns)
     simp at this; omega
    rw [numsOf_eq hns] at h2
    exact .same R (bytes_str hu1 (isU8_eq he) hu2 h1 h2 hlen) (.string _)
  ·rename_i e n cs hu1 hu2 _
   split at hs
   case isFalse => cases hs
   rename_i he
   cases hns : numsOf cs with
   | none => simp [hns] at hs
   | some ns =>
    simp [hns] at hs
    subst hs
    rcases hx.imm_inv with ⟨rfl, rfl, a, ca, ha, rfl⟩ | ⟨b, o, cap, arr, hb, hn, ho, hx2, rfl⟩
    ·obtain rfl : ns = [] := by simpa [numsOf] using hns.symm
     cases a with
     | none =>
      obtain rfl := ha rfl
      refine .same R (v' := .string .empty) ?_ (.string _)
      simp [convert, run_underlying hu1, run_underlying hu2, run_underlying (isU8_eq he.1), Conv.bytesToString, loadCells, loadCellsFrom]
     | some a =>
      refine .same R (v' := .string .empty) ?_ (.string _)
      simp [convert, run_underlying hu1, run_underlying hu2, run_underlying (isU8_eq he.1), Conv.bytesToString, loadCells, loadCellsFrom]
    ·have hA : VRel ρ (.at cs) (.pointer (some ⟨b, o, none⟩)) := .at o hb ho hx2
     obtain ⟨b2, o2, heq, hcs⟩ := place_sound R.heap hA (cs := cs) rfl
     simp at heq
     obtain ⟨rfl, rfl⟩ := heq
     obtain ⟨vs, h1, h2, h3⟩ := hcs cs.length (Nat.le_refl _)
     rw [List.take_length] at h2
     have hlen : ns.length = n := by
      have := congrArg List.length (numsOf_eq hns)
      simp at this; omega
     rw [numsOf_eq hns] at h2
     exact .same R (bytes_str hu1 (isU8_eq he.1) hu2 h1 h2 hlen) (.string _)
  ·cases hs
end Go.Proofs.YtfcjehlhoebmnaaGreatDoor.Ab
namespace Go.Proofs.YtfcjehlhoebmnaaGreatDoor.Ab
open Go Go.RowKit
set_option linter.unusedVariables false
def setAll (cs : List V) (off : Nat) : List V → List V
 | [] => cs
 | v :: r => setAll (cs.set off v) (off + 1) r
def aFill (place : Nat → Option (Nat × Nat)) (cs : List V) : List (Nat × V) → Option (List V)
 | [] => some cs
 | (i, v) :: r => match place i, v.cells with
  | some (off, size), some vs => if vs.length = size ∧ off + size ≤ cs.length then aFill place (setAll cs off vs) r else none
  | _, _ => none
theorem ARel.set {ρ : Ren} {xs : List V} {xs' : Array Value} (h : ARel ρ xs xs') {v : V} {v' : Value} (hv : VRel ρ v v') (n : Nat) : ARel ρ (xs.set n v) (xs'.setIfInBounds n v') := by
 refine ⟨by simp [h.1], fun k a b ha hb => ?_⟩
 rw [Array.getElem?_setIfInBounds] at hb
 rw [List.getElem?_set] at ha
 by_cases hk : n = k
 ·subst hk
  simp at ha hb
  obtain ⟨_, rfl⟩ := ha
  obtain ⟨_, rfl⟩ := hb
  exact hv
 ·simp [hk] at ha hb
  exact h.2 k a b ha hb
theorem foldl_rel {ρ : Ren} (off : Nat) : ∀ (l : List V) (l' : List Value) (j : Nat) (cs : List V) (cs' : Array Value), LRel ρ l l' → ARel ρ cs cs' →
  ARel ρ (setAll cs (off + j) l) ((l'.zipIdx j).foldl (fun cs p => cs.setIfInBounds (off + p.2) p.1) cs')
 | [], l', j, cs, cs', hl, hc => by rw [hl.eq_nil]; exact hc
 | v :: l, l', j, cs, cs', hl, hc => by
  obtain ⟨v', t', rfl, hv, ht⟩ := hl.uncons
  simp only [List.zipIdx_cons, List.foldl_cons, setAll]
  have := foldl_rel off l t' (j + 1) _ _ ht (hc.set hv (off + j))
  rwa [← Nat.add_assoc] at this
def PRel (ρ : Ren) : List (Nat × V) → List (Nat × Value) → Prop
 | [], [] => True
 | (i, v) :: r, (i', v') :: r' => i = i' ∧ VRel ρ v v' ∧ PRel ρ r r'
 | _, _ => False
theorem fill_rel {ρ : Ren} (place : Nat → Option (Nat × Nat)) : ∀ (ps : List (Nat × V)) (ps' : List (Nat × Value)) (cs : List V) (cs' : Array Value) (r : List V), PRel ρ ps ps' → ARel ρ cs cs' → aFill place cs ps = some r →
  ∃ r', Instr.fill place cs' ps' = some r' ∧ ARel ρ r r'
 | [], [], cs, cs', r, _, hc, h => by simp [aFill] at h; subst h; exact ⟨cs', rfl, hc⟩
 | (i, v) :: ps, (i', v') :: ps', cs, cs', r, hp, hc, h => by
  obtain ⟨rfl, hv, hp⟩ := hp
  unfold aFill at h
  split at h
  case h_2 => cases h
  rename_i off size vs hpl hvs
  split at h
  case isFalse => cases h
  rename_i hcond
  unfold Instr.fill
  have hcl := hv.cells hvs
  have hsz : v'.cells.size = vs.length := by simpa using hcl.1.symm
  simp only [hpl, hsz, ← hc.1]
  rw [if_neg (by simp; omega)]
  have e1 : ∀ (a : Array Value) (c : Array Value), a.zipIdx.foldl (fun cs (x : Value × Nat) => cs.setIfInBounds (off + x.2) x.1) c = (a.toList.zipIdx).foldl (fun cs p => cs.setIfInBounds (off + p.2) p.1) c := fun a c => by
   rw [← Array.foldl_toList]
   simp
  rw [show (v'.cells.zipIdx.foldl (fun cs (x : Value × Nat) => match x with | (c, j) => cs.setIfInBounds (off + j) c) cs') = _ from e1 v'.cells cs']
  exact fill_rel place ps ps' _ _ r hp (foldl_rel off vs v'.cells.toList 0 cs cs' hcl hc) h
 | [], _ :: _, _, _, _, hp, _, _ => by simp [PRel] at hp
 | _ :: _, [], _, _, _, hp, _, _ => by simp [PRel] at hp
def placesT (P : Program) (t : TypeId) : Option (List (Nat × Nat)) := match P.underlying t with
 | some (.struct fields) => fields.toList.mapM (fun f => (P.info? f.type).map fun i => (f.offset, i.size))
 | _ => none
def arrT (P : Program) (t : TypeId) : Option (Nat × TypeId) := match P.underlying t with
 | some (.array n e) => some (n, e)
 | _ => none
def aBuild (P : Program) (t : TypeId) (parts : List (Nat × V)) : Option V :=
 match zeroC P t, placesT P t with
 | some zs, some places => (aFill (places[·]?) zs parts).map .agg
 | some zs, none => match arrT P t with
  | some (_, e) => match sizeT P e with
   | some sz => (aFill (fun i => some (i * sz, sz)) zs parts).map .agg
   | none => none
  | none => none
 | _, _ => none
theorem aBuild_sound {P : Program} {t : TypeId} {ps : List (Nat × V)} {ps' : Array (Nat × Value)} {v : V} {h : AHeap} (hs : aBuild P t ps = some v) {ρ : Ren} {B : Nat} {w0 w : World} (R : WRel ρ B w0 h w)
  (hp : PRel ρ ps ps'.toList) : Keeps P (Instr.build t ps') ρ w v := by
 unfold aBuild at hs
 have key : ∀ (place : Nat → Option (Nat × Nat)) (zs : List V), zeroC P t = some zs → (∀ z, zeroT P t = some z → P.built t ps'.toList = Instr.fill place z.cells ps'.toList) → (aFill place zs ps).map V.agg = some v → Keeps P (Instr.build t ps') ρ w v := fun place zs hz hb hf => by
  obtain ⟨z, hz, hrel⟩ := zeroC_rel hz
  cases hc : aFill place zs ps with
  | none => simp [hc] at hf
  | some cells =>
   simp [hc] at hf
   subst hf
   obtain ⟨cells', hf', hr⟩ := fill_rel place _ _ _ _ _ hp (hrel ρ).arr' hc
   exact Keeps.mk (run_build w t ps' cells' (by rw [hb z hz]; exact hf')) hr.agg
 split at hs
 ·rename_i zs places hz hpl
  refine key _ zs hz (fun z hzz => ?_) hs
  unfold placesT at hpl
  split at hpl
  case h_2 => cases hpl
  rename_i fields hu
  unfold Program.built
  cases hit : P.info? t with
  | none => simp [zeroT, hit] at hzz
  | some it =>
   simp [zeroT, hit] at hzz
   simp [hu, hzz, hpl]
 ·rename_i zs hz hpl
  split at hs
  case h_2 => cases hs
  rename_i n e har
  split at hs
  case h_2 => cases hs
  rename_i sz hsz
  refine key _ zs hz (fun z hzz => ?_) hs
  unfold arrT at har
  split at har
  case h_2 => cases har
  rename_i n' e' hu
  simp at har
  obtain ⟨rfl, rfl⟩ := har
  unfold Program.built
  cases hit : P.info? t with
  | none => simp [zeroT, hit] at hzz
  | some it =>
   simp [zeroT, hit] at hzz
   cases hie : P.info? e' with
   | none => simp [sizeT, hie] at hsz
   | some ie =>
    simp [sizeT, hie] at hsz
    subst hsz
    simp [hu, hzz]
    rw [hie]
 ·cases hs
def aBuildSlice (P : Program) (t : TypeId) (len : Nat) (parts : List (Nat × V)) (h : AHeap) : Option (V × AHeap) :=
 match elemT P t with
 | none => none
 | some e =>
  match sizeT P e, zeroC P e with
  | some sz, some zs =>
   if zs.length = sz ∧ len * sz ≤ 2 ^ 24 ∧ len ≤ 2 ^ 24 then
    match aFill (fun i => some (i * sz, sz)) (made zs len) parts with
    | some cells => some (.sl h.n 0 len len, h.push (.cells cells e none))
    | none => none
   else none
  | _, _ => none
theorem aBuildSlice_sound {P : Program} {t : TypeId} {len : Nat} {ps : List (Nat × V)} {ps' : Array (Nat × Value)} {v : V} {h h' : AHeap} (hs : aBuildSlice P t len ps h = some (v, h')) {ρ : Ren} {B : Nat} {w0 w : World}
  (R : WRel ρ B w0 h w) (hp : PRel ρ ps ps'.toList) : Yields P (Instr.buildSlice t len ps') ρ B w0 w v h' := by
 unfold aBuildSlice at hs
 split at hs
 case h_1 => cases hs
 rename_i e he
 have hu : P.underlying t = some (.slice e) := by
  unfold elemT at he
  split at he
  ·rename_i hu; rw [hu]; simpa using he
  ·cases he
 split at hs
 case h_2 => cases hs
 rename_i sz zs hsz hzs
 split at hs
 case isFalse => cases hs
 rename_i hc
 obtain ⟨c2, c3, c4⟩ := hc
 split at hs
 case h_2 => cases hs
 rename_i cells hf
 simp at hs
 obtain ⟨rfl, rfl⟩ := hs
 obtain ⟨z, hz, hrel⟩ := zeroC_rel hzs
 have hzl : z.cells.size = sz := by have := (hrel ρ).1; simp at this; omega
 cases hq : P.info? e with
 | none => simp [zeroT, hq] at hz
 | some ti =>
 simp [zeroT, hq] at hz
 simp [sizeT, hq] at hsz
 have hm : ARel ρ (made zs len) (made z.cells.toList len).toArray := ((hrel ρ).made len).arr
 obtain ⟨cells', hf', hr⟩ := fill_rel _ _ _ _ _ _ hp hm hf
 obtain ⟨ρ', hle, hn, R'⟩ := push_yields R e hr.list len
 have hcu : len < unk := by unfold unk; omega
 have hrun : (Instr.buildSlice t len ps').run P w = .ok (.slice (some ⟨w.heap.size, 0, none⟩) len len) (w.alloc (.cells cells' e)) := by
  have hm2 : (Array.range (len * ti.size)).map (z.cells[· % z.cells.size]!) = (made z.cells.toList len).toArray := by
   have := made_eq z.cells len
   rw [hzl, ← hsz] at this
   apply Array.ext'
   simpa [madeCells] using this
  have hno : ¬ (2 ^ 24 < len * ti.size) := by rw [hsz]; omega
  by_cases h0 : len * ti.size = 0
  ·have hm3 : (#[] : Array Value) = (made z.cells.toList len).toArray := by rw [← hm2, h0]; simp [Array.range_zero']
   rw [← hm3, ← hsz] at hf'
   have hz0 : len = 0 ∨ ti.size = 0 := Nat.mul_eq_zero.1 h0
   simp [Instr.buildSlice, run_underlying hu, sizeOf, typeInfo, hq, h0, hz0, hf', newRow, Array.range_zero']
  ·have hz0 : ¬ (len = 0 ∨ ti.size = 0) := fun h => h0 (Nat.mul_eq_zero.2 h)
   rw [← hm2, ← hsz] at hf'
   have hno' : ¬ (16777216 < len * ti.size) := by omega
   simp [Instr.buildSlice, run_underlying hu, sizeOf, typeInfo, zeroValue, hz, hq, hno', h0, hf', newRow]
 refine ⟨ρ', _, _, hrun, ?_, by simpa using R', hle⟩
 have := VRel.sl hn 0 len len (by simp [capOf, hcu])
 simpa [capOf, hcu] using this
def aPart (P : Program) (t : TypeId) (cs : List V) (off : Nat) : Option V :=
 match rowT P t, sizeT P t with
 | some true, some n => some (.agg ((cs.drop off).take n))
 | some false, some _ => cs[off]?
 | _, _ => none
theorem ARel.part {P : Program} {ρ : Ren} {cs : List V} {cs' : Array Value} (h : ARel ρ cs cs') {t : TypeId} {off : Nat} {v : V} (hs : aPart P t cs off = some v) (w : World) :
  ∃ v', (Go.part t cs' off).run P w = .ok v' w ∧ VRel ρ v v' := by
 unfold aPart at hs
 cases hq : P.info? t with
 | none => simp [sizeT, hq] at hs
 | some ti =>
 cases hu : P.underlying t with
 | none => simp [rowT, hu] at hs
 | some d =>
 simp only [rowT, hu, sizeT, hq, Option.map_some] at hs
 cases hd : d.isRow with
 | true =>
  simp only [hd] at hs
  obtain rfl : _ = v := by simpa using hs
  have hagg : (isAgg t).run P w = .ok true w := by
   unfold isAgg
   rw [Sem.run_bind, run_underlying hu w]
   cases d <;> simp_all
  refine ⟨.agg (cs'.extract off (off + ti.size)), by simp [Go.part, hagg, sizeOf, typeInfo, hq], ?_⟩
  have h2 := ((h.list.drop off).take ti.size).arr
  have e1 : ∀ a : Array Value, ((a.toList.drop off).take ti.size).toArray = a.extract off (off + ti.size) := fun a => by
   apply Array.ext'
   simp
  rw [e1] at h2
  exact h2.agg
 | false =>
  simp only [hd] at hs
  have hagg : (isAgg t).run P w = .ok false w := by
   unfold isAgg
   rw [Sem.run_bind, run_underlying hu w]
   cases d <;> simp_all
  have hlt : off < cs.length := (List.getElem?_eq_some_iff.1 hs).1
  have hlt' : off < cs'.size := by rw [← h.1]; exact hlt
  refine ⟨cs'[off], by simp [Go.part, hagg, Array.getElem?_eq_getElem hlt'], h.2 off v _ hs (Array.getElem?_eq_getElem hlt')⟩
def aFieldOf (P : Program) (t : TypeId) (x : V) (k : Nat) : Option V :=
 match P.underlying t, x with
 | some (.struct fs), .agg cs => match fs[k]? with
  | some f => aPart P f.type cs f.offset
  | none => none
 | _, _ => none
def aIndex (P : Program) (t : TypeId) (x ix : V) : Option V :=
 match P.underlying t, x, ix with
 | some (.array len e), .agg cs, .int _ n => match sizeT P e with
  | some sz => if 0 ≤ n ∧ n < len then aPart P e cs (n.toNat * sz) else none
  | none => none
 | some .string, .string s, .int _ n => if 0 ≤ n then match s[n.toNat]? with
  | some b => some (.int .u8 b.toNat)
  | none => none else none
 | _, _, _ => none
def aLen (P : Program) (t : TypeId) (x : V) (h : AHeap) : Option V :=
 match P.underlying t, x with
 | some .string, .string s => some (.int .i64 s.size)
 | some (.slice _), .sl _ _ n _ => some (.int .i64 n)
 | some (.slice _), .imm n _ => some (.int .i64 n)
 | some (.slice _), .snil => some (.int .i64 0)
 | some (.slice _), .z0 => some (.int .i64 0)
 | some (.array n _), _ => some (.int .i64 n)
 | some (.pointer arr), _ => match P.underlying arr with
  | some (.array n _) => some (.int .i64 n)
  | _ => none
 | some (.map _ _), .mnil => some (.int .i64 0)
 | some (.map _ _), .map i => match h.get i with
  | .map es _ => some (.int .i64 es.length)
  | _ => none
 | _, _ => none
def aAssert (P : Program) (x : V) (asserted : TypeId) (ok : Bool) : Option V :=
 match P.underlying asserted, x with
 | some (.interface _), _ => none
 | some _, .iface t v =>
  if t = asserted then some (if ok then .tuple [v, .bool true] else v)
  else if ok then (match zeroT P asserted with | some z => some (.tuple [absV z, .bool false]) | none => none) else none
 | _, _ => none
theorem aFieldOf_sound {P : Program} {t : TypeId} {x v : V} {x' : Value} {k : Nat} {h : AHeap} (hs : aFieldOf P t x k = some v) {ρ : Ren} {B : Nat} {w0 w : World} (R : WRel ρ B w0 h w) (hx : VRel ρ x x') :
  Keeps P (Instr.field t x' k) ρ w v := by
 unfold aFieldOf at hs
 split at hs
 case h_2 => cases hs
 rename_i fs cs hu
 cases hx with
 | agg hsz hx =>
 split at hs
 case h_2 => cases hs
 rename_i f hf
 obtain ⟨v', hr, hv⟩ := ARel.part ⟨hsz, hx⟩ hs w
 refine Keeps.mk ?_ hv
 simp [Instr.field, run_underlying hu, hf, asAgg, hr]
theorem aIndex_sound {P : Program} {t : TypeId} {x ix v : V} {x' ix' : Value} {h : AHeap} (hs : aIndex P t x ix = some v) {ρ : Ren} {B : Nat} {w0 w : World} (R : WRel ρ B w0 h w) (hx : VRel ρ x x') (hix : VRel ρ ix ix') :
  Keeps P (Instr.index t x' ix') ρ w v := by
 unfold aIndex at hs
 split at hs
 ·rename_i len e cs k n hu
  cases hix
  cases hx with
  | agg hsz hx =>
  split at hs
  case h_2 => cases hs
  rename_i sz hz
  split at hs
  case isFalse => cases hs
  rename_i hb
  obtain ⟨v', hr, hv⟩ := ARel.part ⟨hsz, hx⟩ hs w
  refine Keeps.mk ?_ hv
  cases hq : P.info? e with
  | none => simp [sizeT, hq] at hz
  | some ti =>
   simp [sizeT, hq] at hz
   simp [Instr.index, asIntOf, run_underlying hu, hb, sizeOf, typeInfo, hq, hz, hr]
 ·rename_i s k n hu
  cases hix
  cases hx
  split at hs
  case isFalse => cases hs
  rename_i hb
  split at hs
  case h_2 => cases hs
  rename_i b hbb
  obtain rfl : _ = v := by simpa using hs
  refine Keeps.mk ?_ (.int _ _)
  simp only [Instr.index, asIntOf, Sem.run_bind, Sem.run_pure, Result.andThen_ok, run_underlying hu, if_pos hb, hbb]
 ·cases hs
theorem run_getObj_map {P : Program} {w : World} {b : Nat} {es : Array MapEntry} {c : Nat} (h : w.heap[b]? = some (.map es c)) : (getObj b).run P w = .ok (.map es c) w := by
 simp [getObj, Sem.run, h]
theorem run_getObj_iter {P : Program} {w : World} {b : Nat} {m : Option Nat} {s : Nat} {se : Array Nat} {st : Nat} (h : w.heap[b]? = some (.mapIter m s se st)) : (getObj b).run P w = .ok (.mapIter m s se st) w := by
 simp [getObj, Sem.run, h]
theorem aLen_sound {P : Program} {t ty : TypeId} {x v : V} {x' : Value} {h : AHeap} (hs : aLen P t x h = some v) {ρ : Ren} {B : Nat} {w0 w : World} (R : WRel ρ B w0 h w) (hx : VRel ρ x x') :
  Keeps P (Builtin.len_ #[t] ty #[x']) ρ w v := by
 unfold aLen at hs
 split at hs
 ·rename_i s hu
  cases hx
  obtain rfl : _ = v := by simpa using hs
  exact Keeps.mk (by simp [Builtin.len_, run_underlying hu, goInt]) (.int _ _)
 ·rename_i e b o n c hu
  obtain rfl : _ = v := by simpa using hs
  obtain ⟨_, _, _, _, rfl⟩ := hx.sl_inv
  exact Keeps.mk (by simp [Builtin.len_, run_underlying hu, goInt]) (.int _ _)
 ·rename_i e n cs hu
  obtain rfl : _ = v := by simpa using hs
  rcases hx.imm_inv with ⟨rfl, rfl, a, ca, ha, rfl⟩ | ⟨_, _, _, _, _, _, _, _, rfl⟩
  ·exact Keeps.mk (by simp [Builtin.len_, run_underlying hu, goInt]) (.int _ _)
  ·exact Keeps.mk (by simp [Builtin.len_, run_underlying hu, goInt]) (.int _ _)
 ·rename_i e hu
  obtain rfl : _ = v := by simpa using hs
  cases hx
  exact Keeps.mk (by simp [Builtin.len_, run_underlying hu, goInt]) (.int _ _)
 ·rename_i e hu
  obtain rfl : _ = v := by simpa using hs
  cases hx
  exact Keeps.mk (by simp [Builtin.len_, run_underlying hu, goInt]) (.int _ _)
 ·rename_i n e hu
  obtain rfl : _ = v := by simpa using hs
  exact Keeps.mk (by simp [Builtin.len_, run_underlying hu, goInt]) (.int _ _)
 ·rename_i arr hu
  split at hs
  case h_2 => cases hs
  rename_i n e hu2
  obtain rfl : _ = v := by simpa using hs
  exact Keeps.mk (by simp [Builtin.len_, run_underlying hu, run_underlying hu2, goInt]) (.int _ _)
 ·rename_i k e hu
  obtain rfl : _ = v := by simpa using hs
  cases hx
  exact Keeps.mk (by simp [Builtin.len_, run_underlying hu, goInt]) (.int _ _)
 ·rename_i k e i hu
  split at hs
  case h_2 => cases hs
  rename_i es cl hg
  obtain rfl : _ = v := by simpa using hs
  cases hx with
  | map hi =>
  have ho := R.heap.obj i
  rw [hg] at ho
  obtain ⟨b, cp, arr, hr, _, _, hw, hm⟩ := ho
  rw [hr] at hi
  simp at hi
  obtain ⟨rfl, rfl⟩ := hi
  exact Keeps.mk (by simp [Builtin.len_, run_underlying hu, run_getObj_map hw, goInt, hm.1]) (.int _ _)
 ·cases hs
theorem aAssert_sound {P : Program} {x v : V} {x' : Value} {xt asserted : TypeId} {ok : Bool} {h : AHeap} (hs : aAssert P x asserted ok = some v) {ρ : Ren} {B : Nat} {w0 w : World} (R : WRel ρ B w0 h w) (hx : VRel ρ x x') :
  Keeps P (Instr.typeAssert x' xt asserted ok) ρ w v := by
 unfold aAssert at hs
 split at hs
 ·cases hs
 ·rename_i d t u hni hu
  cases hx with
  | iface t hv =>
  rename_i u'
  split at hs
  ·rename_i ht
   obtain rfl : _ = v := by simpa using hs
   refine Keeps.mk (v' := if ok then .tuple #[u', .bool true] else u') ?_ ?_
   ·cases d with
    | interface ms => exact absurd rfl (hni ms)
    | _ => cases ok <;> simp [Instr.typeAssert, run_underlying hu, ht]
   ·cases ok
    ·exact hv
    ·simp only [if_true]
     exact ((LRel.cons hv (.cons (.bool true) (.nil ρ))).arr).tuple
  ·rename_i ht
   split at hs
   case isFalse => cases hs
   rename_i hok
   subst hok
   split at hs
   case h_2 => cases hs
   rename_i z hz
   obtain rfl : _ = v := by simpa using hs
   refine Keeps.mk (v' := .tuple #[z, .bool false]) ?_ ((LRel.cons (absV_rel ρ z) (.cons (.bool false) (.nil ρ))).arr).tuple
   cases hq : P.info? asserted with
   | none => simp [zeroT, hq] at hz
   | some ti =>
    simp [zeroT, hq] at hz
    cases d with
    | interface ms => exact absurd rfl (hni ms)
    | _ => simp [Instr.typeAssert, run_underlying hu, ht, zeroValue, typeInfo, hq, hz]
 ·cases hs
end Go.Proofs.YtfcjehlhoebmnaaGreatDoor.Ab
namespace Go.Proofs.YtfcjehlhoebmnaaGreatDoor.Ab
open Go Go.RowKit
set_option linter.unusedVariables false
def scalarKind : TypeDesc → Bool
 | .int _ | .string | .bool => true
 | _ => false
def eqKey (P : Program) (kt : TypeId) (d : TypeDesc) (a b : V) : Option Bool :=
 match plainV a, plainV b with
 | some a, some b => if scalarKind d then Instr.sameNow d a b else pureRun P (Op.equal kt a b)
 | _, _ => none
def aFind (P : Program) (kt : TypeId) (d : TypeDesc) (k : V) : List (Nat × V × V) → Option (Option Nat)
 | [] => some none
 | e :: es => match eqKey P kt d k e.2.1 with
  | some true => some (some 0)
  | some false => (aFind P kt d k es).map (·.map (· + 1))
  | none => none
theorem MRel.uncons {ρ : Ren} {e : Nat × V × V} {es : List (Nat × V × V)} {arr : Array MapEntry} (h : MRel ρ (e :: es) arr) : ∃ e' es', arr.toList = e' :: es' ∧ e.1 = e'.born ∧ VRel ρ e.2.1 e'.key ∧ VRel ρ e.2.2 e'.val ∧ MRel ρ es es'.toArray := by
 have hl := h.1
 cases ha : arr.toList with
 | nil =>
  have : arr.size = 0 := by rw [← Array.length_toList, ha]; rfl
  simp at hl; omega
 | cons e' es' =>
  have hk : ∀ k : Nat, arr[k]? = (e' :: es')[k]? := fun k => by rw [← Array.getElem?_toList, ha]
  obtain ⟨a, b, c⟩ := h.2 0 e e' rfl (by rw [hk]; rfl)
  refine ⟨e', es', rfl, a, b, c, ?_, fun k x y hx hy => h.2 (k + 1) x y (by simpa using hx) (by rw [hk]; simpa using hy)⟩
  have : arr.size = es'.length + 1 := by rw [← Array.length_toList, ha]; rfl
  simp at hl ⊢; omega
theorem find_scalar {P : Program} {ρ : Ren} {kt : TypeId} {d : TypeDesc} (hd : scalarKind d = true) {k : V} {k' : Value} (hk : VRel ρ k k') : ∀ (es : List (Nat × V × V)) (l : List MapEntry) (i : Nat) (r : Option Nat), MRel ρ es l.toArray → aFind P kt d k es = some r →
  Instr.findNow d k' l i = some (match r with | some j => (l[j]?).map fun e => (i + j, e.val) | none => none) ∧ (∀ j, r = some j → j < l.length)
 | [], l, i, r, hm, h => by
  have : l = [] := by have := hm.1; simp at this; exact List.eq_nil_of_length_eq_zero this.symm
  subst this
  simp [aFind] at h
  subst h
  exact ⟨rfl, by simp⟩
 | e :: es, l, i, r, hm, h => by
  obtain ⟨e', es', hl, hb, hke, hve, hm'⟩ := hm.uncons
  obtain rfl : l = e' :: es' := by simpa using hl
  unfold aFind at h
  have hs : ∀ b, eqKey P kt d k e.2.1 = some b → Instr.sameNow d k' e'.key = some b := fun b hb => by
   unfold eqKey at hb
   split at hb
   ·rename_i a c ha hc
    rw [if_pos hd] at hb
    rw [plainV_eq hk ha, plainV_eq hke hc]
    exact hb
   ·cases hb
  unfold Instr.findNow
  split at h
  ·rename_i heq
   rw [hs _ heq]
   obtain rfl : some 0 = r := by simpa using h
   exact ⟨rfl, by simp⟩
  ·rename_i heq
   rw [hs _ heq]
   cases ht : aFind P kt d k es with
   | none => simp [ht] at h
   | some r' =>
    simp [ht] at h
    obtain ⟨h1, h2⟩ := find_scalar hd hk es es' (i + 1) r' hm' ht
    subst h
    simp only
    rw [h1]
    cases r' with
    | none => exact ⟨rfl, by simp⟩
    | some j =>
     have := h2 j rfl
     simp [List.getElem?_eq_getElem this, Nat.add_comm, Nat.add_left_comm, this]
  ·cases h
theorem find_asking {P : Program} {ρ : Ren} {kt : TypeId} {d : TypeDesc} (hd : scalarKind d = false) {k : V} {k' : Value} (hk : VRel ρ k k') {w : World} : ∀ (es : List (Nat × V × V)) (l : List MapEntry) (i : Nat) (r : Option Nat), MRel ρ es l.toArray → aFind P kt d k es = some r →
  (Instr.findAsking kt k' l i).run P w = .ok (match r with | some j => (l[j]?).map fun e => (i + j, e.val) | none => none) w ∧ (∀ j, r = some j → j < l.length)
 | [], l, i, r, hm, h => by
  have : l = [] := by have := hm.1; simp at this; exact List.eq_nil_of_length_eq_zero this.symm
  subst this
  simp [aFind] at h
  subst h
  exact ⟨rfl, by simp⟩
 | e :: es, l, i, r, hm, h => by
  obtain ⟨e', es', hl, hb, hke, hve, hm'⟩ := hm.uncons
  obtain rfl : l = e' :: es' := by simpa using hl
  unfold aFind at h
  have hs : ∀ b, eqKey P kt d k e.2.1 = some b → (Op.equal kt k' e'.key).run P w = .ok b w := fun b hb => by
   unfold eqKey at hb
   split at hb
   ·rename_i a c ha hc
    rw [if_neg (by simp [hd])] at hb
    rw [plainV_eq hk ha, plainV_eq hke hc]
    exact pureRun_run hb w
   ·cases hb
  unfold Instr.findAsking
  rw [Sem.run_bind]
  split at h
  ·rename_i heq
   rw [hs _ heq]
   obtain rfl : some 0 = r := by simpa using h
   exact ⟨by simp, by simp⟩
  ·rename_i heq
   rw [hs _ heq]
   cases ht : aFind P kt d k es with
   | none => simp [ht] at h
   | some r' =>
    simp [ht] at h
    obtain ⟨h1, h2⟩ := find_asking hd hk es es' (i + 1) r' hm' ht
    subst h
    simp only [Result.andThen_ok, Bool.false_eq_true, if_false]
    rw [h1]
    cases r' with
    | none => exact ⟨rfl, by simp⟩
    | some j =>
     have := h2 j rfl
     simp [List.getElem?_eq_getElem this, Nat.add_comm, Nat.add_left_comm, this]
  ·cases h
theorem sameNow_other {d : TypeDesc} (hd : scalarKind d = false) (a b : Value) : Instr.sameNow d a b = none := by
 cases d <;> simp [scalarKind] at hd <;> rfl
theorem find_sound {P : Program} {ρ : Ren} {kt : TypeId} {d : TypeDesc} (hu : P.underlying kt = some d) {k : V} {k' : Value} (hk : VRel ρ k k') {w : World} {es : List (Nat × V × V)} {arr : Array MapEntry} {r : Option Nat} (hm : MRel ρ es arr) (h : aFind P kt d k es = some r) :
  (Instr.findKey kt k' arr.toList).run P w = .ok (r.bind fun j => (arr[j]?).map fun e => (j, e.val)) w ∧ (∀ j, r = some j → j < arr.size) := by
 unfold Instr.findKey
 rw [Sem.run_bind, run_underlying hu, Result.andThen_ok]
 have hm' : MRel ρ es arr.toList.toArray := by simpa using hm
 cases hd : scalarKind d with
 | true =>
  obtain ⟨h1, h2⟩ := find_scalar hd hk es arr.toList 0 r hm' h
  rw [h1]
  refine ⟨?_, fun j hj => by simpa using h2 j hj⟩
  cases r <;> simp
 | false =>
  obtain ⟨h1, h2⟩ := find_asking (w := w) hd hk es arr.toList 0 r hm' h
  refine ⟨?_, fun j hj => by simpa using h2 j hj⟩
  cases ha : arr.toList with
  | nil =>
   have he : es = [] := by
    have h3 := hm.1
    rw [← Array.length_toList, ha] at h3
    exact List.eq_nil_of_length_eq_zero h3
   subst he
   simp [aFind] at h
   subst h
   simp [Instr.findNow]
  | cons e l =>
   have : Instr.findNow d k' (e :: l) 0 = none := by unfold Instr.findNow; rw [sameNow_other hd]
   rw [this]
   rw [ha] at h1
   simp only
   rw [h1]
   cases r with
   | none => rfl
   | some j =>
    have e1 : arr[j]? = (e :: l)[j]? := by rw [← Array.getElem?_toList, ha]
    simp [e1]
def keyOk (P : Program) (empty : Bool) (kt : TypeId) (k : V) : Bool :=
 match plainV k with
 | some a => (pureRun P (Instr.checkKey empty 10000 kt a)).isSome
 | none => false
theorem keyOk_run {P : Program} {empty : Bool} {kt : TypeId} {k : V} {k' : Value} {ρ : Ren} (h : keyOk P empty kt k = true) (hk : VRel ρ k k') (w : World) : (Instr.checkKey empty 10000 kt k').run P w = .ok () w := by
 unfold keyOk at h
 split at h
 ·rename_i a ha
  rw [plainV_eq hk ha]
  cases hp : pureRun P (Instr.checkKey empty 10000 kt a) with
  | none => simp [hp] at h
  | some u => exact pureRun_run hp w
 ·cases h
def mapT (P : Program) (t : TypeId) : Option (TypeId × TypeId × TypeDesc) :=
 match P.underlying t with
 | some (.map k e) => (P.underlying k).map fun d => (k, e, d)
 | _ => none
theorem mapT_eq {P : Program} {t k e : TypeId} {d : TypeDesc} (h : mapT P t = some (k, e, d)) : P.underlying t = some (.map k e) ∧ P.underlying k = some d := by
 unfold mapT at h
 split at h
 ·rename_i k' e' hu
  cases hk : P.underlying k' with
  | none => simp [hk] at h
  | some d' =>
   simp [hk] at h
   obtain ⟨rfl, rfl, rfl⟩ := h
   exact ⟨hu, hk⟩
 ·cases h
def aLookup (P : Program) (t : TypeId) (m k : V) (ok : Bool) (h : AHeap) : Option V :=
 match mapT P t with
 | none => none
 | some (kt, et, d) =>
  match zeroT P et, m with
  | some z, .mnil => if keyOk P true kt k then some (if ok then .tuple [absV z, .bool false] else absV z) else none
  | some z, .map i =>
   match h.get i with
   | .map es _ =>
    if keyOk P es.isEmpty kt k then
     match aFind P kt d k es with
     | some (some j) => (es[j]?).map fun e => if ok then .tuple [e.2.2, .bool true] else e.2.2
     | some none => some (if ok then .tuple [absV z, .bool false] else absV z)
     | none => none
    else none
   | _ => none
  | _, _ => none
theorem tup2_rel {ρ : Ren} {v : V} {v' : Value} (h : VRel ρ v v') (b : Bool) (ok : Bool) : VRel ρ (if ok then .tuple [v, .bool b] else v) (if ok then .tuple #[v', .bool b] else v') := by
 cases ok
 ·exact h
 ·exact ((LRel.cons h (.cons (.bool b) (.nil ρ))).arr).tuple
theorem zero_run {P : Program} {e : TypeId} {z : Value} (h : zeroT P e = some z) (w : World) : (zeroValue e).run P w = .ok z w := by
 cases hq : P.info? e with
 | none => simp [zeroT, hq] at h
 | some ti => simp [zeroT, hq] at h; simp [zeroValue, typeInfo, hq, h]
theorem aLookup_sound {P : Program} {t : TypeId} {m k v : V} {m' k' : Value} {ok : Bool} {h : AHeap} (hs : aLookup P t m k ok h = some v) {ρ : Ren} {B : Nat} {w0 w : World} (R : WRel ρ B w0 h w) (hm : VRel ρ m m') (hk : VRel ρ k k') :
  Keeps P (Instr.lookup t m' k' ok) ρ w v := by
 unfold aLookup at hs
 split at hs
 ·cases hs
 rename_i kt et d hT
 obtain ⟨hu, hku⟩ := mapT_eq hT
 split at hs
 ·rename_i z hz
  split at hs
  case isFalse => cases hs
  rename_i hko
  obtain rfl : _ = v := by simpa using hs
  cases hm
  refine Keeps.mk ?_ (tup2_rel (absV_rel ρ z) false ok)
  have hf := (find_sound (P := P) (w := w) (arr := #[]) (es := []) (r := none) hku hk ⟨rfl, by simp⟩ rfl).1
  simp only [Instr.lookup, Sem.run_bind, Sem.run_pure, run_underlying hu, Result.andThen_ok]
  rw [show (#[] : Array MapEntry).isEmpty = true from rfl, keyOk_run hko hk w, Result.andThen_ok, hf]
  simp [zero_run hz]
 ·rename_i z i hz
  split at hs
  case h_2 => cases hs
  rename_i es cl hg
  split at hs
  case isFalse => cases hs
  rename_i hko
  cases hm with
  | map hi =>
  have ho := R.heap.obj i
  rw [hg] at ho
  obtain ⟨b, cp, arr, hr, _, _, hw, hmr⟩ := ho
  rw [hr] at hi
  simp at hi
  obtain ⟨rfl, rfl⟩ := hi
  have hem : es.isEmpty = arr.isEmpty := by
   have := hmr.1
   rw [Bool.eq_iff_iff, List.isEmpty_iff, Array.isEmpty_iff, ← List.length_eq_zero_iff, ← Array.size_eq_zero_iff, this]
  rw [hem] at hko
  split at hs
  ·rename_i j hf
   obtain ⟨h1, h2⟩ := find_sound (P := P) (w := w) hku hk hmr hf
   have hj := h2 j rfl
   have hj' : j < es.length := by rw [hmr.1]; exact hj
   rw [List.getElem?_eq_getElem hj'] at hs
   obtain rfl : _ = v := by simpa using hs
   obtain ⟨_, _, hv⟩ := hmr.2 j _ _ (List.getElem?_eq_getElem hj') (Array.getElem?_eq_getElem hj)
   refine Keeps.mk ?_ (tup2_rel hv true ok)
   simp only [Instr.lookup, Sem.run_bind, Sem.run_pure, run_underlying hu, run_getObj_map hw, Result.andThen_ok]
   rw [keyOk_run hko hk w, Result.andThen_ok, h1]
   simp [Array.getElem?_eq_getElem hj]
  ·rename_i hf
   obtain ⟨h1, h2⟩ := find_sound (P := P) (w := w) hku hk hmr hf
   obtain rfl : _ = v := by simpa using hs
   refine Keeps.mk ?_ (tup2_rel (absV_rel ρ z) false ok)
   simp only [Instr.lookup, Sem.run_bind, Sem.run_pure, run_underlying hu, run_getObj_map hw, Result.andThen_ok]
   rw [keyOk_run hko hk w, Result.andThen_ok, h1]
   simp [zero_run hz]
  ·cases hs
 ·cases hs
def aUpdate (P : Program) (t : TypeId) (m k v : V) (h : AHeap) : Option AHeap :=
 match mapT P t, m with
 | some (kt, et, d), .map i =>
  match h.get i with
  | .map es cl =>
   if keyOk P false kt k then
    match aFind P kt d k es with
    | some (some j) =>
     match (es[j]?).bind fun e => plainV e.2.1, plainV k with
     | some a, some b => if Instr.sameBits 10000 a b = true then some (h.set i (.map (es.modify j fun e => (e.1, k, v)) cl)) else none
     | _, _ => none
    | some none => some (h.set i (.map (es ++ [(cl, k, v)]) (cl + 1)))
    | none => none
   else none
  | _ => none
 | _, _ => none
theorem run_setObj_map {P : Program} {w : World} {b : Nat} {es : Array MapEntry} {c : Nat} (h : w.heap[b]? = some (.map es c)) (o : Obj) : (setObj b o).run P w = .ok () { w with heap := w.heap.setIfInBounds b o } := by
 simp [setObj, Sem.run, h]
theorem run_setObj_iter {P : Program} {w : World} {b : Nat} {m : Option Nat} {s : Nat} {se : Array Nat} {st : Nat} (h : w.heap[b]? = some (.mapIter m s se st)) (o : Obj) : (setObj b o).run P w = .ok () { w with heap := w.heap.setIfInBounds b o } := by
 simp [setObj, Sem.run, h]
theorem WRel.setObj {ρ : Ren} {B : Nat} {w0 : World} {h : AHeap} {w : World} (R : WRel ρ B w0 h w) {i b cp : Nat} (hi : ρ.ren i = some (b, cp)) (hl : h.get i ≠ .dead) (hB : B ≤ b) {o : AObj} {ob : Obj}
  (hlt : b < w.heap.size) (hnew : ORel ρ B { w with heap := w.heap.setIfInBounds b ob } i o) : WRel ρ B w0 (h.set i o) { w with heap := w.heap.setIfInBounds b ob } := by
 refine R.setO hi hl (fun k hk => by simp [Array.getElem?_setIfInBounds, Ne.symm hk]) (by simp) ⟨rfl, rfl, rfl, by simp, fun k hk => ?_, Nat.le_refl _⟩ hnew
 simp [Array.getElem?_setIfInBounds, show b ≠ k by omega]
theorem aUpdate_sound {P : Program} {t : TypeId} {m k v : V} {m' k' v' : Value} {h h' : AHeap} (hs : aUpdate P t m k v h = some h') {ρ : Ren} {B : Nat} {w0 w : World} (R : WRel ρ B w0 h w) (hm : VRel ρ m m') (hk : VRel ρ k k') (hv : VRel ρ v v') :
  ∃ w', (Instr.mapUpdate t m' k' v').run P w = .ok () w' ∧ WRel ρ B w0 h' w' := by
 unfold aUpdate at hs
 split at hs
 case h_2 => cases hs
 rename_i kt et d i hT
 obtain ⟨hu, hku⟩ := mapT_eq hT
 split at hs
 case h_2 => cases hs
 rename_i es cl hg
 split at hs
 case isFalse => cases hs
 rename_i hko
 cases hm with
 | map hi =>
 have ho := R.heap.obj i
 rw [hg] at ho
 obtain ⟨b, cp, arr, hr, hfz, hB, hw, hmr⟩ := ho
 rw [hr] at hi
 simp at hi
 obtain ⟨rfl, rfl⟩ := hi
 have hlt : b < w.heap.size := (Array.getElem?_eq_some_iff.1 hw).1
 split at hs
 ·rename_i j hf
  split at hs
  case h_2 => cases hs
  rename_i a c ha hc
  split at hs
  case isFalse => cases hs
  rename_i hsb
  obtain rfl : _ = h' := by simpa using hs
  obtain ⟨h1, h2⟩ := find_sound (P := P) (w := w) hku hk hmr hf
  have hj := h2 j rfl
  have hj' : j < es.length := by rw [hmr.1]; exact hj
  obtain ⟨_, hke, _⟩ := hmr.2 j _ _ (List.getElem?_eq_getElem hj') (Array.getElem?_eq_getElem hj)
  rw [List.getElem?_eq_getElem hj'] at ha
  simp at ha
  have e1 := plainV_eq hke ha
  have e2 := plainV_eq hk hc
  have R' := R.setObj (o := .map (es.modify j fun e => (e.1, k, v)) cl) (ob := .map (arr.modify j fun e => { e with key := k', val := v' }) cl) hr (by rw [hg]; simp) hB hlt (by
   refine ⟨b, cp, arr.modify j (fun e => { e with key := k', val := v' }), hr, hfz, hB, by simp [hlt], by simp [hmr.1], fun q e e' hq hq' => ?_⟩
   rw [List.getElem?_modify] at hq
   rw [Array.getElem?_modify] at hq'
   by_cases hjq : j = q
   ·subst hjq
    rw [List.getElem?_eq_getElem hj'] at hq
    rw [Array.getElem?_eq_getElem hj] at hq'
    simp at hq hq'
    subst hq; subst hq'
    obtain ⟨h3, _, _⟩ := hmr.2 j _ _ (List.getElem?_eq_getElem hj') (Array.getElem?_eq_getElem hj)
    exact ⟨h3, hk, hv⟩
   ·simp [hjq] at hq hq'
    exact hmr.2 q e e' hq hq')
  refine ⟨_, ?_, R'⟩
  simp only [Instr.mapUpdate, Sem.run_bind, run_underlying hu, run_getObj_map hw, Result.andThen_ok]
  rw [keyOk_run hko hk w, Result.andThen_ok, h1]
  have hks : (Instr.keyThatStays a c).run P w = .ok c w := by unfold Instr.keyThatStays; rw [if_pos hsb]; rfl
  simp [Array.getElem?_eq_getElem hj, e1, e2, hks, run_setObj_map hw]
 ·rename_i hf
  obtain rfl : _ = h' := by simpa using hs
  obtain ⟨h1, h2⟩ := find_sound (P := P) (w := w) hku hk hmr hf
  have R' := R.setObj (o := .map (es ++ [(cl, k, v)]) (cl + 1)) (ob := .map (arr.push { key := k', val := v', born := cl }) (cl + 1)) hr (by rw [hg]; simp) hB hlt (by
   refine ⟨b, cp, arr.push { key := k', val := v', born := cl }, hr, hfz, hB, by simp [hlt], by simp [hmr.1], fun q e e' hq hq' => ?_⟩
   rw [List.getElem?_append] at hq
   rw [Array.getElem?_push] at hq'
   by_cases hqe : q < es.length
   ·rw [if_pos hqe] at hq
    rw [if_neg (by rw [← hmr.1]; omega)] at hq'
    exact hmr.2 q e e' hq hq'
   ·rw [if_neg hqe] at hq
    have hq0 : q = es.length := by
     have := (List.getElem?_eq_some_iff.1 hq).1
     simp at this; omega
    subst hq0
    rw [if_pos hmr.1] at hq'
    simp at hq hq'
    subst hq; subst hq'
    exact ⟨rfl, hk, hv⟩)
  refine ⟨_, ?_, R'⟩
  simp only [Instr.mapUpdate, Sem.run_bind, run_underlying hu, run_getObj_map hw, Result.andThen_ok]
  rw [keyOk_run hko hk w, Result.andThen_ok, h1]
  simp [run_setObj_map hw]
 ·cases hs
def aDelete (P : Program) (t : TypeId) (m k : V) (h : AHeap) : Option AHeap :=
 match mapT P t, m with
 | some (kt, et, d), .map i =>
  match h.get i with
  | .map es cl =>
   if keyOk P es.isEmpty kt k then
    match aFind P kt d k es with
    | some (some j) => some (h.set i (.map (es.eraseIdx j) cl))
    | some none => some h
    | none => none
   else none
  | _ => none
 | _, _ => none
theorem aDelete_sound {P : Program} {t ty : TypeId} {ts : Array TypeId} {m k : V} {m' k' : Value} {h h' : AHeap} (ht : ts[0]? = some t) (hs : aDelete P t m k h = some h') {ρ : Ren} {B : Nat} {w0 w : World} (R : WRel ρ B w0 h w) (hm : VRel ρ m m') (hk : VRel ρ k k') :
  ∃ w', (Builtin.delete_ ts ty #[m', k']).run P w = .ok (.tuple #[]) w' ∧ WRel ρ B w0 h' w' := by
 unfold aDelete at hs
 split at hs
 case h_2 => cases hs
 rename_i kt et d i hT
 obtain ⟨hu, hku⟩ := mapT_eq hT
 split at hs
 case h_2 => cases hs
 rename_i es cl hg
 split at hs
 case isFalse => cases hs
 rename_i hko
 cases hm with
 | map hi =>
 have ho := R.heap.obj i
 rw [hg] at ho
 obtain ⟨b, cp, arr, hr, hfz, hB, hw, hmr⟩ := ho
 rw [hr] at hi
 simp at hi
 obtain ⟨rfl, rfl⟩ := hi
 have hlt : b < w.heap.size := (Array.getElem?_eq_some_iff.1 hw).1
 have hem : es.isEmpty = arr.isEmpty := by
  have := hmr.1
  rw [Bool.eq_iff_iff, List.isEmpty_iff, Array.isEmpty_iff, ← List.length_eq_zero_iff, ← Array.size_eq_zero_iff, this]
 rw [hem] at hko
 split at hs
 ·rename_i j hf
  obtain rfl : _ = h' := by simpa using hs
  obtain ⟨h1, h2⟩ := find_sound (P := P) (w := w) hku hk hmr hf
  have hj := h2 j rfl
  have hj' : j < es.length := by rw [hmr.1]; exact hj
  have R' := R.setObj (o := .map (es.eraseIdx j) cl) (ob := .map (arr.eraseIdxIfInBounds j) cl) hr (by rw [hg]; simp) hB hlt (by
   have e1 : ∀ q : Nat, (arr.eraseIdxIfInBounds j)[q]? = if q < j then arr[q]? else arr[q + 1]? := fun q => by
    rw [← Array.getElem?_toList, Array.toList_eraseIdxIfInBounds, List.getElem?_eraseIdx]
    simp
   refine ⟨b, cp, arr.eraseIdxIfInBounds j, hr, hfz, hB, by simp [hlt], ?_, fun q e e' hq hq' => ?_⟩
   ·rw [List.length_eraseIdx, if_pos hj', ← Array.length_toList, Array.toList_eraseIdxIfInBounds, List.length_eraseIdx, if_pos (by simpa using hj), hmr.1]
    simp
   ·rw [List.getElem?_eraseIdx] at hq
    rw [e1] at hq'
    by_cases hqj : q < j
    ·simp only [hqj, if_true] at hq hq'
     exact hmr.2 q e e' hq hq'
    ·simp only [hqj, if_false] at hq hq'
     exact hmr.2 _ e e' hq hq')
  refine ⟨_, ?_, R'⟩
  simp only [Builtin.delete_, ht, Sem.run_bind, run_underlying hu, run_getObj_map hw, Result.andThen_ok, List.getElem?_toArray, List.getElem?_cons_zero, List.getElem?_cons_succ]
  rw [keyOk_run hko hk w, Result.andThen_ok, h1]
  simp [Array.getElem?_eq_getElem hj, run_setObj_map hw]
 ·rename_i hf
  obtain rfl : _ = h' := by simpa using hs
  obtain ⟨h1, h2⟩ := find_sound (P := P) (w := w) hku hk hmr hf
  have R' := R.setObj (o := .map es cl) (ob := .map arr cl) hr (by rw [hg]; simp) hB hlt ⟨b, cp, arr, hr, hfz, hB, by simp [hlt], hmr⟩
  have hh : h.set i (.map es cl) = h := by
   unfold AHeap.set
   congr 1
   funext j
   by_cases hji : j = i
   ·subst hji; simp [hg]
   ·simp [hji]
  rw [hh] at R'
  refine ⟨_, ?_, R'⟩
  simp only [Builtin.delete_, ht, Sem.run_bind, run_underlying hu, run_getObj_map hw, Result.andThen_ok, List.getElem?_toArray, List.getElem?_cons_zero, List.getElem?_cons_succ]
  rw [keyOk_run hko hk w, Result.andThen_ok, h1]
  simp [run_setObj_map hw]
 ·cases hs
def aMakeMap (P : Program) (t : TypeId) (r : Option V) (h : AHeap) : Option (V × AHeap) :=
 match r with
 | none => some (.map h.n, h.push (.map [] 0))
 | some (.int _ _) => if (mapT P t).isSome then some (.map h.n, h.push (.map [] 0)) else none
 | _ => none
theorem newObj_yields {ρ : Ren} {B : Nat} {w0 w : World} {h : AHeap} (R : WRel ρ B w0 h w) {o : AObj} {ob : Obj} (hnew : ∀ ρ' : Ren, ρ.le ρ' → ρ'.ren h.n = some (w.heap.size, 0) → ρ'.frz w.heap.size = none → ORel ρ' B { w with heap := w.heap.push ob } h.n o) :
  ∃ ρ' : Ren, ρ.le ρ' ∧ ρ'.ren h.n = some (w.heap.size, 0) ∧ WRel ρ' B w0 (h.push o) { w with heap := w.heap.push ob } := by
 have hnf : ρ.frz w.heap.size = none := by
  cases hf : ρ.frz w.heap.size with
  | none => rfl
  | some a =>
   obtain ⟨e, fz, hw⟩ := R.heap.frz _ _ hf
   have := (Array.getElem?_eq_some_iff.1 hw).1
   omega
 have hle := Ren.le_add (R.heap.dom _ (Nat.le_refl _)) w.heap.size 0
 obtain ⟨h1, h2⟩ := R.pushO (o := o) (w' := { w with heap := w.heap.push ob }) 0 (by simp) (fun k hk => by simp [Array.getElem?_push, show k ≠ w.heap.size by omega])
  ⟨rfl, rfl, rfl, by simp, fun k hk => by have := R.heap.base; simp [Array.getElem?_push, show k ≠ w.heap.size by omega], Nat.le_refl _⟩ (hnew _ hle Ren.add_new hnf)
 exact ⟨_, h1, Ren.add_new, h2⟩
theorem aMakeMap_sound {P : Program} {t : TypeId} {r : Option V} {r' : Option Value} {v : V} {h h' : AHeap} (hs : aMakeMap P t r h = some (v, h')) {ρ : Ren} {B : Nat} {w0 w : World} (R : WRel ρ B w0 h w) (hr : Option.Rel (VRel ρ) r r') :
  Yields P (Instr.makeMap t r') ρ B w0 w v h' := by
 have key : ∀ v h', some (V.map h.n, h.push (.map [] 0)) = some (v, h') → (Instr.makeMap t r').run P w = .ok (.map (some w.heap.size)) { w with heap := w.heap.push (.map #[] 0) } → Yields P (Instr.makeMap t r') ρ B w0 w v h' := fun v h' he hrun => by
  simp at he
  obtain ⟨rfl, rfl⟩ := he
  obtain ⟨ρ', hle, hn, R'⟩ := newObj_yields R (o := .map [] 0) (ob := .map #[] 0) fun ρ' hle hn hf => ⟨w.heap.size, 0, #[], hn, hf, R.heap.base, by simp, rfl, by simp⟩
  exact ⟨ρ', _, _, hrun, .map hn, R', hle⟩
 unfold aMakeMap at hs
 cases hr with
 | none => exact key v h' hs (by simp [Instr.makeMap, newObj, Sem.run])
 | some hv =>
  rename_i a b
  cases a <;> simp at hs
  rename_i kk n
  cases hv
  obtain ⟨hT, h1, h2⟩ := hs
  refine key v h' (by simp [h1, h2]) ?_
  cases hm : mapT P t with
  | none => simp [hm] at hT
  | some q =>
   obtain ⟨kt, et, d⟩ := q
   simp [Instr.makeMap, run_underlying (mapT_eq hm).1, asInt, asIntOf, newObj, Sem.run]
def aRange (P : Program) (t : TypeId) (x : V) (h : AHeap) : Option (V × AHeap) :=
 match mapT P t, x with
 | some _, .map i => match h.get i with
  | .map es cl => some (.ptr h.n 0, h.push (.iter i cl [] cl))
  | _ => none
 | _, _ => none
theorem aRange_sound {P : Program} {t : TypeId} {x v : V} {x' : Value} {h h' : AHeap} (hs : aRange P t x h = some (v, h')) {ρ : Ren} {B : Nat} {w0 w : World} (R : WRel ρ B w0 h w) (hx : VRel ρ x x') :
  Yields P (Instr.range t x') ρ B w0 w v h' := by
 unfold aRange at hs
 split at hs
 case h_2 => cases hs
 rename_i q i hT
 obtain ⟨kt, et, d⟩ := q
 obtain ⟨hu, _⟩ := mapT_eq hT
 split at hs
 case h_2 => cases hs
 rename_i es cl hg
 simp at hs
 obtain ⟨rfl, rfl⟩ := hs
 cases hx with
 | map hi =>
 have ho := R.heap.obj i
 rw [hg] at ho
 obtain ⟨b, cp, arr, hr, hfz, hB, hw, hmr⟩ := ho
 rw [hr] at hi
 simp at hi
 obtain ⟨rfl, rfl⟩ := hi
 obtain ⟨ρ', hle, hn, R'⟩ := newObj_yields R (o := .iter i cl [] cl) (ob := .mapIter (some b) cl #[] cl) fun ρ' hle hn hf => ⟨w.heap.size, 0, b, cp, hn, hf, R.heap.base, hle.ren _ _ hr, by simp⟩
 refine ⟨ρ', _, _, ?_, .ptr hn 0, R', hle⟩
 simp [Instr.range, run_underlying hu, run_getObj_map hw, newObj, Sem.run]
def remOf (es : List (Nat × V × V)) (seen : List Nat) : List (Nat × V × V) := es.filter fun e => !seen.contains e.1
def aNext (it : V) (h : AHeap) : Option (List (V × AHeap)) :=
 match it with
 | .ptr r 0 => match h.get r with
  | .iter m since seen last => match h.get m with
   | .map es clock =>
    if (!seen.isEmpty && !es.isEmpty && es.all (fun e => decide (last ≤ e.1))) = true then none else
    some (
     (if (remOf es seen).all (fun e => decide (since ≤ e.1)) then [(.tuple [.bool false], h)] else []) ++
     (remOf es seen).map fun e => (.tuple [.bool true, e.2.1, e.2.2], h.set r (.iter m since (seen ++ [e.1]) clock)))
   | _ => none
  | _ => none
 | _ => none
def aEntry (it : V) (h : AHeap) : Option V :=
 match it with
 | .ptr r 0 => match h.get r with
  | .iter m since seen stepped => match seen.getLast?, h.get m with
   | some stamp, .map es clock => if clock = stepped then (es.find? fun e => e.1 == stamp).map fun e => .tuple [e.2.1, e.2.2] else none
   | _, _ => none
  | _ => none
 | _ => none
theorem find_rel {ρ : Ren} (p : Nat → Bool) : ∀ (es : List (Nat × V × V)) (l : List MapEntry) (e : Nat × V × V), MRel ρ es l.toArray → es.find? (fun e => p e.1) = some e → ∃ e', l.find? (fun e => p e.born) = some e' ∧ VRel ρ e.2.1 e'.key ∧ VRel ρ e.2.2 e'.val
 | [], l, e, hm, h => by simp at h
 | a :: es, l, e, hm, h => by
  obtain ⟨e', es', hl, hb, hke, hve, hm'⟩ := hm.uncons
  obtain rfl : l = e' :: es' := by simpa using hl
  rw [List.find?_cons] at h ⊢
  rw [← hb]
  by_cases hp : p a.1 = true
  ·simp only [hp] at h ⊢
   obtain rfl : a = e := by simpa using h
   exact ⟨e', rfl, hke, hve⟩
  ·simp only [Bool.not_eq_true] at hp
   simp only [hp] at h ⊢
   exact find_rel p es es' e hm' h
theorem aEntry_sound {P : Program} {it v : V} {it' : Value} {h : AHeap} (hs : aEntry it h = some v) {ρ : Ren} {B : Nat} {w0 w : World} (R : WRel ρ B w0 h w) (hi : VRel ρ it it') :
  Keeps P (Instr.entry it') ρ w v := by
 unfold aEntry at hs
 split at hs
 case h_2 => cases hs
 rename_i r
 split at hs
 case h_2 => cases hs
 rename_i m since seen stepped hgr
 split at hs
 case h_2 => cases hs
 rename_i stamp es clock hlast hgm
 split at hs
 case isFalse => cases hs
 rename_i hcl
 obtain ⟨rb, rc, hri, rfl⟩ := hi.ptr_inv
 have ho := R.heap.obj r
 rw [hgr] at ho
 obtain ⟨b, cp, bm, cm, hr, hfz, hB, hrm, hw⟩ := ho
 rw [hr] at hri
 simp at hri
 obtain ⟨rfl, rfl⟩ := hri
 have hom := R.heap.obj m
 rw [hgm] at hom
 obtain ⟨b2, cp2, arr, hr2, hfz2, hB2, hw2, hmr⟩ := hom
 rw [hr2] at hrm
 simp at hrm
 obtain ⟨rfl, rfl⟩ := hrm
 cases hf : es.find? (fun e => e.1 == stamp) with
 | none => simp [hf] at hs
 | some e =>
  simp [hf] at hs
  subst hs
  obtain ⟨e', hf', hk, hv⟩ := find_rel (fun n => n == stamp) es arr.toList e (by simpa using hmr) hf
  have hf2 : arr.find? (fun x => x.born == stamp) = some e' := by rw [← Array.find?_toList]; exact hf'
  have hb : seen.toArray.back? = some stamp := by simpa using hlast
  refine Keeps.mk (v' := .tuple #[e'.key, e'.val]) ?_ ((LRel.cons hk (.cons hv (.nil ρ))).arr).tuple
  simp only [Instr.entry, Sem.run_bind, run_getObj_iter hw, Result.andThen_ok, hb, run_getObj_map hw2]
  subst hcl
  simp [hf2]
theorem filter_rel {ρ : Ren} (seen : List Nat) (p : Nat → Bool) : ∀ (es : List (Nat × V × V)) (l : List MapEntry), MRel ρ es l.toArray → MRel ρ (es.filter fun e => p e.1) (l.filter fun e => p e.born).toArray
 | [], l, hm => by
  have : l = [] := by have := hm.1; simp at this; exact List.eq_nil_of_length_eq_zero this.symm
  subst this
  exact ⟨rfl, by simp⟩
 | e :: es, l, hm => by
  obtain ⟨e', es', hl, hb, hke, hve, hm'⟩ := hm.uncons
  obtain rfl : l = e' :: es' := by simpa using hl
  have ih := filter_rel seen p es es' hm'
  simp only [List.filter_cons, hb]
  by_cases hp : p e'.born = true
  ·simp only [hp, if_true]
   refine ⟨by have := ih.1; simpa using this, fun k x y hx hy => ?_⟩
   cases k with
   | zero => simp at hx hy; subst hx; subst hy; exact ⟨hb, hke, hve⟩
   | succ k => exact ih.2 k x y (by simpa using hx) (by simpa using hy)
  ·simp only [hp]
   exact ih
theorem MRel.all {ρ : Ren} (p : Nat → Bool) : ∀ (es : List (Nat × V × V)) (l : List MapEntry), MRel ρ es l.toArray → (es.all fun e => p e.1) = (l.all fun e => p e.born)
 | [], l, hm => by
  have : l = [] := by have := hm.1; simp at this; exact List.eq_nil_of_length_eq_zero this.symm
  subst this
  rfl
 | e :: es, l, hm => by
  obtain ⟨e', es', hl, hb, hke, hve, hm'⟩ := hm.uncons
  obtain rfl : l = e' :: es' := by simpa using hl
  simp only [List.all_cons, hb, MRel.all p es es' hm']
theorem aNext_sound {P : Program} {it : V} {it' : Value} {ty : TypeId} {h : AHeap} {alts : List (V × AHeap)} (hs : aNext it h = some alts) {ρ : Ren} {B : Nat} {w0 w : World} (R : WRel ρ B w0 h w) (hi : VRel ρ it it') :
  ∃ v h', (v, h') ∈ alts ∧ Yields P (Instr.next it' false ty) ρ B w0 w v h' := by
 unfold aNext at hs
 split at hs
 case h_2 => cases hs
 rename_i r
 split at hs
 case h_2 => cases hs
 rename_i m since seen last hgr
 split at hs
 case h_2 => cases hs
 rename_i es clock hgm
 split at hs
 case isTrue => cases hs
 rename_i hno
 obtain ⟨rb, rc, hri, rfl⟩ := hi.ptr_inv
 have ho := R.heap.obj r
 rw [hgr] at ho
 obtain ⟨b, cp, bm, cm, hr, hfz, hB, hrm, hw⟩ := ho
 rw [hr] at hri
 simp at hri
 obtain ⟨rfl, rfl⟩ := hri
 have hom := R.heap.obj m
 rw [hgm] at hom
 obtain ⟨b2, cp2, arr, hr2, hfz2, hB2, hw2, hmr⟩ := hom
 rw [hr2] at hrm
 simp at hrm
 obtain ⟨rfl, rfl⟩ := hrm
 have hlt : b < w.heap.size := (Array.getElem?_eq_some_iff.1 hw).1
 simp only [Option.some.injEq] at hs
 have hmr' : MRel ρ es arr.toList.toArray := by simpa using hmr
 have hnoc : ¬ ((!seen.toArray.isEmpty && !arr.isEmpty && arr.all (fun e => decide (last ≤ e.born))) = true) := by
  have e1 : seen.toArray.isEmpty = seen.isEmpty := by simp
  have e2 : arr.isEmpty = es.isEmpty := by
   have := hmr.1
   rw [Bool.eq_iff_iff, List.isEmpty_iff, Array.isEmpty_iff, ← List.length_eq_zero_iff, ← Array.size_eq_zero_iff, this]
  have e3 : arr.all (fun e => decide (last ≤ e.born)) = es.all (fun e => decide (last ≤ e.1)) := by
   rw [MRel.all (fun n => decide (last ≤ n)) es arr.toList hmr', Array.all_toList]
  rw [e1, e2, e3]
  exact hno
 have hleft := filter_rel seen (fun n => !seen.contains n) es arr.toList hmr'
 let left := arr.filter fun e => !seen.toArray.contains e.born
 let cands : Array (Option MapEntry) := (if (left.filter (fun e => decide (e.born < since))).isEmpty then #[none] else #[]) ++ (left.filter (fun e => decide (e.born < since)) ++ left.filter (fun e => decide (since ≤ e.born))).map some
 have hleft' : left.toList = arr.toList.filter fun e => !seen.contains e.born := by simp [left]
 have hrun : ∃ q : Nat, ∃ w1, (∃ c, cands[q]? = some c) ∧ WRel ρ B w0 h w1 ∧ w1.heap = w.heap ∧ ∀ c, cands[q]? = some c →
   (Instr.next (.pointer (some ⟨b, 0, none⟩)) false ty).run P w = (match c with
    | some e => ((setObj b (.mapIter (some b2) since (seen.toArray.push e.born) clock)).run P w1).andThen fun _ w2 => .ok (.tuple #[.bool true, e.key, e.val]) w2
    | none => .ok (.tuple #[.bool false]) w1) := by
  have hne : cands.size ≠ 0 := by
   intro h0
   simp only [cands, Array.size_append, Array.size_map] at h0
   by_cases he : (left.filter (fun e => decide (e.born < since))).isEmpty = true
   ·simp [he] at h0
   ·have : (left.filter (fun e => decide (e.born < since))).size = 0 := by omega
    exact he (by simp [Array.isEmpty, this])
  have hch : ∃ q w1, q < cands.size ∧ (choose (.mapNext cands.size)).run P w = .ok q w1 ∧ WRel ρ B w0 h w1 ∧ w1.heap = w.heap := by
   by_cases hf : (Question.mapNext cands.size).forced = true
   ·refine ⟨0, w, by omega, ?_, R, rfl⟩
    simp [choose, Sem.run, hf]
   ·refine ⟨(Question.mapNext cands.size).cut (w.tape w.drawn (.mapNext cands.size)), w.drew, ?_, ?_, R.drew, rfl⟩
    ·simp only [Question.cut]
     exact Nat.mod_lt _ (by omega)
    ·have hf' : (Question.mapNext cands.size).forced = false := by simpa using hf
     simp only [choose, Sem.run, hf']
     rfl
  obtain ⟨q, w1, hq, hc, R1, hh⟩ := hch
  refine ⟨q, w1, ⟨_, Array.getElem?_eq_getElem hq⟩, R1, hh, fun c hqc => ?_⟩
  simp only [Instr.next, Sem.run_bind, run_getObj_iter hw, run_getObj_map hw2, Result.andThen_ok]
  have hnoc' : ¬ ((!seen.toArray.isEmpty && !arr.isEmpty && arr.all (fun x => decide (x.born ≥ last))) = true) := hnoc
  rw [if_neg hnoc']
  have hc' := hc
  simp only [cands, left] at hc' hqc
  simp only [Sem.run_bind, Sem.run_pure, Result.andThen_ok, ge_iff_le, hc', hqc]
  cases c <;> simp
 obtain ⟨q, w1, ⟨c, hqc⟩, R1, hh, hrun⟩ := hrun
 have hrun := hrun c hqc
 have hcm : c ∈ cands := Array.mem_of_getElem? hqc
 cases c with
 | none =>
  refine ⟨.tuple [.bool false], h, ?_, ρ, _, w1, hrun, ((LRel.cons (.bool false) (.nil ρ)).arr).tuple, R1, Ren.le.refl ρ⟩
  rw [← hs]
  apply List.mem_append_left
  have he : (left.filter (fun e => decide (e.born < since))).isEmpty = true := by
   by_cases he : (left.filter (fun e => decide (e.born < since))).isEmpty = true
   ·exact he
   ·simp [cands, he] at hcm
  have : (remOf es seen).all (fun e => decide (since ≤ e.1)) = true := by
   unfold remOf
   rw [MRel.all (fun n => decide (since ≤ n)) _ _ hleft, ← hleft']
   rw [List.all_eq_true]
   intro e hel
   rw [Array.isEmpty_iff, ← Array.toList_inj] at he
   simp only [Array.toList_filter] at he
   have h3 := List.filter_eq_nil_iff.1 he e (by simpa using hel)
   simp at h3 ⊢
   exact h3
  rw [this]
  simp
 | some e =>
  have hel : e ∈ left.toList := by
   simp only [cands, Array.mem_append, Array.mem_map] at hcm
   rcases hcm with hcm | ⟨x, hx, hxe⟩
   ·split at hcm <;> simp at hcm
   ·simp at hxe
    subst hxe
    rcases hx with hx | hx
    ·simpa using (Array.mem_filter.1 hx).1
    ·simpa using (Array.mem_filter.1 hx).1
  rw [hleft'] at hel
  obtain ⟨k, hk⟩ := List.getElem?_of_mem hel
  have hkl : k < (es.filter fun e => !seen.contains e.1).length := by
   rw [hleft.1]
   simpa using (List.getElem?_eq_some_iff.1 hk).1
  obtain ⟨h1, h2, h3⟩ := hleft.2 k _ e (List.getElem?_eq_getElem hkl) (by simpa using hk)
  have hmem : (es.filter fun e => !seen.contains e.1)[k] ∈ remOf es seen := List.getElem_mem hkl
  generalize (es.filter fun e => !seen.contains e.1)[k] = a at h1 h2 h3 hmem
  have hw1 : w1.heap[b]? = some (.mapIter (some b2) since seen.toArray last) := by rw [hh]; exact hw
  simp only [run_setObj_iter hw1, Result.andThen_ok] at hrun
  refine ⟨.tuple [.bool true, a.2.1, a.2.2], h.set r (.iter m since (seen ++ [a.1]) clock), ?_, ρ, _, _, hrun, ((LRel.cons (.bool true) (.cons h2 (.cons h3 (.nil ρ)))).arr).tuple, ?_, Ren.le.refl ρ⟩
  ·rw [← hs]
   apply List.mem_append_right
   exact List.mem_map.2 ⟨a, hmem, rfl⟩
  ·refine R1.setObj hr (by rw [hgr]; simp) hB (by rw [hh]; exact hlt) ?_
   exact ⟨b, cp, b2, cp2, hr, hfz, hB, hr2, by simp [hh, hlt, h1]⟩
end Go.Proofs.YtfcjehlhoebmnaaGreatDoor.Ab
namespace Go.Proofs.YtfcjehlhoebmnaaGreatDoor.Ab
open Go Go.RowKit
set_option linter.unusedVariables false
inductive Step where
 | val (v : V) (h : AHeap)
 | call (f : FuncId) (args : List V)
 | alts (l : List (V × AHeap))
 | panic
 | round (l : Nat) (args : List V)
def callable (P : Program) (f : FuncId) : Bool :=
 match P.funcs[f]? with
 | some fn => fn.body.isSome && fn.name != "runtime.NumGoroutine"
 | none => false
def isIfaceT (P : Program) (t : TypeId) : Option Bool := match P.underlying t with | some (.interface _) => some true | some _ => some false | none => none
def aClear (P : Program) (t : TypeId) (x : V) (h : AHeap) : Option AHeap :=
 match elemT P t, x with
 | some _, .snil => some h
 | some _, .z0 => some h
 | some _, .imm n _ => if n = 0 then some h else none
 | some e, .sl i o len _ =>
  match zeroC P e, h.get i with
  | some zs, .cells c e2 ex =>
   if len = 0 then some h
   else if zs.all (·.one) = true ∧ o + (made zs len).length ≤ c.length then some (h.set i (.cells (lay c o (made zs len)) e2 ex)) else none
  | _, _ => none
 | _, _ => none
theorem made_all {α : Type} (p : α → Bool) (z : List α) (n : Nat) (h : z.all p = true) : (made z n).all p = true := by
 induction n with
 | zero => rfl
 | succ n ih => rw [made_succ, List.all_append, ih, h]; rfl
theorem aClear_sound {P : Program} {t ty : TypeId} {x : V} {x' : Value} {h h' : AHeap} (hs : aClear P t x h = some h') {ρ : Ren} {B : Nat} {w0 w : World} (R : WRel ρ B w0 h w) (hx : VRel ρ x x') :
  ∃ w', (Builtin.clear_ #[t] ty #[x']).run P w = .ok (.tuple #[]) w' ∧ WRel ρ B w0 h' w' := by
 unfold aClear at hs
 have hE : ∀ e, elemT P t = some e → P.underlying t = some (.slice e) := fun e he => by
  unfold elemT at he
  split at he
  ·rename_i hu; rw [hu]; simpa using he
  ·cases he
 split at hs
 ·rename_i e he
  obtain rfl : h = h' := by simpa using hs
  cases hx
  exact ⟨w, by simp [Builtin.clear_, run_underlying (hE _ he)], R⟩
 ·rename_i e he
  obtain rfl : h = h' := by simpa using hs
  cases hx with
  | z0 a ha => cases a <;> exact ⟨w, by simp [Builtin.clear_, run_underlying (hE _ he)], R⟩
 ·rename_i e n cs he
  split at hs
  case isFalse => cases hs
  rename_i h0
  subst h0
  obtain rfl : h = h' := by simpa using hs
  rcases hx.imm_inv with ⟨_, rfl, a, ca, ha, rfl⟩ | ⟨b, o, cap, arr, hb, hn, ho, hx2, rfl⟩
  ·cases a with
   | none =>
    obtain rfl := ha rfl
    exact ⟨w, by simp [Builtin.clear_, run_underlying (hE _ he)], R⟩
   | some a => exact ⟨w, by simp [Builtin.clear_, run_underlying (hE _ he)], R⟩
  ·exact ⟨w, by simp [Builtin.clear_, run_underlying (hE _ he)], R⟩
 ·rename_i e i o len cap he
  split at hs
  case h_2 => cases hs
  rename_i zs c e2 ex hz hg
  obtain ⟨b, cp, hi, hl, rfl⟩ := hx.sl_inv
  split at hs
  ·rename_i h0
   subst h0
   obtain rfl : h = h' := by simpa using hs
   exact ⟨w, by simp [Builtin.clear_, run_underlying (hE _ he)], R⟩
  ·rename_i h0
   split at hs
   case isFalse => cases hs
   rename_i hc
   obtain rfl : _ = h' := by simpa using hs
   obtain ⟨z, hz0, hrel⟩ := zeroC_rel hz
   obtain ⟨w', hst, R'⟩ := write_sound (P := P) hg R hi o ((hrel ρ).made len) (made_all _ _ _ hc.1) hc.2
   refine ⟨w', ?_, R'⟩
   obtain ⟨m, rfl⟩ : ∃ m, len = m + 1 := ⟨len - 1, by omega⟩
   have hmk : (Builtin.zeroCells z.cells (m + 1)).toList = made z.cells.toList (m + 1) := made_eq z.cells (m + 1)
   simp [Builtin.clear_, run_underlying (hE _ he), zero_run hz0, hmk, hst]
 ·cases hs
def aCap (P : Program) (t : TypeId) (x : V) : Option V :=
 match P.underlying t, x with
 | some (.slice _), .sl _ _ _ cap => if cap < unk then some (.int .i64 cap) else none
 | some (.slice _), .snil => some (.int .i64 0)
 | some (.slice _), .z0 => some (.int .i64 0)
 | _, _ => none
theorem aCap_sound {P : Program} {t ty : TypeId} {x v : V} {x' : Value} {h : AHeap} (hs : aCap P t x = some v) {ρ : Ren} {B : Nat} {w0 w : World} (R : WRel ρ B w0 h w) (hx : VRel ρ x x') :
  Keeps P (Builtin.cap_ #[t] ty #[x']) ρ w v := by
 unfold aCap at hs
 split at hs
 ·rename_i e i o len cap hu
  split at hs
  case isFalse => cases hs
  rename_i hc
  obtain rfl := Option.some.inj hs
  obtain ⟨b, cp, hi, hl, rfl⟩ := hx.sl_inv
  have hcap : capOf cp cap = cap := by simp [capOf, hc]
  exact .mk (by simp [Builtin.cap_, run_underlying hu, hcap]; rfl) (.int _ _)
 ·rename_i e hu
  obtain rfl := Option.some.inj hs
  cases hx
  exact .mk (by simp [Builtin.cap_, run_underlying hu]; rfl) (.int _ _)
 ·rename_i e hu
  obtain rfl := Option.some.inj hs
  cases hx
  exact .mk (by simp [Builtin.cap_, run_underlying hu]; rfl) (.int _ _)
 ·cases hs
def aBuiltin (P : Program) (b : Builtin) (types : List TypeId) (ty : TypeId) (consts : Array Bool) (args : List V) (h : AHeap) : Option (V × AHeap) :=
 match b, types, args with
 | .len, [t], [x] => match aLen P t x h with
  | some v => some (v, h)
  | none => none
 | .append, [t, tx], [s, x] => aAppend P t tx s x h
 | .copy, [t, _], [d, s] => aCopy P t d s h
 | .delete, [t, _], [m, k] => (aDelete P t m k h).map fun h' => (.tuple [], h')
 | .clear, [t], [x] => (aClear P t x h).map fun h' => (.tuple [], h')
 | .cap, [t], [x] => match aCap P t x with
  | some v => some (v, h)
  | none => none
 | _, _, _ =>
  match flatL args with
  | some as_ => match pureRun P (builtin b types.toArray ty consts as_.toArray) with
   | some (.value v) => some (absF v, h)
   | _ => none
  | none => none
theorem two_args {ρ : Ren} {x y : V} {args' : Array Value} (ha : LRel ρ [x, y] args'.toList) : ∃ x' y', args' = #[x', y'] ∧ VRel ρ x x' ∧ VRel ρ y y' := by
 obtain ⟨s', t', he, hx1, ht'⟩ := ha.uncons
 obtain ⟨x', t2', he2, hx2, ht2'⟩ := ht'.uncons
 rw [ht2'.eq_nil] at he2
 exact ⟨s', x', by apply Array.ext'; rw [he, he2], hx1, hx2⟩
theorem one_arg {ρ : Ren} {x : V} {args' : Array Value} (ha : LRel ρ [x] args'.toList) : ∃ x', args' = #[x'] ∧ VRel ρ x x' := by
 obtain ⟨x', t', he, hx, ht'⟩ := ha.uncons
 rw [ht'.eq_nil] at he
 exact ⟨x', by apply Array.ext'; simpa using he, hx⟩
def ovOk (P : Program) (fid : FuncId) : Prop := ∃ fn, P.funcs[fid]? = some fn ∧ (fn.name == "runtime.NumGoroutine") = false ∧ fn.body.isNone = true ∧ Extern.findNext fn = none ∧ Extern.find fn = some (Extern.SlicesOverlaps.overlaps fn.params fn.resultTypes) ∧
 ∃ t e sz u, fn.params = #[t, t] ∧ fn.resultTypes = #[u] ∧ P.underlying t = some (.slice e) ∧ sizeT P e = some sz
def aOv (h : AHeap) : List V → Option V
 | [.sl i _ _ _, .sl j _ _ _] => match h.get i, h.get j with
  | .cells _ _ _, .cells (_ :: _) _ _ => if i ≠ j then some (.bool false) else none
  | _, _ => none
 | _ => none
theorem aOv_sound {P : Program} {fid : FuncId} {args : List V} {args' : Array Value} {v : V} {h : AHeap} (ho : ovOk P fid) (hs : aOv h args = some v) {ρ : Ren} {B : Nat} {w0 w : World} (R : WRel ρ B w0 h w) (ha : LRel ρ args args'.toList) :
  ∃ v', (callFunc fid args').run P w = .ok (.value v') w ∧ VRel ρ v v' := by
 obtain ⟨fn, h1, h2, h3, h4, h5, t, e, sz, u, hp, hr, hu, hz⟩ := ho
 unfold aOv at hs
 split at hs
 case h_2 => cases hs
 rename_i i o n c j p m d
 split at hs
 case h_2 => cases hs
 rename_i ca ea xa cb0 cb eb xb ga gb
 split at hs
 case isFalse => cases hs
 rename_i hij
 obtain rfl := Option.some.inj hs
 obtain ⟨a', b', rfl, ra, rb⟩ := two_args ha
 obtain ⟨ba, cpa, hia, hla, rfl⟩ := ra.sl_inv
 obtain ⟨bb, cpb, hib, hlb, rfl⟩ := rb.sl_inv
 have oa := R.heap.obj i
 rw [ga] at oa
 obtain ⟨b1, cp1, arr1, e1, _, _, w1, _⟩ := oa
 rw [hia] at e1
 cases e1
 have ob := R.heap.obj j
 rw [gb] at ob
 obtain ⟨b2, cp2, arr2, e2, _, _, w2, l2, _⟩ := ob
 rw [hib] at e2
 cases e2
 have hne : ba ≠ bb := fun hh => hij (R.heap.inj i j ba cpa cpb (by rw [ga]; simp) (by rw [gb]; simp) hia (by rw [hh]; exact hib))
 refine ⟨.bool false, ?_, .bool false⟩
 rw [run_callFunc_extern h1 h2 h3 h4 h5, hp, hr]
 rw [Lib.run_overlaps_apart w t u e hu sz (fun w => by
   unfold sizeT at hz
   cases hq : P.info? e with
   | none => simp [hq] at hz
   | some ti => simp [hq] at hz; simp [sizeOf, typeInfo, hq, hz]) ⟨ba, o, none⟩ ⟨bb, p, none⟩ n _ m _ hne ea eb arr1.size arr2.size (by simp [World.shape?, w1]) (by simp [World.shape?, w2]) (by simp at l2; omega) (by simp [World.frozen?, w1]) (by simp [World.frozen?, w1])]
 rfl
def ldOk (P : Program) (fid : FuncId) : Prop := ∃ fn, P.funcs[fid]? = some fn ∧ (fn.name == "runtime.NumGoroutine") = false ∧ fn.body.isNone = true ∧ Extern.findNext fn = none ∧ Extern.find fn = some (Extern.Atomic.loadT (.int .i64)) ∧ ∃ a, fn.params = #[a]
def adOk (P : Program) (fid : FuncId) : Prop := ∃ fn, P.funcs[fid]? = some fn ∧ (fn.name == "runtime.NumGoroutine") = false ∧ fn.body.isNone = true ∧ Extern.findNext fn = none ∧ Extern.find fn = some (Extern.Atomic.update (Op.intArith .add) .i64 true) ∧ ∃ a b, fn.params = #[a, b] ∧ a ≠ b
def aLd (h : AHeap) : List V → Option V
 | [.ptr i o] => match h.get i with
  | .cells c _ _ => match c[o]? with
   | some (.int .i64 x) => some (.int .i64 x)
   | _ => none
  | _ => none
 | _ => none
def aAd (h : AHeap) : List V → Option (V × AHeap)
 | [.ptr i o, .int .i64 y] => match h.get i with
  | .cells c e ex => match c[o]? with
   | some (.int .i64 x) => some (.int .i64 (IntKind.i64.wrap (x + y)), h.set i (.cells (lay c o [.int .i64 (IntKind.i64.wrap (x + y))]) e ex))
   | _ => none
  | _ => none
 | _ => none
theorem cell_of {ρ : Ren} {B : Nat} {h : AHeap} {w : World} (H : HRel ρ B h w) {i o : Nat} {c : List V} {e : TypeId} {ex : Option Nat} (hg : h.get i = .cells c e ex) {k : IntKind} {x : Int} (hc : c[o]? = some (.int k x)) {b cp : Nat} (hi : ρ.ren i = some (b, cp)) :
  w.cell? ⟨b, o, none⟩ = some (.int k x) ∧ w.frozen? ⟨b, o, none⟩ = false := by
 have ho := H.obj i
 rw [hg] at ho
 obtain ⟨b2, cp2, arr, hr, hf, hB, hw, hcl, hl, hx⟩ := ho
 rw [hr] at hi; simp at hi
 obtain ⟨rfl, rfl⟩ := hi
 have hlt : o < c.length := (List.getElem?_eq_some_iff.1 hc).1
 have h1 : (arr.toList.take c.length)[o]? = some arr[o] := by
  rw [List.getElem?_take, if_pos hlt]
  simp [Array.getElem?_eq_getElem (show o < arr.size by omega)]
 have h2 := hl.2 o _ _ hc h1
 generalize hv : arr[o] = v at h2
 cases h2
 have h3 : arr[o]? = some (.int k x) := by rw [Array.getElem?_eq_getElem (show o < arr.size by omega), hv]
 exact ⟨by simp [World.cell?, hw, h3], by simp [World.frozen?, hw]⟩
theorem aLd_sound {P : Program} {fid : FuncId} {args : List V} {args' : Array Value} {v : V} {h : AHeap} (ho : ldOk P fid) (hs : aLd h args = some v) {ρ : Ren} {B : Nat} {w0 w : World} (R : WRel ρ B w0 h w) (ha : LRel ρ args args'.toList) :
  ∃ v', (callFunc fid args').run P w = .ok (.value v') w ∧ VRel ρ v v' := by
 obtain ⟨fn, h1, h2, h3, h4, h5, _⟩ := ho
 unfold aLd at hs
 split at hs
 case h_2 => cases hs
 rename_i i o
 split at hs
 case h_2 => cases hs
 rename_i c e ex hg
 split at hs
 case h_2 => cases hs
 rename_i x hc
 obtain rfl := Option.some.inj hs
 obtain ⟨x', rfl, hx⟩ := one_arg ha
 cases hx with
 | ptr hi o =>
 rename_i b cp
 obtain ⟨c1, _⟩ := cell_of R.heap hg hc hi
 exact ⟨_, run_call_load h1 h2 h3 h4 .i64 h5 c1, .int _ _⟩
theorem aAd_sound {P : Program} {fid : FuncId} {args : List V} {args' : Array Value} {v : V} {h h' : AHeap} (ho : adOk P fid) (hs : aAd h args = some (v, h')) {ρ : Ren} {B : Nat} {w0 w : World} (R : WRel ρ B w0 h w) (ha : LRel ρ args args'.toList) :
  ∃ v' w', (callFunc fid args').run P w = .ok (.value v') w' ∧ VRel ρ v v' ∧ WRel ρ B w0 h' w' := by
 obtain ⟨fn, h1, h2, h3, h4, h5, _⟩ := ho
 unfold aAd at hs
 split at hs
 case h_2 => cases hs
 rename_i i o y
 split at hs
 case h_2 => cases hs
 rename_i c e ex hg
 split at hs
 case h_2 => cases hs
 rename_i x hc
 simp only [Option.some.injEq, Prod.mk.injEq] at hs
 obtain ⟨rfl, rfl⟩ := hs
 obtain ⟨a', b', rfl, ra, rb⟩ := two_args ha
 cases rb
 cases ra with
 | ptr hi o =>
 rename_i b cp
 obtain ⟨c1, c2⟩ := cell_of R.heap hg hc hi
 have hlt : o < c.length := (List.getElem?_eq_some_iff.1 hc).1
 have hv : LRel ρ [.int .i64 (IntKind.i64.wrap (x + y))] [.int .i64 (IntKind.i64.wrap (x + y))] := .cons (.int _ _) (.nil ρ)
 obtain ⟨w', hrun, R'⟩ := write_sound (P := P) hg R hi o hv rfl (show o + 1 ≤ c.length from hlt)
 have hst : (storeCells ⟨b, o, none⟩ [.int .i64 (IntKind.i64.wrap (x + y))]).run P w = .ok () (w.setCell ⟨b, o, none⟩ (.int .i64 (IntKind.i64.wrap (x + y)))) := by
  have h6 : (store ⟨b, o, none⟩ (.int .i64 (IntKind.i64.wrap (x + y)))).run P w = .ok () (w.setCell ⟨b, o, none⟩ (.int .i64 (IntKind.i64.wrap (x + y)))) := by
   rw [run_store P w ⟨b, o, none⟩ (.int .i64 (IntKind.i64.wrap (x + y))) _ (by rfl), c1]
   simp [c2]
  simp [storeCells, Addr.add, h6]
 rw [hst] at hrun
 injection hrun with _ hw
 subst hw
 exact ⟨_, _, run_call_add h1 h2 h3 h4 .i64 h5 c1 c2 (by simp [Op.intArith]), .int _ _, R'⟩
open Classical in
noncomputable def aEx (P : Program) (fid : FuncId) (args : List V) (h : AHeap) : Option (V × AHeap) :=
 if ovOk P fid then (match aOv h args with | some v => some (v, h) | none => none)
 else if ldOk P fid then (match aLd h args with | some v => some (v, h) | none => none)
 else if adOk P fid then aAd h args else none
theorem aEx_ov {P : Program} {fid : FuncId} {args : List V} {h : AHeap} {v : V} (ho : ovOk P fid) (ha : aOv h args = some v) : aEx P fid args h = some (v, h) := by
 unfold aEx; rw [if_pos ho, ha]
theorem ld_ov {P : Program} {fid : FuncId} (ho : ldOk P fid) : ¬ ovOk P fid := by
 rintro ⟨fn, h1, _, _, _, _, t, _, _, _, hp, _⟩
 obtain ⟨fn2, g1, _, _, _, _, a, gp⟩ := ho
 rw [h1] at g1
 cases g1
 rw [hp] at gp
 simp at gp
theorem ad_ov {P : Program} {fid : FuncId} (ho : adOk P fid) : ¬ ovOk P fid := by
 rintro ⟨fn, h1, _, _, _, _, t, _, _, _, hp, _⟩
 obtain ⟨fn2, g1, _, _, _, _, a, b, gp, hne⟩ := ho
 rw [h1] at g1
 cases g1
 rw [hp] at gp
 simp at gp
 exact hne (gp.1.symm.trans gp.2)
theorem ad_ld {P : Program} {fid : FuncId} (ho : adOk P fid) : ¬ ldOk P fid := by
 rintro ⟨fn, h1, _, _, _, _, t, hp⟩
 obtain ⟨fn2, g1, _, _, _, _, a, b, gp, hne⟩ := ho
 rw [h1] at g1
 cases g1
 rw [hp] at gp
 simp at gp
theorem aEx_ld {P : Program} {fid : FuncId} {args : List V} {h : AHeap} {v : V} (ho : ldOk P fid) (ha : aLd h args = some v) : aEx P fid args h = some (v, h) := by
 unfold aEx; rw [if_neg (ld_ov ho), if_pos ho, ha]
theorem aEx_ad {P : Program} {fid : FuncId} {args : List V} {h h' : AHeap} {v : V} (ho : adOk P fid) (ha : aAd h args = some (v, h')) : aEx P fid args h = some (v, h') := by
 unfold aEx; rw [if_neg (ad_ov ho), if_neg (ad_ld ho), if_pos ho, ha]
theorem aEx_sound {P : Program} {fid : FuncId} {args : List V} {args' : Array Value} {v : V} {h h' : AHeap} (hs : aEx P fid args h = some (v, h')) {ρ : Ren} {B : Nat} {w0 w : World} (R : WRel ρ B w0 h w) (ha : LRel ρ args args'.toList) :
  ∃ v' w', (callFunc fid args').run P w = .ok (.value v') w' ∧ VRel ρ v v' ∧ WRel ρ B w0 h' w' := by
 unfold aEx at hs
 split at hs
 ·rename_i ho
  split at hs
  case h_2 => cases hs
  rename_i u hu
  simp only [Option.some.injEq, Prod.mk.injEq] at hs
  obtain ⟨rfl, rfl⟩ := hs
  obtain ⟨v', e1, e2⟩ := aOv_sound ho hu R ha
  exact ⟨v', w, e1, e2, R⟩
 split at hs
 ·rename_i _ ho
  split at hs
  case h_2 => cases hs
  rename_i u hu
  simp only [Option.some.injEq, Prod.mk.injEq] at hs
  obtain ⟨rfl, rfl⟩ := hs
  obtain ⟨v', e1, e2⟩ := aLd_sound ho hu R ha
  exact ⟨v', w, e1, e2, R⟩
 split at hs
 ·rename_i _ _ ho
  exact aAd_sound ho hs R ha
 ·cases hs
def constsOf (a : Array Operand) : Array Bool := a.map fun | .const _ => true | _ => false
def methOk (P : Program) (t : TypeId) (name : String) (f : FuncId) : Prop := (∀ v w, (method (P.types.size + Made.depth) t v name).run P w = .ok (f, v) w) ∧ callable P f = true
theorem methOk.uniq {P : Program} {t : TypeId} {name : String} {f g : FuncId} (hf : methOk P t name f) (hg : methOk P t name g) : f = g := by
 have := (hf.1 .nilIface default).symm.trans (hg.1 .nilIface default)
 injection this with h1
 injection h1
open Classical in
noncomputable def aInv (P : Program) (x : V) (name : String) (args : List V) : Option Step :=
 match x with
 | .iface t v => if h : ∃ f, methOk P t name f then some (.call (Classical.choose h) (v :: args)) else none
 | _ => none
theorem aInv_cases {P : Program} {x : V} {name : String} {args : List V} {s : Step} (hs : aInv P x name args = some s) : ∃ t v f, x = .iface t v ∧ methOk P t name f ∧ s = .call f (v :: args) := by
 unfold aInv at hs
 split at hs
 case h_2 => cases hs
 rename_i t v
 split at hs
 case isFalse => cases hs
 rename_i hh
 simp only [Option.some.injEq] at hs
 exact ⟨t, v, _, rfl, Classical.choose_spec hh, hs.symm⟩
theorem aInv_of {P : Program} {t : TypeId} {v : V} {name : String} {args : List V} {f : FuncId} (hm : methOk P t name f) : aInv P (.iface t v) name args = some (.call f (v :: args)) := by
 have hh : ∃ f, methOk P t name f := ⟨f, hm⟩
 unfold aInv
 simp only [dif_pos hh]
 rw [(Classical.choose_spec hh).uniq hm]
open Classical in
noncomputable def aCall (P : Program) (c : Call) (ty : TypeId) (ev : Operand → V) (h : AHeap) : Option Step :=
 match c.callee with
 | .builtin .panic => match c.args.toList.map ev with
  | [.iface _ _] => some .panic
  | _ => none
 | .builtin b =>
  match aBuiltin P b c.argTypes.toList ty (constsOf c.args) (c.args.toList.map ev) h with
  | some (v, h') => some (.val v h')
  | none => none
 | .value f =>
  match ev f with
  | .func (.func fid) first captured => if callable P fid then some (.call fid (first ++ c.args.toList.map ev ++ captured)) else (match aEx P fid (first ++ c.args.toList.map ev ++ captured) h with | some (v, h') => some (.val v h') | none => none)
  | .func (.yield l) [] [] => some (.round l (c.args.toList.map ev))
  | _ => none
 | .invoke r name => aInv P (ev r) name (c.args.toList.map ev)
def justV (o : Option V) (h : AHeap) : Option Step := match o with | some v => some (.val v h) | none => none
def andH (o : Option (V × AHeap)) : Option Step := match o with | some (v, h) => some (.val v h) | none => none
def justH (o : Option AHeap) : Option Step := match o with | some h => some (.val .top h) | none => none
def aConvM (P : Program) (s d : TypeId) (x : V) (h : AHeap) : Option (V × AHeap) :=
 match P.underlying s, x with
 | some (.slice e), .sl i o n _ =>
  if s = d ∧ isU8 P e = true then
   match h.get i with
   | .cells c _ _ => if o + n ≤ c.length then some (.imm n ((c.drop o).take n), h.set i .dead) else none
   | _ => none
  else none
 | _, _ => none
theorem aConvM_ne {P : Program} {s d : TypeId} {x v : V} {h h' : AHeap} (hs : aConvM P s d x h = some (v, h')) : h' ≠ h := by
 unfold aConvM at hs
 split at hs
 case h_2 => cases hs
 split at hs
 case isFalse => cases hs
 split at hs
 case h_2 => cases hs
 rename_i c e2 ex hg
 split at hs
 case isFalse => cases hs
 simp only [Option.some.injEq, Prod.mk.injEq] at hs
 intro e
 rename_i i _ _ _ _ _ _ _
 have h1 : (h.set i .dead).get i = h.get i := by rw [hs.2, e]
 rw [hg] at h1
 simp [AHeap.set] at h1
theorem WRel.mark {ρ : Ren} {B : Nat} {w0 : World} {h : AHeap} {w : World} (R : WRel ρ B w0 h w) {b : Nat} {arr : Array Value} (hf : ρ.frz b = some arr) (hB : B ≤ b) (k : Nat) : WRel ρ B w0 h (w.freeze ⟨b, k, none⟩ 1) := by
 have hne : ∀ j, b ≠ j → (w.freeze ⟨b, k, none⟩ 1).heap[j]? = w.heap[j]? := fun j hj => by
  simp only [World.freeze, Nat.one_ne_zero, if_false, Array.getElem?_modify, if_neg hj]
 have heq : ∀ c e fz, w.heap[b]? = some (.cells c e fz) → ∃ fz', (w.freeze ⟨b, k, none⟩ 1).heap[b]? = some (.cells c e fz') := fun c e fz hq => by
  simp only [World.freeze, Nat.one_ne_zero, if_false, Array.getElem?_modify, if_true, hq, Option.map_some]
  exact ⟨_, rfl⟩
 have hsz : (w.freeze ⟨b, k, none⟩ 1).heap.size = w.heap.size := by
  simp only [World.freeze, Nat.one_ne_zero, if_false, Array.size_modify]
 refine ⟨⟨R.heap.dom, R.heap.inj, fun i => ?_, fun b' a' hb' => ?_, R.heap.glob, by rw [hsz]; exact R.heap.base⟩, R.below.trans ⟨?_, ?_, ?_, Nat.le_of_eq hsz.symm, fun j hj => hne j (by omega), ?_⟩⟩
 ·by_cases hd : h.get i = .dead
  ·rw [hd]; trivial
  ·refine (R.heap.obj i).keep (Ren.le.refl ρ) fun b' c hr => ⟨hne b' ?_, fun h => h⟩
   obtain ⟨b2, cp, hr2, _, _, hfb, _⟩ := R.heap.live hd
   rw [hr] at hr2
   cases hr2
   intro e
   subst e
   rw [hf] at hfb; cases hfb
 ·obtain ⟨e, fz, hq⟩ := R.heap.frz b' a' hb'
  by_cases hj : b = b'
  ·subst hj
   obtain ⟨fz', h1⟩ := heq _ _ _ hq
   exact ⟨e, fz', h1⟩
  ·exact ⟨e, fz, (hne b' hj).trans hq⟩
 all_goals simp only [World.freeze, Nat.one_ne_zero, if_false]
 exact Nat.le_refl _
theorem aConvM_sound {P : Program} {src dst : TypeId} {x v : V} {x' : Value} {h h' : AHeap} (hs : aConvM P src dst x h = some (v, h')) {ρ : Ren} {B : Nat} {w0 w : World} (R : WRel ρ B w0 h w) (hx : VRel ρ x x') :
  Yields P (convert src dst x') ρ B w0 w v h' := by
 unfold aConvM at hs
 split at hs
 case h_2 => cases hs
 rename_i e i o n cap hu
 split at hs
 case isFalse => cases hs
 rename_i hc
 split at hs
 case h_2 => cases hs
 rename_i c e2 ex hg
 split at hs
 case isFalse => cases hs
 rename_i hle
 simp only [Option.some.injEq, Prod.mk.injEq] at hs
 obtain ⟨rfl, rfl⟩ := hs
 obtain ⟨rfl, he⟩ := hc
 have he' := isU8_eq he
 obtain ⟨ρ', le, R', b, cp, arr, hr, hf, hl, hrel⟩ := R.freeze hg
 obtain ⟨b2, cp2, hi, hcap, rfl⟩ := hx.sl_inv
 rw [hr] at hi
 cases hi
 obtain ⟨_, _, _, _, _, _, hB⟩ := R.heap.live (i := i) (by rw [hg]; simp)
 rename_i b3 cp3 hr3 _ _ _
 rw [hr] at hr3
 cases hr3
 obtain ⟨e3, fz, hw⟩ := R'.heap.frz _ _ hf
 have hsh : w.shape? b = some (e3, arr.size) := by simp [World.shape?, hw]
 refine ⟨ρ', .slice (some ⟨b, o, none⟩) n (capOf cp cap), w.freeze ⟨b, arr.size, none⟩ 1, ?_, .imm o n _ hf hcap ?_ fun k u u' h1 h2 => ?_, R'.mark hf hB _, le⟩
 ·simp [convert, run_underlying hu, run_underlying he', markStringish, hsh]
 ·rw [List.length_take, List.length_drop]; omega
 ·rw [List.getElem?_take] at h1
  split at h1
  case isFalse => cases h1
  rw [List.getElem?_drop] at h1
  refine (hrel.2 (o + k) u u' h1 ?_).mono le
  have hk : o + k < c.length := (List.getElem?_eq_some_iff.1 h1).1
  rw [List.getElem?_take, if_pos hk, Array.getElem?_toList]
  exact h2
def aMapEntry (P : Program) (t : TypeId) (m k : V) (h : AHeap) : Option (V × AHeap) :=
 match mapT P t, m with
 | some (kt, et, d), .map i =>
  match h.get i with
  | .map es cl =>
   if keyOk P false kt k then
    match aFind P kt d k es with
    | some (some j) =>
     match es[j]?, (es[j]?).bind fun e => plainV e.2.1, plainV k with
     | some e, some a, some b => if Instr.sameBits 10000 a b = true then some (.tuple [e.2.2, .int .i64 (e.1 : Nat)], h.set i (.map (es.modify j fun e => (e.1, k, e.2.2)) cl)) else none
     | _, _, _ => none
    | some none =>
     match zeroT P et with
     | some z => some (.tuple [absV z, .int .i64 (cl : Nat)], h.set i (.map (es ++ [(cl, k, absV z)]) (cl + 1)))
     | none => none
    | none => none
   else none
  | _ => none
 | _, _ => none
def aEntryStore (m s v : V) (h : AHeap) : Option AHeap :=
 match m, s with
 | .map i, .int _ st =>
  match h.get i with
  | .map es cl =>
   match es.findIdx? (fun e => (e.1 : Int) == st) with
   | some j => some (h.set i (.map (es.modify j fun e => (e.1, e.2.1, v)) cl))
   | none => none
  | _ => none
 | _, _ => none
theorem MRel.find {ρ : Ren} {es : List (Nat × V × V)} {arr : Array MapEntry} (h : MRel ρ es arr) (st : Int) : arr.findIdx? (fun e => (e.born : Int) == st) = es.findIdx? (fun e => (e.1 : Int) == st) := by
 have hm : es.map (fun e => e.1) = arr.toList.map (fun e => e.born) := by
  apply List.ext_getElem
  ·simp [h.1]
  ·intro q h1 h2
   simp only [List.getElem_map, Array.getElem_toList]
   simp only [List.length_map] at h1
   exact (h.2 q _ _ (List.getElem?_eq_getElem h1) (Array.getElem?_eq_getElem (by rw [← h.1]; exact h1))).1
 have e1 : es.findIdx? (fun e => (e.1 : Int) == st) = (es.map (fun e => e.1)).findIdx? (fun n : Nat => (n : Int) == st) := by rw [List.findIdx?_map]; rfl
 have e2 : arr.toList.findIdx? (fun e => (e.born : Int) == st) = (arr.toList.map (fun e => e.born)).findIdx? (fun n : Nat => (n : Int) == st) := by rw [List.findIdx?_map]; rfl
 rw [e1, hm, ← e2]
 cases arr
 simp
theorem aMapEntry_sound {P : Program} {t : TypeId} {m k v : V} {m' k' : Value} {h h' : AHeap} (hs : aMapEntry P t m k h = some (v, h')) {ρ : Ren} {B : Nat} {w0 w : World} (R : WRel ρ B w0 h w) (hm : VRel ρ m m') (hk : VRel ρ k k') :
  Yields P (Instr.mapEntry t m' k') ρ B w0 w v h' := by
 unfold aMapEntry at hs
 split at hs
 case h_2 => cases hs
 rename_i kt et d i hT
 obtain ⟨hu, hku⟩ := mapT_eq hT
 split at hs
 case h_2 => cases hs
 rename_i es cl hg
 split at hs
 case isFalse => cases hs
 rename_i hko
 cases hm with
 | map hi =>
 have ho := R.heap.obj i
 rw [hg] at ho
 obtain ⟨b, cp, arr, hr, hfz, hB, hw, hmr⟩ := ho
 rw [hr] at hi
 simp at hi
 obtain ⟨rfl, rfl⟩ := hi
 have hlt : b < w.heap.size := (Array.getElem?_eq_some_iff.1 hw).1
 split at hs
 ·rename_i j hf
  split at hs
  case h_2 => cases hs
  rename_i e0 a c he0 ha hc
  split at hs
  case isFalse => cases hs
  rename_i hsb
  simp only [Option.some.injEq, Prod.mk.injEq] at hs
  obtain ⟨rfl, rfl⟩ := hs
  obtain ⟨h1, h2⟩ := find_sound (P := P) (w := w) hku hk hmr hf
  have hj := h2 j rfl
  have hj' : j < es.length := by rw [hmr.1]; exact hj
  obtain ⟨hbo, hke, hve⟩ := hmr.2 j _ _ (List.getElem?_eq_getElem hj') (Array.getElem?_eq_getElem hj)
  rw [List.getElem?_eq_getElem hj'] at ha he0
  simp at ha he0
  subst he0
  have e1 := plainV_eq hke ha
  have e2 := plainV_eq hk hc
  have R' := R.setObj (o := .map (es.modify j fun e => (e.1, k, e.2.2)) cl) (ob := .map (arr.modify j fun e => { e with key := k' }) cl) hr (by rw [hg]; simp) hB hlt (by
   refine ⟨b, cp, arr.modify j (fun e => { e with key := k' }), hr, hfz, hB, by simp [hlt], by simp [hmr.1], fun q e e' hq hq' => ?_⟩
   rw [List.getElem?_modify] at hq
   rw [Array.getElem?_modify] at hq'
   by_cases hjq : j = q
   ·subst hjq
    rw [List.getElem?_eq_getElem hj'] at hq
    rw [Array.getElem?_eq_getElem hj] at hq'
    simp at hq hq'
    subst hq; subst hq'
    obtain ⟨h3, _, h5⟩ := hmr.2 j _ _ (List.getElem?_eq_getElem hj') (Array.getElem?_eq_getElem hj)
    exact ⟨h3, hk, h5⟩
   ·simp [hjq] at hq hq'
    exact hmr.2 q e e' hq hq')
  refine ⟨ρ, .tuple #[arr[j].val, goInt (arr[j].born : Int)], _, ?_, ?_, R', Ren.le.refl ρ⟩
  ·simp only [Instr.mapEntry, Sem.run_bind, run_underlying hu, run_getObj_map hw, Result.andThen_ok]
   rw [keyOk_run hko hk w, Result.andThen_ok, h1]
   have hks : (Instr.keyThatStays a c).run P w = .ok c w := by unfold Instr.keyThatStays; rw [if_pos hsb]; rfl
   simp [Array.getElem?_eq_getElem hj, e1, e2, hks, run_setObj_map hw]
  ·rw [hbo]
   exact ((LRel.cons hve (.cons (.int _ _) (.nil ρ))).arr).tuple
 ·rename_i hf
  split at hs
  case h_2 => cases hs
  rename_i z hz
  simp only [Option.some.injEq, Prod.mk.injEq] at hs
  obtain ⟨rfl, rfl⟩ := hs
  obtain ⟨h1, h2⟩ := find_sound (P := P) (w := w) hku hk hmr hf
  have R' := R.setObj (o := .map (es ++ [(cl, k, absV z)]) (cl + 1)) (ob := .map (arr.push { key := k', val := z, born := cl }) (cl + 1)) hr (by rw [hg]; simp) hB hlt (by
   refine ⟨b, cp, arr.push { key := k', val := z, born := cl }, hr, hfz, hB, by simp [hlt], by simp [hmr.1], fun q e e' hq hq' => ?_⟩
   rw [List.getElem?_append] at hq
   rw [Array.getElem?_push] at hq'
   by_cases hqe : q < es.length
   ·rw [if_pos hqe] at hq
    rw [if_neg (by rw [← hmr.1]; omega)] at hq'
    exact hmr.2 q e e' hq hq'
   ·rw [if_neg hqe] at hq
    have hq0 : q = es.length := by
     have := (List.getElem?_eq_some_iff.1 hq).1
     simp at this; omega
    subst hq0
    rw [if_pos hmr.1] at hq'
    simp at hq hq'
    subst hq; subst hq'
    exact ⟨rfl, hk, absV_rel ρ z⟩)
  refine ⟨ρ, .tuple #[z, goInt (cl : Int)], _, ?_, ?_, R', Ren.le.refl ρ⟩
  ·simp only [Instr.mapEntry, Sem.run_bind, run_underlying hu, run_getObj_map hw, Result.andThen_ok]
   rw [keyOk_run hko hk w, Result.andThen_ok, h1]
   simp [zero_run hz, run_setObj_map hw]
  ·exact ((LRel.cons (absV_rel ρ z) (.cons (.int _ _) (.nil ρ))).arr).tuple
 ·cases hs
theorem aEntryStore_sound {P : Program} {t : TypeId} {m s v : V} {m' s' v' : Value} {h h' : AHeap} (hs : aEntryStore m s v h = some h') {ρ : Ren} {B : Nat} {w0 w : World} (R : WRel ρ B w0 h w) (hm : VRel ρ m m') (hst : VRel ρ s s') (hv : VRel ρ v v') :
  ∃ w', (Instr.entryStore t m' s' v').run P w = .ok () w' ∧ WRel ρ B w0 h' w' := by
 unfold aEntryStore at hs
 split at hs
 case h_2 => cases hs
 rename_i i kk st
 split at hs
 case h_2 => cases hs
 rename_i es cl hg
 split at hs
 case h_2 => cases hs
 rename_i j hf
 obtain rfl : _ = h' := by simpa using hs
 cases hst
 cases hm with
 | map hi =>
 have ho := R.heap.obj i
 rw [hg] at ho
 obtain ⟨b, cp, arr, hr, hfz, hB, hw, hmr⟩ := ho
 rw [hr] at hi
 simp at hi
 obtain ⟨rfl, rfl⟩ := hi
 have hlt : b < w.heap.size := (Array.getElem?_eq_some_iff.1 hw).1
 have hfa := hmr.find st
 rw [hf] at hfa
 have hj' : j < es.length := by
  have := List.findIdx?_eq_some_iff_findIdx_eq.1 hf
  omega
 have hj : j < arr.size := by rw [← hmr.1]; exact hj'
 have R' := R.setObj (o := .map (es.modify j fun e => (e.1, e.2.1, v)) cl) (ob := .map (arr.modify j fun e => { e with val := v' }) cl) hr (by rw [hg]; simp) hB hlt (by
  refine ⟨b, cp, arr.modify j (fun e => { e with val := v' }), hr, hfz, hB, by simp [hlt], by simp [hmr.1], fun q e e' hq hq' => ?_⟩
  rw [List.getElem?_modify] at hq
  rw [Array.getElem?_modify] at hq'
  by_cases hjq : j = q
  ·subst hjq
   rw [List.getElem?_eq_getElem hj'] at hq
   rw [Array.getElem?_eq_getElem hj] at hq'
   simp at hq hq'
   subst hq; subst hq'
   obtain ⟨h3, h4, _⟩ := hmr.2 j _ _ (List.getElem?_eq_getElem hj') (Array.getElem?_eq_getElem hj)
   exact ⟨h3, h4, hv⟩
  ·simp [hjq] at hq hq'
   exact hmr.2 q e e' hq hq')
 refine ⟨_, ?_, R'⟩
 simp only [Instr.entryStore, Sem.run_bind, Sem.run_pure, run_getObj_map hw, Result.andThen_ok]
 simp [asInt, asIntOf, hfa, run_setObj_map hw]
noncomputable def opEval (P : Program) (o : Oper) (ev : Operand → V) (h : AHeap) : Option Step :=
 match o.op with
 | .move x => some (.val (ev x) h)
 | .assign x => some (.val (ev x) h)
 | .pick c a b => match ev c with
  | .bool t => some (.val (if t then ev a else ev b) h)
  | _ => none
 | .alloc e => andH (aAlloc P e h)
 | .box e x => andH (aBox e (ev x) h)
 | .build t ps => justV (aBuild P t (ps.toList.map fun p => (p.1, ev p.2))) h
 | .buildSlice t len ps => andH (aBuildSlice P t len (ps.toList.map fun p => (p.1, ev p.2)) h)
 | .load t a => justV (aLoad P t (ev a) h) h
 | .store t a x => justH (aStore P t (ev a) (ev x) h)
 | .nilCheck x => match ev x with
  | .ptr i o => some (.val (.ptr i o) h)
  | .at cs => some (.val (.at cs) h)
  | .func (.func fid) xs ys => some (.val (.func (.func fid) xs ys) h)
  | _ => none
 | .binOp op t x y _ => justV (aBin P op t x y (ev x) (ev y)) h
 | .unOp op _ x => justV (aUn P op (ev x)) h
 | .convert s d x => match aConv P s d (ev x) h with
  | some v => some (.val v h)
  | none => andH (aConvM P s d (ev x) h)
 | .makeInterface t x => match isIfaceT P t with
  | some false => some (.val (.iface t (ev x)) h)
  | _ => none
 | .makeFunc (.func g) first captured => some (.val (.func (.func g) (first.toList.map ev) (captured.toList.map ev)) h)
 | .makeMap t r => andH (aMakeMap P t (r.map ev) h)
 | .makeSlice t l c => andH (aMake P t (ev l) (ev c) h)
 | .slice t x lo hi mx => justV (aSlice P t (ev x) (lo.map ev) (hi.map ev) (mx.map ev)) h
 | .fieldAddr s x k => justV (aField P s (ev x) k) h
 | .field t x k => justV (aFieldOf P t (ev x) k) h
 | .indexAddr t x ix => justV (aIndexAddr P t (ev x) (ev ix)) h
 | .index t x ix => justV (aIndex P t (ev x) (ev ix)) h
 | .lookup t x ix ok => justV (aLookup P t (ev x) (ev ix) ok h) h
 | .mapUpdate t m k x => justH (aUpdate P t (ev m) (ev k) (ev x) h)
 | .insert t m k x => justH (aUpdate P t (ev m) (ev k) (ev x) h)
 | .mapEntry t m k => andH (aMapEntry P t (ev m) (ev k) h)
 | .entryStore _ m s x => justH (aEntryStore (ev m) (ev s) (ev x) h)
 | .range t x => andH (aRange P t (ev x) h)
 | .next it false => match aNext (ev it) h with
  | some l => some (.alts l)
  | none => none
 | .entry it => justV (aEntry (ev it) h) h
 | .typeAssert x _ asserted ok => justV (aAssert P (ev x) asserted ok) h
 | .extract t k => match ev t with
  | .tuple vs => justV vs[k]? h
  | _ => none
 | .call c => aCall P c o.type ev h
 | .panic x => match ev x with
  | .iface _ _ => some .panic
  | _ => none
 | _ => none
theorem args_rel {ρ : Ren} {ev : Operand → V} {ev' : Operand → Value} (hev : ∀ x, VRel ρ (ev x) (ev' x)) : ∀ l : List Operand, LRel ρ (l.map ev) (l.map ev')
 | [] => .nil ρ
 | x :: l => .cons (hev x) (args_rel hev l)
theorem args_relA {ρ : Ren} {ev : Operand → V} {ev' : Operand → Value} (hev : ∀ x, VRel ρ (ev x) (ev' x)) (a : Array Operand) : ARel ρ (a.toList.map ev) (a.map ev') := by
 have := args_rel hev a.toList
 exact LRel.arr' (by simpa using this)
theorem parts_rel {ρ : Ren} {ev : Operand → V} {ev' : Operand → Value} (hev : ∀ x, VRel ρ (ev x) (ev' x)) : ∀ l : List (Nat × Operand),
  PRel ρ (l.map fun p => (p.1, ev p.2)) (l.map fun p => (p.1, ev' p.2))
 | [] => trivial
 | x :: l => ⟨rfl, hev _, parts_rel hev l⟩
def YieldsN (P : Program) (s : Sem Next) (ρ : Ren) (B : Nat) (w0 w : World) (v : V) (h' : AHeap) : Prop :=
 ∃ ρ' v' w', (s.run P w = .ok (.value v') w' ∨ (s.run P w = .ok .skip w' ∧ v' = undef)) ∧ VRel ρ' v v' ∧ WRel ρ' B w0 h' w' ∧ ρ.le ρ'
theorem Yields.next {P : Program} {s : Sem Value} {ρ : Ren} {B : Nat} {w0 w : World} {v : V} {h' : AHeap} (y : Yields P s ρ B w0 w v h') :
  YieldsN P (do pure (.value (← s))) ρ B w0 w v h' := by
 obtain ⟨ρ', v', w', hr, hv, R, hle⟩ := y
 exact ⟨ρ', v', w', .inl (by simp [hr]), hv, R, hle⟩
theorem YieldsN.same {P : Program} {s : Sem Next} {ρ : Ren} {B : Nat} {w0 w : World} {v : V} {v' : Value} {h : AHeap} (R : WRel ρ B w0 h w) (hr : s.run P w = .ok (.value v') w) (hv : VRel ρ v v') :
  YieldsN P s ρ B w0 w v h := ⟨ρ, v', w, .inl hr, hv, R, Ren.le.refl ρ⟩
theorem YieldsN.skip {P : Program} {s : Sem Unit} {ρ : Ren} {B : Nat} {w0 w : World} {h' : AHeap} (y : ∃ w', s.run P w = .ok () w' ∧ WRel ρ B w0 h' w') : YieldsN P (do s; pure .skip) ρ B w0 w .top h' := by
 obtain ⟨w', hr, R⟩ := y
 exact ⟨ρ, undef, w', .inr ⟨by simp [hr], rfl⟩, .top _, R, Ren.le.refl ρ⟩
theorem tuple0_rel (ρ : Ren) : VRel ρ (.tuple []) (.tuple #[]) := .tuple rfl (by simp)
theorem aBuiltin_sound {P : Program} {b : Builtin} {types : Array TypeId} {ty : TypeId} {consts : Array Bool} {args : List V} {args' : Array Value} {h h' : AHeap} {v : V}
  (hs : aBuiltin P b types.toList ty consts args h = some (v, h')) {ρ : Ren} {B : Nat} {w0 w : World} (R : WRel ρ B w0 h w) (ha : LRel ρ args args'.toList) :
  YieldsN P (builtin b types ty consts args') ρ B w0 w v h' := by
 unfold aBuiltin at hs
 split at hs
 ·rename_i t x ht
  obtain ⟨x', rfl, hx⟩ := one_arg ha
  obtain rfl : types = #[t] := by apply Array.ext'; simpa using ht
  split at hs
  case h_2 => cases hs
  rename_i u hu
  simp at hs
  obtain ⟨rfl, rfl⟩ := hs
  exact ((aLen_sound hu R hx).yields R).next
 ·rename_i t tx s x ht
  obtain ⟨s', x', rfl, hx1, hx2⟩ := two_args ha
  obtain rfl : types = #[t, tx] := by apply Array.ext'; simpa using ht
  exact (aAppend_sound hs R hx1 hx2).next
 ·rename_i t tx s x ht
  obtain ⟨s', x', rfl, hx1, hx2⟩ := two_args ha
  obtain rfl : types = #[t, tx] := by apply Array.ext'; simpa using ht
  exact (aCopy_sound hs R hx1 hx2).next
 ·rename_i t tx s x ht
  obtain ⟨s', x', rfl, hx1, hx2⟩ := two_args ha
  obtain rfl : types = #[t, tx] := by apply Array.ext'; simpa using ht
  cases hd : aDelete P t s x h with
  | none => simp [hd] at hs
  | some h2 =>
   simp [hd] at hs
   obtain ⟨rfl, rfl⟩ := hs
   obtain ⟨w', hr, R'⟩ := aDelete_sound (P := P) (ty := ty) (ts := #[t, tx]) rfl hd R hx1 hx2
   exact Yields.next (s := Builtin.delete_ #[t, tx] ty #[s', x']) ⟨ρ, _, w', hr, tuple0_rel ρ, R', Ren.le.refl ρ⟩
 ·rename_i t x ht
  obtain ⟨x', rfl, hx⟩ := one_arg ha
  obtain rfl : types = #[t] := by apply Array.ext'; simpa using ht
  cases hd : aClear P t x h with
  | none => simp [hd] at hs
  | some h2 =>
   simp [hd] at hs
   obtain ⟨rfl, rfl⟩ := hs
   obtain ⟨w', hr, R'⟩ := aClear_sound (P := P) (ty := ty) hd R hx
   exact Yields.next (s := Builtin.clear_ #[t] ty #[x']) ⟨ρ, _, w', hr, tuple0_rel ρ, R', Ren.le.refl ρ⟩
 ·rename_i t x ht
  obtain ⟨x', rfl, hx⟩ := one_arg ha
  obtain rfl : types = #[t] := by apply Array.ext'; simpa using ht
  split at hs
  case h_2 => cases hs
  rename_i u hu
  simp at hs
  obtain ⟨rfl, rfl⟩ := hs
  exact ((aCap_sound hu R hx).yields R).next
 ·split at hs
  case h_2 => cases hs
  rename_i as_ has
  have e1 := flatL_eq ha has
  split at hs
  case h_2 => cases hs
  rename_i u hu
  simp at hs
  obtain ⟨rfl, rfl⟩ := hs
  refine .same R ?_ (absF_rel ρ u)
  have := pureRun_run hu w
  rw [← e1] at this
  simpa using this
theorem andH_val {o : Option (V × AHeap)} {v : V} {h : AHeap} (hs : andH o = some (.val v h)) : o = some (v, h) := by
 unfold andH at hs
 split at hs
 ·simp at hs; obtain ⟨rfl, rfl⟩ := hs; rfl
 ·cases hs
theorem justV_val {o : Option V} {v : V} {h h' : AHeap} (hs : justV o h = some (.val v h')) : o = some v ∧ h' = h := by
 unfold justV at hs
 split at hs
 ·simp at hs; obtain ⟨rfl, rfl⟩ := hs; exact ⟨rfl, rfl⟩
 ·cases hs
theorem justH_val {o : Option AHeap} {v : V} {h' : AHeap} (hs : justH o = some (.val v h')) : o = some h' ∧ v = .top := by
 unfold justH at hs
 split at hs
 ·simp at hs; obtain ⟨rfl, rfl⟩ := hs; exact ⟨rfl, rfl⟩
 ·cases hs
theorem opt_rel {ρ : Ren} {ev : Operand → V} {ev' : Operand → Value} (hev : ∀ x, VRel ρ (ev x) (ev' x)) (o : Option Operand) : Option.Rel (VRel ρ) (o.map ev) (o.map ev') := by
 cases o with
 | none => exact .none
 | some x => exact .some (hev x)
theorem opEval_val {P : Program} {o : Oper} {ev : Operand → V} {ev' : Operand → Value} {h h' : AHeap} {v : V} (hs : opEval P o ev h = some (.val v h')) {ρ : Ren} {B : Nat} {w0 w : World}
  (R : WRel ρ B w0 h w) (hev : ∀ x, VRel ρ (ev x) (ev' x)) : YieldsN P (execOp ev' o) ρ B w0 w v h' := by
 unfold opEval at hs
 unfold execOp
 split at hs
 ·rename_i x hop
  simp only [hop]
  simp at hs; obtain ⟨rfl, rfl⟩ := hs
  exact .same R (Sem.run_pure ..) (hev x)
 ·rename_i x hop
  simp only [hop]
  simp at hs; obtain ⟨rfl, rfl⟩ := hs
  exact .same R (Sem.run_pure ..) (hev x)
 ·rename_i c a b hop
  simp only [hop]
  split at hs
  case h_2 => cases hs
  rename_i t ht
  simp at hs; obtain ⟨rfl, rfl⟩ := hs
  have hc := hev c
  rw [ht] at hc
  have hcc : ev' c = .bool t := flatV_eq hc rfl
  refine .same R (v' := if t then ev' a else ev' b) ?_ ?_
  ·simp [hcc, asBool]
  ·cases t
   ·exact hev b
   ·exact hev a
 ·rename_i e hop
  simp only [hop]
  exact (aAlloc_sound (andH_val hs) R).next
 ·rename_i e x hop
  simp only [hop]
  exact (aBox_sound (andH_val hs) R (hev x)).next
 ·rename_i t ps hop
  simp only [hop]
  obtain ⟨hv, he⟩ := justV_val hs
  subst he
  refine ((aBuild_sound hv R ?_).yields R).next
  have := parts_rel hev ps.toList
  simpa using this
 ·rename_i t len ps hop
  simp only [hop]
  refine (aBuildSlice_sound (andH_val hs) R ?_).next
  have := parts_rel hev ps.toList
  simpa using this
 ·rename_i t a hop
  simp only [hop]
  obtain ⟨hv, he⟩ := justV_val hs
  subst he
  exact ((aLoad_sound hv R (hev a)).2.yields R).next
 ·rename_i t a x hop
  simp only [hop]
  obtain ⟨hv, he⟩ := justH_val hs
  subst he
  exact .skip (aStore_sound hv R (hev a) (hev x))
 ·rename_i x hop
  simp only [hop]
  have hx := hev x
  split at hs
  ·rename_i i o ha
   simp at hs; obtain ⟨rfl, rfl⟩ := hs
   rw [ha] at hx
   generalize ev' x = x' at hx
   obtain ⟨b, c, hi, rfl⟩ := hx.ptr_inv
   exact .same R (Sem.run_pure ..) (.ptr hi o)
  ·rename_i cs ha
   simp at hs; obtain ⟨rfl, rfl⟩ := hs
   rw [ha] at hx
   generalize ev' x = x' at hx
   obtain ⟨b, o, arr, hb, ho, hx2, rfl⟩ := hx.at_inv
   exact .same R (Sem.run_pure ..) hx
  ·rename_i fid xs ys ha
   simp at hs; obtain ⟨rfl, rfl⟩ := hs
   rw [ha] at hx
   generalize ev' x = x' at hx
   have hx' := hx
   cases hx with
   | func fn h0 h1 h2 h3 h4 => exact .same R (Sem.run_pure ..) hx'
  ·cases hs
 ·rename_i op t x y yt hop
  simp only [hop]
  obtain ⟨hv, he⟩ := justV_val hs
  subst he
  exact ((aBin_sound hv R (hev x) (hev y)).yields R).next
 ·rename_i op t x hop
  simp only [hop]
  obtain ⟨hv, he⟩ := justV_val hs
  subst he
  exact ((aUn_sound hv R (hev x)).yields R).next
 ·rename_i s d x hop
  simp only [hop]
  cases hc : aConv P s d (ev x) h with
  | some u =>
   rw [hc] at hs
   cases hs
   exact (aConv_sound hc R (hev x)).next
  | none =>
   rw [hc] at hs
   exact (aConvM_sound (andH_val hs) R (hev x)).next
 ·rename_i t x hop
  simp only [hop]
  split at hs
  case h_2 => cases hs
  rename_i ht
  simp at hs; obtain ⟨rfl, rfl⟩ := hs
  refine Yields.next (.same R (v' := .iface t (ev' x)) ?_ (.iface t (hev x)))
  unfold isIfaceT at ht
  split at ht
  ·simp at ht
  ·rename_i d hni hu
   cases d with
   | interface ms => exact absurd rfl (hni ms)
   | _ => simp [Instr.makeInterface, run_underlying hu]
  ·cases ht
 ·rename_i fn first captured hop
  simp only [hop]
  simp at hs; obtain ⟨rfl, rfl⟩ := hs
  have h1 := args_relA hev first
  have h2 := args_relA hev captured
  exact Yields.next (.same R (v' := .func _ (first.map ev') (captured.map ev')) (Sem.run_pure ..) (.func _ rfl h1.1 h2.1 h1.2 h2.2))
 ·rename_i t r hop
  simp only [hop]
  exact (aMakeMap_sound (andH_val hs) R (opt_rel hev r)).next
 ·rename_i t l c hop
  simp only [hop]
  exact (aMake_sound (andH_val hs) R (hev l) (hev c)).next
 ·rename_i t x lo hi mx hop
  simp only [hop]
  obtain ⟨hv, he⟩ := justV_val hs
  subst he
  exact ((aSlice_sound hv R (hev x) (opt_rel hev lo) (opt_rel hev hi) (opt_rel hev mx)).yields R).next
 ·rename_i s x k hop
  simp only [hop]
  obtain ⟨hv, he⟩ := justV_val hs
  subst he
  exact ((aField_sound hv R (hev x)).yields R).next
 ·rename_i t x k hop
  simp only [hop]
  obtain ⟨hv, he⟩ := justV_val hs
  subst he
  exact ((aFieldOf_sound hv R (hev x)).yields R).next
 ·rename_i t x ix hop
  simp only [hop]
  obtain ⟨hv, he⟩ := justV_val hs
  subst he
  exact ((aIndexAddr_sound hv R (hev x) (hev ix)).yields R).next
 ·rename_i t x ix hop
  simp only [hop]
  obtain ⟨hv, he⟩ := justV_val hs
  subst he
  exact ((aIndex_sound hv R (hev x) (hev ix)).yields R).next
 ·rename_i t x ix ok hop
  simp only [hop]
  obtain ⟨hv, he⟩ := justV_val hs
  subst he
  exact ((aLookup_sound hv R (hev x) (hev ix)).yields R).next
 ·rename_i t m k x hop
  simp only [hop]
  obtain ⟨hv, he⟩ := justH_val hs
  subst he
  exact .skip (aUpdate_sound hv R (hev m) (hev k) (hev x))
 ·rename_i t m k x hop
  simp only [hop]
  obtain ⟨hv, he⟩ := justH_val hs
  subst he
  exact .skip (aUpdate_sound hv R (hev m) (hev k) (hev x))
 ·rename_i t m k hop
  simp only [hop]
  exact (aMapEntry_sound (andH_val hs) R (hev m) (hev k)).next
 ·rename_i t m s x hop
  simp only [hop]
  obtain ⟨hv, he⟩ := justH_val hs
  subst he
  exact .skip (aEntryStore_sound hv R (hev m) (hev s) (hev x))
 ·rename_i t x hop
  simp only [hop]
  exact (aRange_sound (andH_val hs) R (hev x)).next
 ·rename_i it hop
  split at hs <;> simp at hs
 ·rename_i it hop
  simp only [hop]
  obtain ⟨hv, he⟩ := justV_val hs
  subst he
  exact ((aEntry_sound hv R (hev it)).yields R).next
 ·rename_i x xt asserted ok hop
  simp only [hop]
  obtain ⟨hv, he⟩ := justV_val hs
  subst he
  exact ((aAssert_sound hv R (hev x)).yields R).next
 ·rename_i t k hop
  simp only [hop]
  split at hs
  case h_2 => cases hs
  rename_i vs hvs
  obtain ⟨hv, he⟩ := justV_val hs
  subst he
  have hx := hev t
  rw [hvs] at hx
  generalize hx' : ev' t = x' at hx
  cases hx with
  | tuple hsz hx =>
   rename_i vs'
   have hlt : k < vs.length := (List.getElem?_eq_some_iff.1 hv).1
   have hlt' : k < vs'.size := by rw [← hsz]; exact hlt
   refine Yields.next (.same R (v' := vs'[k]) ?_ (hx k v _ hv (Array.getElem?_eq_getElem hlt')))
   simp [Instr.extract, Array.getElem?_eq_getElem hlt']
 ·rename_i c hop
  simp only [hop]
  unfold aCall at hs
  split at hs
  ·split at hs <;> simp at hs
  ·rename_i b hnp hb
   split at hs
   case h_2 => cases hs
   rename_i u h2 hu
   simp at hs; obtain ⟨rfl, rfl⟩ := hs
   have ha := args_rel hev c.args.toList
   have := aBuiltin_sound (args' := c.args.map ev') hu R (by simpa using ha)
   have e1 : (do let d ← resolve ev' c o.type; invoke d.target d.args) = builtin b c.argTypes o.type (constsOf c.args) (c.args.map ev') := by
    simp [resolve, hb, invoke]
    rfl
   rw [e1]
   exact this
  ·rename_i fo hf
   split at hs
   case h_2 => simp at hs
   case h_3 => cases hs
   rename_i fid first captured hfv
   split at hs
   ·cases hs
   split at hs
   case h_2 => cases hs
   rename_i u h2 hu
   simp at hs
   obtain ⟨rfl, rfl⟩ := hs
   have hv := hev fo
   rw [hfv] at hv
   generalize hv' : ev' fo = v' at hv
   cases hv with
   | func fn hs0 hs1 hs2 hx hy =>
   rename_i first' captured'
   have ha := args_rel hev c.args.toList
   have l1 : LRel ρ first first'.toList := ARel.list ⟨hs1, hx⟩
   have l2 : LRel ρ captured captured'.toList := ARel.list ⟨hs2, hy⟩
   have l3 := l1.append (ha.append l2)
   obtain ⟨r', w', hr, hrr, R'⟩ := aEx_sound (args' := first' ++ c.args.map ev' ++ captured') hu R (by simpa using l3)
   refine ⟨ρ, r', w', .inl ?_, hrr, R', Ren.le.refl ρ⟩
   simp [resolve, hf, hv', Deferred.ofValue, invoke]
   simpa using hr
  ·obtain ⟨_, _, _, _, _, h5⟩ := aInv_cases hs; cases h5
 ·split at hs <;> simp at hs
 ·cases hs
theorem opEval_call {P : Program} {o : Oper} {ev : Operand → V} {ev' : Operand → Value} {h : AHeap} {g : FuncId} {args : List V} (hs : opEval P o ev h = some (.call g args)) {ρ : Ren} {B : Nat} {w0 w : World}
  (R : WRel ρ B w0 h w) (hev : ∀ x, VRel ρ (ev x) (ev' x)) : ∃ args', (execOp ev' o).run P w = .ok (.enter g args') w ∧ LRel ρ args args'.toList := by
 have key : ∃ c, o.op = .call c ∧ aCall P c o.type ev h = some (.call g args) := by
  unfold opEval at hs
  split at hs
  all_goals first
   | (rename_i c hop; exact ⟨c, hop, hs⟩)
   | (simp [andH, justV, justH] at hs; done)
   | (unfold andH at hs; split at hs <;> simp at hs; done)
   | (unfold justV at hs; split at hs <;> simp at hs; done)
   | (unfold justH at hs; split at hs <;> simp at hs; done)
   | (split at hs <;> (try (unfold andH at hs; split at hs)) <;> simp at hs; done)
   | (split at hs <;> (try (unfold justV at hs; split at hs)) <;> simp at hs; done)
 obtain ⟨c, hop, hc⟩ := key
 unfold aCall at hc
 split at hc
 ·split at hc <;> simp at hc
 ·split at hc <;> simp at hc
 ·rename_i fo hf
  split at hc
  case h_2 => simp at hc
  case h_3 => cases hc
  rename_i fid first captured hfv
  split at hc
  case isFalse => split at hc <;> simp at hc
  rename_i hcall
  simp at hc
  obtain ⟨rfl, rfl⟩ := hc
  have hv := hev fo
  rw [hfv] at hv
  generalize hv' : ev' fo = v' at hv
  cases hv with
  | func fn hs0 hs1 hs2 hx hy =>
  rename_i first' captured'
  have ha := args_rel hev c.args.toList
  refine ⟨first' ++ c.args.map ev' ++ captured', ?_, ?_⟩
  ·unfold callable at hcall
   split at hcall
   case h_2 => cases hcall
   rename_i fn hfn
   simp only [Bool.and_eq_true, bne_iff_ne, ne_eq] at hcall
   have hb : fn.body.isNone = false := by cases hb : fn.body <;> simp_all
   unfold execOp
   simp only [hop]
   simp [resolve, hf, hv', Deferred.ofValue, invoke, callFunc, hfn, hcall.2]
   intro hh
   simp [hh] at hcall
  ·have h1 : LRel ρ first first'.toList := ARel.list ⟨hs1, hx⟩
   have h2 : LRel ρ captured captured'.toList := ARel.list ⟨hs2, hy⟩
   have := h1.append (ha.append h2)
   simpa using this
 ·rename_i r name hcal
  obtain ⟨t, v, f, hr, hm, h5⟩ := aInv_cases hc
  simp only [Step.call.injEq] at h5
  obtain ⟨rfl, rfl⟩ := h5
  have hv := hev r
  rw [hr] at hv
  generalize hv' : ev' r = v' at hv
  cases hv with
  | iface t hx =>
  rename_i x'
  have ha := args_rel hev c.args.toList
  refine ⟨#[x'] ++ c.args.map ev', ?_, ?_⟩
  ·have hcall := hm.2
   unfold callable at hcall
   split at hcall
   case h_2 => cases hcall
   rename_i fn hfn
   simp only [Bool.and_eq_true, bne_iff_ne, ne_eq] at hcall
   have hb : fn.body.isNone = false := by cases hb : fn.body <;> simp_all
   unfold execOp
   simp only [hop]
   have hf : (callFunc g (#[x'] ++ c.args.map ev')).run P w = .ok (.enter g (#[x'] ++ c.args.map ev')) w := by
    simp [callFunc, hfn, hcall.2]
    intro hh
    simp [hh] at hcall
   have he : (Array.extract (#[Value.iface t x'] ++ c.args.map ev') 1 (#[Value.iface t x'] ++ c.args.map ev').size) = c.args.map ev' := by
    apply Array.ext'
    simp
    exact List.take_of_length_le (by simp)
   have h0 : (#[Value.iface t x'] ++ c.args.map ev')[0]? = some (.iface t x') := by rw [Array.getElem?_append_left (show 0 < 1 by decide)]; rfl
   have e1 : (do let d ← resolve ev' c o.type; invoke d.target d.args) = callMethod (.iface t x') name (c.args.map ev') := by
    simp only [resolve, hcal, hv', pure_bind, invoke, h0, he]
   rw [e1]
   simp only [callMethod, Sem.run_bind, run_program, Result.andThen_ok, hm.1, hf]
  ·simpa using LRel.cons hx ha
theorem opEval_round {P : Program} {o : Oper} {ev : Operand → V} {ev' : Operand → Value} {h : AHeap} {l : Nat} {args : List V} (hs : opEval P o ev h = some (.round l args)) {ρ : Ren} {B : Nat} {w0 w : World}
  (R : WRel ρ B w0 h w) (hev : ∀ x, VRel ρ (ev x) (ev' x)) : ∃ args' b c, ρ.ren l = some (b, c) ∧ execOp ev' o = Instr.yield b args' ∧ LRel ρ args args'.toList := by
 have key : ∃ c, o.op = .call c ∧ aCall P c o.type ev h = some (.round l args) := by
  unfold opEval at hs
  split at hs
  all_goals first
   | (rename_i c hop; exact ⟨c, hop, hs⟩)
   | (simp [andH, justV, justH] at hs; done)
   | (unfold andH at hs; split at hs <;> simp at hs; done)
   | (unfold justV at hs; split at hs <;> simp at hs; done)
   | (unfold justH at hs; split at hs <;> simp at hs; done)
   | (split at hs <;> (try (unfold andH at hs; split at hs)) <;> simp at hs; done)
   | (split at hs <;> (try (unfold justV at hs; split at hs)) <;> simp at hs; done)
 obtain ⟨c, hop, hc⟩ := key
 unfold aCall at hc
 split at hc
 ·split at hc <;> simp at hc
 ·split at hc <;> simp at hc
 ·rename_i fo hf
  split at hc
  case h_1 => split at hc <;> (try (split at hc)) <;> simp at hc
  case h_3 => cases hc
  rename_i l' hfv
  simp at hc
  obtain ⟨rfl, rfl⟩ := hc
  have hv := hev fo
  rw [hfv] at hv
  generalize hv' : ev' fo = v' at hv
  cases hv with
  | func fn hs0 => cases hs0
  | @yl _ b cc hb =>
  have ha := args_rel hev c.args.toList
  refine ⟨c.args.map ev', b, cc, hb, ?_, by simpa using ha⟩
  unfold execOp
  simp only [hop]
  simp [resolve, hf, hv', Deferred.ofValue, invoke]
 ·obtain ⟨_, _, _, _, _, h5⟩ := aInv_cases hc; cases h5
theorem opEval_alts {P : Program} {o : Oper} {ev : Operand → V} {ev' : Operand → Value} {h : AHeap} {l : List (V × AHeap)} (hs : opEval P o ev h = some (.alts l)) {ρ : Ren} {B : Nat} {w0 w : World}
  (R : WRel ρ B w0 h w) (hev : ∀ x, VRel ρ (ev x) (ev' x)) : ∃ v h', (v, h') ∈ l ∧ YieldsN P (execOp ev' o) ρ B w0 w v h' := by
 have key : ∃ it, o.op = .next it false ∧ aNext (ev it) h = some l := by
  unfold opEval at hs
  split at hs
  all_goals first
   | (rename_i it hop; cases hn : aNext (ev it) h with
     | none => simp [hn] at hs
     | some l' => simp [hn] at hs; subst hs; exact ⟨it, hop, hn⟩)
   | (simp [andH, justV, justH] at hs; done)
   | (unfold andH at hs; split at hs <;> simp at hs; done)
   | (unfold justV at hs; split at hs <;> simp at hs; done)
   | (unfold justH at hs; split at hs <;> simp at hs; done)
   | (unfold aCall at hs; split at hs <;> (split at hs) <;> simp at hs; done)
   | (split at hs <;> (try (unfold andH at hs; split at hs)) <;> simp at hs; done)
   | (split at hs <;> (try (unfold justV at hs; split at hs)) <;> simp at hs; done)
   | (
     exfalso; unfold aCall at hs; split at hs
     ·split at hs <;> simp at hs
     ·split at hs <;> simp at hs
     ·split at hs
      ·split at hs
       ·simp at hs
       ·split at hs <;> simp at hs
      ·simp at hs
      ·cases hs
     ·obtain ⟨_, _, _, _, _, h5⟩ := aInv_cases hs; cases h5)
 obtain ⟨it, hop, hn⟩ := key
 obtain ⟨v, h', hm, hy⟩ := aNext_sound (P := P) (ty := o.type) hn R (hev it)
 refine ⟨v, h', hm, ?_⟩
 unfold execOp
 simp only [hop]
 exact hy.next
theorem opEval_panic {P : Program} {o : Oper} {ev : Operand → V} {ev' : Operand → Value} {h : AHeap} (hs : opEval P o ev h = some .panic) {ρ : Ren} {B : Nat} {w0 w : World}
  (R : WRel ρ B w0 h w) (hev : ∀ x, VRel ρ (ev x) (ev' x)) : ∃ t v', (execOp ev' o).run P w = .halt (.panic (.iface t v')) w := by
 have key : (∃ x, o.op = .panic x ∧ ∃ t v, ev x = .iface t v) ∨ (∃ c x, o.op = .call c ∧ c.callee = .builtin .panic ∧ c.args.toList = [x] ∧ ∃ t v, ev x = .iface t v) := by
  unfold opEval at hs
  split at hs
  all_goals first
   | (rename_i x hop; cases hx : ev x <;> simp [hx] at hs; exact .inl ⟨x, hop, _, _, hx⟩)
   | (simp [andH, justV, justH] at hs; done)
   | (unfold andH at hs; split at hs <;> simp at hs; done)
   | (unfold justV at hs; split at hs <;> simp at hs; done)
   | (unfold justH at hs; split at hs <;> simp at hs; done)
   | (split at hs <;> (try (unfold andH at hs; split at hs)) <;> simp at hs; done)
   | (split at hs <;> (try (unfold justV at hs; split at hs)) <;> simp at hs; done)
   | (
     rename_i c hop
     unfold aCall at hs
     split at hs
     ·rename_i hcal
      split at hs
      ·rename_i t v heq
       cases hl : c.args.toList with
       | nil => simp [hl] at heq
       | cons x r =>
        rw [hl] at heq
        simp at heq
        obtain ⟨h1, rfl⟩ := heq
        exact .inr ⟨c, x, hop, hcal, hl, t, v, h1⟩
      ·cases hs
     ·split at hs <;> simp at hs
     ·split at hs
      ·split at hs
       ·simp at hs
       ·split at hs <;> simp at hs
      ·simp at hs
      ·cases hs
     ·obtain ⟨_, _, _, _, _, h5⟩ := aInv_cases hs; cases h5)
 have run : ∀ x t v, ev x = .iface t v → ∃ t v', ev' x = .iface t v' ∧ (Instr.panic (ev' x)).run P w = .halt (.panic (.iface t v')) w := fun x t v he => by
  have hx := hev x
  rw [he] at hx
  generalize ev' x = x' at hx
  cases hx with
  | iface t hv => exact ⟨t, _, rfl, by simp [Instr.panic, goPanic, Sem.run]⟩
 rcases key with ⟨x, hop, t, v, he⟩ | ⟨c, x, hop, hcal, hargs, t, v, he⟩
 ·obtain ⟨t, v', h1, h2⟩ := run x t v he
  refine ⟨t, v', ?_⟩
  unfold execOp
  simp [hop, h2]
 ·obtain ⟨t, v', h1, h2⟩ := run x t v he
  refine ⟨t, v', ?_⟩
  have ha : c.args = #[x] := by apply Array.ext'; simpa using hargs
  unfold execOp
  simp [hop, resolve, hcal, ha, invoke, builtin, h2]
end Go.Proofs.YtfcjehlhoebmnaaGreatDoor.Ab
namespace Go.Proofs.YtfcjehlhoebmnaaGreatDoor.Ab
open Go Go.RowKit
set_option linter.unusedVariables false
class Pt where
 prop : Prop
def hidI [p : Pt] : Prop := p.prop
theorem hid_mk {p : Prop} (h : p) : @hidI ⟨p⟩ := h
inductive AExit where
 | normal
 | exit (id : Nat)
 | goto (l : Nat)
 | ret
 | panic
def OneChain (ch : List PanicEntry) : Prop := ∃ t v', ch = [{ v := .iface t v', recovered := false }]
def XR : AExit → Exit → Prop
 | .normal, .normal => True
 | .exit i, .exit j => i = j
 | .goto i, .goto j => i = j
 | .ret, .ret => True
 | .panic, .panic ch => OneChain ch
 | _, _ => False
def SCallsE (P : Program) (f : FuncId) (args : List V) (h : AHeap) (R : V → AHeap → Prop) (E : AHeap → Prop) : Prop :=
 ∀ (ρ : Ren) (B : Nat) (w0 w : World) (args' : Array Value), WRel ρ B w0 h w → LRel ρ args args'.toList →
  Calls P f args' w fun e w' => (∃ (ρ' : Ren) (r : V) (r' : Value) (h' : AHeap), e = .returned r' ∧ VRel ρ' r r' ∧ WRel ρ' B w0 h' w' ∧ ρ.le ρ' ∧ R r h') ∨
   (∃ (ρ' : Ren) (ch : List PanicEntry) (h' : AHeap), e = .panicked ch ∧ OneChain ch ∧ WRel ρ' B w0 h' w' ∧ ρ.le ρ' ∧ E h')
def SCalls (P : Program) (f : FuncId) (args : List V) (h : AHeap) (R : V → AHeap → Prop) : Prop := SCallsE P f args h R fun _ => False
def SRound (P : Program) (l : Nat) (args : List V) (h : AHeap) (R : V → AHeap → Prop) : Prop :=
 ∀ (ρ : Ren) (B : Nat) (w0 w : World) (args' : Array Value) (b c : Nat), ρ.ren l = some (b, c) → WRel ρ B w0 h w → LRel ρ args args'.toList →
  ∃ fn tmps assign body, (Instr.yield b args').run P w = .ok (.round b fn tmps assign body) w ∧ RoundIn Fence.wide 0 P b fn tmps assign body w fun e w' =>
   ∃ (ρ' : Ren) (r : V) (r' : Value) (h' : AHeap), e = .returned r' ∧ VRel ρ' r r' ∧ WRel ρ' B w0 h' w' ∧ ρ.le ρ' ∧ R r h'
theorem SRound.mono {P : Program} {l : Nat} {args : List V} {h : AHeap} {R R' : V → AHeap → Prop} (hc : SRound P l args h R) (hr : ∀ r h', R r h' → R' r h') : SRound P l args h R' :=
 fun ρ B w0 w args' b c hb hw ha => let ⟨fn, tmps, assign, body, h1, h2⟩ := hc ρ B w0 w args' b c hb hw ha
  ⟨fn, tmps, assign, body, h1, h2.mono fun _ _ ⟨ρ', r, r', h', e1, e2, e3, e4, e5⟩ => ⟨ρ', r, r', h', e1, e2, e3, e4, hr _ _ e5⟩⟩
structure FOk (F : Fence) : Prop where
 fn : ∀ f, F.fn f
 depth : F.depth = none
 calls : ∀ {n : Nat} {P : Program} {f : FuncId} {args : Array Value} {w : World} {R : Ending → World → Prop}, Calls P f args w R → CallsIn F n P f args w R
 round : ∀ {n : Nat} {P : Program} {l : Nat} {f : FuncId} {tmps : Array Value} {a b : Code} {w : World} {R : Ending → World → Prop}, RoundIn Fence.wide 0 P l f tmps a b w R → RoundIn F n P l f tmps a b w R
theorem FOk.wide : FOk Fence.wide := ⟨fun _ => trivial, rfl, fun h => callsIn_wide.2 h, fun h => ⟨trivial, fun c cs _ => h.2 c cs (room_wide _)⟩⟩
theorem FOk.inRound (l : Nat) : FOk (Fence.wide.inRound l) := ⟨fun _ => trivial, rfl, fun {n P f args w R} h => show CallsIn Fence.wide n P f args w R from callsIn_wide.2 h, fun h => ⟨trivial, fun c cs _ => h.2 c cs (room_wide _)⟩⟩
theorem SCallsE.mono {P : Program} {f : FuncId} {args : List V} {h : AHeap} {R R' : V → AHeap → Prop} {E E' : AHeap → Prop} (hc : SCallsE P f args h R E) (hr : ∀ r h', R r h' → R' r h') (he : ∀ h', E h' → E' h') : SCallsE P f args h R' E' :=
 fun ρ B w0 w args' hw ha => (hc ρ B w0 w args' hw ha).mono fun _ _ hh => by
  rcases hh with ⟨ρ', r, r', h', h1, h2, h3, h4, h5⟩ | ⟨ρ', ch, h', h1, h2, h3, h4, h5⟩
  ·exact .inl ⟨ρ', r, r', h', h1, h2, h3, h4, hr _ _ h5⟩
  ·exact .inr ⟨ρ', ch, h', h1, h2, h3, h4, he _ h5⟩
theorem SCalls.mono {P : Program} {f : FuncId} {args : List V} {h : AHeap} {R R' : V → AHeap → Prop} (hc : SCalls P f args h R) (hr : ∀ r h', R r h' → R' r h') : SCalls P f args h R' :=
 SCallsE.mono hc hr fun _ h => h
theorem SCalls.e {P : Program} {f : FuncId} {args : List V} {h : AHeap} {R : V → AHeap → Prop} {E : AHeap → Prop} (hc : SCalls P f args h R) : SCallsE P f args h R E :=
 SCallsE.mono hc (fun _ _ h => h) fun _ h => h.elim
def CPost (n : Nat) (B : Nat) (w0 : World) (ρ : Ren) (Q : AExit → AFrame → AHeap → Prop) (e : Exit) (a : Act) (w : World) : Prop :=
 ∃ (ρ' : Ren) (x : AExit) (f : AFrame) (h : AHeap), XR x e ∧ WRel ρ' B w0 h w ∧ FRel ρ' n f a ∧ ρ.le ρ' ∧ Q x f h
theorem CPost.le {n B : Nat} {w0 : World} {ρ ρ1 : Ren} (hle : ρ.le ρ1) {Q : AExit → AFrame → AHeap → Prop} {e : Exit} {a : Act} {w : World} (h : CPost n B w0 ρ1 Q e a w) : CPost n B w0 ρ Q e a w :=
 let ⟨ρ', x, f, h', hx, hw, hf, hl, hq⟩ := h
 ⟨ρ', x, f, h', hx, hw, hf, hle.trans hl, hq⟩
def SWp (P : Program) (n : Nat) (c : Code) (Q : AExit → AFrame → AHeap → Prop) (f : AFrame) (h : AHeap) : Prop :=
 ∀ (ρ : Ren) (B : Nat) (w0 : World) (a : Act) (w : World), WRel ρ B w0 h w → FRel ρ n f a → c.wp P (CPost n B w0 ρ Q) a w
theorem SWp.mono {P : Program} {n : Nat} {c : Code} {Q Q' : AExit → AFrame → AHeap → Prop} {f : AFrame} {h : AHeap} (hs : SWp P n c Q f h) (hq : ∀ e f h, Q e f h → Q' e f h) : SWp P n c Q' f h :=
 fun ρ B w0 a w hw hf => wp_mono (hs ρ B w0 a w hw hf) fun _ _ _ ⟨ρ', x, f', h', hx, hw', hf', hl, hQ⟩ => ⟨ρ', x, f', h', hx, hw', hf', hl, hq _ _ _ hQ⟩
def Cast (r : V) (h : AHeap) (r2 : V) (h2 : AHeap) : Prop :=
 ∀ (ρ : Ren) (B : Nat) (w0 w : World) (r' : Value), WRel ρ B w0 h w → VRel ρ r r' → ∃ ρ', ρ.le ρ' ∧ WRel ρ' B w0 h2 w ∧ VRel ρ' r2 r'
theorem SCallsE.cast {P : Program} {f : FuncId} {args : List V} {h : AHeap} {R : V → AHeap → Prop} {E : AHeap → Prop} (hc : SCallsE P f args h (fun r h' => ∃ r2 h2, Cast r h' r2 h2 ∧ R r2 h2) E) : SCallsE P f args h R E :=
 fun ρ B w0 w args' hw ha => (hc ρ B w0 w args' hw ha).mono fun _ _ hh => by
  rcases hh with ⟨ρ', r, r', h', h1, h2, h3, h4, r2, hh2, hcast, hR⟩ | hh
  ·obtain ⟨ρ2, hle, hw2, hv2⟩ := hcast ρ' B w0 _ r' h3 h2
   exact .inl ⟨ρ2, r2, r', hh2, h1, hv2, hw2, h4.trans hle, hR⟩
  ·exact .inr hh
theorem SCalls.cast {P : Program} {f : FuncId} {args : List V} {h : AHeap} {R : V → AHeap → Prop} (hc : SCalls P f args h (fun r h' => ∃ r2 h2, Cast r h' r2 h2 ∧ R r2 h2)) : SCalls P f args h R := SCallsE.cast hc
def andThen (K : AFrame → AHeap → Prop) (Q : AExit → AFrame → AHeap → Prop) : AExit → AFrame → AHeap → Prop
 | .normal, f, h => K f h
 | e, f, h => Q e f h
theorem SWp.seq {P : Program} {n : Nat} {x y : Code} {Q : AExit → AFrame → AHeap → Prop} {f : AFrame} {h : AHeap} (hs : SWp P n x (andThen (SWp P n y Q) Q) f h) : SWp P n (.seq x y) Q f h := by
 intro ρ B w0 a w hw hf
 refine wp_seq (wp_mono (hs ρ B w0 a w hw hf) fun e a' w' ⟨ρ', x, f', h', hx, hw', hf', hl, hQ⟩ => ?_)
 cases x <;> cases e <;> simp only [XR] at hx
 ·exact wp_mono (hQ ρ' B w0 a' w' hw' hf') fun _ _ _ hp => hp.le hl
 ·exact ⟨ρ', _, f', h', by exact hx, hw', hf', hl, hQ⟩
 ·exact ⟨ρ', _, f', h', by exact hx, hw', hf', hl, hQ⟩
 ·exact ⟨ρ', .ret, f', h', trivial, hw', hf', hl, hQ⟩
 ·exact ⟨ρ', .panic, f', h', by exact hx, hw', hf', hl, hQ⟩
theorem SWp.cond {P : Program} {n : Nat} {c : Operand} {x y : Code} {Q : AExit → AFrame → AHeap → Prop} {f : AFrame} {h : AHeap} {t : Bool} (hc : f.eval h c = .bool t)
  (hs : SWp P n (if t then x else y) Q f h) : SWp P n (.cond c x y) Q f h := by
 intro ρ B w0 a w hw hf
 have hv := hf.eval hw.heap c
 rw [hc] at hv
 exact wp_cond (flatV_eq hv rfl) (hs ρ B w0 a w hw hf)
def inBlk (id : Nat) (Q : AExit → AFrame → AHeap → Prop) : AExit → AFrame → AHeap → Prop
 | .exit j, f, h => if j = id then Q .normal f h else Q (.exit j) f h
 | e, f, h => Q e f h
theorem SWp.block {P : Program} {n id : Nat} {c : Code} {Q : AExit → AFrame → AHeap → Prop} {f : AFrame} {h : AHeap} (hs : SWp P n c (inBlk id Q) f h) : SWp P n (.block id c) Q f h := by
 intro ρ B w0 a w hw hf
 refine wp_block (wp_mono (hs ρ B w0 a w hw hf) fun e a' w' ⟨ρ', x, f', h', hx, hw', hf', hl, hQ⟩ => ?_)
 cases x <;> cases e <;> simp only [XR] at hx
 ·exact ⟨ρ', .normal, f', h', trivial, hw', hf', hl, hQ⟩
 ·subst hx
  simp only [inBlk] at hQ
  simp only [Exit.inBlock]
  split
  ·rename_i he
   simp only [he, if_true] at hQ
   exact ⟨ρ', .normal, f', h', trivial, hw', hf', hl, hQ⟩
  ·rename_i he
   simp only [he, if_false] at hQ
   exact ⟨ρ', .exit _, f', h', rfl, hw', hf', hl, hQ⟩
 ·exact ⟨ρ', .goto _, f', h', hx, hw', hf', hl, hQ⟩
 ·exact ⟨ρ', .ret, f', h', trivial, hw', hf', hl, hQ⟩
 ·exact ⟨ρ', .panic, f', h', hx, hw', hf', hl, hQ⟩
theorem SWp.skip {P : Program} {n : Nat} {Q : AExit → AFrame → AHeap → Prop} {f : AFrame} {h : AHeap} (hq : Q .normal f h) : SWp P n .skip Q f h :=
 fun ρ _ _ _ _ hw hf => wp_skip ⟨ρ, .normal, f, h, trivial, hw, hf, Ren.le.refl ρ, hq⟩
theorem SWp.label {P : Program} {n l : Nat} {Q : AExit → AFrame → AHeap → Prop} {f : AFrame} {h : AHeap} (hq : Q .normal f h) : SWp P n (.label l) Q f h :=
 fun ρ _ _ _ _ hw hf => wp_label ⟨ρ, .normal, f, h, trivial, hw, hf, Ren.le.refl ρ, hq⟩
theorem SWp.exit {P : Program} {n id : Nat} {Q : AExit → AFrame → AHeap → Prop} {f : AFrame} {h : AHeap} (hq : Q (.exit id) f h) : SWp P n (.exit id) Q f h :=
 fun ρ _ _ _ _ hw hf => wp_exit ⟨ρ, .exit id, f, h, rfl, hw, hf, Ren.le.refl ρ, hq⟩
theorem SWp.goto {P : Program} {n l : Nat} {Q : AExit → AFrame → AHeap → Prop} {f : AFrame} {h : AHeap} (hq : Q (.goto l) f h) : SWp P n (.goto l) Q f h :=
 fun ρ _ _ _ _ hw hf => wp_goto ⟨ρ, .goto l, f, h, rfl, hw, hf, Ren.le.refl ρ, hq⟩
theorem SWp.ret {P : Program} {n : Nat} {Q : AExit → AFrame → AHeap → Prop} {f : AFrame} {h : AHeap} (hq : Q .ret f h) : SWp P n .ret Q f h :=
 fun ρ _ _ _ _ hw hf => wp_ret ⟨ρ, .ret, f, h, trivial, hw, hf, Ren.le.refl ρ, hq⟩
theorem SWp.loopG {P : Program} {n : Nat} {c : Code} {Q : AExit → AFrame → AHeap → Prop} {f : AFrame} {h : AHeap} {α : Type} (I : α → AFrame → AHeap → Prop) (μ : α → Nat) (x0 : α) (h0 : I x0 f h)
  (round : ∀ x f h, I x f h → SWp P n c (andThen (fun f' h' => @hidI ⟨∃ y, I y f' h' ∧ μ y < μ x⟩) Q) f h) : SWp P n (.loop c) Q f h := by
 intro ρ B w0 a w hw hf
 have key : ∀ m x f h, I x f h → μ x < m → ∀ ρ1 : Ren, ρ.le ρ1 → ∀ a w, WRel ρ1 B w0 h w → FRel ρ1 n f a → Code.rounds P c (CPost n B w0 ρ Q) m a w := by
  intro m
  induction m with
  | zero => intro x f h _ hm; omega
  | succ m ih =>
   intro x f h hI hm ρ1 hle a w hw hf
   rw [rounds_succ]
   refine wp_mono (round x f h hI ρ1 B w0 a w hw hf) fun e a' w' ⟨ρ', x', f', h', hx, hw', hf', hl, hQ⟩ => ?_
   cases x' <;> cases e <;> simp only [XR] at hx
   ·obtain ⟨y, hy, hlt⟩ := hQ
    exact ih y f' h' hy (by omega) ρ' (hle.trans hl) a' w' hw' hf'
   ·exact ⟨ρ', .exit _, f', h', hx, hw', hf', hle.trans hl, hQ⟩
   ·exact ⟨ρ', .goto _, f', h', hx, hw', hf', hle.trans hl, hQ⟩
   ·exact ⟨ρ', .ret, f', h', trivial, hw', hf', hle.trans hl, hQ⟩
   ·exact ⟨ρ', .panic, f', h', hx, hw', hf', hle.trans hl, hQ⟩
 exact wp_loop_rounds (μ x0 + 1) (key _ x0 f h h0 (Nat.lt_succ_self _) ρ (Ren.le.refl ρ) a w hw hf)
def yieldedA (ops : List Oper) (f : AFrame) (j : Nat) : Option Bool :=
 match (ops[j]?).bind (·.dst) with
 | some d => match f d with
  | .bool b => some b
  | _ => none
 | none => none
def wantedA (ops : List Oper) (g : Option (Nat × Bool)) (f : AFrame) : Option Bool :=
 match g with
 | none => some true
 | some (j, want) => match (ops[j]?).bind (·.dst) with
  | some d => match f d with
   | .top => none
   | .bool b => some (b == want)
   | _ => some false
  | none => some false
theorem wanted_eq {ρ : Ren} {n : Nat} {f : AFrame} {a : Act} (hf : FRel ρ n f a) (ops : Array Oper) (o : Oper) {b : Bool} (hb : wantedA ops.toList o.guard f = some b) : Region.wanted o (yielded ops a.tmps) = b := by
 unfold Region.wanted
 unfold wantedA at hb
 cases hg : o.guard with
 | none => simp [hg] at hb; simp [hb]
 | some p =>
  obtain ⟨j, want⟩ := p
  simp only [hg] at hb ⊢
  have e : ops.toList[j]? = ops[j]? := by simp
  rw [e] at hb
  unfold yielded
  cases hd : (ops[j]?).bind (·.dst) with
  | none => simp [hd] at hb; subst hb; rfl
  | some d =>
   simp only [hd] at hb ⊢
   have hv := hf.tmps d
   cases ht : a.tmps[d]? with
   | none =>
    have hu : a.tmps.getD d undef = undef := by simp [ht]
    rw [hu] at hv
    generalize f d = x at hv hb
    unfold undef at hv
    cases hv with
    | top => simp at hb
    | tuple hs hx => simp at hb; subst hb; simp [ht]
   | some u =>
    have hu : a.tmps.getD d undef = u := by simp [ht]
    rw [hu] at hv
    generalize f d = x at hv hb
    cases hv <;> simp at hb <;> subst hb <;> simp [ht]
def stepA (P : Program) (o : Oper) (next exc : AFrame → AHeap → Prop) (f : AFrame) (h : AHeap) : Prop :=
 match opEval P o (f.eval h) h with
 | some (.val v h') => next (f.put o.dst v) h'
 | some (.call g args) => SCallsE P g args h (fun r h' => next (f.put o.dst r) h') (fun h' => exc f h')
 | some (.alts l) => ∀ v h', (v, h') ∈ l → next (f.put o.dst v) h'
 | some .panic => exc f h
 | some (.round l args) => SRound P l args h (fun r h' => next (f.put o.dst r) h')
 | none => False
def opsA (P : Program) (ops : List Oper) : List Oper → (AFrame → AHeap → Prop) → (AFrame → AHeap → Prop) → AFrame → AHeap → Prop
 | [], K, _, f, h => K f h
 | o :: rest, K, E, f, h => match wantedA ops o.guard f with
  | some true => stepA P o (opsA P ops rest K E) E f h
  | some false => opsA P ops rest K E (f.put o.dst (.tuple [])) h
  | none => False
def codeOk (n : Nat) : Code → Bool
 | .region _ ops _ => ops.toList.all fun o => dstOk n o.dst
 | .seq a b => codeOk n a && codeOk n b
 | .cond c a b => codeOk n a && codeOk n b
 | .block _ b => codeOk n b
 | .loop b => codeOk n b
 | .scope b => codeOk n b
 | .rangeFunc .. => false
 | .refuse _ => false
 | _ => true
theorem sem_of {P : Program} {o : Oper} {ev : Operand → V} {h : AHeap} {s : Step} (hs : opEval P o ev h = some s) (ro : Option Nat) (ev' : Operand → Value) : o.semAt ro ev' = execOp ev' o :=
 Oper.semAt_eq ro ev' o fun c hc => by unfold opEval at hs; rw [hc] at hs; simp at hs
theorem step_sound {F : Fence} (hF : FOk F) {rm : Nat} {P : Program} {n : Nat} {o : Oper} (hd : dstOk n o.dst = true) {ρ0 ρ : Ren} {B : Nat} {w0 w : World} {f : AFrame} {h : AHeap} {a : Act} {next exc : AFrame → AHeap → Prop}
  {next' : Act → World → Prop} {Q' : Exit → Act → World → Prop} (hle : ρ0.le ρ) (hw : WRel ρ B w0 h w) (hf : FRel ρ n f a) (hq : stepA P o next exc f h)
  (hnext : ∀ ρ f h a w, ρ0.le ρ → WRel ρ B w0 h w → FRel ρ n f a → next f h → next' a w) (hexc : ∀ ρ f h a w ch, ρ0.le ρ → WRel ρ B w0 h w → FRel ρ n f a → OneChain ch → exc f h → Q' (.panic ch) a w) :
  o.wpIn F rm P a w next' Q' := by
 unfold stepA at hq
 unfold Oper.wpIn
 refine ⟨fun f _ => hF.fn f, ?_⟩
 have hev := hf.eval hw.heap
 have hdp : F.depth.isSome = true → 1 ≤ rm := fun hh => by rw [hF.depth] at hh; cases hh
 have fin : ∀ v h', YieldsN P (execOp a.eval o) ρ B w0 w v h' → next (f.put o.dst v) h' → Oper.uponIn F rm P o a next' Q' ((execOp a.eval o).run P w) := fun v h' hy hn => by
  obtain ⟨ρ', v', w', hrun, hv, hw', hl'⟩ := hy
  rcases hrun with hrun | ⟨hrun, rfl⟩
  ·rw [hrun, Oper.uponIn_value]
   exact hnext ρ' _ _ _ _ (hle.trans hl') hw' ((hf.mono hl').put hv o.dst hd) hn
  ·rw [hrun, Oper.uponIn_skip]
   exact hnext ρ' _ _ _ _ (hle.trans hl') hw' ((hf.mono hl').put hv o.dst hd) hn
 cases he : opEval P o (f.eval h) h with
 | none => simp [he] at hq
 | some s =>
  rw [sem_of he]
  cases s with
  | val v h' => simp only [he] at hq; exact fin v h' (opEval_val he hw hev) hq
  | alts l =>
   simp only [he] at hq
   obtain ⟨v, h', hm, hy⟩ := opEval_alts he hw hev
   exact fin v h' hy (hq v h' hm)
  | panic =>
   simp only [he] at hq
   obtain ⟨t, v', hrun⟩ := opEval_panic he hw hev
   rw [hrun, Oper.uponIn_panic]
   exact hexc ρ f h a w _ hle hw hf ⟨t, v', rfl⟩ hq
  | call g args =>
   simp only [he] at hq
   obtain ⟨args', hrun, ha⟩ := opEval_call he hw hev
   rw [hrun, Oper.uponIn_enter]
   refine ⟨hdp, (hF.calls (hq ρ B w0 w args' hw ha)).mono fun e w' hh => ?_⟩
   rcases hh with ⟨ρ', r, r', h', hee, hv, hw', hl', hR⟩ | ⟨ρ', ch, h', hee, hch, hw', hl', hE⟩
   ·subst hee
    exact hnext ρ' _ _ _ _ (hle.trans hl') hw' ((hf.mono hl').put hv o.dst hd) hR
   ·subst hee
    exact hexc ρ' f h' a w' ch (hle.trans hl') hw' (hf.mono hl') hch hE
  | round l args =>
   simp only [he] at hq
   obtain ⟨args', bb, cc, hbb, hrun, ha⟩ := opEval_round he hw hev
   obtain ⟨fn, tmps, assign, body, hy, hr⟩ := hq ρ B w0 w args' bb cc hbb hw ha
   rw [hrun, hy, Oper.uponIn_round]
   refine ⟨hdp, (hF.round hr).mono fun e w' hh => ?_⟩
   obtain ⟨ρ', r, r', h', hee, hv, hw', hl', hR⟩ := hh
   subst hee
   exact hnext ρ' _ _ _ _ (hle.trans hl') hw' ((hf.mono hl').put hv o.dst hd) hR
theorem ops_sound {F : Fence} (hF : FOk F) {rm : Nat} {P : Program} {n : Nat} {ops : Array Oper} (hok : ops.toList.all (fun o => dstOk n o.dst) = true) {Q : AExit → AFrame → AHeap → Prop} {ρ0 : Ren} {B : Nat} {w0 : World} :
  ∀ (l : List Oper) (k : Nat), l = ops.toList.drop k → ∀ (ρ : Ren) (f : AFrame) (h : AHeap) (a : Act) (w : World), ρ0.le ρ → WRel ρ B w0 h w → FRel ρ n f a →
   opsA P ops.toList l (Q .normal) (Q .panic) f h → wpOpsIn F rm P ops (CPost n B w0 ρ0 Q) (List.range' k l.length) a w
 | [], k, hl, ρ, f, h, a, w, hle, hw, hf, hq => by
  simp only [List.length_nil, List.range'_zero, wpOpsIn]
  exact ⟨ρ, .normal, f, h, trivial, hw, hf, hle, hq⟩
 | o :: rest, k, hl, ρ, f, h, a, w, hle, hw, hf, hq => by
  have hk : ops.toList[k]? = some o := by
   have := congrArg (·[0]?) hl
   simpa using this.symm
  have hrest : rest = ops.toList.drop (k + 1) := by
   have := congrArg List.tail hl
   simpa [List.tail_drop] using this
  have ho : ops[k]? = some o := by simpa using hk
  have hd : dstOk n o.dst = true := (List.all_eq_true.1 hok) o (List.mem_of_getElem? hk)
  simp only [List.length_cons, List.range'_succ, wpOpsIn, ho]
  unfold opsA at hq
  cases hwn : wantedA ops.toList o.guard f with
  | none => simp [hwn] at hq
  | some b =>
   rw [wanted_eq hf ops o hwn]
   cases b with
   | true =>
    simp only [hwn] at hq
    simp only [if_true]
    exact step_sound hF hd hle hw hf hq (fun ρ f h a w hle hw hf hn => ops_sound hF hok rest (k + 1) hrest ρ f h a w hle hw hf hn)
     (fun ρ f h a w ch hle hw hf hch hE => ⟨ρ, .panic, f, h, hch, hw, hf, hle, hE⟩)
   | false =>
    simp only [hwn] at hq
    simp only [Bool.false_eq_true, if_false]
    exact ⟨fun f _ => hF.fn f, ops_sound hF hok rest (k + 1) hrest ρ _ _ _ _ hle hw (hf.put (tuple0_rel _) o.dst hd) hq⟩
theorem SWp.region {P : Program} {n id : Nat} {ops : Array Oper} (hok : ops.toList.all (fun o => dstOk n o.dst) = true) {Q : AExit → AFrame → AHeap → Prop} {f : AFrame} {h : AHeap}
  (hq : opsA P ops.toList ops.toList (Q .normal) (Q .panic) f h) : SWp P n (.region id ops false) Q f h := by
 intro ρ B w0 a w hw hf
 refine wpIn_wide.1 (wpIn_region (n := 0) ?_)
 have := ops_sound FOk.wide (rm := 0) (P := P) hok (ρ0 := ρ) ops.toList 0 (by simp) ρ f h a w (Ren.le.refl ρ) hw hf hq
 rwa [Array.length_toList, ← List.range_eq_range'] at this
def Pure (P : Program) (fid : FuncId) (args : List V) (h : AHeap) (v : V) : Prop := SCalls P fid args h fun r h' => r = v ∧ h' = h
def quietStep (P : Program) (o : Oper) (h : AHeap) (f : AFrame) (v : V) : Prop :=
 opEval P o (f.eval h) h = some (.val v h) ∨ ∃ g args, opEval P o (f.eval h) h = some (.call g args) ∧ Pure P g args h v
def lexG (P : Program) (ops : List Oper) (es : List Nat) (K E : AFrame → AHeap → Prop) : Nat → List Oper → AFrame → AHeap → Prop
 | _, [], f, h => K f h
 | k, o :: rest, f, h => if es.contains k then (match wantedA ops o.guard f with
   | some true => stepA P o (fun f' h' => lexG P ops es K E (k + 1) rest f' h') E f h
   | some false => lexG P ops es K E (k + 1) rest (f.put o.dst (.tuple [])) h
   | none => False)
  else (match wantedA ops o.guard f with
   | some true => ∃ v, quietStep P o h f v ∧ lexG P ops es K E (k + 1) rest (f.put o.dst v) h
   | some false => lexG P ops es K E (k + 1) rest (f.put o.dst (.tuple [])) h
   | none => False)
def wpA (P : Program) (n : Nat) : Code → (AExit → AFrame → AHeap → Prop) → AFrame → AHeap → Prop
 | .skip, Q, f, h => Q .normal f h
 | .region id ops false, Q, f, h => opsA P ops.toList ops.toList (Q .normal) (Q .panic) f h
 | .region id ops true, Q, f, h => SWp P n (.region id ops true) Q f h
 | .seq a b, Q, f, h => wpA P n a (andThen (fun f h => wpA P n b Q f h) Q) f h
 | .cond c a b, Q, f, h => match f.eval h c with
  | .bool true => wpA P n a Q f h
  | .bool false => wpA P n b Q f h
  | _ => False
 | .block id b, Q, f, h => wpA P n b (inBlk id Q) f h
 | .loop b, Q, f, h => SWp P n (.loop b) Q f h
 | .scope b, Q, f, h => SWp P n (.scope b) Q f h
 | .exit id, Q, f, h => Q (.exit id) f h
 | .goto l, Q, f, h => Q (.goto l) f h
 | .label _, Q, f, h => Q .normal f h
 | .ret, Q, f, h => Q .ret f h
 | _, _, _, _ => False
theorem wpA_sound {P : Program} {n : Nat} : ∀ (c : Code) (Q : AExit → AFrame → AHeap → Prop) (f : AFrame) (h : AHeap), codeOk n c = true → wpA P n c Q f h → SWp P n c Q f h
 | .skip, Q, f, h, _, hq => .skip hq
 | .region id ops false, Q, f, h, hok, hq => .region (by simpa [codeOk] using hok) hq
 | .region id ops true, Q, f, h, _, hq => hq
 | .seq a b, Q, f, h, hok, hq => by
  simp only [codeOk, Bool.and_eq_true] at hok
  refine .seq ((wpA_sound a _ f h hok.1 hq).mono fun e f' h' hh => ?_)
  cases e with
  | normal => exact wpA_sound b Q f' h' hok.2 hh
  | _ => exact hh
 | .cond c a b, Q, f, h, hok, hq => by
  simp only [codeOk, Bool.and_eq_true] at hok
  unfold wpA at hq
  split at hq
  ·rename_i hc; exact .cond hc (wpA_sound a Q f h hok.1 hq)
  ·rename_i hc; exact .cond hc (wpA_sound b Q f h hok.2 hq)
  ·exact hq.elim
 | .block id b, Q, f, h, hok, hq => .block (wpA_sound b _ f h (by simpa [codeOk] using hok) hq)
 | .loop b, Q, f, h, _, hq => hq
 | .scope b, Q, f, h, _, hq => hq
 | .exit id, Q, f, h, _, hq => .exit hq
 | .goto l, Q, f, h, _, hq => .goto hq
 | .label _, Q, f, h, _, hq => .label hq
 | .ret, Q, f, h, _, hq => .ret hq
 | .rangeFunc .., Q, f, h, hok, _ => by simp [codeOk] at hok
 | .refuse _, Q, f, h, hok, _ => by simp [codeOk] at hok
def enterF (args : List V) : AFrame := fun t => args.getD t .top
def resultA (P : Program) (f : AFrame) (h : AHeap) : ResultVar → Option V
 | .tmp t => some (f t)
 | .cell a t => aLoad P t (f a) h
def resultsA (P : Program) (rs : List ResultVar) (f : AFrame) (h : AHeap) : Option V :=
 match rs with
 | [r] => resultA P f h r
 | _ => match rs.mapM (resultA P f h) with
  | some vs => some (.tuple vs)
  | none => none
def retA (P : Program) (fn : Func) (R : V → AHeap → Prop) (E : AHeap → Prop) : AExit → AFrame → AHeap → Prop
 | .normal, f, h | .ret, f, h => match resultsA P fn.results.toList f h with
  | some r => R r h
  | none => False
 | .panic, f, h => E h
 | _, _, _ => False
theorem run_result {P : Program} {ρ : Ren} {B n : Nat} {w0 w : World} {f : AFrame} {h : AHeap} {a : Act} (hw : WRel ρ B w0 h w) (hf : FRel ρ n f a) {g : ResultVar → Sem Value}
  (hg1 : ∀ t, g (.tmp t) = pure (a.tmps.getD t undef)) (hg2 : ∀ c t, g (.cell c t) = (do loadVar t (← asAddr (a.tmps.getD c undef)))) {r : ResultVar} {v : V} (hr : resultA P f h r = some v) :
  ∃ v', (g r).run P w = .ok v' w ∧ VRel ρ v v' := by
 cases r with
 | tmp t =>
  obtain rfl : f t = v := by simpa [resultA] using hr
  rw [hg1]
  exact ⟨_, Sem.run_pure .., hf.tmps t⟩
 | cell c t =>
  simp only [resultA] at hr
  obtain ⟨⟨ad, ha⟩, v', hrun, hv⟩ := aLoad_sound hr hw (hf.tmps c)
  refine ⟨v', ?_, hv⟩
  rw [hg2]
  rw [ha] at hrun ⊢
  simpa [Instr.loadAt, Instr.sureAddr, asAddr] using hrun
theorem run_results {P : Program} {ρ : Ren} {B n : Nat} {w0 w : World} {f : AFrame} {h : AHeap} {a : Act} (hw : WRel ρ B w0 h w) (hf : FRel ρ n f a) {g : ResultVar → Sem Value}
  (hg1 : ∀ t, g (.tmp t) = pure (a.tmps.getD t undef)) (hg2 : ∀ c t, g (.cell c t) = (do loadVar t (← asAddr (a.tmps.getD c undef)))) : ∀ (rs : List ResultVar) (vs : List V), rs.mapM (resultA P f h) = some vs →
  vs.length = rs.length ∧ ∃ vs', (rs.mapM g).run P w = .ok vs' w ∧ LRel ρ vs vs'
 | [], vs, hm => by
  simp at hm
  subst hm
  exact ⟨rfl, [], by simp, .nil ρ⟩
 | r :: rs, vs, hm => by
  simp only [List.mapM_cons, Option.bind_eq_bind, Option.pure_def] at hm
  cases hr : resultA P f h r with
  | none => simp [hr] at hm
  | some v =>
   cases hrs : rs.mapM (resultA P f h) with
   | none => simp [hr, hrs] at hm
   | some us =>
    simp [hr, hrs] at hm
    subst hm
    obtain ⟨v', h1, h2⟩ := run_result hw hf hg1 hg2 hr
    obtain ⟨hl, us', h3, h4⟩ := run_results hw hf hg1 hg2 rs us hrs
    refine ⟨by simp [hl], v' :: us', ?_, .cons h2 h4⟩
    simp only [List.mapM_cons, Sem.run_bind, h1, h3, Result.andThen_ok, Sem.run_pure]
def resG (tmps : Array Value) : ResultVar → Sem Value
 | .tmp t => pure (tmps.getD t undef)
 | .cell a t => do loadVar t (← asAddr (tmps.getD a undef))
theorem results_eq (fn : Func) (tmps : Array Value) : results fn tmps = (do let vs ← fn.results.mapM (resG tmps); pure (if h : vs.size = 1 then vs[0] else .tuple vs)) := rfl
theorem run_resultsA {P : Program} {ρ : Ren} {B n : Nat} {w0 w : World} {f : AFrame} {h : AHeap} {a : Act} {fn : Func} (hw : WRel ρ B w0 h w) (hf : FRel ρ n f a) {r : V} (hra : resultsA P fn.results.toList f h = some r) :
  ∃ r', (results fn a.tmps).run P w = .ok r' w ∧ VRel ρ r r' := by
 rw [results_eq, Array.mapM_eq_mapM_toList]
 unfold resultsA at hra
 split at hra
 ·rename_i rv heq
  have hm : [rv].mapM (resultA P f h) = some [r] := by simp [hra]
  rw [heq]
  obtain ⟨_, vs', h1, h2⟩ := run_results hw hf (g := resG a.tmps) (fun _ => rfl) (fun _ _ => rfl) [rv] [r] hm
  obtain ⟨v', t', rfl, hv, ht⟩ := h2.uncons
  obtain rfl := ht.eq_nil
  refine ⟨v', ?_, hv⟩
  simp only [Sem.run_bind, Sem.run_map, h1, Result.andThen_ok]
  simp
 ·rename_i hne
  split at hra
  case h_2 => cases hra
  rename_i vs hvs
  obtain rfl : _ = r := by simpa using hra
  obtain ⟨hlen2, vs', h1, h2⟩ := run_results hw hf (g := resG a.tmps) (fun _ => rfl) (fun _ _ => rfl) _ vs hvs
  have hl1 : vs'.length ≠ 1 := by
   rw [← h2.1, hlen2]
   intro hc
   obtain ⟨r, hr⟩ := List.length_eq_one_iff.1 hc
   exact hne r hr
  refine ⟨.tuple vs'.toArray, ?_, .tuple h2.arr.1 h2.arr.2⟩
  simp only [Sem.run_bind, Sem.run_map, h1, Result.andThen_ok]
  simp [hl1]
theorem enter_rel {ρ : Ren} {n : Nat} {args : List V} {args' : Array Value} (ha : LRel ρ args args'.toList) (hlen : args.length ≤ n) (hd : ρ.dfr = []) : FRel ρ n (enterF args) { tmps := args' ++ Array.replicate (n - args'.size) undef, defers := [] } := by
 have hsz : args'.size = args.length := by have := ha.1; simpa using this.symm
 refine ⟨fun t => ?_, by simp; omega, hd.symm⟩
 simp only [enterF]
 by_cases ht : t < args.length
 ·obtain ⟨v', h1, h2⟩ := ha.get (List.getElem?_eq_getElem ht)
  have h1' : args'[t]? = some v' := by simpa using h1
  simp only [List.getD, List.getElem?_eq_getElem ht, Option.getD_some]
  have : (args' ++ Array.replicate (n - args'.size) undef).getD t undef = v' := by
   rw [Array.getD_eq_getD_getElem?, Array.getElem?_append_left (by omega), h1']
   rfl
  rw [this]
  exact h2
 ·simp only [List.getD, List.getElem?_eq_none (show args.length ≤ t by omega), Option.getD_none]
  exact .top _
theorem SCallsE.enter {P : Program} {fid : FuncId} {fn : Func} {c : Code} (hfn : P.funcs[fid]? = some fn) (hb : fn.body = some c) (hok : codeOk fn.ntmps c = true) {args : List V} (hlen : args.length ≤ fn.ntmps)
  {h : AHeap} {R : V → AHeap → Prop} {E : AHeap → Prop} (hq : wpA P fn.ntmps c (retA P fn R E) (enterF args) h) : SCallsE P fid args h R E := by
 intro ρ B w0 w args' hw ha
 refine calls_of_wp hfn hb ?_
 have fin : ∀ (ρ' : Ren) (f : AFrame) (h' : AHeap) (a' : Act) (w' : World), Ren.le { ρ with dfr := [] } ρ' → WRel ρ' B w0 h' w' → FRel ρ' fn.ntmps f a' → (match resultsA P fn.results.toList f h' with | some r => R r h' | none => False) →
   a'.defers = [] ∧ ∃ v, (results fn a'.tmps).run P w' = .ok v w' ∧ ((∃ (ρ' : Ren) (r : V) (r' : Value) (h' : AHeap), Ending.returned v = .returned r' ∧ VRel ρ' r r' ∧ WRel ρ' B w0 h' w' ∧ ρ.le ρ' ∧ R r h') ∨
    (∃ (ρ' : Ren) (ch : List PanicEntry) (h' : AHeap), Ending.returned v = .panicked ch ∧ OneChain ch ∧ WRel ρ' B w0 h' w' ∧ ρ.le ρ' ∧ E h')) := by
  intro ρ' f h' a' w' hl hw' hf' hQ
  refine ⟨hf'.defers.trans hl.dfr, ?_⟩
  cases hra : resultsA P fn.results.toList f h' with
  | none => simp [hra] at hQ
  | some r =>
  simp only [hra] at hQ
  obtain ⟨r', h1, h2⟩ := run_resultsA hw' hf' hra
  exact ⟨r', h1, .inl ⟨_, r, r', h', rfl, h2.dfr ρ.dfr, hw'.dfr ρ.dfr, hl.dfr_back, hQ⟩⟩
 refine wp_mono (wpA_sound c _ _ h hok hq { ρ with dfr := [] } B w0 _ w (hw.dfr []) (enter_rel (ha.dfr []) hlen rfl)) fun e a' w' ⟨ρ', x, f, h', hx, hw', hf', hl, hQ⟩ => ?_
 cases x <;> cases e <;> simp only [XR] at hx
 ·exact fin ρ' f h' a' w' hl hw' hf' hQ
 ·exact hQ.elim
 ·exact hQ.elim
 ·exact fin ρ' f h' a' w' hl hw' hf' hQ
 ·exact ⟨hf'.defers.trans hl.dfr, .inr ⟨_, _, h', rfl, hx, hw'.dfr ρ.dfr, hl.dfr_back, hQ⟩⟩
end Go.Proofs.YtfcjehlhoebmnaaGreatDoor.Ab
