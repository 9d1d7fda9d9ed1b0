/-
  Abstract values and an abstract heap for Go code, related to the world; the operations on them, and the rules of code. Conditions: none.
-/
import Derived.Test.YtfcjehlhoebmnaaGreatDoorAbA
import Derived.Lib.Overlaps
import Derived.Laws.LoneSync
import Derived.LoopN
import Derived.ScopeJumps
import Derived.Deep.Quiet
import Derived.OrdersIn
import Derived.RangeFuncIn
import Derived.RangeFuncLeaves
import Derived.RangeFuncRecord
import Derived.IntWalk
set_option linter.unusedVariables false
set_option linter.unusedSimpArgs false
namespace Go.Proofs.YtfcjehlhoebmnaaGreatDoor.Ab
open Go Go.RowKit
set_option linter.unusedVariables false

inductive Step where
  | val (v : V) (h : AHeap)
  | call (f : FuncId) (args : List V)
  | alts (l : List (V × AHeap))
  | panic
  | round (l : Nat) (args : List V)

def callable (P : Program) (f : FuncId) : Bool :=
  match P.funcs[f]? with
  | some fn => fn.body.isSome && fn.name != "runtime.NumGoroutine"
  | none => false

def isIfaceT (P : Program) (t : TypeId) : Option Bool := match P.underlying t with | some (.interface _) => some true | some _ => some false | none => none

/-- clear of a slice -/
def aClear (P : Program) (t : TypeId) (x : V) (h : AHeap) : Option AHeap :=
  match elemT P t, x with
  | some _, .snil => some h
  | some _, .z0 => some h
  | some _, .imm n _ => if n = 0 then some h else none
  | some e, .sl i o len _ =>
    match zeroC P e, h.get i with
    | some zs, .cells c e2 ex =>
      if len = 0 then some h
      else if zs.all (·.one) = true ∧ o + (made zs len).length ≤ c.length then some (h.set i (.cells (lay c o (made zs len)) e2 ex)) else none
    | _, _ => none
  | _, _ => none

theorem made_all {α : Type} (p : α → Bool) (z : List α) (n : Nat) (h : z.all p = true) : (made z n).all p = true := by
  induction n with
  | zero => rfl
  | succ n ih => rw [made_succ, List.all_append, ih, h]; rfl

theorem aClear_sound {P : Program} {t ty : TypeId} {x : V} {x' : Value} {h h' : AHeap} (hs : aClear P t x h = some h') {ρ : Ren} {B : Nat} {w0 w : World} (R : WRel ρ B w0 h w) (hx : VRel ρ x x') :
    ∃ w', (Builtin.clear_ #[t] ty #[x']).run P w = .ok (.tuple #[]) w' ∧ WRel ρ B w0 h' w' := by
  unfold aClear at hs
  have hE : ∀ e, elemT P t = some e → P.underlying t = some (.slice e) := fun e he => by
    unfold elemT at he
    split at he
    · rename_i hu; rw [hu]; simpa using he
    · cases he
  split at hs
  · rename_i e he
    obtain rfl : h = h' := by simpa using hs
    cases hx
    exact ⟨w, by simp [Builtin.clear_, run_underlying (hE _ he)], R⟩
  · rename_i e he
    obtain rfl : h = h' := by simpa using hs
    cases hx with
    | z0 a ha => cases a <;> exact ⟨w, by simp [Builtin.clear_, run_underlying (hE _ he)], R⟩
  · rename_i e n cs he
    split at hs
    case isFalse => cases hs
    rename_i h0
    subst h0
    obtain rfl : h = h' := by simpa using hs
    rcases hx.imm_inv with ⟨_, rfl, a, ca, ha, rfl⟩ | ⟨b, o, cap, arr, hb, hn, ho, hx2, rfl⟩
    · cases a with
      | none =>
        obtain rfl := ha rfl
        exact ⟨w, by simp [Builtin.clear_, run_underlying (hE _ he)], R⟩
      | some a => exact ⟨w, by simp [Builtin.clear_, run_underlying (hE _ he)], R⟩
    · exact ⟨w, by simp [Builtin.clear_, run_underlying (hE _ he)], R⟩
  · rename_i e i o len cap he
    split at hs
    case h_2 => cases hs
    rename_i zs c e2 ex hz hg
    obtain ⟨b, cp, hi, hl, rfl⟩ := hx.sl_inv
    split at hs
    · rename_i h0
      subst h0
      obtain rfl : h = h' := by simpa using hs
      exact ⟨w, by simp [Builtin.clear_, run_underlying (hE _ he)], R⟩
    · rename_i h0
      split at hs
      case isFalse => cases hs
      rename_i hc
      obtain rfl : _ = h' := by simpa using hs
      obtain ⟨z, hz0, hrel⟩ := zeroC_rel hz
      obtain ⟨w', hst, R'⟩ := write_sound (P := P) hg R hi o ((hrel ρ).made len) (made_all _ _ _ hc.1) hc.2
      refine ⟨w', ?_, R'⟩
      obtain ⟨m, rfl⟩ : ∃ m, len = m + 1 := ⟨len - 1, by omega⟩
      have hmk : (Builtin.zeroCells z.cells (m + 1)).toList = made z.cells.toList (m + 1) := made_eq z.cells (m + 1)
      simp [Builtin.clear_, run_underlying (hE _ he), zero_run hz0, hmk, hst]
  · cases hs

def aCap (P : Program) (t : TypeId) (x : V) : Option V :=
  match P.underlying t, x with
  | some (.slice _), .sl _ _ _ cap => if cap < unk then some (.int .i64 cap) else none
  | some (.slice _), .snil => some (.int .i64 0)
  | some (.slice _), .z0 => some (.int .i64 0)
  | _, _ => none
theorem aCap_sound {P : Program} {t ty : TypeId} {x v : V} {x' : Value} {h : AHeap} (hs : aCap P t x = some v) {ρ : Ren} {B : Nat} {w0 w : World} (R : WRel ρ B w0 h w) (hx : VRel ρ x x') :
    Keeps P (Builtin.cap_ #[t] ty #[x']) ρ w v := by
  unfold aCap at hs
  split at hs
  · rename_i e i o len cap hu
    split at hs
    case isFalse => cases hs
    rename_i hc
    obtain rfl := Option.some.inj hs
    obtain ⟨b, cp, hi, hl, rfl⟩ := hx.sl_inv
    have hcap : capOf cp cap = cap := by simp [capOf, hc]
    exact .mk (by simp [Builtin.cap_, run_underlying hu, hcap]; rfl) (.int _ _)
  · rename_i e hu
    obtain rfl := Option.some.inj hs
    cases hx
    exact .mk (by simp [Builtin.cap_, run_underlying hu]; rfl) (.int _ _)
  · rename_i e hu
    obtain rfl := Option.some.inj hs
    cases hx
    exact .mk (by simp [Builtin.cap_, run_underlying hu]; rfl) (.int _ _)
  · cases hs

def aBuiltin (P : Program) (b : Builtin) (types : List TypeId) (ty : TypeId) (consts : Array Bool) (args : List V) (h : AHeap) : Option (V × AHeap) :=
  match b, types, args with
  | .len, [t], [x] => match aLen P t x h with
    | some v => some (v, h)
    | none => none
  | .append, [t, tx], [s, x] => aAppend P t tx s x h
  | .copy, [t, _], [d, s] => aCopy P t d s h
  | .delete, [t, _], [m, k] => (aDelete P t m k h).map fun h' => (.tuple [], h')
  | .clear, [t], [x] => (aClear P t x h).map fun h' => (.tuple [], h')
  | .cap, [t], [x] => match aCap P t x with
    | some v => some (v, h)
    | none => none
  | _, _, _ =>
    match flatL args with
    | some as => match pureRun P (builtin b types.toArray ty consts as.toArray) with
      | some (.value v) => some (absF v, h)
      | _ => none
    | none => none

theorem two_args {ρ : Ren} {x y : V} {args' : Array Value} (ha : LRel ρ [x, y] args'.toList) : ∃ x' y', args' = #[x', y'] ∧ VRel ρ x x' ∧ VRel ρ y y' := by
  obtain ⟨s', t', he, hx1, ht'⟩ := ha.uncons
  obtain ⟨x', t2', he2, hx2, ht2'⟩ := ht'.uncons
  rw [ht2'.eq_nil] at he2
  exact ⟨s', x', by apply Array.ext'; rw [he, he2], hx1, hx2⟩
theorem one_arg {ρ : Ren} {x : V} {args' : Array Value} (ha : LRel ρ [x] args'.toList) : ∃ x', args' = #[x'] ∧ VRel ρ x x' := by
  obtain ⟨x', t', he, hx, ht'⟩ := ha.uncons
  rw [ht'.eq_nil] at he
  exact ⟨x', by apply Array.ext'; simpa using he, hx⟩
/-- The library's entry 'overlaps'. -/
def ovOk (P : Program) (fid : FuncId) : Prop := ∃ fn, P.funcs[fid]? = some fn ∧ (fn.name == "runtime.NumGoroutine") = false ∧ fn.body.isNone = true ∧ Extern.findNext fn = none ∧ Extern.find fn = some (Extern.SlicesOverlaps.overlaps fn.params fn.resultTypes) ∧
  ∃ t e sz u, fn.params = #[t, t] ∧ fn.resultTypes = #[u] ∧ P.underlying t = some (.slice e) ∧ sizeT P e = some sz
def aOv (h : AHeap) : List V → Option V
  | [.sl i _ _ _, .sl j _ _ _] => match h.get i, h.get j with
    | .cells _ _ _, .cells (_ :: _) _ _ => if i ≠ j then some (.bool false) else none
    | _, _ => none
  | _ => none
theorem aOv_sound {P : Program} {fid : FuncId} {args : List V} {args' : Array Value} {v : V} {h : AHeap} (ho : ovOk P fid) (hs : aOv h args = some v) {ρ : Ren} {B : Nat} {w0 w : World} (R : WRel ρ B w0 h w) (ha : LRel ρ args args'.toList) :
    ∃ v', (callFunc fid args').run P w = .ok (.value v') w ∧ VRel ρ v v' := by
  obtain ⟨fn, h1, h2, h3, h4, h5, t, e, sz, u, hp, hr, hu, hz⟩ := ho
  unfold aOv at hs
  split at hs
  case h_2 => cases hs
  rename_i i o n c j p m d
  split at hs
  case h_2 => cases hs
  rename_i ca ea xa cb0 cb eb xb ga gb
  split at hs
  case isFalse => cases hs
  rename_i hij
  obtain rfl := Option.some.inj hs
  obtain ⟨a', b', rfl, ra, rb⟩ := two_args ha
  obtain ⟨ba, cpa, hia, hla, rfl⟩ := ra.sl_inv
  obtain ⟨bb, cpb, hib, hlb, rfl⟩ := rb.sl_inv
  have oa := R.heap.obj i
  rw [ga] at oa
  obtain ⟨b1, cp1, arr1, e1, _, _, w1, _⟩ := oa
  rw [hia] at e1
  cases e1
  have ob := R.heap.obj j
  rw [gb] at ob
  obtain ⟨b2, cp2, arr2, e2, _, _, w2, l2, _⟩ := ob
  rw [hib] at e2
  cases e2
  have hne : ba ≠ bb := fun hh => hij (R.heap.inj i j ba cpa cpb (by rw [ga]; simp) (by rw [gb]; simp) hia (by rw [hh]; exact hib))
  refine ⟨.bool false, ?_, .bool false⟩
  rw [run_callFunc_extern h1 h2 h3 h4 h5, hp, hr]
  rw [Lib.run_overlaps_apart w t u e hu sz (fun w => by
      unfold sizeT at hz
      cases hq : P.info? e with
      | none => simp [hq] at hz
      | some ti => simp [hq] at hz; simp [sizeOf, typeInfo, hq, hz]) ⟨ba, o, none⟩ ⟨bb, p, none⟩ n _ m _ hne ea eb arr1.size arr2.size (by simp [World.shape?, w1]) (by simp [World.shape?, w2]) (by simp at l2; omega) (by simp [World.frozen?, w1]) (by simp [World.frozen?, w1])]
  rfl

/-! ### sync/atomic's integers of 64 bits -/
def ldOk (P : Program) (fid : FuncId) : Prop := ∃ fn, P.funcs[fid]? = some fn ∧ (fn.name == "runtime.NumGoroutine") = false ∧ fn.body.isNone = true ∧ Extern.findNext fn = none ∧ Extern.find fn = some (Extern.Atomic.loadT (.int .i64)) ∧ ∃ a, fn.params = #[a]
def adOk (P : Program) (fid : FuncId) : Prop := ∃ fn, P.funcs[fid]? = some fn ∧ (fn.name == "runtime.NumGoroutine") = false ∧ fn.body.isNone = true ∧ Extern.findNext fn = none ∧ Extern.find fn = some (Extern.Atomic.update (Op.intArith .add) .i64 true) ∧ ∃ a b, fn.params = #[a, b] ∧ a ≠ b
def aLd (h : AHeap) : List V → Option V
  | [.ptr i o] => match h.get i with
    | .cells c _ _ => match c[o]? with
      | some (.int .i64 x) => some (.int .i64 x)
      | _ => none
    | _ => none
  | _ => none
def aAd (h : AHeap) : List V → Option (V × AHeap)
  | [.ptr i o, .int .i64 y] => match h.get i with
    | .cells c e ex => match c[o]? with
      | some (.int .i64 x) => some (.int .i64 (IntKind.i64.wrap (x + y)), h.set i (.cells (lay c o [.int .i64 (IntKind.i64.wrap (x + y))]) e ex))
      | _ => none
    | _ => none
  | _ => none
theorem cell_of {ρ : Ren} {B : Nat} {h : AHeap} {w : World} (H : HRel ρ B h w) {i o : Nat} {c : List V} {e : TypeId} {ex : Option Nat} (hg : h.get i = .cells c e ex) {k : IntKind} {x : Int} (hc : c[o]? = some (.int k x)) {b cp : Nat} (hi : ρ.ren i = some (b, cp)) :
    w.cell? ⟨b, o, none⟩ = some (.int k x) ∧ w.frozen? ⟨b, o, none⟩ = false := by
  have ho := H.obj i
  rw [hg] at ho
  obtain ⟨b2, cp2, arr, hr, hf, hB, hw, hcl, hl, hx⟩ := ho
  rw [hr] at hi; simp at hi
  obtain ⟨rfl, rfl⟩ := hi
  have hlt : o < c.length := (List.getElem?_eq_some_iff.1 hc).1
  have h1 : (arr.toList.take c.length)[o]? = some arr[o] := by
    rw [List.getElem?_take, if_pos hlt]
    simp [Array.getElem?_eq_getElem (show o < arr.size by omega)]
  have h2 := hl.2 o _ _ hc h1
  generalize hv : arr[o] = v at h2
  cases h2
  have h3 : arr[o]? = some (.int k x) := by rw [Array.getElem?_eq_getElem (show o < arr.size by omega), hv]
  exact ⟨by simp [World.cell?, hw, h3], by simp [World.frozen?, hw]⟩
theorem aLd_sound {P : Program} {fid : FuncId} {args : List V} {args' : Array Value} {v : V} {h : AHeap} (ho : ldOk P fid) (hs : aLd h args = some v) {ρ : Ren} {B : Nat} {w0 w : World} (R : WRel ρ B w0 h w) (ha : LRel ρ args args'.toList) :
    ∃ v', (callFunc fid args').run P w = .ok (.value v') w ∧ VRel ρ v v' := by
  obtain ⟨fn, h1, h2, h3, h4, h5, _⟩ := ho
  unfold aLd at hs
  split at hs
  case h_2 => cases hs
  rename_i i o
  split at hs
  case h_2 => cases hs
  rename_i c e ex hg
  split at hs
  case h_2 => cases hs
  rename_i x hc
  obtain rfl := Option.some.inj hs
  obtain ⟨x', rfl, hx⟩ := one_arg ha
  cases hx with
  | ptr hi o =>
  rename_i b cp
  obtain ⟨c1, _⟩ := cell_of R.heap hg hc hi
  exact ⟨_, run_call_load h1 h2 h3 h4 .i64 h5 c1, .int _ _⟩
theorem aAd_sound {P : Program} {fid : FuncId} {args : List V} {args' : Array Value} {v : V} {h h' : AHeap} (ho : adOk P fid) (hs : aAd h args = some (v, h')) {ρ : Ren} {B : Nat} {w0 w : World} (R : WRel ρ B w0 h w) (ha : LRel ρ args args'.toList) :
    ∃ v' w', (callFunc fid args').run P w = .ok (.value v') w' ∧ VRel ρ v v' ∧ WRel ρ B w0 h' w' := by
  obtain ⟨fn, h1, h2, h3, h4, h5, _⟩ := ho
  unfold aAd at hs
  split at hs
  case h_2 => cases hs
  rename_i i o y
  split at hs
  case h_2 => cases hs
  rename_i c e ex hg
  split at hs
  case h_2 => cases hs
  rename_i x hc
  simp only [Option.some.injEq, Prod.mk.injEq] at hs
  obtain ⟨rfl, rfl⟩ := hs
  obtain ⟨a', b', rfl, ra, rb⟩ := two_args ha
  cases rb
  cases ra with
  | ptr hi o =>
  rename_i b cp
  obtain ⟨c1, c2⟩ := cell_of R.heap hg hc hi
  have hlt : o < c.length := (List.getElem?_eq_some_iff.1 hc).1
  have hv : LRel ρ [.int .i64 (IntKind.i64.wrap (x + y))] [.int .i64 (IntKind.i64.wrap (x + y))] := .cons (.int _ _) (.nil ρ)
  obtain ⟨w', hrun, R'⟩ := write_sound (P := P) hg R hi o hv rfl (show o + 1 ≤ c.length from hlt)
  have hst : (storeCells ⟨b, o, none⟩ [.int .i64 (IntKind.i64.wrap (x + y))]).run P w = .ok () (w.setCell ⟨b, o, none⟩ (.int .i64 (IntKind.i64.wrap (x + y)))) := by
    have h6 : (store ⟨b, o, none⟩ (.int .i64 (IntKind.i64.wrap (x + y)))).run P w = .ok () (w.setCell ⟨b, o, none⟩ (.int .i64 (IntKind.i64.wrap (x + y)))) := by
      rw [run_store P w ⟨b, o, none⟩ (.int .i64 (IntKind.i64.wrap (x + y))) _ (by rfl), c1]
      simp [c2]
    simp [storeCells, Addr.add, h6]
  rw [hst] at hrun
  injection hrun with _ hw
  subst hw
  exact ⟨_, _, run_call_add h1 h2 h3 h4 .i64 h5 c1 c2 (by simp [Op.intArith]), .int _ _, R'⟩
open Classical in
/-- The library's entries that the theory knows. -/
noncomputable def aEx (P : Program) (fid : FuncId) (args : List V) (h : AHeap) : Option (V × AHeap) :=
  if ovOk P fid then (match aOv h args with | some v => some (v, h) | none => none)
  else if ldOk P fid then (match aLd h args with | some v => some (v, h) | none => none)
  else if adOk P fid then aAd h args else none
theorem aEx_ov {P : Program} {fid : FuncId} {args : List V} {h : AHeap} {v : V} (ho : ovOk P fid) (ha : aOv h args = some v) : aEx P fid args h = some (v, h) := by
  unfold aEx; rw [if_pos ho, ha]
theorem ld_ov {P : Program} {fid : FuncId} (ho : ldOk P fid) : ¬ ovOk P fid := by
  rintro ⟨fn, h1, _, _, _, _, t, _, _, _, hp, _⟩
  obtain ⟨fn2, g1, _, _, _, _, a, gp⟩ := ho
  rw [h1] at g1
  cases g1
  rw [hp] at gp
  simp at gp
theorem ad_ov {P : Program} {fid : FuncId} (ho : adOk P fid) : ¬ ovOk P fid := by
  rintro ⟨fn, h1, _, _, _, _, t, _, _, _, hp, _⟩
  obtain ⟨fn2, g1, _, _, _, _, a, b, gp, hne⟩ := ho
  rw [h1] at g1
  cases g1
  rw [hp] at gp
  simp at gp
  exact hne (gp.1.symm.trans gp.2)
theorem ad_ld {P : Program} {fid : FuncId} (ho : adOk P fid) : ¬ ldOk P fid := by
  rintro ⟨fn, h1, _, _, _, _, t, hp⟩
  obtain ⟨fn2, g1, _, _, _, _, a, b, gp, hne⟩ := ho
  rw [h1] at g1
  cases g1
  rw [hp] at gp
  simp at gp
theorem aEx_ld {P : Program} {fid : FuncId} {args : List V} {h : AHeap} {v : V} (ho : ldOk P fid) (ha : aLd h args = some v) : aEx P fid args h = some (v, h) := by
  unfold aEx; rw [if_neg (ld_ov ho), if_pos ho, ha]
theorem aEx_ad {P : Program} {fid : FuncId} {args : List V} {h h' : AHeap} {v : V} (ho : adOk P fid) (ha : aAd h args = some (v, h')) : aEx P fid args h = some (v, h') := by
  unfold aEx; rw [if_neg (ad_ov ho), if_neg (ad_ld ho), if_pos ho, ha]
theorem aEx_sound {P : Program} {fid : FuncId} {args : List V} {args' : Array Value} {v : V} {h h' : AHeap} (hs : aEx P fid args h = some (v, h')) {ρ : Ren} {B : Nat} {w0 w : World} (R : WRel ρ B w0 h w) (ha : LRel ρ args args'.toList) :
    ∃ v' w', (callFunc fid args').run P w = .ok (.value v') w' ∧ VRel ρ v v' ∧ WRel ρ B w0 h' w' := by
  unfold aEx at hs
  split at hs
  · rename_i ho
    split at hs
    case h_2 => cases hs
    rename_i u hu
    simp only [Option.some.injEq, Prod.mk.injEq] at hs
    obtain ⟨rfl, rfl⟩ := hs
    obtain ⟨v', e1, e2⟩ := aOv_sound ho hu R ha
    exact ⟨v', w, e1, e2, R⟩
  split at hs
  · rename_i _ ho
    split at hs
    case h_2 => cases hs
    rename_i u hu
    simp only [Option.some.injEq, Prod.mk.injEq] at hs
    obtain ⟨rfl, rfl⟩ := hs
    obtain ⟨v', e1, e2⟩ := aLd_sound ho hu R ha
    exact ⟨v', w, e1, e2, R⟩
  split at hs
  · rename_i _ _ ho
    exact aAd_sound ho hs R ha
  · cases hs

def constsOf (a : Array Operand) : Array Bool := a.map fun | .const _ => true | _ => false
/-- A method that is called by its name at a value of type t, as it stands, is function f. -/
def methOk (P : Program) (t : TypeId) (name : String) (f : FuncId) : Prop := (∀ v w, (method (P.types.size + Made.depth) t v name).run P w = .ok (f, v) w) ∧ callable P f = true
theorem methOk.uniq {P : Program} {t : TypeId} {name : String} {f g : FuncId} (hf : methOk P t name f) (hg : methOk P t name g) : f = g := by
  have := (hf.1 .nilIface default).symm.trans (hg.1 .nilIface default)
  injection this with h1
  injection h1
open Classical in
noncomputable def aInv (P : Program) (x : V) (name : String) (args : List V) : Option Step :=
  match x with
  | .iface t v => if h : ∃ f, methOk P t name f then some (.call (Classical.choose h) (v :: args)) else none
  | _ => none
theorem aInv_cases {P : Program} {x : V} {name : String} {args : List V} {s : Step} (hs : aInv P x name args = some s) : ∃ t v f, x = .iface t v ∧ methOk P t name f ∧ s = .call f (v :: args) := by
  unfold aInv at hs
  split at hs
  case h_2 => cases hs
  rename_i t v
  split at hs
  case isFalse => cases hs
  rename_i hh
  simp only [Option.some.injEq] at hs
  exact ⟨t, v, _, rfl, Classical.choose_spec hh, hs.symm⟩
theorem aInv_of {P : Program} {t : TypeId} {v : V} {name : String} {args : List V} {f : FuncId} (hm : methOk P t name f) : aInv P (.iface t v) name args = some (.call f (v :: args)) := by
  have hh : ∃ f, methOk P t name f := ⟨f, hm⟩
  unfold aInv
  simp only [dif_pos hh]
  rw [(Classical.choose_spec hh).uniq hm]
open Classical in
noncomputable def aCall (P : Program) (c : Call) (ty : TypeId) (ev : Operand → V) (h : AHeap) : Option Step :=
  match c.callee with
  | .builtin .panic => match c.args.toList.map ev with
    | [.iface _ _] => some .panic
    | _ => none
  | .builtin b =>
    match aBuiltin P b c.argTypes.toList ty (constsOf c.args) (c.args.toList.map ev) h with
    | some (v, h') => some (.val v h')
    | none => none
  | .value f =>
    match ev f with
    | .func (.func fid) first captured => if callable P fid then some (.call fid (first ++ c.args.toList.map ev ++ captured)) else (match aEx P fid (first ++ c.args.toList.map ev ++ captured) h with | some (v, h') => some (.val v h') | none => none)
    | .func (.yield l) [] [] => some (.round l (c.args.toList.map ev))
    | _ => none
  | .invoke r name => aInv P (ev r) name (c.args.toList.map ev)

def justV (o : Option V) (h : AHeap) : Option Step := match o with | some v => some (.val v h) | none => none
def andH (o : Option (V × AHeap)) : Option Step := match o with | some (v, h) => some (.val v h) | none => none
def justH (o : Option AHeap) : Option Step := match o with | some h => some (.val .top h) | none => none

/-- A slice of bytes turned into its own type: from here on its block is read alone. -/
def aConvM (P : Program) (s d : TypeId) (x : V) (h : AHeap) : Option (V × AHeap) :=
  match P.underlying s, x with
  | some (.slice e), .sl i o n _ =>
    if s = d ∧ isU8 P e = true then
      match h.get i with
      | .cells c _ _ => if o + n ≤ c.length then some (.imm n ((c.drop o).take n), h.set i .dead) else none
      | _ => none
    else none
  | _, _ => none
theorem aConvM_ne {P : Program} {s d : TypeId} {x v : V} {h h' : AHeap} (hs : aConvM P s d x h = some (v, h')) : h' ≠ h := by
  unfold aConvM at hs
  split at hs
  case h_2 => cases hs
  split at hs
  case isFalse => cases hs
  split at hs
  case h_2 => cases hs
  rename_i c e2 ex hg
  split at hs
  case isFalse => cases hs
  simp only [Option.some.injEq, Prod.mk.injEq] at hs
  intro e
  rename_i i _ _ _ _ _ _ _
  have h1 : (h.set i .dead).get i = h.get i := by rw [hs.2, e]
  rw [hg] at h1
  simp [AHeap.set] at h1
theorem WRel.mark {ρ : Ren} {B : Nat} {w0 : World} {h : AHeap} {w : World} (R : WRel ρ B w0 h w) {b : Nat} {arr : Array Value} (hf : ρ.frz b = some arr) (hB : B ≤ b) (k : Nat) : WRel ρ B w0 h (w.freeze ⟨b, k, none⟩ 1) := by
  have hne : ∀ j, b ≠ j → (w.freeze ⟨b, k, none⟩ 1).heap[j]? = w.heap[j]? := fun j hj => by
    simp only [World.freeze, Nat.one_ne_zero, if_false, Array.getElem?_modify, if_neg hj]
  have heq : ∀ c e fz, w.heap[b]? = some (.cells c e fz) → ∃ fz', (w.freeze ⟨b, k, none⟩ 1).heap[b]? = some (.cells c e fz') := fun c e fz hq => by
    simp only [World.freeze, Nat.one_ne_zero, if_false, Array.getElem?_modify, if_true, hq, Option.map_some]
    exact ⟨_, rfl⟩
  have hsz : (w.freeze ⟨b, k, none⟩ 1).heap.size = w.heap.size := by
    simp only [World.freeze, Nat.one_ne_zero, if_false, Array.size_modify]
  refine ⟨⟨R.heap.dom, R.heap.inj, fun i => ?_, fun b' a' hb' => ?_, R.heap.glob, by rw [hsz]; exact R.heap.base⟩, R.below.trans ⟨?_, ?_, ?_, Nat.le_of_eq hsz.symm, fun j hj => hne j (by omega), ?_⟩⟩
  · by_cases hd : h.get i = .dead
    · rw [hd]; trivial
    · refine (R.heap.obj i).keep (Ren.le.refl ρ) fun b' c hr => ⟨hne b' ?_, fun h => h⟩
      obtain ⟨b2, cp, hr2, _, _, hfb, _⟩ := R.heap.live hd
      rw [hr] at hr2
      cases hr2
      intro e
      subst e
      rw [hf] at hfb; cases hfb
  · obtain ⟨e, fz, hq⟩ := R.heap.frz b' a' hb'
    by_cases hj : b = b'
    · subst hj
      obtain ⟨fz', h1⟩ := heq _ _ _ hq
      exact ⟨e, fz', h1⟩
    · exact ⟨e, fz, (hne b' hj).trans hq⟩
  all_goals simp only [World.freeze, Nat.one_ne_zero, if_false]
  exact Nat.le_refl _
theorem aConvM_sound {P : Program} {src dst : TypeId} {x v : V} {x' : Value} {h h' : AHeap} (hs : aConvM P src dst x h = some (v, h')) {ρ : Ren} {B : Nat} {w0 w : World} (R : WRel ρ B w0 h w) (hx : VRel ρ x x') :
    Yields P (convert src dst x') ρ B w0 w v h' := by
  unfold aConvM at hs
  split at hs
  case h_2 => cases hs
  rename_i e i o n cap hu
  split at hs
  case isFalse => cases hs
  rename_i hc
  split at hs
  case h_2 => cases hs
  rename_i c e2 ex hg
  split at hs
  case isFalse => cases hs
  rename_i hle
  simp only [Option.some.injEq, Prod.mk.injEq] at hs
  obtain ⟨rfl, rfl⟩ := hs
  obtain ⟨rfl, he⟩ := hc
  have he' := isU8_eq he
  obtain ⟨ρ', le, R', b, cp, arr, hr, hf, hl, hrel⟩ := R.freeze hg
  obtain ⟨b2, cp2, hi, hcap, rfl⟩ := hx.sl_inv
  rw [hr] at hi
  cases hi
  obtain ⟨_, _, _, _, _, _, hB⟩ := R.heap.live (i := i) (by rw [hg]; simp)
  rename_i b3 cp3 hr3 _ _ _
  rw [hr] at hr3
  cases hr3
  obtain ⟨e3, fz, hw⟩ := R'.heap.frz _ _ hf
  have hsh : w.shape? b = some (e3, arr.size) := by simp [World.shape?, hw]
  refine ⟨ρ', .slice (some ⟨b, o, none⟩) n (capOf cp cap), w.freeze ⟨b, arr.size, none⟩ 1, ?_, .imm o n _ hf hcap ?_ fun k u u' h1 h2 => ?_, R'.mark hf hB _, le⟩
  · simp [convert, run_underlying hu, run_underlying he', markStringish, hsh]
  · rw [List.length_take, List.length_drop]; omega
  · rw [List.getElem?_take] at h1
    split at h1
    case isFalse => cases h1
    rw [List.getElem?_drop] at h1
    refine (hrel.2 (o + k) u u' h1 ?_).mono le
    have hk : o + k < c.length := (List.getElem?_eq_some_iff.1 h1).1
    rw [List.getElem?_take, if_pos hk, Array.getElem?_toList]
    exact h2
/-- m[k] op= v : the entry of a key, made if there is none. -/
def aMapEntry (P : Program) (t : TypeId) (m k : V) (h : AHeap) : Option (V × AHeap) :=
  match mapT P t, m with
  | some (kt, et, d), .map i =>
    match h.get i with
    | .map es cl =>
      if keyOk P false kt k then
        match aFind P kt d k es with
        | some (some j) =>
          match es[j]?, (es[j]?).bind fun e => plainV e.2.1, plainV k with
          | some e, some a, some b => if Instr.sameBits 10000 a b = true then some (.tuple [e.2.2, .int .i64 (e.1 : Nat)], h.set i (.map (es.modify j fun e => (e.1, k, e.2.2)) cl)) else none
          | _, _, _ => none
        | some none =>
          match zeroT P et with
          | some z => some (.tuple [absV z, .int .i64 (cl : Nat)], h.set i (.map (es ++ [(cl, k, absV z)]) (cl + 1)))
          | none => none
        | none => none
      else none
    | _ => none
  | _, _ => none
def aEntryStore (m s v : V) (h : AHeap) : Option AHeap :=
  match m, s with
  | .map i, .int _ st =>
    match h.get i with
    | .map es cl =>
      match es.findIdx? (fun e => (e.1 : Int) == st) with
      | some j => some (h.set i (.map (es.modify j fun e => (e.1, e.2.1, v)) cl))
      | none => none
    | _ => none
  | _, _ => none
theorem MRel.find {ρ : Ren} {es : List (Nat × V × V)} {arr : Array MapEntry} (h : MRel ρ es arr) (st : Int) : arr.findIdx? (fun e => (e.born : Int) == st) = es.findIdx? (fun e => (e.1 : Int) == st) := by
  have hm : es.map (fun e => e.1) = arr.toList.map (fun e => e.born) := by
    apply List.ext_getElem
    · simp [h.1]
    · intro q h1 h2
      simp only [List.getElem_map, Array.getElem_toList]
      simp only [List.length_map] at h1
      exact (h.2 q _ _ (List.getElem?_eq_getElem h1) (Array.getElem?_eq_getElem (by rw [← h.1]; exact h1))).1
  have e1 : es.findIdx? (fun e => (e.1 : Int) == st) = (es.map (fun e => e.1)).findIdx? (fun n : Nat => (n : Int) == st) := by rw [List.findIdx?_map]; rfl
  have e2 : arr.toList.findIdx? (fun e => (e.born : Int) == st) = (arr.toList.map (fun e => e.born)).findIdx? (fun n : Nat => (n : Int) == st) := by rw [List.findIdx?_map]; rfl
  rw [e1, hm, ← e2]
  cases arr
  simp
theorem aMapEntry_sound {P : Program} {t : TypeId} {m k v : V} {m' k' : Value} {h h' : AHeap} (hs : aMapEntry P t m k h = some (v, h')) {ρ : Ren} {B : Nat} {w0 w : World} (R : WRel ρ B w0 h w) (hm : VRel ρ m m') (hk : VRel ρ k k') :
    Yields P (Instr.mapEntry t m' k') ρ B w0 w v h' := by
  unfold aMapEntry at hs
  split at hs
  case h_2 => cases hs
  rename_i kt et d i hT
  obtain ⟨hu, hku⟩ := mapT_eq hT
  split at hs
  case h_2 => cases hs
  rename_i es cl hg
  split at hs
  case isFalse => cases hs
  rename_i hko
  cases hm with
  | map hi =>
  have ho := R.heap.obj i
  rw [hg] at ho
  obtain ⟨b, cp, arr, hr, hfz, hB, hw, hmr⟩ := ho
  rw [hr] at hi
  simp at hi
  obtain ⟨rfl, rfl⟩ := hi
  have hlt : b < w.heap.size := (Array.getElem?_eq_some_iff.1 hw).1
  split at hs
  · rename_i j hf
    split at hs
    case h_2 => cases hs
    rename_i e0 a c he0 ha hc
    split at hs
    case isFalse => cases hs
    rename_i hsb
    simp only [Option.some.injEq, Prod.mk.injEq] at hs
    obtain ⟨rfl, rfl⟩ := hs
    obtain ⟨h1, h2⟩ := find_sound (P := P) (w := w) hku hk hmr hf
    have hj := h2 j rfl
    have hj' : j < es.length := by rw [hmr.1]; exact hj
    obtain ⟨hbo, hke, hve⟩ := hmr.2 j _ _ (List.getElem?_eq_getElem hj') (Array.getElem?_eq_getElem hj)
    rw [List.getElem?_eq_getElem hj'] at ha he0
    simp at ha he0
    subst he0
    have e1 := plainV_eq hke ha
    have e2 := plainV_eq hk hc
    have R' := R.setObj (o := .map (es.modify j fun e => (e.1, k, e.2.2)) cl) (ob := .map (arr.modify j fun e => { e with key := k' }) cl) hr (by rw [hg]; simp) hB hlt (by
      refine ⟨b, cp, arr.modify j (fun e => { e with key := k' }), hr, hfz, hB, by simp [hlt], by simp [hmr.1], fun q e e' hq hq' => ?_⟩
      rw [List.getElem?_modify] at hq
      rw [Array.getElem?_modify] at hq'
      by_cases hjq : j = q
      · subst hjq
        rw [List.getElem?_eq_getElem hj'] at hq
        rw [Array.getElem?_eq_getElem hj] at hq'
        simp at hq hq'
        subst hq; subst hq'
        obtain ⟨h3, _, h5⟩ := hmr.2 j _ _ (List.getElem?_eq_getElem hj') (Array.getElem?_eq_getElem hj)
        exact ⟨h3, hk, h5⟩
      · simp [hjq] at hq hq'
        exact hmr.2 q e e' hq hq')
    refine ⟨ρ, .tuple #[arr[j].val, goInt (arr[j].born : Int)], _, ?_, ?_, R', Ren.le.refl ρ⟩
    · simp only [Instr.mapEntry, Sem.run_bind, run_underlying hu, run_getObj_map hw, Result.andThen_ok]
      rw [keyOk_run hko hk w, Result.andThen_ok, h1]
      have hks : (Instr.keyThatStays a c).run P w = .ok c w := by unfold Instr.keyThatStays; rw [if_pos hsb]; rfl
      simp [Array.getElem?_eq_getElem hj, e1, e2, hks, run_setObj_map hw]
    · rw [hbo]
      exact ((LRel.cons hve (.cons (.int _ _) (.nil ρ))).arr).tuple
  · rename_i hf
    split at hs
    case h_2 => cases hs
    rename_i z hz
    simp only [Option.some.injEq, Prod.mk.injEq] at hs
    obtain ⟨rfl, rfl⟩ := hs
    obtain ⟨h1, h2⟩ := find_sound (P := P) (w := w) hku hk hmr hf
    have R' := R.setObj (o := .map (es ++ [(cl, k, absV z)]) (cl + 1)) (ob := .map (arr.push { key := k', val := z, born := cl }) (cl + 1)) hr (by rw [hg]; simp) hB hlt (by
      refine ⟨b, cp, arr.push { key := k', val := z, born := cl }, hr, hfz, hB, by simp [hlt], by simp [hmr.1], fun q e e' hq hq' => ?_⟩
      rw [List.getElem?_append] at hq
      rw [Array.getElem?_push] at hq'
      by_cases hqe : q < es.length
      · rw [if_pos hqe] at hq
        rw [if_neg (by rw [← hmr.1]; omega)] at hq'
        exact hmr.2 q e e' hq hq'
      · rw [if_neg hqe] at hq
        have hq0 : q = es.length := by
          have := (List.getElem?_eq_some_iff.1 hq).1
          simp at this; omega
        subst hq0
        rw [if_pos hmr.1] at hq'
        simp at hq hq'
        subst hq; subst hq'
        exact ⟨rfl, hk, absV_rel ρ z⟩)
    refine ⟨ρ, .tuple #[z, goInt (cl : Int)], _, ?_, ?_, R', Ren.le.refl ρ⟩
    · simp only [Instr.mapEntry, Sem.run_bind, run_underlying hu, run_getObj_map hw, Result.andThen_ok]
      rw [keyOk_run hko hk w, Result.andThen_ok, h1]
      simp [zero_run hz, run_setObj_map hw]
    · exact ((LRel.cons (absV_rel ρ z) (.cons (.int _ _) (.nil ρ))).arr).tuple
  · cases hs
theorem aEntryStore_sound {P : Program} {t : TypeId} {m s v : V} {m' s' v' : Value} {h h' : AHeap} (hs : aEntryStore m s v h = some h') {ρ : Ren} {B : Nat} {w0 w : World} (R : WRel ρ B w0 h w) (hm : VRel ρ m m') (hst : VRel ρ s s') (hv : VRel ρ v v') :
    ∃ w', (Instr.entryStore t m' s' v').run P w = .ok () w' ∧ WRel ρ B w0 h' w' := by
  unfold aEntryStore at hs
  split at hs
  case h_2 => cases hs
  rename_i i kk st
  split at hs
  case h_2 => cases hs
  rename_i es cl hg
  split at hs
  case h_2 => cases hs
  rename_i j hf
  obtain rfl : _ = h' := by simpa using hs
  cases hst
  cases hm with
  | map hi =>
  have ho := R.heap.obj i
  rw [hg] at ho
  obtain ⟨b, cp, arr, hr, hfz, hB, hw, hmr⟩ := ho
  rw [hr] at hi
  simp at hi
  obtain ⟨rfl, rfl⟩ := hi
  have hlt : b < w.heap.size := (Array.getElem?_eq_some_iff.1 hw).1
  have hfa := hmr.find st
  rw [hf] at hfa
  have hj' : j < es.length := by
    have := List.findIdx?_eq_some_iff_findIdx_eq.1 hf
    omega
  have hj : j < arr.size := by rw [← hmr.1]; exact hj'
  have R' := R.setObj (o := .map (es.modify j fun e => (e.1, e.2.1, v)) cl) (ob := .map (arr.modify j fun e => { e with val := v' }) cl) hr (by rw [hg]; simp) hB hlt (by
    refine ⟨b, cp, arr.modify j (fun e => { e with val := v' }), hr, hfz, hB, by simp [hlt], by simp [hmr.1], fun q e e' hq hq' => ?_⟩
    rw [List.getElem?_modify] at hq
    rw [Array.getElem?_modify] at hq'
    by_cases hjq : j = q
    · subst hjq
      rw [List.getElem?_eq_getElem hj'] at hq
      rw [Array.getElem?_eq_getElem hj] at hq'
      simp at hq hq'
      subst hq; subst hq'
      obtain ⟨h3, h4, _⟩ := hmr.2 j _ _ (List.getElem?_eq_getElem hj') (Array.getElem?_eq_getElem hj)
      exact ⟨h3, h4, hv⟩
    · simp [hjq] at hq hq'
      exact hmr.2 q e e' hq hq')
  refine ⟨_, ?_, R'⟩
  simp only [Instr.entryStore, Sem.run_bind, Sem.run_pure, run_getObj_map hw, Result.andThen_ok]
  simp [asInt, asIntOf, hfa, run_setObj_map hw]
noncomputable def opEval (P : Program) (o : Oper) (ev : Operand → V) (h : AHeap) : Option Step :=
  match o.op with
  | .move x => some (.val (ev x) h)
  | .assign x => some (.val (ev x) h)
  | .pick c a b => match ev c with
    | .bool t => some (.val (if t then ev a else ev b) h)
    | _ => none
  | .alloc e => andH (aAlloc P e h)
  | .box e x => andH (aBox e (ev x) h)
  | .build t ps => justV (aBuild P t (ps.toList.map fun p => (p.1, ev p.2))) h
  | .buildSlice t len ps => andH (aBuildSlice P t len (ps.toList.map fun p => (p.1, ev p.2)) h)
  | .load t a => justV (aLoad P t (ev a) h) h
  | .store t a x => justH (aStore P t (ev a) (ev x) h)
  | .nilCheck x => match ev x with
    | .ptr i o => some (.val (.ptr i o) h)
    | .at cs => some (.val (.at cs) h)
    | .func (.func fid) xs ys => some (.val (.func (.func fid) xs ys) h)
    | _ => none
  | .binOp op t x y _ => justV (aBin P op t x y (ev x) (ev y)) h
  | .unOp op _ x => justV (aUn P op (ev x)) h
  | .convert s d x => match aConv P s d (ev x) h with
    | some v => some (.val v h)
    | none => andH (aConvM P s d (ev x) h)
  | .makeInterface t x => match isIfaceT P t with
    | some false => some (.val (.iface t (ev x)) h)
    | _ => none
  | .makeFunc (.func g) first captured => some (.val (.func (.func g) (first.toList.map ev) (captured.toList.map ev)) h)
  | .makeMap t r => andH (aMakeMap P t (r.map ev) h)
  | .makeSlice t l c => andH (aMake P t (ev l) (ev c) h)
  | .slice t x lo hi mx => justV (aSlice P t (ev x) (lo.map ev) (hi.map ev) (mx.map ev)) h
  | .fieldAddr s x k => justV (aField P s (ev x) k) h
  | .field t x k => justV (aFieldOf P t (ev x) k) h
  | .indexAddr t x ix => justV (aIndexAddr P t (ev x) (ev ix)) h
  | .index t x ix => justV (aIndex P t (ev x) (ev ix)) h
  | .lookup t x ix ok => justV (aLookup P t (ev x) (ev ix) ok h) h
  | .mapUpdate t m k x => justH (aUpdate P t (ev m) (ev k) (ev x) h)
  | .insert t m k x => justH (aUpdate P t (ev m) (ev k) (ev x) h)
  | .mapEntry t m k => andH (aMapEntry P t (ev m) (ev k) h)
  | .entryStore _ m s x => justH (aEntryStore (ev m) (ev s) (ev x) h)
  | .range t x => andH (aRange P t (ev x) h)
  | .next it false => match aNext (ev it) h with
    | some l => some (.alts l)
    | none => none
  | .entry it => justV (aEntry (ev it) h) h
  | .typeAssert x _ asserted ok => justV (aAssert P (ev x) asserted ok) h
  | .extract t k => match ev t with
    | .tuple vs => justV vs[k]? h
    | _ => none
  | .call c => aCall P c o.type ev h
  | .panic x => match ev x with
    | .iface _ _ => some .panic
    | _ => none
  | _ => none

theorem args_rel {ρ : Ren} {ev : Operand → V} {ev' : Operand → Value} (hev : ∀ x, VRel ρ (ev x) (ev' x)) : ∀ l : List Operand, LRel ρ (l.map ev) (l.map ev')
  | [] => .nil ρ
  | x :: l => .cons (hev x) (args_rel hev l)
theorem args_relA {ρ : Ren} {ev : Operand → V} {ev' : Operand → Value} (hev : ∀ x, VRel ρ (ev x) (ev' x)) (a : Array Operand) : ARel ρ (a.toList.map ev) (a.map ev') := by
  have := args_rel hev a.toList
  exact LRel.arr' (by simpa using this)
theorem parts_rel {ρ : Ren} {ev : Operand → V} {ev' : Operand → Value} (hev : ∀ x, VRel ρ (ev x) (ev' x)) : ∀ l : List (Nat × Operand),
    PRel ρ (l.map fun p => (p.1, ev p.2)) (l.map fun p => (p.1, ev' p.2))
  | [] => trivial
  | x :: l => ⟨rfl, hev _, parts_rel hev l⟩

/-- What an operation that goes on yields. -/
def YieldsN (P : Program) (s : Sem Next) (ρ : Ren) (B : Nat) (w0 w : World) (v : V) (h' : AHeap) : Prop :=
  ∃ ρ' v' w', (s.run P w = .ok (.value v') w' ∨ (s.run P w = .ok .skip w' ∧ v' = undef)) ∧ VRel ρ' v v' ∧ WRel ρ' B w0 h' w' ∧ ρ.le ρ'
theorem Yields.next {P : Program} {s : Sem Value} {ρ : Ren} {B : Nat} {w0 w : World} {v : V} {h' : AHeap} (y : Yields P s ρ B w0 w v h') :
    YieldsN P (do pure (.value (← s))) ρ B w0 w v h' := by
  obtain ⟨ρ', v', w', hr, hv, R, hle⟩ := y
  exact ⟨ρ', v', w', .inl (by simp [hr]), hv, R, hle⟩
theorem YieldsN.same {P : Program} {s : Sem Next} {ρ : Ren} {B : Nat} {w0 w : World} {v : V} {v' : Value} {h : AHeap} (R : WRel ρ B w0 h w) (hr : s.run P w = .ok (.value v') w) (hv : VRel ρ v v') :
    YieldsN P s ρ B w0 w v h := ⟨ρ, v', w, .inl hr, hv, R, Ren.le.refl ρ⟩
theorem YieldsN.skip {P : Program} {s : Sem Unit} {ρ : Ren} {B : Nat} {w0 w : World} {h' : AHeap} (y : ∃ w', s.run P w = .ok () w' ∧ WRel ρ B w0 h' w') : YieldsN P (do s; pure .skip) ρ B w0 w .top h' := by
  obtain ⟨w', hr, R⟩ := y
  exact ⟨ρ, undef, w', .inr ⟨by simp [hr], rfl⟩, .top _, R, Ren.le.refl ρ⟩

theorem tuple0_rel (ρ : Ren) : VRel ρ (.tuple []) (.tuple #[]) := .tuple rfl (by simp)

theorem aBuiltin_sound {P : Program} {b : Builtin} {types : Array TypeId} {ty : TypeId} {consts : Array Bool} {args : List V} {args' : Array Value} {h h' : AHeap} {v : V}
    (hs : aBuiltin P b types.toList ty consts args h = some (v, h')) {ρ : Ren} {B : Nat} {w0 w : World} (R : WRel ρ B w0 h w) (ha : LRel ρ args args'.toList) :
    YieldsN P (builtin b types ty consts args') ρ B w0 w v h' := by
  unfold aBuiltin at hs
  split at hs
  · rename_i t x ht
    obtain ⟨x', rfl, hx⟩ := one_arg ha
    obtain rfl : types = #[t] := by apply Array.ext'; simpa using ht
    split at hs
    case h_2 => cases hs
    rename_i u hu
    simp at hs
    obtain ⟨rfl, rfl⟩ := hs
    exact ((aLen_sound hu R hx).yields R).next
  · rename_i t tx s x ht
    obtain ⟨s', x', rfl, hx1, hx2⟩ := two_args ha
    obtain rfl : types = #[t, tx] := by apply Array.ext'; simpa using ht
    exact (aAppend_sound hs R hx1 hx2).next
  · rename_i t tx s x ht
    obtain ⟨s', x', rfl, hx1, hx2⟩ := two_args ha
    obtain rfl : types = #[t, tx] := by apply Array.ext'; simpa using ht
    exact (aCopy_sound hs R hx1 hx2).next
  · rename_i t tx s x ht
    obtain ⟨s', x', rfl, hx1, hx2⟩ := two_args ha
    obtain rfl : types = #[t, tx] := by apply Array.ext'; simpa using ht
    cases hd : aDelete P t s x h with
    | none => simp [hd] at hs
    | some h2 =>
      simp [hd] at hs
      obtain ⟨rfl, rfl⟩ := hs
      obtain ⟨w', hr, R'⟩ := aDelete_sound (P := P) (ty := ty) (ts := #[t, tx]) rfl hd R hx1 hx2
      exact Yields.next (s := Builtin.delete_ #[t, tx] ty #[s', x']) ⟨ρ, _, w', hr, tuple0_rel ρ, R', Ren.le.refl ρ⟩
  · rename_i t x ht
    obtain ⟨x', rfl, hx⟩ := one_arg ha
    obtain rfl : types = #[t] := by apply Array.ext'; simpa using ht
    cases hd : aClear P t x h with
    | none => simp [hd] at hs
    | some h2 =>
      simp [hd] at hs
      obtain ⟨rfl, rfl⟩ := hs
      obtain ⟨w', hr, R'⟩ := aClear_sound (P := P) (ty := ty) hd R hx
      exact Yields.next (s := Builtin.clear_ #[t] ty #[x']) ⟨ρ, _, w', hr, tuple0_rel ρ, R', Ren.le.refl ρ⟩
  · rename_i t x ht
    obtain ⟨x', rfl, hx⟩ := one_arg ha
    obtain rfl : types = #[t] := by apply Array.ext'; simpa using ht
    split at hs
    case h_2 => cases hs
    rename_i u hu
    simp at hs
    obtain ⟨rfl, rfl⟩ := hs
    exact ((aCap_sound hu R hx).yields R).next
  · split at hs
    case h_2 => cases hs
    rename_i as has
    have e1 := flatL_eq ha has
    split at hs
    case h_2 => cases hs
    rename_i u hu
    simp at hs
    obtain ⟨rfl, rfl⟩ := hs
    refine .same R ?_ (absF_rel ρ u)
    have := pureRun_run hu w
    rw [← e1] at this
    simpa using this

theorem andH_val {o : Option (V × AHeap)} {v : V} {h : AHeap} (hs : andH o = some (.val v h)) : o = some (v, h) := by
  unfold andH at hs
  split at hs
  · simp at hs; obtain ⟨rfl, rfl⟩ := hs; rfl
  · cases hs
theorem justV_val {o : Option V} {v : V} {h h' : AHeap} (hs : justV o h = some (.val v h')) : o = some v ∧ h' = h := by
  unfold justV at hs
  split at hs
  · simp at hs; obtain ⟨rfl, rfl⟩ := hs; exact ⟨rfl, rfl⟩
  · cases hs
theorem justH_val {o : Option AHeap} {v : V} {h' : AHeap} (hs : justH o = some (.val v h')) : o = some h' ∧ v = .top := by
  unfold justH at hs
  split at hs
  · simp at hs; obtain ⟨rfl, rfl⟩ := hs; exact ⟨rfl, rfl⟩
  · cases hs
theorem opt_rel {ρ : Ren} {ev : Operand → V} {ev' : Operand → Value} (hev : ∀ x, VRel ρ (ev x) (ev' x)) (o : Option Operand) : Option.Rel (VRel ρ) (o.map ev) (o.map ev') := by
  cases o with
  | none => exact .none
  | some x => exact .some (hev x)

theorem opEval_val {P : Program} {o : Oper} {ev : Operand → V} {ev' : Operand → Value} {h h' : AHeap} {v : V} (hs : opEval P o ev h = some (.val v h')) {ρ : Ren} {B : Nat} {w0 w : World}
    (R : WRel ρ B w0 h w) (hev : ∀ x, VRel ρ (ev x) (ev' x)) : YieldsN P (execOp ev' o) ρ B w0 w v h' := by
  unfold opEval at hs
  unfold execOp
  split at hs
  · rename_i x hop
    simp only [hop]
    simp at hs; obtain ⟨rfl, rfl⟩ := hs
    exact .same R (Sem.run_pure ..) (hev x)
  · rename_i x hop
    simp only [hop]
    simp at hs; obtain ⟨rfl, rfl⟩ := hs
    exact .same R (Sem.run_pure ..) (hev x)
  · rename_i c a b hop
    simp only [hop]
    split at hs
    case h_2 => cases hs
    rename_i t ht
    simp at hs; obtain ⟨rfl, rfl⟩ := hs
    have hc := hev c
    rw [ht] at hc
    have hcc : ev' c = .bool t := flatV_eq hc rfl
    refine .same R (v' := if t then ev' a else ev' b) ?_ ?_
    · simp [hcc, asBool]
    · cases t
      · exact hev b
      · exact hev a
  · rename_i e hop
    simp only [hop]
    exact (aAlloc_sound (andH_val hs) R).next
  · rename_i e x hop
    simp only [hop]
    exact (aBox_sound (andH_val hs) R (hev x)).next
  · rename_i t ps hop
    simp only [hop]
    obtain ⟨hv, he⟩ := justV_val hs
    subst he
    refine ((aBuild_sound hv R ?_).yields R).next
    have := parts_rel hev ps.toList
    simpa using this
  · rename_i t len ps hop
    simp only [hop]
    refine (aBuildSlice_sound (andH_val hs) R ?_).next
    have := parts_rel hev ps.toList
    simpa using this
  · rename_i t a hop
    simp only [hop]
    obtain ⟨hv, he⟩ := justV_val hs
    subst he
    exact ((aLoad_sound hv R (hev a)).2.yields R).next
  · rename_i t a x hop
    simp only [hop]
    obtain ⟨hv, he⟩ := justH_val hs
    subst he
    exact .skip (aStore_sound hv R (hev a) (hev x))
  · rename_i x hop
    simp only [hop]
    have hx := hev x
    split at hs
    · rename_i i o ha
      simp at hs; obtain ⟨rfl, rfl⟩ := hs
      rw [ha] at hx
      generalize ev' x = x' at hx
      obtain ⟨b, c, hi, rfl⟩ := hx.ptr_inv
      exact .same R (Sem.run_pure ..) (.ptr hi o)
    · rename_i cs ha
      simp at hs; obtain ⟨rfl, rfl⟩ := hs
      rw [ha] at hx
      generalize ev' x = x' at hx
      obtain ⟨b, o, arr, hb, ho, hx2, rfl⟩ := hx.at_inv
      exact .same R (Sem.run_pure ..) hx
    · rename_i fid xs ys ha
      simp at hs; obtain ⟨rfl, rfl⟩ := hs
      rw [ha] at hx
      generalize ev' x = x' at hx
      have hx' := hx
      cases hx with
      | func fn h0 h1 h2 h3 h4 => exact .same R (Sem.run_pure ..) hx'
    · cases hs
  · rename_i op t x y yt hop
    simp only [hop]
    obtain ⟨hv, he⟩ := justV_val hs
    subst he
    exact ((aBin_sound hv R (hev x) (hev y)).yields R).next
  · rename_i op t x hop
    simp only [hop]
    obtain ⟨hv, he⟩ := justV_val hs
    subst he
    exact ((aUn_sound hv R (hev x)).yields R).next
  · rename_i s d x hop
    simp only [hop]
    cases hc : aConv P s d (ev x) h with
    | some u =>
      rw [hc] at hs
      cases hs
      exact (aConv_sound hc R (hev x)).next
    | none =>
      rw [hc] at hs
      exact (aConvM_sound (andH_val hs) R (hev x)).next
  · rename_i t x hop
    simp only [hop]
    split at hs
    case h_2 => cases hs
    rename_i ht
    simp at hs; obtain ⟨rfl, rfl⟩ := hs
    refine Yields.next (.same R (v' := .iface t (ev' x)) ?_ (.iface t (hev x)))
    unfold isIfaceT at ht
    split at ht
    · simp at ht
    · rename_i d hni hu
      cases d with
      | interface ms => exact absurd rfl (hni ms)
      | _ => simp [Instr.makeInterface, run_underlying hu]
    · cases ht
  · rename_i fn first captured hop
    simp only [hop]
    simp at hs; obtain ⟨rfl, rfl⟩ := hs
    have h1 := args_relA hev first
    have h2 := args_relA hev captured
    exact Yields.next (.same R (v' := .func _ (first.map ev') (captured.map ev')) (Sem.run_pure ..) (.func _ rfl h1.1 h2.1 h1.2 h2.2))
  · rename_i t r hop
    simp only [hop]
    exact (aMakeMap_sound (andH_val hs) R (opt_rel hev r)).next
  · rename_i t l c hop
    simp only [hop]
    exact (aMake_sound (andH_val hs) R (hev l) (hev c)).next
  · rename_i t x lo hi mx hop
    simp only [hop]
    obtain ⟨hv, he⟩ := justV_val hs
    subst he
    exact ((aSlice_sound hv R (hev x) (opt_rel hev lo) (opt_rel hev hi) (opt_rel hev mx)).yields R).next
  · rename_i s x k hop
    simp only [hop]
    obtain ⟨hv, he⟩ := justV_val hs
    subst he
    exact ((aField_sound hv R (hev x)).yields R).next
  · rename_i t x k hop
    simp only [hop]
    obtain ⟨hv, he⟩ := justV_val hs
    subst he
    exact ((aFieldOf_sound hv R (hev x)).yields R).next
  · rename_i t x ix hop
    simp only [hop]
    obtain ⟨hv, he⟩ := justV_val hs
    subst he
    exact ((aIndexAddr_sound hv R (hev x) (hev ix)).yields R).next
  · rename_i t x ix hop
    simp only [hop]
    obtain ⟨hv, he⟩ := justV_val hs
    subst he
    exact ((aIndex_sound hv R (hev x) (hev ix)).yields R).next
  · rename_i t x ix ok hop
    simp only [hop]
    obtain ⟨hv, he⟩ := justV_val hs
    subst he
    exact ((aLookup_sound hv R (hev x) (hev ix)).yields R).next
  · rename_i t m k x hop
    simp only [hop]
    obtain ⟨hv, he⟩ := justH_val hs
    subst he
    exact .skip (aUpdate_sound hv R (hev m) (hev k) (hev x))
  · rename_i t m k x hop
    simp only [hop]
    obtain ⟨hv, he⟩ := justH_val hs
    subst he
    exact .skip (aUpdate_sound hv R (hev m) (hev k) (hev x))
  · rename_i t m k hop
    simp only [hop]
    exact (aMapEntry_sound (andH_val hs) R (hev m) (hev k)).next
  · rename_i t m s x hop
    simp only [hop]
    obtain ⟨hv, he⟩ := justH_val hs
    subst he
    exact .skip (aEntryStore_sound hv R (hev m) (hev s) (hev x))
  · rename_i t x hop
    simp only [hop]
    exact (aRange_sound (andH_val hs) R (hev x)).next
  · rename_i it hop
    split at hs <;> simp at hs
  · rename_i it hop
    simp only [hop]
    obtain ⟨hv, he⟩ := justV_val hs
    subst he
    exact ((aEntry_sound hv R (hev it)).yields R).next
  · rename_i x xt asserted ok hop
    simp only [hop]
    obtain ⟨hv, he⟩ := justV_val hs
    subst he
    exact ((aAssert_sound hv R (hev x)).yields R).next
  · rename_i t k hop
    simp only [hop]
    split at hs
    case h_2 => cases hs
    rename_i vs hvs
    obtain ⟨hv, he⟩ := justV_val hs
    subst he
    have hx := hev t
    rw [hvs] at hx
    generalize hx' : ev' t = x' at hx
    cases hx with
    | tuple hsz hx =>
      rename_i vs'
      have hlt : k < vs.length := (List.getElem?_eq_some_iff.1 hv).1
      have hlt' : k < vs'.size := by rw [← hsz]; exact hlt
      refine Yields.next (.same R (v' := vs'[k]) ?_ (hx k v _ hv (Array.getElem?_eq_getElem hlt')))
      simp [Instr.extract, Array.getElem?_eq_getElem hlt']
  · rename_i c hop
    simp only [hop]
    unfold aCall at hs
    split at hs
    · split at hs <;> simp at hs
    · rename_i b hnp hb
      split at hs
      case h_2 => cases hs
      rename_i u h2 hu
      simp at hs; obtain ⟨rfl, rfl⟩ := hs
      have ha := args_rel hev c.args.toList
      have := aBuiltin_sound (args' := c.args.map ev') hu R (by simpa using ha)
      have e1 : (do let d ← resolve ev' c o.type; invoke d.target d.args) = builtin b c.argTypes o.type (constsOf c.args) (c.args.map ev') := by
        simp [resolve, hb, invoke]
        rfl
      rw [e1]
      exact this
    · rename_i fo hf
      split at hs
      case h_2 => simp at hs
      case h_3 => cases hs
      rename_i fid first captured hfv
      split at hs
      · cases hs
      split at hs
      case h_2 => cases hs
      rename_i u h2 hu
      simp at hs
      obtain ⟨rfl, rfl⟩ := hs
      have hv := hev fo
      rw [hfv] at hv
      generalize hv' : ev' fo = v' at hv
      cases hv with
      | func fn hs0 hs1 hs2 hx hy =>
      rename_i first' captured'
      have ha := args_rel hev c.args.toList
      have l1 : LRel ρ first first'.toList := ARel.list ⟨hs1, hx⟩
      have l2 : LRel ρ captured captured'.toList := ARel.list ⟨hs2, hy⟩
      have l3 := l1.append (ha.append l2)
      obtain ⟨r', w', hr, hrr, R'⟩ := aEx_sound (args' := first' ++ c.args.map ev' ++ captured') hu R (by simpa using l3)
      refine ⟨ρ, r', w', .inl ?_, hrr, R', Ren.le.refl ρ⟩
      simp [resolve, hf, hv', Deferred.ofValue, invoke]
      simpa using hr
    · obtain ⟨_, _, _, _, _, h5⟩ := aInv_cases hs; cases h5
  · split at hs <;> simp at hs
  · cases hs

theorem opEval_call {P : Program} {o : Oper} {ev : Operand → V} {ev' : Operand → Value} {h : AHeap} {g : FuncId} {args : List V} (hs : opEval P o ev h = some (.call g args)) {ρ : Ren} {B : Nat} {w0 w : World}
    (R : WRel ρ B w0 h w) (hev : ∀ x, VRel ρ (ev x) (ev' x)) : ∃ args', (execOp ev' o).run P w = .ok (.enter g args') w ∧ LRel ρ args args'.toList := by
  have key : ∃ c, o.op = .call c ∧ aCall P c o.type ev h = some (.call g args) := by
    unfold opEval at hs
    split at hs
    all_goals first
      | (rename_i c hop; exact ⟨c, hop, hs⟩)
      | (simp [andH, justV, justH] at hs; done)
      | (unfold andH at hs; split at hs <;> simp at hs; done)
      | (unfold justV at hs; split at hs <;> simp at hs; done)
      | (unfold justH at hs; split at hs <;> simp at hs; done)
      | (split at hs <;> (try (unfold andH at hs; split at hs)) <;> simp at hs; done)
      | (split at hs <;> (try (unfold justV at hs; split at hs)) <;> simp at hs; done)
  obtain ⟨c, hop, hc⟩ := key
  unfold aCall at hc
  split at hc
  · split at hc <;> simp at hc
  · split at hc <;> simp at hc
  · rename_i fo hf
    split at hc
    case h_2 => simp at hc
    case h_3 => cases hc
    rename_i fid first captured hfv
    split at hc
    case isFalse => split at hc <;> simp at hc
    rename_i hcall
    simp at hc
    obtain ⟨rfl, rfl⟩ := hc
    have hv := hev fo
    rw [hfv] at hv
    generalize hv' : ev' fo = v' at hv
    cases hv with
    | func fn hs0 hs1 hs2 hx hy =>
    rename_i first' captured'
    have ha := args_rel hev c.args.toList
    refine ⟨first' ++ c.args.map ev' ++ captured', ?_, ?_⟩
    · unfold callable at hcall
      split at hcall
      case h_2 => cases hcall
      rename_i fn hfn
      simp only [Bool.and_eq_true, bne_iff_ne, ne_eq] at hcall
      have hb : fn.body.isNone = false := by cases hb : fn.body <;> simp_all
      unfold execOp
      simp only [hop]
      simp [resolve, hf, hv', Deferred.ofValue, invoke, callFunc, hfn, hcall.2]
      intro hh
      simp [hh] at hcall
    · have h1 : LRel ρ first first'.toList := ARel.list ⟨hs1, hx⟩
      have h2 : LRel ρ captured captured'.toList := ARel.list ⟨hs2, hy⟩
      have := h1.append (ha.append h2)
      simpa using this
  · rename_i r name hcal
    obtain ⟨t, v, f, hr, hm, h5⟩ := aInv_cases hc
    simp only [Step.call.injEq] at h5
    obtain ⟨rfl, rfl⟩ := h5
    have hv := hev r
    rw [hr] at hv
    generalize hv' : ev' r = v' at hv
    cases hv with
    | iface t hx =>
    rename_i x'
    have ha := args_rel hev c.args.toList
    refine ⟨#[x'] ++ c.args.map ev', ?_, ?_⟩
    · have hcall := hm.2
      unfold callable at hcall
      split at hcall
      case h_2 => cases hcall
      rename_i fn hfn
      simp only [Bool.and_eq_true, bne_iff_ne, ne_eq] at hcall
      have hb : fn.body.isNone = false := by cases hb : fn.body <;> simp_all
      unfold execOp
      simp only [hop]
      have hf : (callFunc g (#[x'] ++ c.args.map ev')).run P w = .ok (.enter g (#[x'] ++ c.args.map ev')) w := by
        simp [callFunc, hfn, hcall.2]
        intro hh
        simp [hh] at hcall
      have he : (Array.extract (#[Value.iface t x'] ++ c.args.map ev') 1 (#[Value.iface t x'] ++ c.args.map ev').size) = c.args.map ev' := by
        apply Array.ext'
        simp
        exact List.take_of_length_le (by simp)
      have h0 : (#[Value.iface t x'] ++ c.args.map ev')[0]? = some (.iface t x') := by rw [Array.getElem?_append_left (show 0 < 1 by decide)]; rfl
      have e1 : (do let d ← resolve ev' c o.type; invoke d.target d.args) = callMethod (.iface t x') name (c.args.map ev') := by
        simp only [resolve, hcal, hv', pure_bind, invoke, h0, he]
      rw [e1]
      simp only [callMethod, Sem.run_bind, run_program, Result.andThen_ok, hm.1, hf]
    · simpa using LRel.cons hx ha

theorem opEval_round {P : Program} {o : Oper} {ev : Operand → V} {ev' : Operand → Value} {h : AHeap} {l : Nat} {args : List V} (hs : opEval P o ev h = some (.round l args)) {ρ : Ren} {B : Nat} {w0 w : World}
    (R : WRel ρ B w0 h w) (hev : ∀ x, VRel ρ (ev x) (ev' x)) : ∃ args' b c, ρ.ren l = some (b, c) ∧ execOp ev' o = Instr.yield b args' ∧ LRel ρ args args'.toList := by
  have key : ∃ c, o.op = .call c ∧ aCall P c o.type ev h = some (.round l args) := by
    unfold opEval at hs
    split at hs
    all_goals first
      | (rename_i c hop; exact ⟨c, hop, hs⟩)
      | (simp [andH, justV, justH] at hs; done)
      | (unfold andH at hs; split at hs <;> simp at hs; done)
      | (unfold justV at hs; split at hs <;> simp at hs; done)
      | (unfold justH at hs; split at hs <;> simp at hs; done)
      | (split at hs <;> (try (unfold andH at hs; split at hs)) <;> simp at hs; done)
      | (split at hs <;> (try (unfold justV at hs; split at hs)) <;> simp at hs; done)
  obtain ⟨c, hop, hc⟩ := key
  unfold aCall at hc
  split at hc
  · split at hc <;> simp at hc
  · split at hc <;> simp at hc
  · rename_i fo hf
    split at hc
    case h_1 => split at hc <;> (try (split at hc)) <;> simp at hc
    case h_3 => cases hc
    rename_i l' hfv
    simp at hc
    obtain ⟨rfl, rfl⟩ := hc
    have hv := hev fo
    rw [hfv] at hv
    generalize hv' : ev' fo = v' at hv
    cases hv with
    | func fn hs0 => cases hs0
    | @yl _ b cc hb =>
    have ha := args_rel hev c.args.toList
    refine ⟨c.args.map ev', b, cc, hb, ?_, by simpa using ha⟩
    unfold execOp
    simp only [hop]
    simp [resolve, hf, hv', Deferred.ofValue, invoke]
  · obtain ⟨_, _, _, _, _, h5⟩ := aInv_cases hc; cases h5

theorem opEval_alts {P : Program} {o : Oper} {ev : Operand → V} {ev' : Operand → Value} {h : AHeap} {l : List (V × AHeap)} (hs : opEval P o ev h = some (.alts l)) {ρ : Ren} {B : Nat} {w0 w : World}
    (R : WRel ρ B w0 h w) (hev : ∀ x, VRel ρ (ev x) (ev' x)) : ∃ v h', (v, h') ∈ l ∧ YieldsN P (execOp ev' o) ρ B w0 w v h' := by
  have key : ∃ it, o.op = .next it false ∧ aNext (ev it) h = some l := by
    unfold opEval at hs
    split at hs
    all_goals first
      | (rename_i it hop; cases hn : aNext (ev it) h with
          | none => simp [hn] at hs
          | some l' => simp [hn] at hs; subst hs; exact ⟨it, hop, hn⟩)
      | (simp [andH, justV, justH] at hs; done)
      | (unfold andH at hs; split at hs <;> simp at hs; done)
      | (unfold justV at hs; split at hs <;> simp at hs; done)
      | (unfold justH at hs; split at hs <;> simp at hs; done)
      | (unfold aCall at hs; split at hs <;> (split at hs) <;> simp at hs; done)
      | (split at hs <;> (try (unfold andH at hs; split at hs)) <;> simp at hs; done)
      | (split at hs <;> (try (unfold justV at hs; split at hs)) <;> simp at hs; done)
      | (exfalso; unfold aCall at hs; split at hs
         · split at hs <;> simp at hs
         · split at hs <;> simp at hs
         · split at hs
           · split at hs
             · simp at hs
             · split at hs <;> simp at hs
           · simp at hs
           · cases hs
         · obtain ⟨_, _, _, _, _, h5⟩ := aInv_cases hs; cases h5)
  obtain ⟨it, hop, hn⟩ := key
  obtain ⟨v, h', hm, hy⟩ := aNext_sound (P := P) (ty := o.type) hn R (hev it)
  refine ⟨v, h', hm, ?_⟩
  unfold execOp
  simp only [hop]
  exact hy.next

theorem opEval_panic {P : Program} {o : Oper} {ev : Operand → V} {ev' : Operand → Value} {h : AHeap} (hs : opEval P o ev h = some .panic) {ρ : Ren} {B : Nat} {w0 w : World}
    (R : WRel ρ B w0 h w) (hev : ∀ x, VRel ρ (ev x) (ev' x)) : ∃ t v', (execOp ev' o).run P w = .halt (.panic (.iface t v')) w := by
  have key : (∃ x, o.op = .panic x ∧ ∃ t v, ev x = .iface t v) ∨ (∃ c x, o.op = .call c ∧ c.callee = .builtin .panic ∧ c.args.toList = [x] ∧ ∃ t v, ev x = .iface t v) := by
    unfold opEval at hs
    split at hs
    all_goals first
      | (rename_i x hop; cases hx : ev x <;> simp [hx] at hs; exact .inl ⟨x, hop, _, _, hx⟩)
      | (simp [andH, justV, justH] at hs; done)
      | (unfold andH at hs; split at hs <;> simp at hs; done)
      | (unfold justV at hs; split at hs <;> simp at hs; done)
      | (unfold justH at hs; split at hs <;> simp at hs; done)
      | (split at hs <;> (try (unfold andH at hs; split at hs)) <;> simp at hs; done)
      | (split at hs <;> (try (unfold justV at hs; split at hs)) <;> simp at hs; done)
      | (rename_i c hop
         unfold aCall at hs
         split at hs
         · rename_i hcal
           split at hs
           · rename_i t v heq
             cases hl : c.args.toList with
             | nil => simp [hl] at heq
             | cons x r =>
               rw [hl] at heq
               simp at heq
               obtain ⟨h1, rfl⟩ := heq
               exact .inr ⟨c, x, hop, hcal, hl, t, v, h1⟩
           · cases hs
         · split at hs <;> simp at hs
         · split at hs
           · split at hs
             · simp at hs
             · split at hs <;> simp at hs
           · simp at hs
           · cases hs
         · obtain ⟨_, _, _, _, _, h5⟩ := aInv_cases hs; cases h5)
  have run : ∀ x t v, ev x = .iface t v → ∃ t v', ev' x = .iface t v' ∧ (Instr.panic (ev' x)).run P w = .halt (.panic (.iface t v')) w := fun x t v he => by
    have hx := hev x
    rw [he] at hx
    generalize ev' x = x' at hx
    cases hx with
    | iface t hv => exact ⟨t, _, rfl, by simp [Instr.panic, goPanic, Sem.run]⟩
  rcases key with ⟨x, hop, t, v, he⟩ | ⟨c, x, hop, hcal, hargs, t, v, he⟩
  · obtain ⟨t, v', h1, h2⟩ := run x t v he
    refine ⟨t, v', ?_⟩
    unfold execOp
    simp [hop, h2]
  · obtain ⟨t, v', h1, h2⟩ := run x t v he
    refine ⟨t, v', ?_⟩
    have ha : c.args = #[x] := by apply Array.ext'; simpa using hargs
    unfold execOp
    simp [hop, resolve, hcal, ha, invoke, builtin, h2]
end Go.Proofs.YtfcjehlhoebmnaaGreatDoor.Ab

namespace Go.Proofs.YtfcjehlhoebmnaaGreatDoor.Ab
open Go Go.RowKit
set_option linter.unusedVariables false

class Pt where
  prop : Prop
/-- What the rewriting doesn't look into. -/
def hidI [p : Pt] : Prop := p.prop
theorem hid_mk {p : Prop} (h : p) : @hidI ⟨p⟩ := h
inductive AExit where
  | normal
  | exit (id : Nat)
  | goto (l : Nat)
  | ret
  | panic

def OneChain (ch : List PanicEntry) : Prop := ∃ t v', ch = [{ v := .iface t v', recovered := false }]
def XR : AExit → Exit → Prop
  | .normal, .normal => True
  | .exit i, .exit j => i = j
  | .goto i, .goto j => i = j
  | .ret, .ret => True
  | .panic, .panic ch => OneChain ch
  | _, _ => False

/-- A call, seen from the abstract states: R: it returns; E: it panics. -/
def SCallsE (P : Program) (f : FuncId) (args : List V) (h : AHeap) (R : V → AHeap → Prop) (E : AHeap → Prop) : Prop :=
  ∀ (ρ : Ren) (B : Nat) (w0 w : World) (args' : Array Value), WRel ρ B w0 h w → LRel ρ args args'.toList →
    Calls P f args' w fun e w' => (∃ (ρ' : Ren) (r : V) (r' : Value) (h' : AHeap), e = .returned r' ∧ VRel ρ' r r' ∧ WRel ρ' B w0 h' w' ∧ ρ.le ρ' ∧ R r h') ∨
      (∃ (ρ' : Ren) (ch : List PanicEntry) (h' : AHeap), e = .panicked ch ∧ OneChain ch ∧ WRel ρ' B w0 h' w' ∧ ρ.le ρ' ∧ E h')
def SCalls (P : Program) (f : FuncId) (args : List V) (h : AHeap) (R : V → AHeap → Prop) : Prop := SCallsE P f args h R fun _ => False

/-- One round of the loop at block l, told by the abstract states: yield is called. -/
def SRound (P : Program) (l : Nat) (args : List V) (h : AHeap) (R : V → AHeap → Prop) : Prop :=
  ∀ (ρ : Ren) (B : Nat) (w0 w : World) (args' : Array Value) (b c : Nat), ρ.ren l = some (b, c) → WRel ρ B w0 h w → LRel ρ args args'.toList →
    ∃ fn tmps assign body, (Instr.yield b args').run P w = .ok (.round b fn tmps assign body) w ∧ RoundIn Fence.wide 0 P b fn tmps assign body w fun e w' =>
      ∃ (ρ' : Ren) (r : V) (r' : Value) (h' : AHeap), e = .returned r' ∧ VRel ρ' r r' ∧ WRel ρ' B w0 h' w' ∧ ρ.le ρ' ∧ R r h'
theorem SRound.mono {P : Program} {l : Nat} {args : List V} {h : AHeap} {R R' : V → AHeap → Prop} (hc : SRound P l args h R) (hr : ∀ r h', R r h' → R' r h') : SRound P l args h R' :=
  fun ρ B w0 w args' b c hb hw ha => let ⟨fn, tmps, assign, body, h1, h2⟩ := hc ρ B w0 w args' b c hb hw ha
    ⟨fn, tmps, assign, body, h1, h2.mono fun _ _ ⟨ρ', r, r', h', e1, e2, e3, e4, e5⟩ => ⟨ρ', r, r', h', e1, e2, e3, e4, hr _ _ e5⟩⟩
/-- Where a piece of code may run: anywhere, or in a round. -/
structure FOk (F : Fence) : Prop where
  fn : ∀ f, F.fn f
  depth : F.depth = none
  calls : ∀ {n : Nat} {P : Program} {f : FuncId} {args : Array Value} {w : World} {R : Ending → World → Prop}, Calls P f args w R → CallsIn F n P f args w R
  round : ∀ {n : Nat} {P : Program} {l : Nat} {f : FuncId} {tmps : Array Value} {a b : Code} {w : World} {R : Ending → World → Prop}, RoundIn Fence.wide 0 P l f tmps a b w R → RoundIn F n P l f tmps a b w R
theorem FOk.wide : FOk Fence.wide := ⟨fun _ => trivial, rfl, fun h => callsIn_wide.2 h, fun h => ⟨trivial, fun c cs _ => h.2 c cs (room_wide _)⟩⟩
theorem FOk.inRound (l : Nat) : FOk (Fence.wide.inRound l) := ⟨fun _ => trivial, rfl, fun {n P f args w R} h => show CallsIn Fence.wide n P f args w R from callsIn_wide.2 h, fun h => ⟨trivial, fun c cs _ => h.2 c cs (room_wide _)⟩⟩
theorem SCallsE.mono {P : Program} {f : FuncId} {args : List V} {h : AHeap} {R R' : V → AHeap → Prop} {E E' : AHeap → Prop} (hc : SCallsE P f args h R E) (hr : ∀ r h', R r h' → R' r h') (he : ∀ h', E h' → E' h') : SCallsE P f args h R' E' :=
  fun ρ B w0 w args' hw ha => (hc ρ B w0 w args' hw ha).mono fun _ _ hh => by
    rcases hh with ⟨ρ', r, r', h', h1, h2, h3, h4, h5⟩ | ⟨ρ', ch, h', h1, h2, h3, h4, h5⟩
    · exact .inl ⟨ρ', r, r', h', h1, h2, h3, h4, hr _ _ h5⟩
    · exact .inr ⟨ρ', ch, h', h1, h2, h3, h4, he _ h5⟩
theorem SCalls.mono {P : Program} {f : FuncId} {args : List V} {h : AHeap} {R R' : V → AHeap → Prop} (hc : SCalls P f args h R) (hr : ∀ r h', R r h' → R' r h') : SCalls P f args h R' :=
  SCallsE.mono hc hr fun _ h => h
theorem SCalls.e {P : Program} {f : FuncId} {args : List V} {h : AHeap} {R : V → AHeap → Prop} {E : AHeap → Prop} (hc : SCalls P f args h R) : SCallsE P f args h R E :=
  SCallsE.mono hc (fun _ _ h => h) fun _ h => h.elim

/-- What is asked of the concrete end of a piece of code. -/
def CPost (n : Nat) (B : Nat) (w0 : World) (ρ : Ren) (Q : AExit → AFrame → AHeap → Prop) (e : Exit) (a : Act) (w : World) : Prop :=
  ∃ (ρ' : Ren) (x : AExit) (f : AFrame) (h : AHeap), XR x e ∧ WRel ρ' B w0 h w ∧ FRel ρ' n f a ∧ ρ.le ρ' ∧ Q x f h
theorem CPost.le {n B : Nat} {w0 : World} {ρ ρ1 : Ren} (hle : ρ.le ρ1) {Q : AExit → AFrame → AHeap → Prop} {e : Exit} {a : Act} {w : World} (h : CPost n B w0 ρ1 Q e a w) : CPost n B w0 ρ Q e a w :=
  let ⟨ρ', x, f, h', hx, hw, hf, hl, hq⟩ := h
  ⟨ρ', x, f, h', hx, hw, hf, hle.trans hl, hq⟩

/-- A piece of code, seen from the abstract states. -/
def SWp (P : Program) (n : Nat) (c : Code) (Q : AExit → AFrame → AHeap → Prop) (f : AFrame) (h : AHeap) : Prop :=
  ∀ (ρ : Ren) (B : Nat) (w0 : World) (a : Act) (w : World), WRel ρ B w0 h w → FRel ρ n f a → c.wp P (CPost n B w0 ρ Q) a w

theorem SWp.mono {P : Program} {n : Nat} {c : Code} {Q Q' : AExit → AFrame → AHeap → Prop} {f : AFrame} {h : AHeap} (hs : SWp P n c Q f h) (hq : ∀ e f h, Q e f h → Q' e f h) : SWp P n c Q' f h :=
  fun ρ B w0 a w hw hf => wp_mono (hs ρ B w0 a w hw hf) fun _ _ _ ⟨ρ', x, f', h', hx, hw', hf', hl, hQ⟩ => ⟨ρ', x, f', h', hx, hw', hf', hl, hq _ _ _ hQ⟩

/-- The same state, told otherwise. -/
def CastF (f : AFrame) (h : AHeap) (f2 : AFrame) (h2 : AHeap) : Prop :=
  ∀ (ρ : Ren) (B : Nat) (w0 w : World) (n : Nat) (a : Act), WRel ρ B w0 h w → FRel ρ n f a → ∃ ρ', ρ.le ρ' ∧ WRel ρ' B w0 h2 w ∧ FRel ρ' n f2 a
theorem SWp.cast {P : Program} {n : Nat} {c : Code} {Q : AExit → AFrame → AHeap → Prop} {f f2 : AFrame} {h h2 : AHeap} (hc : CastF f h f2 h2) (hs : SWp P n c Q f2 h2) : SWp P n c Q f h :=
  fun ρ B w0 a w hw hf => let ⟨ρ', hle, hw', hf'⟩ := hc ρ B w0 w n a hw hf; wp_mono (hs ρ' B w0 a w hw' hf') fun _ _ _ hp => hp.le hle
def Cast (r : V) (h : AHeap) (r2 : V) (h2 : AHeap) : Prop :=
  ∀ (ρ : Ren) (B : Nat) (w0 w : World) (r' : Value), WRel ρ B w0 h w → VRel ρ r r' → ∃ ρ', ρ.le ρ' ∧ WRel ρ' B w0 h2 w ∧ VRel ρ' r2 r'
theorem SCallsE.cast {P : Program} {f : FuncId} {args : List V} {h : AHeap} {R : V → AHeap → Prop} {E : AHeap → Prop} (hc : SCallsE P f args h (fun r h' => ∃ r2 h2, Cast r h' r2 h2 ∧ R r2 h2) E) : SCallsE P f args h R E :=
  fun ρ B w0 w args' hw ha => (hc ρ B w0 w args' hw ha).mono fun _ _ hh => by
    rcases hh with ⟨ρ', r, r', h', h1, h2, h3, h4, r2, hh2, hcast, hR⟩ | hh
    · obtain ⟨ρ2, hle, hw2, hv2⟩ := hcast ρ' B w0 _ r' h3 h2
      exact .inl ⟨ρ2, r2, r', hh2, h1, hv2, hw2, h4.trans hle, hR⟩
    · exact .inr hh
theorem SCalls.cast {P : Program} {f : FuncId} {args : List V} {h : AHeap} {R : V → AHeap → Prop} (hc : SCalls P f args h (fun r h' => ∃ r2 h2, Cast r h' r2 h2 ∧ R r2 h2)) : SCalls P f args h R := SCallsE.cast hc

/-- Behind a first piece. -/
def andThen (K : AFrame → AHeap → Prop) (Q : AExit → AFrame → AHeap → Prop) : AExit → AFrame → AHeap → Prop
  | .normal, f, h => K f h
  | e, f, h => Q e f h

theorem SWp.seq {P : Program} {n : Nat} {x y : Code} {Q : AExit → AFrame → AHeap → Prop} {f : AFrame} {h : AHeap} (hs : SWp P n x (andThen (SWp P n y Q) Q) f h) : SWp P n (.seq x y) Q f h := by
  intro ρ B w0 a w hw hf
  refine wp_seq (wp_mono (hs ρ B w0 a w hw hf) fun e a' w' ⟨ρ', x, f', h', hx, hw', hf', hl, hQ⟩ => ?_)
  cases x <;> cases e <;> simp only [XR] at hx
  · exact wp_mono (hQ ρ' B w0 a' w' hw' hf') fun _ _ _ hp => hp.le hl
  · exact ⟨ρ', _, f', h', by exact hx, hw', hf', hl, hQ⟩
  · exact ⟨ρ', _, f', h', by exact hx, hw', hf', hl, hQ⟩
  · exact ⟨ρ', .ret, f', h', trivial, hw', hf', hl, hQ⟩
  · exact ⟨ρ', .panic, f', h', by exact hx, hw', hf', hl, hQ⟩

theorem SWp.cond {P : Program} {n : Nat} {c : Operand} {x y : Code} {Q : AExit → AFrame → AHeap → Prop} {f : AFrame} {h : AHeap} {t : Bool} (hc : f.eval h c = .bool t)
    (hs : SWp P n (if t then x else y) Q f h) : SWp P n (.cond c x y) Q f h := by
  intro ρ B w0 a w hw hf
  have hv := hf.eval hw.heap c
  rw [hc] at hv
  exact wp_cond (flatV_eq hv rfl) (hs ρ B w0 a w hw hf)

def inBlk (id : Nat) (Q : AExit → AFrame → AHeap → Prop) : AExit → AFrame → AHeap → Prop
  | .exit j, f, h => if j = id then Q .normal f h else Q (.exit j) f h
  | e, f, h => Q e f h
theorem SWp.block {P : Program} {n id : Nat} {c : Code} {Q : AExit → AFrame → AHeap → Prop} {f : AFrame} {h : AHeap} (hs : SWp P n c (inBlk id Q) f h) : SWp P n (.block id c) Q f h := by
  intro ρ B w0 a w hw hf
  refine wp_block (wp_mono (hs ρ B w0 a w hw hf) fun e a' w' ⟨ρ', x, f', h', hx, hw', hf', hl, hQ⟩ => ?_)
  cases x <;> cases e <;> simp only [XR] at hx
  · exact ⟨ρ', .normal, f', h', trivial, hw', hf', hl, hQ⟩
  · subst hx
    simp only [inBlk] at hQ
    simp only [Exit.inBlock]
    split
    · rename_i he
      simp only [he, if_true] at hQ
      exact ⟨ρ', .normal, f', h', trivial, hw', hf', hl, hQ⟩
    · rename_i he
      simp only [he, if_false] at hQ
      exact ⟨ρ', .exit _, f', h', rfl, hw', hf', hl, hQ⟩
  · exact ⟨ρ', .goto _, f', h', hx, hw', hf', hl, hQ⟩
  · exact ⟨ρ', .ret, f', h', trivial, hw', hf', hl, hQ⟩
  · exact ⟨ρ', .panic, f', h', hx, hw', hf', hl, hQ⟩

theorem SWp.skip {P : Program} {n : Nat} {Q : AExit → AFrame → AHeap → Prop} {f : AFrame} {h : AHeap} (hq : Q .normal f h) : SWp P n .skip Q f h :=
  fun ρ _ _ _ _ hw hf => wp_skip ⟨ρ, .normal, f, h, trivial, hw, hf, Ren.le.refl ρ, hq⟩
theorem SWp.label {P : Program} {n l : Nat} {Q : AExit → AFrame → AHeap → Prop} {f : AFrame} {h : AHeap} (hq : Q .normal f h) : SWp P n (.label l) Q f h :=
  fun ρ _ _ _ _ hw hf => wp_label ⟨ρ, .normal, f, h, trivial, hw, hf, Ren.le.refl ρ, hq⟩
theorem SWp.exit {P : Program} {n id : Nat} {Q : AExit → AFrame → AHeap → Prop} {f : AFrame} {h : AHeap} (hq : Q (.exit id) f h) : SWp P n (.exit id) Q f h :=
  fun ρ _ _ _ _ hw hf => wp_exit ⟨ρ, .exit id, f, h, rfl, hw, hf, Ren.le.refl ρ, hq⟩
theorem SWp.goto {P : Program} {n l : Nat} {Q : AExit → AFrame → AHeap → Prop} {f : AFrame} {h : AHeap} (hq : Q (.goto l) f h) : SWp P n (.goto l) Q f h :=
  fun ρ _ _ _ _ hw hf => wp_goto ⟨ρ, .goto l, f, h, rfl, hw, hf, Ren.le.refl ρ, hq⟩
theorem SWp.ret {P : Program} {n : Nat} {Q : AExit → AFrame → AHeap → Prop} {f : AFrame} {h : AHeap} (hq : Q .ret f h) : SWp P n .ret Q f h :=
  fun ρ _ _ _ _ hw hf => wp_ret ⟨ρ, .ret, f, h, trivial, hw, hf, Ren.le.refl ρ, hq⟩

theorem SWp.loop {P : Program} {n : Nat} {c : Code} {Q : AExit → AFrame → AHeap → Prop} {f : AFrame} {h : AHeap} (I : AFrame → AHeap → Prop) (μ : AFrame → AHeap → Nat) (h0 : I f h)
    (round : ∀ f h, I f h → SWp P n c (andThen (fun f' h' => @hidI ⟨I f' h' ∧ μ f' h' < μ f h⟩) Q) f h) : SWp P n (.loop c) Q f h := by
  intro ρ B w0 a w hw hf
  have key : ∀ m f h, I f h → μ f h < m → ∀ ρ1 : Ren, ρ.le ρ1 → ∀ a w, WRel ρ1 B w0 h w → FRel ρ1 n f a → Code.rounds P c (CPost n B w0 ρ Q) m a w := by
    intro m
    induction m with
    | zero => intro f h _ hm; omega
    | succ m ih =>
      intro f h hI hm ρ1 hle a w hw hf
      rw [rounds_succ]
      refine wp_mono (round f h hI ρ1 B w0 a w hw hf) fun e a' w' ⟨ρ', x, f', h', hx, hw', hf', hl, hQ⟩ => ?_
      cases x <;> cases e <;> simp only [XR] at hx
      · exact ih f' h' hQ.1 (by have := hQ.2; omega) ρ' (hle.trans hl) a' w' hw' hf'
      · exact ⟨ρ', .exit _, f', h', hx, hw', hf', hle.trans hl, hQ⟩
      · exact ⟨ρ', .goto _, f', h', hx, hw', hf', hle.trans hl, hQ⟩
      · exact ⟨ρ', .ret, f', h', trivial, hw', hf', hle.trans hl, hQ⟩
      · exact ⟨ρ', .panic, f', h', hx, hw', hf', hle.trans hl, hQ⟩
  exact wp_loop_rounds (μ f h + 1) (key _ f h h0 (Nat.lt_succ_self _) ρ (Ren.le.refl ρ) a w hw hf)

/-- A loop whose rounds are counted by a ghost: 'I x' for a datum x, with a measure of it. -/
theorem SWp.loopG {P : Program} {n : Nat} {c : Code} {Q : AExit → AFrame → AHeap → Prop} {f : AFrame} {h : AHeap} {α : Type} (I : α → AFrame → AHeap → Prop) (μ : α → Nat) (x0 : α) (h0 : I x0 f h)
    (round : ∀ x f h, I x f h → SWp P n c (andThen (fun f' h' => @hidI ⟨∃ y, I y f' h' ∧ μ y < μ x⟩) Q) f h) : SWp P n (.loop c) Q f h := by
  intro ρ B w0 a w hw hf
  have key : ∀ m x f h, I x f h → μ x < m → ∀ ρ1 : Ren, ρ.le ρ1 → ∀ a w, WRel ρ1 B w0 h w → FRel ρ1 n f a → Code.rounds P c (CPost n B w0 ρ Q) m a w := by
    intro m
    induction m with
    | zero => intro x f h _ hm; omega
    | succ m ih =>
      intro x f h hI hm ρ1 hle a w hw hf
      rw [rounds_succ]
      refine wp_mono (round x f h hI ρ1 B w0 a w hw hf) fun e a' w' ⟨ρ', x', f', h', hx, hw', hf', hl, hQ⟩ => ?_
      cases x' <;> cases e <;> simp only [XR] at hx
      · obtain ⟨y, hy, hlt⟩ := hQ
        exact ih y f' h' hy (by omega) ρ' (hle.trans hl) a' w' hw' hf'
      · exact ⟨ρ', .exit _, f', h', hx, hw', hf', hle.trans hl, hQ⟩
      · exact ⟨ρ', .goto _, f', h', hx, hw', hf', hle.trans hl, hQ⟩
      · exact ⟨ρ', .ret, f', h', trivial, hw', hf', hle.trans hl, hQ⟩
      · exact ⟨ρ', .panic, f', h', hx, hw', hf', hle.trans hl, hQ⟩
  exact wp_loop_rounds (μ x0 + 1) (key _ x0 f h h0 (Nat.lt_succ_self _) ρ (Ren.le.refl ρ) a w hw hf)

/-! ### Regions -/
def yieldedA (ops : List Oper) (f : AFrame) (j : Nat) : Option Bool :=
  match (ops[j]?).bind (·.dst) with
  | some d => match f d with
    | .bool b => some b
    | _ => none
  | none => none
/-- none: it can't be told. -/
def wantedA (ops : List Oper) (g : Option (Nat × Bool)) (f : AFrame) : Option Bool :=
  match g with
  | none => some true
  | some (j, want) => match (ops[j]?).bind (·.dst) with
    | some d => match f d with
      | .top => none
      | .bool b => some (b == want)
      | _ => some false
    | none => some false

theorem wanted_eq {ρ : Ren} {n : Nat} {f : AFrame} {a : Act} (hf : FRel ρ n f a) (ops : Array Oper) (o : Oper) {b : Bool} (hb : wantedA ops.toList o.guard f = some b) : Region.wanted o (yielded ops a.tmps) = b := by
  unfold Region.wanted
  unfold wantedA at hb
  cases hg : o.guard with
  | none => simp [hg] at hb; simp [hb]
  | some p =>
    obtain ⟨j, want⟩ := p
    simp only [hg] at hb ⊢
    have e : ops.toList[j]? = ops[j]? := by simp
    rw [e] at hb
    unfold yielded
    cases hd : (ops[j]?).bind (·.dst) with
    | none => simp [hd] at hb; subst hb; rfl
    | some d =>
      simp only [hd] at hb ⊢
      have hv := hf.tmps d
      cases ht : a.tmps[d]? with
      | none =>
        have hu : a.tmps.getD d undef = undef := by simp [ht]
        rw [hu] at hv
        generalize f d = x at hv hb
        unfold undef at hv
        cases hv with
        | top => simp at hb
        | tuple hs hx => simp at hb; subst hb; simp [ht]
      | some u =>
        have hu : a.tmps.getD d undef = u := by simp [ht]
        rw [hu] at hv
        generalize f d = x at hv hb
        cases hv <;> simp at hb <;> subst hb <;> simp [ht]

def stepA (P : Program) (o : Oper) (next exc : AFrame → AHeap → Prop) (f : AFrame) (h : AHeap) : Prop :=
  match opEval P o (f.eval h) h with
  | some (.val v h') => next (f.put o.dst v) h'
  | some (.call g args) => SCallsE P g args h (fun r h' => next (f.put o.dst r) h') (fun h' => exc f h')
  | some (.alts l) => ∀ v h', (v, h') ∈ l → next (f.put o.dst v) h'
  | some .panic => exc f h
  | some (.round l args) => SRound P l args h (fun r h' => next (f.put o.dst r) h')
  | none => False

def opsA (P : Program) (ops : List Oper) : List Oper → (AFrame → AHeap → Prop) → (AFrame → AHeap → Prop) → AFrame → AHeap → Prop
  | [], K, _, f, h => K f h
  | o :: rest, K, E, f, h => match wantedA ops o.guard f with
    | some true => stepA P o (opsA P ops rest K E) E f h
    | some false => opsA P ops rest K E (f.put o.dst (.tuple [])) h
    | none => False

def codeOk (n : Nat) : Code → Bool
  | .region _ ops _ => ops.toList.all fun o => dstOk n o.dst
  | .seq a b => codeOk n a && codeOk n b
  | .cond c a b => codeOk n a && codeOk n b
  | .block _ b => codeOk n b
  | .loop b => codeOk n b
  | .scope b => codeOk n b
  | .rangeFunc .. => false
  | .refuse _ => false
  | _ => true

theorem sem_of {P : Program} {o : Oper} {ev : Operand → V} {h : AHeap} {s : Step} (hs : opEval P o ev h = some s) (ro : Option Nat) (ev' : Operand → Value) : o.semAt ro ev' = execOp ev' o :=
  Oper.semAt_eq ro ev' o fun c hc => by unfold opEval at hs; rw [hc] at hs; simp at hs
theorem step_sound {F : Fence} (hF : FOk F) {rm : Nat} {P : Program} {n : Nat} {o : Oper} (hd : dstOk n o.dst = true) {ρ0 ρ : Ren} {B : Nat} {w0 w : World} {f : AFrame} {h : AHeap} {a : Act} {next exc : AFrame → AHeap → Prop}
    {next' : Act → World → Prop} {Q' : Exit → Act → World → Prop} (hle : ρ0.le ρ) (hw : WRel ρ B w0 h w) (hf : FRel ρ n f a) (hq : stepA P o next exc f h)
    (hnext : ∀ ρ f h a w, ρ0.le ρ → WRel ρ B w0 h w → FRel ρ n f a → next f h → next' a w) (hexc : ∀ ρ f h a w ch, ρ0.le ρ → WRel ρ B w0 h w → FRel ρ n f a → OneChain ch → exc f h → Q' (.panic ch) a w) :
    o.wpIn F rm P a w next' Q' := by
  unfold stepA at hq
  unfold Oper.wpIn
  refine ⟨fun f _ => hF.fn f, ?_⟩
  have hev := hf.eval hw.heap
  have hdp : F.depth.isSome = true → 1 ≤ rm := fun hh => by rw [hF.depth] at hh; cases hh
  have fin : ∀ v h', YieldsN P (execOp a.eval o) ρ B w0 w v h' → next (f.put o.dst v) h' → Oper.uponIn F rm P o a next' Q' ((execOp a.eval o).run P w) := fun v h' hy hn => by
    obtain ⟨ρ', v', w', hrun, hv, hw', hl'⟩ := hy
    rcases hrun with hrun | ⟨hrun, rfl⟩
    · rw [hrun, Oper.uponIn_value]
      exact hnext ρ' _ _ _ _ (hle.trans hl') hw' ((hf.mono hl').put hv o.dst hd) hn
    · rw [hrun, Oper.uponIn_skip]
      exact hnext ρ' _ _ _ _ (hle.trans hl') hw' ((hf.mono hl').put hv o.dst hd) hn
  cases he : opEval P o (f.eval h) h with
  | none => simp [he] at hq
  | some s =>
    rw [sem_of he]
    cases s with
    | val v h' => simp only [he] at hq; exact fin v h' (opEval_val he hw hev) hq
    | alts l =>
      simp only [he] at hq
      obtain ⟨v, h', hm, hy⟩ := opEval_alts he hw hev
      exact fin v h' hy (hq v h' hm)
    | panic =>
      simp only [he] at hq
      obtain ⟨t, v', hrun⟩ := opEval_panic he hw hev
      rw [hrun, Oper.uponIn_panic]
      exact hexc ρ f h a w _ hle hw hf ⟨t, v', rfl⟩ hq
    | call g args =>
      simp only [he] at hq
      obtain ⟨args', hrun, ha⟩ := opEval_call he hw hev
      rw [hrun, Oper.uponIn_enter]
      refine ⟨hdp, (hF.calls (hq ρ B w0 w args' hw ha)).mono fun e w' hh => ?_⟩
      rcases hh with ⟨ρ', r, r', h', hee, hv, hw', hl', hR⟩ | ⟨ρ', ch, h', hee, hch, hw', hl', hE⟩
      · subst hee
        exact hnext ρ' _ _ _ _ (hle.trans hl') hw' ((hf.mono hl').put hv o.dst hd) hR
      · subst hee
        exact hexc ρ' f h' a w' ch (hle.trans hl') hw' (hf.mono hl') hch hE
    | round l args =>
      simp only [he] at hq
      obtain ⟨args', bb, cc, hbb, hrun, ha⟩ := opEval_round he hw hev
      obtain ⟨fn, tmps, assign, body, hy, hr⟩ := hq ρ B w0 w args' bb cc hbb hw ha
      rw [hrun, hy, Oper.uponIn_round]
      refine ⟨hdp, (hF.round hr).mono fun e w' hh => ?_⟩
      obtain ⟨ρ', r, r', h', hee, hv, hw', hl', hR⟩ := hh
      subst hee
      exact hnext ρ' _ _ _ _ (hle.trans hl') hw' ((hf.mono hl').put hv o.dst hd) hR

theorem ops_sound {F : Fence} (hF : FOk F) {rm : Nat} {P : Program} {n : Nat} {ops : Array Oper} (hok : ops.toList.all (fun o => dstOk n o.dst) = true) {Q : AExit → AFrame → AHeap → Prop} {ρ0 : Ren} {B : Nat} {w0 : World} :
    ∀ (l : List Oper) (k : Nat), l = ops.toList.drop k → ∀ (ρ : Ren) (f : AFrame) (h : AHeap) (a : Act) (w : World), ρ0.le ρ → WRel ρ B w0 h w → FRel ρ n f a →
      opsA P ops.toList l (Q .normal) (Q .panic) f h → wpOpsIn F rm P ops (CPost n B w0 ρ0 Q) (List.range' k l.length) a w
  | [], k, hl, ρ, f, h, a, w, hle, hw, hf, hq => by
    simp only [List.length_nil, List.range'_zero, wpOpsIn]
    exact ⟨ρ, .normal, f, h, trivial, hw, hf, hle, hq⟩
  | o :: rest, k, hl, ρ, f, h, a, w, hle, hw, hf, hq => by
    have hk : ops.toList[k]? = some o := by
      have := congrArg (·[0]?) hl
      simpa using this.symm
    have hrest : rest = ops.toList.drop (k + 1) := by
      have := congrArg List.tail hl
      simpa [List.tail_drop] using this
    have ho : ops[k]? = some o := by simpa using hk
    have hd : dstOk n o.dst = true := (List.all_eq_true.1 hok) o (List.mem_of_getElem? hk)
    simp only [List.length_cons, List.range'_succ, wpOpsIn, ho]
    unfold opsA at hq
    cases hwn : wantedA ops.toList o.guard f with
    | none => simp [hwn] at hq
    | some b =>
      rw [wanted_eq hf ops o hwn]
      cases b with
      | true =>
        simp only [hwn] at hq
        simp only [if_true]
        exact step_sound hF hd hle hw hf hq (fun ρ f h a w hle hw hf hn => ops_sound hF hok rest (k + 1) hrest ρ f h a w hle hw hf hn)
          (fun ρ f h a w ch hle hw hf hch hE => ⟨ρ, .panic, f, h, hch, hw, hf, hle, hE⟩)
      | false =>
        simp only [hwn] at hq
        simp only [Bool.false_eq_true, if_false]
        exact ⟨fun f _ => hF.fn f, ops_sound hF hok rest (k + 1) hrest ρ _ _ _ _ hle hw (hf.put (tuple0_rel _) o.dst hd) hq⟩

theorem SWp.region {P : Program} {n id : Nat} {ops : Array Oper} (hok : ops.toList.all (fun o => dstOk n o.dst) = true) {Q : AExit → AFrame → AHeap → Prop} {f : AFrame} {h : AHeap}
    (hq : opsA P ops.toList ops.toList (Q .normal) (Q .panic) f h) : SWp P n (.region id ops false) Q f h := by
  intro ρ B w0 a w hw hf
  refine wpIn_wide.1 (wpIn_region (n := 0) ?_)
  have := ops_sound FOk.wide (rm := 0) (P := P) hok (ρ0 := ρ) ops.toList 0 (by simp) ρ f h a w (Ren.le.refl ρ) hw hf hq
  rwa [Array.length_toList, ← List.range_eq_range'] at this

/-- A call whose answer is told, and that leaves the memory as it was. -/
def Pure (P : Program) (fid : FuncId) (args : List V) (h : AHeap) (v : V) : Prop := SCalls P fid args h fun r h' => r = v ∧ h' = h
/-- One operation that leaves the memory as it was. -/
def quietStep (P : Program) (o : Oper) (h : AHeap) (f : AFrame) (v : V) : Prop :=
  opEval P o (f.eval h) h = some (.val v h) ∨ ∃ g args, opEval P o (f.eval h) h = some (.call g args) ∧ Pure P g args h v
/-- The lexical walk. -/
def lexG (P : Program) (ops : List Oper) (es : List Nat) (K E : AFrame → AHeap → Prop) : Nat → List Oper → AFrame → AHeap → Prop
  | _, [], f, h => K f h
  | k, o :: rest, f, h => if es.contains k then (match wantedA ops o.guard f with
      | some true => stepA P o (fun f' h' => lexG P ops es K E (k + 1) rest f' h') E f h
      | some false => lexG P ops es K E (k + 1) rest (f.put o.dst (.tuple [])) h
      | none => False)
    else (match wantedA ops o.guard f with
      | some true => ∃ v, quietStep P o h f v ∧ lexG P ops es K E (k + 1) rest (f.put o.dst v) h
      | some false => lexG P ops es K E (k + 1) rest (f.put o.dst (.tuple [])) h
      | none => False)

/-- The condition of a piece of code, computed along its text. -/
def wpA (P : Program) (n : Nat) : Code → (AExit → AFrame → AHeap → Prop) → AFrame → AHeap → Prop
  | .skip, Q, f, h => Q .normal f h
  | .region id ops false, Q, f, h => opsA P ops.toList ops.toList (Q .normal) (Q .panic) f h
  | .region id ops true, Q, f, h => SWp P n (.region id ops true) Q f h
  | .seq a b, Q, f, h => wpA P n a (andThen (fun f h => wpA P n b Q f h) Q) f h
  | .cond c a b, Q, f, h => match f.eval h c with
    | .bool true => wpA P n a Q f h
    | .bool false => wpA P n b Q f h
    | _ => False
  | .block id b, Q, f, h => wpA P n b (inBlk id Q) f h
  | .loop b, Q, f, h => SWp P n (.loop b) Q f h
  | .scope b, Q, f, h => SWp P n (.scope b) Q f h
  | .exit id, Q, f, h => Q (.exit id) f h
  | .goto l, Q, f, h => Q (.goto l) f h
  | .label _, Q, f, h => Q .normal f h
  | .ret, Q, f, h => Q .ret f h
  | _, _, _, _ => False

theorem wpA_sound {P : Program} {n : Nat} : ∀ (c : Code) (Q : AExit → AFrame → AHeap → Prop) (f : AFrame) (h : AHeap), codeOk n c = true → wpA P n c Q f h → SWp P n c Q f h
  | .skip, Q, f, h, _, hq => .skip hq
  | .region id ops false, Q, f, h, hok, hq => .region (by simpa [codeOk] using hok) hq
  | .region id ops true, Q, f, h, _, hq => hq
  | .seq a b, Q, f, h, hok, hq => by
    simp only [codeOk, Bool.and_eq_true] at hok
    refine .seq ((wpA_sound a _ f h hok.1 hq).mono fun e f' h' hh => ?_)
    cases e with
    | normal => exact wpA_sound b Q f' h' hok.2 hh
    | _ => exact hh
  | .cond c a b, Q, f, h, hok, hq => by
    simp only [codeOk, Bool.and_eq_true] at hok
    unfold wpA at hq
    split at hq
    · rename_i hc; exact .cond hc (wpA_sound a Q f h hok.1 hq)
    · rename_i hc; exact .cond hc (wpA_sound b Q f h hok.2 hq)
    · exact hq.elim
  | .block id b, Q, f, h, hok, hq => .block (wpA_sound b _ f h (by simpa [codeOk] using hok) hq)
  | .loop b, Q, f, h, _, hq => hq
  | .scope b, Q, f, h, _, hq => hq
  | .exit id, Q, f, h, _, hq => .exit hq
  | .goto l, Q, f, h, _, hq => .goto hq
  | .label _, Q, f, h, _, hq => .label hq
  | .ret, Q, f, h, _, hq => .ret hq
  | .rangeFunc .., Q, f, h, hok, _ => by simp [codeOk] at hok
  | .refuse _, Q, f, h, hok, _ => by simp [codeOk] at hok

/-! ### Functions -/
def enterF (args : List V) : AFrame := fun t => args.getD t .top
def resultA (P : Program) (f : AFrame) (h : AHeap) : ResultVar → Option V
  | .tmp t => some (f t)
  | .cell a t => aLoad P t (f a) h
def resultsA (P : Program) (rs : List ResultVar) (f : AFrame) (h : AHeap) : Option V :=
  match rs with
  | [r] => resultA P f h r
  | _ => match rs.mapM (resultA P f h) with
    | some vs => some (.tuple vs)
    | none => none
def retA (P : Program) (fn : Func) (R : V → AHeap → Prop) (E : AHeap → Prop) : AExit → AFrame → AHeap → Prop
  | .normal, f, h | .ret, f, h => match resultsA P fn.results.toList f h with
    | some r => R r h
    | none => False
  | .panic, f, h => E h
  | _, _, _ => False

theorem run_result {P : Program} {ρ : Ren} {B n : Nat} {w0 w : World} {f : AFrame} {h : AHeap} {a : Act} (hw : WRel ρ B w0 h w) (hf : FRel ρ n f a) {g : ResultVar → Sem Value}
    (hg1 : ∀ t, g (.tmp t) = pure (a.tmps.getD t undef)) (hg2 : ∀ c t, g (.cell c t) = (do loadVar t (← asAddr (a.tmps.getD c undef)))) {r : ResultVar} {v : V} (hr : resultA P f h r = some v) :
    ∃ v', (g r).run P w = .ok v' w ∧ VRel ρ v v' := by
  cases r with
  | tmp t =>
    obtain rfl : f t = v := by simpa [resultA] using hr
    rw [hg1]
    exact ⟨_, Sem.run_pure .., hf.tmps t⟩
  | cell c t =>
    simp only [resultA] at hr
    obtain ⟨⟨ad, ha⟩, v', hrun, hv⟩ := aLoad_sound hr hw (hf.tmps c)
    refine ⟨v', ?_, hv⟩
    rw [hg2]
    rw [ha] at hrun ⊢
    simpa [Instr.loadAt, Instr.sureAddr, asAddr] using hrun

theorem run_results {P : Program} {ρ : Ren} {B n : Nat} {w0 w : World} {f : AFrame} {h : AHeap} {a : Act} (hw : WRel ρ B w0 h w) (hf : FRel ρ n f a) {g : ResultVar → Sem Value}
    (hg1 : ∀ t, g (.tmp t) = pure (a.tmps.getD t undef)) (hg2 : ∀ c t, g (.cell c t) = (do loadVar t (← asAddr (a.tmps.getD c undef)))) : ∀ (rs : List ResultVar) (vs : List V), rs.mapM (resultA P f h) = some vs →
    vs.length = rs.length ∧ ∃ vs', (rs.mapM g).run P w = .ok vs' w ∧ LRel ρ vs vs'
  | [], vs, hm => by
    simp at hm
    subst hm
    exact ⟨rfl, [], by simp, .nil ρ⟩
  | r :: rs, vs, hm => by
    simp only [List.mapM_cons, Option.bind_eq_bind, Option.pure_def] at hm
    cases hr : resultA P f h r with
    | none => simp [hr] at hm
    | some v =>
      cases hrs : rs.mapM (resultA P f h) with
      | none => simp [hr, hrs] at hm
      | some us =>
        simp [hr, hrs] at hm
        subst hm
        obtain ⟨v', h1, h2⟩ := run_result hw hf hg1 hg2 hr
        obtain ⟨hl, us', h3, h4⟩ := run_results hw hf hg1 hg2 rs us hrs
        refine ⟨by simp [hl], v' :: us', ?_, .cons h2 h4⟩
        simp only [List.mapM_cons, Sem.run_bind, h1, h3, Result.andThen_ok, Sem.run_pure]

def resG (tmps : Array Value) : ResultVar → Sem Value
  | .tmp t => pure (tmps.getD t undef)
  | .cell a t => do loadVar t (← asAddr (tmps.getD a undef))
theorem results_eq (fn : Func) (tmps : Array Value) : results fn tmps = (do let vs ← fn.results.mapM (resG tmps); pure (if h : vs.size = 1 then vs[0] else .tuple vs)) := rfl

theorem run_resultsA {P : Program} {ρ : Ren} {B n : Nat} {w0 w : World} {f : AFrame} {h : AHeap} {a : Act} {fn : Func} (hw : WRel ρ B w0 h w) (hf : FRel ρ n f a) {r : V} (hra : resultsA P fn.results.toList f h = some r) :
    ∃ r', (results fn a.tmps).run P w = .ok r' w ∧ VRel ρ r r' := by
  rw [results_eq, Array.mapM_eq_mapM_toList]
  unfold resultsA at hra
  split at hra
  · rename_i rv heq
    have hm : [rv].mapM (resultA P f h) = some [r] := by simp [hra]
    rw [heq]
    obtain ⟨_, vs', h1, h2⟩ := run_results hw hf (g := resG a.tmps) (fun _ => rfl) (fun _ _ => rfl) [rv] [r] hm
    obtain ⟨v', t', rfl, hv, ht⟩ := h2.uncons
    obtain rfl := ht.eq_nil
    refine ⟨v', ?_, hv⟩
    simp only [Sem.run_bind, Sem.run_map, h1, Result.andThen_ok]
    simp
  · rename_i hne
    split at hra
    case h_2 => cases hra
    rename_i vs hvs
    obtain rfl : _ = r := by simpa using hra
    obtain ⟨hlen2, vs', h1, h2⟩ := run_results hw hf (g := resG a.tmps) (fun _ => rfl) (fun _ _ => rfl) _ vs hvs
    have hl1 : vs'.length ≠ 1 := by
      rw [← h2.1, hlen2]
      intro hc
      obtain ⟨r, hr⟩ := List.length_eq_one_iff.1 hc
      exact hne r hr
    refine ⟨.tuple vs'.toArray, ?_, .tuple h2.arr.1 h2.arr.2⟩
    simp only [Sem.run_bind, Sem.run_map, h1, Result.andThen_ok]
    simp [hl1]

theorem enter_rel {ρ : Ren} {n : Nat} {args : List V} {args' : Array Value} (ha : LRel ρ args args'.toList) (hlen : args.length ≤ n) (hd : ρ.dfr = []) : FRel ρ n (enterF args) { tmps := args' ++ Array.replicate (n - args'.size) undef, defers := [] } := by
  have hsz : args'.size = args.length := by have := ha.1; simpa using this.symm
  refine ⟨fun t => ?_, by simp; omega, hd.symm⟩
  simp only [enterF]
  by_cases ht : t < args.length
  · obtain ⟨v', h1, h2⟩ := ha.get (List.getElem?_eq_getElem ht)
    have h1' : args'[t]? = some v' := by simpa using h1
    simp only [List.getD, List.getElem?_eq_getElem ht, Option.getD_some]
    have : (args' ++ Array.replicate (n - args'.size) undef).getD t undef = v' := by
      rw [Array.getD_eq_getD_getElem?, Array.getElem?_append_left (by omega), h1']
      rfl
    rw [this]
    exact h2
  · simp only [List.getD, List.getElem?_eq_none (show args.length ≤ t by omega), Option.getD_none]
    exact .top _

theorem SCallsE.enter {P : Program} {fid : FuncId} {fn : Func} {c : Code} (hfn : P.funcs[fid]? = some fn) (hb : fn.body = some c) (hok : codeOk fn.ntmps c = true) {args : List V} (hlen : args.length ≤ fn.ntmps)
    {h : AHeap} {R : V → AHeap → Prop} {E : AHeap → Prop} (hq : wpA P fn.ntmps c (retA P fn R E) (enterF args) h) : SCallsE P fid args h R E := by
  intro ρ B w0 w args' hw ha
  refine calls_of_wp hfn hb ?_
  have fin : ∀ (ρ' : Ren) (f : AFrame) (h' : AHeap) (a' : Act) (w' : World), Ren.le { ρ with dfr := [] } ρ' → WRel ρ' B w0 h' w' → FRel ρ' fn.ntmps f a' → (match resultsA P fn.results.toList f h' with | some r => R r h' | none => False) →
      a'.defers = [] ∧ ∃ v, (results fn a'.tmps).run P w' = .ok v w' ∧ ((∃ (ρ' : Ren) (r : V) (r' : Value) (h' : AHeap), Ending.returned v = .returned r' ∧ VRel ρ' r r' ∧ WRel ρ' B w0 h' w' ∧ ρ.le ρ' ∧ R r h') ∨
        (∃ (ρ' : Ren) (ch : List PanicEntry) (h' : AHeap), Ending.returned v = .panicked ch ∧ OneChain ch ∧ WRel ρ' B w0 h' w' ∧ ρ.le ρ' ∧ E h')) := by
    intro ρ' f h' a' w' hl hw' hf' hQ
    refine ⟨hf'.defers.trans hl.dfr, ?_⟩
    cases hra : resultsA P fn.results.toList f h' with
    | none => simp [hra] at hQ
    | some r =>
    simp only [hra] at hQ
    obtain ⟨r', h1, h2⟩ := run_resultsA hw' hf' hra
    exact ⟨r', h1, .inl ⟨_, r, r', h', rfl, h2.dfr ρ.dfr, hw'.dfr ρ.dfr, hl.dfr_back, hQ⟩⟩
  refine wp_mono (wpA_sound c _ _ h hok hq { ρ with dfr := [] } B w0 _ w (hw.dfr []) (enter_rel (ha.dfr []) hlen rfl)) fun e a' w' ⟨ρ', x, f, h', hx, hw', hf', hl, hQ⟩ => ?_
  cases x <;> cases e <;> simp only [XR] at hx
  · exact fin ρ' f h' a' w' hl hw' hf' hQ
  · exact hQ.elim
  · exact hQ.elim
  · exact fin ρ' f h' a' w' hl hw' hf' hQ
  · exact ⟨hf'.defers.trans hl.dfr, .inr ⟨_, _, h', rfl, hx, hw'.dfr ρ.dfr, hl.dfr_back, hQ⟩⟩
end Go.Proofs.YtfcjehlhoebmnaaGreatDoor.Ab

namespace Go.Proofs.YtfcjehlhoebmnaaGreatDoor.Ab
open Go Go.RowKit
set_option linter.unusedVariables false

/-! ### The text, step by step. What comes behind stands where the rewriting does not look: among the instances. -/
/-- So that the rewriting gives its reasons. -/
theorem nr {α : Sort _} {a b : α} (h : a = b) : a = b := h
class inductive Qt where
  | fn (run : AExit → AFrame → AHeap → Prop)
  | seq (P : Program) (n : Nat) (b : Code) (Q : Qt)
  | blk (id : Nat) (Q : Qt)
def Qt.go : Qt → AExit → AFrame → AHeap → Prop
  | .fn r => r
  | .seq P n b Q => andThen (fun f h => wpA P n b Q.go f h) Q.go
  | .blk id Q => inBlk id Q.go
class inductive Kt where
  | fn (run exc : AFrame → AHeap → Prop)
  | out (Q : Qt)
  | ops (P : Program) (ol l : List Oper) (K : Kt)
  | rest (P : Program) (ol : List Oper) (es : List Nat) (k : Nat) (l : List Oper) (K : Kt)
def Kt.exc : Kt → AFrame → AHeap → Prop
  | .fn _ e => e
  | .out Q => Q.go .panic
  | .ops _ _ _ K => K.exc
  | .rest _ _ _ _ _ K => K.exc
def Kt.go : Kt → AFrame → AHeap → Prop
  | .fn r _ => r
  | .out Q => Q.go .normal
  | .ops P ol l K => opsA P ol l K.go K.exc
  | .rest P ol es k l K => lexG P ol es K.go K.exc k l
def wpI (P : Program) (n : Nat) (c : Code) [Q : Qt] (f : AFrame) (h : AHeap) : Prop := wpA P n c Q.go f h
def opsI (P : Program) (ol l : List Oper) [K : Kt] (f : AFrame) (h : AHeap) : Prop := opsA P ol l K.go K.exc f h
def stepI (P : Program) (o : Oper) [K : Kt] (f : AFrame) (h : AHeap) : Prop := stepA P o K.go K.exc f h
def endI (x : AExit) [Q : Qt] (f : AFrame) (h : AHeap) : Prop := Q.go x f h
def goI [K : Kt] (f : AFrame) (h : AHeap) : Prop := K.go f h
def condI (v : V) [p : Pt] [q : Pt] : Prop := match v with | .bool true => p.prop | .bool false => q.prop | _ => False

section
variable {P : Program} {n id : Nat} {ops : Array Oper} {l : List Oper} {Q : Qt} {K : Kt} {f : AFrame} {h : AHeap}
theorem wpA_skip : @wpI P n .skip Q f h = @endI .normal Q f h := nr rfl
theorem wpA_region : @wpI P n (.region id ops false) Q f h = @opsI P ops.toList ops.toList (.out Q) f h := nr rfl
theorem wpA_seq {a b : Code} : @wpI P n (.seq a b) Q f h = @wpI P n a (.seq P n b Q) f h := nr rfl
theorem condI_true {p q : Pt} : @condI (.bool true) p q = p.prop := nr rfl
theorem condI_false {p q : Pt} : @condI (.bool false) p q = q.prop := nr rfl
theorem pt_mk {p : Prop} : @Pt.prop ⟨p⟩ = p := nr rfl
theorem wpA_cond {c : Operand} {a b : Code} : @wpI P n (.cond c a b) Q f h = @condI (f.eval h c) ⟨@wpI P n a Q f h⟩ ⟨@wpI P n b Q f h⟩ := by
  show (match f.eval h c with | .bool true => wpA P n a Q.go f h | .bool false => wpA P n b Q.go f h | _ => False) = _
  unfold condI
  cases f.eval h c with
  | bool t => cases t <;> rfl
  | _ => rfl
theorem wpA_block {b : Code} : @wpI P n (.block id b) Q f h = @wpI P n b (.blk id Q) f h := nr rfl
theorem wpA_exit : @wpI P n (.exit id) Q f h = @endI (.exit id) Q f h := nr rfl
theorem wpA_goto : @wpI P n (.goto id) Q f h = @endI (.goto id) Q f h := nr rfl
theorem wpA_label : @wpI P n (.label id) Q f h = @endI .normal Q f h := nr rfl
theorem wpA_ret : @wpI P n .ret Q f h = @endI .ret Q f h := nr rfl
theorem wpA_loop {b : Code} : @wpI P n (.loop b) Q f h = SWp P n (.loop b) Q.go f h := nr rfl
theorem wpA_scope {b : Code} : @wpI P n (.scope b) Q f h = SWp P n (.scope b) Q.go f h := nr rfl
theorem wpA_draw : @wpI P n (.region id ops true) Q f h = SWp P n (.region id ops true) Q.go f h := nr rfl
theorem seqQ_normal {b : Code} : @endI .normal (.seq P n b Q) f h = @wpI P n b Q f h := nr rfl
theorem seqQ_exit {b : Code} {j : Nat} : @endI (.exit j) (.seq P n b Q) f h = @endI (.exit j) Q f h := nr rfl
theorem seqQ_goto {b : Code} {j : Nat} : @endI (.goto j) (.seq P n b Q) f h = @endI (.goto j) Q f h := nr rfl
theorem seqQ_ret {b : Code} : @endI .ret (.seq P n b Q) f h = @endI .ret Q f h := nr rfl
theorem seqQ_panic {b : Code} : @endI .panic (.seq P n b Q) f h = @endI .panic Q f h := nr rfl
theorem blkQ_normal : @endI .normal (.blk id Q) f h = @endI .normal Q f h := nr rfl
theorem blkQ_exit {j : Nat} : @endI (.exit j) (.blk id Q) f h = if j = id then @endI .normal Q f h else @endI (.exit j) Q f h := nr rfl
theorem blkQ_goto {j : Nat} : @endI (.goto j) (.blk id Q) f h = @endI (.goto j) Q f h := nr rfl
theorem blkQ_ret : @endI .ret (.blk id Q) f h = @endI .ret Q f h := nr rfl
theorem blkQ_panic : @endI .panic (.blk id Q) f h = @endI .panic Q f h := nr rfl
theorem endI_mk {x : AExit} {Q : AExit → AFrame → AHeap → Prop} : @endI x (.fn Q) f h = Q x f h := nr rfl
theorem goI_out : @goI (.out Q) f h = @endI .normal Q f h := nr rfl
theorem goI_ops {ol : List Oper} : @goI (.ops P ol l K) f h = @opsI P ol l K f h := nr rfl
theorem goI_mk {K E : AFrame → AHeap → Prop} : @goI (.fn K E) f h = K f h := nr rfl
theorem opsA_nil {ol : List Oper} : @opsI P ol [] K f h = @goI K f h := nr rfl
theorem goE {x : AExit} : Qt.go Q x f h = @endI x Q f h := nr rfl
theorem excE_out : Kt.exc (.out Q) f h = @endI .panic Q f h := nr rfl
theorem excE_ops {ol : List Oper} : Kt.exc (.ops P ol l K) f h = Kt.exc K f h := nr rfl
theorem andThen_normal {K : AFrame → AHeap → Prop} {Q : AExit → AFrame → AHeap → Prop} : andThen K Q .normal f h = K f h := nr rfl
theorem andThen_exit {K : AFrame → AHeap → Prop} {Q : AExit → AFrame → AHeap → Prop} : andThen K Q (.exit id) f h = Q (.exit id) f h := nr rfl
theorem andThen_goto {K : AFrame → AHeap → Prop} {Q : AExit → AFrame → AHeap → Prop} : andThen K Q (.goto id) f h = Q (.goto id) f h := nr rfl
theorem andThen_ret {K : AFrame → AHeap → Prop} {Q : AExit → AFrame → AHeap → Prop} : andThen K Q .ret f h = Q .ret f h := nr rfl
theorem andThen_panic {K : AFrame → AHeap → Prop} {Q : AExit → AFrame → AHeap → Prop} : andThen K Q .panic f h = Q .panic f h := nr rfl
theorem wpI_sound {c : Code} {Q : AExit → AFrame → AHeap → Prop} (hok : codeOk n c = true) (hq : @wpI P n c (.fn Q) f h) : SWp P n c Q f h := wpA_sound c Q f h hok hq
theorem SCallsE.enterI {fid : FuncId} {fn : Func} {c : Code} (hfn : P.funcs[fid]? = some fn) (hb : fn.body = some c) (hok : codeOk fn.ntmps c = true) {args : List V} (hlen : args.length ≤ fn.ntmps)
    {h : AHeap} {R : V → AHeap → Prop} {E : AHeap → Prop} (hq : @wpI P fn.ntmps c (.fn (retA P fn (fun r h => @hidI ⟨R r h⟩) (fun h => @hidI ⟨E h⟩))) (enterF args) h) : SCallsE P fid args h R E := SCallsE.enter hfn hb hok hlen hq
theorem SCalls.enterI {fid : FuncId} {fn : Func} {c : Code} (hfn : P.funcs[fid]? = some fn) (hb : fn.body = some c) (hok : codeOk fn.ntmps c = true) {args : List V} (hlen : args.length ≤ fn.ntmps)
    {h : AHeap} {R : V → AHeap → Prop} (hq : @wpI P fn.ntmps c (.fn (retA P fn (fun r h => @hidI ⟨R r h⟩) fun _ => False)) (enterF args) h) : SCalls P fid args h R := SCallsE.enter hfn hb hok hlen hq

variable {d : Option Tmp} {ty : TypeId} {pos : String} {aft : Array Edge} {ol : List Oper}
def thenV (o : Option V) (d : Option Tmp) [K : Kt] (f : AFrame) (h : AHeap) : Prop := match o with | some v => K.go (f.put d v) h | none => False
def thenH (o : Option (V × AHeap)) (d : Option Tmp) [K : Kt] (f : AFrame) : Prop := match o with | some (v, h) => K.go (f.put d v) h | none => False
def thenS (o : Option AHeap) (d : Option Tmp) [K : Kt] (f : AFrame) : Prop := match o with | some h => K.go (f.put d .top) h | none => False
theorem thenV_some {v : V} : @thenV (some v) d K f h = @goI K (f.put d v) h := nr rfl
theorem thenH_some {v : V} {h' : AHeap} : @thenH (some (v, h')) d K f = @goI K (f.put d v) h' := nr rfl
theorem thenS_some {h' : AHeap} : @thenS (some h') d K f = @goI K (f.put d .top) h' := nr rfl
theorem thenV_none : @thenV none d K f h = False := nr rfl
theorem thenH_none : @thenH none d K f = False := nr rfl
theorem thenS_none : @thenS none d K f = False := nr rfl

theorem opsA_cons {op : Op} : @opsI P ol (⟨d, op, ty, pos, aft, none⟩ :: l) K f h = @stepI P ⟨d, op, ty, pos, aft, none⟩ (.ops P ol l K) f h := nr rfl
/-- The guard's slot, found along the text. -/
def slotAt : List Oper → Nat → Option Tmp
  | [], _ => none
  | o :: _, 0 => o.dst
  | _ :: r, j + 1 => slotAt r j
theorem slotAt_eq : ∀ (l : List Oper) (j : Nat), slotAt l j = (l[j]?).bind (·.dst)
  | [], j => by simp [slotAt]
  | o :: r, 0 => by simp [slotAt]
  | o :: r, j + 1 => by simp [slotAt, slotAt_eq r j]
/-- The step behind a guard whose value is known. -/
def gvI (v : V) (o : Oper) (P : Program) (ol l : List Oper) [K : Kt] (f : AFrame) (h : AHeap) : Prop :=
  match v, o.guard with
  | .bool c, some (_, b) => if c = b then @stepI P o (.ops P ol l K) f h else @opsI P ol l K (f.put o.dst (.tuple [])) h
  | .top, _ => False
  | _, _ => @opsI P ol l K (f.put o.dst (.tuple [])) h
theorem opsA_guardS {op : Op} {j : Nat} {b : Bool} : @opsI P ol (⟨d, op, ty, pos, aft, some (j, b)⟩ :: l) K f h =
    (match slotAt ol j with | some t => @gvI (f t) ⟨d, op, ty, pos, aft, some (j, b)⟩ P ol l K f h | none => @opsI P ol l K (f.put d (.tuple [])) h) := by
  rw [slotAt_eq]
  show opsA P ol (⟨d, op, ty, pos, aft, some (j, b)⟩ :: l) K.go K.exc f h = _
  simp only [opsA, wantedA]
  cases ht : (ol[j]?).bind (·.dst) with
  | none => rfl
  | some t =>
    simp only [gvI]
    cases hf : f t <;> try rfl
    rename_i c
    simp only
    by_cases hc : c = b
    · subst hc; simp only [beq_self_eq_true, if_true]; rfl
    · have : (c == b) = false := by simp [hc]
      simp only [this, if_neg hc]
      rfl
theorem gvI_same {b : Bool} {op : Op} {j : Nat} : @gvI (.bool b) ⟨d, op, ty, pos, aft, some (j, b)⟩ P ol l K f h = @stepI P ⟨d, op, ty, pos, aft, some (j, b)⟩ (.ops P ol l K) f h := if_pos rfl
theorem gvI_tf {op : Op} {j : Nat} : @gvI (.bool true) ⟨d, op, ty, pos, aft, some (j, false)⟩ P ol l K f h = @opsI P ol l K (f.put d (.tuple [])) h := nr rfl
theorem gvI_ft {op : Op} {j : Nat} : @gvI (.bool false) ⟨d, op, ty, pos, aft, some (j, true)⟩ P ol l K f h = @opsI P ol l K (f.put d (.tuple [])) h := nr rfl
theorem gvI_u {op : Op} {j : Nat} {b : Bool} {vs : List V} : @gvI (.tuple vs) ⟨d, op, ty, pos, aft, some (j, b)⟩ P ol l K f h = @opsI P ol l K (f.put d (.tuple [])) h := nr rfl
theorem slotAt_zero {o : Oper} {r : List Oper} : slotAt (o :: r) 0 = o.dst := nr rfl
theorem slotAt_succ {o : Oper} {r : List Oper} {j : Nat} : slotAt (o :: r) (j + 1) = slotAt r j := nr rfl

variable {g : Option (Nat × Bool)}
theorem justV_step {o : Oper} {x : Option V} (he : opEval P o (f.eval h) h = justV x h) : @stepI P o K f h = @thenV x o.dst K f h := by
  unfold stepI stepA; rw [he]; cases x <;> rfl
theorem andH_step {o : Oper} {x : Option (V × AHeap)} (he : opEval P o (f.eval h) h = andH x) : @stepI P o K f h = @thenH x o.dst K f := by
  unfold stepI stepA; rw [he]; cases x <;> rfl
theorem justH_step {o : Oper} {x : Option AHeap} (he : opEval P o (f.eval h) h = justH x) : @stepI P o K f h = @thenS x o.dst K f := by
  unfold stepI stepA; rw [he]; cases x <;> rfl
theorem stepA_move {x : Operand} : @stepI P ⟨d, .move x, ty, pos, aft, g⟩ K f h = @goI K (f.put d (f.eval h x)) h := nr rfl
theorem stepA_assign {x : Operand} : @stepI P ⟨d, .assign x, ty, pos, aft, g⟩ K f h = @goI K (f.put d (f.eval h x)) h := nr rfl
def pickV (c a b : V) : Option V := match c with | .bool t => some (if t then a else b) | _ => none
theorem stepA_pick {c a b : Operand} : @stepI P ⟨d, .pick c a b, ty, pos, aft, g⟩ K f h = @thenV (pickV (f.eval h c) (f.eval h a) (f.eval h b)) d K f h := by
  unfold stepI stepA opEval pickV thenV; simp only; cases f.eval h c <;> rfl
theorem pickV_true {a b : V} : pickV (.bool true) a b = some a := nr rfl
theorem pickV_false {a b : V} : pickV (.bool false) a b = some b := nr rfl
theorem stepA_alloc {e : TypeId} : @stepI P ⟨d, .alloc e, ty, pos, aft, g⟩ K f h = @thenH (aAlloc P e h) d K f := andH_step rfl
theorem stepA_box {e : TypeId} {x : Operand} : @stepI P ⟨d, .box e x, ty, pos, aft, g⟩ K f h = @thenH (aBox e (f.eval h x) h) d K f := andH_step rfl
theorem stepA_build {t : TypeId} {ps : Array (Nat × Operand)} : @stepI P ⟨d, .build t ps, ty, pos, aft, g⟩ K f h = @thenV (aBuild P t (ps.toList.map fun p => (p.1, f.eval h p.2))) d K f h := justV_step rfl
theorem stepA_buildSlice {t : TypeId} {len : Nat} {ps : Array (Nat × Operand)} : @stepI P ⟨d, .buildSlice t len ps, ty, pos, aft, g⟩ K f h = @thenH (aBuildSlice P t len (ps.toList.map fun p => (p.1, f.eval h p.2)) h) d K f := andH_step rfl
theorem stepA_load {t : TypeId} {a : Operand} : @stepI P ⟨d, .load t a, ty, pos, aft, g⟩ K f h = @thenV (aLoad P t (f.eval h a) h) d K f h := justV_step rfl
theorem stepA_store {t : TypeId} {a x : Operand} : @stepI P ⟨d, .store t a x, ty, pos, aft, g⟩ K f h = @thenS (aStore P t (f.eval h a) (f.eval h x) h) d K f := justH_step rfl
def nilV (x : V) : Option V := match x with | .ptr i o => some (.ptr i o) | .at cs => some (.at cs) | .func (.func fid) xs ys => some (.func (.func fid) xs ys) | _ => none
theorem nilV_ptr {i o : Nat} : nilV (.ptr i o) = some (.ptr i o) := nr rfl
theorem nilV_at {cs : List V} : nilV (.at cs) = some (.at cs) := nr rfl
theorem nilV_func {fid : FuncId} {xs ys : List V} : nilV (.func (.func fid) xs ys) = some (.func (.func fid) xs ys) := nr rfl
theorem stepA_nilCheck {x : Operand} : @stepI P ⟨d, .nilCheck x, ty, pos, aft, g⟩ K f h = @thenV (nilV (f.eval h x)) d K f h := by
  unfold stepI stepA opEval nilV thenV; simp only
  generalize f.eval h x = y
  cases y <;> try rfl
  rename_i fn xs ys
  cases fn <;> rfl
theorem stepA_binOp {op : BinOp} {t yt : TypeId} {x y : Operand} : @stepI P ⟨d, .binOp op t x y yt, ty, pos, aft, g⟩ K f h = @thenV (aBin P op t x y (f.eval h x) (f.eval h y)) d K f h := justV_step rfl
theorem stepA_unOp {op : UnOp} {t : TypeId} {x : Operand} : @stepI P ⟨d, .unOp op t x, ty, pos, aft, g⟩ K f h = @thenV (aUn P op (f.eval h x)) d K f h := justV_step rfl
def thenC (o : Option V) (b : Option (V × AHeap)) (d : Option Tmp) [K : Kt] (f : AFrame) (h : AHeap) : Prop := match o with | some v => K.go (f.put d v) h | none => @thenH b d K f
theorem thenC_some {v : V} {b : Option (V × AHeap)} : @thenC (some v) b d K f h = @goI K (f.put d v) h := nr rfl
theorem thenC_mark {v : V} {h' : AHeap} : @thenC none (some (v, h')) d K f h = @goI K (f.put d v) h' := nr rfl
theorem stepA_convert {s t : TypeId} {x : Operand} : @stepI P ⟨d, .convert s t x, ty, pos, aft, g⟩ K f h = @thenC (aConv P s t (f.eval h x) h) (aConvM P s t (f.eval h x) h) d K f h := by
  have he : opEval P ⟨d, .convert s t x, ty, pos, aft, g⟩ (f.eval h) h = (match aConv P s t (f.eval h x) h with | some v => some (.val v h) | none => andH (aConvM P s t (f.eval h x) h)) := rfl
  unfold thenC
  cases hc : aConv P s t (f.eval h x) h with
  | some v =>
    rw [hc] at he
    exact justV_step (x := some v) he
  | none =>
    rw [hc] at he
    exact andH_step he
theorem stepA_makeMap {t : TypeId} {r : Option Operand} : @stepI P ⟨d, .makeMap t r, ty, pos, aft, g⟩ K f h = @thenH (aMakeMap P t (r.map (f.eval h)) h) d K f := andH_step rfl
theorem stepA_makeSlice {t : TypeId} {x y : Operand} : @stepI P ⟨d, .makeSlice t x y, ty, pos, aft, g⟩ K f h = @thenH (aMake P t (f.eval h x) (f.eval h y) h) d K f := andH_step rfl
theorem stepA_slice {t : TypeId} {x : Operand} {lo hi mx : Option Operand} : @stepI P ⟨d, .slice t x lo hi mx, ty, pos, aft, g⟩ K f h = @thenV (aSlice P t (f.eval h x) (lo.map (f.eval h)) (hi.map (f.eval h)) (mx.map (f.eval h))) d K f h := justV_step rfl
theorem stepA_fieldAddr {t : TypeId} {x : Operand} {k : Nat} : @stepI P ⟨d, .fieldAddr t x k, ty, pos, aft, g⟩ K f h = @thenV (aField P t (f.eval h x) k) d K f h := justV_step rfl
theorem stepA_field {t : TypeId} {x : Operand} {k : Nat} : @stepI P ⟨d, .field t x k, ty, pos, aft, g⟩ K f h = @thenV (aFieldOf P t (f.eval h x) k) d K f h := justV_step rfl
theorem stepA_indexAddr {t : TypeId} {x y : Operand} : @stepI P ⟨d, .indexAddr t x y, ty, pos, aft, g⟩ K f h = @thenV (aIndexAddr P t (f.eval h x) (f.eval h y)) d K f h := justV_step rfl
theorem stepA_index {t : TypeId} {x y : Operand} : @stepI P ⟨d, .index t x y, ty, pos, aft, g⟩ K f h = @thenV (aIndex P t (f.eval h x) (f.eval h y)) d K f h := justV_step rfl
theorem stepA_lookup {t : TypeId} {x y : Operand} {ok : Bool} : @stepI P ⟨d, .lookup t x y ok, ty, pos, aft, g⟩ K f h = @thenV (aLookup P t (f.eval h x) (f.eval h y) ok h) d K f h := justV_step rfl
theorem stepA_mapUpdate {t : TypeId} {m k x : Operand} : @stepI P ⟨d, .mapUpdate t m k x, ty, pos, aft, g⟩ K f h = @thenS (aUpdate P t (f.eval h m) (f.eval h k) (f.eval h x) h) d K f := justH_step rfl
theorem stepA_mapEntry {t : TypeId} {m k : Operand} : @stepI P ⟨d, .mapEntry t m k, ty, pos, aft, g⟩ K f h = @thenH (aMapEntry P t (f.eval h m) (f.eval h k) h) d K f := andH_step rfl
theorem stepA_entryStore {t : TypeId} {m s x : Operand} : @stepI P ⟨d, .entryStore t m s x, ty, pos, aft, g⟩ K f h = @thenS (aEntryStore (f.eval h m) (f.eval h s) (f.eval h x) h) d K f := justH_step rfl
theorem stepA_insert {t : TypeId} {m k x : Operand} : @stepI P ⟨d, .insert t m k x, ty, pos, aft, g⟩ K f h = @thenS (aUpdate P t (f.eval h m) (f.eval h k) (f.eval h x) h) d K f := justH_step rfl
theorem stepA_range {t : TypeId} {x : Operand} : @stepI P ⟨d, .range t x, ty, pos, aft, g⟩ K f h = @thenH (aRange P t (f.eval h x) h) d K f := andH_step rfl
/-- The steps of a walk over a map. -/
def altsI (l : Option (List (V × AHeap))) (d : Option Tmp) [K : Kt] (f : AFrame) : Prop := match l with | some l => ∀ v h', (v, h') ∈ l → @goI K (f.put d v) h' | none => False
theorem stepA_next {it : Operand} : @stepI P ⟨d, .next it false, ty, pos, aft, g⟩ K f h = @altsI (aNext (f.eval h it) h) d K f := by
  unfold stepI stepA opEval altsI; simp only; cases aNext (f.eval h it) h <;> rfl
theorem stepA_entry {x : Operand} : @stepI P ⟨d, .entry x, ty, pos, aft, g⟩ K f h = @thenV (aEntry (f.eval h x) h) d K f h := justV_step rfl
theorem stepA_typeAssert {x : Operand} {t e : TypeId} {ok : Bool} : @stepI P ⟨d, .typeAssert x t e ok, ty, pos, aft, g⟩ K f h = @thenV (aAssert P (f.eval h x) e ok) d K f h := justV_step rfl
def extV (x : V) (k : Nat) : Option V := match x with | .tuple vs => vs[k]? | _ => none
theorem extV_zero {v : V} {vs : List V} : extV (.tuple (v :: vs)) 0 = some v := nr rfl
theorem extV_succ {v : V} {vs : List V} {k : Nat} : extV (.tuple (v :: vs)) (k + 1) = extV (.tuple vs) k := by simp [extV]
theorem stepA_extract {x : Operand} {k : Nat} : @stepI P ⟨d, .extract x k, ty, pos, aft, g⟩ K f h = @thenV (extV (f.eval h x) k) d K f h := by
  unfold stepI stepA opEval extV thenV; simp only
  cases f.eval h x with
  | tuple vs => simp only; cases vs[k]? <;> rfl
  | _ => rfl
def ifcV (b : Option Bool) (t : TypeId) (x : V) : Option V := match b with | some false => some (.iface t x) | _ => none
theorem ifcV_false {t : TypeId} {x : V} : ifcV (some false) t x = some (.iface t x) := nr rfl
theorem stepA_makeInterface {t : TypeId} {x : Operand} : @stepI P ⟨d, .makeInterface t x, ty, pos, aft, g⟩ K f h = @thenV (ifcV (isIfaceT P t) t (f.eval h x)) d K f h := by
  unfold stepI stepA opEval ifcV thenV; simp only
  cases isIfaceT P t with
  | none => rfl
  | some b => cases b <;> rfl
theorem stepA_makeFunc {fn : FuncId} {xs ys : Array Operand} : @stepI P ⟨d, .makeFunc (.func fn) xs ys, ty, pos, aft, g⟩ K f h = @goI K (f.put d (.func (.func fn) (xs.toList.map (f.eval h)) (ys.toList.map (f.eval h)))) h := nr rfl
def panI (x : V) [K : Kt] (f : AFrame) (h : AHeap) : Prop := match x with | .iface _ _ => K.exc f h | _ => False
theorem panI_iface {t : TypeId} {v : V} : @panI (.iface t v) K f h = K.exc f h := nr rfl
theorem stepA_panic {x : Operand} : @stepI P ⟨d, .panic x, ty, pos, aft, g⟩ K f h = @panI (f.eval h x) K f h := by
  unfold stepI stepA opEval panI; simp only; cases f.eval h x <;> rfl
theorem stepA_bpanic {x : Operand} {ts : Array TypeId} : @stepI P ⟨d, .call ⟨.builtin .panic, #[x], ts⟩, ty, pos, aft, g⟩ K f h = @panI (f.eval h x) K f h := by
  unfold stepI stepA opEval aCall panI; simp only [List.map_cons, List.map_nil]; cases f.eval h x <;> rfl
theorem stepA_len {t : TypeId} {x : Operand} : @stepI P ⟨d, .call ⟨.builtin .len, #[x], #[t]⟩, ty, pos, aft, g⟩ K f h = @thenV (aLen P t (f.eval h x) h) d K f h := by
  unfold stepI stepA opEval aCall aBuiltin thenV; simp only [List.map_cons, List.map_nil]; cases aLen P t (f.eval h x) h <;> rfl
theorem stepA_append {t tx : TypeId} {x y : Operand} : @stepI P ⟨d, .call ⟨.builtin .append, #[x, y], #[t, tx]⟩, ty, pos, aft, g⟩ K f h = @thenH (aAppend P t tx (f.eval h x) (f.eval h y) h) d K f := by
  unfold stepI stepA opEval aCall aBuiltin thenH; simp only [List.map_cons, List.map_nil]; cases aAppend P t tx (f.eval h x) (f.eval h y) h <;> rfl
theorem stepA_copy {t tx : TypeId} {x y : Operand} : @stepI P ⟨d, .call ⟨.builtin .copy, #[x, y], #[t, tx]⟩, ty, pos, aft, g⟩ K f h = @thenH (aCopy P t (f.eval h x) (f.eval h y) h) d K f := by
  unfold stepI stepA opEval aCall aBuiltin thenH; simp only [List.map_cons, List.map_nil]; cases aCopy P t (f.eval h x) (f.eval h y) h <;> rfl
theorem stepA_cap {t : TypeId} {x : Operand} : @stepI P ⟨d, .call ⟨.builtin .cap, #[x], #[t]⟩, ty, pos, aft, g⟩ K f h = @thenV (aCap P t (f.eval h x)) d K f h := by
  unfold stepI stepA opEval aCall aBuiltin thenV; simp only [List.map_cons, List.map_nil]; cases aCap P t (f.eval h x) <;> rfl
theorem stepA_delete {t tx : TypeId} {x y : Operand} : @stepI P ⟨d, .call ⟨.builtin .delete, #[x, y], #[t, tx]⟩, ty, pos, aft, g⟩ K f h = @thenH ((aDelete P t (f.eval h x) (f.eval h y) h).map fun h' => (.tuple [], h')) d K f := by
  unfold stepI stepA opEval aCall aBuiltin thenH; simp only [List.map_cons, List.map_nil]; cases aDelete P t (f.eval h x) (f.eval h y) h <;> rfl
theorem stepA_clear {t : TypeId} {x : Operand} : @stepI P ⟨d, .call ⟨.builtin .clear, #[x], #[t]⟩, ty, pos, aft, g⟩ K f h = @thenH ((aClear P t (f.eval h x) h).map fun h' => (.tuple [], h')) d K f := by
  unfold stepI stepA opEval aCall aBuiltin thenH; simp only [List.map_cons, List.map_nil]; cases aClear P t (f.eval h x) h <;> rfl
/-- min and max of two. -/
def mmV (P : Program) (bi : Builtin) (ts : Array TypeId) (ty : TypeId) (cs : Array Bool) (x y : V) : Option V :=
  match flatL [x, y] with
  | some as => match pureRun P (builtin bi ts ty cs as.toArray) with
    | some (.value v) => some (absF v)
    | _ => none
  | none => none
theorem stepA_min {t t2 : TypeId} {x y : Operand} : @stepI P ⟨d, .call ⟨.builtin .min, #[x, y], #[t, t2]⟩, ty, pos, aft, g⟩ K f h = @thenV (mmV P .min #[t, t2] ty (constsOf #[x, y]) (f.eval h x) (f.eval h y)) d K f h :=
  justV_step (by
    unfold opEval aCall aBuiltin mmV justV
    simp only [List.map_cons, List.map_nil]
    cases flatL [f.eval h x, f.eval h y] with
    | none => rfl
    | some as =>
      simp only
      generalize pureRun P _ = r
      cases r with
      | none => rfl
      | some n => cases n <;> rfl)
theorem stepA_max {t t2 : TypeId} {x y : Operand} : @stepI P ⟨d, .call ⟨.builtin .max, #[x, y], #[t, t2]⟩, ty, pos, aft, g⟩ K f h = @thenV (mmV P .max #[t, t2] ty (constsOf #[x, y]) (f.eval h x) (f.eval h y)) d K f h :=
  justV_step (by
    unfold opEval aCall aBuiltin mmV justV
    simp only [List.map_cons, List.map_nil]
    cases flatL [f.eval h x, f.eval h y] with
    | none => rfl
    | some as =>
      simp only
      generalize pureRun P _ = r
      cases r with
      | none => rfl
      | some n => cases n <;> rfl)
theorem mmV_min {ts : Array TypeId} {cs : Array Bool} {k : IntKind} {a b : Int} : mmV P .min ts ty cs (.int k a) (.int k b) = some (.int k (min a b)) := by
  have e : (if b < a then b else a) = min a b := by rw [Int.min_def]; split <;> split <;> omega
  rw [← e]
  rfl
theorem mmV_max {ts : Array TypeId} {cs : Array Bool} {k : IntKind} {a b : Int} : mmV P .max ts ty cs (.int k a) (.int k b) = some (.int k (max a b)) := by
  have e : (if a < b then b else a) = max a b := by rw [Int.max_def]; split <;> split <;> omega
  rw [← e]
  rfl
/-- A call; what comes behind it is not looked at. -/
theorem not_ov {fid0 : FuncId} (hc : callable P fid0 = true) : ¬ ovOk P fid0 := by
  rintro ⟨fn, h1, _, h3, _⟩
  unfold callable at hc
  rw [h1] at hc
  simp only [Bool.and_eq_true] at hc
  cases hb : fn.body <;> simp_all
/-- A call of the library's entry 'overlaps', where it is one. -/
def ovI (P : Program) (fid : FuncId) (args : List V) (h : AHeap) (d : Option Tmp) [K : Kt] (f : AFrame) : Prop := callable P fid = false ∧ ∃ v h', aEx P fid args h = some (v, h') ∧ K.go (f.put d v) h'
def callI (P : Program) (fid : FuncId) (args : List V) (h : AHeap) (d : Option Tmp) [K : Kt] (f : AFrame) : Prop := (callable P fid = true ∧ SCallsE P fid args h (fun r h' => K.go (f.put d r) h') (fun h' => K.exc f h')) ∨ @ovI P fid args h d K f
open Classical in
theorem stepA_call {fid : FuncId} {args : Array Operand} {ts : Array TypeId} : @stepI P ⟨d, .call ⟨.value (.func fid), args, ts⟩, ty, pos, aft, g⟩ K f h = @callI P fid (args.toList.map (f.eval h)) h d K f := by
  unfold stepI stepA opEval aCall callI ovI
  simp only [AFrame.eval]
  by_cases hc : callable P fid = true
  · simp [hc]
  · cases ha : aEx P fid (args.toList.map (f.eval h)) h with
    | none => simp [hc, ha]
    | some p => obtain ⟨v, h'⟩ := p; simp [hc, ha]; exact ⟨fun hh => ⟨v, h', ⟨rfl, rfl⟩, hh⟩, fun ⟨_, _, ⟨e1, e2⟩, hh⟩ => by subst e1; subst e2; exact hh⟩
/-- A call of a function value. -/
def callvI (P : Program) (fv : V) (args : List V) (h : AHeap) (d : Option Tmp) [K : Kt] (f : AFrame) : Prop := match fv with | .func (.func fid) xs ys => @callI P fid (xs ++ args ++ ys) h d K f | .func (.yield l) [] [] => SRound P l args h (fun r h' => K.go (f.put d r) h') | _ => False
theorem stepA_callv {t : Tmp} {args : Array Operand} {ts : Array TypeId} : @stepI P ⟨d, .call ⟨.value (.tmp t), args, ts⟩, ty, pos, aft, g⟩ K f h = @callvI P (f t) (args.toList.map (f.eval h)) h d K f := by
  unfold stepI stepA opEval aCall callvI callI ovI
  simp only [AFrame.eval]
  generalize f t = v
  cases v <;> try rfl
  rename_i fn xs ys
  cases fn <;> try rfl
  case yield l => cases xs <;> cases ys <;> rfl
  rename_i fid
  simp only
  by_cases hc : callable P fid = true
  · simp [hc]
  · cases ha : aEx P fid (xs ++ args.toList.map (f.eval h) ++ ys) h with
    | none => simp at ha; simp [hc, ha]
    | some p => obtain ⟨v, h'⟩ := p; simp at ha; simp [hc, ha]; exact ⟨fun hh => ⟨v, h', ⟨rfl, rfl⟩, hh⟩, fun ⟨_, _, ⟨e1, e2⟩, hh⟩ => by subst e1; subst e2; exact hh⟩
/-- A method that is called by its name at an interface value. -/
def invI (P : Program) (x : V) (name : String) (args : List V) (h : AHeap) (d : Option Tmp) [K : Kt] (f : AFrame) : Prop := match x with | .iface t v => ∃ g, methOk P t name g ∧ @callI P g (v :: args) h d K f | _ => False
theorem stepA_inv {r : Operand} {name : String} {args : Array Operand} {ts : Array TypeId} : @stepI P ⟨d, .call ⟨.invoke r name, args, ts⟩, ty, pos, aft, g⟩ K f h = @invI P (f.eval h r) name (args.toList.map (f.eval h)) h d K f := by
  unfold stepI stepA opEval aCall invI
  simp only
  generalize f.eval h r = v
  cases v <;> try rfl
  rename_i t x
  by_cases hh : ∃ g, methOk P t name g
  · obtain ⟨g, hm⟩ := hh
    rw [aInv_of hm]
    refine propext ⟨fun hs => ⟨g, hm, .inl ⟨hm.2, hs⟩⟩, ?_⟩
    rintro ⟨g', hm', hc⟩
    have e := hm.uniq hm'
    subst e
    rcases hc with ⟨_, hc⟩ | ⟨hc, _⟩
    · exact hc
    · rw [hm.2] at hc; cases hc
  · have : aInv P (.iface t x) name (args.toList.map (f.eval h)) = none := by
      unfold aInv
      simp only [dif_neg hh]
    rw [this]
    exact propext ⟨False.elim, fun ⟨g, hm, _⟩ => hh ⟨g, hm⟩⟩
theorem invI_of {t : TypeId} {x : V} {name : String} {args : List V} {fid : FuncId} (hm : methOk P t name fid) : @invI P (.iface t x) name args h d K f = @callI P fid (x :: args) h d K f := by
  refine propext ⟨?_, fun hc => ⟨fid, hm, hc⟩⟩
  rintro ⟨g, hg, hc⟩
  have e := hm.uniq hg
  subst e
  exact hc
theorem callvI_func {fid : FuncId} {xs ys args : List V} : @callvI P (.func (.func fid) xs ys) args h d K f = @callI P fid (xs ++ args ++ ys) h d K f := nr rfl
theorem callvI_yield {l : Nat} {args : List V} {R : V → AHeap → Prop} (hs : SRound P l args h R) (hk : ∀ r h', R r h' → @goI K (f.put d r) h') : @callvI P (.func (.yield l) [] []) args h d K f := hs.mono hk
theorem callI_of {fid : FuncId} {args : List V} {R : V → AHeap → Prop} (hc : callable P fid = true) (hs : SCalls P fid args h R) (hk : ∀ r h', R r h' → @goI K (f.put d r) h') : @callI P fid args h d K f :=
  .inl ⟨hc, hs.e.mono hk fun _ h => h⟩
theorem callI_ofE {fid : FuncId} {args : List V} {R : V → AHeap → Prop} {E : AHeap → Prop} (hc : callable P fid = true) (hs : SCallsE P fid args h R E) (hk : ∀ r h', R r h' → @goI K (f.put d r) h') (he : ∀ h', E h' → Kt.exc K f h') : @callI P fid args h d K f :=
  .inl ⟨hc, hs.mono hk he⟩
theorem callI_pure {fid : FuncId} {args : List V} {v : V} (hc : callable P fid = true) (hs : Pure P fid args h v) (hk : @goI K (f.put d v) h) : @callI P fid args h d K f :=
  callI_of hc hs fun r h' ⟨e1, e2⟩ => by subst e1; subst e2; exact hk

theorem callI_ov {fid : FuncId} {args : List V} {v : V} (hc : callable P fid = false) (ho : ovOk P fid) (ha : aOv h args = some v) (hk : @goI K (f.put d v) h) : @callI P fid args h d K f := .inr ⟨hc, v, h, aEx_ov ho ha, hk⟩
theorem callI_ld {fid : FuncId} {args : List V} {v : V} (hc : callable P fid = false) (ho : ldOk P fid) (ha : aLd h args = some v) (hk : @goI K (f.put d v) h) : @callI P fid args h d K f := .inr ⟨hc, v, h, aEx_ld ho ha, hk⟩
theorem callI_ad {fid : FuncId} {args : List V} {v : V} {h' : AHeap} (hc : callable P fid = false) (ho : adOk P fid) (ha : aAd h args = some (v, h')) (hk : @goI K (f.put d v) h') : @callI P fid args h d K f := .inr ⟨hc, v, h', aEx_ad ho ha, hk⟩
theorem put_some {t : Tmp} {v : V} {k : Nat} : AFrame.put f (some t) v k = if k = t then v else f k := nr rfl
theorem put_none {v : V} {k : Nat} : AFrame.put f none v k = f k := nr rfl
theorem eval_tmp {t : Tmp} : AFrame.eval f h (.tmp t) = f t := nr rfl
theorem eval_const {v : Value} : AFrame.eval f h (.const v) = absV v := nr rfl
theorem eval_func {k : FuncId} : AFrame.eval f h (.func k) = .func (.func k) [] [] := nr rfl
theorem eval_glob {k : Nat} {cs : List V} (hg : h.glob k = some cs) : AFrame.eval f h (.global k) = .at cs := by simp [AFrame.eval, hg]
theorem enterF_zero {a : V} {l : List V} : enterF (a :: l) 0 = a := nr rfl
theorem enterF_succ {a : V} {l : List V} {n : Nat} : enterF (a :: l) (n + 1) = enterF l n := nr rfl
theorem enterF_nil {n : Nat} : enterF [] n = .top := nr rfl
end

/-! ### Constants -/
theorem absV_int {k : IntKind} {n : Int} : absV (.int k n) = .int k n := nr rfl
theorem absV_bool {b : Bool} : absV (.bool b) = .bool b := nr rfl
theorem absV_str {s : ByteArray} : absV (.string s) = .string s := nr rfl
theorem absV_pnil : absV (.pointer none) = .pnil := nr rfl
theorem absV_snil : absV (.slice none 0 0) = .snil := nr rfl
theorem absV_mnil : absV (.map none) = .mnil := nr rfl
theorem absV_nilFunc : absV .nilFunc = .nilFunc := nr rfl
theorem absV_nilIface : absV .nilIface = .nilIface := nr rfl
theorem absV_agg {cs : Array Value} : absV (.agg cs) = .agg (cs.toList.map absF) := nr rfl
theorem absV_tuple : absV (.tuple #[]) = .tuple [] := nr rfl
theorem absF_int {k : IntKind} {n : Int} : absF (.int k n) = .int k n := nr rfl
theorem absF_bool {b : Bool} : absF (.bool b) = .bool b := nr rfl
theorem absF_str {s : ByteArray} : absF (.string s) = .string s := nr rfl
theorem absF_pnil : absF (.pointer none) = .pnil := nr rfl
theorem absF_snil : absF (.slice none 0 0) = .snil := nr rfl
theorem absF_mnil : absF (.map none) = .mnil := nr rfl
theorem absF_nilFunc : absF .nilFunc = .nilFunc := nr rfl
theorem absF_nilIface : absF .nilIface = .nilIface := nr rfl

/-! ### Ends -/
section
variable {P : Program} {fn : Func} {R : V → AHeap → Prop} {E : AHeap → Prop} {f : AFrame} {h : AHeap}
theorem retA_ret : retA P fn R E .ret f h = (match resultsA P fn.results.toList f h with | some r => R r h | none => False) := nr rfl
theorem retA_normal : retA P fn R E .normal f h = (match resultsA P fn.results.toList f h with | some r => R r h | none => False) := nr rfl
theorem retA_panic : retA P fn R E .panic f h = E h := nr rfl
theorem resultsA_1 {t : Tmp} : resultsA P [.tmp t] f h = some (f t) := nr rfl
theorem resultsA_0 : resultsA P [] f h = some (.tuple []) := nr rfl
theorem resultsA_2 {t u : Tmp} : resultsA P [.tmp t, .tmp u] f h = some (.tuple [f t, f u]) := nr rfl
theorem resultsA_3 {t u v : Tmp} : resultsA P [.tmp t, .tmp u, .tmp v] f h = some (.tuple [f t, f u, f v]) := nr rfl
end
end Go.Proofs.YtfcjehlhoebmnaaGreatDoor.Ab

namespace Go.Proofs.YtfcjehlhoebmnaaGreatDoor.Ab
open Go Go.RowKit
set_option linter.unusedVariables false

theorem pureRun_underlying {P : Program} {t : TypeId} {d : TypeDesc} (h : P.underlying t = some d) : pureRun P (underlying t) = some d := by
  unfold underlying program
  rw [pureRun_bind]
  simp only [pureRun, Option.bind_some, h]
  rfl

/-! ### Integers, strings, bools -/
section
variable {P : Program} {t : TypeId} {xo yo : Operand} {k yk : IntKind} {a b : Int}
theorem aBin_flat {op : BinOp} {x y : V} {a b v : Value} (hx : plainV x = some a) (hy : plainV y = some b) (hg : eqGuard op t xo yo a b = pure ()) (h : pureRun P (binOp op t a b) = some v) : aBin P op t xo yo x y = some (absF v) := by
  unfold aBin
  simp only [hx, hy]
  have e : (do eqGuard op t xo yo a b; binOp op t a b) = binOp op t a b := by rw [hg]; rfl
  rw [e, h]
  rfl
theorem aBin_int {op : BinOp} {v : Value} (h : pureRun P (binOp op t (.int k a) (.int yk b)) = some v) : aBin P op t xo yo (.int k a) (.int yk b) = some (absF v) := aBin_flat rfl rfl (by cases op <;> rfl) h
theorem aBin_add : aBin P .add t xo yo (.int k a) (.int k b) = some (.int k (k.wrap (a + b))) := aBin_int (v := .int k (k.wrap (a + b))) (by simp [binOp, Op.intArith]; rfl)
theorem aBin_sub : aBin P .sub t xo yo (.int k a) (.int k b) = some (.int k (k.wrap (a - b))) := aBin_int (v := .int k (k.wrap (a - b))) (by simp [binOp, Op.intArith]; rfl)
theorem aBin_mul : aBin P .mul t xo yo (.int k a) (.int k b) = some (.int k (k.wrap (a * b))) := aBin_int (v := .int k (k.wrap (a * b))) (by simp [binOp, Op.intArith]; rfl)
theorem aBin_eql : aBin P .eql t xo yo (.int k a) (.int k b) = some (.bool (a == b)) := aBin_int (v := .bool (a == b)) (by simp [binOp, Op.intCmp]; rfl)
theorem aBin_neq : aBin P .neq t xo yo (.int k a) (.int k b) = some (.bool (a != b)) := aBin_int (v := .bool (a != b)) (by simp [binOp, Op.intCmp]; rfl)
theorem aBin_lss : aBin P .lss t xo yo (.int k a) (.int k b) = some (.bool (decide (a < b))) := aBin_int (v := .bool (decide (a < b))) (by simp [binOp, Op.intCmp]; rfl)
theorem aBin_leq : aBin P .leq t xo yo (.int k a) (.int k b) = some (.bool (decide (a ≤ b))) := aBin_int (v := .bool (decide (a ≤ b))) (by simp [binOp, Op.intCmp]; rfl)
theorem aBin_gtr : aBin P .gtr t xo yo (.int k a) (.int k b) = some (.bool (decide (b < a))) := aBin_int (v := .bool (decide (b < a))) (by simp [binOp, Op.intCmp]; rfl)
theorem aBin_geq : aBin P .geq t xo yo (.int k a) (.int k b) = some (.bool (decide (b ≤ a))) := aBin_int (v := .bool (decide (b ≤ a))) (by simp [binOp, Op.intCmp]; rfl)
theorem aBin_shl (hb : 0 ≤ b) : aBin P .shl t xo yo (.int k a) (.int yk b) = some (.int k (k.wrap (a * 2 ^ (min b.toNat k.bits)))) :=
  aBin_int (v := .int k (k.wrap (a * 2 ^ (min b.toNat k.bits)))) (by simp only [binOp, Op.shift, if_neg (show ¬ b < 0 by omega)]; rfl)
theorem aBin_shr (hb : 0 ≤ b) : aBin P .shr t xo yo (.int k a) (.int yk b) = some (.int k (a.fdiv (2 ^ (min b.toNat k.bits)))) :=
  aBin_int (v := .int k (a.fdiv (2 ^ (min b.toNat k.bits)))) (by simp only [binOp, Op.shift, if_neg (show ¬ b < 0 by omega)]; rfl)
theorem aBin_quo (hb : b ≠ 0) : aBin P .quo t xo yo (.int k a) (.int k b) = some (.int k (k.wrap (a.tdiv b))) :=
  aBin_int (v := .int k (k.wrap (a.tdiv b))) (by simp only [binOp, Op.intDiv, ne_eq, not_true, if_false, if_neg hb]; rfl)
theorem aBin_rem (hb : b ≠ 0) : aBin P .rem t xo yo (.int k a) (.int k b) = some (.int k (a.tmod b)) :=
  aBin_int (v := .int k (a.tmod b)) (by simp only [binOp, Op.intDiv, ne_eq, not_true, if_false, if_neg hb]; rfl)
def bAnd (k : IntKind) (a b : Int) : Int := k.wrap ((BitVec.ofInt k.bits a &&& BitVec.ofInt k.bits b).toNat : Int)
def bOr (k : IntKind) (a b : Int) : Int := k.wrap ((BitVec.ofInt k.bits a ||| BitVec.ofInt k.bits b).toNat : Int)
def bXor (k : IntKind) (a b : Int) : Int := k.wrap ((BitVec.ofInt k.bits a ^^^ BitVec.ofInt k.bits b).toNat : Int)
def bAndNot (k : IntKind) (a b : Int) : Int := k.wrap ((BitVec.ofInt k.bits a &&& ~~~(BitVec.ofInt k.bits b)).toNat : Int)
theorem aBin_and : aBin P .and t xo yo (.int k a) (.int k b) = some (.int k (bAnd k a b)) := aBin_int (v := .int k (bAnd k a b)) (by simp only [binOp, ne_eq, not_true, if_false]; rfl)
theorem aBin_or : aBin P .or t xo yo (.int k a) (.int k b) = some (.int k (bOr k a b)) := aBin_int (v := .int k (bOr k a b)) (by simp only [binOp, ne_eq, not_true, if_false]; rfl)
theorem aBin_xor : aBin P .xor t xo yo (.int k a) (.int k b) = some (.int k (bXor k a b)) := aBin_int (v := .int k (bXor k a b)) (by simp only [binOp, ne_eq, not_true, if_false]; rfl)
theorem aBin_andNot : aBin P .andNot t xo yo (.int k a) (.int k b) = some (.int k (bAndNot k a b)) := aBin_int (v := .int k (bAndNot k a b)) (by simp only [binOp, ne_eq, not_true, if_false]; rfl)
theorem aUn_not {b : Bool} : aUn P .not (.bool b) = some (.bool (!b)) := nr rfl
theorem aUn_neg : aUn P .neg (.int k a) = some (.int k (k.wrap (0 - a))) := nr rfl
/-- What kind of integer a type is. -/
def intT (P : Program) (t : TypeId) : Option IntKind := match P.underlying t with | some (.int k) => some k | _ => none
def convGo (x y : Option IntKind) (n : Int) : Option V := match x, y with | some _, some k => some (.int k (k.wrap n)) | _, _ => none
theorem aConv_int {src dst : TypeId} {h : AHeap} {k1 k2 : IntKind} (hs : intT P src = some k1) (hd : intT P dst = some k2) : aConv P src dst (.int k a) h = some (.int k2 (k2.wrap a)) := by
  have h1 : P.underlying src = some (.int k1) := by
    unfold intT at hs; split at hs
    · rename_i hu; simp at hs; subst hs; exact hu
    · cases hs
  have h2 : P.underlying dst = some (.int k2) := by
    unfold intT at hd; split at hd
    · rename_i hu; simp at hd; subst hd; exact hu
    · cases hd
  unfold aConv
  have e : (flatV (.int k a)).bind (fun x => pureRun P (convert src dst x)) = some (.int k2 (k2.wrap a)) := by
    show pureRun P (convert src dst (.int k a)) = _
    unfold convert
    rw [pureRun_bind, pureRun_underlying h1, Option.bind_some, pureRun_bind, pureRun_underlying h2]
    rfl
  rw [e]
  rfl
def boolT (P : Program) (t : TypeId) : Bool := match P.underlying t with | some .bool => true | _ => false
theorem boolT_eq {t : TypeId} (h : boolT P t = true) : P.underlying t = some .bool := by
  unfold boolT at h; split at h
  · assumption
  · cases h
theorem equal_bool {t : TypeId} (hu : boolT P t = true) (x y : Bool) : pureRun P (Op.equal t (.bool x) (.bool y)) = some (x == y) := by
  unfold Op.equal Op.maxDepth Op.equalIn
  rw [pureRun_bind, pureRun_underlying (boolT_eq hu)]
  rfl
theorem aBin_bool_eql {x y : Bool} (hu : boolT P t = true) : aBin P .eql t xo yo (.bool x) (.bool y) = some (.bool (x == y)) := by
  refine aBin_flat (v := .bool (x == y)) rfl rfl rfl ?_
  show pureRun P (do pure (Value.bool (← Op.equal t (.bool x) (.bool y)))) = _
  rw [pureRun_bind, equal_bool hu]
  rfl
theorem aBin_bool_neq {x y : Bool} (hu : boolT P t = true) : aBin P .neq t xo yo (.bool x) (.bool y) = some (.bool (x != y)) := by
  refine aBin_flat (v := .bool (x != y)) rfl rfl rfl ?_
  show pureRun P (do pure (Value.bool (!(← Op.equal t (.bool x) (.bool y))))) = _
  rw [pureRun_bind, equal_bool hu]
  rfl
theorem aBin_str {op : BinOp} {x y : ByteArray} {v : Value} (h : pureRun P (Op.stringOp op x y) = some v) (hop : op ≠ .shl ∧ op ≠ .shr) : aBin P op t xo yo (.string x) (.string y) = some (absF v) := by
  refine aBin_flat rfl rfl (by cases op <;> rfl) ?_
  have e : binOp op t (.string x) (.string y) = Op.stringOp op x y := by cases op <;> first | rfl | simp at hop
  rw [e, h]
theorem aBin_str_eql {x y : ByteArray} : aBin P .eql t xo yo (.string x) (.string y) = some (.bool (x.toList == y.toList)) := aBin_str (v := .bool _) rfl (by simp)
theorem aBin_str_neq {x y : ByteArray} : aBin P .neq t xo yo (.string x) (.string y) = some (.bool (!(x.toList == y.toList))) := aBin_str (v := .bool _) rfl (by simp)
end

/-! ### Against nil -/
def kindT (P : Program) (t : TypeId) : Option Nat := (P.underlying t).bind descKind
section
variable {P : Program} {t : TypeId} {xo yo : Operand} {x y : V} {k : Nat}
theorem kindT_eq (h : kindT P t = some k) : ∃ d, P.underlying t = some d ∧ descKind d = some k := by
  unfold kindT at h
  cases hu : P.underlying t with
  | none => simp [hu] at h
  | some d => simp [hu] at h; exact ⟨d, rfl, h⟩
theorem aBin_nil_eql (h : kindT P t = some k) (hp : plainV x = none ∨ plainV y = none) (hn : (nilKind x = some k ∧ refKind y = some k) ∨ (refKind x = some k ∧ nilKind y = some k)) : aBin P .eql t xo yo x y = some (.bool false) := by
  obtain ⟨d, hu, hd⟩ := kindT_eq h
  have ha : nilApart d x y = true := by
    unfold nilApart
    rw [hd]
    rcases hn with ⟨h1, h2⟩ | ⟨h1, h2⟩ <;> simp [h1, h2]
  unfold aBin
  split
  · rename_i h1 h2; rw [h1, h2] at hp; simp at hp
  · rw [hu]; simp only [ha, if_true]
theorem aBin_nil_neq (h : kindT P t = some k) (hp : plainV x = none ∨ plainV y = none) (hn : (nilKind x = some k ∧ refKind y = some k) ∨ (refKind x = some k ∧ nilKind y = some k)) : aBin P .neq t xo yo x y = some (.bool true) := by
  obtain ⟨d, hu, hd⟩ := kindT_eq h
  have ha : nilApart d x y = true := by
    unfold nilApart
    rw [hd]
    rcases hn with ⟨h1, h2⟩ | ⟨h1, h2⟩ <;> simp [h1, h2]
  unfold aBin
  split
  · rename_i h1 h2; rw [h1, h2] at hp; simp at hp
  · rw [hu]; simp only [ha, if_true]
theorem ptr_nil_eql {i o : Nat} (h : kindT P t = some 0) : aBin P .eql t xo yo (.ptr i o) .pnil = some (.bool false) := aBin_nil_eql h (.inl rfl) (.inr ⟨rfl, rfl⟩)
theorem ptr_nil_neq {i o : Nat} (h : kindT P t = some 0) : aBin P .neq t xo yo (.ptr i o) .pnil = some (.bool true) := aBin_nil_neq h (.inl rfl) (.inr ⟨rfl, rfl⟩)
theorem at_nil_eql {cs : List V} (h : kindT P t = some 0) : aBin P .eql t xo yo (.at cs) .pnil = some (.bool false) := aBin_nil_eql h (.inl rfl) (.inr ⟨rfl, rfl⟩)
theorem at_nil_neq {cs : List V} (h : kindT P t = some 0) : aBin P .neq t xo yo (.at cs) .pnil = some (.bool true) := aBin_nil_neq h (.inl rfl) (.inr ⟨rfl, rfl⟩)
theorem nilEq_run (h : kindT P t = some 0) : pureRun P (Op.equal t (.pointer none) (.pointer none)) = some true := by
  obtain ⟨d, hu, hd⟩ := kindT_eq h
  unfold Op.equal Op.maxDepth Op.equalIn
  rw [pureRun_bind, pureRun_underlying hu]
  cases d <;> simp [descKind] at hd
  rfl
theorem nil_nil_eql (h : kindT P t = some 0) : aBin P .eql t xo yo .pnil .pnil = some (.bool true) := by
  refine aBin_flat (v := .bool true) rfl rfl rfl ?_
  show pureRun P (do pure (Value.bool (← Op.equal t (.pointer none) (.pointer none)))) = _
  rw [pureRun_bind, nilEq_run h]
  rfl
theorem nil_nil_neq (h : kindT P t = some 0) : aBin P .neq t xo yo .pnil .pnil = some (.bool false) := by
  refine aBin_flat (v := .bool false) rfl rfl rfl ?_
  show pureRun P (do pure (Value.bool (!(← Op.equal t (.pointer none) (.pointer none))))) = _
  rw [pureRun_bind, nilEq_run h]
  rfl
end

/-! ### Cells -/
theorem cells_int {k : IntKind} {n : Int} : (V.int k n).cells = some [.int k n] := nr rfl
theorem cells_bool {b : Bool} : (V.bool b).cells = some [.bool b] := nr rfl
theorem cells_string {s : ByteArray} : (V.string s).cells = some [.string s] := nr rfl
theorem cells_pnil : V.pnil.cells = some [.pnil] := nr rfl
theorem cells_snil : V.snil.cells = some [.snil] := nr rfl
theorem cells_mnil : V.mnil.cells = some [.mnil] := nr rfl
theorem cells_z0 : V.z0.cells = some [.z0] := nr rfl
theorem cells_nilFunc : V.nilFunc.cells = some [.nilFunc] := nr rfl
theorem cells_nilIface : V.nilIface.cells = some [.nilIface] := nr rfl
theorem cells_ptr {i o : Nat} : (V.ptr i o).cells = some [.ptr i o] := nr rfl
theorem cells_sl {i o n m : Nat} : (V.sl i o n m).cells = some [.sl i o n m] := nr rfl
theorem cells_imm {n : Nat} {cs : List V} : (V.imm n cs).cells = some [.imm n cs] := nr rfl
theorem cells_atp {cs : List V} : (V.at cs).cells = some [.at cs] := nr rfl
theorem cells_map {i : Nat} : (V.map i).cells = some [.map i] := nr rfl
theorem cells_func {fn : Fn} {xs ys : List V} : (V.func fn xs ys).cells = some [.func fn xs ys] := nr rfl
theorem cells_iface {t : TypeId} {v : V} : (V.iface t v).cells = some [.iface t v] := nr rfl
theorem cells_agg {cs : List V} : (V.agg cs).cells = some cs := nr rfl
theorem one_int {k : IntKind} {n : Int} : (V.int k n).one = true := nr rfl
theorem one_bool {b : Bool} : (V.bool b).one = true := nr rfl
theorem one_string {s : ByteArray} : (V.string s).one = true := nr rfl
theorem one_pnil : V.pnil.one = true := nr rfl
theorem one_snil : V.snil.one = true := nr rfl
theorem one_mnil : V.mnil.one = true := nr rfl
theorem one_z0 : V.z0.one = true := nr rfl
theorem one_nilFunc : V.nilFunc.one = true := nr rfl
theorem one_nilIface : V.nilIface.one = true := nr rfl
theorem one_ptr {i o : Nat} : (V.ptr i o).one = true := nr rfl
theorem one_sl {i o n m : Nat} : (V.sl i o n m).one = true := nr rfl
theorem one_imm {n : Nat} {cs : List V} : (V.imm n cs).one = true := nr rfl
theorem one_at {cs : List V} : (V.at cs).one = true := nr rfl
theorem one_map {i : Nat} : (V.map i).one = true := nr rfl
theorem one_func {fn : Fn} {xs ys : List V} : (V.func fn xs ys).one = true := nr rfl
theorem one_iface {t : TypeId} {v : V} : (V.iface t v).one = true := nr rfl
theorem all_nil : ([] : List V).all (·.one) = true := nr rfl
theorem all_cons {v : V} {l : List V} : (v :: l).all (·.one) = (v.one && l.all (·.one)) := nr rfl

/-! ### The operations, by what is asked of the types -/
section
variable {P : Program} {t tx e : TypeId} {x y v : V} {h : AHeap} {k : Nat}
def fieldT (P : Program) (s : TypeId) (k : Nat) : Option Nat :=
  match P.underlying s with
  | some (.struct fs) => match fs[k]? with
    | some f => match sizeT P f.type with
      | some (_ + 1) => some f.offset
      | _ => none
    | none => none
  | _ => none
def fieldGo (off : Option Nat) (x : V) : Option V :=
  match off, x with
  | some off, .ptr i o => some (.ptr i (o + off))
  | some off, .at cs => if off ≤ cs.length then some (.at (cs.drop off)) else none
  | _, _ => none
theorem aField_eq : aField P t x k = fieldGo (fieldT P t k) x := by
  unfold aField fieldT
  cases P.underlying t with
  | none => rfl
  | some d =>
    cases d <;> try rfl
    rename_i fs
    simp only
    cases fs[k]? with
    | none => rfl
    | some f =>
      simp only
      cases sizeT P f.type with
      | none => rfl
      | some n => cases n <;> simp only [fieldGo] <;> cases x <;> rfl
theorem fieldGo_ptr {i o off : Nat} : fieldGo (some off) (.ptr i o) = some (.ptr i (o + off)) := nr rfl
theorem fieldGo_at {cs : List V} {off : Nat} : fieldGo (some off) (.at cs) = if off ≤ cs.length then some (.at (cs.drop off)) else none := nr rfl

/-- none: a value of one cell. -/
def loadT (P : Program) (t : TypeId) : Option (Option Nat) :=
  match rowT P t, sizeT P t with
  | some true, some n => some (some n)
  | some false, some _ => some none
  | _, _ => none
def loadGo (ty : Option (Option Nat)) (p : Option (List V)) : Option V :=
  match ty, p with
  | some (some n), some cs => if n ≤ cs.length then some (.agg (cs.take n)) else none
  | some none, some (v :: _) => some v
  | _, _ => none
theorem aLoad_eq : aLoad P t x h = loadGo (loadT P t) (aPlace h x) := by
  unfold aLoad loadT
  cases aPlace h x with
  | none => cases rowT P t with
    | none => rfl
    | some b => cases b <;> cases sizeT P t <;> rfl
  | some cs => cases rowT P t with
    | none => cases cs <;> rfl
    | some b => cases b <;> cases sizeT P t <;> cases cs <;> rfl
theorem loadGo_one {v : V} {r : List V} : loadGo (some none) (some (v :: r)) = some v := nr rfl
theorem loadGo_row {n : Nat} {cs : List V} : loadGo (some (some n)) (some cs) = if n ≤ cs.length then some (.agg (cs.take n)) else none := nr rfl
def dropC (o : AObj) (n : Nat) : Option (List V) := match o with | .cells c _ _ => if n ≤ c.length then some (c.drop n) else none | _ => none
theorem aPlace_ptr {i o : Nat} : aPlace h (.ptr i o) = dropC (h.get i) o := by
  simp only [aPlace, dropC]
  cases h.get i <;> rfl
theorem aPlace_at {cs : List V} : aPlace h (.at cs) = some cs := nr rfl
theorem dropC_cells {c : List V} {e : TypeId} {ex : Option Nat} {n : Nat} : dropC (.cells c e ex) n = if n ≤ c.length then some (c.drop n) else none := nr rfl

def setC (n : Option Nat) (ob : AObj) (o : Nat) (vs : List V) : Option AObj :=
  match n, ob with
  | some n, .cells c e ex => if vs.length = n ∧ vs.all (·.one) = true ∧ o + n ≤ c.length then some (.cells (lay c o vs) e ex) else none
  | _, _ => none
def storeGo (n : Option Nat) (x : V) (vs : Option (List V)) (h : AHeap) : Option AHeap :=
  match x, vs with
  | .ptr i o, some vs => (setC n (h.get i) o vs).map fun ob => h.set i ob
  | _, _ => none
theorem aStore_eq : aStore P t x v h = storeGo (sizeT P t) x v.cells h := by
  unfold aStore storeGo
  cases x <;> try rfl
  rename_i i o
  cases v.cells with
  | none => rfl
  | some vs =>
    simp only [setC]
    cases h.get i <;> cases sizeT P t <;> simp
    rename_i c e ex n
    by_cases hh : vs.length = n
    · subst hh; split <;> rfl
    · simp [hh]
theorem storeGo_ptr {i o : Nat} {n : Option Nat} {vs : List V} : storeGo n (.ptr i o) (some vs) h = (setC n (h.get i) o vs).map fun ob => h.set i ob := nr rfl
theorem lay_set (c : List V) (o : Nat) (v : V) (ho : o < c.length) : lay c o [v] = c.set o v := by
  unfold lay
  rw [List.set_eq_take_append_cons_drop, if_pos ho]
  simp
theorem lay_cons (v : V) (vs c : List V) (o : Nat) (hl : o + (vs.length + 1) ≤ c.length) : lay c o (v :: vs) = lay (c.set o v) (o + 1) vs := by
  have ho : o < c.length := by omega
  have hc : c.set o v = c.take o ++ v :: c.drop (o + 1) := by rw [List.set_eq_take_append_cons_drop, if_pos ho]
  have hlen : (c.take o).length = o := by simp; omega
  unfold lay
  rw [hc]
  have e1 : (c.take o ++ v :: c.drop (o + 1)).take (o + 1) = c.take o ++ [v] := by
    rw [List.take_append, hlen, List.take_of_length_le (by omega), show o + 1 - o = 1 by omega]
    rfl
  have e2 : (c.take o ++ v :: c.drop (o + 1)).drop (o + 1 + vs.length) = c.drop (o + (vs.length + 1)) := by
    rw [List.drop_append, hlen, List.drop_eq_nil_of_le (by omega), show o + 1 + vs.length - o = vs.length + 1 by omega]
    rw [List.drop_succ_cons, List.drop_drop, List.nil_append]
    congr 1
    omega
  rw [e1, e2]
  simp
theorem lay_setAll : ∀ (vs c : List V) (o : Nat), o + vs.length ≤ c.length → lay c o vs = setAll c o vs
  | [], c, o, _ => by simp [lay, setAll]
  | v :: vs, c, o, hl => by
    have hl' : o + (vs.length + 1) ≤ c.length := by simpa using hl
    unfold setAll
    rw [lay_cons v vs c o hl', lay_setAll vs (c.set o v) (o + 1) (by simp; omega)]
theorem setC_one {c : List V} {e : TypeId} {ex : Option Nat} {o : Nat} (hv : v.one = true) : setC (some 1) (.cells c e ex) o [v] = if o < c.length then some (.cells (c.set o v) e ex) else none := by
  simp only [setC, List.length_cons, List.length_nil, all_cons, all_nil, hv, Bool.and_self, true_and]
  by_cases ho : o < c.length
  · have : (0 + 1 = 1 ∧ o + 1 ≤ c.length) := ⟨rfl, ho⟩
    rw [if_pos ho]
    simp [this.2, lay_set _ _ _ ho]
  · rw [if_neg ho]
    simp
    omega
theorem setC_row {c vs : List V} {e : TypeId} {ex : Option Nat} {o n : Nat} (hn : vs.length = n) (hv : vs.all (·.one) = true) : setC (some n) (.cells c e ex) o vs = if o + n ≤ c.length then some (.cells (setAll c o vs) e ex) else none := by
  simp only [setC, hn, hv, true_and]
  by_cases ho : o + n ≤ c.length
  · rw [if_pos ho, if_pos ho, lay_setAll _ _ _ (by omega)]
  · rw [if_neg ho, if_neg ho]
theorem setAll_nil {c : List V} {o : Nat} : setAll c o [] = c := nr rfl
theorem setAll_cons {c r : List V} {o : Nat} : setAll c o (v :: r) = setAll (c.set o v) (o + 1) r := nr rfl

theorem aAlloc_eq : aAlloc P e h = (zeroC P e).map fun zs => (.ptr h.n 0, h.push (.cells zs e none)) := by
  unfold aAlloc; cases zeroC P e <;> rfl
theorem aBox_eq : aBox e x h = x.cells.map fun cs => (.ptr h.n 0, h.push (.cells cs e none)) := by
  unfold aBox; cases x.cells <;> rfl

def slSz (P : Program) (t : TypeId) : Option Nat := match P.underlying t with | some (.slice e) => sizeT P e | _ => none
def arSz (P : Program) (t : TypeId) : Option (Nat × Nat) := match P.underlying t with | some (.array n e) => (sizeT P e).map fun s => (n, s) | _ => none
def ixGo (sl : Option Nat) (ar : Option (Nat × Nat)) (x : V) (n : Int) : Option V :=
  match sl, ar, x with
  | some sz, _, .sl i o len _ => if 0 ≤ n ∧ n < len then some (.ptr i (o + n.toNat * sz)) else none
  | some sz, _, .imm len cs => if 0 ≤ n ∧ n < len ∧ n.toNat * sz ≤ cs.length then some (.at (cs.drop (n.toNat * sz))) else none
  | _, some (len, sz), .ptr i o => if 0 ≤ n ∧ n < len then some (.ptr i (o + n.toNat * sz)) else none
  | _, some (len, sz), .at cs => if 0 ≤ n ∧ n < len ∧ n.toNat * sz ≤ cs.length then some (.at (cs.drop (n.toNat * sz))) else none
  | _, _, _ => none
theorem aIndexAddr_eq {kk : IntKind} {n : Int} : aIndexAddr P t x (.int kk n) = ixGo (slSz P t) (arSz P t) x n := by
  unfold aIndexAddr slSz arSz
  cases P.underlying t with
  | none => rfl
  | some d =>
    cases d <;> try rfl
    · rename_i e
      simp only
      cases hs : sizeT P e with
      | none => cases x <;> simp [ixGo, hs]
      | some sz => cases x <;> simp [ixGo, hs]
    · rename_i len e
      simp only
      cases hs : sizeT P e with
      | none => cases x <;> simp [ixGo, hs]
      | some sz => cases x <;> simp [ixGo, hs]
theorem ixGo_sl {i o len cap sz : Nat} {ar : Option (Nat × Nat)} {n : Int} : ixGo (some sz) ar (.sl i o len cap) n = if 0 ≤ n ∧ n < len then some (.ptr i (o + n.toNat * sz)) else none := nr rfl
theorem ixGo_imm {len sz : Nat} {cs : List V} {ar : Option (Nat × Nat)} {n : Int} : ixGo (some sz) ar (.imm len cs) n = if 0 ≤ n ∧ n < len ∧ n.toNat * sz ≤ cs.length then some (.at (cs.drop (n.toNat * sz))) else none := nr rfl
theorem ixGo_ptr {i o len sz : Nat} {n : Int} : ixGo none (some (len, sz)) (.ptr i o) n = if 0 ≤ n ∧ n < len then some (.ptr i (o + n.toNat * sz)) else none := nr rfl
theorem ixGo_at {len sz : Nat} {cs : List V} {n : Int} : ixGo none (some (len, sz)) (.at cs) n = if 0 ≤ n ∧ n < len ∧ n.toNat * sz ≤ cs.length then some (.at (cs.drop (n.toNat * sz))) else none := nr rfl

/-- The length of what has one. -/
def lenGo (kind : Option Nat) (x : V) (h : AHeap) : Option V :=
  match kind, x with
  | some 1, .sl _ _ n _ => some (.int .i64 n)
  | some 1, .imm n _ => some (.int .i64 n)
  | some 1, .snil => some (.int .i64 0)
  | some 1, .z0 => some (.int .i64 0)
  | some 2, .mnil => some (.int .i64 0)
  | some 2, .map i => match h.get i with
    | .map es _ => some (.int .i64 es.length)
    | _ => none
  | _, _ => none
theorem aLen_go {kind : Nat} (hk : kindT P t = some kind) (h12 : kind = 1 ∨ kind = 2) : aLen P t x h = lenGo (some kind) x h := by
  obtain ⟨d, hu, hd⟩ := kindT_eq hk
  unfold aLen
  rw [hu]
  cases d <;> simp [descKind] at hd <;> subst hd <;> simp at h12
  all_goals cases x <;> try rfl
theorem lenGo_sl {i o n c : Nat} : lenGo (some 1) (.sl i o n c) h = some (.int .i64 n) := nr rfl
theorem lenGo_imm {n : Nat} {cs : List V} : lenGo (some 1) (.imm n cs) h = some (.int .i64 n) := nr rfl
theorem lenGo_snil : lenGo (some 1) .snil h = some (.int .i64 0) := nr rfl
theorem lenGo_z0 : lenGo (some 1) .z0 h = some (.int .i64 0) := nr rfl
theorem aLen_sl (hk : kindT P t = some 1) {i o n c : Nat} : aLen P t (.sl i o n c) h = some (.int .i64 n) := aLen_go hk (.inl rfl)
theorem aLen_imm (hk : kindT P t = some 1) {n : Nat} {cs : List V} : aLen P t (.imm n cs) h = some (.int .i64 n) := aLen_go hk (.inl rfl)
theorem aLen_snil (hk : kindT P t = some 1) : aLen P t .snil h = some (.int .i64 0) := aLen_go hk (.inl rfl)
theorem aLen_z0 (hk : kindT P t = some 1) : aLen P t .z0 h = some (.int .i64 0) := aLen_go hk (.inl rfl)
theorem aLen_mnil (hk : kindT P t = some 2) : aLen P t .mnil h = some (.int .i64 0) := aLen_go hk (.inr rfl)
theorem aLen_map (hk : kindT P t = some 2) {i : Nat} {es : List (Nat × V × V)} {c : Nat} (hg : h.get i = .map es c) : aLen P t (.map i) h = some (.int .i64 es.length) := by
  rw [aLen_go hk (.inr rfl)]; simp [lenGo, hg]
def strT (P : Program) (t : TypeId) : Bool := match P.underlying t with | some .string => true | _ => false
theorem aLen_str (hk : strT P t = true) {s : ByteArray} : aLen P t (.string s) h = some (.int .i64 s.size) := by
  unfold strT at hk
  split at hk
  · rename_i hu; unfold aLen; rw [hu]
  · cases hk

/-! ### Slices of one's own -/
structure SlT where
  e : TypeId
  zs : List V
  sz : Nat
  bs : Nat
def slT (P : Program) (t : TypeId) : Option SlT :=
  match elemT P t with
  | none => none
  | some e => match zeroC P e, sizeT P e, bytesT P e with
    | some zs, some sz, some bs => if zs.length = sz then some ⟨e, zs, sz, bs⟩ else none
    | _, _, _ => none
theorem slT_eq {T : SlT} (hT : slT P t = some T) : elemT P t = some T.e ∧ zeroC P T.e = some T.zs ∧ sizeT P T.e = some T.sz ∧ bytesT P T.e = some T.bs ∧ T.zs.length = T.sz ∧ P.underlying t = some (.slice T.e) := by
  unfold slT at hT
  split at hT
  · cases hT
  · rename_i e he
    split at hT
    · rename_i zs sz bs h1 h2 h3
      split at hT
      · rename_i hl
        simp at hT
        subst hT
        refine ⟨he, h1, h2, h3, hl, ?_⟩
        unfold elemT at he
        split at he
        · rename_i hu; rw [hu]; simpa using he
        · cases he
      · cases hT
    · cases hT
end
end Go.Proofs.YtfcjehlhoebmnaaGreatDoor.Ab

namespace Go.Proofs.YtfcjehlhoebmnaaGreatDoor.Ab
open Go Go.RowKit
set_option linter.unusedVariables false

/-! ### What a call keeps -/
structure Keep (h h' : AHeap) (own : Nat → Prop) : Prop where
  n : h.n ≤ h'.n
  get : ∀ j, j < h.n → ¬ own j → h'.get j = h.get j
  glob : h'.glob = h.glob
def none_ : Nat → Prop := fun _ => False
theorem Keep.refl (h : AHeap) (own : Nat → Prop) : Keep h h own := ⟨Nat.le_refl _, fun _ _ _ => rfl, rfl⟩
theorem Keep.trans {h h1 h2 : AHeap} {o o1 : Nat → Prop} (a : Keep h h1 o) (b : Keep h1 h2 o1) (ho : ∀ k, k < h.n → o1 k → o k) : Keep h h2 o :=
  ⟨Nat.le_trans a.n b.n, fun j hj hne => (b.get j (Nat.lt_of_lt_of_le hj a.n) fun hc => hne (ho j hj hc)).trans (a.get j hj hne), b.glob.trans a.glob⟩
theorem Keep.trans' {h h1 h2 : AHeap} {o : Nat → Prop} (a : Keep h h1 o) (b : Keep h1 h2 o) : Keep h h2 o := a.trans b fun _ _ h => h
theorem Keep.mono {h h' : AHeap} {o o' : Nat → Prop} (a : Keep h h' o) (hm : ∀ k, o k → o' k) : Keep h h' o' := ⟨a.n, fun j hj hne => a.get j hj fun hc => hne (hm j hc), a.glob⟩
theorem Keep.up {h h' : AHeap} {o : Nat → Prop} (a : Keep h h' none_) : Keep h h' o := a.mono fun _ h => h.elim
theorem Keep.push (h : AHeap) (o : AObj) (own : Nat → Prop) : Keep h (h.push o) own := ⟨by simp [AHeap.push], fun j hj _ => by simp [AHeap.push, show j ≠ h.n by omega], rfl⟩
theorem Keep.set (h : AHeap) (i : Nat) (o : AObj) : Keep h (h.set i o) (· = i) := ⟨Nat.le_refl _, fun j hj hne => by simp [AHeap.set]; intro hh; exact absurd hh hne, rfl⟩
theorem Keep.setNew {h0 h : AHeap} {own : Nat → Prop} (k : Keep h0 h own) {i : Nat} (hi : h0.n ≤ i) (o : AObj) : Keep h0 (h.set i o) own :=
  k.trans (Keep.set h i o) fun j hj hc => by omega
theorem Keep.then_push {h0 h : AHeap} {own : Nat → Prop} (k : Keep h0 h own) (o : AObj) : Keep h0 (h.push o) own := k.trans' (Keep.push h o own)

def idOf : V → Option Nat
  | .sl i _ _ _ => some i
  | _ => none
def isId (v : V) : Nat → Prop := fun k => idOf v = some k

/-! ### Slices of the call's own -/
def Own (h : AHeap) (e : TypeId) (sz : Nat) (v : V) (cs : List V) : Prop :=
  ((v = .snil ∨ v = .z0) ∧ cs = []) ∨
  ∃ i len cap c ex, v = .sl i 0 len cap ∧ i < h.n ∧ h.get i = .cells c e ex ∧ cs.length = len * sz ∧ c.take (len * sz) = cs ∧
    ((cap < unk ∧ cap * sz ≤ c.length ∧ len ≤ cap) ∨ (cap = unk ∧ ex = some sz))
theorem Own.snil (h : AHeap) (e : TypeId) (sz : Nat) : Own h e sz .snil [] := .inl ⟨.inl rfl, rfl⟩
theorem Own.z0 (h : AHeap) (e : TypeId) (sz : Nat) : Own h e sz .z0 [] := .inl ⟨.inr rfl, rfl⟩
theorem Own.keep {h h' : AHeap} {e : TypeId} {sz : Nat} {v : V} {cs : List V} {own : Nat → Prop} (ho : Own h e sz v cs) (hk : Keep h h' own) (hne : ∀ k, idOf v = some k → ¬ own k) : Own h' e sz v cs := by
  rcases ho with ho | ⟨i, len, cap, c, ex, rfl, hi, hg, rest⟩
  · exact .inl ho
  · exact .inr ⟨i, len, cap, c, ex, rfl, Nat.lt_of_lt_of_le hi hk.n, (hk.get i hi (hne i rfl)).trans hg, rest⟩
theorem Own.keepN {h h' : AHeap} {e : TypeId} {sz : Nat} {v : V} {cs : List V} (ho : Own h e sz v cs) (hk : Keep h h' none_) : Own h' e sz v cs := ho.keep hk fun _ _ h => h
theorem Own.lt {h : AHeap} {e : TypeId} {sz : Nat} {v : V} {cs : List V} (ho : Own h e sz v cs) : ∀ k, idOf v = some k → k < h.n := by
  intro k hk
  rcases ho with ⟨rfl | rfl, _⟩ | ⟨i, len, cap, c, ex, rfl, hi, _⟩
  · simp [idOf] at hk
  · simp [idOf] at hk
  · simp [idOf] at hk; omega
theorem Own.fresh {h : AHeap} {e : TypeId} {sz : Nat} (c : List V) (len cap : Nat) (hc : c.length = cap * sz) (hl : len ≤ cap) (hu : cap < unk) :
    Own (h.push (.cells c e none)) e sz (.sl h.n 0 len cap) (c.take (len * sz)) :=
  .inr ⟨h.n, len, cap, c, none, rfl, by simp [AHeap.push], by simp [AHeap.push], by rw [List.length_take, hc]; exact Nat.min_eq_left (Nat.mul_le_mul_right _ hl), rfl, .inl ⟨hu, by omega, hl⟩⟩
theorem Own.grown {h : AHeap} {e : TypeId} {sz i len : Nat} {cs : List V} (hi : i < h.n) (hg : h.get i = .cells cs e (some sz)) (hl : cs.length = len * sz) :
    Own h e sz (.sl i 0 len unk) cs :=
  .inr ⟨i, len, unk, cs, some sz, rfl, hi, hg, hl, by rw [← hl]; exact List.take_length, .inr ⟨rfl, rfl⟩⟩
/-- What a call may do to slices of its own: it goes on with them, or with new ones. -/
def NewOr (h : AHeap) (a b : V) : Prop := idOf b = idOf a ∨ ∀ k, idOf b = some k → h.n ≤ k

theorem append_own {P : Program} {t tx : TypeId} {T : SlT} (hT : slT P t = some T) (hpos : 0 < T.sz)
    {h : AHeap} {s x : V} {cs : List V} (ho : Own h T.e T.sz s cs) {n : Nat} {news : List V} (hsrc : aSrc P T.sz tx x h = some (n, news)) (hn : news.length = n * T.sz)
    (h1 : (cs.length + news.length) * T.bs ≤ lim) (h2 : cs.length + news.length ≤ lim) :
    ∃ v h', aAppend P t tx s x h = some (v, h') ∧ Own h' T.e T.sz v (cs ++ news) ∧ Keep h h' (isId s) ∧ NewOr h s v := by
  obtain ⟨he, hz, hsz, hbs, hzs, _⟩ := slT_eq hT
  unfold aAppend
  simp only [he, hz, hsz, hbs, hzs, if_true, hsrc]
  have start : ∀ s : V, (s = .snil ∨ s = .z0) → cs = [] → ∃ v h', (if n = 0 then some (s, h) else if n * T.bs ≤ lim ∧ n ≤ lim then some (.sl h.n 0 n unk, h.push (.cells news T.e (some T.sz))) else none) = some (v, h') ∧ Own h' T.e T.sz v (cs ++ news) ∧ Keep h h' (isId s) ∧ NewOr h s v := fun s hs hcs => by
    subst hcs
    by_cases h0 : n = 0
    · subst h0
      have : news = [] := List.eq_nil_of_length_eq_zero (by simpa using hn)
      subst this
      exact ⟨s, h, by simp, .inl ⟨hs, rfl⟩, Keep.refl _ _, .inl rfl⟩
    · have hn1 : n ≤ news.length := by rw [hn]; exact Nat.le_mul_of_pos_right n hpos
      have c1 : n * T.bs ≤ lim := Nat.le_trans (Nat.mul_le_mul_right T.bs (by omega)) h1
      have c2 : n ≤ lim := by omega
      exact ⟨.sl h.n 0 n unk, h.push (.cells news T.e (some T.sz)), by simp [h0, c1, c2], Own.grown (by simp [AHeap.push]) (by simp [AHeap.push]) (by simpa using hn), Keep.push _ _ _, .inr fun k hk => by simp [idOf] at hk; omega⟩
  rcases ho with ⟨rfl | rfl, hcs⟩ | ⟨i, len, cap, c, ex, rfl, hi, hg, hlen, htake, hcap⟩
  · exact start _ (.inl rfl) hcs
  · exact start _ (.inr rfl) hcs
  · by_cases h0 : n = 0
    · subst h0
      have : news = [] := List.eq_nil_of_length_eq_zero (by simpa using hn)
      subst this
      exact ⟨.sl i 0 len cap, h, by simp, by rw [List.append_nil]; exact .inr ⟨i, len, cap, c, ex, rfl, hi, hg, hlen, htake, hcap⟩, Keep.refl _ _, .inl rfl⟩
    · have hn1 : len + n ≤ cs.length + news.length := by
        rw [hn, hlen, ← Nat.add_mul]; exact Nat.le_mul_of_pos_right _ hpos
      have c1 : (len + n) * T.bs ≤ lim := Nat.le_trans (Nat.mul_le_mul_right T.bs hn1) h1
      have c2 : len + n ≤ lim := by omega
      have hcl : len * T.sz ≤ c.length := by
        have := congrArg List.length htake
        rw [List.length_take, hlen] at this
        omega
      simp only [h0, c1, c2, and_self, if_true, if_false, hg]
      rcases hcap with ⟨hcu, hclen, hle⟩ | ⟨rfl, rfl⟩
      · simp only [hcu, if_true]
        by_cases hroom : len + n ≤ cap
        · have hfit : 0 + (len + n) * T.sz ≤ c.length := by rw [Nat.zero_add]; exact Nat.le_trans (Nat.mul_le_mul_right _ hroom) hclen
          have hll : (lay c (len * T.sz) news).length = c.length := length_lay _ _ _ (by rw [hn, ← Nat.add_mul]; omega)
          simp only [hroom, if_true, hfit]
          refine ⟨_, _, rfl, .inr ⟨i, len + n, cap, lay c (0 + len * T.sz) news, ex, rfl, hi, by simp [AHeap.set], by simp [hlen, hn, Nat.add_mul], ?_, .inl ⟨hcu, ?_, hroom⟩⟩, ⟨Nat.le_refl _, fun j hj hne => ?_, rfl⟩, .inl rfl⟩
          · simp only [Nat.zero_add, lay, htake, Nat.add_mul, ← hn]
            have : (cs ++ news).length = len * T.sz + news.length := by simp [hlen]
            rw [← this]
            exact List.take_left
          · rw [Nat.zero_add, hll]; exact hclen
          · simp only [AHeap.set]
            rw [if_neg (by intro hji; subst hji; simp [isId, idOf] at hne)]
        · simp only [hroom, if_false]
          have hread : 0 + len * T.sz ≤ c.length := by omega
          simp only [hread, if_true, List.drop_zero, htake]
          exact ⟨_, _, rfl, Own.grown (by simp [AHeap.push]) (by simp [AHeap.push]) (by simp [hlen, hn, Nat.add_mul]), Keep.push _ _ _, .inr fun k hk => by simp [idOf] at hk; omega⟩
      · simp only [Nat.lt_irrefl, if_false, true_and, hcl, and_self, if_true]
        refine ⟨_, _, rfl, Own.grown (by simp [AHeap.push, AHeap.set]) (by simp [AHeap.push, AHeap.set, htake]) (by simp [hlen, hn, Nat.add_mul]), ⟨by simp [AHeap.push, AHeap.set], fun j hj hne => ?_, rfl⟩, .inr fun k hk => by simp [idOf] at hk; omega⟩
        have h1 : j ≠ i := by intro hji; subst hji; simp [isId, idOf] at hne
        have h2 : j ≠ h.n := by omega
        simp [AHeap.push, AHeap.set, h1, h2]

/-- What is appended when it is an own slice, or a read-only one. -/
theorem Own.src {P : Program} {t e : TypeId} {h : AHeap} {sz : Nat} {v : V} {cs : List V} (ho : Own h e sz v cs) (hk : kindT P t = some 1) (hone : cs.all (·.one) = true) (hsz : 0 < sz) :
    ∃ n, aSrc P sz t v h = some (n, cs) ∧ cs.length = n * sz := by
  obtain ⟨d, hu, hd⟩ := kindT_eq hk
  cases d <;> simp [descKind] at hd
  rcases ho with ⟨rfl | rfl, rfl⟩ | ⟨i, len, cap, c, ex, rfl, hi, hg, hlen, htake, _⟩
  · exact ⟨0, by simp [aSrc, hu], by simp⟩
  · exact ⟨0, by simp [aSrc, hu], by simp⟩
  · refine ⟨len, ?_, hlen⟩
    have hcl : len * sz ≤ c.length := by
      have := congrArg List.length htake
      rw [List.length_take, hlen] at this
      omega
    simp only [aSrc, hu, hg, List.drop_zero, htake, hone, Nat.zero_add]
    rw [if_pos ⟨hcl, trivial⟩]
theorem imm_src {P : Program} {t : TypeId} {h : AHeap} {sz n : Nat} {cs : List V} (hk : kindT P t = some 1) (hl : cs.length = n * sz) (hone : cs.all (·.one) = true) : aSrc P sz t (.imm n cs) h = some (n, cs) := by
  obtain ⟨d, hu, hd⟩ := kindT_eq hk
  cases d <;> simp [descKind] at hd
  simp only [aSrc, hu]
  rw [if_pos ⟨hl, hone⟩]

/-- One element: a new slice of it. -/
theorem made1 {α : Type} (z : List α) : made z 1 = z := by simp [made]
theorem setAll_whole : ∀ (vs c : List V), vs.length = c.length → setAll c 0 vs = vs := by
  intro vs c hl
  rw [← lay_setAll vs c 0 (by omega)]
  unfold lay
  simp [hl]
theorem slice1 {P : Program} {t : TypeId} {T : SlT} (hT : slT P t = some T) {x : V} {xs : List V} (hx : x.cells = some xs) (hl : xs.length = T.sz) (hs : T.sz ≤ 16777216) {h : AHeap} :
    aBuildSlice P t 1 [(0, x)] h = some (.sl h.n 0 1 1, h.push (.cells xs T.e none)) := by
  obtain ⟨he, hz, hsz, hbs, hzs, _⟩ := slT_eq hT
  unfold aBuildSlice
  simp only [he, hsz, hz, hzs, made1, Nat.one_mul]
  rw [if_pos ⟨trivial, by omega, by omega⟩]
  simp only [aFill, hx, Nat.zero_mul, Nat.zero_add]
  rw [if_pos ⟨hl, by omega⟩, setAll_whole _ _ (by omega)]
theorem append_elem {P : Program} {t : TypeId} {T : SlT} (hT : slT P t = some T) (hpos : 0 < T.sz)
    {h : AHeap} {s : V} {cs xs : List V} (ho : Own h T.e T.sz s cs) (hl : xs.length = T.sz) (hone : xs.all (·.one) = true)
    (h1 : (cs.length + T.sz) * T.bs ≤ lim) (h2 : cs.length + T.sz ≤ lim) :
    ∃ v h', aAppend P t t s (.sl h.n 0 1 1) (h.push (.cells xs T.e none)) = some (v, h') ∧ Own h' T.e T.sz v (cs ++ xs) ∧ Keep h h' (isId s) ∧ NewOr h s v := by
  obtain ⟨he, hz, hsz, hbs, hzs, hu⟩ := slT_eq hT
  have hk := Keep.push h (.cells xs T.e none) none_
  have hsrc : aSrc P T.sz t (.sl h.n 0 1 1) (h.push (.cells xs T.e none)) = some (1, xs) := by
    simp only [aSrc, hu, AHeap.push, if_true, Nat.one_mul, Nat.zero_add, List.drop_zero]
    rw [List.take_of_length_le (by omega), if_pos ⟨by omega, hone⟩]
  obtain ⟨v, h', ha, ho', hk', hid⟩ := append_own (tx := t) hT hpos (ho.keepN hk) hsrc (by omega) (by rw [hl]; exact h1) (by rw [hl]; exact h2)
  refine ⟨v, h', ha, ho', (hk.up).trans' hk', hid.imp id fun hh k hk2 => ?_⟩
  have := hh k hk2
  simp [AHeap.push] at this
  omega

/-- An own slice that the call itself made: h0 is the memory as it found it. -/
structure Acc (h0 h : AHeap) (e : TypeId) (sz : Nat) (v : V) (cs : List V) : Prop where
  own : Own h e sz v cs
  keep : Keep h0 h none_
  new : ∀ k, idOf v = some k → h0.n ≤ k
theorem Acc.nil {h0 h : AHeap} {e : TypeId} {sz : Nat} (k : Keep h0 h none_) : Acc h0 h e sz .snil [] := ⟨Own.snil _ _ _, k, by simp [idOf]⟩
theorem Acc.elem {P : Program} {t : TypeId} {T : SlT} (hT : slT P t = some T) {h0 h : AHeap} {s : V} {cs xs : List V} (a : Acc h0 h T.e T.sz s cs) (hpos : 0 < T.sz) (hl : xs.length = T.sz) (hone : xs.all (·.one) = true)
    (h1 : (cs.length + T.sz) * T.bs ≤ lim) (h2 : cs.length + T.sz ≤ lim) :
    ∃ v h', aAppend P t t s (.sl h.n 0 1 1) (h.push (.cells xs T.e none)) = some (v, h') ∧ Acc h0 h' T.e T.sz v (cs ++ xs) := by
  obtain ⟨v, h', ha, ho', hk', hid⟩ := append_elem hT hpos a.own hl hone h1 h2
  refine ⟨v, h', ha, ho', a.keep.trans hk' fun k hk hc => ?_, fun k hk => ?_⟩
  · have := a.new k hc; omega
  · rcases hid with hid | hid
    · exact a.new k (hid ▸ hk)
    · exact Nat.le_trans a.keep.n (hid k hk)
theorem Acc.app {P : Program} {t tx : TypeId} {T : SlT} (hT : slT P t = some T) {h0 h : AHeap} {s x : V} {cs news : List V} (a : Acc h0 h T.e T.sz s cs) (hpos : 0 < T.sz) {n : Nat} (hsrc : aSrc P T.sz tx x h = some (n, news)) (hn : news.length = n * T.sz)
    (h1 : (cs.length + news.length) * T.bs ≤ lim) (h2 : cs.length + news.length ≤ lim) :
    ∃ v h', aAppend P t tx s x h = some (v, h') ∧ Acc h0 h' T.e T.sz v (cs ++ news) := by
  obtain ⟨v, h', ha, ho', hk', hid⟩ := append_own hT hpos a.own hsrc hn h1 h2
  refine ⟨v, h', ha, ho', a.keep.trans hk' fun k hk hc => ?_, fun k hk => ?_⟩
  · have := a.new k hc; omega
  · rcases hid with hid | hid
    · exact a.new k (hid ▸ hk)
    · exact Nat.le_trans a.keep.n (hid k hk)
theorem Own.length {h : AHeap} {e : TypeId} {v : V} {cs : List V} {sz : Nat} (ho : Own h e sz v cs) (hsz : 0 < sz) (P : Program) {t : TypeId} (hk : kindT P t = some 1) : aLen P t v h = some (.int .i64 (cs.length / sz : Nat)) := by
  rcases ho with ⟨rfl | rfl, rfl⟩ | ⟨i, len, cap, c, ex, rfl, hi, hg, hlen, _⟩
  · rw [aLen_snil hk]; simp
  · rw [aLen_z0 hk]; simp
  · rw [aLen_sl hk, hlen, Nat.mul_div_cancel _ hsz]

/-! ### Freezing, and forgetting -/
theorem Cast.refl (r : V) (h : AHeap) : Cast r h r h := fun ρ B w0 w r' hw hv => ⟨ρ, Ren.le.refl ρ, hw, hv⟩
theorem Cast.trans {r r1 r2 : V} {h h1 h2 : AHeap} (a : Cast r h r1 h1) (b : Cast r1 h1 r2 h2) : Cast r h r2 h2 := fun ρ B w0 w r' hw hv =>
  let ⟨ρ1, l1, w1, v1⟩ := a ρ B w0 w r' hw hv
  let ⟨ρ2, l2, w2, v2⟩ := b ρ1 B w0 w r' w1 v1
  ⟨ρ2, l1.trans l2, w2, v2⟩
/-- An own slice is told as one that is only read. -/
theorem Cast.own {h : AHeap} {e : TypeId} {sz : Nat} {v : V} {cs : List V} (ho : Own h e sz v cs) {n : Nat} (hn : cs.length = n * sz) (hsz : 0 < sz) : ∃ h2, Cast v h (.imm n cs) h2 ∧ Keep h h2 (isId v) := by
  rcases ho with ⟨rfl | rfl, rfl⟩ | ⟨i, len, cap, c, ex, rfl, hi, hg, hlen, htake, hcap⟩
  · have h0 : n = 0 := by
      have : n * sz = 0 := by simpa using hn.symm
      rcases Nat.mul_eq_zero.1 this with h | h <;> omega
    subst h0
    refine ⟨h, fun ρ B w0 w r' hw hv => ⟨ρ, Ren.le.refl ρ, hw, ?_⟩, Keep.refl _ _⟩
    cases hv
    exact .immZ none 0 (by simp)
  · have h0 : n = 0 := by
      have : n * sz = 0 := by simpa using hn.symm
      rcases Nat.mul_eq_zero.1 this with h | h <;> omega
    subst h0
    exact ⟨h, fun ρ B w0 w r' hw hv => by
      cases hv with
      | z0 a ha => exact ⟨ρ, Ren.le.refl ρ, hw, .immZ a 0 (by simp)⟩, Keep.refl _ _⟩
  · have hnl : n = len := by
      have : n * sz = len * sz := by omega
      exact Nat.eq_of_mul_eq_mul_right hsz this
    subst hnl
    refine ⟨h.set i .dead, fun ρ B w0 w r' hw hv => ?_, (Keep.set h i .dead).mono fun k hk => by subst hk; rfl⟩
    obtain ⟨ρ', hle, hw', b, cp, arr, hr, hf, hc, hl⟩ := hw.freeze hg
    obtain ⟨b2, cp2, hi2, hl2, rfl⟩ := hv.sl_inv
    rw [hr] at hi2
    simp at hi2
    obtain ⟨rfl, rfl⟩ := hi2
    have hcl : n * sz ≤ c.length := by
      have := congrArg List.length htake
      rw [List.length_take, hlen] at this
      omega
    refine ⟨ρ', hle, hw', .imm 0 n _ hf hl2 (by rw [hlen]; omega) fun k v v' h1 h2 => ?_⟩
    have hk : k < n * sz := by rw [← hlen]; exact (List.getElem?_eq_some_iff.1 h1).1
    rw [← htake, List.getElem?_take, if_pos hk] at h1
    refine (hl.2 k v v' h1 ?_).mono hle
    rw [List.getElem?_take, if_pos (by omega), Array.getElem?_toList]
    simpa using h2
end Go.Proofs.YtfcjehlhoebmnaaGreatDoor.Ab

namespace Go.Proofs.YtfcjehlhoebmnaaGreatDoor.Ab
open Go Go.RowKit
set_option linter.unusedVariables false

/-! ### Several values told otherwise -/
def CastL (l : List V) (h : AHeap) (l2 : List V) (h2 : AHeap) : Prop :=
  ∀ (ρ : Ren) (B : Nat) (w0 w : World) (l' : List Value), WRel ρ B w0 h w → LRel ρ l l' → ∃ ρ', ρ.le ρ' ∧ WRel ρ' B w0 h2 w ∧ LRel ρ' l2 l'
theorem CastL.refl (l : List V) (h : AHeap) : CastL l h l h := fun ρ B w0 w l' hw hl => ⟨ρ, Ren.le.refl ρ, hw, hl⟩
theorem CastL.cons {v v2 : V} {l l2 : List V} {h h1 h2 : AHeap} (a : Cast v h v2 h1) (b : CastL l h1 l2 h2) : CastL (v :: l) h (v2 :: l2) h2 := fun ρ B w0 w l' hw hl => by
  obtain ⟨v', t', rfl, hv, ht⟩ := hl.uncons
  obtain ⟨ρ1, l1, w1, v1⟩ := a ρ B w0 w v' hw hv
  obtain ⟨ρ2, l2, w2, v2⟩ := b ρ1 B w0 w t' w1 (ht.mono l1)
  exact ⟨ρ2, l1.trans l2, w2, .cons (v1.mono l2) v2⟩
theorem Cast.tuple {l l2 : List V} {h h2 : AHeap} (a : CastL l h l2 h2) : Cast (.tuple l) h (.tuple l2) h2 := fun ρ B w0 w r' hw hv => by
  cases hv with
  | tuple hs hx =>
    obtain ⟨ρ1, l1, w1, v1⟩ := a ρ B w0 w _ hw (ARel.list ⟨hs, hx⟩)
    exact ⟨ρ1, l1, w1, v1.arr'.tuple⟩

/-! ### Values without names of one's own -/
def Clo (v : V) : Prop := ∀ (ρ ρ' : Ren) (v' : Value), VRel ρ v v' → (∀ b a, ρ.frz b = some a → ρ'.frz b = some a) → VRel ρ' v v'
def CloL (l : List V) : Prop := ∀ v ∈ l, Clo v
theorem CloL.nil : CloL [] := by simp [CloL]
theorem CloL.cons {v : V} {l : List V} (h : Clo v) (g : CloL l) : CloL (v :: l) := by
  intro x hx
  rcases List.mem_cons.1 hx with rfl | hx
  · exact h
  · exact g x hx
theorem CloL.append {l m : List V} (h : CloL l) (g : CloL m) : CloL (l ++ m) := by
  intro x hx
  rcases List.mem_append.1 hx with hx | hx
  · exact h x hx
  · exact g x hx
theorem CloL.flatMap {α : Type} {f : α → List V} {l : List α} (h : ∀ x ∈ l, CloL (f x)) : CloL (l.flatMap f) := by
  intro v hv
  obtain ⟨x, hx, hv⟩ := List.mem_flatMap.1 hv
  exact h x hx v hv
theorem CloL.map {α : Type} {f : α → V} {l : List α} (h : ∀ x ∈ l, Clo (f x)) : CloL (l.map f) := by
  intro v hv
  obtain ⟨x, hx, rfl⟩ := List.mem_map.1 hv
  exact h x hx
theorem Clo.flat {v : V} {a : Value} (h : flatV v = some a) : Clo v := fun ρ ρ' v' hv _ => by
  have := flatV_eq hv h
  subst this
  cases hv <;> simp [flatV] at h <;> first | (constructor; done) | skip
  rename_i xs xs' hs hx
  cases xs with
  | nil => exact .tuple hs (by simp)
  | cons x t => simp at h
theorem Clo.int (k : IntKind) (n : Int) : Clo (.int k n) := Clo.flat rfl
theorem Clo.bool (b : Bool) : Clo (.bool b) := Clo.flat rfl
theorem Clo.string (s : ByteArray) : Clo (.string s) := Clo.flat rfl
theorem Clo.pnil : Clo .pnil := Clo.flat rfl
theorem Clo.snil : Clo .snil := Clo.flat rfl
theorem Clo.top : Clo .top := fun ρ ρ' v' hv _ => .top _
theorem Clo.imm {n : Nat} {cs : List V} (h : CloL cs) : Clo (.imm n cs) := fun ρ ρ' v' hv hf => by
  rcases hv.imm_inv with ⟨rfl, rfl, a, ca, ha, rfl⟩ | ⟨b, o, cap, arr, hb, hn, ho, hx, rfl⟩
  · exact .immZ a _ ha
  · exact .imm o n cap (hf _ _ hb) hn ho fun k v v' h1 h2 => h v (List.mem_of_getElem? h1) ρ ρ' v' (hx k v v' h1 h2) hf
theorem Clo.at {cs : List V} (h : CloL cs) : Clo (.at cs) := fun ρ ρ' v' hv hf => by
  obtain ⟨b, o, arr, hb, ho, hx, rfl⟩ := hv.at_inv
  exact .at o (hf _ _ hb) ho fun k v v' h1 h2 => h v (List.mem_of_getElem? h1) ρ ρ' v' (hx k v v' h1 h2) hf
theorem Clo.agg {cs : List V} (h : CloL cs) : Clo (.agg cs) := fun ρ ρ' v' hv hf => by
  cases hv with
  | agg hs hx => exact .agg hs fun k v v' h1 h2 => h v (List.mem_of_getElem? h1) ρ ρ' v' (hx k v v' h1 h2) hf
theorem Clo.tuple {cs : List V} (h : CloL cs) : Clo (.tuple cs) := fun ρ ρ' v' hv hf => by
  cases hv with
  | tuple hs hx => exact .tuple hs fun k v v' h1 h2 => h v (List.mem_of_getElem? h1) ρ ρ' v' (hx k v v' h1 h2) hf

/-! ### What a call made and nobody sees is forgotten -/
theorem VRel.join {ρ ρ' : Ren} (hle : ρ.le ρ') {v : V} {a : Value} (h : VRel ρ v a) : ∀ {b : Value}, VRel ρ' v b → VRel ⟨ρ.ren, ρ'.frz, ρ.dfr⟩ v b := by
  induction h with
  | ptr hi o =>
    intro b hb
    obtain ⟨b2, c2, hi2, rfl⟩ := hb.ptr_inv
    rw [hle.ren _ _ hi] at hi2
    simp at hi2
    obtain ⟨rfl, rfl⟩ := hi2
    exact VRel.ptr (ρ := ⟨ρ.ren, ρ'.frz, ρ.dfr⟩) hi o
  | sl hi o len cap hl =>
    intro b hb
    obtain ⟨b2, c2, hi2, hl2, rfl⟩ := hb.sl_inv
    rw [hle.ren _ _ hi] at hi2
    simp at hi2
    obtain ⟨rfl, rfl⟩ := hi2
    exact VRel.sl (ρ := ⟨ρ.ren, ρ'.frz, ρ.dfr⟩) hi o len cap hl
  | map hi =>
    intro b hb
    cases hb with
    | map hi2 =>
      rw [hle.ren _ _ hi] at hi2
      simp at hi2
      obtain ⟨rfl, rfl⟩ := hi2
      exact .map hi
  | @imm bb o n cap arr cs hb hn ho hx ih =>
    intro b hb'
    rcases hb'.imm_inv with ⟨rfl, rfl, a, ca, ha, rfl⟩ | ⟨b2, o2, cap2, arr2, hb2, hn2, ho2, hx2, rfl⟩
    · exact .immZ a _ ha
    · refine .imm o2 n cap2 hb2 hn2 ho2 fun k v v' h1 h2 => ?_
      have hk : k < cs.length := (List.getElem?_eq_some_iff.1 h1).1
      exact ih k v _ h1 (Array.getElem?_eq_getElem (by omega)) (hx2 k v v' h1 h2)
  | @«at» bb o arr cs hb ho hx ih =>
    intro b hb'
    obtain ⟨b2, o2, arr2, hb2, ho2, hx2, rfl⟩ := hb'.at_inv
    refine .at o2 hb2 ho2 fun k v v' h1 h2 => ?_
    have hk : k < cs.length := (List.getElem?_eq_some_iff.1 h1).1
    exact ih k v _ h1 (Array.getElem?_eq_getElem (by omega)) (hx2 k v v' h1 h2)
  | yl h =>
    intro b hb
    cases hb with
    | func _ h0 => cases h0
    | yl h2 =>
      have := hle.ren _ _ h
      rw [h2] at this
      cases this
      exact .yl h
  | func fn h0 hs ht hx hy ix iy =>
    intro b hb
    cases hb with
    | yl h => cases h0
    | func fn h02 hs2 ht2 hx2 hy2 =>
      refine .func fn h0 hs2 ht2 (fun k v v' h1 h2 => ?_) (fun k v v' h1 h2 => ?_)
      · have hk := (List.getElem?_eq_some_iff.1 h1).1
        exact ix k v _ h1 (Array.getElem?_eq_getElem (by omega)) (hx2 k v v' h1 h2)
      · have hk := (List.getElem?_eq_some_iff.1 h1).1
        exact iy k v _ h1 (Array.getElem?_eq_getElem (by omega)) (hy2 k v v' h1 h2)
  | iface t h ih => intro b hb; cases hb with | iface t g => exact .iface t (ih g)
  | agg hs hx ix =>
    intro b hb
    cases hb with
    | agg hs2 hx2 =>
      refine .agg hs2 fun k v v' h1 h2 => ?_
      have hk := (List.getElem?_eq_some_iff.1 h1).1
      exact ix k v _ h1 (Array.getElem?_eq_getElem (by omega)) (hx2 k v v' h1 h2)
  | tuple hs hx ix =>
    intro b hb
    cases hb with
    | tuple hs2 hx2 =>
      refine .tuple hs2 fun k v v' h1 h2 => ?_
      have hk := (List.getElem?_eq_some_iff.1 h1).1
      exact ix k v _ h1 (Array.getElem?_eq_getElem (by omega)) (hx2 k v v' h1 h2)
  | immZ a ca ha =>
    intro b hb
    rcases hb.imm_inv with ⟨_, _, a, ca, ha, rfl⟩ | ⟨b2, o2, cap2, arr2, hb2, hn2, ho2, hx2, rfl⟩
    · exact .immZ a _ ha
    · exact .imm o2 0 cap2 hb2 hn2 ho2 (by simp)
  | z0 a ha => intro b hb; cases hb with | z0 a ha => exact .z0 a ha
  | top => intro b hb; exact .top _
  | _ => intro b hb; cases hb; constructor

theorem LRel.join {ρ ρ' : Ren} (hle : ρ.le ρ') {l : List V} {a b : List Value} (h : LRel ρ l a) (g : LRel ρ' l b) : LRel ⟨ρ.ren, ρ'.frz, ρ.dfr⟩ l b := by
  refine ⟨g.1, fun k v v' h1 h2 => ?_⟩
  have hk : k < l.length := (List.getElem?_eq_some_iff.1 h1).1
  exact (h.2 k v _ h1 (List.getElem?_eq_getElem (by rw [← h.1]; exact hk))).join hle (g.2 k v v' h1 h2)

theorem WRel.forget {ρ ρ' : Ren} {B B' : Nat} {w0 w0' w w' : World} {h h' : AHeap} (R : WRel ρ B' w0' h w) (R' : WRel ρ' B w0 h' w') (hle : ρ.le ρ') (hk : Keep h h' none_) : WRel ⟨ρ.ren, ρ'.frz, ρ.dfr⟩ B w0 h w' := by
  have hlt : ∀ i, h.get i ≠ .dead → i < h.n := fun i hi => by obtain ⟨_, _, _, _, hh, _⟩ := R.heap.live hi; exact hh
  refine ⟨⟨R.heap.dom, R.heap.inj, fun i => ?_, R'.heap.frz, fun g cs hg => ?_, R'.heap.base⟩, R'.below⟩
  · cases hg : h.get i with
    | dead => trivial
    | cells c e ex =>
      have hi : i < h.n := hlt i (by rw [hg]; simp)
      have o1 := R.heap.obj i
      have o2 := R'.heap.obj i
      rw [hk.get i hi (by simp [none_]), hg] at o2
      rw [hg] at o1
      obtain ⟨b, cp, arr, hr, hf, hB, hw, hc, hl, hx⟩ := o1
      obtain ⟨b2, cp2, arr2, hr2, hf2, hB2, hw2, hc2, hl2, hx2⟩ := o2
      have := hle.ren i _ hr
      rw [hr2] at this
      simp at this
      obtain ⟨rfl, rfl⟩ := this
      exact ⟨b2, cp2, arr2, hr, hf2, hB2, hw2, hc2, hl.join hle hl2, hx2⟩
    | map es cl =>
      have hi : i < h.n := hlt i (by rw [hg]; simp)
      have o1 := R.heap.obj i
      have o2 := R'.heap.obj i
      rw [hk.get i hi (by simp [none_]), hg] at o2
      rw [hg] at o1
      obtain ⟨b, cp, arr, hr, hf, hB, hw, hm⟩ := o1
      obtain ⟨b2, cp2, arr2, hr2, hf2, hB2, hw2, hm2⟩ := o2
      have := hle.ren i _ hr
      rw [hr2] at this
      simp at this
      obtain ⟨rfl, rfl⟩ := this
      refine ⟨b2, cp2, arr2, hr, hf2, hB2, hw2, hm2.1, fun k x y hx hy => ?_⟩
      have hk1 : k < es.length := (List.getElem?_eq_some_iff.1 hx).1
      obtain ⟨_, q1, q2⟩ := hm.2 k x _ hx (Array.getElem?_eq_getElem (by rw [← hm.1]; exact hk1))
      obtain ⟨p0, p1, p2⟩ := hm2.2 k x y hx hy
      exact ⟨p0, q1.join hle p1, q2.join hle p2⟩
    | pin k vs =>
      have hi : i < h.n := hlt i (by rw [hg]; simp)
      have o1 := R.heap.obj i
      have o2 := R'.heap.obj i
      rw [hk.get i hi (by simp [none_]), hg] at o2
      rw [hg] at o1
      obtain ⟨b, cp, arr, hr, hf, hB, hw, hl⟩ := o1
      obtain ⟨b2, cp2, arr2, hr2, hf2, hB2, hw2, hl2⟩ := o2
      have := hle.ren i _ hr
      rw [hr2] at this
      simp at this
      obtain ⟨rfl, rfl⟩ := this
      refine ⟨b2, cp2, arr2, hr, hf2, hB2, ?_, hl.join hle hl2⟩
      cases k with
      | dfd => exact hw2
      | loop j p a c y =>
        obtain ⟨D, cD, q, h1, h2⟩ := hw
        obtain ⟨D2, cD2, q2, h3, h4⟩ := hw2
        have := hle.ren j _ h1
        rw [h3] at this
        simp at this
        obtain ⟨rfl, rfl⟩ := this
        exact ⟨D2, cD2, q2, h1, h4⟩
    | iter m s l st =>
      have hi : i < h.n := hlt i (by rw [hg]; simp)
      have o1 := R.heap.obj i
      have o2 := R'.heap.obj i
      rw [hk.get i hi (by simp [none_]), hg] at o2
      rw [hg] at o1
      obtain ⟨b, cp, bm, cm, hr, hf, hB, hm, hw⟩ := o1
      obtain ⟨b2, cp2, bm2, cm2, hr2, hf2, hB2, hm2, hw2⟩ := o2
      have := hle.ren i _ hr
      rw [hr2] at this
      simp at this
      obtain ⟨rfl, rfl⟩ := this
      have := hle.ren m _ hm
      rw [hm2] at this
      simp at this
      obtain ⟨rfl, rfl⟩ := this
      exact ⟨b2, cp2, bm2, cm2, hr, hf2, hB2, hm, hw2⟩
  · obtain ⟨arr, hf, hr⟩ := R.heap.glob g cs hg
    obtain ⟨arr2, hf2, hr2⟩ := R'.heap.glob g cs (by rw [hk.glob]; exact hg)
    have := hle.frz g _ hf
    rw [hf2] at this
    simp at this
    subst this
    exact ⟨arr2, hf2, (hr.list.join hle hr2.list).arr'⟩

theorem SCallsE.pure {P : Program} {fid : FuncId} {args : List V} {h : AHeap} {v : V} {E : AHeap → Prop} (hv : Clo v) (hc : SCallsE P fid args h (fun r h' => ∃ h2, Cast r h' v h2 ∧ Keep h h2 none_) (fun h' => Keep h h' none_ ∧ E h)) :
    SCallsE P fid args h (fun r h' => r = v ∧ h' = h) (fun h' => h' = h ∧ E h) := by
  intro ρ B w0 w args' hw ha
  refine (hc ρ B w0 w args' hw ha).mono fun e w' hh => ?_
  rcases hh with ⟨ρ', r, r', h', he, hr, hw', hle, h2, hcast, hk⟩ | ⟨ρ', ch, h', he, hch, hw', hle, hk, hE⟩
  · obtain ⟨ρ2, hle2, hw2, hv2⟩ := hcast ρ' B w0 w' r' hw' hr
    have hl := hle.trans hle2
    exact .inl ⟨⟨ρ.ren, ρ2.frz, ρ.dfr⟩, v, r', h, he, hv _ _ _ hv2 fun _ _ h => h, hw.forget hw2 hl hk, ⟨fun _ _ h => h, hl.frz, rfl⟩, rfl, rfl⟩
  · exact .inr ⟨⟨ρ.ren, ρ'.frz, ρ.dfr⟩, ch, h, he, hch, hw.forget hw' hle hk, ⟨fun _ _ h => h, hle.frz, rfl⟩, rfl, hE⟩
theorem Pure.of {P : Program} {fid : FuncId} {args : List V} {h : AHeap} {v : V} (hv : Clo v) (hc : SCalls P fid args h (fun r h' => ∃ h2, Cast r h' v h2 ∧ Keep h h2 none_)) : Pure P fid args h v := by
  have := SCallsE.pure (E := fun _ => False) hv (hc.e)
  exact SCallsE.mono this (fun _ _ h => h) fun _ h => h.2.elim
theorem Pure.val {P : Program} {fid : FuncId} {args : List V} {h : AHeap} {v : V} (hv : Clo v) (hc : SCalls P fid args h (fun r h' => r = v ∧ Keep h h' none_)) : Pure P fid args h v :=
  .of hv (hc.mono fun r h' ⟨e, k⟩ => ⟨h', by subst e; exact Cast.refl _ _, k⟩)
/-- The end of a call that hands back a slice that it made. -/
theorem Acc.cast {h0 h : AHeap} {e : TypeId} {sz : Nat} {v : V} {cs : List V} (a : Acc h0 h e sz v cs) {n : Nat} (hn : cs.length = n * sz) (hsz : 0 < sz) : ∃ h2, Cast v h (.imm n cs) h2 ∧ Keep h0 h2 none_ := by
  obtain ⟨h2, hc, hk⟩ := Cast.own a.own hn hsz
  exact ⟨h2, hc, a.keep.trans hk fun k hlt hid => by have := a.new k hid; omega⟩

/-! ### A statement whose order is open -/
def quietA (P : Program) (ops : List Oper) (h : AHeap) : List Oper → (AFrame → Prop) → AFrame → Prop
  | [], K, f => K f
  | o :: rest, K, f => match wantedA ops o.guard f with
    | some true => ∃ v, quietStep P o h f v ∧ quietA P ops h rest K (f.put o.dst v)
    | some false => quietA P ops h rest K (f.put o.dst (.tuple []))
    | none => False

/-- In frame f, operation o leaves v in its slot. -/
def YieldA (P : Program) (ops : List Oper) (h : AHeap) (o : Oper) (v : V) (f : AFrame) : Prop :=
  (wantedA ops o.guard f = some true ∧ quietStep P o h f v) ∨ (wantedA ops o.guard f = some false ∧ v = .tuple [])

/-- Whatever order is taken. -/
def anyA (P : Program) (md : Region.Mode) (ops : Array Oper) (h : AHeap) (K : AFrame → Prop) : Nat → Array Bool → AFrame → Prop
  | 0, listed, f => Region.ready md ops listed = [] ∧ K f
  | n + 1, listed, f => (Region.ready md ops listed = [] → K f) ∧
    ∀ i ∈ Region.ready md ops listed, ∀ o, ops[i]? = some o → ∃ v, YieldA P ops.toList h o v f ∧ anyA P md ops h K n (listed.setIfInBounds i true) (f.put o.dst v)

theorem any_sound {P : Program} {n : Nat} {md : Region.Mode} {ops : Array Oper} (hok : ops.toList.all (fun o => dstOk n o.dst) = true) {ρ0 : Ren} {B : Nat} {w0 : World} {h : AHeap} {K : AFrame → Prop} {Q : AExit → AFrame → AHeap → Prop} (hK : ∀ f, K f → Q .normal f h) :
    ∀ (m : Nat) (listed : Array Bool) (f : AFrame) (ρ : Ren) (a : Act) (w : World), ρ0.le ρ → WRel ρ B w0 h w → FRel ρ n f a → anyA P md ops h K m listed f → wpAnyIn Fence.wide 0 P md ops (CPost n B w0 ρ0 Q) m listed a w
  | 0, listed, f, ρ, a, w, hle, hw, hf, hq => ⟨hq.1, ⟨ρ, .normal, f, h, trivial, hw, hf, hle, hK f hq.2⟩⟩
  | m + 1, listed, f, ρ, a, w, hle, hw, hf, hq => by
    refine ⟨fun h0 => ⟨ρ, .normal, f, h, trivial, hw, hf, hle, hK f (hq.1 h0)⟩, fun i hi => ?_⟩
    unfold wpOpIn
    cases ho : ops[i]? with
    | none =>
      obtain ⟨_, o, hoo, _⟩ := mem_ready.1 hi
      rw [ho] at hoo; cases hoo
    | some o =>
      simp only
      obtain ⟨v, hy, hrest⟩ := hq.2 i hi o ho
      have hd : dstOk n o.dst = true := (List.all_eq_true.1 hok) o (by rw [Array.mem_toList_iff]; exact Array.mem_of_getElem? ho)
      rcases hy with ⟨hwn, hs⟩ | ⟨hwn, rfl⟩
      · rw [wanted_eq hf ops o hwn]
        simp only [if_true]
        refine step_sound FOk.wide (next := fun f' h' => f' = f.put o.dst v ∧ h' = h) (exc := fun _ _ => False) hd hle hw hf ?_ (fun ρ' f' h' a' w' hle' hw' hf' hn => ?_) (fun _ _ _ _ _ _ _ _ _ _ he => he.elim)
        · unfold stepA
          rcases hs with hs | ⟨g, args, hs, hp⟩
          · rw [hs]; exact ⟨rfl, rfl⟩
          · rw [hs]
            exact hp.e.mono (fun r h' ⟨e1, e2⟩ => ⟨by rw [e1], e2⟩) fun _ h => h
        · obtain ⟨rfl, rfl⟩ := hn
          exact any_sound hok hK m _ _ ρ' a' w' hle' hw' hf' hrest
      · rw [wanted_eq hf ops o hwn]
        simp only [Bool.false_eq_true, if_false]
        exact ⟨fun _ _ => trivial, any_sound hok hK m _ _ ρ _ w hle hw (hf.put (tuple0_rel _) o.dst hd) hrest⟩
end Go.Proofs.YtfcjehlhoebmnaaGreatDoor.Ab

namespace Go.Proofs.YtfcjehlhoebmnaaGreatDoor.Ab
open Go Go.RowKit
set_option linter.unusedVariables false

theorem aCall_congr {P : Program} {c : Call} {ty : TypeId} {ev ev' : Operand → V} {h : AHeap} (he : ∀ x ∈ c.operands, ev x = ev' x) : aCall P c ty ev h = aCall P c ty ev' h := by
  have hargs : c.args.toList.map ev = c.args.toList.map ev' := List.map_congr_left fun x hx => he x (by simp at hx; simp [Call.operands, hx])
  unfold aCall
  rw [hargs]
  cases hc : c.callee with
  | value f => have hf : ev f = ev' f := he f (by simp [Call.operands, hc]); simp only [hf]
  | invoke r m => have hf : ev r = ev' r := he r (by simp [Call.operands, hc]); simp only [hf]
  | builtin b => cases b <;> rfl
theorem opEval_congr {P : Program} {o : Oper} {ev ev' : Operand → V} {h : AHeap} (he : ∀ x ∈ o.op.operands, ev x = ev' x) : opEval P o ev h = opEval P o ev' h := by
  obtain ⟨dst, op, type, pos, after, guard⟩ := o
  have pairs : ∀ ps : Array (Nat × Operand), (∀ x ∈ ps.toList.map (·.2), ev x = ev' x) →
      (ps.toList.map fun p => (p.1, ev p.2)) = (ps.toList.map fun p => (p.1, ev' p.2)) := fun ps hp =>
    List.map_congr_left fun p hm => by rw [hp p.2 (List.mem_map.2 ⟨p, hm, rfl⟩)]
  cases op <;> simp only [Op.operands] at he <;> simp only [opEval]
  case build t ps => rw [pairs ps fun x hx => he x (by simpa using hx)]
  case buildSlice t n ps => rw [pairs ps fun x hx => he x (by simpa using hx)]
  case makeFunc fn first captured =>
    have e1 := List.map_congr_left (l := first.toList) fun x hx => he x (by simp at hx; simp [hx])
    have e2 := List.map_congr_left (l := captured.toList) fun x hx => he x (by simp at hx; simp [hx])
    cases fn <;> simp only [e1, e2]
  case call c => exact aCall_congr he
  case makeMap t r => cases r <;> simp_all
  case slice t x lo hi mx => cases lo <;> cases hi <;> cases mx <;> simp_all
  case next it s => cases s <;> simp_all
  all_goals (first | rfl | (simp_all; done))

theorem AFrame.eval_put {f : AFrame} {h : AHeap} {dst : Option Tmp} {v : V} {x : Operand} (hx : ∀ d, dst = some d → x ≠ .tmp d) : (f.put dst v).eval h x = f.eval h x := by
  cases dst with
  | none => rfl
  | some d =>
    cases x with
    | tmp t =>
      have hne : t ≠ d := fun e => hx d rfl (e ▸ rfl)
      simp [AFrame.eval, AFrame.put, hne]
    | _ => rfl
theorem AFrame.put_comm (f : AFrame) {x y : Option Tmp} (v u : V) (h : ∀ d, x = some d → y ≠ some d) : (f.put x v).put y u = (f.put y u).put x v := by
  cases x with
  | none => rfl
  | some d =>
    cases y with
    | none => rfl
    | some e =>
      have hne : d ≠ e := fun he => h d rfl (he ▸ rfl)
      funext t
      simp only [AFrame.put]
      by_cases h1 : t = e
      · subst h1; simp [Ne.symm hne]
      · simp [h1]
section
variable {P : Program} {ops : Array Oper} {h : AHeap} {md : Region.Mode}
theorem opEval_put (o : Oper) (f : AFrame) (dst : Option Tmp) (v : V) (hl : ∀ d, dst = some d → d ∉ o.looksAt ops) : opEval P o ((f.put dst v).eval h) h = opEval P o (f.eval h) h :=
  opEval_congr fun x hx => AFrame.eval_put fun d hd hxd => hl d hd (by
    subst hxd
    exact List.mem_append_left _ (List.mem_filterMap.2 ⟨.tmp d, by simpa using hx, rfl⟩))
theorem wantedA_put (o : Oper) (f : AFrame) (dst : Option Tmp) (v : V) (hl : ∀ d, dst = some d → d ∉ o.looksAt ops) : wantedA ops.toList o.guard (f.put dst v) = wantedA ops.toList o.guard f := by
  cases dst with
  | none => rfl
  | some d =>
    unfold wantedA
    cases hg : o.guard with
    | none => rfl
    | some gw =>
      obtain ⟨g, want⟩ := gw
      simp only
      have e : ops.toList[g]? = ops[g]? := by simp
      rw [e]
      cases ht : (ops[g]?).bind (·.dst) with
      | none => rfl
      | some t =>
        have hne : t ≠ d := fun e => hl d rfl (by subst e; simp [Oper.looksAt, hg, ht])
        simp [AFrame.put, hne]
theorem YieldA.put {o : Oper} {v : V} {f : AFrame} (hy : YieldA P ops.toList h o v f) (dst : Option Tmp) (u : V) (hl : ∀ d, dst = some d → d ∉ o.looksAt ops) : YieldA P ops.toList h o v (f.put dst u) := by
  unfold YieldA quietStep at *
  rw [wantedA_put o f dst u hl, opEval_put o f dst u hl]
  exact hy
theorem YieldA.unput {o : Oper} {v : V} {f : AFrame} (dst : Option Tmp) (u : V) (hl : ∀ d, dst = some d → d ∉ o.looksAt ops) (hy : YieldA P ops.toList h o v (f.put dst u)) : YieldA P ops.toList h o v f := by
  unfold YieldA quietStep at *
  rwa [wantedA_put o f dst u hl, opEval_put o f dst u hl] at hy

theorem anyA_first {K : AFrame → Prop} {i : Nat} {oi : Oper} {v : V} (hi : ops[i]? = some oi) :
    ∀ (fuel : Nat) (listed : Array Bool) (f : AFrame),
      (∀ j oj, ops[j]? = some oj → j ≠ i → listed.getD j true = false → (∀ e ∈ oj.after, Region.binds md e = true → e.on ≠ i) → oi.apart ops oj = true) →
      i ∈ Region.ready md ops listed → YieldA P ops.toList h oi v f →
      anyA P md ops h K fuel (listed.setIfInBounds i true) (f.put oi.dst v) → anyA P md ops h K (fuel + 1) listed f := by
  intro fuel
  induction fuel with
  | zero =>
    intro listed f _ hr hy H
    refine ⟨fun h => (by rw [h] at hr; cases hr), fun j hj o ho => ?_⟩
    by_cases hji : j = i
    · subst hji
      rw [hi] at ho
      obtain rfl : oi = o := by simpa using ho
      exact ⟨v, hy, H⟩
    · have := ready_mono hj hji
      rw [H.1] at this
      cases this
  | succ fuel ih =>
    intro listed f hfree hr hy H
    refine ⟨fun h => (by rw [h] at hr; cases hr), fun j hj oj hoj => ?_⟩
    by_cases hji : j = i
    · subst hji
      rw [hi] at hoj
      obtain rfl : oi = oj := by simpa using hoj
      exact ⟨v, hy, H⟩
    · obtain ⟨u, hyj, hrest⟩ := H.2 j (ready_mono hj hji) oj hoj
      obtain ⟨hjun, oj', hoj', hall⟩ := mem_ready.1 hj
      rw [hoj] at hoj'
      obtain rfl : oj = oj' := by simpa using hoj'
      have hnot : ∀ e ∈ oj.after, Region.binds md e = true → e.on ≠ i := fun e he hb heq => by
        have h1 := hall e he hb
        have h0 := (mem_ready.1 hr).1
        rw [heq] at h1
        rcases Nat.lt_or_ge i listed.size with h' | h'
        · simp [h'] at h0 h1; rw [h0] at h1; cases h1
        · simp [Array.getElem?_eq_none h'] at h1
      obtain ⟨a1, a2, a3⟩ := Oper.apart_spec (hfree j oj hoj hji hjun hnot)
      refine ⟨u, hyj.unput oi.dst v a1, ?_⟩
      have hfree' : ∀ k ok, ops[k]? = some ok → k ≠ i → (listed.setIfInBounds j true).getD k true = false →
          (∀ e ∈ ok.after, Region.binds md e = true → e.on ≠ i) → oi.apart ops ok = true := fun k ok hk hki hun hno => by
        refine hfree k ok hk hki ?_ hno
        by_cases hjk : j = k
        · subst hjk; exact hjun
        · rw [getD_set_ne true hjk] at hun; exact hun
      refine ih (listed.setIfInBounds j true) (f.put oj.dst u) hfree' (ready_mono hr (Ne.symm hji)) (hy.put oj.dst u a3) ?_
      rw [Array.setIfInBounds_comm _ _ hji, ← AFrame.put_comm f v u a2]
      exact hrest

theorem anyA_lex {K : AFrame → Prop} : ∀ (l : List Oper) (k : Nat) (listed : Array Bool) (f : AFrame), (∀ j, l[j]? = ops[k + j]?) →
    Region.lexFrom md ops l.length k listed = true → quietA P ops.toList h l K f → anyA P md ops h K l.length listed f
  | [], _, _, _, _, hB, hq => ⟨by simpa [Region.lexFrom] using hB, hq⟩
  | o :: l, k, listed, f, hl, hB, hq => by
    have h0 : ops[k]? = some o := by simpa using (hl 0).symm
    simp only [List.length_cons, Region.lexFrom, Bool.and_eq_true] at hB
    obtain ⟨⟨hr, hf⟩, hB'⟩ := hB
    have : ∃ v, YieldA P ops.toList h o v f ∧ quietA P ops.toList h l K (f.put o.dst v) := by
      unfold quietA at hq
      split at hq
      · rename_i hw; obtain ⟨v, hs, hq⟩ := hq; exact ⟨v, .inl ⟨hw, hs⟩, hq⟩
      · rename_i hw; exact ⟨.tuple [], .inr ⟨hw, rfl⟩, hq⟩
      · exact hq.elim
    obtain ⟨v, hy, hK⟩ := this
    exact anyA_first h0 l.length listed f (Region.free_spec h0 hf) (by simpa using hr) hy
      (anyA_lex l (k + 1) _ _ (fun j => by have := hl (j + 1); simpa [Nat.add_assoc, Nat.add_comm 1 j] using this) hB' hK)
end

/-- A statement whose order is open, and whose operations leave the memory as it was: one order serves for all. -/
theorem SWp.quiet {P : Program} {n id : Nat} {ops : Array Oper} (hm : P.follows .mixedOrders = true) (hB : Region.lexB .any ops = true) (hok : ops.toList.all (fun o => dstOk n o.dst) = true) {Q : AExit → AFrame → AHeap → Prop} {f : AFrame} {h : AHeap}
    (hq : quietA P ops.toList h ops.toList (fun f => Q .normal f h) f) : SWp P n (.region id ops true) Q f h := by
  intro ρ B w0 a w hw hf
  simp only [Region.lexB, Bool.and_eq_true] at hB
  refine wpIn_wide.1 (wpIn_region_any (n := 0) hm (any_sound (ρ0 := ρ) hok (K := fun f => Q .normal f h) (fun _ hk => hk) _ _ f ρ a _ (Ren.le.refl ρ) hw.drew hf ?_))
  have := anyA_lex (P := P) (h := h) (md := .any) ops.toList 0 (Array.replicate ops.size false) f (by simp) (by simpa using hB.2) hq
  simpa using this

/-! The same, step by step. -/
class Ht where
  h : AHeap
def qI (P : Program) (ol l : List Oper) [H : Ht] [K : Kt] (f : AFrame) : Prop := quietA P ol H.h l (fun f => K.go f H.h) f
def qstepI (P : Program) (o : Oper) (ol l : List Oper) [H : Ht] [K : Kt] (f : AFrame) : Prop := ∃ v, quietStep P o H.h f v ∧ @qI P ol l H K (f.put o.dst v)
theorem SWp.quietI {P : Program} {n id : Nat} {ops : Array Oper} (hm : P.follows .mixedOrders = true) (hB : Region.lexB .any ops = true) (hok : ops.toList.all (fun o => dstOk n o.dst) = true) {Q : Qt} {f : AFrame} {h : AHeap}
    (hq : @qI P ops.toList ops.toList ⟨h⟩ (.out Q) f) : SWp P n (.region id ops true) Q.go f h := SWp.quiet hm hB hok hq
section
variable {P : Program} {ol l : List Oper} {H : Ht} {K : Kt} {f : AFrame} {d : Option Tmp} {ty : TypeId} {pos : String} {aft : Array Edge} {op : Op} {g : Option (Nat × Bool)}
theorem qI_nil : @qI P ol [] H K f = @goI K f H.h := nr rfl
theorem qI_cons : @qI P ol (⟨d, op, ty, pos, aft, none⟩ :: l) H K f = @qstepI P ⟨d, op, ty, pos, aft, none⟩ ol l H K f := nr rfl
def qgI (v : V) (o : Oper) (P : Program) (ol l : List Oper) [H : Ht] [K : Kt] (f : AFrame) : Prop :=
  match v, o.guard with
  | .bool c, some (_, b) => if c = b then @qstepI P o ol l H K f else @qI P ol l H K (f.put o.dst (.tuple []))
  | .top, _ => False
  | _, _ => @qI P ol l H K (f.put o.dst (.tuple []))
theorem qI_guard {j : Nat} {b : Bool} : @qI P ol (⟨d, op, ty, pos, aft, some (j, b)⟩ :: l) H K f =
    (match slotAt ol j with | some t => @qgI (f t) ⟨d, op, ty, pos, aft, some (j, b)⟩ P ol l H K f | none => @qI P ol l H K (f.put d (.tuple []))) := by
  rw [slotAt_eq]
  show quietA P ol H.h (⟨d, op, ty, pos, aft, some (j, b)⟩ :: l) (fun f => K.go f H.h) f = _
  simp only [quietA, wantedA]
  cases ht : (ol[j]?).bind (·.dst) with
  | none => rfl
  | some t =>
    simp only [qgI]
    cases hf : f t <;> try rfl
    rename_i c
    simp only
    by_cases hc : c = b
    · subst hc; simp only [beq_self_eq_true, if_true]; rfl
    · have : (c == b) = false := by simp [hc]
      simp only [this, if_neg hc]
      rfl
theorem qgI_same {b : Bool} {j : Nat} : @qgI (.bool b) ⟨d, op, ty, pos, aft, some (j, b)⟩ P ol l H K f = @qstepI P ⟨d, op, ty, pos, aft, some (j, b)⟩ ol l H K f := if_pos rfl
theorem qgI_tf {j : Nat} : @qgI (.bool true) ⟨d, op, ty, pos, aft, some (j, false)⟩ P ol l H K f = @qI P ol l H K (f.put d (.tuple [])) := nr rfl
theorem qgI_ft {j : Nat} : @qgI (.bool false) ⟨d, op, ty, pos, aft, some (j, true)⟩ P ol l H K f = @qI P ol l H K (f.put d (.tuple [])) := nr rfl
theorem qgI_u {j : Nat} {b : Bool} {vs : List V} : @qgI (.tuple vs) ⟨d, op, ty, pos, aft, some (j, b)⟩ P ol l H K f = @qI P ol l H K (f.put d (.tuple [])) := nr rfl
def thenQ (o : Option V) (d : Option Tmp) (P : Program) (ol l : List Oper) [H : Ht] [K : Kt] (f : AFrame) : Prop := match o with | some v => @qI P ol l H K (f.put d v) | none => False
theorem thenQ_some {v : V} : @thenQ (some v) d P ol l H K f = @qI P ol l H K (f.put d v) := nr rfl
theorem just_q {o : Oper} {x : Option V} (he : opEval P o (f.eval H.h) H.h = justV x H.h) : @qstepI P o ol l H K f = @thenQ x o.dst P ol l H K f := by
  unfold qstepI quietStep
  rw [he]
  cases x with
  | none => simp [justV, thenQ]
  | some v =>
    simp [justV, thenQ]
theorem q_move {x : Operand} : @qstepI P ⟨d, .move x, ty, pos, aft, g⟩ ol l H K f = @qI P ol l H K (f.put d (f.eval H.h x)) := by
  rw [just_q (x := some (f.eval H.h x)) rfl]; rfl
theorem q_assign {x : Operand} : @qstepI P ⟨d, .assign x, ty, pos, aft, g⟩ ol l H K f = @qI P ol l H K (f.put d (f.eval H.h x)) := by
  rw [just_q (x := some (f.eval H.h x)) rfl]; rfl
theorem q_pick {c a b : Operand} : @qstepI P ⟨d, .pick c a b, ty, pos, aft, g⟩ ol l H K f = @thenQ (pickV (f.eval H.h c) (f.eval H.h a) (f.eval H.h b)) d P ol l H K f :=
  just_q (by unfold opEval pickV justV; simp only; cases f.eval H.h c <;> rfl)
theorem q_load {t : TypeId} {a : Operand} : @qstepI P ⟨d, .load t a, ty, pos, aft, g⟩ ol l H K f = @thenQ (aLoad P t (f.eval H.h a) H.h) d P ol l H K f := just_q rfl
theorem q_build {t : TypeId} {ps : Array (Nat × Operand)} : @qstepI P ⟨d, .build t ps, ty, pos, aft, g⟩ ol l H K f = @thenQ (aBuild P t (ps.toList.map fun p => (p.1, f.eval H.h p.2))) d P ol l H K f := just_q rfl
theorem q_nilCheck {x : Operand} : @qstepI P ⟨d, .nilCheck x, ty, pos, aft, g⟩ ol l H K f = @thenQ (nilV (f.eval H.h x)) d P ol l H K f :=
  just_q (by
    unfold opEval nilV justV; simp only
    generalize f.eval H.h x = y
    cases y <;> try rfl
    rename_i fn xs ys
    cases fn <;> rfl)
theorem q_binOp {op : BinOp} {t yt : TypeId} {x y : Operand} : @qstepI P ⟨d, .binOp op t x y yt, ty, pos, aft, g⟩ ol l H K f = @thenQ (aBin P op t x y (f.eval H.h x) (f.eval H.h y)) d P ol l H K f := just_q rfl
theorem q_unOp {op : UnOp} {t : TypeId} {x : Operand} : @qstepI P ⟨d, .unOp op t x, ty, pos, aft, g⟩ ol l H K f = @thenQ (aUn P op (f.eval H.h x)) d P ol l H K f := just_q rfl
theorem q_convert {s t : TypeId} {x : Operand} : @qstepI P ⟨d, .convert s t x, ty, pos, aft, g⟩ ol l H K f = @thenQ (aConv P s t (f.eval H.h x) H.h) d P ol l H K f := by
  have he : opEval P ⟨d, .convert s t x, ty, pos, aft, g⟩ (f.eval H.h) H.h = (match aConv P s t (f.eval H.h x) H.h with | some v => some (.val v H.h) | none => andH (aConvM P s t (f.eval H.h x) H.h)) := rfl
  cases hc : aConv P s t (f.eval H.h x) H.h with
  | some v =>
    rw [hc] at he
    exact just_q (x := some v) he
  | none =>
    rw [hc] at he
    unfold qstepI quietStep thenQ
    rw [he]
    cases hm : aConvM P s t (f.eval H.h x) H.h with
    | none => simp [andH]
    | some p =>
      obtain ⟨v, h'⟩ := p
      have := aConvM_ne hm
      simp [andH, this]
theorem q_slice {t : TypeId} {x : Operand} {lo hi mx : Option Operand} : @qstepI P ⟨d, .slice t x lo hi mx, ty, pos, aft, g⟩ ol l H K f = @thenQ (aSlice P t (f.eval H.h x) (lo.map (f.eval H.h)) (hi.map (f.eval H.h)) (mx.map (f.eval H.h))) d P ol l H K f := just_q rfl
theorem q_fieldAddr {t : TypeId} {x : Operand} {k : Nat} : @qstepI P ⟨d, .fieldAddr t x k, ty, pos, aft, g⟩ ol l H K f = @thenQ (aField P t (f.eval H.h x) k) d P ol l H K f := just_q rfl
theorem q_field {t : TypeId} {x : Operand} {k : Nat} : @qstepI P ⟨d, .field t x k, ty, pos, aft, g⟩ ol l H K f = @thenQ (aFieldOf P t (f.eval H.h x) k) d P ol l H K f := just_q rfl
theorem q_indexAddr {t : TypeId} {x y : Operand} : @qstepI P ⟨d, .indexAddr t x y, ty, pos, aft, g⟩ ol l H K f = @thenQ (aIndexAddr P t (f.eval H.h x) (f.eval H.h y)) d P ol l H K f := just_q rfl
theorem q_index {t : TypeId} {x y : Operand} : @qstepI P ⟨d, .index t x y, ty, pos, aft, g⟩ ol l H K f = @thenQ (aIndex P t (f.eval H.h x) (f.eval H.h y)) d P ol l H K f := just_q rfl
theorem q_lookup {t : TypeId} {x y : Operand} {ok : Bool} : @qstepI P ⟨d, .lookup t x y ok, ty, pos, aft, g⟩ ol l H K f = @thenQ (aLookup P t (f.eval H.h x) (f.eval H.h y) ok H.h) d P ol l H K f := just_q rfl
theorem q_typeAssert {x : Operand} {t e : TypeId} {ok : Bool} : @qstepI P ⟨d, .typeAssert x t e ok, ty, pos, aft, g⟩ ol l H K f = @thenQ (aAssert P (f.eval H.h x) e ok) d P ol l H K f := just_q rfl
theorem q_extract {x : Operand} {k : Nat} : @qstepI P ⟨d, .extract x k, ty, pos, aft, g⟩ ol l H K f = @thenQ (extV (f.eval H.h x) k) d P ol l H K f :=
  just_q (by unfold opEval extV justV; simp only; cases f.eval H.h x <;> rfl)
theorem q_makeInterface {t : TypeId} {x : Operand} : @qstepI P ⟨d, .makeInterface t x, ty, pos, aft, g⟩ ol l H K f = @thenQ (ifcV (isIfaceT P t) t (f.eval H.h x)) d P ol l H K f :=
  just_q (by
    unfold opEval ifcV justV; simp only
    cases isIfaceT P t with
    | none => rfl
    | some b => cases b <;> rfl)
theorem q_makeFunc {fn : FuncId} {xs ys : Array Operand} : @qstepI P ⟨d, .makeFunc (.func fn) xs ys, ty, pos, aft, g⟩ ol l H K f = @qI P ol l H K (f.put d (.func (.func fn) (xs.toList.map (f.eval H.h)) (ys.toList.map (f.eval H.h)))) := by
  rw [just_q (x := some (.func (.func fn) (xs.toList.map (f.eval H.h)) (ys.toList.map (f.eval H.h)))) rfl]; rfl
theorem q_len {t : TypeId} {x : Operand} : @qstepI P ⟨d, .call ⟨.builtin .len, #[x], #[t]⟩, ty, pos, aft, g⟩ ol l H K f = @thenQ (aLen P t (f.eval H.h x) H.h) d P ol l H K f :=
  just_q (by unfold opEval aCall aBuiltin justV; simp only [List.map_cons, List.map_nil]; cases aLen P t (f.eval H.h x) H.h <;> rfl)
theorem q_min {t t2 : TypeId} {x y : Operand} : @qstepI P ⟨d, .call ⟨.builtin .min, #[x, y], #[t, t2]⟩, ty, pos, aft, g⟩ ol l H K f = @thenQ (mmV P .min #[t, t2] ty (constsOf #[x, y]) (f.eval H.h x) (f.eval H.h y)) d P ol l H K f :=
  just_q (by
    unfold opEval aCall aBuiltin mmV justV
    simp only [List.map_cons, List.map_nil]
    cases flatL [f.eval H.h x, f.eval H.h y] with
    | none => rfl
    | some as =>
      simp only
      generalize pureRun P _ = r
      cases r with
      | none => rfl
      | some n => cases n <;> rfl)
theorem q_max {t t2 : TypeId} {x y : Operand} : @qstepI P ⟨d, .call ⟨.builtin .max, #[x, y], #[t, t2]⟩, ty, pos, aft, g⟩ ol l H K f = @thenQ (mmV P .max #[t, t2] ty (constsOf #[x, y]) (f.eval H.h x) (f.eval H.h y)) d P ol l H K f :=
  just_q (by
    unfold opEval aCall aBuiltin mmV justV
    simp only [List.map_cons, List.map_nil]
    cases flatL [f.eval H.h x, f.eval H.h y] with
    | none => rfl
    | some as =>
      simp only
      generalize pureRun P _ = r
      cases r with
      | none => rfl
      | some n => cases n <;> rfl)
theorem q_call_aux {P : Program} {fid : FuncId} {args : List V} {h : AHeap} {X : V → Prop} : (∃ v, (some (Step.call fid args) = some (.val v h) ∨ ∃ g a, some (Step.call fid args) = some (.call g a) ∧ Pure P g a h v) ∧ X v) ↔ ∃ v, Pure P fid args h v ∧ X v := by
  constructor
  · rintro ⟨v, (he | ⟨g, a, he, hp⟩), hx⟩
    · cases he
    · cases he; exact ⟨v, hp, hx⟩
  · rintro ⟨v, hp, hx⟩
    exact ⟨v, .inr ⟨_, _, rfl, hp⟩, hx⟩
theorem q_call_aux2 {P : Program} {h : AHeap} {u : V} {X : V → Prop} : (∃ v, (some (Step.val u h) = some (.val v h) ∨ ∃ g a, some (Step.val u h) = some (.call g a) ∧ Pure P g a h v) ∧ X v) ↔ X u := by
  constructor
  · rintro ⟨v, (he | ⟨g, a, he, hp⟩), hx⟩
    · cases he; exact hx
    · cases he
  · intro hx
    exact ⟨u, .inl rfl, hx⟩
theorem q_call_aux3 {P : Program} {h h2 : AHeap} {u : V} {X : V → Prop} : (∃ v, (some (Step.val u h2) = some (.val v h) ∨ ∃ g a, some (Step.val u h2) = some (.call g a) ∧ Pure P g a h v) ∧ X v) ↔ ∃ v, some (u, h2) = some (v, h) ∧ X v := by
  constructor
  · rintro ⟨v, (he | ⟨g, a, he, hp⟩), hx⟩
    · cases he; exact ⟨_, rfl, hx⟩
    · cases he
  · rintro ⟨v, he, hx⟩
    cases he
    exact ⟨_, .inl rfl, hx⟩
def qcallI (P : Program) (fid : FuncId) (args : List V) (d : Option Tmp) (ol l : List Oper) [H : Ht] [K : Kt] (f : AFrame) : Prop := (callable P fid = true ∧ ∃ v, Pure P fid args H.h v ∧ @qI P ol l H K (f.put d v)) ∨ (callable P fid = false ∧ ∃ v, aEx P fid args H.h = some (v, H.h) ∧ @qI P ol l H K (f.put d v))
theorem q_call {fid : FuncId} {args : Array Operand} {ts : Array TypeId} : @qstepI P ⟨d, .call ⟨.value (.func fid), args, ts⟩, ty, pos, aft, g⟩ ol l H K f = @qcallI P fid (args.toList.map (f.eval H.h)) d ol l H K f := by
  unfold qstepI quietStep qcallI opEval aCall
  simp only [AFrame.eval]
  by_cases hc : callable P fid = true
  · simp only [hc, if_true, q_call_aux, List.nil_append, List.append_nil, true_and, Bool.true_eq_false, false_and, or_false]
  · have hc : callable P fid = false := by simpa using hc
    cases ha : aEx P fid (args.toList.map (f.eval H.h)) H.h with
    | none => simp [hc, ha]
    | some p =>
      obtain ⟨u, h2⟩ := p
      simp only [hc, ha, Bool.false_eq_true, if_false, if_true, List.nil_append, List.append_nil, q_call_aux3, false_and, true_and, false_or]
def qcallvI (P : Program) (fv : V) (args : List V) (d : Option Tmp) (ol l : List Oper) [H : Ht] [K : Kt] (f : AFrame) : Prop := match fv with | .func (.func fid) xs ys => @qcallI P fid (xs ++ args ++ ys) d ol l H K f | _ => False
theorem qcallvI_func {fid : FuncId} {xs ys args : List V} : @qcallvI P (.func (.func fid) xs ys) args d ol l H K f = @qcallI P fid (xs ++ args ++ ys) d ol l H K f := nr rfl
theorem q_callv {t : Tmp} {args : Array Operand} {ts : Array TypeId} : @qstepI P ⟨d, .call ⟨.value (.tmp t), args, ts⟩, ty, pos, aft, g⟩ ol l H K f = @qcallvI P (f t) (args.toList.map (f.eval H.h)) d ol l H K f := by
  unfold qstepI quietStep qcallvI opEval aCall
  simp only [AFrame.eval]
  generalize f t = v
  cases v <;> try (simp; done)
  rename_i fn xs ys
  cases fn <;> try (simp; done)
  case yield l => cases xs <;> cases ys <;> simp
  rename_i fid
  unfold qcallI
  simp only
  by_cases hc : callable P fid = true
  · simp only [hc, if_true, q_call_aux, true_and, Bool.true_eq_false, false_and, or_false]
  · have hc : callable P fid = false := by simpa using hc
    cases ha : aEx P fid (xs ++ args.toList.map (f.eval H.h) ++ ys) H.h with
    | none => simp at ha; simp [hc, ha]
    | some p =>
      obtain ⟨u, h2⟩ := p
      simp only [hc, ha, Bool.false_eq_true, if_false, if_true, q_call_aux3, false_and, true_and, false_or]
theorem qcall_of {fid : FuncId} {args : List V} {v : V} (hc : callable P fid = true) (hp : Pure P fid args H.h v) (hk : @qI P ol l H K (f.put d v)) : @qcallI P fid args d ol l H K f := .inl ⟨hc, v, hp, hk⟩
end
end Go.Proofs.YtfcjehlhoebmnaaGreatDoor.Ab

namespace Go.Proofs.YtfcjehlhoebmnaaGreatDoor.Ab
open Go Go.RowKit
set_option linter.unusedVariables false

/-! ### The memory, after a push, after a set -/
section
variable {h : AHeap} {o o' : AObj} {i j : Nat}
theorem push_n : (h.push o).n = h.n + 1 := nr rfl
theorem set_n : (h.set i o).n = h.n := nr rfl
theorem push_glob : (h.push o).glob = h.glob := nr rfl
theorem set_glob : (h.set i o).glob = h.glob := nr rfl
theorem get_push_new : (h.push o).get h.n = o := by simp [AHeap.push]
theorem get_push_lt (hi : i < h.n) : (h.push o).get i = h.get i := by simp [AHeap.push, show i ≠ h.n by omega]
theorem get_push (i : Nat) : (h.push o).get i = if i = h.n then o else h.get i := nr rfl
theorem get_set_same : (h.set i o).get i = o := by simp [AHeap.set]
theorem get_set_ne (hne : i ≠ j) : (h.set j o).get i = h.get i := by simp [AHeap.set, hne]
theorem get_set (i j : Nat) : (h.set j o).get i = if i = j then o else h.get i := nr rfl
theorem set_push : (h.push o).set h.n o' = h.push o' := by
  unfold AHeap.push AHeap.set
  simp only
  congr 1
  funext k
  split <;> rfl
theorem set_set : (h.set i o).set i o' = h.set i o' := by
  unfold AHeap.set
  simp only
  congr 1
  funext k
  split <;> rfl
theorem set_self (hg : h.get i = o) : h.set i o = h := by
  unfold AHeap.set
  cases h with
  | mk n get glob =>
    simp only at hg ⊢
    congr 1
    funext k
    by_cases hk : k = i
    · subst hk; simp [hg]
    · simp [hk]
theorem get_push2 {a b : AObj} : ((h.push a).push b).get (h.n + 1) = b := by
  have := get_push_new (h := h.push a) (o := b)
  rwa [push_n] at this
theorem get_push2' {a b : AObj} : ((h.push a).push b).get h.n = a := by
  rw [get_push_lt (by rw [push_n]; omega), get_push_new]
theorem set_push2 {a b c : AObj} : ((h.push a).push b).set (h.n + 1) c = (h.push a).push c := by
  have := set_push (h := h.push a) (o := b) (o' := c)
  rwa [push_n] at this
theorem set_push2' {a b c : AObj} : ((h.push a).push b).set h.n c = (h.push c).push b := by
  simp only [AHeap.push, AHeap.set, AHeap.mk.injEq, true_and, and_true]
  funext k
  by_cases h1 : k = h.n
  · subst h1
    simp
  · simp [h1]
theorem lt_push (hi : i < h.n) : i < (h.push o).n := by rw [push_n]; omega
end

/-! ### Maps whose keys are integers -/
def mapOf {α : Type} (kk : IntKind) (enc : α → V) (l : List (Nat × Int × α)) : List (Nat × V × V) := l.map fun e => (e.1, .int kk e.2.1, enc e.2.2)
/-- What a key has. -/
def mget {α : Type} (l : List (Nat × Int × α)) (k : Int) : Option α := (l.find? fun e => e.2.1 == k).map (·.2.2)
/-- The entries, a key being set. -/
def mset {α : Type} (cl : Nat) (l : List (Nat × Int × α)) (k : Int) (a : α) : List (Nat × Int × α) :=
  match l with
  | [] => [(cl, k, a)]
  | e :: r => if e.2.1 = k then (e.1, k, a) :: r else e :: mset cl r k a
def mclk {α : Type} (cl : Nat) (l : List (Nat × Int × α)) (k : Int) : Nat := if (mget l k).isSome then cl else cl + 1

section
variable {P : Program} {t kt et : TypeId} {kk : IntKind} {α : Type} {enc : α → V}
theorem eqKey_int {a b : Int} {d : TypeDesc} (hd : d = .int kk) : eqKey P kt d (.int kk a) (.int kk b) = some (a == b) := by
  subst hd
  simp [eqKey, plainV, flatV, scalarKind, Instr.sameNow]
theorem aFind_int {k : Int} : ∀ (l : List (Nat × Int × α)), aFind P kt (.int kk) (.int kk k) (mapOf kk enc l) = some (l.findIdx? fun e => e.2.1 == k)
  | [] => rfl
  | e :: l => by
    show (match eqKey P kt (.int kk) (.int kk k) (.int kk e.2.1) with | some true => some (some 0) | some false => (aFind P kt (.int kk) (.int kk k) (mapOf kk enc l)).map (fun (o : Option Nat) => o.map (· + 1)) | none => none) = _
    rw [eqKey_int rfl, aFind_int l, List.findIdx?_cons]
    by_cases hk : k = e.2.1
    · subst hk; simp
    · have h1 : (k == e.2.1) = false := by simp [hk]
      have h2 : (e.2.1 == k) = false := by simp [Ne.symm hk]
      simp [h1, h2]
theorem checkKey_int {b : Bool} {k : Int} {d : TypeDesc} (hu : P.underlying kt = some d) (hd : d = .int kk) : keyOk P b kt (.int kk k) = true := by
  subst hd
  unfold keyOk
  simp only [plainV, flatV]
  unfold Instr.checkKey
  rw [pureRun_bind, pureRun_underlying hu]
  rfl
theorem mget_some_idx {l : List (Nat × Int × α)} {k : Int} : ∀ {j : Nat}, (l.findIdx? fun e => e.2.1 == k) = some j → ∃ e, l[j]? = some e ∧ e.2.1 = k ∧ mget l k = some e.2.2 := by
  induction l with
  | nil => intro j h; simp at h
  | cons a l ih =>
    intro j h
    rw [List.findIdx?_cons] at h
    unfold mget
    rw [List.find?_cons]
    by_cases hk : a.2.1 = k
    · have : (a.2.1 == k) = true := by simp [hk]
      simp only [this, if_true, Option.some.injEq] at h
      subst h
      rw [this]
      exact ⟨a, rfl, hk, rfl⟩
    · have : (a.2.1 == k) = false := by simp [hk]
      simp [this] at h ⊢
      obtain ⟨j', hj', rfl⟩ := h
      obtain ⟨e, h1, h2, h3⟩ := ih hj'
      unfold mget at h3
      simp at h3
      exact ⟨e.1, e.2.1, e.2.2, by simpa using h1, h2, by simpa using h3⟩
theorem mget_none_idx {l : List (Nat × Int × α)} {k : Int} (h : (l.findIdx? fun e => e.2.1 == k) = none) : mget l k = none := by
  unfold mget
  rw [List.findIdx?_eq_none_iff] at h
  have : (l.find? fun e => e.2.1 == k) = none := by
    rw [List.find?_eq_none]
    intro e he
    simp [h e he]
  rw [this]
  rfl
theorem mset_some {cl : Nat} {a : α} {k : Int} : ∀ {l : List (Nat × Int × α)} {j : Nat}, (l.findIdx? fun e => e.2.1 == k) = some j → mapOf kk enc (mset cl l k a) = (mapOf kk enc l).modify j fun e => (e.1, .int kk k, enc a)
  | [], j, h => by simp at h
  | e :: l, j, h => by
    rw [List.findIdx?_cons] at h
    unfold mset
    by_cases hk : e.2.1 = k
    · have : (e.2.1 == k) = true := by simp [hk]
      simp [this] at h
      subst h
      simp [hk, mapOf]
    · have : (e.2.1 == k) = false := by simp [hk]
      simp [this] at h
      obtain ⟨j', hj', rfl⟩ := h
      have := mset_some (cl := cl) (a := a) (l := l) hj'
      simp only [mapOf] at this
      simp [hk, mapOf, this]
theorem mset_none {cl : Nat} {a : α} {k : Int} : ∀ {l : List (Nat × Int × α)}, (l.findIdx? fun e => e.2.1 == k) = none → mset cl l k a = l ++ [(cl, k, a)]
  | [], h => rfl
  | e :: l, h => by
    rw [List.findIdx?_cons] at h
    unfold mset
    by_cases hk : e.2.1 = k
    · have : (e.2.1 == k) = true := by simp [hk]
      simp [this] at h
    · have : (e.2.1 == k) = false := by simp [hk]
      simp [this] at h
      simp [hk, mset_none (cl := cl) (a := a) (k := k) (l := l) (by simpa using h)]

/-- m[k] -/
theorem lookup_int {z : Value} {h : AHeap} {i : Nat} {l : List (Nat × Int × α)} {cl : Nat} {k : Int} {ok : Bool} (hm : mapT P t = some (kt, et, .int kk)) (hz : zeroT P et = some z) (hg : h.get i = .map (mapOf kk enc l) cl) :
    aLookup P t (.map i) (.int kk k) ok h = some (match mget l k with | some a => (if ok then .tuple [enc a, .bool true] else enc a) | none => (if ok then .tuple [absV z, .bool false] else absV z)) := by
  obtain ⟨_, hu⟩ := mapT_eq hm
  unfold aLookup
  simp only [hm, hz, hg, checkKey_int hu rfl, if_true, aFind_int]
  cases hf : l.findIdx? fun e => e.2.1 == k with
  | none => rw [mget_none_idx hf]
  | some j =>
    obtain ⟨e, h1, h2, h3⟩ := mget_some_idx hf
    rw [h3]
    have : (mapOf kk enc l)[j]? = some (e.1, .int kk e.2.1, enc e.2.2) := by simp [mapOf, h1]
    simp only [this]
    rfl
/-- m[k] = a -/
theorem update_int {h : AHeap} {i : Nat} {l : List (Nat × Int × α)} {cl : Nat} {k : Int} {a : α} {v : V} (hm : mapT P t = some (kt, et, .int kk)) (hg : h.get i = .map (mapOf kk enc l) cl) (hv : v = enc a) :
    aUpdate P t (.map i) (.int kk k) v h = some (h.set i (.map (mapOf kk enc (mset cl l k a)) (mclk cl l k))) := by
  subst hv
  obtain ⟨_, hu⟩ := mapT_eq hm
  unfold aUpdate mclk
  simp only [hm, hg, checkKey_int hu rfl, if_true, aFind_int]
  cases hf : l.findIdx? fun e => e.2.1 == k with
  | none =>
    rw [mget_none_idx hf, mset_none hf]
    simp [mapOf]
  | some j =>
    obtain ⟨e, h1, h2, h3⟩ := mget_some_idx hf
    have : (mapOf kk enc l)[j]? = some (e.1, .int kk e.2.1, enc e.2.2) := by simp [mapOf, h1]
    rw [h3]
    simp only [this, Option.bind_some, plainV, flatV]
    have hs : Instr.sameBits 10000 (.int kk e.2.1) (.int kk k) = true := by rw [h2]; simp [Instr.sameBits]
    rw [if_pos hs, mset_some hf]
    rfl
end

/-! ### Walks over a map that stays as it is -/
/-- The stamps are below the clock, and no two the same. -/
def Stamps (es : List (Nat × V × V)) (cl : Nat) : Prop := (∀ e ∈ es, e.1 < cl) ∧ (es.map (·.1)).Nodup
theorem Stamps.nil (cl : Nat) : Stamps [] cl := ⟨by simp, by simp⟩
theorem Stamps.snoc {es : List (Nat × V × V)} {cl : Nat} (h : Stamps es cl) (k v : V) : Stamps (es ++ [(cl, k, v)]) (cl + 1) := by
  refine ⟨fun e he => ?_, ?_⟩
  · rcases List.mem_append.1 he with he | he
    · have := h.1 e he; omega
    · simp at he; subst he; simp
  · rw [List.map_append, List.nodup_append]
    refine ⟨h.2, by simp, fun a ha b hb => ?_⟩
    obtain ⟨e, he, rfl⟩ := List.mem_map.1 ha
    have := h.1 e he
    simp at hb
    omega
theorem alts_ro {r m cl : Nat} {seen : List Nat} {es : List (Nat × V × V)} {h : AHeap} {d : Option Tmp} {K : Kt} {f : AFrame} (hr : h.get r = .iter m cl seen cl) (hm : h.get m = .map es cl) (hs : Stamps es cl)
    (h0 : remOf es seen = [] → @goI K (f.put d (.tuple [.bool false])) h)
    (h1 : ∀ e ∈ remOf es seen, @goI K (f.put d (.tuple [.bool true, e.2.1, e.2.2])) (h.set r (.iter m cl (seen ++ [e.1]) cl))) : @altsI (aNext (.ptr r 0) h) d K f := by
  unfold aNext
  simp only [hr, hm]
  have hno : ¬ ((!seen.isEmpty && !es.isEmpty && es.all (fun e => decide (cl ≤ e.1))) = true) := by
    intro hh
    simp only [Bool.and_eq_true, Bool.not_eq_true', List.all_eq_true, decide_eq_true_eq] at hh
    cases es with
    | nil => simp at hh
    | cons e r =>
      have h2 := hh.2 e (by simp)
      have h3 := hs.1 e (by simp)
      omega
  rw [if_neg hno]
  unfold altsI
  intro v h' hmem
  rcases List.mem_append.1 hmem with hmem | hmem
  · split at hmem
    · rename_i hall
      simp at hmem
      obtain ⟨rfl, rfl⟩ := hmem
      refine h0 ?_
      cases hl : remOf es seen with
      | nil => rfl
      | cons e r =>
        have hmem : e ∈ remOf es seen := by rw [hl]; simp
        have h2 := List.all_eq_true.1 hall e hmem
        have h3 := hs.1 e (List.mem_filter.1 hmem).1
        simp at h2
        omega
    · simp at hmem
  · obtain ⟨e, he, heq⟩ := List.mem_map.1 hmem
    simp at heq
    obtain ⟨rfl, rfl⟩ := heq
    exact h1 e he
theorem entry_ro {r m cl : Nat} {seen : List Nat} {es : List (Nat × V × V)} {h : AHeap} {e : Nat × V × V} (hr : h.get r = .iter m cl (seen ++ [e.1]) cl) (hm : h.get m = .map es cl) (hs : Stamps es cl) (he : e ∈ es) :
    aEntry (.ptr r 0) h = some (.tuple [e.2.1, e.2.2]) := by
  unfold aEntry
  have hl : (seen ++ [e.1]).getLast? = some e.1 := by simp
  simp only [hr, hm, hl, if_true]
  have hf : es.find? (fun x => x.1 == e.1) = some e := by
    have h2 := hs.2
    clear hm hs
    induction es with
    | nil => simp at he
    | cons a es ih =>
      rw [List.find?_cons]
      rw [List.map_cons, List.nodup_cons] at h2
      rcases List.mem_cons.1 he with rfl | he'
      · simp
      · have : a.1 ≠ e.1 := fun hh => h2.1 (by rw [hh]; exact List.mem_map.2 ⟨e, he', rfl⟩)
        rw [show (a.1 == e.1) = false by simp [this]]
        exact ih he' h2.2
  rw [hf]
  rfl
/-- What is left becomes less. -/
theorem remOf_snoc {es : List (Nat × V × V)} {seen : List Nat} {e : Nat × V × V} (he : e ∈ remOf es seen) : (remOf es (seen ++ [e.1])).length < (remOf es seen).length := by
  unfold remOf at *
  have h1 : (es.filter fun x => !(seen ++ [e.1]).contains x.1) = (es.filter fun x => !seen.contains x.1).filter fun x => x.1 != e.1 := by
    rw [List.filter_filter]
    congr 1
    funext x
    by_cases h1 : seen.contains x.1 = true
    · simp at h1; simp [h1]
    · by_cases h2 : x.1 = e.1
      · simp [h2]
      · simp at h1; simp [h1, h2]
  rw [h1]
  have := List.length_filter_lt_length_iff_exists (p := fun x : Nat × V × V => x.1 != e.1) (l := es.filter fun x => !seen.contains x.1)
  exact this.2 ⟨e, he, by simp⟩
theorem range_map {P : Program} {t : TypeId} {q : TypeId × TypeId × TypeDesc} {i : Nat} {h : AHeap} {es : List (Nat × V × V)} {cl : Nat} (hm : mapT P t = some q) (hg : h.get i = .map es cl) : aRange P t (.map i) h = some (.ptr h.n 0, h.push (.iter i cl [] cl)) := by
  unfold aRange
  simp [hm, hg]
theorem makeMap_nil {P : Program} {t : TypeId} {h : AHeap} : aMakeMap P t none h = some (.map h.n, h.push (.map [] 0)) := nr rfl
end Go.Proofs.YtfcjehlhoebmnaaGreatDoor.Ab

namespace Go.Proofs.YtfcjehlhoebmnaaGreatDoor.Ab
open Go Go.RowKit
set_option linter.unusedVariables false

/-! ### Calls from the world -/
/-- All that the world holds at the beginning is only read. -/
def entryRen (w : World) : Ren := { ren := fun _ => none, frz := fun b => match w.heap[b]? with | some (.cells c _ _) => some c | _ => none }
def noHeap : AHeap := { n := 0, get := fun _ => .dead, glob := fun _ => none }
theorem entry_frz {w : World} {b : Nat} {c : Array Value} {e : TypeId} {fz : Nat × Nat} (h : w.heap[b]? = some (.cells c e fz)) : (entryRen w).frz b = some c := by simp [entryRen, h]
theorem entry_rel (w : World) : WRel (entryRen w) w.heap.size w noHeap w := by
  refine ⟨⟨fun _ _ => rfl, fun _ _ _ _ _ h => by simp [noHeap] at h, fun _ => trivial, fun b arr hb => ?_, fun g cs hg => by simp [noHeap] at hg, Nat.le_refl _⟩, Bel.refl _ _⟩
  simp only [entryRen] at hb
  split at hb
  · rename_i c e fz hq
    simp at hb
    subst hb
    exact ⟨e, fz, hq⟩
  · cases hb
theorem SCalls.calls {P : Program} {fid : FuncId} {args : List V} {v : V} {a : Value} (hc : SCalls P fid args noHeap fun r _ => r = v) (hv : flatV v = some a) {w : World}
    {args' : Array Value} (ha : LRel (entryRen w) args args'.toList) : Calls P fid args' w fun e w' => e = .returned a ∧ Below w.heap.size w w' :=
  (hc (entryRen w) w.heap.size w w args' (entry_rel w) ha).mono fun e w' hh => by
    rcases hh with ⟨ρ', r, r', h', he, hrr, hw, _, hR⟩ | ⟨_, _, _, _, _, _, _, hE⟩
    · subst hR
      rw [flatV_eq hrr hv] at he
      exact ⟨he, hw.below.below⟩
    · exact hE.elim

/-! ### What the statement's frame tells of a slice of integers -/
theorem rowAt_le {p : Program} {fits : TypeId → Bool} {d : Nat} {e : TypeId} {count off n : Nat} (h : rowAt p fits d e count off n = true) : off ≤ count * p.cellsOf e := by
  cases d with
  | zero => simp [rowAt] at h
  | succ d =>
    unfold rowAt at h
    by_cases hs : p.cellsOf e = 0
    · simp [hs] at h
    · have hdm := Nat.div_add_mod off (p.cellsOf e)
      have hml := Nat.mod_lt off (Nat.pos_of_ne_zero hs)
      simp only [hs, if_false, Bool.or_eq_true, Bool.and_eq_true, beq_iff_eq, decide_eq_true_eq] at h
      rw [Nat.mul_comm] at hdm
      rcases h with ⟨⟨hr, hi⟩, _⟩ | ⟨hi, _⟩
      · have := Nat.mul_le_mul_right (p.cellsOf e) (show off / p.cellsOf e ≤ count by omega)
        omega
      · have := Nat.mul_le_mul_right (p.cellsOf e) (show off / p.cellsOf e + 1 ≤ count by omega)
        rw [Nat.add_mul] at this
        omega
theorem liesAt_le {p : Program} : ∀ {d : Nat} {e : TypeId} {count off : Nat} {u : TypeId} {n : Nat}, liesAt p d e count off u n = true → off ≤ count * p.cellsOf e
  | 0, _, _, _, _, _, h => by simp [liesAt] at h
  | d + 1, e, count, off, u, n, h => by
    unfold liesAt at h
    rw [Bool.or_eq_true] at h
    rcases h with h | h
    · exact rowAt_le h
    · split at h
      · exact liesAt_le h
      · cases h
def SpotOk (w : World) (a : Option Addr) : Prop := ∀ x, a = some x → x.spot = none ∧ ∃ arr e fz, w.heap[x.block]? = some (.cells arr e fz) ∧ x.off ≤ arr.size
theorem spotOk {P : Program} {w : World} {r : Reach} {base : Nat} {t e : TypeId} {a : Option Addr} {len cap : Nat} (hu : P.underlying t = some (.slice e)) (h : Value.okWide P w r base t (.slice a len cap)) : SpotOk w a := by
  rintro x rfl
  simp only [Value.okWide, hu, Cell.okWide, Cell.ok] at h
  obtain ⟨_, _, _, hsp, row, cells, hsh, hl⟩ := h
  refine ⟨hsp, ?_⟩
  unfold World.shape? at hsh
  split at hsh
  · rename_i c el fz hq
    simp at hsh
    obtain ⟨rfl, rfl⟩ := hsh
    exact ⟨c, el, fz, hq, Nat.le_trans (liesAt_le hl) (Nat.div_mul_le_self _ _)⟩
  · cases hsh
def IsRow (k : IntKind) (w : World) (a : Option Addr) (len cap : Nat) (zs : List Int) : Prop :=
  (a = none ∧ len = 0 ∧ cap = 0 ∧ zs = []) ∨
  ∃ x, a = some x ∧ len ≤ cap ∧ cap ≤ maxLen ∧ zs.length = cap ∧ (∀ i, i < zs.length → w.cell? (x.add i) = some (.int k (zs.getD i 0))) ∧ ∀ n ∈ zs, (Lit.int k n).wf = true

/-- A slice of integers that came in: its numbers, each of its kind. -/
theorem arg_ints {k : IntKind} {w : World} {a : Option Addr} {len cap : Nat} {zs : List Int} (hr : IsRow k w a len cap zs) (hs : SpotOk w a) :
    (zs.take len).length = len ∧ (∀ n ∈ zs.take len, (Lit.int k n).wf = true) ∧ VRel (entryRen w) (.imm len ((zs.take len).map (V.int k))) (.slice a len cap) := by
  rcases hr with ⟨rfl, rfl, rfl, rfl⟩ | ⟨x, rfl, hl, hm, hz, hc, hw⟩
  · exact ⟨rfl, by simp, .immZ none 0 (by simp)⟩
  · refine ⟨by simp; omega, fun n hn => hw n (List.mem_of_mem_take hn), ?_⟩
    obtain ⟨hsp, arr, e, fz, hb, ho⟩ := hs x rfl
    obtain ⟨b, off, sp⟩ := x
    obtain rfl : sp = none := hsp
    have hcell : ∀ i, i < zs.length → arr[off + i]? = some (.int k (zs.getD i 0)) := by
      intro i hi
      have := hc i hi
      unfold World.cell? Addr.add at this
      by_cases h0 : i = 0
      · subst h0
        simpa [hb] using this
      · simpa [h0, hb] using this
    have hsz : off + zs.length ≤ arr.size := by
      rcases Nat.eq_zero_or_pos zs.length with h0 | h0
      · rw [h0]; exact ho
      · have h1 := hcell (zs.length - 1) (by omega)
        have h2 : off + (zs.length - 1) < arr.size := by
          rcases Nat.lt_or_ge (off + (zs.length - 1)) arr.size with h | h
          · exact h
          · rw [Array.getElem?_eq_none h] at h1
            cases h1
        omega
    refine .imm off len cap (entry_frz hb) hl (by simp; omega) fun i v v' h1 h2 => ?_
    have hi : i < len := by
      have := (List.getElem?_eq_some_iff.1 h1).1
      simp at this; omega
    have h3 := hcell i (by omega)
    rw [h2] at h3
    simp at h3
    subst h3
    rw [List.getElem?_map, List.getElem?_take, if_pos hi, List.getElem?_eq_getElem (show i < zs.length by omega)] at h1
    simp at h1
    subst h1
    simp [List.getElem?_eq_getElem (show i < zs.length by omega)]
    exact .int _ _
end Go.Proofs.YtfcjehlhoebmnaaGreatDoor.Ab

namespace Go.Proofs.YtfcjehlhoebmnaaGreatDoor.Ab
open Go Go.RowKit
set_option linter.unusedVariables false

/-! ### A statement whose order is open, some of whose operations have effects: these come when all ahead of them are done -/
def depB (ops : Array Oper) : Nat → Nat → Nat → Bool
  | 0, _, _ => false
  | n + 1, k, i => match ops[k]? with
    | some o => o.after.any fun e => Region.binds .any e && (e.on == i || depB ops n e.on i)
    | none => false
def Down (ops : Array Oper) (listed : Array Bool) : Prop := ∀ k o, ops[k]? = some o → listed.getD k false = true → ∀ e ∈ o.after, Region.binds .any e = true → listed.getD e.on false = true
theorem dep_listed {ops : Array Oper} {listed : Array Bool} (hd : Down ops listed) : ∀ (n k i : Nat), (∀ o, ops[k]? = some o → ∀ e ∈ o.after, Region.binds .any e = true → listed.getD e.on false = true) → depB ops n k i = true → listed.getD i false = true
  | 0, k, i, _, h => by simp [depB] at h
  | n + 1, k, i, hk, h => by
    unfold depB at h
    cases ho : ops[k]? with
    | none => simp [ho] at h
    | some o =>
      simp only [ho] at h
      obtain ⟨j, hj, hh⟩ := Array.any_eq_true.1 h
      simp only [Bool.and_eq_true, Bool.or_eq_true, beq_iff_eq] at hh
      have hm : o.after[j] ∈ o.after := Array.getElem_mem hj
      have h1 := hk o ho _ hm hh.1
      rcases hh.2 with h2 | h2
      · rw [← h2]; exact h1
      · exact dep_listed hd n _ i (fun o' ho' e he hb => hd _ o' ho' h1 e he hb) h2
theorem Down.add {ops : Array Oper} {listed : Array Bool} (hd : Down ops listed) {i : Nat} (hr : i ∈ Region.ready .any ops listed) : Down ops (listed.setIfInBounds i true) := by
  obtain ⟨_, o, ho, hall⟩ := mem_ready.1 hr
  intro k o' ho' hk e he hb
  by_cases hki : k = i
  · subst hki
    rw [ho] at ho'
    obtain rfl : o = o' := by simpa using ho'
    exact getD_set_true (hall e he hb)
  · rw [getD_set_ne false (Ne.symm hki)] at hk
    exact getD_set_true (hd k o' ho' hk e he hb)

/-- Whatever order is taken; es: the operations with effects. -/
def anyG (P : Program) (ops : Array Oper) (es : List Nat) (K E : AFrame → AHeap → Prop) : Nat → Array Bool → AFrame → AHeap → Prop
  | 0, listed, f, h => Region.ready .any ops listed = [] ∧ K f h
  | n + 1, listed, f, h => (Region.ready .any ops listed = [] → K f h) ∧
    ∀ i ∈ Region.ready .any ops listed, ∀ o, ops[i]? = some o →
      if es.contains i then (match wantedA ops.toList o.guard f with
        | some true => stepA P o (fun f' h' => anyG P ops es K E n (listed.setIfInBounds i true) f' h') E f h
        | some false => anyG P ops es K E n (listed.setIfInBounds i true) (f.put o.dst (.tuple [])) h
        | none => False)
      else ∃ v, YieldA P ops.toList h o v f ∧ anyG P ops es K E n (listed.setIfInBounds i true) (f.put o.dst v) h

theorem anyG_sound {P : Program} {n : Nat} {ops : Array Oper} {es : List Nat} (hok : ops.toList.all (fun o => dstOk n o.dst) = true) {ρ0 : Ren} {B : Nat} {w0 : World} {Q : AExit → AFrame → AHeap → Prop} :
    ∀ (m : Nat) (listed : Array Bool) (f : AFrame) (h : AHeap) (ρ : Ren) (a : Act) (w : World), ρ0.le ρ → WRel ρ B w0 h w → FRel ρ n f a → anyG P ops es (Q .normal) (Q .panic) m listed f h → wpAnyIn Fence.wide 0 P .any ops (CPost n B w0 ρ0 Q) m listed a w
  | 0, listed, f, h, ρ, a, w, hle, hw, hf, hq => ⟨hq.1, ⟨ρ, .normal, f, h, trivial, hw, hf, hle, hq.2⟩⟩
  | m + 1, listed, f, h, ρ, a, w, hle, hw, hf, hq => by
    refine ⟨fun h0 => ⟨ρ, .normal, f, h, trivial, hw, hf, hle, hq.1 h0⟩, fun i hi => ?_⟩
    unfold wpOpIn
    cases ho : ops[i]? with
    | none =>
      obtain ⟨_, o, hoo, _⟩ := mem_ready.1 hi
      rw [ho] at hoo; cases hoo
    | some o =>
      simp only
      have hst := hq.2 i hi o ho
      have hd : dstOk n o.dst = true := (List.all_eq_true.1 hok) o (by rw [Array.mem_toList_iff]; exact Array.mem_of_getElem? ho)
      by_cases he : es.contains i = true
      · rw [if_pos he] at hst
        cases hwn : wantedA ops.toList o.guard f with
        | none => simp [hwn] at hst
        | some b =>
          rw [wanted_eq hf ops o hwn]
          cases b with
          | true =>
            simp only [hwn] at hst
            simp only [if_true]
            exact step_sound FOk.wide hd hle hw hf hst (fun ρ' f' h' a' w' hle' hw' hf' hn => anyG_sound hok m _ f' h' ρ' a' w' hle' hw' hf' hn)
              (fun ρ' f' h' a' w' ch hle' hw' hf' hch hE => ⟨ρ', .panic, f', h', hch, hw', hf', hle', hE⟩)
          | false =>
            simp only [hwn] at hst
            simp only [Bool.false_eq_true, if_false]
            exact ⟨fun _ _ => trivial, anyG_sound hok m _ _ h ρ _ w hle hw (hf.put (tuple0_rel _) o.dst hd) hst⟩
      · rw [if_neg he] at hst
        obtain ⟨v, hy, hrest⟩ := hst
        rcases hy with ⟨hwn, hs⟩ | ⟨hwn, rfl⟩
        · rw [wanted_eq hf ops o hwn]
          simp only [if_true]
          refine step_sound FOk.wide (next := fun f' h' => f' = f.put o.dst v ∧ h' = h) (exc := fun _ _ => False) hd hle hw hf ?_ (fun ρ' f' h' a' w' hle' hw' hf' hn => ?_) (fun _ _ _ _ _ _ _ _ _ _ he => he.elim)
          · unfold stepA
            rcases hs with hs | ⟨g, args, hs, hp⟩
            · rw [hs]; exact ⟨rfl, rfl⟩
            · rw [hs]
              exact hp.e.mono (fun r h' ⟨e1, e2⟩ => ⟨by rw [e1], e2⟩) fun _ h => h
          · obtain ⟨rfl, rfl⟩ := hn
            exact anyG_sound hok m _ _ _ ρ' a' w' hle' hw' hf' hrest
        · rw [wanted_eq hf ops o hwn]
          simp only [Bool.false_eq_true, if_false]
          exact ⟨fun _ _ => trivial, anyG_sound hok m _ _ h ρ _ w hle hw (hf.put (tuple0_rel _) o.dst hd) hrest⟩

section
variable {P : Program} {ops : Array Oper} {es : List Nat} {K E : AFrame → AHeap → Prop}
def lexE (ops : Array Oper) (es : List Nat) : Nat → Nat → Array Bool → Bool
  | 0, _, listed => (Region.ready .any ops listed).isEmpty
  | fuel + 1, k, listed => (if es.contains k then Region.ready .any ops listed == [k]
      else (Region.ready .any ops listed).contains k && Region.free .any ops listed k && es.all fun e => listed.getD e true || depB ops ops.size e k) && lexE ops es fuel (k + 1) (listed.setIfInBounds k true)

theorem stepA_mono {o : Oper} {K K' E : AFrame → AHeap → Prop} (hk : ∀ f h, K f h → K' f h) {f : AFrame} {h : AHeap} (hs : stepA P o K E f h) : stepA P o K' E f h := by
  unfold stepA at *
  split at hs
  · exact hk _ _ hs
  · exact hs.mono (fun _ _ h => hk _ _ h) fun _ h => h
  · exact fun v h' hm => hk _ _ (hs v h' hm)
  · exact hs
  · exact hs.mono (fun _ _ h => hk _ _ h)
  · exact hs.elim

theorem listed_grow {listed : Array Bool} {i e : Nat} (h : listed.getD e true = true) : (listed.setIfInBounds i true).getD e true = true := by
  by_cases hie : i = e
  · subst hie
    by_cases hlt : i < listed.size
    · simp [hlt]
    · simp [hlt]
  · rw [getD_set_ne true hie]; exact h

theorem anyG_lex : ∀ (l : List Oper) (k : Nat) (listed : Array Bool) (f : AFrame) (h : AHeap), (∀ j, l[j]? = ops[k + j]?) → Down ops listed →
    lexE ops es l.length k listed = true → lexG P ops.toList es K E k l f h → anyG P ops es K E l.length listed f h
  | [], _, _, _, _, _, _, hB, hq => ⟨by simpa [lexE] using hB, hq⟩
  | o :: l, k, listed, f, h, hl, hdn, hB, hq => by
    have h0 : ops[k]? = some o := by simpa using (hl 0).symm
    have hl' : ∀ j, l[j]? = ops[k + 1 + j]? := fun j => by have := hl (j + 1); simpa [Nat.add_assoc, Nat.add_comm 1 j] using this
    simp only [List.length_cons, lexE, Bool.and_eq_true] at hB
    obtain ⟨hc, hB'⟩ := hB
    unfold lexG at hq
    by_cases he : es.contains k = true
    · rw [if_pos he] at hc hq
      have hr : Region.ready .any ops listed = [k] := by simpa using hc
      refine ⟨fun h => (by rw [hr] at h; cases h), fun i hi o' ho' => ?_⟩
      rw [hr] at hi
      obtain rfl : i = k := by simpa using hi
      rw [h0] at ho'
      obtain rfl : o = o' := by simpa using ho'
      rw [if_pos he]
      have hdn' := hdn.add (show i ∈ Region.ready .any ops listed by rw [hr]; simp)
      cases hw : wantedA ops.toList o.guard f with
      | none => simp [hw] at hq
      | some b =>
        cases b with
        | true =>
          simp only [hw] at hq ⊢
          exact stepA_mono (fun f' h' hk => anyG_lex l (i + 1) _ f' h' hl' hdn' hB' hk) hq
        | false =>
          simp only [hw] at hq ⊢
          exact anyG_lex l (i + 1) _ _ h hl' hdn' hB' hq
    · rw [if_neg he] at hc hq
      simp only [Bool.and_eq_true] at hc
      obtain ⟨⟨hr, hf⟩, hdep⟩ := hc
      have hr' : k ∈ Region.ready .any ops listed := by simpa using hr
      have : ∃ v, YieldA P ops.toList h o v f ∧ lexG P ops.toList es K E (k + 1) l (f.put o.dst v) h := by
        split at hq
        · rename_i hw; obtain ⟨v, hs, hq⟩ := hq; exact ⟨v, .inl ⟨hw, hs⟩, hq⟩
        · rename_i hw; exact ⟨.tuple [], .inr ⟨hw, rfl⟩, hq⟩
        · exact hq.elim
      obtain ⟨v, hy, hK⟩ := this
      have hes : ∀ e ∈ es, listed.getD e true = true ∨ depB ops ops.size e k = true := fun e hem => by
        have := List.all_eq_true.1 hdep e hem
        simpa using this
      refine anyG_first' h0 (by simpa using he) hes l.length listed f h hdn (Region.free_spec h0 hf) hr' hy (fun e h1 => h1)
        (anyG_lex l (k + 1) _ _ h hl' (hdn.add hr') hB' hK)
where
  anyG_first' {i : Nat} {oi : Oper} {v : V} (hi : ops[i]? = some oi) (hie : es.contains i = false) {listed0 : Array Bool} (hes : ∀ e ∈ es, listed0.getD e true = true ∨ depB ops ops.size e i = true)
      (fuel : Nat) (listed : Array Bool) (f : AFrame) (h : AHeap) (hdn : Down ops listed) (hfree : ∀ j oj, ops[j]? = some oj → j ≠ i → listed.getD j true = false → (∀ e ∈ oj.after, Region.binds .any e = true → e.on ≠ i) → oi.apart ops oj = true)
      (hr : i ∈ Region.ready .any ops listed) (hy : YieldA P ops.toList h oi v f) (hsub : ∀ e, listed0.getD e true = true → listed.getD e true = true)
      (H : anyG P ops es K E fuel (listed.setIfInBounds i true) (f.put oi.dst v) h) : anyG P ops es K E (fuel + 1) listed f h := by
    induction fuel generalizing listed f with
    | zero =>
      refine ⟨fun h => (by rw [h] at hr; cases hr), fun j hj o ho => ?_⟩
      by_cases hji : j = i
      · subst hji
        rw [hi] at ho
        obtain rfl : oi = o := by simpa using ho
        rw [if_neg (by rw [hie]; exact Bool.false_ne_true)]
        exact ⟨v, hy, H⟩
      · have := ready_mono hj hji
        rw [H.1] at this
        cases this
    | succ fuel ih =>
      refine ⟨fun h => (by rw [h] at hr; cases hr), fun j hj oj hoj => ?_⟩
      by_cases hji : j = i
      · subst hji
        rw [hi] at hoj
        obtain rfl : oi = oj := by simpa using hoj
        rw [if_neg (by rw [hie]; exact Bool.false_ne_true)]
        exact ⟨v, hy, H⟩
      · have hun := (mem_ready.1 hr).1
        obtain ⟨hjun, oj', hoj', hall⟩ := mem_ready.1 hj
        rw [hoj] at hoj'
        obtain rfl : oj = oj' := by simpa using hoj'
        have hje : ¬ es.contains j = true := fun hc => by
          rcases hes j (by simpa using hc) with h1 | h1
          · rw [hsub j h1] at hjun; cases hjun
          · have h2 := dep_listed hdn _ j i (fun o' ho' e he hb => by rw [hoj] at ho'; obtain rfl : oj = o' := by simpa using ho'
                                                                      exact hall e he hb) h1
            rcases Nat.lt_or_ge i listed.size with h' | h'
            · simp [h'] at hun h2; rw [hun] at h2; cases h2
            · simp [Array.getElem?_eq_none h'] at h2
        have hH := H.2 j (ready_mono hj hji) oj hoj
        rw [if_neg hje] at hH ⊢
        obtain ⟨u, hyj, hrest⟩ := hH
        have hnot : ∀ e ∈ oj.after, Region.binds .any e = true → e.on ≠ i := fun e he hb heq => by
          have h1 := hall e he hb
          have h0 := hun
          rw [heq] at h1
          rcases Nat.lt_or_ge i listed.size with h' | h'
          · simp [h'] at h0 h1; rw [h0] at h1; cases h1
          · simp [Array.getElem?_eq_none h'] at h1
        obtain ⟨a1, a2, a3⟩ := Oper.apart_spec (hfree j oj hoj hji hjun hnot)
        refine ⟨u, hyj.unput oi.dst v a1, ?_⟩
        have hfree' : ∀ k ok, ops[k]? = some ok → k ≠ i → (listed.setIfInBounds j true).getD k true = false →
            (∀ e ∈ ok.after, Region.binds .any e = true → e.on ≠ i) → oi.apart ops ok = true := fun k ok hk hki hun hno => by
          refine hfree k ok hk hki ?_ hno
          by_cases hjk : j = k
          · subst hjk; exact hjun
          · rw [getD_set_ne true hjk] at hun; exact hun
        refine ih (listed.setIfInBounds j true) (f.put oj.dst u) (hdn.add hj) hfree' (ready_mono hr (Ne.symm hji)) (hy.put oj.dst u a3) (fun e h1 => listed_grow (hsub e h1)) ?_
        rw [Array.setIfInBounds_comm _ _ hji, ← AFrame.put_comm f v u a2]
        exact hrest
end

/-- A statement whose order is open: es lists the operations with effects. -/
theorem SWp.drawn {P : Program} {n id : Nat} {ops : Array Oper} (es : List Nat) (hm : P.follows .mixedOrders = true) (hB : lexE ops es ops.size 0 (Array.replicate ops.size false) = true) (hok : ops.toList.all (fun o => dstOk n o.dst) = true) {Q : AExit → AFrame → AHeap → Prop} {f : AFrame} {h : AHeap}
    (hq : lexG P ops.toList es (Q .normal) (Q .panic) 0 ops.toList f h) : SWp P n (.region id ops true) Q f h := by
  intro ρ B w0 a w hw hf
  refine wpIn_wide.1 (wpIn_region_any (n := 0) hm (anyG_sound (ρ0 := ρ) (es := es) hok _ _ f h ρ a _ (Ren.le.refl ρ) hw.drew hf ?_))
  have := anyG_lex (P := P) (es := es) ops.toList 0 (Array.replicate ops.size false) f h (by simp) (fun k o ho hk => by simp [Array.getElem?_replicate] at hk; split at hk <;> simp_all) (by simpa using hB) hq
  simpa using this

/-! Step by step. -/
class Et where
  exc : AFrame → AHeap → Prop
def gI (P : Program) (ol : List Oper) (es : List Nat) (k : Nat) (l : List Oper) [K : Kt] (f : AFrame) (h : AHeap) : Prop := lexG P ol es K.go K.exc k l f h
theorem SWp.drawnI {P : Program} {n id : Nat} {ops : Array Oper} (es : List Nat) (hm : P.follows .mixedOrders = true) (hB : lexE ops es ops.size 0 (Array.replicate ops.size false) = true) (hok : ops.toList.all (fun o => dstOk n o.dst) = true) {Q : Qt} {f : AFrame} {h : AHeap}
    (hq : @gI P ops.toList es 0 ops.toList (.out Q) f h) : SWp P n (.region id ops true) Q.go f h := SWp.drawn es hm hB hok hq
section
variable {P : Program} {ol l : List Oper} {es : List Nat} {k : Nat} {K : Kt} {f : AFrame} {h : AHeap} {d : Option Tmp} {ty : TypeId} {pos : String} {aft : Array Edge} {op : Op} {g : Option (Nat × Bool)}
theorem gI_nil : @gI P ol es k [] K f h = @goI K f h := nr rfl
theorem goI_rest : @goI (Kt.rest P ol es k l K) f h = @gI P ol es k l K f h := nr rfl
theorem excE_rest : Kt.exc (Kt.rest P ol es k l K) f h = Kt.exc K f h := nr rfl
/-- May one operation be taken as if it stood alone? -/
theorem quiet_of_step {o : Oper} {h : AHeap} {f : AFrame} {X E : AFrame → AHeap → Prop} (hv : ∀ v h', opEval P o (f.eval h) h = some (.val v h') → h' = h) (hs : stepA P o X E f h) (hnc : ∀ g a, opEval P o (f.eval h) h ≠ some (.call g a)) (hna : ∀ l, opEval P o (f.eval h) h ≠ some (.alts l)) (hnp : opEval P o (f.eval h) h ≠ some .panic) (hnr : ∀ l a, opEval P o (f.eval h) h ≠ some (.round l a)) :
    ∃ v, quietStep P o h f v ∧ X (f.put o.dst v) h := by
  unfold stepA at hs
  cases he : opEval P o (f.eval h) h with
  | none => simp [he] at hs
  | some s =>
    cases s with
    | val v h' => simp only [he] at hs; have := hv v h' he; subst this; exact ⟨v, .inl he, hs⟩
    | call g a => exact absurd he (hnc g a)
    | alts l => exact absurd he (hna l)
    | panic => exact absurd he hnp
    | round l a => exact absurd he (hnr l a)
/-- Operations that leave the memory alone. -/
def idleOp : Op → Bool
  | .move _ | .assign _ | .pick .. | .build .. | .load .. | .nilCheck _ | .binOp .. | .unOp .. | .makeInterface .. | .makeFunc .. | .slice .. | .fieldAddr .. | .field .. | .indexAddr .. | .index .. | .lookup .. | .entry _ | .typeAssert .. | .extract .. => true
  | .convert s d _ => s != d
  | .call ⟨.builtin .len, _, _⟩ | .call ⟨.builtin .min, _, _⟩ | .call ⟨.builtin .max, _, _⟩ => true
  | _ => false
theorem justV_cases {x : Option V} {h : AHeap} {s : Step} (hj : justV x h = some s) : ∃ v, s = .val v h := by
  unfold justV at hj
  split at hj
  · simp at hj; exact ⟨_, hj.symm⟩
  · cases hj
theorem idle_val {o : Oper} (hi : idleOp o.op = true) {ev : Operand → V} {s : Step} (he : opEval P o ev h = some s) : ∃ v, s = .val v h := by
  obtain ⟨dst, op, type, pos, after, guard⟩ := o
  unfold opEval at he
  cases op <;> simp [idleOp] at hi <;> simp only at he
  case move x => simp at he; exact ⟨_, he.symm⟩
  case assign x => simp at he; exact ⟨_, he.symm⟩
  case pick c a b => split at he <;> simp at he; exact ⟨_, he.symm⟩
  case nilCheck x => split at he <;> simp at he <;> exact ⟨_, he.symm⟩
  case makeInterface t x => split at he <;> simp at he; exact ⟨_, he.symm⟩
  case makeFunc fn xs ys => cases fn <;> simp at he; exact ⟨_, he.symm⟩
  case extract t k => split at he <;> first | exact justV_cases he | simp at he
  case convert a b x =>
    cases hc : aConv P a b (ev x) h with
    | some v =>
      rw [hc] at he
      exact ⟨v, (Option.some.inj he).symm⟩
    | none =>
      rw [hc] at he
      have : aConvM P a b (ev x) h = none := by
        unfold aConvM
        split
        · rw [if_neg (fun e => hi e.1)]
        · rfl
      rw [this] at he
      cases he
  case call c =>
    have hb : c.callee = .builtin .len ∨ c.callee = .builtin .min ∨ c.callee = .builtin .max := by
      split at hi <;> simp_all
    have hbi : ∀ b, c.callee = .builtin b → (b = .len ∨ b = .min ∨ b = .max) → ∃ v, s = .val v h := fun b hb hc => by
      unfold aCall at he
      rw [hb] at he
      have he' : (match aBuiltin P b c.argTypes.toList type (constsOf c.args) (c.args.toList.map ev) h with | some (v, h') => some (Step.val v h') | none => none) = some s := by
        rcases hc with rfl | rfl | rfl <;> exact he
      cases ha : aBuiltin P b c.argTypes.toList type (constsOf c.args) (c.args.toList.map ev) h with
      | none => rw [ha] at he'; cases he'
      | some p =>
        obtain ⟨v, h'⟩ := p
        rw [ha] at he'
        simp at he'
        subst he'
        have : h' = h := by
          unfold aBuiltin at ha
          rcases hc with rfl | rfl | rfl
          · split at ha
            · split at ha <;> simp at ha; exact ha.2.symm
            all_goals first
              | (simp at *; done)
              | (split at ha
                 · split at ha <;> simp at ha; exact ha.2.symm
                 · simp at ha)
          all_goals
            split at ha
            all_goals first
              | (simp at *; done)
              | (split at ha
                 · split at ha <;> simp at ha; exact ha.2.symm
                 · simp at ha)
        subst this
        exact ⟨v, rfl⟩
    rcases hb with hb | hb | hb
    · exact hbi _ hb (.inl rfl)
    · exact hbi _ hb (.inr (.inl rfl))
    · exact hbi _ hb (.inr (.inr rfl))
  all_goals exact justV_cases he
/-- The guard of an operation. -/
def ggI (w : Option Bool) (o : Oper) (P : Program) (ol : List Oper) (es : List Nat) (k : Nat) (l : List Oper) [K : Kt] (f : AFrame) (h : AHeap) : Prop :=
  match w with
  | some true => @stepI P o (Kt.rest P ol es (k + 1) l K) f h
  | some false => @gI P ol es (k + 1) l K (f.put o.dst (.tuple [])) h
  | none => False
/-- An operation that leaves the memory alone, or one with an effect that es lists. -/
theorem gI_step {o : Oper} (hi : (idleOp o.op || es.contains k) = true) (hs : @ggI (wantedA ol o.guard f) o P ol es k l K f h) : @gI P ol es k (o :: l) K f h := by
  unfold gI lexG
  unfold ggI at hs
  by_cases he : es.contains k = true
  · rw [if_pos he]
    cases hw : wantedA ol o.guard f with
    | none => simp [hw] at hs
    | some b => cases b <;> simp only [hw] at hs ⊢ <;> exact hs
  · rw [if_neg he]
    have hid : idleOp o.op = true := by
      simp only [Bool.or_eq_true] at hi
      exact hi.resolve_right he
    cases hw : wantedA ol o.guard f with
    | none => simp [hw] at hs
    | some b =>
      cases b with
      | false => simp only [hw] at hs ⊢; exact hs
      | true =>
        simp only [hw] at hs ⊢
        have hs' : stepA P o (fun f' h' => lexG P ol es K.go K.exc (k + 1) l f' h') K.exc f h := hs
        exact quiet_of_step (fun v h' he => by obtain ⟨u, hu⟩ := idle_val hid he; cases hu; rfl) hs'
          (fun g a he => by obtain ⟨u, hu⟩ := idle_val hid he; cases hu) (fun l he => by obtain ⟨u, hu⟩ := idle_val hid he; cases hu) (fun he => by obtain ⟨u, hu⟩ := idle_val hid he; cases hu) (fun l a he => by obtain ⟨u, hu⟩ := idle_val hid he; cases hu)
theorem gI_cons {o : Oper} (hi : (idleOp o.op || es.contains k) = true) : @gI P ol es k (o :: l) K f h = @ggI (wantedA ol o.guard f) o P ol es k l K f h := by
  refine propext ⟨fun hg => ?_, gI_step hi⟩
  unfold gI lexG at hg
  unfold ggI
  by_cases he : es.contains k = true
  · rw [if_pos he] at hg
    cases hw : wantedA ol o.guard f with
    | none => simp [hw] at hg
    | some b => cases b <;> simp only [hw] at hg ⊢ <;> exact hg
  · rw [if_neg he] at hg
    have hid : idleOp o.op = true := by
      simp only [Bool.or_eq_true] at hi
      exact hi.resolve_right he
    cases hw : wantedA ol o.guard f with
    | none => simp [hw] at hg
    | some b =>
      cases b with
      | false => simp only [hw] at hg ⊢; exact hg
      | true =>
        simp only [hw] at hg ⊢
        obtain ⟨v, hq, hk⟩ := hg
        show stepA P o (fun f' h' => lexG P ol es K.go K.exc (k + 1) l f' h') K.exc f h
        unfold stepA
        rcases hq with hq | ⟨g, a, hq, _⟩
        · rw [hq]; exact hk
        · obtain ⟨u, hu⟩ := idle_val (h := h) hid hq; cases hu
theorem ggI_true {o : Oper} : @ggI (some true) o P ol es k l K f h = @stepI P o (Kt.rest P ol es (k + 1) l K) f h := nr rfl
theorem ggI_false {o : Oper} : @ggI (some false) o P ol es k l K f h = @gI P ol es (k + 1) l K (f.put o.dst (.tuple [])) h := nr rfl
theorem wantedA_none : wantedA ol none f = some true := nr rfl
def wantV (v : V) (b : Bool) : Option Bool := match v with | .top => none | .bool c => some (c == b) | _ => some false
def wantS (t : Option Tmp) (f : AFrame) (b : Bool) : Option Bool := match t with | some t => wantV (f t) b | none => some false
theorem wantedA_some {j : Nat} {b : Bool} : wantedA ol (some (j, b)) f = wantS (slotAt ol j) f b := by
  rw [slotAt_eq]
  simp only [wantedA, wantS]
  cases (ol[j]?).bind (·.dst) with
  | none => rfl
  | some t => unfold wantV; first | rfl | (simp only []; done) | (cases f t <;> rfl)
theorem wantS_some {t : Tmp} {b : Bool} : wantS (some t) f b = wantV (f t) b := nr rfl
theorem wantV_u {vs : List V} {b : Bool} : wantV (.tuple vs) b = some false := nr rfl
theorem wantV_tt : wantV (.bool true) true = some true := nr rfl
theorem wantV_ff : wantV (.bool false) false = some true := nr rfl
theorem wantV_tf : wantV (.bool true) false = some false := nr rfl
theorem wantV_ft : wantV (.bool false) true = some false := nr rfl
/-- A call that leaves the memory as it was, and that es doesn't list. -/
theorem gI_pure {o : Oper} {fid : FuncId} {args : List V} {v : V} (he : es.contains k = false) (hg : wantedA ol o.guard f = some true) (ho : opEval P o (f.eval h) h = some (.call fid args)) (hp : Pure P fid args h v) (hk : @gI P ol es (k + 1) l K (f.put o.dst v) h) : @gI P ol es k (o :: l) K f h := by
  unfold gI lexG
  rw [if_neg (by simp only [he]; simp), hg]
  exact ⟨v, .inr ⟨fid, args, ho, hp⟩, hk⟩
end
end Go.Proofs.YtfcjehlhoebmnaaGreatDoor.Ab
