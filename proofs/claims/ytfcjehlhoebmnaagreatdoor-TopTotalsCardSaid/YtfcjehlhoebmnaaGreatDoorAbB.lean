/-
  Abstract values and an abstract heap for Go code, related to the world; the operations on them, and the rules of code. Conditions: none.
-/
import Derived.Test.YtfcjehlhoebmnaaGreatDoorAbA
import Derived.IntWalk
import Derived.SizedLaws
import Derived.Laws.StructEq
import Derived.Recover
import Derived.Lib.LaidTab
import Derived.OpenShut
import Derived.Sort.Row
import Derived.Sort.Grow
import Derived.Sort.Statements
import Derived.Shelf.SlSortCmp.InsertionK
set_option linter.unusedVariables false
set_option linter.unusedSimpArgs false
namespace Go.Proofs.YtfcjehlhoebmnaaGreatDoor.Ab
open Go Go.RowKit
set_option linter.unusedVariables false
theorem nr {α : Sort _} {a b : α} (h : a = b) : a = b := h
class inductive Qt where
 | fn (run : AExit → AFrame → AHeap → Prop)
 | seq (P : Program) (n : Nat) (b : Code) (Q : Qt)
 | blk (id : Nat) (Q : Qt)
def Qt.go : Qt → AExit → AFrame → AHeap → Prop
 | .fn r => r
 | .seq P n b Q => andThen (fun f h => wpA P n b Q.go f h) Q.go
 | .blk id Q => inBlk id Q.go
class inductive Kt where
 | fn (run exc : AFrame → AHeap → Prop)
 | out (Q : Qt)
 | ops (P : Program) (ol l : List Oper) (K : Kt)
 | rest (P : Program) (ol : List Oper) (es : List Nat) (k : Nat) (l : List Oper) (K : Kt)
def Kt.exc : Kt → AFrame → AHeap → Prop
 | .fn _ e => e
 | .out Q => Q.go .panic
 | .ops _ _ _ K => K.exc
 | .rest _ _ _ _ _ K => K.exc
def Kt.go : Kt → AFrame → AHeap → Prop
 | .fn r _ => r
 | .out Q => Q.go .normal
 | .ops P ol l K => opsA P ol l K.go K.exc
 | .rest P ol es k l K => lexG P ol es K.go K.exc k l
def wpI (P : Program) (n : Nat) (c : Code) [Q : Qt] (f : AFrame) (h : AHeap) : Prop := wpA P n c Q.go f h
def opsI (P : Program) (ol l : List Oper) [K : Kt] (f : AFrame) (h : AHeap) : Prop := opsA P ol l K.go K.exc f h
def stepI (P : Program) (o : Oper) [K : Kt] (f : AFrame) (h : AHeap) : Prop := stepA P o K.go K.exc f h
def endI (x : AExit) [Q : Qt] (f : AFrame) (h : AHeap) : Prop := Q.go x f h
def goI [K : Kt] (f : AFrame) (h : AHeap) : Prop := K.go f h
def condI (v : V) [p : Pt] [q : Pt] : Prop := match v with | .bool true => p.prop | .bool false => q.prop | _ => False
section
variable {P : Program} {n id : Nat} {ops : Array Oper} {l : List Oper} {Q : Qt} {K : Kt} {f : AFrame} {h : AHeap}
theorem wpA_skip : @wpI P n .skip Q f h = @endI .normal Q f h := nr rfl
theorem wpA_region : @wpI P n (.region id ops false) Q f h = @opsI P ops.toList ops.toList (.out Q) f h := nr rfl
theorem wpA_seq {a b : Code} : @wpI P n (.seq a b) Q f h = @wpI P n a (.seq P n b Q) f h := nr rfl
theorem condI_true {p q : Pt} : @condI (.bool true) p q = p.prop := nr rfl
theorem condI_false {p q : Pt} : @condI (.bool false) p q = q.prop := nr rfl
theorem pt_mk {p : Prop} : @Pt.prop ⟨p⟩ = p := nr rfl
theorem wpA_cond {c : Operand} {a b : Code} : @wpI P n (.cond c a b) Q f h = @condI (f.eval h c) ⟨@wpI P n a Q f h⟩ ⟨@wpI P n b Q f h⟩ := by
 show (match f.eval h c with | .bool true => wpA P n a Q.go f h | .bool false => wpA P n b Q.go f h | _ => False) = _
 unfold condI
 cases f.eval h c with
 | bool t => cases t <;> rfl
 | _ => rfl
theorem wpA_block {b : Code} : @wpI P n (.block id b) Q f h = @wpI P n b (.blk id Q) f h := nr rfl
theorem wpA_exit : @wpI P n (.exit id) Q f h = @endI (.exit id) Q f h := nr rfl
theorem wpA_goto : @wpI P n (.goto id) Q f h = @endI (.goto id) Q f h := nr rfl
theorem wpA_label : @wpI P n (.label id) Q f h = @endI .normal Q f h := nr rfl
theorem wpA_ret : @wpI P n .ret Q f h = @endI .ret Q f h := nr rfl
theorem wpA_loop {b : Code} : @wpI P n (.loop b) Q f h = SWp P n (.loop b) Q.go f h := nr rfl
theorem wpA_scope {b : Code} : @wpI P n (.scope b) Q f h = SWp P n (.scope b) Q.go f h := nr rfl
theorem wpA_draw : @wpI P n (.region id ops true) Q f h = SWp P n (.region id ops true) Q.go f h := nr rfl
theorem seqQ_normal {b : Code} : @endI .normal (.seq P n b Q) f h = @wpI P n b Q f h := nr rfl
theorem seqQ_exit {b : Code} {j : Nat} : @endI (.exit j) (.seq P n b Q) f h = @endI (.exit j) Q f h := nr rfl
theorem seqQ_goto {b : Code} {j : Nat} : @endI (.goto j) (.seq P n b Q) f h = @endI (.goto j) Q f h := nr rfl
theorem seqQ_ret {b : Code} : @endI .ret (.seq P n b Q) f h = @endI .ret Q f h := nr rfl
theorem seqQ_panic {b : Code} : @endI .panic (.seq P n b Q) f h = @endI .panic Q f h := nr rfl
theorem blkQ_normal : @endI .normal (.blk id Q) f h = @endI .normal Q f h := nr rfl
theorem blkQ_exit {j : Nat} : @endI (.exit j) (.blk id Q) f h = if j = id then @endI .normal Q f h else @endI (.exit j) Q f h := nr rfl
theorem blkQ_goto {j : Nat} : @endI (.goto j) (.blk id Q) f h = @endI (.goto j) Q f h := nr rfl
theorem blkQ_ret : @endI .ret (.blk id Q) f h = @endI .ret Q f h := nr rfl
theorem blkQ_panic : @endI .panic (.blk id Q) f h = @endI .panic Q f h := nr rfl
theorem endI_mk {x : AExit} {Q : AExit → AFrame → AHeap → Prop} : @endI x (.fn Q) f h = Q x f h := nr rfl
theorem goI_out : @goI (.out Q) f h = @endI .normal Q f h := nr rfl
theorem goI_ops {ol : List Oper} : @goI (.ops P ol l K) f h = @opsI P ol l K f h := nr rfl
theorem goI_mk {K E : AFrame → AHeap → Prop} : @goI (.fn K E) f h = K f h := nr rfl
theorem opsA_nil {ol : List Oper} : @opsI P ol [] K f h = @goI K f h := nr rfl
theorem goE {x : AExit} : Qt.go Q x f h = @endI x Q f h := nr rfl
theorem excE_out : Kt.exc (.out Q) f h = @endI .panic Q f h := nr rfl
theorem excE_ops {ol : List Oper} : Kt.exc (.ops P ol l K) f h = Kt.exc K f h := nr rfl
theorem andThen_normal {K : AFrame → AHeap → Prop} {Q : AExit → AFrame → AHeap → Prop} : andThen K Q .normal f h = K f h := nr rfl
theorem andThen_exit {K : AFrame → AHeap → Prop} {Q : AExit → AFrame → AHeap → Prop} : andThen K Q (.exit id) f h = Q (.exit id) f h := nr rfl
theorem andThen_goto {K : AFrame → AHeap → Prop} {Q : AExit → AFrame → AHeap → Prop} : andThen K Q (.goto id) f h = Q (.goto id) f h := nr rfl
theorem andThen_ret {K : AFrame → AHeap → Prop} {Q : AExit → AFrame → AHeap → Prop} : andThen K Q .ret f h = Q .ret f h := nr rfl
theorem andThen_panic {K : AFrame → AHeap → Prop} {Q : AExit → AFrame → AHeap → Prop} : andThen K Q .panic f h = Q .panic f h := nr rfl
theorem wpI_sound {c : Code} {Q : AExit → AFrame → AHeap → Prop} (hok : codeOk n c = true) (hq : @wpI P n c (.fn Q) f h) : SWp P n c Q f h := wpA_sound c Q f h hok hq
theorem SCalls.enterI {fid : FuncId} {fn : Func} {c : Code} (hfn : P.funcs[fid]? = some fn) (hb : fn.body = some c) (hok : codeOk fn.ntmps c = true) {args : List V} (hlen : args.length ≤ fn.ntmps)
  {h : AHeap} {R : V → AHeap → Prop} (hq : @wpI P fn.ntmps c (.fn (retA P fn (fun r h => @hidI ⟨R r h⟩) fun _ => False)) (enterF args) h) : SCalls P fid args h R := SCallsE.enter hfn hb hok hlen hq
variable {d : Option Tmp} {ty : TypeId} {pos : String} {aft : Array Edge} {ol : List Oper}
def thenV (o : Option V) (d : Option Tmp) [K : Kt] (f : AFrame) (h : AHeap) : Prop := match o with | some v => K.go (f.put d v) h | none => False
def thenH (o : Option (V × AHeap)) (d : Option Tmp) [K : Kt] (f : AFrame) : Prop := match o with | some (v, h) => K.go (f.put d v) h | none => False
def thenS (o : Option AHeap) (d : Option Tmp) [K : Kt] (f : AFrame) : Prop := match o with | some h => K.go (f.put d .top) h | none => False
theorem thenV_some {v : V} : @thenV (some v) d K f h = @goI K (f.put d v) h := nr rfl
theorem thenH_some {v : V} {h' : AHeap} : @thenH (some (v, h')) d K f = @goI K (f.put d v) h' := nr rfl
theorem thenS_some {h' : AHeap} : @thenS (some h') d K f = @goI K (f.put d .top) h' := nr rfl
theorem thenV_none : @thenV none d K f h = False := nr rfl
theorem thenH_none : @thenH none d K f = False := nr rfl
theorem thenS_none : @thenS none d K f = False := nr rfl
theorem opsA_cons {op : Op} : @opsI P ol (⟨d, op, ty, pos, aft, none⟩ :: l) K f h = @stepI P ⟨d, op, ty, pos, aft, none⟩ (.ops P ol l K) f h := nr rfl
def slotAt : List Oper → Nat → Option Tmp
 | [], _ => none
 | o :: _, 0 => o.dst
 | _ :: r, j + 1 => slotAt r j
theorem slotAt_eq : ∀ (l : List Oper) (j : Nat), slotAt l j = (l[j]?).bind (·.dst)
 | [], j => by simp [slotAt]
 | o :: r, 0 => by simp [slotAt]
 | o :: r, j + 1 => by simp [slotAt, slotAt_eq r j]
def gvI (v : V) (o : Oper) (P : Program) (ol l : List Oper) [K : Kt] (f : AFrame) (h : AHeap) : Prop :=
 match v, o.guard with
 | .bool c, some (_, b) => if c = b then @stepI P o (.ops P ol l K) f h else @opsI P ol l K (f.put o.dst (.tuple [])) h
 | .top, _ => False
 | _, _ => @opsI P ol l K (f.put o.dst (.tuple [])) h
theorem opsA_guardS {op : Op} {j : Nat} {b : Bool} : @opsI P ol (⟨d, op, ty, pos, aft, some (j, b)⟩ :: l) K f h =
  (match slotAt ol j with | some t => @gvI (f t) ⟨d, op, ty, pos, aft, some (j, b)⟩ P ol l K f h | none => @opsI P ol l K (f.put d (.tuple [])) h) := by
 rw [slotAt_eq]
 show opsA P ol (⟨d, op, ty, pos, aft, some (j, b)⟩ :: l) K.go K.exc f h = _
 simp only [opsA, wantedA]
 cases ht : (ol[j]?).bind (·.dst) with
 | none => rfl
 | some t =>
  simp only [gvI]
  cases hf : f t <;> try rfl
  rename_i c
  simp only
  by_cases hc : c = b
  ·subst hc; simp only [beq_self_eq_true, if_true]; rfl
  ·have : (c == b) = false := by simp [hc]
   simp only [this, if_neg hc]
   rfl
theorem gvI_same {b : Bool} {op : Op} {j : Nat} : @gvI (.bool b) ⟨d, op, ty, pos, aft, some (j, b)⟩ P ol l K f h = @stepI P ⟨d, op, ty, pos, aft, some (j, b)⟩ (.ops P ol l K) f h := if_pos rfl
theorem gvI_tf {op : Op} {j : Nat} : @gvI (.bool true) ⟨d, op, ty, pos, aft, some (j, false)⟩ P ol l K f h = @opsI P ol l K (f.put d (.tuple [])) h := nr rfl
theorem gvI_ft {op : Op} {j : Nat} : @gvI (.bool false) ⟨d, op, ty, pos, aft, some (j, true)⟩ P ol l K f h = @opsI P ol l K (f.put d (.tuple [])) h := nr rfl
theorem gvI_u {op : Op} {j : Nat} {b : Bool} {vs : List V} : @gvI (.tuple vs) ⟨d, op, ty, pos, aft, some (j, b)⟩ P ol l K f h = @opsI P ol l K (f.put d (.tuple [])) h := nr rfl
theorem slotAt_zero {o : Oper} {r : List Oper} : slotAt (o :: r) 0 = o.dst := nr rfl
theorem slotAt_succ {o : Oper} {r : List Oper} {j : Nat} : slotAt (o :: r) (j + 1) = slotAt r j := nr rfl
variable {g : Option (Nat × Bool)}
theorem justV_step {o : Oper} {x : Option V} (he : opEval P o (f.eval h) h = justV x h) : @stepI P o K f h = @thenV x o.dst K f h := by
 unfold stepI stepA; rw [he]; cases x <;> rfl
theorem andH_step {o : Oper} {x : Option (V × AHeap)} (he : opEval P o (f.eval h) h = andH x) : @stepI P o K f h = @thenH x o.dst K f := by
 unfold stepI stepA; rw [he]; cases x <;> rfl
theorem justH_step {o : Oper} {x : Option AHeap} (he : opEval P o (f.eval h) h = justH x) : @stepI P o K f h = @thenS x o.dst K f := by
 unfold stepI stepA; rw [he]; cases x <;> rfl
theorem stepA_move {x : Operand} : @stepI P ⟨d, .move x, ty, pos, aft, g⟩ K f h = @goI K (f.put d (f.eval h x)) h := nr rfl
theorem stepA_assign {x : Operand} : @stepI P ⟨d, .assign x, ty, pos, aft, g⟩ K f h = @goI K (f.put d (f.eval h x)) h := nr rfl
def pickV (c a b : V) : Option V := match c with | .bool t => some (if t then a else b) | _ => none
theorem stepA_pick {c a b : Operand} : @stepI P ⟨d, .pick c a b, ty, pos, aft, g⟩ K f h = @thenV (pickV (f.eval h c) (f.eval h a) (f.eval h b)) d K f h := by
 unfold stepI stepA opEval pickV thenV; simp only; cases f.eval h c <;> rfl
theorem pickV_true {a b : V} : pickV (.bool true) a b = some a := nr rfl
theorem pickV_false {a b : V} : pickV (.bool false) a b = some b := nr rfl
theorem stepA_alloc {e : TypeId} : @stepI P ⟨d, .alloc e, ty, pos, aft, g⟩ K f h = @thenH (aAlloc P e h) d K f := andH_step rfl
theorem stepA_box {e : TypeId} {x : Operand} : @stepI P ⟨d, .box e x, ty, pos, aft, g⟩ K f h = @thenH (aBox e (f.eval h x) h) d K f := andH_step rfl
theorem stepA_build {t : TypeId} {ps : Array (Nat × Operand)} : @stepI P ⟨d, .build t ps, ty, pos, aft, g⟩ K f h = @thenV (aBuild P t (ps.toList.map fun p => (p.1, f.eval h p.2))) d K f h := justV_step rfl
theorem stepA_buildSlice {t : TypeId} {len : Nat} {ps : Array (Nat × Operand)} : @stepI P ⟨d, .buildSlice t len ps, ty, pos, aft, g⟩ K f h = @thenH (aBuildSlice P t len (ps.toList.map fun p => (p.1, f.eval h p.2)) h) d K f := andH_step rfl
theorem stepA_load {t : TypeId} {a : Operand} : @stepI P ⟨d, .load t a, ty, pos, aft, g⟩ K f h = @thenV (aLoad P t (f.eval h a) h) d K f h := justV_step rfl
theorem stepA_store {t : TypeId} {a x : Operand} : @stepI P ⟨d, .store t a x, ty, pos, aft, g⟩ K f h = @thenS (aStore P t (f.eval h a) (f.eval h x) h) d K f := justH_step rfl
def nilV (x : V) : Option V := match x with | .ptr i o => some (.ptr i o) | .at cs => some (.at cs) | .func (.func fid) xs ys => some (.func (.func fid) xs ys) | _ => none
theorem nilV_ptr {i o : Nat} : nilV (.ptr i o) = some (.ptr i o) := nr rfl
theorem nilV_at {cs : List V} : nilV (.at cs) = some (.at cs) := nr rfl
theorem nilV_func {fid : FuncId} {xs ys : List V} : nilV (.func (.func fid) xs ys) = some (.func (.func fid) xs ys) := nr rfl
theorem stepA_nilCheck {x : Operand} : @stepI P ⟨d, .nilCheck x, ty, pos, aft, g⟩ K f h = @thenV (nilV (f.eval h x)) d K f h := by
 unfold stepI stepA opEval nilV thenV; simp only
 generalize f.eval h x = y
 cases y <;> try rfl
 rename_i fn xs ys
 cases fn <;> rfl
theorem stepA_binOp {op : BinOp} {t yt : TypeId} {x y : Operand} : @stepI P ⟨d, .binOp op t x y yt, ty, pos, aft, g⟩ K f h = @thenV (aBin P op t x y (f.eval h x) (f.eval h y)) d K f h := justV_step rfl
theorem stepA_unOp {op : UnOp} {t : TypeId} {x : Operand} : @stepI P ⟨d, .unOp op t x, ty, pos, aft, g⟩ K f h = @thenV (aUn P op (f.eval h x)) d K f h := justV_step rfl
def thenC (o : Option V) (b : Option (V × AHeap)) (d : Option Tmp) [K : Kt] (f : AFrame) (h : AHeap) : Prop := match o with | some v => K.go (f.put d v) h | none => @thenH b d K f
theorem thenC_some {v : V} {b : Option (V × AHeap)} : @thenC (some v) b d K f h = @goI K (f.put d v) h := nr rfl
theorem thenC_mark {v : V} {h' : AHeap} : @thenC none (some (v, h')) d K f h = @goI K (f.put d v) h' := nr rfl
theorem stepA_convert {s t : TypeId} {x : Operand} : @stepI P ⟨d, .convert s t x, ty, pos, aft, g⟩ K f h = @thenC (aConv P s t (f.eval h x) h) (aConvM P s t (f.eval h x) h) d K f h := by
 have he : opEval P ⟨d, .convert s t x, ty, pos, aft, g⟩ (f.eval h) h = (match aConv P s t (f.eval h x) h with | some v => some (.val v h) | none => andH (aConvM P s t (f.eval h x) h)) := rfl
 unfold thenC
 cases hc : aConv P s t (f.eval h x) h with
 | some v =>
  rw [hc] at he
  exact justV_step (x := some v) he
 | none =>
  rw [hc] at he
  exact andH_step he
theorem stepA_makeMap {t : TypeId} {r : Option Operand} : @stepI P ⟨d, .makeMap t r, ty, pos, aft, g⟩ K f h = @thenH (aMakeMap P t (r.map (f.eval h)) h) d K f := andH_step rfl
theorem stepA_makeSlice {t : TypeId} {x y : Operand} : @stepI P ⟨d, .makeSlice t x y, ty, pos, aft, g⟩ K f h = @thenH (aMake P t (f.eval h x) (f.eval h y) h) d K f := andH_step rfl
theorem stepA_slice {t : TypeId} {x : Operand} {lo hi mx : Option Operand} : @stepI P ⟨d, .slice t x lo hi mx, ty, pos, aft, g⟩ K f h = @thenV (aSlice P t (f.eval h x) (lo.map (f.eval h)) (hi.map (f.eval h)) (mx.map (f.eval h))) d K f h := justV_step rfl
theorem stepA_fieldAddr {t : TypeId} {x : Operand} {k : Nat} : @stepI P ⟨d, .fieldAddr t x k, ty, pos, aft, g⟩ K f h = @thenV (aField P t (f.eval h x) k) d K f h := justV_step rfl
theorem stepA_field {t : TypeId} {x : Operand} {k : Nat} : @stepI P ⟨d, .field t x k, ty, pos, aft, g⟩ K f h = @thenV (aFieldOf P t (f.eval h x) k) d K f h := justV_step rfl
theorem stepA_indexAddr {t : TypeId} {x y : Operand} : @stepI P ⟨d, .indexAddr t x y, ty, pos, aft, g⟩ K f h = @thenV (aIndexAddr P t (f.eval h x) (f.eval h y)) d K f h := justV_step rfl
theorem stepA_index {t : TypeId} {x y : Operand} : @stepI P ⟨d, .index t x y, ty, pos, aft, g⟩ K f h = @thenV (aIndex P t (f.eval h x) (f.eval h y)) d K f h := justV_step rfl
theorem stepA_lookup {t : TypeId} {x y : Operand} {ok : Bool} : @stepI P ⟨d, .lookup t x y ok, ty, pos, aft, g⟩ K f h = @thenV (aLookup P t (f.eval h x) (f.eval h y) ok h) d K f h := justV_step rfl
theorem stepA_mapUpdate {t : TypeId} {m k x : Operand} : @stepI P ⟨d, .mapUpdate t m k x, ty, pos, aft, g⟩ K f h = @thenS (aUpdate P t (f.eval h m) (f.eval h k) (f.eval h x) h) d K f := justH_step rfl
theorem stepA_mapEntry {t : TypeId} {m k : Operand} : @stepI P ⟨d, .mapEntry t m k, ty, pos, aft, g⟩ K f h = @thenH (aMapEntry P t (f.eval h m) (f.eval h k) h) d K f := andH_step rfl
theorem stepA_entryStore {t : TypeId} {m s x : Operand} : @stepI P ⟨d, .entryStore t m s x, ty, pos, aft, g⟩ K f h = @thenS (aEntryStore (f.eval h m) (f.eval h s) (f.eval h x) h) d K f := justH_step rfl
theorem stepA_insert {t : TypeId} {m k x : Operand} : @stepI P ⟨d, .insert t m k x, ty, pos, aft, g⟩ K f h = @thenS (aUpdate P t (f.eval h m) (f.eval h k) (f.eval h x) h) d K f := justH_step rfl
theorem stepA_range {t : TypeId} {x : Operand} : @stepI P ⟨d, .range t x, ty, pos, aft, g⟩ K f h = @thenH (aRange P t (f.eval h x) h) d K f := andH_step rfl
def altsI (l : Option (List (V × AHeap))) (d : Option Tmp) [K : Kt] (f : AFrame) : Prop := match l with | some l => ∀ v h', (v, h') ∈ l → @goI K (f.put d v) h' | none => False
theorem stepA_next {it : Operand} : @stepI P ⟨d, .next it false, ty, pos, aft, g⟩ K f h = @altsI (aNext (f.eval h it) h) d K f := by
 unfold stepI stepA opEval altsI; simp only; cases aNext (f.eval h it) h <;> rfl
theorem stepA_entry {x : Operand} : @stepI P ⟨d, .entry x, ty, pos, aft, g⟩ K f h = @thenV (aEntry (f.eval h x) h) d K f h := justV_step rfl
theorem stepA_typeAssert {x : Operand} {t e : TypeId} {ok : Bool} : @stepI P ⟨d, .typeAssert x t e ok, ty, pos, aft, g⟩ K f h = @thenV (aAssert P (f.eval h x) e ok) d K f h := justV_step rfl
def extV (x : V) (k : Nat) : Option V := match x with | .tuple vs => vs[k]? | _ => none
theorem extV_zero {v : V} {vs : List V} : extV (.tuple (v :: vs)) 0 = some v := nr rfl
theorem extV_succ {v : V} {vs : List V} {k : Nat} : extV (.tuple (v :: vs)) (k + 1) = extV (.tuple vs) k := by simp [extV]
theorem stepA_extract {x : Operand} {k : Nat} : @stepI P ⟨d, .extract x k, ty, pos, aft, g⟩ K f h = @thenV (extV (f.eval h x) k) d K f h := by
 unfold stepI stepA opEval extV thenV; simp only
 cases f.eval h x with
 | tuple vs => simp only; cases vs[k]? <;> rfl
 | _ => rfl
def ifcV (b : Option Bool) (t : TypeId) (x : V) : Option V := match b with | some false => some (.iface t x) | _ => none
theorem ifcV_false {t : TypeId} {x : V} : ifcV (some false) t x = some (.iface t x) := nr rfl
theorem stepA_makeInterface {t : TypeId} {x : Operand} : @stepI P ⟨d, .makeInterface t x, ty, pos, aft, g⟩ K f h = @thenV (ifcV (isIfaceT P t) t (f.eval h x)) d K f h := by
 unfold stepI stepA opEval ifcV thenV; simp only
 cases isIfaceT P t with
 | none => rfl
 | some b => cases b <;> rfl
theorem stepA_makeFunc {fn : FuncId} {xs ys : Array Operand} : @stepI P ⟨d, .makeFunc (.func fn) xs ys, ty, pos, aft, g⟩ K f h = @goI K (f.put d (.func (.func fn) (xs.toList.map (f.eval h)) (ys.toList.map (f.eval h)))) h := nr rfl
def panI (x : V) [K : Kt] (f : AFrame) (h : AHeap) : Prop := match x with | .iface _ _ => K.exc f h | _ => False
theorem panI_iface {t : TypeId} {v : V} : @panI (.iface t v) K f h = K.exc f h := nr rfl
theorem stepA_panic {x : Operand} : @stepI P ⟨d, .panic x, ty, pos, aft, g⟩ K f h = @panI (f.eval h x) K f h := by
 unfold stepI stepA opEval panI; simp only; cases f.eval h x <;> rfl
theorem stepA_bpanic {x : Operand} {ts : Array TypeId} : @stepI P ⟨d, .call ⟨.builtin .panic, #[x], ts⟩, ty, pos, aft, g⟩ K f h = @panI (f.eval h x) K f h := by
 unfold stepI stepA opEval aCall panI; simp only [List.map_cons, List.map_nil]; cases f.eval h x <;> rfl
theorem stepA_len {t : TypeId} {x : Operand} : @stepI P ⟨d, .call ⟨.builtin .len, #[x], #[t]⟩, ty, pos, aft, g⟩ K f h = @thenV (aLen P t (f.eval h x) h) d K f h := by
 unfold stepI stepA opEval aCall aBuiltin thenV; simp only [List.map_cons, List.map_nil]; cases aLen P t (f.eval h x) h <;> rfl
theorem stepA_append {t tx : TypeId} {x y : Operand} : @stepI P ⟨d, .call ⟨.builtin .append, #[x, y], #[t, tx]⟩, ty, pos, aft, g⟩ K f h = @thenH (aAppend P t tx (f.eval h x) (f.eval h y) h) d K f := by
 unfold stepI stepA opEval aCall aBuiltin thenH; simp only [List.map_cons, List.map_nil]; cases aAppend P t tx (f.eval h x) (f.eval h y) h <;> rfl
theorem stepA_copy {t tx : TypeId} {x y : Operand} : @stepI P ⟨d, .call ⟨.builtin .copy, #[x, y], #[t, tx]⟩, ty, pos, aft, g⟩ K f h = @thenH (aCopy P t (f.eval h x) (f.eval h y) h) d K f := by
 unfold stepI stepA opEval aCall aBuiltin thenH; simp only [List.map_cons, List.map_nil]; cases aCopy P t (f.eval h x) (f.eval h y) h <;> rfl
theorem stepA_cap {t : TypeId} {x : Operand} : @stepI P ⟨d, .call ⟨.builtin .cap, #[x], #[t]⟩, ty, pos, aft, g⟩ K f h = @thenV (aCap P t (f.eval h x)) d K f h := by
 unfold stepI stepA opEval aCall aBuiltin thenV; simp only [List.map_cons, List.map_nil]; cases aCap P t (f.eval h x) <;> rfl
theorem stepA_delete {t tx : TypeId} {x y : Operand} : @stepI P ⟨d, .call ⟨.builtin .delete, #[x, y], #[t, tx]⟩, ty, pos, aft, g⟩ K f h = @thenH ((aDelete P t (f.eval h x) (f.eval h y) h).map fun h' => (.tuple [], h')) d K f := by
 unfold stepI stepA opEval aCall aBuiltin thenH; simp only [List.map_cons, List.map_nil]; cases aDelete P t (f.eval h x) (f.eval h y) h <;> rfl
theorem stepA_clear {t : TypeId} {x : Operand} : @stepI P ⟨d, .call ⟨.builtin .clear, #[x], #[t]⟩, ty, pos, aft, g⟩ K f h = @thenH ((aClear P t (f.eval h x) h).map fun h' => (.tuple [], h')) d K f := by
 unfold stepI stepA opEval aCall aBuiltin thenH; simp only [List.map_cons, List.map_nil]; cases aClear P t (f.eval h x) h <;> rfl
def mmV (P : Program) (bi : Builtin) (ts : Array TypeId) (ty : TypeId) (cs : Array Bool) (x y : V) : Option V :=
 match flatL [x, y] with
 | some as_ => match pureRun P (builtin bi ts ty cs as_.toArray) with
  | some (.value v) => some (absF v)
  | _ => none
 | none => none
theorem stepA_min {t t2 : TypeId} {x y : Operand} : @stepI P ⟨d, .call ⟨.builtin .min, #[x, y], #[t, t2]⟩, ty, pos, aft, g⟩ K f h = @thenV (mmV P .min #[t, t2] ty (constsOf #[x, y]) (f.eval h x) (f.eval h y)) d K f h :=
 justV_step (by
  unfold opEval aCall aBuiltin mmV justV
  simp only [List.map_cons, List.map_nil]
  cases flatL [f.eval h x, f.eval h y] with
  | none => rfl
  | some as_ =>
   simp only
   generalize pureRun P _ = r
   cases r with
   | none => rfl
   | some n => cases n <;> rfl)
theorem stepA_max {t t2 : TypeId} {x y : Operand} : @stepI P ⟨d, .call ⟨.builtin .max, #[x, y], #[t, t2]⟩, ty, pos, aft, g⟩ K f h = @thenV (mmV P .max #[t, t2] ty (constsOf #[x, y]) (f.eval h x) (f.eval h y)) d K f h :=
 justV_step (by
  unfold opEval aCall aBuiltin mmV justV
  simp only [List.map_cons, List.map_nil]
  cases flatL [f.eval h x, f.eval h y] with
  | none => rfl
  | some as_ =>
   simp only
   generalize pureRun P _ = r
   cases r with
   | none => rfl
   | some n => cases n <;> rfl)
theorem mmV_min {ts : Array TypeId} {cs : Array Bool} {k : IntKind} {a b : Int} : mmV P .min ts ty cs (.int k a) (.int k b) = some (.int k (min a b)) := by
 have e : (if b < a then b else a) = min a b := by rw [Int.min_def]; split <;> split <;> omega
 rw [← e]
 rfl
theorem mmV_max {ts : Array TypeId} {cs : Array Bool} {k : IntKind} {a b : Int} : mmV P .max ts ty cs (.int k a) (.int k b) = some (.int k (max a b)) := by
 have e : (if a < b then b else a) = max a b := by rw [Int.max_def]; split <;> split <;> omega
 rw [← e]
 rfl
def ovI (P : Program) (fid : FuncId) (args : List V) (h : AHeap) (d : Option Tmp) [K : Kt] (f : AFrame) : Prop := callable P fid = false ∧ ∃ v h', aEx P fid args h = some (v, h') ∧ K.go (f.put d v) h'
def callI (P : Program) (fid : FuncId) (args : List V) (h : AHeap) (d : Option Tmp) [K : Kt] (f : AFrame) : Prop := (callable P fid = true ∧ SCallsE P fid args h (fun r h' => K.go (f.put d r) h') (fun h' => K.exc f h')) ∨ @ovI P fid args h d K f
open Classical in
theorem stepA_call {fid : FuncId} {args : Array Operand} {ts : Array TypeId} : @stepI P ⟨d, .call ⟨.value (.func fid), args, ts⟩, ty, pos, aft, g⟩ K f h = @callI P fid (args.toList.map (f.eval h)) h d K f := by
 unfold stepI stepA opEval aCall callI ovI
 simp only [AFrame.eval]
 by_cases hc : callable P fid = true
 ·simp [hc]
 ·cases ha : aEx P fid (args.toList.map (f.eval h)) h with
  | none => simp [hc, ha]
  | some p => obtain ⟨v, h'⟩ := p; simp [hc, ha]; exact ⟨fun hh => ⟨v, h', ⟨rfl, rfl⟩, hh⟩, fun ⟨_, _, ⟨e1, e2⟩, hh⟩ => by subst e1; subst e2; exact hh⟩
def callvI (P : Program) (fv : V) (args : List V) (h : AHeap) (d : Option Tmp) [K : Kt] (f : AFrame) : Prop := match fv with | .func (.func fid) xs ys => @callI P fid (xs ++ args ++ ys) h d K f | .func (.yield l) [] [] => SRound P l args h (fun r h' => K.go (f.put d r) h') | _ => False
theorem stepA_callv {t : Tmp} {args : Array Operand} {ts : Array TypeId} : @stepI P ⟨d, .call ⟨.value (.tmp t), args, ts⟩, ty, pos, aft, g⟩ K f h = @callvI P (f t) (args.toList.map (f.eval h)) h d K f := by
 unfold stepI stepA opEval aCall callvI callI ovI
 simp only [AFrame.eval]
 generalize f t = v
 cases v <;> try rfl
 rename_i fn xs ys
 cases fn <;> try rfl
 case yield l => cases xs <;> cases ys <;> rfl
 rename_i fid
 simp only
 by_cases hc : callable P fid = true
 ·simp [hc]
 ·cases ha : aEx P fid (xs ++ args.toList.map (f.eval h) ++ ys) h with
  | none => simp at ha; simp [hc, ha]
  | some p => obtain ⟨v, h'⟩ := p; simp at ha; simp [hc, ha]; exact ⟨fun hh => ⟨v, h', ⟨rfl, rfl⟩, hh⟩, fun ⟨_, _, ⟨e1, e2⟩, hh⟩ => by subst e1; subst e2; exact hh⟩
def invI (P : Program) (x : V) (name : String) (args : List V) (h : AHeap) (d : Option Tmp) [K : Kt] (f : AFrame) : Prop := match x with | .iface t v => ∃ g, methOk P t name g ∧ @callI P g (v :: args) h d K f | _ => False
theorem stepA_inv {r : Operand} {name : String} {args : Array Operand} {ts : Array TypeId} : @stepI P ⟨d, .call ⟨.invoke r name, args, ts⟩, ty, pos, aft, g⟩ K f h = @invI P (f.eval h r) name (args.toList.map (f.eval h)) h d K f := by
 unfold stepI stepA opEval aCall invI
 simp only
 generalize f.eval h r = v
 cases v <;> try rfl
 rename_i t x
 by_cases hh : ∃ g, methOk P t name g
 ·obtain ⟨g, hm⟩ := hh
  rw [aInv_of hm]
  refine propext ⟨fun hs => ⟨g, hm, .inl ⟨hm.2, hs⟩⟩, ?_⟩
  rintro ⟨g', hm', hc⟩
  have e := hm.uniq hm'
  subst e
  rcases hc with ⟨_, hc⟩ | ⟨hc, _⟩
  ·exact hc
  ·rw [hm.2] at hc; cases hc
 ·have : aInv P (.iface t x) name (args.toList.map (f.eval h)) = none := by
   unfold aInv
   simp only [dif_neg hh]
  rw [this]
  exact propext ⟨False.elim, fun ⟨g, hm, _⟩ => hh ⟨g, hm⟩⟩
theorem callvI_func {fid : FuncId} {xs ys args : List V} : @callvI P (.func (.func fid) xs ys) args h d K f = @callI P fid (xs ++ args ++ ys) h d K f := nr rfl
theorem callI_of {fid : FuncId} {args : List V} {R : V → AHeap → Prop} (hc : callable P fid = true) (hs : SCalls P fid args h R) (hk : ∀ r h', R r h' → @goI K (f.put d r) h') : @callI P fid args h d K f :=
 .inl ⟨hc, hs.e.mono hk fun _ h => h⟩
theorem callI_pure {fid : FuncId} {args : List V} {v : V} (hc : callable P fid = true) (hs : Pure P fid args h v) (hk : @goI K (f.put d v) h) : @callI P fid args h d K f :=
 callI_of hc hs fun r h' ⟨e1, e2⟩ => by subst e1; subst e2; exact hk
theorem put_some {t : Tmp} {v : V} {k : Nat} : AFrame.put f (some t) v k = if k = t then v else f k := nr rfl
theorem put_none {v : V} {k : Nat} : AFrame.put f none v k = f k := nr rfl
theorem eval_tmp {t : Tmp} : AFrame.eval f h (.tmp t) = f t := nr rfl
theorem eval_const {v : Value} : AFrame.eval f h (.const v) = absV v := nr rfl
theorem eval_func {k : FuncId} : AFrame.eval f h (.func k) = .func (.func k) [] [] := nr rfl
theorem eval_glob {k : Nat} {cs : List V} (hg : h.glob k = some cs) : AFrame.eval f h (.global k) = .at cs := by simp [AFrame.eval, hg]
theorem enterF_zero {a : V} {l : List V} : enterF (a :: l) 0 = a := nr rfl
theorem enterF_succ {a : V} {l : List V} {n : Nat} : enterF (a :: l) (n + 1) = enterF l n := nr rfl
end
theorem absV_int {k : IntKind} {n : Int} : absV (.int k n) = .int k n := nr rfl
theorem absV_bool {b : Bool} : absV (.bool b) = .bool b := nr rfl
theorem absV_str {s : ByteArray} : absV (.string s) = .string s := nr rfl
theorem absV_pnil : absV (.pointer none) = .pnil := nr rfl
theorem absV_snil : absV (.slice none 0 0) = .snil := nr rfl
theorem absV_mnil : absV (.map none) = .mnil := nr rfl
theorem absV_nilFunc : absV .nilFunc = .nilFunc := nr rfl
theorem absV_nilIface : absV .nilIface = .nilIface := nr rfl
theorem absV_agg {cs : Array Value} : absV (.agg cs) = .agg (cs.toList.map absF) := nr rfl
theorem absV_tuple : absV (.tuple #[]) = .tuple [] := nr rfl
theorem absF_int {k : IntKind} {n : Int} : absF (.int k n) = .int k n := nr rfl
theorem absF_bool {b : Bool} : absF (.bool b) = .bool b := nr rfl
theorem absF_str {s : ByteArray} : absF (.string s) = .string s := nr rfl
theorem absF_pnil : absF (.pointer none) = .pnil := nr rfl
theorem absF_snil : absF (.slice none 0 0) = .snil := nr rfl
theorem absF_mnil : absF (.map none) = .mnil := nr rfl
theorem absF_nilFunc : absF .nilFunc = .nilFunc := nr rfl
theorem absF_nilIface : absF .nilIface = .nilIface := nr rfl
section
variable {P : Program} {fn : Func} {R : V → AHeap → Prop} {E : AHeap → Prop} {f : AFrame} {h : AHeap}
theorem retA_ret : retA P fn R E .ret f h = (match resultsA P fn.results.toList f h with | some r => R r h | none => False) := nr rfl
theorem retA_normal : retA P fn R E .normal f h = (match resultsA P fn.results.toList f h with | some r => R r h | none => False) := nr rfl
theorem resultsA_1 {t : Tmp} : resultsA P [.tmp t] f h = some (f t) := nr rfl
theorem resultsA_0 : resultsA P [] f h = some (.tuple []) := nr rfl
theorem resultsA_2 {t u : Tmp} : resultsA P [.tmp t, .tmp u] f h = some (.tuple [f t, f u]) := nr rfl
theorem resultsA_3 {t u v : Tmp} : resultsA P [.tmp t, .tmp u, .tmp v] f h = some (.tuple [f t, f u, f v]) := nr rfl
end
end Go.Proofs.YtfcjehlhoebmnaaGreatDoor.Ab
namespace Go.Proofs.YtfcjehlhoebmnaaGreatDoor.Ab
open Go Go.RowKit
set_option linter.unusedVariables false
theorem pureRun_underlying {P : Program} {t : TypeId} {d : TypeDesc} (h : P.underlying t = some d) : pureRun P (underlying t) = some d := by
 unfold underlying program
 rw [pureRun_bind]
 simp only [pureRun, Option.bind_some, h]
 rfl
section
variable {P : Program} {t : TypeId} {xo yo : Operand} {k yk : IntKind} {a b : Int}
theorem aBin_flat {op : BinOp} {x y : V} {a b v : Value} (hx : plainV x = some a) (hy : plainV y = some b) (hg : eqGuard op t xo yo a b = pure ()) (h : pureRun P (binOp op t a b) = some v) : aBin P op t xo yo x y = some (absF v) := by
 unfold aBin
 simp only [hx, hy]
 have e : (do eqGuard op t xo yo a b; binOp op t a b) = binOp op t a b := by rw [hg]; rfl
 rw [e, h]
 rfl
theorem aBin_int {op : BinOp} {v : Value} (h : pureRun P (binOp op t (.int k a) (.int yk b)) = some v) : aBin P op t xo yo (.int k a) (.int yk b) = some (absF v) := aBin_flat rfl rfl (by cases op <;> rfl) h
theorem aBin_add : aBin P .add t xo yo (.int k a) (.int k b) = some (.int k (k.wrap (a + b))) := aBin_int (v := .int k (k.wrap (a + b))) (by simp [binOp, Op.intArith]; rfl)
theorem aBin_sub : aBin P .sub t xo yo (.int k a) (.int k b) = some (.int k (k.wrap (a - b))) := aBin_int (v := .int k (k.wrap (a - b))) (by simp [binOp, Op.intArith]; rfl)
theorem aBin_mul : aBin P .mul t xo yo (.int k a) (.int k b) = some (.int k (k.wrap (a * b))) := aBin_int (v := .int k (k.wrap (a * b))) (by simp [binOp, Op.intArith]; rfl)
theorem aBin_eql : aBin P .eql t xo yo (.int k a) (.int k b) = some (.bool (a == b)) := aBin_int (v := .bool (a == b)) (by simp [binOp, Op.intCmp]; rfl)
theorem aBin_neq : aBin P .neq t xo yo (.int k a) (.int k b) = some (.bool (a != b)) := aBin_int (v := .bool (a != b)) (by simp [binOp, Op.intCmp]; rfl)
theorem aBin_lss : aBin P .lss t xo yo (.int k a) (.int k b) = some (.bool (decide (a < b))) := aBin_int (v := .bool (decide (a < b))) (by simp [binOp, Op.intCmp]; rfl)
theorem aBin_leq : aBin P .leq t xo yo (.int k a) (.int k b) = some (.bool (decide (a ≤ b))) := aBin_int (v := .bool (decide (a ≤ b))) (by simp [binOp, Op.intCmp]; rfl)
theorem aBin_gtr : aBin P .gtr t xo yo (.int k a) (.int k b) = some (.bool (decide (b < a))) := aBin_int (v := .bool (decide (b < a))) (by simp [binOp, Op.intCmp]; rfl)
theorem aBin_geq : aBin P .geq t xo yo (.int k a) (.int k b) = some (.bool (decide (b ≤ a))) := aBin_int (v := .bool (decide (b ≤ a))) (by simp [binOp, Op.intCmp]; rfl)
theorem aBin_shl (hb : 0 ≤ b) : aBin P .shl t xo yo (.int k a) (.int yk b) = some (.int k (k.wrap (a * 2 ^ (min b.toNat k.bits)))) :=
 aBin_int (v := .int k (k.wrap (a * 2 ^ (min b.toNat k.bits)))) (by simp only [binOp, Op.shift, if_neg (show ¬ b < 0 by omega)]; rfl)
theorem aBin_shr (hb : 0 ≤ b) : aBin P .shr t xo yo (.int k a) (.int yk b) = some (.int k (a.fdiv (2 ^ (min b.toNat k.bits)))) :=
 aBin_int (v := .int k (a.fdiv (2 ^ (min b.toNat k.bits)))) (by simp only [binOp, Op.shift, if_neg (show ¬ b < 0 by omega)]; rfl)
theorem aBin_quo (hb : b ≠ 0) : aBin P .quo t xo yo (.int k a) (.int k b) = some (.int k (k.wrap (a.tdiv b))) :=
 aBin_int (v := .int k (k.wrap (a.tdiv b))) (by simp only [binOp, Op.intDiv, ne_eq, not_true, if_false, if_neg hb]; rfl)
def bAnd (k : IntKind) (a b : Int) : Int := k.wrap ((BitVec.ofInt k.bits a &&& BitVec.ofInt k.bits b).toNat : Int)
def bOr (k : IntKind) (a b : Int) : Int := k.wrap ((BitVec.ofInt k.bits a ||| BitVec.ofInt k.bits b).toNat : Int)
def bXor (k : IntKind) (a b : Int) : Int := k.wrap ((BitVec.ofInt k.bits a ^^^ BitVec.ofInt k.bits b).toNat : Int)
def bAndNot (k : IntKind) (a b : Int) : Int := k.wrap ((BitVec.ofInt k.bits a &&& ~~~(BitVec.ofInt k.bits b)).toNat : Int)
theorem aBin_and : aBin P .and t xo yo (.int k a) (.int k b) = some (.int k (bAnd k a b)) := aBin_int (v := .int k (bAnd k a b)) (by simp only [binOp, ne_eq, not_true, if_false]; rfl)
theorem aBin_or : aBin P .or t xo yo (.int k a) (.int k b) = some (.int k (bOr k a b)) := aBin_int (v := .int k (bOr k a b)) (by simp only [binOp, ne_eq, not_true, if_false]; rfl)
theorem aBin_xor : aBin P .xor t xo yo (.int k a) (.int k b) = some (.int k (bXor k a b)) := aBin_int (v := .int k (bXor k a b)) (by simp only [binOp, ne_eq, not_true, if_false]; rfl)
theorem aBin_andNot : aBin P .andNot t xo yo (.int k a) (.int k b) = some (.int k (bAndNot k a b)) := aBin_int (v := .int k (bAndNot k a b)) (by simp only [binOp, ne_eq, not_true, if_false]; rfl)
theorem aUn_not {b : Bool} : aUn P .not (.bool b) = some (.bool (!b)) := nr rfl
theorem aUn_neg : aUn P .neg (.int k a) = some (.int k (k.wrap (0 - a))) := nr rfl
def intT (P : Program) (t : TypeId) : Option IntKind := match P.underlying t with | some (.int k) => some k | _ => none
theorem aConv_int {src dst : TypeId} {h : AHeap} {k1 k2 : IntKind} (hs : intT P src = some k1) (hd : intT P dst = some k2) : aConv P src dst (.int k a) h = some (.int k2 (k2.wrap a)) := by
 have h1 : P.underlying src = some (.int k1) := by
  unfold intT at hs; split at hs
  ·rename_i hu; simp at hs; subst hs; exact hu
  ·cases hs
 have h2 : P.underlying dst = some (.int k2) := by
  unfold intT at hd; split at hd
  ·rename_i hu; simp at hd; subst hd; exact hu
  ·cases hd
 unfold aConv
 have e : (flatV (.int k a)).bind (fun x => pureRun P (convert src dst x)) = some (.int k2 (k2.wrap a)) := by
  show pureRun P (convert src dst (.int k a)) = _
  unfold convert
  rw [pureRun_bind, pureRun_underlying h1, Option.bind_some, pureRun_bind, pureRun_underlying h2]
  rfl
 rw [e]
 rfl
def boolT (P : Program) (t : TypeId) : Bool := match P.underlying t with | some .bool => true | _ => false
theorem boolT_eq {t : TypeId} (h : boolT P t = true) : P.underlying t = some .bool := by
 unfold boolT at h; split at h
 ·assumption
 ·cases h
theorem equal_bool {t : TypeId} (hu : boolT P t = true) (x y : Bool) : pureRun P (Op.equal t (.bool x) (.bool y)) = some (x == y) := by
 unfold Op.equal Op.maxDepth Op.equalIn
 rw [pureRun_bind, pureRun_underlying (boolT_eq hu)]
 rfl
theorem aBin_bool_eql {x y : Bool} (hu : boolT P t = true) : aBin P .eql t xo yo (.bool x) (.bool y) = some (.bool (x == y)) := by
 refine aBin_flat (v := .bool (x == y)) rfl rfl rfl ?_
 show pureRun P (do pure (Value.bool (← Op.equal t (.bool x) (.bool y)))) = _
 rw [pureRun_bind, equal_bool hu]
 rfl
theorem aBin_bool_neq {x y : Bool} (hu : boolT P t = true) : aBin P .neq t xo yo (.bool x) (.bool y) = some (.bool (x != y)) := by
 refine aBin_flat (v := .bool (x != y)) rfl rfl rfl ?_
 show pureRun P (do pure (Value.bool (!(← Op.equal t (.bool x) (.bool y))))) = _
 rw [pureRun_bind, equal_bool hu]
 rfl
theorem aBin_str {op : BinOp} {x y : ByteArray} {v : Value} (h : pureRun P (Op.stringOp op x y) = some v) (hop : op ≠ .shl ∧ op ≠ .shr) : aBin P op t xo yo (.string x) (.string y) = some (absF v) := by
 refine aBin_flat rfl rfl (by cases op <;> rfl) ?_
 have e : binOp op t (.string x) (.string y) = Op.stringOp op x y := by cases op <;> first | rfl | simp at hop
 rw [e, h]
theorem aBin_str_eql {x y : ByteArray} : aBin P .eql t xo yo (.string x) (.string y) = some (.bool (x.toList == y.toList)) := aBin_str (v := .bool _) rfl (by simp)
theorem aBin_str_neq {x y : ByteArray} : aBin P .neq t xo yo (.string x) (.string y) = some (.bool (!(x.toList == y.toList))) := aBin_str (v := .bool _) rfl (by simp)
end
def kindT (P : Program) (t : TypeId) : Option Nat := (P.underlying t).bind descKind
section
variable {P : Program} {t : TypeId} {xo yo : Operand} {x y : V} {k : Nat}
theorem kindT_eq (h : kindT P t = some k) : ∃ d, P.underlying t = some d ∧ descKind d = some k := by
 unfold kindT at h
 cases hu : P.underlying t with
 | none => simp [hu] at h
 | some d => simp [hu] at h; exact ⟨d, rfl, h⟩
theorem aBin_nil_eql (h : kindT P t = some k) (hp : plainV x = none ∨ plainV y = none) (hn : (nilKind x = some k ∧ refKind y = some k) ∨ (refKind x = some k ∧ nilKind y = some k)) : aBin P .eql t xo yo x y = some (.bool false) := by
 obtain ⟨d, hu, hd⟩ := kindT_eq h
 have ha : nilApart d x y = true := by
  unfold nilApart
  rw [hd]
  rcases hn with ⟨h1, h2⟩ | ⟨h1, h2⟩ <;> simp [h1, h2]
 unfold aBin
 split
 ·rename_i h1 h2; rw [h1, h2] at hp; simp at hp
 ·rw [hu]; simp only [ha, if_true]
theorem aBin_nil_neq (h : kindT P t = some k) (hp : plainV x = none ∨ plainV y = none) (hn : (nilKind x = some k ∧ refKind y = some k) ∨ (refKind x = some k ∧ nilKind y = some k)) : aBin P .neq t xo yo x y = some (.bool true) := by
 obtain ⟨d, hu, hd⟩ := kindT_eq h
 have ha : nilApart d x y = true := by
  unfold nilApart
  rw [hd]
  rcases hn with ⟨h1, h2⟩ | ⟨h1, h2⟩ <;> simp [h1, h2]
 unfold aBin
 split
 ·rename_i h1 h2; rw [h1, h2] at hp; simp at hp
 ·rw [hu]; simp only [ha, if_true]
theorem ptr_nil_eql {i o : Nat} (h : kindT P t = some 0) : aBin P .eql t xo yo (.ptr i o) .pnil = some (.bool false) := aBin_nil_eql h (.inl rfl) (.inr ⟨rfl, rfl⟩)
theorem ptr_nil_neq {i o : Nat} (h : kindT P t = some 0) : aBin P .neq t xo yo (.ptr i o) .pnil = some (.bool true) := aBin_nil_neq h (.inl rfl) (.inr ⟨rfl, rfl⟩)
theorem at_nil_eql {cs : List V} (h : kindT P t = some 0) : aBin P .eql t xo yo (.at cs) .pnil = some (.bool false) := aBin_nil_eql h (.inl rfl) (.inr ⟨rfl, rfl⟩)
theorem at_nil_neq {cs : List V} (h : kindT P t = some 0) : aBin P .neq t xo yo (.at cs) .pnil = some (.bool true) := aBin_nil_neq h (.inl rfl) (.inr ⟨rfl, rfl⟩)
theorem nilEq_run (h : kindT P t = some 0) : pureRun P (Op.equal t (.pointer none) (.pointer none)) = some true := by
 obtain ⟨d, hu, hd⟩ := kindT_eq h
 unfold Op.equal Op.maxDepth Op.equalIn
 rw [pureRun_bind, pureRun_underlying hu]
 cases d <;> simp [descKind] at hd
 rfl
theorem nil_nil_eql (h : kindT P t = some 0) : aBin P .eql t xo yo .pnil .pnil = some (.bool true) := by
 refine aBin_flat (v := .bool true) rfl rfl rfl ?_
 show pureRun P (do pure (Value.bool (← Op.equal t (.pointer none) (.pointer none)))) = _
 rw [pureRun_bind, nilEq_run h]
 rfl
theorem nil_nil_neq (h : kindT P t = some 0) : aBin P .neq t xo yo .pnil .pnil = some (.bool false) := by
 refine aBin_flat (v := .bool false) rfl rfl rfl ?_
 show pureRun P (do pure (Value.bool (!(← Op.equal t (.pointer none) (.pointer none))))) = _
 rw [pureRun_bind, nilEq_run h]
 rfl
end
theorem cells_int {k : IntKind} {n : Int} : (V.int k n).cells = some [.int k n] := nr rfl
theorem cells_bool {b : Bool} : (V.bool b).cells = some [.bool b] := nr rfl
theorem cells_string {s : ByteArray} : (V.string s).cells = some [.string s] := nr rfl
theorem cells_pnil : V.pnil.cells = some [.pnil] := nr rfl
theorem cells_snil : V.snil.cells = some [.snil] := nr rfl
theorem cells_mnil : V.mnil.cells = some [.mnil] := nr rfl
theorem cells_z0 : V.z0.cells = some [.z0] := nr rfl
theorem cells_nilFunc : V.nilFunc.cells = some [.nilFunc] := nr rfl
theorem cells_nilIface : V.nilIface.cells = some [.nilIface] := nr rfl
theorem cells_ptr {i o : Nat} : (V.ptr i o).cells = some [.ptr i o] := nr rfl
theorem cells_sl {i o n m : Nat} : (V.sl i o n m).cells = some [.sl i o n m] := nr rfl
theorem cells_imm {n : Nat} {cs : List V} : (V.imm n cs).cells = some [.imm n cs] := nr rfl
theorem cells_atp {cs : List V} : (V.at cs).cells = some [.at cs] := nr rfl
theorem cells_map {i : Nat} : (V.map i).cells = some [.map i] := nr rfl
theorem cells_func {fn : Fn} {xs ys : List V} : (V.func fn xs ys).cells = some [.func fn xs ys] := nr rfl
theorem cells_iface {t : TypeId} {v : V} : (V.iface t v).cells = some [.iface t v] := nr rfl
theorem cells_agg {cs : List V} : (V.agg cs).cells = some cs := nr rfl
theorem one_int {k : IntKind} {n : Int} : (V.int k n).one = true := nr rfl
theorem one_bool {b : Bool} : (V.bool b).one = true := nr rfl
theorem one_string {s : ByteArray} : (V.string s).one = true := nr rfl
theorem one_pnil : V.pnil.one = true := nr rfl
theorem one_snil : V.snil.one = true := nr rfl
theorem one_mnil : V.mnil.one = true := nr rfl
theorem one_z0 : V.z0.one = true := nr rfl
theorem one_nilFunc : V.nilFunc.one = true := nr rfl
theorem one_nilIface : V.nilIface.one = true := nr rfl
theorem one_ptr {i o : Nat} : (V.ptr i o).one = true := nr rfl
theorem one_sl {i o n m : Nat} : (V.sl i o n m).one = true := nr rfl
theorem one_imm {n : Nat} {cs : List V} : (V.imm n cs).one = true := nr rfl
theorem one_at {cs : List V} : (V.at cs).one = true := nr rfl
theorem one_map {i : Nat} : (V.map i).one = true := nr rfl
theorem one_func {fn : Fn} {xs ys : List V} : (V.func fn xs ys).one = true := nr rfl
theorem one_iface {t : TypeId} {v : V} : (V.iface t v).one = true := nr rfl
theorem all_nil : ([] : List V).all (·.one) = true := nr rfl
theorem all_cons {v : V} {l : List V} : (v :: l).all (·.one) = (v.one && l.all (·.one)) := nr rfl
section
variable {P : Program} {t tx e : TypeId} {x y v : V} {h : AHeap} {k : Nat}
def fieldT (P : Program) (s : TypeId) (k : Nat) : Option Nat :=
 match P.underlying s with
 | some (.struct fs) => match fs[k]? with
  | some f => match sizeT P f.type with
   | some (_ + 1) => some f.offset
   | _ => none
  | none => none
 | _ => none
def fieldGo (off : Option Nat) (x : V) : Option V :=
 match off, x with
 | some off, .ptr i o => some (.ptr i (o + off))
 | some off, .at cs => if off ≤ cs.length then some (.at (cs.drop off)) else none
 | _, _ => none
theorem aField_eq : aField P t x k = fieldGo (fieldT P t k) x := by
 unfold aField fieldT
 cases P.underlying t with
 | none => rfl
 | some d =>
  cases d <;> try rfl
  rename_i fs
  simp only
  cases fs[k]? with
  | none => rfl
  | some f =>
   simp only
   cases sizeT P f.type with
   | none => rfl
   | some n => cases n <;> simp only [fieldGo] <;> cases x <;> rfl
theorem fieldGo_ptr {i o off : Nat} : fieldGo (some off) (.ptr i o) = some (.ptr i (o + off)) := nr rfl
theorem fieldGo_at {cs : List V} {off : Nat} : fieldGo (some off) (.at cs) = if off ≤ cs.length then some (.at (cs.drop off)) else none := nr rfl
def loadT (P : Program) (t : TypeId) : Option (Option Nat) :=
 match rowT P t, sizeT P t with
 | some true, some n => some (some n)
 | some false, some _ => some none
 | _, _ => none
def loadGo (ty : Option (Option Nat)) (p : Option (List V)) : Option V :=
 match ty, p with
 | some (some n), some cs => if n ≤ cs.length then some (.agg (cs.take n)) else none
 | some none, some (v :: _) => some v
 | _, _ => none
theorem aLoad_eq : aLoad P t x h = loadGo (loadT P t) (aPlace h x) := by
 unfold aLoad loadT
 cases aPlace h x with
 | none => cases rowT P t with
  | none => rfl
  | some b => cases b <;> cases sizeT P t <;> rfl
 | some cs => cases rowT P t with
  | none => cases cs <;> rfl
  | some b => cases b <;> cases sizeT P t <;> cases cs <;> rfl
theorem loadGo_one {v : V} {r : List V} : loadGo (some none) (some (v :: r)) = some v := nr rfl
theorem loadGo_row {n : Nat} {cs : List V} : loadGo (some (some n)) (some cs) = if n ≤ cs.length then some (.agg (cs.take n)) else none := nr rfl
def dropC (o : AObj) (n : Nat) : Option (List V) := match o with | .cells c _ _ => if n ≤ c.length then some (c.drop n) else none | _ => none
theorem aPlace_ptr {i o : Nat} : aPlace h (.ptr i o) = dropC (h.get i) o := by
 simp only [aPlace, dropC]
 cases h.get i <;> rfl
theorem aPlace_at {cs : List V} : aPlace h (.at cs) = some cs := nr rfl
theorem dropC_cells {c : List V} {e : TypeId} {ex : Option Nat} {n : Nat} : dropC (.cells c e ex) n = if n ≤ c.length then some (c.drop n) else none := nr rfl
def setC (n : Option Nat) (ob : AObj) (o : Nat) (vs : List V) : Option AObj :=
 match n, ob with
 | some n, .cells c e ex => if vs.length = n ∧ vs.all (·.one) = true ∧ o + n ≤ c.length then some (.cells (lay c o vs) e ex) else none
 | _, _ => none
def storeGo (n : Option Nat) (x : V) (vs : Option (List V)) (h : AHeap) : Option AHeap :=
 match x, vs with
 | .ptr i o, some vs => (setC n (h.get i) o vs).map fun ob => h.set i ob
 | _, _ => none
theorem aStore_eq : aStore P t x v h = storeGo (sizeT P t) x v.cells h := by
 unfold aStore storeGo
 cases x <;> try rfl
 rename_i i o
 cases v.cells with
 | none => rfl
 | some vs =>
  simp only [setC]
  cases h.get i <;> cases sizeT P t <;> simp
  rename_i c e ex n
  by_cases hh : vs.length = n
  ·subst hh; split <;> rfl
  ·simp [hh]
theorem storeGo_ptr {i o : Nat} {n : Option Nat} {vs : List V} : storeGo n (.ptr i o) (some vs) h = (setC n (h.get i) o vs).map fun ob => h.set i ob := nr rfl
theorem lay_set (c : List V) (o : Nat) (v : V) (ho : o < c.length) : lay c o [v] = c.set o v := by
 unfold lay
 rw [List.set_eq_take_append_cons_drop, if_pos ho]
 simp
theorem lay_cons (v : V) (vs c : List V) (o : Nat) (hl : o + (vs.length + 1) ≤ c.length) : lay c o (v :: vs) = lay (c.set o v) (o + 1) vs := by
 have ho : o < c.length := by omega
 have hc : c.set o v = c.take o ++ v :: c.drop (o + 1) := by rw [List.set_eq_take_append_cons_drop, if_pos ho]
 have hlen : (c.take o).length = o := by simp; omega
 unfold lay
 rw [hc]
 have e1 : (c.take o ++ v :: c.drop (o + 1)).take (o + 1) = c.take o ++ [v] := by
  rw [List.take_append, hlen, List.take_of_length_le (by omega), show o + 1 - o = 1 by omega]
  rfl
 have e2 : (c.take o ++ v :: c.drop (o + 1)).drop (o + 1 + vs.length) = c.drop (o + (vs.length + 1)) := by
  rw [List.drop_append, hlen, List.drop_eq_nil_of_le (by omega), show o + 1 + vs.length - o = vs.length + 1 by omega]
  rw [List.drop_succ_cons, List.drop_drop, List.nil_append]
  congr 1
  omega
 rw [e1, e2]
 simp
theorem lay_setAll : ∀ (vs c : List V) (o : Nat), o + vs.length ≤ c.length → lay c o vs = setAll c o vs
 | [], c, o, _ => by simp [lay, setAll]
 | v :: vs, c, o, hl => by
  have hl' : o + (vs.length + 1) ≤ c.length := by simpa using hl
  unfold setAll
  rw [lay_cons v vs c o hl', lay_setAll vs (c.set o v) (o + 1) (by simp; omega)]
theorem setC_one {c : List V} {e : TypeId} {ex : Option Nat} {o : Nat} (hv : v.one = true) : setC (some 1) (.cells c e ex) o [v] = if o < c.length then some (.cells (c.set o v) e ex) else none := by
 simp only [setC, List.length_cons, List.length_nil, all_cons, all_nil, hv, Bool.and_self, true_and]
 by_cases ho : o < c.length
 ·have : (0 + 1 = 1 ∧ o + 1 ≤ c.length) := ⟨rfl, ho⟩
  rw [if_pos ho]
  simp [this.2, lay_set _ _ _ ho]
 ·rw [if_neg ho]
  simp
  omega
theorem setC_row {c vs : List V} {e : TypeId} {ex : Option Nat} {o n : Nat} (hn : vs.length = n) (hv : vs.all (·.one) = true) : setC (some n) (.cells c e ex) o vs = if o + n ≤ c.length then some (.cells (setAll c o vs) e ex) else none := by
 simp only [setC, hn, hv, true_and]
 by_cases ho : o + n ≤ c.length
 ·rw [if_pos ho, if_pos ho, lay_setAll _ _ _ (by omega)]
 ·rw [if_neg ho, if_neg ho]
theorem setAll_nil {c : List V} {o : Nat} : setAll c o [] = c := nr rfl
theorem setAll_cons {c r : List V} {o : Nat} : setAll c o (v :: r) = setAll (c.set o v) (o + 1) r := nr rfl
theorem aAlloc_eq : aAlloc P e h = (zeroC P e).map fun zs => (.ptr h.n 0, h.push (.cells zs e none)) := by
 unfold aAlloc; cases zeroC P e <;> rfl
theorem aBox_eq : aBox e x h = x.cells.map fun cs => (.ptr h.n 0, h.push (.cells cs e none)) := by
 unfold aBox; cases x.cells <;> rfl
def slSz (P : Program) (t : TypeId) : Option Nat := match P.underlying t with | some (.slice e) => sizeT P e | _ => none
def arSz (P : Program) (t : TypeId) : Option (Nat × Nat) := match P.underlying t with | some (.array n e) => (sizeT P e).map fun s => (n, s) | _ => none
def ixGo (sl : Option Nat) (ar : Option (Nat × Nat)) (x : V) (n : Int) : Option V :=
 match sl, ar, x with
 | some sz, _, .sl i o len _ => if 0 ≤ n ∧ n < len then some (.ptr i (o + n.toNat * sz)) else none
 | some sz, _, .imm len cs => if 0 ≤ n ∧ n < len ∧ n.toNat * sz ≤ cs.length then some (.at (cs.drop (n.toNat * sz))) else none
 | _, some (len, sz), .ptr i o => if 0 ≤ n ∧ n < len then some (.ptr i (o + n.toNat * sz)) else none
 | _, some (len, sz), .at cs => if 0 ≤ n ∧ n < len ∧ n.toNat * sz ≤ cs.length then some (.at (cs.drop (n.toNat * sz))) else none
 | _, _, _ => none
theorem aIndexAddr_eq {kk : IntKind} {n : Int} : aIndexAddr P t x (.int kk n) = ixGo (slSz P t) (arSz P t) x n := by
 unfold aIndexAddr slSz arSz
 cases P.underlying t with
 | none => rfl
 | some d =>
  cases d <;> try rfl
  ·rename_i e
   simp only
   cases hs : sizeT P e with
   | none => cases x <;> simp [ixGo, hs]
   | some sz => cases x <;> simp [ixGo, hs]
  ·rename_i len e
   simp only
   cases hs : sizeT P e with
   | none => cases x <;> simp [ixGo, hs]
   | some sz => cases x <;> simp [ixGo, hs]
theorem ixGo_sl {i o len cap sz : Nat} {ar : Option (Nat × Nat)} {n : Int} : ixGo (some sz) ar (.sl i o len cap) n = if 0 ≤ n ∧ n < len then some (.ptr i (o + n.toNat * sz)) else none := nr rfl
theorem ixGo_imm {len sz : Nat} {cs : List V} {ar : Option (Nat × Nat)} {n : Int} : ixGo (some sz) ar (.imm len cs) n = if 0 ≤ n ∧ n < len ∧ n.toNat * sz ≤ cs.length then some (.at (cs.drop (n.toNat * sz))) else none := nr rfl
theorem ixGo_ptr {i o len sz : Nat} {n : Int} : ixGo none (some (len, sz)) (.ptr i o) n = if 0 ≤ n ∧ n < len then some (.ptr i (o + n.toNat * sz)) else none := nr rfl
theorem ixGo_at {len sz : Nat} {cs : List V} {n : Int} : ixGo none (some (len, sz)) (.at cs) n = if 0 ≤ n ∧ n < len ∧ n.toNat * sz ≤ cs.length then some (.at (cs.drop (n.toNat * sz))) else none := nr rfl
def lenGo (kind : Option Nat) (x : V) (h : AHeap) : Option V :=
 match kind, x with
 | some 1, .sl _ _ n _ => some (.int .i64 n)
 | some 1, .imm n _ => some (.int .i64 n)
 | some 1, .snil => some (.int .i64 0)
 | some 1, .z0 => some (.int .i64 0)
 | some 2, .mnil => some (.int .i64 0)
 | some 2, .map i => match h.get i with
  | .map es _ => some (.int .i64 es.length)
  | _ => none
 | _, _ => none
theorem aLen_go {kind : Nat} (hk : kindT P t = some kind) (h12 : kind = 1 ∨ kind = 2) : aLen P t x h = lenGo (some kind) x h := by
 obtain ⟨d, hu, hd⟩ := kindT_eq hk
 unfold aLen
 rw [hu]
 cases d <;> simp [descKind] at hd <;> subst hd <;> simp at h12
 all_goals cases x <;> try rfl
theorem aLen_sl (hk : kindT P t = some 1) {i o n c : Nat} : aLen P t (.sl i o n c) h = some (.int .i64 n) := aLen_go hk (.inl rfl)
theorem aLen_imm (hk : kindT P t = some 1) {n : Nat} {cs : List V} : aLen P t (.imm n cs) h = some (.int .i64 n) := aLen_go hk (.inl rfl)
theorem aLen_snil (hk : kindT P t = some 1) : aLen P t .snil h = some (.int .i64 0) := aLen_go hk (.inl rfl)
theorem aLen_z0 (hk : kindT P t = some 1) : aLen P t .z0 h = some (.int .i64 0) := aLen_go hk (.inl rfl)
theorem aLen_mnil (hk : kindT P t = some 2) : aLen P t .mnil h = some (.int .i64 0) := aLen_go hk (.inr rfl)
def strT (P : Program) (t : TypeId) : Bool := match P.underlying t with | some .string => true | _ => false
theorem aLen_str (hk : strT P t = true) {s : ByteArray} : aLen P t (.string s) h = some (.int .i64 s.size) := by
 unfold strT at hk
 split at hk
 ·rename_i hu; unfold aLen; rw [hu]
 ·cases hk
structure SlT where
 e : TypeId
 zs : List V
 sz : Nat
 bs : Nat
def slT (P : Program) (t : TypeId) : Option SlT :=
 match elemT P t with
 | none => none
 | some e => match zeroC P e, sizeT P e, bytesT P e with
  | some zs, some sz, some bs => if zs.length = sz then some ⟨e, zs, sz, bs⟩ else none
  | _, _, _ => none
theorem slT_eq {T : SlT} (hT : slT P t = some T) : elemT P t = some T.e ∧ zeroC P T.e = some T.zs ∧ sizeT P T.e = some T.sz ∧ bytesT P T.e = some T.bs ∧ T.zs.length = T.sz ∧ P.underlying t = some (.slice T.e) := by
 unfold slT at hT
 split at hT
 ·cases hT
 ·rename_i e he
  split at hT
  ·rename_i zs sz bs h1 h2 h3
   split at hT
   ·rename_i hl
    simp at hT
    subst hT
    refine ⟨he, h1, h2, h3, hl, ?_⟩
    unfold elemT at he
    split at he
    ·rename_i hu; rw [hu]; simpa using he
    ·cases he
   ·cases hT
  ·cases hT
end
end Go.Proofs.YtfcjehlhoebmnaaGreatDoor.Ab
namespace Go.Proofs.YtfcjehlhoebmnaaGreatDoor.Ab
open Go Go.RowKit
set_option linter.unusedVariables false
structure Keep (h h' : AHeap) (own : Nat → Prop) : Prop where
 n : h.n ≤ h'.n
 get : ∀ j, j < h.n → ¬ own j → h'.get j = h.get j
 glob : h'.glob = h.glob
def none_ : Nat → Prop := fun _ => False
theorem Keep.refl (h : AHeap) (own : Nat → Prop) : Keep h h own := ⟨Nat.le_refl _, fun _ _ _ => rfl, rfl⟩
theorem Keep.trans {h h1 h2 : AHeap} {o o1 : Nat → Prop} (a : Keep h h1 o) (b : Keep h1 h2 o1) (ho : ∀ k, k < h.n → o1 k → o k) : Keep h h2 o :=
 ⟨Nat.le_trans a.n b.n, fun j hj hne => (b.get j (Nat.lt_of_lt_of_le hj a.n) fun hc => hne (ho j hj hc)).trans (a.get j hj hne), b.glob.trans a.glob⟩
theorem Keep.trans' {h h1 h2 : AHeap} {o : Nat → Prop} (a : Keep h h1 o) (b : Keep h1 h2 o) : Keep h h2 o := a.trans b fun _ _ h => h
theorem Keep.mono {h h' : AHeap} {o o' : Nat → Prop} (a : Keep h h' o) (hm : ∀ k, o k → o' k) : Keep h h' o' := ⟨a.n, fun j hj hne => a.get j hj fun hc => hne (hm j hc), a.glob⟩
theorem Keep.up {h h' : AHeap} {o : Nat → Prop} (a : Keep h h' none_) : Keep h h' o := a.mono fun _ h => h.elim
theorem Keep.push (h : AHeap) (o : AObj) (own : Nat → Prop) : Keep h (h.push o) own := ⟨by simp [AHeap.push], fun j hj _ => by simp [AHeap.push, show j ≠ h.n by omega], rfl⟩
theorem Keep.set (h : AHeap) (i : Nat) (o : AObj) : Keep h (h.set i o) (· = i) := ⟨Nat.le_refl _, fun j hj hne => by simp [AHeap.set]; intro hh; exact absurd hh hne, rfl⟩
theorem Keep.setNew {h0 h : AHeap} {own : Nat → Prop} (k : Keep h0 h own) {i : Nat} (hi : h0.n ≤ i) (o : AObj) : Keep h0 (h.set i o) own :=
 k.trans (Keep.set h i o) fun j hj hc => by omega
theorem Keep.then_push {h0 h : AHeap} {own : Nat → Prop} (k : Keep h0 h own) (o : AObj) : Keep h0 (h.push o) own := k.trans' (Keep.push h o own)
def idOf : V → Option Nat
 | .sl i _ _ _ => some i
 | _ => none
def isId (v : V) : Nat → Prop := fun k => idOf v = some k
def Own (h : AHeap) (e : TypeId) (sz : Nat) (v : V) (cs : List V) : Prop :=
 ((v = .snil ∨ v = .z0) ∧ cs = []) ∨
 ∃ i len cap c ex, v = .sl i 0 len cap ∧ i < h.n ∧ h.get i = .cells c e ex ∧ cs.length = len * sz ∧ c.take (len * sz) = cs ∧
  ((cap < unk ∧ cap * sz ≤ c.length ∧ len ≤ cap) ∨ (cap = unk ∧ ex = some sz))
theorem Own.snil (h : AHeap) (e : TypeId) (sz : Nat) : Own h e sz .snil [] := .inl ⟨.inl rfl, rfl⟩
theorem Own.keep {h h' : AHeap} {e : TypeId} {sz : Nat} {v : V} {cs : List V} {own : Nat → Prop} (ho : Own h e sz v cs) (hk : Keep h h' own) (hne : ∀ k, idOf v = some k → ¬ own k) : Own h' e sz v cs := by
 rcases ho with ho | ⟨i, len, cap, c, ex, rfl, hi, hg, rest⟩
 ·exact .inl ho
 ·exact .inr ⟨i, len, cap, c, ex, rfl, Nat.lt_of_lt_of_le hi hk.n, (hk.get i hi (hne i rfl)).trans hg, rest⟩
theorem Own.keepN {h h' : AHeap} {e : TypeId} {sz : Nat} {v : V} {cs : List V} (ho : Own h e sz v cs) (hk : Keep h h' none_) : Own h' e sz v cs := ho.keep hk fun _ _ h => h
theorem Own.lt {h : AHeap} {e : TypeId} {sz : Nat} {v : V} {cs : List V} (ho : Own h e sz v cs) : ∀ k, idOf v = some k → k < h.n := by
 intro k hk
 rcases ho with ⟨rfl | rfl, _⟩ | ⟨i, len, cap, c, ex, rfl, hi, _⟩
 ·simp [idOf] at hk
 ·simp [idOf] at hk
 ·simp [idOf] at hk; omega
theorem Own.fresh {h : AHeap} {e : TypeId} {sz : Nat} (c : List V) (len cap : Nat) (hc : c.length = cap * sz) (hl : len ≤ cap) (hu : cap < unk) :
  Own (h.push (.cells c e none)) e sz (.sl h.n 0 len cap) (c.take (len * sz)) :=
 .inr ⟨h.n, len, cap, c, none, rfl, by simp [AHeap.push], by simp [AHeap.push], by rw [List.length_take, hc]; exact Nat.min_eq_left (Nat.mul_le_mul_right _ hl), rfl, .inl ⟨hu, by omega, hl⟩⟩
theorem Own.grown {h : AHeap} {e : TypeId} {sz i len : Nat} {cs : List V} (hi : i < h.n) (hg : h.get i = .cells cs e (some sz)) (hl : cs.length = len * sz) :
  Own h e sz (.sl i 0 len unk) cs :=
 .inr ⟨i, len, unk, cs, some sz, rfl, hi, hg, hl, by rw [← hl]; exact List.take_length, .inr ⟨rfl, rfl⟩⟩
def NewOr (h : AHeap) (a b : V) : Prop := idOf b = idOf a ∨ ∀ k, idOf b = some k → h.n ≤ k
theorem append_own {P : Program} {t tx : TypeId} {T : SlT} (hT : slT P t = some T) (hpos : 0 < T.sz)
  {h : AHeap} {s x : V} {cs : List V} (ho : Own h T.e T.sz s cs) {n : Nat} {news : List V} (hsrc : aSrc P T.sz tx x h = some (n, news)) (hn : news.length = n * T.sz)
  (h1 : (cs.length + news.length) * T.bs ≤ lim) (h2 : cs.length + news.length ≤ lim) :
  ∃ v h', aAppend P t tx s x h = some (v, h') ∧ Own h' T.e T.sz v (cs ++ news) ∧ Keep h h' (isId s) ∧ NewOr h s v := by
 obtain ⟨he, hz, hsz, hbs, hzs, _⟩ := slT_eq hT
 unfold aAppend
 simp only [he, hz, hsz, hbs, hzs, if_true, hsrc]
 have start : ∀ s : V, (s = .snil ∨ s = .z0) → cs = [] → ∃ v h', (if n = 0 then some (s, h) else if n * T.bs ≤ lim ∧ n ≤ lim then some (.sl h.n 0 n unk, h.push (.cells news T.e (some T.sz))) else none) = some (v, h') ∧ Own h' T.e T.sz v (cs ++ news) ∧ Keep h h' (isId s) ∧ NewOr h s v := fun s hs hcs => by
  subst hcs
  by_cases h0 : n = 0
  ·subst h0
   have : news = [] := List.eq_nil_of_length_eq_zero (by simpa using hn)
   subst this
   exact ⟨s, h, by simp, .inl ⟨hs, rfl⟩, Keep.refl _ _, .inl rfl⟩
  ·have hn1 : n ≤ news.length := by rw [hn]; exact Nat.le_mul_of_pos_right n hpos
   have c1 : n * T.bs ≤ lim := Nat.le_trans (Nat.mul_le_mul_right T.bs (by omega)) h1
   have c2 : n ≤ lim := by omega
   exact ⟨.sl h.n 0 n unk, h.push (.cells news T.e (some T.sz)), by simp [h0, c1, c2], Own.grown (by simp [AHeap.push]) (by simp [AHeap.push]) (by simpa using hn), Keep.push _ _ _, .inr fun k hk => by simp [idOf] at hk; omega⟩
 rcases ho with ⟨rfl | rfl, hcs⟩ | ⟨i, len, cap, c, ex, rfl, hi, hg, hlen, htake, hcap⟩
 ·exact start _ (.inl rfl) hcs
 ·exact start _ (.inr rfl) hcs
 ·by_cases h0 : n = 0
  ·subst h0
   have : news = [] := List.eq_nil_of_length_eq_zero (by simpa using hn)
   subst this
   exact ⟨.sl i 0 len cap, h, by simp, by rw [List.append_nil]; exact .inr ⟨i, len, cap, c, ex, rfl, hi, hg, hlen, htake, hcap⟩, Keep.refl _ _, .inl rfl⟩
  ·have hn1 : len + n ≤ cs.length + news.length := by
    rw [hn, hlen, ← Nat.add_mul]; exact Nat.le_mul_of_pos_right _ hpos
   have c1 : (len + n) * T.bs ≤ lim := Nat.le_trans (Nat.mul_le_mul_right T.bs hn1) h1
   have c2 : len + n ≤ lim := by omega
   have hcl : len * T.sz ≤ c.length := by
    have := congrArg List.length htake
    rw [List.length_take, hlen] at this
    omega
   simp only [h0, c1, c2, and_self, if_true, if_false, hg]
   rcases hcap with ⟨hcu, hclen, hle⟩ | ⟨rfl, rfl⟩
   ·simp only [hcu, if_true]
    by_cases hroom : len + n ≤ cap
    ·have hfit : 0 + (len + n) * T.sz ≤ c.length := by rw [Nat.zero_add]; exact Nat.le_trans (Nat.mul_le_mul_right _ hroom) hclen
     have hll : (lay c (len * T.sz) news).length = c.length := length_lay _ _ _ (by rw [hn, ← Nat.add_mul]; omega)
     simp only [hroom, if_true, hfit]
     refine ⟨_, _, rfl, .inr ⟨i, len + n, cap, lay c (0 + len * T.sz) news, ex, rfl, hi, by simp [AHeap.set], by simp [hlen, hn, Nat.add_mul], ?_, .inl ⟨hcu, ?_, hroom⟩⟩, ⟨Nat.le_refl _, fun j hj hne => ?_, rfl⟩, .inl rfl⟩
     ·simp only [Nat.zero_add, lay, htake, Nat.add_mul, ← hn]
      have : (cs ++ news).length = len * T.sz + news.length := by simp [hlen]
      rw [← this]
      exact List.take_left
     ·rw [Nat.zero_add, hll]; exact hclen
     ·simp only [AHeap.set]
      rw [if_neg (by intro hji; subst hji; simp [isId, idOf] at hne)]
    ·simp only [hroom, if_false]
     have hread : 0 + len * T.sz ≤ c.length := by omega
     simp only [hread, if_true, List.drop_zero, htake]
     exact ⟨_, _, rfl, Own.grown (by simp [AHeap.push]) (by simp [AHeap.push]) (by simp [hlen, hn, Nat.add_mul]), Keep.push _ _ _, .inr fun k hk => by simp [idOf] at hk; omega⟩
   ·simp only [Nat.lt_irrefl, if_false, true_and, hcl, and_self, if_true]
    refine ⟨_, _, rfl, Own.grown (by simp [AHeap.push, AHeap.set]) (by simp [AHeap.push, AHeap.set, htake]) (by simp [hlen, hn, Nat.add_mul]), ⟨by simp [AHeap.push, AHeap.set], fun j hj hne => ?_, rfl⟩, .inr fun k hk => by simp [idOf] at hk; omega⟩
    have h1 : j ≠ i := by intro hji; subst hji; simp [isId, idOf] at hne
    have h2 : j ≠ h.n := by omega
    simp [AHeap.push, AHeap.set, h1, h2]
theorem imm_src {P : Program} {t : TypeId} {h : AHeap} {sz n : Nat} {cs : List V} (hk : kindT P t = some 1) (hl : cs.length = n * sz) (hone : cs.all (·.one) = true) : aSrc P sz t (.imm n cs) h = some (n, cs) := by
 obtain ⟨d, hu, hd⟩ := kindT_eq hk
 cases d <;> simp [descKind] at hd
 simp only [aSrc, hu]
 rw [if_pos ⟨hl, hone⟩]
theorem made1 {α : Type} (z : List α) : made z 1 = z := by simp [made]
theorem append_elem {P : Program} {t : TypeId} {T : SlT} (hT : slT P t = some T) (hpos : 0 < T.sz)
  {h : AHeap} {s : V} {cs xs : List V} (ho : Own h T.e T.sz s cs) (hl : xs.length = T.sz) (hone : xs.all (·.one) = true)
  (h1 : (cs.length + T.sz) * T.bs ≤ lim) (h2 : cs.length + T.sz ≤ lim) :
  ∃ v h', aAppend P t t s (.sl h.n 0 1 1) (h.push (.cells xs T.e none)) = some (v, h') ∧ Own h' T.e T.sz v (cs ++ xs) ∧ Keep h h' (isId s) ∧ NewOr h s v := by
 obtain ⟨he, hz, hsz, hbs, hzs, hu⟩ := slT_eq hT
 have hk := Keep.push h (.cells xs T.e none) none_
 have hsrc : aSrc P T.sz t (.sl h.n 0 1 1) (h.push (.cells xs T.e none)) = some (1, xs) := by
  simp only [aSrc, hu, AHeap.push, if_true, Nat.one_mul, Nat.zero_add, List.drop_zero]
  rw [List.take_of_length_le (by omega), if_pos ⟨by omega, hone⟩]
 obtain ⟨v, h', ha, ho', hk', hid⟩ := append_own (tx := t) hT hpos (ho.keepN hk) hsrc (by omega) (by rw [hl]; exact h1) (by rw [hl]; exact h2)
 refine ⟨v, h', ha, ho', (hk.up).trans' hk', hid.imp id fun hh k hk2 => ?_⟩
 have := hh k hk2
 simp [AHeap.push] at this
 omega
structure Acc (h0 h : AHeap) (e : TypeId) (sz : Nat) (v : V) (cs : List V) : Prop where
 own : Own h e sz v cs
 keep : Keep h0 h none_
 new : ∀ k, idOf v = some k → h0.n ≤ k
theorem Acc.nil {h0 h : AHeap} {e : TypeId} {sz : Nat} (k : Keep h0 h none_) : Acc h0 h e sz .snil [] := ⟨Own.snil _ _ _, k, by simp [idOf]⟩
theorem Acc.app {P : Program} {t tx : TypeId} {T : SlT} (hT : slT P t = some T) {h0 h : AHeap} {s x : V} {cs news : List V} (a : Acc h0 h T.e T.sz s cs) (hpos : 0 < T.sz) {n : Nat} (hsrc : aSrc P T.sz tx x h = some (n, news)) (hn : news.length = n * T.sz)
  (h1 : (cs.length + news.length) * T.bs ≤ lim) (h2 : cs.length + news.length ≤ lim) :
  ∃ v h', aAppend P t tx s x h = some (v, h') ∧ Acc h0 h' T.e T.sz v (cs ++ news) := by
 obtain ⟨v, h', ha, ho', hk', hid⟩ := append_own hT hpos a.own hsrc hn h1 h2
 refine ⟨v, h', ha, ho', a.keep.trans hk' fun k hk hc => ?_, fun k hk => ?_⟩
 ·have := a.new k hc; omega
 ·rcases hid with hid | hid
  ·exact a.new k (hid ▸ hk)
  ·exact Nat.le_trans a.keep.n (hid k hk)
theorem Cast.refl (r : V) (h : AHeap) : Cast r h r h := fun ρ B w0 w r' hw hv => ⟨ρ, Ren.le.refl ρ, hw, hv⟩
theorem Cast.trans {r r1 r2 : V} {h h1 h2 : AHeap} (a : Cast r h r1 h1) (b : Cast r1 h1 r2 h2) : Cast r h r2 h2 := fun ρ B w0 w r' hw hv =>
 let ⟨ρ1, l1, w1, v1⟩ := a ρ B w0 w r' hw hv
 let ⟨ρ2, l2, w2, v2⟩ := b ρ1 B w0 w r' w1 v1
 ⟨ρ2, l1.trans l2, w2, v2⟩
theorem Cast.own {h : AHeap} {e : TypeId} {sz : Nat} {v : V} {cs : List V} (ho : Own h e sz v cs) {n : Nat} (hn : cs.length = n * sz) (hsz : 0 < sz) : ∃ h2, Cast v h (.imm n cs) h2 ∧ Keep h h2 (isId v) := by
 rcases ho with ⟨rfl | rfl, rfl⟩ | ⟨i, len, cap, c, ex, rfl, hi, hg, hlen, htake, hcap⟩
 ·have h0 : n = 0 := by
   have : n * sz = 0 := by simpa using hn.symm
   rcases Nat.mul_eq_zero.1 this with h | h <;> omega
  subst h0
  refine ⟨h, fun ρ B w0 w r' hw hv => ⟨ρ, Ren.le.refl ρ, hw, ?_⟩, Keep.refl _ _⟩
  cases hv
  exact .immZ none 0 (by simp)
 ·have h0 : n = 0 := by
   have : n * sz = 0 := by simpa using hn.symm
   rcases Nat.mul_eq_zero.1 this with h | h <;> omega
  subst h0
  exact ⟨h, fun ρ B w0 w r' hw hv => by
   cases hv with
   | z0 a ha => exact ⟨ρ, Ren.le.refl ρ, hw, .immZ a 0 (by simp)⟩, Keep.refl _ _⟩
 ·have hnl : n = len := by
   have : n * sz = len * sz := by omega
   exact Nat.eq_of_mul_eq_mul_right hsz this
  subst hnl
  refine ⟨h.set i .dead, fun ρ B w0 w r' hw hv => ?_, (Keep.set h i .dead).mono fun k hk => by subst hk; rfl⟩
  obtain ⟨ρ', hle, hw', b, cp, arr, hr, hf, hc, hl⟩ := hw.freeze hg
  obtain ⟨b2, cp2, hi2, hl2, rfl⟩ := hv.sl_inv
  rw [hr] at hi2
  simp at hi2
  obtain ⟨rfl, rfl⟩ := hi2
  have hcl : n * sz ≤ c.length := by
   have := congrArg List.length htake
   rw [List.length_take, hlen] at this
   omega
  refine ⟨ρ', hle, hw', .imm 0 n _ hf hl2 (by rw [hlen]; omega) fun k v v' h1 h2 => ?_⟩
  have hk : k < n * sz := by rw [← hlen]; exact (List.getElem?_eq_some_iff.1 h1).1
  rw [← htake, List.getElem?_take, if_pos hk] at h1
  refine (hl.2 k v v' h1 ?_).mono hle
  rw [List.getElem?_take, if_pos (by omega), Array.getElem?_toList]
  simpa using h2
end Go.Proofs.YtfcjehlhoebmnaaGreatDoor.Ab
namespace Go.Proofs.YtfcjehlhoebmnaaGreatDoor.Ab
open Go Go.RowKit
set_option linter.unusedVariables false
def CastL (l : List V) (h : AHeap) (l2 : List V) (h2 : AHeap) : Prop :=
 ∀ (ρ : Ren) (B : Nat) (w0 w : World) (l' : List Value), WRel ρ B w0 h w → LRel ρ l l' → ∃ ρ', ρ.le ρ' ∧ WRel ρ' B w0 h2 w ∧ LRel ρ' l2 l'
theorem CastL.refl (l : List V) (h : AHeap) : CastL l h l h := fun ρ B w0 w l' hw hl => ⟨ρ, Ren.le.refl ρ, hw, hl⟩
theorem CastL.cons {v v2 : V} {l l2 : List V} {h h1 h2 : AHeap} (a : Cast v h v2 h1) (b : CastL l h1 l2 h2) : CastL (v :: l) h (v2 :: l2) h2 := fun ρ B w0 w l' hw hl => by
 obtain ⟨v', t', rfl, hv, ht⟩ := hl.uncons
 obtain ⟨ρ1, l1, w1, v1⟩ := a ρ B w0 w v' hw hv
 obtain ⟨ρ2, l2, w2, v2⟩ := b ρ1 B w0 w t' w1 (ht.mono l1)
 exact ⟨ρ2, l1.trans l2, w2, .cons (v1.mono l2) v2⟩
theorem Cast.tuple {l l2 : List V} {h h2 : AHeap} (a : CastL l h l2 h2) : Cast (.tuple l) h (.tuple l2) h2 := fun ρ B w0 w r' hw hv => by
 cases hv with
 | tuple hs hx =>
  obtain ⟨ρ1, l1, w1, v1⟩ := a ρ B w0 w _ hw (ARel.list ⟨hs, hx⟩)
  exact ⟨ρ1, l1, w1, v1.arr'.tuple⟩
def Clo (v : V) : Prop := ∀ (ρ ρ' : Ren) (v' : Value), VRel ρ v v' → (∀ b a, ρ.frz b = some a → ρ'.frz b = some a) → VRel ρ' v v'
def CloL (l : List V) : Prop := ∀ v ∈ l, Clo v
theorem CloL.nil : CloL [] := by simp [CloL]
theorem CloL.cons {v : V} {l : List V} (h : Clo v) (g : CloL l) : CloL (v :: l) := by
 intro x hx
 rcases List.mem_cons.1 hx with rfl | hx
 ·exact h
 ·exact g x hx
theorem CloL.append {l m : List V} (h : CloL l) (g : CloL m) : CloL (l ++ m) := by
 intro x hx
 rcases List.mem_append.1 hx with hx | hx
 ·exact h x hx
 ·exact g x hx
theorem CloL.flatMap {α : Type} {f : α → List V} {l : List α} (h : ∀ x ∈ l, CloL (f x)) : CloL (l.flatMap f) := by
 intro v hv
 obtain ⟨x, hx, hv⟩ := List.mem_flatMap.1 hv
 exact h x hx v hv
theorem CloL.map {α : Type} {f : α → V} {l : List α} (h : ∀ x ∈ l, Clo (f x)) : CloL (l.map f) := by
 intro v hv
 obtain ⟨x, hx, rfl⟩ := List.mem_map.1 hv
 exact h x hx
theorem Clo.flat {v : V} {a : Value} (h : flatV v = some a) : Clo v := fun ρ ρ' v' hv _ => by
 have := flatV_eq hv h
 subst this
 cases hv <;> simp [flatV] at h <;> first | (constructor; done) | skip
 rename_i xs xs' hs hx
 cases xs with
 | nil => exact .tuple hs (by simp)
 | cons x t => simp at h
theorem Clo.int (k : IntKind) (n : Int) : Clo (.int k n) := Clo.flat rfl
theorem Clo.bool (b : Bool) : Clo (.bool b) := Clo.flat rfl
theorem Clo.imm {n : Nat} {cs : List V} (h : CloL cs) : Clo (.imm n cs) := fun ρ ρ' v' hv hf => by
 rcases hv.imm_inv with ⟨rfl, rfl, a, ca, ha, rfl⟩ | ⟨b, o, cap, arr, hb, hn, ho, hx, rfl⟩
 ·exact .immZ a _ ha
 ·exact .imm o n cap (hf _ _ hb) hn ho fun k v v' h1 h2 => h v (List.mem_of_getElem? h1) ρ ρ' v' (hx k v v' h1 h2) hf
theorem Clo.agg {cs : List V} (h : CloL cs) : Clo (.agg cs) := fun ρ ρ' v' hv hf => by
 cases hv with
 | agg hs hx => exact .agg hs fun k v v' h1 h2 => h v (List.mem_of_getElem? h1) ρ ρ' v' (hx k v v' h1 h2) hf
theorem Clo.tuple {cs : List V} (h : CloL cs) : Clo (.tuple cs) := fun ρ ρ' v' hv hf => by
 cases hv with
 | tuple hs hx => exact .tuple hs fun k v v' h1 h2 => h v (List.mem_of_getElem? h1) ρ ρ' v' (hx k v v' h1 h2) hf
theorem VRel.join {ρ ρ' : Ren} (hle : ρ.le ρ') {v : V} {a : Value} (h : VRel ρ v a) : ∀ {b : Value}, VRel ρ' v b → VRel ⟨ρ.ren, ρ'.frz, ρ.dfr⟩ v b := by
 induction h with
 | ptr hi o =>
  intro b hb
  obtain ⟨b2, c2, hi2, rfl⟩ := hb.ptr_inv
  rw [hle.ren _ _ hi] at hi2
  simp at hi2
  obtain ⟨rfl, rfl⟩ := hi2
  exact VRel.ptr (ρ := ⟨ρ.ren, ρ'.frz, ρ.dfr⟩) hi o
 | sl hi o len cap hl =>
  intro b hb
  obtain ⟨b2, c2, hi2, hl2, rfl⟩ := hb.sl_inv
  rw [hle.ren _ _ hi] at hi2
  simp at hi2
  obtain ⟨rfl, rfl⟩ := hi2
  exact VRel.sl (ρ := ⟨ρ.ren, ρ'.frz, ρ.dfr⟩) hi o len cap hl
 | map hi =>
  intro b hb
  cases hb with
  | map hi2 =>
   rw [hle.ren _ _ hi] at hi2
   simp at hi2
   obtain ⟨rfl, rfl⟩ := hi2
   exact .map hi
 | @imm bb o n cap arr cs hb hn ho hx ih =>
  intro b hb'
  rcases hb'.imm_inv with ⟨rfl, rfl, a, ca, ha, rfl⟩ | ⟨b2, o2, cap2, arr2, hb2, hn2, ho2, hx2, rfl⟩
  ·exact .immZ a _ ha
  ·refine .imm o2 n cap2 hb2 hn2 ho2 fun k v v' h1 h2 => ?_
   have hk : k < cs.length := (List.getElem?_eq_some_iff.1 h1).1
   exact ih k v _ h1 (Array.getElem?_eq_getElem (by omega)) (hx2 k v v' h1 h2)
 | @«at» bb o arr cs hb ho hx ih =>
  intro b hb'
  obtain ⟨b2, o2, arr2, hb2, ho2, hx2, rfl⟩ := hb'.at_inv
  refine .at o2 hb2 ho2 fun k v v' h1 h2 => ?_
  have hk : k < cs.length := (List.getElem?_eq_some_iff.1 h1).1
  exact ih k v _ h1 (Array.getElem?_eq_getElem (by omega)) (hx2 k v v' h1 h2)
 | yl h =>
  intro b hb
  cases hb with
  | func _ h0 => cases h0
  | yl h2 =>
   have := hle.ren _ _ h
   rw [h2] at this
   cases this
   exact .yl h
 | func fn h0 hs ht hx hy ix iy =>
  intro b hb
  cases hb with
  | yl h => cases h0
  | func fn h02 hs2 ht2 hx2 hy2 =>
   refine .func fn h0 hs2 ht2 (fun k v v' h1 h2 => ?_) (fun k v v' h1 h2 => ?_)
   ·have hk := (List.getElem?_eq_some_iff.1 h1).1
    exact ix k v _ h1 (Array.getElem?_eq_getElem (by omega)) (hx2 k v v' h1 h2)
   ·have hk := (List.getElem?_eq_some_iff.1 h1).1
    exact iy k v _ h1 (Array.getElem?_eq_getElem (by omega)) (hy2 k v v' h1 h2)
 | iface t h ih => intro b hb; cases hb with | iface t g => exact .iface t (ih g)
 | agg hs hx ix =>
  intro b hb
  cases hb with
  | agg hs2 hx2 =>
   refine .agg hs2 fun k v v' h1 h2 => ?_
   have hk := (List.getElem?_eq_some_iff.1 h1).1
   exact ix k v _ h1 (Array.getElem?_eq_getElem (by omega)) (hx2 k v v' h1 h2)
 | tuple hs hx ix =>
  intro b hb
  cases hb with
  | tuple hs2 hx2 =>
   refine .tuple hs2 fun k v v' h1 h2 => ?_
   have hk := (List.getElem?_eq_some_iff.1 h1).1
   exact ix k v _ h1 (Array.getElem?_eq_getElem (by omega)) (hx2 k v v' h1 h2)
 | immZ a ca ha =>
  intro b hb
  rcases hb.imm_inv with ⟨_, _, a, ca, ha, rfl⟩ | ⟨b2, o2, cap2, arr2, hb2, hn2, ho2, hx2, rfl⟩
  ·exact .immZ a _ ha
  ·exact .imm o2 0 cap2 hb2 hn2 ho2 (by simp)
 | z0 a ha => intro b hb; cases hb with | z0 a ha => exact .z0 a ha
 | top => intro b hb; exact .top _
 | _ => intro b hb; cases hb; constructor
theorem LRel.join {ρ ρ' : Ren} (hle : ρ.le ρ') {l : List V} {a b : List Value} (h : LRel ρ l a) (g : LRel ρ' l b) : LRel ⟨ρ.ren, ρ'.frz, ρ.dfr⟩ l b := by
 refine ⟨g.1, fun k v v' h1 h2 => ?_⟩
 have hk : k < l.length := (List.getElem?_eq_some_iff.1 h1).1
 exact (h.2 k v _ h1 (List.getElem?_eq_getElem (by rw [← h.1]; exact hk))).join hle (g.2 k v v' h1 h2)
theorem WRel.forget {ρ ρ' : Ren} {B B' : Nat} {w0 w0' w w' : World} {h h' : AHeap} (R : WRel ρ B' w0' h w) (R' : WRel ρ' B w0 h' w') (hle : ρ.le ρ') (hk : Keep h h' none_) : WRel ⟨ρ.ren, ρ'.frz, ρ.dfr⟩ B w0 h w' := by
 have hlt : ∀ i, h.get i ≠ .dead → i < h.n := fun i hi => by obtain ⟨_, _, _, _, hh, _⟩ := R.heap.live hi; exact hh
 refine ⟨⟨R.heap.dom, R.heap.inj, fun i => ?_, R'.heap.frz, fun g cs hg => ?_, R'.heap.base⟩, R'.below⟩
 ·cases hg : h.get i with
  | dead => trivial
  | cells c e ex =>
   have hi : i < h.n := hlt i (by rw [hg]; simp)
   have o1 := R.heap.obj i
   have o2 := R'.heap.obj i
   rw [hk.get i hi (by simp [none_]), hg] at o2
   rw [hg] at o1
   obtain ⟨b, cp, arr, hr, hf, hB, hw, hc, hl, hx⟩ := o1
   obtain ⟨b2, cp2, arr2, hr2, hf2, hB2, hw2, hc2, hl2, hx2⟩ := o2
   have := hle.ren i _ hr
   rw [hr2] at this
   simp at this
   obtain ⟨rfl, rfl⟩ := this
   exact ⟨b2, cp2, arr2, hr, hf2, hB2, hw2, hc2, hl.join hle hl2, hx2⟩
  | map es cl =>
   have hi : i < h.n := hlt i (by rw [hg]; simp)
   have o1 := R.heap.obj i
   have o2 := R'.heap.obj i
   rw [hk.get i hi (by simp [none_]), hg] at o2
   rw [hg] at o1
   obtain ⟨b, cp, arr, hr, hf, hB, hw, hm⟩ := o1
   obtain ⟨b2, cp2, arr2, hr2, hf2, hB2, hw2, hm2⟩ := o2
   have := hle.ren i _ hr
   rw [hr2] at this
   simp at this
   obtain ⟨rfl, rfl⟩ := this
   refine ⟨b2, cp2, arr2, hr, hf2, hB2, hw2, hm2.1, fun k x y hx hy => ?_⟩
   have hk1 : k < es.length := (List.getElem?_eq_some_iff.1 hx).1
   obtain ⟨_, q1, q2⟩ := hm.2 k x _ hx (Array.getElem?_eq_getElem (by rw [← hm.1]; exact hk1))
   obtain ⟨p0, p1, p2⟩ := hm2.2 k x y hx hy
   exact ⟨p0, q1.join hle p1, q2.join hle p2⟩
  | pin k vs =>
   have hi : i < h.n := hlt i (by rw [hg]; simp)
   have o1 := R.heap.obj i
   have o2 := R'.heap.obj i
   rw [hk.get i hi (by simp [none_]), hg] at o2
   rw [hg] at o1
   obtain ⟨b, cp, arr, hr, hf, hB, hw, hl⟩ := o1
   obtain ⟨b2, cp2, arr2, hr2, hf2, hB2, hw2, hl2⟩ := o2
   have := hle.ren i _ hr
   rw [hr2] at this
   simp at this
   obtain ⟨rfl, rfl⟩ := this
   refine ⟨b2, cp2, arr2, hr, hf2, hB2, ?_, hl.join hle hl2⟩
   cases k with
   | dfd => exact hw2
   | loop j p a c y =>
    obtain ⟨D, cD, q, h1, h2⟩ := hw
    obtain ⟨D2, cD2, q2, h3, h4⟩ := hw2
    have := hle.ren j _ h1
    rw [h3] at this
    simp at this
    obtain ⟨rfl, rfl⟩ := this
    exact ⟨D2, cD2, q2, h1, h4⟩
  | iter m s l st =>
   have hi : i < h.n := hlt i (by rw [hg]; simp)
   have o1 := R.heap.obj i
   have o2 := R'.heap.obj i
   rw [hk.get i hi (by simp [none_]), hg] at o2
   rw [hg] at o1
   obtain ⟨b, cp, bm, cm, hr, hf, hB, hm, hw⟩ := o1
   obtain ⟨b2, cp2, bm2, cm2, hr2, hf2, hB2, hm2, hw2⟩ := o2
   have := hle.ren i _ hr
   rw [hr2] at this
   simp at this
   obtain ⟨rfl, rfl⟩ := this
   have := hle.ren m _ hm
   rw [hm2] at this
   simp at this
   obtain ⟨rfl, rfl⟩ := this
   exact ⟨b2, cp2, bm2, cm2, hr, hf2, hB2, hm, hw2⟩
 ·obtain ⟨arr, hf, hr⟩ := R.heap.glob g cs hg
  obtain ⟨arr2, hf2, hr2⟩ := R'.heap.glob g cs (by rw [hk.glob]; exact hg)
  have := hle.frz g _ hf
  rw [hf2] at this
  simp at this
  subst this
  exact ⟨arr2, hf2, (hr.list.join hle hr2.list).arr'⟩
theorem SCallsE.pure {P : Program} {fid : FuncId} {args : List V} {h : AHeap} {v : V} {E : AHeap → Prop} (hv : Clo v) (hc : SCallsE P fid args h (fun r h' => ∃ h2, Cast r h' v h2 ∧ Keep h h2 none_) (fun h' => Keep h h' none_ ∧ E h)) :
  SCallsE P fid args h (fun r h' => r = v ∧ h' = h) (fun h' => h' = h ∧ E h) := by
 intro ρ B w0 w args' hw ha
 refine (hc ρ B w0 w args' hw ha).mono fun e w' hh => ?_
 rcases hh with ⟨ρ', r, r', h', he, hr, hw', hle, h2, hcast, hk⟩ | ⟨ρ', ch, h', he, hch, hw', hle, hk, hE⟩
 ·obtain ⟨ρ2, hle2, hw2, hv2⟩ := hcast ρ' B w0 w' r' hw' hr
  have hl := hle.trans hle2
  exact .inl ⟨⟨ρ.ren, ρ2.frz, ρ.dfr⟩, v, r', h, he, hv _ _ _ hv2 fun _ _ h => h, hw.forget hw2 hl hk, ⟨fun _ _ h => h, hl.frz, rfl⟩, rfl, rfl⟩
 ·exact .inr ⟨⟨ρ.ren, ρ'.frz, ρ.dfr⟩, ch, h, he, hch, hw.forget hw' hle hk, ⟨fun _ _ h => h, hle.frz, rfl⟩, rfl, hE⟩
theorem Pure.of {P : Program} {fid : FuncId} {args : List V} {h : AHeap} {v : V} (hv : Clo v) (hc : SCalls P fid args h (fun r h' => ∃ h2, Cast r h' v h2 ∧ Keep h h2 none_)) : Pure P fid args h v := by
 have := SCallsE.pure (E := fun _ => False) hv (hc.e)
 exact SCallsE.mono this (fun _ _ h => h) fun _ h => h.2.elim
theorem Pure.val {P : Program} {fid : FuncId} {args : List V} {h : AHeap} {v : V} (hv : Clo v) (hc : SCalls P fid args h (fun r h' => r = v ∧ Keep h h' none_)) : Pure P fid args h v :=
 .of hv (hc.mono fun r h' ⟨e, k⟩ => ⟨h', by subst e; exact Cast.refl _ _, k⟩)
theorem Acc.cast {h0 h : AHeap} {e : TypeId} {sz : Nat} {v : V} {cs : List V} (a : Acc h0 h e sz v cs) {n : Nat} (hn : cs.length = n * sz) (hsz : 0 < sz) : ∃ h2, Cast v h (.imm n cs) h2 ∧ Keep h0 h2 none_ := by
 obtain ⟨h2, hc, hk⟩ := Cast.own a.own hn hsz
 exact ⟨h2, hc, a.keep.trans hk fun k hlt hid => by have := a.new k hid; omega⟩
def quietA (P : Program) (ops : List Oper) (h : AHeap) : List Oper → (AFrame → Prop) → AFrame → Prop
 | [], K, f => K f
 | o :: rest, K, f => match wantedA ops o.guard f with
  | some true => ∃ v, quietStep P o h f v ∧ quietA P ops h rest K (f.put o.dst v)
  | some false => quietA P ops h rest K (f.put o.dst (.tuple []))
  | none => False
def YieldA (P : Program) (ops : List Oper) (h : AHeap) (o : Oper) (v : V) (f : AFrame) : Prop :=
 (wantedA ops o.guard f = some true ∧ quietStep P o h f v) ∨ (wantedA ops o.guard f = some false ∧ v = .tuple [])
end Go.Proofs.YtfcjehlhoebmnaaGreatDoor.Ab
namespace Go.Proofs.YtfcjehlhoebmnaaGreatDoor.Ab
open Go Go.RowKit
set_option linter.unusedVariables false
theorem aCall_congr {P : Program} {c : Call} {ty : TypeId} {ev ev' : Operand → V} {h : AHeap} (he : ∀ x ∈ c.operands, ev x = ev' x) : aCall P c ty ev h = aCall P c ty ev' h := by
 have hargs : c.args.toList.map ev = c.args.toList.map ev' := List.map_congr_left fun x hx => he x (by simp at hx; simp [Call.operands, hx])
 unfold aCall
 rw [hargs]
 cases hc : c.callee with
 | value f => have hf : ev f = ev' f := he f (by simp [Call.operands, hc]); simp only [hf]
 | invoke r m => have hf : ev r = ev' r := he r (by simp [Call.operands, hc]); simp only [hf]
 | builtin b => cases b <;> rfl
theorem opEval_congr {P : Program} {o : Oper} {ev ev' : Operand → V} {h : AHeap} (he : ∀ x ∈ o.op.operands, ev x = ev' x) : opEval P o ev h = opEval P o ev' h := by
 obtain ⟨dst, op, type, pos, after, guard⟩ := o
 have pairs : ∀ ps : Array (Nat × Operand), (∀ x ∈ ps.toList.map (·.2), ev x = ev' x) →
   (ps.toList.map fun p => (p.1, ev p.2)) = (ps.toList.map fun p => (p.1, ev' p.2)) := fun ps hp =>
  List.map_congr_left fun p hm => by rw [hp p.2 (List.mem_map.2 ⟨p, hm, rfl⟩)]
 cases op <;> simp only [Op.operands] at he <;> simp only [opEval]
 case build t ps => rw [pairs ps fun x hx => he x (by simpa using hx)]
 case buildSlice t n ps => rw [pairs ps fun x hx => he x (by simpa using hx)]
 case makeFunc fn first captured =>
  have e1 := List.map_congr_left (l := first.toList) fun x hx => he x (by simp at hx; simp [hx])
  have e2 := List.map_congr_left (l := captured.toList) fun x hx => he x (by simp at hx; simp [hx])
  cases fn <;> simp only [e1, e2]
 case call c => exact aCall_congr he
 case makeMap t r => cases r <;> simp_all
 case slice t x lo hi mx => cases lo <;> cases hi <;> cases mx <;> simp_all
 case next it s => cases s <;> simp_all
 all_goals (first | rfl | (simp_all; done))
theorem AFrame.eval_put {f : AFrame} {h : AHeap} {dst : Option Tmp} {v : V} {x : Operand} (hx : ∀ d, dst = some d → x ≠ .tmp d) : (f.put dst v).eval h x = f.eval h x := by
 cases dst with
 | none => rfl
 | some d =>
  cases x with
  | tmp t =>
   have hne : t ≠ d := fun e => hx d rfl (e ▸ rfl)
   simp [AFrame.eval, AFrame.put, hne]
  | _ => rfl
theorem AFrame.put_comm (f : AFrame) {x y : Option Tmp} (v u : V) (h : ∀ d, x = some d → y ≠ some d) : (f.put x v).put y u = (f.put y u).put x v := by
 cases x with
 | none => rfl
 | some d =>
  cases y with
  | none => rfl
  | some e =>
   have hne : d ≠ e := fun he => h d rfl (he ▸ rfl)
   funext t
   simp only [AFrame.put]
   by_cases h1 : t = e
   ·subst h1; simp [Ne.symm hne]
   ·simp [h1]
section
variable {P : Program} {ops : Array Oper} {h : AHeap} {md : Region.Mode}
theorem opEval_put (o : Oper) (f : AFrame) (dst : Option Tmp) (v : V) (hl : ∀ d, dst = some d → d ∉ o.looksAt ops) : opEval P o ((f.put dst v).eval h) h = opEval P o (f.eval h) h :=
 opEval_congr fun x hx => AFrame.eval_put fun d hd hxd => hl d hd (by
  subst hxd
  exact List.mem_append_left _ (List.mem_filterMap.2 ⟨.tmp d, by simpa using hx, rfl⟩))
theorem wantedA_put (o : Oper) (f : AFrame) (dst : Option Tmp) (v : V) (hl : ∀ d, dst = some d → d ∉ o.looksAt ops) : wantedA ops.toList o.guard (f.put dst v) = wantedA ops.toList o.guard f := by
 cases dst with
 | none => rfl
 | some d =>
  unfold wantedA
  cases hg : o.guard with
  | none => rfl
  | some gw =>
   obtain ⟨g, want⟩ := gw
   simp only
   have e : ops.toList[g]? = ops[g]? := by simp
   rw [e]
   cases ht : (ops[g]?).bind (·.dst) with
   | none => rfl
   | some t =>
    have hne : t ≠ d := fun e => hl d rfl (by subst e; simp [Oper.looksAt, hg, ht])
    simp [AFrame.put, hne]
theorem YieldA.put {o : Oper} {v : V} {f : AFrame} (hy : YieldA P ops.toList h o v f) (dst : Option Tmp) (u : V) (hl : ∀ d, dst = some d → d ∉ o.looksAt ops) : YieldA P ops.toList h o v (f.put dst u) := by
 unfold YieldA quietStep at *
 rw [wantedA_put o f dst u hl, opEval_put o f dst u hl]
 exact hy
theorem YieldA.unput {o : Oper} {v : V} {f : AFrame} (dst : Option Tmp) (u : V) (hl : ∀ d, dst = some d → d ∉ o.looksAt ops) (hy : YieldA P ops.toList h o v (f.put dst u)) : YieldA P ops.toList h o v f := by
 unfold YieldA quietStep at *
 rwa [wantedA_put o f dst u hl, opEval_put o f dst u hl] at hy
end
class Ht where
 h : AHeap
def qI (P : Program) (ol l : List Oper) [H : Ht] [K : Kt] (f : AFrame) : Prop := quietA P ol H.h l (fun f => K.go f H.h) f
def qstepI (P : Program) (o : Oper) (ol l : List Oper) [H : Ht] [K : Kt] (f : AFrame) : Prop := ∃ v, quietStep P o H.h f v ∧ @qI P ol l H K (f.put o.dst v)
section
variable {P : Program} {ol l : List Oper} {H : Ht} {K : Kt} {f : AFrame} {d : Option Tmp} {ty : TypeId} {pos : String} {aft : Array Edge} {op : Op} {g : Option (Nat × Bool)}
theorem qI_nil : @qI P ol [] H K f = @goI K f H.h := nr rfl
theorem qI_cons : @qI P ol (⟨d, op, ty, pos, aft, none⟩ :: l) H K f = @qstepI P ⟨d, op, ty, pos, aft, none⟩ ol l H K f := nr rfl
def qgI (v : V) (o : Oper) (P : Program) (ol l : List Oper) [H : Ht] [K : Kt] (f : AFrame) : Prop :=
 match v, o.guard with
 | .bool c, some (_, b) => if c = b then @qstepI P o ol l H K f else @qI P ol l H K (f.put o.dst (.tuple []))
 | .top, _ => False
 | _, _ => @qI P ol l H K (f.put o.dst (.tuple []))
theorem qI_guard {j : Nat} {b : Bool} : @qI P ol (⟨d, op, ty, pos, aft, some (j, b)⟩ :: l) H K f =
  (match slotAt ol j with | some t => @qgI (f t) ⟨d, op, ty, pos, aft, some (j, b)⟩ P ol l H K f | none => @qI P ol l H K (f.put d (.tuple []))) := by
 rw [slotAt_eq]
 show quietA P ol H.h (⟨d, op, ty, pos, aft, some (j, b)⟩ :: l) (fun f => K.go f H.h) f = _
 simp only [quietA, wantedA]
 cases ht : (ol[j]?).bind (·.dst) with
 | none => rfl
 | some t =>
  simp only [qgI]
  cases hf : f t <;> try rfl
  rename_i c
  simp only
  by_cases hc : c = b
  ·subst hc; simp only [beq_self_eq_true, if_true]; rfl
  ·have : (c == b) = false := by simp [hc]
   simp only [this, if_neg hc]
   rfl
theorem qgI_same {b : Bool} {j : Nat} : @qgI (.bool b) ⟨d, op, ty, pos, aft, some (j, b)⟩ P ol l H K f = @qstepI P ⟨d, op, ty, pos, aft, some (j, b)⟩ ol l H K f := if_pos rfl
theorem qgI_tf {j : Nat} : @qgI (.bool true) ⟨d, op, ty, pos, aft, some (j, false)⟩ P ol l H K f = @qI P ol l H K (f.put d (.tuple [])) := nr rfl
theorem qgI_ft {j : Nat} : @qgI (.bool false) ⟨d, op, ty, pos, aft, some (j, true)⟩ P ol l H K f = @qI P ol l H K (f.put d (.tuple [])) := nr rfl
theorem qgI_u {j : Nat} {b : Bool} {vs : List V} : @qgI (.tuple vs) ⟨d, op, ty, pos, aft, some (j, b)⟩ P ol l H K f = @qI P ol l H K (f.put d (.tuple [])) := nr rfl
def thenQ (o : Option V) (d : Option Tmp) (P : Program) (ol l : List Oper) [H : Ht] [K : Kt] (f : AFrame) : Prop := match o with | some v => @qI P ol l H K (f.put d v) | none => False
theorem thenQ_some {v : V} : @thenQ (some v) d P ol l H K f = @qI P ol l H K (f.put d v) := nr rfl
theorem just_q {o : Oper} {x : Option V} (he : opEval P o (f.eval H.h) H.h = justV x H.h) : @qstepI P o ol l H K f = @thenQ x o.dst P ol l H K f := by
 unfold qstepI quietStep
 rw [he]
 cases x with
 | none => simp [justV, thenQ]
 | some v =>
  simp [justV, thenQ]
theorem q_move {x : Operand} : @qstepI P ⟨d, .move x, ty, pos, aft, g⟩ ol l H K f = @qI P ol l H K (f.put d (f.eval H.h x)) := by
 rw [just_q (x := some (f.eval H.h x)) rfl]; rfl
theorem q_assign {x : Operand} : @qstepI P ⟨d, .assign x, ty, pos, aft, g⟩ ol l H K f = @qI P ol l H K (f.put d (f.eval H.h x)) := by
 rw [just_q (x := some (f.eval H.h x)) rfl]; rfl
theorem q_pick {c a b : Operand} : @qstepI P ⟨d, .pick c a b, ty, pos, aft, g⟩ ol l H K f = @thenQ (pickV (f.eval H.h c) (f.eval H.h a) (f.eval H.h b)) d P ol l H K f :=
 just_q (by unfold opEval pickV justV; simp only; cases f.eval H.h c <;> rfl)
theorem q_load {t : TypeId} {a : Operand} : @qstepI P ⟨d, .load t a, ty, pos, aft, g⟩ ol l H K f = @thenQ (aLoad P t (f.eval H.h a) H.h) d P ol l H K f := just_q rfl
theorem q_binOp {op : BinOp} {t yt : TypeId} {x y : Operand} : @qstepI P ⟨d, .binOp op t x y yt, ty, pos, aft, g⟩ ol l H K f = @thenQ (aBin P op t x y (f.eval H.h x) (f.eval H.h y)) d P ol l H K f := just_q rfl
theorem q_unOp {op : UnOp} {t : TypeId} {x : Operand} : @qstepI P ⟨d, .unOp op t x, ty, pos, aft, g⟩ ol l H K f = @thenQ (aUn P op (f.eval H.h x)) d P ol l H K f := just_q rfl
theorem q_fieldAddr {t : TypeId} {x : Operand} {k : Nat} : @qstepI P ⟨d, .fieldAddr t x k, ty, pos, aft, g⟩ ol l H K f = @thenQ (aField P t (f.eval H.h x) k) d P ol l H K f := just_q rfl
theorem q_indexAddr {t : TypeId} {x y : Operand} : @qstepI P ⟨d, .indexAddr t x y, ty, pos, aft, g⟩ ol l H K f = @thenQ (aIndexAddr P t (f.eval H.h x) (f.eval H.h y)) d P ol l H K f := just_q rfl
theorem q_len {t : TypeId} {x : Operand} : @qstepI P ⟨d, .call ⟨.builtin .len, #[x], #[t]⟩, ty, pos, aft, g⟩ ol l H K f = @thenQ (aLen P t (f.eval H.h x) H.h) d P ol l H K f :=
 just_q (by unfold opEval aCall aBuiltin justV; simp only [List.map_cons, List.map_nil]; cases aLen P t (f.eval H.h x) H.h <;> rfl)
end
end Go.Proofs.YtfcjehlhoebmnaaGreatDoor.Ab
namespace Go.Proofs.YtfcjehlhoebmnaaGreatDoor.Ab
open Go Go.RowKit
set_option linter.unusedVariables false
section
variable {h : AHeap} {o o' : AObj} {i j : Nat}
theorem push_n : (h.push o).n = h.n + 1 := nr rfl
theorem set_n : (h.set i o).n = h.n := nr rfl
theorem push_glob : (h.push o).glob = h.glob := nr rfl
theorem set_glob : (h.set i o).glob = h.glob := nr rfl
theorem get_push_new : (h.push o).get h.n = o := by simp [AHeap.push]
theorem get_push_lt (hi : i < h.n) : (h.push o).get i = h.get i := by simp [AHeap.push, show i ≠ h.n by omega]
theorem get_push (i : Nat) : (h.push o).get i = if i = h.n then o else h.get i := nr rfl
theorem get_set_same : (h.set i o).get i = o := by simp [AHeap.set]
theorem get_set_ne (hne : i ≠ j) : (h.set j o).get i = h.get i := by simp [AHeap.set, hne]
theorem get_set (i j : Nat) : (h.set j o).get i = if i = j then o else h.get i := nr rfl
theorem set_push : (h.push o).set h.n o' = h.push o' := by
 unfold AHeap.push AHeap.set
 simp only
 congr 1
 funext k
 split <;> rfl
theorem set_set : (h.set i o).set i o' = h.set i o' := by
 unfold AHeap.set
 simp only
 congr 1
 funext k
 split <;> rfl
theorem set_self (hg : h.get i = o) : h.set i o = h := by
 unfold AHeap.set
 cases h with
 | mk n get glob =>
  simp only at hg ⊢
  congr 1
  funext k
  by_cases hk : k = i
  ·subst hk; simp [hg]
  ·simp [hk]
theorem get_push2 {a b : AObj} : ((h.push a).push b).get (h.n + 1) = b := by
 have := get_push_new (h := h.push a) (o := b)
 rwa [push_n] at this
theorem get_push2' {a b : AObj} : ((h.push a).push b).get h.n = a := by
 rw [get_push_lt (by rw [push_n]; omega), get_push_new]
theorem set_push2 {a b c : AObj} : ((h.push a).push b).set (h.n + 1) c = (h.push a).push c := by
 have := set_push (h := h.push a) (o := b) (o' := c)
 rwa [push_n] at this
theorem set_push2' {a b c : AObj} : ((h.push a).push b).set h.n c = (h.push c).push b := by
 simp only [AHeap.push, AHeap.set, AHeap.mk.injEq, true_and, and_true]
 funext k
 by_cases h1 : k = h.n
 ·subst h1
  simp
 ·simp [h1]
end
section
variable {P : Program} {t kt et : TypeId} {kk : IntKind} {α : Type} {enc : α → V}
theorem eqKey_int {a b : Int} {d : TypeDesc} (hd : d = .int kk) : eqKey P kt d (.int kk a) (.int kk b) = some (a == b) := by
 subst hd
 simp [eqKey, plainV, flatV, scalarKind, Instr.sameNow]
theorem checkKey_int {b : Bool} {k : Int} {d : TypeDesc} (hu : P.underlying kt = some d) (hd : d = .int kk) : keyOk P b kt (.int kk k) = true := by
 subst hd
 unfold keyOk
 simp only [plainV, flatV]
 unfold Instr.checkKey
 rw [pureRun_bind, pureRun_underlying hu]
 rfl
end
def Stamps (es : List (Nat × V × V)) (cl : Nat) : Prop := (∀ e ∈ es, e.1 < cl) ∧ (es.map (·.1)).Nodup
theorem alts_ro {r m cl : Nat} {seen : List Nat} {es : List (Nat × V × V)} {h : AHeap} {d : Option Tmp} {K : Kt} {f : AFrame} (hr : h.get r = .iter m cl seen cl) (hm : h.get m = .map es cl) (hs : Stamps es cl)
  (h0 : remOf es seen = [] → @goI K (f.put d (.tuple [.bool false])) h)
  (h1 : ∀ e ∈ remOf es seen, @goI K (f.put d (.tuple [.bool true, e.2.1, e.2.2])) (h.set r (.iter m cl (seen ++ [e.1]) cl))) : @altsI (aNext (.ptr r 0) h) d K f := by
 unfold aNext
 simp only [hr, hm]
 have hno : ¬ ((!seen.isEmpty && !es.isEmpty && es.all (fun e => decide (cl ≤ e.1))) = true) := by
  intro hh
  simp only [Bool.and_eq_true, Bool.not_eq_true', List.all_eq_true, decide_eq_true_eq] at hh
  cases es with
  | nil => simp at hh
  | cons e r =>
   have h2 := hh.2 e (by simp)
   have h3 := hs.1 e (by simp)
   omega
 rw [if_neg hno]
 unfold altsI
 intro v h' hmem
 rcases List.mem_append.1 hmem with hmem | hmem
 ·split at hmem
  ·rename_i hall
   simp at hmem
   obtain ⟨rfl, rfl⟩ := hmem
   refine h0 ?_
   cases hl : remOf es seen with
   | nil => rfl
   | cons e r =>
    have hmem : e ∈ remOf es seen := by rw [hl]; simp
    have h2 := List.all_eq_true.1 hall e hmem
    have h3 := hs.1 e (List.mem_filter.1 hmem).1
    simp at h2
    omega
  ·simp at hmem
 ·obtain ⟨e, he, heq⟩ := List.mem_map.1 hmem
  simp at heq
  obtain ⟨rfl, rfl⟩ := heq
  exact h1 e he
theorem entry_ro {r m cl : Nat} {seen : List Nat} {es : List (Nat × V × V)} {h : AHeap} {e : Nat × V × V} (hr : h.get r = .iter m cl (seen ++ [e.1]) cl) (hm : h.get m = .map es cl) (hs : Stamps es cl) (he : e ∈ es) :
  aEntry (.ptr r 0) h = some (.tuple [e.2.1, e.2.2]) := by
 unfold aEntry
 have hl : (seen ++ [e.1]).getLast? = some e.1 := by simp
 simp only [hr, hm, hl, if_true]
 have hf : es.find? (fun x => x.1 == e.1) = some e := by
  have h2 := hs.2
  clear hm hs
  induction es with
  | nil => simp at he
  | cons a es ih =>
   rw [List.find?_cons]
   rw [List.map_cons, List.nodup_cons] at h2
   rcases List.mem_cons.1 he with rfl | he'
   ·simp
   ·have : a.1 ≠ e.1 := fun hh => h2.1 (by rw [hh]; exact List.mem_map.2 ⟨e, he', rfl⟩)
    rw [show (a.1 == e.1) = false by simp [this]]
    exact ih he' h2.2
 rw [hf]
 rfl
theorem remOf_snoc {es : List (Nat × V × V)} {seen : List Nat} {e : Nat × V × V} (he : e ∈ remOf es seen) : (remOf es (seen ++ [e.1])).length < (remOf es seen).length := by
 unfold remOf at *
 have h1 : (es.filter fun x => !(seen ++ [e.1]).contains x.1) = (es.filter fun x => !seen.contains x.1).filter fun x => x.1 != e.1 := by
  rw [List.filter_filter]
  congr 1
  funext x
  by_cases h1 : seen.contains x.1 = true
  ·simp at h1; simp [h1]
  ·by_cases h2 : x.1 = e.1
   ·simp [h2]
   ·simp at h1; simp [h1, h2]
 rw [h1]
 have := List.length_filter_lt_length_iff_exists (p := fun x : Nat × V × V => x.1 != e.1) (l := es.filter fun x => !seen.contains x.1)
 exact this.2 ⟨e, he, by simp⟩
theorem range_map {P : Program} {t : TypeId} {q : TypeId × TypeId × TypeDesc} {i : Nat} {h : AHeap} {es : List (Nat × V × V)} {cl : Nat} (hm : mapT P t = some q) (hg : h.get i = .map es cl) : aRange P t (.map i) h = some (.ptr h.n 0, h.push (.iter i cl [] cl)) := by
 unfold aRange
 simp [hm, hg]
theorem makeMap_nil {P : Program} {t : TypeId} {h : AHeap} : aMakeMap P t none h = some (.map h.n, h.push (.map [] 0)) := nr rfl
end Go.Proofs.YtfcjehlhoebmnaaGreatDoor.Ab
namespace Go.Proofs.YtfcjehlhoebmnaaGreatDoor.Ab
open Go Go.RowKit
set_option linter.unusedVariables false
def entryRen (w : World) : Ren := { ren := fun _ => none, frz := fun b => match w.heap[b]? with | some (.cells c _ _) => some c | _ => none }
def noHeap : AHeap := { n := 0, get := fun _ => .dead, glob := fun _ => none }
theorem entry_frz {w : World} {b : Nat} {c : Array Value} {e : TypeId} {fz : Nat × Nat} (h : w.heap[b]? = some (.cells c e fz)) : (entryRen w).frz b = some c := by simp [entryRen, h]
theorem entry_rel (w : World) : WRel (entryRen w) w.heap.size w noHeap w := by
 refine ⟨⟨fun _ _ => rfl, fun _ _ _ _ _ h => by simp [noHeap] at h, fun _ => trivial, fun b arr hb => ?_, fun g cs hg => by simp [noHeap] at hg, Nat.le_refl _⟩, Bel.refl _ _⟩
 simp only [entryRen] at hb
 split at hb
 ·rename_i c e fz hq
  simp at hb
  subst hb
  exact ⟨e, fz, hq⟩
 ·cases hb
end Go.Proofs.YtfcjehlhoebmnaaGreatDoor.Ab
namespace Go.Proofs.YtfcjehlhoebmnaaGreatDoor.Ab
open Go Go.RowKit
set_option linter.unusedVariables false
def depB (ops : Array Oper) : Nat → Nat → Nat → Bool
 | 0, _, _ => false
 | n + 1, k, i => match ops[k]? with
  | some o => o.after.any fun e => Region.binds .any e && (e.on == i || depB ops n e.on i)
  | none => false
def Down (ops : Array Oper) (listed : Array Bool) : Prop := ∀ k o, ops[k]? = some o → listed.getD k false = true → ∀ e ∈ o.after, Region.binds .any e = true → listed.getD e.on false = true
theorem dep_listed {ops : Array Oper} {listed : Array Bool} (hd : Down ops listed) : ∀ (n k i : Nat), (∀ o, ops[k]? = some o → ∀ e ∈ o.after, Region.binds .any e = true → listed.getD e.on false = true) → depB ops n k i = true → listed.getD i false = true
 | 0, k, i, _, h => by simp [depB] at h
 | n + 1, k, i, hk, h => by
  unfold depB at h
  cases ho : ops[k]? with
  | none => simp [ho] at h
  | some o =>
   simp only [ho] at h
   obtain ⟨j, hj, hh⟩ := Array.any_eq_true.1 h
   simp only [Bool.and_eq_true, Bool.or_eq_true, beq_iff_eq] at hh
   have hm : o.after[j] ∈ o.after := Array.getElem_mem hj
   have h1 := hk o ho _ hm hh.1
   rcases hh.2 with h2 | h2
   ·rw [← h2]; exact h1
   ·exact dep_listed hd n _ i (fun o' ho' e he hb => hd _ o' ho' h1 e he hb) h2
theorem Down.add {ops : Array Oper} {listed : Array Bool} (hd : Down ops listed) {i : Nat} (hr : i ∈ Region.ready .any ops listed) : Down ops (listed.setIfInBounds i true) := by
 obtain ⟨_, o, ho, hall⟩ := mem_ready.1 hr
 intro k o' ho' hk e he hb
 by_cases hki : k = i
 ·subst hki
  rw [ho] at ho'
  obtain rfl : o = o' := by simpa using ho'
  exact getD_set_true (hall e he hb)
 ·rw [getD_set_ne false (Ne.symm hki)] at hk
  exact getD_set_true (hd k o' ho' hk e he hb)
def anyG (P : Program) (ops : Array Oper) (es : List Nat) (K E : AFrame → AHeap → Prop) : Nat → Array Bool → AFrame → AHeap → Prop
 | 0, listed, f, h => Region.ready .any ops listed = [] ∧ K f h
 | n + 1, listed, f, h => (Region.ready .any ops listed = [] → K f h) ∧
  ∀ i ∈ Region.ready .any ops listed, ∀ o, ops[i]? = some o →
   if es.contains i then (match wantedA ops.toList o.guard f with
    | some true => stepA P o (fun f' h' => anyG P ops es K E n (listed.setIfInBounds i true) f' h') E f h
    | some false => anyG P ops es K E n (listed.setIfInBounds i true) (f.put o.dst (.tuple [])) h
    | none => False)
   else ∃ v, YieldA P ops.toList h o v f ∧ anyG P ops es K E n (listed.setIfInBounds i true) (f.put o.dst v) h
theorem anyG_sound {P : Program} {n : Nat} {ops : Array Oper} {es : List Nat} (hok : ops.toList.all (fun o => dstOk n o.dst) = true) {ρ0 : Ren} {B : Nat} {w0 : World} {Q : AExit → AFrame → AHeap → Prop} :
  ∀ (m : Nat) (listed : Array Bool) (f : AFrame) (h : AHeap) (ρ : Ren) (a : Act) (w : World), ρ0.le ρ → WRel ρ B w0 h w → FRel ρ n f a → anyG P ops es (Q .normal) (Q .panic) m listed f h → wpAnyIn Fence.wide 0 P .any ops (CPost n B w0 ρ0 Q) m listed a w
 | 0, listed, f, h, ρ, a, w, hle, hw, hf, hq => ⟨hq.1, ⟨ρ, .normal, f, h, trivial, hw, hf, hle, hq.2⟩⟩
 | m + 1, listed, f, h, ρ, a, w, hle, hw, hf, hq => by
  refine ⟨fun h0 => ⟨ρ, .normal, f, h, trivial, hw, hf, hle, hq.1 h0⟩, fun i hi => ?_⟩
  unfold wpOpIn
  cases ho : ops[i]? with
  | none =>
   obtain ⟨_, o, hoo, _⟩ := mem_ready.1 hi
   rw [ho] at hoo; cases hoo
  | some o =>
   simp only
   have hst := hq.2 i hi o ho
   have hd : dstOk n o.dst = true := (List.all_eq_true.1 hok) o (by rw [Array.mem_toList_iff]; exact Array.mem_of_getElem? ho)
   by_cases he : es.contains i = true
   ·rw [if_pos he] at hst
    cases hwn : wantedA ops.toList o.guard f with
    | none => simp [hwn] at hst
    | some b =>
     rw [wanted_eq hf ops o hwn]
     cases b with
     | true =>
      simp only [hwn] at hst
      simp only [if_true]
      exact step_sound FOk.wide hd hle hw hf hst (fun ρ' f' h' a' w' hle' hw' hf' hn => anyG_sound hok m _ f' h' ρ' a' w' hle' hw' hf' hn)
       (fun ρ' f' h' a' w' ch hle' hw' hf' hch hE => ⟨ρ', .panic, f', h', hch, hw', hf', hle', hE⟩)
     | false =>
      simp only [hwn] at hst
      simp only [Bool.false_eq_true, if_false]
      exact ⟨fun _ _ => trivial, anyG_sound hok m _ _ h ρ _ w hle hw (hf.put (tuple0_rel _) o.dst hd) hst⟩
   ·rw [if_neg he] at hst
    obtain ⟨v, hy, hrest⟩ := hst
    rcases hy with ⟨hwn, hs⟩ | ⟨hwn, rfl⟩
    ·rw [wanted_eq hf ops o hwn]
     simp only [if_true]
     refine step_sound FOk.wide (next := fun f' h' => f' = f.put o.dst v ∧ h' = h) (exc := fun _ _ => False) hd hle hw hf ?_ (fun ρ' f' h' a' w' hle' hw' hf' hn => ?_) (fun _ _ _ _ _ _ _ _ _ _ he => he.elim)
     ·unfold stepA
      rcases hs with hs | ⟨g, args, hs, hp⟩
      ·rw [hs]; exact ⟨rfl, rfl⟩
      ·rw [hs]
       exact hp.e.mono (fun r h' ⟨e1, e2⟩ => ⟨by rw [e1], e2⟩) fun _ h => h
     ·obtain ⟨rfl, rfl⟩ := hn
      exact anyG_sound hok m _ _ _ ρ' a' w' hle' hw' hf' hrest
    ·rw [wanted_eq hf ops o hwn]
     simp only [Bool.false_eq_true, if_false]
     exact ⟨fun _ _ => trivial, anyG_sound hok m _ _ h ρ _ w hle hw (hf.put (tuple0_rel _) o.dst hd) hrest⟩
section
variable {P : Program} {ops : Array Oper} {es : List Nat} {K E : AFrame → AHeap → Prop}
theorem listed_grow {listed : Array Bool} {i e : Nat} (h : listed.getD e true = true) : (listed.setIfInBounds i true).getD e true = true := by
 by_cases hie : i = e
 ·subst hie
  by_cases hlt : i < listed.size
  ·simp [hlt]
  ·simp [hlt]
 ·rw [getD_set_ne true hie]; exact h
end
class Et where
 exc : AFrame → AHeap → Prop
section
variable {P : Program} {ol l : List Oper} {es : List Nat} {k : Nat} {K : Kt} {f : AFrame} {h : AHeap} {d : Option Tmp} {ty : TypeId} {pos : String} {aft : Array Edge} {op : Op} {g : Option (Nat × Bool)}
def idleOp : Op → Bool
 | .move _ | .assign _ | .pick .. | .build .. | .load .. | .nilCheck _ | .binOp .. | .unOp .. | .makeInterface .. | .makeFunc .. | .slice .. | .fieldAddr .. | .field .. | .indexAddr .. | .index .. | .lookup .. | .entry _ | .typeAssert .. | .extract .. => true
 | .convert s d _ => s != d
 | .call ⟨.builtin .len, _, _⟩ | .call ⟨.builtin .min, _, _⟩ | .call ⟨.builtin .max, _, _⟩ => true
 | _ => false
theorem justV_cases {x : Option V} {h : AHeap} {s : Step} (hj : justV x h = some s) : ∃ v, s = .val v h := by
 unfold justV at hj
 split at hj
 ·simp at hj; exact ⟨_, hj.symm⟩
 ·cases hj
theorem idle_val {o : Oper} (hi : idleOp o.op = true) {ev : Operand → V} {s : Step} (he : opEval P o ev h = some s) : ∃ v, s = .val v h := by
 obtain ⟨dst, op, type, pos, after, guard⟩ := o
 unfold opEval at he
 cases op <;> simp [idleOp] at hi <;> simp only at he
 case move x => simp at he; exact ⟨_, he.symm⟩
 case assign x => simp at he; exact ⟨_, he.symm⟩
 case pick c a b => split at he <;> simp at he; exact ⟨_, he.symm⟩
 case nilCheck x => split at he <;> simp at he <;> exact ⟨_, he.symm⟩
 case makeInterface t x => split at he <;> simp at he; exact ⟨_, he.symm⟩
 case makeFunc fn xs ys => cases fn <;> simp at he; exact ⟨_, he.symm⟩
 case extract t k => split at he <;> first | exact justV_cases he | simp at he
 case convert a b x =>
  cases hc : aConv P a b (ev x) h with
  | some v =>
   rw [hc] at he
   exact ⟨v, (Option.some.inj he).symm⟩
  | none =>
   rw [hc] at he
   have : aConvM P a b (ev x) h = none := by
    unfold aConvM
    split
    ·rw [if_neg (fun e => hi e.1)]
    ·rfl
   rw [this] at he
   cases he
 case call c =>
  have hb : c.callee = .builtin .len ∨ c.callee = .builtin .min ∨ c.callee = .builtin .max := by
   split at hi <;> simp_all
  have hbi : ∀ b, c.callee = .builtin b → (b = .len ∨ b = .min ∨ b = .max) → ∃ v, s = .val v h := fun b hb hc => by
   unfold aCall at he
   rw [hb] at he
   have he' : (match aBuiltin P b c.argTypes.toList type (constsOf c.args) (c.args.toList.map ev) h with | some (v, h') => some (Step.val v h') | none => none) = some s := by
    rcases hc with rfl | rfl | rfl <;> exact he
   cases ha : aBuiltin P b c.argTypes.toList type (constsOf c.args) (c.args.toList.map ev) h with
   | none => rw [ha] at he'; cases he'
   | some p =>
    obtain ⟨v, h'⟩ := p
    rw [ha] at he'
    simp at he'
    subst he'
    have : h' = h := by
     unfold aBuiltin at ha
     rcases hc with rfl | rfl | rfl
     ·split at ha
      ·split at ha <;> simp at ha; exact ha.2.symm
      all_goals first
       | (simp at *; done)
       | (
         split at ha
         ·split at ha <;> simp at ha; exact ha.2.symm
         ·simp at ha)
     all_goals
      split at ha
      all_goals first
       | (simp at *; done)
       | (
         split at ha
         ·split at ha <;> simp at ha; exact ha.2.symm
         ·simp at ha)
    subst this
    exact ⟨v, rfl⟩
  rcases hb with hb | hb | hb
  ·exact hbi _ hb (.inl rfl)
  ·exact hbi _ hb (.inr (.inl rfl))
  ·exact hbi _ hb (.inr (.inr rfl))
 all_goals exact justV_cases he
end
end Go.Proofs.YtfcjehlhoebmnaaGreatDoor.Ab
namespace Go.Proofs.YtfcjehlhoebmnaaGreatDoor.Ab
open Go Go.RowKit
set_option linter.unusedVariables false
section
variable {P : Program} {t e : TypeId} {x y v : V} {h : AHeap}
def bplT (P : Program) (t : TypeId) : Option (List (Nat × Nat) ⊕ Nat) :=
 match placesT P t with
 | some pl => some (.inl pl)
 | none => match arrT P t with
  | some (_, e) => (sizeT P e).map .inr
  | none => none
def buildGo (zs : Option (List V)) (b : Option (List (Nat × Nat) ⊕ Nat)) (parts : List (Nat × V)) : Option V :=
 match zs, b with
 | some zs, some (.inl pl) => (aFill (fun i => pl[i]?) zs parts).map .agg
 | some zs, some (.inr sz) => (aFill (fun i => some (i * sz, sz)) zs parts).map .agg
 | _, _ => none
theorem aBuild_go {parts : List (Nat × V)} : aBuild P t parts = buildGo (zeroC P t) (bplT P t) parts := by
 unfold aBuild buildGo bplT
 cases zeroC P t with
 | none => rfl
 | some zs =>
  cases placesT P t with
  | some pl => rfl
  | none =>
   simp only
   cases arrT P t with
   | none => rfl
   | some p =>
    obtain ⟨n, e⟩ := p
    simp only
    cases sizeT P e <;> rfl
theorem buildGo_struct {zs : List V} {pl : List (Nat × Nat)} {parts : List (Nat × V)} : buildGo (some zs) (some (.inl pl)) parts = (aFill (fun i => pl[i]?) zs parts).map .agg := nr rfl
theorem buildGo_array {zs : List V} {sz : Nat} {parts : List (Nat × V)} : buildGo (some zs) (some (.inr sz)) parts = (aFill (fun i => some (i * sz, sz)) zs parts).map .agg := nr rfl
theorem aFill_nil {place : Nat → Option (Nat × Nat)} {cs : List V} : aFill place cs [] = some cs := nr rfl
def fillGo (place : Nat → Option (Nat × Nat)) (cs : List V) (p : Option (Nat × Nat)) (vs : Option (List V)) (r : List (Nat × V)) : Option (List V) :=
 match p, vs with
 | some (off, size), some vs => if vs.length = size ∧ off + size ≤ cs.length then aFill place (setAll cs off vs) r else none
 | _, _ => none
theorem aFill_cons {place : Nat → Option (Nat × Nat)} {cs : List V} {i : Nat} {r : List (Nat × V)} : aFill place cs ((i, v) :: r) = fillGo place cs (place i) v.cells r := by
 show (match place i, v.cells with | some (off, size), some vs => _ | _, _ => none) = _
 unfold fillGo
 rfl
theorem fillGo_some {place : Nat → Option (Nat × Nat)} {cs vs : List V} {off size : Nat} {r : List (Nat × V)} : fillGo place cs (some (off, size)) (some vs) r = if vs.length = size ∧ off + size ≤ cs.length then aFill place (setAll cs off vs) r else none := nr rfl
def partT (P : Program) (t : TypeId) (k : Nat) : Option (Nat × Option Nat) :=
 match P.underlying t with
 | some (.struct fs) => match fs[k]? with
  | some f => match rowT P f.type, sizeT P f.type with
   | some true, some n => some (f.offset, some n)
   | some false, some _ => some (f.offset, none)
   | _, _ => none
  | none => none
 | _ => none
def partGo (p : Option (Nat × Option Nat)) (x : V) : Option V :=
 match p, x with
 | some (off, some n), .agg cs => some (.agg ((cs.drop off).take n))
 | some (off, none), .agg cs => cs[off]?
 | _, _ => none
theorem aFieldOf_eq {k : Nat} : aFieldOf P t x k = partGo (partT P t k) x := by
 unfold aFieldOf partGo partT
 cases P.underlying t with
 | none => rfl
 | some d =>
  cases d <;> try rfl
  rename_i fs
  cases hk : fs[k]? with
  | none => cases x <;> simp [hk]
  | some f =>
   cases hr : rowT P f.type with
   | none => cases x <;> simp [hk, hr, aPart]
   | some b => cases b <;> cases hz : sizeT P f.type <;> cases x <;> simp [hk, hr, hz, aPart]
theorem partGo_row {off n : Nat} {cs : List V} : partGo (some (off, some n)) (.agg cs) = some (.agg ((cs.drop off).take n)) := nr rfl
theorem partGo_one {off : Nat} {cs : List V} : partGo (some (off, none)) (.agg cs) = cs[off]? := nr rfl
theorem slSz_eq {sz : Nat} (h : slSz P t = some sz) : ∃ e, P.underlying t = some (.slice e) ∧ sizeT P e = some sz := by
 unfold slSz at h
 split at h
 ·rename_i e hu; exact ⟨e, hu, h⟩
 ·cases h
theorem slice_imm {sz n : Nat} {cs : List V} {lo hi : Option V} {l m : Nat} (hs : slSz P t = some sz) (h1 : loOf lo = some l) (h2 : hiOf n hi = some m) (hl : l ≤ m) (hm : m ≤ n) (hc : cs.length = n * sz) :
  aSlice P t (.imm n cs) lo hi none = some (.imm (m - l) ((cs.drop (l * sz)).take ((m - l) * sz))) := by
 obtain ⟨e, hu, he⟩ := slSz_eq hs
 unfold aSlice
 have h3 : hiOf n (none : Option V) = some n := rfl
 simp only [hu, he, h1, h2, h3]
 have : l * sz ≤ cs.length := by rw [hc]; exact Nat.mul_le_mul_right _ (by omega)
 simp [cutImm, hl, hm, this]
theorem slice_imm_lo {sz n : Nat} {cs : List V} {k : IntKind} {l : Int} (hs : slSz P t = some sz) (h0 : 0 ≤ l) (hl : l ≤ n) (hc : cs.length = n * sz) :
  aSlice P t (.imm n cs) (some (.int k l)) none none = some (.imm (n - l.toNat) (cs.drop (l.toNat * sz))) := by
 rw [slice_imm hs (l := l.toNat) (m := n) (by simp [loOf, natOf, h0]) rfl (by omega) (Nat.le_refl _) hc]
 rw [List.take_of_length_le]
 rw [List.length_drop, hc, Nat.sub_mul]
 first | done | exact Nat.le_refl _
theorem slice_imm_hi {sz n : Nat} {cs : List V} {k : IntKind} {m : Int} (hs : slSz P t = some sz) (h0 : 0 ≤ m) (hm : m ≤ n) (hc : cs.length = n * sz) :
  aSlice P t (.imm n cs) none (some (.int k m)) none = some (.imm m.toNat (cs.take (m.toNat * sz))) := by
 rw [slice_imm hs (l := 0) (m := m.toNat) rfl (by simp [hiOf, natOf, h0]) (Nat.zero_le _) (by omega) hc]
 simp
theorem index_imm {sz n : Nat} {cs : List V} {k : IntKind} {i : Int} (hs : slSz P t = some sz) (h0 : 0 ≤ i) (hi : i < n) (hc : cs.length = n * sz) :
  aIndexAddr P t (.imm n cs) (.int k i) = some (.at (cs.drop (i.toNat * sz))) := by
 rw [aIndexAddr_eq, hs, ixGo_imm, if_pos ⟨h0, hi, by rw [hc]; exact Nat.mul_le_mul_right _ (by omega)⟩]
def bsGo (T : Option SlT) (len : Nat) (parts : List (Nat × V)) (h : AHeap) : Option (V × AHeap) :=
 match T with
 | some T => if len * T.sz ≤ 2 ^ 24 ∧ len ≤ 2 ^ 24 then (aFill (fun i => some (i * T.sz, T.sz)) (made T.zs len) parts).map fun cells => (.sl h.n 0 len len, h.push (.cells cells T.e none)) else none
 | none => none
theorem buildSlice_go {len : Nat} {parts : List (Nat × V)} {T : SlT} (hT : slT P t = some T) : aBuildSlice P t len parts h = bsGo (some T) len parts h := by
 obtain ⟨he, hz, hsz, hbs, hzs, _⟩ := slT_eq hT
 unfold aBuildSlice bsGo
 simp only [he, hsz, hz, hzs, true_and]
 split
 ·cases aFill (fun i => some (i * T.sz, T.sz)) (made T.zs len) parts <;> rfl
 ·rfl
theorem make_go {T : SlT} {l c : Nat} {k k' : IntKind} (hT : slT P t = some T) (hl : l ≤ c) (h1 : T.bs * c ≤ 140737488355328) (h2 : c ≤ 140737488355328) :
  aMake P t (.int k (l : Int)) (.int k' (c : Int)) h = some (.sl h.n 0 l c, h.push (.cells (made T.zs c) T.e none)) := by
 obtain ⟨he, hz, hsz, hbs, hzs, _⟩ := slT_eq hT
 unfold aMake
 simp [he, natOf, hz, hbs, hsz, hzs, hl, h1, h2]
theorem copy_new {T : SlT} {tx : TypeId} {i cap n : Nat} {c cs : List V} {src : V} {h : AHeap} (hT : slT P t = some T) (hg : h.get i = .cells c T.e none) (hs : aLenOf src = some n) (hf : aFirst T.sz n src h = some cs)
  (hone : cs.all (·.one) = true) (hfit : cs.length ≤ c.length) :
  ∃ h', aCopy P t (.sl i 0 n cap) src h = some (.int .i64 n, h') ∧ h' = h.set i (.cells (lay c 0 cs) T.e none) := by
 obtain ⟨he, hz, hsz, hbs, hzs, _⟩ := slT_eq hT
 have hmin : Nat.min n n = n := Nat.min_self _
 unfold aCopy
 simp only [he, hsz, hs, hmin, hf]
 by_cases h0 : n = 0
 ·subst h0
  have hcs : cs = [] := by
   have := (aFirst_len hf)
   simpa using this
  subst hcs
  refine ⟨h, by simp, ?_⟩
  rw [show lay c 0 [] = c by simp [lay]]
  exact (set_self hg).symm
 ·rw [if_neg h0]
  simp only [hg, Nat.zero_add]
  rw [if_pos ⟨hfit, hone⟩]
  exact ⟨_, rfl, rfl⟩
where
 aFirst_len {sz n : Nat} {x : V} {h : AHeap} {vs : List V} (hs : aFirst sz n x h = some vs) : vs.length = n * sz := by
  unfold aFirst at hs
  split at hs
  ·split at hs
   ·rename_i h0; simp at hs; subst hs; simp [h0]
   ·cases hs
  ·split at hs
   ·rename_i h0; simp at hs; subst hs; simp [h0]
   ·cases hs
  ·split at hs
   ·split at hs
    ·simp at hs; subst hs; simp; omega
    ·cases hs
   ·cases hs
  ·split at hs
   ·simp at hs; subst hs; simp; omega
   ·cases hs
  ·split at hs
   ·rename_i hc; simp at hs; subst hs
    have := byteCells_length
    rw [List.length_take, List.length_map, this]
    rw [hc.1]; omega
   ·cases hs
  ·cases hs
end
theorem SCallsE.args {P : Program} {fid : FuncId} {args args2 : List V} {h h2 : AHeap} {R : V → AHeap → Prop} {E : AHeap → Prop} (hc : CastL args h args2 h2) (hs : SCallsE P fid args2 h2 R E) : SCallsE P fid args h R E := by
 intro ρ B w0 w args' hw ha
 obtain ⟨ρ1, l1, w1, a1⟩ := hc ρ B w0 w _ hw ha
 refine (hs ρ1 B w0 w args' w1 a1).mono fun e w' hh => ?_
 rcases hh with ⟨ρ', r, r', h', he, hr, hw', hle, hR⟩ | ⟨ρ', ch, h', he, hch, hw', hle, hE⟩
 ·exact .inl ⟨ρ', r, r', h', he, hr, hw', l1.trans hle, hR⟩
 ·exact .inr ⟨ρ', ch, h', he, hch, hw', l1.trans hle, hE⟩
theorem SCalls.args {P : Program} {fid : FuncId} {args args2 : List V} {h h2 : AHeap} {R : V → AHeap → Prop} (hc : CastL args h args2 h2) (hs : SCalls P fid args2 h2 R) : SCalls P fid args h R := SCallsE.args hc hs
theorem Cast.lit {h : AHeap} {c : List V} {e : TypeId} {n sz : Nat} (hc : c.length = n * sz) (hn : n < unk) (hsz : 0 < sz) : ∃ h2, Cast (.sl h.n 0 n n) (h.push (.cells c e none)) (.imm n c) h2 ∧ Keep h h2 none_ := by
 have ho := Own.fresh (h := h) (e := e) c n n hc (Nat.le_refl _) hn
 rw [← hc, List.take_length] at ho
 obtain ⟨h2, h3, h4⟩ := Cast.own ho hc hsz
 exact ⟨h2, h3, (Keep.push h _ none_).trans h4 fun k hk hid => by simp [isId, idOf] at hid; omega⟩
end Go.Proofs.YtfcjehlhoebmnaaGreatDoor.Ab
namespace Go.Proofs.YtfcjehlhoebmnaaGreatDoor.Ab
open Go Go.RowKit
set_option linter.unusedVariables false
variable {P : Program} {t : TypeId} {T : SlT}
theorem loOf_int {k : IntKind} {n : Nat} : loOf (some (.int k (n : Int))) = some n := by simp [loOf, natOf]
theorem hiOf_int {k : IntKind} {l n : Nat} : hiOf l (some (.int k (n : Int))) = some n := by simp [hiOf, natOf]
theorem own_elem {kk : IntKind} (hs : slSz P t = some 1) {h : AHeap} {e : TypeId} {v : V} {cs : List V} (ho : Own h e 1 v cs) {k : Nat} (hk : k < cs.length) :
  ∃ i, aIndexAddr P t v (.int kk (k : Int)) = some (.ptr i k) ∧ idOf v = some i ∧ (∃ r, dropC (h.get i) k = some (cs[k] :: r)) ∧
   ∀ x, x.one = true → ∃ ob, setC (some 1) (h.get i) k [x] = some ob ∧ Own (h.set i ob) e 1 v (cs.set k x) ∧ Keep h (h.set i ob) (isId v) := by
 rcases ho with ⟨_, rfl⟩ | ⟨i, len, cap, c, ex, rfl, hi, hg, hlen, htake, hcap⟩
 ·simp at hk
 ·simp only [Nat.mul_one] at hlen htake hcap
  have hcl : len ≤ c.length := by
   have := congrArg List.length htake
   rw [List.length_take, hlen] at this
   omega
  have hget : cs[k]? = c[k]? := by rw [← htake, List.getElem?_take, if_pos (by omega)]
  have hck : k < c.length := by omega
  have hel : cs[k] = c[k] := by
   rw [List.getElem?_eq_getElem hk, List.getElem?_eq_getElem hck] at hget
   exact Option.some.inj hget
  refine ⟨i, ?_, rfl, ⟨c.drop (k + 1), ?_⟩, fun x ho => ?_⟩
  ·rw [aIndexAddr_eq, hs, ixGo_sl, if_pos ⟨by omega, by omega⟩]
   simp
  ·rw [hg, dropC_cells, if_pos (by omega), List.drop_eq_getElem_cons hck, hel]
  ·refine ⟨.cells (c.set k x) e ex, ?_, .inr ⟨i, len, cap, c.set k x, ex, rfl, hi, by simp [AHeap.set], by simp [hlen], ?_, ?_⟩, (Keep.set h i _).mono fun k hk => by subst hk; rfl⟩
   ·rw [hg, setC_one ho, if_pos hck]
   ·rw [Nat.mul_one, ← htake, List.take_set]
   ·simpa using hcap
end Go.Proofs.YtfcjehlhoebmnaaGreatDoor.Ab
namespace Go.Proofs.YtfcjehlhoebmnaaGreatDoor.Ab
open Go Go.RowKit
set_option linter.unusedVariables false
inductive Sh where
 | bool | int (k : IntKind) | str | sl (s : Sh) | unit | cat (a b : Sh)
def Sh.width : Sh → Nat
 | .unit => 0
 | .cat a b => a.width + b.width
 | _ => 1
def Sh.fits : Sh → List V → Prop
 | .bool, l => ∃ b, l = [.bool b]
 | .int k, l => ∃ n, l = [.int k n] ∧ (Lit.int k n).wf = true
 | .str, l => ∃ s, l = [.string s]
 | .sl s, l => ∃ es : List (List V), l = [.imm es.length es.flatten] ∧ ∀ e ∈ es, s.fits e
 | .unit, l => l = []
 | .cat a b, l => ∃ l1 l2, l = l1 ++ l2 ∧ a.fits l1 ∧ b.fits l2
def shFields (P : Program) (g : TypeId → Option Sh) : Nat → List Field → Option Sh
 | _, [] => some .unit
 | o, f :: fs =>
  if f.offset = o then
   match g f.type, shFields P g (o + P.cellsOf f.type) fs with
   | some s, some r => if s.width = P.cellsOf f.type then some (.cat s r) else none
   | _, _ => none
  else none
theorem pick_all {α : Type} {Pr : Nat → α → Prop} : ∀ (n : Nat), (∀ i, i < n → ∃ e, Pr i e) → ∃ es : List α, es.length = n ∧ ∀ i e, es[i]? = some e → Pr i e
 | 0, _ => ⟨[], rfl, by simp⟩
 | n + 1, h => by
  obtain ⟨es, h1, h2⟩ := pick_all n fun i hi => h i (by omega)
  obtain ⟨e, he⟩ := h n (by omega)
  refine ⟨es ++ [e], by simp [h1], fun i x hx => ?_⟩
  by_cases hi : i < es.length
  ·rw [List.getElem?_append_left hi] at hx; exact h2 i x hx
  ·rw [List.getElem?_append_right (by omega)] at hx
   have : i - es.length = 0 := by
    have := (List.getElem?_eq_some_iff.1 hx).1
    simp at this; omega
   rw [this] at hx
   simp at hx
   subst hx
   rw [show i = n by omega]
   exact he
theorem flatten_get {α : Type} {sz : Nat} (hpos : 0 < sz) : ∀ {es : List (List α)} {k : Nat} {v : α}, (∀ e ∈ es, e.length = sz) → es.flatten[k]? = some v → ∃ e, es[k / sz]? = some e ∧ e[k % sz]? = some v
 | [], k, v, _, h => by simp at h
 | e :: es, k, v, hl, h => by
  have he := hl e (by simp)
  rw [List.flatten_cons] at h
  by_cases hk : k < sz
  ·rw [List.getElem?_append_left (by omega)] at h
   exact ⟨e, by rw [Nat.div_eq_of_lt hk]; rfl, by rw [Nat.mod_eq_of_lt hk]; exact h⟩
  ·rw [List.getElem?_append_right (by omega), he] at h
   obtain ⟨x, h1, h2⟩ := flatten_get hpos (fun e h => hl e (by simp [h])) h
   refine ⟨x, ?_, ?_⟩
   ·rw [show k / sz = (k - sz) / sz + 1 by rw [Nat.div_eq_sub_div hpos (by omega)]]
    simpa using h1
   ·rw [Nat.mod_eq_sub_mod (by omega)]; exact h2
theorem flatten_len {α : Type} {sz : Nat} : ∀ {es : List (List α)}, (∀ e ∈ es, e.length = sz) → es.flatten.length = es.length * sz
 | [], _ => by simp
 | e :: es, h => by
  rw [List.flatten_cons, List.length_append, h e (by simp), flatten_len fun e he => h e (by simp [he]), List.length_cons, Nat.add_mul]
  omega
section
variable {H : Type} {enc : TypeId × Value → H} {P : Program} {w : World} {base : Nat} {spare : Nat → Bool} {held : Bool}
theorem cells_get {a : Addr} {n : Nat} {cs : List Value} (h : w.cells? base a n = some cs) : cs.length = n ∧ ∀ j, j < n → w.cell? (a.add j) = cs[j]? := by
 unfold World.cells? at h
 split at h
 case isFalse => cases h
 exact ⟨by simpa using mapM_some_length h, fun j hj => by simpa using mapM_some_get h j j (by simp [hj])⟩
end
end Go.Proofs.YtfcjehlhoebmnaaGreatDoor.Ab
namespace Go.Proofs.YtfcjehlhoebmnaaGreatDoor.Ab
open Go Go.RowKit
set_option linter.unusedVariables false
def Sh.fitsB : Sh → List V → Prop
 | .bool, l => ∃ b, l = [.bool b]
 | .int k, l => ∃ n, l = [.int k n] ∧ (Lit.int k n).wf = true
 | .str, l => ∃ s, l = [.string s]
 | .sl s, l => ∃ es : List (List V), l = [.imm es.length es.flatten] ∧ es.length < 2 ^ 47 ∧ ∀ e ∈ es, s.fitsB e
 | .unit, l => l = []
 | .cat a b, l => ∃ l1 l2, l = l1 ++ l2 ∧ a.fitsB l1 ∧ b.fitsB l2
theorem Sh.fitsB_length : ∀ {s : Sh} {l : List V}, s.fitsB l → l.length = s.width
 | .bool, _, ⟨_, h⟩ => by subst h; rfl
 | .int _, _, ⟨_, h, _⟩ => by subst h; rfl
 | .str, _, ⟨_, h⟩ => by subst h; rfl
 | .sl _, _, ⟨_, h, _⟩ => by subst h; rfl
 | .unit, _, h => by have : _ = [] := h; subst this; rfl
 | .cat a b, _, ⟨l1, l2, h, h1, h2⟩ => by subst h; rw [List.length_append, Sh.fitsB_length h1, Sh.fitsB_length h2]; rfl
def shapeOfB (P : Program) : Nat → TypeId → Option Sh
 | 0, _ => none
 | n + 1, t =>
  match P.underlying t with
  | some .bool => some .bool
  | some (.int k) => some (.int k)
  | some .string => some .str
  | some (.slice e) => match shapeOfB P n e with | some s => if s.width = P.cellsOf e ∧ 0 < s.width ∧ 1 ≤ P.bytesOf e then some (.sl s) else none | none => none
  | some (.struct fs) => match shFields P (shapeOfB P n) 0 fs.toList with | some s => if s.width = P.cellsOf t then some s else none | none => none
  | _ => none
theorem weightsAll_mem {H : Type} {P : Program} {e : TypeId} {n : Nat} : ∀ {l : List (DataW H)} {d : DataW H}, d ∈ l → n ∈ d.weights P e → n ∈ DataW.weightsAll P e l
 | [], _, h, _ => by simp at h
 | x :: l, d, h, hn => by
  simp only [DataW.weightsAll, List.mem_append]
  rcases List.mem_cons.1 h with rfl | h
  ·exact .inl hn
  ·exact .inr (weightsAll_mem h hn)
section
variable {H : Type} {enc : TypeId × Value → H} {P : Program} {w : World} {base : Nat} {spare : Nat → Bool} {held : Bool}
theorem fields_readB {g : TypeId → Option Sh} {cs : List Value} {fu : Nat} (hg : ∀ t s fuel cs x, g t = some s → DataW.trod enc P w base spare held fuel t cs = some x → (∀ n ∈ x.1.weights P t, n ≤ reachBytes) → ∃ l, s.fitsB l ∧ LRel (entryRen w) l cs) :
  ∀ (fs : List Field) (o : Nat) (s : Sh) (xs : List (DataW H × List MemPlace)), shFields P g o fs = some s → xs.length = fs.length →
   (∀ (i : Nat) (f : Field), fs[i]? = some f → DataW.trod enc P w base spare held fu f.type ((cs.drop f.offset).take (P.cellsOf f.type)) = xs[i]?) → (∀ n ∈ DataW.weightsEach P (fs.map (·.type)) (xs.map (·.1)), n ≤ reachBytes) → ∃ l, s.fitsB l ∧ LRel (entryRen w) l ((cs.drop o).take s.width)
 | [], o, s, xs, hs, _, _, _ => by
  simp [shFields] at hs
  subst hs
  exact ⟨[], rfl, by simpa [Sh.width] using LRel.nil _⟩
 | f :: fs, o, s, xs, hs, hl, hx, hb => by
  unfold shFields at hs
  split at hs
  case isFalse => cases hs
  rename_i ho
  split at hs
  case h_2 => cases hs
  rename_i s1 s2 h1 h2
  split at hs
  case isFalse => cases hs
  rename_i hw
  obtain rfl := Option.some.inj hs
  cases xs with
  | nil => simp at hl
  | cons x xs =>
   have hx0 := hx 0 f rfl
   obtain ⟨l1, f1, r1⟩ := hg _ _ _ _ _ h1 hx0 (fun n hn => hb n (by simp only [List.map_cons, DataW.weightsEach, List.mem_append]; exact .inl hn))
   obtain ⟨l2, f2, r2⟩ := fields_readB hg fs _ s2 xs h2 (by simpa using hl) (fun i f' hf => hx (i + 1) f' (by simpa using hf)) (fun n hn => hb n (by simp only [List.map_cons, DataW.weightsEach, List.mem_append]; exact .inr hn))
   refine ⟨l1 ++ l2, ⟨l1, l2, rfl, f1, f2⟩, ?_⟩
   have := r1.append r2
   rw [ho, ← hw] at this
   have e : ((cs.drop o).take s1.width) ++ ((cs.drop (o + s1.width)).take s2.width) = (cs.drop o).take (s1.width + s2.width) := by
    rw [List.take_add, List.drop_drop]
   rw [e] at this
   exact this
theorem readsB : ∀ (n : Nat) (t : TypeId) (s : Sh) (fuel : Nat) (cs : List Value) (x : DataW H × List MemPlace), shapeOfB P n t = some s → DataW.trod enc P w base spare held fuel t cs = some x → (∀ n ∈ x.1.weights P t, n ≤ reachBytes) → ∃ l, s.fitsB l ∧ LRel (entryRen w) l cs
 | 0, _, _, _, _, _, hs, _, _ => by simp [shapeOfB] at hs
 | n + 1, t, s, fuel, cs, x, hs, h, hB => by
  unfold shapeOfB at hs
  split at hs
  ·rename_i hu
   obtain rfl := Option.some.inj hs
   obtain ⟨b, rfl, _⟩ := DataW.trod_bool hu h
   exact ⟨[.bool b], ⟨b, rfl⟩, .cons (.bool b) (.nil _)⟩
  ·rename_i k hu
   obtain rfl := Option.some.inj hs
   obtain ⟨m, rfl, _, hw⟩ := DataW.trod_int hu h
   exact ⟨[.int k m], ⟨m, rfl, hw⟩, .cons (.int k m) (.nil _)⟩
  ·rename_i hu
   obtain rfl := Option.some.inj hs
   obtain ⟨b, rfl, _⟩ := DataW.trod_string hu h
   exact ⟨[.string b], ⟨b, rfl⟩, .cons (.string b) (.nil _)⟩
  ·rename_i e hu
   split at hs
   case h_2 => cases hs
   rename_i s1 hs1
   split at hs
   case isFalse => cases hs
   rename_i hw
   obtain rfl := Option.some.inj hs
   rcases DataW.trod_slice hu h with ⟨rfl, _⟩ | ⟨a, len, cap, elems, rest, m, _, rfl, hxx, _, hlc, _, hel, hget, _⟩
   ·exact ⟨[.imm 0 []], ⟨[], rfl, by decide, by simp⟩, .cons (.immZ none 0 (by simp)) (.nil _)⟩
   ·rcases Nat.eq_zero_or_pos len with h0 | hpos
    ·subst h0
     exact ⟨[.imm 0 []], ⟨[], rfl, by decide, by simp⟩, .cons (.immZ (some a) cap (by simp)) (.nil _)⟩
    ·have each : ∀ i, i < len → ∃ l : List V, s1.fitsB l ∧ ∃ ci : List Value, LRel (entryRen w) l ci ∧ ∀ j, j < s1.width → w.cell? ((a.add (i * s1.width)).add j) = ci[j]? ∧ j < ci.length := fun i hi => by
      have h1 := hget i hi
      have h2 : ∃ y, elems[i]? = some y := ⟨_, List.getElem?_eq_getElem (by omega)⟩
      obtain ⟨y, hy⟩ := h2
      rw [hy, Option.bind_eq_some_iff] at h1
      obtain ⟨ci, hc1, hc2⟩ := h1
      obtain ⟨l, f1, r1⟩ := readsB n e s1 m ci y hs1 hc2 (fun n hn => hB n (by
       rw [hxx]
       simp only [DataW.weights, hu]
       exact List.mem_cons_of_mem _ (List.mem_append_left _ (weightsAll_mem (List.mem_map.2 ⟨y, List.mem_of_getElem? hy, rfl⟩) hn))))
      rw [← hw.1] at hc1
      obtain ⟨g1, g2⟩ := cells_get hc1
      exact ⟨l, f1, ci, r1, fun j hj => ⟨g2 j hj, by omega⟩⟩
     obtain ⟨es, hes1, hes2⟩ := pick_all len each
     have hmem : ∀ e ∈ es, s1.fitsB e := fun e he => by
      obtain ⟨i, hi⟩ := List.getElem?_of_mem he
      exact (hes2 i e hi).1
     have hlen : ∀ e ∈ es, e.length = s1.width := fun e he => Sh.fitsB_length (hmem e he)
     obtain ⟨b, off, sp⟩ := a
     have c0 : ∃ v, w.cell? ⟨b, off, sp⟩ = some v := by
      obtain ⟨_, ci, _, hc⟩ := (hes2 0 es[0] (List.getElem?_eq_getElem (by omega)))
      obtain ⟨q1, q2⟩ := hc 0 hw.2.1
      rw [Nat.zero_mul] at q1
      simp only [Addr.add, if_true] at q1
      exact ⟨_, q1.trans (List.getElem?_eq_getElem q2)⟩
     obtain ⟨v0, hv0⟩ := c0
     have hb : ∃ arr et fz, w.heap[b]? = some (.cells arr et fz) ∧ sp = none := by
      unfold World.cell? at hv0
      split at hv0
      ·rename_i c et fz hq
       refine ⟨c, et, fz, hq, ?_⟩
       cases sp with
       | none => rfl
       | some _ => simp at hv0
      ·cases hv0
     obtain ⟨arr, et, fz, hb, rfl⟩ := hb
     have hcell : ∀ m, w.cell? (Addr.add ⟨b, off, none⟩ m) = arr[off + m]? := fun m => by
      rw [Addr.add_mid]
      simp [World.cell?, hb]
     have hat : ∀ i j, j < s1.width → w.cell? ((Addr.add ⟨b, off, none⟩ (i * s1.width)).add j) = arr[off + (i * s1.width + j)]? := fun i j _ => by
      rw [Addr.add_mid, Addr.add_mid]
      simp [World.cell?, hb, Nat.add_assoc]
     have hsz : es.length < 2 ^ 47 := by
      have h0 := hB ((elems.length + rest.length) * P.bytesOf e) (by rw [hxx]; simp [DataW.weights, hu])
      have h1 := Nat.le_trans (Nat.le_mul_of_pos_right _ hw.2.2) h0
      have h2 := reachBytes_lt
      omega
     refine ⟨[.imm es.length es.flatten], ⟨es, rfl, hsz, hmem⟩, .cons ?_ (.nil _)⟩
     rw [hes1]
     refine .imm off len cap (entry_frz hb) hlc ?_ fun k v v' h1 h2 => ?_
     ·rw [flatten_len hlen, hes1]
      obtain ⟨_, ci, _, hc⟩ := (hes2 (len - 1) es[len - 1] (List.getElem?_eq_getElem (by omega)))
      obtain ⟨q1, q2⟩ := hc (s1.width - 1) (by omega)
      rw [hat _ _ (by omega), List.getElem?_eq_getElem q2] at q1
      have q3 := (Array.getElem?_eq_some_iff.1 q1).1
      have : (len - 1) * s1.width + s1.width = len * s1.width := by
       rw [← Nat.succ_mul]; congr 1; omega
      omega
     ·obtain ⟨e1, g1, g2⟩ := flatten_get hw.2.1 hlen h1
      obtain ⟨_, ci, hr, hc⟩ := hes2 _ e1 g1
      have hj : k % s1.width < s1.width := Nat.mod_lt _ hw.2.1
      obtain ⟨q1, q2⟩ := hc _ hj
      rw [hat _ _ hj, show k / s1.width * s1.width + k % s1.width = k by rw [Nat.mul_comm]; exact Nat.div_add_mod k s1.width, h2] at q1
      exact hr.2 _ _ _ g2 q1.symm
  ·rename_i fs hu
   split at hs
   case h_2 => cases hs
   rename_i s1 hs1
   split at hs
   case isFalse => cases hs
   rename_i hw
   obtain rfl := Option.some.inj hs
   obtain ⟨xs, m, _, hxx, hcl, hxl, hx⟩ := DataW.trod_struct hu h
   obtain ⟨l, f1, r1⟩ := fields_readB (fu := m) (fun t s fuel cs x h1 h2 h3 => readsB n t s fuel cs x h1 h2 h3) fs.toList 0 s1 xs hs1 (by simpa using hxl) (fun i f hf => hx i f (by simpa using hf)) (fun n hn => hB n (by rw [hxx]; simp only [DataW.weights, hu]; exact hn))
   rw [List.drop_zero, hw, ← hcl, List.take_length] at r1
   exact ⟨l, f1, r1⟩
  ·cases hs
theorem arg_sliceB {n : Nat} {t e : TypeId} {s : Sh} {a : Option Addr} {len cap : Nat} {d : DataW H} {ps : List MemPlace} (hu : P.underlying t = some (.slice e)) (hs : shapeOfB P n e = some s) (hw : s.width = P.cellsOf e ∧ 0 < s.width ∧ 1 ≤ P.bytesOf e) (hB : ∀ n ∈ d.weights P t, n ≤ reachBytes)
  (h : DataW.Trod enc P w base spare held t (.slice a len cap) d ps) :
  ∃ es : List (List V), (∀ x ∈ es, s.fitsB x) ∧ VRel (entryRen w) (.imm es.length es.flatten) (.slice a len cap) ∧ es.length < 2 ^ 47 := by
 obtain ⟨fuel, hf⟩ := h
 obtain ⟨l, ⟨es, rfl, hn, hes⟩, hr⟩ := readsB (n + 1) t (.sl s) fuel _ _ (by simp only [shapeOfB, hu, hs, if_pos hw]) hf hB
 exact ⟨es, hes, hr.2 0 _ _ rfl rfl, hn⟩
end
end Go.Proofs.YtfcjehlhoebmnaaGreatDoor.Ab
namespace Go.Proofs.YtfcjehlhoebmnaaGreatDoor.Ab
open Go Go.RowKit
set_option linter.unusedVariables false
mutual
def V.mass : V → Nat
 | .string s => s.size + 1
 | .imm _ cs => massL cs + 1
 | _ => 1
def massL : List V → Nat
 | [] => 0
 | v :: r => v.mass + massL r
end
theorem mass_pos (v : V) : 1 ≤ v.mass := by cases v <;> simp [V.mass]
def sumB {α : Type} (b : α → Nat) : List α → Nat
 | [] => 0
 | x :: r => b x + sumB b r
structure IsBulk {H : Type} (b : DataW H → Nat) : Prop where
 lit : ∀ l, 1 ≤ b (.lit l)
 str : ∀ bs : List UInt8, bs.length + 1 ≤ b (.lit (.string bs))
 nil : 1 ≤ b .nil
 slice : ∀ es sp, sumB b es + 1 ≤ b (.slice es sp)
 agg : ∀ ps, sumB b ps + 1 ≤ b (.agg ps)
section
variable {H : Type} {bu : DataW H → Nat} (hbu : IsBulk bu)
include hbu
variable {enc : TypeId × Value → H} {P : Program} {w : World} {base : Nat} {spare : Nat → Bool} {held : Bool}
end
end Go.Proofs.YtfcjehlhoebmnaaGreatDoor.Ab
namespace Go.Proofs.YtfcjehlhoebmnaaGreatDoor.Ab
open Go Go.RowKit
set_option linter.unusedVariables false
section
variable {H : Type} {enc : TypeId × Value → H} {P : Program} {w : World} {base : Nat} {spare : Nat → Bool} {held : Bool}
end
theorem Acc.step {h0 h h' : AHeap} {e : TypeId} {sz : Nat} {s r : V} {cs cs' : List V} (a : Acc h0 h e sz s cs) (o : Own h' e sz r cs') (k : Keep h h' (isId s)) (d : NewOr h s r) : Acc h0 h' e sz r cs' :=
 ⟨o, a.keep.trans k fun j hj hi => by have := a.new j hi; omega, fun j hj => by
  rcases d with d | d
  ·exact a.new j (d ▸ hj)
  ·exact Nat.le_trans a.keep.n (d j hj)⟩
theorem Acc.conv {h0 h : AHeap} {e : TypeId} {sz : Nat} {s : V} {cs cs' : List V} (a : Acc h0 h e sz s cs) (hc : cs = cs') : Acc h0 h e sz s cs' := hc ▸ a
theorem Pure.acc {P : Program} {fid : FuncId} {args : List V} {h : AHeap} {e : TypeId} {sz n : Nat} {cs : List V} (hclo : CloL cs) (hn : cs.length = n * sz) (hsz : 0 < sz)
  (hc : SCalls P fid args h fun r h' => Acc h h' e sz r cs) : Pure P fid args h (.imm n cs) :=
 Pure.of (Clo.imm hclo) (hc.mono fun r h' a => a.cast hn hsz)
section
variable {P : Program} {f : AFrame} {h : AHeap}
theorem resultA_tmp {t : Tmp} : resultA P f h (.tmp t) = some (f t) := rfl
theorem resultA_cell {a : Tmp} {t : TypeId} : resultA P f h (.cell a t) = aLoad P t (f a) h := rfl
def res2 (x y : Option V) : Option V := match x, y with | some a, some b => some (.tuple [a, b]) | _, _ => none
def res3 (x y z : Option V) : Option V := match x, y, z with | some a, some b, some c => some (.tuple [a, b, c]) | _, _, _ => none
theorem res2_some {a b : V} : res2 (some a) (some b) = some (.tuple [a, b]) := rfl
theorem res3_some {a b c : V} : res3 (some a) (some b) (some c) = some (.tuple [a, b, c]) := rfl
theorem resultsC_1 {r : ResultVar} : resultsA P [r] f h = resultA P f h r := rfl
theorem resultsC_2 {r s : ResultVar} : resultsA P [r, s] f h = res2 (resultA P f h r) (resultA P f h s) := by
 cases hr : resultA P f h r <;> cases hs : resultA P f h s <;> simp [resultsA, res2, hr, hs]
theorem resultsC_3 {r s t : ResultVar} : resultsA P [r, s, t] f h = res3 (resultA P f h r) (resultA P f h s) (resultA P f h t) := by
 cases hr : resultA P f h r <;> cases hs : resultA P f h s <;> cases ht : resultA P f h t <;> simp [resultsA, res3, hr, hs, ht]
end
end Go.Proofs.YtfcjehlhoebmnaaGreatDoor.Ab
namespace Go.Proofs.YtfcjehlhoebmnaaGreatDoor.Ab
open Go Go.RowKit
set_option linter.unusedVariables false
def i64V (l : List Int) : List V := l.map (V.int .i64)
def boolsV (l : List Bool) : List V := l.map V.bool
theorem i64V_length (l : List Int) : (i64V l).length = l.length := by simp [i64V]
theorem boolsV_length (l : List Bool) : (boolsV l).length = l.length := by simp [boolsV]
theorem i64V_clo (l : List Int) : CloL (i64V l) := CloL.map fun _ _ => Clo.int _ _
theorem i64V_append (a b : List Int) : i64V (a ++ b) = i64V a ++ i64V b := by simp [i64V]
theorem i64V_get {l : List Int} {k : Nat} (hk : k < l.length) : (i64V l)[k]'(by rw [i64V_length]; exact hk) = .int .i64 l[k] := by simp [i64V]
theorem i64V_set (l : List Int) (k : Nat) (x : Int) : (i64V l).set k (.int .i64 x) = i64V (l.set k x) := by simp [i64V, List.map_set]
theorem boolsV_get {l : List Bool} {k : Nat} (hk : k < l.length) : (boolsV l)[k]'(by rw [boolsV_length]; exact hk) = .bool l[k] := by simp [boolsV]
theorem boolsV_set (l : List Bool) (k : Nat) (x : Bool) : (boolsV l).set k (.bool x) = boolsV (l.set k x) := by simp [boolsV, List.map_set]
theorem row_ix {P : Program} {α : Type} (f : α → V) {l : List α} {k : Nat} (hk : k < l.length) {t : TypeId} {kk : IntKind} (hs : slSz P t = some 1) :
  aIndexAddr P t (.imm l.length (l.map f)) (.int kk (k : Int)) = some (.at (f l[k] :: (l.drop (k + 1)).map f)) := by
 rw [index_imm hs (by omega) (by omega) (by simp), Int.toNat_natCast, Nat.mul_one, ← List.map_drop, List.drop_eq_getElem_cons hk]
 rfl
theorem i64V_ix' {P : Program} {l : List Int} {k : Nat} (hk : k < l.length) {t : TypeId} {kk : IntKind} (hs : slSz P t = some 1) :
  aIndexAddr P t (.imm l.length (i64V l)) (.int kk (k : Int)) = some (.at (.int .i64 l[k] :: i64V (l.drop (k + 1)))) := row_ix _ hk hs
theorem inc64 {i n : Nat} (h : i < n) (hn : n ≤ 2 ^ 62) : IntKind.i64.wrap ((i : Int) + 1) = ((i + 1 : Nat) : Int) := by rw [Go.IntWalk.i64_in _ (by omega)]; rfl
theorem nat_u64 {n : Nat} (h : n < 2 ^ 64) : IntKind.u64.wrap (n : Int) = (n : Int) := by rw [IntKind.wrap_u64]; omega
theorem ints_of {k : IntKind} : ∀ {es : List (List V)}, (∀ x ∈ es, Sh.fitsB (.int k) x) → ∃ l : List Int, es = (l.map fun n => [V.int k n]) ∧ ∀ n ∈ l, (Lit.int k n).wf = true
 | [], _ => ⟨[], rfl, by simp⟩
 | e :: es, h => by
  obtain ⟨l, rfl, hl⟩ := ints_of (es := es) fun x hx => h x (by simp [hx])
  obtain ⟨n, rfl, hw⟩ := h e (by simp)
  exact ⟨n :: l, rfl, fun m hm => by
   rcases List.mem_cons.1 hm with rfl | hm
   ·exact hw
   ·exact hl m hm⟩
theorem flat_one {α : Type} (f : α → V) (l : List α) : (l.map fun n => [f n]).flatten = l.map f := by
 induction l with
 | nil => rfl
 | cons n l ih => simp [ih]
theorem wf_i64 {a : Int} (h : (Lit.int .i64 a).wf = true) : -2 ^ 63 ≤ a ∧ a < 2 ^ 63 := by
 simp only [Lit.wf, Bool.and_eq_true, decide_eq_true_eq] at h
 have h1 : IntKind.i64.min = -2 ^ 63 := rfl
 have h2 : IntKind.i64.max = 2 ^ 63 - 1 := rfl
 omega
theorem Cast.nil0 (h : AHeap) : Cast .snil h (.imm 0 []) h := fun ρ B w0 w r' hw hv => by
 cases hv
 exact ⟨ρ, Ren.le.refl ρ, hw, .immZ none 0 (by simp)⟩
theorem CastL.skip {v : V} {l l2 : List V} {h : AHeap} (b : CastL l h l2 h) : CastL (v :: l) h (v :: l2) h := CastL.cons (Cast.refl v h) b
theorem CastL.last {v v2 : V} {h : AHeap} (a : Cast v h v2 h) : CastL [v] h [v2] h := CastL.cons a (CastL.refl [] h)
theorem Own.fresh' {h : AHeap} {e : TypeId} {sz : Nat} (c : List V) (n : Nat) (hc : c.length = n * sz) (hu : n < unk) : Own (h.push (.cells c e none)) e sz (.sl h.n 0 n n) c := by
 have ho := Own.fresh (h := h) (e := e) c n n hc (Nat.le_refl _) hu
 rwa [← hc, List.take_length] at ho
end Go.Proofs.YtfcjehlhoebmnaaGreatDoor.Ab
namespace Go.Proofs.YtfcjehlhoebmnaaGreatDoor.Ab
open Go Go.RowKit
set_option linter.unusedVariables false
def ridV : V → Option Nat
 | .ptr i _ => some i
 | .sl i _ _ _ => some i
 | .map i => some i
 | _ => none
def ridOp (ev : Operand → V) : Op → Option Nat
 | .load _ a => ridV (ev a)
 | .lookup _ m _ _ => ridV (ev m)
 | .convert _ _ x => ridV (ev x)
 | .call ⟨.builtin .len, args, _⟩ => (args.toList.map ev).head?.bind ridV
 | _ => none
def idleS : Op → Bool
 | .entry _ => false
 | .call ⟨.builtin .len, args, ts⟩ => args.size == 1 && ts.size == 1
 | o => idleOp o
def Wf (h : AHeap) : Prop := ∀ j, h.n ≤ j → h.get j = .dead
theorem WRel.wf {ρ : Ren} {B : Nat} {w0 w : World} {h : AHeap} (R : WRel ρ B w0 h w) : Wf h := fun j hj => by
 have hd := R.heap.dom j hj
 have ho := R.heap.obj j
 cases hg : h.get j with
 | dead => rfl
 | cells c e ex => rw [hg] at ho; obtain ⟨b, cp, arr, hr, _⟩ := ho; rw [hd] at hr; cases hr
 | map es c => rw [hg] at ho; obtain ⟨b, cp, arr, hr, _⟩ := ho; rw [hd] at hr; cases hr
 | iter m s l st => rw [hg] at ho; obtain ⟨b, cp, bm, cm, hr, _⟩ := ho; rw [hd] at hr; cases hr
 | pin k vs => rw [hg] at ho; obtain ⟨b, cp, arr, hr, _⟩ := ho; rw [hd] at hr; cases hr
section
variable {P : Program} {h h' : AHeap} {M : Nat → Prop}
theorem Keep.live (hw : Wf h) (hk : Keep h h' M) {i : Nat} (hm : ¬ M i) (hd : h.get i ≠ .dead) : h'.get i = h.get i := by
 rcases Nat.lt_or_ge i h.n with hlt | hge
 ·exact hk.get i hlt hm
 ·exact absurd (hw i hge) hd
theorem eval_keep (hk : Keep h h' M) (f : AFrame) (x : Operand) : f.eval h' x = f.eval h x := by
 cases x <;> simp [AFrame.eval, hk.glob]
theorem aPlace_keep (hw : Wf h) (hk : Keep h h' M) {x : V} (hm : ∀ i, ridV x = some i → ¬ M i) {cs : List V} (hp : aPlace h x = some cs) : aPlace h' x = some cs := by
 cases x <;> simp [aPlace] at hp ⊢
 case ptr i o =>
  have hd : h.get i ≠ .dead := fun hh => by rw [hh] at hp; simp at hp
  rw [hk.live hw (hm i rfl) hd]; exact hp
 case «at» cs' => exact hp
theorem aLoad_keep (hw : Wf h) (hk : Keep h h' M) {t : TypeId} {x : V} (hm : ∀ i, ridV x = some i → ¬ M i) {v : V} (hl : aLoad P t x h = some v) : aLoad P t x h' = some v := by
 rw [aLoad_eq] at hl ⊢
 cases hp : aPlace h x with
 | none => rw [hp] at hl; unfold loadGo at hl; split at hl <;> simp_all
 | some cs => rw [hp] at hl; rw [aPlace_keep hw hk hm hp]; exact hl
theorem aLookup_congr {t : TypeId} {m k : V} {ok : Bool} (e : ∀ i, ridV m = some i → h'.get i = h.get i) : aLookup P t m k ok h' = aLookup P t m k ok h := by
 unfold aLookup
 cases mapT P t with
 | none => rfl
 | some q =>
  obtain ⟨kt, et, d⟩ := q
  simp only
  split
  ·rfl
  ·rw [e _ rfl]
  ·rfl
theorem aConv_congr {s d : TypeId} {x : V} (e : ∀ i, ridV x = some i → h'.get i = h.get i) : aConv P s d x h' = aConv P s d x h := by
 unfold aConv
 cases (flatV x).bind fun a => pureRun P (convert s d a) with
 | some v => rfl
 | none =>
  simp only
  split
  ·rfl
  ·rw [e _ rfl]
  ·rfl
  ·rfl
theorem aLen_congr {t : TypeId} {x : V} (e : ∀ i, ridV x = some i → h'.get i = h.get i) : aLen P t x h' = aLen P t x h := by
 unfold aLen
 split
 all_goals first | rfl | rw [e _ rfl]
theorem aLookup_dead {t : TypeId} {m k : V} {ok : Bool} (hd : ∀ i, ridV m = some i → h.get i = .dead) {v : V} (hl : aLookup P t m k ok h = some v) : aLookup P t m k ok h' = some v := by
 unfold aLookup at hl ⊢
 cases hq : mapT P t with
 | none => rw [hq] at hl; cases hl
 | some q =>
  rw [hq] at hl
  obtain ⟨kt, et, d⟩ := q
  simp only at hl ⊢
  split at hl
  ·exact hl
  ·rw [hd _ rfl] at hl; cases hl
  ·cases hl
theorem aConv_dead {s d : TypeId} {x : V} (hd : ∀ i, ridV x = some i → h.get i = .dead) {v : V} (hl : aConv P s d x h = some v) : aConv P s d x h' = some v := by
 unfold aConv at hl ⊢
 cases hq : (flatV x).bind fun a => pureRun P (convert s d a) with
 | some u => rw [hq] at hl; exact hl
 | none =>
  rw [hq] at hl
  simp only at hl ⊢
  split at hl
  ·exact hl
  ·split at hl
   ·rw [hd _ rfl] at hl; cases hl
   ·cases hl
  ·exact hl
  ·cases hl
theorem aLen_dead {t : TypeId} {x : V} (hd : ∀ i, ridV x = some i → h.get i = .dead) {v : V} (hl : aLen P t x h = some v) : aLen P t x h' = some v := by
 unfold aLen at hl ⊢
 split at hl
 all_goals first | exact hl | (rw [hd _ rfl] at hl; cases hl) | skip
 all_goals (cases hl; done)
theorem keepOr (hw : Wf h) (hk : Keep h h' M) {x : V} (hm : ∀ i, ridV x = some i → ¬ M i) : (∀ i, ridV x = some i → h'.get i = h.get i) ∨ (∀ i, ridV x = some i → h.get i = .dead) := by
 cases hx : ridV x with
 | none => left; intro i hi; cases hi
 | some j =>
  by_cases hd : h.get j = .dead
  ·right; intro i hi; simp at hi; subst hi; exact hd
  ·left; intro i hi; simp at hi; subst hi; exact hk.live hw (hm j hx) hd
theorem idle_call {c : Call} (h : idleS (.call c) = true) : c.callee = .builtin .len ∨ c.callee = .builtin .min ∨ c.callee = .builtin .max := by
 obtain ⟨callee, args, ts⟩ := c
 cases callee with
 | builtin b => cases b <;> simp [idleS, idleOp] at h ⊢
 | _ => simp [idleS, idleOp] at h
theorem idle_keep (hw : Wf h) (hk : Keep h h' M) {o : Oper} {ev : Operand → V} (hi : idleS o.op = true) (hm : ∀ i, ridOp ev o.op = some i → ¬ M i) {v : V} (he : opEval P o ev h = some (.val v h)) : opEval P o ev h' = some (.val v h') := by
 have jst : ∀ {x y : Option V}, justV x h = some (.val v h) → (∀ u, x = some u → y = some u) → justV y h' = some (.val v h') := fun {x y} hx hy => by
  obtain ⟨e1, _⟩ := justV_val hx
  rw [hy _ e1]; rfl
 obtain ⟨dst, op, type, pos, after, guard⟩ := o
 have hi0 := hi
 cases op <;> simp [idleS, idleOp] at hi <;> simp only [opEval] at he ⊢
 case move x => simp at he; rw [he]
 case assign x => simp at he; rw [he]
 case pick c a b => split at he <;> simp at he ⊢; exact he
 case nilCheck x => split at he <;> simp at he ⊢ <;> exact he
 case makeInterface t x => split at he <;> simp at he ⊢; exact he
 case makeFunc fn xs ys => cases fn <;> simp at he ⊢; exact he
 case extract t k =>
  split at he
  ·exact jst he fun _ h => h
  ·cases he
 case load t a => exact jst he fun u hu => aLoad_keep hw hk hm hu
 case lookup t m k ok =>
  refine jst he fun u hu => ?_
  rcases keepOr hw hk hm with e | e
  ·rw [aLookup_congr e]; exact hu
  ·exact aLookup_dead e hu
 case convert s d x =>
  cases hc : aConv P s d (ev x) h with
  | none =>
   rw [hc] at he
   cases hq : aConvM P s d (ev x) h with
   | none => rw [hq] at he; cases he
   | some p =>
    obtain ⟨u, h2⟩ := p
    rw [hq] at he
    have h3 : h2 = h := by
     have : some (Step.val u h2) = some (Step.val v h) := he
     simp only [Option.some.injEq, Step.val.injEq] at this
     exact this.2
    exact absurd h3 (aConvM_ne hq)
  | some u =>
   rw [hc] at he
   have hu : aConv P s d (ev x) h' = some u := by
    rcases keepOr hw hk hm with e | e
    ·rw [aConv_congr e]; exact hc
    ·exact aConv_dead e hc
   rw [hu]
   have : some (Step.val u h) = some (Step.val v h) := he
   simp only [Option.some.injEq, Step.val.injEq] at this
   rw [this.1]
 case call c =>
  have hb := idle_call hi0
  have other : ∀ b, (b = .min ∨ b = .max) → c.callee = .builtin b → aCall P c type ev h' = some (.val v h') := fun b hbb hc => by
   have ha : ∀ hh : AHeap, aBuiltin P b c.argTypes.toList type (constsOf c.args) (c.args.toList.map ev) hh = (match flatL (c.args.toList.map ev) with
     | some as_ => match pureRun P (builtin b c.argTypes.toList.toArray type (constsOf c.args) as_.toArray) with
      | some (.value v) => some (absF v, hh)
      | _ => none
     | none => none) := fun hh => by
    rcases hbb with rfl | rfl <;> rfl
   have hcall : ∀ hh : AHeap, aCall P c type ev hh = (match aBuiltin P b c.argTypes.toList type (constsOf c.args) (c.args.toList.map ev) hh with | some (v, h') => some (.val v h') | none => none) := fun hh => by
    unfold aCall
    rw [hc]
    rcases hbb with rfl | rfl <;> rfl
   rw [hcall, ha] at he ⊢
   cases hf : flatL (c.args.toList.map ev) with
   | none => rw [hf] at he; cases he
   | some as_ =>
    rw [hf] at he
    simp only at he ⊢
    split at he
    ·rename_i v' h2 hq
     split at hq
     ·simp at hq he
      obtain ⟨rfl, rfl⟩ := hq
      rw [he.1]
     ·cases hq
    ·cases he
  rcases hb with hb | hb | hb
  ·obtain ⟨callee, args, ats⟩ := c
   simp only at hb
   subst hb
   have hs : (args.size == 1 && ats.size == 1) = true := hi0
   simp at hs
   obtain ⟨x, rfl⟩ := Array.size_eq_one_iff.1 hs.1
   obtain ⟨t, rfl⟩ := Array.size_eq_one_iff.1 hs.2
   have hcall : ∀ hh : AHeap, aCall P ⟨.builtin .len, #[x], #[t]⟩ type ev hh = (match aLen P t (ev x) hh with | some v => some (.val v hh) | none => none) := fun hh => by
    show (match (match aLen P t (ev x) hh with | some v => some (v, hh) | none => none) with | some (v, h') => some (Step.val v h') | none => none) = _
    cases aLen P t (ev x) hh <;> rfl
   rw [hcall] at he ⊢
   have hm' : ∀ i, ridV (ev x) = some i → ¬ M i := fun i hx => hm i (by simp [ridOp, hx])
   cases hu : aLen P t (ev x) h with
   | none => rw [hu] at he; cases he
   | some u =>
    rw [hu] at he
    simp at he
    subst he
    have hn : aLen P t (ev x) h' = some u := by
     rcases keepOr hw hk hm' with e | e
     ·rw [aLen_congr e]; exact hu
     ·exact aLen_dead e hu
    rw [hn]
  ·exact other _ (.inl rfl) hb
  ·exact other _ (.inr rfl) hb
 all_goals exact jst he fun _ h => h
end
end Go.Proofs.YtfcjehlhoebmnaaGreatDoor.Ab
namespace Go.Proofs.YtfcjehlhoebmnaaGreatDoor.Ab
open Go Go.RowKit
set_option linter.unusedVariables false
def stab (P : Program) (ops : Array Oper) (M : Nat → Prop) (hs : AHeap) (o : Oper) (f : AFrame) (v : V) : Prop := ∀ h', Keep hs h' M → YieldA P ops.toList h' o v f
def orderedB (ops : Array Oper) (es : List Nat) (listed : Array Bool) (i : Nat) : Bool := es.all fun e => listed.getD e true || depB ops ops.size e i
def aloneB (ops : Array Oper) (k : Nat) : Bool := (List.range ops.size).all fun i => i == k || depB ops ops.size k i || depB ops ops.size i k
def anyS (P : Program) (ops : Array Oper) (es : List Nat) (M : Nat → Prop) (hs : AHeap) (K : AFrame → AHeap → Prop) (X : AHeap → Prop) : Nat → Array Bool → AFrame → AHeap → Prop
 | 0, listed, f, h => Region.ready .any ops listed = [] ∧ K f h
 | n + 1, listed, f, h => (Region.ready .any ops listed = [] → K f h) ∧
  ∀ i ∈ Region.ready .any ops listed, ∀ o, ops[i]? = some o →
   if es.contains i then (match wantedA ops.toList o.guard f with
    | some true => stepA P o (fun f' h' => (aloneB ops i = true ∨ Keep hs h' M) ∧ anyS P ops es M hs K X n (listed.setIfInBounds i true) f' h') (fun _ h => X h) f h
    | some false => anyS P ops es M hs K X n (listed.setIfInBounds i true) (f.put o.dst (.tuple [])) h
    | none => False)
   else ∃ v, ((Keep hs h M ∧ stab P ops M hs o f v) ∨ (orderedB ops es listed i = true ∧ YieldA P ops.toList h o v f)) ∧ anyS P ops es M hs K X n (listed.setIfInBounds i true) (f.put o.dst v) h
theorem stepA_weak {P : Program} {o : Oper} {K K' E E' : AFrame → AHeap → Prop} (hk : ∀ f h, K f h → K' f h) {f : AFrame} {h : AHeap} (he : ∀ f h, E f h → E' f h) (hs : stepA P o K E f h) : stepA P o K' E' f h := by
 unfold stepA at *
 split at hs
 ·exact hk _ _ hs
 ·exact hs.mono (fun _ _ h => hk _ _ h) fun _ h => he _ _ h
 ·exact fun v h' hm => hk _ _ (hs v h' hm)
 ·exact he _ _ hs
 ·exact hs.mono (fun _ _ h => hk _ _ h)
 ·exact hs.elim
section
variable {P : Program} {ops : Array Oper} {es : List Nat} {M : Nat → Prop} {hs : AHeap} {K E : AFrame → AHeap → Prop} {X : AHeap → Prop}
theorem anyS_G (hX : ∀ f h, X h → E f h) : ∀ (n : Nat) (listed : Array Bool) (f : AFrame) (h : AHeap), anyS P ops es M hs K X n listed f h → anyG P ops es K E n listed f h
 | 0, _, _, _, hq => hq
 | n + 1, listed, f, h, hq => by
  refine ⟨hq.1, fun i hi o ho => ?_⟩
  have h1 := hq.2 i hi o ho
  by_cases he : es.contains i = true
  ·rw [if_pos he] at h1 ⊢
   cases hw : wantedA ops.toList o.guard f with
   | none => rw [hw] at h1; exact h1
   | some b =>
    rw [hw] at h1
    cases b with
    | true => exact stepA_weak (fun f' h' hh => anyS_G hX n _ f' h' hh.2) (fun f h hh => hX f h hh) h1
    | false => exact anyS_G hX n _ _ _ h1
  ·rw [if_neg he] at h1 ⊢
   obtain ⟨v, hv, hr⟩ := h1
   refine ⟨v, ?_, anyS_G hX n _ _ _ hr⟩
   rcases hv with ⟨hk, hst⟩ | ⟨_, hy⟩
   ·exact hst h hk
   ·exact hy
theorem stepA_put {o : Oper} {dst : Option Tmp} {v : V} {f : AFrame} {h : AHeap} {K K' : AFrame → AHeap → Prop} (hl : ∀ d, dst = some d → d ∉ o.looksAt ops) (hc : ∀ d, dst = some d → o.dst ≠ some d)
  (hk : ∀ r h', K ((f.put o.dst r).put dst v) h' → K' (f.put o.dst r) h') (hs : stepA P o K (fun _ h => X h) (f.put dst v) h) : stepA P o K' (fun _ h => X h) f h := by
 unfold stepA at *
 rw [opEval_put o f dst v hl] at hs
 split at hs
 ·exact hk _ _ (by rw [AFrame.put_comm f _ _ fun d hd hx => hc d hx hd]; exact hs)
 ·exact hs.mono (fun r h' hh => hk r h' (by rw [AFrame.put_comm f _ _ fun d hd hx => hc d hx hd]; exact hh)) fun _ h => h
 ·exact fun r h' hm => hk r h' (by rw [AFrame.put_comm f _ _ fun d hd hx => hc d hx hd]; exact hs r h' hm)
 ·exact hs
 ·exact hs.mono (fun r h' hh => hk r h' (by rw [AFrame.put_comm f _ _ fun d hd hx => hc d hx hd]; exact hh))
 ·exact hs
theorem dep_ready {listed : Array Bool} (hd : Down ops listed) {i j : Nat} (hj : j ∈ Region.ready .any ops listed) (h : depB ops ops.size j i = true) : listed.getD i false = true := by
 obtain ⟨_, o, ho, hall⟩ := mem_ready.1 hj
 exact dep_listed hd ops.size j i (fun o' ho' => by
                           rw [ho] at ho'; obtain rfl : o = o' := by simpa using ho'
                           exact hall) h
theorem ready_not {listed : Array Bool} {i : Nat} (hi : i ∈ Region.ready .any ops listed) : listed.getD i false = false := by
 have h0 := (mem_ready.1 hi).1
 rcases Nat.lt_or_ge i listed.size with h' | h'
 ·simp [h'] at h0 ⊢; exact h0
 ·simp [Array.getElem?_eq_none h']
theorem anyS_first {i : Nat} {oi : Oper} {v : V} (hi : ops[i]? = some oi) (hie : es.contains i = false) :
  ∀ (fuel : Nat) (listed : Array Bool) (f : AFrame) (h : AHeap),
   (∀ j oj, ops[j]? = some oj → j ≠ i → listed.getD j true = false → (∀ e ∈ oj.after, Region.binds .any e = true → e.on ≠ i) → oi.apart ops oj = true) →
   i ∈ Region.ready .any ops listed → Down ops listed → ((Keep hs h M ∧ stab P ops M hs oi f v) ∨ (orderedB ops es listed i = true ∧ YieldA P ops.toList h oi v f)) →
   anyS P ops es M hs K X fuel (listed.setIfInBounds i true) (f.put oi.dst v) h → anyS P ops es M hs K X (fuel + 1) listed f h := by
 intro fuel
 induction fuel with
 | zero =>
  intro listed f h _ hr hdn hy H
  refine ⟨fun h => (by rw [h] at hr; cases hr), fun j hj o ho => ?_⟩
  by_cases hji : j = i
  ·subst hji
   rw [hi] at ho
   obtain rfl : oi = o := by simpa using ho
   rw [hie]
   exact ⟨v, hy, H⟩
  ·have := ready_mono hj hji
   rw [H.1] at this
   cases this
 | succ fuel ih =>
  intro listed f h hfree hr hdn hy H
  refine ⟨fun h => (by rw [h] at hr; cases hr), fun j hj oj hoj => ?_⟩
  by_cases hji : j = i
  ·subst hji
   rw [hi] at hoj
   obtain rfl : oi = oj := by simpa using hoj
   rw [hie]
   exact ⟨v, hy, H⟩
  ·have Hj := H.2 j (ready_mono hj hji) oj hoj
   obtain ⟨hjun, oj', hoj', hall⟩ := mem_ready.1 hj
   rw [hoj] at hoj'
   obtain rfl : oj = oj' := by simpa using hoj'
   have hnot : ∀ e ∈ oj.after, Region.binds .any e = true → e.on ≠ i := fun e he hb heq => by
    have h1 := hall e he hb
    have h0 := ready_not hr
    rw [heq, h0] at h1
    cases h1
   obtain ⟨a1, a2, a3⟩ := Oper.apart_spec (hfree j oj hoj hji hjun hnot)
   have hfree' : ∀ k ok, ops[k]? = some ok → k ≠ i → (listed.setIfInBounds j true).getD k true = false →
     (∀ e ∈ ok.after, Region.binds .any e = true → e.on ≠ i) → oi.apart ops ok = true := fun k ok hk hki hun hno => by
    refine hfree k ok hk hki ?_ hno
    by_cases hjk : j = k
    ·subst hjk; exact hjun
    ·rw [getD_set_ne true hjk] at hun; exact hun
   have hri := ready_mono hr (Ne.symm hji)
   have hdn' := hdn.add hj
   have hput : ∀ (h' : AHeap) (r : V), Keep hs h' M → stab P ops M hs oi f v → anyS P ops es M hs K X fuel ((listed.setIfInBounds i true).setIfInBounds j true) ((f.put oj.dst r).put oi.dst v) h' → anyS P ops es M hs K X (fuel + 1) (listed.setIfInBounds j true) (f.put oj.dst r) h' := fun h' r hk hst hh =>
    ih (listed.setIfInBounds j true) (f.put oj.dst r) h' hfree' hri hdn' (.inl ⟨hk, fun h2 k2 => (hst h2 k2).put oj.dst r a3⟩) (by rw [Array.setIfInBounds_comm _ _ hji]; exact hh)
   by_cases hje : es.contains j = true
   ·rw [if_pos hje] at Hj ⊢
    have hst : Keep hs h M ∧ stab P ops M hs oi f v := by
     rcases hy with hy | ⟨ho, _⟩
     ·exact hy
     ·exfalso
      have h1 := (List.all_eq_true.1 ho) j (by simpa using hje)
      rw [hjun, Bool.false_or] at h1
      have := dep_ready hdn hj h1
      rw [ready_not hr] at this
      cases this
    rw [wantedA_put oj f oi.dst v a1] at Hj
    cases hw : wantedA ops.toList oj.guard f with
    | none => rw [hw] at Hj; exact Hj
    | some b =>
     rw [hw] at Hj
     cases b with
     | true =>
      refine stepA_put a1 a2 (fun r h' hh => ?_) Hj
      have hk : Keep hs h' M := by
       rcases hh.1 with hal | hk
       ·exfalso
        have h1 := (List.all_eq_true.1 hal) i (by
         have := (Array.getElem?_eq_some_iff.1 hi).1
         simpa using this)
        simp only [Bool.or_eq_true, beq_iff_eq] at h1
        rcases h1 with (h1 | h1) | h1
        ·exact hji h1.symm
        ·have := dep_ready hdn hj h1
         rw [ready_not hr] at this
         cases this
        ·have := dep_ready hdn hr h1
         rw [ready_not hj] at this
         cases this
       ·exact hk
      exact ⟨.inr hk, hput h' r hk hst.2 hh.2⟩
     | false =>
      refine hput h (.tuple []) hst.1 hst.2 ?_
      rw [← AFrame.put_comm f v (.tuple []) a2]
      exact Hj
   ·rw [if_neg hje] at Hj ⊢
    obtain ⟨u, hyj, hrest⟩ := Hj
    refine ⟨u, ?_, ?_⟩
    ·rcases hyj with ⟨hk, hst⟩ | ⟨ho, hyy⟩
     ·exact .inl ⟨hk, fun h2 k2 => (hst h2 k2).unput oi.dst v a1⟩
     ·refine .inr ⟨?_, hyy.unput oi.dst v a1⟩
      refine List.all_eq_true.2 fun e he => ?_
      have h1 := (List.all_eq_true.1 ho) e he
      have hei : i ≠ e := fun hh => by
       subst hh
       have : es.contains i = true := by simpa using he
       rw [hie] at this; cases this
      rwa [getD_set_ne true hei] at h1
    ·have hy' : ((Keep hs h M ∧ stab P ops M hs oi (f.put oj.dst u) v) ∨ (orderedB ops es (listed.setIfInBounds j true) i = true ∧ YieldA P ops.toList h oi v (f.put oj.dst u))) := by
      rcases hy with ⟨hk, hst⟩ | ⟨ho, hyy⟩
      ·exact .inl ⟨hk, fun h2 k2 => (hst h2 k2).put oj.dst u a3⟩
      ·refine .inr ⟨List.all_eq_true.2 fun e he => ?_, hyy.put oj.dst u a3⟩
       have h1 := (List.all_eq_true.1 ho) e he
       simp only [Bool.or_eq_true] at h1 ⊢
       rcases h1 with h1 | h1
       ·exact .inl (listed_grow h1)
       ·exact .inr h1
     refine ih (listed.setIfInBounds j true) (f.put oj.dst u) h hfree' hri hdn' hy' ?_
     rw [Array.setIfInBounds_comm _ _ hji, ← AFrame.put_comm f v u a2]
     exact hrest
end
end Go.Proofs.YtfcjehlhoebmnaaGreatDoor.Ab
namespace Go.Proofs.YtfcjehlhoebmnaaGreatDoor.Ab
open Go Go.RowKit
set_option linter.unusedVariables false
def freeS : Op → Bool
 | .move _ | .assign _ | .pick .. | .build .. | .nilCheck _ | .binOp .. | .unOp .. | .makeInterface .. | .makeFunc .. | .slice .. | .fieldAddr .. | .field .. | .indexAddr .. | .index .. | .typeAssert .. | .extract .. => true
 | _ => false
section
variable {P : Program} {h h' : AHeap}
theorem free_idle {o : Op} (h : freeS o = true) : idleS o = true := by cases o <;> simp [freeS] at h <;> rfl
theorem free_keep {o : Oper} {ev : Operand → V} (hi : freeS o.op = true) {v : V} (he : opEval P o ev h = some (.val v h)) : opEval P o ev h' = some (.val v h') := by
 have jst : ∀ {x : Option V}, justV x h = some (.val v h) → justV x h' = some (.val v h') := fun {x} hx => by
  obtain ⟨e1, _⟩ := justV_val hx
  rw [e1]; rfl
 obtain ⟨dst, op, type, pos, after, guard⟩ := o
 cases op <;> simp [freeS] at hi <;> simp only [opEval] at he ⊢
 case move x => simp at he; rw [he]
 case assign x => simp at he; rw [he]
 case pick c a b => split at he <;> simp at he ⊢; exact he
 case nilCheck x => split at he <;> simp at he ⊢ <;> exact he
 case makeInterface t x => split at he <;> simp at he ⊢; exact he
 case makeFunc fn xs ys => cases fn <;> simp at he ⊢; exact he
 case extract t k =>
  split at he
  ·exact jst he
  ·cases he
 all_goals exact jst he
theorem call_keep {o : Oper} {ev : Operand → V} {g : FuncId} {args : List V} (he : opEval P o ev h = some (.call g args)) : opEval P o ev h' = some (.call g args) := by
 obtain ⟨dst, op, type, pos, after, guard⟩ := o
 have jv : ∀ {x : Option V}, justV x h ≠ some (.call g args) := fun {x} hx => by obtain ⟨v, hv⟩ := justV_cases hx; cases hv
 have ja : ∀ {x : Option (V × AHeap)}, andH x ≠ some (.call g args) := fun {x} hx => by unfold andH at hx; split at hx <;> simp at hx
 have jh : ∀ {x : Option AHeap}, justH x ≠ some (.call g args) := fun {x} hx => by unfold justH at hx; split at hx <;> simp at hx
 cases op <;> simp only [opEval] at he ⊢
 case call c =>
  obtain ⟨callee, cargs, ts⟩ := c
  unfold aCall at he ⊢
  cases callee with
  | value f =>
   simp only at he ⊢
   split at he
   case h_2 => simp at he
   case h_3 => cases he
   split at he
   ·rename_i hc; rw [if_pos hc]; exact he
   ·exfalso
    split at he <;> simp at he
  | builtin b =>
   exfalso
   cases b
   case panic => simp only at he; split at he <;> simp at he
   all_goals
    simp only at he
    split at he <;> simp at he
  | invoke r m => exact he
 case next it s =>
  cases s
  ·simp only at he; split at he <;> simp at he
  ·cases he
 case makeFunc fn xs ys => cases fn <;> simp at he
 all_goals first
  | exact absurd he jv
  | exact absurd he ja
  | exact absurd he jh
  | (simp at he; done)
  | (split at he <;> first | (simp at he; done) | exact absurd he jv | exact absurd he ja)
  | (cases he; done)
end
inductive Sch where
 | done
 | stop
 | q (k : Nat) (s : Sch)
 | c (k : Nat) (s : Sch)
 | a (k : Nat) (s : Sch)
 | e (k : Nat) (s alt : Sch)
def Sch.keys : Sch → List Nat
 | .e k _ alt => k :: alt.keys
 | _ => []
def Sch.ok (ops : Array Oper) (es : List Nat) : Sch → Nat → Bool → Bool → Bool → Array Bool → Bool
 | .done, n, top, p, kf, listed => top && n == 0 && (Region.ready .any ops listed).isEmpty
 | .stop, _, top, _, _, _ => !top
 | .q k s, n, top, p, kf, listed => match n, ops[k]? with
  | n + 1, some o => top && !es.contains k && (Region.ready .any ops listed).contains k && Region.free .any ops listed k && idleS o.op && ((p && kf) || (kf && freeS o.op) || orderedB ops es listed k) && s.ok ops es n true p kf (listed.setIfInBounds k true)
  | _, _ => false
 | .c k s, n, top, p, kf, listed => match n, ops[k]? with
  | n + 1, some o => top && !es.contains k && (Region.ready .any ops listed).contains k && Region.free .any ops listed k && ((p && kf) || orderedB ops es listed k) && s.ok ops es n true p kf (listed.setIfInBounds k true)
  | _, _ => false
 | .a k s, n, top, p, kf, listed => match n with
  | n + 1 => top && es.contains k && Region.ready .any ops listed == [k] && aloneB ops k && s.ok ops es n true false false (listed.setIfInBounds k true)
  | 0 => false
 | .e k s alt, n, top, p, kf, listed => match n with
  | n + 1 => (!top || ((Region.ready .any ops listed).contains k && (Region.ready .any ops listed).all fun i => (k :: alt.keys).contains i)) && es.contains k && s.ok ops es n true false true (listed.setIfInBounds k true) && alt.ok ops es (n + 1) false p kf listed
  | 0 => false
section
variable {P : Program} {ops : Array Oper} {es : List Nat} {M : Nat → Prop} {hs : AHeap} {K : AFrame → AHeap → Prop} {X : AHeap → Prop}
def evS (P : Program) (ol : List Oper) (M : Nat → Prop) (hs : AHeap) (K : AFrame → AHeap → Prop) (X : AHeap → Prop) : Sch → Bool → AFrame → AHeap → Prop
 | .done, _, f, h => K f h
 | .stop, _, _, _ => True
 | .q k s, p, f, h => match ol[k]? with
  | some o => (match wantedA ol o.guard f with
   | some true => ∃ v, (opEval P o (f.eval h) h = some (.val v h) ∧ (p = true → ∀ i, ridOp (f.eval h) o.op = some i → ¬ M i)) ∧ evS P ol M hs K X s p (f.put o.dst v) h
   | some false => evS P ol M hs K X s p (f.put o.dst (.tuple [])) h
   | none => False)
  | none => False
 | .c k s, p, f, h => match ol[k]? with
  | some o => (match wantedA ol o.guard f with
   | some true => ∃ g args v, opEval P o (f.eval h) h = some (.call g args) ∧ (∀ h', Keep hs h' M ∨ h' = h → Pure P g args h' v) ∧ evS P ol M hs K X s p (f.put o.dst v) h
   | some false => evS P ol M hs K X s p (f.put o.dst (.tuple [])) h
   | none => False)
  | none => False
 | .a k s, p, f, h => match ol[k]? with
  | some o => (match wantedA ol o.guard f with
   | some true => stepA P o (fun f' h' => evS P ol M hs K X s false f' h') (fun _ h => X h) f h
   | some false => evS P ol M hs K X s false (f.put o.dst (.tuple [])) h
   | none => False)
  | none => False
 | .e k s alt, p, f, h => (match ol[k]? with
  | some o => (match wantedA ol o.guard f with
   | some true => stepA P o (fun f' h' => Keep hs h' M ∧ evS P ol M hs K X s false f' h') (fun _ h => X h) f h
   | some false => Keep hs h M ∧ evS P ol M hs K X s false (f.put o.dst (.tuple [])) h
   | none => False)
  | none => False) ∧ evS P ol M hs K X alt p f h
def Clause (P : Program) (ops : Array Oper) (es : List Nat) (M : Nat → Prop) (hs : AHeap) (K : AFrame → AHeap → Prop) (X : AHeap → Prop) (n : Nat) (listed : Array Bool) (f : AFrame) (h : AHeap) (i : Nat) : Prop :=
 ∀ o, ops[i]? = some o → (match wantedA ops.toList o.guard f with
    | some true => stepA P o (fun f' h' => (aloneB ops i = true ∨ Keep hs h' M) ∧ anyS P ops es M hs K X n (listed.setIfInBounds i true) f' h') (fun _ h => X h) f h
    | some false => anyS P ops es M hs K X n (listed.setIfInBounds i true) (f.put o.dst (.tuple [])) h
    | none => False)
theorem contains_mem {l : List Nat} {k : Nat} (h : l.contains k = true) : k ∈ l := by simpa using h
theorem eval_fun {h' : AHeap} (hk : Keep hs h' M) (f : AFrame) : f.eval h' = f.eval hs := funext fun x => eval_keep hk f x
theorem evS_any (hwf : Wf hs) : ∀ (s : Sch) (n : Nat) (p kf : Bool) (listed : Array Bool) (f : AFrame) (h : AHeap), (p = true → h = hs) → (kf = true → Keep hs h M) → Down ops listed → evS P ops.toList M hs K X s p f h →
  (s.ok ops es n true p kf listed = true → anyS P ops es M hs K X n listed f h) ∧
  (∀ m, n = m + 1 → s.ok ops es n false p kf listed = true → ∀ i ∈ s.keys, i ∈ Region.ready .any ops listed → es.contains i = true ∧ Clause P ops es M hs K X m listed f h i) := by
 intro s
 induction s with
 | done =>
  intro n p kf listed f h hp hkf hdn he
  refine ⟨fun hok => ?_, fun m hm hok => by simp [Sch.ok] at hok⟩
  simp only [Sch.ok, Bool.true_and, Bool.and_eq_true, beq_iff_eq, List.isEmpty_iff] at hok
  obtain ⟨rfl, hr⟩ := hok
  exact ⟨hr, he⟩
 | stop =>
  intro n p kf listed f h hp hkf hdn he
  exact ⟨fun hok => by simp [Sch.ok] at hok, fun m hm hok i hi => by simp [Sch.keys] at hi⟩
 | q k s ih =>
  intro n p kf listed f h hp hkf hdn he
  refine ⟨fun hok => ?_, fun m hm hok i hi => by simp [Sch.keys] at hi⟩
  cases n with
  | zero => simp [Sch.ok] at hok
  | succ n =>
   cases ho : ops[k]? with
   | none => simp [Sch.ok, ho] at hok
   | some o =>
    simp only [Sch.ok, ho, Bool.true_and, Bool.and_eq_true, Bool.not_eq_true'] at hok
    obtain ⟨⟨⟨⟨⟨hke, hr⟩, hfr⟩, hid⟩, hph⟩, hs2⟩ := hok
    have hr' := contains_mem hr
    have hol : ops.toList[k]? = some o := by simpa using ho
    simp only [evS, hol] at he
    have fin : ∀ v, YieldA P ops.toList h o v f → (wantedA ops.toList o.guard f = some false ∨ (p = true → ∀ i, ridOp (f.eval h) o.op = some i → ¬ M i) ∧ opEval P o (f.eval h) h = some (.val v h)) → evS P ops.toList M hs K X s p (f.put o.dst v) h → anyS P ops es M hs K X (n + 1) listed f h := fun v hy hm hrest => by
     refine anyS_first ho hke n listed f h (Region.free_spec ho hfr) hr' hdn ?_ ((ih n p kf _ _ h hp hkf (hdn.add hr') hrest).1 hs2)
     simp only [Bool.or_eq_true, Bool.and_eq_true] at hph
     rcases hph with (⟨hpt, hk1⟩ | ⟨hk1, hfs⟩) | hord
     ·refine .inl ⟨hkf hk1, fun h' hk' => ?_⟩
      have hh := hp hpt
      subst hh
      rcases hm with hm | ⟨hm, hev⟩
      ·rcases hy with ⟨hy1, _⟩ | hy
       ·rw [hm] at hy1; cases hy1
       ·exact .inr hy
      ·rcases hy with ⟨hy1, _⟩ | hy
       ·exact .inl ⟨hy1, .inl (by rw [eval_fun hk']; exact idle_keep hwf hk' hid (hm hpt) hev)⟩
       ·exact .inr hy
     ·refine .inl ⟨hkf hk1, fun h' hk' => ?_⟩
      rcases hm with hm | ⟨hm, hev⟩
      ·rcases hy with ⟨hy1, _⟩ | hy
       ·rw [hm] at hy1; cases hy1
       ·exact .inr hy
      ·rcases hy with ⟨hy1, _⟩ | hy
       ·exact .inl ⟨hy1, .inl (by rw [eval_fun hk', ← eval_fun (hkf hk1)]; exact free_keep hfs hev)⟩
       ·exact .inr hy
     ·exact .inr ⟨hord, hy⟩
    cases hw : wantedA ops.toList o.guard f with
    | none => rw [hw] at he; exact he.elim
    | some b =>
     rw [hw] at he
     cases b with
     | true =>
      obtain ⟨v, ⟨hev, hm⟩, hrest⟩ := he
      exact fin v (.inl ⟨hw, .inl hev⟩) (.inr ⟨hm, hev⟩) hrest
     | false => exact fin (.tuple []) (.inr ⟨hw, rfl⟩) (.inl hw) he
 | c k s ih =>
  intro n p kf listed f h hp hkf hdn he
  refine ⟨fun hok => ?_, fun m hm hok i hi => by simp [Sch.keys] at hi⟩
  cases n with
  | zero => simp [Sch.ok] at hok
  | succ n =>
   cases ho : ops[k]? with
   | none => simp [Sch.ok, ho] at hok
   | some o =>
    simp only [Sch.ok, ho, Bool.true_and, Bool.and_eq_true, Bool.not_eq_true'] at hok
    obtain ⟨⟨⟨⟨hke, hr⟩, hfr⟩, hph⟩, hs2⟩ := hok
    have hr' := contains_mem hr
    have hol : ops.toList[k]? = some o := by simpa using ho
    simp only [evS, hol] at he
    simp only [Bool.or_eq_true, Bool.and_eq_true] at hph
    cases hw : wantedA ops.toList o.guard f with
    | none => rw [hw] at he; exact he.elim
    | some b =>
     rw [hw] at he
     cases b with
     | true =>
      obtain ⟨g, args, v, hev, hpu, hrest⟩ := he
      refine anyS_first (v := v) ho hke n listed f h (Region.free_spec ho hfr) hr' hdn ?_ ((ih n p kf _ _ h hp hkf (hdn.add hr') hrest).1 hs2)
      rcases hph with ⟨hpt, hk1⟩ | hord
      ·refine .inl ⟨hkf hk1, fun h' hk' => .inl ⟨hw, .inr ⟨g, args, ?_, hpu h' (.inl hk')⟩⟩⟩
       have hh := hp hpt
       subst hh
       rw [eval_fun hk']
       exact call_keep hev
      ·exact .inr ⟨hord, .inl ⟨hw, .inr ⟨g, args, hev, hpu h (.inr rfl)⟩⟩⟩
     | false =>
      refine anyS_first (v := .tuple []) ho hke n listed f h (Region.free_spec ho hfr) hr' hdn ?_ ((ih n p kf _ _ h hp hkf (hdn.add hr') he).1 hs2)
      rcases hph with ⟨hpt, hk1⟩ | hord
      ·exact .inl ⟨hkf hk1, fun h' hk' => .inr ⟨hw, rfl⟩⟩
      ·exact .inr ⟨hord, .inr ⟨hw, rfl⟩⟩
 | a k s ih =>
  intro n p kf listed f h hp hkf hdn he
  refine ⟨fun hok => ?_, fun m hm hok i hi => by simp [Sch.keys] at hi⟩
  cases n with
  | zero => simp [Sch.ok] at hok
  | succ n =>
   simp only [Sch.ok, Bool.true_and, Bool.and_eq_true, beq_iff_eq] at hok
   obtain ⟨⟨⟨hke, hr⟩, hal⟩, hs2⟩ := hok
   have hr' : k ∈ Region.ready .any ops listed := by rw [hr]; simp
   refine ⟨fun h0 => (by rw [h0] at hr; cases hr), fun i hi o ho => ?_⟩
   rw [hr] at hi
   simp at hi
   subst hi
   rw [if_pos hke]
   have hol : ops.toList[i]? = some o := by simpa using ho
   simp only [evS, hol] at he
   cases hw : wantedA ops.toList o.guard f with
   | none => rw [hw] at he; exact he.elim
   | some b =>
    rw [hw] at he
    cases b with
    | true => exact stepA_weak (fun f' h' hh => ⟨.inl hal, (ih n false false _ _ h' (by simp) (by simp) (hdn.add hr') hh).1 hs2⟩) (fun _ _ h => h) he
    | false => exact (ih n false false _ _ h (by simp) (by simp) (hdn.add hr') he).1 hs2
 | e k s alt ih1 ih2 =>
  intro n p kf listed f h hp hkf hdn he
  have main : ∀ (m : Nat) (top : Bool), n = m + 1 → (Sch.e k s alt).ok ops es n top p kf listed = true → ∀ i ∈ (Sch.e k s alt).keys, i ∈ Region.ready .any ops listed → es.contains i = true ∧ Clause P ops es M hs K X m listed f h i := by
   intro m top hn hok i hi hir
   subst hn
   simp only [Sch.ok, Bool.and_eq_true] at hok
   obtain ⟨⟨⟨_, hke⟩, hs2⟩, halt⟩ := hok
   simp only [evS] at he
   simp only [Sch.keys, List.mem_cons] at hi
   by_cases hik : i = k
   ·subst hik
    refine ⟨hke, fun o ho => ?_⟩
    have hol : ops.toList[i]? = some o := by simpa using ho
    have h1 := he.1
    rw [hol] at h1
    simp only at h1
    cases hw : wantedA ops.toList o.guard f with
    | none => rw [hw] at h1; exact h1.elim
    | some b =>
     rw [hw] at h1
     cases b with
     | true => exact stepA_weak (fun f' h' hh => ⟨.inr hh.1, (ih1 m false true _ _ h' (by simp) (fun _ => hh.1) (hdn.add hir) hh.2).1 hs2⟩) (fun _ _ h => h) h1
     | false => exact (ih1 m false true _ _ h (by simp) (fun _ => h1.1) (hdn.add hir) h1.2).1 hs2
   ·rcases hi with hi | hi
    ·exact absurd hi hik
    ·exact (ih2 (m + 1) p kf listed f h hp hkf hdn he.2).2 m rfl halt i hi hir
  refine ⟨fun hok => ?_, fun m hm hok => main m false hm hok⟩
  cases n with
  | zero => simp [Sch.ok] at hok
  | succ m =>
   have hcov : (Region.ready .any ops listed).all (fun i => (k :: alt.keys).contains i) = true ∧ (Region.ready .any ops listed).contains k = true := by
    simp only [Sch.ok, Bool.and_eq_true, Bool.not_true, Bool.false_or] at hok
    exact ⟨hok.1.1.1.2, hok.1.1.1.1⟩
   have hin : ∀ i ∈ Region.ready .any ops listed, i ∈ (Sch.e k s alt).keys := fun i hi => by
    have := (List.all_eq_true.1 hcov.1) i hi
    exact contains_mem this
   refine ⟨fun h0 => ?_, fun i hi o ho => ?_⟩
   ·have := contains_mem hcov.2
    rw [h0] at this
    cases this
   ·obtain ⟨h1, h2⟩ := main m true rfl hok i (hin i hi) hi
    rw [if_pos h1]
    exact h2 o ho
end
end Go.Proofs.YtfcjehlhoebmnaaGreatDoor.Ab
namespace Go.Proofs.YtfcjehlhoebmnaaGreatDoor.Ab
open Go Go.RowKit
set_option linter.unusedVariables false
def mOk (M : Nat → Prop) (r : Option Nat) : Prop := ∀ i, r = some i → ¬ M i
theorem mOk_none' {r : Option Nat} : mOk none_ r = True := eq_true fun _ _ h => h
theorem idleS_op {o : Op} (h : idleS o = true) : idleOp o = true := by
 cases o
 case entry => simp [idleS] at h
 case call c =>
  obtain ⟨callee, args, ts⟩ := c
  cases callee with
  | builtin b => cases b <;> simp [idleS, idleOp] at h ⊢
  | _ => simp [idleS, idleOp] at h
 all_goals exact h
def siI (P : Program) (ol : List Oper) (M : Nat → Prop) (hs : AHeap) (K : Kt) : Sch → Bool → AFrame → AHeap → Prop
 | .done, _, f, h => @goI K f h
 | .stop, _, _, _ => True
 | .q k s, p, f, h => match ol[k]? with
  | some o => (p = true → mOk M (ridOp (f.eval h) o.op)) ∧ @qI P ol [o] ⟨h⟩ (.fn (fun f' _ => siI P ol M hs K s p f' h) (fun _ _ => False)) f
  | none => False
 | .c k s, p, f, h => match ol[k]? with
  | some o => (match wantedA ol o.guard f with
   | some true => ∃ g args v, opEval P o (f.eval h) h = some (.call g args) ∧ (∀ h', Keep hs h' M ∨ h' = h → Pure P g args h' v) ∧ siI P ol M hs K s p (f.put o.dst v) h
   | some false => siI P ol M hs K s p (f.put o.dst (.tuple [])) h
   | none => False)
  | none => False
 | .a k s, p, f, h => match ol[k]? with
  | some o => @opsI P ol [o] (.fn (fun f' h' => siI P ol M hs K s false f' h') (fun _ h' => ∀ f, Kt.exc K f h')) f h
  | none => False
 | .e k s alt, p, f, h => (match ol[k]? with
  | some o => @opsI P ol [o] (.fn (fun f' h' => Keep hs h' M ∧ siI P ol M hs K s false f' h') (fun _ h' => ∀ f, Kt.exc K f h')) f h
  | none => False) ∧ siI P ol M hs K alt p f h
section
variable {P : Program} {ol : List Oper} {M : Nat → Prop} {hs h : AHeap} {K : Kt} {f : AFrame} {k : Nat} {s alt : Sch} {p : Bool} {o : Oper}
def sqI (P : Program) (ol : List Oper) (M : Nat → Prop) (hs : AHeap) (K : Kt) (s : Sch) (p : Bool) (f : AFrame) (h : AHeap) : Option Oper → Prop
 | some o => (p = true → mOk M (ridOp (f.eval h) o.op)) ∧ @qI P ol [o] ⟨h⟩ (.fn (fun f' _ => siI P ol M hs K s p f' h) (fun _ _ => False)) f
 | none => False
def saI (P : Program) (ol : List Oper) (M : Nat → Prop) (hs : AHeap) (K : Kt) (s : Sch) (f : AFrame) (h : AHeap) : Option Oper → Prop
 | some o => @opsI P ol [o] (.fn (fun f' h' => siI P ol M hs K s false f' h') (fun _ h' => ∀ f, Kt.exc K f h')) f h
 | none => False
theorem siI_done : siI P ol M hs K .done p f h = @goI K f h := nr rfl
theorem siI_q : siI P ol M hs K (.q k s) p f h = sqI P ol M hs K s p f h ol[k]? := by
 unfold siI sqI; cases ol[k]? <;> rfl
theorem siI_a : siI P ol M hs K (.a k s) p f h = saI P ol M hs K s f h ol[k]? := by
 unfold siI saI; cases ol[k]? <;> rfl
theorem sqI_some : sqI P ol M hs K s p f h (some o) = ((p = true → mOk M (ridOp (f.eval h) o.op)) ∧ @qI P ol [o] ⟨h⟩ (.fn (fun f' _ => siI P ol M hs K s p f' h) (fun _ _ => False)) f) := nr rfl
theorem siI_c {fid : FuncId} {args : List V} {v : V} (ho : ol[k]? = some o) (hg : wantedA ol o.guard f = some true) (hc : opEval P o (f.eval h) h = some (.call fid args)) (hp : ∀ h', Keep hs h' M ∨ h' = h → Pure P fid args h' v)
  (hk : siI P ol M hs K s p (f.put o.dst v) h) : siI P ol M hs K (.c k s) p f h := by
 unfold siI
 rw [ho]
 simp only
 rw [hg]
 exact ⟨_, _, _, hc, hp, hk⟩
end
theorem siI_evS {P : Program} {ops : Array Oper} {es : List Nat} {M : Nat → Prop} {hs : AHeap} {K : Kt} : ∀ (s : Sch) (n : Nat) (top p kf : Bool) (listed : Array Bool) (f : AFrame) (h : AHeap),
  s.ok ops es n top p kf listed = true → siI P ops.toList M hs K s p f h → evS P ops.toList M hs K.go (fun h => ∀ f, Kt.exc K f h) s p f h := by
 intro s
 induction s with
 | done => intro n top p kf listed f h _ he; exact he
 | stop => intro n top p kf listed f h _ he; trivial
 | q k s ih =>
  intro n top p kf listed f h hok he
  cases n with
  | zero => simp [Sch.ok] at hok
  | succ n =>
   cases ho : ops[k]? with
   | none => simp [Sch.ok, ho] at hok
   | some o =>
    simp only [Sch.ok, ho, Bool.and_eq_true] at hok
    have hid := hok.1.1.2
    have hs2 := hok.2
    have hol : ops.toList[k]? = some o := by simpa using ho
    simp only [siI, hol] at he
    simp only [evS, hol]
    obtain ⟨hm, hq⟩ := he
    unfold qI quietA at hq
    cases hw : wantedA ops.toList o.guard f with
    | none => rw [hw] at hq; exact hq.elim
    | some b =>
     rw [hw] at hq
     cases b with
     | true =>
      obtain ⟨v, hst, hr⟩ := hq
      have hv : opEval P o (f.eval h) h = some (.val v h) := by
       rcases hst with hst | ⟨g, args, hst, _⟩
       ·exact hst
       ·obtain ⟨u, hu⟩ := idle_val (idleS_op hid) hst
        cases hu
      exact ⟨v, ⟨hv, hm⟩, ih n true p kf _ _ h hs2 hr⟩
     | false => exact ih n true p kf _ _ h hs2 hq
 | c k s ih =>
  intro n top p kf listed f h hok he
  cases n with
  | zero => simp [Sch.ok] at hok
  | succ n =>
   cases ho : ops[k]? with
   | none => simp [Sch.ok, ho] at hok
   | some o =>
    simp only [Sch.ok, ho, Bool.and_eq_true] at hok
    have hs2 := hok.2
    have hol : ops.toList[k]? = some o := by simpa using ho
    simp only [siI, hol] at he
    simp only [evS, hol]
    cases hw : wantedA ops.toList o.guard f with
    | none => rw [hw] at he; exact he
    | some b =>
     rw [hw] at he
     cases b with
     | true =>
      obtain ⟨g, args, v, h1, h2, h3⟩ := he
      exact ⟨g, args, v, h1, h2, ih n true p kf _ _ h hs2 h3⟩
     | false => exact ih n true p kf _ _ h hs2 he
 | a k s ih =>
  intro n top p kf listed f h hok he
  cases n with
  | zero => simp [Sch.ok] at hok
  | succ n =>
   simp only [Sch.ok, Bool.and_eq_true] at hok
   have hs2 := hok.2
   simp only [siI] at he
   simp only [evS]
   cases hol : ops.toList[k]? with
   | none => rw [hol] at he; exact he
   | some o =>
    rw [hol] at he
    simp only at he ⊢
    unfold opsI opsA at he
    cases hw : wantedA ops.toList o.guard f with
    | none => rw [hw] at he; exact he
    | some b =>
     rw [hw] at he
     cases b with
     | true => exact stepA_weak (fun f' h' hh => ih n true false false _ f' h' hs2 hh) (fun _ _ hh => hh) he
     | false => exact ih n true false false _ _ h hs2 he
 | e k s alt ih1 ih2 =>
  intro n top p kf listed f h hok he
  cases n with
  | zero => simp [Sch.ok] at hok
  | succ n =>
   simp only [Sch.ok, Bool.and_eq_true] at hok
   obtain ⟨⟨⟨_, _⟩, hs2⟩, halt⟩ := hok
   simp only [siI] at he
   simp only [evS]
   refine ⟨?_, ih2 (n + 1) false p kf _ f h halt he.2⟩
   have h1 := he.1
   cases hol : ops.toList[k]? with
   | none => rw [hol] at h1; exact h1
   | some o =>
    rw [hol] at h1
    simp only at h1 ⊢
    unfold opsI opsA at h1
    cases hw : wantedA ops.toList o.guard f with
    | none => rw [hw] at h1; exact h1
    | some b =>
     rw [hw] at h1
     cases b with
     | true => exact stepA_weak (fun f' h' hh => ⟨hh.1, ih1 n true false true _ f' h' hs2 hh.2⟩) (fun _ _ hh => hh) h1
     | false => exact ⟨h1.1, ih1 n true false true _ _ h hs2 h1.2⟩
theorem SWp.drawnS {P : Program} {n id : Nat} {ops : Array Oper} (M : Nat → Prop) (es : List Nat) (s : Sch) (hm : P.follows .mixedOrders = true) (hB : s.ok ops es ops.size true true true (Array.replicate ops.size false) = true) (hok : ops.toList.all (fun o => dstOk n o.dst) = true) {Q : Qt} {f : AFrame} {h : AHeap}
  (hq : siI P ops.toList M h (.out Q) s true f h) : SWp P n (.region id ops true) Q.go f h := by
 intro ρ B w0 a w hw hf
 refine wpIn_wide.1 (wpIn_region_any (n := 0) hm (anyG_sound (ρ0 := ρ) (es := es) hok _ _ f h ρ a _ (Ren.le.refl ρ) hw.drew hf ?_))
 have := (evS_any (es := es) hw.wf s _ true true _ f h (fun _ => rfl) (fun _ => Keep.refl _ _) (fun k o ho hk => by simp [Array.getElem?_replicate] at hk; split at hk <;> simp_all) (siI_evS s _ true true true _ f h hB hq)).1 hB
 exact anyS_G (fun f h hx => hx f) _ _ _ _ this
end Go.Proofs.YtfcjehlhoebmnaaGreatDoor.Ab
namespace Go.Proofs.YtfcjehlhoebmnaaGreatDoor.Ab
open Go Go.RowKit
set_option linter.unusedVariables false
def kindsOf (P : Program) : Nat → List Field → Option (List Nat)
 | _, [] => some []
 | o, f :: fs => if f.name ≠ "_" ∧ f.offset = o then
   match P.underlying f.type, kindsOf P (o + 1) fs with
   | some (.int _), some l => some (0 :: l)
   | some .bool, some l => some (1 :: l)
   | some .string, some l => some (2 :: l)
   | _, _ => none
  else none
def structK (P : Program) (t : TypeId) : Option (List Nat) := match P.underlying t with
 | some (.struct fs) => if P.stoodInHeld t = false ∧ P.eqGuardType P.depth t = false then kindsOf P 0 fs.toList else none
 | _ => none
def eqK : List Nat → List V → List V → Option Bool
 | [], [], [] => some true
 | 0 :: ks, .int k a :: r, .int k' b :: s => if k = k' then (eqK ks r s).map fun x => (a == b) && x else none
 | 1 :: ks, .bool a :: r, .bool b :: s => (eqK ks r s).map fun x => (a == b) && x
 | 2 :: ks, .string a :: r, .string b :: s => (eqK ks r s).map fun x => (a.toList == b.toList) && x
 | _, _, _ => none
section
variable {P : Program}
theorem pr_pure {α : Type} {a : α} : pureRun P (pure a : Sem α) = some a := rfl
theorem pr_program : pureRun P program = some P := rfl
theorem pr_underlying {t : TypeId} {d : TypeDesc} (h : P.underlying t = some d) : pureRun P (underlying t) = some d := pureRun_underlying h
theorem pr_part {t : TypeId} {d : TypeDesc} {cs : Array Value} {o : Nat} {v : Value} (hu : P.underlying t = some d) (hd : d.isRow = false) (hv : cs[o]? = some v) : pureRun P (part t cs o) = some v := by
 have ha : pureRun P (isAgg t) = some false := by
  unfold isAgg
  rw [pureRun_bind, pr_underlying hu]
  cases d <;> simp_all [TypeDesc.isRow, pr_pure]
 unfold part
 rw [pureRun_bind, ha]
 simp [hv, pr_pure]
theorem pr_equal_int {d : Nat} {t : TypeId} {k k' : IntKind} {a b : Int} (h : P.underlying t = some (.int k')) : pureRun P (Op.equalIn (d + 1) t (.int k a) (.int k b)) = some (a == b) := by
 unfold Op.equalIn
 rw [pureRun_bind, pr_underlying h]
 simp [pr_pure]
theorem pr_equal_bool {d : Nat} {t : TypeId} {a b : Bool} (h : P.underlying t = some .bool) : pureRun P (Op.equalIn (d + 1) t (.bool a) (.bool b)) = some (a == b) := by
 unfold Op.equalIn
 rw [pureRun_bind, pr_underlying h]
 simp [pr_pure]
theorem pr_equal_str {d : Nat} {t : TypeId} {a b : ByteArray} (h : P.underlying t = some .string) : pureRun P (Op.equalIn (d + 1) t (.string a) (.string b)) = some (a.toList == b.toList) := by
 unfold Op.equalIn
 rw [pureRun_bind, pr_underlying h]
 simp [pr_pure, beq_toListBytes]
theorem drop_cons {α : Type} {l : List α} {o : Nat} {a : α} {r : List α} (h : l.drop o = a :: r) : l[o]? = some a ∧ l.drop (o + 1) = r := by
 have h1 : (l.drop o)[0]? = some a := by rw [h]; rfl
 rw [List.getElem?_drop] at h1
 refine ⟨by simpa using h1, ?_⟩
 rw [← List.drop_drop, h]; rfl
theorem eqF_run {d : Nat} {X Y : Array Value} : ∀ (fs : List Field) (o : Nat) (ks : List Nat) (xs ys : List V) (vx vy : List Value) (b : Bool), kindsOf P o fs = some ks → eqK ks xs ys = some b → flatL xs = some vx → flatL ys = some vy →
  X.toList.drop o = vx → Y.toList.drop o = vy → pureRun P (Op.eqFields (d + 1) X Y fs) = some b
 | [], o, ks, xs, ys, vx, vy, b, hk, he, hx, hy, hX, hY => by
  simp [kindsOf] at hk
  subst hk
  cases xs <;> cases ys <;> simp [eqK] at he
  subst he
  rfl
 | f :: fs, o, ks, xs, ys, vx, vy, b, hk, he, hx, hy, hX, hY => by
  unfold kindsOf at hk
  split at hk
  case isFalse => cases hk
  rename_i hn
  have go : ∀ (a' b' : Value) (r1 r2 : List V) (w1 w2 : List Value) (q x : Bool) (ks' : List Nat) (dd : TypeDesc), P.underlying f.type = some dd → dd.isRow = false → X.toList.drop o = a' :: w1 → Y.toList.drop o = b' :: w2 → kindsOf P (o + 1) fs = some ks' → eqK ks' r1 r2 = some x → flatL r1 = some w1 → flatL r2 = some w2 →
    pureRun P (Op.equalIn (d + 1) f.type a' b') = some q → pureRun P (Op.eqFields (d + 1) X Y (f :: fs)) = some (q && x) := fun a' b' r1 r2 w1 w2 q x ks' dd hu hd h1 h2 h3 h4 h5 h6 h7 => by
   obtain ⟨g1, g2⟩ := drop_cons h1
   obtain ⟨g3, g4⟩ := drop_cons h2
   have ih := eqF_run (d := d) fs (o + 1) ks' r1 r2 w1 w2 x h3 h4 h5 h6 g2 g4
   unfold Op.eqFields
   rw [if_pos hn.1, pureRun_bind, hn.2, pr_part hu hd (by rw [← Array.getElem?_toList]; exact g1)]
   simp only [Option.bind_some]
   rw [pureRun_bind, pr_part hu hd (by rw [← Array.getElem?_toList]; exact g3)]
   simp only [Option.bind_some]
   rw [pureRun_bind, h7]
   simp only [Option.bind_some]
   cases q
   ·rfl
   ·simpa using ih
  cases hks : kindsOf P (o + 1) fs with
  | none => rw [hks] at hk; split at hk <;> simp_all
  | some ks' =>
   rw [hks] at hk
   cases hu : P.underlying f.type with
   | none => rw [hu] at hk; cases hk
   | some dd =>
    rw [hu] at hk
    cases dd <;> simp only at hk <;> try (cases hk; done)
    case int kk =>
     obtain rfl := Option.some.inj hk
     cases xs with
     | nil => simp [eqK] at he
     | cons xv r1 =>
      cases ys with
      | nil => cases xv <;> simp [eqK] at he
      | cons yv r2 =>
       cases xv <;> cases yv <;> first | (simp [eqK] at he; done) | skip
       rename_i k1 a k2 c
       have he' : (if k1 = k2 then (eqK ks' r1 r2).map (fun x => (a == c) && x) else none) = some b := he
       split at he'
       case isFalse => cases he'
       rename_i hkk
       subst hkk
       obtain ⟨x, hx2, rfl⟩ := Option.map_eq_some_iff.1 he'
       simp only [flatL, flatV] at hx hy
       cases h5 : flatL r1 with
       | none => rw [h5] at hx; cases hx
       | some w1 =>
        cases h6 : flatL r2 with
        | none => rw [h6] at hy; cases hy
        | some w2 =>
         rw [h5] at hx; rw [h6] at hy
         obtain rfl := Option.some.inj hx
         obtain rfl := Option.some.inj hy
         exact go _ _ r1 r2 w1 w2 _ x ks' _ hu rfl hX hY hks hx2 h5 h6 (pr_equal_int hu)
    case bool =>
     obtain rfl := Option.some.inj hk
     cases xs with
     | nil => simp [eqK] at he
     | cons xv r1 =>
      cases ys with
      | nil => cases xv <;> simp [eqK] at he
      | cons yv r2 =>
       cases xv <;> cases yv <;> first | (simp [eqK] at he; done) | skip
       rename_i a c
       obtain ⟨x, hx2, rfl⟩ := Option.map_eq_some_iff.1 he
       simp only [flatL, flatV] at hx hy
       cases h5 : flatL r1 with
       | none => rw [h5] at hx; cases hx
       | some w1 =>
        cases h6 : flatL r2 with
        | none => rw [h6] at hy; cases hy
        | some w2 =>
         rw [h5] at hx; rw [h6] at hy
         obtain rfl := Option.some.inj hx
         obtain rfl := Option.some.inj hy
         exact go _ _ r1 r2 w1 w2 _ x ks' _ hu rfl hX hY hks hx2 h5 h6 (pr_equal_bool hu)
    case string =>
     obtain rfl := Option.some.inj hk
     cases xs with
     | nil => simp [eqK] at he
     | cons xv r1 =>
      cases ys with
      | nil => cases xv <;> simp [eqK] at he
      | cons yv r2 =>
       cases xv <;> cases yv <;> first | (simp [eqK] at he; done) | skip
       rename_i a c
       obtain ⟨x, hx2, rfl⟩ := Option.map_eq_some_iff.1 he
       simp only [flatL, flatV] at hx hy
       cases h5 : flatL r1 with
       | none => rw [h5] at hx; cases hx
       | some w1 =>
        cases h6 : flatL r2 with
        | none => rw [h6] at hy; cases hy
        | some w2 =>
         rw [h5] at hx; rw [h6] at hy
         obtain rfl := Option.some.inj hx
         obtain rfl := Option.some.inj hy
         exact go _ _ r1 r2 w1 w2 _ x ks' _ hu rfl hX hY hks hx2 h5 h6 (pr_equal_str hu)
theorem eqK_flat : ∀ {ks : List Nat} {xs ys : List V} {b : Bool}, eqK ks xs ys = some b → ∃ vx vy, flatL xs = some vx ∧ flatL ys = some vy
 | [], xs, ys, b, h => by
  cases xs <;> cases ys <;> simp [eqK] at h
  exact ⟨[], [], rfl, rfl⟩
 | k :: ks, [], ys, b, h => by unfold eqK at h; split at h <;> simp_all
 | k :: ks, x :: xs, [], b, h => by unfold eqK at h; split at h <;> simp_all
 | k :: ks, x :: xs, y :: ys, b, h => by
  have fin : ∀ {a c : Value} {q : Option Bool}, flatV x = some a → flatV y = some c → eqK ks xs ys ≠ none → ∃ vx vy, flatL (x :: xs) = some vx ∧ flatL (y :: ys) = some vy := fun {a c q} h1 h2 h3 => by
   cases hq : eqK ks xs ys with
   | none => exact absurd hq h3
   | some b' =>
    obtain ⟨vx, vy, e1, e2⟩ := eqK_flat hq
    exact ⟨a :: vx, c :: vy, by simp [flatL, h1, e1], by simp [flatL, h2, e2]⟩
  unfold eqK at h
  split at h
  ·simp_all
  ·rename_i hks hxs hys
   simp only [List.cons.injEq] at hks hxs hys
   obtain ⟨rfl, rfl⟩ := hks
   obtain ⟨rfl, rfl⟩ := hxs
   obtain ⟨rfl, rfl⟩ := hys
   split at h
   ·exact fin (q := none) rfl rfl (by intro hh; rw [hh] at h; cases h)
   ·cases h
  ·rename_i hks hxs hys
   simp only [List.cons.injEq] at hks hxs hys
   obtain ⟨rfl, rfl⟩ := hks
   obtain ⟨rfl, rfl⟩ := hxs
   obtain ⟨rfl, rfl⟩ := hys
   exact fin (q := none) rfl rfl (by intro hh; rw [hh] at h; cases h)
  ·rename_i hks hxs hys
   simp only [List.cons.injEq] at hks hxs hys
   obtain ⟨rfl, rfl⟩ := hks
   obtain ⟨rfl, rfl⟩ := hxs
   obtain ⟨rfl, rfl⟩ := hys
   exact fin (q := none) rfl rfl (by intro hh; rw [hh] at h; cases h)
  ·cases h
theorem pr_equal_agg {t : TypeId} {ks : List Nat} {xs ys : List V} {vx vy : List Value} {b : Bool} (hk : structK P t = some ks) (he : eqK ks xs ys = some b) (hx : flatL xs = some vx) (hy : flatL ys = some vy) :
  pureRun P (Op.equal t (.agg vx.toArray) (.agg vy.toArray)) = some b ∧ P.eqGuardType P.depth t = false := by
 unfold structK at hk
 split at hk
 case h_2 => cases hk
 rename_i fs hu
 split at hk
 case isFalse => cases hk
 rename_i hst
 refine ⟨?_, hst.2⟩
 show pureRun P (Op.equalIn (9999 + 1) t _ _) = some b
 have hF : ∀ fs : List Field, pureRun P (forIn fs ((none, ()) : Option Bool × Unit) fun f r => if f.name ≠ "_" then do
   let a ← part f.type vx.toArray f.offset
   let c ← part f.type vy.toArray f.offset
   let q ← Op.equalIn 9999 f.type a c
   if (!q) = true then pure (ForInStep.done (some false, ())) else pure (ForInStep.yield (none, ()))
   else pure (ForInStep.yield (none, ()))) = (pureRun P (Op.eqFields 9999 vx.toArray vy.toArray fs)).map fun r => if r then (none, ()) else (some false, ()) := fun fs => by
  induction fs with
  | nil => rfl
  | cons f fs ih =>
   rw [List.forIn_cons]
   unfold Op.eqFields
   by_cases hn : f.name ≠ "_"
   ·rw [if_pos hn, if_pos hn]
    simp only [pureRun_bind, Option.bind_assoc]
    cases pureRun P (part f.type vx.toArray f.offset) with
    | none => rfl
    | some a =>
     simp only [Option.bind_some]
     cases pureRun P (part f.type vy.toArray f.offset) with
     | none => rfl
     | some c =>
      simp only [Option.bind_some]
      cases pureRun P (Op.equalIn 9999 f.type a c) with
      | none => rfl
      | some q =>
       cases q
       ·rfl
       ·simpa [pr_pure] using ih
   ·rw [if_neg hn, if_neg hn]
    simp only [pureRun_bind, pr_pure, Option.bind_some]
    exact ih
 have hrun := eqF_run (P := P) (d := 9998) (X := vx.toArray) (Y := vy.toArray) fs.toList 0 ks xs ys vx vy b hk he hx hy (by simp) (by simp)
 unfold Op.equalIn
 simp only [pureRun_bind, pr_underlying hu, Option.bind_some, pr_program, hst.1, Bool.false_eq_true, if_false]
 rw [← Array.forIn_toList]
 have h2 := hF fs.toList
 rw [hrun] at h2
 first
  | (simp only [pureRun_bind] at *; rw [h2]; cases b <;> rfl)
  | (erw [h2]; cases b <;> rfl)
end
end Go.Proofs.YtfcjehlhoebmnaaGreatDoor.Ab
namespace Go.Proofs.YtfcjehlhoebmnaaGreatDoor.Ab
open Go Go.RowKit
set_option linter.unusedVariables false
theorem append_ownM {P : Program} {t tx : TypeId} {T : SlT} (hT : slT P t = some T) (hpos : 0 < T.sz)
  {h : AHeap} {s x : V} {cs : List V} (ho : Own h T.e T.sz s cs) {n : Nat} {news : List V} (hsrc : aSrc P T.sz tx x h = some (n, news)) (hn : news.length = n * T.sz)
  (hm : ∀ m, m * T.sz = cs.length + news.length → m * T.bs ≤ lim ∧ m ≤ lim) :
  ∃ v h', aAppend P t tx s x h = some (v, h') ∧ Own h' T.e T.sz v (cs ++ news) ∧ Keep h h' (isId s) ∧ NewOr h s v := by
 obtain ⟨he, hz, hsz, hbs, hzs, _⟩ := slT_eq hT
 unfold aAppend
 simp only [he, hz, hsz, hbs, hzs, if_true, hsrc]
 have start : ∀ s : V, (s = .snil ∨ s = .z0) → cs = [] → ∃ v h', (if n = 0 then some (s, h) else if n * T.bs ≤ lim ∧ n ≤ lim then some (.sl h.n 0 n unk, h.push (.cells news T.e (some T.sz))) else none) = some (v, h') ∧ Own h' T.e T.sz v (cs ++ news) ∧ Keep h h' (isId s) ∧ NewOr h s v := fun s hs hcs => by
  subst hcs
  by_cases h0 : n = 0
  ·subst h0
   have : news = [] := List.eq_nil_of_length_eq_zero (by simpa using hn)
   subst this
   exact ⟨s, h, by simp, .inl ⟨hs, rfl⟩, Keep.refl _ _, .inl rfl⟩
  ·obtain ⟨c1, c2⟩ := hm n (by simp [hn])
   exact ⟨.sl h.n 0 n unk, h.push (.cells news T.e (some T.sz)), by simp [h0, c1, c2], Own.grown (by simp [AHeap.push]) (by simp [AHeap.push]) (by simpa using hn), Keep.push _ _ _, .inr fun k hk => by simp [idOf] at hk; omega⟩
 rcases ho with ⟨rfl | rfl, hcs⟩ | ⟨i, len, cap, c, ex, rfl, hi, hg, hlen, htake, hcap⟩
 ·exact start _ (.inl rfl) hcs
 ·exact start _ (.inr rfl) hcs
 ·by_cases h0 : n = 0
  ·subst h0
   have : news = [] := List.eq_nil_of_length_eq_zero (by simpa using hn)
   subst this
   exact ⟨.sl i 0 len cap, h, by simp, by rw [List.append_nil]; exact .inr ⟨i, len, cap, c, ex, rfl, hi, hg, hlen, htake, hcap⟩, Keep.refl _ _, .inl rfl⟩
  ·obtain ⟨c1, c2⟩ := hm (len + n) (by rw [Nat.add_mul, hlen, hn])
   have hcl : len * T.sz ≤ c.length := by
    have := congrArg List.length htake
    rw [List.length_take, hlen] at this
    omega
   simp only [h0, c1, c2, and_self, if_true, if_false, hg]
   rcases hcap with ⟨hcu, hclen, hle⟩ | ⟨rfl, rfl⟩
   ·simp only [hcu, if_true]
    by_cases hroom : len + n ≤ cap
    ·have hfit : 0 + (len + n) * T.sz ≤ c.length := by rw [Nat.zero_add]; exact Nat.le_trans (Nat.mul_le_mul_right _ hroom) hclen
     have hll : (lay c (len * T.sz) news).length = c.length := length_lay _ _ _ (by rw [hn, ← Nat.add_mul]; omega)
     simp only [hroom, if_true, hfit]
     refine ⟨_, _, rfl, .inr ⟨i, len + n, cap, lay c (0 + len * T.sz) news, ex, rfl, hi, by simp [AHeap.set], by simp [hlen, hn, Nat.add_mul], ?_, .inl ⟨hcu, ?_, hroom⟩⟩, ⟨Nat.le_refl _, fun j hj hne => ?_, rfl⟩, .inl rfl⟩
     ·simp only [Nat.zero_add, lay, htake, Nat.add_mul, ← hn]
      have : (cs ++ news).length = len * T.sz + news.length := by simp [hlen]
      rw [← this]
      exact List.take_left
     ·rw [Nat.zero_add, hll]; exact hclen
     ·simp only [AHeap.set]
      rw [if_neg (by intro hji; subst hji; simp [isId, idOf] at hne)]
    ·simp only [hroom, if_false]
     have hread : 0 + len * T.sz ≤ c.length := by omega
     simp only [hread, if_true, List.drop_zero, htake]
     exact ⟨_, _, rfl, Own.grown (by simp [AHeap.push]) (by simp [AHeap.push]) (by simp [hlen, hn, Nat.add_mul]), Keep.push _ _ _, .inr fun k hk => by simp [idOf] at hk; omega⟩
   ·simp only [Nat.lt_irrefl, if_false, true_and, hcl, and_self, if_true]
    refine ⟨_, _, rfl, Own.grown (by simp [AHeap.push, AHeap.set]) (by simp [AHeap.push, AHeap.set, htake]) (by simp [hlen, hn, Nat.add_mul]), ⟨by simp [AHeap.push, AHeap.set], fun j hj hne => ?_, rfl⟩, .inr fun k hk => by simp [idOf] at hk; omega⟩
    have h1 : j ≠ i := by intro hji; subst hji; simp [isId, idOf] at hne
    have h2 : j ≠ h.n := by omega
    simp [AHeap.push, AHeap.set, h1, h2]
theorem append_elemM {P : Program} {t : TypeId} {T : SlT} (hT : slT P t = some T) (hpos : 0 < T.sz)
  {h : AHeap} {s : V} {cs xs : List V} (ho : Own h T.e T.sz s cs) (hl : xs.length = T.sz) (hone : xs.all (·.one) = true)
  (hm : ∀ m, m * T.sz = cs.length + T.sz → m * T.bs ≤ lim ∧ m ≤ lim) :
  ∃ v h', aAppend P t t s (.sl h.n 0 1 1) (h.push (.cells xs T.e none)) = some (v, h') ∧ Own h' T.e T.sz v (cs ++ xs) ∧ Keep h h' (isId s) ∧ NewOr h s v := by
 obtain ⟨he, hz, hsz, hbs, hzs, hu⟩ := slT_eq hT
 have hk := Keep.push h (.cells xs T.e none) none_
 have hsrc : aSrc P T.sz t (.sl h.n 0 1 1) (h.push (.cells xs T.e none)) = some (1, xs) := by
  simp only [aSrc, hu, AHeap.push, if_true, Nat.one_mul, Nat.zero_add, List.drop_zero]
  rw [List.take_of_length_le (by omega), if_pos ⟨by omega, hone⟩]
 obtain ⟨v, h', ha, ho', hk', hid⟩ := append_ownM (tx := t) hT hpos (ho.keepN hk) hsrc (by omega) (by rw [hl]; exact hm)
 refine ⟨v, h', ha, ho', (hk.up).trans' hk', hid.imp id fun hh k hk2 => ?_⟩
 have := hh k hk2
 simp [AHeap.push] at this
 omega
section
variable {P : Program} {α : Type} {enc : α → List V} {sz : Nat}
theorem rows_len (he : ∀ x, (enc x).length = sz) : ∀ l : List α, (l.flatMap enc).length = l.length * sz
 | [] => by simp
 | x :: l => by rw [List.flatMap_cons, List.length_append, he, rows_len he l, List.length_cons, Nat.add_mul]; omega
theorem rows_drop (he : ∀ x, (enc x).length = sz) : ∀ (l : List α) (k : Nat), (l.flatMap enc).drop (k * sz) = (l.drop k).flatMap enc
 | l, 0 => by simp
 | [], k + 1 => by simp
 | x :: l, k + 1 => by
  rw [List.flatMap_cons, Nat.add_mul, Nat.one_mul, Nat.add_comm, ← List.drop_drop, List.drop_left' (he x), rows_drop he l k, List.drop_succ_cons]
theorem rows_ix (he : ∀ x, (enc x).length = sz) {l : List α} {k : Nat} (hk : k < l.length) {t : TypeId} {kk : IntKind} (hs : slSz P t = some sz) :
  aIndexAddr P t (.imm l.length (l.flatMap enc)) (.int kk (k : Int)) = some (.at (enc l[k] ++ (l.drop (k + 1)).flatMap enc)) := by
 rw [index_imm hs (by omega) (by omega) (rows_len he l), Int.toNat_natCast, rows_drop he, List.drop_eq_getElem_cons hk, List.flatMap_cons]
theorem load_row {e r : List V} (he : e.length = sz) : loadGo (some (some sz)) (some (e ++ r)) = some (.agg e) := by
 rw [loadGo_row, if_pos (by rw [List.length_append]; omega), List.take_left' he]
theorem rows_clo (he : ∀ x, CloL (enc x)) (l : List α) : CloL (l.flatMap enc) := CloL.flatMap fun x _ => he x
end
end Go.Proofs.YtfcjehlhoebmnaaGreatDoor.Ab
namespace Go.Proofs.YtfcjehlhoebmnaaGreatDoor.Ab
open Go Go.RowKit
set_option linter.unusedVariables false
inductive ShQ where
 | bool | int (k : IntKind) | str | sl (s : ShQ) | unit | cat (a b : ShQ) | ext (n : Nat)
def ShQ.width : ShQ → Nat
 | .unit => 0
 | .cat a b => a.width + b.width
 | .ext n => n
 | _ => 1
def ShQ.fitsQ (Q : List V → Prop) : ShQ → List V → Prop
 | .ext n, l => Q l ∧ l.length = n
 | .bool, l => ∃ b, l = [.bool b]
 | .int k, l => ∃ n, l = [.int k n] ∧ (Lit.int k n).wf = true
 | .str, l => ∃ s, l = [.string s]
 | .sl s, l => ∃ es : List (List V), l = [.imm es.length es.flatten] ∧ es.length < 2 ^ 47 ∧ ∀ e ∈ es, s.fitsQ Q e
 | .unit, l => l = []
 | .cat a b, l => ∃ l1 l2, l = l1 ++ l2 ∧ a.fitsQ Q l1 ∧ b.fitsQ Q l2
theorem ShQ.fitsQ_length {Q : List V → Prop} : ∀ {s : ShQ} {l : List V}, s.fitsQ Q l → l.length = s.width
 | .ext _, _, ⟨_, h⟩ => h
 | .bool, _, ⟨_, h⟩ => by subst h; rfl
 | .int _, _, ⟨_, h, _⟩ => by subst h; rfl
 | .str, _, ⟨_, h⟩ => by subst h; rfl
 | .sl _, _, ⟨_, h, _⟩ => by subst h; rfl
 | .unit, _, h => by have : _ = [] := h; subst this; rfl
 | .cat a b, _, ⟨l1, l2, h, h1, h2⟩ => by subst h; rw [List.length_append, ShQ.fitsQ_length h1, ShQ.fitsQ_length h2]; rfl
def shFieldsQ (P : Program) (g : TypeId → Option ShQ) : Nat → List Field → Option ShQ
 | _, [] => some .unit
 | o, f :: fs =>
  if f.offset = o then
   match g f.type, shFieldsQ P g (o + P.cellsOf f.type) fs with
   | some s, some r => if s.width = P.cellsOf f.type then some (.cat s r) else none
   | _, _ => none
  else none
def shapeOfQ (P : Program) (T0 : TypeId) : Nat → TypeId → Option ShQ
 | 0, _ => none
 | n + 1, t =>
  if t = T0 then some (.ext (P.cellsOf t)) else
  match P.underlying t with
  | some .bool => some .bool
  | some (.int k) => some (.int k)
  | some .string => some .str
  | some (.slice e) => match shapeOfQ P T0 n e with | some s => if s.width = P.cellsOf e ∧ 0 < s.width ∧ 1 ≤ P.bytesOf e then some (.sl s) else none | none => none
  | some (.struct fs) => match shFieldsQ P (shapeOfQ P T0 n) 0 fs.toList with | some s => if s.width = P.cellsOf t then some s else none | none => none
  | _ => none
section
variable {H : Type} {enc : TypeId × Value → H} {P : Program} {w : World} {base : Nat} {spare : Nat → Bool} {held : Bool} {Q : List V → Prop} {T0 : TypeId}
theorem fields_readQ {g : TypeId → Option ShQ} {cs : List Value} {fu : Nat} (hg : ∀ t s cs x, g t = some s → DataW.trod enc P w base spare held fu t cs = some x → (∀ n ∈ x.1.weights P t, n ≤ reachBytes) → ∃ l, s.fitsQ Q l ∧ LRel (entryRen w) l cs) :
  ∀ (fs : List Field) (o : Nat) (s : ShQ) (xs : List (DataW H × List MemPlace)), shFieldsQ P g o fs = some s → xs.length = fs.length →
   (∀ (i : Nat) (f : Field), fs[i]? = some f → DataW.trod enc P w base spare held fu f.type ((cs.drop f.offset).take (P.cellsOf f.type)) = xs[i]?) → (∀ n ∈ DataW.weightsEach P (fs.map (·.type)) (xs.map (·.1)), n ≤ reachBytes) → ∃ l, s.fitsQ Q l ∧ LRel (entryRen w) l ((cs.drop o).take s.width)
 | [], o, s, xs, hs, _, _, _ => by
  simp [shFieldsQ] at hs
  subst hs
  exact ⟨[], rfl, by simpa [ShQ.width] using LRel.nil _⟩
 | f :: fs, o, s, xs, hs, hl, hx, hb => by
  unfold shFieldsQ at hs
  split at hs
  case isFalse => cases hs
  rename_i ho
  split at hs
  case h_2 => cases hs
  rename_i s1 s2 h1 h2
  split at hs
  case isFalse => cases hs
  rename_i hw
  obtain rfl := Option.some.inj hs
  cases xs with
  | nil => simp at hl
  | cons x xs =>
   have hx0 := hx 0 f rfl
   obtain ⟨l1, f1, r1⟩ := hg _ _ _ _ h1 hx0 (fun n hn => hb n (by simp only [List.map_cons, DataW.weightsEach, List.mem_append]; exact .inl hn))
   obtain ⟨l2, f2, r2⟩ := fields_readQ hg fs _ s2 xs h2 (by simpa using hl) (fun i f' hf => hx (i + 1) f' (by simpa using hf)) (fun n hn => hb n (by simp only [List.map_cons, DataW.weightsEach, List.mem_append]; exact .inr hn))
   refine ⟨l1 ++ l2, ⟨l1, l2, rfl, f1, f2⟩, ?_⟩
   have := r1.append r2
   rw [ho, ← hw] at this
   have e : ((cs.drop o).take s1.width) ++ ((cs.drop (o + s1.width)).take s2.width) = (cs.drop o).take (s1.width + s2.width) := by
    rw [List.take_add, List.drop_drop]
   rw [e] at this
   exact this
theorem readsQ : ∀ (n : Nat) (t : TypeId) (s : ShQ) (fuel : Nat) (cs : List Value) (x : DataW H × List MemPlace), (∀ k, k ≤ fuel → ∀ cs x, DataW.trod enc P w base spare held k T0 cs = some x → (∀ n ∈ x.1.weights P T0, n ≤ reachBytes) → ∃ l, Q l ∧ l.length = P.cellsOf T0 ∧ LRel (entryRen w) l cs) → shapeOfQ P T0 n t = some s → DataW.trod enc P w base spare held fuel t cs = some x → (∀ n ∈ x.1.weights P t, n ≤ reachBytes) → ∃ l, s.fitsQ Q l ∧ LRel (entryRen w) l cs
 | 0, _, _, _, _, _, _, hs, _, _ => by simp [shapeOfQ] at hs
 | n + 1, t, s, fuel, cs, x, hQ, hs, h, hB => by
  unfold shapeOfQ at hs
  by_cases ht : t = T0
  ·rw [if_pos ht] at hs
   obtain rfl := Option.some.inj hs
   subst ht
   obtain ⟨l, h1, h2, h3⟩ := hQ fuel (Nat.le_refl _) cs x h hB
   exact ⟨l, ⟨h1, h2⟩, h3⟩
  rw [if_neg ht] at hs
  split at hs
  ·rename_i hu
   obtain rfl := Option.some.inj hs
   obtain ⟨b, rfl, _⟩ := DataW.trod_bool hu h
   exact ⟨[.bool b], ⟨b, rfl⟩, .cons (.bool b) (.nil _)⟩
  ·rename_i k hu
   obtain rfl := Option.some.inj hs
   obtain ⟨m, rfl, _, hw⟩ := DataW.trod_int hu h
   exact ⟨[.int k m], ⟨m, rfl, hw⟩, .cons (.int k m) (.nil _)⟩
  ·rename_i hu
   obtain rfl := Option.some.inj hs
   obtain ⟨b, rfl, _⟩ := DataW.trod_string hu h
   exact ⟨[.string b], ⟨b, rfl⟩, .cons (.string b) (.nil _)⟩
  ·rename_i e hu
   split at hs
   case h_2 => cases hs
   rename_i s1 hs1
   split at hs
   case isFalse => cases hs
   rename_i hw
   obtain rfl := Option.some.inj hs
   rcases DataW.trod_slice hu h with ⟨rfl, _⟩ | ⟨a, len, cap, elems, rest, m, hfu, rfl, hxx, _, hlc, _, hel, hget, _⟩
   ·exact ⟨[.imm 0 []], ⟨[], rfl, by decide, by simp⟩, .cons (.immZ none 0 (by simp)) (.nil _)⟩
   ·rcases Nat.eq_zero_or_pos len with h0 | hpos
    ·subst h0
     exact ⟨[.imm 0 []], ⟨[], rfl, by decide, by simp⟩, .cons (.immZ (some a) cap (by simp)) (.nil _)⟩
    ·have each : ∀ i, i < len → ∃ l : List V, s1.fitsQ Q l ∧ ∃ ci : List Value, LRel (entryRen w) l ci ∧ ∀ j, j < s1.width → w.cell? ((a.add (i * s1.width)).add j) = ci[j]? ∧ j < ci.length := fun i hi => by
      have h1 := hget i hi
      have h2 : ∃ y, elems[i]? = some y := ⟨_, List.getElem?_eq_getElem (by omega)⟩
      obtain ⟨y, hy⟩ := h2
      rw [hy, Option.bind_eq_some_iff] at h1
      obtain ⟨ci, hc1, hc2⟩ := h1
      obtain ⟨l, f1, r1⟩ := readsQ n e s1 m ci y (fun k hk => hQ k (by omega)) hs1 hc2 (fun n hn => hB n (by
       rw [hxx]
       simp only [DataW.weights, hu]
       exact List.mem_cons_of_mem _ (List.mem_append_left _ (weightsAll_mem (List.mem_map.2 ⟨y, List.mem_of_getElem? hy, rfl⟩) hn))))
      rw [← hw.1] at hc1
      obtain ⟨g1, g2⟩ := cells_get hc1
      exact ⟨l, f1, ci, r1, fun j hj => ⟨g2 j hj, by omega⟩⟩
     obtain ⟨es, hes1, hes2⟩ := pick_all len each
     have hmem : ∀ e ∈ es, s1.fitsQ Q e := fun e he => by
      obtain ⟨i, hi⟩ := List.getElem?_of_mem he
      exact (hes2 i e hi).1
     have hlen : ∀ e ∈ es, e.length = s1.width := fun e he => ShQ.fitsQ_length (hmem e he)
     obtain ⟨b, off, sp⟩ := a
     have c0 : ∃ v, w.cell? ⟨b, off, sp⟩ = some v := by
      obtain ⟨_, ci, _, hc⟩ := (hes2 0 es[0] (List.getElem?_eq_getElem (by omega)))
      obtain ⟨q1, q2⟩ := hc 0 hw.2.1
      rw [Nat.zero_mul] at q1
      simp only [Addr.add, if_true] at q1
      exact ⟨_, q1.trans (List.getElem?_eq_getElem q2)⟩
     obtain ⟨v0, hv0⟩ := c0
     have hb : ∃ arr et fz, w.heap[b]? = some (.cells arr et fz) ∧ sp = none := by
      unfold World.cell? at hv0
      split at hv0
      ·rename_i c et fz hq
       refine ⟨c, et, fz, hq, ?_⟩
       cases sp with
       | none => rfl
       | some _ => simp at hv0
      ·cases hv0
     obtain ⟨arr, et, fz, hb, rfl⟩ := hb
     have hcell : ∀ m, w.cell? (Addr.add ⟨b, off, none⟩ m) = arr[off + m]? := fun m => by
      rw [Addr.add_mid]
      simp [World.cell?, hb]
     have hat : ∀ i j, j < s1.width → w.cell? ((Addr.add ⟨b, off, none⟩ (i * s1.width)).add j) = arr[off + (i * s1.width + j)]? := fun i j _ => by
      rw [Addr.add_mid, Addr.add_mid]
      simp [World.cell?, hb, Nat.add_assoc]
     have hsz : es.length < 2 ^ 47 := by
      have h0 := hB ((elems.length + rest.length) * P.bytesOf e) (by rw [hxx]; simp [DataW.weights, hu])
      have h1 := Nat.le_trans (Nat.le_mul_of_pos_right _ hw.2.2) h0
      have h2 := reachBytes_lt
      omega
     refine ⟨[.imm es.length es.flatten], ⟨es, rfl, hsz, hmem⟩, .cons ?_ (.nil _)⟩
     rw [hes1]
     refine .imm off len cap (entry_frz hb) hlc ?_ fun k v v' h1 h2 => ?_
     ·rw [flatten_len hlen, hes1]
      obtain ⟨_, ci, _, hc⟩ := (hes2 (len - 1) es[len - 1] (List.getElem?_eq_getElem (by omega)))
      obtain ⟨q1, q2⟩ := hc (s1.width - 1) (by omega)
      rw [hat _ _ (by omega), List.getElem?_eq_getElem q2] at q1
      have q3 := (Array.getElem?_eq_some_iff.1 q1).1
      have : (len - 1) * s1.width + s1.width = len * s1.width := by
       rw [← Nat.succ_mul]; congr 1; omega
      omega
     ·obtain ⟨e1, g1, g2⟩ := flatten_get hw.2.1 hlen h1
      obtain ⟨_, ci, hr, hc⟩ := hes2 _ e1 g1
      have hj : k % s1.width < s1.width := Nat.mod_lt _ hw.2.1
      obtain ⟨q1, q2⟩ := hc _ hj
      rw [hat _ _ hj, show k / s1.width * s1.width + k % s1.width = k by rw [Nat.mul_comm]; exact Nat.div_add_mod k s1.width, h2] at q1
      exact hr.2 _ _ _ g2 q1.symm
  ·rename_i fs hu
   split at hs
   case h_2 => cases hs
   rename_i s1 hs1
   split at hs
   case isFalse => cases hs
   rename_i hw
   obtain rfl := Option.some.inj hs
   obtain ⟨xs, m, hfu, hxx, hcl, hxl, hx⟩ := DataW.trod_struct hu h
   obtain ⟨l, f1, r1⟩ := fields_readQ (fu := m) (fun t s cs x h1 h2 h3 => readsQ n t s m cs x (fun k hk => hQ k (by omega)) h1 h2 h3) fs.toList 0 s1 xs hs1 (by simpa using hxl) (fun i f hf => hx i f (by simpa using hf)) (fun n hn => hB n (by rw [hxx]; simp only [DataW.weights, hu]; exact hn))
   rw [List.drop_zero, hw, ← hcl, List.take_length] at r1
   exact ⟨l, f1, r1⟩
  ·cases hs
theorem readsSelf {n : Nat} {fs : Array Field} {s1 : ShQ} (hu : P.underlying T0 = some (.struct fs)) (hs1 : shFieldsQ P (shapeOfQ P T0 n) 0 fs.toList = some s1) (hw : s1.width = P.cellsOf T0) (hQ : ∀ l, s1.fitsQ Q l → Q l) :
  ∀ (fuel : Nat) (cs : List Value) (x : DataW H × List MemPlace), DataW.trod enc P w base spare held fuel T0 cs = some x → (∀ n ∈ x.1.weights P T0, n ≤ reachBytes) → ∃ l, Q l ∧ l.length = P.cellsOf T0 ∧ LRel (entryRen w) l cs := by
 intro fuel
 induction fuel using Nat.strongRecOn with
 | _ fuel ih =>
  intro cs x h hB
  obtain ⟨xs, m, hfu, hxx, hcl, hxl, hx⟩ := DataW.trod_struct hu h
  obtain ⟨l, f1, r1⟩ := fields_readQ (Q := Q) (fu := m) (fun t s cs x h1 h2 h3 => readsQ (Q := Q) n t s m cs x (fun k hk => ih k (by omega)) h1 h2 h3) fs.toList 0 s1 xs hs1 (by simpa using hxl) (fun i f hf => hx i f (by simpa using hf)) (fun n hn => hB n (by rw [hxx]; simp only [DataW.weights, hu]; exact hn))
  rw [List.drop_zero, hw, ← hcl, List.take_length] at r1
  exact ⟨l, hQ l f1, by rw [ShQ.fitsQ_length f1, hw], r1⟩
theorem reads_ext {n n' : Nat} {fs : Array Field} {s1 : ShQ} (hu : P.underlying T0 = some (.struct fs)) (hs1 : shFieldsQ P (shapeOfQ P T0 n) 0 fs.toList = some s1) (hw : s1.width = P.cellsOf T0) (hQ : ∀ l, s1.fitsQ Q l → Q l)
  {t : TypeId} {s : ShQ} (hs : shapeOfQ P T0 n' t = some s) {fuel : Nat} {cs : List Value} {x : DataW H × List MemPlace} (h : DataW.trod enc P w base spare held fuel t cs = some x) (hB : ∀ n ∈ x.1.weights P t, n ≤ reachBytes) : ∃ l, s.fitsQ Q l ∧ LRel (entryRen w) l cs :=
 readsQ n' t s fuel cs x (fun k _ cs x h hB => readsSelf hu hs1 hw hQ k cs x h hB) hs h hB
end
end Go.Proofs.YtfcjehlhoebmnaaGreatDoor.Ab
namespace Go.Proofs.YtfcjehlhoebmnaaGreatDoor.Ab
open Go Go.RowKit
set_option linter.unusedVariables false
set_option linter.unusedSimpArgs false
def SDefR (P : Program) (g : FuncId) (args : List V) (h : AHeap) (R : AHeap → Prop) : Prop :=
 ∀ (ρ : Ren) (B : Nat) (w0 w : World) (args' : Array Value), WRel ρ B w0 h w → LRel ρ args args'.toList →
  CallsD P g args' .returning w fun e u' w' => e = .returned (.tuple #[]) ∧ u' = .returning ∧ ∃ (ρ' : Ren) (h' : AHeap), WRel ρ' B w0 h' w' ∧ ρ.le ρ' ∧ R h'
def SDefP (P : Program) (g : FuncId) (args : List V) (h : AHeap) (R : AHeap → Prop) : Prop :=
 ∀ (ρ : Ren) (B : Nat) (w0 w : World) (args' : Array Value) (t : TypeId) (v : Value), WRel ρ B w0 h w → LRel ρ args args'.toList →
  CallsD P g args' (.panicking [{ v := .iface t v, recovered := false }]) w fun e u' w' => e = .returned (.tuple #[]) ∧ u' = .panicking [{ v := .iface t v, recovered := true }] ∧ ∃ (ρ' : Ren) (h' : AHeap), WRel ρ' B w0 h' w' ∧ ρ.le ρ' ∧ R h'
def endsV (P : Program) (fn : Func) (R : V → AHeap → Prop) (f : AFrame) (h : AHeap) : Prop := match resultsA P fn.results.toList f h with | some r => R r h | none => False
theorem SCalls.enterD {P : Program} {fid g : FuncId} {fn : Func} {A A2 C : Code} {rid : Nat} {t x y : Tmp} {ty1 ty2 : TypeId} {pos1 pos2} {aft1 aft2} {tys : Array TypeId} (hfn : P.funcs[fid]? = some fn)
  (hb : fn.body = some (.seq A (.seq A2 (.seq (.region rid #[⟨some t, .makeFunc (.func g) #[] #[.tmp x, .tmp y], ty1, pos1, aft1, none⟩, ⟨none, .defer ⟨.value (.tmp t), #[], tys⟩, ty2, pos2, aft2, none⟩] false) C))))
  (ht : t < fn.ntmps) (hcal : callable P g = true) {args : List V} (hlen : args.length ≤ fn.ntmps) {h : AHeap} {R : V → AHeap → Prop} {M : AFrame → AHeap → Prop} {KR KP : V → V → AFrame → AHeap → Prop}
  (h1 : SWp P fn.ntmps A (fun z f h => z = .normal ∧ SWp P fn.ntmps A2 (fun z f h => (z = .ret ∧ endsV P fn R f h) ∨ (z = .normal ∧ M f h)) f h) (enterF args) h)
  (h3 : ∀ f h, M f h → SWp P fn.ntmps C (fun z f' h' => ((z = .ret ∨ z = .normal) ∧ KR (f x) (f y) f' h') ∨ (z = .panic ∧ KP (f x) (f y) f' h')) (f.put (some t) .top) h)
  (hR : ∀ vx vy f' h', KR vx vy f' h' → SDefR P g [vx, vy] h' (endsV P fn R f'))
  (hP : ∀ vx vy f' h', KP vx vy f' h' → SDefP P g [vx, vy] h' (endsV P fn R f')) : SCalls P fid args h R := by
 intro ρ B w0 w args' hw ha
 refine calls_of_wp_defers hfn hb ?_
 have fin : ∀ (ρ' : Ren) (f : AFrame) (h' : AHeap) (a' : Act) (w' : World), Ren.le { ρ with dfr := [] } { ρ' with dfr := [] } → WRel ρ' B w0 h' w' → FRel ρ' fn.ntmps f a' → endsV P fn R f h' →
   ∃ v, (results fn a'.tmps).run P w' = .ok v w' ∧ ((∃ (ρ' : Ren) (r : V) (r' : Value) (h' : AHeap), Ending.returned v = .returned r' ∧ VRel ρ' r r' ∧ WRel ρ' B w0 h' w' ∧ ρ.le ρ' ∧ R r h') ∨
    (∃ (ρ' : Ren) (ch : List PanicEntry) (h' : AHeap), Ending.returned v = .panicked ch ∧ OneChain ch ∧ WRel ρ' B w0 h' w' ∧ ρ.le ρ' ∧ False)) := by
  intro ρ' f h' a' w' hl hw' hf' hQ
  unfold endsV at hQ
  cases hra : resultsA P fn.results.toList f h' with
  | none => simp [hra] at hQ
  | some r =>
  simp only [hra] at hQ
  obtain ⟨r', q1, q2⟩ := run_resultsA hw' hf' hra
  exact ⟨r', q1, .inl ⟨{ ρ' with dfr := ρ.dfr }, r, r', h', rfl, q2.dfr ρ.dfr, hw'.dfr ρ.dfr, ⟨hl.ren, hl.frz, rfl⟩, hQ⟩⟩
 apply wp_seq
 refine wp_mono (h1 { ρ with dfr := [] } B w0 _ w (hw.dfr []) (enter_rel (ha.dfr []) hlen rfl)) ?_
 rintro e a1 w1 ⟨ρ1, z, f1, hh1, hx, hw1, hf1, hl1, rfl, h2⟩
 cases e <;> simp only [XR] at hx
 show (Code.seq A2 _).wp P _ a1 w1
 apply wp_seq
 refine wp_mono (h2 ρ1 B w0 a1 w1 hw1 hf1) ?_
 rintro e a2 w2 ⟨ρ2, z, f2, hh2, hx, hw2, hf2, hl2, hz⟩
 have l2 : Ren.le { ρ with dfr := [] } { ρ2 with dfr := [] } := ⟨(hl1.trans hl2).ren, (hl1.trans hl2).frz, rfl⟩
 rcases hz with ⟨rfl, hz⟩ | ⟨rfl, hz⟩
 ·cases e <;> simp only [XR] at hx
  show Leaves P fn a2.tmps _ a2.defers .returning w2
  rw [show a2.defers = [] from (hf2.defers.trans hl2.dfr).trans hl1.dfr]
  exact fin ρ2 f2 hh2 a2 w2 l2 hw2 hf2 hz
 ·cases e <;> simp only [XR] at hx
  show (Code.seq (.region rid _ false) C).wp P _ a2 w2
  apply wp_seq
  apply wp_region
  have hsz := hf2.size
  have hdf : a2.defers = [] := (hf2.defers.trans hl2.dfr).trans hl1.dfr
  have hS := h3 f2 hh2 hz
  obtain ⟨vx, hvx⟩ : ∃ v, v = a2.tmps.getD x undef := ⟨_, rfl⟩
  obtain ⟨vy, hvy⟩ : ∃ v, v = a2.tmps.getD y undef := ⟨_, rfl⟩
  have rx := hf2.tmps x
  have ry := hf2.tmps y
  rw [← hvx] at rx
  rw [← hvy] at ry
  have hput := hf2.put (v := .top) (v' := .func (.func g) #[] #[vx, vy]) (.top _) (some t) (by simpa [dstOk] using ht)
  let d : Deferred := { target := .fn (.func g) #[vx, vy], args := #[] }
  have hgo : C.wp P (bodyPostD P fn fun e w' => (∃ (ρ' : Ren) (r : V) (r' : Value) (h' : AHeap), e = .returned r' ∧ VRel ρ' r r' ∧ WRel ρ' B w0 h' w' ∧ ρ.le ρ' ∧ R r h') ∨
    (∃ (ρ' : Ren) (ch : List PanicEntry) (h' : AHeap), e = .panicked ch ∧ OneChain ch ∧ WRel ρ' B w0 h' w' ∧ ρ.le ρ' ∧ False)) { tmps := (a2.put (some t) (.func (.func g) #[] #[vx, vy])).tmps, defers := [d] } w2 := by
   have hF : FRel { ρ2 with dfr := [d] } fn.ntmps (f2.put (some t) .top) { tmps := (a2.put (some t) (.func (.func g) #[] #[vx, vy])).tmps, defers := [d] } :=
    ⟨fun k => (hput.tmps k).dfr [d], hput.size, rfl⟩
   refine wp_mono (hS { ρ2 with dfr := [d] } B w0 _ w2 (hw2.dfr [d]) hF) ?_
   rintro e a3 w3 ⟨ρ3, z, f3, hh3, hx, hw3, hf3, hl3, hz3⟩
   have hd3 : a3.defers = [d] := hf3.defers.trans hl3.dfr
   have hl3' : ρ2.le { ρ3 with dfr := ρ2.dfr } := hl3.dfr_back
   have ra : LRel { ρ3 with dfr := ρ2.dfr } [f2 x, f2 y] #[vx, vy].toList := LRel.cons (rx.mono hl3') (LRel.cons (ry.mono hl3') (LRel.nil _))
   have l3 : Ren.le { ρ with dfr := [] } { ρ3 with dfr := [] } := ⟨fun i q hq => hl3.ren i q (l2.ren i q hq), fun i q hq => hl3.frz i q (l2.frz i q hq), rfl⟩
   have hinv : (invoke d.target d.args).run P w3 = .ok (.enter g #[vx, vy]) w3 := by
    unfold callable at hcal
    cases hg : P.funcs[g]? with
    | none => simp [hg] at hcal
    | some fg =>
     simp only [hg, Bool.and_eq_true, bne_iff_ne, ne_eq] at hcal
     simp [d, invoke, callFunc, hg, hcal.1, hcal.2, Option.isSome_iff_ne_none.1 hcal.1]
   rcases hz3 with ⟨hz3, hk⟩ | ⟨rfl, hk⟩
   ·have fin3 : Leaves P fn a3.tmps (fun e w' => (∃ (ρ' : Ren) (r : V) (r' : Value) (h' : AHeap), e = .returned r' ∧ VRel ρ' r r' ∧ WRel ρ' B w0 h' w' ∧ ρ.le ρ' ∧ R r h') ∨
      (∃ (ρ' : Ren) (ch : List PanicEntry) (h' : AHeap), e = .panicked ch ∧ OneChain ch ∧ WRel ρ' B w0 h' w' ∧ ρ.le ρ' ∧ False)) a3.defers .returning w3 := by
     rw [hd3]
     refine ⟨by simp, _, _, g, #[vx, vy], rfl, hinv, ?_⟩
     refine ((hR _ _ _ _ hk) { ρ3 with dfr := ρ2.dfr } B w0 w3 #[vx, vy] (hw3.dfr ρ2.dfr) ra).mono ?_
     rintro e u' w4 ⟨rfl, rfl, ρ4, h4, hw4, hl4, he⟩
     have hF4 : FRel { ρ4 with dfr := [d] } fn.ntmps f3 a3 := ⟨fun k => VRel.mono0 (ρ := ρ3) (ρ' := { ρ4 with dfr := [d] }) (fun i q hq => hl4.ren i q hq) (fun i q hq => hl4.frz i q hq) (hf3.tmps k), hf3.size, hd3⟩
     exact fin { ρ4 with dfr := [d] } f3 h4 a3 w4 ⟨fun i q hq => hl4.ren i q (l3.ren i q hq), fun i q hq => hl4.frz i q (l3.frz i q hq), rfl⟩ (hw4.dfr [d]) hF4 he
    rcases hz3 with rfl | rfl <;> cases e <;> simp only [XR] at hx <;> exact fin3
   ·cases e with
    | panic ch =>
     obtain ⟨tt, vv, rfl⟩ := hx
     show Leaves P fn a3.tmps _ a3.defers (.panicking _) w3
     rw [hd3]
     refine ⟨by simp, _, _, g, #[vx, vy], rfl, hinv, ?_⟩
     refine ((hP _ _ _ _ hk) { ρ3 with dfr := ρ2.dfr } B w0 w3 #[vx, vy] tt vv (hw3.dfr ρ2.dfr) ra).mono ?_
     rintro e u' w4 ⟨rfl, rfl, ρ4, h4, hw4, hl4, he⟩
     have hF4 : FRel { ρ4 with dfr := [d] } fn.ntmps f3 a3 := ⟨fun k => VRel.mono0 (ρ := ρ3) (ρ' := { ρ4 with dfr := [d] }) (fun i q hq => hl4.ren i q hq) (fun i q hq => hl4.frz i q hq) (hf3.tmps k), hf3.size, hd3⟩
     show Leaves P fn a3.tmps _ [] (settle _) w4
     simp only [settle, List.dropWhile_nil]
     exact fin { ρ4 with dfr := [d] } f3 h4 a3 w4 ⟨fun i q hq => hl4.ren i q (l3.ren i q hq), fun i q hq => hl4.frz i q (l3.frz i q hq), rfl⟩ (hw4.dfr [d]) hF4 he
    | _ => simp only [XR] at hx
  have e1 : a2.eval (.tmp x) = vx := by simp [Act.eval, hvx]
  have e2 : a2.eval (.tmp y) = vy := by simp [Act.eval, hvy]
  simp [wpOps, go_sem]
  refine .inl (.inl ?_)
  rw [if_pos (show t < a2.tmps.size from hsz.symm ▸ ht)]
  subst hvx hvy
  simpa [Act.put, hdf, d, go_sem, Oper.upon] using hgo
end Go.Proofs.YtfcjehlhoebmnaaGreatDoor.Ab
namespace Go.Proofs.YtfcjehlhoebmnaaGreatDoor.Ab
set_option linter.unusedVariables false
section
variable {h : AHeap} {a b c d o : AObj}
theorem get_push3a : (((h.push a).push b).push c).get h.n = a := by simp [get_push, push_n]; intro hh; omega
theorem get_push3b : (((h.push a).push b).push c).get (h.n + 1) = b := by simp [get_push, push_n]
theorem get_push3c : (((h.push a).push b).push c).get (h.n + 1 + 1) = c := by simp [get_push, push_n]
theorem get_push4a : ((((h.push a).push b).push c).push d).get h.n = a := by
 simp only [get_push, push_n]
 rw [if_neg (by omega), if_neg (by omega), if_neg (by omega), if_pos trivial]
theorem get_push4b : ((((h.push a).push b).push c).push d).get (h.n + 1) = b := by
 simp only [get_push, push_n]
 rw [if_neg (by omega), if_neg (by omega), if_pos trivial]
theorem get_push4c : ((((h.push a).push b).push c).push d).get (h.n + 1 + 1) = c := by
 simp only [get_push, push_n]
 rw [if_neg (by omega), if_pos trivial]
theorem get_push4d : ((((h.push a).push b).push c).push d).get (h.n + 1 + 1 + 1) = d := by
 simp only [get_push, push_n]
 rw [if_pos trivial]
theorem ext_get {h1 h2 : AHeap} (hn : h1.n = h2.n) (hg : ∀ j, h1.get j = h2.get j) (hl : h1.glob = h2.glob) : h1 = h2 := by
 cases h1; cases h2
 simp only [AHeap.mk.injEq]
 exact ⟨hn, funext hg, hl⟩
theorem set_push_lt {i : Nat} (hi : i ≠ h.n) : (h.push a).set i o = (h.set i o).push a := ext_get rfl (fun j => by
 simp only [get_set, get_push, set_n]
 by_cases hj : j = i
 ·subst hj; rw [if_pos rfl, if_neg hi, if_pos rfl]
 ·rw [if_neg hj, if_neg hj]) rfl
theorem set_push3a : (((h.push a).push b).push c).set h.n o = ((h.push o).push b).push c := by
 rw [set_push_lt (by simp only [push_n]; omega), set_push_lt (by simp only [push_n]; omega), set_push]
theorem set_push3b : (((h.push a).push b).push c).set (h.n + 1) o = ((h.push a).push o).push c := by
 rw [set_push_lt (by simp only [push_n]; omega), show h.n + 1 = (h.push a).n from rfl, set_push]
theorem set_push3c : (((h.push a).push b).push c).set (h.n + 1 + 1) o = ((h.push a).push b).push o := by
 rw [show h.n + 1 + 1 = ((h.push a).push b).n from rfl, set_push]
theorem set_push4a : ((((h.push a).push b).push c).push d).set h.n o = (((h.push o).push b).push c).push d := by
 rw [set_push_lt (by simp only [push_n]; omega), set_push3a]
theorem set_push4b : ((((h.push a).push b).push c).push d).set (h.n + 1) o = (((h.push a).push o).push c).push d := by
 rw [set_push_lt (by simp only [push_n]; omega), set_push3b]
theorem set_push4c : ((((h.push a).push b).push c).push d).set (h.n + 1 + 1) o = (((h.push a).push b).push o).push d := by
 rw [set_push_lt (by simp only [push_n]; omega), set_push3c]
theorem set_push4d : ((((h.push a).push b).push c).push d).set (h.n + 1 + 1 + 1) o = (((h.push a).push b).push c).push o := by
 rw [show h.n + 1 + 1 + 1 = (((h.push a).push b).push c).n from rfl, set_push]
end
end Go.Proofs.YtfcjehlhoebmnaaGreatDoor.Ab
namespace Go.Proofs.YtfcjehlhoebmnaaGreatDoor.Ab
open Go Go.RowKit
set_option linter.unusedVariables false
def globHeap (g : Nat → Option (List V)) : AHeap := { n := 0, get := fun _ => .dead, glob := g }
def GlobOk (g : Nat → Option (List V)) (w : World) : Prop := ∀ k cs, g k = some cs → ∃ arr e fz, w.heap[k]? = some (.cells arr e fz) ∧ ARel (entryRen w) cs arr
theorem entry_relG {g : Nat → Option (List V)} {w : World} (hg : GlobOk g w) : WRel (entryRen w) w.heap.size w (globHeap g) w := by
 have h0 := entry_rel w
 refine ⟨⟨h0.heap.dom, fun i j b c c' h => by simp [globHeap] at h, fun _ => trivial, h0.heap.frz, fun k cs hk => ?_, Nat.le_refl _⟩, Bel.refl _ _⟩
 obtain ⟨arr, e, fz, hw, hr⟩ := hg k cs hk
 exact ⟨arr, entry_frz hw, hr⟩
theorem SCalls.callsG {P : Program} {fid : FuncId} {args : List V} {v : V} {a : Value} {g : Nat → Option (List V)} (hc : SCalls P fid args (globHeap g) fun r _ => r = v) (hv : flatV v = some a) {w : World} (hg : GlobOk g w)
  {args' : Array Value} (ha : LRel (entryRen w) args args'.toList) : Calls P fid args' w fun e w' => e = .returned a ∧ Below w.heap.size w w' :=
 (hc (entryRen w) w.heap.size w w args' (entry_relG hg) ha).mono fun e w' hh => by
  rcases hh with ⟨ρ', r, r', h', he, hrr, hw, _, hR⟩ | ⟨_, _, _, _, _, _, _, hE⟩
  ·subst hR
   rw [flatV_eq hrr hv] at he
   exact ⟨he, hw.below.below⟩
  ·exact hE.elim
theorem tab_glob {P : Program} {w : World} {name : String} {k : IntKind} {zs : List Int} {g : Nat} (hg : P.globalNamed name = some g) (h : Lib.TabIs P w name k zs) : ∃ arr e fz, w.heap[g]? = some (.cells arr e fz) ∧ ARel (entryRen w) (zs.map (V.int k)) arr := by
 unfold Lib.TabIs World.var? at h
 rw [hg] at h
 simp only [Option.bind_some] at h
 split at h
 ·rename_i cs e fz hq
  obtain rfl := Option.some.inj h
  refine ⟨_, e, fz, hq, by simp, fun i v v' h1 h2 => ?_⟩
  simp only [List.getElem?_map, Option.map_eq_some_iff, List.getElem?_toArray] at h1 h2
  obtain ⟨n, hn, rfl⟩ := h1
  obtain ⟨m, hm, rfl⟩ := h2
  rw [hn] at hm
  cases hm
  exact .int k n
 ·cases h
end Go.Proofs.YtfcjehlhoebmnaaGreatDoor.Ab
namespace Go.Proofs.YtfcjehlhoebmnaaGreatDoor.Ab
open Go Go.RowKit
set_option linter.unusedVariables false
section
variable {H : Type} {enc : TypeId × Value → H} {P : Program} {w : World} {base : Nat} {spare : Nat → Bool} {held : Bool} {Q : List V → Prop} {T0 : TypeId}
theorem arg_aggQ {n n' : Nat} {fs : Array Field} {s1 : ShQ} {t : TypeId} {s : ShQ} {xs : Array Value} {d : DataW H} {ps : List MemPlace} (hu : P.underlying T0 = some (.struct fs)) (hs1 : shFieldsQ P (shapeOfQ P T0 n) 0 fs.toList = some s1) (hw : s1.width = P.cellsOf T0) (hQ : ∀ l, s1.fitsQ Q l → Q l)
  (hs : shapeOfQ P T0 n' t = some s) (hB : ∀ n ∈ d.weights P t, n ≤ reachBytes) (h : DataW.Trod enc P w base spare held t (.agg xs) d ps) : ∃ l : List V, s.fitsQ Q l ∧ VRel (entryRen w) (.agg l) (.agg xs) := by
 obtain ⟨fuel, hf⟩ := h
 obtain ⟨l, h1, h2⟩ := reads_ext (Q := Q) hu hs1 hw hQ hs hf hB
 exact ⟨l, h1, h2.arr'.agg⟩
end
end Go.Proofs.YtfcjehlhoebmnaaGreatDoor.Ab
namespace Go.Proofs.YtfcjehlhoebmnaaGreatDoor.Ab
open Go Go.RowKit
set_option linter.unusedVariables false
section
variable {P : Program} {t : TypeId} {T : SlT}
theorem own_src {h : AHeap} {e : TypeId} {sz : Nat} {v : V} {cs : List V} (hk : kindT P t = some 1) (ho : Own h e sz v cs) {n : Nat} (hn : cs.length = n * sz) (hpos : 0 < sz) (hone : cs.all (·.one) = true) : aSrc P sz t v h = some (n, cs) := by
 obtain ⟨d, hu, hd⟩ := kindT_eq hk
 cases d <;> simp [descKind] at hd
 rcases ho with ⟨hv, rfl⟩ | ⟨i, len, cap, c, ex, rfl, hi, hg, hlen, htake, hcap⟩
 ·have h0 : n = 0 := by
   have : n * sz = 0 := by simpa using hn.symm
   rcases Nat.mul_eq_zero.1 this with h | h <;> omega
  subst h0
  rcases hv with rfl | rfl <;> simp only [aSrc, hu]
 ·have h1 : len = n := Nat.eq_of_mul_eq_mul_right hpos (hlen.symm.trans hn)
  subst h1
  have hcl : len * sz ≤ c.length := by
   have := congrArg List.length htake
   rw [List.length_take, hlen] at this
   omega
  simp only [aSrc, hu, hg, List.drop_zero, Nat.zero_add]
  rw [htake, if_pos ⟨hcl, hone⟩]
end
end Go.Proofs.YtfcjehlhoebmnaaGreatDoor.Ab
namespace Go.Proofs.YtfcjehlhoebmnaaGreatDoor.Ab
open Go Go.RowKit
set_option linter.unusedVariables false
section
variable {M : Nat → Prop} {ev : Operand → V} {t s : TypeId} {x y z : Operand} {k : Nat}
theorem nne2 {n : Nat} : (n + 1 + 1 = n) = False := eq_false (by omega)
theorem nne3 {n : Nat} : (n + 1 + 1 + 1 = n) = False := eq_false (by omega)
theorem nne4 {n : Nat} : (n + 1 + 1 + 1 + 1 = n) = False := eq_false (by omega)
theorem nne1' {n : Nat} : (n = n + 1) = False := eq_false (by omega)
theorem nne2' {n : Nat} : (n = n + 1 + 1) = False := eq_false (by omega)
theorem nne3' {n : Nat} : (n = n + 1 + 1 + 1) = False := eq_false (by omega)
def mOkV (M : Nat → Prop) (v : V) : Prop := mOk M (ridV v)
theorem mOk_load : mOk M (ridOp ev (.load t x)) = mOkV M (ev x) := rfl
theorem mOk_convert : mOk M (ridOp ev (.convert s t x)) = mOkV M (ev x) := rfl
theorem mOk_len {ts : Array TypeId} : mOk M (ridOp ev (.call ⟨.builtin .len, #[x], ts⟩)) = mOkV M (ev x) := rfl
end
end Go.Proofs.YtfcjehlhoebmnaaGreatDoor.Ab
namespace Go.Proofs.YtfcjehlhoebmnaaGreatDoor.Ab
open Go Go.RowKit
set_option linter.unusedVariables false
set_option linter.unusedSimpArgs false
section
variable {P : Program} {d : Option Tmp} {ty : TypeId} {pos : String} {aft : Array Edge} {g : Option (Nat × Bool)} {f : AFrame} {h : AHeap} [K : Kt] {x y : Operand}
def b1V (P : Program) (bi : Builtin) (ts : Array TypeId) (ty : TypeId) (cs : Array Bool) (x : V) : Option V :=
 match flatL [x] with
 | some us => match pureRun P (builtin bi ts ty cs us.toArray) with
  | some (.value v) => some (absF v)
  | _ => none
 | none => none
end
section
variable {P : Program} {ty : TypeId}
theorem mmV_complex {ts : Array TypeId} {cs : Array Bool} {a b : Nat} : mmV P .complex ts ty cs (.float .f64 a) (.float .f64 b) = some (.complex .f64 a b) := rfl
theorem b1V_real {ts : Array TypeId} {cs : Array Bool} {k : FloatKind} {a b : Nat} : b1V P .real ts ty cs (.complex k a b) = some (.float k a) := rfl
theorem b1V_imag {ts : Array TypeId} {cs : Array Bool} {k : FloatKind} {a b : Nat} : b1V P .imag ts ty cs (.complex k a b) = some (.float k b) := rfl
theorem cells_float {k : FloatKind} {b : Nat} : (V.float k b).cells = some [.float k b] := rfl
theorem cells_complex {k : FloatKind} {a b : Nat} : (V.complex k a b).cells = some [.complex k a b] := rfl
theorem one_float {k : FloatKind} {b : Nat} : (V.float k b).one = true := rfl
theorem one_complex {k : FloatKind} {a b : Nat} : (V.complex k a b).one = true := rfl
theorem absF_float {k : FloatKind} {b : Nat} : absF (.float k b) = .float k b := rfl
theorem absF_complex {k : FloatKind} {a b : Nat} : absF (.complex k a b) = .complex k a b := rfl
theorem absV_float {k : FloatKind} {b : Nat} : absV (.float k b) = .float k b := rfl
theorem absV_complex {k : FloatKind} {a b : Nat} : absV (.complex k a b) = .complex k a b := rfl
end
end Go.Proofs.YtfcjehlhoebmnaaGreatDoor.Ab
namespace Go.Proofs.YtfcjehlhoebmnaaGreatDoor.Ab
open Go Go.RowKit
set_option linter.unusedVariables false
variable {P : Program} {t : TypeId} {T : SlT}
theorem own_clone2 {tx : TypeId} (hT : slT P t = some T) {h : AHeap} {src : V} {n c : Nat} {cs : List V} {k k' : IntKind} (hs : aLenOf src = some n) (hf : ∀ h', Keep h h' none_ → aFirst T.sz n src h' = some cs) (hone : cs.all (·.one) = true) (hlen : cs.length = n * T.sz)
  (hnc : n ≤ c) (h1 : T.bs * c ≤ 140737488355328) (h2 : c ≤ 140737488355328) :
  ∃ h1 h2, aMake P t (.int k (n : Int)) (.int k' (c : Int)) h = some (.sl h.n 0 n c, h1) ∧ aCopy P t (.sl h.n 0 n c) src h1 = some (.int .i64 n, h2) ∧ Own h2 T.e T.sz (.sl h.n 0 n c) cs ∧ Keep h h1 none_ ∧ Keep h h2 none_ := by
 obtain ⟨he, hz, hsz, hbs, hzs, _⟩ := slT_eq hT
 have hml : (made T.zs c).length = c * T.sz := by rw [length_made, hzs]
 have hle := Nat.mul_le_mul_right T.sz hnc
 have hk1 : Keep h (h.push (.cells (made T.zs c) T.e none)) none_ := Keep.push _ _ _
 obtain ⟨h2', hc, rfl⟩ := copy_new (P := P) (t := t) (T := T) (tx := t) (i := h.n) (cap := c) (c := made T.zs c) (src := src) (h := h.push (.cells (made T.zs c) T.e none)) hT get_push_new hs (hf _ hk1) hone (by omega)
 refine ⟨_, _, make_go hT hnc h1 h2, hc, .inr ⟨h.n, n, c, _, none, rfl, ?_, get_set_same, hlen, ?_, .inl ⟨by unfold unk; omega, ?_, hnc⟩⟩, hk1, hk1.setNew (Nat.le_refl _) _⟩
 ·rw [set_n, push_n]; omega
 ·unfold lay
  rw [List.take_zero, List.nil_append, List.take_append_of_le_length (by omega), List.take_of_length_le (by omega)]
 ·rw [length_lay _ _ _ (by omega), hml]; exact Nat.le_refl _
end Go.Proofs.YtfcjehlhoebmnaaGreatDoor.Ab
namespace Go.Proofs.YtfcjehlhoebmnaaGreatDoor.Ab
open Go Go.RowKit
set_option linter.unusedVariables false
def scopeRounds (P : Program) (l : Nat) (rest : Code) (Q : Exit → Act → World → Prop) : Nat → Act → World → Prop
 | 0, _, _ => False
 | m + 1, a, w => rest.wp P (Exit.jump l (scopeRounds P l rest Q m) Q) a w
theorem wp_scope_rounds {P : Program} {c rest : Code} {l : Nat} {Q : Exit → Act → World → Prop} {a : Act} {w : World} (hf : findLabel c l = some rest) (m : Nat)
  (first : c.wp P (Exit.jump l (scopeRounds P l rest Q m) Q) a w) : (Code.scope c).wp P Q a w := by
 intro b k cs
 have hg : gotoIn l (.inScope c :: k) = some (.code rest :: .inScope c :: k) := by simp [gotoIn, hf]
 have key : ∀ m a w, scopeRounds P l rest Q m a w → ∃ e a' w', Q e a' w' ∧ Arrives P (lone (b.at a (.code rest :: .inScope c :: k)) cs w) b k cs e a' w' := by
  intro m
  induction m with
  | zero => intro a w h; exact h.elim
  | succ m ih =>
   intro a w hJ
   obtain ⟨e, a₁, w₁, hq, harr⟩ := hJ b (.inScope c :: k) cs
   cases e with
   | normal => exact ⟨.normal, a₁, w₁, hq, Steps.trans harr (.one step_inScope)⟩
   | exit id => exact ⟨.exit id, a₁, w₁, hq, fun k' hk => harr k' (by simp [exitTo, hk])⟩
   | goto l' =>
    obtain ⟨rfl, hJ'⟩ := hq
    obtain ⟨e₂, a₂, w₂, hq₂, harr₂⟩ := ih a₁ w₁ hJ'
    exact ⟨e₂, a₂, w₂, hq₂, .of_steps (harr _ hg) harr₂⟩
   | ret => exact ⟨_, a₁, w₁, hq, harr⟩
   | panic ch => exact ⟨_, a₁, w₁, hq, harr⟩
   | outgrown => exact ⟨_, a₁, w₁, hq, harr⟩
 obtain ⟨e, a₁, w₁, hq, harr⟩ := first b (.inScope c :: k) cs
 cases e with
 | normal => exact ⟨.normal, a₁, w₁, hq, .head step_scope (Steps.trans harr (.one step_inScope))⟩
 | exit id => exact ⟨.exit id, a₁, w₁, hq, fun k' hk => .head step_scope (harr k' (by simp [exitTo, hk]))⟩
 | goto l' =>
  obtain ⟨rfl, hJ'⟩ := hq
  obtain ⟨e₂, a₂, w₂, hq₂, harr₂⟩ := key m a₁ w₁ hJ'
  exact ⟨e₂, a₂, w₂, hq₂, .of_steps (.head step_scope (harr _ hg)) harr₂⟩
 | ret => exact ⟨_, a₁, w₁, hq, .of_steps (.one step_scope) harr⟩
 | panic ch => exact ⟨_, a₁, w₁, hq, .of_steps (.one step_scope) harr⟩
 | outgrown => exact ⟨_, a₁, w₁, hq, .of_steps (.one step_scope) harr⟩
def jumpA (l : Nat) (J : AFrame → AHeap → Prop) (Q : AExit → AFrame → AHeap → Prop) : AExit → AFrame → AHeap → Prop
 | .goto l', f, h => l' = l ∧ J f h
 | e, f, h => Q e f h
section
variable {l : Nat} {J : AFrame → AHeap → Prop} {Q : AExit → AFrame → AHeap → Prop} {f : AFrame} {h : AHeap}
theorem jumpA_ret : jumpA l J Q .ret f h = Q .ret f h := nr rfl
theorem jumpA_goto {j : Nat} : jumpA l J Q (.goto j) f h = (j = l ∧ J f h) := nr rfl
end
theorem SWp.scopeG {P : Program} {n l : Nat} {c b : Code} {α : Type} (hl : findLabel c l = some (.seq .skip b)) {Q : AExit → AFrame → AHeap → Prop} {f : AFrame} {h : AHeap} (J : α → AFrame → AHeap → Prop) (μ : α → Nat)
  (hμ : ∀ x f h, J x f h → μ x < 1000000000000000000000)
  (pass : ∀ x f h, J x f h → SWp P n b (jumpA l (fun f' h' => @hidI ⟨∃ y, J y f' h' ∧ μ y < μ x⟩) Q) f h)
  (first : (∀ x f h, J x f h → SWp P n b (jumpA l (fun f' h' => ∃ y, J y f' h') Q) f h) → SWp P n c (jumpA l (fun f' h' => ∃ y, J y f' h') Q) f h) : SWp P n (.scope c) Q f h := by
 have pass' : ∀ x f h, J x f h → SWp P n b (jumpA l (fun f' h' => ∃ y, J y f' h') Q) f h := fun x f h hJ => (pass x f h hJ).mono fun e f' h' hq => by
  cases e with
  | goto l' => exact ⟨hq.1, let ⟨y, hy, _⟩ := hq.2; ⟨y, hy⟩⟩
  | _ => exact hq
 intro ρ B w0 a w hw hf
 have key : ∀ m x f h, J x f h → μ x < m → ∀ ρ1 : Ren, ρ.le ρ1 → ∀ a w, WRel ρ1 B w0 h w → FRel ρ1 n f a → scopeRounds P l (.seq .skip b) (CPost n B w0 ρ Q) m a w := by
  intro m
  induction m with
  | zero => intro x f h _ hm; omega
  | succ m ih =>
   intro x f h hI hm ρ1 hle a w hw hf
   refine wp_mono ((SWp.seq (.skip (pass x f h hI))) ρ1 B w0 a w hw hf) fun e a' w' ⟨ρ', x', f', h', hx, hw', hf', hl', hQ⟩ => ?_
   cases x' <;> cases e <;> simp only [XR] at hx
   ·exact ⟨ρ', .normal, f', h', trivial, hw', hf', hle.trans hl', hQ⟩
   ·exact ⟨ρ', .exit _, f', h', hx, hw', hf', hle.trans hl', hQ⟩
   ·obtain ⟨rfl, y, hy, hlt⟩ := hQ
    exact ⟨hx.symm, ih y f' h' hy (by omega) ρ' (hle.trans hl') a' w' hw' hf'⟩
   ·exact ⟨ρ', .ret, f', h', trivial, hw', hf', hle.trans hl', hQ⟩
   ·exact ⟨ρ', .panic, f', h', hx, hw', hf', hle.trans hl', hQ⟩
 refine wp_scope_rounds hl 1000000000000000000000 (wp_mono (first pass' ρ B w0 a w hw hf) fun e a' w' ⟨ρ', x, f', h', hx, hw', hf', hl', hQ⟩ => ?_)
 cases x <;> cases e <;> simp only [XR] at hx
 ·exact ⟨ρ', .normal, f', h', trivial, hw', hf', hl', hQ⟩
 ·exact ⟨ρ', .exit _, f', h', hx, hw', hf', hl', hQ⟩
 ·obtain ⟨rfl, y, hy⟩ := hQ
  exact ⟨hx.symm, key _ y f' h' hy (hμ y f' h' hy) ρ' hl' a' w' hw' hf'⟩
 ·exact ⟨ρ', .ret, f', h', trivial, hw', hf', hl', hQ⟩
 ·exact ⟨ρ', .panic, f', h', hx, hw', hf', hl', hQ⟩
end Go.Proofs.YtfcjehlhoebmnaaGreatDoor.Ab
namespace Go.Proofs.YtfcjehlhoebmnaaGreatDoor.Ab
open Go Go.RowKit
set_option linter.unusedVariables false
set_option linter.unusedSimpArgs false
structure KeyEnc (P : Program) (kt : TypeId) (d : TypeDesc) {κ : Type} [DecidableEq κ] (ke : κ → V) : Prop where
 eq : ∀ a b, eqKey P kt d (ke a) (ke b) = some (decide (a = b))
 ok : ∀ b a, keyOk P b kt (ke a) = true
 bits : ∀ a, ∃ v, plainV (ke a) = some v ∧ Instr.sameBits 10000 v v = true
section
variable {P : Program} {t kt et : TypeId} {d : TypeDesc} {κ : Type} [DecidableEq κ] {ke : κ → V} {α : Type} {enc : α → V}
def mapK (ke : κ → V) (enc : α → V) (l : List (Nat × κ × α)) : List (Nat × V × V) := l.map fun e => (e.1, ke e.2.1, enc e.2.2)
def kget (l : List (Nat × κ × α)) (k : κ) : Option α :=
 match l with
 | [] => none
 | e :: r => if k = e.2.1 then some e.2.2 else kget r k
def kset (cl : Nat) (l : List (Nat × κ × α)) (k : κ) (a : α) : List (Nat × κ × α) :=
 match l with
 | [] => [(cl, k, a)]
 | e :: r => if k = e.2.1 then (e.1, k, a) :: r else e :: kset cl r k a
def kclk (cl : Nat) (l : List (Nat × κ × α)) (k : κ) : Nat := if (kget l k).isSome then cl else cl + 1
def kdel (l : List (Nat × κ × α)) (k : κ) : List (Nat × κ × α) :=
 match l with
 | [] => []
 | e :: r => if k = e.2.1 then r else e :: kdel r k
theorem kfind (H : KeyEnc P kt d ke) (k : κ) : ∀ (l : List (Nat × κ × α)),
  (kget l k = none ∧ aFind P kt d (ke k) (mapK ke enc l) = some none ∧ (∀ cl a, kset cl l k a = l ++ [(cl, k, a)]) ∧ kdel l k = l) ∨
  (∃ j e, aFind P kt d (ke k) (mapK ke enc l) = some (some j) ∧ l[j]? = some e ∧ e.2.1 = k ∧ kget l k = some e.2.2 ∧
   (∀ cl a, mapK ke enc (kset cl l k a) = (mapK ke enc l).modify j fun e => (e.1, ke k, enc a)) ∧ mapK ke enc (kdel l k) = (mapK ke enc l).eraseIdx j)
 | [] => .inl ⟨rfl, rfl, fun _ _ => rfl, rfl⟩
 | e :: l => by
  have hf : aFind P kt d (ke k) (mapK ke enc (e :: l)) = if k = e.2.1 then some (some 0) else (aFind P kt d (ke k) (mapK ke enc l)).map fun (q : Option Nat) => q.map (· + 1) := by
   show (match eqKey P kt d (ke k) (ke e.2.1) with | some true => some (some 0) | some false => (aFind P kt d (ke k) (mapK ke enc l)).map fun (q : Option Nat) => q.map (· + 1) | none => none) = _
   rw [H.eq]
   by_cases hk : k = e.2.1
   ·simp [hk]
   ·simp [hk]
  by_cases hk : k = e.2.1
  ·refine .inr ⟨0, e, by rw [hf, if_pos hk], rfl, hk.symm, by rw [kget, if_pos hk], fun cl a => by rw [kset, if_pos hk]; rfl, by rw [kdel, if_pos hk]; rfl⟩
  ·rcases kfind H k l with ⟨h1, h2, h3, h4⟩ | ⟨j, e', h1, h2, h3, h4, h5, h6⟩
   ·refine .inl ⟨by rw [kget, if_neg hk, h1], by rw [hf, if_neg hk, h2]; rfl, fun cl a => by rw [kset, if_neg hk, h3]; rfl, by rw [kdel, if_neg hk, h4]⟩
   ·refine .inr ⟨j + 1, e', by rw [hf, if_neg hk, h1]; rfl, by simpa using h2, h3, by rw [kget, if_neg hk, h4], fun cl a => ?_, ?_⟩
    ·rw [kset, if_neg hk]
     show (e.1, ke e.2.1, enc e.2.2) :: mapK ke enc (kset cl l k a) = _
     rw [h5]
     rfl
    ·rw [kdel, if_neg hk]
     show (e.1, ke e.2.1, enc e.2.2) :: mapK ke enc (kdel l k) = _
     rw [h6]
     rfl
theorem lookup_k (H : KeyEnc P kt d ke) {z : Value} {h : AHeap} {i : Nat} {l : List (Nat × κ × α)} {cl : Nat} {k : κ} {ok : Bool} (hm : mapT P t = some (kt, et, d)) (hz : zeroT P et = some z) (hg : h.get i = .map (mapK ke enc l) cl) :
  aLookup P t (.map i) (ke k) ok h = some (match kget l k with | some a => (if ok then .tuple [enc a, .bool true] else enc a) | none => (if ok then .tuple [absV z, .bool false] else absV z)) := by
 unfold aLookup
 simp only [hm, hz, hg, H.ok, if_true]
 rcases kfind (enc := enc) H k l with ⟨h1, h2, _⟩ | ⟨j, e, h1, h2, h3, h4, _⟩
 ·rw [h2, h1]
 ·have : (mapK ke enc l)[j]? = some (e.1, ke e.2.1, enc e.2.2) := by simp [mapK, h2]
  rw [h1, h4]
  simp only [this]
  rfl
theorem update_k (H : KeyEnc P kt d ke) {h : AHeap} {i : Nat} {l : List (Nat × κ × α)} {cl : Nat} {k : κ} {a : α} {v : V} (hm : mapT P t = some (kt, et, d)) (hg : h.get i = .map (mapK ke enc l) cl) (hv : v = enc a) :
  aUpdate P t (.map i) (ke k) v h = some (h.set i (.map (mapK ke enc (kset cl l k a)) (kclk cl l k))) := by
 subst hv
 unfold aUpdate kclk
 simp only [hm, hg, H.ok, if_true]
 rcases kfind (enc := enc) H k l with ⟨h1, h2, h3, _⟩ | ⟨j, e, h1, h2, h3, h4, h5, _⟩
 ·rw [h2, h1, h3]
  simp [mapK]
 ·have : (mapK ke enc l)[j]? = some (e.1, ke e.2.1, enc e.2.2) := by simp [mapK, h2]
  obtain ⟨v, hv, hs⟩ := H.bits k
  rw [h1, h4]
  simp only [this, Option.bind_some, h3, hv, hs, if_true, h5]
  rfl
theorem kget_kset : ∀ (l : List (Nat × κ × α)) (cl : Nat) (k : κ) (a : α) (x : κ), kget (kset cl l k a) x = if x = k then some a else kget l x
 | [], cl, k, a, x => by simp [kset, kget]
 | e :: l, cl, k, a, x => by
  unfold kset
  by_cases hk : k = e.2.1
  ·rw [if_pos hk]
   unfold kget
   by_cases hx : x = k
   ·simp [hx]
   ·have : x ≠ e.2.1 := hk ▸ hx
    simp [hx, this]
  ·rw [if_neg hk]
   unfold kget
   by_cases hx : x = e.2.1
   ·have : x ≠ k := fun hh => hk (hh ▸ hx)
    simp [hx, Ne.symm hk]
   ·rw [if_neg hx, kget_kset l cl k a x, if_neg hx]
def KNodup (l : List (Nat × κ × α)) : Prop := (l.map (·.2.1)).Nodup
end
end Go.Proofs.YtfcjehlhoebmnaaGreatDoor.Ab
namespace Go.Proofs.YtfcjehlhoebmnaaGreatDoor.Ab
open Go
section
variable {ρ : Ren} {B : Nat} {w0 : World} {h : AHeap} {w : World}
theorem WRel.grow (R : WRel ρ B w0 h w) (os : Array Obj) : WRel ρ B w0 h (Sort.grow w os) := by
 have hold : ∀ k, k < w.heap.size → (Sort.grow w os).heap[k]? = w.heap[k]? := fun k hk => by
  show (w.heap ++ os)[k]? = _
  rw [Array.getElem?_append, if_pos hk]
 have hsz : w.heap.size ≤ (Sort.grow w os).heap.size := by
  show w.heap.size ≤ (w.heap ++ os).size
  rw [Array.size_append]; omega
 refine ⟨⟨R.heap.dom, R.heap.inj, fun i => ?_, fun b arr hf => ?_, R.heap.glob, Nat.le_trans R.heap.base hsz⟩, R.below.trans ⟨rfl, rfl, rfl, hsz, fun k hk => hold k (Nat.lt_of_lt_of_le hk R.heap.base), Nat.le_refl _⟩⟩
 ·by_cases hd : h.get i = .dead
  ·rw [hd]; trivial
  ·refine (R.heap.obj i).keep (Ren.le.refl ρ) fun b c1 hr => ⟨hold b ?_, fun h => h⟩
   obtain ⟨b', cp', hr', hlt, _⟩ := R.heap.live hd
   rw [hr'] at hr
   cases hr
   exact hlt
 ·obtain ⟨e, fz, hw⟩ := R.heap.frz b arr hf
  exact ⟨e, fz, (hold b (Array.getElem?_eq_some_iff.1 hw).1).trans hw⟩
theorem WRel.ahead (R : WRel ρ B w0 h w) : ∀ n : Nat, WRel ρ B w0 h (Sort.ahead w n)
 | 0 => R
 | n + 1 => by rw [← Sort.ahead_drew]; exact (R.ahead n).drew
end
end Go.Proofs.YtfcjehlhoebmnaaGreatDoor.Ab
namespace Go.Proofs.YtfcjehlhoebmnaaGreatDoor.Ab
open Go Go.Sort Go.Proofs
set_option linter.unusedVariables false
theorem Bel.grow {W w' : World} (h : Bel W.heap.size W w') : ∃ q os', w' = Sort.grow (W.drewN q) os' := by
 refine ⟨w'.drawn - W.drawn, w'.heap.extract W.heap.size w'.heap.size, ?_⟩
 obtain ⟨hos, ht, hout, hsz, hb, hd⟩ := h
 have e : w'.heap = W.heap ++ w'.heap.extract W.heap.size w'.heap.size := by
  apply Array.ext_getElem?
  intro k
  rw [Array.getElem?_append]
  by_cases hk : k < W.heap.size
  ·rw [if_pos hk]; exact hb k hk
  ·rw [if_neg hk, Array.getElem?_extract]
   by_cases h2 : k < w'.heap.size
   ·rw [if_pos (by omega), show W.heap.size + (k - W.heap.size) = k by omega]
   ·rw [if_neg (by omega), Array.getElem?_eq_none (by omega)]
 have e2 : W.drawn + (w'.drawn - W.drawn) = w'.drawn := by omega
 cases w'
 cases W
 simp only [Sort.grow, World.drewN] at *
 subst hos ht hout
 rw [← e, e2]
section
variable {ρ : Ren} {B : Nat} {w0 : World} {h : AHeap} {w : World}
theorem WRel.putVals (R : WRel ρ B w0 h w) {i b cp : Nat} {c vs : List V} {e : TypeId} {ex : Option Nat} (hg : h.get i = .cells c e ex) (hi : ρ.ren i = some (b, cp)) {d : Array Value} (hv : LRel ρ vs d.toList) (hn : vs.length ≤ c.length) :
  WRel ρ B w0 (h.set i (.cells (vs ++ c.drop vs.length) e ex)) (Sort.putRow id w b 0 d) := by
 have ho := R.heap.obj i
 rw [hg] at ho
 obtain ⟨b', cp', arr, hr, hf, hB, hw, hlen, hrel, hx⟩ := ho
 rw [hi] at hr
 cases hr
 have hlt := (Array.getElem?_eq_some_iff.1 hw).1
 have hds : d.size = vs.length := by have := hv.1; simp at this; omega
 have hheap : ∀ j, (Sort.putRow id w b 0 d).heap[j]? = if b = j then (w.heap[j]?).map (Sort.onCells (Sort.putCells id 0 d)) else w.heap[j]? := fun j => by
  show (w.heap.modify b _)[j]? = _
  rw [Array.getElem?_modify]
 refine R.setO hi (by rw [hg]; simp) (fun j hj => by rw [hheap, if_neg (Ne.symm hj)]) (by rw [Sort.size_putRow]; exact Nat.le_refl _) ⟨rfl, rfl, rfl, by rw [Sort.size_putRow]; exact Nat.le_refl _, fun j hj => by rw [hheap, if_neg (by omega)], Nat.le_refl _⟩ ?_
 have hl : (vs ++ c.drop vs.length).length = c.length := by simp; omega
 refine ⟨b, cp, Sort.putCells id 0 d arr, hi, hf, hB, by rw [hheap, if_pos rfl, hw]; rfl, by rw [hl]; simpa [Sort.putCells] using hlen, ?_, by rw [hl]; simpa [Sort.putCells] using hx⟩
 rw [hl]
 refine ⟨by simp [Sort.putCells]; omega, fun j v v' h1 h2 => ?_⟩
 rw [List.getElem?_take] at h2
 split at h2
 case isFalse => cases h2
 rename_i hj
 rw [Array.getElem?_toList] at h2
 unfold Sort.putCells at h2
 rw [Array.getElem?_mapIdx, Option.map_eq_some_iff] at h2
 obtain ⟨x, hx1, hx2⟩ := h2
 by_cases hjn : j < vs.length
 ·rw [if_pos ⟨Nat.zero_le _, by omega⟩] at hx2
  subst hx2
  rw [List.getElem?_append_left hjn] at h1
  refine hv.2 j v _ h1 ?_
  rw [Array.getElem?_toList, Nat.sub_zero, Array.getElem?_eq_getElem (by omega), getElem!_pos d j (by omega)]
  rfl
 ·rw [if_neg (by omega)] at hx2
  subst hx2
  rw [List.getElem?_append_right (by omega), List.getElem?_drop, show vs.length + (j - vs.length) = j by omega] at h1
  refine hrel.2 j v x h1 ?_
  rw [List.getElem?_take, if_pos hj, Array.getElem?_toList]
  exact hx1
theorem WRel.holdsV (R : WRel ρ B w0 h w) {i b cp : Nat} {c vs : List V} {e : TypeId} {ex : Option Nat} (hg : h.get i = .cells c e ex) (hi : ρ.ren i = some (b, cp)) (hc : c.take vs.length = vs) :
  ∃ d : Array Value, LRel ρ vs d.toList ∧ Sort.Holds id w b 0 d ∧ b < w.heap.size := by
 have ho := R.heap.obj i
 rw [hg] at ho
 obtain ⟨b', cp', arr, hr, hf, hB, hw, hlen, hrel, hx⟩ := ho
 rw [hi] at hr
 cases hr
 have hcl : vs.length ≤ c.length := by
  have := congrArg List.length hc
  rw [List.length_take] at this
  omega
 refine ⟨(arr.toList.take vs.length).toArray, ?_, fun j hj => ?_, (Array.getElem?_eq_some_iff.1 hw).1⟩
 ·have := hrel.take vs.length
  rw [hc, List.take_take, Nat.min_eq_left hcl] at this
  simpa using this
 ·simp only [List.size_toArray, List.length_take, Array.length_toList] at hj
  have hja : j < arr.size := by omega
  rw [getElem!_pos _ j (by simp; omega)]
  simp [World.cell?, World.frozen?, hw, Array.getElem?_eq_getElem hja]
theorem WRel.frzSort (R : WRel ρ B w0 h w) {i b cp : Nat} (hl : h.get i ≠ .dead) (hi : ρ.ren i = some (b, cp)) {α : Type} [Inhabited α] (enc : α → List Value) (k m : Nat) (dk : Array α) (os : Array Obj) :
  ∀ b' a, ρ.frz b' = some a → (entryRen (sortWorldK enc k w b 0 m dk os)).frz b' = some a := by
 intro b' a hf
 obtain ⟨e, fz, hw⟩ := R.heap.frz b' a hf
 obtain ⟨b2, cp2, hr, hlt, _, hfb, _⟩ := R.heap.live hl
 rw [hi] at hr
 cases hr
 have hne : b ≠ b' := fun hh => by subst hh; rw [hfb] at hf; cases hf
 have hlt' := (Array.getElem?_eq_some_iff.1 hw).1
 have h1 : (sortWorldK enc k w b 0 m dk os).heap[b']? = w.heap[b']? := by
  show ((w.heap.modify b _) ++ os)[b']? = _
  rw [Array.getElem?_append, if_pos (by simpa using hlt'), Array.getElem?_modify, if_neg hne]
 exact entry_frz (h1.trans hw)
end
theorem SCalls.callsB {P : Program} {fid : FuncId} {args : List V} {v : V} {a : Value} (hc : SCalls P fid args noHeap fun r _ => r = v) (hv : flatV v = some a) {w : World}
  {args' : Array Value} (ha : LRel (entryRen w) args args'.toList) : Calls P fid args' w fun e w' => e = .returned a ∧ Bel w.heap.size w w' :=
 (hc (entryRen w) w.heap.size w w args' (entry_rel w) ha).mono fun e w' hh => by
  rcases hh with ⟨ρ', r, r', h', he, hrr, hw, _, hR⟩ | ⟨_, _, _, _, _, _, _, hE⟩
  ·subst hR
   rw [flatV_eq hrr hv] at he
   exact ⟨he, hw.below⟩
  ·exact hE.elim
theorem cmp_lays {P : Program} {g : FuncId} {β : Type} {E : β → List V} {cf : β → β → Int} (hcmp : ∀ a b, SCalls P g [.agg (E a), .agg (E b)] noHeap fun r _ => r = .int .i64 (cf a b)) (hclo : ∀ x, CloL (E x))
  {ρ : Ren} {B : Nat} {w0 : World} {h : AHeap} {w : World} (R : WRel ρ B w0 h w) {i b cp : Nat} (hl : h.get i ≠ .dead) (hi : ρ.ren i = some (b, cp))
  {α : Type} [Inhabited α] (rows : α → β) (enc : α → List Value) (henc : ∀ x, LRel ρ (E (rows x)) (enc x)) (size k : Nat) : CmpLays P g #[] enc k (fun x y => cf (rows x) (rows y)) b 0 size w := by
 intro m os dk hdk x y
 have hf := R.frzSort hl hi enc k m dk os
 have va : ∀ x, VRel (entryRen (sortWorldK enc k w b 0 m dk os)) (.agg (E (rows x))) (.agg (enc x).toArray) := fun x => .agg (by simpa using (henc x).1) fun j v v' h1 h2 => by
  refine hclo (rows x) v (List.mem_of_getElem? h1) ρ _ v' ((henc x).2 j v v' h1 ?_) hf
  simpa using h2
 have hc := (hcmp (rows x) (rows y)).callsB (a := .int .i64 (cf (rows x) (rows y))) rfl (w := sortWorldK enc k w b 0 m dk os) (args' := #[.agg (enc x).toArray, .agg (enc y).toArray]) (LRel.cons (va x) (LRel.cons (va y) (LRel.nil _)))
 rw [Array.append_empty]
 exact hc.mono fun e w' hh => ⟨hh.1, hh.2.grow⟩
theorem flatK_list {α : Type} [Inhabited α] (enc : α → List Value) (k : Nat) (hk : ∀ x, (enc x).length = k) (d : Array α) : (flatK enc k d).toList = d.toList.flatMap enc := by
 have hlen : ∀ l : List α, (l.flatMap enc).length = l.length * k := fun l => by
  induction l with
  | nil => simp
  | cons x l ih => rw [List.flatMap_cons, List.length_append, hk, ih, List.length_cons, Nat.add_mul]; omega
 have hget : ∀ (l : List α) (t : Nat), t < l.length * k → (l.flatMap enc)[t]! = (enc l[t / k]!)[t % k]! := fun l => by
  induction l with
  | nil => intro t ht; simp at ht
  | cons x l ih =>
   intro t ht
   have hk0 : 0 < k := by
    rcases Nat.eq_zero_or_pos k with h0 | h0
    ·subst h0; simp at ht
    ·exact h0
   rw [List.flatMap_cons]
   by_cases h1 : t < k
   ·rw [Nat.div_eq_of_lt h1, Nat.mod_eq_of_lt h1]
    simp [List.getElem!_eq_getElem?_getD, List.getElem?_append_left (show t < (enc x).length by rw [hk]; exact h1)]
   ·obtain ⟨u, rfl⟩ : ∃ u, t = u + k := ⟨t - k, by omega⟩
    rw [List.length_cons, Nat.add_mul, Nat.one_mul] at ht
    have := ih u (by omega)
    rw [Nat.add_div_right _ hk0, Nat.add_mod_right]
    simp only [List.getElem!_eq_getElem?_getD, List.getElem?_cons_succ] at this ⊢
    rw [List.getElem?_append_right (by rw [hk]; omega), hk, Nat.add_sub_cancel]
    exact this
 apply List.ext_getElem
 ·rw [hlen]; simp
 ·intro t h1 h2
  have ht : t < d.size * k := by simpa using h1
  have e1 := get_flatK enc k d t ht
  have e2 := hget d.toList t (by simpa using ht)
  rw [getElem!_pos _ t (by simpa using ht)] at e1
  rw [getElem!_pos _ t h2] at e2
  rw [Array.getElem_toList, e1, e2]
  congr 2
  simp [Array.getElem!_eq_getD, List.getElem!_eq_getElem?_getD, Array.getD_eq_getD_getElem?]
theorem sortF_own {P : Program} {f : FuncId} {g : FuncId} {e : TypeId} {k : Nat} {β : Type} {E : β → List V} {cf : β → β → Int} (hk0 : 0 < k)
  (hk : ∀ x, (E x).length = k) (h1 : ∀ x, (E x).all (·.one) = true) (hclo : ∀ x, CloL (E x)) (hO : SWO (ltOf cf))
  (hcmp : ∀ a b, SCalls P g [.agg (E a), .agg (E b)] noHeap fun r _ => r = .int .i64 (cf a b))
  (hcall : ∀ (n : Nat) (enc : Fin (n + 1) → List Value) (hk : ∀ x, (enc x).length = k) (h1 : ∀ x, ∀ v ∈ enc x, v.oneCell' = true) (cf : Fin (n + 1) → Fin (n + 1) → Int) (hO : SWO (ltOf cf)) (blk cap : Nat) (d : Array (Fin (n + 1))) (w : World),
   CmpLays P g #[] enc k cf blk 0 d.size w → HoldsK enc k w blk 0 d → blk < w.heap.size → d.size < 4611686018427387904 →
   Calls P f #[.slice (some ⟨blk, 0, none⟩) d.size cap, .func (.func g) #[] #[]] w fun e w' => e = .returned (.tuple #[]) ∧ ∃ d' n os, PermIn 0 d.size d d' ∧ SortedIn (ltOf cf) 0 d.size d' ∧ w' = sortWorldK enc k w blk 0 n d' os)
  {h : AHeap} {v : V} {l : List β} (hnone : l = [] → SCalls P f [v, .func (.func g) [] []] h fun r h' => r = .tuple [] ∧ h' = h)
  (ho : Own h e k v (l.flatMap E)) (hl : l.length < 4611686018427387904) :
  SCalls P f [v, .func (.func g) [] []] h fun r h' => r = .tuple [] ∧ Keep h h' (isId v) ∧ ∃ l' : List β, l'.Perm l ∧ (l'.Pairwise fun a b => ltOf cf b a = false) ∧ Own h' e k v (l'.flatMap E) := by
 by_cases hl0 : l = []
 ·refine (hnone hl0).mono fun r h' ⟨hr, hh⟩ => ?_
  subst hh
  exact ⟨hr, Keep.refl _ _, l, List.Perm.refl _, by rw [hl0]; exact List.Pairwise.nil, ho⟩
 have hlen := rows_len hk l
 rcases ho with ⟨_, hcs⟩ | ⟨i, len, cap, c, ex, rfl, hilt, hg, hlc, htake, hcap⟩
 ·rw [hcs] at hlen
  have : 0 < l.length := List.length_pos_iff.2 hl0
  have := Nat.mul_pos this hk0
  simp at hlen
  omega
 rw [hlen] at hlc
 have hln : l.length = len := Nat.eq_of_mul_eq_mul_right hk0 hlc
 subst hln
 obtain ⟨n, hn⟩ : ∃ n, l.length = n + 1 := ⟨l.length - 1, by have := List.length_pos_iff.2 hl0; omega⟩
 intro ρ B w0 w args' R ha
 obtain ⟨v1, t1, ht1, hv1, ha1⟩ := ha.uncons
 obtain ⟨v2, t2, ht2, hv2, ha2⟩ := ha1.uncons
 have ht3 := ha2.eq_nil
 subst ht3
 have e2 : v2 = .func (.func g) #[] #[] := by
  cases hv2 with
  | func fn _ hs ht _ _ =>
   rename_i xs' ys' _ _ _
   have e1 := Array.eq_empty_of_size_eq_zero (xs := xs') hs.symm
   have e2 := Array.eq_empty_of_size_eq_zero (xs := ys') ht.symm
   rw [e1, e2]
 subst e2
 cases hv1 with
 | sl hi _ _ _ hle =>
 rename_i b cp
 have ea : args' = #[.slice (some ⟨b, 0, none⟩) l.length (capOf cp cap), .func (.func g) #[] #[]] := by
  apply Array.toList_inj.1
  rw [ht1, ht2]
 subst ea
 obtain ⟨D, hD, hH, hlt⟩ := R.holdsV hg hi (vs := l.flatMap E) (by rw [hlen]; exact htake)
 have hDs : D.size = l.length * k := by have := hD.1; simp only [Array.length_toList] at this; omega
 let rows : Fin (n + 1) → β := fun x => l[x.1]'(by omega)
 let enc : Fin (n + 1) → List Value := fun x => (D.toList.drop (x.1 * k)).take k
 have hrow : ∀ x : Fin (n + 1), ((l.flatMap E).drop (x.1 * k)).take k = E (rows x) := fun x => by
  rw [rows_drop hk, List.drop_eq_getElem_cons (show x.1 < l.length by omega), List.flatMap_cons, List.take_left' (hk _)]
 have henc : ∀ x, LRel ρ (E (rows x)) (enc x) := fun x => by
  have := (hD.drop (x.1 * k)).take k
  rwa [hrow x] at this
 have hke : ∀ x, (enc x).length = k := fun x => by rw [← (henc x).1, hk]
 have h1e : ∀ x, ∀ v ∈ enc x, v.oneCell' = true := fun x => (henc x).one (h1 _)
 let d : Array (Fin (n + 1)) := (List.finRange (n + 1)).toArray
 have hds : d.size = l.length := by simp [d, hn]
 have hflat : flatK enc k d = D := by
  apply Array.toList_inj.1
  rw [flatK_list enc k hke]
  have key : ∀ (m : Nat) (hm : m ≤ n + 1), (((List.finRange (n + 1)).take m).flatMap enc) = D.toList.take (m * k) := fun m => by
   induction m with
   | zero => intro _; simp
   | succ m ih =>
    intro hm
    rw [List.take_add_one, List.flatMap_append, ih (by omega), List.getElem?_eq_getElem (by simp; omega)]
    simp only [Option.toList_some, List.flatMap_cons, List.flatMap_nil, List.append_nil, List.getElem_finRange, enc]
    rw [Nat.add_mul, Nat.one_mul]
    simp [List.take_add]
  have := key (n + 1) (Nat.le_refl _)
  rw [List.take_of_length_le (by simp)] at this
  show (List.finRange (n + 1)).flatMap enc = _
  rw [this, List.take_of_length_le (by rw [Array.length_toList, hDs, hn]; exact Nat.le_refl _)]
 have hO2 : SWO (ltOf fun x y => cf (rows x) (rows y)) := ⟨fun x => hO.irrefl _, fun x y z => hO.trans _ _ _, fun x y z => hO.ntrans _ _ _⟩
 have hlive : h.get i ≠ .dead := by rw [hg]; simp
 have hcl := cmp_lays hcmp hclo R hlive hi rows enc henc d.size k
 have hcl2 := hcall n enc hke h1e (fun x y => cf (rows x) (rows y)) hO2 b (capOf cp cap) d w hcl (by unfold HoldsK; rw [hflat]; exact hH) hlt (by rw [hds]; exact hl)
 rw [hds] at hcl2
 refine hcl2.mono fun x w' ⟨hx, d', m, os, hp, hs, hw'⟩ => .inl ⟨ρ, .tuple [], .tuple #[], h.set i (.cells ((d'.toList.map rows).flatMap E ++ c.drop ((d'.toList.map rows).flatMap E).length) e ex), hx, .tuple rfl (by simp), ?_, Ren.le.refl ρ, rfl, ?_, d'.toList.map rows, ?_, ?_, ?_⟩
 ·subst hw'
  have hd's : d'.size = l.length := by rw [hp.1, hds]
  have hlen' : ((d'.toList.map rows).flatMap E).length = l.length * k := by rw [rows_len hk]; simp [hd's]
  have hcl3 : l.length * k ≤ c.length := by
   have := congrArg List.length htake
   rw [List.length_take, hlen] at this
   omega
  have hv : LRel ρ ((d'.toList.map rows).flatMap E) (flatK enc k d').toList := by
   rw [flatK_list enc k hke]
   have : ∀ q : List (Fin (n + 1)), LRel ρ ((q.map rows).flatMap E) (q.flatMap enc) := fun q => by
    induction q with
    | nil => exact LRel.nil ρ
    | cons a q ih =>
     rw [List.map_cons, List.flatMap_cons, List.flatMap_cons]
     exact (henc a).append ih
   exact this _
  exact ((R.ahead m).putVals hg hi hv (by rw [hlen']; exact hcl3)).grow os
 ·exact (Keep.set h i _).mono fun q hq => by simp [isId, idOf, hq]
 ·have hd's : d'.size = l.length := by rw [hp.1, hds]
  have h3 := hp.2.2
  have e1 : d'.extract 0 l.length = d' := by rw [← hd's]; simp
  have e2 : d.extract 0 l.length = d := by rw [← hds]; simp
  rw [e1, e2] at h3
  have h4 := h3.map rows
  have e3 : d.toList.map rows = l := by
   apply List.ext_getElem
   ·simp [d, hn]
   ·intro j h1 h2
    simp [d, rows]
  rwa [e3] at h4
 ·have hd's : d'.size = l.length := by rw [hp.1, hds]
  rw [List.pairwise_map, List.pairwise_iff_getElem]
  intro a b' ha hb hab
  have := hs a b' (Nat.zero_le _) hab (by simp at hb; omega)
  rw [getElem!_pos d' b' (by simpa using hb), getElem!_pos d' a (by simpa using ha)] at this
  simpa [ltOf] using this
 ·have hd's : d'.size = l.length := by rw [hp.1, hds]
  have hlen' : ((d'.toList.map rows).flatMap E).length = l.length * k := by rw [rows_len hk]; simp [hd's]
  have hcl3 : l.length * k ≤ c.length := by
   have := congrArg List.length htake
   rw [List.length_take, hlen] at this
   omega
  refine .inr ⟨i, l.length, cap, _, ex, rfl, hilt, get_set_same, by rw [hlen'], ?_, ?_⟩
  ·rw [List.take_left' hlen']
  ·rcases hcap with ⟨h2, h3, h4⟩ | ⟨h2, h3⟩
   ·refine .inl ⟨h2, ?_, h4⟩
    rw [List.length_append, List.length_drop, hlen']
    omega
   ·exact .inr ⟨h2, h3⟩
end Go.Proofs.YtfcjehlhoebmnaaGreatDoor.Ab
namespace Go.Proofs.YtfcjehlhoebmnaaGreatDoor.Ab
open Go
set_option linter.unusedVariables false
section
variable {κ α : Type} {ke : κ → V} {enc : α → V}
theorem mapK_mem {l : List (Nat × κ × α)} {e : Nat × V × V} (h : e ∈ mapK ke enc l) : ∃ x ∈ l, e = (x.1, ke x.2.1, enc x.2.2) := by
 obtain ⟨x, hx, rfl⟩ := List.mem_map.1 h
 exact ⟨x, hx, rfl⟩
theorem mapK_in {l : List (Nat × κ × α)} {x : Nat × κ × α} (h : x ∈ l) : (x.1, ke x.2.1, enc x.2.2) ∈ mapK ke enc l := List.mem_map.2 ⟨x, h, rfl⟩
theorem mapK_stamps (l : List (Nat × κ × α)) : (mapK ke enc l).map (·.1) = l.map (·.1) := by
 unfold mapK
 rw [List.map_map]
 rfl
theorem mapK_len (l : List (Nat × κ × α)) : (mapK ke enc l).length = l.length := by simp [mapK]
theorem kstamp_inj : ∀ {q : List (Nat × κ × α)}, (q.map (·.1)).Nodup → ∀ {x y}, x ∈ q → y ∈ q → x.1 = y.1 → x = y
 | [], _, x, y, hx, _, _ => by cases hx
 | z :: q, hq, x, y, hx, hy, e => by
  have hq' := List.nodup_cons.1 hq
  rcases List.mem_cons.1 hx with h1 | h1
  ·rcases List.mem_cons.1 hy with h2 | h2
   ·rw [h1, h2]
   ·exact absurd (List.mem_map.2 ⟨y, h2, by rw [← e, h1]⟩) hq'.1
  ·rcases List.mem_cons.1 hy with h2 | h2
   ·exact absurd (List.mem_map.2 ⟨x, h1, by rw [e, h2]⟩) hq'.1
   ·exact kstamp_inj hq'.2 h1 h2 e
theorem kvis_perm {l vis : List (Nat × κ × α)} (hn : (l.map (·.1)).Nodup) (hv : (vis.map (·.1)).Nodup) (h1 : ∀ e ∈ vis, e ∈ l) (h2 : ∀ e ∈ l, e.1 ∈ vis.map (·.1)) : vis.Perm l := by
 have nl : l.Nodup := (List.pairwise_map.1 hn).imp fun h e => h (by rw [e])
 have nv : vis.Nodup := (List.pairwise_map.1 hv).imp fun h e => h (by rw [e])
 rw [List.perm_ext_iff_of_nodup nv nl]
 intro a
 refine ⟨h1 a, fun ha => ?_⟩
 obtain ⟨b, hb, hab⟩ := List.mem_map.1 (h2 a ha)
 have hbl := h1 b hb
 rw [← kstamp_inj hn hbl ha hab]; exact hb
theorem kvis_all {l vis : List (Nat × κ × α)} (hleft : remOf (mapK ke enc l) (vis.map (·.1)) = []) : ∀ e ∈ l, e.1 ∈ vis.map (·.1) := fun e he => by
 apply Classical.byContradiction
 intro hns
 have : (e.1, ke e.2.1, enc e.2.2) ∈ remOf (mapK ke enc l) (vis.map (·.1)) := by
  unfold remOf
  exact List.mem_filter.2 ⟨mapK_in he, by simpa using hns⟩
 rw [hleft] at this
 simp at this
theorem kvis_next {l vis : List (Nat × κ × α)} {e : Nat × V × V} (he : e ∈ remOf (mapK ke enc l) (vis.map (·.1))) : ∃ x ∈ l, e = (x.1, ke x.2.1, enc x.2.2) ∧ x.1 ∉ vis.map (·.1) := by
 obtain ⟨h1, h2⟩ := List.mem_filter.1 he
 obtain ⟨x, hx, rfl⟩ := mapK_mem h1
 exact ⟨x, hx, rfl, by simpa using h2⟩
theorem kvis_snoc {l vis : List (Nat × κ × α)} {x : Nat × κ × α} (hvn : (vis.map (·.1)).Nodup) (hvl : ∀ e ∈ vis, e ∈ l) (hx : x ∈ l) (hxn : x.1 ∉ vis.map (·.1)) :
  ((vis ++ [x]).map (·.1)).Nodup ∧ (∀ e ∈ vis ++ [x], e ∈ l) ∧ vis.length < l.length := by
 have n1 : ((vis ++ [x]).map (·.1)).Nodup := by
  rw [List.map_append, List.nodup_append]
  exact ⟨hvn, by simp, fun a ha b hb => by simp at hb; subst hb; exact fun hh => hxn (hh ▸ ha)⟩
 have n2 : ∀ e ∈ vis ++ [x], e ∈ l := fun e he => by
  rcases List.mem_append.1 he with h | h
  ·exact hvl e h
  ·simp at h; subst h; exact hx
 have n3 : (vis ++ [x]).Nodup := (List.pairwise_map.1 n1).imp fun h e => h (by rw [e])
 have := n3.length_le_of_subset n2
 rw [List.length_append] at this
 simp at this
 exact ⟨n1, n2, by omega⟩
end
theorem Acc.set {h0 h : AHeap} {e : TypeId} {sz : Nat} {v : V} {cs : List V} (a : Acc h0 h e sz v cs) {i : Nat} (hi : h0.n ≤ i) (hv : idOf v ≠ some i) (o : AObj) : Acc h0 (h.set i o) e sz v cs :=
 ⟨a.own.keep (Keep.set _ _ _) fun k hk he => hv (by rw [hk, he]), a.keep.setNew hi o, a.new⟩
end Go.Proofs.YtfcjehlhoebmnaaGreatDoor.Ab
namespace Go.Proofs.YtfcjehlhoebmnaaGreatDoor.Ab
open Go
set_option linter.unusedVariables false
theorem Cast.snil0 (h : AHeap) : Cast .snil h (.imm 0 []) h := fun ρ B w0 w r' hw hv => ⟨ρ, Ren.le.refl ρ, hw, by cases hv; exact .immZ none 0 fun _ => rfl⟩
section
variable {P : Program} {t : TypeId} {xo yo : Operand}
end
end Go.Proofs.YtfcjehlhoebmnaaGreatDoor.Ab
namespace Go.Proofs.YtfcjehlhoebmnaaGreatDoor.Ab
open Go
theorem KeyEnc.ofInt {P : Program} {t kt et : TypeId} {kk : IntKind} (hm : mapT P t = some (kt, et, .int kk)) : KeyEnc P kt (.int kk) (V.int kk) where
 eq a b := by rw [eqKey_int rfl]; rfl
 ok b a := checkKey_int (mapT_eq hm).2 rfl
 bits a := ⟨_, rfl, by simp [Instr.sameBits]⟩
end Go.Proofs.YtfcjehlhoebmnaaGreatDoor.Ab
namespace Go.Proofs.YtfcjehlhoebmnaaGreatDoor.Ab
section
variable {M : Nat → Prop} {ev : Operand → V} {t : TypeId} {m k : Operand} {b : Bool}
theorem mOk_lookup : mOk M (ridOp ev (.lookup t m k b)) = mOkV M (ev m) := rfl
end
end Go.Proofs.YtfcjehlhoebmnaaGreatDoor.Ab
namespace Go.Proofs.YtfcjehlhoebmnaaGreatDoor.Ab
open Go Go.RowKit
set_option linter.unusedVariables false
section
variable {P : Program} {t : TypeId} {T : SlT}
theorem natOf_nat {k : IntKind} {n : Nat} : natOf (.int k (n : Int)) = some n := by simp [natOf]
section
variable {sz : Nat} {i o len cap : Nat} {k k2 k3 : IntKind}
end
end
end Go.Proofs.YtfcjehlhoebmnaaGreatDoor.Ab
namespace Go.Proofs.YtfcjehlhoebmnaaGreatDoor.Ab
open Go Go.RowKit
set_option linter.unusedVariables false
theorem Cast.cellC {h h1 : AHeap} {X : Nat} {c c2 : List V} {e : TypeId} {ex : Option Nat} (hg : h.get X = .cells c e ex) (hcl : CastL c h c2 h1) (hg1 : h1.get X = .cells c e ex) (hle : c2.length = c.length) (r : V) :
  Cast r h r (h1.set X (.cells c2 e ex)) := fun ρ B w0 w r' hw hv => by
 have ho := hw.heap.obj X
 rw [hg] at ho
 obtain ⟨b, cp, arr, hr, hf, hB, hW, hc, hl, hx⟩ := ho
 obtain ⟨ρ1, le1, hw1, hl1⟩ := hcl ρ B w0 w _ hw hl
 have ho1 := hw1.heap.obj X
 rw [hg1] at ho1
 obtain ⟨b1, cp1, arr1, hr1, hf1, hB1, hW1, hc1, hl2, hx1⟩ := ho1
 have e1 := le1.ren _ _ hr
 rw [hr1] at e1
 simp only [Option.some.injEq, Prod.mk.injEq] at e1
 obtain ⟨rfl, rfl⟩ := e1
 rw [hW1] at hW
 simp only [Option.some.injEq, Obj.cells.injEq] at hW
 obtain ⟨rfl, -, -⟩ := hW
 have sg : ∀ j, j ≠ X → (h1.set X (.cells c2 e ex)).get j = h1.get j := fun j hj => by simp [AHeap.set, hj]
 have sx : (h1.set X (.cells c2 e ex)).get X = .cells c2 e ex := by simp [AHeap.set]
 have live : ∀ j, (h1.set X (.cells c2 e ex)).get j ≠ .dead → h1.get j ≠ .dead := fun j hj => by
  by_cases hjX : j = X
  ·subst hjX; rw [hg1]; intro q; cases q
  ·rwa [sg j hjX] at hj
 refine ⟨ρ1, le1, ⟨⟨hw1.heap.dom, fun i j b c c' hi hj h2 h3 => hw1.heap.inj i j b c c' (live i hi) (live j hj) h2 h3, fun j => ?_, hw1.heap.frz, hw1.heap.glob, hw1.heap.base⟩, hw1.below⟩, hv.mono le1⟩
 by_cases hj : j = X
 ·subst hj
  rw [sx]
  rw [← hle] at hl1
  exact ⟨_, _, _, hr1, hf1, hB1, hW1, by rw [hle]; exact hc1, hl1, by rw [hle]; exact hx1⟩
 ·rw [sg j hj]; exact hw1.heap.obj j
theorem strict_unique {α : Type} {r : α → α → Prop} (hi : ∀ a, ¬ r a a) (ha : ∀ a b, r a b → ¬ r b a) : ∀ {a b : List α}, a.Pairwise r → b.Pairwise r → (∀ c, c ∈ a ↔ c ∈ b) → a = b
 | [], [], _, _, _ => rfl
 | [], y :: b, _, _, h => by have := (h y).2 List.mem_cons_self; cases this
 | x :: a, [], _, _, h => by have := (h x).1 List.mem_cons_self; cases this
 | x :: a, y :: b, pa, pb, h => by
  have pa' := List.pairwise_cons.1 pa
  have pb' := List.pairwise_cons.1 pb
  have hxy : x = y := by
   apply Classical.byContradiction
   intro hne
   have hy : y ∈ a := by
    rcases List.mem_cons.1 ((h y).2 List.mem_cons_self) with e | e
    ·exact absurd e.symm hne
    ·exact e
   have hx : x ∈ b := by
    rcases List.mem_cons.1 ((h x).1 List.mem_cons_self) with e | e
    ·exact absurd e hne
    ·exact e
   exact ha _ _ (pa'.1 y hy) (pb'.1 x hx)
  subst hxy
  rw [strict_unique hi ha pa'.2 pb'.2 fun c => ?_]
  constructor
  ·intro hc
   rcases List.mem_cons.1 ((h c).1 (List.mem_cons_of_mem _ hc)) with e | e
   ·subst e; exact absurd (pa'.1 c hc) (hi c)
   ·exact e
  ·intro hc
   rcases List.mem_cons.1 ((h c).2 (List.mem_cons_of_mem _ hc)) with e | e
   ·subst e; exact absurd (pb'.1 c hc) (hi c)
   ·exact e
end Go.Proofs.YtfcjehlhoebmnaaGreatDoor.Ab
namespace Go.Proofs.YtfcjehlhoebmnaaGreatDoor.Ab
open Go Go.RowKit
section
variable {P : Program} {h : AHeap} {s : TypeId}
end
end Go.Proofs.YtfcjehlhoebmnaaGreatDoor.Ab
namespace Go.Proofs.YtfcjehlhoebmnaaGreatDoor.Ab
open Go Go.RowKit
end Go.Proofs.YtfcjehlhoebmnaaGreatDoor.Ab
