/-
  Rules of the machine on abstract states. Conditions: as each theorem says.
-/
import Derived.WalkKit
import Derived.Below
import Derived.Laws.AppendOwn
import Derived.Laws.CopyRow
import Derived.Laws.Rows
import Derived.Deep.MidRow
import Derived.Deep.AppendSrc
import Derived.Laws.MakeOwn
import Derived.Lib.AppendZerosOnto
import Derived.Laws.BytesArg
import Derived.Laws.Tables
import Derived.Lib.Overlaps
import Derived.Laws.LoneSync
set_option linter.unusedVariables false
set_option linter.unusedSimpArgs false
namespace Go.Proofs.YtceanabgcnieeaaGreatDoor.Ab
structure fC (B:Nat) (w w':World):Prop where
 os:w'.os=w.os
 tape:w'.tape=w.tape
 output:w'.output=w.output
 size:w.heap.size≤w'.heap.size
 block:∀ k,k<B→w'.heap[k]?=w.heap[k]?
 drawn:w.drawn≤w'.drawn
theorem fC.below {B:Nat} {w w':World} (h:fC B w w'):RowKit.Below B w w':=⟨h.os,h.tape,h.output,h.size,h.block⟩
theorem fC.refl (B:Nat) (w:World):fC B w w:=⟨rfl,rfl,rfl,Nat.le_refl _,fun _ _=>rfl,Nat.le_refl _⟩
theorem fC.trans {B:Nat} {a b c:World} (h:fC B a b) (k:fC B b c):fC B a c :=
 ⟨k.os.trans h.os,k.tape.trans h.tape,k.output.trans h.output,Nat.le_trans h.size k.size,fun i hi=>(k.block i hi).trans (h.block i hi),Nat.le_trans h.drawn k.drawn⟩
theorem fC.drew {B:Nat} {a w:World} (h:fC B a w):fC B a w.drew:=⟨h.os,h.tape,h.output,h.size,h.block,Nat.le_trans h.drawn (Nat.le_succ _)⟩
theorem fC.alloc {B:Nat} {a w:World} (h:fC B a w) (b3:B≤w.heap.size) (o:Obj):fC B a (w.alloc o) :=
 h.trans ⟨rfl,rfl,rfl,by simp,fun k hk=>RowKit.Below.heap_alloc _ _ _ (by omega),Nat.le_refl _⟩
inductive V where
 | top
 | bool (b:Bool)
 | int (k:IntKind) (n:Int)
 | float (k:FloatKind) (b:Nat)
 | complex (k:FloatKind) (a b:Nat)
 | string (s:ByteArray)
 | nilFunc
 | nilIface
 | en
 | ag
 | dk
 | z0
 | gr
 | ptr (i o:Nat)
 | aj (i o len cap:Nat)
 | an (n:Nat) (cs:List V)
 | at (cs:List V)
 | map (i:Nat)
 | func (fn:Fn) (first captured:List V)
 | iface (t:TypeId) (v:V)
 | agg (cs:List V)
 | tuple (vs:List V)
 deriving Inhabited
def yB:Fn→Bool
 | .yield _=>true
 | _=>false
def eD:Value→V
 | .bool b=>.bool b
 | .int k n=>.int k n
 | .float k b=>.float k b
 | .complex k a b=>.complex k a b
 | .string s=>.string s
 | .nilFunc=>.nilFunc
 | .nilIface=>.nilIface
 | .pointer none=>.en
 | .slice none 0 0=>.ag
 | .map none=>.dk
 | .func fn xs ys=>if (xs.isEmpty&&ys.isEmpty)&&!yB fn then .func fn [] [] else .top
 | .tuple xs=>if xs.isEmpty then .tuple [] else .top
 | _=>.top
def eZ:Value→V
 | .agg xs=>.agg (xs.toList.map eD)
 | .iface t v=>.iface t (eD v)
 | v=>eD v
def yC (fn:FuncId) (p:Tmp) (assign body:Code) (D:Nat) (st:LoopState):List Value→Obj:=fun arr=>.loop { state:=st,pending:=none,fn,tmps:=arr.toArray,params:=#[p],assign,body,defers:=D }
inductive nX where
 | ix
 | loop (j:Nat) (p:Tmp) (assign body:Code) (busy:Bool)
inductive aD where
 | dead
 | cells (c:List V) (elem:TypeId) (ex:Option Nat)
 | map (es:List (Nat×V×V)) (clock:Nat)
 | iter (m:Nat) (since:Nat) (seen:List Nat) (mu:Nat)
 | dP (k:nX) (vs:List V)
structure I where
 n:Nat
 get:Nat→aD
 glob:Nat→Option (List V)
def I.set (h:I) (i:Nat) (o:aD):I:={ h with get:=fun j=>if j=i then o else h.get j }
def I.push (h:I) (o:aD):I:={ h with n:=h.n+1,get:=fun j=>if j=h.n then o else h.get j }
def ai:Nat:=2 ^ 64
def e8 (c cap:Nat):Nat:=if cap<ai then cap else c - (cap - ai)
structure Ren where
 ren:Nat→Option (Nat×Nat)
 frz:Nat→Option (Array Value)
 dfr:List Deferred:=[]
structure Ren.le (ρ ρ':Ren):Prop where
 ren:∀ i x,ρ.ren i=some x→ρ'.ren i=some x
 frz:∀ i x,ρ.frz i=some x→ρ'.frz i=some x
 dfr:ρ'.dfr=ρ.dfr
theorem Ren.le.refl (ρ:Ren):ρ.le ρ:=⟨fun _ _ h=>h,fun _ _ h=>h,rfl⟩
theorem Ren.le.trans {a b c:Ren} (h:a.le b) (k:b.le c):a.le c:=⟨fun i x af=>k.ren i x (h.ren i x af),fun i x af=>k.frz i x (h.frz i x af),k.dfr.trans h.dfr⟩
inductive ax (ρ:Ren):V→Value→Prop
 | top (v):ax ρ .top v
 | bool (b):ax ρ (.bool b) (.bool b)
 | int (k n):ax ρ (.int k n) (.int k n)
 | float (k b):ax ρ (.float k b) (.float k b)
 | complex (k a b):ax ρ (.complex k a b) (.complex k a b)
 | string (s):ax ρ (.string s) (.string s)
 | nilFunc:ax ρ .nilFunc .nilFunc
 | nilIface:ax ρ .nilIface .nilIface
 | en:ax ρ .en (.pointer none)
 | ag:ax ρ .ag (.slice none 0 0)
 | dk:ax ρ .dk (.map none)
 | z0 (a:Option Addr) (aL:True):ax ρ .z0 (.slice a 0 0)
 | gr (a:Addr) (c:Nat):ax ρ .gr (.slice (some a) 0 c)
 | ptr {i b c:Nat} (h:ρ.ren i=some (b,c)) (o:Nat):ax ρ (.ptr i o) (.pointer (some ⟨b,o,none⟩))
 | aj {i b c:Nat} (h:ρ.ren i=some (b,c)) (o len cap:Nat) (aw:len≤e8 c cap) :
   ax ρ (.aj i o len cap) (.slice (some ⟨b,o,none⟩) len (e8 c cap))
 | an {b:Nat} (o n cap:Nat) {arr:Array Value} {cs:List V} (ar:ρ.frz b=some arr) (aJ:n≤cap) (av:o+cs.length≤arr.size)
   (af:∀ (k:Nat) (v:V) (v':Value),cs[k]?=some v→arr[o+k]?=some v'→ax ρ v v'):ax ρ (.an n cs) (.slice (some ⟨b,o,none⟩) n cap)
 | fH (a:Option Addr) (c:Nat) (aL:a=none→c=0):ax ρ (.an 0 []) (.slice a 0 c)
 | at {b:Nat} (o:Nat) {arr:Array Value} {cs:List V} (ar:ρ.frz b=some arr) (av:o+cs.length≤arr.size)
   (af:∀ (k:Nat) (v:V) (v':Value),cs[k]?=some v→arr[o+k]?=some v'→ax ρ v v'):ax ρ (.at cs) (.pointer (some ⟨b,o,none⟩))
 | map {i b c:Nat} (h:ρ.ren i=some (b,c)):ax ρ (.map i) (.map (some b))
 | kB {i b c:Nat} (h:ρ.ren i=some (b,c)):ax ρ (.func (.yield i) [] []) (.func (.yield b) #[] #[])
 | func (fn:Fn) (am7:yB fn=false) {xs ys:List V} {dE pZ:Array Value} (J:xs.length=dE.size) (bM:ys.length=pZ.size)
   (af:∀ (k:Nat) (v:V) (v':Value),xs[k]?=some v→dE[k]?=some v'→ax ρ v v') (aX:∀ (k:Nat) (v:V) (v':Value),ys[k]?=some v→pZ[k]?=some v'→ax ρ v v') :
   ax ρ (.func fn xs ys) (.func fn dE pZ)
 | iface (t:TypeId) {v:V} {v':Value} (h:ax ρ v v'):ax ρ (.iface t v) (.iface t v')
 | agg {xs:List V} {dE:Array Value} (J:xs.length=dE.size) (af:∀ (k:Nat) (v:V) (v':Value),xs[k]?=some v→dE[k]?=some v'→ax ρ v v'):ax ρ (.agg xs) (.agg dE)
 | tuple {xs:List V} {dE:Array Value} (J:xs.length=dE.size) (af:∀ (k:Nat) (v:V) (v':Value),xs[k]?=some v→dE[k]?=some v'→ax ρ v v'):ax ρ (.tuple xs) (.tuple dE)
theorem ax.si {ρ ρ':Ren} (vj:∀ i x,ρ.ren i=some x→ρ'.ren i=some x) (CX:∀ i x,ρ.frz i=some x→ρ'.frz i=some x) {v:V} {v':Value} (h:ax ρ v v'):ax ρ' v v':=by
 induction h with
 | top v=>exact .top v
 | bool b=>exact .bool b
 | int k n=>exact .int k n
 | float k b=>exact .float k b
 | complex k a b=>exact .complex k a b
 | string s=>exact .string s
 | nilFunc=>exact .nilFunc
 | nilIface=>exact .nilIface
 | en=>exact .en
 | ag=>exact .ag
 | dk=>exact .dk
 | z0 a aL=>exact .z0 a aL
 | gr a c=>exact .gr a c
 | ptr h o=>exact .ptr (vj _ _ h) o
 | aj h o len cap aw=>exact .aj (vj _ _ h) o len cap aw
 | an o n cap ar aJ av _ ih=>exact .an o n cap (CX _ _ ar) aJ av ih
 | fH a c aL=>exact .fH a c aL
 | «at» o ar av _ ih=>exact .at o (CX _ _ ar) av ih
 | map h=>exact .map (vj _ _ h)
 | kB h=>exact .kB (vj _ _ h)
 | func fn ay J bM _ _ gm Lz=>exact .func fn ay J bM gm Lz
 | iface t _ ih=>exact .iface t ih
 | agg J _ ih=>exact .agg J ih
 | tuple J _ ih=>exact .tuple J ih
theorem ax.mono {ρ ρ':Ren} (hρ:ρ.le ρ') {v:V} {v':Value} (h:ax ρ v v'):ax ρ' v v':=h.si hρ.ren hρ.frz
theorem ax.dfr {ρ:Ren} {v:V} {v':Value} (h:ax ρ v v') (d:List Deferred):ax { ρ with dfr:=d } v v':=ax.si (ρ:=ρ) (ρ':={ ρ with dfr:=d }) (fun _ _ h=>h) (fun _ _ h=>h) h
def aQ (ρ:Ren) (l:List V) (b7:List Value):Prop:=l.length=b7.length∧∀ (k:Nat) (v:V) (v':Value),l[k]?=some v→b7[k]?=some v'→ax ρ v v'
section
variable {ρ ρ':Ren} {l m:List V} {b7 e0:List Value}
theorem aQ.mono (hρ:ρ.le ρ') (h:aQ ρ l b7):aQ ρ' l b7 :=
 ⟨h.1,fun k v v' a b=>(h.2 k v v' a b).mono hρ⟩
theorem aQ.nil (ρ:Ren):aQ ρ [] []:=⟨rfl,by simp⟩
theorem aQ.cons {v:V} {v':Value} (h:ax ρ v v') (aw:aQ ρ l b7):aQ ρ (v::l) (v'::b7):=by
 refine ⟨by simp [aw.1],fun k a b aL ar=>?_⟩
 cases k with
 | zero=>simp at aL ar;subst aL;subst ar;exact h
 | succ k=>exact aw.2 k a b (by simpa using aL) (by simpa using ar)
theorem aQ.dF {v:V} (h:aQ ρ (v::l) b7):∃ v' k1,b7=v'::k1∧ax ρ v v'∧aQ ρ l k1:=by
 cases b7 with
 | nil=>have:=h.1;simp at this
 | cons v' k1=>exact ⟨v',k1,rfl,h.2 0 v v' rfl rfl,⟨by simpa using h.1,fun k a b aL ar=>h.2 (k+1) a b (by simpa using aL) (by simpa using ar)⟩⟩
theorem aQ.eq_nil (h:aQ ρ [] b7):b7=[]:=by
 have:=h.1;simp at this;exact List.eq_nil_of_length_eq_zero this.symm
theorem aQ.get (h:aQ ρ l b7) {k:Nat} {v:V} (aN:l[k]?=some v):∃ v',b7[k]?=some v'∧ax ρ v v':=by
 have hk:k<l.length:=(List.getElem?_eq_some_iff.1 aN).1
 have cF:k<b7.length:=by rw [←h.1];exact hk
 exact ⟨b7[k],List.getElem?_eq_getElem cF,h.2 k v _ aN (List.getElem?_eq_getElem cF)⟩
theorem aQ.take (h:aQ ρ l b7) (n:Nat):aQ ρ (l.take n) (b7.take n):=by
 refine ⟨by simp [h.1],fun k a b aL ar=>?_⟩
 rw [List.getElem?_take] at aL ar
 split at aL<;>simp_all
 exact h.2 k a b aL ar
theorem aQ.drop (h:aQ ρ l b7) (n:Nat):aQ ρ (l.drop n) (b7.drop n):=by
 refine ⟨by simp [h.1],fun k a b aL ar=>?_⟩
 rw [List.getElem?_drop] at aL ar
 exact h.2 _ a b aL ar
theorem aQ.append (h:aQ ρ l b7) (g:aQ ρ m e0):aQ ρ (l++m) (b7++e0):=by
 refine ⟨by simp [h.1,g.1],fun k a b aL ar=>?_⟩
 by_cases hk:k<l.length
 ·rw [List.getElem?_append_left hk] at aL
  rw [List.getElem?_append_left (by rw [←h.1];exact hk)] at ar
  exact h.2 k a b aL ar
 ·rw [List.getElem?_append_right (by omega)] at aL
  rw [List.getElem?_append_right (by rw [←h.1];omega)] at ar
  rw [←h.1] at ar
  exact g.2 _ a b aL ar
theorem aQ.of_map {f:Value→V} (aB:∀ v,ax ρ (f v) v) (l:List Value):aQ ρ (l.map f) l:=by
 refine ⟨by simp,fun k a b aL ar=>?_⟩
 simp [ar] at aL
 subst aL
 exact aB b
end
def c1 (ρ:Ren) (xs:List V) (dE:Array Value):Prop:=xs.length=dE.size∧∀ (k:Nat) (v:V) (v':Value),xs[k]?=some v→dE[k]?=some v'→ax ρ v v'
theorem c1.list {ρ:Ren} {xs:List V} {dE:Array Value} (h:c1 ρ xs dE):aQ ρ xs dE.toList:=⟨by simpa using h.1,by simpa using h.2⟩
theorem aQ.arr {ρ:Ren} {xs:List V} {dE:List Value} (h:aQ ρ xs dE):c1 ρ xs dE.toArray:=⟨by simpa using h.1,by simpa using h.2⟩
theorem aQ.ij {ρ:Ren} {xs:List V} {dE:Array Value} (h:aQ ρ xs dE.toList):c1 ρ xs dE:=⟨by simpa using h.1,by simpa using h.2⟩
theorem c1.agg {ρ:Ren} {xs:List V} {dE:Array Value} (h:c1 ρ xs dE):ax ρ (.agg xs) (.agg dE):=.agg h.1 h.2
theorem c1.tuple {ρ:Ren} {xs:List V} {dE:Array Value} (h:c1 ρ xs dE):ax ρ (.tuple xs) (.tuple dE):=.tuple h.1 h.2
theorem c1.mono {ρ ρ':Ren} (hρ:ρ.le ρ') {l:List V} {b7:Array Value} (h:c1 ρ l b7):c1 ρ' l b7:=⟨h.1,fun k v v' a b=>(h.2 k v v' a b).mono hρ⟩
theorem fd (ρ:Ren) (v:Value):ax ρ (eD v) v:=by
 unfold eD
 split
 ·exact .bool _
 ·exact .int _ _
 ·exact .float _ _
 ·exact .complex _ _ _
 ·exact .string _
 ·exact .nilFunc
 ·exact .nilIface
 ·exact .en
 ·exact .ag
 ·exact .dk
 ·rename_i fn xs ys
  split
  ·rename_i h
   simp at h
   obtain ⟨⟨rfl,rfl⟩,ay⟩:=h
   exact .func fn ay rfl rfl (by simp) (by simp)
  ·exact .top _
 ·rename_i xs
  split
  ·rename_i h
   simp at h
   subst h
   exact .tuple rfl (by simp)
  ·exact .top _
 ·exact .top _
theorem yD (ρ:Ren) (v:Value):ax ρ (eZ v) v:=by
 unfold eZ
 split
 ·exact (aQ.of_map (fd ρ) _).ij.agg
 ·exact .iface _ (fd ρ _)
 ·exact fd ρ v
def k3:V→Option Value
 | .bool b=>some (.bool b)
 | .int k n=>some (.int k n)
 | .float k b=>some (.float k b)
 | .complex k a b=>some (.complex k a b)
 | .string s=>some (.string s)
 | .nilFunc=>some .nilFunc
 | .nilIface=>some .nilIface
 | .en=>some (.pointer none)
 | .ag=>some (.slice none 0 0)
 | .dk=>some (.map none)
 | .tuple []=>some (.tuple #[])
 | _=>none
def hQ:List V→Option (List Value)
 | []=>some []
 | v::r=>match k3 v,hQ r with
  | some a,some l=>some (a::l)
  | _,_=>none
def lK:V→Option Value
 | .agg xs=>(hQ xs).map fun l=>.agg l.toArray
 | .iface t v=>(k3 v).map fun a=>.iface t a
 | v=>k3 v
theorem tZ {ρ:Ren} {v:V} {v' a:Value} (h:ax ρ v v') (aB:k3 v=some a):v'=a:=by
 cases h<;>simp [k3] at aB<;>try exact aB
 rename_i xs dE J af
 cases xs with
 | nil=>simp at aB J;rw [←aB,Array.eq_empty_of_size_eq_zero J.symm]
 | cons x t=>simp at aB
theorem LA {ρ:Ren}:∀ {l:List V} {b7 a:List Value},aQ ρ l b7→hQ l=some a→b7=a
 | [],b7,a,h,aB=>by simp [hQ] at aB;rw [aB];exact h.eq_nil
 | v::l,b7,a,h,aB=>by
  obtain ⟨v',k1,rfl,aN,bM⟩:=h.dF
  unfold hQ at aB
  split at aB
  ·rename_i b c ar al
   simp at aB
   rw [←aB,tZ aN ar,LA bM al]
  ·cases aB
theorem sv {ρ:Ren} {v:V} {v' a:Value} (h:ax ρ v v') (aB:lK v=some a):v'=a:=by
 unfold lK at aB
 split at aB
 ·cases h with
  | agg J af=>
   rename_i xs dE
   cases aw:hQ xs with
   | none=>simp [aw] at aB
   | some l=>
    simp [aw] at aB
    have:=LA (c1.list ⟨J,af⟩) aw
    rw [←aB,←this]
 ·cases h with
  | iface t h=>
   rename_i u p0
   cases hu:k3 u with
   | none=>simp [hu] at aB
   | some b=>simp [hu] at aB;rw [←aB,tZ h hu]
 ·exact tZ h aB
def yE (ex:Option Nat) (bh size len:Nat):Prop:=match ex with | none=>size=len | some s=>size=bh * s∧bh<2 ^ 63
def e1 (ρ:Ren) (es:List (Nat×V×V)) (arr:Array MapEntry):Prop :=
 es.length=arr.size∧∀ (k:Nat) (e:Nat×V×V) (dG:MapEntry),es[k]?=some e→arr[k]?=some dG→e.1=dG.born∧ax ρ e.2.1 dG.key∧ax ρ e.2.2 dG.val
def k4 (ρ:Ren) (w:World) (b:Nat) (arr:List Value):nX→Prop
 | .ix=>w.heap[b]?=some (.deferred (some []))
 | .loop j p a c busy=>∃ D wJ q,ρ.ren j=some (D,wJ)∧w.heap[b]?=some (yC q p a c D (if busy then .busy else .ready) arr)
def gu (ρ:Ren) (B:Nat) (w:World) (i:Nat):aD→Prop
 | .dead=>True
 | .cells c e ex=>∃ b bh arr,ρ.ren i=some (b,bh)∧ρ.frz b=none∧B≤b∧w.heap[b]?=some (.cells arr e (0,0))∧c.length≤arr.size∧aQ ρ c (arr.toList.take c.length) ∧
   yE ex bh arr.size c.length
 | .map es clock=>∃ b bh arr,ρ.ren i=some (b,bh)∧ρ.frz b=none∧B≤b∧w.heap[b]?=some (.map arr clock)∧e1 ρ es arr
 | .iter m since seen mu=>∃ b bh pt p1,ρ.ren i=some (b,bh)∧ρ.frz b=none∧B≤b∧ρ.ren m=some (pt,p1)∧w.heap[b]?=some (.mapIter (some pt) since seen.toArray mu)
 | .dP k vs=>∃ b bh arr,ρ.ren i=some (b,bh)∧ρ.frz b=none∧B≤b∧k4 ρ w b arr k∧aQ ρ vs arr
structure kC (ρ:Ren) (B:Nat) (h:I) (w:World):Prop where
 gv:∀ i,h.n≤i→ρ.ren i=none
 inj:∀ i j b c k5,h.get i≠.dead→h.get j≠.dead→ρ.ren i=some (b,c)→ρ.ren j=some (b,k5)→i=j
 obj:∀ i,gu ρ B w i (h.get i)
 frz:∀ b arr,ρ.frz b=some arr→∃ e ei,w.heap[b]?=some (.cells arr e ei)
 glob:∀ g cs,h.glob g=some cs→∃ arr,ρ.frz g=some arr∧c1 ρ cs arr
 base:B≤w.heap.size
abbrev ak:=Nat→V
def ak.put (f:ak) (d:Option Tmp) (v:V):ak :=
 match d with
 | some d=>fun t=>if t=d then v else f t
 | none=>f
def ak.eval (f:ak) (h:I):Operand→V
 | .tmp t=>f t
 | .const v=>eZ v
 | .global g=>match h.glob g with | some cs=>.at cs | none=>.top
 | .func fid=>.func (.func fid) [] []
structure df (ρ:Ren) (n:Nat) (f:ak) (a:Act):Prop where
 tmps:∀ t,ax ρ (f t) (a.tmps.getD t undef)
 size:a.tmps.size=n
 defers:a.defers=ρ.dfr
theorem df.mono {ρ ρ':Ren} (hρ:ρ.le ρ') {n:Nat} {f:ak} {a:Act} (h:df ρ n f a):df ρ' n f a:=⟨fun t=>(h.tmps t).mono hρ,h.size,h.defers.trans hρ.dfr.symm⟩
def j3 (n:Nat) (d:Option Tmp):Bool:=match d with | some t=>decide (t<n) | none=>true
theorem df.put {ρ:Ren} {n:Nat} {f:ak} {a:Act} (h:df ρ n f a) {v:V} {v':Value} (aN:ax ρ v v') (d:Option Tmp) (a7:j3 n d=true) :
  df ρ n (f.put d v) (a.put d v'):=by
 cases d with
 | none=>exact h
 | some d=>
  have a7:d<n:=by simpa [j3] using a7
  refine ⟨fun t=>?_,by simp [Act.put,h.size],h.defers⟩
  simp only [Act.put,ak.put]
  by_cases bM:t=d
  ·subst bM
   simp [h.size,a7,aN]
  ·have:=h.tmps t
   simp [bM] at this⊢
   rw [Array.getElem?_setIfInBounds_ne (by omega)]
   exact this
theorem kC.cJ {ρ:Ren} {B:Nat} {h:I} {w:World} (H:kC ρ B h w) (g:Nat):ax ρ (match h.glob g with | some cs=>.at cs | none=>.top) (.pointer (some ⟨g,0,none⟩)):=by
 cases aE:h.glob g with
 | none=>exact .top _
 | some cs=>
  obtain ⟨arr,aB,aq⟩:=H.glob g cs aE
  exact .at 0 aB (by simp [aq.1]) (by simpa using aq.2)
theorem df.eval {ρ:Ren} {n B:Nat} {f:ak} {a:Act} {h:I} {w:World} (aB:df ρ n f a) (H:kC ρ B h w) (x:Operand):ax ρ (f.eval h x) (a.eval x):=by
 cases x with
 | tmp t=>exact aB.tmps t
 | const v=>exact yD ρ v
 | global g=>exact H.cJ g
 | func fid=>exact .func _ rfl rfl rfl (by simp) (by simp)
open Go Go.RowKit
structure aM (ρ:Ren) (B:Nat) (aG:World) (h:I) (w:World):Prop where
 heap:kC ρ B h w
 below:fC B aG w
def ap (P:Program) (t:TypeId):Option Nat:=(P.info? t).map (·.size)
def BN (P:Program) (t:TypeId):Option Nat:=(P.info? t).map (·.bytes)
def jg (P:Program) (t:TypeId):Option Value:=(P.info? t).bind (·.zero)
def j4 (P:Program) (t:TypeId):Option Bool:=(P.underlying t).map (·.isRow)
def pw (P:Program) (t:TypeId):Option TypeId:=match P.underlying t with | some (.slice e)=>some e | _=>none
theorem kC.lt {ρ:Ren} {B:Nat} {h:I} {w:World} (H:kC ρ B h w) {i b bh:Nat} (hi:ρ.ren i=some (b,bh)):i<h.n:=by
 apply Nat.lt_of_not_le
 intro hle
 rw [H.gv i hle] at hi
 cases hi
theorem kC.live {ρ:Ren} {B:Nat} {h:I} {w:World} (H:kC ρ B h w) {i:Nat} (hi:h.get i≠.dead) :
  ∃ b bh,ρ.ren i=some (b,bh)∧b<w.heap.size∧i<h.n∧ρ.frz b=none∧B≤b:=by
 have:=H.obj i
 cases aE:h.get i with
 | dead=>exact absurd aE hi
 | cells c e ex=>
  rw [aE] at this
  obtain ⟨b,bh,arr,aq,aB,b3,hw,_⟩:=this
  exact ⟨b,bh,aq,(Array.getElem?_eq_some_iff.1 hw).1,H.lt aq,aB,b3⟩
 | map es a1=>
  rw [aE] at this
  obtain ⟨b,bh,arr,aq,aB,b3,hw,_⟩:=this
  exact ⟨b,bh,aq,(Array.getElem?_eq_some_iff.1 hw).1,H.lt aq,aB,b3⟩
 | iter m s l st=>
  rw [aE] at this
  obtain ⟨b,bh,pt,p1,aq,aB,b3,hm,hw⟩:=this
  exact ⟨b,bh,aq,(Array.getElem?_eq_some_iff.1 hw).1,H.lt aq,aB,b3⟩
 | dP k vs=>
  rw [aE] at this
  obtain ⟨b,bh,arr,aq,aB,b3,hw,aw⟩:=this
  refine ⟨b,bh,aq,?_,H.lt aq,aB,b3⟩
  cases k with
  | ix=>exact (Array.getElem?_eq_some_iff.1 hw).1
  | loop j p a c y=>obtain ⟨_,_,_,_,ab⟩:=hw;exact (Array.getElem?_eq_some_iff.1 ab).1
theorem e1.mono {ρ ρ':Ren} (hρ:ρ.le ρ') {es:List (Nat×V×V)} {arr:Array MapEntry} (h:e1 ρ es arr):e1 ρ' es arr :=
 ⟨h.1,fun k e dG a b=>let ⟨x,y,z⟩:=h.2 k e dG a b;⟨x,y.mono hρ,z.mono hρ⟩⟩
theorem gu.au {ρ ρ':Ren} (hρ:ρ.le ρ') {B:Nat} {w w':World} {i:Nat} {o:aD} (h:gu ρ B w i o)
  (hk:∀ b c,ρ.ren i=some (b,c)→w'.heap[b]?=w.heap[b]?∧(ρ.frz b=none→ρ'.frz b=none)):gu ρ' B w' i o:=by
 cases o with
 | dead=>trivial
 | cells c e ex=>
  obtain ⟨b,bh,arr,aq,aB,b3,hw,al,aw,af⟩:=h
  exact ⟨b,bh,arr,hρ.ren _ _ aq,(hk b bh aq).2 aB,b3,(hk b bh aq).1.trans hw,al,aw.mono hρ,af⟩
 | map es a1=>
  obtain ⟨b,bh,arr,aq,aB,b3,hw,hm⟩:=h
  exact ⟨b,bh,arr,hρ.ren _ _ aq,(hk b bh aq).2 aB,b3,(hk b bh aq).1.trans hw,hm.mono hρ⟩
 | iter m s l st=>
  obtain ⟨b,bh,pt,p1,aq,aB,b3,hm,hw⟩:=h
  exact ⟨b,bh,pt,p1,hρ.ren _ _ aq,(hk b bh aq).2 aB,b3,hρ.ren _ _ hm,(hk b bh aq).1.trans hw⟩
 | dP k vs=>
  obtain ⟨b,bh,arr,aq,aB,b3,hw,aw⟩:=h
  refine ⟨b,bh,arr,hρ.ren _ _ aq,(hk b bh aq).2 aB,b3,?_,aw.mono hρ⟩
  cases k with
  | ix=>exact (hk b bh aq).1.trans hw
  | loop j p a c y=>obtain ⟨D,wJ,q,h1,ab⟩:=hw;exact ⟨D,wJ,q,hρ.ren _ _ h1,(hk b bh aq).1.trans ab⟩
def Ren.add (ρ:Ren) (i b bh:Nat):Ren:={ ρ with ren:=fun j=>if j=i then some (b,bh) else ρ.ren j }
theorem Ren.nY {ρ:Ren} {i:Nat} (hi:ρ.ren i=none) (b bh:Nat):ρ.le (ρ.add i b bh):=by
 refine ⟨fun j x aC=>?_,fun _ _ h=>h,rfl⟩
 simp only [Ren.add]
 by_cases sw:j=i
 ·subst sw;rw [hi] at aC;cases aC
 ·simp [sw,aC]
theorem Ren.iR {ρ:Ren} {i b bh:Nat}:(ρ.add i b bh).ren i=some (b,bh):=by simp [Ren.add]
theorem Ren.PX {ρ:Ren} {i b bh:Nat}:(ρ.add i b bh).frz=ρ.frz:=rfl
theorem aM.vk {ρ:Ren} {B:Nat} {aG:World} {h:I} {w w':World} (R:aM ρ B aG h w) {o:aD} (bh:Nat)
  (bn:w.heap.size<w'.heap.size) (hold:∀ k,k<w.heap.size→w'.heap[k]?=w.heap[k]?) (ar:fC B w w')
  (iK:gu (ρ.add h.n w.heap.size bh) B w' h.n o) :
  ρ.le (ρ.add h.n w.heap.size bh)∧aM (ρ.add h.n w.heap.size bh) B aG (h.push o) w':=by
 have hle:=Ren.nY (R.heap.gv _ (Nat.le_refl _)) w.heap.size bh
 have rA:∀ b arr,ρ.frz b=some arr→b<w.heap.size:=fun b arr aB=>by
  obtain ⟨e,ei,hw⟩:=R.heap.frz b arr aB
  exact (Array.getElem?_eq_some_iff.1 hw).1
 refine ⟨hle,⟨⟨fun i hi=>?_,fun i j b bf bx hi aC h1 ab=>?_,fun i=>?_,fun b arr aB=>?_,fun g cs aE=>?_,?_⟩,R.below.trans ar⟩⟩
 ·simp only [I.push] at hi
  simp [Ren.add,show i≠h.n by omega,R.heap.gv i (by omega)]
 ·simp only [I.push] at hi aC
  simp only [Ren.add] at h1 ab
  by_cases gO:i=h.n<;>by_cases mv:j=h.n
  ·omega
  ·simp [gO] at h1;simp [mv] at ab aC
   obtain ⟨fe,pf,aq,aT,_⟩:=R.heap.live aC
   rw [aq] at ab;simp at ab;omega
  ·simp [mv] at ab;simp [gO] at h1 hi
   obtain ⟨fe,pf,aq,aT,_⟩:=R.heap.live hi
   rw [aq] at h1;simp at h1;omega
  ·simp [gO] at h1 hi;simp [mv] at ab aC
   exact R.heap.inj i j b bf bx hi aC h1 ab
 ·by_cases gO:i=h.n
  ·subst gO
   simpa only [I.push,if_true] using iK
  ·simp only [I.push,if_neg gO]
   by_cases a7:h.get i=.dead
   ·rw [a7];trivial
   ·refine (R.heap.obj i).au hle fun b bf aq=>⟨hold b ?_,fun h=>h⟩
    obtain ⟨fe,pf,dL,aT,_⟩:=R.heap.live a7
    rw [dL] at aq;simp at aq
    obtain ⟨rfl,rfl⟩:=aq
    exact aT
 ·obtain ⟨e,ei,hw⟩:=R.heap.frz b arr aB
  exact ⟨e,ei,(hold b (rA b arr aB)).trans hw⟩
 ·obtain ⟨arr,aB,aq⟩:=R.heap.glob g cs aE
  exact ⟨arr,aB,aq.mono hle⟩
 ·exact Nat.le_trans R.heap.base (Nat.le_of_lt bn)
theorem aM.push {ρ:Ren} {B:Nat} {aG:World} {h:I} {w w':World} (R:aM ρ B aG h w) {c:List V} {arr:Array Value} {e:TypeId} {ex:Option Nat} (bh:Nat)
  (bn:w.heap.size<w'.heap.size) (hold:∀ k,k<w.heap.size→w'.heap[k]?=w.heap[k]?) (iK:w'.heap[w.heap.size]?=some (.cells arr e (0,0)))
  (ar:fC B w w') (al:c.length≤arr.size) (aw:aQ ρ c (arr.toList.take c.length)) (af:yE ex bh arr.size c.length) :
  ∃ ρ':Ren,ρ.le ρ'∧ρ'.ren h.n=some (w.heap.size,bh)∧aM ρ' B aG (h.push (.cells c e ex)) w':=by
 have hle:=Ren.nY (R.heap.gv _ (Nat.le_refl _)) w.heap.size bh
 have wK:ρ.frz w.heap.size=none:=by
  cases aB:ρ.frz w.heap.size with
  | none=>rfl
  | some a=>
   obtain ⟨e,ei,hw⟩:=R.heap.frz _ _ aB
   have:=(Array.getElem?_eq_some_iff.1 hw).1
   omega
 obtain ⟨h1,ab⟩:=R.vk (o:=.cells c e ex) bh bn hold ar ⟨w.heap.size,bh,arr,Ren.iR,wK,R.heap.base,iK,al,aw.mono hle,af⟩
 exact ⟨_,h1,Ren.iR,ab⟩
theorem aM.BO {ρ:Ren} {B:Nat} {aG:World} {h:I} {w w':World} (R:aM ρ B aG h w) {arr:Array Value} {e:TypeId} {ei:Nat×Nat}
  (bn:w.heap.size<w'.heap.size) (hold:∀ k,k<w.heap.size→w'.heap[k]?=w.heap[k]?) (iK:w'.heap[w.heap.size]?=some (.cells arr e ei)) (ar:fC B w w') :
  ∃ ρ':Ren,ρ.le ρ'∧ρ'.frz w.heap.size=some arr∧aM ρ' B aG h w':=by
 have rA:∀ b arr,ρ.frz b=some arr→b<w.heap.size:=fun b arr aB=>by
  obtain ⟨e,ei,hw⟩:=R.heap.frz b arr aB
  exact (Array.getElem?_eq_some_iff.1 hw).1
 have hle:ρ.le { ρ with frz:=fun b=>if b=w.heap.size then some arr else ρ.frz b }:=by
  refine ⟨fun _ _ h=>h,fun b a ar=>?_,rfl⟩
  have:=rA b a ar
  simp [show b≠w.heap.size by omega,ar]
 refine ⟨_,hle,by simp,⟨⟨R.heap.gv,R.heap.inj,fun i=>?_,fun b a aB=>?_,fun g cs aE=>?_,Nat.le_trans R.heap.base (Nat.le_of_lt bn)⟩,R.below.trans ar⟩⟩
 ·by_cases a7:h.get i=.dead
  ·rw [a7];trivial
  ·obtain ⟨fe,pf,dL,aT,_⟩:=R.heap.live a7
   refine (R.heap.obj i).au hle fun b bf aq=>?_
   rw [dL] at aq;simp at aq
   obtain ⟨rfl,rfl⟩:=aq
   exact ⟨hold _ aT,fun h=>by simp [show fe≠w.heap.size by omega,h]⟩
 ·simp only at aB
  by_cases p2:b=w.heap.size
  ·subst p2;simp at aB;subst aB;exact ⟨e,ei,iK⟩
  ·simp [p2] at aB
   obtain ⟨e,ei,hw⟩:=R.heap.frz b a aB
   exact ⟨e,ei,(hold b (rA b a aB)).trans hw⟩
 ·obtain ⟨ij,aB,aq⟩:=R.heap.glob g cs aE
  exact ⟨ij,hle.frz _ _ aB,aq.mono hle⟩
theorem aM.vl {ρ:Ren} {B:Nat} {aG:World} {h:I} {w w':World} (R:aM ρ B aG h w) {i b bh:Nat} (hi:ρ.ren i=some (b,bh)) (aw:h.get i≠.dead) {o:aD}
  (hold:∀ k,k≠b→w'.heap[k]?=w.heap[k]?) (bn:w.heap.size≤w'.heap.size) (ar:fC B w w') (iK:gu ρ B w' i o):aM ρ B aG (h.set i o) w':=by
 have iS:ρ.frz b=none:=by
  obtain ⟨fe,pf,dL,_,_,aB,_⟩:=R.heap.live aw
  rw [dL] at hi;simp at hi;rw [←hi.1];exact aB
 refine ⟨⟨R.heap.gv,fun j k fe bf bx aC hk h1 ab=>?_,fun j=>?_,fun fe arr aB=>?_,R.heap.glob,Nat.le_trans R.heap.base bn⟩,R.below.trans ar⟩
 ·refine R.heap.inj j k fe bf bx ?_ ?_ h1 ab
  ·by_cases cI:j=i
   ·subst cI;exact aw
   ·simpa [I.set,cI] using aC
  ·by_cases iy:k=i
   ·subst iy;exact aw
   ·simpa [I.set,iy] using hk
 ·by_cases cI:j=i
  ·subst cI
   simpa only [I.set,if_true] using iK
  ·simp only [I.set,if_neg cI]
   by_cases a7:h.get j=.dead
   ·rw [a7];trivial
   ·refine (R.heap.obj j).au (Ren.le.refl ρ) fun cZ bf aq=>⟨hold cZ ?_,fun h=>h⟩
    intro kg
    subst kg
    exact cI (R.heap.inj i j cZ bh bf aw a7 hi aq).symm
 ·obtain ⟨e,ei,hw⟩:=R.heap.frz fe arr aB
  have:fe≠b:=by intro ad;subst ad;rw [iS] at aB;cases aB
  exact ⟨e,ei,(hold fe this).trans hw⟩
theorem aM.kill {ρ:Ren} {B:Nat} {aG:World} {h:I} {w:World} (R:aM ρ B aG h w) (i:Nat):aM ρ B aG (h.set i .dead) w:=by
 refine ⟨⟨R.heap.gv,fun j k fe bf bx aC hk h1 ab=>?_,fun j=>?_,R.heap.frz,R.heap.glob,R.heap.base⟩,R.below⟩
 ·refine R.heap.inj j k fe bf bx ?_ ?_ h1 ab
  ·by_cases cI:j=i
   ·subst cI;simp [I.set] at aC
   ·simpa [I.set,cI] using aC
  ·by_cases iy:k=i
   ·subst iy;simp [I.set] at hk
   ·simpa [I.set,iy] using hk
 ·by_cases cI:j=i
  ·subst cI;simp only [I.set,if_true];trivial
  ·simp only [I.set,if_neg cI];exact R.heap.obj j
theorem aM.drew {ρ:Ren} {B:Nat} {aG:World} {h:I} {w:World} (R:aM ρ B aG h w):aM ρ B aG h w.drew:=by
 refine ⟨⟨R.heap.gv,R.heap.inj,fun i=>?_,R.heap.frz,R.heap.glob,R.heap.base⟩,R.below.drew⟩
 exact (R.heap.obj i).au (Ren.le.refl ρ) fun b c aq=>⟨rfl,fun h=>h⟩
theorem aM.freeze {ρ:Ren} {B:Nat} {aG:World} {h:I} {w:World} (R:aM ρ B aG h w) {i:Nat} {c:List V} {e:TypeId} {ex:Option Nat} (aE:h.get i=.cells c e ex) :
  ∃ ρ':Ren,ρ.le ρ'∧aM ρ' B aG (h.set i .dead) w∧∃ b bh arr,ρ.ren i=some (b,bh)∧ρ'.frz b=some arr∧c.length≤arr.size∧aQ ρ c (arr.toList.take c.length):=by
 have av:=R.heap.obj i
 rw [aE] at av
 obtain ⟨b,bh,arr,aq,aB,b3,hw,al,aw,af⟩:=av
 have hle:ρ.le { ρ with frz:=fun k=>if k=b then some arr else ρ.frz k }:=by
  refine ⟨fun _ _ h=>h,fun k a hk=>?_,rfl⟩
  have:k≠b:=by intro ad;subst ad;rw [aB] at hk;cases hk
  simp [this,hk]
 have K:=R.kill i
 refine ⟨_,hle,⟨⟨K.heap.gv,K.heap.inj,fun j=>?_,fun k a hk=>?_,fun g cs aE=>?_,K.heap.base⟩,K.below⟩,b,bh,arr,aq,by simp,al,aw⟩
 ·by_cases a7:(h.set i .dead).get j=.dead
  ·rw [a7];trivial
  ·refine (K.heap.obj j).au hle fun cZ bx fs=>⟨rfl,fun ab=>?_⟩
   have:cZ≠b:=by
    intro ad
    subst ad
    by_cases cI:j=i
    ·subst cI;simp [I.set] at a7
    ·refine cI (R.heap.inj j i cZ bx bh ?_ (by rw [aE];simp) fs aq)
     simpa [I.set,cI] using a7
   simp [this,ab]
 ·simp only at hk
  by_cases JK:k=b
  ·subst JK;simp at hk;subst hk;exact ⟨e,(0,0),hw⟩
  ·simp [JK] at hk
   exact R.heap.frz k a hk
 ·obtain ⟨ij,bG,dL⟩:=R.heap.glob g cs aE
  exact ⟨ij,hle.frz _ _ bG,dL.mono hle⟩
def Yields (P:Program) (s:Sem Value) (ρ:Ren) (B:Nat) (aG w:World) (v:V) (U:I):Prop :=
 ∃ ρ' v' w',s.run P w=.ok v' w'∧ax ρ' v v'∧aM ρ' B aG U w'∧ρ.le ρ'
theorem Yields.same {P:Program} {s:Sem Value} {ρ:Ren} {B:Nat} {aG w:World} {v:V} {v':Value} {h:I} (R:aM ρ B aG h w) (aq:s.run P w=.ok v' w) (aN:ax ρ v v') :
  Yields P s ρ B aG w v h:=⟨ρ,v',w,aq,aN,R,Ren.le.refl ρ⟩
def bD (P:Program) (s:Sem Value) (ρ:Ren) (w:World) (v:V):Prop:=∃ v',s.run P w=.ok v' w∧ax ρ v v'
theorem bD.mk {P:Program} {s:Sem Value} {ρ:Ren} {w:World} {v:V} {v':Value} (aq:s.run P w=.ok v' w) (aN:ax ρ v v'):bD P s ρ w v:=⟨v',aq,aN⟩
theorem bD.fO {P:Program} {s:Sem Value} {ρ:Ren} {B:Nat} {aG w:World} {v:V} {h:I} (k:bD P s ρ w v) (R:aM ρ B aG h w):Yields P s ρ B aG w v h :=
 let ⟨_,aq,aN⟩:=k
 .same R aq aN
def mT (h:I):V→Option (List V)
 | .ptr i o=>match h.get i with
  | .cells c _ _=>if o≤c.length then some (c.drop o) else none
  | _=>none
 | .at cs=>some cs
 | _=>none
theorem PY {w:World} {b o:Nat} {arr:Array Value} {e:TypeId} {ei:Nat×Nat} (hw:w.heap[b]?=some (.cells arr e ei)) (n m:Nat):w.rangeAt b o (((arr.toList.take m).drop o).take n):=by
 intro j v aN
 simp only [World.cell?,hw,Option.isSome_none,Bool.false_eq_true,if_false]
 rw [List.getElem?_take] at aN
 split at aN
 ·rw [List.getElem?_drop,List.getElem?_take] at aN
  split at aN
  ·simpa using aN
  ·cases aN
 ·cases aN
theorem vm {ρ:Ren} {B:Nat} {h:I} {w:World} (H:kC ρ B h w) {p:V} {CY:Value} (az:ax ρ p CY) {cs:List V} (J:mT h p=some cs) :
  ∃ b o,CY=.pointer (some ⟨b,o,none⟩)∧∀ n,n≤cs.length→∃ vs,w.rangeAt b o vs∧aQ ρ (cs.take n) vs∧vs.length=n:=by
 unfold mT at J
 split at J
 ·rename_i i o
  split at J
  case h_2=>cases J
  rename_i c e ex aE
  split at J
  case isFalse=>cases J
  rename_i av
  obtain rfl:_=cs:=by simpa using J
  have JL:=H.obj i
  rw [aE] at JL
  obtain ⟨cZ,hs,arr,aq,aB,b3,hw,al,aw,af⟩:=JL
  cases az with
  | ptr hi o=>
  rw [aq] at hi;simp at hi
  obtain ⟨rfl,rfl⟩:=hi
  refine ⟨cZ,o,rfl,fun n aJ=>⟨((arr.toList.take c.length).drop o).take n,PY hw n _,(aw.drop o).take n,?_⟩⟩
  simp at aJ⊢;omega
 ·rename_i l
  obtain rfl:l=cs:=by simpa using J
  cases az with
  | «at» o ar av af=>
  rename_i b arr
  obtain ⟨e,ei,hw⟩:=H.frz b arr ar
  refine ⟨b,o,rfl,fun n aJ=>⟨((arr.toList.take arr.size).drop o).take n,PY hw n _,?_,?_⟩⟩
  ·have kh:aQ ρ l ((arr.toList.drop o).take l.length):=by
    refine ⟨by simp;omega,fun k v v' h1 ab=>?_⟩
    rw [List.getElem?_take] at ab
    split at ab
    ·rw [List.getElem?_drop] at ab
     exact af k v v' h1 (by simpa using ab)
    ·cases ab
   have:=kh.take n
   rw [List.take_take,Nat.min_eq_left aJ] at this
   have aK:arr.toList.take arr.size=arr.toList:=List.take_of_length_le (by simp)
   rw [aK];exact this
  ·simp;omega
 ·cases J
def i6 (P:Program) (t:TypeId) (x:V) (h:I):Option V :=
 match mT h x,j4 P t,ap P t with
 | some cs,some true,some n=>if n≤cs.length then some (.agg (cs.take n)) else none
 | some (v::_),some false,some _=>some v
 | _,_,_=>none
theorem PZ {P:Program} {t:TypeId} {x v:V} {bO:Value} {h:I} (J:i6 P t x h=some v) {ρ:Ren} {B:Nat} {aG w:World} (R:aM ρ B aG h w) (af:ax ρ x bO) :
  (∃ a,bO=.pointer (some a))∧bD P (Instr.loadAt t bO) ρ w v:=by
 unfold i6 at J
 cases ae:P.info? t with
 | none=>simp [ap,ae] at J
 | some bU=>
 cases hu:P.underlying t with
 | none=>simp [j4,hu] at J
 | some d=>
 simp only [j4,hu,ap,ae,Option.map_some] at J
 cases az:mT h x with
 | none=>simp [az] at J
 | some cs=>
 obtain ⟨b,o,rfl,dd⟩:=vm R.heap af az
 refine ⟨⟨_,rfl⟩,?_⟩
 cases a7:d.isRow with
 | true=>
  simp only [az,a7] at J
  split at J
  case isFalse=>cases J
  rename_i aJ
  obtain rfl:_=v:=by simpa using J
  obtain ⟨vs,h1,ab,aI⟩:=dd _ aJ
  exact bD.mk (run_loadAt_mid w b o t vs d h1 hu a7 (by simp [ae,aI])) (ab.arr).agg
 | false=>
  cases cs with
  | nil=>simp [az,a7] at J
  | cons u r=>
   simp only [az,a7,Option.some.injEq] at J
   subst J
   obtain ⟨vs,h1,ab,aI⟩:=dd 1 (by simp)
   simp only [List.take_succ_cons,List.take_zero] at ab
   obtain ⟨v',k1,rfl,e2,_⟩:=ab.dF
   have p3:=h1 0 v' rfl
   refine bD.mk ?_ e2
   have sx:(isAgg t).run P w=.ok false w:=by
    unfold isAgg
    rw [Sem.run_bind,run_underlying hu w]
    cases d<;>simp_all
   simp only [Nat.add_zero] at p3
   simp [Instr.loadAt,Instr.sureAddr,loadVar,sx,load,Sem.run,p3]
theorem aQ.dfr {ρ:Ren} {l:List V} {b7:List Value} (h:aQ ρ l b7) (d:List Deferred):aQ { ρ with dfr:=d } l b7:=⟨h.1,fun k v v' a b=>(h.2 k v v' a b).dfr d⟩
theorem e1.dfr {ρ:Ren} {es:List (Nat×V×V)} {arr:Array MapEntry} (h:e1 ρ es arr) (d:List Deferred):e1 { ρ with dfr:=d } es arr :=
 ⟨h.1,fun k e dG a b=>⟨(h.2 k e dG a b).1,(h.2 k e dG a b).2.1.dfr d,(h.2 k e dG a b).2.2.dfr d⟩⟩
theorem gu.dfr {ρ:Ren} {B:Nat} {w:World} {i:Nat} {o:aD} (h:gu ρ B w i o) (d:List Deferred):gu { ρ with dfr:=d } B w i o:=by
 cases o with
 | dead=>trivial
 | cells c e ex=>
  obtain ⟨b,bh,arr,aq,aB,b3,hw,al,aw,af⟩:=h
  exact ⟨b,bh,arr,aq,aB,b3,hw,al,aw.dfr d,af⟩
 | map es a1=>
  obtain ⟨b,bh,arr,aq,aB,b3,hw,hm⟩:=h
  exact ⟨b,bh,arr,aq,aB,b3,hw,hm.dfr d⟩
 | iter m s l st=>
  obtain ⟨b,bh,pt,p1,aq,aB,b3,hm,hw⟩:=h
  exact ⟨b,bh,pt,p1,aq,aB,b3,hm,hw⟩
 | dP k vs=>
  obtain ⟨b,bh,arr,aq,aB,b3,hw,aw⟩:=h
  exact ⟨b,bh,arr,aq,aB,b3,by cases k<;>exact hw,aw.dfr d⟩
theorem aM.dfr {ρ:Ren} {B:Nat} {aG:World} {h:I} {w:World} (R:aM ρ B aG h w) (d:List Deferred):aM { ρ with dfr:=d } B aG h w :=
 ⟨⟨R.heap.gv,R.heap.inj,fun i=>(R.heap.obj i).dfr d,R.heap.frz,fun g cs aE=>by
  obtain ⟨arr,h1,ab⟩:=R.heap.glob g cs aE
  exact ⟨arr,h1,ab.1,fun k v v' a b=>(ab.2 k v v' a b).dfr d⟩,R.heap.base⟩,R.below⟩
theorem Ren.le.mU {ρ ρ':Ren} {d:List Deferred} (h:Ren.le { ρ with dfr:=d } ρ'):ρ.le { ρ' with dfr:=ρ.dfr }:=⟨h.ren,h.frz,rfl⟩
def V.cells:V→Option (List V)
 | .agg cs=>some cs
 | .top=>none
 | .tuple _=>none
 | v=>some [v]
def V.one:V→Bool
 | .agg _ | .tuple _ | .top=>false
 | _=>true
theorem ax.one {ρ:Ren} {v:V} {v':Value} (h:ax ρ v v') (av:v.one=true):v'.oneCell'=true:=by cases h<;>simp [V.one] at av<;>rfl
theorem ax.qQ {ρ:Ren} {v:V} {v':Value} (h:ax ρ v v') (av:v.one=true):v'.cells=#[v']:=by cases h<;>simp [V.one] at av<;>rfl
theorem ax.cells {ρ:Ren} {v:V} {v':Value} (h:ax ρ v v') {cs:List V} (al:v.cells=some cs):aQ ρ cs v'.cells.toList:=by
 have key:∀ u:V,ax ρ u v'→u.one=true→u.cells=some [u]→aQ ρ [u] v'.cells.toList:=fun u hu h1 _=>by
  rw [hu.qQ h1]
  exact .cons hu (.nil ρ)
 cases h with
 | agg J af=>
         obtain rfl:_=cs:=by simpa [V.cells] using al
         exact c1.list ⟨J,af⟩
 | top=>simp [V.cells] at al
 | tuple J af=>simp [V.cells] at al
 | _=>
     obtain rfl:_=cs:=by simpa [V.cells] using al
     exact key _ (by constructor<;>assumption) rfl rfl
theorem aQ.one {ρ:Ren} {l:List V} {b7:List Value} (h:aQ ρ l b7) (aw:l.all (·.one)=true):∀ v ∈ b7,v.oneCell'=true:=by
 intro v aN
 obtain ⟨k,hk⟩:=List.getElem?_of_mem aN
 have aT:k<b7.length:=(List.getElem?_eq_some_iff.1 hk).1
 have yF:k<l.length:=by rw [h.1];exact aT
 exact (h.2 k l[k] v (List.getElem?_eq_getElem yF) hk).one ((List.all_eq_true.1 aw) _ (List.getElem_mem yF))
def lay {α:Type} (c:List α) (o:Nat) (vs:List α):List α:=c.take o++vs++c.drop (o+vs.length)
theorem co {α:Type} (c:List α) (o:Nat) (vs:List α) (h:o+vs.length≤c.length):(lay c o vs).length=c.length:=by
 simp [lay];omega
theorem aQ.lay {ρ:Ren} {c:List V} {k5:List Value} (h:aQ ρ c k5) {vs:List V} {fP:List Value} (aN:aQ ρ vs fP) (o:Nat):aQ ρ (lay c o vs) (lay k5 o fP):=by
 unfold Ab.lay
 rw [←aN.1]
 exact ((h.take o).append aN).append (h.drop _)
theorem Y1 {α:Type} (c:List α) (o:Nat) (vs:List α) (n:Nat) (h:o+vs.length≤n) (aJ:n≤c.length):(lay c o vs).take n=lay (c.take n) o vs:=by
 apply List.ext_getElem?
 intro k
 simp only [Ab.lay,List.getElem?_take,List.getElem?_append,List.length_append,List.length_take,List.getElem?_drop]
 by_cases h1:k<n
 ·simp only [h1,if_true]
  have aK:min o c.length=o:=by omega
  have a6:min o (min n c.length)=o:=by omega
  simp only [aK,a6]
  by_cases ab:k<o+vs.length
  ·simp only [ab,if_true]
  ·simp only [ab,if_false]
   first | done | rw [if_pos (by omega)]
 ·simp only [h1,if_false]
  rw [if_neg (by omega)]
  rw [if_neg (by omega)]
theorem CZ {P:Program} {h:I} {i:Nat} {c:List V} {e:TypeId} {ex:Option Nat} (aE:h.get i=.cells c e ex) {ρ:Ren} {B:Nat} {aG w:World} (R:aM ρ B aG h w)
  {b bh:Nat} (hi:ρ.ren i=some (b,bh)) (o:Nat) {vs:List V} {fP:List Value} (aN:aQ ρ vs fP) (ec:vs.all (·.one)=true) (dU:o+vs.length≤c.length) :
  ∃ w',(storeCells ⟨b,o,none⟩ fP).run P w=.ok () w'∧aM ρ B aG (h.set i (.cells (lay c o vs) e ex)) w':=by
 have av:=R.heap.obj i
 rw [aE] at av
 obtain ⟨cZ,hs,arr,aq,aB,b3,hw,al,aw,af⟩:=av
 rw [aq] at hi;simp at hi
 obtain ⟨rfl,rfl⟩:=hi
 have Hg:o+fP.length≤arr.size:=by rw [←aN.1];omega
 have bZ:=run_storeCells_at P cZ o e fP 0 arr w hw (by simpa using Hg) (aN.one ec)
 simp only [Nat.add_zero] at bZ
 refine ⟨_,bZ,R.vl aq (by rw [aE];simp) (fun k hk=>?_) ?_ ?_ ?_⟩
 ·simp [World.setRow,Array.getElem?_modify,Ne.symm hk]
 ·simp [World.setRow]
 ·refine ⟨rfl,rfl,rfl,by simp [World.setRow],fun k hk=>?_,Nat.le_refl _⟩
  simp [World.setRow,Array.getElem?_modify,show cZ≠k by omega]
 ·refine ⟨cZ,hs,_,aq,aB,b3,setRow_heap w cZ arr _ e (0,0) hw,?_,?_,?_⟩
  ·rw [co _ _ _ dU];simp;omega
  ·rw [co _ _ _ dU]
   have:=aw.lay aN o
   rw [←Y1 arr.toList o fP c.length (by rw [←aN.1];exact dU) (by simpa using al)] at this
   exact this
  ·rw [co _ _ _ dU]
   have hlen:(arr.toList.take o++fP++arr.toList.drop (o+fP.length)).toArray.size=arr.size:=by simp;omega
   rw [hlen]
   exact af
def vn (P:Program) (t:TypeId) (x v:V) (h:I):Option I :=
 match x,v.cells with
 | .ptr i o,some vs=>
  match h.get i with
  | .cells c e ex=>if some vs.length=ap P t∧vs.all (·.one)=true∧o+vs.length≤c.length then some (h.set i (.cells (lay c o vs) e ex)) else none
  | _=>none
 | _,_=>none
theorem Y2 {P:Program} {t:TypeId} {x v:V} {bO v':Value} {h U:I} (J:vn P t x v h=some U) {ρ:Ren} {B:Nat} {aG w:World} (R:aM ρ B aG h w)
  (af:ax ρ x bO) (aN:ax ρ v v'):∃ w',(Instr.storeAt t bO v').run P w=.ok () w'∧aM ρ B aG U w':=by
 unfold vn at J
 split at J
 case h_2=>cases J
 rename_i i o vs lS
 cases af with
 | ptr hi o=>
 rename_i b bh
 split at J
 case h_2=>cases J
 rename_i c e ex aE
 split at J
 case isFalse=>cases J
 rename_i hR
 obtain ⟨bn,ec,dU⟩:=hR
 obtain rfl:_=U:=by simpa using J
 have cr:=aN.cells lS
 obtain ⟨w',ch,dA⟩:=CZ (P:=P) aE R hi o cr ec dU
 refine ⟨w',?_,dA⟩
 have hlen:v'.cells.size=vs.length:=by have:=cr.1;simpa using this.symm
 cases ae:P.info? t with
 | none=>simp [ap,ae] at bn
 | some bU=>
  simp [ap,ae] at bn
  simp [Instr.storeAt,Instr.sureAddr,storeVar,sizeOf,typeInfo,ae,hlen,bn,ch]
theorem LB {h:I} {ρ:Ren} {B:Nat} {aG w:World} (R:aM ρ B aG h w) {c:List V} {k5:List Value} (e:TypeId) (al:aQ ρ c k5) (bh:Nat) :
  ∃ ρ':Ren,ρ.le ρ'∧ρ'.ren h.n=some (w.heap.size,bh)∧aM ρ' B aG (h.push (.cells c e none)) (w.alloc (.cells k5.toArray e)) :=
 R.push (arr:=k5.toArray) bh (by simp) (fun k hk=>Below.heap_alloc w _ k hk) (heap_alloc_new w _) ((fC.refl _ _).alloc R.heap.base _)
  (by simp [al.1]) (by simpa [al.1] using al) (show _=_ by simp [al.1])
theorem P0 {P:Program} {h:I} {ρ:Ren} {B:Nat} {aG w:World} (R:aM ρ B aG h w) {cs:List V} {v':Value} (e:TypeId) (aN:aQ ρ cs v'.cells.toList) (s:Sem Value)
  (J:s.run P w=.ok (.pointer (some ⟨w.heap.size,0,none⟩)) (w.alloc (.cells v'.cells e))) :
  Yields P s ρ B aG w (.ptr h.n 0) (h.push (.cells cs e none)):=by
 obtain ⟨ρ',hle,aJ,dA⟩:=LB R e aN 0
 exact ⟨ρ',_,_,J,.ptr aJ 0,by simpa using dA,hle⟩
def gw (P:Program) (e:TypeId):Option (List V):=match jg P e with | some z=>(eZ z).cells | none=>none
theorem BP {P:Program} {e:TypeId} {zs:List V} (h:gw P e=some zs):∃ z,jg P e=some z∧∀ ρ,aQ ρ zs z.cells.toList:=by
 unfold gw at h
 split at h
 ·rename_i z bB
  exact ⟨z,bB,fun ρ=>(yD ρ z).cells h⟩
 ·cases h
def vo (P:Program) (e:TypeId) (h:I):Option (V×I) :=
 match gw P e with
 | some zs=>some (.ptr h.n 0,h.push (.cells zs e none))
 | none=>none
def mV (e:TypeId) (x:V) (h:I):Option (V×I) :=
 match x.cells with
 | some cs=>some (.ptr h.n 0,h.push (.cells cs e none))
 | none=>none
theorem Y3 {P:Program} {e:TypeId} {v:V} {h U:I} (J:vo P e h=some (v,U)) {ρ:Ren} {B:Nat} {aG w:World} (R:aM ρ B aG h w) :
  Yields P (Instr.alloc e true (.tuple #[])) ρ B aG w v U:=by
 unfold vo at J
 split at J
 case h_2=>cases J
 rename_i zs eH
 obtain ⟨z,bB,e2⟩:=BP eH
 simp at J
 obtain ⟨rfl,rfl⟩:=J
 refine P0 R e (e2 ρ) _ ?_
 cases ae:P.info? e with
 | none=>simp [jg,ae] at bB
 | some bU=>
  simp [jg,ae] at bB
  simp [Instr.alloc,zeroValue,typeInfo,ae,bB,newVar,newRow]
theorem Y4 {P:Program} {e:TypeId} {x v:V} {bO:Value} {h U:I} (J:mV e x h=some (v,U)) {ρ:Ren} {B:Nat} {aG w:World} (R:aM ρ B aG h w) (af:ax ρ x bO) :
  Yields P (Instr.box e bO) ρ B aG w v U:=by
 unfold mV at J
 split at J
 case h_2=>cases J
 rename_i cs dd
 simp at J
 obtain ⟨rfl,rfl⟩:=J
 exact P0 R e (af.cells dd) _ (by simp [Instr.box,newVar,newRow])
theorem ax.mw {ρ:Ren} {i o:Nat} {bO:Value} (h:ax ρ (.ptr i o) bO):∃ b c,ρ.ren i=some (b,c)∧bO=.pointer (some ⟨b,o,none⟩):=by
 cases h with
 | ptr hi=>exact ⟨_,_,hi,rfl⟩
theorem ax.ft {ρ:Ren} {i o len cap:Nat} {bO:Value} (h:ax ρ (.aj i o len cap) bO):∃ b c,ρ.ren i=some (b,c)∧len≤e8 c cap∧bO=.slice (some ⟨b,o,none⟩) len (e8 c cap):=by
 cases h with
 | aj hi _ _ _ aw=>exact ⟨_,_,hi,aw,rfl⟩
theorem ax.sy {ρ:Ren} {cs:List V} {bO:Value} (h:ax ρ (.at cs) bO):∃ (b o:Nat) (arr:Array Value),ρ.frz b=some arr∧o+cs.length≤arr.size ∧
  (∀ (k:Nat) (v:V) (v':Value),cs[k]?=some v→arr[o+k]?=some v'→ax ρ v v')∧bO=.pointer (some ⟨b,o,none⟩):=by
 cases h with
 | «at» o ar av af=>exact ⟨_,o,_,ar,av,af,rfl⟩
theorem ax.hS {ρ:Ren} {n:Nat} {cs:List V} {bO:Value} (h:ax ρ (.an n cs) bO):(n=0∧cs=[]∧∃ (a:Option Addr) (c:Nat),(a=none→c=0)∧bO=.slice a 0 c)∨∃ (b o cap:Nat) (arr:Array Value),ρ.frz b=some arr∧n≤cap∧o+cs.length≤arr.size ∧
  (∀ (k:Nat) (v:V) (v':Value),cs[k]?=some v→arr[o+k]?=some v'→ax ρ v v')∧bO=.slice (some ⟨b,o,none⟩) n cap:=by
 cases h with
 | an o _ cap ar aJ av af=>exact .inr ⟨_,o,cap,_,ar,aJ,av,af,rfl⟩
 | fH a c aL=>exact .inl ⟨rfl,rfl,a,c,aL,rfl⟩
theorem ax.sA {ρ:Ren} {b o:Nat} {arr:Array Value} {cs:List V} (ar:ρ.frz b=some arr) (av:o+cs.length≤arr.size)
  (af:∀ (k:Nat) (v:V) (v':Value),cs[k]?=some v→arr[o+k]?=some v'→ax ρ v v') (d:Nat) (a7:d≤cs.length):ax ρ (.at (cs.drop d)) (.pointer (some ⟨b,o+d,none⟩)) :=
 .at (o+d) ar (by simp;omega) fun k v v' h1 ab=>by
  rw [List.getElem?_drop] at h1
  exact af _ v v' h1 (by rw [←Nat.add_assoc];exact ab)
theorem ax.uJ {ρ:Ren} {b o n cap:Nat} {arr:Array Value} {cs:List V} (ar:ρ.frz b=some arr) (av:o+cs.length≤arr.size)
  (af:∀ (k:Nat) (v:V) (v':Value),cs[k]?=some v→arr[o+k]?=some v'→ax ρ v v') (d m:Nat) (a7:d≤cs.length) (aJ:n≤cap):ax ρ (.an n ((cs.drop d).take m)) (.slice (some ⟨b,o+d,none⟩) n cap) :=
 .an (o+d) n cap ar aJ (by simp;omega) fun k v v' h1 ab=>by
  rw [List.getElem?_take] at h1
  split at h1
  ·rw [List.getElem?_drop] at h1
   exact af _ v v' h1 (by rw [←Nat.add_assoc];exact ab)
  ·cases h1
def wL (P:Program) (s:TypeId) (x:V) (k:Nat):Option V :=
 match P.underlying s with
 | some (.struct di)=>
  match di[k]? with
  | some f=>match ap P f.type with
   | some (_+1)=>match x with
    | .ptr i o=>some (.ptr i (o+f.offset))
    | .at cs=>if f.offset≤cs.length then some (.at (cs.drop f.offset)) else none
    | _=>none
   | _=>none
  | none=>none
 | _=>none
theorem Y5 {P:Program} {s:TypeId} {x v:V} {bO:Value} {k:Nat} {h:I} (J:wL P s x k=some v) {ρ:Ren} {B:Nat} {aG w:World} (R:aM ρ B aG h w) (af:ax ρ x bO) :
  bD P (Instr.fieldAt s bO k) ρ w v:=by
 unfold wL at J
 split at J
 case h_2=>cases J
 rename_i di hu
 split at J
 case h_2=>cases J
 rename_i f aB
 split at J
 case h_2=>cases J
 rename_i n aJ
 have ae:∃ bU,P.info? f.type=some bU∧bU.size≠0:=by
  cases ae:P.info? f.type with
  | none=>simp [ap,ae] at aJ
  | some bU=>simp [ap,ae] at aJ;exact ⟨bU,rfl,by omega⟩
 obtain ⟨bU,ae,aJ⟩:=ae
 have ch:∀ b o,(Instr.fieldAt s (.pointer (some ⟨b,o,none⟩)) k).run P w=.ok (.pointer (some ⟨b,o+f.offset,none⟩)) w:=fun b o=>by
  simp [Instr.fieldAt,run_underlying hu,aB,Instr.sureAddr,fieldPlace,sizeOf,typeInfo,ae,aJ,Addr.add_mid]
 split at J
 ·rename_i i o
  obtain rfl:_=v:=by simpa using J
  obtain ⟨b,c,hi,rfl⟩:=af.mw
  exact bD.mk (ch b o) (.ptr hi _)
 ·split at J
  case isFalse=>cases J
  rename_i a7
  obtain rfl:_=v:=by simpa using J
  obtain ⟨b,o,arr,ar,av,cn,rfl⟩:=af.sy
  exact bD.mk (ch b o) (.sA ar av cn _ a7)
 ·cases J
def ik (P:Program) (t:TypeId) (x gm:V):Option V :=
 match gm with
 | .int _ n=>
  match P.underlying t,x with
  | some (.array len e),.ptr i o=>
   match ap P e with
   | some sz=>if 0≤n∧n<len then some (.ptr i (o+n.toNat * sz)) else none
   | none=>none
  | some (.array len e),.at cs=>
   match ap P e with
   | some sz=>if 0≤n∧n<len∧n.toNat * sz≤cs.length then some (.at (cs.drop (n.toNat * sz))) else none
   | none=>none
  | some (.slice e),.aj i o len _=>
   match ap P e with
   | some sz=>if 0≤n∧n<len then some (.ptr i (o+n.toNat * sz)) else none
   | none=>none
  | some (.slice e),.an len cs=>
   match ap P e with
   | some sz=>if 0≤n∧n<len∧n.toNat * sz≤cs.length then some (.at (cs.drop (n.toNat * sz))) else none
   | none=>none
  | _,_=>none
 | _=>none
theorem Y6 {P:Program} {t:TypeId} {x gm v:V} {bO wM:Value} {h:I} (J:ik P t x gm=some v) {ρ:Ren} {B:Nat} {aG w:World} (R:aM ρ B aG h w)
  (af:ax ρ x bO) (fD:ax ρ gm wM):bD P (Instr.indexAt t bO wM) ρ w v:=by
 unfold ik at J
 split at J
 case h_2=>cases J
 rename_i k n
 cases fD with
 | int k n=>
 have iT:∀ e bU (len cap b o:Nat),P.underlying t=some (.slice e)→P.info? e=some bU→0≤n∧n<len →
   (Instr.indexAt t (.slice (some ⟨b,o,none⟩) len cap) (.int k n)).run P w=.ok (.pointer (some ⟨b,o+n.toNat * bU.size,none⟩)) w:=fun e bU len cap b o hu ae ar=>by
  simp [Instr.indexAt,asIntOf,run_underlying hu,ar,sizeOf,typeInfo,ae,Addr.add_mid]
 have rB:∀ e bU (len b o:Nat),P.underlying t=some (.array len e)→P.info? e=some bU→0≤n∧n<len →
   (Instr.indexAt t (.pointer (some ⟨b,o,none⟩)) (.int k n)).run P w=.ok (.pointer (some ⟨b,o+n.toNat * bU.size,none⟩)) w:=fun e bU len b o hu ae ar=>by
  simp [Instr.indexAt,asIntOf,run_underlying hu,Instr.sureAddr,ar,sizeOf,typeInfo,ae,Addr.add_mid]
 split at J
 ·rename_i len e i o hu
  cases af with
  | ptr hi o=>
  split at J
  case h_2=>cases J
  rename_i sz bn
  split at J
  case isFalse=>cases J
  rename_i ar
  obtain rfl:_=v:=by simpa using J
  cases ae:P.info? e with
  | none=>simp [ap,ae] at bn
  | some bU=>
   simp [ap,ae] at bn
   subst bn
   exact bD.mk (rB e bU len _ o hu ae ar) (.ptr hi _)
 ·rename_i len e cs hu
  cases af with
  | «at» o iS av af=>
  split at J
  case h_2=>cases J
  rename_i sz bn
  split at J
  case isFalse=>cases J
  rename_i ar
  obtain rfl:_=v:=by simpa using J
  cases ae:P.info? e with
  | none=>simp [ap,ae] at bn
  | some bU=>
   simp [ap,ae] at bn
   subst bn
   exact bD.mk (rB e bU len _ o hu ae ⟨ar.1,ar.2.1⟩) (.sA iS av af _ ar.2.2)
 ·rename_i e i o len cap hu
  cases af with
  | aj hi o len cap aw=>
  split at J
  case h_2=>cases J
  rename_i sz bn
  split at J
  case isFalse=>cases J
  rename_i ar
  obtain rfl:_=v:=by simpa using J
  cases ae:P.info? e with
  | none=>simp [ap,ae] at bn
  | some bU=>
   simp [ap,ae] at bn
   subst bn
   exact bD.mk (iT e bU len _ _ o hu ae ar) (.ptr hi _)
 ·rename_i e len cs hu
  split at J
  case h_2=>cases J
  rename_i sz bn
  split at J
  case isFalse=>cases J
  rename_i ar
  obtain rfl:_=v:=by simpa using J
  cases ae:P.info? e with
  | none=>simp [ap,ae] at bn
  | some bU=>
   simp [ap,ae] at bn
   subst bn
   cases af with
   | an o _ cap iS aJ av af=>exact bD.mk (iT e bU len cap _ o hu ae ⟨ar.1,ar.2.1⟩) (.sA iS av af _ ar.2.2)
   | fH a c aL=>omega
 ·cases J
def nZ:V→Option Nat
 | .int _ n=>if 0≤n then some n.toNat else none
 | _=>none
theorem yG {v:V} {v':Value} {n:Nat} (h:nZ v=some n) {ρ:Ren} (aN:ax ρ v v'):∃ k,v'=.int k (n:Int):=by
 unfold nZ at h
 split at h
 ·rename_i k m
  split at h
  ·cases aN
   simp at h
   exact ⟨k,by rw [←h];congr;omega⟩
  ·cases h
 ·cases h
def gR (lo:Option V):Option Nat:=match lo with | none=>some 0 | some v=>nZ v
def dt (len:Nat) (hi:Option V):Option Nat:=match hi with | none=>some len | some v=>nZ v
def p4 (i o len cap sz l ad m:Nat):Option V :=
 if cap<ai then
  if l≤ad∧ad≤m∧m≤cap then some (.aj i (if m=l then o else o+l * sz) (ad - l) (m - l)) else none
 else
  if m=cap∧l≤ad∧ad≤len then (if l=0∨l<len then some (.aj i (o+l * sz) (ad - l) (cap+l)) else some (.an 0 [])) else none
def vp (n sz l ad m:Nat) (mx:Bool) (cs:List V):Option V :=
 if l≤ad∧ad≤m∧m≤n∧l * sz≤cs.length then
  if mx=true∧m=l then some .z0 else some (.an (ad - l) ((cs.drop (l * sz)).take ((ad - l) * sz)))
 else none
def jL (P:Program) (t:TypeId) (x:V) (lo hi mx:Option V):Option V :=
 match P.underlying t,x with
 | some (.slice e),.aj i o len cap=>
  match ap P e,gR lo,dt len hi,dt cap mx with
  | some sz,some l,some ad,some m=>if mx.isSome=true∧ai≤cap then (if hi.isSome=true∧m≤len∧len<ai then p4 i o len len sz l ad m else none)
   else if mx.isSome∧(hi.isNone∨ai≤cap) then none else p4 i o len cap sz l ad m
  | _,_,_,_=>none
 | some (.slice e),.an n cs=>
  match ap P e,gR lo,dt n hi,dt n mx with
  | some sz,some l,some ad,some m=>if mx.isSome∧hi.isNone then none else vp n sz l ad m mx.isSome cs
  | _,_,_,_=>none
 | some (.slice e),.ag=>
  match ap P e,gR lo,dt 0 hi,dt 0 mx with
  | some _,some 0,some 0,some 0=>if mx.isSome∧hi.isNone then none else some .ag
  | _,_,_,_=>none
 | some (.slice e),.z0=>
  match ap P e,gR lo,dt 0 hi,dt 0 mx with
  | some _,some 0,some 0,some 0=>if mx.isSome∧hi.isNone then none else some .z0
  | _,_,_,_=>none
 | some (.array n e),.ptr i o=>
  match ap P e,gR lo,dt n hi,dt n mx with
  | some sz,some l,some ad,some m=>if mx.isSome∧hi.isNone then none else if n<ai then p4 i o n n sz l ad m else none
  | _,_,_,_=>none
 | some (.array n e),.at cs=>
  match ap P e,gR lo,dt n hi,dt n mx with
  | some sz,some l,some ad,some m=>if mx.isSome∧hi.isNone then none else vp n sz l ad m mx.isSome cs
  | _,_,_,_=>none
 | some .string,.string s=>
  match gR lo,dt s.size hi,mx with
  | some l,some ad,none=>if l≤ad∧ad≤s.size then some (.string (s.extract l ad)) else none
  | _,_,_=>none
 | _,_=>none
theorem vq {P:Program} {w:World} {k:IntKind} {n y:Nat} {code:BoundsCode} (h:n≤y):(Instr.sliceBound (.int k (n:Int)) y code).run P w=.ok n w:=by
 simp [Instr.sliceBound,asIntOf,h]
theorem r4 {P:Program} {w:World} {isSlice:Bool} {len cap l ad m:Nat} {lo hi mx:Option V} {ki hD kS:Option Value} {ρ:Ren}
  (cq:Option.Rel (ax ρ) lo ki) (ck:Option.Rel (ax ρ) hi hD) (hh:Option.Rel (ax ρ) mx kS)
  (h1:gR lo=some l) (ab:dt len hi=some ad) (aI:∃ mW,dt mW mx=some m∧(mx=none→m=cap)) (aw:l≤ad) (hm:ad≤m) (al:m≤cap) (kj:¬(mx.isSome∧hi.isNone)) :
  (Instr.sliceBounds isSlice len cap ki hD kS).run P w=.ok (l,ad,m) w:=by
 obtain ⟨mW,aI,AA⟩:=aI
 cases cq with
 | none=>
  simp [gR] at h1;subst h1
  cases ck with
  | none=>
   simp [dt] at ab;subst ab
   cases hh with
   | none=>simp [Instr.sliceBounds,AA rfl]
   | some hh=>simp at kj
  | some ck=>
   simp only [dt] at ab
   obtain ⟨k2,rfl⟩:=yG ab ck
   cases hh with
   | none=>obtain rfl:=AA rfl;simp [Instr.sliceBounds,vq hm]
   | some hh=>simp only [dt] at aI;obtain ⟨b2,rfl⟩:=yG aI hh;simp [Instr.sliceBounds,vq hm,vq al]
 | some cq=>
  simp only [gR] at h1
  obtain ⟨bj,rfl⟩:=yG h1 cq
  cases ck with
  | none=>
   simp [dt] at ab;subst ab
   cases hh with
   | none=>obtain rfl:=AA rfl;simp [Instr.sliceBounds,vq aw]
   | some hh=>simp at kj
  | some ck=>
   simp only [dt] at ab
   obtain ⟨k2,rfl⟩:=yG ab ck
   cases hh with
   | none=>obtain rfl:=AA rfl;simp [Instr.sliceBounds,vq hm,vq aw]
   | some hh=>simp only [dt] at aI;obtain ⟨b2,rfl⟩:=yG aI hh;simp [Instr.sliceBounds,vq hm,vq al,vq aw]
theorem LC {ρ:Ren} {i b bh o len cap sz l ad m:Nat} (hi:ρ.ren i=some (b,bh)) (aw:len≤e8 bh cap) {v:V} (h:p4 i o len cap sz l ad m=some v) :
  ∃ e0,(m<ai∧cap<ai→e0=m)∧(ai≤cap→m=cap∧e0=e8 bh cap)∧l≤ad∧ad≤e0∧e0≤e8 bh cap ∧
   ax ρ v (.slice (if e0=l then some ⟨b,o,none⟩ else some (Addr.add ⟨b,o,none⟩ (l * sz))) (ad - l) (e0 - l)):=by
 unfold p4 at h
 split at h
 ·rename_i al
  split at h
  ·rename_i ar
   obtain rfl:_=v:=by simpa using h
   refine ⟨m,fun _=>rfl,fun h=>by omega,ar.1,ar.2.1,by simp [e8,al,ar.2.2],?_⟩
   have key:ax ρ (.aj i (if m=l then o else o+l * sz) (ad - l) (m - l)) (.slice (some ⟨b,if m=l then o else o+l * sz,none⟩) (ad - l) (e8 bh (m - l))) :=
    .aj hi _ _ _ (by simp [e8,show m - l<ai by omega];omega)
   simp only [e8,show m - l<ai by omega,if_true] at key
   by_cases gi:m=l
   ·simpa [gi] using key
   ·simpa [gi,Addr.add_mid] using key
  ·cases h
 ·rename_i al
  split at h
  ·rename_i ar
   refine ⟨e8 bh cap,fun h=>by omega,fun _=>⟨ar.1,rfl⟩,ar.2.1,by omega,Nat.le_refl _,?_⟩
   split at h
   case isFalse hll=>
    obtain rfl:_=v:=by simpa using h
    rw [show ad - l=0 by omega]
    refine .fH _ _ fun aJ=>?_
    split at aJ<;>cases aJ
   rename_i hll
   obtain rfl:_=v:=by simpa using h
   have aK:e8 bh (cap+l)=e8 bh cap - l:=by simp [e8,al,show ¬cap+l<ai by omega];omega
   have key:ax ρ (.aj i (o+l * sz) (ad - l) (cap+l)) (.slice (some ⟨b,o+l * sz,none⟩) (ad - l) (e8 bh (cap+l))) :=
    .aj hi _ _ _ (by rw [aK];omega)
   rw [aK] at key
   by_cases gi:e8 bh cap=l
   ·have:l=0:=by omega
    subst this
    simpa [gi] using key
   ·simpa [gi,Addr.add_mid] using key
  ·cases h
theorem P1 {ρ:Ren} {b o n sz l ad m e0:Nat} {arr:Array Value} {cs:List V} {mx:Bool} {v:V} (ar:ρ.frz b=some arr) (av:o+cs.length≤arr.size)
  (af:∀ (k:Nat) (v:V) (v':Value),cs[k]?=some v→arr[o+k]?=some v'→ax ρ v v') (h:vp n sz l ad m mx cs=some v) (hm:mx=true→e0=m) (my:ad≤e0) :
  ax ρ v (.slice (if e0=l then some ⟨b,o,none⟩ else some (Addr.add ⟨b,o,none⟩ (l * sz))) (ad - l) (e0 - l)):=by
 unfold vp at h
 split at h
 case isFalse=>cases h
 rename_i al
 split at h
 ·rename_i bB
  obtain rfl:_=v:=by simpa using h
  have:=hm bB.1
  have aK:e0 - l=0:=by omega
  have a6:ad - l=0:=by omega
  rw [aK,a6]
  exact .z0 _ trivial
 ·obtain rfl:_=v:=by simpa using h
  by_cases gi:e0=l
  ·have a6:ad - l=0:=by omega
   rw [if_pos gi,a6]
   have:=ax.uJ ar av af 0 0 (by omega) (Nat.zero_le (e0 - l))
   simpa using this
  ·rw [if_neg gi,Addr.add_mid]
   exact .uJ ar av af (l * sz) _ (by omega) (by omega)
theorem P2 {n sz l ad m:Nat} {mx:Bool} {cs:List V} {v:V} (h:vp n sz l ad m mx cs=some v):l≤ad∧ad≤m∧m≤n:=by
 unfold vp at h
 split at h
 ·rename_i al;exact ⟨al.1,al.2.1,al.2.2.1⟩
 ·cases h
theorem Y7 {P:Program} {t:TypeId} {x v:V} {bO:Value} {lo hi mx:Option V} {ki hD kS:Option Value} {h:I} (J:jL P t x lo hi mx=some v) {ρ:Ren} {B:Nat} {aG w:World} (R:aM ρ B aG h w)
  (af:ax ρ x bO) (cq:Option.Rel (ax ρ) lo ki) (ck:Option.Rel (ax ρ) hi hD) (hh:Option.Rel (ax ρ) mx kS):bD P (Instr.sliceAt t bO ki hD kS) ρ w v:=by
 have yH:∀ e bU (b o len cap l ad m:Nat),P.underlying t=some (.slice e)→P.info? e=some bU→(Instr.sliceBounds true len cap ki hD kS).run P w=.ok (l,ad,m) w →
   (Instr.sliceAt t (.slice (some ⟨b,o,none⟩) len cap) ki hD kS).run P w=.ok (.slice (if m=l then some ⟨b,o,none⟩ else some (Addr.add ⟨b,o,none⟩ (l * bU.size))) (ad - l) (m - l)) w:=fun e bU b o len cap l ad m hu ae ar=>by
  simp only [Instr.sliceAt,Sem.run_bind,run_underlying hu,Result.andThen_ok,Instr.slice,ar]
  by_cases gi:m=l
  ·simp [gi,sizeOf,typeInfo,ae]
  ·simp [gi,sizeOf,typeInfo,ae]
 have C0:∀ e bU (b o n l ad m:Nat),P.underlying t=some (.array n e)→P.info? e=some bU→(Instr.sliceBounds false n n ki hD kS).run P w=.ok (l,ad,m) w →
   (Instr.sliceAt t (.pointer (some ⟨b,o,none⟩)) ki hD kS).run P w=.ok (.slice (if m=l then some ⟨b,o,none⟩ else some (Addr.add ⟨b,o,none⟩ (l * bU.size))) (ad - l) (m - l)) w:=fun e bU b o n l ad m hu ae ar=>by
  by_cases gi:m=l
  ·simp [Instr.sliceAt,run_underlying hu,Instr.sureAddr,ar,gi,sizeOf,typeInfo,ae]
  ·simp [Instr.sliceAt,run_underlying hu,Instr.sureAddr,ar,gi,sizeOf,typeInfo,ae]
 unfold jL at J
 split at J
 ·rename_i e i o len cap hu
  cases af with
  | aj aq o len cap aw=>
  rename_i b bh
  split at J
  case h_2=>cases J
  rename_i sz l ad m bn h1 ab aI
  cases ae:P.info? e with
  | none=>simp [ap,ae] at bn
  | some bU=>
  simp [ap,ae] at bn
  subst bn
  split at J
  ·rename_i uK
   split at J
   case isFalse=>cases J
   rename_i gi
   have cr:e8 bh len=len:=by simp [e8,gi.2.2]
   obtain ⟨e0,wN,my,bC,a2,a3,e2⟩:=LC aq (by rw [cr];exact Nat.le_refl _) J
   obtain rfl:=wN ⟨by omega,gi.2.2⟩
   refine bD.mk (yH e bU b o len _ l ad e0 hu ae ?_) e2
   obtain ⟨an1,rfl⟩:=Option.isSome_iff_exists.1 uK.1
   refine r4 cq ck hh h1 ab ⟨cap,aI,by simp⟩ bC a2 (by omega) (fun ad=>?_)
   have:=ad.2
   cases hi
   ·simp at gi
   ·simp at this
  rename_i uK
  split at J
  case isTrue=>cases J
  rename_i kj
  obtain ⟨e0,wN,my,bC,a2,a3,e2⟩:=LC aq aw J
  refine bD.mk (yH e bU b o len _ l ad e0 hu ae ?_) e2
  by_cases al:cap<ai
  ·have cQ:e8 bh cap=cap:=by simp [e8,al]
   have uK:m<ai:=by
    have:=J
    unfold p4 at this
    simp only [al,if_true] at this
    split at this
    ·omega
    ·cases this
   obtain rfl:=wN ⟨uK,al⟩
   refine r4 cq ck hh h1 ab ⟨cap,aI,fun aJ=>?_⟩ bC a2 a3 (fun ad=>kj ⟨ad.1,.inl ad.2⟩)
   subst aJ;simp [dt] at aI;omega
  ·obtain ⟨rfl,rfl⟩:=my (by omega)
   have LD:mx=none:=by
    cases mx with
    | none=>rfl
    | some _=>exact absurd ⟨rfl,.inr (by omega)⟩ kj
   subst LD
   exact r4 cq ck hh h1 ab ⟨e8 bh m,rfl,fun _=>rfl⟩ bC a2 a3 (by simp)
 ·rename_i e n cs hu
  split at J
  case h_2=>cases J
  rename_i sz l ad m bn h1 ab aI
  split at J
  case isTrue=>cases J
  rename_i kj
  cases ae:P.info? e with
  | none=>simp [ap,ae] at bn
  | some bU=>
  simp [ap,ae] at bn
  subst bn
  have hle:=P2 J
  cases af with
  | an o _ cap iS aJ av af=>
   rename_i b arr
   have:∃ e0,(mx.isSome=true→e0=m)∧ad≤e0∧(Instr.sliceBounds true n cap ki hD kS).run P w=.ok (l,ad,e0) w:=by
    cases mx with
    | none=>exact ⟨cap,by simp,by omega,r4 cq ck hh h1 ab ⟨cap,rfl,fun _=>rfl⟩ hle.1 (by omega) (Nat.le_refl _) (by simp)⟩
    | some _=>exact ⟨m,fun _=>rfl,hle.2.1,r4 cq ck hh h1 ab ⟨n,aI,by simp⟩ hle.1 hle.2.1 (by omega) kj⟩
   obtain ⟨e0,aK,a6,dB⟩:=this
   exact bD.mk (yH e bU b o n cap l ad e0 hu ae dB) (P1 iS av af J aK a6)
  | fH a c aL=>
   have aK:l=0:=by omega
   have a6:ad=0:=by omega
   have dB:m=0:=by omega
   subst aK;subst a6;subst dB
   cases vr:mx.isSome with
   | true=>
    have ar:(Instr.sliceBounds true 0 c ki hD kS).run P w=.ok (0,0,0) w :=
     r4 cq ck hh h1 ab ⟨0,aI,fun aJ=>by rw [aJ] at vr;cases vr⟩ (Nat.le_refl _) (Nat.le_refl _) (Nat.zero_le _) kj
    have ch:(Instr.sliceAt t (.slice a 0 c) ki hD kS).run P w=.ok (.slice a 0 0) w:=by
     cases a with
     | none=>
      obtain rfl:=aL rfl
      simp [Instr.sliceAt,run_underlying hu,Instr.slice,ar,sizeOf,typeInfo,ae]
     | some a=>simp [Instr.sliceAt,run_underlying hu,Instr.slice,ar,sizeOf,typeInfo,ae]
    refine bD.mk ch ?_
    unfold vp at J
    simp [vr] at J
    obtain rfl:_=v:=by simpa using J
    exact .z0 a trivial
   | false=>
    have JM:mx=none:=by cases mx<;>simp at vr⊢
    subst JM
    have ar:(Instr.sliceBounds true 0 c ki hD kS).run P w=.ok (0,0,c) w :=
     r4 cq ck hh h1 ab ⟨c,rfl,fun _=>rfl⟩ (Nat.le_refl _) (Nat.zero_le _) (Nat.le_refl _) kj
    have ch:(Instr.sliceAt t (.slice a 0 c) ki hD kS).run P w=.ok (.slice a 0 c) w:=by
     cases a with
     | none=>
      obtain rfl:=aL rfl
      simp [Instr.sliceAt,run_underlying hu,Instr.slice,ar,sizeOf,typeInfo,ae]
     | some a=>
      by_cases JN:c=0
      ·subst JN;simp [Instr.sliceAt,run_underlying hu,Instr.slice,ar,sizeOf,typeInfo,ae]
      ·simp [Instr.sliceAt,run_underlying hu,Instr.slice,ar,sizeOf,typeInfo,ae,Addr.add,Ne.symm JN]
    refine bD.mk ch ?_
    unfold vp at J
    simp at J
    obtain rfl:_=v:=by simpa using J
    exact .fH a c aL
 ·rename_i e hu
  cases af
  split at J
  case h_2=>cases J
  rename_i sz bn h1 ab aI
  split at J
  case isTrue=>cases J
  rename_i kj
  obtain rfl:_=v:=by simpa using J
  refine bD.mk ?_ .ag
  have ar:(Instr.sliceBounds true 0 0 ki hD kS).run P w=.ok (0,0,0) w :=
   r4 cq ck hh h1 ab ⟨0,aI,fun _=>rfl⟩ (Nat.le_refl _) (Nat.le_refl _) (Nat.le_refl _) kj
  cases ae:P.info? e with
  | none=>simp [ap,ae] at bn
  | some bU=>simp [Instr.sliceAt,run_underlying hu,Instr.slice,ar,sizeOf,typeInfo,ae]
 ·rename_i e hu
  cases af with
  | z0 a aL=>
  split at J
  case h_2=>cases J
  rename_i sz bn h1 ab aI
  split at J
  case isTrue=>cases J
  rename_i kj
  obtain rfl:_=v:=by simpa using J
  refine bD.mk ?_ (.z0 a trivial)
  have ar:(Instr.sliceBounds true 0 0 ki hD kS).run P w=.ok (0,0,0) w :=
   r4 cq ck hh h1 ab ⟨0,aI,fun _=>rfl⟩ (Nat.le_refl _) (Nat.le_refl _) (Nat.le_refl _) kj
  cases ae:P.info? e with
  | none=>simp [ap,ae] at bn
  | some bU=>cases a<;>simp [Instr.sliceAt,run_underlying hu,Instr.slice,ar,sizeOf,typeInfo,ae]
 ·rename_i n e i o hu
  cases af with
  | ptr aq o=>
  rename_i b bh
  split at J
  case h_2=>cases J
  rename_i sz l ad m bn h1 ab aI
  split at J
  case isTrue=>cases J
  rename_i kj
  split at J
  case isFalse=>cases J
  rename_i h3
  cases ae:P.info? e with
  | none=>simp [ap,ae] at bn
  | some bU=>
  simp [ap,ae] at bn
  subst bn
  have cQ:e8 bh n=n:=by simp [e8,h3]
  obtain ⟨e0,wN,my,bC,a2,a3,e2⟩:=LC aq (by rw [cQ];exact Nat.le_refl _) J
  rw [cQ] at a3
  have uK:m<ai:=by
   have:=J
   unfold p4 at this
   simp only [h3,if_true] at this
   split at this
   ·omega
   ·cases this
  obtain rfl:=wN ⟨uK,h3⟩
  exact bD.mk (C0 e bU b o n l ad e0 hu ae (r4 cq ck hh h1 ab ⟨n,aI,fun aJ=>by subst aJ;simp [dt] at aI;omega⟩ bC a2 a3 kj)) e2
 ·rename_i n e cs hu
  cases af with
  | «at» o iS av af=>
  rename_i b arr
  split at J
  case h_2=>cases J
  rename_i sz l ad m bn h1 ab aI
  split at J
  case isTrue=>cases J
  rename_i kj
  cases ae:P.info? e with
  | none=>simp [ap,ae] at bn
  | some bU=>
  simp [ap,ae] at bn
  subst bn
  have hle:=P2 J
  refine bD.mk (C0 e bU b o n l ad m hu ae (r4 cq ck hh h1 ab ⟨n,aI,fun aJ=>by subst aJ;simp [dt] at aI;omega⟩ hle.1 hle.2.1 hle.2.2 kj)) (P1 iS av af J (fun _=>rfl) hle.2.1)
 ·rename_i s hu
  cases af
  split at J
  case h_2=>cases J
  rename_i l ad h1 ab
  split at J
  case isFalse=>cases J
  rename_i ar
  obtain rfl:_=v:=by simpa using J
  refine bD.mk ?_ (.string _)
  cases hh
  have ar:(Instr.sliceBounds false s.size s.size ki hD none).run P w=.ok (l,ad,s.size) w :=
   r4 cq ck .none h1 ab ⟨s.size,rfl,fun _=>rfl⟩ ar.1 ar.2 (Nat.le_refl _) (by simp)
  simp [Instr.sliceAt,run_underlying hu,Instr.slice,ar]
 ·cases J
def made {α:Type} (z:List α) (n:Nat):List α:=(List.replicate n z).flatten
theorem BQ {α:Type} (z:List α) (n:Nat):made z (n+1)=made z n++z:=by simp [made,List.replicate_succ']
theorem Hh {α:Type} (z:List α) (n:Nat):(made z n).length=n * z.length:=by
 induction n with
 | zero=>simp [made]
 | succ n ih=>rw [BQ,List.length_append,ih,Nat.succ_mul]
theorem P3 {α:Type} (z:α) (n:Nat):made [z] n=List.replicate n z:=by
 induction n with
 | zero=>rfl
 | succ n ih=>rw [BQ,ih];simp [List.replicate_succ']
theorem n7 (z:Array Value) (n:Nat):(madeCells z (n * z.size)).toList=made z.toList n:=by
 have e:∀ k,(madeCells z k).toList=(List.range k).map (fun i=>z[i % z.size]!):=fun k=>by simp [madeCells]
 rw [e]
 induction n with
 | zero=>simp [made]
 | succ n ih=>
  rw [Nat.succ_mul,List.range_add,List.map_append,ih,BQ]
  congr 1
  apply List.ext_getElem
  ·simp
  ·intro k h1 ab
   have hk:k<z.size:=by simpa using ab
   simp [Nat.mod_eq_of_lt hk,hk]
theorem aQ.made {ρ:Ren} {z:List V} {P4:List Value} (h:aQ ρ z P4) (n:Nat):aQ ρ (made z n) (made P4 n):=by
 induction n with
 | zero=>simp [Ab.made,aQ.nil]
 | succ n ih=>rw [BQ,BQ];exact ih.append h
def i5 (P:Program) (t:TypeId) (l c:V) (h:I):Option (V×I) :=
 match pw P t,nZ l,nZ c with
 | some e,some l,some c=>
  match gw P e,BN P e with
  | some zs,some bs=>if some zs.length=ap P e∧l≤c∧bs * c≤140737488355328∧c≤140737488355328 then
    some (.aj h.n 0 l c,h.push (.cells (made zs c) e none)) else none
  | _,_=>none
 | _,_,_=>none
theorem Y8 {P:Program} {t:TypeId} {l c v:V} {b7 k5:Value} {h U:I} (J:i5 P t l c h=some (v,U)) {ρ:Ren} {B:Nat} {aG w:World} (R:aM ρ B aG h w)
  (aw:ax ρ l b7) (al:ax ρ c k5):Yields P (Instr.makeSlice t b7 k5) ρ B aG w v U:=by
 unfold i5 at J
 split at J
 case h_2=>cases J
 rename_i e sB r5 he h1 ab
 split at J
 case h_2=>cases J
 rename_i zs bs eH hE
 split at J
 case isFalse=>cases J
 rename_i hR
 obtain ⟨bf,c3,kl,c5⟩:=hR
 simp at J
 obtain ⟨rfl,rfl⟩:=J
 obtain ⟨z,bB,e2⟩:=BP eH
 obtain ⟨bj,rfl⟩:=yG h1 aw
 obtain ⟨k2,rfl⟩:=yG ab al
 have hu:P.underlying t=some (.slice e):=by
  unfold pw at he
  split at he
  ·rename_i hu;rw [hu];simpa using he
  ·cases he
 cases ae:P.info? e with
 | none=>simp [jg,ae] at bB
 | some bU=>
  simp [jg,ae] at bB
  simp [BN,ae] at hE
  simp [ap,ae] at bf
  have rC:=(e2 ρ).1
  simp at rC
  have aq:=run_make (P:=P) w t e bU z hu ae bB bj k2 (sB:Int) (r5:Int) (by omega) (by omega) (by rw [hE];omega) (by omega)
  have Hi:(madeCells z.cells (r5 * bU.size)).toList=made z.cells.toList r5:=by rw [←bf,rC];exact n7 _ _
  have rD:madeCells z.cells (r5 * bU.size)=(made z.cells.toList r5).toArray:=by rw [←Hi]
  simp only [Int.toNat_natCast,rD] at aq
  obtain ⟨ρ',hle,aJ,dA⟩:=LB R e ((e2 ρ).made r5) r5
  refine ⟨ρ',_,_,aq,?_,dA,hle⟩
  have kT:r5<ai:=by unfold ai;omega
  have:=ax.aj aJ 0 sB r5 (by simp [e8,kT,c3])
  simpa [e8,kT] using this
def e3 (P:Program) (sz:Nat) (tx:TypeId) (x:V) (h:I):Option (Nat×List V) :=
 match P.underlying tx,x with
 | some (.slice _),.ag=>some (0,[])
 | some (.slice _),.z0=>some (0,[])
 | some (.slice _),.gr=>some (0,[])
 | some (.slice _),.an n cs=>if cs.length=n * sz∧cs.all (·.one)=true then some (n,cs) else none
 | some (.slice _),.aj i o n _=>
  match h.get i with
  | .cells c _ _=>if o+n * sz≤c.length∧((c.drop o).take (n * sz)).all (·.one)=true then some (n,(c.drop o).take (n * sz)) else none
  | _=>none
 | some .string,.string s=>if sz=1 then some (s.size,(byteCells s).map eD) else none
 | _,_=>none
theorem Y9 (s:ByteArray):(byteCells s).map eD=s.data.toList.map fun b=>V.int .u8 b.toNat:=by simp [byteCells,eD]
theorem LF (ρ:Ren) (s:ByteArray):aQ ρ ((byteCells s).map eD) (byteCells s):=aQ.of_map (fd ρ) _
theorem Za {P:Program} {sz:Nat} {tx:TypeId} {x:V} {bO:Value} {h:I} {n:Nat} {news:List V} (J:e3 P sz tx x h=some (n,news)) {ρ:Ren} {B:Nat} {aG w:World} (R:aM ρ B aG h w)
  (af:ax ρ x bO):∃ dj,Src P sz tx bO n dj w∧aQ ρ news dj∧news.length=n * sz∧news.all (·.one)=true:=by
 unfold e3 at J
 split at J
 ·rename_i e hu
  cases af
  simp at J
  obtain ⟨rfl,rfl⟩:=J
  exact ⟨[],Src.ofNil w hu 0,.nil ρ,by simp,rfl⟩
 ·rename_i e hu
  simp at J
  obtain ⟨rfl,rfl⟩:=J
  cases af with
  | z0 a aL=>
   cases a with
   | none=>exact ⟨[],Src.ofNil w hu 0,.nil ρ,by simp,rfl⟩
   | some a=>exact ⟨[],Src.ofSlice w hu a 0 0 [] (by simp) (by simp) (by simp),.nil ρ,by simp,rfl⟩
 ·rename_i e hu
  simp at J
  obtain ⟨rfl,rfl⟩:=J
  cases af with
  | gr a c=>exact ⟨[],Src.ofSlice w hu a 0 c [] (by simp) (by simp) (by simp),.nil ρ,by simp,rfl⟩
 ·rename_i e m cs hu
  split at J
  case isFalse=>cases J
  rename_i al
  simp at J
  obtain ⟨rfl,rfl⟩:=J
  rcases af.hS with ⟨rfl,rfl,a,fv,aL,rfl⟩ | ⟨b,o,cap,arr,ar,aJ,av,cn,rfl⟩
  ·cases a with
   | none=>
    obtain rfl:=aL rfl
    exact ⟨[],Src.ofNil w hu 0,.nil ρ,by simp,rfl⟩
   | some a=>exact ⟨[],Src.ofSlice w hu a 0 fv [] (by simp) (by simp) (by simp),.nil ρ,by simp,rfl⟩
  ·have nL:ax ρ (.at cs) (.pointer (some ⟨b,o,none⟩)):=.at o ar av cn
   obtain ⟨cZ,cw,he,dd⟩:=vm R.heap nL (cs:=cs) rfl
   simp at he
   obtain ⟨rfl,rfl⟩:=he
   obtain ⟨vs,h1,ab,aI⟩:=dd cs.length (Nat.le_refl _)
   rw [List.take_length] at ab
   exact ⟨vs,Src.ofSlice w hu ⟨b,o,none⟩ m cap vs (by rw [aI,al.1]) (fun j u hu=>by rw [Addr.add_mid];exact h1 j u hu) (ab.one al.2),ab,al.1,al.2⟩
 ·rename_i e i o fw cap hu
  obtain ⟨b,bh,hi,aw,rfl⟩:=af.ft
  split at J
  case h_2=>cases J
  rename_i c a6 ex aE
  split at J
  case isFalse=>cases J
  rename_i al
  simp at J
  obtain ⟨rfl,rfl⟩:=J
  have c7:ax ρ (.ptr i o) (.pointer (some ⟨b,o,none⟩)):=.ptr hi o
  obtain ⟨cZ,cw,he,dd⟩:=vm R.heap c7 (cs:=c.drop o) (by simp [mT,aE];omega)
  simp at he
  obtain ⟨rfl,rfl⟩:=he
  obtain ⟨vs,h1,ab,aI⟩:=dd (fw * sz) (by simp;omega)
  exact ⟨vs,Src.ofSlice w hu ⟨b,o,none⟩ fw (e8 bh cap) vs aI (fun j u hu=>by rw [Addr.add_mid];exact h1 j u hu) (ab.one al.2),ab,by simp;omega,al.2⟩
 ·rename_i s hu
  cases af
  split at J
  case isFalse=>cases J
  rename_i h1
  subst h1
  simp at J
  obtain ⟨rfl,rfl⟩:=J
  have hT:=Src.ofString w hu s
  refine ⟨byteCells s,hT,LF ρ s,by simp [hT.newsLen],?_⟩
  rw [Y9,List.all_eq_true]
  intro v aN
  obtain ⟨b,_,rfl⟩:=List.mem_map.1 aN
  rfl
 ·cases J
theorem aM.move {ρ:Ren} {B:Nat} {aG:World} {h:I} {w w':World} (R:aM ρ B aG h w) {i b bh:Nat} (hi:ρ.ren i=some (b,bh)) (AB:h.get i≠.dead)
  {c:List V} {arr:Array Value} {e:TypeId} {ex:Option Nat}
  (hold:∀ k,k≠b→w'.heap[k]?=w.heap[k]?) (iK:w'.heap[b]?=some (.cells arr e (0,0))) (bn:w.heap.size≤w'.heap.size)
  (ar:fC B w w') (al:c.length≤arr.size) (aw:aQ ρ c (arr.toList.take c.length)) (af:yE ex bh arr.size c.length) :
  ∃ ρ':Ren,ρ.le ρ'∧ρ'.ren h.n=some (b,bh)∧aM ρ' B aG ((h.set i .dead).push (.cells c e ex)) w':=by
 have hle:=Ren.nY (R.heap.gv _ (Nat.le_refl _)) b bh
 have gO:i<h.n:=R.heap.lt hi
 obtain ⟨gx,AD,AE,hE,_,iS,P5⟩:=R.heap.live AB
 rw [AE] at hi;simp at hi
 obtain ⟨rfl,rfl⟩:=hi
 refine ⟨_,hle,Ren.iR,⟨⟨fun j aC=>?_,fun j k fe bf bx aC hk h1 ab=>?_,fun j=>?_,fun k a hk=>?_,fun g cs aE=>?_,Nat.le_trans R.heap.base bn⟩,R.below.trans ar⟩⟩
 ·simp only [I.push,I.set] at aC
  simp [Ren.add,show j≠h.n by omega,R.heap.gv j (by omega)]
 ·simp only [I.push,I.set] at aC hk
  simp only [Ren.add] at h1 ab
  by_cases mv:j=h.n<;>by_cases wO:k=h.n
  ·omega
  ·simp [mv] at h1;simp [wO] at ab hk
   obtain ⟨rfl,rfl⟩:=h1
   have:=R.heap.inj i k gx AD bx AB hk.2 AE ab
   exact absurd this.symm hk.1
  ·simp [wO] at ab;simp only [mv,if_false] at h1 aC
   obtain ⟨rfl,rfl⟩:=ab
   by_cases cI:j=i
   ·simp [cI] at aC
   ·simp only [cI,if_false] at aC
    have:=R.heap.inj j i gx bf AD aC AB h1 AE
    exact absurd this cI
  ·simp only [mv,if_false] at h1 aC;simp [wO] at ab hk
   by_cases cI:j=i
   ·simp [cI] at aC
   ·simp only [cI,if_false] at aC
    exact R.heap.inj j k fe bf bx aC hk.2 h1 ab
 ·by_cases mv:j=h.n
  ·subst mv
   simp only [I.push,I.set,if_true]
   exact ⟨gx,AD,arr,Ren.iR,iS,P5,iK,al,aw.mono hle,af⟩
  ·simp only [I.push,I.set,mv,if_false]
   by_cases cI:j=i
   ·subst cI;simp only [if_true];trivial
   ·simp only [cI,if_false]
    by_cases a7:h.get j=.dead
    ·rw [a7];trivial
    ·refine (R.heap.obj j).au hle fun cZ bf aq=>⟨hold cZ ?_,fun h=>h⟩
     intro kg
     subst kg
     exact cI (R.heap.inj i j cZ AD bf AB a7 AE aq).symm
 ·obtain ⟨dG,ei,hw⟩:=R.heap.frz k a hk
  have:k≠gx:=by intro ad;subst ad;simp only [Ren.add] at hk;rw [iS] at hk;cases hk
  exact ⟨dG,ei,(hold k this).trans hw⟩
 ·obtain ⟨ij,bG,dL⟩:=R.heap.glob g cs aE
  exact ⟨ij,bG,dL.mono hle⟩
def lim:Nat:=140737488355328
def Hj (P:Program) (tx e:TypeId) (zs:List V) (sz bs:Nat) (s x:V) (h:I):Option (V×I) :=
 match P.underlying tx,x,s with
 | some (.int _),.int _ n,.aj i o len cap=>
  match h.get i with
  | .cells c _ _=>
   if 0<n∧cap<ai∧cap<len+n.toNat∧(len+n.toNat) * bs≤lim∧len+n.toNat≤lim∧o+len * sz≤c.length∧0<sz then
    some (.aj h.n 0 (len+n.toNat) ai,h.push (.cells ((c.drop o).take (len * sz)++made zs n.toNat) e (some sz)))
   else none
  | _=>none
 | _,_,_=>none
def k6 (P:Program) (t tx:TypeId) (s x:V) (h:I):Option (V×I) :=
 match pw P t with
 | none=>none
 | some e=>
 match gw P e,ap P e,BN P e with
 | some zs,some sz,some bs=>
  if zs.length=sz then
   match e3 P sz tx x h with
   | none=>Hj P tx e zs sz bs s x h
   | some (n,news)=>
    match s with
    | .ag=>
     if n=0 then some (.ag,h)
     else if n * bs≤lim∧n≤lim then some (.aj h.n 0 n ai,h.push (.cells news e (some sz))) else none
    | .z0=>
     if n=0 then some (.z0,h)
     else if n * bs≤lim∧n≤lim then some (.aj h.n 0 n ai,h.push (.cells news e (some sz))) else none
    | .aj i o len cap=>
     if n=0 then some (.aj i o len cap,h)
     else if (len+n) * bs≤lim∧len+n≤lim then
      match h.get i with
      | .cells c a6 ex=>
       if cap<ai then
        if len+n≤cap then
         if o+(len+n) * sz≤c.length then some (.aj i o (len+n) cap,h.set i (.cells (lay c (o+len * sz) news) a6 ex)) else none
        else if o+len * sz≤c.length then some (.aj h.n 0 (len+n) ai,h.push (.cells ((c.drop o).take (len * sz)++news) e (some sz))) else none
       else if o=0∧cap=ai∧ex=some sz∧len * sz≤c.length∧a6=e then
         some (.aj h.n 0 (len+n) ai,(h.set i .dead).push (.cells (c.take (len * sz)++news) e (some sz)))
        else none
      | _=>none
     else none
    | _=>none
  else none
 | _,_,_=>none
theorem LG {P:Program} (w w':World) (t tx ty e:TypeId) (i:TypeInfo) (bM:P.underlying t=some (.slice e)) (hi:P.info? e=some i) (b off sLen sCap:Nat) (x:Value) (n:Nat) (news:List Value)
  (J:Src P i.size tx x n news w) (ff:sLen+n≤sCap) (bZ:(storeCells ⟨b,off+sLen * i.size,none⟩ news).run P w=.ok () w') :
  (Builtin.append_ #[t,tx] ty #[.slice (some ⟨b,off,none⟩) sLen sCap,x]).run P w=.ok (.slice (some ⟨b,off,none⟩) (sLen+n) sCap) w':=by
 rcases J.kind with ⟨dG,hk⟩ | hk<;>simp [Builtin.append_,run_underlying bM,run_underlying hk,sizeOf,typeInfo,hi,J.len,ff,J.cells,Addr.add_lit,bZ]
theorem P6 {P:Program} (w:World) (t tx ty e:TypeId) (i:TypeInfo) (bM:P.underlying t=some (.slice e)) (hi:P.info? e=some i) (x:Value) (news:List Value)
  (J:Src P i.size tx x 0 news w) :
  (Builtin.append_ #[t,tx] ty #[.slice none 0 0,x]).run P w=.ok (.slice none 0 0) w:=by
 have aw:=J.newsLen
 simp at aw
 subst aw
 rcases J.kind with ⟨dG,hk⟩ | hk<;>simp [Builtin.append_,run_underlying bM,run_underlying hk,sizeOf,typeInfo,hi,J.len,J.cells]
theorem Hk {P:Program} {t tx ty e:TypeId} {bU:TypeInfo} {z:Value} (hu:P.underlying t=some (.slice e)) (ae:P.info? e=some bU) (bB:bU.zero=some z) (eH:z.cells.size=bU.size)
  {h:I} {ρ:Ren} {B:Nat} {aG w:World} (R:aM ρ B aG h w) {base:Option Addr} {sLen sCap n:Nat} {olds news:List V} {olds' dj:List Value} {bO:Value}
  (hold:(Builtin.firstCells bU.size sLen (.slice base sLen sCap)).run P w.drew=.ok olds'.toArray w.drew) (mz:aQ ρ olds olds') (sC:olds.length=sLen * bU.size)
  (hT:Src P bU.size tx bO n dj w) (lp:aQ ρ news dj) (aE:sCap<sLen+n) (h1:(sLen+n) * bU.bytes≤lim) (ab:sLen+n≤lim) :
  Yields P (Builtin.append_ #[t,tx] ty #[.slice base sLen sCap,bO]) ρ B aG w (.aj h.n 0 (sLen+n) ai) (h.push (.cells (olds++news) e (some bU.size))):=by
 unfold lim at h1 ab
 have dU:Builtin.nextslicecap (sLen+n) sCap * bU.bytes≤281474976710656:=by
  have:=nextslicecap_le aE
  calc _≤(2 * (sLen+n)) * bU.bytes:=Nat.mul_le_mul_right _ this
   _=2 * ((sLen+n) * bU.bytes):=by rw [Nat.mul_assoc]
   _≤_:=by omega
 have ch:=run_append_grow_src w t tx ty e bU z hu ae bB base sLen sCap olds' hold bO n dj hT aE (by omega) dU
 have km:=grownCap_ge w (sLen+n) sCap e
 have hlen:(olds'++dj).length=(sLen+n) * bU.size:=by
  rw [List.length_append,←mz.1,sC,hT.newsLen,Nat.add_mul]
 obtain ⟨ρ',hle,aJ,dA⟩:=R.drew.push (c:=olds++news) (arr:=(olds'++dj).toArray++Builtin.zeroCells z.cells (grownCap w (sLen+n) sCap e - (sLen+n))) (e:=e) (ex:=some bU.size)
  (w':=w.drew.alloc (.cells ((olds'++dj).toArray++Builtin.zeroCells z.cells (grownCap w (sLen+n) sCap e - (sLen+n))) e)) (grownCap w (sLen+n) sCap e)
  (by simp) (fun k hk=>Below.heap_alloc w.drew _ k hk) (heap_alloc_new w.drew _) ((fC.refl _ _).alloc R.drew.heap.base _)
  (by rw [(mz.append lp).1];simp)
  (by
   rw [(mz.append lp).1]
   have aK:((olds'++dj).toArray++Builtin.zeroCells z.cells (grownCap w (sLen+n) sCap e - (sLen+n))).toList.take (olds'++dj).length=olds'++dj:=by
    simp only [Array.toList_append]
    exact List.take_left
   rw [aK]
   exact mz.append lp)
  (by
   refine ⟨?_,?_⟩
   ·rw [Array.size_append,size_zeroCells,eH,List.size_toArray,hlen,←Nat.add_mul]
    congr 1
    omega
   ·have:=grownCap_le_maxLen w (sLen+n) sCap e (by simp only [maxLen];omega)
    simp only [maxLen] at this
    omega)
 refine ⟨ρ',_,_,ch,?_,dA,hle⟩
 have:=ax.aj (ρ:=ρ') aJ 0 (sLen+n) ai (by simp [e8,km])
 simpa [e8] using this
theorem Zb {P:Program} {t LH ty e:TypeId} {bU:TypeInfo} {z:Value} {P7 C1:IntKind} (hu:P.underlying t=some (.slice e)) (aJ:P.underlying LH=some (.int C1)) (ae:P.info? e=some bU) (bB:bU.zero=some z) (eH:z.cells.size=bU.size)
  {h:I} {ρ:Ren} {B:Nat} {aG w:World} (R:aM ρ B aG h w) {base:Option Addr} {sLen sCap n:Nat} {olds zs:List V} {olds':List Value}
  (hold:(Builtin.firstCells bU.size sLen (.slice base sLen sCap)).run P w.drew=.ok olds'.toArray w.drew) (mz:aQ ρ olds olds') (sC:olds.length=sLen * bU.size)
  (P8:aQ ρ zs z.cells.toList) (ay:0<n) (J:0<bU.size) (aE:sCap<sLen+n) (h1:(sLen+n) * bU.bytes≤lim) (ab:sLen+n≤lim) :
  Yields P (Builtin.append_ #[t,LH] ty #[.slice base sLen sCap,.int P7 n]) ρ B aG w (.aj h.n 0 (sLen+n) ai) (h.push (.cells (olds++made zs n) e (some bU.size))):=by
 unfold lim at h1 ab
 have dU:Builtin.nextslicecap (sLen+n) sCap * bU.bytes≤281474976710656:=by
  have:=nextslicecap_le aE
  calc _≤(2 * (sLen+n)) * bU.bytes:=Nat.mul_le_mul_right _ this
   _=2 * ((sLen+n) * bU.bytes):=by rw [Nat.mul_assoc]
   _≤_:=by omega
 have C2:n * bU.bytes≤281474976710656:=Nat.le_trans (Nat.mul_le_mul_right _ (Nat.le_add_left n sLen)) (by omega)
 have ch:=Lib.run_append_grow_zeros w t LH ty e bU z P7 C1 hu aJ ae bB base sLen sCap olds' hold n ay J aE (by omega) C2 dU
 have km:=grownCap_ge w (sLen+n) sCap e
 have rC:(Builtin.zeroCells z.cells n).toList=made z.cells.toList n:=n7 z.cells n
 have lp:aQ ρ (made zs n) (Builtin.zeroCells z.cells n).toList:=by rw [rC];exact P8.made n
 have yI:=mz.append lp
 have hlen:(olds'++(Builtin.zeroCells z.cells n).toList).length=(sLen+n) * bU.size:=by
  rw [List.length_append,←mz.1,sC,rC,Hh,Array.length_toList,eH,Nat.add_mul]
 obtain ⟨ρ',hle,jh,dA⟩:=R.drew.push (c:=olds++made zs n) (arr:=olds'.toArray++Builtin.zeroCells z.cells n++Builtin.zeroCells z.cells (grownCap w (sLen+n) sCap e - (sLen+n))) (e:=e) (ex:=some bU.size)
  (w':=w.drew.alloc (.cells (olds'.toArray++Builtin.zeroCells z.cells n++Builtin.zeroCells z.cells (grownCap w (sLen+n) sCap e - (sLen+n))) e)) (grownCap w (sLen+n) sCap e)
  (by simp) (fun k hk=>Below.heap_alloc w.drew _ k hk) (heap_alloc_new w.drew _) ((fC.refl _ _).alloc R.drew.heap.base _)
  (by rw [yI.1];simp)
  (by
   rw [yI.1]
   have aK:(olds'.toArray++Builtin.zeroCells z.cells n++Builtin.zeroCells z.cells (grownCap w (sLen+n) sCap e - (sLen+n))).toList.take (olds'++(Builtin.zeroCells z.cells n).toList).length=olds'++(Builtin.zeroCells z.cells n).toList:=by
    simp only [Array.toList_append]
    exact List.take_left
   rw [aK]
   exact yI)
  (by
   refine ⟨?_,?_⟩
   ·have q:(olds'.toArray++Builtin.zeroCells z.cells n).size=(sLen+n) * bU.size:=by rw [←hlen];simp
    rw [Array.size_append,size_zeroCells,eH,q,←Nat.add_mul]
    congr 1
    omega
   ·have:=grownCap_le_maxLen w (sLen+n) sCap e (by simp only [maxLen];omega)
    simp only [maxLen] at this
    omega)
 refine ⟨ρ',_,_,ch,?_,dA,hle⟩
 have:=ax.aj (ρ:=ρ') jh 0 (sLen+n) ai (by simp [e8,km])
 simpa [e8] using this
theorem Zc {P:Program} {t tx ty:TypeId} {s x v:V} {bF bO:Value} {h U:I} (J:k6 P t tx s x h=some (v,U)) {ρ:Ren} {B:Nat} {aG w:World} (R:aM ρ B aG h w)
  (aq:ax ρ s bF) (af:ax ρ x bO):Yields P (Builtin.append_ #[t,tx] ty #[bF,bO]) ρ B aG w v U:=by
 unfold k6 at J
 split at J
 case h_1=>cases J
 rename_i e he
 have hu:P.underlying t=some (.slice e):=by
  unfold pw at he
  split at he
  ·rename_i hu;rw [hu];simpa using he
  ·cases he
 split at J
 case h_2=>cases J
 rename_i zs sz bs p5 bn hE
 split at J
 case isFalse=>cases J
 rename_i eH
 obtain ⟨z,bB,AF⟩:=BP p5
 have eH:z.cells.size=sz:=by have:=(AF ρ).1;simp at this;omega
 cases ae:P.info? e with
 | none=>simp [jg,ae] at bB
 | some bU=>
 simp [jg,ae] at bB
 simp [BN,ae] at hE
 simp [ap,ae] at bn
 subst bn
 subst hE
 split at J
 case h_1=>
  unfold Hj at J
  split at J
  case h_2=>cases J
  rename_i n i o len cap pg gY
  split at J
  case h_2=>cases J
  rename_i c a6 ex aE
  split at J
  case isFalse=>cases J
  rename_i ar
  obtain ⟨am8,kT,cr,kU,eC,dU,wP⟩:=ar
  simp at J
  obtain ⟨rfl,rfl⟩:=J
  obtain ⟨b,bh,hi,aw,rfl⟩:=aq.ft
  cases af
  have cQ:e8 bh cap=cap:=by simp [e8,kT]
  rw [cQ] at aw⊢
  have c7:ax ρ (.ptr i o) (.pointer (some ⟨b,o,none⟩)):=.ptr hi o
  obtain ⟨cZ,cw,sD,dd⟩:=vm R.drew.heap c7 (cs:=c.drop o) (by simp [mT,aE];omega)
  simp at sD
  obtain ⟨rfl,rfl⟩:=sD
  obtain ⟨olds',AG,fs,wQ⟩:=dd (len * bU.size) (by simp;omega)
  have P9:n=((n.toNat:Nat):Int):=by omega
  rw [P9]
  exact Zb hu pg ae bB eH R (run_firstCells_some (P:=P) w.drew bU.size len ⟨b,o,none⟩ len cap olds' wQ (fun j v aN=>by rw [Addr.add_mid];simpa using AG j v aN)) fs (by rw [fs.1,wQ]) (AF ρ) (by omega) wP cr kU eC
 rename_i n news gS
 obtain ⟨dj,hT,lp,AH,ec⟩:=Za gS R af
 split at J
 ·cases aq
  split at J
  ·rename_i ay
   subst ay
   simp at J
   obtain ⟨rfl,rfl⟩:=J
   exact .same R (P6 w t tx ty e bU hu ae bO dj hT) .ag
  ·rename_i ay
   split at J
   case isFalse=>cases J
   rename_i ar
   simp at J
   obtain ⟨rfl,rfl⟩:=J
   have:=Hk (ty:=ty) hu ae bB eH R (base:=none) (sLen:=0) (sCap:=0) (olds:=[]) (olds':=[]) (by simpa using run_firstCells_none (P:=P) w.drew bU.size 0 0 0) (.nil ρ) (by simp) hT lp (by omega) (by simpa using ar.1) (by simpa using ar.2)
   simpa using this
 ·cases aq with
  | z0 a aL=>
  split at J
  ·rename_i ay
   subst ay
   simp at J
   obtain ⟨rfl,rfl⟩:=J
   cases a with
   | none=>exact .same R (P6 w t tx ty e bU hu ae bO dj hT) (.z0 none (by simp))
   | some a=>
    have rE:dj=[]:=by have:=hT.newsLen;simpa using this
    subst rE
    have:(Builtin.append_ #[t,tx] ty #[.slice (some a) 0 0,bO]).run P w=.ok (.slice (some a) 0 0) w:=by
     rcases hT.kind with ⟨dG,hk⟩ | hk<;>simp [Builtin.append_,run_underlying hu,run_underlying hk,sizeOf,typeInfo,ae,hT.len,hT.cells,storeCells]
    exact .same R this (.z0 _ aL)
  ·rename_i ay
   split at J
   case isFalse=>cases J
   rename_i ar
   simp at J
   obtain ⟨rfl,rfl⟩:=J
   have:=Hk (ty:=ty) hu ae bB eH R (base:=a) (sLen:=0) (sCap:=0) (olds:=[]) (olds':=[]) (by
    cases a with
    | none=>simpa using run_firstCells_none (P:=P) w.drew bU.size 0 0 0
    | some a=>simpa using run_firstCells_some (P:=P) w.drew bU.size 0 a 0 0 [] (by simp) (by simp)) (.nil ρ) (by simp) hT lp (by omega) (by simpa using ar.1) (by simpa using ar.2)
   simpa using this
 ·rename_i i o len cap
  obtain ⟨b,bh,hi,aw,rfl⟩:=aq.ft
  split at J
  ·rename_i ay
   subst ay
   simp at J
   obtain ⟨rfl,rfl⟩:=J
   have rE:dj=[]:=by have:=hT.newsLen;simpa using this
   subst rE
   refine .same R (v':=.slice (some ⟨b,o,none⟩) len (e8 bh cap)) ?_ (.aj hi o len cap aw)
   have:=LG (P:=P) w w t tx ty e bU hu ae b o len (e8 bh cap) bO 0 [] hT (by omega) (by simp [storeCells])
   simpa using this
  ·rename_i ay
   split at J
   case isFalse=>cases J
   rename_i ar
   split at J
   case h_2=>cases J
   rename_i c a6 ex aE
   have olds:∀ bV:World,aM ρ B aG h bV→o+len * bU.size≤c.length→∃ olds',bV.rangeAt b o olds'∧aQ ρ ((c.drop o).take (len * bU.size)) olds'∧olds'.length=len * bU.size:=fun bV Zd dU=>by
    have c7:ax ρ (.ptr i o) (.pointer (some ⟨b,o,none⟩)):=.ptr hi o
    obtain ⟨cZ,cw,he,dd⟩:=vm Zd.heap c7 (cs:=c.drop o) (by simp [mT,aE];omega)
    simp at he
    obtain ⟨rfl,rfl⟩:=he
    exact dd _ (by simp;omega)
   split at J
   ·rename_i kT
    have cQ:e8 bh cap=cap:=by simp [e8,kT]
    rw [cQ]
    rw [cQ] at aw
    split at J
    ·rename_i ff
     split at J
     case isFalse=>cases J
     rename_i dU
     simp at J
     obtain ⟨rfl,rfl⟩:=J
     obtain ⟨w',bZ,dA⟩:=CZ (P:=P) aE R hi (o+len * bU.size) lp ec (by rw [AH];have:=Nat.add_mul len n bU.size;omega)
     have ch:=LG w w' t tx ty e bU hu ae b o len cap bO n dj hT ff bZ
     refine ⟨ρ,_,_,ch,?_,dA,Ren.le.refl ρ⟩
     have:=ax.aj hi o (len+n) cap (by rw [cQ];exact ff)
     rwa [cQ] at this
    ·rename_i ff
     split at J
     case isFalse=>cases J
     rename_i dU
     simp at J
     obtain ⟨rfl,rfl⟩:=J
     obtain ⟨olds',kV,iz,kW⟩:=olds w R dU
     exact Hk hu ae bB eH R (run_firstCells_some (P:=P) w.drew bU.size len ⟨b,o,none⟩ len cap olds' kW (fun j v aN=>by rw [Addr.add_mid];simpa using kV j v aN)) iz (by rw [iz.1,kW]) hT lp (by omega) ar.1 ar.2
   ·rename_i kT
    split at J
    case isFalse=>cases J
    rename_i hR
    obtain ⟨rfl,rfl,rfl,sE,rfl⟩:=hR
    simp at J
    obtain ⟨rfl,rfl⟩:=J
    have cQ:e8 bh ai=bh:=by simp [e8]
    rw [cQ]
    rw [cQ] at aw
    by_cases ff:len+n≤bh
    ·have av:=R.heap.obj i
     rw [aE] at av
     obtain ⟨cZ,hs,arr,fs,aB,b3,hw,al,mA,JO⟩:=av
     rw [fs] at hi
     simp at hi
     obtain ⟨rfl,rfl⟩:=hi
     have yJ:arr.size=hs * bU.size:=JO.1
     have C3:len * bU.size+dj.length≤arr.size:=by
      rw [hT.newsLen,yJ,←Nat.add_mul]
      exact Nat.mul_le_mul_right _ ff
     have bZ:=run_storeCells_at P cZ (len * bU.size) a6 dj 0 arr w hw (by simpa using C3) (lp.one ec)
     simp only [Nat.add_zero] at bZ
     have ch:=LG w _ t tx ty a6 bU hu ae cZ 0 len hs bO n dj hT ff (by simpa using bZ)
     have lT:(c.take (len * bU.size)).length=len * bU.size:=by simp;omega
     obtain ⟨ρ',hle,aJ,dA⟩:=R.move (w':=w.setRow cZ (arr.toList.take (len * bU.size)++dj++arr.toList.drop (len * bU.size+dj.length)).toArray) (c:=c.take (len * bU.size)++news) (ex:=some bU.size) fs (by rw [aE];simp)
      (fun k hk=>by simp [World.setRow,Array.getElem?_modify,Ne.symm hk]) (setRow_heap w cZ arr _ a6 (0,0) hw) (by simp [World.setRow])
      ⟨rfl,rfl,rfl,by simp [World.setRow],fun k hk=>by simp [World.setRow,Array.getElem?_modify,show cZ≠k by omega],Nat.le_refl _⟩
      (by rw [List.length_append,lT,lp.1];simp;omega)
      (by
       rw [List.length_append,lT,lp.1]
       have aK:(arr.toList.take (len * bU.size)++dj++arr.toList.drop (len * bU.size+dj.length)).toArray.toList.take (len * bU.size+dj.length)=arr.toList.take (len * bU.size)++dj:=by
        have:(arr.toList.take (len * bU.size)++dj).length=len * bU.size+dj.length:=by simp;omega
        rw [←this]
        exact List.take_left
       rw [aK]
       refine aQ.append ?_ lp
       have:=mA.take (len * bU.size)
       rw [List.take_take] at this
       rwa [Nat.min_eq_left sE] at this)
      (by
       refine ⟨?_,JO.2⟩
       simp
       omega)
     refine ⟨ρ',_,_,ch,?_,by simpa only [List.append_assoc] using dA,hle⟩
     have:=ax.aj (ρ:=ρ') aJ 0 (len+n) ai (by rw [e8];simp;exact ff)
     rwa [show e8 hs ai=hs by simp [e8]] at this
    ·obtain ⟨olds',kV,iz,kW⟩:=olds w R (by simpa using sE)
     rw [List.drop_zero] at iz
     exact Hk (ty:=ty) hu ae bB eH (R.kill i) (run_firstCells_some (P:=P) w.drew bU.size len ⟨b,0,none⟩ len bh olds' kW (fun j v aN=>by rw [Addr.add_mid];simpa using kV j v aN)) iz (by rw [iz.1,kW]) hT lp (by omega) ar.1 ar.2
 ·cases J
def vt:V→Option Nat
 | .aj _ _ n _=>some n
 | .an n _=>some n
 | .ag=>some 0
 | .z0=>some 0
 | .string s=>some s.size
 | _=>none
theorem Qa {P:Program} {x:V} {bO:Value} {n:Nat} (h:vt x=some n) {ρ:Ren} (af:ax ρ x bO) (w:World):(Builtin.lenOf bO).run P w=.ok n w:=by
 cases af<;>simp [vt] at h<;>subst h<;>rfl
def p6 (sz n:Nat) (x:V) (h:I):Option (List V) :=
 match x with
 | .ag | .z0=>if n=0 then some [] else none
 | .aj i o _ _=>
  match h.get i with
  | .cells c _ _=>if o+n * sz≤c.length then some ((c.drop o).take (n * sz)) else none
  | _=>none
 | .an m cs=>if n≤m∧n * sz≤cs.length then some (cs.take (n * sz)) else none
 | .string s=>if sz=1∧n≤s.size then some (((byteCells s).map eD).take n) else none
 | _=>none
theorem Qb {P:Program} {sz n:Nat} {x:V} {bO:Value} {h:I} {vs:List V} (J:p6 sz n x h=some vs) {ρ:Ren} {B:Nat} {aG w:World} (R:aM ρ B aG h w) (af:ax ρ x bO) :
  ∃ fP,(Builtin.firstCells sz n bO).run P w=.ok fP.toArray w∧aQ ρ vs fP∧vs.length=n * sz:=by
 unfold p6 at J
 split at J
 ·cases af
  split at J
  case isFalse=>cases J
  rename_i ay
  subst ay
  obtain rfl:vs=[]:=by simpa using J
  exact ⟨[],run_firstCells_none w sz 0 0 0,.nil ρ,by simp⟩
 ·cases af with
  | z0 a aL=>
  split at J
  case isFalse=>cases J
  rename_i ay
  subst ay
  obtain rfl:vs=[]:=by simpa using J
  cases a with
  | none=>exact ⟨[],run_firstCells_none w sz 0 0 0,.nil ρ,by simp⟩
  | some a=>exact ⟨[],run_firstCells_some (P:=P) w sz 0 a 0 0 [] (by simp) (by simp),.nil ρ,by simp⟩
 ·rename_i i o len cap
  obtain ⟨b,bh,hi,aw,rfl⟩:=af.ft
  split at J
  case h_2=>cases J
  rename_i c a6 ex aE
  split at J
  case isFalse=>cases J
  rename_i al
  obtain rfl:_=vs:=by simpa using J
  have c7:ax ρ (.ptr i o) (.pointer (some ⟨b,o,none⟩)):=.ptr hi o
  obtain ⟨cZ,cw,he,dd⟩:=vm R.heap c7 (cs:=c.drop o) (by simp [mT,aE];omega)
  simp at he
  obtain ⟨rfl,rfl⟩:=he
  obtain ⟨cs,h1,ab,aI⟩:=dd (n * sz) (by simp;omega)
  exact ⟨cs,run_firstCells_some (P:=P) w sz n ⟨b,o,none⟩ len (e8 bh cap) cs aI (fun j v aN=>by rw [Addr.add_mid];exact h1 j v aN),ab,by simp;omega⟩
 ·rename_i m cs
  split at J
  case isFalse=>cases J
  rename_i al
  obtain rfl:_=vs:=by simpa using J
  rcases af.hS with ⟨rfl,rfl,a,fv,aL,rfl⟩ | ⟨b,o,cap,arr,ar,aJ,av,cn,rfl⟩
  ·obtain rfl:n=0:=by omega
   cases a with
   | none=>
    obtain rfl:=aL rfl
    exact ⟨[],run_firstCells_none w sz 0 0 0,by simpa using aQ.nil ρ,by simp⟩
   | some a=>exact ⟨[],run_firstCells_some (P:=P) w sz 0 a 0 fv [] (by simp) (by simp),by simpa using aQ.nil ρ,by simp⟩
  ·have nL:ax ρ (.at cs) (.pointer (some ⟨b,o,none⟩)):=.at o ar av cn
   obtain ⟨cZ,cw,he,dd⟩:=vm R.heap nL (cs:=cs) rfl
   simp at he
   obtain ⟨rfl,rfl⟩:=he
   obtain ⟨vs,h1,ab,aI⟩:=dd (n * sz) al.2
   exact ⟨vs,run_firstCells_some (P:=P) w sz n ⟨b,o,none⟩ m cap vs aI (fun j v aN=>by rw [Addr.add_mid];exact h1 j v aN),ab,by simp;omega⟩
 ·rename_i s
  cases af
  split at J
  case isFalse=>cases J
  rename_i h1
  obtain ⟨rfl,aJ⟩:=h1
  obtain rfl:_=vs:=by simpa using J
  refine ⟨(byteCells s).take n,?_,(LF ρ s).take n,by rw [List.length_take,List.length_map,byteCells_length];omega⟩
  simp only [Builtin.firstCells,Sem.run_pure]
  congr 1
  apply Array.ext'
  simp [byteCells]
 ·cases J
def p7 (P:Program) (yK:TypeId) (dst src:V) (h:I):Option (V×I) :=
 match pw P yK with
 | none=>none
 | some e=>
  match ap P e,vt src,dst with
  | some sz,some aj,.ag=>
   match p6 sz (Nat.min aj 0) src h with
   | some _=>some (.int .i64 0,h)
   | none=>none
  | some sz,some aj,.aj i o dl _=>
   match p6 sz (Nat.min aj dl) src h with
   | some vs=>
    if Nat.min aj dl=0 then some (.int .i64 0,h) else
    match h.get i with
    | .cells c a6 ex=>if o+vs.length≤c.length∧vs.all (·.one)=true then some (.int .i64 (Nat.min aj dl:Nat),h.set i (.cells (lay c o vs) a6 ex)) else none
    | _=>none
   | none=>none
  | _,_,_=>none
theorem Ze {P:Program} {yK Hl ty:TypeId} {dst src v:V} {C4 C5:Value} {h U:I} (J:p7 P yK dst src h=some (v,U)) {ρ:Ren} {B:Nat} {aG w:World} (R:aM ρ B aG h w)
  (a7:ax ρ dst C4) (aq:ax ρ src C5):Yields P (Builtin.copy_ #[yK,Hl] ty #[C4,C5]) ρ B aG w v U:=by
 unfold p7 at J
 split at J
 case h_1=>cases J
 rename_i e he
 have hu:P.underlying yK=some (.slice e):=by
  unfold pw at he
  split at he
  ·rename_i hu;rw [hu];simpa using he
  ·cases he
 split at J
 ·rename_i sz aj bn iT
  cases a7
  split at J
  case h_2=>cases J
  rename_i vs lS
  simp at J
  obtain ⟨rfl,rfl⟩:=J
  obtain ⟨fP,aB,mA,hlen⟩:=Qb (P:=P) lS R aq
  have hll:=Qa (P:=P) iT aq w
  cases ae:P.info? e with
  | none=>simp [ap,ae] at bn
  | some bU=>
   simp [ap,ae] at bn
   refine .same R (v':=.int .i64 0) ?_ (.int _ _)
   have hm:Nat.min aj 0=0:=Nat.min_zero aj
   rw [hm] at aB
   simp [Builtin.copy_,run_underlying hu,hll,sizeOf,typeInfo,ae,bn,aB,goInt]
 ·rename_i sz aj i o dl an2 bn iT
  obtain ⟨b,bh,hi,aw,rfl⟩:=a7.ft
  split at J
  case h_2=>cases J
  rename_i vs lS
  obtain ⟨fP,aB,mA,hlen⟩:=Qb (P:=P) lS R aq
  have hll:=Qa (P:=P) iT aq w
  cases ae:P.info? e with
  | none=>simp [ap,ae] at bn
  | some bU=>
  simp [ap,ae] at bn
  split at J
  ·rename_i ay
   simp at J
   obtain ⟨rfl,rfl⟩:=J
   refine .same R (v':=.int .i64 0) ?_ (.int _ _)
   rw [ay] at hlen aB
   have uL:fP=[]:=List.eq_nil_of_length_eq_zero (by rw [←mA.1,hlen];simp)
   subst uL
   have hm:(Nat.min aj dl:Nat)=0:=ay
   simp [Builtin.copy_,run_underlying hu,hll,sizeOf,typeInfo,ae,bn,hm,aB,goInt,storeCells]
  ·split at J
   case h_2=>cases J
   rename_i c a6 ex aE
   split at J
   case isFalse=>cases J
   rename_i al
   simp at J
   obtain ⟨rfl,rfl⟩:=J
   obtain ⟨w',bZ,dA⟩:=CZ (P:=P) aE R hi o mA al.2 al.1
   refine ⟨ρ,_,w',?_,.int _ _,dA,Ren.le.refl ρ⟩
   simp [Builtin.copy_,run_underlying hu,hll,sizeOf,typeInfo,ae,bn,aB,goInt,bZ]
 ·cases J
def dg {α:Type} (P:Program):Sem α→Option α
 | .pure a=>some a
 | .program k=>dg P (k P)
 | .mark _ k=>dg P k
 | _=>none
theorem wR {α:Type} {P:Program}:∀ {s:Sem α} {a:α},dg P s=some a→∀ w,s.run P w=.ok a w
 | .pure b,a,h,w=>by simp [dg] at h;subst h;rfl
 | .program k,a,h,w=>by
  simp only [dg] at h
  exact wR (s:=k P) h w
 | .mark m k,a,h,w=>by
  simp only [dg] at h
  exact wR (s:=k) h w
 | .load ..,_,h,_=>by simp [dg] at h
 | .store ..,_,h,_=>by simp [dg] at h
 | .new ..,_,h,_=>by simp [dg] at h
 | .shape ..,_,h,_=>by simp [dg] at h
 | .freeze ..,_,h,_=>by simp [dg] at h
 | .frozen ..,_,h,_=>by simp [dg] at h
 | .getObj ..,_,h,_=>by simp [dg] at h
 | .setObj ..,_,h,_=>by simp [dg] at h
 | .choose ..,_,h,_=>by simp [dg] at h
 | .sys ..,_,h,_=>by simp [dg] at h
 | .halt ..,_,h,_=>by simp [dg] at h
theorem ji {α β:Type} {P:Program} {s:Sem α} {k:α→Sem β}:dg P (s >>= k)=(dg P s).bind fun a=>dg P (k a):=by
 induction s with
 | pure a=>rfl
 | program k ih=>exact ih P
 | mark m k ih=>exact ih
 | _=>rfl
def wS:V→Option Nat
 | .en=>some 0 | .ag=>some 1 | .dk=>some 2 | .nilFunc=>some 3 | .nilIface=>some 4 | _=>none
def vu:V→Option Nat
 | .ptr _ _=>some 0 | .at _=>some 0 | .aj _ _ _ _=>some 1 | .gr=>some 1 | .an n _=>if n=0 then none else some 1 | .map _=>some 2 | .func _ _ _=>some 3 | .iface _ _=>some 4 | _=>none
def sF:TypeDesc→Option Nat
 | .pointer _=>some 0 | .slice _=>some 1 | .map _ _=>some 2 | .func _ _ _=>some 3 | .interface _=>some 4 | _=>none
def wT (d:TypeDesc) (x y:V):Bool :=
 match sF d with
 | some k=>(wS x==some k&&vu y==some k)||(vu x==some k&&wS y==some k)
 | none=>false
theorem nil_eq {P:Program} {w:World} {ρ:Ren} {t:TypeId} {d:TypeDesc} (hu:P.underlying t=some d) {x y:V} {bO k7:Value} (af:ax ρ x bO) (aX:ax ρ y k7) (aJ:wT d x y=true) :
  (Op.equal t bO k7).run P w=.ok false w∧(∀ op xo yo,eqGuard op t xo yo bO k7=pure ())∧binOp .eql t bO k7=(do pure (.bool (←Op.equal t bO k7)))∧binOp .neq t bO k7=(do pure (.bool (!(←Op.equal t bO k7)))):=by
 have run:∀ m,(Op.equalIn (m+1) t bO k7).run P w=.ok false w→(Op.equal t bO k7).run P w=.ok false w∨m≠9999:=fun m h=>by
  by_cases hm:m=9999
  ·subst hm;exact .inl h
  ·exact .inr hm
 have guard:(¬(bO=.nilIface∧k7=.nilIface))→(¬∃ a b,bO=.agg a∧k7=.agg b)→∀ op xo yo,eqGuard op t xo yo bO k7=pure ():=fun h1 ab op xo yo=>by
  unfold eqGuard
  cases op<;>first | rfl | (simp only [Bool.not_true,Bool.false_eq_true,if_false];split<;>first | rfl | exact absurd ⟨rfl,rfl⟩ h1 | exact absurd ⟨_,_,rfl,rfl⟩ ab)
 unfold wT at aJ
 cases d<;>simp [sF] at aJ
 all_goals
  rcases aJ with ⟨h1,ab⟩ | ⟨h1,ab⟩
  all_goals
   cases af<;>simp [wS,vu] at h1<;>cases aX<;>simp [wS,vu] at ab
   all_goals first
    | omega
    | (refine ⟨(run 9999 (by unfold Op.equalIn;rw [Sem.run_bind,run_underlying hu,Result.andThen_ok];simp)).resolve_right (by simp),guard (by simp) (by simp),rfl,rfl⟩)
def cl (P:Program) (op:BinOp) (t:TypeId) (xo yo:Operand) (x y:V):Option V :=
 match lK x,lK y with
 | some a,some b=>(dg P (do eqGuard op t xo yo a b;binOp op t a b)).map eD
 | _,_=>
  match P.underlying t,op with
  | some d,.eql=>if wT d x y then some (.bool false) else none
  | some d,.neq=>if wT d x y then some (.bool true) else none
  | _,_=>none
theorem Zf {P:Program} {op:BinOp} {t:TypeId} {xo yo:Operand} {x y v:V} {bO k7:Value} {h:I} (J:cl P op t xo yo x y=some v) {ρ:Ren} {B:Nat} {aG w:World} (R:aM ρ B aG h w)
  (af:ax ρ x bO) (aX:ax ρ y k7):bD P (do eqGuard op t xo yo bO k7;binOp op t bO k7) ρ w v:=by
 unfold cl at J
 split at J
 ·rename_i a b aL ar
  obtain rfl:=sv af aL
  obtain rfl:=sv aX ar
  cases az:dg P (do eqGuard op t xo yo bO k7;binOp op t bO k7) with
  | none=>rw [az] at J;cases J
  | some u=>
   rw [az] at J
   obtain rfl:_=v:=by simpa using J
   exact bD.mk (wR az w) (fd ρ u)
 ·split at J
  ·rename_i d a7
   split at J
   case isFalse=>cases J
   rename_i aJ
   obtain rfl:_=v:=by simpa using J
   obtain ⟨h1,ab,aI,h4⟩:=nil_eq (P:=P) (w:=w) a7 af aX aJ
   refine bD.mk (v':=.bool false) ?_ (.bool false)
   rw [ab,aI]
   simp [h1]
  ·rename_i d a7
   split at J
   case isFalse=>cases J
   rename_i aJ
   obtain rfl:_=v:=by simpa using J
   obtain ⟨h1,ab,aI,h4⟩:=nil_eq (P:=P) (w:=w) a7 af aX aJ
   refine bD.mk (v':=.bool true) ?_ (.bool true)
   rw [ab,h4]
   simp [h1]
  ·cases J
def rF (P:Program) (op:UnOp) (x:V):Option V :=
 match k3 x with
 | some a=>(dg P (Op.unary op a)).map eD
 | none=>none
theorem Zg {P:Program} {op:UnOp} {x v:V} {bO:Value} {h:I} (J:rF P op x=some v) {ρ:Ren} {B:Nat} {aG w:World} (R:aM ρ B aG h w) (af:ax ρ x bO) :
  bD P (Op.unary op bO) ρ w v:=by
 unfold rF at J
 split at J
 case h_2=>cases J
 rename_i a aL
 obtain rfl:=tZ af aL
 cases az:dg P (Op.unary op bO) with
 | none=>rw [az] at J;cases J
 | some u=>
  rw [az] at J
  obtain rfl:_=v:=by simpa using J
  exact bD.mk (wR az w) (fd ρ u)
def r6:List V→Option (List Int)
 | []=>some []
 | .int .u8 n::r=>(r6 r).map (n::·)
 | _=>none
theorem C6:∀ {l:List V} {ns:List Int},r6 l=some ns→l=ns.map (V.int .u8)
 | [],ns,h=>by simp [r6] at h;subst h;rfl
 | v::r,ns,h=>by
  unfold r6 at h
  split at h
  ·rename_i heq;cases heq
  ·rename_i n r' heq
   simp only [List.cons.injEq] at heq
   obtain ⟨rfl,rfl⟩:=heq
   cases aq:r6 r with
   | none=>simp [aq] at h
   | some ms=>simp [aq] at h;subst h;rw [C6 aq];rfl
  ·cases h
theorem Zh (ns:List Int):r6 (ns.map (V.int .u8))=some ns:=by
 induction ns with
 | nil=>rfl
 | cons n r ih=>simp [r6,ih]
theorem Qc {ρ:Ren} {k:IntKind}:∀ {ns:List Int} {l:List Value},aQ ρ (ns.map (V.int k)) l→l=ns.map (Value.int k)
 | [],l,h=>h.eq_nil
 | n::ns,l,h=>by
  obtain ⟨v',k1,rfl,aN,bM⟩:=h.dF
  cases aN
  rw [Qc bM]
  rfl
def n0 (P:Program) (e:TypeId):Bool:=match P.underlying e with | some (.int .u8)=>true | _=>false
theorem BR {P:Program} {e:TypeId} (h:n0 P e=true):P.underlying e=some (.int .u8):=by
 unfold n0 at h
 split at h
 ·assumption
 ·cases h
def k8 (P:Program) (src dst:TypeId) (x:V) (h:I):Option V :=
 match (k3 x).bind fun a=>dg P (convert src dst a) with
 | some v=>some (eD v)
 | none=>
  match P.underlying src,P.underlying dst,x with
  | some .string,some (.slice e),.string s=>if n0 P e=true then some (.an s.size ((byteCells s).map eD)) else none
  | some (.slice e),some .string,.aj i o len _=>
   if n0 P e=true then
    match h.get i with
    | .cells c _ _=>if o+len≤c.length then (r6 ((c.drop o).take len)).map fun ns=>.string (strOfNums ns) else none
    | _=>none
   else none
  | some (.slice e),some .string,.an n cs=>
   if n0 P e=true∧n=cs.length then (r6 cs).map fun ns=>.string (strOfNums ns) else none
  | _,_,_=>none
theorem Qd {P:Program} {ρ:Ren} {src dst e:TypeId} {w:World} {b o len cap:Nat} {ns:List Int} {cs:List Value} (n1:P.underlying src=some (.slice e)) (he:P.underlying e=some (.int .u8)) (iU:P.underlying dst=some .string)
  (dd:w.rangeAt b o cs) (aw:aQ ρ (ns.map (V.int .u8)) cs) (hlen:ns.length=len):(convert src dst (.slice (some ⟨b,o,none⟩) len cap)).run P w=.ok (.string (strOfNums ns)) w:=by
 obtain rfl:=Qc aw
 refine run_convert_bytes_arg w src e n1 he b o len cap ns hlen (fun k hk=>?_) dst iU
 exact dd k _ (by simp [List.getD,List.getElem?_eq_getElem (show k<ns.length by omega)])
theorem Zi {P:Program} {src dst:TypeId} {x v:V} {bO:Value} {h:I} (J:k8 P src dst x h=some v) {ρ:Ren} {B:Nat} {aG w:World} (R:aM ρ B aG h w) (af:ax ρ x bO) :
  Yields P (convert src dst bO) ρ B aG w v h:=by
 unfold k8 at J
 split at J
 ·rename_i u hu
  obtain rfl:_=v:=by simpa using J
  cases aB:k3 x with
  | none=>simp [aB] at hu
  | some a=>
   simp [aB] at hu
   obtain rfl:=tZ af aB
   exact .same R (wR hu w) (fd ρ u)
 ·split at J
  ·rename_i e s n1 iU _
   cases af
   split at J
   case isFalse=>cases J
   rename_i al
   obtain rfl:_=v:=by simpa using J
   have he:=BR al
   have km:=grownCap_ge w s.size 0 e
   let arr:Array Value:=s.data.map (fun b=>Value.int .u8 b.toNat)++Array.replicate (grownCap w s.size 0 e - s.size) (.int .u8 0)
   have yJ:arr.size=grownCap w s.size 0 e:=by
    simp only [arr,Array.size_append,Array.size_map,Array.size_replicate]
    have:s.data.size=s.size:=rfl
    omega
   have ch:(convert src dst (.string s)).run P w=.ok (.slice (some ⟨w.heap.size,0,none⟩) s.size (grownCap w s.size 0 e)) ((w.drew.alloc (.cells arr e)).freeze ⟨w.heap.size,arr.size,none⟩ 1):=by
    have uM:(w.drew.alloc (.cells arr e)).shape? w.heap.size=some (e,arr.size):=by
     have:=heap_alloc_new w.drew (.cells arr e)
     unfold World.shape?
     rw [show w.heap.size=w.drew.heap.size from rfl,this]
    simp [convert,run_underlying n1,run_underlying iU,run_underlying he,Conv.stringToBytes,Question.forced,newRow,markStringish]
    have dB:(Question.appendCap s.size 0 e).cut (w.tape w.drawn (Question.appendCap s.size 0 e))=grownCap w s.size 0 e:=rfl
    simp only [dB]
    rw [uM]
    simp
    rfl
   have kn:((w.drew.alloc (.cells arr e)).freeze ⟨w.heap.size,arr.size,none⟩ 1).heap[w.heap.size]?=some (.cells arr e (arr.size,arr.size+1)):=by
    have:=heap_alloc_new w.drew (.cells arr e)
    simp only [World.freeze,Nat.one_ne_zero,if_false,Array.getElem?_modify,if_true]
    rw [show w.heap.size=w.drew.heap.size from rfl,this]
    simp
   have wU:∀ k,k<w.heap.size→((w.drew.alloc (.cells arr e)).freeze ⟨w.heap.size,arr.size,none⟩ 1).heap[k]?=w.heap[k]?:=fun k hk=>by
    simp only [World.freeze,Nat.one_ne_zero,if_false,Array.getElem?_modify,if_neg (show ¬w.heap.size=k by omega)]
    exact Below.heap_alloc w.drew _ k hk
   have C7:w.heap.size<((w.drew.alloc (.cells arr e)).freeze ⟨w.heap.size,arr.size,none⟩ 1).heap.size:=by
    simp only [World.freeze,Nat.one_ne_zero,if_false,Array.size_modify]
    simp
   obtain ⟨ρ',hle,aJ,dA⟩:=R.BO C7 wU kn
    ⟨by simp only [World.freeze,Nat.one_ne_zero,if_false];rfl,by simp only [World.freeze,Nat.one_ne_zero,if_false];rfl,by simp only [World.freeze,Nat.one_ne_zero,if_false];rfl,Nat.le_of_lt C7,fun k hk=>wU k (Nat.lt_of_lt_of_le hk R.heap.base),by simp only [World.freeze,Nat.one_ne_zero,if_false];exact Nat.le_succ _⟩
   refine ⟨ρ',_,_,ch,?_,dA,hle⟩
   have ar:((byteCells s).map eD).length=s.size:=by rw [List.length_map,byteCells_length]
   refine .an 0 s.size _ aJ km (by rw [ar,yJ];omega) fun k v v' h1 ab=>?_
   have aK:arr.toList.take (byteCells s).length=byteCells s:=by
    have:arr.toList=byteCells s++List.replicate (grownCap w s.size 0 e - s.size) (.int .u8 0):=by simp [arr,byteCells]
    rw [this]
    exact List.take_left
   have hk:k<(byteCells s).length:=by rw [←List.length_map (f:=eD)];exact (List.getElem?_eq_some_iff.1 h1).1
   refine (LF ρ' s).2 k v v' h1 ?_
   rw [←aK,List.getElem?_take,if_pos hk,Array.getElem?_toList]
   simpa using ab
  ·rename_i e i o len cap n1 iU _
   obtain ⟨b,bh,hi,aw,rfl⟩:=af.ft
   split at J
   case isFalse=>cases J
   rename_i he
   split at J
   case h_2=>cases J
   rename_i c a6 ex aE
   split at J
   case isFalse=>cases J
   rename_i al
   cases lq:r6 ((c.drop o).take len) with
   | none=>simp [lq] at J
   | some ns=>
    simp [lq] at J
    subst J
    have c7:ax ρ (.ptr i o) (.pointer (some ⟨b,o,none⟩)):=.ptr hi o
    obtain ⟨cZ,cw,heq,dd⟩:=vm R.heap c7 (cs:=c.drop o) (by simp [mT,aE];omega)
    simp at heq
    obtain ⟨rfl,rfl⟩:=heq
    obtain ⟨cs,h1,ab,aI⟩:=dd len (by simp;omega)
    have hlen:ns.length=len:=by
     have:=congrArg List.length (C6 lq)
     simp at this;omega
    rw [C6 lq] at ab
    exact .same R (Qd n1 (BR he) iU h1 ab hlen) (.string _)
  ·rename_i e n cs n1 iU _
   split at J
   case isFalse=>cases J
   rename_i he
   cases lq:r6 cs with
   | none=>simp [lq] at J
   | some ns=>
    simp [lq] at J
    subst J
    rcases af.hS with ⟨rfl,rfl,a,fv,aL,rfl⟩ | ⟨b,o,cap,arr,ar,aJ,av,cn,rfl⟩
    ·obtain rfl:ns=[]:=by simpa [r6] using lq.symm
     cases a with
     | none=>
      obtain rfl:=aL rfl
      refine .same R (v':=.string .empty) ?_ (.string _)
      simp [convert,run_underlying n1,run_underlying iU,run_underlying (BR he.1),Conv.bytesToString,loadCells,loadCellsFrom]
     | some a=>
      refine .same R (v':=.string .empty) ?_ (.string _)
      simp [convert,run_underlying n1,run_underlying iU,run_underlying (BR he.1),Conv.bytesToString,loadCells,loadCellsFrom]
    ·have nL:ax ρ (.at cs) (.pointer (some ⟨b,o,none⟩)):=.at o ar av cn
     obtain ⟨cZ,cw,heq,dd⟩:=vm R.heap nL (cs:=cs) rfl
     simp at heq
     obtain ⟨rfl,rfl⟩:=heq
     obtain ⟨vs,h1,ab,aI⟩:=dd cs.length (Nat.le_refl _)
     rw [List.take_length] at ab
     have hlen:ns.length=n:=by
      have:=congrArg List.length (C6 lq)
      simp at this;omega
     rw [C6 lq] at ab
     exact .same R (Qd n1 (BR he.1) iU h1 ab hlen) (.string _)
  ·cases J
def qR (cs:List V) (off:Nat):List V→List V
 | []=>cs
 | v::r=>qR (cs.set off v) (off+1) r
def d7 (place:Nat→Option (Nat×Nat)) (cs:List V):List (Nat×V)→Option (List V)
 | []=>some cs
 | (i,v)::r=>match place i,v.cells with
  | some (off,size),some vs=>if vs.length=size∧off+size≤cs.length then d7 place (qR cs off vs) r else none
  | _,_=>none
theorem c1.set {ρ:Ren} {xs:List V} {dE:Array Value} (h:c1 ρ xs dE) {v:V} {v':Value} (aN:ax ρ v v') (n:Nat):c1 ρ (xs.set n v) (dE.setIfInBounds n v'):=by
 refine ⟨by simp [h.1],fun k a b aL ar=>?_⟩
 rw [Array.getElem?_setIfInBounds] at ar
 rw [List.getElem?_set] at aL
 by_cases hk:n=k
 ·subst hk
  simp at aL ar
  obtain ⟨_,rfl⟩:=aL
  obtain ⟨_,rfl⟩:=ar
  exact aN
 ·simp [hk] at aL ar
  exact h.2 k a b aL ar
theorem foldl_rel {ρ:Ren} (off:Nat):∀ (l:List V) (b7:List Value) (j:Nat) (cs:List V) (cs':Array Value),aQ ρ l b7→c1 ρ cs cs' →
  c1 ρ (qR cs (off+j) l) ((b7.zipIdx j).foldl (fun cs p=>cs.setIfInBounds (off+p.2) p.1) cs')
 | [],b7,j,cs,cs',aw,al=>by rw [aw.eq_nil];exact al
 | v::l,b7,j,cs,cs',aw,al=>by
  obtain ⟨v',k1,rfl,aN,bM⟩:=aw.dF
  simp only [List.zipIdx_cons,List.foldl_cons,qR]
  have:=foldl_rel off l k1 (j+1) _ _ bM (al.set aN (off+j))
  rwa [←Nat.add_assoc] at this
def px (ρ:Ren):List (Nat×V)→List (Nat×Value)→Prop
 | [],[]=>True
 | (i,v)::r,(Qe,v')::r'=>i=Qe∧ax ρ v v'∧px ρ r r'
 | _,_=>False
theorem LI {ρ:Ren} (place:Nat→Option (Nat×Nat)):∀ (ps:List (Nat×V)) (lr:List (Nat×Value)) (cs:List V) (cs':Array Value) (r:List V),px ρ ps lr→c1 ρ cs cs'→d7 place cs ps=some r →
  ∃ r',Instr.fill place cs' lr=some r'∧c1 ρ r r'
 | [],[],cs,cs',r,_,al,h=>by simp [d7] at h;subst h;exact ⟨cs',rfl,al⟩
 | (i,v)::ps,(Qe,v')::lr,cs,cs',r,az,al,h=>by
  obtain ⟨rfl,aN,az⟩:=az
  unfold d7 at h
  split at h
  case h_2=>cases h
  rename_i off size vs jj lS
  split at h
  case isFalse=>cases h
  rename_i hR
  unfold Instr.fill
  have cr:=aN.cells lS
  have bn:v'.cells.size=vs.length:=by simpa using cr.1.symm
  simp only [jj,bn,←al.1]
  rw [if_neg (by simp;omega)]
  have aK:∀ (a:Array Value) (c:Array Value),a.zipIdx.foldl (fun cs (x:Value×Nat)=>cs.setIfInBounds (off+x.2) x.1) c=(a.toList.zipIdx).foldl (fun cs p=>cs.setIfInBounds (off+p.2) p.1) c:=fun a c=>by
   rw [←Array.foldl_toList]
   simp
  rw [show (v'.cells.zipIdx.foldl (fun cs (x:Value×Nat)=>match x with | (c,j)=>cs.setIfInBounds (off+j) c) cs')=_ from aK v'.cells cs']
  exact LI place ps lr _ _ r az (foldl_rel off vs v'.cells.toList 0 cs cs' cr al) h
 | [],_::_,_,_,_,az,_,_=>by simp [px] at az
 | _::_,[],_,_,_,az,_,_=>by simp [px] at az
def Hm (P:Program) (t:TypeId):Option (List (Nat×Nat)):=match P.underlying t with
 | some (.struct fields)=>fields.toList.mapM (fun f=>(P.info? f.type).map fun i=>(f.offset,i.size))
 | _=>none
def vv (P:Program) (t:TypeId):Option (Nat×TypeId):=match P.underlying t with
 | some (.array n e)=>some (n,e)
 | _=>none
def li (P:Program) (t:TypeId) (parts:List (Nat×V)):Option V :=
 match gw P t,Hm P t with
 | some zs,some places=>(d7 (places[·]?) zs parts).map .agg
 | some zs,none=>match vv P t with
  | some (_,e)=>match ap P e with
   | some sz=>(d7 (fun i=>some (i * sz,sz)) zs parts).map .agg
   | none=>none
  | none=>none
 | _,_=>none
theorem Zj {P:Program} {t:TypeId} {ps:List (Nat×V)} {lr:Array (Nat×Value)} {v:V} {h:I} (J:li P t ps=some v) {ρ:Ren} {B:Nat} {aG w:World} (R:aM ρ B aG h w)
  (az:px ρ ps lr.toList):bD P (Instr.build t lr) ρ w v:=by
 unfold li at J
 have key:∀ (place:Nat→Option (Nat×Nat)) (zs:List V),gw P t=some zs→(∀ z,jg P t=some z→P.built t lr.toList=Instr.fill place z.cells lr.toList)→(d7 place zs ps).map V.agg=some v→bD P (Instr.build t lr) ρ w v:=fun place zs bB ar aB=>by
  obtain ⟨z,bB,e2⟩:=BP bB
  cases al:d7 place zs ps with
  | none=>simp [al] at aB
  | some cells=>
   simp [al] at aB
   subst aB
   obtain ⟨sG,bG,aq⟩:=LI place _ _ _ _ _ az (e2 ρ).ij al
   exact bD.mk (run_build w t lr sG (by rw [ar z bB];exact bG)) aq.agg
 split at J
 ·rename_i zs places bB jj
  refine key _ zs bB (fun z p5=>?_) J
  unfold Hm at jj
  split at jj
  case h_2=>cases jj
  rename_i fields hu
  unfold Program.built
  cases hit:P.info? t with
  | none=>simp [jg,hit] at p5
  | some it=>
   simp [jg,hit] at p5
   simp [hu,p5,jj]
 ·rename_i zs bB jj
  split at J
  case h_2=>cases J
  rename_i n e rB
  split at J
  case h_2=>cases J
  rename_i sz bn
  refine key _ zs bB (fun z p5=>?_) J
  unfold vv at rB
  split at rB
  case h_2=>cases rB
  rename_i n' dG hu
  simp at rB
  obtain ⟨rfl,rfl⟩:=rB
  unfold Program.built
  cases hit:P.info? t with
  | none=>simp [jg,hit] at p5
  | some it=>
   simp [jg,hit] at p5
   cases mB:P.info? dG with
   | none=>simp [ap,mB] at bn
   | some LJ=>
    simp [ap,mB] at bn
    subst bn
    simp [hu,p5]
    rw [mB]
 ·cases J
def iA (P:Program) (t:TypeId) (len:Nat) (parts:List (Nat×V)) (h:I):Option (V×I) :=
 match pw P t with
 | none=>none
 | some e=>
  match ap P e,gw P e with
  | some sz,some zs=>
   if zs.length=sz∧len * sz≤2 ^ 24∧len≤2 ^ 24 then
    match d7 (fun i=>some (i * sz,sz)) (made zs len) parts with
    | some cells=>some (.aj h.n 0 len len,h.push (.cells cells e none))
    | none=>none
   else none
  | _,_=>none
theorem Zk {P:Program} {t:TypeId} {len:Nat} {ps:List (Nat×V)} {lr:Array (Nat×Value)} {v:V} {h U:I} (J:iA P t len ps h=some (v,U)) {ρ:Ren} {B:Nat} {aG w:World}
  (R:aM ρ B aG h w) (az:px ρ ps lr.toList):Yields P (Instr.buildSlice t len lr) ρ B aG w v U:=by
 unfold iA at J
 split at J
 case h_1=>cases J
 rename_i e he
 have hu:P.underlying t=some (.slice e):=by
  unfold pw at he
  split at he
  ·rename_i hu;rw [hu];simpa using he
  ·cases he
 split at J
 case h_2=>cases J
 rename_i sz zs bn eH
 split at J
 case isFalse=>cases J
 rename_i al
 obtain ⟨bx,c3,kl⟩:=al
 split at J
 case h_2=>cases J
 rename_i cells aB
 simp at J
 obtain ⟨rfl,rfl⟩:=J
 obtain ⟨z,bB,e2⟩:=BP eH
 have rC:z.cells.size=sz:=by have:=(e2 ρ).1;simp at this;omega
 cases ae:P.info? e with
 | none=>simp [jg,ae] at bB
 | some bU=>
 simp [jg,ae] at bB
 simp [ap,ae] at bn
 have hm:c1 ρ (made zs len) (made z.cells.toList len).toArray:=((e2 ρ).made len).arr
 obtain ⟨sG,bG,aq⟩:=LI _ _ _ _ _ _ az hm aB
 obtain ⟨ρ',hle,aJ,dA⟩:=LB R e aq.list len
 have kT:len<ai:=by unfold ai;omega
 have ch:(Instr.buildSlice t len lr).run P w=.ok (.slice (some ⟨w.heap.size,0,none⟩) len len) (w.alloc (.cells sG e)):=by
  have my:(Array.range (len * bU.size)).map (z.cells[· % z.cells.size]!)=(made z.cells.toList len).toArray:=by
   have:=n7 z.cells len
   rw [rC,←bn] at this
   apply Array.ext'
   simpa [madeCells] using this
  have h6:¬(2 ^ 24<len * bU.size):=by rw [bn];omega
  by_cases ay:len * bU.size=0
  ·have C8:(#[]:Array Value)=(made z.cells.toList len).toArray:=by rw [←my,ay];simp [Array.range_zero']
   rw [←C8,←bn] at bG
   have AJ:len=0∨bU.size=0:=Nat.mul_eq_zero.1 ay
   simp [Instr.buildSlice,run_underlying hu,sizeOf,typeInfo,ae,ay,AJ,bG,newRow,Array.range_zero']
  ·have AJ:¬(len=0∨bU.size=0):=fun h=>ay (Nat.mul_eq_zero.2 h)
   rw [←my,←bn] at bG
   have LK:¬(16777216<len * bU.size):=by omega
   simp [Instr.buildSlice,run_underlying hu,sizeOf,typeInfo,zeroValue,bB,ae,LK,ay,bG,newRow]
 refine ⟨ρ',_,_,ch,?_,by simpa using dA,hle⟩
 have:=ax.aj aJ 0 len len (by simp [e8,kT])
 simpa [e8,kT] using this
def yL (P:Program) (t:TypeId) (cs:List V) (off:Nat):Option V :=
 match j4 P t,ap P t with
 | some true,some n=>some (.agg ((cs.drop off).take n))
 | some false,some _=>cs[off]?
 | _,_=>none
theorem c1.part {P:Program} {ρ:Ren} {cs:List V} {cs':Array Value} (h:c1 ρ cs cs') {t:TypeId} {off:Nat} {v:V} (J:yL P t cs off=some v) (w:World) :
  ∃ v',(Go.part t cs' off).run P w=.ok v' w∧ax ρ v v':=by
 unfold yL at J
 cases ae:P.info? t with
 | none=>simp [ap,ae] at J
 | some bU=>
 cases hu:P.underlying t with
 | none=>simp [j4,hu] at J
 | some d=>
 simp only [j4,hu,ap,ae,Option.map_some] at J
 cases a7:d.isRow with
 | true=>
  simp only [a7] at J
  obtain rfl:_=v:=by simpa using J
  have sx:(isAgg t).run P w=.ok true w:=by
   unfold isAgg
   rw [Sem.run_bind,run_underlying hu w]
   cases d<;>simp_all
  refine ⟨.agg (cs'.extract off (off+bU.size)),by simp [Go.part,sx,sizeOf,typeInfo,ae],?_⟩
  have ab:=((h.list.drop off).take bU.size).arr
  have aK:∀ a:Array Value,((a.toList.drop off).take bU.size).toArray=a.extract off (off+bU.size):=fun a=>by
   apply Array.ext'
   simp
  rw [aK] at ab
  exact ab.agg
 | false=>
  simp only [a7] at J
  have sx:(isAgg t).run P w=.ok false w:=by
   unfold isAgg
   rw [Sem.run_bind,run_underlying hu w]
   cases d<;>simp_all
  have aT:off<cs.length:=(List.getElem?_eq_some_iff.1 J).1
  have py:off<cs'.size:=by rw [←h.1];exact aT
  refine ⟨cs'[off],by simp [Go.part,sx,Array.getElem?_eq_getElem py],h.2 off v _ J (Array.getElem?_eq_getElem py)⟩
def yM (P:Program) (t:TypeId) (x:V) (k:Nat):Option V :=
 match P.underlying t,x with
 | some (.struct di),.agg cs=>match di[k]? with
  | some f=>yL P f.type cs f.offset
  | none=>none
 | _,_=>none
def ua (P:Program) (t:TypeId) (x gm:V):Option V :=
 match P.underlying t,x,gm with
 | some (.array len e),.agg cs,.int _ n=>match ap P e with
  | some sz=>if 0≤n∧n<len then yL P e cs (n.toNat * sz) else none
  | none=>none
 | some .string,.string s,.int _ n=>if 0≤n then match s[n.toNat]? with
  | some b=>some (.int .u8 b.toNat)
  | none=>none else none
 | _,_,_=>none
def cE (P:Program) (t:TypeId) (x:V) (h:I):Option V :=
 match P.underlying t,x with
 | some .string,.string s=>some (.int .i64 s.size)
 | some (.slice _),.aj _ _ n _=>some (.int .i64 n)
 | some (.slice _),.an n _=>some (.int .i64 n)
 | some (.slice _),.ag=>some (.int .i64 0)
 | some (.slice _),.z0=>some (.int .i64 0)
 | some (.array n _),_=>some (.int .i64 n)
 | some (.pointer arr),_=>match P.underlying arr with
  | some (.array n _)=>some (.int .i64 n)
  | _=>none
 | some (.map _ _),.dk=>some (.int .i64 0)
 | some (.map _ _),.map i=>match h.get i with
  | .map es _=>some (.int .i64 es.length)
  | _=>none
 | _,_=>none
def LL (P:Program) (x:V) (asserted:TypeId) (ok:Bool):Option V :=
 match P.underlying asserted,x with
 | some (.interface _),_=>none
 | some _,.iface t v=>
  if t=asserted then some (if ok then .tuple [v,.bool true] else v)
  else if ok then (match jg P asserted with | some z=>some (.tuple [eZ z,.bool false]) | none=>none) else none
 | _,_=>none
theorem Zl {P:Program} {t:TypeId} {x v:V} {bO:Value} {k:Nat} {h:I} (J:yM P t x k=some v) {ρ:Ren} {B:Nat} {aG w:World} (R:aM ρ B aG h w) (af:ax ρ x bO) :
  bD P (Instr.field t bO k) ρ w v:=by
 unfold yM at J
 split at J
 case h_2=>cases J
 rename_i di cs hu
 cases af with
 | agg bn af=>
 split at J
 case h_2=>cases J
 rename_i f aB
 obtain ⟨v',aq,aN⟩:=c1.part ⟨bn,af⟩ J w
 refine bD.mk ?_ aN
 simp [Instr.field,run_underlying hu,aB,asAgg,aq]
theorem Zm {P:Program} {t:TypeId} {x gm v:V} {bO wM:Value} {h:I} (J:ua P t x gm=some v) {ρ:Ren} {B:Nat} {aG w:World} (R:aM ρ B aG h w) (af:ax ρ x bO) (fD:ax ρ gm wM) :
  bD P (Instr.index t bO wM) ρ w v:=by
 unfold ua at J
 split at J
 ·rename_i len e cs k n hu
  cases fD
  cases af with
  | agg bn af=>
  split at J
  case h_2=>cases J
  rename_i sz bB
  split at J
  case isFalse=>cases J
  rename_i ar
  obtain ⟨v',aq,aN⟩:=c1.part ⟨bn,af⟩ J w
  refine bD.mk ?_ aN
  cases ae:P.info? e with
  | none=>simp [ap,ae] at bB
  | some bU=>
   simp [ap,ae] at bB
   simp [Instr.index,asIntOf,run_underlying hu,ar,sizeOf,typeInfo,ae,bB,aq]
 ·rename_i s k n hu
  cases fD
  cases af
  split at J
  case isFalse=>cases J
  rename_i ar
  split at J
  case h_2=>cases J
  rename_i b kg
  obtain rfl:_=v:=by simpa using J
  refine bD.mk ?_ (.int _ _)
  simp only [Instr.index,asIntOf,Sem.run_bind,Sem.run_pure,Result.andThen_ok,run_underlying hu,if_pos ar,kg]
 ·cases J
theorem run_getObj_map {P:Program} {w:World} {b:Nat} {es:Array MapEntry} {c:Nat} (h:w.heap[b]?=some (.map es c)):(getObj b).run P w=.ok (.map es c) w:=by
 simp [getObj,Sem.run,h]
theorem Qf {P:Program} {w:World} {b:Nat} {m:Option Nat} {s:Nat} {Hn:Array Nat} {st:Nat} (h:w.heap[b]?=some (.mapIter m s Hn st)):(getObj b).run P w=.ok (.mapIter m s Hn st) w:=by
 simp [getObj,Sem.run,h]
theorem Zn {P:Program} {t ty:TypeId} {x v:V} {bO:Value} {h:I} (J:cE P t x h=some v) {ρ:Ren} {B:Nat} {aG w:World} (R:aM ρ B aG h w) (af:ax ρ x bO) :
  bD P (Builtin.len_ #[t] ty #[bO]) ρ w v:=by
 unfold cE at J
 split at J
 ·rename_i s hu
  cases af
  obtain rfl:_=v:=by simpa using J
  exact bD.mk (by simp [Builtin.len_,run_underlying hu,goInt]) (.int _ _)
 ·rename_i e b o n c hu
  obtain rfl:_=v:=by simpa using J
  obtain ⟨_,_,_,_,rfl⟩:=af.ft
  exact bD.mk (by simp [Builtin.len_,run_underlying hu,goInt]) (.int _ _)
 ·rename_i e n cs hu
  obtain rfl:_=v:=by simpa using J
  rcases af.hS with ⟨rfl,rfl,a,fv,aL,rfl⟩ | ⟨_,_,_,_,_,_,_,_,rfl⟩
  ·exact bD.mk (by simp [Builtin.len_,run_underlying hu,goInt]) (.int _ _)
  ·exact bD.mk (by simp [Builtin.len_,run_underlying hu,goInt]) (.int _ _)
 ·rename_i e hu
  obtain rfl:_=v:=by simpa using J
  cases af
  exact bD.mk (by simp [Builtin.len_,run_underlying hu,goInt]) (.int _ _)
 ·rename_i e hu
  obtain rfl:_=v:=by simpa using J
  cases af
  exact bD.mk (by simp [Builtin.len_,run_underlying hu,goInt]) (.int _ _)
 ·rename_i n e hu
  obtain rfl:_=v:=by simpa using J
  exact bD.mk (by simp [Builtin.len_,run_underlying hu,goInt]) (.int _ _)
 ·rename_i arr hu
  split at J
  case h_2=>cases J
  rename_i n e iU
  obtain rfl:_=v:=by simpa using J
  exact bD.mk (by simp [Builtin.len_,run_underlying hu,run_underlying iU,goInt]) (.int _ _)
 ·rename_i k e hu
  obtain rfl:_=v:=by simpa using J
  cases af
  exact bD.mk (by simp [Builtin.len_,run_underlying hu,goInt]) (.int _ _)
 ·rename_i k e i hu
  split at J
  case h_2=>cases J
  rename_i es a1 aE
  obtain rfl:_=v:=by simpa using J
  cases af with
  | map hi=>
  have av:=R.heap.obj i
  rw [aE] at av
  obtain ⟨b,bh,arr,aq,_,_,hw,hm⟩:=av
  rw [aq] at hi
  simp at hi
  obtain ⟨rfl,rfl⟩:=hi
  exact bD.mk (by simp [Builtin.len_,run_underlying hu,run_getObj_map hw,goInt,hm.1]) (.int _ _)
 ·cases J
theorem Zo {P:Program} {x v:V} {bO:Value} {C9 asserted:TypeId} {ok:Bool} {h:I} (J:LL P x asserted ok=some v) {ρ:Ren} {B:Nat} {aG w:World} (R:aM ρ B aG h w) (af:ax ρ x bO) :
  bD P (Instr.typeAssert bO C9 asserted ok) ρ w v:=by
 unfold LL at J
 split at J
 ·cases J
 ·rename_i d t u pg hu
  cases af with
  | iface t aN=>
  rename_i p0
  split at J
  ·rename_i bM
   obtain rfl:_=v:=by simpa using J
   refine bD.mk (v':=if ok then .tuple #[p0,.bool true] else p0) ?_ ?_
   ·cases d with
    | interface ms=>exact absurd rfl (pg ms)
    | _=>cases ok<;>simp [Instr.typeAssert,run_underlying hu,bM]
   ·cases ok
    ·exact aN
    ·simp only [if_true]
     exact ((aQ.cons aN (.cons (.bool true) (.nil ρ))).arr).tuple
  ·rename_i bM
   split at J
   case isFalse=>cases J
   rename_i aU
   subst aU
   split at J
   case h_2=>cases J
   rename_i z bB
   obtain rfl:_=v:=by simpa using J
   refine bD.mk (v':=.tuple #[z,.bool false]) ?_ ((aQ.cons (yD ρ z) (.cons (.bool false) (.nil ρ))).arr).tuple
   cases ae:P.info? asserted with
   | none=>simp [jg,ae] at bB
   | some bU=>
    simp [jg,ae] at bB
    cases d with
    | interface ms=>exact absurd rfl (pg ms)
    | _=>simp [Instr.typeAssert,run_underlying hu,bM,zeroValue,typeInfo,ae,bB]
 ·cases J
def yN:TypeDesc→Bool
 | .int _ | .string | .bool=>true
 | _=>false
def vw (P:Program) (dm:TypeId) (d:TypeDesc) (a b:V):Option Bool :=
 match lK a,lK b with
 | some a,some b=>if yN d then Instr.sameNow d a b else dg P (Op.equal dm a b)
 | _,_=>none
def mC (P:Program) (dm:TypeId) (d:TypeDesc) (k:V):List (Nat×V×V)→Option (Option Nat)
 | []=>some none
 | e::es=>match vw P dm d k e.2.1 with
  | some true=>some (some 0)
  | some false=>(mC P dm d k es).map (·.map (·+1))
  | none=>none
theorem e1.dF {ρ:Ren} {e:Nat×V×V} {es:List (Nat×V×V)} {arr:Array MapEntry} (h:e1 ρ (e::es) arr):∃ dG iB,arr.toList=dG::iB∧e.1=dG.born∧ax ρ e.2.1 dG.key∧ax ρ e.2.2 dG.val∧e1 ρ es iB.toArray:=by
 have aw:=h.1
 cases aL:arr.toList with
 | nil=>
  have:arr.size=0:=by rw [←Array.length_toList,aL];rfl
  simp at aw;omega
 | cons dG iB=>
  have hk:∀ k:Nat,arr[k]?=(dG::iB)[k]?:=fun k=>by rw [←Array.getElem?_toList,aL]
  obtain ⟨a,b,c⟩:=h.2 0 e dG rfl (by rw [hk];rfl)
  refine ⟨dG,iB,rfl,a,b,c,?_,fun k x y af aX=>h.2 (k+1) x y (by simpa using af) (by rw [hk];simpa using aX)⟩
  have:arr.size=iB.length+1:=by rw [←Array.length_toList,aL];rfl
  simp at aw⊢;omega
theorem Qg {P:Program} {ρ:Ren} {dm:TypeId} {d:TypeDesc} (a7:yN d=true) {k:V} {k':Value} (hk:ax ρ k k'):∀ (es:List (Nat×V×V)) (l:List MapEntry) (i:Nat) (r:Option Nat),e1 ρ es l.toArray→mC P dm d k es=some r →
  Instr.findNow d k' l i=some (match r with | some j=>(l[j]?).map fun e=>(i+j,e.val) | none=>none)∧(∀ j,r=some j→j<l.length)
 | [],l,i,r,hm,h=>by
  have:l=[]:=by have:=hm.1;simp at this;exact List.eq_nil_of_length_eq_zero this.symm
  subst this
  simp [mC] at h
  subst h
  exact ⟨rfl,by simp⟩
 | e::es,l,i,r,hm,h=>by
  obtain ⟨dG,iB,aw,ar,eK,rG,fE⟩:=hm.dF
  obtain rfl:l=dG::iB:=by simpa using aw
  unfold mC at h
  have J:∀ b,vw P dm d k e.2.1=some b→Instr.sameNow d k' dG.key=some b:=fun b ar=>by
   unfold vw at ar
   split at ar
   ·rename_i a c aL al
    rw [if_pos a7] at ar
    rw [sv hk aL,sv eK al]
    exact ar
   ·cases ar
  unfold Instr.findNow
  split at h
  ·rename_i heq
   rw [J _ heq]
   obtain rfl:some 0=r:=by simpa using h
   exact ⟨rfl,by simp⟩
  ·rename_i heq
   rw [J _ heq]
   cases bM:mC P dm d k es with
   | none=>simp [bM] at h
   | some r'=>
    simp [bM] at h
    obtain ⟨h1,ab⟩:=Qg a7 hk es iB (i+1) r' fE bM
    subst h
    simp only
    rw [h1]
    cases r' with
    | none=>exact ⟨rfl,by simp⟩
    | some j=>
     have:=ab j rfl
     simp [List.getElem?_eq_getElem this,Nat.add_comm,Nat.add_left_comm,this]
  ·cases h
theorem Qh {P:Program} {ρ:Ren} {dm:TypeId} {d:TypeDesc} (a7:yN d=false) {k:V} {k':Value} (hk:ax ρ k k') {w:World}:∀ (es:List (Nat×V×V)) (l:List MapEntry) (i:Nat) (r:Option Nat),e1 ρ es l.toArray→mC P dm d k es=some r →
  (Instr.findAsking dm k' l i).run P w=.ok (match r with | some j=>(l[j]?).map fun e=>(i+j,e.val) | none=>none) w∧(∀ j,r=some j→j<l.length)
 | [],l,i,r,hm,h=>by
  have:l=[]:=by have:=hm.1;simp at this;exact List.eq_nil_of_length_eq_zero this.symm
  subst this
  simp [mC] at h
  subst h
  exact ⟨rfl,by simp⟩
 | e::es,l,i,r,hm,h=>by
  obtain ⟨dG,iB,aw,ar,eK,rG,fE⟩:=hm.dF
  obtain rfl:l=dG::iB:=by simpa using aw
  unfold mC at h
  have J:∀ b,vw P dm d k e.2.1=some b→(Op.equal dm k' dG.key).run P w=.ok b w:=fun b ar=>by
   unfold vw at ar
   split at ar
   ·rename_i a c aL al
    rw [if_neg (by simp [a7])] at ar
    rw [sv hk aL,sv eK al]
    exact wR ar w
   ·cases ar
  unfold Instr.findAsking
  rw [Sem.run_bind]
  split at h
  ·rename_i heq
   rw [J _ heq]
   obtain rfl:some 0=r:=by simpa using h
   exact ⟨by simp,by simp⟩
  ·rename_i heq
   rw [J _ heq]
   cases bM:mC P dm d k es with
   | none=>simp [bM] at h
   | some r'=>
    simp [bM] at h
    obtain ⟨h1,ab⟩:=Qh a7 hk es iB (i+1) r' fE bM
    subst h
    simp only [Result.andThen_ok,Bool.false_eq_true,if_false]
    rw [h1]
    cases r' with
    | none=>exact ⟨rfl,by simp⟩
    | some j=>
     have:=ab j rfl
     simp [List.getElem?_eq_getElem this,Nat.add_comm,Nat.add_left_comm,this]
  ·cases h
theorem Zp {d:TypeDesc} (a7:yN d=false) (a b:Value):Instr.sameNow d a b=none:=by
 cases d<;>simp [yN] at a7<;>rfl
theorem vx {P:Program} {ρ:Ren} {dm:TypeId} {d:TypeDesc} (hu:P.underlying dm=some d) {k:V} {k':Value} (hk:ax ρ k k') {w:World} {es:List (Nat×V×V)} {arr:Array MapEntry} {r:Option Nat} (hm:e1 ρ es arr) (h:mC P dm d k es=some r) :
  (Instr.findKey dm k' arr.toList).run P w=.ok (r.bind fun j=>(arr[j]?).map fun e=>(j,e.val)) w∧(∀ j,r=some j→j<arr.size):=by
 unfold Instr.findKey
 rw [Sem.run_bind,run_underlying hu,Result.andThen_ok]
 have fE:e1 ρ es arr.toList.toArray:=by simpa using hm
 cases a7:yN d with
 | true=>
  obtain ⟨h1,ab⟩:=Qg a7 hk es arr.toList 0 r fE h
  rw [h1]
  refine ⟨?_,fun j aC=>by simpa using ab j aC⟩
  cases r<;>simp
 | false=>
  obtain ⟨h1,ab⟩:=Qh (w:=w) a7 hk es arr.toList 0 r fE h
  refine ⟨?_,fun j aC=>by simpa using ab j aC⟩
  cases aL:arr.toList with
  | nil=>
   have he:es=[]:=by
    have aI:=hm.1
    rw [←Array.length_toList,aL] at aI
    exact List.eq_nil_of_length_eq_zero aI
   subst he
   simp [mC] at h
   subst h
   simp [Instr.findNow]
  | cons e l=>
   have:Instr.findNow d k' (e::l) 0=none:=by unfold Instr.findNow;rw [Zp a7]
   rw [this]
   rw [aL] at h1
   simp only
   rw [h1]
   cases r with
   | none=>rfl
   | some j=>
    have aK:arr[j]?=(e::l)[j]?:=by rw [←Array.getElem?_toList,aL]
    simp [aK]
def ub (P:Program) (empty:Bool) (dm:TypeId) (k:V):Bool :=
 match lK k with
 | some a=>(dg P (Instr.checkKey empty 10000 dm a)).isSome
 | none=>false
theorem vy {P:Program} {empty:Bool} {dm:TypeId} {k:V} {k':Value} {ρ:Ren} (h:ub P empty dm k=true) (hk:ax ρ k k') (w:World):(Instr.checkKey empty 10000 dm k').run P w=.ok () w:=by
 unfold ub at h
 split at h
 ·rename_i a aL
  rw [sv hk aL]
  cases az:dg P (Instr.checkKey empty 10000 dm a) with
  | none=>simp [az] at h
  | some u=>exact wR az w
 ·cases h
def eo (P:Program) (t:TypeId):Option (TypeId×TypeId×TypeDesc) :=
 match P.underlying t with
 | some (.map k e)=>(P.underlying k).map fun d=>(k,e,d)
 | _=>none
theorem uc {P:Program} {t k e:TypeId} {d:TypeDesc} (h:eo P t=some (k,e,d)):P.underlying t=some (.map k e)∧P.underlying k=some d:=by
 unfold eo at h
 split at h
 ·rename_i k' dG hu
  cases hk:P.underlying k' with
  | none=>simp [hk] at h
  | some hU=>
   simp [hk] at h
   obtain ⟨rfl,rfl,rfl⟩:=h
   exact ⟨hu,hk⟩
 ·cases h
def nM (P:Program) (t:TypeId) (m k:V) (ok:Bool) (h:I):Option V :=
 match eo P t with
 | none=>none
 | some (dm,fZ,d)=>
  match jg P fZ,m with
  | some z,.dk=>if ub P true dm k then some (if ok then .tuple [eZ z,.bool false] else eZ z) else none
  | some z,.map i=>
   match h.get i with
   | .map es _=>
    if ub P es.isEmpty dm k then
     match mC P dm d k es with
     | some (some j)=>(es[j]?).map fun e=>if ok then .tuple [e.2.2,.bool true] else e.2.2
     | some none=>some (if ok then .tuple [eZ z,.bool false] else eZ z)
     | none=>none
    else none
   | _=>none
  | _,_=>none
theorem LM {ρ:Ren} {v:V} {v':Value} (h:ax ρ v v') (b:Bool) (ok:Bool):ax ρ (if ok then .tuple [v,.bool b] else v) (if ok then .tuple #[v',.bool b] else v'):=by
 cases ok
 ·exact h
 ·exact ((aQ.cons h (.cons (.bool b) (.nil ρ))).arr).tuple
theorem Ho {P:Program} {e:TypeId} {z:Value} (h:jg P e=some z) (w:World):(zeroValue e).run P w=.ok z w:=by
 cases ae:P.info? e with
 | none=>simp [jg,ae] at h
 | some bU=>simp [jg,ae] at h;simp [zeroValue,typeInfo,ae,h]
theorem Zq {P:Program} {t:TypeId} {m k v:V} {e0 k':Value} {ok:Bool} {h:I} (J:nM P t m k ok h=some v) {ρ:Ren} {B:Nat} {aG w:World} (R:aM ρ B aG h w) (hm:ax ρ m e0) (hk:ax ρ k k') :
  bD P (Instr.lookup t e0 k' ok) ρ w v:=by
 unfold nM at J
 split at J
 ·cases J
 rename_i dm fZ d cV
 obtain ⟨hu,nz⟩:=uc cV
 split at J
 ·rename_i z bB
  split at J
  case isFalse=>cases J
  rename_i lu
  obtain rfl:_=v:=by simpa using J
  cases hm
  refine bD.mk ?_ (LM (yD ρ z) false ok)
  have aB:=(vx (P:=P) (w:=w) (arr:=#[]) (es:=[]) (r:=none) nz hk ⟨rfl,by simp⟩ rfl).1
  simp only [Instr.lookup,Sem.run_bind,Sem.run_pure,run_underlying hu,Result.andThen_ok]
  rw [show (#[]:Array MapEntry).isEmpty=true from rfl,vy lu hk w,Result.andThen_ok,aB]
  simp [Ho bB]
 ·rename_i z i bB
  split at J
  case h_2=>cases J
  rename_i es a1 aE
  split at J
  case isFalse=>cases J
  rename_i lu
  cases hm with
  | map hi=>
  have av:=R.heap.obj i
  rw [aE] at av
  obtain ⟨b,bh,arr,aq,_,_,hw,de⟩:=av
  rw [aq] at hi
  simp at hi
  obtain ⟨rfl,rfl⟩:=hi
  have ph:es.isEmpty=arr.isEmpty:=by
   have:=de.1
   rw [Bool.eq_iff_iff,List.isEmpty_iff,Array.isEmpty_iff,←List.length_eq_zero_iff,←Array.size_eq_zero_iff,this]
  rw [ph] at lu
  split at J
  ·rename_i j aB
   obtain ⟨h1,ab⟩:=vx (P:=P) (w:=w) nz hk de aB
   have aC:=ab j rfl
   have jV:j<es.length:=by rw [de.1];exact aC
   rw [List.getElem?_eq_getElem jV] at J
   obtain rfl:_=v:=by simpa using J
   obtain ⟨_,_,aN⟩:=de.2 j _ _ (List.getElem?_eq_getElem jV) (Array.getElem?_eq_getElem aC)
   refine bD.mk ?_ (LM aN true ok)
   simp only [Instr.lookup,Sem.run_bind,Sem.run_pure,run_underlying hu,run_getObj_map hw,Result.andThen_ok]
   rw [vy lu hk w,Result.andThen_ok,h1]
   simp [Array.getElem?_eq_getElem aC]
  ·rename_i aB
   obtain ⟨h1,ab⟩:=vx (P:=P) (w:=w) nz hk de aB
   obtain rfl:_=v:=by simpa using J
   refine bD.mk ?_ (LM (yD ρ z) false ok)
   simp only [Instr.lookup,Sem.run_bind,Sem.run_pure,run_underlying hu,run_getObj_map hw,Result.andThen_ok]
   rw [vy lu hk w,Result.andThen_ok,h1]
   simp [Ho bB]
  ·cases J
 ·cases J
def qS (P:Program) (t:TypeId) (m k v:V) (h:I):Option I :=
 match eo P t,m with
 | some (dm,fZ,d),.map i=>
  match h.get i with
  | .map es a1=>
   if ub P false dm k then
    match mC P dm d k es with
    | some (some j)=>
     match (es[j]?).bind fun e=>lK e.2.1,lK k with
     | some a,some b=>if Instr.sameBits 10000 a b=true then some (h.set i (.map (es.modify j fun e=>(e.1,k,v)) a1)) else none
     | _,_=>none
    | some none=>some (h.set i (.map (es++[(a1,k,v)]) (a1+1)))
    | none=>none
   else none
  | _=>none
 | _,_=>none
theorem run_setObj_map {P:Program} {w:World} {b:Nat} {es:Array MapEntry} {c:Nat} (h:w.heap[b]?=some (.map es c)) (o:Obj):(setObj b o).run P w=.ok () { w with heap:=w.heap.setIfInBounds b o }:=by
 simp [setObj,Sem.run,h]
theorem Zr {P:Program} {w:World} {b:Nat} {m:Option Nat} {s:Nat} {Hn:Array Nat} {st:Nat} (h:w.heap[b]?=some (.mapIter m s Hn st)) (o:Obj):(setObj b o).run P w=.ok () { w with heap:=w.heap.setIfInBounds b o }:=by
 simp [setObj,Sem.run,h]
theorem aM.setObj {ρ:Ren} {B:Nat} {aG:World} {h:I} {w:World} (R:aM ρ B aG h w) {i b bh:Nat} (hi:ρ.ren i=some (b,bh)) (aw:h.get i≠.dead) (b3:B≤b) {o:aD} {ob:Obj}
  (aT:b<w.heap.size) (iK:gu ρ B { w with heap:=w.heap.setIfInBounds b ob } i o):aM ρ B aG (h.set i o) { w with heap:=w.heap.setIfInBounds b ob }:=by
 refine R.vl hi aw (fun k hk=>by simp [Array.getElem?_setIfInBounds,Ne.symm hk]) (by simp) ⟨rfl,rfl,rfl,by simp,fun k hk=>?_,Nat.le_refl _⟩ iK
 simp [Array.getElem?_setIfInBounds,show b≠k by omega]
theorem Qi {P:Program} {t:TypeId} {m k v:V} {e0 k' v':Value} {h U:I} (J:qS P t m k v h=some U) {ρ:Ren} {B:Nat} {aG w:World} (R:aM ρ B aG h w) (hm:ax ρ m e0) (hk:ax ρ k k') (aN:ax ρ v v') :
  ∃ w',(Instr.mapUpdate t e0 k' v').run P w=.ok () w'∧aM ρ B aG U w':=by
 unfold qS at J
 split at J
 case h_2=>cases J
 rename_i dm fZ d i cV
 obtain ⟨hu,nz⟩:=uc cV
 split at J
 case h_2=>cases J
 rename_i es a1 aE
 split at J
 case isFalse=>cases J
 rename_i lu
 cases hm with
 | map hi=>
 have av:=R.heap.obj i
 rw [aE] at av
 obtain ⟨b,bh,arr,aq,kn,b3,hw,de⟩:=av
 rw [aq] at hi
 simp at hi
 obtain ⟨rfl,rfl⟩:=hi
 have aT:b<w.heap.size:=(Array.getElem?_eq_some_iff.1 hw).1
 split at J
 ·rename_i j aB
  split at J
  case h_2=>cases J
  rename_i a c aL al
  split at J
  case isFalse=>cases J
  rename_i Da
  obtain rfl:_=U:=by simpa using J
  obtain ⟨h1,ab⟩:=vx (P:=P) (w:=w) nz hk de aB
  have aC:=ab j rfl
  have jV:j<es.length:=by rw [de.1];exact aC
  obtain ⟨_,eK,_⟩:=de.2 j _ _ (List.getElem?_eq_getElem jV) (Array.getElem?_eq_getElem aC)
  rw [List.getElem?_eq_getElem jV] at aL
  simp at aL
  have aK:=sv eK aL
  have a6:=sv hk al
  have dA:=R.setObj (o:=.map (es.modify j fun e=>(e.1,k,v)) a1) (ob:=.map (arr.modify j fun e=>{ e with key:=k',val:=v' }) a1) aq (by rw [aE];simp) b3 aT (by
   refine ⟨b,bh,arr.modify j (fun e=>{ e with key:=k',val:=v' }),aq,kn,b3,by simp [aT],by simp [de.1],fun q e dG ae dp=>?_⟩
   rw [List.getElem?_modify] at ae
   rw [Array.getElem?_modify] at dp
   by_cases rH:j=q
   ·subst rH
    rw [List.getElem?_eq_getElem jV] at ae
    rw [Array.getElem?_eq_getElem aC] at dp
    simp at ae dp
    subst ae;subst dp
    obtain ⟨aI,_,_⟩:=de.2 j _ _ (List.getElem?_eq_getElem jV) (Array.getElem?_eq_getElem aC)
    exact ⟨aI,hk,aN⟩
   ·simp [rH] at ae dp
    exact de.2 q e dG ae dp)
  refine ⟨_,?_,dA⟩
  simp only [Instr.mapUpdate,Sem.run_bind,run_underlying hu,run_getObj_map hw,Result.andThen_ok]
  rw [vy lu hk w,Result.andThen_ok,h1]
  have jW:(Instr.keyThatStays a c).run P w=.ok c w:=by unfold Instr.keyThatStays;rw [if_pos Da];rfl
  simp [Array.getElem?_eq_getElem aC,aK,a6,jW,run_setObj_map hw]
 ·rename_i aB
  obtain rfl:_=U:=by simpa using J
  obtain ⟨h1,ab⟩:=vx (P:=P) (w:=w) nz hk de aB
  have dA:=R.setObj (o:=.map (es++[(a1,k,v)]) (a1+1)) (ob:=.map (arr.push { key:=k',val:=v',born:=a1 }) (a1+1)) aq (by rw [aE];simp) b3 aT (by
   refine ⟨b,bh,arr.push { key:=k',val:=v',born:=a1 },aq,kn,b3,by simp [aT],by simp [de.1],fun q e dG ae dp=>?_⟩
   rw [List.getElem?_append] at ae
   rw [Array.getElem?_push] at dp
   by_cases wV:q<es.length
   ·rw [if_pos wV] at ae
    rw [if_neg (by rw [←de.1];omega)] at dp
    exact de.2 q e dG ae dp
   ·rw [if_neg wV] at ae
    have Db:q=es.length:=by
     have:=(List.getElem?_eq_some_iff.1 ae).1
     simp at this;omega
    subst Db
    rw [if_pos de.1] at dp
    simp at ae dp
    subst ae;subst dp
    exact ⟨rfl,hk,aN⟩)
  refine ⟨_,?_,dA⟩
  simp only [Instr.mapUpdate,Sem.run_bind,run_underlying hu,run_getObj_map hw,Result.andThen_ok]
  rw [vy lu hk w,Result.andThen_ok,h1]
  simp [run_setObj_map hw]
 ·cases J
def wW (P:Program) (t:TypeId) (m k:V) (h:I):Option I :=
 match eo P t,m with
 | some (dm,fZ,d),.map i=>
  match h.get i with
  | .map es a1=>
   if ub P es.isEmpty dm k then
    match mC P dm d k es with
    | some (some j)=>some (h.set i (.map (es.eraseIdx j) a1))
    | some none=>some h
    | none=>none
   else none
  | _=>none
 | _,_=>none
theorem Zs {P:Program} {t ty:TypeId} {ts:Array TypeId} {m k:V} {e0 k':Value} {h U:I} (bM:ts[0]?=some t) (J:wW P t m k h=some U) {ρ:Ren} {B:Nat} {aG w:World} (R:aM ρ B aG h w) (hm:ax ρ m e0) (hk:ax ρ k k') :
  ∃ w',(Builtin.delete_ ts ty #[e0,k']).run P w=.ok (.tuple #[]) w'∧aM ρ B aG U w':=by
 unfold wW at J
 split at J
 case h_2=>cases J
 rename_i dm fZ d i cV
 obtain ⟨hu,nz⟩:=uc cV
 split at J
 case h_2=>cases J
 rename_i es a1 aE
 split at J
 case isFalse=>cases J
 rename_i lu
 cases hm with
 | map hi=>
 have av:=R.heap.obj i
 rw [aE] at av
 obtain ⟨b,bh,arr,aq,kn,b3,hw,de⟩:=av
 rw [aq] at hi
 simp at hi
 obtain ⟨rfl,rfl⟩:=hi
 have aT:b<w.heap.size:=(Array.getElem?_eq_some_iff.1 hw).1
 have ph:es.isEmpty=arr.isEmpty:=by
  have:=de.1
  rw [Bool.eq_iff_iff,List.isEmpty_iff,Array.isEmpty_iff,←List.length_eq_zero_iff,←Array.size_eq_zero_iff,this]
 rw [ph] at lu
 split at J
 ·rename_i j aB
  obtain rfl:_=U:=by simpa using J
  obtain ⟨h1,ab⟩:=vx (P:=P) (w:=w) nz hk de aB
  have aC:=ab j rfl
  have jV:j<es.length:=by rw [de.1];exact aC
  have dA:=R.setObj (o:=.map (es.eraseIdx j) a1) (ob:=.map (arr.eraseIdxIfInBounds j) a1) aq (by rw [aE];simp) b3 aT (by
   have aK:∀ q:Nat,(arr.eraseIdxIfInBounds j)[q]?=if q<j then arr[q]? else arr[q+1]?:=fun q=>by
    rw [←Array.getElem?_toList,Array.toList_eraseIdxIfInBounds,List.getElem?_eraseIdx]
    simp
   refine ⟨b,bh,arr.eraseIdxIfInBounds j,aq,kn,b3,by simp [aT],?_,fun q e dG ae dp=>?_⟩
   ·rw [List.length_eraseIdx,if_pos jV,←Array.length_toList,Array.toList_eraseIdxIfInBounds,List.length_eraseIdx,if_pos (by simpa using aC),de.1]
    simp
   ·rw [List.getElem?_eraseIdx] at ae
    rw [aK] at dp
    by_cases JP:q<j
    ·simp only [JP,if_true] at ae dp
     exact de.2 q e dG ae dp
    ·simp only [JP,if_false] at ae dp
     exact de.2 _ e dG ae dp)
  refine ⟨_,?_,dA⟩
  simp only [Builtin.delete_,bM,Sem.run_bind,run_underlying hu,run_getObj_map hw,Result.andThen_ok,List.getElem?_toArray,List.getElem?_cons_zero,List.getElem?_cons_succ]
  rw [vy lu hk w,Result.andThen_ok,h1]
  simp [Array.getElem?_eq_getElem aC,run_setObj_map hw]
 ·rename_i aB
  obtain rfl:_=U:=by simpa using J
  obtain ⟨h1,ab⟩:=vx (P:=P) (w:=w) nz hk de aB
  have dA:=R.setObj (o:=.map es a1) (ob:=.map arr a1) aq (by rw [aE];simp) b3 aT ⟨b,bh,arr,aq,kn,b3,by simp [aT],de⟩
  have ad:h.set i (.map es a1)=h:=by
   unfold I.set
   congr 1
   funext j
   by_cases cI:j=i
   ·subst cI;simp [aE]
   ·simp [cI]
  rw [ad] at dA
  refine ⟨_,?_,dA⟩
  simp only [Builtin.delete_,bM,Sem.run_bind,run_underlying hu,run_getObj_map hw,Result.andThen_ok,List.getElem?_toArray,List.getElem?_cons_zero,List.getElem?_cons_succ]
  rw [vy lu hk w,Result.andThen_ok,h1]
  simp [run_setObj_map hw]
 ·cases J
def yO (P:Program) (t:TypeId) (r:Option V) (h:I):Option (V×I) :=
 match r with
 | none=>some (.map h.n,h.push (.map [] 0))
 | some (.int _ _)=>if (eo P t).isSome then some (.map h.n,h.push (.map [] 0)) else none
 | _=>none
theorem Qj {ρ:Ren} {B:Nat} {aG w:World} {h:I} (R:aM ρ B aG h w) {o:aD} {ob:Obj} (iK:∀ ρ':Ren,ρ.le ρ'→ρ'.ren h.n=some (w.heap.size,0)→ρ'.frz w.heap.size=none→gu ρ' B { w with heap:=w.heap.push ob } h.n o) :
  ∃ ρ':Ren,ρ.le ρ'∧ρ'.ren h.n=some (w.heap.size,0)∧aM ρ' B aG (h.push o) { w with heap:=w.heap.push ob }:=by
 have wK:ρ.frz w.heap.size=none:=by
  cases aB:ρ.frz w.heap.size with
  | none=>rfl
  | some a=>
   obtain ⟨e,ei,hw⟩:=R.heap.frz _ _ aB
   have:=(Array.getElem?_eq_some_iff.1 hw).1
   omega
 have hle:=Ren.nY (R.heap.gv _ (Nat.le_refl _)) w.heap.size 0
 obtain ⟨h1,ab⟩:=R.vk (o:=o) (w':={ w with heap:=w.heap.push ob }) 0 (by simp) (fun k hk=>by simp [Array.getElem?_push,show k≠w.heap.size by omega])
  ⟨rfl,rfl,rfl,by simp,fun k hk=>by have:=R.heap.base;simp [Array.getElem?_push,show k≠w.heap.size by omega],Nat.le_refl _⟩ (iK _ hle Ren.iR wK)
 exact ⟨_,h1,Ren.iR,ab⟩
theorem Zt {P:Program} {t:TypeId} {r:Option V} {r':Option Value} {v:V} {h U:I} (J:yO P t r h=some (v,U)) {ρ:Ren} {B:Nat} {aG w:World} (R:aM ρ B aG h w) (aq:Option.Rel (ax ρ) r r') :
  Yields P (Instr.makeMap t r') ρ B aG w v U:=by
 have key:∀ v U,some (V.map h.n,h.push (.map [] 0))=some (v,U)→(Instr.makeMap t r').run P w=.ok (.map (some w.heap.size)) { w with heap:=w.heap.push (.map #[] 0) }→Yields P (Instr.makeMap t r') ρ B aG w v U:=fun v U he ch=>by
  simp at he
  obtain ⟨rfl,rfl⟩:=he
  obtain ⟨ρ',hle,aJ,dA⟩:=Qj R (o:=.map [] 0) (ob:=.map #[] 0) fun ρ' hle aJ aB=>⟨w.heap.size,0,#[],aJ,aB,R.heap.base,by simp,rfl,by simp⟩
  exact ⟨ρ',_,_,ch,.map aJ,dA,hle⟩
 unfold yO at J
 cases aq with
 | none=>exact key v U J (by simp [Instr.makeMap,newObj,Sem.run])
 | some aN=>
  rename_i a b
  cases a<;>simp at J
  rename_i kk n
  cases aN
  obtain ⟨cV,h1,ab⟩:=J
  refine key v U (by simp [h1,ab]) ?_
  cases hm:eo P t with
  | none=>simp [hm] at cV
  | some q=>
   obtain ⟨dm,fZ,d⟩:=q
   simp [Instr.makeMap,run_underlying (uc hm).1,asInt,asIntOf,newObj,Sem.run]
def jp (P:Program) (t:TypeId) (x:V) (h:I):Option (V×I) :=
 match eo P t,x with
 | some _,.map i=>match h.get i with
  | .map es a1=>some (.ptr h.n 0,h.push (.iter i a1 [] a1))
  | _=>none
 | _,_=>none
theorem Zu {P:Program} {t:TypeId} {x v:V} {bO:Value} {h U:I} (J:jp P t x h=some (v,U)) {ρ:Ren} {B:Nat} {aG w:World} (R:aM ρ B aG h w) (af:ax ρ x bO) :
  Yields P (Instr.range t bO) ρ B aG w v U:=by
 unfold jp at J
 split at J
 case h_2=>cases J
 rename_i q i cV
 obtain ⟨dm,fZ,d⟩:=q
 obtain ⟨hu,_⟩:=uc cV
 split at J
 case h_2=>cases J
 rename_i es a1 aE
 simp at J
 obtain ⟨rfl,rfl⟩:=J
 cases af with
 | map hi=>
 have av:=R.heap.obj i
 rw [aE] at av
 obtain ⟨b,bh,arr,aq,kn,b3,hw,de⟩:=av
 rw [aq] at hi
 simp at hi
 obtain ⟨rfl,rfl⟩:=hi
 obtain ⟨ρ',hle,aJ,dA⟩:=Qj R (o:=.iter i a1 [] a1) (ob:=.mapIter (some b) a1 #[] a1) fun ρ' hle aJ aB=>⟨w.heap.size,0,b,bh,aJ,aB,R.heap.base,hle.ren _ _ aq,by simp⟩
 refine ⟨ρ',_,_,?_,.ptr aJ 0,dA,hle⟩
 simp [Instr.range,run_underlying hu,run_getObj_map hw,newObj,Sem.run]
def l2 (es:List (Nat×V×V)) (seen:List Nat):List (Nat×V×V):=es.filter fun e=>!seen.contains e.1
def r7 (it:V) (h:I):Option (List (V×I)) :=
 match it with
 | .ptr r 0=>match h.get r with
  | .iter m since seen last=>match h.get m with
   | .map es clock=>
    if (!seen.isEmpty&&!es.isEmpty&&es.all (fun e=>decide (last≤e.1)))=true then none else
    some (
     (if (l2 es seen).all (fun e=>decide (since≤e.1)) then [(.tuple [.bool false],h)] else []) ++
     (l2 es seen).map fun e=>(.tuple [.bool true,e.2.1,e.2.2],h.set r (.iter m since (seen++[e.1]) clock)))
   | _=>none
  | _=>none
 | _=>none
def BS (it:V) (h:I):Option V :=
 match it with
 | .ptr r 0=>match h.get r with
  | .iter m since seen mu=>match seen.getLast?,h.get m with
   | some oQ,.map es clock=>if clock=mu then (es.find? fun e=>e.1==oQ).map fun e=>.tuple [e.2.1,e.2.2] else none
   | _,_=>none
  | _=>none
 | _=>none
theorem Qk {ρ:Ren} (p:Nat→Bool):∀ (es:List (Nat×V×V)) (l:List MapEntry) (e:Nat×V×V),e1 ρ es l.toArray→es.find? (fun e=>p e.1)=some e→∃ dG,l.find? (fun e=>p e.born)=some dG∧ax ρ e.2.1 dG.key∧ax ρ e.2.2 dG.val
 | [],l,e,hm,h=>by simp at h
 | a::es,l,e,hm,h=>by
  obtain ⟨dG,iB,aw,ar,eK,rG,fE⟩:=hm.dF
  obtain rfl:l=dG::iB:=by simpa using aw
  rw [List.find?_cons] at h⊢
  rw [←ar]
  by_cases az:p a.1=true
  ·simp only [az] at h⊢
   obtain rfl:a=e:=by simpa using h
   exact ⟨dG,rfl,eK,rG⟩
  ·simp only [Bool.not_eq_true] at az
   simp only [az] at h⊢
   exact Qk p es iB e fE h
theorem Zv {P:Program} {it v:V} {wX:Value} {h:I} (J:BS it h=some v) {ρ:Ren} {B:Nat} {aG w:World} (R:aM ρ B aG h w) (hi:ax ρ it wX) :
  bD P (Instr.entry wX) ρ w v:=by
 unfold BS at J
 split at J
 case h_2=>cases J
 rename_i r
 split at J
 case h_2=>cases J
 rename_i m since seen mu AK
 split at J
 case h_2=>cases J
 rename_i oQ es clock cb Dc
 split at J
 case isFalse=>cases J
 rename_i cr
 obtain ⟨Dd,rc,eh,rfl⟩:=hi.mw
 have av:=R.heap.obj r
 rw [AK] at av
 obtain ⟨b,bh,pt,p1,aq,kn,b3,sH,hw⟩:=av
 rw [aq] at eh
 simp at eh
 obtain ⟨rfl,rfl⟩:=eh
 have wY:=R.heap.obj m
 rw [Dc] at wY
 obtain ⟨cZ,hs,arr,fs,LN,n2,eS,de⟩:=wY
 rw [fs] at sH
 simp at sH
 obtain ⟨rfl,rfl⟩:=sH
 cases aB:es.find? (fun e=>e.1==oQ) with
 | none=>simp [aB] at J
 | some e=>
  simp [aB] at J
  subst J
  obtain ⟨dG,bG,hk,aN⟩:=Qk (fun n=>n==oQ) es arr.toList e (by simpa using de) aB
  have gy:arr.find? (fun x=>x.born==oQ)=some dG:=by rw [←Array.find?_toList];exact bG
  have ar:seen.toArray.back?=some oQ:=by simpa using cb
  refine bD.mk (v':=.tuple #[dG.key,dG.val]) ?_ ((aQ.cons hk (.cons aN (.nil ρ))).arr).tuple
  simp only [Instr.entry,Sem.run_bind,Qf hw,Result.andThen_ok,ar,run_getObj_map eS]
  subst cr
  simp [gy]
theorem Ql {ρ:Ren} (seen:List Nat) (p:Nat→Bool):∀ (es:List (Nat×V×V)) (l:List MapEntry),e1 ρ es l.toArray→e1 ρ (es.filter fun e=>p e.1) (l.filter fun e=>p e.born).toArray
 | [],l,hm=>by
  have:l=[]:=by have:=hm.1;simp at this;exact List.eq_nil_of_length_eq_zero this.symm
  subst this
  exact ⟨rfl,by simp⟩
 | e::es,l,hm=>by
  obtain ⟨dG,iB,aw,ar,eK,rG,fE⟩:=hm.dF
  obtain rfl:l=dG::iB:=by simpa using aw
  have ih:=Ql seen p es iB fE
  simp only [List.filter_cons,ar]
  by_cases az:p dG.born=true
  ·simp only [az,if_true]
   refine ⟨by have:=ih.1;simpa using this,fun k x y af aX=>?_⟩
   cases k with
   | zero=>simp at af aX;subst af;subst aX;exact ⟨ar,eK,rG⟩
   | succ k=>exact ih.2 k x y (by simpa using af) (by simpa using aX)
  ·simp only [az]
   exact ih
theorem e1.all {ρ:Ren} (p:Nat→Bool):∀ (es:List (Nat×V×V)) (l:List MapEntry),e1 ρ es l.toArray→(es.all fun e=>p e.1)=(l.all fun e=>p e.born)
 | [],l,hm=>by
  have:l=[]:=by have:=hm.1;simp at this;exact List.eq_nil_of_length_eq_zero this.symm
  subst this
  rfl
 | e::es,l,hm=>by
  obtain ⟨dG,iB,aw,ar,eK,rG,fE⟩:=hm.dF
  obtain rfl:l=dG::iB:=by simpa using aw
  simp only [List.all_cons,ar,e1.all p es iB fE]
theorem wt {P:Program} {it:V} {wX:Value} {ty:TypeId} {h:I} {alts:List (V×I)} (J:r7 it h=some alts) {ρ:Ren} {B:Nat} {aG w:World} (R:aM ρ B aG h w) (hi:ax ρ it wX) :
  ∃ v U,(v,U) ∈ alts∧Yields P (Instr.next wX false ty) ρ B aG w v U:=by
 unfold r7 at J
 split at J
 case h_2=>cases J
 rename_i r
 split at J
 case h_2=>cases J
 rename_i m since seen last AK
 split at J
 case h_2=>cases J
 rename_i es clock Dc
 split at J
 case isTrue=>cases J
 rename_i h6
 obtain ⟨Dd,rc,eh,rfl⟩:=hi.mw
 have av:=R.heap.obj r
 rw [AK] at av
 obtain ⟨b,bh,pt,p1,aq,kn,b3,sH,hw⟩:=av
 rw [aq] at eh
 simp at eh
 obtain ⟨rfl,rfl⟩:=eh
 have wY:=R.heap.obj m
 rw [Dc] at wY
 obtain ⟨cZ,hs,arr,fs,LN,n2,eS,de⟩:=wY
 rw [fs] at sH
 simp at sH
 obtain ⟨rfl,rfl⟩:=sH
 have aT:b<w.heap.size:=(Array.getElem?_eq_some_iff.1 hw).1
 simp only [Option.some.injEq] at J
 have De:e1 ρ es arr.toList.toArray:=by simpa using de
 have LO:¬((!seen.toArray.isEmpty&&!arr.isEmpty&&arr.all (fun e=>decide (last≤e.born)))=true):=by
  have aK:seen.toArray.isEmpty=seen.isEmpty:=by simp
  have a6:arr.isEmpty=es.isEmpty:=by
   have:=de.1
   rw [Bool.eq_iff_iff,List.isEmpty_iff,Array.isEmpty_iff,←List.length_eq_zero_iff,←Array.size_eq_zero_iff,this]
  have dB:arr.all (fun e=>decide (last≤e.born))=es.all (fun e=>decide (last≤e.1)):=by
   rw [e1.all (fun n=>decide (last≤n)) es arr.toList De,Array.all_toList]
  rw [aK,a6,dB]
  exact h6
 have hV:=Ql seen (fun n=>!seen.contains n) es arr.toList De
 let left:=arr.filter fun e=>!seen.toArray.contains e.born
 let ht:Array (Option MapEntry):=(if (left.filter (fun e=>decide (e.born<since))).isEmpty then #[none] else #[])++(left.filter (fun e=>decide (e.born<since))++left.filter (fun e=>decide (since≤e.born))).map some
 have wZ:left.toList=arr.toList.filter fun e=>!seen.contains e.born:=by simp [left]
 have ch:∃ q:Nat,∃ bK,(∃ c,ht[q]?=some c)∧aM ρ B aG h bK∧bK.heap=w.heap∧∀ c,ht[q]?=some c →
   (Instr.next (.pointer (some ⟨b,0,none⟩)) false ty).run P w=(match c with
    | some e=>((setObj b (.mapIter (some cZ) since (seen.toArray.push e.born) clock)).run P bK).andThen fun _ bV=>.ok (.tuple #[.bool true,e.key,e.val]) bV
    | none=>.ok (.tuple #[.bool false]) bK):=by
  have bc:ht.size≠0:=by
   intro ay
   simp only [ht,Array.size_append,Array.size_map] at ay
   by_cases he:(left.filter (fun e=>decide (e.born<since))).isEmpty=true
   ·simp [he] at ay
   ·have:(left.filter (fun e=>decide (e.born<since))).size=0:=by omega
    exact he (by simp [Array.isEmpty,this])
  have n5:∃ q bK,q<ht.size∧(choose (.mapNext ht.size)).run P w=.ok q bK∧aM ρ B aG h bK∧bK.heap=w.heap:=by
   by_cases aB:(Question.mapNext ht.size).forced=true
   ·refine ⟨0,w,by omega,?_,R,rfl⟩
    simp [choose,Sem.run,aB]
   ·refine ⟨(Question.mapNext ht.size).cut (w.tape w.drawn (.mapNext ht.size)),w.drew,?_,?_,R.drew,rfl⟩
    ·simp only [Question.cut]
     exact Nat.mod_lt _ (by omega)
    ·have bG:(Question.mapNext ht.size).forced=false:=by simpa using aB
     simp only [choose,Sem.run,bG]
     rfl
  obtain ⟨q,bK,ae,al,Hp,ad⟩:=n5
  refine ⟨q,bK,⟨_,Array.getElem?_eq_getElem ae⟩,Hp,ad,fun c w0=>?_⟩
  simp only [Instr.next,Sem.run_bind,Qf hw,run_getObj_map eS,Result.andThen_ok]
  have Hq:¬((!seen.toArray.isEmpty&&!arr.isEmpty&&arr.all (fun x=>decide (x.born ≥ last)))=true):=LO
  rw [if_neg Hq]
  have AL:=al
  simp only [ht,left] at AL w0
  simp only [Sem.run_bind,Sem.run_pure,Result.andThen_ok,ge_iff_le,AL,w0]
  cases c<;>simp
 obtain ⟨q,bK,⟨c,w0⟩,Hp,ad,ch⟩:=ch
 have ch:=ch c w0
 have pj:c ∈ ht:=Array.mem_of_getElem? w0
 cases c with
 | none=>
  refine ⟨.tuple [.bool false],h,?_,ρ,_,bK,ch,((aQ.cons (.bool false) (.nil ρ)).arr).tuple,Hp,Ren.le.refl ρ⟩
  rw [←J]
  apply List.mem_append_left
  have he:(left.filter (fun e=>decide (e.born<since))).isEmpty=true:=by
   by_cases he:(left.filter (fun e=>decide (e.born<since))).isEmpty=true
   ·exact he
   ·simp [ht,he] at pj
  have:(l2 es seen).all (fun e=>decide (since≤e.1))=true:=by
   unfold l2
   rw [e1.all (fun n=>decide (since≤n)) _ _ hV,←wZ]
   rw [List.all_eq_true]
   intro e lU
   rw [Array.isEmpty_iff,←Array.toList_inj] at he
   simp only [Array.toList_filter] at he
   have aI:=List.filter_eq_nil_iff.1 he e (by simpa using lU)
   simp at aI⊢
   exact aI
  rw [this]
  simp
 | some e=>
  have lU:e ∈ left.toList:=by
   simp only [ht,Array.mem_append,Array.mem_map] at pj
   rcases pj with pj | ⟨x,af,JQ⟩
   ·split at pj<;>simp at pj
   ·simp at JQ
    subst JQ
    rcases af with af | af
    ·simpa using (Array.mem_filter.1 af).1
    ·simpa using (Array.mem_filter.1 af).1
  rw [wZ] at lU
  obtain ⟨k,hk⟩:=List.getElem?_of_mem lU
  have JR:k<(es.filter fun e=>!seen.contains e.1).length:=by
   rw [hV.1]
   simpa using (List.getElem?_eq_some_iff.1 hk).1
  obtain ⟨h1,ab,aI⟩:=hV.2 k _ e (List.getElem?_eq_getElem JR) (by simpa using hk)
  have ew:(es.filter fun e=>!seen.contains e.1)[k] ∈ l2 es seen:=List.getElem_mem JR
  generalize (es.filter fun e=>!seen.contains e.1)[k]=a at h1 ab aI ew
  have gj:bK.heap[b]?=some (.mapIter (some cZ) since seen.toArray last):=by rw [ad];exact hw
  simp only [Zr gj,Result.andThen_ok] at ch
  refine ⟨.tuple [.bool true,a.2.1,a.2.2],h.set r (.iter m since (seen++[a.1]) clock),?_,ρ,_,_,ch,((aQ.cons (.bool true) (.cons ab (.cons aI (.nil ρ)))).arr).tuple,?_,Ren.le.refl ρ⟩
  ·rw [←J]
   apply List.mem_append_right
   exact List.mem_map.2 ⟨a,ew,rfl⟩
  ·refine Hp.setObj aq (by rw [AK];simp) b3 (by rw [ad];exact aT) ?_
   exact ⟨b,bh,cZ,hs,aq,kn,b3,fs,by simp [ad,aT,h1]⟩
inductive Step where
 | val (v:V) (h:I)
 | call (f:FuncId) (args:List V)
 | alts (l:List (V×I))
 | panic
 | round (l:Nat) (args:List V)
def bP (P:Program) (f:FuncId):Bool :=
 match P.funcs[f]? with
 | some fn => fn.body.isSome && fn.name != "runtime.NumGoroutine"
 | none=>false
def Df (P:Program) (t:TypeId):Option Bool:=match P.underlying t with | some (.interface _)=>some true | some _=>some false | none=>none
def oX (P:Program) (t:TypeId) (x:V) (h:I):Option I :=
 match pw P t,x with
 | some _,.ag=>some h
 | some _,.z0=>some h
 | some _,.an n _=>if n=0 then some h else none
 | some e,.aj i o len _=>
  match gw P e,h.get i with
  | some zs,.cells c a6 ex=>
   if len=0 then some h
   else if zs.all (·.one)=true∧o+(made zs len).length≤c.length then some (h.set i (.cells (lay c o (made zs len)) a6 ex)) else none
  | _,_=>none
 | _,_=>none
theorem Zw {α:Type} (p:α→Bool) (z:List α) (n:Nat) (h:z.all p=true):(made z n).all p=true:=by
 induction n with
 | zero=>rfl
 | succ n ih=>rw [BQ,List.all_append,ih,h];rfl
theorem Zx {P:Program} {t ty:TypeId} {x:V} {bO:Value} {h U:I} (J:oX P t x h=some U) {ρ:Ren} {B:Nat} {aG w:World} (R:aM ρ B aG h w) (af:ax ρ x bO) :
  ∃ w',(Builtin.clear_ #[t] ty #[bO]).run P w=.ok (.tuple #[]) w'∧aM ρ B aG U w':=by
 unfold oX at J
 have dH:∀ e,pw P t=some e→P.underlying t=some (.slice e):=fun e he=>by
  unfold pw at he
  split at he
  ·rename_i hu;rw [hu];simpa using he
  ·cases he
 split at J
 ·rename_i e he
  obtain rfl:h=U:=by simpa using J
  cases af
  exact ⟨w,by simp [Builtin.clear_,run_underlying (dH _ he)],R⟩
 ·rename_i e he
  obtain rfl:h=U:=by simpa using J
  cases af with
  | z0 a aL=>cases a<;>exact ⟨w,by simp [Builtin.clear_,run_underlying (dH _ he)],R⟩
 ·rename_i e n cs he
  split at J
  case isFalse=>cases J
  rename_i ay
  subst ay
  obtain rfl:h=U:=by simpa using J
  rcases af.hS with ⟨_,rfl,a,fv,aL,rfl⟩ | ⟨b,o,cap,arr,ar,aJ,av,cn,rfl⟩
  ·cases a with
   | none=>
    obtain rfl:=aL rfl
    exact ⟨w,by simp [Builtin.clear_,run_underlying (dH _ he)],R⟩
   | some a=>exact ⟨w,by simp [Builtin.clear_,run_underlying (dH _ he)],R⟩
  ·exact ⟨w,by simp [Builtin.clear_,run_underlying (dH _ he)],R⟩
 ·rename_i e i o len cap he
  split at J
  case h_2=>cases J
  rename_i zs c a6 ex bB aE
  obtain ⟨b,bh,hi,aw,rfl⟩:=af.ft
  split at J
  ·rename_i ay
   subst ay
   obtain rfl:h=U:=by simpa using J
   exact ⟨w,by simp [Builtin.clear_,run_underlying (dH _ he)],R⟩
  ·rename_i ay
   split at J
   case isFalse=>cases J
   rename_i al
   obtain rfl:_=U:=by simpa using J
   obtain ⟨z,AJ,e2⟩:=BP bB
   obtain ⟨w',bZ,dA⟩:=CZ (P:=P) aE R hi o ((e2 ρ).made len) (Zw _ _ _ al.1) al.2
   refine ⟨w',?_,dA⟩
   obtain ⟨m,rfl⟩:∃ m,len=m+1:=⟨len - 1,by omega⟩
   have rD:(Builtin.zeroCells z.cells (m+1)).toList=made z.cells.toList (m+1):=n7 z.cells (m+1)
   simp [Builtin.clear_,run_underlying (dH _ he),Ho AJ,rD,bZ]
 ·cases J
def sI (P:Program) (t:TypeId) (x:V):Option V :=
 match P.underlying t,x with
 | some (.slice _),.aj _ _ _ cap=>if cap<ai then some (.int .i64 cap) else none
 | some (.slice _),.ag=>some (.int .i64 0)
 | some (.slice _),.z0=>some (.int .i64 0)
 | _,_=>none
theorem Zy {P:Program} {t ty:TypeId} {x v:V} {bO:Value} {h:I} (J:sI P t x=some v) {ρ:Ren} {B:Nat} {aG w:World} (R:aM ρ B aG h w) (af:ax ρ x bO) :
  bD P (Builtin.cap_ #[t] ty #[bO]) ρ w v:=by
 unfold sI at J
 split at J
 ·rename_i e i o len cap hu
  split at J
  case isFalse=>cases J
  rename_i al
  obtain rfl:=Option.some.inj J
  obtain ⟨b,bh,hi,aw,rfl⟩:=af.ft
  have cQ:e8 bh cap=cap:=by simp [e8,al]
  exact .mk (by simp [Builtin.cap_,run_underlying hu,cQ];rfl) (.int _ _)
 ·rename_i e hu
  obtain rfl:=Option.some.inj J
  cases af
  exact .mk (by simp [Builtin.cap_,run_underlying hu];rfl) (.int _ _)
 ·rename_i e hu
  obtain rfl:=Option.some.inj J
  cases af
  exact .mk (by simp [Builtin.cap_,run_underlying hu];rfl) (.int _ _)
 ·cases J
def mX (P:Program) (b:Builtin) (types:List TypeId) (ty:TypeId) (consts:Array Bool) (args:List V) (h:I):Option (V×I) :=
 match b,types,args with
 | .len,[t],[x]=>match cE P t x h with
  | some v=>some (v,h)
  | none=>none
 | .append,[t,tx],[s,x]=>k6 P t tx s x h
 | .copy,[t,_],[d,s]=>p7 P t d s h
 | .delete,[t,_],[m,k]=>(wW P t m k h).map fun U=>(.tuple [],U)
 | .clear,[t],[x]=>(oX P t x h).map fun U=>(.tuple [],U)
 | .cap,[t],[x]=>match sI P t x with
  | some v=>some (v,h)
  | none=>none
 | _,_,_=>
  match hQ args with
  | some p8=>match dg P (builtin b types.toArray ty consts p8.toArray) with
   | some (.value v)=>some (eD v,h)
   | _=>none
  | none=>none
theorem Dg {ρ:Ren} {x y:V} {args':Array Value} (aL:aQ ρ [x,y] args'.toList):∃ bO k7,args'=#[bO,k7]∧ax ρ x bO∧ax ρ y k7:=by
 obtain ⟨bF,k1,he,jk,w1⟩:=aL.dF
 obtain ⟨bO,am9,sD,cn,LP⟩:=w1.dF
 rw [LP.eq_nil] at sD
 exact ⟨bF,bO,by apply Array.ext';rw [he,sD],jk,cn⟩
theorem Hr {ρ:Ren} {x:V} {args':Array Value} (aL:aQ ρ [x] args'.toList):∃ bO,args'=#[bO]∧ax ρ x bO:=by
 obtain ⟨bO,k1,he,af,w1⟩:=aL.dF
 rw [w1.eq_nil] at he
 exact ⟨bO,by apply Array.ext';simpa using he,af⟩
def mY (P : Program) (fid : FuncId) : Prop := ∃ fn, P.funcs[fid]? = some fn ∧ (fn.name == "runtime.NumGoroutine") = false ∧ fn.body.isNone = true ∧ Extern.findNext fn = none ∧ Extern.find fn = some (Extern.SlicesOverlaps.overlaps fn.params fn.resultTypes) ∧
 ∃ t e sz u,fn.params=#[t,t]∧fn.resultTypes=#[u]∧P.underlying t=some (.slice e)∧ap P e=some sz
def w2 (h:I):List V→Option V
 | [.aj i _ _ _,.aj j _ _ _]=>match h.get i,h.get j with
  | .cells _ _ _,.cells (_::_) _ _=>if i≠j then some (.bool false) else none
  | _,_=>none
 | _=>none
theorem Zz {P:Program} {fid:FuncId} {args:List V} {args':Array Value} {v:V} {h:I} (av:mY P fid) (J:w2 h args=some v) {ρ:Ren} {B:Nat} {aG w:World} (R:aM ρ B aG h w) (aL:aQ ρ args args'.toList) :
  ∃ v',(callFunc fid args').run P w=.ok (.value v') w∧ax ρ v v':=by
 obtain ⟨fn,h1,ab,aI,h4,h5,t,e,sz,u,az,aq,hu,bB⟩:=av
 unfold w2 at J
 split at J
 case h_2=>cases J
 rename_i i o n c j p m d
 split at J
 case h_2=>cases J
 rename_i fv hF an3 ana fQ Dh vz Qm yP
 split at J
 case isFalse=>cases J
 rename_i sw
 obtain rfl:=Option.some.inj J
 obtain ⟨du,fe,rfl,BT,Dd⟩:=Dg aL
 obtain ⟨LQ,Qn,JS,anb,rfl⟩:=BT.ft
 obtain ⟨r8,Qo,JT,anc,rfl⟩:=Dd.ft
 have ud:=R.heap.obj i
 rw [Qm] at ud
 obtain ⟨hW,Qp,vA,aK,_,_,bK,_⟩:=ud
 rw [JS] at aK
 cases aK
 have ob:=R.heap.obj j
 rw [yP] at ob
 obtain ⟨cZ,hs,kD,a6,_,_,bV,dN,_⟩:=ob
 rw [JT] at a6
 cases a6
 have bc:LQ≠r8:=fun ad=>sw (R.heap.inj i j LQ Qn Qo (by rw [Qm];simp) (by rw [yP];simp) JS (by rw [ad];exact JT))
 refine ⟨.bool false,?_,.bool false⟩
 rw [run_callFunc_extern h1 ab aI h4 h5,az,aq]
 rw [Lib.run_overlaps_apart w t u e hu sz (fun w=>by
   unfold ap at bB
   cases ae:P.info? e with
   | none=>simp [ae] at bB
   | some bU=>simp [ae] at bB;simp [sizeOf,typeInfo,ae,bB]) ⟨LQ,o,none⟩ ⟨r8,p,none⟩ n _ m _ bc hF Dh vA.size kD.size (by simp [World.shape?,bK]) (by simp [World.shape?,bV]) (by simp at dN;omega) (by simp [World.frozen?,bK]) (by simp [World.frozen?,bK])]
 rfl
def l3 (P : Program) (fid : FuncId) : Prop := ∃ fn, P.funcs[fid]? = some fn ∧ (fn.name == "runtime.NumGoroutine") = false ∧ fn.body.isNone = true ∧ Extern.findNext fn = none ∧ Extern.find fn = some (Extern.Atomic.loadT (.int .i64)) ∧ ∃ a, fn.params = #[a]
def l4 (P : Program) (fid : FuncId) : Prop := ∃ fn, P.funcs[fid]? = some fn ∧ (fn.name == "runtime.NumGoroutine") = false ∧ fn.body.isNone = true ∧ Extern.findNext fn = none ∧ Extern.find fn = some (Extern.Atomic.update (Op.intArith .add) .i64 true) ∧ ∃ a b, fn.params = #[a, b] ∧ a ≠ b
def rI (h:I):List V→Option V
 | [.ptr i o]=>match h.get i with
  | .cells c _ _=>match c[o]? with
   | some (.int .i64 x)=>some (.int .i64 x)
   | _=>none
  | _=>none
 | _=>none
def pk (h:I):List V→Option (V×I)
 | [.ptr i o,.int .i64 y]=>match h.get i with
  | .cells c e ex=>match c[o]? with
   | some (.int .i64 x)=>some (.int .i64 (IntKind.i64.wrap (x+y)),h.set i (.cells (lay c o [.int .i64 (IntKind.i64.wrap (x+y))]) e ex))
   | _=>none
  | _=>none
 | _=>none
theorem cell_of {ρ:Ren} {B:Nat} {h:I} {w:World} (H:kC ρ B h w) {i o:Nat} {c:List V} {e:TypeId} {ex:Option Nat} (aE:h.get i=.cells c e ex) {k:IntKind} {x:Int} (al:c[o]?=some (.int k x)) {b bh:Nat} (hi:ρ.ren i=some (b,bh)) :
  w.cell? ⟨b,o,none⟩=some (.int k x)∧w.frozen? ⟨b,o,none⟩=false:=by
 have av:=H.obj i
 rw [aE] at av
 obtain ⟨cZ,hs,arr,aq,aB,b3,hw,cr,aw,af⟩:=av
 rw [aq] at hi;simp at hi
 obtain ⟨rfl,rfl⟩:=hi
 have aT:o<c.length:=(List.getElem?_eq_some_iff.1 al).1
 have h1:(arr.toList.take c.length)[o]?=some arr[o]:=by
  rw [List.getElem?_take,if_pos aT]
  simp [Array.getElem?_eq_getElem (show o<arr.size by omega)]
 have ab:=aw.2 o _ _ al h1
 generalize aN:arr[o]=v at ab
 cases ab
 have aI:arr[o]?=some (.int k x):=by rw [Array.getElem?_eq_getElem (show o<arr.size by omega),aN]
 exact ⟨by simp [World.cell?,hw,aI],by simp [World.frozen?,hw]⟩
theorem ZA {P:Program} {fid:FuncId} {args:List V} {args':Array Value} {v:V} {h:I} (av:l3 P fid) (J:rI h args=some v) {ρ:Ren} {B:Nat} {aG w:World} (R:aM ρ B aG h w) (aL:aQ ρ args args'.toList) :
  ∃ v',(callFunc fid args').run P w=.ok (.value v') w∧ax ρ v v':=by
 obtain ⟨fn,h1,ab,aI,h4,h5,_⟩:=av
 unfold rI at J
 split at J
 case h_2=>cases J
 rename_i i o
 split at J
 case h_2=>cases J
 rename_i c e ex aE
 split at J
 case h_2=>cases J
 rename_i x al
 obtain rfl:=Option.some.inj J
 obtain ⟨bO,rfl,af⟩:=Hr aL
 cases af with
 | ptr hi o=>
 rename_i b bh
 obtain ⟨bf,_⟩:=cell_of R.heap aE al hi
 exact ⟨_,run_call_load h1 ab aI h4 .i64 h5 bf,.int _ _⟩
theorem ZB {P:Program} {fid:FuncId} {args:List V} {args':Array Value} {v:V} {h U:I} (av:l4 P fid) (J:pk h args=some (v,U)) {ρ:Ren} {B:Nat} {aG w:World} (R:aM ρ B aG h w) (aL:aQ ρ args args'.toList) :
  ∃ v' w',(callFunc fid args').run P w=.ok (.value v') w'∧ax ρ v v'∧aM ρ B aG U w':=by
 obtain ⟨fn,h1,ab,aI,h4,h5,_⟩:=av
 unfold pk at J
 split at J
 case h_2=>cases J
 rename_i i o y
 split at J
 case h_2=>cases J
 rename_i c e ex aE
 split at J
 case h_2=>cases J
 rename_i x al
 simp only [Option.some.injEq,Prod.mk.injEq] at J
 obtain ⟨rfl,rfl⟩:=J
 obtain ⟨du,fe,rfl,BT,Dd⟩:=Dg aL
 cases Dd
 cases BT with
 | ptr hi o=>
 rename_i b bh
 obtain ⟨bf,bx⟩:=cell_of R.heap aE al hi
 have aT:o<c.length:=(List.getElem?_eq_some_iff.1 al).1
 have aN:aQ ρ [.int .i64 (IntKind.i64.wrap (x+y))] [.int .i64 (IntKind.i64.wrap (x+y))]:=.cons (.int _ _) (.nil ρ)
 obtain ⟨w',ch,dA⟩:=CZ (P:=P) aE R hi o aN rfl (show o+1≤c.length from aT)
 have bZ:(storeCells ⟨b,o,none⟩ [.int .i64 (IntKind.i64.wrap (x+y))]).run P w=.ok () (w.setCell ⟨b,o,none⟩ (.int .i64 (IntKind.i64.wrap (x+y)))):=by
  have dT:(store ⟨b,o,none⟩ (.int .i64 (IntKind.i64.wrap (x+y)))).run P w=.ok () (w.setCell ⟨b,o,none⟩ (.int .i64 (IntKind.i64.wrap (x+y)))):=by
   rw [run_store P w ⟨b,o,none⟩ (.int .i64 (IntKind.i64.wrap (x+y))) _ (by rfl),bf]
   simp [bx]
  simp [storeCells,Addr.add,dT]
 rw [bZ] at ch
 injection ch with _ hw
 subst hw
 exact ⟨_,_,run_call_add h1 ab aI h4 .i64 h5 bf bx (by simp [Op.intArith]),.int _ _,dA⟩
open Classical in
noncomputable def lV (P:Program) (fid:FuncId) (args:List V) (h:I):Option (V×I) :=
 if mY P fid then (match w2 h args with | some v=>some (v,h) | none=>none)
 else if l3 P fid then (match rI h args with | some v=>some (v,h) | none=>none)
 else if l4 P fid then pk h args else none
theorem ZC {P:Program} {fid:FuncId} {args:List V} {h:I} {v:V} (av:mY P fid) (aL:w2 h args=some v):lV P fid args h=some (v,h):=by
 unfold lV;rw [if_pos av,aL]
theorem ZD {P:Program} {fid:FuncId} (av:l3 P fid):¬mY P fid:=by
 rintro ⟨fn,h1,_,_,_,_,t,_,_,_,az,_⟩
 obtain ⟨JU,g1,_,_,_,_,a,ue⟩:=av
 rw [h1] at g1
 cases g1
 rw [az] at ue
 simp at ue
theorem ZE {P:Program} {fid:FuncId} (av:l4 P fid):¬mY P fid:=by
 rintro ⟨fn,h1,_,_,_,_,t,_,_,_,az,_⟩
 obtain ⟨JU,g1,_,_,_,_,a,b,ue,bc⟩:=av
 rw [h1] at g1
 cases g1
 rw [az] at ue
 simp at ue
 exact bc (ue.1.symm.trans ue.2)
theorem ZF {P:Program} {fid:FuncId} (av:l4 P fid):¬l3 P fid:=by
 rintro ⟨fn,h1,_,_,_,_,t,az⟩
 obtain ⟨JU,g1,_,_,_,_,a,b,ue,bc⟩:=av
 rw [h1] at g1
 cases g1
 rw [az] at ue
 simp at ue
theorem Qq {P:Program} {fid:FuncId} {args:List V} {h:I} {v:V} (av:l3 P fid) (aL:rI h args=some v):lV P fid args h=some (v,h):=by
 unfold lV;rw [if_neg (ZD av),if_pos av,aL]
theorem Qr {P:Program} {fid:FuncId} {args:List V} {h U:I} {v:V} (av:l4 P fid) (aL:pk h args=some (v,U)):lV P fid args h=some (v,U):=by
 unfold lV;rw [if_neg (ZE av),if_neg (ZF av),if_pos av,aL]
theorem ZG {P:Program} {fid:FuncId} {args:List V} {args':Array Value} {v:V} {h U:I} (J:lV P fid args h=some (v,U)) {ρ:Ren} {B:Nat} {aG w:World} (R:aM ρ B aG h w) (aL:aQ ρ args args'.toList) :
  ∃ v' w',(callFunc fid args').run P w=.ok (.value v') w'∧ax ρ v v'∧aM ρ B aG U w':=by
 unfold lV at J
 split at J
 ·rename_i av
  split at J
  case h_2=>cases J
  rename_i u hu
  simp only [Option.some.injEq,Prod.mk.injEq] at J
  obtain ⟨rfl,rfl⟩:=J
  obtain ⟨v',aK,a6⟩:=Zz av hu R aL
  exact ⟨v',w,aK,a6,R⟩
 split at J
 ·rename_i _ av
  split at J
  case h_2=>cases J
  rename_i u hu
  simp only [Option.some.injEq,Prod.mk.injEq] at J
  obtain ⟨rfl,rfl⟩:=J
  obtain ⟨v',aK,a6⟩:=ZA av hu R aL
  exact ⟨v',w,aK,a6,R⟩
 split at J
 ·rename_i _ _ av
  exact ZB av J R aL
 ·cases J
def vB (a:Array Operand):Array Bool:=a.map fun | .const _=>true | _=>false
def dX (P:Program) (t:TypeId) (name:String) (f:FuncId):Prop:=(∀ v w,(method (P.types.size+Made.depth) t v name).run P w=.ok (f,v) w)∧bP P f=true
theorem dX.uniq {P:Program} {t:TypeId} {name:String} {f g:FuncId} (aB:dX P t name f) (aE:dX P t name g):f=g:=by
 have:=(aB.1 .nilIface default).symm.trans (aE.1 .nilIface default)
 injection this with h1
 injection h1
open Classical in
noncomputable def pz (P:Program) (x:V) (name:String) (args:List V):Option Step :=
 match x with
 | .iface t v=>if h:∃ f,dX P t name f then some (.call (Classical.choose h) (v::args)) else none
 | _=>none
theorem Di {P:Program} {x:V} {name:String} {args:List V} {s:Step} (J:pz P x name args=some s):∃ t v f,x=.iface t v∧dX P t name f∧s=.call f (v::args):=by
 unfold pz at J
 split at J
 case h_2=>cases J
 rename_i t v
 split at J
 case isFalse=>cases J
 rename_i ad
 simp only [Option.some.injEq] at J
 exact ⟨t,v,_,rfl,Classical.choose_spec ad,J.symm⟩
theorem Qs {P:Program} {t:TypeId} {v:V} {name:String} {args:List V} {f:FuncId} (hm:dX P t name f):pz P (.iface t v) name args=some (.call f (v::args)):=by
 have ad:∃ f,dX P t name f:=⟨f,hm⟩
 unfold pz
 simp only [dif_pos ad]
 rw [(Classical.choose_spec ad).uniq hm]
open Classical in
noncomputable def gZ (P:Program) (c:Call) (ty:TypeId) (ba:Operand→V) (h:I):Option Step :=
 match c.callee with
 | .builtin .panic=>match c.args.toList.map ba with
  | [.iface _ _]=>some .panic
  | _=>none
 | .builtin b=>
  match mX P b c.argTypes.toList ty (vB c.args) (c.args.toList.map ba) h with
  | some (v,U)=>some (.val v U)
  | none=>none
 | .value f=>
  match ba f with
  | .func (.func fid) first captured=>if bP P fid then some (.call fid (first++c.args.toList.map ba++captured)) else (match lV P fid (first++c.args.toList.map ba++captured) h with | some (v,U)=>some (.val v U) | none=>none)
  | .func (.yield l) [] []=>some (.round l (c.args.toList.map ba))
  | _=>none
 | .invoke r name=>pz P (ba r) name (c.args.toList.map ba)
def eI (o:Option V) (h:I):Option Step:=match o with | some v=>some (.val v h) | none=>none
def dV (o:Option (V×I)):Option Step:=match o with | some (v,h)=>some (.val v h) | none=>none
def nN (o:Option I):Option Step:=match o with | some h=>some (.val .top h) | none=>none
def p9 (P:Program) (s d:TypeId) (x:V) (h:I):Option (V×I) :=
 match P.underlying s,x with
 | some (.slice e),.aj i o n _=>
  if s=d∧n0 P e=true then
   match h.get i with
   | .cells c _ _=>if o+n≤c.length then some (.an n ((c.drop o).take n),h.set i .dead) else none
   | _=>none
  else none
 | _,_=>none
theorem Qt {P:Program} {s d:TypeId} {x v:V} {h U:I} (J:p9 P s d x h=some (v,U)):U≠h:=by
 unfold p9 at J
 split at J
 case h_2=>cases J
 split at J
 case isFalse=>cases J
 split at J
 case h_2=>cases J
 rename_i c a6 ex aE
 split at J
 case isFalse=>cases J
 simp only [Option.some.injEq,Prod.mk.injEq] at J
 intro e
 rename_i i _ _ _ _ _ _ _
 have h1:(h.set i .dead).get i=h.get i:=by rw [J.2,e]
 rw [aE] at h1
 simp [I.set] at h1
theorem aM.mark {ρ:Ren} {B:Nat} {aG:World} {h:I} {w:World} (R:aM ρ B aG h w) {b:Nat} {arr:Array Value} (aB:ρ.frz b=some arr) (b3:B≤b) (k:Nat):aM ρ B aG h (w.freeze ⟨b,k,none⟩ 1):=by
 have bc:∀ j,b≠j→(w.freeze ⟨b,k,none⟩ 1).heap[j]?=w.heap[j]?:=fun j aC=>by
  simp only [World.freeze,Nat.one_ne_zero,if_false,Array.getElem?_modify,if_neg aC]
 have heq:∀ c e ei,w.heap[b]?=some (.cells c e ei)→∃ w3,(w.freeze ⟨b,k,none⟩ 1).heap[b]?=some (.cells c e w3):=fun c e ei ae=>by
  simp only [World.freeze,Nat.one_ne_zero,if_false,Array.getElem?_modify,if_true,ae,Option.map_some]
  exact ⟨_,rfl⟩
 have bn:(w.freeze ⟨b,k,none⟩ 1).heap.size=w.heap.size:=by
  simp only [World.freeze,Nat.one_ne_zero,if_false,Array.size_modify]
 refine ⟨⟨R.heap.gv,R.heap.inj,fun i=>?_,fun fe du h7=>?_,R.heap.glob,by rw [bn];exact R.heap.base⟩,R.below.trans ⟨?_,?_,?_,Nat.le_of_eq bn.symm,fun j aC=>bc j (by omega),?_⟩⟩
 ·by_cases a7:h.get i=.dead
  ·rw [a7];trivial
  ·refine (R.heap.obj i).au (Ren.le.refl ρ) fun fe c aq=>⟨bc fe ?_,fun h=>h⟩
   obtain ⟨cZ,bh,fs,_,_,iS,_⟩:=R.heap.live a7
   rw [aq] at fs
   cases fs
   intro e
   subst e
   rw [aB] at iS;cases iS
 ·obtain ⟨e,ei,ae⟩:=R.heap.frz fe du h7
  by_cases aC:b=fe
  ·subst aC
   obtain ⟨w3,h1⟩:=heq _ _ _ ae
   exact ⟨e,w3,h1⟩
  ·exact ⟨e,ei,(bc fe aC).trans ae⟩
 all_goals simp only [World.freeze,Nat.one_ne_zero,if_false]
 exact Nat.le_refl _
theorem ZH {P:Program} {src dst:TypeId} {x v:V} {bO:Value} {h U:I} (J:p9 P src dst x h=some (v,U)) {ρ:Ren} {B:Nat} {aG w:World} (R:aM ρ B aG h w) (af:ax ρ x bO) :
  Yields P (convert src dst bO) ρ B aG w v U:=by
 unfold p9 at J
 split at J
 case h_2=>cases J
 rename_i e i o n cap hu
 split at J
 case isFalse=>cases J
 rename_i al
 split at J
 case h_2=>cases J
 rename_i c a6 ex aE
 split at J
 case isFalse=>cases J
 rename_i hle
 simp only [Option.some.injEq,Prod.mk.injEq] at J
 obtain ⟨rfl,rfl⟩:=J
 obtain ⟨rfl,he⟩:=al
 have iC:=BR he
 obtain ⟨ρ',le,dA,b,bh,arr,aq,aB,aw,e2⟩:=R.freeze aE
 obtain ⟨cZ,hs,hi,cQ,rfl⟩:=af.ft
 rw [aq] at hi
 cases hi
 obtain ⟨_,_,_,_,_,_,b3⟩:=R.heap.live (i:=i) (by rw [aE];simp)
 rename_i qT ane wQ _ _ _
 rw [aq] at wQ
 cases wQ
 obtain ⟨dB,ei,hw⟩:=dA.heap.frz _ _ aB
 have uM:w.shape? b=some (dB,arr.size):=by simp [World.shape?,hw]
 refine ⟨ρ',.slice (some ⟨b,o,none⟩) n (e8 bh cap),w.freeze ⟨b,arr.size,none⟩ 1,?_,.an o n _ aB cQ ?_ fun k u p0 h1 ab=>?_,dA.mark aB b3 _,le⟩
 ·simp [convert,run_underlying hu,run_underlying iC,markStringish,uM]
 ·rw [List.length_take,List.length_drop];omega
 ·rw [List.getElem?_take] at h1
  split at h1
  case isFalse=>cases h1
  rw [List.getElem?_drop] at h1
  refine (e2.2 (o+k) u p0 h1 ?_).mono le
  have hk:o+k<c.length:=(List.getElem?_eq_some_iff.1 h1).1
  rw [List.getElem?_take,if_pos hk,Array.getElem?_toList]
  exact ab
def Dj (P:Program) (t:TypeId) (m k:V) (h:I):Option (V×I) :=
 match eo P t,m with
 | some (dm,fZ,d),.map i=>
  match h.get i with
  | .map es a1=>
   if ub P false dm k then
    match mC P dm d k es with
    | some (some j)=>
     match es[j]?,(es[j]?).bind fun e=>lK e.2.1,lK k with
     | some e,some a,some b=>if Instr.sameBits 10000 a b=true then some (.tuple [e.2.2,.int .i64 (e.1:Nat)],h.set i (.map (es.modify j fun e=>(e.1,k,e.2.2)) a1)) else none
     | _,_,_=>none
    | some none=>
     match jg P fZ with
     | some z=>some (.tuple [eZ z,.int .i64 (a1:Nat)],h.set i (.map (es++[(a1,k,eZ z)]) (a1+1)))
     | none=>none
    | none=>none
   else none
  | _=>none
 | _,_=>none
def Dk (m s v:V) (h:I):Option I :=
 match m,s with
 | .map i,.int _ st=>
  match h.get i with
  | .map es a1=>
   match es.findIdx? (fun e=>(e.1:Int)==st) with
   | some j=>some (h.set i (.map (es.modify j fun e=>(e.1,e.2.1,v)) a1))
   | none=>none
  | _=>none
 | _,_=>none
theorem e1.find {ρ:Ren} {es:List (Nat×V×V)} {arr:Array MapEntry} (h:e1 ρ es arr) (st:Int):arr.findIdx? (fun e=>(e.born:Int)==st)=es.findIdx? (fun e=>(e.1:Int)==st):=by
 have hm:es.map (fun e=>e.1)=arr.toList.map (fun e=>e.born):=by
  apply List.ext_getElem
  ·simp [h.1]
  ·intro q h1 ab
   simp only [List.getElem_map,Array.getElem_toList]
   simp only [List.length_map] at h1
   exact (h.2 q _ _ (List.getElem?_eq_getElem h1) (Array.getElem?_eq_getElem (by rw [←h.1];exact h1))).1
 have aK:es.findIdx? (fun e=>(e.1:Int)==st)=(es.map (fun e=>e.1)).findIdx? (fun n:Nat=>(n:Int)==st):=by rw [List.findIdx?_map];rfl
 have a6:arr.toList.findIdx? (fun e=>(e.born:Int)==st)=(arr.toList.map (fun e=>e.born)).findIdx? (fun n:Nat=>(n:Int)==st):=by rw [List.findIdx?_map];rfl
 rw [aK,hm,←a6]
 cases arr
 simp
theorem ZI {P:Program} {t:TypeId} {m k v:V} {e0 k':Value} {h U:I} (J:Dj P t m k h=some (v,U)) {ρ:Ren} {B:Nat} {aG w:World} (R:aM ρ B aG h w) (hm:ax ρ m e0) (hk:ax ρ k k') :
  Yields P (Instr.mapEntry t e0 k') ρ B aG w v U:=by
 unfold Dj at J
 split at J
 case h_2=>cases J
 rename_i dm fZ d i cV
 obtain ⟨hu,nz⟩:=uc cV
 split at J
 case h_2=>cases J
 rename_i es a1 aE
 split at J
 case isFalse=>cases J
 rename_i lu
 cases hm with
 | map hi=>
 have av:=R.heap.obj i
 rw [aE] at av
 obtain ⟨b,bh,arr,aq,kn,b3,hw,de⟩:=av
 rw [aq] at hi
 simp at hi
 obtain ⟨rfl,rfl⟩:=hi
 have aT:b<w.heap.size:=(Array.getElem?_eq_some_iff.1 hw).1
 split at J
 ·rename_i j aB
  split at J
  case h_2=>cases J
  rename_i gr a c AM aL al
  split at J
  case isFalse=>cases J
  rename_i Da
  simp only [Option.some.injEq,Prod.mk.injEq] at J
  obtain ⟨rfl,rfl⟩:=J
  obtain ⟨h1,ab⟩:=vx (P:=P) (w:=w) nz hk de aB
  have aC:=ab j rfl
  have jV:j<es.length:=by rw [de.1];exact aC
  obtain ⟨Qu,eK,rG⟩:=de.2 j _ _ (List.getElem?_eq_getElem jV) (Array.getElem?_eq_getElem aC)
  rw [List.getElem?_eq_getElem jV] at aL AM
  simp at aL AM
  subst AM
  have aK:=sv eK aL
  have a6:=sv hk al
  have dA:=R.setObj (o:=.map (es.modify j fun e=>(e.1,k,e.2.2)) a1) (ob:=.map (arr.modify j fun e=>{ e with key:=k' }) a1) aq (by rw [aE];simp) b3 aT (by
   refine ⟨b,bh,arr.modify j (fun e=>{ e with key:=k' }),aq,kn,b3,by simp [aT],by simp [de.1],fun q e dG ae dp=>?_⟩
   rw [List.getElem?_modify] at ae
   rw [Array.getElem?_modify] at dp
   by_cases rH:j=q
   ·subst rH
    rw [List.getElem?_eq_getElem jV] at ae
    rw [Array.getElem?_eq_getElem aC] at dp
    simp at ae dp
    subst ae;subst dp
    obtain ⟨aI,_,h5⟩:=de.2 j _ _ (List.getElem?_eq_getElem jV) (Array.getElem?_eq_getElem aC)
    exact ⟨aI,hk,h5⟩
   ·simp [rH] at ae dp
    exact de.2 q e dG ae dp)
  refine ⟨ρ,.tuple #[arr[j].val,goInt (arr[j].born:Int)],_,?_,?_,dA,Ren.le.refl ρ⟩
  ·simp only [Instr.mapEntry,Sem.run_bind,run_underlying hu,run_getObj_map hw,Result.andThen_ok]
   rw [vy lu hk w,Result.andThen_ok,h1]
   have jW:(Instr.keyThatStays a c).run P w=.ok c w:=by unfold Instr.keyThatStays;rw [if_pos Da];rfl
   simp [Array.getElem?_eq_getElem aC,aK,a6,jW,run_setObj_map hw]
  ·rw [Qu]
   exact ((aQ.cons rG (.cons (.int _ _) (.nil ρ))).arr).tuple
 ·rename_i aB
  split at J
  case h_2=>cases J
  rename_i z bB
  simp only [Option.some.injEq,Prod.mk.injEq] at J
  obtain ⟨rfl,rfl⟩:=J
  obtain ⟨h1,ab⟩:=vx (P:=P) (w:=w) nz hk de aB
  have dA:=R.setObj (o:=.map (es++[(a1,k,eZ z)]) (a1+1)) (ob:=.map (arr.push { key:=k',val:=z,born:=a1 }) (a1+1)) aq (by rw [aE];simp) b3 aT (by
   refine ⟨b,bh,arr.push { key:=k',val:=z,born:=a1 },aq,kn,b3,by simp [aT],by simp [de.1],fun q e dG ae dp=>?_⟩
   rw [List.getElem?_append] at ae
   rw [Array.getElem?_push] at dp
   by_cases wV:q<es.length
   ·rw [if_pos wV] at ae
    rw [if_neg (by rw [←de.1];omega)] at dp
    exact de.2 q e dG ae dp
   ·rw [if_neg wV] at ae
    have Db:q=es.length:=by
     have:=(List.getElem?_eq_some_iff.1 ae).1
     simp at this;omega
    subst Db
    rw [if_pos de.1] at dp
    simp at ae dp
    subst ae;subst dp
    exact ⟨rfl,hk,yD ρ z⟩)
  refine ⟨ρ,.tuple #[z,goInt (a1:Int)],_,?_,?_,dA,Ren.le.refl ρ⟩
  ·simp only [Instr.mapEntry,Sem.run_bind,run_underlying hu,run_getObj_map hw,Result.andThen_ok]
   rw [vy lu hk w,Result.andThen_ok,h1]
   simp [Ho bB,run_setObj_map hw]
  ·exact ((aQ.cons (yD ρ z) (.cons (.int _ _) (.nil ρ))).arr).tuple
 ·cases J
theorem ZJ {P:Program} {t:TypeId} {m s v:V} {e0 bF v':Value} {h U:I} (J:Dk m s v h=some U) {ρ:Ren} {B:Nat} {aG w:World} (R:aM ρ B aG h w) (hm:ax ρ m e0) (bZ:ax ρ s bF) (aN:ax ρ v v') :
  ∃ w',(Instr.entryStore t e0 bF v').run P w=.ok () w'∧aM ρ B aG U w':=by
 unfold Dk at J
 split at J
 case h_2=>cases J
 rename_i i kk st
 split at J
 case h_2=>cases J
 rename_i es a1 aE
 split at J
 case h_2=>cases J
 rename_i j aB
 obtain rfl:_=U:=by simpa using J
 cases bZ
 cases hm with
 | map hi=>
 have av:=R.heap.obj i
 rw [aE] at av
 obtain ⟨b,bh,arr,aq,kn,b3,hw,de⟩:=av
 rw [aq] at hi
 simp at hi
 obtain ⟨rfl,rfl⟩:=hi
 have aT:b<w.heap.size:=(Array.getElem?_eq_some_iff.1 hw).1
 have JV:=de.find st
 rw [aB] at JV
 have jV:j<es.length:=by
  have:=List.findIdx?_eq_some_iff_findIdx_eq.1 aB
  omega
 have aC:j<arr.size:=by rw [←de.1];exact jV
 have dA:=R.setObj (o:=.map (es.modify j fun e=>(e.1,e.2.1,v)) a1) (ob:=.map (arr.modify j fun e=>{ e with val:=v' }) a1) aq (by rw [aE];simp) b3 aT (by
  refine ⟨b,bh,arr.modify j (fun e=>{ e with val:=v' }),aq,kn,b3,by simp [aT],by simp [de.1],fun q e dG ae dp=>?_⟩
  rw [List.getElem?_modify] at ae
  rw [Array.getElem?_modify] at dp
  by_cases rH:j=q
  ·subst rH
   rw [List.getElem?_eq_getElem jV] at ae
   rw [Array.getElem?_eq_getElem aC] at dp
   simp at ae dp
   subst ae;subst dp
   obtain ⟨aI,h4,_⟩:=de.2 j _ _ (List.getElem?_eq_getElem jV) (Array.getElem?_eq_getElem aC)
   exact ⟨aI,h4,aN⟩
  ·simp [rH] at ae dp
   exact de.2 q e dG ae dp)
 refine ⟨_,?_,dA⟩
 simp only [Instr.entryStore,Sem.run_bind,Sem.run_pure,run_getObj_map hw,Result.andThen_ok]
 simp [asInt,asIntOf,JV,run_setObj_map hw]
noncomputable def cG (P:Program) (o:Oper) (ba:Operand→V) (h:I):Option Step :=
 match o.op with
 | .move x=>some (.val (ba x) h)
 | .assign x=>some (.val (ba x) h)
 | .pick c a b=>match ba c with
  | .bool t=>some (.val (if t then ba a else ba b) h)
  | _=>none
 | .alloc e=>dV (vo P e h)
 | .box e x=>dV (mV e (ba x) h)
 | .build t ps=>eI (li P t (ps.toList.map fun p=>(p.1,ba p.2))) h
 | .buildSlice t len ps=>dV (iA P t len (ps.toList.map fun p=>(p.1,ba p.2)) h)
 | .load t a=>eI (i6 P t (ba a) h) h
 | .store t a x=>nN (vn P t (ba a) (ba x) h)
 | .nilCheck x=>match ba x with
  | .ptr i o=>some (.val (.ptr i o) h)
  | .at cs=>some (.val (.at cs) h)
  | .func (.func fid) xs ys=>some (.val (.func (.func fid) xs ys) h)
  | _=>none
 | .binOp op t x y _=>eI (cl P op t x y (ba x) (ba y)) h
 | .unOp op _ x=>eI (rF P op (ba x)) h
 | .convert s d x=>match k8 P s d (ba x) h with
  | some v=>some (.val v h)
  | none=>dV (p9 P s d (ba x) h)
 | .makeInterface t x=>match Df P t with
  | some false=>some (.val (.iface t (ba x)) h)
  | _=>none
 | .makeFunc (.func g) first captured=>some (.val (.func (.func g) (first.toList.map ba) (captured.toList.map ba)) h)
 | .makeMap t r=>dV (yO P t (r.map ba) h)
 | .makeSlice t l c=>dV (i5 P t (ba l) (ba c) h)
 | .slice t x lo hi mx=>eI (jL P t (ba x) (lo.map ba) (hi.map ba) (mx.map ba)) h
 | .fieldAddr s x k=>eI (wL P s (ba x) k) h
 | .field t x k=>eI (yM P t (ba x) k) h
 | .indexAddr t x gm=>eI (ik P t (ba x) (ba gm)) h
 | .index t x gm=>eI (ua P t (ba x) (ba gm)) h
 | .lookup t x gm ok=>eI (nM P t (ba x) (ba gm) ok h) h
 | .mapUpdate t m k x=>nN (qS P t (ba m) (ba k) (ba x) h)
 | .insert t m k x=>nN (qS P t (ba m) (ba k) (ba x) h)
 | .mapEntry t m k=>dV (Dj P t (ba m) (ba k) h)
 | .entryStore _ m s x=>nN (Dk (ba m) (ba s) (ba x) h)
 | .range t x=>dV (jp P t (ba x) h)
 | .next it false=>match r7 (ba it) h with
  | some l=>some (.alts l)
  | none=>none
 | .entry it=>eI (BS (ba it) h) h
 | .typeAssert x _ asserted ok=>eI (LL P (ba x) asserted ok) h
 | .extract t k=>match ba t with
  | .tuple vs=>eI vs[k]? h
  | _=>none
 | .call c=>gZ P c o.type ba h
 | .panic x=>match ba x with
  | .iface _ _=>some .panic
  | _=>none
 | _=>none
theorem yQ {ρ:Ren} {ba:Operand→V} {cg:Operand→Value} (bN:∀ x,ax ρ (ba x) (cg x)):∀ l:List Operand,aQ ρ (l.map ba) (l.map cg)
 | []=>.nil ρ
 | x::l=>.cons (bN x) (yQ bN l)
theorem Qv {ρ:Ren} {ba:Operand→V} {cg:Operand→Value} (bN:∀ x,ax ρ (ba x) (cg x)) (a:Array Operand):c1 ρ (a.toList.map ba) (a.map cg):=by
 have:=yQ bN a.toList
 exact aQ.ij (by simpa using this)
theorem LR {ρ:Ren} {ba:Operand→V} {cg:Operand→Value} (bN:∀ x,ax ρ (ba x) (cg x)):∀ l:List (Nat×Operand),
  px ρ (l.map fun p=>(p.1,ba p.2)) (l.map fun p=>(p.1,cg p.2))
 | []=>trivial
 | x::l=>⟨rfl,bN _,LR bN l⟩
def hX (P:Program) (s:Sem Next) (ρ:Ren) (B:Nat) (aG w:World) (v:V) (U:I):Prop :=
 ∃ ρ' v' w',(s.run P w=.ok (.value v') w'∨(s.run P w=.ok .skip w'∧v'=undef))∧ax ρ' v v'∧aM ρ' B aG U w'∧ρ.le ρ'
theorem Yields.next {P:Program} {s:Sem Value} {ρ:Ren} {B:Nat} {aG w:World} {v:V} {U:I} (y:Yields P s ρ B aG w v U) :
  hX P (do pure (.value (←s))) ρ B aG w v U:=by
 obtain ⟨ρ',v',w',aq,aN,R,hle⟩:=y
 exact ⟨ρ',v',w',.inl (by simp [aq]),aN,R,hle⟩
theorem hX.same {P:Program} {s:Sem Next} {ρ:Ren} {B:Nat} {aG w:World} {v:V} {v':Value} {h:I} (R:aM ρ B aG h w) (aq:s.run P w=.ok (.value v') w) (aN:ax ρ v v') :
  hX P s ρ B aG w v h:=⟨ρ,v',w,.inl aq,aN,R,Ren.le.refl ρ⟩
theorem hX.skip {P:Program} {s:Sem Unit} {ρ:Ren} {B:Nat} {aG w:World} {U:I} (y:∃ w',s.run P w=.ok () w'∧aM ρ B aG U w'):hX P (do s;pure .skip) ρ B aG w .top U:=by
 obtain ⟨w',aq,R⟩:=y
 exact ⟨ρ,undef,w',.inr ⟨by simp [aq],rfl⟩,.top _,R,Ren.le.refl ρ⟩
theorem Dl (ρ:Ren):ax ρ (.tuple []) (.tuple #[]):=.tuple rfl (by simp)
theorem ZK {P:Program} {b:Builtin} {types:Array TypeId} {ty:TypeId} {consts:Array Bool} {args:List V} {args':Array Value} {h U:I} {v:V}
  (J:mX P b types.toList ty consts args h=some (v,U)) {ρ:Ren} {B:Nat} {aG w:World} (R:aM ρ B aG h w) (aL:aQ ρ args args'.toList) :
  hX P (builtin b types ty consts args') ρ B aG w v U:=by
 unfold mX at J
 split at J
 ·rename_i t x bM
  obtain ⟨bO,rfl,af⟩:=Hr aL
  obtain rfl:types=#[t]:=by apply Array.ext';simpa using bM
  split at J
  case h_2=>cases J
  rename_i u hu
  simp at J
  obtain ⟨rfl,rfl⟩:=J
  exact ((Zn hu R af).fO R).next
 ·rename_i t tx s x bM
  obtain ⟨bF,bO,rfl,jk,cn⟩:=Dg aL
  obtain rfl:types=#[t,tx]:=by apply Array.ext';simpa using bM
  exact (Zc J R jk cn).next
 ·rename_i t tx s x bM
  obtain ⟨bF,bO,rfl,jk,cn⟩:=Dg aL
  obtain rfl:types=#[t,tx]:=by apply Array.ext';simpa using bM
  exact (Ze J R jk cn).next
 ·rename_i t tx s x bM
  obtain ⟨bF,bO,rfl,jk,cn⟩:=Dg aL
  obtain rfl:types=#[t,tx]:=by apply Array.ext';simpa using bM
  cases a7:wW P t s x h with
  | none=>simp [a7] at J
  | some ab=>
   simp [a7] at J
   obtain ⟨rfl,rfl⟩:=J
   obtain ⟨w',aq,dA⟩:=Zs (P:=P) (ty:=ty) (ts:=#[t,tx]) rfl a7 R jk cn
   exact Yields.next (s:=Builtin.delete_ #[t,tx] ty #[bF,bO]) ⟨ρ,_,w',aq,Dl ρ,dA,Ren.le.refl ρ⟩
 ·rename_i t x bM
  obtain ⟨bO,rfl,af⟩:=Hr aL
  obtain rfl:types=#[t]:=by apply Array.ext';simpa using bM
  cases a7:oX P t x h with
  | none=>simp [a7] at J
  | some ab=>
   simp [a7] at J
   obtain ⟨rfl,rfl⟩:=J
   obtain ⟨w',aq,dA⟩:=Zx (P:=P) (ty:=ty) a7 R af
   exact Yields.next (s:=Builtin.clear_ #[t] ty #[bO]) ⟨ρ,_,w',aq,Dl ρ,dA,Ren.le.refl ρ⟩
 ·rename_i t x bM
  obtain ⟨bO,rfl,af⟩:=Hr aL
  obtain rfl:types=#[t]:=by apply Array.ext';simpa using bM
  split at J
  case h_2=>cases J
  rename_i u hu
  simp at J
  obtain ⟨rfl,rfl⟩:=J
  exact ((Zy hu R af).fO R).next
 ·split at J
  case h_2=>cases J
  rename_i p8 has
  have aK:=LA aL has
  split at J
  case h_2=>cases J
  rename_i u hu
  simp at J
  obtain ⟨rfl,rfl⟩:=J
  refine .same R ?_ (fd ρ u)
  have:=wR hu w
  rw [←aK] at this
  simpa using this
theorem oY {o:Option (V×I)} {v:V} {h:I} (J:dV o=some (.val v h)):o=some (v,h):=by
 unfold dV at J
 split at J
 ·simp at J;obtain ⟨rfl,rfl⟩:=J;rfl
 ·cases J
theorem oZ {o:Option V} {v:V} {h U:I} (J:eI o h=some (.val v U)):o=some v∧U=h:=by
 unfold eI at J
 split at J
 ·simp at J;obtain ⟨rfl,rfl⟩:=J;exact ⟨rfl,rfl⟩
 ·cases J
theorem w4 {o:Option I} {v:V} {U:I} (J:nN o=some (.val v U)):o=some U∧v=.top:=by
 unfold nN at J
 split at J
 ·simp at J;obtain ⟨rfl,rfl⟩:=J;exact ⟨rfl,rfl⟩
 ·cases J
theorem Hs {ρ:Ren} {ba:Operand→V} {cg:Operand→Value} (bN:∀ x,ax ρ (ba x) (cg x)) (o:Option Operand):Option.Rel (ax ρ) (o.map ba) (o.map cg):=by
 cases o with
 | none=>exact .none
 | some x=>exact .some (bN x)
theorem ZL {P:Program} {o:Oper} {ba:Operand→V} {cg:Operand→Value} {h U:I} {v:V} (J:cG P o ba h=some (.val v U)) {ρ:Ren} {B:Nat} {aG w:World}
  (R:aM ρ B aG h w) (bN:∀ x,ax ρ (ba x) (cg x)):hX P (execOp cg o) ρ B aG w v U:=by
 unfold cG at J
 unfold execOp
 split at J
 ·rename_i x br
  simp only [br]
  simp at J;obtain ⟨rfl,rfl⟩:=J
  exact .same R (Sem.run_pure ..) (bN x)
 ·rename_i x br
  simp only [br]
  simp at J;obtain ⟨rfl,rfl⟩:=J
  exact .same R (Sem.run_pure ..) (bN x)
 ·rename_i c a b br
  simp only [br]
  split at J
  case h_2=>cases J
  rename_i t bM
  simp at J;obtain ⟨rfl,rfl⟩:=J
  have al:=bN c
  rw [bM] at al
  have mD:cg c=.bool t:=tZ al rfl
  refine .same R (v':=if t then cg a else cg b) ?_ ?_
  ·simp [mD,asBool]
  ·cases t
   ·exact bN b
   ·exact bN a
 ·rename_i e br
  simp only [br]
  exact (Y3 (oY J) R).next
 ·rename_i e x br
  simp only [br]
  exact (Y4 (oY J) R (bN x)).next
 ·rename_i t ps br
  simp only [br]
  obtain ⟨aN,he⟩:=oZ J
  subst he
  refine ((Zj aN R ?_).fO R).next
  have:=LR bN ps.toList
  simpa using this
 ·rename_i t len ps br
  simp only [br]
  refine (Zk (oY J) R ?_).next
  have:=LR bN ps.toList
  simpa using this
 ·rename_i t a br
  simp only [br]
  obtain ⟨aN,he⟩:=oZ J
  subst he
  exact ((PZ aN R (bN a)).2.fO R).next
 ·rename_i t a x br
  simp only [br]
  obtain ⟨aN,he⟩:=w4 J
  subst he
  exact .skip (Y2 aN R (bN a) (bN x))
 ·rename_i x br
  simp only [br]
  have af:=bN x
  split at J
  ·rename_i i o aL
   simp at J;obtain ⟨rfl,rfl⟩:=J
   rw [aL] at af
   generalize cg x=bO at af
   obtain ⟨b,c,hi,rfl⟩:=af.mw
   exact .same R (Sem.run_pure ..) (.ptr hi o)
  ·rename_i cs aL
   simp at J;obtain ⟨rfl,rfl⟩:=J
   rw [aL] at af
   generalize cg x=bO at af
   obtain ⟨b,o,arr,ar,av,cn,rfl⟩:=af.sy
   exact .same R (Sem.run_pure ..) af
  ·rename_i fid xs ys aL
   simp at J;obtain ⟨rfl,rfl⟩:=J
   rw [aL] at af
   generalize cg x=bO at af
   have JW:=af
   cases af with
   | func fn ay h1 ab aI h4=>exact .same R (Sem.run_pure ..) JW
  ·cases J
 ·rename_i op t x y Ht br
  simp only [br]
  obtain ⟨aN,he⟩:=oZ J
  subst he
  exact ((Zf aN R (bN x) (bN y)).fO R).next
 ·rename_i op t x br
  simp only [br]
  obtain ⟨aN,he⟩:=oZ J
  subst he
  exact ((Zg aN R (bN x)).fO R).next
 ·rename_i s d x br
  simp only [br]
  cases al:k8 P s d (ba x) h with
  | some u=>
   rw [al] at J
   cases J
   exact (Zi al R (bN x)).next
  | none=>
   rw [al] at J
   exact (ZH (oY J) R (bN x)).next
 ·rename_i t x br
  simp only [br]
  split at J
  case h_2=>cases J
  rename_i bM
  simp at J;obtain ⟨rfl,rfl⟩:=J
  refine Yields.next (.same R (v':=.iface t (cg x)) ?_ (.iface t (bN x)))
  unfold Df at bM
  split at bM
  ·simp at bM
  ·rename_i d pg hu
   cases d with
   | interface ms=>exact absurd rfl (pg ms)
   | _=>simp [Instr.makeInterface,run_underlying hu]
  ·cases bM
 ·rename_i fn first captured br
  simp only [br]
  simp at J;obtain ⟨rfl,rfl⟩:=J
  have h1:=Qv bN first
  have ab:=Qv bN captured
  exact Yields.next (.same R (v':=.func _ (first.map cg) (captured.map cg)) (Sem.run_pure ..) (.func _ rfl h1.1 ab.1 h1.2 ab.2))
 ·rename_i t r br
  simp only [br]
  exact (Zt (oY J) R (Hs bN r)).next
 ·rename_i t l c br
  simp only [br]
  exact (Y8 (oY J) R (bN l) (bN c)).next
 ·rename_i t x lo hi mx br
  simp only [br]
  obtain ⟨aN,he⟩:=oZ J
  subst he
  exact ((Y7 aN R (bN x) (Hs bN lo) (Hs bN hi) (Hs bN mx)).fO R).next
 ·rename_i s x k br
  simp only [br]
  obtain ⟨aN,he⟩:=oZ J
  subst he
  exact ((Y5 aN R (bN x)).fO R).next
 ·rename_i t x k br
  simp only [br]
  obtain ⟨aN,he⟩:=oZ J
  subst he
  exact ((Zl aN R (bN x)).fO R).next
 ·rename_i t x gm br
  simp only [br]
  obtain ⟨aN,he⟩:=oZ J
  subst he
  exact ((Y6 aN R (bN x) (bN gm)).fO R).next
 ·rename_i t x gm br
  simp only [br]
  obtain ⟨aN,he⟩:=oZ J
  subst he
  exact ((Zm aN R (bN x) (bN gm)).fO R).next
 ·rename_i t x gm ok br
  simp only [br]
  obtain ⟨aN,he⟩:=oZ J
  subst he
  exact ((Zq aN R (bN x) (bN gm)).fO R).next
 ·rename_i t m k x br
  simp only [br]
  obtain ⟨aN,he⟩:=w4 J
  subst he
  exact .skip (Qi aN R (bN m) (bN k) (bN x))
 ·rename_i t m k x br
  simp only [br]
  obtain ⟨aN,he⟩:=w4 J
  subst he
  exact .skip (Qi aN R (bN m) (bN k) (bN x))
 ·rename_i t m k br
  simp only [br]
  exact (ZI (oY J) R (bN m) (bN k)).next
 ·rename_i t m s x br
  simp only [br]
  obtain ⟨aN,he⟩:=w4 J
  subst he
  exact .skip (ZJ aN R (bN m) (bN s) (bN x))
 ·rename_i t x br
  simp only [br]
  exact (Zu (oY J) R (bN x)).next
 ·rename_i it br
  split at J<;>simp at J
 ·rename_i it br
  simp only [br]
  obtain ⟨aN,he⟩:=oZ J
  subst he
  exact ((Zv aN R (bN it)).fO R).next
 ·rename_i x C9 asserted ok br
  simp only [br]
  obtain ⟨aN,he⟩:=oZ J
  subst he
  exact ((Zo aN R (bN x)).fO R).next
 ·rename_i t k br
  simp only [br]
  split at J
  case h_2=>cases J
  rename_i vs lS
  obtain ⟨aN,he⟩:=oZ J
  subst he
  have af:=bN t
  rw [lS] at af
  generalize JW:cg t=bO at af
  cases af with
  | tuple bn af=>
   rename_i fP
   have aT:k<vs.length:=(List.getElem?_eq_some_iff.1 aN).1
   have py:k<fP.size:=by rw [←bn];exact aT
   refine Yields.next (.same R (v':=fP[k]) ?_ (af k v _ aN (Array.getElem?_eq_getElem py)))
   simp [Instr.extract,Array.getElem?_eq_getElem py]
 ·rename_i c br
  simp only [br]
  unfold gZ at J
  split at J
  ·split at J<;>simp at J
  ·rename_i b uN ar
   split at J
   case h_2=>cases J
   rename_i u ab hu
   simp at J;obtain ⟨rfl,rfl⟩:=J
   have aL:=yQ bN c.args.toList
   have:=ZK (args':=c.args.map cg) hu R (by simpa using aL)
   have aK:(do let d ←resolve cg c o.type;invoke d.target d.args)=builtin b c.argTypes o.type (vB c.args) (c.args.map cg):=by
    simp [resolve,ar,invoke]
    rfl
   rw [aK]
   exact this
  ·rename_i w5 aB
   split at J
   case h_2=>simp at J
   case h_3=>cases J
   rename_i fid first captured w6
   split at J
   ·cases J
   split at J
   case h_2=>cases J
   rename_i u ab hu
   simp at J
   obtain ⟨rfl,rfl⟩:=J
   have aN:=bN w5
   rw [w6] at aN
   generalize fm:cg w5=v' at aN
   cases aN with
   | func fn wP n9 dy af aX=>
   rename_i oa ko
   have aL:=yQ bN c.args.toList
   have fg:aQ ρ first oa.toList:=c1.list ⟨n9,af⟩
   have dN:aQ ρ captured ko.toList:=c1.list ⟨dy,aX⟩
   have jM:=fg.append (aL.append dN)
   obtain ⟨r',w',aq,qa,dA⟩:=ZG (args':=oa++c.args.map cg++ko) hu R (by simpa using jM)
   refine ⟨ρ,r',w',.inl ?_,qa,dA,Ren.le.refl ρ⟩
   simp [resolve,aB,fm,Deferred.ofValue,invoke]
   simpa using aq
  ·obtain ⟨_,_,_,_,_,h5⟩:=Di J;cases h5
 ·split at J<;>simp at J
 ·cases J
theorem ZM {P:Program} {o:Oper} {ba:Operand→V} {cg:Operand→Value} {h:I} {g:FuncId} {args:List V} (J:cG P o ba h=some (.call g args)) {ρ:Ren} {B:Nat} {aG w:World}
  (R:aM ρ B aG h w) (bN:∀ x,ax ρ (ba x) (cg x)):∃ args',(execOp cg o).run P w=.ok (.enter g args') w∧aQ ρ args args'.toList:=by
 have key:∃ c,o.op=.call c∧gZ P c o.type ba h=some (.call g args):=by
  unfold cG at J
  split at J
  all_goals first
   | (rename_i c br;exact ⟨c,br,J⟩)
   | (simp [dV,eI,nN] at J;done)
   | (unfold dV at J;split at J<;>simp at J;done)
   | (unfold eI at J;split at J<;>simp at J;done)
   | (unfold nN at J;split at J<;>simp at J;done)
   | (split at J<;>(try (unfold dV at J;split at J))<;>simp at J;done)
   | (split at J<;>(try (unfold eI at J;split at J))<;>simp at J;done)
 obtain ⟨c,br,al⟩:=key
 unfold gZ at al
 split at al
 ·split at al<;>simp at al
 ·split at al<;>simp at al
 ·rename_i w5 aB
  split at al
  case h_2=>simp at al
  case h_3=>cases al
  rename_i fid first captured w6
  split at al
  case isFalse=>split at al<;>simp at al
  rename_i eJ
  simp at al
  obtain ⟨rfl,rfl⟩:=al
  have aN:=bN w5
  rw [w6] at aN
  generalize fm:cg w5=v' at aN
  cases aN with
  | func fn wP n9 dy af aX=>
  rename_i oa ko
  have aL:=yQ bN c.args.toList
  refine ⟨oa++c.args.map cg++ko,?_,?_⟩
  ·unfold bP at eJ
   split at eJ
   case h_2=>cases eJ
   rename_i fn iD
   simp only [Bool.and_eq_true,bne_iff_ne,ne_eq] at eJ
   have ar:fn.body.isNone=false:=by cases ar:fn.body<;>simp_all
   unfold execOp
   simp only [br]
   simp [resolve,aB,fm,Deferred.ofValue,invoke,callFunc,iD,eJ.2]
   intro ad
   simp [ad] at eJ
  ·have h1:aQ ρ first oa.toList:=c1.list ⟨n9,af⟩
   have ab:aQ ρ captured ko.toList:=c1.list ⟨dy,aX⟩
   have:=h1.append (aL.append ab)
   simpa using this
 ·rename_i r name fx
  obtain ⟨t,v,f,aq,hm,h5⟩:=Di al
  simp only [Step.call.injEq] at h5
  obtain ⟨rfl,rfl⟩:=h5
  have aN:=bN r
  rw [aq] at aN
  generalize fm:cg r=v' at aN
  cases aN with
  | iface t af=>
  rename_i bO
  have aL:=yQ bN c.args.toList
  refine ⟨#[bO]++c.args.map cg,?_,?_⟩
  ·have eJ:=hm.2
   unfold bP at eJ
   split at eJ
   case h_2=>cases eJ
   rename_i fn iD
   simp only [Bool.and_eq_true,bne_iff_ne,ne_eq] at eJ
   have ar:fn.body.isNone=false:=by cases ar:fn.body<;>simp_all
   unfold execOp
   simp only [br]
   have aB:(callFunc g (#[bO]++c.args.map cg)).run P w=.ok (.enter g (#[bO]++c.args.map cg)) w:=by
    simp [callFunc,iD,eJ.2]
    intro ad
    simp [ad] at eJ
   have he:(Array.extract (#[Value.iface t bO]++c.args.map cg) 1 (#[Value.iface t bO]++c.args.map cg).size)=c.args.map cg:=by
    apply Array.ext'
    simp
    exact List.take_of_length_le (by simp)
   have ay:(#[Value.iface t bO]++c.args.map cg)[0]?=some (.iface t bO):=by rw [Array.getElem?_append_left (show 0<1 by decide)];rfl
   have aK:(do let d ←resolve cg c o.type;invoke d.target d.args)=callMethod (.iface t bO) name (c.args.map cg):=by
    simp only [resolve,fx,fm,pure_bind,invoke,ay,he]
   rw [aK]
   simp only [callMethod,Sem.run_bind,run_program,Result.andThen_ok,hm.1,aB]
  ·simpa using aQ.cons af aL
theorem ZN {P:Program} {o:Oper} {ba:Operand→V} {cg:Operand→Value} {h:I} {l:Nat} {args:List V} (J:cG P o ba h=some (.round l args)) {ρ:Ren} {B:Nat} {aG w:World}
  (R:aM ρ B aG h w) (bN:∀ x,ax ρ (ba x) (cg x)):∃ args' b c,ρ.ren l=some (b,c)∧execOp cg o=Instr.yield b args'∧aQ ρ args args'.toList:=by
 have key:∃ c,o.op=.call c∧gZ P c o.type ba h=some (.round l args):=by
  unfold cG at J
  split at J
  all_goals first
   | (rename_i c br;exact ⟨c,br,J⟩)
   | (simp [dV,eI,nN] at J;done)
   | (unfold dV at J;split at J<;>simp at J;done)
   | (unfold eI at J;split at J<;>simp at J;done)
   | (unfold nN at J;split at J<;>simp at J;done)
   | (split at J<;>(try (unfold dV at J;split at J))<;>simp at J;done)
   | (split at J<;>(try (unfold eI at J;split at J))<;>simp at J;done)
 obtain ⟨c,br,al⟩:=key
 unfold gZ at al
 split at al
 ·split at al<;>simp at al
 ·split at al<;>simp at al
 ·rename_i w5 aB
  split at al
  case h_1=>split at al<;>(try (split at al))<;>simp at al
  case h_3=>cases al
  rename_i b7 w6
  simp at al
  obtain ⟨rfl,rfl⟩:=al
  have aN:=bN w5
  rw [w6] at aN
  generalize fm:cg w5=v' at aN
  cases aN with
  | func fn wP=>cases wP
  | @kB _ b cc ar=>
  have aL:=yQ bN c.args.toList
  refine ⟨c.args.map cg,b,cc,ar,?_,by simpa using aL⟩
  unfold execOp
  simp only [br]
  simp [resolve,aB,fm,Deferred.ofValue,invoke]
 ·obtain ⟨_,_,_,_,_,h5⟩:=Di al;cases h5
theorem ZO {P:Program} {o:Oper} {ba:Operand→V} {cg:Operand→Value} {h:I} {l:List (V×I)} (J:cG P o ba h=some (.alts l)) {ρ:Ren} {B:Nat} {aG w:World}
  (R:aM ρ B aG h w) (bN:∀ x,ax ρ (ba x) (cg x)):∃ v U,(v,U) ∈ l∧hX P (execOp cg o) ρ B aG w v U:=by
 have key:∃ it,o.op=.next it false∧r7 (ba it) h=some l:=by
  unfold cG at J
  split at J
  all_goals first
   | (rename_i it br;cases aJ:r7 (ba it) h with
     | none=>simp [aJ] at J
     | some b7=>simp [aJ] at J;subst J;exact ⟨it,br,aJ⟩)
   | (simp [dV,eI,nN] at J;done)
   | (unfold dV at J;split at J<;>simp at J;done)
   | (unfold eI at J;split at J<;>simp at J;done)
   | (unfold nN at J;split at J<;>simp at J;done)
   | (unfold gZ at J;split at J<;>(split at J)<;>simp at J;done)
   | (split at J<;>(try (unfold dV at J;split at J))<;>simp at J;done)
   | (split at J<;>(try (unfold eI at J;split at J))<;>simp at J;done)
   | (
     exfalso;unfold gZ at J;split at J
     ·split at J<;>simp at J
     ·split at J<;>simp at J
     ·split at J
      ·split at J
       ·simp at J
       ·split at J<;>simp at J
      ·simp at J
      ·cases J
     ·obtain ⟨_,_,_,_,_,h5⟩:=Di J;cases h5)
 obtain ⟨it,br,aJ⟩:=key
 obtain ⟨v,U,hm,aX⟩:=wt (P:=P) (ty:=o.type) aJ R (bN it)
 refine ⟨v,U,hm,?_⟩
 unfold execOp
 simp only [br]
 exact aX.next
theorem ZP {P:Program} {o:Oper} {ba:Operand→V} {cg:Operand→Value} {h:I} (J:cG P o ba h=some .panic) {ρ:Ren} {B:Nat} {aG w:World}
  (R:aM ρ B aG h w) (bN:∀ x,ax ρ (ba x) (cg x)):∃ t v',(execOp cg o).run P w=.halt (.panic (.iface t v')) w:=by
 have key:(∃ x,o.op=.panic x∧∃ t v,ba x=.iface t v)∨(∃ c x,o.op=.call c∧c.callee=.builtin .panic∧c.args.toList=[x]∧∃ t v,ba x=.iface t v):=by
  unfold cG at J
  split at J
  all_goals first
   | (rename_i x br;cases af:ba x<;>simp [af] at J;exact .inl ⟨x,br,_,_,af⟩)
   | (simp [dV,eI,nN] at J;done)
   | (unfold dV at J;split at J<;>simp at J;done)
   | (unfold eI at J;split at J<;>simp at J;done)
   | (unfold nN at J;split at J<;>simp at J;done)
   | (split at J<;>(try (unfold dV at J;split at J))<;>simp at J;done)
   | (split at J<;>(try (unfold eI at J;split at J))<;>simp at J;done)
   | (
     rename_i c br
     unfold gZ at J
     split at J
     ·rename_i fx
      split at J
      ·rename_i t v heq
       cases aw:c.args.toList with
       | nil=>simp [aw] at heq
       | cons x r=>
        rw [aw] at heq
        simp at heq
        obtain ⟨h1,rfl⟩:=heq
        exact .inr ⟨c,x,br,fx,aw,t,v,h1⟩
      ·cases J
     ·split at J<;>simp at J
     ·split at J
      ·split at J
       ·simp at J
       ·split at J<;>simp at J
      ·simp at J
      ·cases J
     ·obtain ⟨_,_,_,_,_,h5⟩:=Di J;cases h5)
 have run:∀ x t v,ba x=.iface t v→∃ t v',cg x=.iface t v'∧(Instr.panic (cg x)).run P w=.halt (.panic (.iface t v')) w:=fun x t v he=>by
  have af:=bN x
  rw [he] at af
  generalize cg x=bO at af
  cases af with
  | iface t aN=>exact ⟨t,_,rfl,by simp [Instr.panic,goPanic,Sem.run]⟩
 rcases key with ⟨x,br,t,v,he⟩ | ⟨c,x,br,fx,iI,t,v,he⟩
 ·obtain ⟨t,v',h1,ab⟩:=run x t v he
  refine ⟨t,v',?_⟩
  unfold execOp
  simp [br,ab]
 ·obtain ⟨t,v',h1,ab⟩:=run x t v he
  refine ⟨t,v',?_⟩
  have aL:c.args=#[x]:=by apply Array.ext';simpa using iI
  unfold execOp
  simp [br,resolve,fx,aL,invoke,builtin,ab]
end Go.Proofs.YtceanabgcnieeaaGreatDoor.Ab
