/-
  Rules of the machine on abstract states. Conditions: as each theorem says.
-/
import Derived.WalkKit
import Derived.Below
import Derived.Laws.AppendOwn
import Derived.Laws.CopyRow
import Derived.Laws.Rows
import Derived.Deep.MidRow
import Derived.Deep.AppendSrc
import Derived.Laws.MakeOwn
import Derived.Lib.AppendZerosOnto
import Derived.Laws.BytesArg
import Derived.Laws.Tables
set_option linter.unusedVariables false
set_option linter.unusedSimpArgs false
namespace Go.Proofs.YtedkjhifbibpmaaGreatDoor.Ab
structure gD (B:Nat) (w w':World):Prop where
 os:w'.os=w.os
 tape:w'.tape=w.tape
 output:w'.output=w.output
 size:w.heap.size≤w'.heap.size
 block:∀ k,k<B→w'.heap[k]?=w.heap[k]?
 drawn:w.drawn≤w'.drawn
theorem gD.below {B:Nat} {w w':World} (h:gD B w w'):RowKit.Below B w w':=⟨h.os,h.tape,h.output,h.size,h.block⟩
theorem gD.refl (B:Nat) (w:World):gD B w w:=⟨rfl,rfl,rfl,Nat.le_refl _,fun _ _=>rfl,Nat.le_refl _⟩
theorem gD.trans {B:Nat} {a b c:World} (h:gD B a b) (k:gD B b c):gD B a c :=
 ⟨k.os.trans h.os,k.tape.trans h.tape,k.output.trans h.output,Nat.le_trans h.size k.size,fun i hi=>(k.block i hi).trans (h.block i hi),Nat.le_trans h.drawn k.drawn⟩
theorem gD.drew {B:Nat} {a w:World} (h:gD B a w):gD B a w.drew:=⟨h.os,h.tape,h.output,h.size,h.block,Nat.le_trans h.drawn (Nat.le_succ _)⟩
theorem gD.alloc {B:Nat} {a w:World} (h:gD B a w) (bM:B≤w.heap.size) (o:Obj):gD B a (w.alloc o) :=
 h.trans ⟨rfl,rfl,rfl,by simp,fun k hk=>RowKit.Below.heap_alloc _ _ _ (by omega),Nat.le_refl _⟩
inductive V where
 | top
 | bool (b:Bool)
 | int (k:IntKind) (n:Int)
 | float (k:FloatKind) (b:Nat)
 | complex (k:FloatKind) (a b:Nat)
 | string (s:ByteArray)
 | nilFunc
 | nilIface
 | c9
 | an
 | kF
 | z0
 | fi
 | ptr (i o:Nat)
 | bc (i o len cap:Nat)
 | ai (n:Nat) (cs:List V)
 | at (cs:List V)
 | map (i:Nat)
 | func (fn:Fn) (first captured:List V)
 | iface (t:TypeId) (v:V)
 | agg (cs:List V)
 | tuple (vs:List V)
 deriving Inhabited
def fX:Value→V
 | .bool b=>.bool b
 | .int k n=>.int k n
 | .float k b=>.float k b
 | .complex k a b=>.complex k a b
 | .string s=>.string s
 | .nilFunc=>.nilFunc
 | .nilIface=>.nilIface
 | .pointer none=>.c9
 | .slice none 0 0=>.an
 | .map none=>.kF
 | .func fn xs ys=>if xs.isEmpty&&ys.isEmpty then .func fn [] [] else .top
 | .tuple xs=>if xs.isEmpty then .tuple [] else .top
 | _=>.top
def fj:Value→V
 | .agg xs=>.agg (xs.toList.map fX)
 | .iface t v=>.iface t (fX v)
 | v=>fX v
inductive bb where
 | dead
 | cells (c:List V) (elem:TypeId) (ex:Option Nat)
 | map (es:List (Nat×V×V)) (clock:Nat)
 | iter (m:Nat) (since:Nat) (seen:List Nat) (pc:Nat)
 | jB (b:Nat) (mk:List Value→Obj) (vs:List V)
structure I where
 n:Nat
 get:Nat→bb
 glob:Nat→Option (List V)
def I.set (h:I) (i:Nat) (o:bb):I:={ h with get:=fun j=>if j=i then o else h.get j }
def I.push (h:I) (o:bb):I:={ h with n:=h.n+1,get:=fun j=>if j=h.n then o else h.get j }
def b2:Nat:=2 ^ 64
def fk (c cap:Nat):Nat:=if cap<b2 then cap else c - (cap - b2)
structure Ren where
 ren:Nat→Option (Nat×Nat)
 frz:Nat→Option (Array Value)
 dfr:List Deferred:=[]
structure Ren.le (ρ ρ':Ren):Prop where
 ren:∀ i x,ρ.ren i=some x→ρ'.ren i=some x
 frz:∀ i x,ρ.frz i=some x→ρ'.frz i=some x
 dfr:ρ'.dfr=ρ.dfr
theorem Ren.le.refl (ρ:Ren):ρ.le ρ:=⟨fun _ _ h=>h,fun _ _ h=>h,rfl⟩
theorem Ren.le.trans {a b c:Ren} (h:a.le b) (k:b.le c):a.le c:=⟨fun i x ag=>k.ren i x (h.ren i x ag),fun i x ag=>k.frz i x (h.frz i x ag),k.dfr.trans h.dfr⟩
inductive aA (ρ:Ren):V→Value→Prop
 | top (v):aA ρ .top v
 | bool (b):aA ρ (.bool b) (.bool b)
 | int (k n):aA ρ (.int k n) (.int k n)
 | float (k b):aA ρ (.float k b) (.float k b)
 | complex (k a b):aA ρ (.complex k a b) (.complex k a b)
 | string (s):aA ρ (.string s) (.string s)
 | nilFunc:aA ρ .nilFunc .nilFunc
 | nilIface:aA ρ .nilIface .nilIface
 | c9:aA ρ .c9 (.pointer none)
 | an:aA ρ .an (.slice none 0 0)
 | kF:aA ρ .kF (.map none)
 | z0 (a:Option Addr) (aO:True):aA ρ .z0 (.slice a 0 0)
 | fi (a:Addr) (c:Nat):aA ρ .fi (.slice (some a) 0 c)
 | ptr {i b c:Nat} (h:ρ.ren i=some (b,c)) (o:Nat):aA ρ (.ptr i o) (.pointer (some ⟨b,o,none⟩))
 | bc {i b c:Nat} (h:ρ.ren i=some (b,c)) (o len cap:Nat) (az:len≤fk c cap) :
   aA ρ (.bc i o len cap) (.slice (some ⟨b,o,none⟩) len (fk c cap))
 | ai {b:Nat} (o n cap:Nat) {arr:Array Value} {cs:List V} (ak:ρ.frz b=some arr) (aG:n≤cap) (aR:o+cs.length≤arr.size)
   (ag:∀ (k:Nat) (v:V) (v':Value),cs[k]?=some v→arr[o+k]?=some v'→aA ρ v v'):aA ρ (.ai n cs) (.slice (some ⟨b,o,none⟩) n cap)
 | eU (a:Option Addr) (c:Nat) (aO:a=none→c=0):aA ρ (.ai 0 []) (.slice a 0 c)
 | at {b:Nat} (o:Nat) {arr:Array Value} {cs:List V} (ak:ρ.frz b=some arr) (aR:o+cs.length≤arr.size)
   (ag:∀ (k:Nat) (v:V) (v':Value),cs[k]?=some v→arr[o+k]?=some v'→aA ρ v v'):aA ρ (.at cs) (.pointer (some ⟨b,o,none⟩))
 | map {i b c:Nat} (h:ρ.ren i=some (b,c)):aA ρ (.map i) (.map (some b))
 | func (fn:Fn) {xs ys:List V} {eV vV:Array Value} (U:xs.length=eV.size) (bq:ys.length=vV.size)
   (ag:∀ (k:Nat) (v:V) (v':Value),xs[k]?=some v→eV[k]?=some v'→aA ρ v v') (bd:∀ (k:Nat) (v:V) (v':Value),ys[k]?=some v→vV[k]?=some v'→aA ρ v v') :
   aA ρ (.func fn xs ys) (.func fn eV vV)
 | iface (t:TypeId) {v:V} {v':Value} (h:aA ρ v v'):aA ρ (.iface t v) (.iface t v')
 | agg {xs:List V} {eV:Array Value} (U:xs.length=eV.size) (ag:∀ (k:Nat) (v:V) (v':Value),xs[k]?=some v→eV[k]?=some v'→aA ρ v v'):aA ρ (.agg xs) (.agg eV)
 | tuple {xs:List V} {eV:Array Value} (U:xs.length=eV.size) (ag:∀ (k:Nat) (v:V) (v':Value),xs[k]?=some v→eV[k]?=some v'→aA ρ v v'):aA ρ (.tuple xs) (.tuple eV)
theorem aA.vQ {ρ ρ':Ren} (BE:∀ i x,ρ.ren i=some x→ρ'.ren i=some x) (FC:∀ i x,ρ.frz i=some x→ρ'.frz i=some x) {v:V} {v':Value} (h:aA ρ v v'):aA ρ' v v':=by
 induction h with
 | top v=>exact .top v
 | bool b=>exact .bool b
 | int k n=>exact .int k n
 | float k b=>exact .float k b
 | complex k a b=>exact .complex k a b
 | string s=>exact .string s
 | nilFunc=>exact .nilFunc
 | nilIface=>exact .nilIface
 | c9=>exact .c9
 | an=>exact .an
 | kF=>exact .kF
 | z0 a aO=>exact .z0 a aO
 | fi a c=>exact .fi a c
 | ptr h o=>exact .ptr (BE _ _ h) o
 | bc h o len cap az=>exact .bc (BE _ _ h) o len cap az
 | ai o n cap ak aG aR _ ih=>exact .ai o n cap (FC _ _ ak) aG aR ih
 | eU a c aO=>exact .eU a c aO
 | «at» o ak aR _ ih=>exact .at o (FC _ _ ak) aR ih
 | map h=>exact .map (BE _ _ h)
 | func fn U bq _ _ lb N9=>exact .func fn U bq lb N9
 | iface t _ ih=>exact .iface t ih
 | agg U _ ih=>exact .agg U ih
 | tuple U _ ih=>exact .tuple U ih
theorem aA.mono {ρ ρ':Ren} (hρ:ρ.le ρ') {v:V} {v':Value} (h:aA ρ v v'):aA ρ' v v':=h.vQ hρ.ren hρ.frz
theorem aA.dfr {ρ:Ren} {v:V} {v':Value} (h:aA ρ v v') (d:List Deferred):aA { ρ with dfr:=d } v v':=aA.vQ (ρ:=ρ) (ρ':={ ρ with dfr:=d }) (fun _ _ h=>h) (fun _ _ h=>h) h
def aT (ρ:Ren) (l:List V) (b0:List Value):Prop:=l.length=b0.length∧∀ (k:Nat) (v:V) (v':Value),l[k]?=some v→b0[k]?=some v'→aA ρ v v'
section
variable {ρ ρ':Ren} {l m:List V} {b0 fz:List Value}
theorem aT.mono (hρ:ρ.le ρ') (h:aT ρ l b0):aT ρ' l b0 :=
 ⟨h.1,fun k v v' a b=>(h.2 k v v' a b).mono hρ⟩
theorem aT.nil (ρ:Ren):aT ρ [] []:=⟨rfl,by simp⟩
theorem aT.cons {v:V} {v':Value} (h:aA ρ v v') (az:aT ρ l b0):aT ρ (v::l) (v'::b0):=by
 refine ⟨by simp [az.1],fun k a b aO ak=>?_⟩
 cases k with
 | zero=>simp at aO ak;subst aO;subst ak;exact h
 | succ k=>exact az.2 k a b (by simpa using aO) (by simpa using ak)
theorem aT.di {v:V} (h:aT ρ (v::l) b0):∃ v' im,b0=v'::im∧aA ρ v v'∧aT ρ l im:=by
 cases b0 with
 | nil=>have:=h.1;simp at this
 | cons v' im=>exact ⟨v',im,rfl,h.2 0 v v' rfl rfl,⟨by simpa using h.1,fun k a b aO ak=>h.2 (k+1) a b (by simpa using aO) (by simpa using ak)⟩⟩
theorem aT.eq_nil (h:aT ρ [] b0):b0=[]:=by
 have:=h.1;simp at this;exact List.eq_nil_of_length_eq_zero this.symm
theorem aT.get (h:aT ρ l b0) {k:Nat} {v:V} (aD:l[k]?=some v):∃ v',b0[k]?=some v'∧aA ρ v v':=by
 have hk:k<l.length:=(List.getElem?_eq_some_iff.1 aD).1
 have eB:k<b0.length:=by rw [←h.1];exact hk
 exact ⟨b0[k],List.getElem?_eq_getElem eB,h.2 k v _ aD (List.getElem?_eq_getElem eB)⟩
theorem aT.take (h:aT ρ l b0) (n:Nat):aT ρ (l.take n) (b0.take n):=by
 refine ⟨by simp [h.1],fun k a b aO ak=>?_⟩
 rw [List.getElem?_take] at aO ak
 split at aO<;>simp_all
 exact h.2 k a b aO ak
theorem aT.drop (h:aT ρ l b0) (n:Nat):aT ρ (l.drop n) (b0.drop n):=by
 refine ⟨by simp [h.1],fun k a b aO ak=>?_⟩
 rw [List.getElem?_drop] at aO ak
 exact h.2 _ a b aO ak
theorem aT.append (h:aT ρ l b0) (g:aT ρ m fz):aT ρ (l++m) (b0++fz):=by
 refine ⟨by simp [h.1,g.1],fun k a b aO ak=>?_⟩
 by_cases hk:k<l.length
 ·rw [List.getElem?_append_left hk] at aO
  rw [List.getElem?_append_left (by rw [←h.1];exact hk)] at ak
  exact h.2 k a b aO ak
 ·rw [List.getElem?_append_right (by omega)] at aO
  rw [List.getElem?_append_right (by rw [←h.1];omega)] at ak
  rw [←h.1] at ak
  exact g.2 _ a b aO ak
theorem aT.set (h:aT ρ l b0) {v:V} {v':Value} (aD:aA ρ v v') (n:Nat):aT ρ (l.set n v) (b0.set n v'):=by
 refine ⟨by simp [h.1],fun k a b aO ak=>?_⟩
 rw [List.getElem?_set] at aO ak
 by_cases hk:n=k
 ·subst hk
  simp at aO ak
  obtain ⟨_,rfl⟩:=aO
  obtain ⟨_,rfl⟩:=ak
  exact aD
 ·simp [hk] at aO ak
  exact h.2 k a b aO ak
theorem aT.replicate {v:V} {v':Value} (aD:aA ρ v v') (n:Nat):aT ρ (List.replicate n v) (List.replicate n v'):=by
 refine ⟨by simp,fun k a b aO ak=>?_⟩
 simp [List.getElem?_replicate] at aO ak
 obtain ⟨_,rfl⟩:=aO
 obtain ⟨_,rfl⟩:=ak
 exact aD
theorem aT.of_map {f:Value→V} (aq:∀ v,aA ρ (f v) v) (l:List Value):aT ρ (l.map f) l:=by
 refine ⟨by simp,fun k a b aO ak=>?_⟩
 simp [ak] at aO
 subst aO
 exact aq b
end
def dH (ρ:Ren) (xs:List V) (eV:Array Value):Prop:=xs.length=eV.size∧∀ (k:Nat) (v:V) (v':Value),xs[k]?=some v→eV[k]?=some v'→aA ρ v v'
theorem dH.list {ρ:Ren} {xs:List V} {eV:Array Value} (h:dH ρ xs eV):aT ρ xs eV.toList:=⟨by simpa using h.1,by simpa using h.2⟩
theorem aT.arr {ρ:Ren} {xs:List V} {eV:List Value} (h:aT ρ xs eV):dH ρ xs eV.toArray:=⟨by simpa using h.1,by simpa using h.2⟩
theorem aT.iq {ρ:Ren} {xs:List V} {eV:Array Value} (h:aT ρ xs eV.toList):dH ρ xs eV:=⟨by simpa using h.1,by simpa using h.2⟩
theorem dH.agg {ρ:Ren} {xs:List V} {eV:Array Value} (h:dH ρ xs eV):aA ρ (.agg xs) (.agg eV):=.agg h.1 h.2
theorem dH.tuple {ρ:Ren} {xs:List V} {eV:Array Value} (h:dH ρ xs eV):aA ρ (.tuple xs) (.tuple eV):=.tuple h.1 h.2
theorem dH.mono {ρ ρ':Ren} (hρ:ρ.le ρ') {l:List V} {b0:Array Value} (h:dH ρ l b0):dH ρ' l b0:=⟨h.1,fun k v v' a b=>(h.2 k v v' a b).mono hρ⟩
theorem zR (ρ:Ren) (v:Value):aA ρ (fX v) v:=by
 unfold fX
 split
 ·exact .bool _
 ·exact .int _ _
 ·exact .float _ _
 ·exact .complex _ _ _
 ·exact .string _
 ·exact .nilFunc
 ·exact .nilIface
 ·exact .c9
 ·exact .an
 ·exact .kF
 ·rename_i fn xs ys
  split
  ·rename_i h
   simp at h
   obtain ⟨rfl,rfl⟩:=h
   exact .func fn rfl rfl (by simp) (by simp)
  ·exact .top _
 ·rename_i xs
  split
  ·rename_i h
   simp at h
   subst h
   exact .tuple rfl (by simp)
  ·exact .top _
 ·exact .top _
theorem i6 (ρ:Ren) (v:Value):aA ρ (fj v) v:=by
 unfold fj
 split
 ·exact (aT.of_map (zR ρ) _).iq.agg
 ·exact .iface _ (zR ρ _)
 ·exact zR ρ v
def lN:V→Option Value
 | .bool b=>some (.bool b)
 | .int k n=>some (.int k n)
 | .float k b=>some (.float k b)
 | .complex k a b=>some (.complex k a b)
 | .string s=>some (.string s)
 | .nilFunc=>some .nilFunc
 | .nilIface=>some .nilIface
 | .c9=>some (.pointer none)
 | .an=>some (.slice none 0 0)
 | .kF=>some (.map none)
 | .tuple []=>some (.tuple #[])
 | _=>none
def be:List V→Option (List Value)
 | []=>some []
 | v::r=>match lN v,be r with
  | some a,some l=>some (a::l)
  | _,_=>none
def mz:V→Option Value
 | .agg xs=>(be xs).map fun l=>.agg l.toArray
 | .iface t v=>(lN v).map fun a=>.iface t a
 | v=>lN v
theorem vW {ρ:Ren} {v:V} {v' a:Value} (h:aA ρ v v') (aq:lN v=some a):v'=a:=by
 cases h<;>simp [lN] at aq<;>try exact aq
 rename_i xs eV U ag
 cases xs with
 | nil=>simp at aq U;rw [←aq,Array.eq_empty_of_size_eq_zero U.symm]
 | cons x t=>simp at aq
theorem Oa {ρ:Ren}:∀ {l:List V} {b0 a:List Value},aT ρ l b0→be l=some a→b0=a
 | [],b0,a,h,aq=>by simp [be] at aq;rw [aq];exact h.eq_nil
 | v::l,b0,a,h,aq=>by
  obtain ⟨v',im,rfl,aD,bq⟩:=h.di
  unfold be at aq
  split at aq
  ·rename_i b c ak au
   simp at aq
   rw [←aq,vW aD ak,Oa bq au]
  ·cases aq
theorem vX {ρ:Ren} {v:V} {v' a:Value} (h:aA ρ v v') (aq:mz v=some a):v'=a:=by
 unfold mz at aq
 split at aq
 ·cases h with
  | agg U ag=>
   rename_i xs eV
   cases az:be xs with
   | none=>simp [az] at aq
   | some l=>
    simp [az] at aq
    have:=Oa (dH.list ⟨U,ag⟩) az
    rw [←aq,←this]
 ·cases h with
  | iface t h=>
   rename_i u sv
   cases hu:lN u with
   | none=>simp [hu] at aq
   | some b=>simp [hu] at aq;rw [←aq,vW h hu]
 ·exact vW h aq
def BF (ex:Option Nat) (bw size len:Nat):Prop:=match ex with | none=>size=len | some s=>size=bw * s∧bw<2 ^ 63
def fS (ρ:Ren) (es:List (Nat×V×V)) (arr:Array MapEntry):Prop :=
 es.length=arr.size∧∀ (k:Nat) (e:Nat×V×V) (dh:MapEntry),es[k]?=some e→arr[k]?=some dh→e.1=dh.born∧aA ρ e.2.1 dh.key∧aA ρ e.2.2 dh.val
def nz (ρ:Ren) (B:Nat) (w:World) (i:Nat):bb→Prop
 | .dead=>True
 | .cells c e ex=>∃ b bw arr,ρ.ren i=some (b,bw)∧ρ.frz b=none∧B≤b∧w.heap[b]?=some (.cells arr e (0,0))∧c.length≤arr.size∧aT ρ c (arr.toList.take c.length) ∧
   BF ex bw arr.size c.length
 | .map es clock=>∃ b bw arr,ρ.ren i=some (b,bw)∧ρ.frz b=none∧B≤b∧w.heap[b]?=some (.map arr clock)∧fS ρ es arr
 | .iter m since seen pc=>∃ b bw bm xC,ρ.ren i=some (b,bw)∧ρ.frz b=none∧B≤b∧ρ.ren m=some (bm,xC)∧w.heap[b]?=some (.mapIter (some bm) since seen.toArray pc)
 | .jB b mk vs=>∃ bw arr,ρ.ren i=some (b,bw)∧ρ.frz b=none∧B≤b∧w.heap[b]?=some (mk arr)∧aT ρ vs arr
structure oV (ρ:Ren) (B:Nat) (h:I) (w:World):Prop where
 kg:∀ i,h.n≤i→ρ.ren i=none
 inj:∀ i j b c j6,h.get i≠.dead→h.get j≠.dead→ρ.ren i=some (b,c)→ρ.ren j=some (b,j6)→i=j
 obj:∀ i,nz ρ B w i (h.get i)
 frz:∀ b arr,ρ.frz b=some arr→∃ e fl,w.heap[b]?=some (.cells arr e fl)
 glob:∀ g cs,h.glob g=some cs→∃ arr,ρ.frz g=some arr∧dH ρ cs arr
 base:B≤w.heap.size
abbrev ah:=Nat→V
def ah.put (f:ah) (d:Option Tmp) (v:V):ah :=
 match d with
 | some d=>fun t=>if t=d then v else f t
 | none=>f
def ah.eval (f:ah) (h:I):Operand→V
 | .tmp t=>f t
 | .const v=>fj v
 | .global g=>match h.glob g with | some cs=>.at cs | none=>.top
 | .func bt=>.func (.func bt) [] []
structure dS (ρ:Ren) (n:Nat) (f:ah) (a:Act):Prop where
 tmps:∀ t,aA ρ (f t) (a.tmps.getD t undef)
 size:a.tmps.size=n
 defers:a.defers=ρ.dfr
theorem dS.mono {ρ ρ':Ren} (hρ:ρ.le ρ') {n:Nat} {f:ah} {a:Act} (h:dS ρ n f a):dS ρ' n f a:=⟨fun t=>(h.tmps t).mono hρ,h.size,h.defers.trans hρ.dfr.symm⟩
def sw (n:Nat) (d:Option Tmp):Bool:=match d with | some t=>decide (t<n) | none=>true
theorem dS.put {ρ:Ren} {n:Nat} {f:ah} {a:Act} (h:dS ρ n f a) {v:V} {v':Value} (aD:aA ρ v v') (d:Option Tmp) (a7:sw n d=true) :
  dS ρ n (f.put d v) (a.put d v'):=by
 cases d with
 | none=>exact h
 | some d=>
  have a7:d<n:=by simpa [sw] using a7
  refine ⟨fun t=>?_,by simp [Act.put,h.size],h.defers⟩
  simp only [Act.put,ah.put]
  by_cases bq:t=d
  ·subst bq
   simp [h.size,a7,aD]
  ·have:=h.tmps t
   simp [bq] at this⊢
   rw [Array.getElem?_setIfInBounds_ne (by omega)]
   exact this
theorem oV.vy {ρ:Ren} {B:Nat} {h:I} {w:World} (H:oV ρ B h w) (g:Nat):aA ρ (match h.glob g with | some cs=>.at cs | none=>.top) (.pointer (some ⟨g,0,none⟩)):=by
 cases av:h.glob g with
 | none=>exact .top _
 | some cs=>
  obtain ⟨arr,aq,aH⟩:=H.glob g cs av
  exact .at 0 aq (by simp [aH.1]) (by simpa using aH.2)
theorem dS.eval {ρ:Ren} {n B:Nat} {f:ah} {a:Act} {h:I} {w:World} (aq:dS ρ n f a) (H:oV ρ B h w) (x:Operand):aA ρ (f.eval h x) (a.eval x):=by
 cases x with
 | tmp t=>exact aq.tmps t
 | const v=>exact i6 ρ v
 | global g=>exact H.vy g
 | func bt=>exact .func _ rfl rfl (by simp) (by simp)
open Go Go.RowKit
structure aQ (ρ:Ren) (B:Nat) (aK:World) (h:I) (w:World):Prop where
 heap:oV ρ B h w
 below:gD B aK w
def cI (P:Program) (t:TypeId):Option Nat:=(P.info? t).map (·.size)
def Em (P:Program) (t:TypeId):Option Nat:=(P.info? t).map (·.bytes)
def lO (P:Program) (t:TypeId):Option Value:=(P.info? t).bind (·.zero)
def pO (P:Program) (t:TypeId):Option Bool:=(P.underlying t).map (·.isRow)
def s4 (P:Program) (t:TypeId):Option TypeId:=match P.underlying t with | some (.slice e)=>some e | _=>none
theorem oV.lt {ρ:Ren} {B:Nat} {h:I} {w:World} (H:oV ρ B h w) {i b bw:Nat} (hi:ρ.ren i=some (b,bw)):i<h.n:=by
 apply Nat.lt_of_not_le
 intro hle
 rw [H.kg i hle] at hi
 cases hi
theorem oV.live {ρ:Ren} {B:Nat} {h:I} {w:World} (H:oV ρ B h w) {i:Nat} (hi:h.get i≠.dead) :
  ∃ b bw,ρ.ren i=some (b,bw)∧b<w.heap.size∧i<h.n∧ρ.frz b=none∧B≤b:=by
 have:=H.obj i
 cases av:h.get i with
 | dead=>exact absurd av hi
 | cells c e ex=>
  rw [av] at this
  obtain ⟨b,bw,arr,aH,aq,bM,hw,_⟩:=this
  exact ⟨b,bw,aH,(Array.getElem?_eq_some_iff.1 hw).1,H.lt aH,aq,bM⟩
 | map es cl=>
  rw [av] at this
  obtain ⟨b,bw,arr,aH,aq,bM,hw,_⟩:=this
  exact ⟨b,bw,aH,(Array.getElem?_eq_some_iff.1 hw).1,H.lt aH,aq,bM⟩
 | iter m s l st=>
  rw [av] at this
  obtain ⟨b,bw,bm,xC,aH,aq,bM,hm,hw⟩:=this
  exact ⟨b,bw,aH,(Array.getElem?_eq_some_iff.1 hw).1,H.lt aH,aq,bM⟩
 | jB b mk vs=>
  rw [av] at this
  obtain ⟨bw,arr,aH,aq,bM,hw,az⟩:=this
  exact ⟨b,bw,aH,(Array.getElem?_eq_some_iff.1 hw).1,H.lt aH,aq,bM⟩
theorem fS.mono {ρ ρ':Ren} (hρ:ρ.le ρ') {es:List (Nat×V×V)} {arr:Array MapEntry} (h:fS ρ es arr):fS ρ' es arr :=
 ⟨h.1,fun k e dh a b=>let ⟨x,y,z⟩:=h.2 k e dh a b;⟨x,y.mono hρ,z.mono hρ⟩⟩
theorem nz.al {ρ ρ':Ren} (hρ:ρ.le ρ') {B:Nat} {w w':World} {i:Nat} {o:bb} (h:nz ρ B w i o)
  (hk:∀ b c,ρ.ren i=some (b,c)→w'.heap[b]?=w.heap[b]?∧(ρ.frz b=none→ρ'.frz b=none)):nz ρ' B w' i o:=by
 cases o with
 | dead=>trivial
 | cells c e ex=>
  obtain ⟨b,bw,arr,aH,aq,bM,hw,au,az,ag⟩:=h
  exact ⟨b,bw,arr,hρ.ren _ _ aH,(hk b bw aH).2 aq,bM,(hk b bw aH).1.trans hw,au,az.mono hρ,ag⟩
 | map es cl=>
  obtain ⟨b,bw,arr,aH,aq,bM,hw,hm⟩:=h
  exact ⟨b,bw,arr,hρ.ren _ _ aH,(hk b bw aH).2 aq,bM,(hk b bw aH).1.trans hw,hm.mono hρ⟩
 | iter m s l st=>
  obtain ⟨b,bw,bm,xC,aH,aq,bM,hm,hw⟩:=h
  exact ⟨b,bw,bm,xC,hρ.ren _ _ aH,(hk b bw aH).2 aq,bM,hρ.ren _ _ hm,(hk b bw aH).1.trans hw⟩
 | jB b mk vs=>
  obtain ⟨bw,arr,aH,aq,bM,hw,az⟩:=h
  exact ⟨bw,arr,hρ.ren _ _ aH,(hk b bw aH).2 aq,bM,(hk b bw aH).1.trans hw,az.mono hρ⟩
def Ren.add (ρ:Ren) (i b bw:Nat):Ren:={ ρ with ren:=fun j=>if j=i then some (b,bw) else ρ.ren j }
theorem Ren.qO {ρ:Ren} {i:Nat} (hi:ρ.ren i=none) (b bw:Nat):ρ.le (ρ.add i b bw):=by
 refine ⟨fun j x aS=>?_,fun _ _ h=>h,rfl⟩
 simp only [Ren.add]
 by_cases hp:j=i
 ·subst hp;rw [hi] at aS;cases aS
 ·simp [hp,aS]
theorem Ren.l8 {ρ:Ren} {i b bw:Nat}:(ρ.add i b bw).ren i=some (b,bw):=by simp [Ren.add]
theorem aQ.yT {ρ:Ren} {B:Nat} {aK:World} {h:I} {w w':World} (R:aQ ρ B aK h w) {o:bb} (bw:Nat)
  (bf:w.heap.size<w'.heap.size) (hold:∀ k,k<w.heap.size→w'.heap[k]?=w.heap[k]?) (ak:gD B w w')
  (l9:nz (ρ.add h.n w.heap.size bw) B w' h.n o) :
  ρ.le (ρ.add h.n w.heap.size bw)∧aQ (ρ.add h.n w.heap.size bw) B aK (h.push o) w':=by
 have hle:=Ren.qO (R.heap.kg _ (Nat.le_refl _)) w.heap.size bw
 have j0:∀ b arr,ρ.frz b=some arr→b<w.heap.size:=fun b arr aq=>by
  obtain ⟨e,fl,hw⟩:=R.heap.frz b arr aq
  exact (Array.getElem?_eq_some_iff.1 hw).1
 refine ⟨hle,⟨⟨fun i hi=>?_,fun i j b bh bD hi aS h1 aa=>?_,fun i=>?_,fun b arr aq=>?_,fun g cs av=>?_,?_⟩,R.below.trans ak⟩⟩
 ·simp only [I.push] at hi
  simp [Ren.add,show i≠h.n by omega,R.heap.kg i (by omega)]
 ·simp only [I.push] at hi aS
  simp only [Ren.add] at h1 aa
  by_cases ch:i=h.n<;>by_cases h7:j=h.n
  ·omega
  ·simp [ch] at h1;simp [h7] at aa aS
   obtain ⟨cF,qP,aH,aN,_⟩:=R.heap.live aS
   rw [aH] at aa;simp at aa;omega
  ·simp [h7] at aa;simp [ch] at h1 hi
   obtain ⟨cF,qP,aH,aN,_⟩:=R.heap.live hi
   rw [aH] at h1;simp at h1;omega
  ·simp [ch] at h1 hi;simp [h7] at aa aS
   exact R.heap.inj i j b bh bD hi aS h1 aa
 ·by_cases ch:i=h.n
  ·subst ch
   simpa only [I.push,if_true] using l9
  ·simp only [I.push,if_neg ch]
   by_cases a7:h.get i=.dead
   ·rw [a7];trivial
   ·refine (R.heap.obj i).al hle fun b bh aH=>⟨hold b ?_,fun h=>h⟩
    obtain ⟨cF,qP,gj,aN,_⟩:=R.heap.live a7
    rw [gj] at aH;simp at aH
    obtain ⟨rfl,rfl⟩:=aH
    exact aN
 ·obtain ⟨e,fl,hw⟩:=R.heap.frz b arr aq
  exact ⟨e,fl,(hold b (j0 b arr aq)).trans hw⟩
 ·obtain ⟨arr,aq,aH⟩:=R.heap.glob g cs av
  exact ⟨arr,aq,aH.mono hle⟩
 ·exact Nat.le_trans R.heap.base (Nat.le_of_lt bf)
theorem aQ.push {ρ:Ren} {B:Nat} {aK:World} {h:I} {w w':World} (R:aQ ρ B aK h w) {c:List V} {arr:Array Value} {e:TypeId} {ex:Option Nat} (bw:Nat)
  (bf:w.heap.size<w'.heap.size) (hold:∀ k,k<w.heap.size→w'.heap[k]?=w.heap[k]?) (l9:w'.heap[w.heap.size]?=some (.cells arr e (0,0)))
  (ak:gD B w w') (au:c.length≤arr.size) (az:aT ρ c (arr.toList.take c.length)) (ag:BF ex bw arr.size c.length) :
  ∃ ρ':Ren,ρ.le ρ'∧ρ'.ren h.n=some (w.heap.size,bw)∧aQ ρ' B aK (h.push (.cells c e ex)) w':=by
 have hle:=Ren.qO (R.heap.kg _ (Nat.le_refl _)) w.heap.size bw
 have zS:ρ.frz w.heap.size=none:=by
  cases aq:ρ.frz w.heap.size with
  | none=>rfl
  | some a=>
   obtain ⟨e,fl,hw⟩:=R.heap.frz _ _ aq
   have:=(Array.getElem?_eq_some_iff.1 hw).1
   omega
 obtain ⟨h1,aa⟩:=R.yT (o:=.cells c e ex) bw bf hold ak ⟨w.heap.size,bw,arr,Ren.l8,zS,R.heap.base,l9,au,az.mono hle,ag⟩
 exact ⟨_,h1,Ren.l8,aa⟩
theorem aQ.En {ρ:Ren} {B:Nat} {aK:World} {h:I} {w w':World} (R:aQ ρ B aK h w) {arr:Array Value} {e:TypeId} {fl:Nat×Nat}
  (bf:w.heap.size<w'.heap.size) (hold:∀ k,k<w.heap.size→w'.heap[k]?=w.heap[k]?) (l9:w'.heap[w.heap.size]?=some (.cells arr e fl)) (ak:gD B w w') :
  ∃ ρ':Ren,ρ.le ρ'∧ρ'.frz w.heap.size=some arr∧aQ ρ' B aK h w':=by
 have j0:∀ b arr,ρ.frz b=some arr→b<w.heap.size:=fun b arr aq=>by
  obtain ⟨e,fl,hw⟩:=R.heap.frz b arr aq
  exact (Array.getElem?_eq_some_iff.1 hw).1
 have hle:ρ.le { ρ with frz:=fun b=>if b=w.heap.size then some arr else ρ.frz b }:=by
  refine ⟨fun _ _ h=>h,fun b a ak=>?_,rfl⟩
  have:=j0 b a ak
  simp [show b≠w.heap.size by omega,ak]
 refine ⟨_,hle,by simp,⟨⟨R.heap.kg,R.heap.inj,fun i=>?_,fun b a aq=>?_,fun g cs av=>?_,Nat.le_trans R.heap.base (Nat.le_of_lt bf)⟩,R.below.trans ak⟩⟩
 ·by_cases a7:h.get i=.dead
  ·rw [a7];trivial
  ·obtain ⟨cF,qP,gj,aN,_⟩:=R.heap.live a7
   refine (R.heap.obj i).al hle fun b bh aH=>?_
   rw [gj] at aH;simp at aH
   obtain ⟨rfl,rfl⟩:=aH
   exact ⟨hold _ aN,fun h=>by simp [show cF≠w.heap.size by omega,h]⟩
 ·simp only at aq
  by_cases Dt:b=w.heap.size
  ·subst Dt;simp at aq;subst aq;exact ⟨e,fl,l9⟩
  ·simp [Dt] at aq
   obtain ⟨e,fl,hw⟩:=R.heap.frz b a aq
   exact ⟨e,fl,(hold b (j0 b a aq)).trans hw⟩
 ·obtain ⟨iq,aq,aH⟩:=R.heap.glob g cs av
  exact ⟨iq,hle.frz _ _ aq,aH.mono hle⟩
theorem aQ.sx {ρ:Ren} {B:Nat} {aK:World} {h:I} {w w':World} (R:aQ ρ B aK h w) {i b bw:Nat} (hi:ρ.ren i=some (b,bw)) (az:h.get i≠.dead) {o:bb}
  (hold:∀ k,k≠b→w'.heap[k]?=w.heap[k]?) (bf:w.heap.size≤w'.heap.size) (ak:gD B w w') (l9:nz ρ B w' i o):aQ ρ B aK (h.set i o) w':=by
 have h8:ρ.frz b=none:=by
  obtain ⟨cF,qP,gj,_,_,aq,_⟩:=R.heap.live az
  rw [gj] at hi;simp at hi;rw [←hi.1];exact aq
 refine ⟨⟨R.heap.kg,fun j k cF bh bD aS hk h1 aa=>?_,fun j=>?_,fun cF arr aq=>?_,R.heap.glob,Nat.le_trans R.heap.base bf⟩,R.below.trans ak⟩
 ·refine R.heap.inj j k cF bh bD ?_ ?_ h1 aa
  ·by_cases cB:j=i
   ·subst cB;exact az
   ·simpa [I.set,cB] using aS
  ·by_cases oy:k=i
   ·subst oy;exact az
   ·simpa [I.set,oy] using hk
 ·by_cases cB:j=i
  ·subst cB
   simpa only [I.set,if_true] using l9
  ·simp only [I.set,if_neg cB]
   by_cases a7:h.get j=.dead
   ·rw [a7];trivial
   ·refine (R.heap.obj j).al (Ren.le.refl ρ) fun bW bh aH=>⟨hold bW ?_,fun h=>h⟩
    intro u3
    subst u3
    exact cB (R.heap.inj i j bW bw bh az a7 hi aH).symm
 ·obtain ⟨e,fl,hw⟩:=R.heap.frz cF arr aq
  have:cF≠b:=by intro ab;subst ab;rw [h8] at aq;cases aq
  exact ⟨e,fl,(hold cF this).trans hw⟩
theorem aQ.kill {ρ:Ren} {B:Nat} {aK:World} {h:I} {w:World} (R:aQ ρ B aK h w) (i:Nat):aQ ρ B aK (h.set i .dead) w:=by
 refine ⟨⟨R.heap.kg,fun j k cF bh bD aS hk h1 aa=>?_,fun j=>?_,R.heap.frz,R.heap.glob,R.heap.base⟩,R.below⟩
 ·refine R.heap.inj j k cF bh bD ?_ ?_ h1 aa
  ·by_cases cB:j=i
   ·subst cB;simp [I.set] at aS
   ·simpa [I.set,cB] using aS
  ·by_cases oy:k=i
   ·subst oy;simp [I.set] at hk
   ·simpa [I.set,oy] using hk
 ·by_cases cB:j=i
  ·subst cB;simp only [I.set,if_true];trivial
  ·simp only [I.set,if_neg cB];exact R.heap.obj j
theorem aQ.drew {ρ:Ren} {B:Nat} {aK:World} {h:I} {w:World} (R:aQ ρ B aK h w):aQ ρ B aK h w.drew:=by
 refine ⟨⟨R.heap.kg,R.heap.inj,fun i=>?_,R.heap.frz,R.heap.glob,R.heap.base⟩,R.below.drew⟩
 exact (R.heap.obj i).al (Ren.le.refl ρ) fun b c aH=>⟨rfl,fun h=>h⟩
theorem aQ.freeze {ρ:Ren} {B:Nat} {aK:World} {h:I} {w:World} (R:aQ ρ B aK h w) {i:Nat} {c:List V} {e:TypeId} {ex:Option Nat} (av:h.get i=.cells c e ex) :
  ∃ ρ':Ren,ρ.le ρ'∧aQ ρ' B aK (h.set i .dead) w∧∃ b bw arr,ρ.ren i=some (b,bw)∧ρ'.frz b=some arr∧c.length≤arr.size∧aT ρ c (arr.toList.take c.length):=by
 have aR:=R.heap.obj i
 rw [av] at aR
 obtain ⟨b,bw,arr,aH,aq,bM,hw,au,az,ag⟩:=aR
 have hle:ρ.le { ρ with frz:=fun k=>if k=b then some arr else ρ.frz k }:=by
  refine ⟨fun _ _ h=>h,fun k a hk=>?_,rfl⟩
  have:k≠b:=by intro ab;subst ab;rw [aq] at hk;cases hk
  simp [this,hk]
 have K:=R.kill i
 refine ⟨_,hle,⟨⟨K.heap.kg,K.heap.inj,fun j=>?_,fun k a hk=>?_,fun g cs av=>?_,K.heap.base⟩,K.below⟩,b,bw,arr,aH,by simp,au,az⟩
 ·by_cases a7:(h.set i .dead).get j=.dead
  ·rw [a7];trivial
  ·refine (K.heap.obj j).al hle fun bW bD iH=>⟨rfl,fun aa=>?_⟩
   have:bW≠b:=by
    intro ab
    subst ab
    by_cases cB:j=i
    ·subst cB;simp [I.set] at a7
    ·refine cB (R.heap.inj j i bW bD bw ?_ (by rw [av];simp) iH aH)
     simpa [I.set,cB] using a7
   simp [this,aa]
 ·simp only at hk
  by_cases L2:k=b
  ·subst L2;simp at hk;subst hk;exact ⟨e,(0,0),hw⟩
  ·simp [L2] at hk
   exact R.heap.frz k a hk
 ·obtain ⟨iq,b4,gj⟩:=R.heap.glob g cs av
  exact ⟨iq,hle.frz _ _ b4,gj.mono hle⟩
def Yields (P:Program) (s:Sem Value) (ρ:Ren) (B:Nat) (aK w:World) (v:V) (h':I):Prop :=
 ∃ ρ' v' w',s.run P w=.ok v' w'∧aA ρ' v v'∧aQ ρ' B aK h' w'∧ρ.le ρ'
theorem Yields.same {P:Program} {s:Sem Value} {ρ:Ren} {B:Nat} {aK w:World} {v:V} {v':Value} {h:I} (R:aQ ρ B aK h w) (aH:s.run P w=.ok v' w) (aD:aA ρ v v') :
  Yields P s ρ B aK w v h:=⟨ρ,v',w,aH,aD,R,Ren.le.refl ρ⟩
def bH (P:Program) (s:Sem Value) (ρ:Ren) (w:World) (v:V):Prop:=∃ v',s.run P w=.ok v' w∧aA ρ v v'
theorem bH.mk {P:Program} {s:Sem Value} {ρ:Ren} {w:World} {v:V} {v':Value} (aH:s.run P w=.ok v' w) (aD:aA ρ v v'):bH P s ρ w v:=⟨v',aH,aD⟩
theorem bH.gO {P:Program} {s:Sem Value} {ρ:Ren} {B:Nat} {aK w:World} {v:V} {h:I} (k:bH P s ρ w v) (R:aQ ρ B aK h w):Yields P s ρ B aK w v h :=
 let ⟨_,aH,aD⟩:=k
 .same R aH aD
def qy (h:I):V→Option (List V)
 | .ptr i o=>match h.get i with
  | .cells c _ _=>if o≤c.length then some (c.drop o) else none
  | _=>none
 | .at cs=>some cs
 | _=>none
theorem SZ {w:World} {b o:Nat} {arr:Array Value} {e:TypeId} {fl:Nat×Nat} (hw:w.heap[b]?=some (.cells arr e fl)) (n m:Nat):w.rangeAt b o (((arr.toList.take m).drop o).take n):=by
 intro j v aD
 simp only [World.cell?,hw,Option.isSome_none,Bool.false_eq_true,if_false]
 rw [List.getElem?_take] at aD
 split at aD
 ·rw [List.getElem?_drop,List.getElem?_take] at aD
  split at aD
  ·simpa using aD
  ·cases aD
 ·cases aD
theorem yU {ρ:Ren} {B:Nat} {h:I} {w:World} (H:oV ρ B h w) {p:V} {S0:Value} (aZ:aA ρ p S0) {cs:List V} (U:qy h p=some cs) :
  ∃ b o,S0=.pointer (some ⟨b,o,none⟩)∧∀ n,n≤cs.length→∃ vs,w.rangeAt b o vs∧aT ρ (cs.take n) vs∧vs.length=n:=by
 unfold qy at U
 split at U
 ·rename_i i o
  split at U
  case h_2=>cases U
  rename_i c e ex av
  split at U
  case isFalse=>cases U
  rename_i aR
  obtain rfl:_=cs:=by simpa using U
  have L3:=H.obj i
  rw [av] at L3
  obtain ⟨bW,iI,arr,aH,aq,bM,hw,au,az,ag⟩:=L3
  cases aZ with
  | ptr hi o=>
  rw [aH] at hi;simp at hi
  obtain ⟨rfl,rfl⟩:=hi
  refine ⟨bW,o,rfl,fun n aG=>⟨((arr.toList.take c.length).drop o).take n,SZ hw n _,(az.drop o).take n,?_⟩⟩
  simp at aG⊢;omega
 ·rename_i l
  obtain rfl:l=cs:=by simpa using U
  cases aZ with
  | «at» o ak aR ag=>
  rename_i b arr
  obtain ⟨e,fl,hw⟩:=H.frz b arr ak
  refine ⟨b,o,rfl,fun n aG=>⟨((arr.toList.take arr.size).drop o).take n,SZ hw n _,?_,?_⟩⟩
  ·have hW:aT ρ l ((arr.toList.drop o).take l.length):=by
    refine ⟨by simp;omega,fun k v v' h1 aa=>?_⟩
    rw [List.getElem?_take] at aa
    split at aa
    ·rw [List.getElem?_drop] at aa
     exact ag k v v' h1 (by simpa using aa)
    ·cases aa
   have:=hW.take n
   rw [List.take_take,Nat.min_eq_left aG] at this
   have aw:arr.toList.take arr.size=arr.toList:=List.take_of_length_le (by simp)
   rw [aw];exact this
  ·simp;omega
 ·cases U
def ls (P:Program) (t:TypeId) (x:V) (h:I):Option V :=
 match qy h x,pO P t,cI P t with
 | some cs,some true,some n=>if n≤cs.length then some (.agg (cs.take n)) else none
 | some (v::_),some false,some _=>some v
 | _,_,_=>none
theorem S1 {P:Program} {t:TypeId} {x v:V} {bS:Value} {h:I} (U:ls P t x h=some v) {ρ:Ren} {B:Nat} {aK w:World} (R:aQ ρ B aK h w) (ag:aA ρ x bS) :
  (∃ a,bS=.pointer (some a))∧bH P (Instr.loadAt t bS) ρ w v:=by
 unfold ls at U
 cases ad:P.info? t with
 | none=>simp [cI,ad] at U
 | some bZ=>
 cases hu:P.underlying t with
 | none=>simp [pO,hu] at U
 | some d=>
 simp only [pO,hu,cI,ad,Option.map_some] at U
 cases aZ:qy h x with
 | none=>simp [aZ] at U
 | some cs=>
 obtain ⟨b,o,rfl,cS⟩:=yU R.heap ag aZ
 refine ⟨⟨_,rfl⟩,?_⟩
 cases a7:d.isRow with
 | true=>
  simp only [aZ,a7] at U
  split at U
  case isFalse=>cases U
  rename_i aG
  obtain rfl:_=v:=by simpa using U
  obtain ⟨vs,h1,aa,aC⟩:=cS _ aG
  exact bH.mk (run_loadAt_mid w b o t vs d h1 hu a7 (by simp [ad,aC])) (aa.arr).agg
 | false=>
  cases cs with
  | nil=>simp [aZ,a7] at U
  | cons u r=>
   simp only [aZ,a7,Option.some.injEq] at U
   subst U
   obtain ⟨vs,h1,aa,aC⟩:=cS 1 (by simp)
   simp only [List.take_succ_cons,List.take_zero] at aa
   obtain ⟨v',im,rfl,eM,_⟩:=aa.di
   have s5:=h1 0 v' rfl
   refine bH.mk ?_ eM
   have vY:(isAgg t).run P w=.ok false w:=by
    unfold isAgg
    rw [Sem.run_bind,run_underlying hu w]
    cases d<;>simp_all
   simp only [Nat.add_zero] at s5
   simp [Instr.loadAt,Instr.sureAddr,loadVar,vY,load,Sem.run,s5]
theorem aT.dfr {ρ:Ren} {l:List V} {b0:List Value} (h:aT ρ l b0) (d:List Deferred):aT { ρ with dfr:=d } l b0:=⟨h.1,fun k v v' a b=>(h.2 k v v' a b).dfr d⟩
theorem fS.dfr {ρ:Ren} {es:List (Nat×V×V)} {arr:Array MapEntry} (h:fS ρ es arr) (d:List Deferred):fS { ρ with dfr:=d } es arr :=
 ⟨h.1,fun k e dh a b=>⟨(h.2 k e dh a b).1,(h.2 k e dh a b).2.1.dfr d,(h.2 k e dh a b).2.2.dfr d⟩⟩
theorem nz.dfr {ρ:Ren} {B:Nat} {w:World} {i:Nat} {o:bb} (h:nz ρ B w i o) (d:List Deferred):nz { ρ with dfr:=d } B w i o:=by
 cases o with
 | dead=>trivial
 | cells c e ex=>
  obtain ⟨b,bw,arr,aH,aq,bM,hw,au,az,ag⟩:=h
  exact ⟨b,bw,arr,aH,aq,bM,hw,au,az.dfr d,ag⟩
 | map es cl=>
  obtain ⟨b,bw,arr,aH,aq,bM,hw,hm⟩:=h
  exact ⟨b,bw,arr,aH,aq,bM,hw,hm.dfr d⟩
 | iter m s l st=>
  obtain ⟨b,bw,bm,xC,aH,aq,bM,hm,hw⟩:=h
  exact ⟨b,bw,bm,xC,aH,aq,bM,hm,hw⟩
 | jB b mk vs=>
  obtain ⟨bw,arr,aH,aq,bM,hw,az⟩:=h
  exact ⟨bw,arr,aH,aq,bM,hw,az.dfr d⟩
theorem aQ.dfr {ρ:Ren} {B:Nat} {aK:World} {h:I} {w:World} (R:aQ ρ B aK h w) (d:List Deferred):aQ { ρ with dfr:=d } B aK h w :=
 ⟨⟨R.heap.kg,R.heap.inj,fun i=>(R.heap.obj i).dfr d,R.heap.frz,fun g cs av=>by
  obtain ⟨arr,h1,aa⟩:=R.heap.glob g cs av
  exact ⟨arr,h1,aa.1,fun k v v' a b=>(aa.2 k v v' a b).dfr d⟩,R.heap.base⟩,R.below⟩
theorem Ren.le.pP {ρ ρ':Ren} {d:List Deferred} (h:Ren.le { ρ with dfr:=d } ρ'):ρ.le { ρ' with dfr:=ρ.dfr }:=⟨h.ren,h.frz,rfl⟩
def V.cells:V→Option (List V)
 | .agg cs=>some cs
 | .top=>none
 | .tuple _=>none
 | v=>some [v]
def V.one:V→Bool
 | .agg _ | .tuple _ | .top=>false
 | _=>true
theorem aA.one {ρ:Ren} {v:V} {v':Value} (h:aA ρ v v') (aR:v.one=true):v'.oneCell'=true:=by cases h<;>simp [V.one] at aR<;>rfl
theorem aA.Ob {ρ:Ren} {v:V} {v':Value} (h:aA ρ v v') (aR:v.one=true):v'.cells=#[v']:=by cases h<;>simp [V.one] at aR<;>rfl
theorem aA.cells {ρ:Ren} {v:V} {v':Value} (h:aA ρ v v') {cs:List V} (au:v.cells=some cs):aT ρ cs v'.cells.toList:=by
 have key:∀ u:V,aA ρ u v'→u.one=true→u.cells=some [u]→aT ρ [u] v'.cells.toList:=fun u hu h1 _=>by
  rw [hu.Ob h1]
  exact .cons hu (.nil ρ)
 cases h with
 | agg U ag=>
         obtain rfl:_=cs:=by simpa [V.cells] using au
         exact dH.list ⟨U,ag⟩
 | top=>simp [V.cells] at au
 | tuple U ag=>simp [V.cells] at au
 | _=>
     obtain rfl:_=cs:=by simpa [V.cells] using au
     exact key _ (by constructor<;>assumption) rfl rfl
theorem aT.one {ρ:Ren} {l:List V} {b0:List Value} (h:aT ρ l b0) (az:l.all (·.one)=true):∀ v ∈ b0,v.oneCell'=true:=by
 intro v aD
 obtain ⟨k,hk⟩:=List.getElem?_of_mem aD
 have aN:k<b0.length:=(List.getElem?_eq_some_iff.1 hk).1
 have ir:k<l.length:=by rw [h.1];exact aN
 exact (h.2 k l[k] v (List.getElem?_eq_getElem ir) hk).one ((List.all_eq_true.1 az) _ (List.getElem_mem ir))
def lay {α:Type} (c:List α) (o:Nat) (vs:List α):List α:=c.take o++vs++c.drop (o+vs.length)
theorem pd {α:Type} (c:List α) (o:Nat) (vs:List α) (h:o+vs.length≤c.length):(lay c o vs).length=c.length:=by
 simp [lay];omega
theorem aT.lay {ρ:Ren} {c:List V} {j6:List Value} (h:aT ρ c j6) {vs:List V} {h9:List Value} (aD:aT ρ vs h9) (o:Nat):aT ρ (lay c o vs) (lay j6 o h9):=by
 unfold Ab.lay
 rw [←aD.1]
 exact ((h.take o).append aD).append (h.drop _)
theorem JD {α:Type} (c:List α) (o:Nat) (vs:List α) (n:Nat) (h:o+vs.length≤n) (aG:n≤c.length):(lay c o vs).take n=lay (c.take n) o vs:=by
 apply List.ext_getElem?
 intro k
 simp only [Ab.lay,List.getElem?_take,List.getElem?_append,List.length_append,List.length_take,List.getElem?_drop]
 by_cases h1:k<n
 ·simp only [h1,if_true]
  have aw:min o c.length=o:=by omega
  have aW:min o (min n c.length)=o:=by omega
  simp only [aw,aW]
  by_cases aa:k<o+vs.length
  ·simp only [aa,if_true]
  ·simp only [aa,if_false]
   first | done | rw [if_pos (by omega)]
 ·simp only [h1,if_false]
  rw [if_neg (by omega)]
  rw [if_neg (by omega)]
theorem FD {P:Program} {h:I} {i:Nat} {c:List V} {e:TypeId} {ex:Option Nat} (av:h.get i=.cells c e ex) {ρ:Ren} {B:Nat} {aK w:World} (R:aQ ρ B aK h w)
  {b bw:Nat} (hi:ρ.ren i=some (b,bw)) (o:Nat) {vs:List V} {h9:List Value} (aD:aT ρ vs h9) (b5:vs.all (·.one)=true) (eW:o+vs.length≤c.length) :
  ∃ w',(storeCells ⟨b,o,none⟩ h9).run P w=.ok () w'∧aQ ρ B aK (h.set i (.cells (lay c o vs) e ex)) w':=by
 have aR:=R.heap.obj i
 rw [av] at aR
 obtain ⟨bW,iI,arr,aH,aq,bM,hw,au,az,ag⟩:=aR
 rw [aH] at hi;simp at hi
 obtain ⟨rfl,rfl⟩:=hi
 have JE:o+h9.length≤arr.size:=by rw [←aD.1];omega
 have cR:=run_storeCells_at P bW o e h9 0 arr w hw (by simpa using JE) (aD.one b5)
 simp only [Nat.add_zero] at cR
 refine ⟨_,cR,R.sx aH (by rw [av];simp) (fun k hk=>?_) ?_ ?_ ?_⟩
 ·simp [World.setRow,Array.getElem?_modify,Ne.symm hk]
 ·simp [World.setRow]
 ·refine ⟨rfl,rfl,rfl,by simp [World.setRow],fun k hk=>?_,Nat.le_refl _⟩
  simp [World.setRow,Array.getElem?_modify,show bW≠k by omega]
 ·refine ⟨bW,iI,_,aH,aq,bM,setRow_heap w bW arr _ e (0,0) hw,?_,?_,?_⟩
  ·rw [pd _ _ _ eW];simp;omega
  ·rw [pd _ _ _ eW]
   have:=az.lay aD o
   rw [←JD arr.toList o h9 c.length (by rw [←aD.1];exact eW) (by simpa using au)] at this
   exact this
  ·rw [pd _ _ _ eW]
   have hlen:(arr.toList.take o++h9++arr.toList.drop (o+h9.length)).toArray.size=arr.size:=by simp;omega
   rw [hlen]
   exact ag
def Eo (P:Program) (t:TypeId) (x v:V) (h:I):Option I :=
 match x,v.cells with
 | .ptr i o,some vs=>
  match h.get i with
  | .cells c e ex=>if some vs.length=cI P t∧vs.all (·.one)=true∧o+vs.length≤c.length then some (h.set i (.cells (lay c o vs) e ex)) else none
  | _=>none
 | _,_=>none
theorem abQ {P:Program} {t:TypeId} {x v:V} {bS v':Value} {h h':I} (U:Eo P t x v h=some h') {ρ:Ren} {B:Nat} {aK w:World} (R:aQ ρ B aK h w)
  (ag:aA ρ x bS) (aD:aA ρ v v'):∃ w',(Instr.storeAt t bS v').run P w=.ok () w'∧aQ ρ B aK h' w':=by
 unfold Eo at U
 split at U
 case h_2=>cases U
 rename_i i o vs ji
 cases ag with
 | ptr hi o=>
 rename_i b bw
 split at U
 case h_2=>cases U
 rename_i c e ex av
 split at U
 case isFalse=>cases U
 rename_i lf
 obtain ⟨bf,b5,eW⟩:=lf
 obtain rfl:_=h':=by simpa using U
 have cw:=aD.cells ji
 obtain ⟨w',cv,eb⟩:=FD (P:=P) av R hi o cw b5 eW
 refine ⟨w',?_,eb⟩
 have hlen:v'.cells.size=vs.length:=by have:=cw.1;simpa using this.symm
 cases ad:P.info? t with
 | none=>simp [cI,ad] at bf
 | some bZ=>
  simp [cI,ad] at bf
  simp [Instr.storeAt,Instr.sureAddr,storeVar,sizeOf,typeInfo,ad,hlen,bf,cv]
theorem Oc {h:I} {ρ:Ren} {B:Nat} {aK w:World} (R:aQ ρ B aK h w) {c:List V} {j6:List Value} (e:TypeId) (au:aT ρ c j6) (bw:Nat) :
  ∃ ρ':Ren,ρ.le ρ'∧ρ'.ren h.n=some (w.heap.size,bw)∧aQ ρ' B aK (h.push (.cells c e none)) (w.alloc (.cells j6.toArray e)) :=
 R.push (arr:=j6.toArray) bw (by simp) (fun k hk=>Below.heap_alloc w _ k hk) (heap_alloc_new w _) ((gD.refl _ _).alloc R.heap.base _)
  (by simp [au.1]) (by simpa [au.1] using au) (show _=_ by simp [au.1])
theorem S2 {P:Program} {h:I} {ρ:Ren} {B:Nat} {aK w:World} (R:aQ ρ B aK h w) {cs:List V} {v':Value} (e:TypeId) (aD:aT ρ cs v'.cells.toList) (s:Sem Value)
  (U:s.run P w=.ok (.pointer (some ⟨w.heap.size,0,none⟩)) (w.alloc (.cells v'.cells e))) :
  Yields P s ρ B aK w (.ptr h.n 0) (h.push (.cells cs e none)):=by
 obtain ⟨ρ',hle,aG,eb⟩:=Oc R e aD 0
 exact ⟨ρ',_,_,U,.ptr aG 0,by simpa using eb,hle⟩
def hF (P:Program) (e:TypeId):Option (List V):=match lO P e with | some z=>(fj z).cells | none=>none
theorem Ep {P:Program} {e:TypeId} {zs:List V} (h:hF P e=some zs):∃ z,lO P e=some z∧∀ ρ,aT ρ zs z.cells.toList:=by
 unfold hF at h
 split at h
 ·rename_i z bK
  exact ⟨z,bK,fun ρ=>(i6 ρ z).cells h⟩
 ·cases h
def Er (P:Program) (e:TypeId) (h:I):Option (V×I) :=
 match hF P e with
 | some zs=>some (.ptr h.n 0,h.push (.cells zs e none))
 | none=>none
def ug (e:TypeId) (x:V) (h:I):Option (V×I) :=
 match x.cells with
 | some cs=>some (.ptr h.n 0,h.push (.cells cs e none))
 | none=>none
theorem abR {P:Program} {e:TypeId} {v:V} {h h':I} (U:Er P e h=some (v,h')) {ρ:Ren} {B:Nat} {aK w:World} (R:aQ ρ B aK h w) :
  Yields P (Instr.alloc e true (.tuple #[])) ρ B aK w v h':=by
 unfold Er at U
 split at U
 case h_2=>cases U
 rename_i zs eX
 obtain ⟨z,bK,eM⟩:=Ep eX
 simp at U
 obtain ⟨rfl,rfl⟩:=U
 refine S2 R e (eM ρ) _ ?_
 cases ad:P.info? e with
 | none=>simp [lO,ad] at bK
 | some bZ=>
  simp [lO,ad] at bK
  simp [Instr.alloc,zeroValue,typeInfo,ad,bK,newVar,newRow]
theorem abS {P:Program} {e:TypeId} {x v:V} {bS:Value} {h h':I} (U:ug e x h=some (v,h')) {ρ:Ren} {B:Nat} {aK w:World} (R:aQ ρ B aK h w) (ag:aA ρ x bS) :
  Yields P (Instr.box e bS) ρ B aK w v h':=by
 unfold ug at U
 split at U
 case h_2=>cases U
 rename_i cs cS
 simp at U
 obtain ⟨rfl,rfl⟩:=U
 exact S2 R e (ag.cells cS) _ (by simp [Instr.box,newVar,newRow])
theorem aA.pe {ρ:Ren} {i o:Nat} {bS:Value} (h:aA ρ (.ptr i o) bS):∃ b c,ρ.ren i=some (b,c)∧bS=.pointer (some ⟨b,o,none⟩):=by
 cases h with
 | ptr hi=>exact ⟨_,_,hi,rfl⟩
theorem aA.fA {ρ:Ren} {i o len cap:Nat} {bS:Value} (h:aA ρ (.bc i o len cap) bS):∃ b c,ρ.ren i=some (b,c)∧len≤fk c cap∧bS=.slice (some ⟨b,o,none⟩) len (fk c cap):=by
 cases h with
 | bc hi _ _ _ az=>exact ⟨_,_,hi,az,rfl⟩
theorem aA.s6 {ρ:Ren} {cs:List V} {bS:Value} (h:aA ρ (.at cs) bS):∃ (b o:Nat) (arr:Array Value),ρ.frz b=some arr∧o+cs.length≤arr.size ∧
  (∀ (k:Nat) (v:V) (v':Value),cs[k]?=some v→arr[o+k]?=some v'→aA ρ v v')∧bS=.pointer (some ⟨b,o,none⟩):=by
 cases h with
 | «at» o ak aR ag=>exact ⟨_,o,_,ak,aR,ag,rfl⟩
theorem aA.jX {ρ:Ren} {n:Nat} {cs:List V} {bS:Value} (h:aA ρ (.ai n cs) bS):(n=0∧cs=[]∧∃ (a:Option Addr) (c:Nat),(a=none→c=0)∧bS=.slice a 0 c)∨∃ (b o cap:Nat) (arr:Array Value),ρ.frz b=some arr∧n≤cap∧o+cs.length≤arr.size ∧
  (∀ (k:Nat) (v:V) (v':Value),cs[k]?=some v→arr[o+k]?=some v'→aA ρ v v')∧bS=.slice (some ⟨b,o,none⟩) n cap:=by
 cases h with
 | ai o _ cap ak aG aR ag=>exact .inr ⟨_,o,cap,_,ak,aG,aR,ag,rfl⟩
 | eU a c aO=>exact .inl ⟨rfl,rfl,a,c,aO,rfl⟩
theorem aA.vZ {ρ:Ren} {b o:Nat} {arr:Array Value} {cs:List V} (ak:ρ.frz b=some arr) (aR:o+cs.length≤arr.size)
  (ag:∀ (k:Nat) (v:V) (v':Value),cs[k]?=some v→arr[o+k]?=some v'→aA ρ v v') (d:Nat) (a7:d≤cs.length):aA ρ (.at (cs.drop d)) (.pointer (some ⟨b,o+d,none⟩)) :=
 .at (o+d) ak (by simp;omega) fun k v v' h1 aa=>by
  rw [List.getElem?_drop] at h1
  exact ag _ v v' h1 (by rw [←Nat.add_assoc];exact aa)
theorem aA.yg {ρ:Ren} {b o n cap:Nat} {arr:Array Value} {cs:List V} (ak:ρ.frz b=some arr) (aR:o+cs.length≤arr.size)
  (ag:∀ (k:Nat) (v:V) (v':Value),cs[k]?=some v→arr[o+k]?=some v'→aA ρ v v') (d m:Nat) (a7:d≤cs.length) (aG:n≤cap):aA ρ (.ai n ((cs.drop d).take m)) (.slice (some ⟨b,o+d,none⟩) n cap) :=
 .ai (o+d) n cap ak aG (by simp;omega) fun k v v' h1 aa=>by
  rw [List.getElem?_take] at h1
  split at h1
  ·rw [List.getElem?_drop] at h1
   exact ag _ v v' h1 (by rw [←Nat.add_assoc];exact aa)
  ·cases h1
def BG (P:Program) (s:TypeId) (x:V) (k:Nat):Option V :=
 match P.underlying s with
 | some (.struct cr)=>
  match cr[k]? with
  | some f=>match cI P f.type with
   | some (_+1)=>match x with
    | .ptr i o=>some (.ptr i (o+f.offset))
    | .at cs=>if f.offset≤cs.length then some (.at (cs.drop f.offset)) else none
    | _=>none
   | _=>none
  | none=>none
 | _=>none
theorem wl {P:Program} {s:TypeId} {x v:V} {bS:Value} {k:Nat} {h:I} (U:BG P s x k=some v) {ρ:Ren} {B:Nat} {aK w:World} (R:aQ ρ B aK h w) (ag:aA ρ x bS) :
  bH P (Instr.fieldAt s bS k) ρ w v:=by
 unfold BG at U
 split at U
 case h_2=>cases U
 rename_i cr hu
 split at U
 case h_2=>cases U
 rename_i f aq
 split at U
 case h_2=>cases U
 rename_i n aG
 have ad:∃ bZ,P.info? f.type=some bZ∧bZ.size≠0:=by
  cases ad:P.info? f.type with
  | none=>simp [cI,ad] at aG
  | some bZ=>simp [cI,ad] at aG;exact ⟨bZ,rfl,by omega⟩
 obtain ⟨bZ,ad,aG⟩:=ad
 have cv:∀ b o,(Instr.fieldAt s (.pointer (some ⟨b,o,none⟩)) k).run P w=.ok (.pointer (some ⟨b,o+f.offset,none⟩)) w:=fun b o=>by
  simp [Instr.fieldAt,run_underlying hu,aq,Instr.sureAddr,fieldPlace,sizeOf,typeInfo,ad,aG,Addr.add_mid]
 split at U
 ·rename_i i o
  obtain rfl:_=v:=by simpa using U
  obtain ⟨b,c,hi,rfl⟩:=ag.pe
  exact bH.mk (cv b o) (.ptr hi _)
 ·split at U
  case isFalse=>cases U
  rename_i a7
  obtain rfl:_=v:=by simpa using U
  obtain ⟨b,o,arr,ak,aR,dX,rfl⟩:=ag.s6
  exact bH.mk (cv b o) (.vZ ak aR dX _ a7)
 ·cases U
def hA (P:Program) (t:TypeId) (x lb:V):Option V :=
 match lb with
 | .int _ n=>
  match P.underlying t,x with
  | some (.array len e),.ptr i o=>
   match cI P e with
   | some sz=>if 0≤n∧n<len then some (.ptr i (o+n.toNat * sz)) else none
   | none=>none
  | some (.array len e),.at cs=>
   match cI P e with
   | some sz=>if 0≤n∧n<len∧n.toNat * sz≤cs.length then some (.at (cs.drop (n.toNat * sz))) else none
   | none=>none
  | some (.slice e),.bc i o len _=>
   match cI P e with
   | some sz=>if 0≤n∧n<len then some (.ptr i (o+n.toNat * sz)) else none
   | none=>none
  | some (.slice e),.ai len cs=>
   match cI P e with
   | some sz=>if 0≤n∧n<len∧n.toNat * sz≤cs.length then some (.at (cs.drop (n.toNat * sz))) else none
   | none=>none
  | _,_=>none
 | _=>none
theorem abT {P:Program} {t:TypeId} {x lb v:V} {bS zT:Value} {h:I} (U:hA P t x lb=some v) {ρ:Ren} {B:Nat} {aK w:World} (R:aQ ρ B aK h w)
  (ag:aA ρ x bS) (gk:aA ρ lb zT):bH P (Instr.indexAt t bS zT) ρ w v:=by
 unfold hA at U
 split at U
 case h_2=>cases U
 rename_i k n
 cases gk with
 | int k n=>
 have qi:∀ e bZ (len cap b o:Nat),P.underlying t=some (.slice e)→P.info? e=some bZ→0≤n∧n<len →
   (Instr.indexAt t (.slice (some ⟨b,o,none⟩) len cap) (.int k n)).run P w=.ok (.pointer (some ⟨b,o+n.toNat * bZ.size,none⟩)) w:=fun e bZ len cap b o hu ad ak=>by
  simp [Instr.indexAt,asIntOf,run_underlying hu,ak,sizeOf,typeInfo,ad,Addr.add_mid]
 have u4:∀ e bZ (len b o:Nat),P.underlying t=some (.array len e)→P.info? e=some bZ→0≤n∧n<len →
   (Instr.indexAt t (.pointer (some ⟨b,o,none⟩)) (.int k n)).run P w=.ok (.pointer (some ⟨b,o+n.toNat * bZ.size,none⟩)) w:=fun e bZ len b o hu ad ak=>by
  simp [Instr.indexAt,asIntOf,run_underlying hu,Instr.sureAddr,ak,sizeOf,typeInfo,ad,Addr.add_mid]
 split at U
 ·rename_i len e i o hu
  cases ag with
  | ptr hi o=>
  split at U
  case h_2=>cases U
  rename_i sz bf
  split at U
  case isFalse=>cases U
  rename_i ak
  obtain rfl:_=v:=by simpa using U
  cases ad:P.info? e with
  | none=>simp [cI,ad] at bf
  | some bZ=>
   simp [cI,ad] at bf
   subst bf
   exact bH.mk (u4 e bZ len _ o hu ad ak) (.ptr hi _)
 ·rename_i len e cs hu
  cases ag with
  | «at» o h8 aR ag=>
  split at U
  case h_2=>cases U
  rename_i sz bf
  split at U
  case isFalse=>cases U
  rename_i ak
  obtain rfl:_=v:=by simpa using U
  cases ad:P.info? e with
  | none=>simp [cI,ad] at bf
  | some bZ=>
   simp [cI,ad] at bf
   subst bf
   exact bH.mk (u4 e bZ len _ o hu ad ⟨ak.1,ak.2.1⟩) (.vZ h8 aR ag _ ak.2.2)
 ·rename_i e i o len cap hu
  cases ag with
  | bc hi o len cap az=>
  split at U
  case h_2=>cases U
  rename_i sz bf
  split at U
  case isFalse=>cases U
  rename_i ak
  obtain rfl:_=v:=by simpa using U
  cases ad:P.info? e with
  | none=>simp [cI,ad] at bf
  | some bZ=>
   simp [cI,ad] at bf
   subst bf
   exact bH.mk (qi e bZ len _ _ o hu ad ak) (.ptr hi _)
 ·rename_i e len cs hu
  split at U
  case h_2=>cases U
  rename_i sz bf
  split at U
  case isFalse=>cases U
  rename_i ak
  obtain rfl:_=v:=by simpa using U
  cases ad:P.info? e with
  | none=>simp [cI,ad] at bf
  | some bZ=>
   simp [cI,ad] at bf
   subst bf
   cases ag with
   | ai o _ cap h8 aG aR ag=>exact bH.mk (qi e bZ len cap _ o hu ad ⟨ak.1,ak.2.1⟩) (.vZ h8 aR ag _ ak.2.2)
   | eU a c aO=>omega
 ·cases U
def uh:V→Option Nat
 | .int _ n=>if 0≤n then some n.toNat else none
 | _=>none
theorem BH {v:V} {v':Value} {n:Nat} (h:uh v=some n) {ρ:Ren} (aD:aA ρ v v'):∃ k,v'=.int k (n:Int):=by
 unfold uh at h
 split at h
 ·rename_i k m
  split at h
  ·cases aD
   simp at h
   exact ⟨k,by rw [←h];congr;omega⟩
  ·cases h
 ·cases h
def kG (lo:Option V):Option Nat:=match lo with | none=>some 0 | some v=>uh v
def eh (len:Nat) (hi:Option V):Option Nat:=match hi with | none=>some len | some v=>uh v
def vz (i o len cap sz l ab m:Nat):Option V :=
 if cap<b2 then
  if l≤ab∧ab≤m∧m≤cap then some (.bc i (if m=l then o else o+l * sz) (ab - l) (m - l)) else none
 else
  if m=cap∧l≤ab∧ab≤len then (if l=0∨l<len then some (.bc i (o+l * sz) (ab - l) (cap+l)) else some (.ai 0 [])) else none
def yV (n sz l ab m:Nat) (mx:Bool) (cs:List V):Option V :=
 if l≤ab∧ab≤m∧m≤n∧l * sz≤cs.length then
  if mx=true∧m=l then some .z0 else some (.ai (ab - l) ((cs.drop (l * sz)).take ((ab - l) * sz)))
 else none
def iJ (P:Program) (t:TypeId) (x:V) (lo hi mx:Option V):Option V :=
 match P.underlying t,x with
 | some (.slice e),.bc i o len cap=>
  match cI P e,kG lo,eh len hi,eh cap mx with
  | some sz,some l,some ab,some m=>if mx.isSome=true∧b2≤cap then (if hi.isSome=true∧m≤len∧len<b2 then vz i o len len sz l ab m else none)
   else if mx.isSome∧(hi.isNone∨b2≤cap) then none else vz i o len cap sz l ab m
  | _,_,_,_=>none
 | some (.slice e),.ai n cs=>
  match cI P e,kG lo,eh n hi,eh n mx with
  | some sz,some l,some ab,some m=>if mx.isSome∧hi.isNone then none else yV n sz l ab m mx.isSome cs
  | _,_,_,_=>none
 | some (.slice e),.an=>
  match cI P e,kG lo,eh 0 hi,eh 0 mx with
  | some _,some 0,some 0,some 0=>if mx.isSome∧hi.isNone then none else some .an
  | _,_,_,_=>none
 | some (.slice e),.z0=>
  match cI P e,kG lo,eh 0 hi,eh 0 mx with
  | some _,some 0,some 0,some 0=>if mx.isSome∧hi.isNone then none else some .z0
  | _,_,_,_=>none
 | some (.array n e),.ptr i o=>
  match cI P e,kG lo,eh n hi,eh n mx with
  | some sz,some l,some ab,some m=>if mx.isSome∧hi.isNone then none else if n<b2 then vz i o n n sz l ab m else none
  | _,_,_,_=>none
 | some (.array n e),.at cs=>
  match cI P e,kG lo,eh n hi,eh n mx with
  | some sz,some l,some ab,some m=>if mx.isSome∧hi.isNone then none else yV n sz l ab m mx.isSome cs
  | _,_,_,_=>none
 | some .string,.string s=>
  match kG lo,eh s.size hi,mx with
  | some l,some ab,none=>if l≤ab∧ab≤s.size then some (.string (s.extract l ab)) else none
  | _,_,_=>none
 | _,_=>none
theorem yW {P:Program} {w:World} {k:IntKind} {n y:Nat} {code:BoundsCode} (h:n≤y):(Instr.sliceBound (.int k (n:Int)) y code).run P w=.ok n w:=by
 simp [Instr.sliceBound,asIntOf,h]
theorem vA {P:Program} {w:World} {isSlice:Bool} {len cap l ab m:Nat} {lo hi mx:Option V} {mA kU nh:Option Value} {ρ:Ren}
  (cg:Option.Rel (aA ρ) lo mA) (cZ:Option.Rel (aA ρ) hi kU) (gl:Option.Rel (aA ρ) mx nh)
  (h1:kG lo=some l) (aa:eh len hi=some ab) (aC:∃ mB,eh mB mx=some m∧(mx=none→m=cap)) (az:l≤ab) (hm:ab≤m) (au:m≤cap) (kh:¬(mx.isSome∧hi.isNone)) :
  (Instr.sliceBounds isSlice len cap mA kU nh).run P w=.ok (l,ab,m) w:=by
 obtain ⟨mB,aC,Du⟩:=aC
 cases cg with
 | none=>
  simp [kG] at h1;subst h1
  cases cZ with
  | none=>
   simp [eh] at aa;subst aa
   cases gl with
   | none=>simp [Instr.sliceBounds,Du rfl]
   | some gl=>simp at kh
  | some cZ=>
   simp only [eh] at aa
   obtain ⟨k2,rfl⟩:=BH aa cZ
   cases gl with
   | none=>obtain rfl:=Du rfl;simp [Instr.sliceBounds,yW hm]
   | some gl=>simp only [eh] at aC;obtain ⟨k3,rfl⟩:=BH aC gl;simp [Instr.sliceBounds,yW hm,yW au]
 | some cg=>
  simp only [kG] at h1
  obtain ⟨bB,rfl⟩:=BH h1 cg
  cases cZ with
  | none=>
   simp [eh] at aa;subst aa
   cases gl with
   | none=>obtain rfl:=Du rfl;simp [Instr.sliceBounds,yW az]
   | some gl=>simp at kh
  | some cZ=>
   simp only [eh] at aa
   obtain ⟨k2,rfl⟩:=BH aa cZ
   cases gl with
   | none=>obtain rfl:=Du rfl;simp [Instr.sliceBounds,yW hm,yW az]
   | some gl=>simp only [eh] at aC;obtain ⟨k3,rfl⟩:=BH aC gl;simp [Instr.sliceBounds,yW hm,yW au,yW az]
theorem Od {ρ:Ren} {i b bw o len cap sz l ab m:Nat} (hi:ρ.ren i=some (b,bw)) (az:len≤fk bw cap) {v:V} (h:vz i o len cap sz l ab m=some v) :
  ∃ fz,(m<b2∧cap<b2→fz=m)∧(b2≤cap→m=cap∧fz=fk bw cap)∧l≤ab∧ab≤fz∧fz≤fk bw cap ∧
   aA ρ v (.slice (if fz=l then some ⟨b,o,none⟩ else some (Addr.add ⟨b,o,none⟩ (l * sz))) (ab - l) (fz - l)):=by
 unfold vz at h
 split at h
 ·rename_i au
  split at h
  ·rename_i ak
   obtain rfl:_=v:=by simpa using h
   refine ⟨m,fun _=>rfl,fun h=>by omega,ak.1,ak.2.1,by simp [fk,au,ak.2.2],?_⟩
   have key:aA ρ (.bc i (if m=l then o else o+l * sz) (ab - l) (m - l)) (.slice (some ⟨b,if m=l then o else o+l * sz,none⟩) (ab - l) (fk bw (m - l))) :=
    .bc hi _ _ _ (by simp [fk,show m - l<b2 by omega];omega)
   simp only [fk,show m - l<b2 by omega,if_true] at key
   by_cases fL:m=l
   ·simpa [fL] using key
   ·simpa [fL,Addr.add_mid] using key
  ·cases h
 ·rename_i au
  split at h
  ·rename_i ak
   refine ⟨fk bw cap,fun h=>by omega,fun _=>⟨ak.1,rfl⟩,ak.2.1,by omega,Nat.le_refl _,?_⟩
   split at h
   case isFalse hll=>
    obtain rfl:_=v:=by simpa using h
    rw [show ab - l=0 by omega]
    refine .eU _ _ fun aG=>?_
    split at aG<;>cases aG
   rename_i hll
   obtain rfl:_=v:=by simpa using h
   have aw:fk bw (cap+l)=fk bw cap - l:=by simp [fk,au,show ¬cap+l<b2 by omega];omega
   have key:aA ρ (.bc i (o+l * sz) (ab - l) (cap+l)) (.slice (some ⟨b,o+l * sz,none⟩) (ab - l) (fk bw (cap+l))) :=
    .bc hi _ _ _ (by rw [aw];omega)
   rw [aw] at key
   by_cases fL:fk bw cap=l
   ·have:l=0:=by omega
    subst this
    simpa [fL] using key
   ·simpa [fL,Addr.add_mid] using key
  ·cases h
theorem S3 {ρ:Ren} {b o n sz l ab m fz:Nat} {arr:Array Value} {cs:List V} {mx:Bool} {v:V} (ak:ρ.frz b=some arr) (aR:o+cs.length≤arr.size)
  (ag:∀ (k:Nat) (v:V) (v':Value),cs[k]?=some v→arr[o+k]?=some v'→aA ρ v v') (h:yV n sz l ab m mx cs=some v) (hm:mx=true→fz=m) (oz:ab≤fz) :
  aA ρ v (.slice (if fz=l then some ⟨b,o,none⟩ else some (Addr.add ⟨b,o,none⟩ (l * sz))) (ab - l) (fz - l)):=by
 unfold yV at h
 split at h
 case isFalse=>cases h
 rename_i au
 split at h
 ·rename_i bK
  obtain rfl:_=v:=by simpa using h
  have:=hm bK.1
  have aw:fz - l=0:=by omega
  have aW:ab - l=0:=by omega
  rw [aw,aW]
  exact .z0 _ trivial
 ·obtain rfl:_=v:=by simpa using h
  by_cases fL:fz=l
  ·have aW:ab - l=0:=by omega
   rw [if_pos fL,aW]
   have:=aA.yg ak aR ag 0 0 (by omega) (Nat.zero_le (fz - l))
   simpa using this
  ·rw [if_neg fL,Addr.add_mid]
   exact .yg ak aR ag (l * sz) _ (by omega) (by omega)
theorem S4 {n sz l ab m:Nat} {mx:Bool} {cs:List V} {v:V} (h:yV n sz l ab m mx cs=some v):l≤ab∧ab≤m∧m≤n:=by
 unfold yV at h
 split at h
 ·rename_i au;exact ⟨au.1,au.2.1,au.2.2.1⟩
 ·cases h
theorem abU {P:Program} {t:TypeId} {x v:V} {bS:Value} {lo hi mx:Option V} {mA kU nh:Option Value} {h:I} (U:iJ P t x lo hi mx=some v) {ρ:Ren} {B:Nat} {aK w:World} (R:aQ ρ B aK h w)
  (ag:aA ρ x bS) (cg:Option.Rel (aA ρ) lo mA) (cZ:Option.Rel (aA ρ) hi kU) (gl:Option.Rel (aA ρ) mx nh):bH P (Instr.sliceAt t bS mA kU nh) ρ w v:=by
 have kH:∀ e bZ (b o len cap l ab m:Nat),P.underlying t=some (.slice e)→P.info? e=some bZ→(Instr.sliceBounds true len cap mA kU nh).run P w=.ok (l,ab,m) w →
   (Instr.sliceAt t (.slice (some ⟨b,o,none⟩) len cap) mA kU nh).run P w=.ok (.slice (if m=l then some ⟨b,o,none⟩ else some (Addr.add ⟨b,o,none⟩ (l * bZ.size))) (ab - l) (m - l)) w:=fun e bZ b o len cap l ab m hu ad ak=>by
  simp only [Instr.sliceAt,Sem.run_bind,run_underlying hu,Result.andThen_ok,Instr.slice,ak]
  by_cases fL:m=l
  ·simp [fL,sizeOf,typeInfo,ad]
  ·simp [fL,sizeOf,typeInfo,ad]
 have FE:∀ e bZ (b o n l ab m:Nat),P.underlying t=some (.array n e)→P.info? e=some bZ→(Instr.sliceBounds false n n mA kU nh).run P w=.ok (l,ab,m) w →
   (Instr.sliceAt t (.pointer (some ⟨b,o,none⟩)) mA kU nh).run P w=.ok (.slice (if m=l then some ⟨b,o,none⟩ else some (Addr.add ⟨b,o,none⟩ (l * bZ.size))) (ab - l) (m - l)) w:=fun e bZ b o n l ab m hu ad ak=>by
  by_cases fL:m=l
  ·simp [Instr.sliceAt,run_underlying hu,Instr.sureAddr,ak,fL,sizeOf,typeInfo,ad]
  ·simp [Instr.sliceAt,run_underlying hu,Instr.sureAddr,ak,fL,sizeOf,typeInfo,ad]
 unfold iJ at U
 split at U
 ·rename_i e i o len cap hu
  cases ag with
  | bc aH o len cap az=>
  rename_i b bw
  split at U
  case h_2=>cases U
  rename_i sz l ab m bf h1 aa aC
  cases ad:P.info? e with
  | none=>simp [cI,ad] at bf
  | some bZ=>
  simp [cI,ad] at bf
  subst bf
  split at U
  ·rename_i yh
   split at U
   case isFalse=>cases U
   rename_i fL
   have cw:fk bw len=len:=by simp [fk,fL.2.2]
   obtain ⟨fz,v7,oz,cG,a2,a3,eM⟩:=Od aH (by rw [cw];exact Nat.le_refl _) U
   obtain rfl:=v7 ⟨by omega,fL.2.2⟩
   refine bH.mk (kH e bZ b o len _ l ab fz hu ad ?_) eM
   obtain ⟨ap4,rfl⟩:=Option.isSome_iff_exists.1 yh.1
   refine vA cg cZ gl h1 aa ⟨cap,aC,by simp⟩ cG a2 (by omega) (fun ab=>?_)
   have:=ab.2
   cases hi
   ·simp at fL
   ·simp at this
  rename_i yh
  split at U
  case isTrue=>cases U
  rename_i kh
  obtain ⟨fz,v7,oz,cG,a2,a3,eM⟩:=Od aH az U
  refine bH.mk (kH e bZ b o len _ l ab fz hu ad ?_) eM
  by_cases au:cap<b2
  ·have dj:fk bw cap=cap:=by simp [fk,au]
   have yh:m<b2:=by
    have:=U
    unfold vz at this
    simp only [au,if_true] at this
    split at this
    ·omega
    ·cases this
   obtain rfl:=v7 ⟨yh,au⟩
   refine vA cg cZ gl h1 aa ⟨cap,aC,fun aG=>?_⟩ cG a2 a3 (fun ab=>kh ⟨ab.1,.inl ab.2⟩)
   subst aG;simp [eh] at aC;omega
  ·obtain ⟨rfl,rfl⟩:=oz (by omega)
   have Oe:mx=none:=by
    cases mx with
    | none=>rfl
    | some _=>exact absurd ⟨rfl,.inr (by omega)⟩ kh
   subst Oe
   exact vA cg cZ gl h1 aa ⟨fk bw m,rfl,fun _=>rfl⟩ cG a2 a3 (by simp)
 ·rename_i e n cs hu
  split at U
  case h_2=>cases U
  rename_i sz l ab m bf h1 aa aC
  split at U
  case isTrue=>cases U
  rename_i kh
  cases ad:P.info? e with
  | none=>simp [cI,ad] at bf
  | some bZ=>
  simp [cI,ad] at bf
  subst bf
  have hle:=S4 U
  cases ag with
  | ai o _ cap h8 aG aR ag=>
   rename_i b arr
   have:∃ fz,(mx.isSome=true→fz=m)∧ab≤fz∧(Instr.sliceBounds true n cap mA kU nh).run P w=.ok (l,ab,fz) w:=by
    cases mx with
    | none=>exact ⟨cap,by simp,by omega,vA cg cZ gl h1 aa ⟨cap,rfl,fun _=>rfl⟩ hle.1 (by omega) (Nat.le_refl _) (by simp)⟩
    | some _=>exact ⟨m,fun _=>rfl,hle.2.1,vA cg cZ gl h1 aa ⟨n,aC,by simp⟩ hle.1 hle.2.1 (by omega) kh⟩
   obtain ⟨fz,aw,aW,cJ⟩:=this
   exact bH.mk (kH e bZ b o n cap l ab fz hu ad cJ) (S3 h8 aR ag U aw aW)
  | eU a c aO=>
   have aw:l=0:=by omega
   have aW:ab=0:=by omega
   have cJ:m=0:=by omega
   subst aw;subst aW;subst cJ
   cases yX:mx.isSome with
   | true=>
    have ak:(Instr.sliceBounds true 0 c mA kU nh).run P w=.ok (0,0,0) w :=
     vA cg cZ gl h1 aa ⟨0,aC,fun aG=>by rw [aG] at yX;cases yX⟩ (Nat.le_refl _) (Nat.le_refl _) (Nat.zero_le _) kh
    have cv:(Instr.sliceAt t (.slice a 0 c) mA kU nh).run P w=.ok (.slice a 0 0) w:=by
     cases a with
     | none=>
      obtain rfl:=aO rfl
      simp [Instr.sliceAt,run_underlying hu,Instr.slice,ak,sizeOf,typeInfo,ad]
     | some a=>simp [Instr.sliceAt,run_underlying hu,Instr.slice,ak,sizeOf,typeInfo,ad]
    refine bH.mk cv ?_
    unfold yV at U
    simp [yX] at U
    obtain rfl:_=v:=by simpa using U
    exact .z0 a trivial
   | false=>
    have S5:mx=none:=by cases mx<;>simp at yX⊢
    subst S5
    have ak:(Instr.sliceBounds true 0 c mA kU nh).run P w=.ok (0,0,c) w :=
     vA cg cZ gl h1 aa ⟨c,rfl,fun _=>rfl⟩ (Nat.le_refl _) (Nat.zero_le _) (Nat.le_refl _) kh
    have cv:(Instr.sliceAt t (.slice a 0 c) mA kU nh).run P w=.ok (.slice a 0 c) w:=by
     cases a with
     | none=>
      obtain rfl:=aO rfl
      simp [Instr.sliceAt,run_underlying hu,Instr.slice,ak,sizeOf,typeInfo,ad]
     | some a=>
      by_cases r7:c=0
      ·subst r7;simp [Instr.sliceAt,run_underlying hu,Instr.slice,ak,sizeOf,typeInfo,ad]
      ·simp [Instr.sliceAt,run_underlying hu,Instr.slice,ak,sizeOf,typeInfo,ad,Addr.add,Ne.symm r7]
    refine bH.mk cv ?_
    unfold yV at U
    simp at U
    obtain rfl:_=v:=by simpa using U
    exact .eU a c aO
 ·rename_i e hu
  cases ag
  split at U
  case h_2=>cases U
  rename_i sz bf h1 aa aC
  split at U
  case isTrue=>cases U
  rename_i kh
  obtain rfl:_=v:=by simpa using U
  refine bH.mk ?_ .an
  have ak:(Instr.sliceBounds true 0 0 mA kU nh).run P w=.ok (0,0,0) w :=
   vA cg cZ gl h1 aa ⟨0,aC,fun _=>rfl⟩ (Nat.le_refl _) (Nat.le_refl _) (Nat.le_refl _) kh
  cases ad:P.info? e with
  | none=>simp [cI,ad] at bf
  | some bZ=>simp [Instr.sliceAt,run_underlying hu,Instr.slice,ak,sizeOf,typeInfo,ad]
 ·rename_i e hu
  cases ag with
  | z0 a aO=>
  split at U
  case h_2=>cases U
  rename_i sz bf h1 aa aC
  split at U
  case isTrue=>cases U
  rename_i kh
  obtain rfl:_=v:=by simpa using U
  refine bH.mk ?_ (.z0 a trivial)
  have ak:(Instr.sliceBounds true 0 0 mA kU nh).run P w=.ok (0,0,0) w :=
   vA cg cZ gl h1 aa ⟨0,aC,fun _=>rfl⟩ (Nat.le_refl _) (Nat.le_refl _) (Nat.le_refl _) kh
  cases ad:P.info? e with
  | none=>simp [cI,ad] at bf
  | some bZ=>cases a<;>simp [Instr.sliceAt,run_underlying hu,Instr.slice,ak,sizeOf,typeInfo,ad]
 ·rename_i n e i o hu
  cases ag with
  | ptr aH o=>
  rename_i b bw
  split at U
  case h_2=>cases U
  rename_i sz l ab m bf h1 aa aC
  split at U
  case isTrue=>cases U
  rename_i kh
  split at U
  case isFalse=>cases U
  rename_i FF
  cases ad:P.info? e with
  | none=>simp [cI,ad] at bf
  | some bZ=>
  simp [cI,ad] at bf
  subst bf
  have dj:fk bw n=n:=by simp [fk,FF]
  obtain ⟨fz,v7,oz,cG,a2,a3,eM⟩:=Od aH (by rw [dj];exact Nat.le_refl _) U
  rw [dj] at a3
  have yh:m<b2:=by
   have:=U
   unfold vz at this
   simp only [FF,if_true] at this
   split at this
   ·omega
   ·cases this
  obtain rfl:=v7 ⟨yh,FF⟩
  exact bH.mk (FE e bZ b o n l ab fz hu ad (vA cg cZ gl h1 aa ⟨n,aC,fun aG=>by subst aG;simp [eh] at aC;omega⟩ cG a2 a3 kh)) eM
 ·rename_i n e cs hu
  cases ag with
  | «at» o h8 aR ag=>
  rename_i b arr
  split at U
  case h_2=>cases U
  rename_i sz l ab m bf h1 aa aC
  split at U
  case isTrue=>cases U
  rename_i kh
  cases ad:P.info? e with
  | none=>simp [cI,ad] at bf
  | some bZ=>
  simp [cI,ad] at bf
  subst bf
  have hle:=S4 U
  refine bH.mk (FE e bZ b o n l ab m hu ad (vA cg cZ gl h1 aa ⟨n,aC,fun aG=>by subst aG;simp [eh] at aC;omega⟩ hle.1 hle.2.1 hle.2.2 kh)) (S3 h8 aR ag U (fun _=>rfl) hle.2.1)
 ·rename_i s hu
  cases ag
  split at U
  case h_2=>cases U
  rename_i l ab h1 aa
  split at U
  case isFalse=>cases U
  rename_i ak
  obtain rfl:_=v:=by simpa using U
  refine bH.mk ?_ (.string _)
  cases gl
  have ak:(Instr.sliceBounds false s.size s.size mA kU none).run P w=.ok (l,ab,s.size) w :=
   vA cg cZ .none h1 aa ⟨s.size,rfl,fun _=>rfl⟩ ak.1 ak.2 (Nat.le_refl _) (by simp)
  simp [Instr.sliceAt,run_underlying hu,Instr.slice,ak]
 ·cases U
def made {α:Type} (z:List α) (n:Nat):List α:=(List.replicate n z).flatten
theorem Es {α:Type} (z:List α) (n:Nat):made z (n+1)=made z n++z:=by simp [made,List.replicate_succ']
theorem zU {α:Type} (z:List α) (n:Nat):(made z n).length=n * z.length:=by
 induction n with
 | zero=>simp [made]
 | succ n ih=>rw [Es,List.length_append,ih,Nat.succ_mul]
theorem S6 {α:Type} (z:α) (n:Nat):made [z] n=List.replicate n z:=by
 induction n with
 | zero=>rfl
 | succ n ih=>rw [Es,ih];simp [List.replicate_succ']
theorem JF (z:Array Value) (n:Nat):(madeCells z (n * z.size)).toList=made z.toList n:=by
 have e:∀ k,(madeCells z k).toList=(List.range k).map (fun i=>z[i % z.size]!):=fun k=>by simp [madeCells]
 rw [e]
 induction n with
 | zero=>simp [made]
 | succ n ih=>
  rw [Nat.succ_mul,List.range_add,List.map_append,ih,Es]
  congr 1
  apply List.ext_getElem
  ·simp
  ·intro k h1 aa
   have hk:k<z.size:=by simpa using aa
   simp [Nat.mod_eq_of_lt hk,hk]
theorem aT.made {ρ:Ren} {z:List V} {Et:List Value} (h:aT ρ z Et) (n:Nat):aT ρ (made z n) (made Et n):=by
 induction n with
 | zero=>simp [Ab.made,aT.nil]
 | succ n ih=>rw [Es,Es];exact ih.append h
def yY (P:Program) (t:TypeId) (l c:V) (h:I):Option (V×I) :=
 match s4 P t,uh l,uh c with
 | some e,some l,some c=>
  match hF P e,Em P e with
  | some zs,some ao=>if some zs.length=cI P e∧l≤c∧ao * c≤140737488355328∧c≤140737488355328 then
    some (.bc h.n 0 l c,h.push (.cells (made zs c) e none)) else none
  | _,_=>none
 | _,_,_=>none
theorem abV {P:Program} {t:TypeId} {l c v:V} {b0 j6:Value} {h h':I} (U:yY P t l c h=some (v,h')) {ρ:Ren} {B:Nat} {aK w:World} (R:aQ ρ B aK h w)
  (az:aA ρ l b0) (au:aA ρ c j6):Yields P (Instr.makeSlice t b0 j6) ρ B aK w v h':=by
 unfold yY at U
 split at U
 case h_2=>cases U
 rename_i e S7 ui he h1 aa
 split at U
 case h_2=>cases U
 rename_i zs ao eX hG
 split at U
 case isFalse=>cases U
 rename_i lf
 obtain ⟨bh,c3,ew,c5⟩:=lf
 simp at U
 obtain ⟨rfl,rfl⟩:=U
 obtain ⟨z,bK,eM⟩:=Ep eX
 obtain ⟨bB,rfl⟩:=BH h1 az
 obtain ⟨k2,rfl⟩:=BH aa au
 have hu:P.underlying t=some (.slice e):=by
  unfold s4 at he
  split at he
  ·rename_i hu;rw [hu];simpa using he
  ·cases he
 cases ad:P.info? e with
 | none=>simp [lO,ad] at bK
 | some bZ=>
  simp [lO,ad] at bK
  simp [Em,ad] at hG
  simp [cI,ad] at bh
  have u5:=(eM ρ).1
  simp at u5
  have aH:=run_make (P:=P) w t e bZ z hu ad bK bB k2 (S7:Int) (ui:Int) (by omega) (by omega) (by rw [hG];omega) (by omega)
  have JG:(madeCells z.cells (ui * bZ.size)).toList=made z.cells.toList ui:=by rw [←bh,u5];exact JF _ _
  have r8:madeCells z.cells (ui * bZ.size)=(made z.cells.toList ui).toArray:=by rw [←JG]
  simp only [Int.toNat_natCast,r8] at aH
  obtain ⟨ρ',hle,aG,eb⟩:=Oc R e ((eM ρ).made ui) ui
  refine ⟨ρ',_,_,aH,?_,eb,hle⟩
  have lY:ui<b2:=by unfold b2;omega
  have:=aA.bc aG 0 S7 ui (by simp [fk,lY,c3])
  simpa [fk,lY] using this
def fm (P:Program) (sz:Nat) (tx:TypeId) (x:V) (h:I):Option (Nat×List V) :=
 match P.underlying tx,x with
 | some (.slice _),.an=>some (0,[])
 | some (.slice _),.z0=>some (0,[])
 | some (.slice _),.fi=>some (0,[])
 | some (.slice _),.ai n cs=>if cs.length=n * sz∧cs.all (·.one)=true then some (n,cs) else none
 | some (.slice _),.bc i o n _=>
  match h.get i with
  | .cells c _ _=>if o+n * sz≤c.length∧((c.drop o).take (n * sz)).all (·.one)=true then some (n,(c.drop o).take (n * sz)) else none
  | _=>none
 | some .string,.string s=>if sz=1 then some (s.size,(byteCells s).map fX) else none
 | _,_=>none
theorem abW (s:ByteArray):(byteCells s).map fX=s.data.toList.map fun b=>V.int .u8 b.toNat:=by simp [byteCells,fX]
theorem Of (ρ:Ren) (s:ByteArray):aT ρ ((byteCells s).map fX) (byteCells s):=aT.of_map (zR ρ) _
theorem abX {P:Program} {sz:Nat} {tx:TypeId} {x:V} {bS:Value} {h:I} {n:Nat} {news:List V} (U:fm P sz tx x h=some (n,news)) {ρ:Ren} {B:Nat} {aK w:World} (R:aQ ρ B aK h w)
  (ag:aA ρ x bS):∃ dL,Src P sz tx bS n dL w∧aT ρ news dL∧news.length=n * sz∧news.all (·.one)=true:=by
 unfold fm at U
 split at U
 ·rename_i e hu
  cases ag
  simp at U
  obtain ⟨rfl,rfl⟩:=U
  exact ⟨[],Src.ofNil w hu 0,.nil ρ,by simp,rfl⟩
 ·rename_i e hu
  simp at U
  obtain ⟨rfl,rfl⟩:=U
  cases ag with
  | z0 a aO=>
   cases a with
   | none=>exact ⟨[],Src.ofNil w hu 0,.nil ρ,by simp,rfl⟩
   | some a=>exact ⟨[],Src.ofSlice w hu a 0 0 [] (by simp) (by simp) (by simp),.nil ρ,by simp,rfl⟩
 ·rename_i e hu
  simp at U
  obtain ⟨rfl,rfl⟩:=U
  cases ag with
  | fi a c=>exact ⟨[],Src.ofSlice w hu a 0 c [] (by simp) (by simp) (by simp),.nil ρ,by simp,rfl⟩
 ·rename_i e m cs hu
  split at U
  case isFalse=>cases U
  rename_i au
  simp at U
  obtain ⟨rfl,rfl⟩:=U
  rcases ag.jX with ⟨rfl,rfl,a,qQ,aO,rfl⟩ | ⟨b,o,cap,arr,ak,aG,aR,dX,rfl⟩
  ·cases a with
   | none=>
    obtain rfl:=aO rfl
    exact ⟨[],Src.ofNil w hu 0,.nil ρ,by simp,rfl⟩
   | some a=>exact ⟨[],Src.ofSlice w hu a 0 qQ [] (by simp) (by simp) (by simp),.nil ρ,by simp,rfl⟩
  ·have hI:aA ρ (.at cs) (.pointer (some ⟨b,o,none⟩)):=.at o ak aR dX
   obtain ⟨bW,ei,he,cS⟩:=yU R.heap hI (cs:=cs) rfl
   simp at he
   obtain ⟨rfl,rfl⟩:=he
   obtain ⟨vs,h1,aa,aC⟩:=cS cs.length (Nat.le_refl _)
   rw [List.take_length] at aa
   exact ⟨vs,Src.ofSlice w hu ⟨b,o,none⟩ m cap vs (by rw [aC,au.1]) (fun j u hu=>by rw [Addr.add_mid];exact h1 j u hu) (aa.one au.2),aa,au.1,au.2⟩
 ·rename_i e i o ft cap hu
  obtain ⟨b,bw,hi,az,rfl⟩:=ag.fA
  split at U
  case h_2=>cases U
  rename_i c aW ex av
  split at U
  case isFalse=>cases U
  rename_i au
  simp at U
  obtain ⟨rfl,rfl⟩:=U
  have lP:aA ρ (.ptr i o) (.pointer (some ⟨b,o,none⟩)):=.ptr hi o
  obtain ⟨bW,ei,he,cS⟩:=yU R.heap lP (cs:=c.drop o) (by simp [qy,av];omega)
  simp at he
  obtain ⟨rfl,rfl⟩:=he
  obtain ⟨vs,h1,aa,aC⟩:=cS (ft * sz) (by simp;omega)
  exact ⟨vs,Src.ofSlice w hu ⟨b,o,none⟩ ft (fk bw cap) vs aC (fun j u hu=>by rw [Addr.add_mid];exact h1 j u hu) (aa.one au.2),aa,by simp;omega,au.2⟩
 ·rename_i s hu
  cases ag
  split at U
  case isFalse=>cases U
  rename_i h1
  subst h1
  simp at U
  obtain ⟨rfl,rfl⟩:=U
  have fv:=Src.ofString w hu s
  refine ⟨byteCells s,fv,Of ρ s,by simp [fv.newsLen],?_⟩
  rw [abW,List.all_eq_true]
  intro v aD
  obtain ⟨b,_,rfl⟩:=List.mem_map.1 aD
  rfl
 ·cases U
theorem aQ.move {ρ:Ren} {B:Nat} {aK:World} {h:I} {w w':World} (R:aQ ρ B aK h w) {i b bw:Nat} (hi:ρ.ren i=some (b,bw)) (yi:h.get i≠.dead)
  {c:List V} {arr:Array Value} {e:TypeId} {ex:Option Nat}
  (hold:∀ k,k≠b→w'.heap[k]?=w.heap[k]?) (l9:w'.heap[b]?=some (.cells arr e (0,0))) (bf:w.heap.size≤w'.heap.size)
  (ak:gD B w w') (au:c.length≤arr.size) (az:aT ρ c (arr.toList.take c.length)) (ag:BF ex bw arr.size c.length) :
  ∃ ρ':Ren,ρ.le ρ'∧ρ'.ren h.n=some (b,bw)∧aQ ρ' B aK ((h.set i .dead).push (.cells c e ex)) w':=by
 have hle:=Ren.qO (R.heap.kg _ (Nat.le_refl _)) b bw
 have ch:i<h.n:=R.heap.lt hi
 obtain ⟨pf,Dv,yj,hG,_,h8,S8⟩:=R.heap.live yi
 rw [yj] at hi;simp at hi
 obtain ⟨rfl,rfl⟩:=hi
 refine ⟨_,hle,Ren.l8,⟨⟨fun j aS=>?_,fun j k cF bh bD aS hk h1 aa=>?_,fun j=>?_,fun k a hk=>?_,fun g cs av=>?_,Nat.le_trans R.heap.base bf⟩,R.below.trans ak⟩⟩
 ·simp only [I.push,I.set] at aS
  simp [Ren.add,show j≠h.n by omega,R.heap.kg j (by omega)]
 ·simp only [I.push,I.set] at aS hk
  simp only [Ren.add] at h1 aa
  by_cases h7:j=h.n<;>by_cases pg:k=h.n
  ·omega
  ·simp [h7] at h1;simp [pg] at aa hk
   obtain ⟨rfl,rfl⟩:=h1
   have:=R.heap.inj i k pf Dv bD yi hk.2 yj aa
   exact absurd this.symm hk.1
  ·simp [pg] at aa;simp only [h7,if_false] at h1 aS
   obtain ⟨rfl,rfl⟩:=aa
   by_cases cB:j=i
   ·simp [cB] at aS
   ·simp only [cB,if_false] at aS
    have:=R.heap.inj j i pf bh Dv aS yi h1 yj
    exact absurd this cB
  ·simp only [h7,if_false] at h1 aS;simp [pg] at aa hk
   by_cases cB:j=i
   ·simp [cB] at aS
   ·simp only [cB,if_false] at aS
    exact R.heap.inj j k cF bh bD aS hk.2 h1 aa
 ·by_cases h7:j=h.n
  ·subst h7
   simp only [I.push,I.set,if_true]
   exact ⟨pf,Dv,arr,Ren.l8,h8,S8,l9,au,az.mono hle,ag⟩
  ·simp only [I.push,I.set,h7,if_false]
   by_cases cB:j=i
   ·subst cB;simp only [if_true];trivial
   ·simp only [cB,if_false]
    by_cases a7:h.get j=.dead
    ·rw [a7];trivial
    ·refine (R.heap.obj j).al hle fun bW bh aH=>⟨hold bW ?_,fun h=>h⟩
     intro u3
     subst u3
     exact cB (R.heap.inj i j bW Dv bh yi a7 yj aH).symm
 ·obtain ⟨dh,fl,hw⟩:=R.heap.frz k a hk
  have:k≠pf:=by intro ab;subst ab;simp only [Ren.add] at hk;rw [h8] at hk;cases hk
  exact ⟨dh,fl,(hold k this).trans hw⟩
 ·obtain ⟨iq,b4,gj⟩:=R.heap.glob g cs av
  exact ⟨iq,b4,gj.mono hle⟩
def lim:Nat:=140737488355328
def Og (P:Program) (tx e:TypeId) (zs:List V) (sz ao:Nat) (s x:V) (h:I):Option (V×I) :=
 match P.underlying tx,x,s with
 | some (.int _),.int _ n,.bc i o len cap=>
  match h.get i with
  | .cells c _ _=>
   if 0<n∧cap<b2∧cap<len+n.toNat∧(len+n.toNat) * ao≤lim∧len+n.toNat≤lim∧o+len * sz≤c.length∧0<sz then
    some (.bc h.n 0 (len+n.toNat) b2,h.push (.cells ((c.drop o).take (len * sz)++made zs n.toNat) e (some sz)))
   else none
  | _=>none
 | _,_,_=>none
def ma (P:Program) (t tx:TypeId) (s x:V) (h:I):Option (V×I) :=
 match s4 P t with
 | none=>none
 | some e=>
 match hF P e,cI P e,Em P e with
 | some zs,some sz,some ao=>
  if zs.length=sz then
   match fm P sz tx x h with
   | none=>Og P tx e zs sz ao s x h
   | some (n,news)=>
    match s with
    | .an=>
     if n=0 then some (.an,h)
     else if n * ao≤lim∧n≤lim then some (.bc h.n 0 n b2,h.push (.cells news e (some sz))) else none
    | .z0=>
     if n=0 then some (.z0,h)
     else if n * ao≤lim∧n≤lim then some (.bc h.n 0 n b2,h.push (.cells news e (some sz))) else none
    | .bc i o len cap=>
     if n=0 then some (.bc i o len cap,h)
     else if (len+n) * ao≤lim∧len+n≤lim then
      match h.get i with
      | .cells c aW ex=>
       if cap<b2 then
        if len+n≤cap then
         if o+(len+n) * sz≤c.length then some (.bc i o (len+n) cap,h.set i (.cells (lay c (o+len * sz) news) aW ex)) else none
        else if o+len * sz≤c.length then some (.bc h.n 0 (len+n) b2,h.push (.cells ((c.drop o).take (len * sz)++news) e (some sz))) else none
       else if o=0∧cap=b2∧ex=some sz∧len * sz≤c.length∧aW=e then
         some (.bc h.n 0 (len+n) b2,(h.set i .dead).push (.cells (c.take (len * sz)++news) e (some sz)))
        else none
      | _=>none
     else none
    | _=>none
  else none
 | _,_,_=>none
theorem Oh {P:Program} (w w':World) (t tx ty e:TypeId) (i:TypeInfo) (bq:P.underlying t=some (.slice e)) (hi:P.info? e=some i) (b off sLen sCap:Nat) (x:Value) (n:Nat) (news:List Value)
  (U:Src P i.size tx x n news w) (eG:sLen+n≤sCap) (cR:(storeCells ⟨b,off+sLen * i.size,none⟩ news).run P w=.ok () w') :
  (Builtin.append_ #[t,tx] ty #[.slice (some ⟨b,off,none⟩) sLen sCap,x]).run P w=.ok (.slice (some ⟨b,off,none⟩) (sLen+n) sCap) w':=by
 rcases U.kind with ⟨dh,hk⟩ | hk<;>simp [Builtin.append_,run_underlying bq,run_underlying hk,sizeOf,typeInfo,hi,U.len,eG,U.cells,Addr.add_lit,cR]
theorem S9 {P:Program} (w:World) (t tx ty e:TypeId) (i:TypeInfo) (bq:P.underlying t=some (.slice e)) (hi:P.info? e=some i) (x:Value) (news:List Value)
  (U:Src P i.size tx x 0 news w) :
  (Builtin.append_ #[t,tx] ty #[.slice none 0 0,x]).run P w=.ok (.slice none 0 0) w:=by
 have az:=U.newsLen
 simp at az
 subst az
 rcases U.kind with ⟨dh,hk⟩ | hk<;>simp [Builtin.append_,run_underlying bq,run_underlying hk,sizeOf,typeInfo,hi,U.len,U.cells]
theorem JH {P:Program} {t tx ty e:TypeId} {bZ:TypeInfo} {z:Value} (hu:P.underlying t=some (.slice e)) (ad:P.info? e=some bZ) (bK:bZ.zero=some z) (eX:z.cells.size=bZ.size)
  {h:I} {ρ:Ren} {B:Nat} {aK w:World} (R:aQ ρ B aK h w) {base:Option Addr} {sLen sCap n:Nat} {olds news:List V} {olds' dL:List Value} {bS:Value}
  (hold:(Builtin.firstCells bZ.size sLen (.slice base sLen sCap)).run P w.drew=.ok olds'.toArray w.drew) (v8:aT ρ olds olds') (yk:olds.length=sLen * bZ.size)
  (fv:Src P bZ.size tx bS n dL w) (lg:aT ρ news dL) (av:sCap<sLen+n) (h1:(sLen+n) * bZ.bytes≤lim) (aa:sLen+n≤lim) :
  Yields P (Builtin.append_ #[t,tx] ty #[.slice base sLen sCap,bS]) ρ B aK w (.bc h.n 0 (sLen+n) b2) (h.push (.cells (olds++news) e (some bZ.size))):=by
 unfold lim at h1 aa
 have eW:Builtin.nextslicecap (sLen+n) sCap * bZ.bytes≤281474976710656:=by
  have:=nextslicecap_le av
  calc _≤(2 * (sLen+n)) * bZ.bytes:=Nat.mul_le_mul_right _ this
   _=2 * ((sLen+n) * bZ.bytes):=by rw [Nat.mul_assoc]
   _≤_:=by omega
 have cv:=run_append_grow_src w t tx ty e bZ z hu ad bK base sLen sCap olds' hold bS n dL fv av (by omega) eW
 have ph:=grownCap_ge w (sLen+n) sCap e
 have hlen:(olds'++dL).length=(sLen+n) * bZ.size:=by
  rw [List.length_append,←v8.1,yk,fv.newsLen,Nat.add_mul]
 obtain ⟨ρ',hle,aG,eb⟩:=R.drew.push (c:=olds++news) (arr:=(olds'++dL).toArray++Builtin.zeroCells z.cells (grownCap w (sLen+n) sCap e - (sLen+n))) (e:=e) (ex:=some bZ.size)
  (w':=w.drew.alloc (.cells ((olds'++dL).toArray++Builtin.zeroCells z.cells (grownCap w (sLen+n) sCap e - (sLen+n))) e)) (grownCap w (sLen+n) sCap e)
  (by simp) (fun k hk=>Below.heap_alloc w.drew _ k hk) (heap_alloc_new w.drew _) ((gD.refl _ _).alloc R.drew.heap.base _)
  (by rw [(v8.append lg).1];simp)
  (by
   rw [(v8.append lg).1]
   have aw:((olds'++dL).toArray++Builtin.zeroCells z.cells (grownCap w (sLen+n) sCap e - (sLen+n))).toList.take (olds'++dL).length=olds'++dL:=by
    simp only [Array.toList_append]
    exact List.take_left
   rw [aw]
   exact v8.append lg)
  (by
   refine ⟨?_,?_⟩
   ·rw [Array.size_append,size_zeroCells,eX,List.size_toArray,hlen,←Nat.add_mul]
    congr 1
    omega
   ·have:=grownCap_le_maxLen w (sLen+n) sCap e (by simp only [maxLen];omega)
    simp only [maxLen] at this
    omega)
 refine ⟨ρ',_,_,cv,?_,eb,hle⟩
 have:=aA.bc (ρ:=ρ') aG 0 (sLen+n) b2 (by simp [fk,ph])
 simpa [fk] using this
theorem abY {P:Program} {t tn ty e:TypeId} {bZ:TypeInfo} {z:Value} {kq kn:IntKind} (hu:P.underlying t=some (.slice e)) (aG:P.underlying tn=some (.int kn)) (ad:P.info? e=some bZ) (bK:bZ.zero=some z) (eX:z.cells.size=bZ.size)
  {h:I} {ρ:Ren} {B:Nat} {aK w:World} (R:aQ ρ B aK h w) {base:Option Addr} {sLen sCap n:Nat} {olds zs:List V} {olds':List Value}
  (hold:(Builtin.firstCells bZ.size sLen (.slice base sLen sCap)).run P w.drew=.ok olds'.toArray w.drew) (v8:aT ρ olds olds') (yk:olds.length=sLen * bZ.size)
  (Ta:aT ρ zs z.cells.toList) (h0:0<n) (U:0<bZ.size) (av:sCap<sLen+n) (h1:(sLen+n) * bZ.bytes≤lim) (aa:sLen+n≤lim) :
  Yields P (Builtin.append_ #[t,tn] ty #[.slice base sLen sCap,.int kq n]) ρ B aK w (.bc h.n 0 (sLen+n) b2) (h.push (.cells (olds++made zs n) e (some bZ.size))):=by
 unfold lim at h1 aa
 have eW:Builtin.nextslicecap (sLen+n) sCap * bZ.bytes≤281474976710656:=by
  have:=nextslicecap_le av
  calc _≤(2 * (sLen+n)) * bZ.bytes:=Nat.mul_le_mul_right _ this
   _=2 * ((sLen+n) * bZ.bytes):=by rw [Nat.mul_assoc]
   _≤_:=by omega
 have Tb:n * bZ.bytes≤281474976710656:=Nat.le_trans (Nat.mul_le_mul_right _ (Nat.le_add_left n sLen)) (by omega)
 have cv:=Lib.run_append_grow_zeros w t tn ty e bZ z kq kn hu aG ad bK base sLen sCap olds' hold n h0 U av (by omega) Tb eW
 have ph:=grownCap_ge w (sLen+n) sCap e
 have u5:(Builtin.zeroCells z.cells n).toList=made z.cells.toList n:=JF z.cells n
 have lg:aT ρ (made zs n) (Builtin.zeroCells z.cells n).toList:=by rw [u5];exact Ta.made n
 have BI:=v8.append lg
 have hlen:(olds'++(Builtin.zeroCells z.cells n).toList).length=(sLen+n) * bZ.size:=by
  rw [List.length_append,←v8.1,yk,u5,zU,Array.length_toList,eX,Nat.add_mul]
 obtain ⟨ρ',hle,oA,eb⟩:=R.drew.push (c:=olds++made zs n) (arr:=olds'.toArray++Builtin.zeroCells z.cells n++Builtin.zeroCells z.cells (grownCap w (sLen+n) sCap e - (sLen+n))) (e:=e) (ex:=some bZ.size)
  (w':=w.drew.alloc (.cells (olds'.toArray++Builtin.zeroCells z.cells n++Builtin.zeroCells z.cells (grownCap w (sLen+n) sCap e - (sLen+n))) e)) (grownCap w (sLen+n) sCap e)
  (by simp) (fun k hk=>Below.heap_alloc w.drew _ k hk) (heap_alloc_new w.drew _) ((gD.refl _ _).alloc R.drew.heap.base _)
  (by rw [BI.1];simp)
  (by
   rw [BI.1]
   have aw:(olds'.toArray++Builtin.zeroCells z.cells n++Builtin.zeroCells z.cells (grownCap w (sLen+n) sCap e - (sLen+n))).toList.take (olds'++(Builtin.zeroCells z.cells n).toList).length=olds'++(Builtin.zeroCells z.cells n).toList:=by
    simp only [Array.toList_append]
    exact List.take_left
   rw [aw]
   exact BI)
  (by
   refine ⟨?_,?_⟩
   ·have q:(olds'.toArray++Builtin.zeroCells z.cells n).size=(sLen+n) * bZ.size:=by rw [←hlen];simp
    rw [Array.size_append,size_zeroCells,eX,q,←Nat.add_mul]
    congr 1
    omega
   ·have:=grownCap_le_maxLen w (sLen+n) sCap e (by simp only [maxLen];omega)
    simp only [maxLen] at this
    omega)
 refine ⟨ρ',_,_,cv,?_,eb,hle⟩
 have:=aA.bc (ρ:=ρ') oA 0 (sLen+n) b2 (by simp [fk,ph])
 simpa [fk] using this
theorem abZ {P:Program} {t tx ty:TypeId} {s x v:V} {cK bS:Value} {h h':I} (U:ma P t tx s x h=some (v,h')) {ρ:Ren} {B:Nat} {aK w:World} (R:aQ ρ B aK h w)
  (aH:aA ρ s cK) (ag:aA ρ x bS):Yields P (Builtin.append_ #[t,tx] ty #[cK,bS]) ρ B aK w v h':=by
 unfold ma at U
 split at U
 case h_1=>cases U
 rename_i e he
 have hu:P.underlying t=some (.slice e):=by
  unfold s4 at he
  split at he
  ·rename_i hu;rw [hu];simpa using he
  ·cases he
 split at U
 case h_2=>cases U
 rename_i zs sz ao s7 bf hG
 split at U
 case isFalse=>cases U
 rename_i eX
 obtain ⟨z,bK,Dw⟩:=Ep s7
 have eX:z.cells.size=sz:=by have:=(Dw ρ).1;simp at this;omega
 cases ad:P.info? e with
 | none=>simp [lO,ad] at bK
 | some bZ=>
 simp [lO,ad] at bK
 simp [Em,ad] at hG
 simp [cI,ad] at bf
 subst bf
 subst hG
 split at U
 case h_1=>
  unfold Og at U
  split at U
  case h_2=>cases U
  rename_i n i o len cap r9 ia
  split at U
  case h_2=>cases U
  rename_i c aW ex av
  split at U
  case isFalse=>cases U
  rename_i ak
  obtain ⟨Dx,lY,cw,iK,ki,eW,L4⟩:=ak
  simp at U
  obtain ⟨rfl,rfl⟩:=U
  obtain ⟨b,bw,hi,az,rfl⟩:=aH.fA
  cases ag
  have dj:fk bw cap=cap:=by simp [fk,lY]
  rw [dj] at az⊢
  have lP:aA ρ (.ptr i o) (.pointer (some ⟨b,o,none⟩)):=.ptr hi o
  obtain ⟨bW,ei,sa,cS⟩:=yU R.drew.heap lP (cs:=c.drop o) (by simp [qy,av];omega)
  simp at sa
  obtain ⟨rfl,rfl⟩:=sa
  obtain ⟨olds',s8,iH,zV⟩:=cS (len * bZ.size) (by simp;omega)
  have L5:n=((n.toNat:Nat):Int):=by omega
  rw [L5]
  exact abY hu r9 ad bK eX R (run_firstCells_some (P:=P) w.drew bZ.size len ⟨b,o,none⟩ len cap olds' zV (fun j v aD=>by rw [Addr.add_mid];simpa using s8 j v aD)) iH (by rw [iH.1,zV]) (Dw ρ) (by omega) L4 cw iK ki
 rename_i n news dT
 obtain ⟨dL,fv,lg,qR,b5⟩:=abX dT R ag
 split at U
 ·cases aH
  split at U
  ·rename_i h0
   subst h0
   simp at U
   obtain ⟨rfl,rfl⟩:=U
   exact .same R (S9 w t tx ty e bZ hu ad bS dL fv) .an
  ·rename_i h0
   split at U
   case isFalse=>cases U
   rename_i ak
   simp at U
   obtain ⟨rfl,rfl⟩:=U
   have:=JH (ty:=ty) hu ad bK eX R (base:=none) (sLen:=0) (sCap:=0) (olds:=[]) (olds':=[]) (by simpa using run_firstCells_none (P:=P) w.drew bZ.size 0 0 0) (.nil ρ) (by simp) fv lg (by omega) (by simpa using ak.1) (by simpa using ak.2)
   simpa using this
 ·cases aH with
  | z0 a aO=>
  split at U
  ·rename_i h0
   subst h0
   simp at U
   obtain ⟨rfl,rfl⟩:=U
   cases a with
   | none=>exact .same R (S9 w t tx ty e bZ hu ad bS dL fv) (.z0 none (by simp))
   | some a=>
    have dk:dL=[]:=by have:=fv.newsLen;simpa using this
    subst dk
    have:(Builtin.append_ #[t,tx] ty #[.slice (some a) 0 0,bS]).run P w=.ok (.slice (some a) 0 0) w:=by
     rcases fv.kind with ⟨dh,hk⟩ | hk<;>simp [Builtin.append_,run_underlying hu,run_underlying hk,sizeOf,typeInfo,ad,fv.len,fv.cells,storeCells]
    exact .same R this (.z0 _ aO)
  ·rename_i h0
   split at U
   case isFalse=>cases U
   rename_i ak
   simp at U
   obtain ⟨rfl,rfl⟩:=U
   have:=JH (ty:=ty) hu ad bK eX R (base:=a) (sLen:=0) (sCap:=0) (olds:=[]) (olds':=[]) (by
    cases a with
    | none=>simpa using run_firstCells_none (P:=P) w.drew bZ.size 0 0 0
    | some a=>simpa using run_firstCells_some (P:=P) w.drew bZ.size 0 a 0 0 [] (by simp) (by simp)) (.nil ρ) (by simp) fv lg (by omega) (by simpa using ak.1) (by simpa using ak.2)
   simpa using this
 ·rename_i i o len cap
  obtain ⟨b,bw,hi,az,rfl⟩:=aH.fA
  split at U
  ·rename_i h0
   subst h0
   simp at U
   obtain ⟨rfl,rfl⟩:=U
   have dk:dL=[]:=by have:=fv.newsLen;simpa using this
   subst dk
   refine .same R (v':=.slice (some ⟨b,o,none⟩) len (fk bw cap)) ?_ (.bc hi o len cap az)
   have:=Oh (P:=P) w w t tx ty e bZ hu ad b o len (fk bw cap) bS 0 [] fv (by omega) (by simp [storeCells])
   simpa using this
  ·rename_i h0
   split at U
   case isFalse=>cases U
   rename_i ak
   split at U
   case h_2=>cases U
   rename_i c aW ex av
   have olds:∀ bX:World,aQ ρ B aK h bX→o+len * bZ.size≤c.length→∃ olds',bX.rangeAt b o olds'∧aT ρ ((c.drop o).take (len * bZ.size)) olds'∧olds'.length=len * bZ.size:=fun bX Oi eW=>by
    have lP:aA ρ (.ptr i o) (.pointer (some ⟨b,o,none⟩)):=.ptr hi o
    obtain ⟨bW,ei,he,cS⟩:=yU Oi.heap lP (cs:=c.drop o) (by simp [qy,av];omega)
    simp at he
    obtain ⟨rfl,rfl⟩:=he
    exact cS _ (by simp;omega)
   split at U
   ·rename_i lY
    have dj:fk bw cap=cap:=by simp [fk,lY]
    rw [dj]
    rw [dj] at az
    split at U
    ·rename_i eG
     split at U
     case isFalse=>cases U
     rename_i eW
     simp at U
     obtain ⟨rfl,rfl⟩:=U
     obtain ⟨w',cR,eb⟩:=FD (P:=P) av R hi (o+len * bZ.size) lg b5 (by rw [qR];have:=Nat.add_mul len n bZ.size;omega)
     have cv:=Oh w w' t tx ty e bZ hu ad b o len cap bS n dL fv eG cR
     refine ⟨ρ,_,_,cv,?_,eb,Ren.le.refl ρ⟩
     have:=aA.bc hi o (len+n) cap (by rw [dj];exact eG)
     rwa [dj] at this
    ·rename_i eG
     split at U
     case isFalse=>cases U
     rename_i eW
     simp at U
     obtain ⟨rfl,rfl⟩:=U
     obtain ⟨olds',qS,ni,wa⟩:=olds w R eW
     exact JH hu ad bK eX R (run_firstCells_some (P:=P) w.drew bZ.size len ⟨b,o,none⟩ len cap olds' wa (fun j v aD=>by rw [Addr.add_mid];simpa using qS j v aD)) ni (by rw [ni.1,wa]) fv lg (by omega) ak.1 ak.2
   ·rename_i lY
    split at U
    case isFalse=>cases U
    rename_i lf
    obtain ⟨rfl,rfl,rfl,iL,rfl⟩:=lf
    simp at U
    obtain ⟨rfl,rfl⟩:=U
    have dj:fk bw b2=bw:=by simp [fk]
    rw [dj]
    rw [dj] at az
    by_cases eG:len+n≤bw
    ·have aR:=R.heap.obj i
     rw [av] at aR
     obtain ⟨bW,iI,arr,iH,aq,bM,hw,au,wb,L6⟩:=aR
     rw [iH] at hi
     simp at hi
     obtain ⟨rfl,rfl⟩:=hi
     have BJ:arr.size=iI * bZ.size:=L6.1
     have FG:len * bZ.size+dL.length≤arr.size:=by
      rw [fv.newsLen,BJ,←Nat.add_mul]
      exact Nat.mul_le_mul_right _ eG
     have cR:=run_storeCells_at P bW (len * bZ.size) aW dL 0 arr w hw (by simpa using FG) (lg.one b5)
     simp only [Nat.add_zero] at cR
     have cv:=Oh w _ t tx ty aW bZ hu ad bW 0 len iI bS n dL fv eG (by simpa using cR)
     have oB:(c.take (len * bZ.size)).length=len * bZ.size:=by simp;omega
     obtain ⟨ρ',hle,aG,eb⟩:=R.move (w':=w.setRow bW (arr.toList.take (len * bZ.size)++dL++arr.toList.drop (len * bZ.size+dL.length)).toArray) (c:=c.take (len * bZ.size)++news) (ex:=some bZ.size) iH (by rw [av];simp)
      (fun k hk=>by simp [World.setRow,Array.getElem?_modify,Ne.symm hk]) (setRow_heap w bW arr _ aW (0,0) hw) (by simp [World.setRow])
      ⟨rfl,rfl,rfl,by simp [World.setRow],fun k hk=>by simp [World.setRow,Array.getElem?_modify,show bW≠k by omega],Nat.le_refl _⟩
      (by rw [List.length_append,oB,lg.1];simp;omega)
      (by
       rw [List.length_append,oB,lg.1]
       have aw:(arr.toList.take (len * bZ.size)++dL++arr.toList.drop (len * bZ.size+dL.length)).toArray.toList.take (len * bZ.size+dL.length)=arr.toList.take (len * bZ.size)++dL:=by
        have:(arr.toList.take (len * bZ.size)++dL).length=len * bZ.size+dL.length:=by simp;omega
        rw [←this]
        exact List.take_left
       rw [aw]
       refine aT.append ?_ lg
       have:=wb.take (len * bZ.size)
       rw [List.take_take] at this
       rwa [Nat.min_eq_left iL] at this)
      (by
       refine ⟨?_,L6.2⟩
       simp
       omega)
     refine ⟨ρ',_,_,cv,?_,by simpa only [List.append_assoc] using eb,hle⟩
     have:=aA.bc (ρ:=ρ') aG 0 (len+n) b2 (by rw [fk];simp;exact eG)
     rwa [show fk iI b2=iI by simp [fk]] at this
    ·obtain ⟨olds',qS,ni,wa⟩:=olds w R (by simpa using iL)
     rw [List.drop_zero] at ni
     exact JH (ty:=ty) hu ad bK eX (R.kill i) (run_firstCells_some (P:=P) w.drew bZ.size len ⟨b,0,none⟩ len bw olds' wa (fun j v aD=>by rw [Addr.add_mid];simpa using qS j v aD)) ni (by rw [ni.1,wa]) fv lg (by omega) ak.1 ak.2
 ·cases U
def BK:V→Option Nat
 | .bc _ _ n _=>some n
 | .ai n _=>some n
 | .an=>some 0
 | .z0=>some 0
 | .string s=>some s.size
 | _=>none
theorem Tc {P:Program} {x:V} {bS:Value} {n:Nat} (h:BK x=some n) {ρ:Ren} (ag:aA ρ x bS) (w:World):(Builtin.lenOf bS).run P w=.ok n w:=by
 cases ag<;>simp [BK] at h<;>subst h<;>rfl
def wc (sz n:Nat) (x:V) (h:I):Option (List V) :=
 match x with
 | .an | .z0=>if n=0 then some [] else none
 | .bc i o _ _=>
  match h.get i with
  | .cells c _ _=>if o+n * sz≤c.length then some ((c.drop o).take (n * sz)) else none
  | _=>none
 | .ai m cs=>if n≤m∧n * sz≤cs.length then some (cs.take (n * sz)) else none
 | .string s=>if sz=1∧n≤s.size then some (((byteCells s).map fX).take n) else none
 | _=>none
theorem Td {P:Program} {sz n:Nat} {x:V} {bS:Value} {h:I} {vs:List V} (U:wc sz n x h=some vs) {ρ:Ren} {B:Nat} {aK w:World} (R:aQ ρ B aK h w) (ag:aA ρ x bS) :
  ∃ h9,(Builtin.firstCells sz n bS).run P w=.ok h9.toArray w∧aT ρ vs h9∧vs.length=n * sz:=by
 unfold wc at U
 split at U
 ·cases ag
  split at U
  case isFalse=>cases U
  rename_i h0
  subst h0
  obtain rfl:vs=[]:=by simpa using U
  exact ⟨[],run_firstCells_none w sz 0 0 0,.nil ρ,by simp⟩
 ·cases ag with
  | z0 a aO=>
  split at U
  case isFalse=>cases U
  rename_i h0
  subst h0
  obtain rfl:vs=[]:=by simpa using U
  cases a with
  | none=>exact ⟨[],run_firstCells_none w sz 0 0 0,.nil ρ,by simp⟩
  | some a=>exact ⟨[],run_firstCells_some (P:=P) w sz 0 a 0 0 [] (by simp) (by simp),.nil ρ,by simp⟩
 ·rename_i i o len cap
  obtain ⟨b,bw,hi,az,rfl⟩:=ag.fA
  split at U
  case h_2=>cases U
  rename_i c aW ex av
  split at U
  case isFalse=>cases U
  rename_i au
  obtain rfl:_=vs:=by simpa using U
  have lP:aA ρ (.ptr i o) (.pointer (some ⟨b,o,none⟩)):=.ptr hi o
  obtain ⟨bW,ei,he,cS⟩:=yU R.heap lP (cs:=c.drop o) (by simp [qy,av];omega)
  simp at he
  obtain ⟨rfl,rfl⟩:=he
  obtain ⟨cs,h1,aa,aC⟩:=cS (n * sz) (by simp;omega)
  exact ⟨cs,run_firstCells_some (P:=P) w sz n ⟨b,o,none⟩ len (fk bw cap) cs aC (fun j v aD=>by rw [Addr.add_mid];exact h1 j v aD),aa,by simp;omega⟩
 ·rename_i m cs
  split at U
  case isFalse=>cases U
  rename_i au
  obtain rfl:_=vs:=by simpa using U
  rcases ag.jX with ⟨rfl,rfl,a,qQ,aO,rfl⟩ | ⟨b,o,cap,arr,ak,aG,aR,dX,rfl⟩
  ·obtain rfl:n=0:=by omega
   cases a with
   | none=>
    obtain rfl:=aO rfl
    exact ⟨[],run_firstCells_none w sz 0 0 0,by simpa using aT.nil ρ,by simp⟩
   | some a=>exact ⟨[],run_firstCells_some (P:=P) w sz 0 a 0 qQ [] (by simp) (by simp),by simpa using aT.nil ρ,by simp⟩
  ·have hI:aA ρ (.at cs) (.pointer (some ⟨b,o,none⟩)):=.at o ak aR dX
   obtain ⟨bW,ei,he,cS⟩:=yU R.heap hI (cs:=cs) rfl
   simp at he
   obtain ⟨rfl,rfl⟩:=he
   obtain ⟨vs,h1,aa,aC⟩:=cS (n * sz) au.2
   exact ⟨vs,run_firstCells_some (P:=P) w sz n ⟨b,o,none⟩ m cap vs aC (fun j v aD=>by rw [Addr.add_mid];exact h1 j v aD),aa,by simp;omega⟩
 ·rename_i s
  cases ag
  split at U
  case isFalse=>cases U
  rename_i h1
  obtain ⟨rfl,aG⟩:=h1
  obtain rfl:_=vs:=by simpa using U
  refine ⟨(byteCells s).take n,?_,(Of ρ s).take n,by rw [List.length_take,List.length_map,byteCells_length];omega⟩
  simp only [Builtin.firstCells,Sem.run_pure]
  congr 1
  apply Array.ext'
  simp [byteCells]
 ·cases U
def xD (P:Program) (zW:TypeId) (dst src:V) (h:I):Option (V×I) :=
 match s4 P zW with
 | none=>none
 | some e=>
  match cI P e,BK src,dst with
  | some sz,some bc,.an=>
   match wc sz (Nat.min bc 0) src h with
   | some _=>some (.int .i64 0,h)
   | none=>none
  | some sz,some bc,.bc i o dl _=>
   match wc sz (Nat.min bc dl) src h with
   | some vs=>
    if Nat.min bc dl=0 then some (.int .i64 0,h) else
    match h.get i with
    | .cells c aW ex=>if o+vs.length≤c.length∧vs.all (·.one)=true then some (.int .i64 (Nat.min bc dl:Nat),h.set i (.cells (lay c o vs) aW ex)) else none
    | _=>none
   | none=>none
  | _,_,_=>none
theorem ab0 {P:Program} {zW ab1 ty:TypeId} {dst src v:V} {FH FI:Value} {h h':I} (U:xD P zW dst src h=some (v,h')) {ρ:Ren} {B:Nat} {aK w:World} (R:aQ ρ B aK h w)
  (a7:aA ρ dst FH) (aH:aA ρ src FI):Yields P (Builtin.copy_ #[zW,ab1] ty #[FH,FI]) ρ B aK w v h':=by
 unfold xD at U
 split at U
 case h_1=>cases U
 rename_i e he
 have hu:P.underlying zW=some (.slice e):=by
  unfold s4 at he
  split at he
  ·rename_i hu;rw [hu];simpa using he
  ·cases he
 split at U
 ·rename_i sz bc bf qi
  cases a7
  split at U
  case h_2=>cases U
  rename_i vs ji
  simp at U
  obtain ⟨rfl,rfl⟩:=U
  obtain ⟨h9,aq,wb,hlen⟩:=Td (P:=P) ji R aH
  have hll:=Tc (P:=P) qi aH w
  cases ad:P.info? e with
  | none=>simp [cI,ad] at bf
  | some bZ=>
   simp [cI,ad] at bf
   refine .same R (v':=.int .i64 0) ?_ (.int _ _)
   have hm:Nat.min bc 0=0:=Nat.min_zero bc
   rw [hm] at aq
   simp [Builtin.copy_,run_underlying hu,hll,sizeOf,typeInfo,ad,bf,aq,goInt]
 ·rename_i sz bc i o dl dc bf qi
  obtain ⟨b,bw,hi,az,rfl⟩:=a7.fA
  split at U
  case h_2=>cases U
  rename_i vs ji
  obtain ⟨h9,aq,wb,hlen⟩:=Td (P:=P) ji R aH
  have hll:=Tc (P:=P) qi aH w
  cases ad:P.info? e with
  | none=>simp [cI,ad] at bf
  | some bZ=>
  simp [cI,ad] at bf
  split at U
  ·rename_i h0
   simp at U
   obtain ⟨rfl,rfl⟩:=U
   refine .same R (v':=.int .i64 0) ?_ (.int _ _)
   rw [h0] at hlen aq
   have kj:h9=[]:=List.eq_nil_of_length_eq_zero (by rw [←wb.1,hlen];simp)
   subst kj
   have hm:(Nat.min bc dl:Nat)=0:=h0
   simp [Builtin.copy_,run_underlying hu,hll,sizeOf,typeInfo,ad,bf,hm,aq,goInt,storeCells]
  ·split at U
   case h_2=>cases U
   rename_i c aW ex av
   split at U
   case isFalse=>cases U
   rename_i au
   simp at U
   obtain ⟨rfl,rfl⟩:=U
   obtain ⟨w',cR,eb⟩:=FD (P:=P) av R hi o wb au.2 au.1
   refine ⟨ρ,_,w',?_,.int _ _,eb,Ren.le.refl ρ⟩
   simp [Builtin.copy_,run_underlying hu,hll,sizeOf,typeInfo,ad,bf,aq,goInt,cR]
 ·cases U
def cQ {α:Type} (P:Program):Sem α→Option α
 | .pure a=>some a
 | .program k=>cQ P (k P)
 | .mark _ k=>cQ P k
 | _=>none
theorem zX {α:Type} {P:Program}:∀ {s:Sem α} {a:α},cQ P s=some a→∀ w,s.run P w=.ok a w
 | .pure b,a,h,w=>by simp [cQ] at h;subst h;rfl
 | .program k,a,h,w=>by
  simp only [cQ] at h
  exact zX (s:=k P) h w
 | .mark m k,a,h,w=>by
  simp only [cQ] at h
  exact zX (s:=k) h w
 | .load ..,_,h,_=>by simp [cQ] at h
 | .store ..,_,h,_=>by simp [cQ] at h
 | .new ..,_,h,_=>by simp [cQ] at h
 | .shape ..,_,h,_=>by simp [cQ] at h
 | .freeze ..,_,h,_=>by simp [cQ] at h
 | .frozen ..,_,h,_=>by simp [cQ] at h
 | .getObj ..,_,h,_=>by simp [cQ] at h
 | .setObj ..,_,h,_=>by simp [cQ] at h
 | .choose ..,_,h,_=>by simp [cQ] at h
 | .sys ..,_,h,_=>by simp [cQ] at h
 | .halt ..,_,h,_=>by simp [cQ] at h
theorem gC {α β:Type} {P:Program} {s:Sem α} {k:α→Sem β}:cQ P (s >>= k)=(cQ P s).bind fun a=>cQ P (k a):=by
 induction s with
 | pure a=>rfl
 | program k ih=>exact ih P
 | mark m k ih=>exact ih
 | _=>rfl
def zY:V→Option Nat
 | .c9=>some 0 | .an=>some 1 | .kF=>some 2 | .nilFunc=>some 3 | .nilIface=>some 4 | _=>none
def zZ:V→Option Nat
 | .ptr _ _=>some 0 | .at _=>some 0 | .bc _ _ _ _=>some 1 | .fi=>some 1 | .ai n _=>if n=0 then none else some 1 | .map _=>some 2 | .func _ _ _=>some 3 | .iface _ _=>some 4 | _=>none
def xE:TypeDesc→Option Nat
 | .pointer _=>some 0 | .slice _=>some 1 | .map _ _=>some 2 | .func _ _ _=>some 3 | .interface _=>some 4 | _=>none
def z1 (d:TypeDesc) (x y:V):Bool :=
 match xE d with
 | some k=>(zY x==some k&&zZ y==some k)||(zZ x==some k&&zY y==some k)
 | none=>false
theorem nil_eq {P:Program} {w:World} {ρ:Ren} {t:TypeId} {d:TypeDesc} (hu:P.underlying t=some d) {x y:V} {bS oW:Value} (ag:aA ρ x bS) (bd:aA ρ y oW) (aG:z1 d x y=true) :
  (Op.equal t bS oW).run P w=.ok false w∧(∀ op xo yo,eqGuard op t xo yo bS oW=pure ())∧binOp .eql t bS oW=(do pure (.bool (←Op.equal t bS oW)))∧binOp .neq t bS oW=(do pure (.bool (!(←Op.equal t bS oW)))):=by
 have run:∀ m,(Op.equalIn (m+1) t bS oW).run P w=.ok false w→(Op.equal t bS oW).run P w=.ok false w∨m≠9999:=fun m h=>by
  by_cases hm:m=9999
  ·subst hm;exact .inl h
  ·exact .inr hm
 have guard:(¬(bS=.nilIface∧oW=.nilIface))→(¬∃ a b,bS=.agg a∧oW=.agg b)→∀ op xo yo,eqGuard op t xo yo bS oW=pure ():=fun h1 aa op xo yo=>by
  unfold eqGuard
  cases op<;>first | rfl | (simp only [Bool.not_true,Bool.false_eq_true,if_false];split<;>first | rfl | exact absurd ⟨rfl,rfl⟩ h1 | exact absurd ⟨_,_,rfl,rfl⟩ aa)
 unfold z1 at aG
 cases d<;>simp [xE] at aG
 all_goals
  rcases aG with ⟨h1,aa⟩ | ⟨h1,aa⟩
  all_goals
   cases ag<;>simp [zY,zZ] at h1<;>cases bd<;>simp [zY,zZ] at aa
   all_goals first
    | omega
    | (refine ⟨(run 9999 (by unfold Op.equalIn;rw [Sem.run_bind,run_underlying hu,Result.andThen_ok];simp)).resolve_right (by simp),guard (by simp) (by simp),rfl,rfl⟩)
def c0 (P:Program) (op:BinOp) (t:TypeId) (xo yo:Operand) (x y:V):Option V :=
 match mz x,mz y with
 | some a,some b=>(cQ P (do eqGuard op t xo yo a b;binOp op t a b)).map fX
 | _,_=>
  match P.underlying t,op with
  | some d,.eql=>if z1 d x y then some (.bool false) else none
  | some d,.neq=>if z1 d x y then some (.bool true) else none
  | _,_=>none
theorem ab2 {P:Program} {op:BinOp} {t:TypeId} {xo yo:Operand} {x y v:V} {bS oW:Value} {h:I} (U:c0 P op t xo yo x y=some v) {ρ:Ren} {B:Nat} {aK w:World} (R:aQ ρ B aK h w)
  (ag:aA ρ x bS) (bd:aA ρ y oW):bH P (do eqGuard op t xo yo bS oW;binOp op t bS oW) ρ w v:=by
 unfold c0 at U
 split at U
 ·rename_i a b aO ak
  obtain rfl:=vX ag aO
  obtain rfl:=vX bd ak
  cases aZ:cQ P (do eqGuard op t xo yo bS oW;binOp op t bS oW) with
  | none=>rw [aZ] at U;cases U
  | some u=>
   rw [aZ] at U
   obtain rfl:_=v:=by simpa using U
   exact bH.mk (zX aZ w) (zR ρ u)
 ·split at U
  ·rename_i d a7
   split at U
   case isFalse=>cases U
   rename_i aG
   obtain rfl:_=v:=by simpa using U
   obtain ⟨h1,aa,aC,bz⟩:=nil_eq (P:=P) (w:=w) a7 ag bd aG
   refine bH.mk (v':=.bool false) ?_ (.bool false)
   rw [aa,aC]
   simp [h1]
  ·rename_i d a7
   split at U
   case isFalse=>cases U
   rename_i aG
   obtain rfl:_=v:=by simpa using U
   obtain ⟨h1,aa,aC,bz⟩:=nil_eq (P:=P) (w:=w) a7 ag bd aG
   refine bH.mk (v':=.bool true) ?_ (.bool true)
   rw [aa,bz]
   simp [h1]
  ·cases U
def we (P:Program) (op:UnOp) (x:V):Option V :=
 match lN x with
 | some a=>(cQ P (Op.unary op a)).map fX
 | none=>none
theorem ab3 {P:Program} {op:UnOp} {x v:V} {bS:Value} {h:I} (U:we P op x=some v) {ρ:Ren} {B:Nat} {aK w:World} (R:aQ ρ B aK h w) (ag:aA ρ x bS) :
  bH P (Op.unary op bS) ρ w v:=by
 unfold we at U
 split at U
 case h_2=>cases U
 rename_i a aO
 obtain rfl:=vW ag aO
 cases aZ:cQ P (Op.unary op bS) with
 | none=>rw [aZ] at U;cases U
 | some u=>
  rw [aZ] at U
  obtain rfl:_=v:=by simpa using U
  exact bH.mk (zX aZ w) (zR ρ u)
def xF:List V→Option (List Int)
 | []=>some []
 | .int .u8 n::r=>(xF r).map (n::·)
 | _=>none
theorem FJ:∀ {l:List V} {nA:List Int},xF l=some nA→l=nA.map (V.int .u8)
 | [],nA,h=>by simp [xF] at h;subst h;rfl
 | v::r,nA,h=>by
  unfold xF at h
  split at h
  ·rename_i heq;cases heq
  ·rename_i n cm heq
   simp only [List.cons.injEq] at heq
   obtain ⟨rfl,rfl⟩:=heq
   cases aH:xF r with
   | none=>simp [aH] at h
   | some ms=>simp [aH] at h;subst h;rw [FJ aH];rfl
  ·cases h
theorem Te {ρ:Ren} {k:IntKind}:∀ {nA:List Int} {l:List Value},aT ρ (nA.map (V.int k)) l→l=nA.map (Value.int k)
 | [],l,h=>h.eq_nil
 | n::nA,l,h=>by
  obtain ⟨v',im,rfl,aD,bq⟩:=h.di
  cases aD
  rw [Te bq]
  rfl
def uj (P:Program) (e:TypeId):Bool:=match P.underlying e with | some (.int .u8)=>true | _=>false
theorem Eu {P:Program} {e:TypeId} (h:uj P e=true):P.underlying e=some (.int .u8):=by
 unfold uj at h
 split at h
 ·assumption
 ·cases h
def lQ (P:Program) (src dst:TypeId) (x:V) (h:I):Option V :=
 match (lN x).bind fun a=>cQ P (convert src dst a) with
 | some v=>some (fX v)
 | none=>
  match P.underlying src,P.underlying dst,x with
  | some .string,some (.slice e),.string s=>if uj P e=true then some (.ai s.size ((byteCells s).map fX)) else none
  | some (.slice e),some .string,.bc i o len _=>
   if uj P e=true then
    match h.get i with
    | .cells c _ _=>if o+len≤c.length then (xF ((c.drop o).take len)).map fun nA=>.string (strOfNums nA) else none
    | _=>none
   else none
  | some (.slice e),some .string,.ai n cs=>
   if uj P e=true∧n=cs.length then (xF cs).map fun nA=>.string (strOfNums nA) else none
  | _,_,_=>none
theorem Tf {P:Program} {ρ:Ren} {src dst e:TypeId} {w:World} {b o len cap:Nat} {nA:List Int} {cs:List Value} (gP:P.underlying src=some (.slice e)) (he:P.underlying e=some (.int .u8)) (qT:P.underlying dst=some .string)
  (cS:w.rangeAt b o cs) (az:aT ρ (nA.map (V.int .u8)) cs) (hlen:nA.length=len):(convert src dst (.slice (some ⟨b,o,none⟩) len cap)).run P w=.ok (.string (strOfNums nA)) w:=by
 obtain rfl:=Te az
 refine run_convert_bytes_arg w src e gP he b o len cap nA hlen (fun k hk=>?_) dst qT
 exact cS k _ (by simp [List.getD,List.getElem?_eq_getElem (show k<nA.length by omega)])
theorem ab4 {P:Program} {src dst:TypeId} {x v:V} {bS:Value} {h:I} (U:lQ P src dst x h=some v) {ρ:Ren} {B:Nat} {aK w:World} (R:aQ ρ B aK h w) (ag:aA ρ x bS) :
  Yields P (convert src dst bS) ρ B aK w v h:=by
 unfold lQ at U
 split at U
 ·rename_i u hu
  obtain rfl:_=v:=by simpa using U
  cases aq:lN x with
  | none=>simp [aq] at hu
  | some a=>
   simp [aq] at hu
   obtain rfl:=vW ag aq
   exact .same R (zX hu w) (zR ρ u)
 ·split at U
  ·rename_i e s gP qT _
   cases ag
   split at U
   case isFalse=>cases U
   rename_i au
   obtain rfl:_=v:=by simpa using U
   have he:=Eu au
   have ph:=grownCap_ge w s.size 0 e
   let arr:Array Value:=s.data.map (fun b=>Value.int .u8 b.toNat)++Array.replicate (grownCap w s.size 0 e - s.size) (.int .u8 0)
   have BJ:arr.size=grownCap w s.size 0 e:=by
    simp only [arr,Array.size_append,Array.size_map,Array.size_replicate]
    have:s.data.size=s.size:=rfl
    omega
   have cv:(convert src dst (.string s)).run P w=.ok (.slice (some ⟨w.heap.size,0,none⟩) s.size (grownCap w s.size 0 e)) ((w.drew.alloc (.cells arr e)).freeze ⟨w.heap.size,arr.size,none⟩ 1):=by
    have FK:(w.drew.alloc (.cells arr e)).shape? w.heap.size=some (e,arr.size):=by
     have:=heap_alloc_new w.drew (.cells arr e)
     unfold World.shape?
     rw [show w.heap.size=w.drew.heap.size from rfl,this]
    simp [convert,run_underlying gP,run_underlying qT,run_underlying he,Conv.stringToBytes,Question.forced,newRow,markStringish]
    have cJ:(Question.appendCap s.size 0 e).cut (w.tape w.drawn (Question.appendCap s.size 0 e))=grownCap w s.size 0 e:=rfl
    simp only [cJ]
    rw [FK]
    simp
    rfl
   have mC:((w.drew.alloc (.cells arr e)).freeze ⟨w.heap.size,arr.size,none⟩ 1).heap[w.heap.size]?=some (.cells arr e (arr.size,arr.size+1)):=by
    have:=heap_alloc_new w.drew (.cells arr e)
    simp only [World.freeze,Nat.one_ne_zero,if_false,Array.getElem?_modify,if_true]
    rw [show w.heap.size=w.drew.heap.size from rfl,this]
    simp
   have z6:∀ k,k<w.heap.size→((w.drew.alloc (.cells arr e)).freeze ⟨w.heap.size,arr.size,none⟩ 1).heap[k]?=w.heap[k]?:=fun k hk=>by
    simp only [World.freeze,Nat.one_ne_zero,if_false,Array.getElem?_modify,if_neg (show ¬w.heap.size=k by omega)]
    exact Below.heap_alloc w.drew _ k hk
   have FL:w.heap.size<((w.drew.alloc (.cells arr e)).freeze ⟨w.heap.size,arr.size,none⟩ 1).heap.size:=by
    simp only [World.freeze,Nat.one_ne_zero,if_false,Array.size_modify]
    simp
   obtain ⟨ρ',hle,aG,eb⟩:=R.En FL z6 mC
    ⟨by simp only [World.freeze,Nat.one_ne_zero,if_false];rfl,by simp only [World.freeze,Nat.one_ne_zero,if_false];rfl,by simp only [World.freeze,Nat.one_ne_zero,if_false];rfl,Nat.le_of_lt FL,fun k hk=>z6 k (Nat.lt_of_lt_of_le hk R.heap.base),by simp only [World.freeze,Nat.one_ne_zero,if_false];exact Nat.le_succ _⟩
   refine ⟨ρ',_,_,cv,?_,eb,hle⟩
   have ak:((byteCells s).map fX).length=s.size:=by rw [List.length_map,byteCells_length]
   refine .ai 0 s.size _ aG ph (by rw [ak,BJ];omega) fun k v v' h1 aa=>?_
   have aw:arr.toList.take (byteCells s).length=byteCells s:=by
    have:arr.toList=byteCells s++List.replicate (grownCap w s.size 0 e - s.size) (.int .u8 0):=by simp [arr,byteCells]
    rw [this]
    exact List.take_left
   have hk:k<(byteCells s).length:=by rw [←List.length_map (f:=fX)];exact (List.getElem?_eq_some_iff.1 h1).1
   refine (Of ρ' s).2 k v v' h1 ?_
   rw [←aw,List.getElem?_take,if_pos hk,Array.getElem?_toList]
   simpa using aa
  ·rename_i e i o len cap gP qT _
   obtain ⟨b,bw,hi,az,rfl⟩:=ag.fA
   split at U
   case isFalse=>cases U
   rename_i he
   split at U
   case h_2=>cases U
   rename_i c aW ex av
   split at U
   case isFalse=>cases U
   rename_i au
   cases lZ:xF ((c.drop o).take len) with
   | none=>simp [lZ] at U
   | some nA=>
    simp [lZ] at U
    subst U
    have lP:aA ρ (.ptr i o) (.pointer (some ⟨b,o,none⟩)):=.ptr hi o
    obtain ⟨bW,ei,heq,cS⟩:=yU R.heap lP (cs:=c.drop o) (by simp [qy,av];omega)
    simp at heq
    obtain ⟨rfl,rfl⟩:=heq
    obtain ⟨cs,h1,aa,aC⟩:=cS len (by simp;omega)
    have hlen:nA.length=len:=by
     have:=congrArg List.length (FJ lZ)
     simp at this;omega
    rw [FJ lZ] at aa
    exact .same R (Tf gP (Eu he) qT h1 aa hlen) (.string _)
  ·rename_i e n cs gP qT _
   split at U
   case isFalse=>cases U
   rename_i he
   cases lZ:xF cs with
   | none=>simp [lZ] at U
   | some nA=>
    simp [lZ] at U
    subst U
    rcases ag.jX with ⟨rfl,rfl,a,qQ,aO,rfl⟩ | ⟨b,o,cap,arr,ak,aG,aR,dX,rfl⟩
    ·obtain rfl:nA=[]:=by simpa [xF] using lZ.symm
     cases a with
     | none=>
      obtain rfl:=aO rfl
      refine .same R (v':=.string .empty) ?_ (.string _)
      simp [convert,run_underlying gP,run_underlying qT,run_underlying (Eu he.1),Conv.bytesToString,loadCells,loadCellsFrom]
     | some a=>
      refine .same R (v':=.string .empty) ?_ (.string _)
      simp [convert,run_underlying gP,run_underlying qT,run_underlying (Eu he.1),Conv.bytesToString,loadCells,loadCellsFrom]
    ·have hI:aA ρ (.at cs) (.pointer (some ⟨b,o,none⟩)):=.at o ak aR dX
     obtain ⟨bW,ei,heq,cS⟩:=yU R.heap hI (cs:=cs) rfl
     simp at heq
     obtain ⟨rfl,rfl⟩:=heq
     obtain ⟨vs,h1,aa,aC⟩:=cS cs.length (Nat.le_refl _)
     rw [List.take_length] at aa
     have hlen:nA.length=n:=by
      have:=congrArg List.length (FJ lZ)
      simp at this;omega
     rw [FJ lZ] at aa
     exact .same R (Tf gP (Eu he.1) qT h1 aa hlen) (.string _)
  ·cases U
def qU (cs:List V) (off:Nat):List V→List V
 | []=>cs
 | v::r=>qU (cs.set off v) (off+1) r
def pQ (place:Nat→Option (Nat×Nat)) (cs:List V):List (Nat×V)→Option (List V)
 | []=>some cs
 | (i,v)::r=>match place i,v.cells with
  | some (off,size),some vs=>if vs.length=size∧off+size≤cs.length then pQ place (qU cs off vs) r else none
  | _,_=>none
theorem dH.set {ρ:Ren} {xs:List V} {eV:Array Value} (h:dH ρ xs eV) {v:V} {v':Value} (aD:aA ρ v v') (n:Nat):dH ρ (xs.set n v) (eV.setIfInBounds n v'):=by
 refine ⟨by simp [h.1],fun k a b aO ak=>?_⟩
 rw [Array.getElem?_setIfInBounds] at ak
 rw [List.getElem?_set] at aO
 by_cases hk:n=k
 ·subst hk
  simp at aO ak
  obtain ⟨_,rfl⟩:=aO
  obtain ⟨_,rfl⟩:=ak
  exact aD
 ·simp [hk] at aO ak
  exact h.2 k a b aO ak
theorem foldl_rel {ρ:Ren} (off:Nat):∀ (l:List V) (b0:List Value) (j:Nat) (cs:List V) (cs':Array Value),aT ρ l b0→dH ρ cs cs' →
  dH ρ (qU cs (off+j) l) ((b0.zipIdx j).foldl (fun cs p=>cs.setIfInBounds (off+p.2) p.1) cs')
 | [],b0,j,cs,cs',az,au=>by rw [az.eq_nil];exact au
 | v::l,b0,j,cs,cs',az,au=>by
  obtain ⟨v',im,rfl,aD,bq⟩:=az.di
  simp only [List.zipIdx_cons,List.foldl_cons,qU]
  have:=foldl_rel off l im (j+1) _ _ bq (au.set aD (off+j))
  rwa [←Nat.add_assoc] at this
def sy (ρ:Ren):List (Nat×V)→List (Nat×Value)→Prop
 | [],[]=>True
 | (i,v)::r,(BL,v')::cm=>i=BL∧aA ρ v v'∧sy ρ r cm
 | _,_=>False
theorem Oj {ρ:Ren} (place:Nat→Option (Nat×Nat)):∀ (ps:List (Nat×V)) (nB:List (Nat×Value)) (cs:List V) (cs':Array Value) (r:List V),sy ρ ps nB→dH ρ cs cs'→pQ place cs ps=some r →
  ∃ cm,Instr.fill place cs' nB=some cm∧dH ρ r cm
 | [],[],cs,cs',r,_,au,h=>by simp [pQ] at h;subst h;exact ⟨cs',rfl,au⟩
 | (i,v)::ps,(BL,v')::nB,cs,cs',r,aZ,au,h=>by
  obtain ⟨rfl,aD,aZ⟩:=aZ
  unfold pQ at h
  split at h
  case h_2=>cases h
  rename_i off size vs l0 ji
  split at h
  case isFalse=>cases h
  rename_i lf
  unfold Instr.fill
  have cw:=aD.cells ji
  have bf:v'.cells.size=vs.length:=by simpa using cw.1.symm
  simp only [l0,bf,←au.1]
  rw [if_neg (by simp;omega)]
  have aw:∀ (a:Array Value) (c:Array Value),a.zipIdx.foldl (fun cs (x:Value×Nat)=>cs.setIfInBounds (off+x.2) x.1) c=(a.toList.zipIdx).foldl (fun cs p=>cs.setIfInBounds (off+p.2) p.1) c:=fun a c=>by
   rw [←Array.foldl_toList]
   simp
  rw [show (v'.cells.zipIdx.foldl (fun cs (x:Value×Nat)=>match x with | (c,j)=>cs.setIfInBounds (off+j) c) cs')=_ from aw v'.cells cs']
  exact Oj place ps nB _ _ r aZ (foldl_rel off vs v'.cells.toList 0 cs cs' cw au) h
 | [],_::_,_,_,_,aZ,_,_=>by simp [sy] at aZ
 | _::_,[],_,_,_,aZ,_,_=>by simp [sy] at aZ
def JI (P:Program) (t:TypeId):Option (List (Nat×Nat)):=match P.underlying t with
 | some (.struct fields)=>fields.toList.mapM (fun f=>(P.info? f.type).map fun i=>(f.offset,i.size))
 | _=>none
def yZ (P:Program) (t:TypeId):Option (Nat×TypeId):=match P.underlying t with
 | some (.array n e)=>some (n,e)
 | _=>none
def BM (P:Program) (t:TypeId) (parts:List (Nat×V)):Option V :=
 match hF P t,JI P t with
 | some zs,some places=>(pQ (places[·]?) zs parts).map .agg
 | some zs,none=>match yZ P t with
  | some (_,e)=>match cI P e with
   | some sz=>(pQ (fun i=>some (i * sz,sz)) zs parts).map .agg
   | none=>none
  | none=>none
 | _,_=>none
theorem wt {P:Program} {t:TypeId} {ps:List (Nat×V)} {nB:Array (Nat×Value)} {v:V} {h:I} (U:BM P t ps=some v) {ρ:Ren} {B:Nat} {aK w:World} (R:aQ ρ B aK h w)
  (aZ:sy ρ ps nB.toList):bH P (Instr.build t nB) ρ w v:=by
 unfold BM at U
 have key:∀ (place:Nat→Option (Nat×Nat)) (zs:List V),hF P t=some zs→(∀ z,lO P t=some z→P.built t nB.toList=Instr.fill place z.cells nB.toList)→(pQ place zs ps).map V.agg=some v→bH P (Instr.build t nB) ρ w v:=fun place zs bK ak aq=>by
  obtain ⟨z,bK,eM⟩:=Ep bK
  cases au:pQ place zs ps with
  | none=>simp [au] at aq
  | some cells=>
   simp [au] at aq
   subst aq
   obtain ⟨wg,b4,aH⟩:=Oj place _ _ _ _ _ aZ (eM ρ).iq au
   exact bH.mk (run_build w t nB wg (by rw [ak z bK];exact b4)) aH.agg
 split at U
 ·rename_i zs places bK l0
  refine key _ zs bK (fun z s7=>?_) U
  unfold JI at l0
  split at l0
  case h_2=>cases l0
  rename_i fields hu
  unfold Program.built
  cases hit:P.info? t with
  | none=>simp [lO,hit] at s7
  | some it=>
   simp [lO,hit] at s7
   simp [hu,s7,l0]
 ·rename_i zs bK l0
  split at U
  case h_2=>cases U
  rename_i n e u4
  split at U
  case h_2=>cases U
  rename_i sz bf
  refine key _ zs bK (fun z s7=>?_) U
  unfold yZ at u4
  split at u4
  case h_2=>cases u4
  rename_i n' dh hu
  simp at u4
  obtain ⟨rfl,rfl⟩:=u4
  unfold Program.built
  cases hit:P.info? t with
  | none=>simp [lO,hit] at s7
  | some it=>
   simp [lO,hit] at s7
   cases pj:P.info? dh with
   | none=>simp [cI,pj] at bf
   | some ap5=>
    simp [cI,pj] at bf
    subst bf
    simp [hu,s7]
    rw [pj]
 ·cases U
def kI (P:Program) (t:TypeId) (len:Nat) (parts:List (Nat×V)) (h:I):Option (V×I) :=
 match s4 P t with
 | none=>none
 | some e=>
  match cI P e,hF P e with
  | some sz,some zs=>
   if zs.length=sz∧len * sz≤2 ^ 24∧len≤2 ^ 24 then
    match pQ (fun i=>some (i * sz,sz)) (made zs len) parts with
    | some cells=>some (.bc h.n 0 len len,h.push (.cells cells e none))
    | none=>none
   else none
  | _,_=>none
theorem ab5 {P:Program} {t:TypeId} {len:Nat} {ps:List (Nat×V)} {nB:Array (Nat×Value)} {v:V} {h h':I} (U:kI P t len ps h=some (v,h')) {ρ:Ren} {B:Nat} {aK w:World}
  (R:aQ ρ B aK h w) (aZ:sy ρ ps nB.toList):Yields P (Instr.buildSlice t len nB) ρ B aK w v h':=by
 unfold kI at U
 split at U
 case h_1=>cases U
 rename_i e he
 have hu:P.underlying t=some (.slice e):=by
  unfold s4 at he
  split at he
  ·rename_i hu;rw [hu];simpa using he
  ·cases he
 split at U
 case h_2=>cases U
 rename_i sz zs bf eX
 split at U
 case isFalse=>cases U
 rename_i au
 obtain ⟨bD,c3,ew⟩:=au
 split at U
 case h_2=>cases U
 rename_i cells aq
 simp at U
 obtain ⟨rfl,rfl⟩:=U
 obtain ⟨z,bK,eM⟩:=Ep eX
 have u5:z.cells.size=sz:=by have:=(eM ρ).1;simp at this;omega
 cases ad:P.info? e with
 | none=>simp [lO,ad] at bK
 | some bZ=>
 simp [lO,ad] at bK
 simp [cI,ad] at bf
 have hm:dH ρ (made zs len) (made z.cells.toList len).toArray:=((eM ρ).made len).arr
 obtain ⟨wg,b4,aH⟩:=Oj _ _ _ _ _ _ aZ hm aq
 obtain ⟨ρ',hle,aG,eb⟩:=Oc R e aH.list len
 have lY:len<b2:=by unfold b2;omega
 have cv:(Instr.buildSlice t len nB).run P w=.ok (.slice (some ⟨w.heap.size,0,none⟩) len len) (w.alloc (.cells wg e)):=by
  have oz:(Array.range (len * bZ.size)).map (z.cells[· % z.cells.size]!)=(made z.cells.toList len).toArray:=by
   have:=JF z.cells len
   rw [u5,←bf] at this
   apply Array.ext'
   simpa [madeCells] using this
  have hJ:¬(2 ^ 24<len * bZ.size):=by rw [bf];omega
  by_cases h0:len * bZ.size=0
  ·have u6:(#[]:Array Value)=(made z.cells.toList len).toArray:=by rw [←oz,h0];simp [Array.range_zero']
   rw [←u6,←bf] at b4
   have Dy:len=0∨bZ.size=0:=Nat.mul_eq_zero.1 h0
   simp [Instr.buildSlice,run_underlying hu,sizeOf,typeInfo,ad,h0,Dy,b4,newRow,Array.range_zero']
  ·have Dy:¬(len=0∨bZ.size=0):=fun h=>h0 (Nat.mul_eq_zero.2 h)
   rw [←oz,←bf] at b4
   have Ol:¬(16777216<len * bZ.size):=by omega
   simp [Instr.buildSlice,run_underlying hu,sizeOf,typeInfo,zeroValue,bK,ad,Ol,h0,b4,newRow]
 refine ⟨ρ',_,_,cv,?_,by simpa using eb,hle⟩
 have:=aA.bc aG 0 len len (by simp [fk,lY])
 simpa [fk,lY] using this
def JJ (P:Program) (t:TypeId) (cs:List V) (off:Nat):Option V :=
 match pO P t,cI P t with
 | some true,some n=>some (.agg ((cs.drop off).take n))
 | some false,some _=>cs[off]?
 | _,_=>none
theorem dH.part {P:Program} {ρ:Ren} {cs:List V} {cs':Array Value} (h:dH ρ cs cs') {t:TypeId} {off:Nat} {v:V} (U:JJ P t cs off=some v) (w:World) :
  ∃ v',(Go.part t cs' off).run P w=.ok v' w∧aA ρ v v':=by
 unfold JJ at U
 cases ad:P.info? t with
 | none=>simp [cI,ad] at U
 | some bZ=>
 cases hu:P.underlying t with
 | none=>simp [pO,hu] at U
 | some d=>
 simp only [pO,hu,cI,ad,Option.map_some] at U
 cases a7:d.isRow with
 | true=>
  simp only [a7] at U
  obtain rfl:_=v:=by simpa using U
  have vY:(isAgg t).run P w=.ok true w:=by
   unfold isAgg
   rw [Sem.run_bind,run_underlying hu w]
   cases d<;>simp_all
  refine ⟨.agg (cs'.extract off (off+bZ.size)),by simp [Go.part,vY,sizeOf,typeInfo,ad],?_⟩
  have aa:=((h.list.drop off).take bZ.size).arr
  have aw:∀ a:Array Value,((a.toList.drop off).take bZ.size).toArray=a.extract off (off+bZ.size):=fun a=>by
   apply Array.ext'
   simp
  rw [aw] at aa
  exact aa.agg
 | false=>
  simp only [a7] at U
  have vY:(isAgg t).run P w=.ok false w:=by
   unfold isAgg
   rw [Sem.run_bind,run_underlying hu w]
   cases d<;>simp_all
  have aN:off<cs.length:=(List.getElem?_eq_some_iff.1 U).1
  have sA:off<cs'.size:=by rw [←h.1];exact aN
  refine ⟨cs'[off],by simp [Go.part,vY,Array.getElem?_eq_getElem sA],h.2 off v _ U (Array.getElem?_eq_getElem sA)⟩
def Om (P:Program) (t:TypeId) (x:V) (k:Nat):Option V :=
 match P.underlying t,x with
 | some (.struct cr),.agg cs=>match cr[k]? with
  | some f=>JJ P f.type cs f.offset
  | none=>none
 | _,_=>none
def JK (P:Program) (t:TypeId) (x lb:V):Option V :=
 match P.underlying t,x,lb with
 | some (.array len e),.agg cs,.int _ n=>match cI P e with
  | some sz=>if 0≤n∧n<len then JJ P e cs (n.toNat * sz) else none
  | none=>none
 | some .string,.string s,.int _ n=>if 0≤n then match s[n.toNat]? with
  | some b=>some (.int .u8 b.toNat)
  | none=>none else none
 | _,_,_=>none
def dU (P:Program) (t:TypeId) (x:V) (h:I):Option V :=
 match P.underlying t,x with
 | some .string,.string s=>some (.int .i64 s.size)
 | some (.slice _),.bc _ _ n _=>some (.int .i64 n)
 | some (.slice _),.ai n _=>some (.int .i64 n)
 | some (.slice _),.an=>some (.int .i64 0)
 | some (.slice _),.z0=>some (.int .i64 0)
 | some (.array n _),_=>some (.int .i64 n)
 | some (.pointer arr),_=>match P.underlying arr with
  | some (.array n _)=>some (.int .i64 n)
  | _=>none
 | some (.map _ _),.kF=>some (.int .i64 0)
 | some (.map _ _),.map i=>match h.get i with
  | .map es _=>some (.int .i64 es.length)
  | _=>none
 | _,_=>none
def hX (P:Program) (x:V) (asserted:TypeId) (ok:Bool):Option V :=
 match P.underlying asserted,x with
 | some (.interface _),_=>none
 | some _,.iface t v=>
  if t=asserted then some (if ok then .tuple [v,.bool true] else v)
  else if ok then (match lO P asserted with | some z=>some (.tuple [fj z,.bool false]) | none=>none) else none
 | _,_=>none
theorem ab6 {P:Program} {t:TypeId} {x v:V} {bS:Value} {k:Nat} {h:I} (U:Om P t x k=some v) {ρ:Ren} {B:Nat} {aK w:World} (R:aQ ρ B aK h w) (ag:aA ρ x bS) :
  bH P (Instr.field t bS k) ρ w v:=by
 unfold Om at U
 split at U
 case h_2=>cases U
 rename_i cr cs hu
 cases ag with
 | agg bf ag=>
 split at U
 case h_2=>cases U
 rename_i f aq
 obtain ⟨v',aH,aD⟩:=dH.part ⟨bf,ag⟩ U w
 refine bH.mk ?_ aD
 simp [Instr.field,run_underlying hu,aq,asAgg,aH]
theorem ab7 {P:Program} {t:TypeId} {x lb v:V} {bS zT:Value} {h:I} (U:JK P t x lb=some v) {ρ:Ren} {B:Nat} {aK w:World} (R:aQ ρ B aK h w) (ag:aA ρ x bS) (gk:aA ρ lb zT) :
  bH P (Instr.index t bS zT) ρ w v:=by
 unfold JK at U
 split at U
 ·rename_i len e cs k n hu
  cases gk
  cases ag with
  | agg bf ag=>
  split at U
  case h_2=>cases U
  rename_i sz bK
  split at U
  case isFalse=>cases U
  rename_i ak
  obtain ⟨v',aH,aD⟩:=dH.part ⟨bf,ag⟩ U w
  refine bH.mk ?_ aD
  cases ad:P.info? e with
  | none=>simp [cI,ad] at bK
  | some bZ=>
   simp [cI,ad] at bK
   simp [Instr.index,asIntOf,run_underlying hu,ak,sizeOf,typeInfo,ad,bK,aH]
 ·rename_i s k n hu
  cases gk
  cases ag
  split at U
  case isFalse=>cases U
  rename_i ak
  split at U
  case h_2=>cases U
  rename_i b u3
  obtain rfl:_=v:=by simpa using U
  refine bH.mk ?_ (.int _ _)
  simp only [Instr.index,asIntOf,Sem.run_bind,Sem.run_pure,Result.andThen_ok,run_underlying hu,if_pos ak,u3]
 ·cases U
theorem run_getObj_map {P:Program} {w:World} {b:Nat} {es:Array MapEntry} {c:Nat} (h:w.heap[b]?=some (.map es c)):(getObj b).run P w=.ok (.map es c) w:=by
 simp [getObj,Sem.run,h]
theorem Tg {P:Program} {w:World} {b:Nat} {m:Option Nat} {s:Nat} {JL:Array Nat} {st:Nat} (h:w.heap[b]?=some (.mapIter m s JL st)):(getObj b).run P w=.ok (.mapIter m s JL st) w:=by
 simp [getObj,Sem.run,h]
theorem ab8 {P:Program} {t ty:TypeId} {x v:V} {bS:Value} {h:I} (U:dU P t x h=some v) {ρ:Ren} {B:Nat} {aK w:World} (R:aQ ρ B aK h w) (ag:aA ρ x bS) :
  bH P (Builtin.len_ #[t] ty #[bS]) ρ w v:=by
 unfold dU at U
 split at U
 ·rename_i s hu
  cases ag
  obtain rfl:_=v:=by simpa using U
  exact bH.mk (by simp [Builtin.len_,run_underlying hu,goInt]) (.int _ _)
 ·rename_i e b o n c hu
  obtain rfl:_=v:=by simpa using U
  obtain ⟨_,_,_,_,rfl⟩:=ag.fA
  exact bH.mk (by simp [Builtin.len_,run_underlying hu,goInt]) (.int _ _)
 ·rename_i e n cs hu
  obtain rfl:_=v:=by simpa using U
  rcases ag.jX with ⟨rfl,rfl,a,qQ,aO,rfl⟩ | ⟨_,_,_,_,_,_,_,_,rfl⟩
  ·exact bH.mk (by simp [Builtin.len_,run_underlying hu,goInt]) (.int _ _)
  ·exact bH.mk (by simp [Builtin.len_,run_underlying hu,goInt]) (.int _ _)
 ·rename_i e hu
  obtain rfl:_=v:=by simpa using U
  cases ag
  exact bH.mk (by simp [Builtin.len_,run_underlying hu,goInt]) (.int _ _)
 ·rename_i e hu
  obtain rfl:_=v:=by simpa using U
  cases ag
  exact bH.mk (by simp [Builtin.len_,run_underlying hu,goInt]) (.int _ _)
 ·rename_i n e hu
  obtain rfl:_=v:=by simpa using U
  exact bH.mk (by simp [Builtin.len_,run_underlying hu,goInt]) (.int _ _)
 ·rename_i arr hu
  split at U
  case h_2=>cases U
  rename_i n e qT
  obtain rfl:_=v:=by simpa using U
  exact bH.mk (by simp [Builtin.len_,run_underlying hu,run_underlying qT,goInt]) (.int _ _)
 ·rename_i k e hu
  obtain rfl:_=v:=by simpa using U
  cases ag
  exact bH.mk (by simp [Builtin.len_,run_underlying hu,goInt]) (.int _ _)
 ·rename_i k e i hu
  split at U
  case h_2=>cases U
  rename_i es cl av
  obtain rfl:_=v:=by simpa using U
  cases ag with
  | map hi=>
  have aR:=R.heap.obj i
  rw [av] at aR
  obtain ⟨b,bw,arr,aH,_,_,hw,hm⟩:=aR
  rw [aH] at hi
  simp at hi
  obtain ⟨rfl,rfl⟩:=hi
  exact bH.mk (by simp [Builtin.len_,run_underlying hu,run_getObj_map hw,goInt,hm.1]) (.int _ _)
 ·cases U
theorem ab9 {P:Program} {x v:V} {bS:Value} {Th asserted:TypeId} {ok:Bool} {h:I} (U:hX P x asserted ok=some v) {ρ:Ren} {B:Nat} {aK w:World} (R:aQ ρ B aK h w) (ag:aA ρ x bS) :
  bH P (Instr.typeAssert bS Th asserted ok) ρ w v:=by
 unfold hX at U
 split at U
 ·cases U
 ·rename_i d t u r9 hu
  cases ag with
  | iface t aD=>
  rename_i sv
  split at U
  ·rename_i bq
   obtain rfl:_=v:=by simpa using U
   refine bH.mk (v':=if ok then .tuple #[sv,.bool true] else sv) ?_ ?_
   ·cases d with
    | interface ms=>exact absurd rfl (r9 ms)
    | _=>cases ok<;>simp [Instr.typeAssert,run_underlying hu,bq]
   ·cases ok
    ·exact aD
    ·simp only [if_true]
     exact ((aT.cons aD (.cons (.bool true) (.nil ρ))).arr).tuple
  ·rename_i bq
   split at U
   case isFalse=>cases U
   rename_i a1
   subst a1
   split at U
   case h_2=>cases U
   rename_i z bK
   obtain rfl:_=v:=by simpa using U
   refine bH.mk (v':=.tuple #[z,.bool false]) ?_ ((aT.cons (i6 ρ z) (.cons (.bool false) (.nil ρ))).arr).tuple
   cases ad:P.info? asserted with
   | none=>simp [lO,ad] at bK
   | some bZ=>
    simp [lO,ad] at bK
    cases d with
    | interface ms=>exact absurd rfl (r9 ms)
    | _=>simp [Instr.typeAssert,run_underlying hu,bq,zeroValue,typeInfo,ad,bK]
 ·cases U
def s9:TypeDesc→Bool
 | .int _ | .string | .bool=>true
 | _=>false
def ta (P:Program) (dI:TypeId) (d:TypeDesc) (a b:V):Option Bool :=
 match mz a,mz b with
 | some a,some b=>if s9 d then Instr.sameNow d a b else cQ P (Op.equal dI a b)
 | _,_=>none
def oh (P:Program) (dI:TypeId) (d:TypeDesc) (k:V):List (Nat×V×V)→Option (Option Nat)
 | []=>some none
 | e::es=>match ta P dI d k e.2.1 with
  | some true=>some (some 0)
  | some false=>(oh P dI d k es).map (·.map (·+1))
  | none=>none
theorem fS.di {ρ:Ren} {e:Nat×V×V} {es:List (Nat×V×V)} {arr:Array MapEntry} (h:fS ρ (e::es) arr):∃ dh fs,arr.toList=dh::fs∧e.1=dh.born∧aA ρ e.2.1 dh.key∧aA ρ e.2.2 dh.val∧fS ρ es fs.toArray:=by
 have az:=h.1
 cases aO:arr.toList with
 | nil=>
  have:arr.size=0:=by rw [←Array.length_toList,aO];rfl
  simp at az;omega
 | cons dh fs=>
  have hk:∀ k:Nat,arr[k]?=(dh::fs)[k]?:=fun k=>by rw [←Array.getElem?_toList,aO]
  obtain ⟨a,b,c⟩:=h.2 0 e dh rfl (by rw [hk];rfl)
  refine ⟨dh,fs,rfl,a,b,c,?_,fun k x y ag bd=>h.2 (k+1) x y (by simpa using ag) (by rw [hk];simpa using bd)⟩
  have:arr.size=fs.length+1:=by rw [←Array.length_toList,aO];rfl
  simp at az⊢;omega
theorem Ti {P:Program} {ρ:Ren} {dI:TypeId} {d:TypeDesc} (a7:s9 d=true) {k:V} {k':Value} (hk:aA ρ k k'):∀ (es:List (Nat×V×V)) (l:List MapEntry) (i:Nat) (r:Option Nat),fS ρ es l.toArray→oh P dI d k es=some r →
  Instr.findNow d k' l i=some (match r with | some j=>(l[j]?).map fun e=>(i+j,e.val) | none=>none)∧(∀ j,r=some j→j<l.length)
 | [],l,i,r,hm,h=>by
  have:l=[]:=by have:=hm.1;simp at this;exact List.eq_nil_of_length_eq_zero this.symm
  subst this
  simp [oh] at h
  subst h
  exact ⟨rfl,by simp⟩
 | e::es,l,i,r,hm,h=>by
  obtain ⟨dh,fs,az,ak,fU,u7,hq⟩:=hm.di
  obtain rfl:l=dh::fs:=by simpa using az
  unfold oh at h
  have U:∀ b,ta P dI d k e.2.1=some b→Instr.sameNow d k' dh.key=some b:=fun b ak=>by
   unfold ta at ak
   split at ak
   ·rename_i a c aO au
    rw [if_pos a7] at ak
    rw [vX hk aO,vX fU au]
    exact ak
   ·cases ak
  unfold Instr.findNow
  split at h
  ·rename_i heq
   rw [U _ heq]
   obtain rfl:some 0=r:=by simpa using h
   exact ⟨rfl,by simp⟩
  ·rename_i heq
   rw [U _ heq]
   cases bq:oh P dI d k es with
   | none=>simp [bq] at h
   | some cm=>
    simp [bq] at h
    obtain ⟨h1,aa⟩:=Ti a7 hk es fs (i+1) cm hq bq
    subst h
    simp only
    rw [h1]
    cases cm with
    | none=>exact ⟨rfl,by simp⟩
    | some j=>
     have:=aa j rfl
     simp [List.getElem?_eq_getElem this,Nat.add_comm,Nat.add_left_comm,this]
  ·cases h
theorem Tj {P:Program} {ρ:Ren} {dI:TypeId} {d:TypeDesc} (a7:s9 d=false) {k:V} {k':Value} (hk:aA ρ k k') {w:World}:∀ (es:List (Nat×V×V)) (l:List MapEntry) (i:Nat) (r:Option Nat),fS ρ es l.toArray→oh P dI d k es=some r →
  (Instr.findAsking dI k' l i).run P w=.ok (match r with | some j=>(l[j]?).map fun e=>(i+j,e.val) | none=>none) w∧(∀ j,r=some j→j<l.length)
 | [],l,i,r,hm,h=>by
  have:l=[]:=by have:=hm.1;simp at this;exact List.eq_nil_of_length_eq_zero this.symm
  subst this
  simp [oh] at h
  subst h
  exact ⟨rfl,by simp⟩
 | e::es,l,i,r,hm,h=>by
  obtain ⟨dh,fs,az,ak,fU,u7,hq⟩:=hm.di
  obtain rfl:l=dh::fs:=by simpa using az
  unfold oh at h
  have U:∀ b,ta P dI d k e.2.1=some b→(Op.equal dI k' dh.key).run P w=.ok b w:=fun b ak=>by
   unfold ta at ak
   split at ak
   ·rename_i a c aO au
    rw [if_neg (by simp [a7])] at ak
    rw [vX hk aO,vX fU au]
    exact zX ak w
   ·cases ak
  unfold Instr.findAsking
  rw [Sem.run_bind]
  split at h
  ·rename_i heq
   rw [U _ heq]
   obtain rfl:some 0=r:=by simpa using h
   exact ⟨by simp,by simp⟩
  ·rename_i heq
   rw [U _ heq]
   cases bq:oh P dI d k es with
   | none=>simp [bq] at h
   | some cm=>
    simp [bq] at h
    obtain ⟨h1,aa⟩:=Tj a7 hk es fs (i+1) cm hq bq
    subst h
    simp only [Result.andThen_ok,Bool.false_eq_true,if_false]
    rw [h1]
    cases cm with
    | none=>exact ⟨rfl,by simp⟩
    | some j=>
     have:=aa j rfl
     simp [List.getElem?_eq_getElem this,Nat.add_comm,Nat.add_left_comm,this]
  ·cases h
theorem aca {d:TypeDesc} (a7:s9 d=false) (a b:Value):Instr.sameNow d a b=none:=by
 cases d<;>simp [s9] at a7<;>rfl
theorem y0 {P:Program} {ρ:Ren} {dI:TypeId} {d:TypeDesc} (hu:P.underlying dI=some d) {k:V} {k':Value} (hk:aA ρ k k') {w:World} {es:List (Nat×V×V)} {arr:Array MapEntry} {r:Option Nat} (hm:fS ρ es arr) (h:oh P dI d k es=some r) :
  (Instr.findKey dI k' arr.toList).run P w=.ok (r.bind fun j=>(arr[j]?).map fun e=>(j,e.val)) w∧(∀ j,r=some j→j<arr.size):=by
 unfold Instr.findKey
 rw [Sem.run_bind,run_underlying hu,Result.andThen_ok]
 have hq:fS ρ es arr.toList.toArray:=by simpa using hm
 cases a7:s9 d with
 | true=>
  obtain ⟨h1,aa⟩:=Ti a7 hk es arr.toList 0 r hq h
  rw [h1]
  refine ⟨?_,fun j aS=>by simpa using aa j aS⟩
  cases r<;>simp
 | false=>
  obtain ⟨h1,aa⟩:=Tj (w:=w) a7 hk es arr.toList 0 r hq h
  refine ⟨?_,fun j aS=>by simpa using aa j aS⟩
  cases aO:arr.toList with
  | nil=>
   have he:es=[]:=by
    have aC:=hm.1
    rw [←Array.length_toList,aO] at aC
    exact List.eq_nil_of_length_eq_zero aC
   subst he
   simp [oh] at h
   subst h
   simp [Instr.findNow]
  | cons e l=>
   have:Instr.findNow d k' (e::l) 0=none:=by unfold Instr.findNow;rw [aca a7]
   rw [this]
   rw [aO] at h1
   simp only
   rw [h1]
   cases r with
   | none=>rfl
   | some j=>
    have aw:arr[j]?=(e::l)[j]?:=by rw [←Array.getElem?_toList,aO]
    simp [aw]
def vB (P:Program) (empty:Bool) (dI:TypeId) (k:V):Bool :=
 match mz k with
 | some a=>(cQ P (Instr.checkKey empty 10000 dI a)).isSome
 | none=>false
theorem y1 {P:Program} {empty:Bool} {dI:TypeId} {k:V} {k':Value} {ρ:Ren} (h:vB P empty dI k=true) (hk:aA ρ k k') (w:World):(Instr.checkKey empty 10000 dI k').run P w=.ok () w:=by
 unfold vB at h
 split at h
 ·rename_i a aO
  rw [vX hk aO]
  cases aZ:cQ P (Instr.checkKey empty 10000 dI a) with
  | none=>simp [aZ] at h
  | some u=>exact zX aZ w
 ·cases h
def e9 (P:Program) (t:TypeId):Option (TypeId×TypeId×TypeDesc) :=
 match P.underlying t with
 | some (.map k e)=>(P.underlying k).map fun d=>(k,e,d)
 | _=>none
theorem y2 {P:Program} {t k e:TypeId} {d:TypeDesc} (h:e9 P t=some (k,e,d)):P.underlying t=some (.map k e)∧P.underlying k=some d:=by
 unfold e9 at h
 split at h
 ·rename_i k' dh hu
  cases hk:P.underlying k' with
  | none=>simp [hk] at h
  | some nC=>
   simp [hk] at h
   obtain ⟨rfl,rfl,rfl⟩:=h
   exact ⟨hu,hk⟩
 ·cases h
def mD (P:Program) (t:TypeId) (m k:V) (ok:Bool) (h:I):Option V :=
 match e9 P t with
 | none=>none
 | some (dI,hY,d)=>
  match lO P hY,m with
  | some z,.kF=>if vB P true dI k then some (if ok then .tuple [fj z,.bool false] else fj z) else none
  | some z,.map i=>
   match h.get i with
   | .map es _=>
    if vB P es.isEmpty dI k then
     match oh P dI d k es with
     | some (some j)=>(es[j]?).map fun e=>if ok then .tuple [e.2.2,.bool true] else e.2.2
     | some none=>some (if ok then .tuple [fj z,.bool false] else fj z)
     | none=>none
    else none
   | _=>none
  | _,_=>none
theorem rg {ρ:Ren} {v:V} {v':Value} (h:aA ρ v v') (b:Bool) (ok:Bool):aA ρ (if ok then .tuple [v,.bool b] else v) (if ok then .tuple #[v',.bool b] else v'):=by
 cases ok
 ·exact h
 ·exact ((aT.cons h (.cons (.bool b) (.nil ρ))).arr).tuple
theorem JM {P:Program} {e:TypeId} {z:Value} (h:lO P e=some z) (w:World):(zeroValue e).run P w=.ok z w:=by
 cases ad:P.info? e with
 | none=>simp [lO,ad] at h
 | some bZ=>simp [lO,ad] at h;simp [zeroValue,typeInfo,ad,h]
theorem acb {P:Program} {t:TypeId} {m k v:V} {fz k':Value} {ok:Bool} {h:I} (U:mD P t m k ok h=some v) {ρ:Ren} {B:Nat} {aK w:World} (R:aQ ρ B aK h w) (hm:aA ρ m fz) (hk:aA ρ k k') :
  bH P (Instr.lookup t fz k' ok) ρ w v:=by
 unfold mD at U
 split at U
 ·cases U
 rename_i dI hY d cN
 obtain ⟨hu,qj⟩:=y2 cN
 split at U
 ·rename_i z bK
  split at U
  case isFalse=>cases U
  rename_i nD
  obtain rfl:_=v:=by simpa using U
  cases hm
  refine bH.mk ?_ (rg (i6 ρ z) false ok)
  have aq:=(y0 (P:=P) (w:=w) (arr:=#[]) (es:=[]) (r:=none) qj hk ⟨rfl,by simp⟩ rfl).1
  simp only [Instr.lookup,Sem.run_bind,Sem.run_pure,run_underlying hu,Result.andThen_ok]
  rw [show (#[]:Array MapEntry).isEmpty=true from rfl,y1 nD hk w,Result.andThen_ok,aq]
  simp [JM bK]
 ·rename_i z i bK
  split at U
  case h_2=>cases U
  rename_i es cl av
  split at U
  case isFalse=>cases U
  rename_i nD
  cases hm with
  | map hi=>
  have aR:=R.heap.obj i
  rw [av] at aR
  obtain ⟨b,bw,arr,aH,_,_,hw,dG⟩:=aR
  rw [aH] at hi
  simp at hi
  obtain ⟨rfl,rfl⟩:=hi
  have qV:es.isEmpty=arr.isEmpty:=by
   have:=dG.1
   rw [Bool.eq_iff_iff,List.isEmpty_iff,Array.isEmpty_iff,←List.length_eq_zero_iff,←Array.size_eq_zero_iff,this]
  rw [qV] at nD
  split at U
  ·rename_i j aq
   obtain ⟨h1,aa⟩:=y0 (P:=P) (w:=w) qj hk dG aq
   have aS:=aa j rfl
   have jj:j<es.length:=by rw [dG.1];exact aS
   rw [List.getElem?_eq_getElem jj] at U
   obtain rfl:_=v:=by simpa using U
   obtain ⟨_,_,aD⟩:=dG.2 j _ _ (List.getElem?_eq_getElem jj) (Array.getElem?_eq_getElem aS)
   refine bH.mk ?_ (rg aD true ok)
   simp only [Instr.lookup,Sem.run_bind,Sem.run_pure,run_underlying hu,run_getObj_map hw,Result.andThen_ok]
   rw [y1 nD hk w,Result.andThen_ok,h1]
   simp [Array.getElem?_eq_getElem aS]
  ·rename_i aq
   obtain ⟨h1,aa⟩:=y0 (P:=P) (w:=w) qj hk dG aq
   obtain rfl:_=v:=by simpa using U
   refine bH.mk ?_ (rg (i6 ρ z) false ok)
   simp only [Instr.lookup,Sem.run_bind,Sem.run_pure,run_underlying hu,run_getObj_map hw,Result.andThen_ok]
   rw [y1 nD hk w,Result.andThen_ok,h1]
   simp [JM bK]
  ·cases U
 ·cases U
def uk (P:Program) (t:TypeId) (m k v:V) (h:I):Option I :=
 match e9 P t,m with
 | some (dI,hY,d),.map i=>
  match h.get i with
  | .map es cl=>
   if vB P false dI k then
    match oh P dI d k es with
    | some (some j)=>
     match (es[j]?).bind fun e=>mz e.2.1,mz k with
     | some a,some b=>if Instr.sameBits 10000 a b=true then some (h.set i (.map (es.modify j fun e=>(e.1,k,v)) cl)) else none
     | _,_=>none
    | some none=>some (h.set i (.map (es++[(cl,k,v)]) (cl+1)))
    | none=>none
   else none
  | _=>none
 | _,_=>none
theorem run_setObj_map {P:Program} {w:World} {b:Nat} {es:Array MapEntry} {c:Nat} (h:w.heap[b]?=some (.map es c)) (o:Obj):(setObj b o).run P w=.ok () { w with heap:=w.heap.setIfInBounds b o }:=by
 simp [setObj,Sem.run,h]
theorem acd {P:Program} {w:World} {b:Nat} {m:Option Nat} {s:Nat} {JL:Array Nat} {st:Nat} (h:w.heap[b]?=some (.mapIter m s JL st)) (o:Obj):(setObj b o).run P w=.ok () { w with heap:=w.heap.setIfInBounds b o }:=by
 simp [setObj,Sem.run,h]
theorem aQ.setObj {ρ:Ren} {B:Nat} {aK:World} {h:I} {w:World} (R:aQ ρ B aK h w) {i b bw:Nat} (hi:ρ.ren i=some (b,bw)) (az:h.get i≠.dead) (bM:B≤b) {o:bb} {ob:Obj}
  (aN:b<w.heap.size) (l9:nz ρ B { w with heap:=w.heap.setIfInBounds b ob } i o):aQ ρ B aK (h.set i o) { w with heap:=w.heap.setIfInBounds b ob }:=by
 refine R.sx hi az (fun k hk=>by simp [Array.getElem?_setIfInBounds,Ne.symm hk]) (by simp) ⟨rfl,rfl,rfl,by simp,fun k hk=>?_,Nat.le_refl _⟩ l9
 simp [Array.getElem?_setIfInBounds,show b≠k by omega]
theorem Tk {P:Program} {t:TypeId} {m k v:V} {fz k' v':Value} {h h':I} (U:uk P t m k v h=some h') {ρ:Ren} {B:Nat} {aK w:World} (R:aQ ρ B aK h w) (hm:aA ρ m fz) (hk:aA ρ k k') (aD:aA ρ v v') :
  ∃ w',(Instr.mapUpdate t fz k' v').run P w=.ok () w'∧aQ ρ B aK h' w':=by
 unfold uk at U
 split at U
 case h_2=>cases U
 rename_i dI hY d i cN
 obtain ⟨hu,qj⟩:=y2 cN
 split at U
 case h_2=>cases U
 rename_i es cl av
 split at U
 case isFalse=>cases U
 rename_i nD
 cases hm with
 | map hi=>
 have aR:=R.heap.obj i
 rw [av] at aR
 obtain ⟨b,bw,arr,aH,mC,bM,hw,dG⟩:=aR
 rw [aH] at hi
 simp at hi
 obtain ⟨rfl,rfl⟩:=hi
 have aN:b<w.heap.size:=(Array.getElem?_eq_some_iff.1 hw).1
 split at U
 ·rename_i j aq
  split at U
  case h_2=>cases U
  rename_i a c aO au
  split at U
  case isFalse=>cases U
  rename_i FM
  obtain rfl:_=h':=by simpa using U
  obtain ⟨h1,aa⟩:=y0 (P:=P) (w:=w) qj hk dG aq
  have aS:=aa j rfl
  have jj:j<es.length:=by rw [dG.1];exact aS
  obtain ⟨_,fU,_⟩:=dG.2 j _ _ (List.getElem?_eq_getElem jj) (Array.getElem?_eq_getElem aS)
  rw [List.getElem?_eq_getElem jj] at aO
  simp at aO
  have aw:=vX fU aO
  have aW:=vX hk au
  have eb:=R.setObj (o:=.map (es.modify j fun e=>(e.1,k,v)) cl) (ob:=.map (arr.modify j fun e=>{ e with key:=k',val:=v' }) cl) aH (by rw [av];simp) bM aN (by
   refine ⟨b,bw,arr.modify j (fun e=>{ e with key:=k',val:=v' }),aH,mC,bM,by simp [aN],by simp [dG.1],fun q e dh ad dp=>?_⟩
   rw [List.getElem?_modify] at ad
   rw [Array.getElem?_modify] at dp
   by_cases u9:j=q
   ·subst u9
    rw [List.getElem?_eq_getElem jj] at ad
    rw [Array.getElem?_eq_getElem aS] at dp
    simp at ad dp
    subst ad;subst dp
    obtain ⟨aC,_,_⟩:=dG.2 j _ _ (List.getElem?_eq_getElem jj) (Array.getElem?_eq_getElem aS)
    exact ⟨aC,hk,aD⟩
   ·simp [u9] at ad dp
    exact dG.2 q e dh ad dp)
  refine ⟨_,?_,eb⟩
  simp only [Instr.mapUpdate,Sem.run_bind,run_underlying hu,run_getObj_map hw,Result.andThen_ok]
  rw [y1 nD hk w,Result.andThen_ok,h1]
  have ib:(Instr.keyThatStays a c).run P w=.ok c w:=by unfold Instr.keyThatStays;rw [if_pos FM];rfl
  simp [Array.getElem?_eq_getElem aS,aw,aW,ib,run_setObj_map hw]
 ·rename_i aq
  obtain rfl:_=h':=by simpa using U
  obtain ⟨h1,aa⟩:=y0 (P:=P) (w:=w) qj hk dG aq
  have eb:=R.setObj (o:=.map (es++[(cl,k,v)]) (cl+1)) (ob:=.map (arr.push { key:=k',val:=v',born:=cl }) (cl+1)) aH (by rw [av];simp) bM aN (by
   refine ⟨b,bw,arr.push { key:=k',val:=v',born:=cl },aH,mC,bM,by simp [aN],by simp [dG.1],fun q e dh ad dp=>?_⟩
   rw [List.getElem?_append] at ad
   rw [Array.getElem?_push] at dp
   by_cases z7:q<es.length
   ·rw [if_pos z7] at ad
    rw [if_neg (by rw [←dG.1];omega)] at dp
    exact dG.2 q e dh ad dp
   ·rw [if_neg z7] at ad
    have FN:q=es.length:=by
     have:=(List.getElem?_eq_some_iff.1 ad).1
     simp at this;omega
    subst FN
    rw [if_pos dG.1] at dp
    simp at ad dp
    subst ad;subst dp
    exact ⟨rfl,hk,aD⟩)
  refine ⟨_,?_,eb⟩
  simp only [Instr.mapUpdate,Sem.run_bind,run_underlying hu,run_getObj_map hw,Result.andThen_ok]
  rw [y1 nD hk w,Result.andThen_ok,h1]
  simp [run_setObj_map hw]
 ·cases U
def ip (P:Program) (t:TypeId) (m k:V) (h:I):Option I :=
 match e9 P t,m with
 | some (dI,hY,d),.map i=>
  match h.get i with
  | .map es cl=>
   if vB P es.isEmpty dI k then
    match oh P dI d k es with
    | some (some j)=>some (h.set i (.map (es.eraseIdx j) cl))
    | some none=>some h
    | none=>none
   else none
  | _=>none
 | _,_=>none
theorem ace {P:Program} {t ty:TypeId} {ts:Array TypeId} {m k:V} {fz k':Value} {h h':I} (bq:ts[0]?=some t) (U:ip P t m k h=some h') {ρ:Ren} {B:Nat} {aK w:World} (R:aQ ρ B aK h w) (hm:aA ρ m fz) (hk:aA ρ k k') :
  ∃ w',(Builtin.delete_ ts ty #[fz,k']).run P w=.ok (.tuple #[]) w'∧aQ ρ B aK h' w':=by
 unfold ip at U
 split at U
 case h_2=>cases U
 rename_i dI hY d i cN
 obtain ⟨hu,qj⟩:=y2 cN
 split at U
 case h_2=>cases U
 rename_i es cl av
 split at U
 case isFalse=>cases U
 rename_i nD
 cases hm with
 | map hi=>
 have aR:=R.heap.obj i
 rw [av] at aR
 obtain ⟨b,bw,arr,aH,mC,bM,hw,dG⟩:=aR
 rw [aH] at hi
 simp at hi
 obtain ⟨rfl,rfl⟩:=hi
 have aN:b<w.heap.size:=(Array.getElem?_eq_some_iff.1 hw).1
 have qV:es.isEmpty=arr.isEmpty:=by
  have:=dG.1
  rw [Bool.eq_iff_iff,List.isEmpty_iff,Array.isEmpty_iff,←List.length_eq_zero_iff,←Array.size_eq_zero_iff,this]
 rw [qV] at nD
 split at U
 ·rename_i j aq
  obtain rfl:_=h':=by simpa using U
  obtain ⟨h1,aa⟩:=y0 (P:=P) (w:=w) qj hk dG aq
  have aS:=aa j rfl
  have jj:j<es.length:=by rw [dG.1];exact aS
  have eb:=R.setObj (o:=.map (es.eraseIdx j) cl) (ob:=.map (arr.eraseIdxIfInBounds j) cl) aH (by rw [av];simp) bM aN (by
   have aw:∀ q:Nat,(arr.eraseIdxIfInBounds j)[q]?=if q<j then arr[q]? else arr[q+1]?:=fun q=>by
    rw [←Array.getElem?_toList,Array.toList_eraseIdxIfInBounds,List.getElem?_eraseIdx]
    simp
   refine ⟨b,bw,arr.eraseIdxIfInBounds j,aH,mC,bM,by simp [aN],?_,fun q e dh ad dp=>?_⟩
   ·rw [List.length_eraseIdx,if_pos jj,←Array.length_toList,Array.toList_eraseIdxIfInBounds,List.length_eraseIdx,if_pos (by simpa using aS),dG.1]
    simp
   ·rw [List.getElem?_eraseIdx] at ad
    rw [aw] at dp
    by_cases L7:q<j
    ·simp only [L7,if_true] at ad dp
     exact dG.2 q e dh ad dp
    ·simp only [L7,if_false] at ad dp
     exact dG.2 _ e dh ad dp)
  refine ⟨_,?_,eb⟩
  simp only [Builtin.delete_,bq,Sem.run_bind,run_underlying hu,run_getObj_map hw,Result.andThen_ok,List.getElem?_toArray,List.getElem?_cons_zero,List.getElem?_cons_succ]
  rw [y1 nD hk w,Result.andThen_ok,h1]
  simp [Array.getElem?_eq_getElem aS,run_setObj_map hw]
 ·rename_i aq
  obtain rfl:_=h':=by simpa using U
  obtain ⟨h1,aa⟩:=y0 (P:=P) (w:=w) qj hk dG aq
  have eb:=R.setObj (o:=.map es cl) (ob:=.map arr cl) aH (by rw [av];simp) bM aN ⟨b,bw,arr,aH,mC,bM,by simp [aN],dG⟩
  have ab:h.set i (.map es cl)=h:=by
   unfold I.set
   congr 1
   funext j
   by_cases cB:j=i
   ·subst cB;simp [av]
   ·simp [cB]
  rw [ab] at eb
  refine ⟨_,?_,eb⟩
  simp only [Builtin.delete_,bq,Sem.run_bind,run_underlying hu,run_getObj_map hw,Result.andThen_ok,List.getElem?_toArray,List.getElem?_cons_zero,List.getElem?_cons_succ]
  rw [y1 nD hk w,Result.andThen_ok,h1]
  simp [run_setObj_map hw]
 ·cases U
def FO (P:Program) (t:TypeId) (r:Option V) (h:I):Option (V×I) :=
 match r with
 | none=>some (.map h.n,h.push (.map [] 0))
 | some (.int _ _)=>if (e9 P t).isSome then some (.map h.n,h.push (.map [] 0)) else none
 | _=>none
theorem Tl {ρ:Ren} {B:Nat} {aK w:World} {h:I} (R:aQ ρ B aK h w) {o:bb} {ob:Obj} (l9:∀ ρ':Ren,ρ.le ρ'→ρ'.ren h.n=some (w.heap.size,0)→ρ'.frz w.heap.size=none→nz ρ' B { w with heap:=w.heap.push ob } h.n o) :
  ∃ ρ':Ren,ρ.le ρ'∧ρ'.ren h.n=some (w.heap.size,0)∧aQ ρ' B aK (h.push o) { w with heap:=w.heap.push ob }:=by
 have zS:ρ.frz w.heap.size=none:=by
  cases aq:ρ.frz w.heap.size with
  | none=>rfl
  | some a=>
   obtain ⟨e,fl,hw⟩:=R.heap.frz _ _ aq
   have:=(Array.getElem?_eq_some_iff.1 hw).1
   omega
 have hle:=Ren.qO (R.heap.kg _ (Nat.le_refl _)) w.heap.size 0
 obtain ⟨h1,aa⟩:=R.yT (o:=o) (w':={ w with heap:=w.heap.push ob }) 0 (by simp) (fun k hk=>by simp [Array.getElem?_push,show k≠w.heap.size by omega])
  ⟨rfl,rfl,rfl,by simp,fun k hk=>by have:=R.heap.base;simp [Array.getElem?_push,show k≠w.heap.size by omega],Nat.le_refl _⟩ (l9 _ hle Ren.l8 zS)
 exact ⟨_,h1,Ren.l8,aa⟩
theorem acf {P:Program} {t:TypeId} {r:Option V} {cm:Option Value} {v:V} {h h':I} (U:FO P t r h=some (v,h')) {ρ:Ren} {B:Nat} {aK w:World} (R:aQ ρ B aK h w) (aH:Option.Rel (aA ρ) r cm) :
  Yields P (Instr.makeMap t cm) ρ B aK w v h':=by
 have key:∀ v h',some (V.map h.n,h.push (.map [] 0))=some (v,h')→(Instr.makeMap t cm).run P w=.ok (.map (some w.heap.size)) { w with heap:=w.heap.push (.map #[] 0) }→Yields P (Instr.makeMap t cm) ρ B aK w v h':=fun v h' he cv=>by
  simp at he
  obtain ⟨rfl,rfl⟩:=he
  obtain ⟨ρ',hle,aG,eb⟩:=Tl R (o:=.map [] 0) (ob:=.map #[] 0) fun ρ' hle aG aq=>⟨w.heap.size,0,#[],aG,aq,R.heap.base,by simp,rfl,by simp⟩
  exact ⟨ρ',_,_,cv,.map aG,eb,hle⟩
 unfold FO at U
 cases aH with
 | none=>exact key v h' U (by simp [Instr.makeMap,newObj,Sem.run])
 | some aD=>
  rename_i a b
  cases a<;>simp at U
  rename_i kk n
  cases aD
  obtain ⟨cN,h1,aa⟩:=U
  refine key v h' (by simp [h1,aa]) ?_
  cases hm:e9 P t with
  | none=>simp [hm] at cN
  | some q=>
   obtain ⟨dI,hY,d⟩:=q
   simp [Instr.makeMap,run_underlying (y2 hm).1,asInt,asIntOf,newObj,Sem.run]
def Ev (P:Program) (t:TypeId) (x:V) (h:I):Option (V×I) :=
 match e9 P t,x with
 | some _,.map i=>match h.get i with
  | .map es cl=>some (.ptr h.n 0,h.push (.iter i cl [] cl))
  | _=>none
 | _,_=>none
theorem acg {P:Program} {t:TypeId} {x v:V} {bS:Value} {h h':I} (U:Ev P t x h=some (v,h')) {ρ:Ren} {B:Nat} {aK w:World} (R:aQ ρ B aK h w) (ag:aA ρ x bS) :
  Yields P (Instr.range t bS) ρ B aK w v h':=by
 unfold Ev at U
 split at U
 case h_2=>cases U
 rename_i q i cN
 obtain ⟨dI,hY,d⟩:=q
 obtain ⟨hu,_⟩:=y2 cN
 split at U
 case h_2=>cases U
 rename_i es cl av
 simp at U
 obtain ⟨rfl,rfl⟩:=U
 cases ag with
 | map hi=>
 have aR:=R.heap.obj i
 rw [av] at aR
 obtain ⟨b,bw,arr,aH,mC,bM,hw,dG⟩:=aR
 rw [aH] at hi
 simp at hi
 obtain ⟨rfl,rfl⟩:=hi
 obtain ⟨ρ',hle,aG,eb⟩:=Tl R (o:=.iter i cl [] cl) (ob:=.mapIter (some b) cl #[] cl) fun ρ' hle aG aq=>⟨w.heap.size,0,b,bw,aG,aq,R.heap.base,hle.ren _ _ aH,by simp⟩
 refine ⟨ρ',_,_,?_,.ptr aG 0,eb,hle⟩
 simp [Instr.range,run_underlying hu,run_getObj_map hw,newObj,Sem.run]
def oX (es:List (Nat×V×V)) (seen:List Nat):List (Nat×V×V):=es.filter fun e=>!seen.contains e.1
def y5 (it:V) (h:I):Option (List (V×I)) :=
 match it with
 | .ptr r 0=>match h.get r with
  | .iter m since seen last=>match h.get m with
   | .map es clock=>
    if (!seen.isEmpty&&!es.isEmpty&&es.all (fun e=>decide (last≤e.1)))=true then none else
    some (
     (if (oX es seen).all (fun e=>decide (since≤e.1)) then [(.tuple [.bool false],h)] else []) ++
     (oX es seen).map fun e=>(.tuple [.bool true,e.2.1,e.2.2],h.set r (.iter m since (seen++[e.1]) clock)))
   | _=>none
  | _=>none
 | _=>none
def Ew (it:V) (h:I):Option V :=
 match it with
 | .ptr r 0=>match h.get r with
  | .iter m since seen pc=>match seen.getLast?,h.get m with
   | some rV,.map es clock=>if clock=pc then (es.find? fun e=>e.1==rV).map fun e=>.tuple [e.2.1,e.2.2] else none
   | _,_=>none
  | _=>none
 | _=>none
theorem Tm {ρ:Ren} (p:Nat→Bool):∀ (es:List (Nat×V×V)) (l:List MapEntry) (e:Nat×V×V),fS ρ es l.toArray→es.find? (fun e=>p e.1)=some e→∃ dh,l.find? (fun e=>p e.born)=some dh∧aA ρ e.2.1 dh.key∧aA ρ e.2.2 dh.val
 | [],l,e,hm,h=>by simp at h
 | a::es,l,e,hm,h=>by
  obtain ⟨dh,fs,az,ak,fU,u7,hq⟩:=hm.di
  obtain rfl:l=dh::fs:=by simpa using az
  rw [List.find?_cons] at h⊢
  rw [←ak]
  by_cases aZ:p a.1=true
  ·simp only [aZ] at h⊢
   obtain rfl:a=e:=by simpa using h
   exact ⟨dh,rfl,fU,u7⟩
  ·simp only [Bool.not_eq_true] at aZ
   simp only [aZ] at h⊢
   exact Tm p es fs e hq h
theorem ach {P:Program} {it v:V} {z8:Value} {h:I} (U:Ew it h=some v) {ρ:Ren} {B:Nat} {aK w:World} (R:aQ ρ B aK h w) (hi:aA ρ it z8) :
  bH P (Instr.entry z8) ρ w v:=by
 unfold Ew at U
 split at U
 case h_2=>cases U
 rename_i r
 split at U
 case h_2=>cases U
 rename_i m since seen pc wh
 split at U
 case h_2=>cases U
 rename_i rV es clock tb FP
 split at U
 case isFalse=>cases U
 rename_i cw
 obtain ⟨FQ,rc,iM,rfl⟩:=hi.pe
 have aR:=R.heap.obj r
 rw [wh] at aR
 obtain ⟨b,bw,bm,xC,aH,mC,bM,nE,hw⟩:=aR
 rw [aH] at iM
 simp at iM
 obtain ⟨rfl,rfl⟩:=iM
 have Aa:=R.heap.obj m
 rw [FP] at Aa
 obtain ⟨bW,iI,arr,iH,On,j1,iN,dG⟩:=Aa
 rw [iH] at nE
 simp at nE
 obtain ⟨rfl,rfl⟩:=nE
 cases aq:es.find? (fun e=>e.1==rV) with
 | none=>simp [aq] at U
 | some e=>
  simp [aq] at U
  subst U
  obtain ⟨dh,b4,hk,aD⟩:=Tm (fun n=>n==rV) es arr.toList e (by simpa using dG) aq
  have hK:arr.find? (fun x=>x.born==rV)=some dh:=by rw [←Array.find?_toList];exact b4
  have ak:seen.toArray.back?=some rV:=by simpa using tb
  refine bH.mk (v':=.tuple #[dh.key,dh.val]) ?_ ((aT.cons hk (.cons aD (.nil ρ))).arr).tuple
  simp only [Instr.entry,Sem.run_bind,Tg hw,Result.andThen_ok,ak,run_getObj_map iN]
  subst cw
  simp [hK]
theorem Tn {ρ:Ren} (seen:List Nat) (p:Nat→Bool):∀ (es:List (Nat×V×V)) (l:List MapEntry),fS ρ es l.toArray→fS ρ (es.filter fun e=>p e.1) (l.filter fun e=>p e.born).toArray
 | [],l,hm=>by
  have:l=[]:=by have:=hm.1;simp at this;exact List.eq_nil_of_length_eq_zero this.symm
  subst this
  exact ⟨rfl,by simp⟩
 | e::es,l,hm=>by
  obtain ⟨dh,fs,az,ak,fU,u7,hq⟩:=hm.di
  obtain rfl:l=dh::fs:=by simpa using az
  have ih:=Tn seen p es fs hq
  simp only [List.filter_cons,ak]
  by_cases aZ:p dh.born=true
  ·simp only [aZ,if_true]
   refine ⟨by have:=ih.1;simpa using this,fun k x y ag bd=>?_⟩
   cases k with
   | zero=>simp at ag bd;subst ag;subst bd;exact ⟨ak,fU,u7⟩
   | succ k=>exact ih.2 k x y (by simpa using ag) (by simpa using bd)
  ·simp only [aZ]
   exact ih
theorem fS.all {ρ:Ren} (p:Nat→Bool):∀ (es:List (Nat×V×V)) (l:List MapEntry),fS ρ es l.toArray→(es.all fun e=>p e.1)=(l.all fun e=>p e.born)
 | [],l,hm=>by
  have:l=[]:=by have:=hm.1;simp at this;exact List.eq_nil_of_length_eq_zero this.symm
  subst this
  rfl
 | e::es,l,hm=>by
  obtain ⟨dh,fs,az,ak,fU,u7,hq⟩:=hm.di
  obtain rfl:l=dh::fs:=by simpa using az
  simp only [List.all_cons,ak,fS.all p es fs hq]
theorem aci {P:Program} {it:V} {z8:Value} {ty:TypeId} {h:I} {alts:List (V×I)} (U:y5 it h=some alts) {ρ:Ren} {B:Nat} {aK w:World} (R:aQ ρ B aK h w) (hi:aA ρ it z8) :
  ∃ v h',(v,h') ∈ alts∧Yields P (Instr.next z8 false ty) ρ B aK w v h':=by
 unfold y5 at U
 split at U
 case h_2=>cases U
 rename_i r
 split at U
 case h_2=>cases U
 rename_i m since seen last wh
 split at U
 case h_2=>cases U
 rename_i es clock FP
 split at U
 case isTrue=>cases U
 rename_i hJ
 obtain ⟨FQ,rc,iM,rfl⟩:=hi.pe
 have aR:=R.heap.obj r
 rw [wh] at aR
 obtain ⟨b,bw,bm,xC,aH,mC,bM,nE,hw⟩:=aR
 rw [aH] at iM
 simp at iM
 obtain ⟨rfl,rfl⟩:=iM
 have Aa:=R.heap.obj m
 rw [FP] at Aa
 obtain ⟨bW,iI,arr,iH,On,j1,iN,dG⟩:=Aa
 rw [iH] at nE
 simp at nE
 obtain ⟨rfl,rfl⟩:=nE
 have aN:b<w.heap.size:=(Array.getElem?_eq_some_iff.1 hw).1
 simp only [Option.some.injEq] at U
 have FR:fS ρ es arr.toList.toArray:=by simpa using dG
 have Oo:¬((!seen.toArray.isEmpty&&!arr.isEmpty&&arr.all (fun e=>decide (last≤e.born)))=true):=by
  have aw:seen.toArray.isEmpty=seen.isEmpty:=by simp
  have aW:arr.isEmpty=es.isEmpty:=by
   have:=dG.1
   rw [Bool.eq_iff_iff,List.isEmpty_iff,Array.isEmpty_iff,←List.length_eq_zero_iff,←Array.size_eq_zero_iff,this]
  have cJ:arr.all (fun e=>decide (last≤e.born))=es.all (fun e=>decide (last≤e.1)):=by
   rw [fS.all (fun n=>decide (last≤n)) es arr.toList FR,Array.all_toList]
  rw [aw,aW,cJ]
  exact hJ
 have nt:=Tn seen (fun n=>!seen.contains n) es arr.toList FR
 let left:=arr.filter fun e=>!seen.toArray.contains e.born
 let jk:Array (Option MapEntry):=(if (left.filter (fun e=>decide (e.born<since))).isEmpty then #[none] else #[])++(left.filter (fun e=>decide (e.born<since))++left.filter (fun e=>decide (since≤e.born))).map some
 have Ac:left.toList=arr.toList.filter fun e=>!seen.contains e.born:=by simp [left]
 have cv:∃ q:Nat,∃ c2,(∃ c,jk[q]?=some c)∧aQ ρ B aK h c2∧c2.heap=w.heap∧∀ c,jk[q]?=some c →
   (Instr.next (.pointer (some ⟨b,0,none⟩)) false ty).run P w=(match c with
    | some e=>((setObj b (.mapIter (some bW) since (seen.toArray.push e.born) clock)).run P c2).andThen fun _ bX=>.ok (.tuple #[.bool true,e.key,e.val]) bX
    | none=>.ok (.tuple #[.bool false]) c2):=by
  have bO:jk.size≠0:=by
   intro h0
   simp only [jk,Array.size_append,Array.size_map] at h0
   by_cases he:(left.filter (fun e=>decide (e.born<since))).isEmpty=true
   ·simp [he] at h0
   ·have:(left.filter (fun e=>decide (e.born<since))).size=0:=by omega
    exact he (by simp [Array.isEmpty,this])
  have nj:∃ q c2,q<jk.size∧(choose (.mapNext jk.size)).run P w=.ok q c2∧aQ ρ B aK h c2∧c2.heap=w.heap:=by
   by_cases aq:(Question.mapNext jk.size).forced=true
   ·refine ⟨0,w,by omega,?_,R,rfl⟩
    simp [choose,Sem.run,aq]
   ·refine ⟨(Question.mapNext jk.size).cut (w.tape w.drawn (.mapNext jk.size)),w.drew,?_,?_,R.drew,rfl⟩
    ·simp only [Question.cut]
     exact Nat.mod_lt _ (by omega)
    ·have b4:(Question.mapNext jk.size).forced=false:=by simpa using aq
     simp only [choose,Sem.run,b4]
     rfl
  obtain ⟨q,c2,ad,au,Ex,ab⟩:=nj
  refine ⟨q,c2,⟨_,Array.getElem?_eq_getElem ad⟩,Ex,ab,fun c Ad=>?_⟩
  simp only [Instr.next,Sem.run_bind,Tg hw,run_getObj_map iN,Result.andThen_ok]
  have JN:¬((!seen.toArray.isEmpty&&!arr.isEmpty&&arr.all (fun x=>decide (x.born ≥ last)))=true):=Oo
  rw [if_neg JN]
  have wi:=au
  simp only [jk,left] at wi Ad
  simp only [Sem.run_bind,Sem.run_pure,Result.andThen_ok,ge_iff_le,wi,Ad]
  cases c<;>simp
 obtain ⟨q,c2,⟨c,Ad⟩,Ex,ab,cv⟩:=cv
 have cv:=cv c Ad
 have qk:c ∈ jk:=Array.mem_of_getElem? Ad
 cases c with
 | none=>
  refine ⟨.tuple [.bool false],h,?_,ρ,_,c2,cv,((aT.cons (.bool false) (.nil ρ)).arr).tuple,Ex,Ren.le.refl ρ⟩
  rw [←U]
  apply List.mem_append_left
  have he:(left.filter (fun e=>decide (e.born<since))).isEmpty=true:=by
   by_cases he:(left.filter (fun e=>decide (e.born<since))).isEmpty=true
   ·exact he
   ·simp [jk,he] at qk
  have:(oX es seen).all (fun e=>decide (since≤e.1))=true:=by
   unfold oX
   rw [fS.all (fun n=>decide (since≤n)) _ _ nt,←Ac]
   rw [List.all_eq_true]
   intro e ql
   rw [Array.isEmpty_iff,←Array.toList_inj] at he
   simp only [Array.toList_filter] at he
   have aC:=List.filter_eq_nil_iff.1 he e (by simpa using ql)
   simp at aC⊢
   exact aC
  rw [this]
  simp
 | some e=>
  have ql:e ∈ left.toList:=by
   simp only [jk,Array.mem_append,Array.mem_map] at qk
   rcases qk with qk | ⟨x,ag,Dz⟩
   ·split at qk<;>simp at qk
   ·simp at Dz
    subst Dz
    rcases ag with ag | ag
    ·simpa using (Array.mem_filter.1 ag).1
    ·simpa using (Array.mem_filter.1 ag).1
  rw [Ac] at ql
  obtain ⟨k,hk⟩:=List.getElem?_of_mem ql
  have pk:k<(es.filter fun e=>!seen.contains e.1).length:=by
   rw [nt.1]
   simpa using (List.getElem?_eq_some_iff.1 hk).1
  obtain ⟨h1,aa,aC⟩:=nt.2 k _ e (List.getElem?_eq_getElem pk) (by simpa using hk)
  have ej:(es.filter fun e=>!seen.contains e.1)[k] ∈ oX es seen:=List.getElem_mem pk
  generalize (es.filter fun e=>!seen.contains e.1)[k]=a at h1 aa aC ej
  have eO:c2.heap[b]?=some (.mapIter (some bW) since seen.toArray last):=by rw [ab];exact hw
  simp only [acd eO,Result.andThen_ok] at cv
  refine ⟨.tuple [.bool true,a.2.1,a.2.2],h.set r (.iter m since (seen++[a.1]) clock),?_,ρ,_,_,cv,((aT.cons (.bool true) (.cons aa (.cons aC (.nil ρ)))).arr).tuple,?_,Ren.le.refl ρ⟩
  ·rw [←U]
   apply List.mem_append_right
   exact List.mem_map.2 ⟨a,ej,rfl⟩
  ·refine Ex.setObj aH (by rw [wh];simp) bM (by rw [ab];exact aN) ?_
   exact ⟨b,bw,bW,iI,aH,mC,bM,iH,by simp [ab,aN,h1]⟩
end Go.Proofs.YtedkjhifbibpmaaGreatDoor.Ab
