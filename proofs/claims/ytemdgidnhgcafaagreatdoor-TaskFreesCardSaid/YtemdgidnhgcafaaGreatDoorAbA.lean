/-
  Rules of the machine on abstract states. Conditions: as each theorem says.
-/
import Derived.WalkKit
import Derived.Below
import Derived.Laws.AppendOwn
import Derived.Laws.CopyRow
import Derived.Laws.Rows
import Derived.Deep.MidRow
import Derived.Deep.AppendSrc
import Derived.Laws.MakeOwn
import Derived.Lib.AppendZerosOnto
import Derived.Laws.BytesArg
import Derived.Laws.Tables
open Nat renaming le_refl->BY,le_trans->OF,le_succ->ayb,le_of_lt->ayc,min_eq_left->avD,add_zero->awM,add_assoc->awy,zero_le->Dc,succ_mul->ayg,mul_le_mul_right->avo,mul_assoc->aw3,add_mul->atY,min->awj,one_ne_zero->av4,mul_eq_zero->awz,add_comm->awN,add_left_comm->aAi
open List renaming eq_nil_of_length_eq_zero->avA,getElem?_eq_some_iff->VX,getElem?_eq_getElem->ME,getElem?_take->avg,getElem?_drop->avC,getElem?_append_left->av8,getElem?_append_right->av9,getElem?_set->awJ,replicate->avr,take_take->awx,getElem?_of_mem->ayd,all_eq_true->avh,getElem_mem->avb,getElem?_append->aye,length_append->IS,length_take->VV,replicate_succ'->ayf,take_length->avT,mem_map->MF,take_left->awa,length_map->VY,length->avu,isEmpty_iff->aw5,length_eq_zero_iff->awq,getElem?_eraseIdx->aAk,length_eraseIdx->aAl,getElem?_toArray->ayl,getElem?_cons_zero->aym,getElem?_cons_succ->axH
open Array renaming getElem?_eq_some_iff->avl,getElem?_modify->avP,toList_append->aAe,size_append->aw4,length_toList->av3,ext'->avE,size_map->aAf,getElem?_toList->avF,getElem?_setIfInBounds->ayi,getElem?_eq_getElem->avd,isEmpty_iff->axF,size_eq_zero_iff->ayj,getElem?_push->axG,toList_eraseIdxIfInBounds->aAj,mem_filter->aAo
open Bool renaming false_eq_true->avO,eq_iff_iff->avv
open Option renaming map_some->avI,Rel->awp
set_option linter.unusedVariables false
set_option linter.unusedSimpArgs false
namespace Go.Proofs.YtemdgidnhgcafaaGreatDoor.Ab
structure hn (B:Nat) (w w':World):Prop where
 os:w'.os=w.os
 tape:w'.tape=w.tape
 output:w'.output=w.output
 size:w.heap.size≤w'.heap.size
 block:∀ k,k<B→w'.heap[k]?=w.heap[k]?
 drawn:w.drawn≤w'.drawn
theorem hn.below {B:Nat} {w w':World} (h:hn B w w'):RowKit.Below B w w':=⟨h.os,h.tape,h.output,h.size,h.block⟩
theorem hn.refl (B:Nat) (w:World):hn B w w:=⟨rfl,rfl,rfl,BY _,fun _ _=>rfl,BY _⟩
theorem hn.trans {B:Nat} {a b c:World} (h:hn B a b) (k:hn B b c):hn B a c :=
 ⟨k.os.trans h.os,k.tape.trans h.tape,k.output.trans h.output,OF h.size k.size,fun i hi=>(k.block i hi).trans (h.block i hi),OF h.drawn k.drawn⟩
theorem hn.drew {B:Nat} {a w:World} (h:hn B a w):hn B a w.drew:=⟨h.os,h.tape,h.output,h.size,h.block,OF h.drawn (ayb _)⟩
theorem hn.alloc {B:Nat} {a w:World} (h:hn B a w) (cr:B≤w.heap.size) (o:Obj):hn B a (w.alloc o) :=
 h.trans ⟨rfl,rfl,rfl,by simp,fun k hk=>RowKit.Below.heap_alloc _ _ _ (by omega),BY _⟩
inductive V where
 | top
 | bool (b:Bool)
 | int (k:IntKind) (n:Int)
 | float (k:FloatKind) (b:Nat)
 | complex (k:FloatKind) (a b:Nat)
 | string (s:ByteArray)
 | nilFunc
 | nilIface
 | c8
 | ag
 | ff
 | z0
 | e6
 | ptr (i o:Nat)
 | bj (i o len cap:Nat)
 | ah (n:Nat) (cs:List V)
 | at (cs:List V)
 | map (i:Nat)
 | func (fn:Fn) (first captured:List V)
 | iface (t:TypeId) (v:V)
 | agg (cs:List V)
 | tuple (vs:List V)
 deriving Inhabited
def gv:Value→V
 | .bool b=>.bool b
 | .int k n=>.int k n
 | .float k b=>.float k b
 | .complex k a b=>.complex k a b
 | .string s=>.string s
 | .nilFunc=>.nilFunc
 | .nilIface=>.nilIface
 | .pointer none=>.c8
 | .slice none 0 0=>.ag
 | .map none=>.ff
 | .func fn xs ys=>if xs.isEmpty&&ys.isEmpty then .func fn [] [] else .top
 | .tuple xs=>if xs.isEmpty then .tuple [] else .top
 | _=>.top
def fg:Value→V
 | .agg xs=>.agg (xs.toList.map gv)
 | .iface t v=>.iface t (gv v)
 | v=>gv v
inductive aO where
 | dead
 | cells (c:List V) (elem:TypeId) (ex:Option Nat)
 | map (es:List (Nat×V×V)) (clock:Nat)
 | iter (m:Nat) (since:Nat) (seen:List Nat) (pO:Nat)
 | jx (b:Nat) (mk:List Value→Obj) (vs:List V)
structure I where
 n:Nat
 get:Nat→aO
 glob:Nat→Option (List V)
def I.set (h:I) (i:Nat) (o:aO):I:={ h with get:=fun j=>if j=i then o else h.get j }
def I.push (h:I) (o:aO):I:={ h with n:=h.n+1,get:=fun j=>if j=h.n then o else h.get j }
def cj:Nat:=2 ^ 64
def fz (c cap:Nat):Nat:=if cap<cj then cap else c - (cap - cj)
structure Ren where
 ren:Nat→Option (Nat×Nat)
 frz:Nat→Option (Array Value)
 dfr:List Deferred:=[]
structure Ren.le (ρ ρ':Ren):Prop where
 ren:∀ i x,ρ.ren i=some x→ρ'.ren i=some x
 frz:∀ i x,ρ.frz i=some x→ρ'.frz i=some x
 dfr:ρ'.dfr=ρ.dfr
theorem Ren.le.refl (ρ:Ren):ρ.le ρ:=⟨fun _ _ h=>h,fun _ _ h=>h,rfl⟩
theorem Ren.le.trans {a b c:Ren} (h:a.le b) (k:b.le c):a.le c:=⟨fun i x aj=>k.ren i x (h.ren i x aj),fun i x aj=>k.frz i x (h.frz i x aj),k.dfr.trans h.dfr⟩
inductive aB (ρ:Ren):V→Value→Prop
 | top (v):aB ρ .top v
 | bool (b):aB ρ (.bool b) (.bool b)
 | int (k n):aB ρ (.int k n) (.int k n)
 | float (k b):aB ρ (.float k b) (.float k b)
 | complex (k a b):aB ρ (.complex k a b) (.complex k a b)
 | string (s):aB ρ (.string s) (.string s)
 | nilFunc:aB ρ .nilFunc .nilFunc
 | nilIface:aB ρ .nilIface .nilIface
 | c8:aB ρ .c8 (.pointer none)
 | ag:aB ρ .ag (.slice none 0 0)
 | ff:aB ρ .ff (.map none)
 | z0 (a:Option Addr) (aP:True):aB ρ .z0 (.slice a 0 0)
 | e6 (a:Addr) (c:Nat):aB ρ .e6 (.slice (some a) 0 c)
 | ptr {i b c:Nat} (h:ρ.ren i=some (b,c)) (o:Nat):aB ρ (.ptr i o) (.pointer (some ⟨b,o,none⟩))
 | bj {i b c:Nat} (h:ρ.ren i=some (b,c)) (o len cap:Nat) (aw:len≤fz c cap) :
   aB ρ (.bj i o len cap) (.slice (some ⟨b,o,none⟩) len (fz c cap))
 | ah {b:Nat} (o n cap:Nat) {arr:Array Value} {cs:List V} (al:ρ.frz b=some arr) (aG:n≤cap) (aN:o+cs.length≤arr.size)
   (aj:∀ (k:Nat) (v:V) (v':Value),cs[k]?=some v→arr[o+k]?=some v'→aB ρ v v'):aB ρ (.ah n cs) (.slice (some ⟨b,o,none⟩) n cap)
 | gg (a:Option Addr) (c:Nat) (aP:a=none→c=0):aB ρ (.ah 0 []) (.slice a 0 c)
 | at {b:Nat} (o:Nat) {arr:Array Value} {cs:List V} (al:ρ.frz b=some arr) (aN:o+cs.length≤arr.size)
   (aj:∀ (k:Nat) (v:V) (v':Value),cs[k]?=some v→arr[o+k]?=some v'→aB ρ v v'):aB ρ (.at cs) (.pointer (some ⟨b,o,none⟩))
 | map {i b c:Nat} (h:ρ.ren i=some (b,c)):aB ρ (.map i) (.map (some b))
 | func (fn:Fn) {xs ys:List V} {eV xf:Array Value} (aa:xs.length=eV.size) (bE:ys.length=xf.size)
   (aj:∀ (k:Nat) (v:V) (v':Value),xs[k]?=some v→eV[k]?=some v'→aB ρ v v') (bp:∀ (k:Nat) (v:V) (v':Value),ys[k]?=some v→xf[k]?=some v'→aB ρ v v') :
   aB ρ (.func fn xs ys) (.func fn eV xf)
 | iface (t:TypeId) {v:V} {v':Value} (h:aB ρ v v'):aB ρ (.iface t v) (.iface t v')
 | agg {xs:List V} {eV:Array Value} (aa:xs.length=eV.size) (aj:∀ (k:Nat) (v:V) (v':Value),xs[k]?=some v→eV[k]?=some v'→aB ρ v v'):aB ρ (.agg xs) (.agg eV)
 | tuple {xs:List V} {eV:Array Value} (aa:xs.length=eV.size) (aj:∀ (k:Nat) (v:V) (v':Value),xs[k]?=some v→eV[k]?=some v'→aB ρ v v'):aB ρ (.tuple xs) (.tuple eV)
theorem aB.xa {ρ ρ':Ren} (Dd:∀ i x,ρ.ren i=some x→ρ'.ren i=some x) (Hx:∀ i x,ρ.frz i=some x→ρ'.frz i=some x) {v:V} {v':Value} (h:aB ρ v v'):aB ρ' v v':=by
 induction h with
 | top v=>exact .top v
 | bool b=>exact .bool b
 | int k n=>exact .int k n
 | float k b=>exact .float k b
 | complex k a b=>exact .complex k a b
 | string s=>exact .string s
 | nilFunc=>exact .nilFunc
 | nilIface=>exact .nilIface
 | c8=>exact .c8
 | ag=>exact .ag
 | ff=>exact .ff
 | z0 a aP=>exact .z0 a aP
 | e6 a c=>exact .e6 a c
 | ptr h o=>exact .ptr (Dd _ _ h) o
 | bj h o len cap aw=>exact .bj (Dd _ _ h) o len cap aw
 | ah o n cap al aG aN _ ih=>exact .ah o n cap (Hx _ _ al) aG aN ih
 | gg a c aP=>exact .gg a c aP
 | «at» o al aN _ ih=>exact .at o (Hx _ _ al) aN ih
 | map h=>exact .map (Dd _ _ h)
 | func fn aa bE _ _ jy Q7=>exact .func fn aa bE jy Q7
 | iface t _ ih=>exact .iface t ih
 | agg aa _ ih=>exact .agg aa ih
 | tuple aa _ ih=>exact .tuple aa ih
theorem aB.mono {ρ ρ':Ren} (hρ:ρ.le ρ') {v:V} {v':Value} (h:aB ρ v v'):aB ρ' v v':=h.xa hρ.ren hρ.frz
theorem aB.dfr {ρ:Ren} {v:V} {v':Value} (h:aB ρ v v') (d:List Deferred):aB { ρ with dfr:=d } v v':=aB.xa (ρ:=ρ) (ρ':={ ρ with dfr:=d }) (fun _ _ h=>h) (fun _ _ h=>h) h
def aX (ρ:Ren) (l:List V) (bU:List Value):Prop:=l.length=bU.length∧∀ (k:Nat) (v:V) (v':Value),l[k]?=some v→bU[k]?=some v'→aB ρ v v'
section
variable {ρ ρ':Ren} {l m:List V} {bU fp:List Value}
theorem aX.mono (hρ:ρ.le ρ') (h:aX ρ l bU):aX ρ' l bU :=
 ⟨h.1,fun k v v' a b=>(h.2 k v v' a b).mono hρ⟩
theorem aX.nil (ρ:Ren):aX ρ [] []:=⟨rfl,by simp⟩
theorem aX.cons {v:V} {v':Value} (h:aB ρ v v') (aw:aX ρ l bU):aX ρ (v::l) (v'::bU):=by
 refine ⟨by simp [aw.1],fun k a b aP al=>?_⟩
 cases k with
 | zero=>simp at aP al;subst aP;subst al;exact h
 | succ k=>exact aw.2 k a b (by simpa using aP) (by simpa using al)
theorem aX.dB {v:V} (h:aX ρ (v::l) bU):∃ v' iW,bU=v'::iW∧aB ρ v v'∧aX ρ l iW:=by
 cases bU with
 | nil=>have:=h.1;simp at this
 | cons v' iW=>exact ⟨v',iW,rfl,h.2 0 v v' rfl rfl,⟨by simpa using h.1,fun k a b aP al=>h.2 (k+1) a b (by simpa using aP) (by simpa using al)⟩⟩
theorem aX.eq_nil (h:aX ρ [] bU):bU=[]:=by
 have:=h.1;simp at this;exact avA this.symm
theorem aX.get (h:aX ρ l bU) {k:Nat} {v:V} (aH:l[k]?=some v):∃ v',bU[k]?=some v'∧aB ρ v v':=by
 have hk:k<l.length:=(VX.1 aH).1;have eJ:k<bU.length:=by rw [←h.1];exact hk
 exact ⟨bU[k],ME eJ,h.2 k v _ aH (ME eJ)⟩
theorem aX.take (h:aX ρ l bU) (n:Nat):aX ρ (l.take n) (bU.take n):=by
 refine ⟨by simp [h.1],fun k a b aP al=>?_⟩
 rw [avg] at aP al;split at aP<;>simp_all;exact h.2 k a b aP al
theorem aX.drop (h:aX ρ l bU) (n:Nat):aX ρ (l.drop n) (bU.drop n):=by
 refine ⟨by simp [h.1],fun k a b aP al=>?_⟩
 rw [avC] at aP al;exact h.2 _ a b aP al
theorem aX.append (h:aX ρ l bU) (g:aX ρ m fp):aX ρ (l++m) (bU++fp):=by
 refine ⟨by simp [h.1,g.1],fun k a b aP al=>?_⟩
 by_cases hk:k<l.length
 ·rw [av8 hk] at aP;rw [av8 (by rw [←h.1];exact hk)] at al
  exact h.2 k a b aP al
 ·rw [av9 (by omega)] at aP
  rw [av9 (by rw [←h.1];omega)] at al
  rw [←h.1] at al;exact g.2 _ a b aP al
theorem aX.set (h:aX ρ l bU) {v:V} {v':Value} (aH:aB ρ v v') (n:Nat):aX ρ (l.set n v) (bU.set n v'):=by
 refine ⟨by simp [h.1],fun k a b aP al=>?_⟩
 rw [awJ] at aP al;by_cases hk:n=k
 ·subst hk;simp at aP al;obtain ⟨_,rfl⟩:=aP;obtain ⟨_,rfl⟩:=al;exact aH
 ·simp [hk] at aP al;exact h.2 k a b aP al
theorem aX.replicate {v:V} {v':Value} (aH:aB ρ v v') (n:Nat):aX ρ (avr n v) (avr n v'):=by
 refine ⟨by simp,fun k a b aP al=>?_⟩
 simp [List.getElem?_replicate] at aP al;obtain ⟨_,rfl⟩:=aP;obtain ⟨_,rfl⟩:=al;exact aH
theorem aX.of_map {f:Value→V} (av:∀ v,aB ρ (f v) v) (l:List Value):aX ρ (l.map f) l:=by
 refine ⟨by simp,fun k a b aP al=>?_⟩
 simp [al] at aP;subst aP;exact av b
end
def dQ (ρ:Ren) (xs:List V) (eV:Array Value):Prop:=xs.length=eV.size∧∀ (k:Nat) (v:V) (v':Value),xs[k]?=some v→eV[k]?=some v'→aB ρ v v'
theorem dQ.list {ρ:Ren} {xs:List V} {eV:Array Value} (h:dQ ρ xs eV):aX ρ xs eV.toList:=⟨by simpa using h.1,by simpa using h.2⟩
theorem aX.arr {ρ:Ren} {xs:List V} {eV:List Value} (h:aX ρ xs eV):dQ ρ xs eV.toArray:=⟨by simpa using h.1,by simpa using h.2⟩
theorem aX.jz {ρ:Ren} {xs:List V} {eV:Array Value} (h:aX ρ xs eV.toList):dQ ρ xs eV:=⟨by simpa using h.1,by simpa using h.2⟩
theorem dQ.agg {ρ:Ren} {xs:List V} {eV:Array Value} (h:dQ ρ xs eV):aB ρ (.agg xs) (.agg eV):=.agg h.1 h.2
theorem dQ.tuple {ρ:Ren} {xs:List V} {eV:Array Value} (h:dQ ρ xs eV):aB ρ (.tuple xs) (.tuple eV):=.tuple h.1 h.2
theorem dQ.mono {ρ ρ':Ren} (hρ:ρ.le ρ') {l:List V} {bU:Array Value} (h:dQ ρ l bU):dQ ρ' l bU:=⟨h.1,fun k v v' a b=>(h.2 k v v' a b).mono hρ⟩
theorem Bo (ρ:Ren) (v:Value):aB ρ (gv v) v:=by
 unfold gv;split
 ·exact .bool _
 ·exact .int _ _
 ·exact .float _ _
 ·exact .complex _ _ _
 ·exact .string _
 ·exact .nilFunc
 ·exact .nilIface
 ·exact .c8
 ·exact .ag
 ·exact .ff
 ·rename_i fn xs ys;split
  ·rename_i h;simp at h;obtain ⟨rfl,rfl⟩:=h;exact .func fn rfl rfl (by simp) (by simp)
  ·exact .top _
 ·rename_i xs;split
  ·rename_i h;simp at h;subst h;exact .tuple rfl (by simp)
  ·exact .top _
 ·exact .top _
theorem De (ρ:Ren) (v:Value):aB ρ (fg v) v:=by
 unfold fg;split
 ·exact (aX.of_map (Bo ρ) _).jz.agg
 ·exact .iface _ (Bo ρ _)
 ·exact Bo ρ v
def nS:V→Option Value
 | .bool b=>some (.bool b)
 | .int k n=>some (.int k n)
 | .float k b=>some (.float k b)
 | .complex k a b=>some (.complex k a b)
 | .string s=>some (.string s)
 | .nilFunc=>some .nilFunc
 | .nilIface=>some .nilIface
 | .c8=>some (.pointer none)
 | .ag=>some (.slice none 0 0)
 | .ff=>some (.map none)
 | .tuple []=>some (.tuple #[])
 | _=>none
def jA:List V→Option (List Value)
 | []=>some []
 | v::r=>match nS v,jA r with
  | some a,some l=>some (a::l)
  | _,_=>none
def pk:V→Option Value
 | .agg xs=>(jA xs).map fun l=>.agg l.toArray
 | .iface t v=>(nS v).map fun a=>.iface t a
 | v=>nS v
theorem yO {ρ:Ren} {v:V} {v' a:Value} (h:aB ρ v v') (av:nS v=some a):v'=a:=by
 cases h<;>simp [nS] at av<;>try exact av
 rename_i xs eV aa aj;cases xs with
 | nil=>simp at av aa;rw [←av,Array.eq_empty_of_size_eq_zero aa.symm]
 | cons x t=>simp at av
theorem Q8 {ρ:Ren}:∀ {l:List V} {bU a:List Value},aX ρ l bU→jA l=some a→bU=a
 | [],bU,a,h,av=>by simp [jA] at av;rw [av];exact h.eq_nil
 | v::l,bU,a,h,av=>by
  obtain ⟨v',iW,rfl,aH,bE⟩:=h.dB;unfold jA at av;split at av
  ·rename_i b c al ay;simp at av;rw [←av,yO aH al,Q8 bE ay]
  ·cases av
theorem xg {ρ:Ren} {v:V} {v' a:Value} (h:aB ρ v v') (av:pk v=some a):v'=a:=by
 unfold pk at av;split at av
 ·cases h with
  | agg aa aj=>
   rename_i xs eV;cases aw:jA xs with
   | none=>simp [aw] at av
   | some l=>
    simp [aw] at av;have:=Q8 (dQ.list ⟨aa,aj⟩) aw;rw [←av,←this]
 ·cases h with
  | iface t h=>
   rename_i u tz;cases hu:nS u with
   | none=>simp [hu] at av
   | some b=>simp [hu] at av;rw [←av,yO h hu]
 ·exact yO h av
def Df (ex:Option Nat) (bA size len:Nat):Prop:=match ex with | none=>size=len | some s=>size=bA * s∧bA<2 ^ 63
def gh (ρ:Ren) (es:List (Nat×V×V)) (arr:Array MapEntry):Prop :=
 es.length=arr.size∧∀ (k:Nat) (e:Nat×V×V) (ed:MapEntry),es[k]?=some e→arr[k]?=some ed→e.1=ed.born∧aB ρ e.2.1 ed.key∧aB ρ e.2.2 ed.val
def n2 (ρ:Ren) (B:Nat) (w:World) (i:Nat):aO→Prop
 | .dead=>True
 | .cells c e ex=>∃ b bA arr,ρ.ren i=some (b,bA)∧ρ.frz b=none∧B≤b∧w.heap[b]?=some (.cells arr e (0,0))∧c.length≤arr.size∧aX ρ c (arr.toList.take c.length) ∧
   Df ex bA arr.size c.length
 | .map es clock=>∃ b bA arr,ρ.ren i=some (b,bA)∧ρ.frz b=none∧B≤b∧w.heap[b]?=some (.map arr clock)∧gh ρ es arr
 | .iter m since seen pO=>∃ b bA bm yP,ρ.ren i=some (b,bA)∧ρ.frz b=none∧B≤b∧ρ.ren m=some (bm,yP)∧w.heap[b]?=some (.mapIter (some bm) since seen.toArray pO)
 | .jx b mk vs=>∃ bA arr,ρ.ren i=some (b,bA)∧ρ.frz b=none∧B≤b∧w.heap[b]?=some (mk arr)∧aX ρ vs arr
structure pn (ρ:Ren) (B:Nat) (h:I) (w:World):Prop where
 lh:∀ i,h.n≤i→ρ.ren i=none
 inj:∀ i j b c uj,h.get i≠.dead→h.get j≠.dead→ρ.ren i=some (b,c)→ρ.ren j=some (b,uj)→i=j
 obj:∀ i,n2 ρ B w i (h.get i)
 frz:∀ b arr,ρ.frz b=some arr→∃ e ho,w.heap[b]?=some (.cells arr e ho)
 glob:∀ g cs,h.glob g=some cs→∃ arr,ρ.frz g=some arr∧dQ ρ cs arr
 base:B≤w.heap.size
abbrev ak:=Nat→V
def ak.put (f:ak) (d:Option Tmp) (v:V):ak :=
 match d with
 | some d=>fun t=>if t=d then v else f t
 | none=>f
def ak.eval (f:ak) (h:I):Operand→V
 | .tmp t=>f t
 | .const v=>fg v
 | .global g=>match h.glob g with | some cs=>.at cs | none=>.top
 | .func bG=>.func (.func bG) [] []
structure eg (ρ:Ren) (n:Nat) (f:ak) (a:Act):Prop where
 tmps:∀ t,aB ρ (f t) (a.tmps.getD t undef)
 size:a.tmps.size=n
 defers:a.defers=ρ.dfr
theorem eg.mono {ρ ρ':Ren} (hρ:ρ.le ρ') {n:Nat} {f:ak} {a:Act} (h:eg ρ n f a):eg ρ' n f a:=⟨fun t=>(h.tmps t).mono hρ,h.size,h.defers.trans hρ.dfr.symm⟩
def sQ (n:Nat) (d:Option Tmp):Bool:=match d with | some t=>decide (t<n) | none=>true
theorem eg.put {ρ:Ren} {n:Nat} {f:ak} {a:Act} (h:eg ρ n f a) {v:V} {v':Value} (aH:aB ρ v v') (d:Option Tmp) (bf:sQ n d=true) :
  eg ρ n (f.put d v) (a.put d v'):=by
 cases d with
 | none=>exact h
 | some d=>
  have bf:d<n:=by simpa [sQ] using bf
  refine ⟨fun t=>?_,by simp [Act.put,h.size],h.defers⟩
  simp only [Act.put,ak.put];by_cases bE:t=d
  ·subst bE;simp [h.size,bf,aH]
  ·have:=h.tmps t;simp [bE] at this⊢;rw [Array.getElem?_setIfInBounds_ne (by omega)]
   exact this
theorem pn.n5 {ρ:Ren} {B:Nat} {h:I} {w:World} (H:pn ρ B h w) (g:Nat):aB ρ (match h.glob g with | some cs=>.at cs | none=>.top) (.pointer (some ⟨g,0,none⟩)):=by
 cases az:h.glob g with
 | none=>exact .top _
 | some cs=>
  obtain ⟨arr,av,aL⟩:=H.glob g cs az;exact .at 0 av (by simp [aL.1]) (by simpa using aL.2)
theorem eg.eval {ρ:Ren} {n B:Nat} {f:ak} {a:Act} {h:I} {w:World} (av:eg ρ n f a) (H:pn ρ B h w) (x:Operand):aB ρ (f.eval h x) (a.eval x):=by
 cases x with
 | tmp t=>exact av.tmps t
 | const v=>exact De ρ v
 | global g=>exact H.n5 g
 | func bG=>exact .func _ rfl rfl (by simp) (by simp)
open Go Go.RowKit
structure aR (ρ:Ren) (B:Nat) (aJ:World) (h:I) (w:World):Prop where
 heap:pn ρ B h w
 below:hn B aJ w
def cC (P:Program) (t:TypeId):Option Nat:=(P.info? t).map (·.size)
def F3 (P:Program) (t:TypeId):Option Nat:=(P.info? t).map (·.bytes)
def la (P:Program) (t:TypeId):Option Value:=(P.info? t).bind (·.zero)
def mj (P:Program) (t:TypeId):Option Bool:=(P.underlying t).map (·.isRow)
def jp (P:Program) (t:TypeId):Option TypeId:=match P.underlying t with | some (.slice e)=>some e | _=>none
theorem pn.lt {ρ:Ren} {B:Nat} {h:I} {w:World} (H:pn ρ B h w) {i b bA:Nat} (hi:ρ.ren i=some (b,bA)):i<h.n:=by
 apply Nat.lt_of_not_le;intro hle;rw [H.lh i hle] at hi;cases hi
theorem pn.live {ρ:Ren} {B:Nat} {h:I} {w:World} (H:pn ρ B h w) {i:Nat} (hi:h.get i≠.dead) :
  ∃ b bA,ρ.ren i=some (b,bA)∧b<w.heap.size∧i<h.n∧ρ.frz b=none∧B≤b:=by
 have:=H.obj i;cases az:h.get i with
 | dead=>exact absurd az hi
 | cells c e ex=>
  rw [az] at this;obtain ⟨b,bA,arr,aL,av,cr,hw,_⟩:=this;exact ⟨b,bA,aL,(avl.1 hw).1,H.lt aL,av,cr⟩
 | map es cl=>
  rw [az] at this;obtain ⟨b,bA,arr,aL,av,cr,hw,_⟩:=this;exact ⟨b,bA,aL,(avl.1 hw).1,H.lt aL,av,cr⟩
 | iter m s l st=>
  rw [az] at this;obtain ⟨b,bA,bm,yP,aL,av,cr,hm,hw⟩:=this;exact ⟨b,bA,aL,(avl.1 hw).1,H.lt aL,av,cr⟩
 | jx b mk vs=>
  rw [az] at this;obtain ⟨bA,arr,aL,av,cr,hw,aw⟩:=this;exact ⟨b,bA,aL,(avl.1 hw).1,H.lt aL,av,cr⟩
theorem gh.mono {ρ ρ':Ren} (hρ:ρ.le ρ') {es:List (Nat×V×V)} {arr:Array MapEntry} (h:gh ρ es arr):gh ρ' es arr :=
 ⟨h.1,fun k e ed a b=>let ⟨x,y,z⟩:=h.2 k e ed a b;⟨x,y.mono hρ,z.mono hρ⟩⟩
theorem n2.ai {ρ ρ':Ren} (hρ:ρ.le ρ') {B:Nat} {w w':World} {i:Nat} {o:aO} (h:n2 ρ B w i o)
  (hk:∀ b c,ρ.ren i=some (b,c)→w'.heap[b]?=w.heap[b]?∧(ρ.frz b=none→ρ'.frz b=none)):n2 ρ' B w' i o:=by
 cases o with
 | dead=>trivial
 | cells c e ex=>
  obtain ⟨b,bA,arr,aL,av,cr,hw,ay,aw,aj⟩:=h;exact ⟨b,bA,arr,hρ.ren _ _ aL,(hk b bA aL).2 av,cr,(hk b bA aL).1.trans hw,ay,aw.mono hρ,aj⟩
 | map es cl=>
  obtain ⟨b,bA,arr,aL,av,cr,hw,hm⟩:=h;exact ⟨b,bA,arr,hρ.ren _ _ aL,(hk b bA aL).2 av,cr,(hk b bA aL).1.trans hw,hm.mono hρ⟩
 | iter m s l st=>
  obtain ⟨b,bA,bm,yP,aL,av,cr,hm,hw⟩:=h;exact ⟨b,bA,bm,yP,hρ.ren _ _ aL,(hk b bA aL).2 av,cr,hρ.ren _ _ hm,(hk b bA aL).1.trans hw⟩
 | jx b mk vs=>
  obtain ⟨bA,arr,aL,av,cr,hw,aw⟩:=h;exact ⟨bA,arr,hρ.ren _ _ aL,(hk b bA aL).2 av,cr,(hk b bA aL).1.trans hw,aw.mono hρ⟩
def Ren.add (ρ:Ren) (i b bA:Nat):Ren:={ ρ with ren:=fun j=>if j=i then some (b,bA) else ρ.ren j }
theorem Ren.rA {ρ:Ren} {i:Nat} (hi:ρ.ren i=none) (b bA:Nat):ρ.le (ρ.add i b bA):=by
 refine ⟨fun j x aV=>?_,fun _ _ h=>h,rfl⟩;simp only [Ren.add];by_cases j9:j=i
 ·subst j9;rw [hi] at aV;cases aV
 ·simp [j9,aV]
theorem Ren.ml {ρ:Ren} {i b bA:Nat}:(ρ.add i b bA).ren i=some (b,bA):=by simp [Ren.add]
theorem aR.Aa {ρ:Ren} {B:Nat} {aJ:World} {h:I} {w w':World} (R:aR ρ B aJ h w) {o:aO} (bA:Nat)
  (bo:w.heap.size<w'.heap.size) (hold:∀ k,k<w.heap.size→w'.heap[k]?=w.heap[k]?) (al:hn B w w')
  (kL:n2 (ρ.add h.n w.heap.size bA) B w' h.n o) :
  ρ.le (ρ.add h.n w.heap.size bA)∧aR (ρ.add h.n w.heap.size bA) B aJ (h.push o) w':=by
 have hle:=Ren.rA (R.heap.lh _ (BY _)) w.heap.size bA;have lj:∀ b arr,ρ.frz b=some arr→b<w.heap.size:=fun b arr av=>by
  obtain ⟨e,ho,hw⟩:=R.heap.frz b arr av;exact (avl.1 hw).1
 refine ⟨hle,⟨⟨fun i hi=>?_,fun i j b bb bt hi aV h1 ad=>?_,fun i=>?_,fun b arr av=>?_,fun g cs az=>?_,?_⟩,R.below.trans al⟩⟩
 ·simp only [I.push] at hi;simp [Ren.add,show i≠h.n by omega,R.heap.lh i (by omega)]
 ·simp only [I.push] at hi aV;simp only [Ren.add] at h1 ad;by_cases cU:i=h.n<;>by_cases kZ:j=h.n
  ·omega
  ·simp [cU] at h1;simp [kZ] at ad aV;obtain ⟨cN,rB,aL,aM,_⟩:=R.heap.live aV;rw [aL] at ad;simp at ad;omega
  ·simp [kZ] at ad;simp [cU] at h1 hi;obtain ⟨cN,rB,aL,aM,_⟩:=R.heap.live hi;rw [aL] at h1;simp at h1;omega
  ·simp [cU] at h1 hi;simp [kZ] at ad aV;exact R.heap.inj i j b bb bt hi aV h1 ad
 ·by_cases cU:i=h.n
  ·subst cU;simpa only [I.push,if_true] using kL
  ·simp only [I.push,if_neg cU];by_cases bf:h.get i=.dead
   ·rw [bf];trivial
   ·refine (R.heap.obj i).ai hle fun b bb aL=>⟨hold b ?_,fun h=>h⟩;obtain ⟨cN,rB,gJ,aM,_⟩:=R.heap.live bf;rw [gJ] at aL;simp at aL;obtain ⟨rfl,rfl⟩:=aL;exact aM
 ·obtain ⟨e,ho,hw⟩:=R.heap.frz b arr av;exact ⟨e,ho,(hold b (lj b arr av)).trans hw⟩
 ·obtain ⟨arr,av,aL⟩:=R.heap.glob g cs az;exact ⟨arr,av,aL.mono hle⟩
 ·exact OF R.heap.base (ayc bo)
theorem aR.push {ρ:Ren} {B:Nat} {aJ:World} {h:I} {w w':World} (R:aR ρ B aJ h w) {c:List V} {arr:Array Value} {e:TypeId} {ex:Option Nat} (bA:Nat)
  (bo:w.heap.size<w'.heap.size) (hold:∀ k,k<w.heap.size→w'.heap[k]?=w.heap[k]?) (kL:w'.heap[w.heap.size]?=some (.cells arr e (0,0)))
  (al:hn B w w') (ay:c.length≤arr.size) (aw:aX ρ c (arr.toList.take c.length)) (aj:Df ex bA arr.size c.length) :
  ∃ ρ':Ren,ρ.le ρ'∧ρ'.ren h.n=some (w.heap.size,bA)∧aR ρ' B aJ (h.push (.cells c e ex)) w':=by
 have hle:=Ren.rA (R.heap.lh _ (BY _)) w.heap.size bA;have Bp:ρ.frz w.heap.size=none:=by
  cases av:ρ.frz w.heap.size with
  | none=>rfl
  | some a=>
   obtain ⟨e,ho,hw⟩:=R.heap.frz _ _ av;have:=(avl.1 hw).1;omega
 obtain ⟨h1,ad⟩:=R.Aa (o:=.cells c e ex) bA bo hold al ⟨w.heap.size,bA,arr,Ren.ml,Bp,R.heap.base,kL,ay,aw.mono hle,aj⟩;exact ⟨_,h1,Ren.ml,ad⟩
theorem aR.F4 {ρ:Ren} {B:Nat} {aJ:World} {h:I} {w w':World} (R:aR ρ B aJ h w) {arr:Array Value} {e:TypeId} {ho:Nat×Nat}
  (bo:w.heap.size<w'.heap.size) (hold:∀ k,k<w.heap.size→w'.heap[k]?=w.heap[k]?) (kL:w'.heap[w.heap.size]?=some (.cells arr e ho)) (al:hn B w w') :
  ∃ ρ':Ren,ρ.le ρ'∧ρ'.frz w.heap.size=some arr∧aR ρ' B aJ h w':=by
 have lj:∀ b arr,ρ.frz b=some arr→b<w.heap.size:=fun b arr av=>by
  obtain ⟨e,ho,hw⟩:=R.heap.frz b arr av;exact (avl.1 hw).1
 have hle:ρ.le { ρ with frz:=fun b=>if b=w.heap.size then some arr else ρ.frz b }:=by
  refine ⟨fun _ _ h=>h,fun b a al=>?_,rfl⟩;have:=lj b a al;simp [show b≠w.heap.size by omega,al]
 refine ⟨_,hle,by simp,⟨⟨R.heap.lh,R.heap.inj,fun i=>?_,fun b a av=>?_,fun g cs az=>?_,OF R.heap.base (ayc bo)⟩,R.below.trans al⟩⟩
 ·by_cases bf:h.get i=.dead
  ·rw [bf];trivial
  ·obtain ⟨cN,rB,gJ,aM,_⟩:=R.heap.live bf;refine (R.heap.obj i).ai hle fun b bb aL=>?_;rw [gJ] at aL;simp at aL;obtain ⟨rfl,rfl⟩:=aL;exact ⟨hold _ aM,fun h=>by simp [show cN≠w.heap.size by omega,h]⟩
 ·simp only at av;by_cases uk:b=w.heap.size
  ·subst uk;simp at av;subst av;exact ⟨e,ho,kL⟩
  ·simp [uk] at av;obtain ⟨e,ho,hw⟩:=R.heap.frz b a av;exact ⟨e,ho,(hold b (lj b a av)).trans hw⟩
 ·obtain ⟨jz,av,aL⟩:=R.heap.glob g cs az;exact ⟨jz,hle.frz _ _ av,aL.mono hle⟩
theorem aR.qh {ρ:Ren} {B:Nat} {aJ:World} {h:I} {w w':World} (R:aR ρ B aJ h w) {i b bA:Nat} (hi:ρ.ren i=some (b,bA)) (aw:h.get i≠.dead) {o:aO}
  (hold:∀ k,k≠b→w'.heap[k]?=w.heap[k]?) (bo:w.heap.size≤w'.heap.size) (al:hn B w w') (kL:n2 ρ B w' i o):aR ρ B aJ (h.set i o) w':=by
 have mH:ρ.frz b=none:=by
  obtain ⟨cN,rB,gJ,_,_,av,_⟩:=R.heap.live aw;rw [gJ] at hi;simp at hi;rw [←hi.1];exact av
 refine ⟨⟨R.heap.lh,fun j k cN bb bt aV hk h1 ad=>?_,fun j=>?_,fun cN arr av=>?_,R.heap.glob,OF R.heap.base bo⟩,R.below.trans al⟩
 ·refine R.heap.inj j k cN bb bt ?_ ?_ h1 ad
  ·by_cases cL:j=i
   ·subst cL;exact aw
   ·simpa [I.set,cL] using aV
  ·by_cases o0:k=i
   ·subst o0;exact aw
   ·simpa [I.set,o0] using hk
 ·by_cases cL:j=i
  ·subst cL;simpa only [I.set,if_true] using kL
  ·simp only [I.set,if_neg cL];by_cases bf:h.get j=.dead
   ·rw [bf];trivial
   ·refine (R.heap.obj j).ai (Ren.le.refl ρ) fun b7 bb aL=>⟨hold b7 ?_,fun h=>h⟩;intro wk;subst wk;exact cL (R.heap.inj i j b7 bA bb aw bf hi aL).symm
 ·obtain ⟨e,ho,hw⟩:=R.heap.frz cN arr av;have:cN≠b:=by intro U;subst U;rw [mH] at av;cases av
  exact ⟨e,ho,(hold cN this).trans hw⟩
theorem aR.kill {ρ:Ren} {B:Nat} {aJ:World} {h:I} {w:World} (R:aR ρ B aJ h w) (i:Nat):aR ρ B aJ (h.set i .dead) w:=by
 refine ⟨⟨R.heap.lh,fun j k cN bb bt aV hk h1 ad=>?_,fun j=>?_,R.heap.frz,R.heap.glob,R.heap.base⟩,R.below⟩
 ·refine R.heap.inj j k cN bb bt ?_ ?_ h1 ad
  ·by_cases cL:j=i
   ·subst cL;simp [I.set] at aV
   ·simpa [I.set,cL] using aV
  ·by_cases o0:k=i
   ·subst o0;simp [I.set] at hk
   ·simpa [I.set,o0] using hk
 ·by_cases cL:j=i
  ·subst cL;simp only [I.set,if_true];trivial
  ·simp only [I.set,if_neg cL];exact R.heap.obj j
theorem aR.drew {ρ:Ren} {B:Nat} {aJ:World} {h:I} {w:World} (R:aR ρ B aJ h w):aR ρ B aJ h w.drew:=by
 refine ⟨⟨R.heap.lh,R.heap.inj,fun i=>?_,R.heap.frz,R.heap.glob,R.heap.base⟩,R.below.drew⟩;exact (R.heap.obj i).ai (Ren.le.refl ρ) fun b c aL=>⟨rfl,fun h=>h⟩
theorem aR.freeze {ρ:Ren} {B:Nat} {aJ:World} {h:I} {w:World} (R:aR ρ B aJ h w) {i:Nat} {c:List V} {e:TypeId} {ex:Option Nat} (az:h.get i=.cells c e ex) :
  ∃ ρ':Ren,ρ.le ρ'∧aR ρ' B aJ (h.set i .dead) w∧∃ b bA arr,ρ.ren i=some (b,bA)∧ρ'.frz b=some arr∧c.length≤arr.size∧aX ρ c (arr.toList.take c.length):=by
 have aN:=R.heap.obj i;rw [az] at aN;obtain ⟨b,bA,arr,aL,av,cr,hw,ay,aw,aj⟩:=aN;have hle:ρ.le { ρ with frz:=fun k=>if k=b then some arr else ρ.frz k }:=by
  refine ⟨fun _ _ h=>h,fun k a hk=>?_,rfl⟩;have:k≠b:=by intro U;subst U;rw [av] at hk;cases hk
  simp [this,hk]
 have K:=R.kill i;refine ⟨_,hle,⟨⟨K.heap.lh,K.heap.inj,fun j=>?_,fun k a hk=>?_,fun g cs az=>?_,K.heap.base⟩,K.below⟩,b,bA,arr,aL,by simp,ay,aw⟩
 ·by_cases bf:(h.set i .dead).get j=.dead
  ·rw [bf];trivial
  ·refine (K.heap.obj j).ai hle fun b7 bt iG=>⟨rfl,fun ad=>?_⟩;have:b7≠b:=by
    intro U;subst U;by_cases cL:j=i
    ·subst cL;simp [I.set] at bf
    ·refine cL (R.heap.inj j i b7 bt bA ?_ (by rw [az];simp) iG aL)
     simpa [I.set,cL] using bf
   simp [this,ad]
 ·simp only at hk;by_cases Pb:k=b
  ·subst Pb;simp at hk;subst hk;exact ⟨e,(0,0),hw⟩
  ·simp [Pb] at hk;exact R.heap.frz k a hk
 ·obtain ⟨jz,b8,gJ⟩:=R.heap.glob g cs az;exact ⟨jz,hle.frz _ _ b8,gJ.mono hle⟩
def Yields (P:Program) (s:Sem Value) (ρ:Ren) (B:Nat) (aJ w:World) (v:V) (h':I):Prop :=
 ∃ ρ' v' w',s.run P w=.ok v' w'∧aB ρ' v v'∧aR ρ' B aJ h' w'∧ρ.le ρ'
theorem Yields.same {P:Program} {s:Sem Value} {ρ:Ren} {B:Nat} {aJ w:World} {v:V} {v':Value} {h:I} (R:aR ρ B aJ h w) (aL:s.run P w=.ok v' w) (aH:aB ρ v v') :
  Yields P s ρ B aJ w v h:=⟨ρ,v',w,aL,aH,R,Ren.le.refl ρ⟩
def bP (P:Program) (s:Sem Value) (ρ:Ren) (w:World) (v:V):Prop:=∃ v',s.run P w=.ok v' w∧aB ρ v v'
theorem bP.mk {P:Program} {s:Sem Value} {ρ:Ren} {w:World} {v:V} {v':Value} (aL:s.run P w=.ok v' w) (aH:aB ρ v v'):bP P s ρ w v:=⟨v',aL,aH⟩
theorem bP.hp {P:Program} {s:Sem Value} {ρ:Ren} {B:Nat} {aJ w:World} {v:V} {h:I} (k:bP P s ρ w v) (R:aR ρ B aJ h w):Yields P s ρ B aJ w v h :=
 let ⟨_,aL,aH⟩:=k
 .same R aL aH
def rb (h:I):V→Option (List V)
 | .ptr i o=>match h.get i with
  | .cells c _ _=>if o≤c.length then some (c.drop o) else none
  | _=>none
 | .at cs=>some cs
 | _=>none
theorem VZ {w:World} {b o:Nat} {arr:Array Value} {e:TypeId} {ho:Nat×Nat} (hw:w.heap[b]?=some (.cells arr e ho)) (n m:Nat):w.rangeAt b o (((arr.toList.take m).drop o).take n):=by
 intro j v aH;simp only [World.cell?,hw,Option.isSome_none,avO,if_false];rw [avg] at aH;split at aH
 ·rw [avC,avg] at aH;split at aH
  ·simpa using aH
  ·cases aH
 ·cases aH
theorem Ac {ρ:Ren} {B:Nat} {h:I} {w:World} (H:pn ρ B h w) {p:V} {V0:Value} (aU:aB ρ p V0) {cs:List V} (aa:rb h p=some cs) :
  ∃ b o,V0=.pointer (some ⟨b,o,none⟩)∧∀ n,n≤cs.length→∃ vs,w.rangeAt b o vs∧aX ρ (cs.take n) vs∧vs.length=n:=by
 unfold rb at aa;split at aa
 ·rename_i i o;split at aa
  case h_2=>cases aa
  rename_i c e ex az;split at aa
  case isFalse=>cases aa
  rename_i aN;obtain rfl:_=cs:=by simpa using aa
  have Pc:=H.obj i;rw [az] at Pc;obtain ⟨b7,ji,arr,aL,av,cr,hw,ay,aw,aj⟩:=Pc;cases aU with
  | ptr hi o=>
  rw [aL] at hi;simp at hi;obtain ⟨rfl,rfl⟩:=hi;refine ⟨b7,o,rfl,fun n aG=>⟨((arr.toList.take c.length).drop o).take n,VZ hw n _,(aw.drop o).take n,?_⟩⟩;simp at aG⊢;omega
 ·rename_i l;obtain rfl:l=cs:=by simpa using aa
  cases aU with
  | «at» o al aN aj=>
  rename_i b arr;obtain ⟨e,ho,hw⟩:=H.frz b arr al;refine ⟨b,o,rfl,fun n aG=>⟨((arr.toList.take arr.size).drop o).take n,VZ hw n _,?_,?_⟩⟩
  ·have gH:aX ρ l ((arr.toList.drop o).take l.length):=by
    refine ⟨by simp;omega,fun k v v' h1 ad=>?_⟩
    rw [avg] at ad;split at ad
    ·rw [avC] at ad;exact aj k v v' h1 (by simpa using ad)
    ·cases ad
   have:=gH.take n;rw [awx,avD aG] at this;have aC:arr.toList.take arr.size=arr.toList:=List.take_of_length_le (by simp)
   rw [aC];exact this
  ·simp;omega
 ·cases aa
def xh (P:Program) (t:TypeId) (x:V) (h:I):Option V :=
 match rb h x,mj P t,cC P t with
 | some cs,some true,some n=>if n≤cs.length then some (.agg (cs.take n)) else none
 | some (v::_),some false,some _=>some v
 | _,_,_=>none
theorem V1 {P:Program} {t:TypeId} {x v:V} {b0:Value} {h:I} (aa:xh P t x h=some v) {ρ:Ren} {B:Nat} {aJ w:World} (R:aR ρ B aJ h w) (aj:aB ρ x b0) :
  (∃ a,b0=.pointer (some a))∧bP P (Instr.loadAt t b0) ρ w v:=by
 unfold xh at aa;cases ab:P.info? t with
 | none=>simp [cC,ab] at aa
 | some cg=>
 cases hu:P.underlying t with
 | none=>simp [mj,hu] at aa
 | some d=>
 simp only [mj,hu,cC,ab,avI] at aa;cases aU:rb h x with
 | none=>simp [aU] at aa
 | some cs=>
 obtain ⟨b,o,rfl,dX⟩:=Ac R.heap aj aU;refine ⟨⟨_,rfl⟩,?_⟩;cases bf:d.isRow with
 | true=>
  simp only [aU,bf] at aa;split at aa
  case isFalse=>cases aa
  rename_i aG;obtain rfl:_=v:=by simpa using aa
  obtain ⟨vs,h1,ad,aD⟩:=dX _ aG;exact bP.mk (run_loadAt_mid w b o t vs d h1 hu bf (by simp [ab,aD])) (ad.arr).agg
 | false=>
  cases cs with
  | nil=>simp [aU,bf] at aa
  | cons u r=>
   simp only [aU,bf,Option.some.injEq] at aa;subst aa;obtain ⟨vs,h1,ad,aD⟩:=dX 1 (by simp)
   simp only [List.take_succ_cons,List.take_zero] at ad;obtain ⟨v',iW,rfl,eK,_⟩:=ad.dB;have Ad:=h1 0 v' rfl;refine bP.mk ?_ eK;have xi:(isAgg t).run P w=.ok false w:=by
    unfold isAgg;rw [Sem.run_bind,run_underlying hu w];cases d<;>simp_all
   simp only [awM] at Ad;simp [Instr.loadAt,Instr.sureAddr,loadVar,xi,load,Sem.run,Ad]
theorem aX.dfr {ρ:Ren} {l:List V} {bU:List Value} (h:aX ρ l bU) (d:List Deferred):aX { ρ with dfr:=d } l bU:=⟨h.1,fun k v v' a b=>(h.2 k v v' a b).dfr d⟩
theorem gh.dfr {ρ:Ren} {es:List (Nat×V×V)} {arr:Array MapEntry} (h:gh ρ es arr) (d:List Deferred):gh { ρ with dfr:=d } es arr :=
 ⟨h.1,fun k e ed a b=>⟨(h.2 k e ed a b).1,(h.2 k e ed a b).2.1.dfr d,(h.2 k e ed a b).2.2.dfr d⟩⟩
theorem n2.dfr {ρ:Ren} {B:Nat} {w:World} {i:Nat} {o:aO} (h:n2 ρ B w i o) (d:List Deferred):n2 { ρ with dfr:=d } B w i o:=by
 cases o with
 | dead=>trivial
 | cells c e ex=>
  obtain ⟨b,bA,arr,aL,av,cr,hw,ay,aw,aj⟩:=h;exact ⟨b,bA,arr,aL,av,cr,hw,ay,aw.dfr d,aj⟩
 | map es cl=>
  obtain ⟨b,bA,arr,aL,av,cr,hw,hm⟩:=h;exact ⟨b,bA,arr,aL,av,cr,hw,hm.dfr d⟩
 | iter m s l st=>
  obtain ⟨b,bA,bm,yP,aL,av,cr,hm,hw⟩:=h;exact ⟨b,bA,bm,yP,aL,av,cr,hm,hw⟩
 | jx b mk vs=>
  obtain ⟨bA,arr,aL,av,cr,hw,aw⟩:=h;exact ⟨bA,arr,aL,av,cr,hw,aw.dfr d⟩
theorem aR.dfr {ρ:Ren} {B:Nat} {aJ:World} {h:I} {w:World} (R:aR ρ B aJ h w) (d:List Deferred):aR { ρ with dfr:=d } B aJ h w :=
 ⟨⟨R.heap.lh,R.heap.inj,fun i=>(R.heap.obj i).dfr d,R.heap.frz,fun g cs az=>by
  obtain ⟨arr,h1,ad⟩:=R.heap.glob g cs az;exact ⟨arr,h1,ad.1,fun k v v' a b=>(ad.2 k v v' a b).dfr d⟩,R.heap.base⟩,R.below⟩
theorem Ren.le.qi {ρ ρ':Ren} {d:List Deferred} (h:Ren.le { ρ with dfr:=d } ρ'):ρ.le { ρ' with dfr:=ρ.dfr }:=⟨h.ren,h.frz,rfl⟩
def V.cells:V→Option (List V)
 | .agg cs=>some cs
 | .top=>none
 | .tuple _=>none
 | v=>some [v]
def V.one:V→Bool
 | .agg _ | .tuple _ | .top=>false
 | _=>true
theorem aB.one {ρ:Ren} {v:V} {v':Value} (h:aB ρ v v') (aN:v.one=true):v'.oneCell'=true:=by cases h<;>simp [V.one] at aN<;>rfl
theorem aB.vu {ρ:Ren} {v:V} {v':Value} (h:aB ρ v v') (aN:v.one=true):v'.cells=#[v']:=by cases h<;>simp [V.one] at aN<;>rfl
theorem aB.cells {ρ:Ren} {v:V} {v':Value} (h:aB ρ v v') {cs:List V} (ay:v.cells=some cs):aX ρ cs v'.cells.toList:=by
 have key:∀ u:V,aB ρ u v'→u.one=true→u.cells=some [u]→aX ρ [u] v'.cells.toList:=fun u hu h1 _=>by
  rw [hu.vu h1];exact .cons hu (.nil ρ)
 cases h with
 | agg aa aj=>
         obtain rfl:_=cs:=by simpa [V.cells] using ay
         exact dQ.list ⟨aa,aj⟩
 | top=>simp [V.cells] at ay
 | tuple aa aj=>simp [V.cells] at ay
 | _=>
     obtain rfl:_=cs:=by simpa [V.cells] using ay
     exact key _ (by constructor<;>assumption) rfl rfl
theorem aX.one {ρ:Ren} {l:List V} {bU:List Value} (h:aX ρ l bU) (aw:l.all (·.one)=true):∀ v ∈ bU,v.oneCell'=true:=by
 intro v aH;obtain ⟨k,hk⟩:=ayd aH;have aM:k<bU.length:=(VX.1 hk).1;have iX:k<l.length:=by rw [h.1];exact aM
 exact (h.2 k l[k] v (ME iX) hk).one ((avh.1 aw) _ (avb iX))
def lay {α:Type} (c:List α) (o:Nat) (vs:List α):List α:=c.take o++vs++c.drop (o+vs.length)
theorem vv {α:Type} (c:List α) (o:Nat) (vs:List α) (h:o+vs.length≤c.length):(lay c o vs).length=c.length:=by
 simp [lay];omega
theorem aX.lay {ρ:Ren} {c:List V} {uj:List Value} (h:aX ρ c uj) {vs:List V} {il:List Value} (aH:aX ρ vs il) (o:Nat):aX ρ (lay c o vs) (lay uj o il):=by
 unfold Ab.lay;rw [←aH.1];exact ((h.take o).append aH).append (h.drop _)
theorem V2 {α:Type} (c:List α) (o:Nat) (vs:List α) (n:Nat) (h:o+vs.length≤n) (aG:n≤c.length):(lay c o vs).take n=lay (c.take n) o vs:=by
 apply List.ext_getElem?;intro k;simp only [Ab.lay,avg,aye,IS,VV,avC];by_cases h1:k<n
 ·simp only [h1,if_true];have aC:min o c.length=o:=by omega
  have bd:min o (min n c.length)=o:=by omega
  simp only [aC,bd];by_cases ad:k<o+vs.length
  ·simp only [ad,if_true]
  ·simp only [ad,if_false]
   first | done | rw [if_pos (by omega)]
 ·simp only [h1,if_false];rw [if_neg (by omega)]
  rw [if_neg (by omega)]
theorem Hy {P:Program} {h:I} {i:Nat} {c:List V} {e:TypeId} {ex:Option Nat} (az:h.get i=.cells c e ex) {ρ:Ren} {B:Nat} {aJ w:World} (R:aR ρ B aJ h w)
  {b bA:Nat} (hi:ρ.ren i=some (b,bA)) (o:Nat) {vs:List V} {il:List Value} (aH:aX ρ vs il) (cm:vs.all (·.one)=true) (eW:o+vs.length≤c.length) :
  ∃ w',(storeCells ⟨b,o,none⟩ il).run P w=.ok () w'∧aR ρ B aJ (h.set i (.cells (lay c o vs) e ex)) w':=by
 have aN:=R.heap.obj i;rw [az] at aN;obtain ⟨b7,ji,arr,aL,av,cr,hw,ay,aw,aj⟩:=aN;rw [aL] at hi;simp at hi;obtain ⟨rfl,rfl⟩:=hi;have MG:o+il.length≤arr.size:=by rw [←aH.1];omega
 have c2:=run_storeCells_at P b7 o e il 0 arr w hw (by simpa using MG) (aH.one cm)
 simp only [awM] at c2;refine ⟨_,c2,R.qh aL (by rw [az];simp) (fun k hk=>?_) ?_ ?_ ?_⟩
 ·simp [World.setRow,avP,Ne.symm hk]
 ·simp [World.setRow]
 ·refine ⟨rfl,rfl,rfl,by simp [World.setRow],fun k hk=>?_,BY _⟩
  simp [World.setRow,avP,show b7≠k by omega]
 ·refine ⟨b7,ji,_,aL,av,cr,setRow_heap w b7 arr _ e (0,0) hw,?_,?_,?_⟩
  ·rw [vv _ _ _ eW];simp;omega
  ·rw [vv _ _ _ eW];have:=aw.lay aH o;rw [←V2 arr.toList o il c.length (by rw [←aH.1];exact eW) (by simpa using ay)] at this
   exact this
  ·rw [vv _ _ _ eW];have hlen:(arr.toList.take o++il++arr.toList.drop (o+il.length)).toArray.size=arr.size:=by simp;omega
   rw [hlen];exact aj
def F5 (P:Program) (t:TypeId) (x v:V) (h:I):Option I :=
 match x,v.cells with
 | .ptr i o,some vs=>
  match h.get i with
  | .cells c e ex=>if some vs.length=cC P t∧vs.all (·.one)=true∧o+vs.length≤c.length then some (h.set i (.cells (lay c o vs) e ex)) else none
  | _=>none
 | _,_=>none
theorem afT {P:Program} {t:TypeId} {x v:V} {b0 v':Value} {h h':I} (aa:F5 P t x v h=some h') {ρ:Ren} {B:Nat} {aJ w:World} (R:aR ρ B aJ h w)
  (aj:aB ρ x b0) (aH:aB ρ v v'):∃ w',(Instr.storeAt t b0 v').run P w=.ok () w'∧aR ρ B aJ h' w':=by
 unfold F5 at aa;split at aa
 case h_2=>cases aa
 rename_i i o vs rC;cases aj with
 | ptr hi o=>
 rename_i b bA;split at aa
 case h_2=>cases aa
 rename_i c e ex az;split at aa
 case isFalse=>cases aa
 rename_i lk;obtain ⟨bo,cm,eW⟩:=lk;obtain rfl:_=h':=by simpa using aa
 have cI:=aH.cells rC;obtain ⟨w',cE,eu⟩:=Hy (P:=P) az R hi o cI cm eW;refine ⟨w',?_,eu⟩;have hlen:v'.cells.size=vs.length:=by have:=cI.1;simpa using this.symm
 cases ab:P.info? t with
 | none=>simp [cC,ab] at bo
 | some cg=>
  simp [cC,ab] at bo;simp [Instr.storeAt,Instr.sureAddr,storeVar,sizeOf,typeInfo,ab,hlen,bo,cE]
theorem Q9 {h:I} {ρ:Ren} {B:Nat} {aJ w:World} (R:aR ρ B aJ h w) {c:List V} {uj:List Value} (e:TypeId) (ay:aX ρ c uj) (bA:Nat) :
  ∃ ρ':Ren,ρ.le ρ'∧ρ'.ren h.n=some (w.heap.size,bA)∧aR ρ' B aJ (h.push (.cells c e none)) (w.alloc (.cells uj.toArray e)) :=
 R.push (arr:=uj.toArray) bA (by simp) (fun k hk=>Below.heap_alloc w _ k hk) (heap_alloc_new w _) ((hn.refl _ _).alloc R.heap.base _)
  (by simp [ay.1]) (by simpa [ay.1] using ay) (show _=_ by simp [ay.1])
theorem V3 {P:Program} {h:I} {ρ:Ren} {B:Nat} {aJ w:World} (R:aR ρ B aJ h w) {cs:List V} {v':Value} (e:TypeId) (aH:aX ρ cs v'.cells.toList) (s:Sem Value)
  (aa:s.run P w=.ok (.pointer (some ⟨w.heap.size,0,none⟩)) (w.alloc (.cells v'.cells e))) :
  Yields P s ρ B aJ w (.ptr h.n 0) (h.push (.cells cs e none)):=by
 obtain ⟨ρ',hle,aG,eu⟩:=Q9 R e aH 0;exact ⟨ρ',_,_,aa,.ptr aG 0,by simpa using eu,hle⟩
def gR (P:Program) (e:TypeId):Option (List V):=match la P e with | some z=>(fg z).cells | none=>none
theorem F6 {P:Program} {e:TypeId} {zs:List V} (h:gR P e=some zs):∃ z,la P e=some z∧∀ ρ,aX ρ zs z.cells.toList:=by
 unfold gR at h;split at h
 ·rename_i z bR;exact ⟨z,bR,fun ρ=>(De ρ z).cells h⟩
 ·cases h
def F7 (P:Program) (e:TypeId) (h:I):Option (V×I) :=
 match gR P e with
 | some zs=>some (.ptr h.n 0,h.push (.cells zs e none))
 | none=>none
def vw (e:TypeId) (x:V) (h:I):Option (V×I) :=
 match x.cells with
 | some cs=>some (.ptr h.n 0,h.push (.cells cs e none))
 | none=>none
theorem afU {P:Program} {e:TypeId} {v:V} {h h':I} (aa:F7 P e h=some (v,h')) {ρ:Ren} {B:Nat} {aJ w:World} (R:aR ρ B aJ h w) :
  Yields P (Instr.alloc e true (.tuple #[])) ρ B aJ w v h':=by
 unfold F7 at aa;split at aa
 case h_2=>cases aa
 rename_i zs fb;obtain ⟨z,bR,eK⟩:=F6 fb;simp at aa;obtain ⟨rfl,rfl⟩:=aa;refine V3 R e (eK ρ) _ ?_;cases ab:P.info? e with
 | none=>simp [la,ab] at bR
 | some cg=>
  simp [la,ab] at bR;simp [Instr.alloc,zeroValue,typeInfo,ab,bR,newVar,newRow]
theorem afV {P:Program} {e:TypeId} {x v:V} {b0:Value} {h h':I} (aa:vw e x h=some (v,h')) {ρ:Ren} {B:Nat} {aJ w:World} (R:aR ρ B aJ h w) (aj:aB ρ x b0) :
  Yields P (Instr.box e b0) ρ B aJ w v h':=by
 unfold vw at aa;split at aa
 case h_2=>cases aa
 rename_i cs dX;simp at aa;obtain ⟨rfl,rfl⟩:=aa;exact V3 R e (aj.cells dX) _ (by simp [Instr.box,newVar,newRow])
theorem aB.pP {ρ:Ren} {i o:Nat} {b0:Value} (h:aB ρ (.ptr i o) b0):∃ b c,ρ.ren i=some (b,c)∧b0=.pointer (some ⟨b,o,none⟩):=by
 cases h with
 | ptr hi=>exact ⟨_,_,hi,rfl⟩
theorem aB.gm {ρ:Ren} {i o len cap:Nat} {b0:Value} (h:aB ρ (.bj i o len cap) b0):∃ b c,ρ.ren i=some (b,c)∧len≤fz c cap∧b0=.slice (some ⟨b,o,none⟩) len (fz c cap):=by
 cases h with
 | bj hi _ _ _ aw=>exact ⟨_,_,hi,aw,rfl⟩
theorem aB.um {ρ:Ren} {cs:List V} {b0:Value} (h:aB ρ (.at cs) b0):∃ (b o:Nat) (arr:Array Value),ρ.frz b=some arr∧o+cs.length≤arr.size ∧
  (∀ (k:Nat) (v:V) (v':Value),cs[k]?=some v→arr[o+k]?=some v'→aB ρ v v')∧b0=.pointer (some ⟨b,o,none⟩):=by
 cases h with
 | «at» o al aN aj=>exact ⟨_,o,_,al,aN,aj,rfl⟩
theorem aB.j1 {ρ:Ren} {n:Nat} {cs:List V} {b0:Value} (h:aB ρ (.ah n cs) b0):(n=0∧cs=[]∧∃ (a:Option Addr) (c:Nat),(a=none→c=0)∧b0=.slice a 0 c)∨∃ (b o cap:Nat) (arr:Array Value),ρ.frz b=some arr∧n≤cap∧o+cs.length≤arr.size ∧
  (∀ (k:Nat) (v:V) (v':Value),cs[k]?=some v→arr[o+k]?=some v'→aB ρ v v')∧b0=.slice (some ⟨b,o,none⟩) n cap:=by
 cases h with
 | ah o _ cap al aG aN aj=>exact .inr ⟨_,o,cap,_,al,aG,aN,aj,rfl⟩
 | gg a c aP=>exact .inl ⟨rfl,rfl,a,c,aP,rfl⟩
theorem aB.xj {ρ:Ren} {b o:Nat} {arr:Array Value} {cs:List V} (al:ρ.frz b=some arr) (aN:o+cs.length≤arr.size)
  (aj:∀ (k:Nat) (v:V) (v':Value),cs[k]?=some v→arr[o+k]?=some v'→aB ρ v v') (d:Nat) (bf:d≤cs.length):aB ρ (.at (cs.drop d)) (.pointer (some ⟨b,o+d,none⟩)) :=
 .at (o+d) al (by simp;omega) fun k v v' h1 ad=>by
  rw [avC] at h1;exact aj _ v v' h1 (by rw [←awy];exact ad)
theorem aB.zr {ρ:Ren} {b o n cap:Nat} {arr:Array Value} {cs:List V} (al:ρ.frz b=some arr) (aN:o+cs.length≤arr.size)
  (aj:∀ (k:Nat) (v:V) (v':Value),cs[k]?=some v→arr[o+k]?=some v'→aB ρ v v') (d m:Nat) (bf:d≤cs.length) (aG:n≤cap):aB ρ (.ah n ((cs.drop d).take m)) (.slice (some ⟨b,o+d,none⟩) n cap) :=
 .ah (o+d) n cap al aG (by simp;omega) fun k v v' h1 ad=>by
  rw [avg] at h1;split at h1
  ·rw [avC] at h1;exact aj _ v v' h1 (by rw [←awy];exact ad)
  ·cases h1
def Dg (P:Program) (s:TypeId) (x:V) (k:Nat):Option V :=
 match P.underlying s with
 | some (.struct eb)=>
  match eb[k]? with
  | some f=>match cC P f.type with
   | some (_+1)=>match x with
    | .ptr i o=>some (.ptr i (o+f.offset))
    | .at cs=>if f.offset≤cs.length then some (.at (cs.drop f.offset)) else none
    | _=>none
   | _=>none
  | none=>none
 | _=>none
theorem afW {P:Program} {s:TypeId} {x v:V} {b0:Value} {k:Nat} {h:I} (aa:Dg P s x k=some v) {ρ:Ren} {B:Nat} {aJ w:World} (R:aR ρ B aJ h w) (aj:aB ρ x b0) :
  bP P (Instr.fieldAt s b0 k) ρ w v:=by
 unfold Dg at aa;split at aa
 case h_2=>cases aa
 rename_i eb hu;split at aa
 case h_2=>cases aa
 rename_i f av;split at aa
 case h_2=>cases aa
 rename_i n aG;have ab:∃ cg,P.info? f.type=some cg∧cg.size≠0:=by
  cases ab:P.info? f.type with
  | none=>simp [cC,ab] at aG
  | some cg=>simp [cC,ab] at aG;exact ⟨cg,rfl,by omega⟩
 obtain ⟨cg,ab,aG⟩:=ab;have cE:∀ b o,(Instr.fieldAt s (.pointer (some ⟨b,o,none⟩)) k).run P w=.ok (.pointer (some ⟨b,o+f.offset,none⟩)) w:=fun b o=>by
  simp [Instr.fieldAt,run_underlying hu,av,Instr.sureAddr,fieldPlace,sizeOf,typeInfo,ab,aG,Addr.add_mid]
 split at aa
 ·rename_i i o;obtain rfl:_=v:=by simpa using aa
  obtain ⟨b,c,hi,rfl⟩:=aj.pP;exact bP.mk (cE b o) (.ptr hi _)
 ·split at aa
  case isFalse=>cases aa
  rename_i bf;obtain rfl:_=v:=by simpa using aa
  obtain ⟨b,o,arr,al,aN,dC,rfl⟩:=aj.um;exact bP.mk (cE b o) (.xj al aN dC _ bf)
 ·cases aa
def hG (P:Program) (t:TypeId) (x jy:V):Option V :=
 match jy with
 | .int _ n=>
  match P.underlying t,x with
  | some (.array len e),.ptr i o=>
   match cC P e with
   | some sz=>if 0≤n∧n<len then some (.ptr i (o+n.toNat * sz)) else none
   | none=>none
  | some (.array len e),.at cs=>
   match cC P e with
   | some sz=>if 0≤n∧n<len∧n.toNat * sz≤cs.length then some (.at (cs.drop (n.toNat * sz))) else none
   | none=>none
  | some (.slice e),.bj i o len _=>
   match cC P e with
   | some sz=>if 0≤n∧n<len then some (.ptr i (o+n.toNat * sz)) else none
   | none=>none
  | some (.slice e),.ah len cs=>
   match cC P e with
   | some sz=>if 0≤n∧n<len∧n.toNat * sz≤cs.length then some (.at (cs.drop (n.toNat * sz))) else none
   | none=>none
  | _,_=>none
 | _=>none
theorem afX {P:Program} {t:TypeId} {x jy v:V} {b0 Bq:Value} {h:I} (aa:hG P t x jy=some v) {ρ:Ren} {B:Nat} {aJ w:World} (R:aR ρ B aJ h w)
  (aj:aB ρ x b0) (fq:aB ρ jy Bq):bP P (Instr.indexAt t b0 Bq) ρ w v:=by
 unfold hG at aa;split at aa
 case h_2=>cases aa
 rename_i k n;cases fq with
 | int k n=>
 have qW:∀ e cg (len cap b o:Nat),P.underlying t=some (.slice e)→P.info? e=some cg→0≤n∧n<len →
   (Instr.indexAt t (.slice (some ⟨b,o,none⟩) len cap) (.int k n)).run P w=.ok (.pointer (some ⟨b,o+n.toNat * cg.size,none⟩)) w:=fun e cg len cap b o hu ab al=>by
  simp [Instr.indexAt,asIntOf,run_underlying hu,al,sizeOf,typeInfo,ab,Addr.add_mid]
 have rD:∀ e cg (len b o:Nat),P.underlying t=some (.array len e)→P.info? e=some cg→0≤n∧n<len →
   (Instr.indexAt t (.pointer (some ⟨b,o,none⟩)) (.int k n)).run P w=.ok (.pointer (some ⟨b,o+n.toNat * cg.size,none⟩)) w:=fun e cg len b o hu ab al=>by
  simp [Instr.indexAt,asIntOf,run_underlying hu,Instr.sureAddr,al,sizeOf,typeInfo,ab,Addr.add_mid]
 split at aa
 ·rename_i len e i o hu;cases aj with
  | ptr hi o=>
  split at aa
  case h_2=>cases aa
  rename_i sz bo;split at aa
  case isFalse=>cases aa
  rename_i al;obtain rfl:_=v:=by simpa using aa
  cases ab:P.info? e with
  | none=>simp [cC,ab] at bo
  | some cg=>
   simp [cC,ab] at bo;subst bo;exact bP.mk (rD e cg len _ o hu ab al) (.ptr hi _)
 ·rename_i len e cs hu;cases aj with
  | «at» o mH aN aj=>
  split at aa
  case h_2=>cases aa
  rename_i sz bo;split at aa
  case isFalse=>cases aa
  rename_i al;obtain rfl:_=v:=by simpa using aa
  cases ab:P.info? e with
  | none=>simp [cC,ab] at bo
  | some cg=>
   simp [cC,ab] at bo;subst bo;exact bP.mk (rD e cg len _ o hu ab ⟨al.1,al.2.1⟩) (.xj mH aN aj _ al.2.2)
 ·rename_i e i o len cap hu;cases aj with
  | bj hi o len cap aw=>
  split at aa
  case h_2=>cases aa
  rename_i sz bo;split at aa
  case isFalse=>cases aa
  rename_i al;obtain rfl:_=v:=by simpa using aa
  cases ab:P.info? e with
  | none=>simp [cC,ab] at bo
  | some cg=>
   simp [cC,ab] at bo;subst bo;exact bP.mk (qW e cg len _ _ o hu ab al) (.ptr hi _)
 ·rename_i e len cs hu;split at aa
  case h_2=>cases aa
  rename_i sz bo;split at aa
  case isFalse=>cases aa
  rename_i al;obtain rfl:_=v:=by simpa using aa
  cases ab:P.info? e with
  | none=>simp [cC,ab] at bo
  | some cg=>
   simp [cC,ab] at bo;subst bo;cases aj with
   | ah o _ cap mH aG aN aj=>exact bP.mk (qW e cg len cap _ o hu ab ⟨al.1,al.2.1⟩) (.xj mH aN aj _ al.2.2)
   | gg a c aP=>omega
 ·cases aa
def lw:V→Option Nat
 | .int _ n=>if 0≤n then some n.toNat else none
 | _=>none
theorem Dh {v:V} {v':Value} {n:Nat} (h:lw v=some n) {ρ:Ren} (aH:aB ρ v v'):∃ k,v'=.int k (n:Int):=by
 unfold lw at h;split at h
 ·rename_i k m;split at h
  ·cases aH;simp at h;exact ⟨k,by rw [←h];congr;omega⟩
  ·cases h
 ·cases h
def kM (lo:Option V):Option Nat:=match lo with | none=>some 0 | some v=>lw v
def eO (len:Nat) (hi:Option V):Option Nat:=match hi with | none=>some len | some v=>lw v
def yQ (i o len cap sz l U m:Nat):Option V :=
 if cap<cj then
  if l≤U∧U≤m∧m≤cap then some (.bj i (if m=l then o else o+l * sz) (U - l) (m - l)) else none
 else
  if m=cap∧l≤U∧U≤len then (if l=0∨l<len then some (.bj i (o+l * sz) (U - l) (cap+l)) else some (.ah 0 [])) else none
def Ae (n sz l U m:Nat) (mx:Bool) (cs:List V):Option V :=
 if l≤U∧U≤m∧m≤n∧l * sz≤cs.length then
  if mx=true∧m=l then some .z0 else some (.ah (U - l) ((cs.drop (l * sz)).take ((U - l) * sz)))
 else none
def nT (P:Program) (t:TypeId) (x:V) (lo hi mx:Option V):Option V :=
 match P.underlying t,x with
 | some (.slice e),.bj i o len cap=>
  match cC P e,kM lo,eO len hi,eO cap mx with
  | some sz,some l,some U,some m=>if mx.isSome=true∧cj≤cap then (if hi.isSome=true∧m≤len∧len<cj then yQ i o len len sz l U m else none)
   else if mx.isSome∧(hi.isNone∨cj≤cap) then none else yQ i o len cap sz l U m
  | _,_,_,_=>none
 | some (.slice e),.ah n cs=>
  match cC P e,kM lo,eO n hi,eO n mx with
  | some sz,some l,some U,some m=>if mx.isSome∧hi.isNone then none else Ae n sz l U m mx.isSome cs
  | _,_,_,_=>none
 | some (.slice e),.ag=>
  match cC P e,kM lo,eO 0 hi,eO 0 mx with
  | some _,some 0,some 0,some 0=>if mx.isSome∧hi.isNone then none else some .ag
  | _,_,_,_=>none
 | some (.slice e),.z0=>
  match cC P e,kM lo,eO 0 hi,eO 0 mx with
  | some _,some 0,some 0,some 0=>if mx.isSome∧hi.isNone then none else some .z0
  | _,_,_,_=>none
 | some (.array n e),.ptr i o=>
  match cC P e,kM lo,eO n hi,eO n mx with
  | some sz,some l,some U,some m=>if mx.isSome∧hi.isNone then none else if n<cj then yQ i o n n sz l U m else none
  | _,_,_,_=>none
 | some (.array n e),.at cs=>
  match cC P e,kM lo,eO n hi,eO n mx with
  | some sz,some l,some U,some m=>if mx.isSome∧hi.isNone then none else Ae n sz l U m mx.isSome cs
  | _,_,_,_=>none
 | some .string,.string s=>
  match kM lo,eO s.size hi,mx with
  | some l,some U,none=>if l≤U∧U≤s.size then some (.string (s.extract l U)) else none
  | _,_,_=>none
 | _,_=>none
theorem Af {P:Program} {w:World} {k:IntKind} {n y:Nat} {code:BoundsCode} (h:n≤y):(Instr.sliceBound (.int k (n:Int)) y code).run P w=.ok n w:=by
 simp [Instr.sliceBound,asIntOf,h]
theorem wT {P:Program} {w:World} {isSlice:Bool} {len cap l U m:Nat} {lo hi mx:Option V} {mI k0 nB:Option Value} {ρ:Ren}
  (cZ:awp (aB ρ) lo mI) (dI:awp (aB ρ) hi k0) (jB:awp (aB ρ) mx nB)
  (h1:kM lo=some l) (ad:eO len hi=some U) (aD:∃ mm,eO mm mx=some m∧(mx=none→m=cap)) (aw:l≤U) (hm:U≤m) (ay:m≤cap) (ks:¬(mx.isSome∧hi.isNone)) :
  (Instr.sliceBounds isSlice len cap mI k0 nB).run P w=.ok (l,U,m) w:=by
 obtain ⟨mm,aD,EX⟩:=aD;cases cZ with
 | none=>
  simp [kM] at h1;subst h1;cases dI with
  | none=>
   simp [eO] at ad;subst ad;cases jB with
   | none=>simp [Instr.sliceBounds,EX rfl]
   | some jB=>simp at ks
  | some dI=>
   simp only [eO] at ad;obtain ⟨ba,rfl⟩:=Dh ad dI;cases jB with
   | none=>obtain rfl:=EX rfl;simp [Instr.sliceBounds,Af hm]
   | some jB=>simp only [eO] at aD;obtain ⟨b2,rfl⟩:=Dh aD jB;simp [Instr.sliceBounds,Af hm,Af ay]
 | some cZ=>
  simp only [kM] at h1;obtain ⟨bJ,rfl⟩:=Dh h1 cZ;cases dI with
  | none=>
   simp [eO] at ad;subst ad;cases jB with
   | none=>obtain rfl:=EX rfl;simp [Instr.sliceBounds,Af aw]
   | some jB=>simp at ks
  | some dI=>
   simp only [eO] at ad;obtain ⟨ba,rfl⟩:=Dh ad dI;cases jB with
   | none=>obtain rfl:=EX rfl;simp [Instr.sliceBounds,Af hm,Af aw]
   | some jB=>simp only [eO] at aD;obtain ⟨b2,rfl⟩:=Dh aD jB;simp [Instr.sliceBounds,Af hm,Af ay,Af aw]
theorem Ra {ρ:Ren} {i b bA o len cap sz l U m:Nat} (hi:ρ.ren i=some (b,bA)) (aw:len≤fz bA cap) {v:V} (h:yQ i o len cap sz l U m=some v) :
  ∃ fp,(m<cj∧cap<cj→fp=m)∧(cj≤cap→m=cap∧fp=fz bA cap)∧l≤U∧U≤fp∧fp≤fz bA cap ∧
   aB ρ v (.slice (if fp=l then some ⟨b,o,none⟩ else some (Addr.add ⟨b,o,none⟩ (l * sz))) (U - l) (fp - l)):=by
 unfold yQ at h;split at h
 ·rename_i ay;split at h
  ·rename_i al;obtain rfl:_=v:=by simpa using h
   refine ⟨m,fun _=>rfl,fun h=>by omega,al.1,al.2.1,by simp [fz,ay,al.2.2],?_⟩
   have key:aB ρ (.bj i (if m=l then o else o+l * sz) (U - l) (m - l)) (.slice (some ⟨b,if m=l then o else o+l * sz,none⟩) (U - l) (fz bA (m - l))) :=
    .bj hi _ _ _ (by simp [fz,show m - l<cj by omega];omega)
   simp only [fz,show m - l<cj by omega,if_true] at key
   by_cases hP:m=l
   ·simpa [hP] using key
   ·simpa [hP,Addr.add_mid] using key
  ·cases h
 ·rename_i ay;split at h
  ·rename_i al;refine ⟨fz bA cap,fun h=>by omega,fun _=>⟨al.1,rfl⟩,al.2.1,by omega,BY _,?_⟩
   split at h
   case isFalse hll=>
    obtain rfl:_=v:=by simpa using h
    rw [show U - l=0 by omega]
    refine .gg _ _ fun aG=>?_;split at aG<;>cases aG
   rename_i hll;obtain rfl:_=v:=by simpa using h
   have aC:fz bA (cap+l)=fz bA cap - l:=by simp [fz,ay,show ¬cap+l<cj by omega];omega
   have key:aB ρ (.bj i (o+l * sz) (U - l) (cap+l)) (.slice (some ⟨b,o+l * sz,none⟩) (U - l) (fz bA (cap+l))) :=
    .bj hi _ _ _ (by rw [aC];omega)
   rw [aC] at key;by_cases hP:fz bA cap=l
   ·have:l=0:=by omega
    subst this;simpa [hP] using key
   ·simpa [hP,Addr.add_mid] using key
  ·cases h
theorem V4 {ρ:Ren} {b o n sz l U m fp:Nat} {arr:Array Value} {cs:List V} {mx:Bool} {v:V} (al:ρ.frz b=some arr) (aN:o+cs.length≤arr.size)
  (aj:∀ (k:Nat) (v:V) (v':Value),cs[k]?=some v→arr[o+k]?=some v'→aB ρ v v') (h:Ae n sz l U m mx cs=some v) (hm:mx=true→fp=m) (nC:U≤fp) :
  aB ρ v (.slice (if fp=l then some ⟨b,o,none⟩ else some (Addr.add ⟨b,o,none⟩ (l * sz))) (U - l) (fp - l)):=by
 unfold Ae at h;split at h
 case isFalse=>cases h
 rename_i ay;split at h
 ·rename_i bR;obtain rfl:_=v:=by simpa using h
  have:=hm bR.1;have aC:fp - l=0:=by omega
  have bd:U - l=0:=by omega
  rw [aC,bd];exact .z0 _ trivial
 ·obtain rfl:_=v:=by simpa using h
  by_cases hP:fp=l
  ·have bd:U - l=0:=by omega
   rw [if_pos hP,bd];have:=aB.zr al aN aj 0 0 (by omega) (Dc (fp - l))
   simpa using this
  ·rw [if_neg hP,Addr.add_mid];exact .zr al aN aj (l * sz) _ (by omega) (by omega)
theorem V5 {n sz l U m:Nat} {mx:Bool} {cs:List V} {v:V} (h:Ae n sz l U m mx cs=some v):l≤U∧U≤m∧m≤n:=by
 unfold Ae at h;split at h
 ·rename_i ay;exact ⟨ay.1,ay.2.1,ay.2.2.1⟩
 ·cases h
theorem afY {P:Program} {t:TypeId} {x v:V} {b0:Value} {lo hi mx:Option V} {mI k0 nB:Option Value} {h:I} (aa:nT P t x lo hi mx=some v) {ρ:Ren} {B:Nat} {aJ w:World} (R:aR ρ B aJ h w)
  (aj:aB ρ x b0) (cZ:awp (aB ρ) lo mI) (dI:awp (aB ρ) hi k0) (jB:awp (aB ρ) mx nB):bP P (Instr.sliceAt t b0 mI k0 nB) ρ w v:=by
 have po:∀ e cg (b o len cap l U m:Nat),P.underlying t=some (.slice e)→P.info? e=some cg→(Instr.sliceBounds true len cap mI k0 nB).run P w=.ok (l,U,m) w →
   (Instr.sliceAt t (.slice (some ⟨b,o,none⟩) len cap) mI k0 nB).run P w=.ok (.slice (if m=l then some ⟨b,o,none⟩ else some (Addr.add ⟨b,o,none⟩ (l * cg.size))) (U - l) (m - l)) w:=fun e cg b o len cap l U m hu ab al=>by
  simp only [Instr.sliceAt,Sem.run_bind,run_underlying hu,Result.andThen_ok,Instr.slice,al];by_cases hP:m=l
  ·simp [hP,sizeOf,typeInfo,ab]
  ·simp [hP,sizeOf,typeInfo,ab]
 have Hz:∀ e cg (b o n l U m:Nat),P.underlying t=some (.array n e)→P.info? e=some cg→(Instr.sliceBounds false n n mI k0 nB).run P w=.ok (l,U,m) w →
   (Instr.sliceAt t (.pointer (some ⟨b,o,none⟩)) mI k0 nB).run P w=.ok (.slice (if m=l then some ⟨b,o,none⟩ else some (Addr.add ⟨b,o,none⟩ (l * cg.size))) (U - l) (m - l)) w:=fun e cg b o n l U m hu ab al=>by
  by_cases hP:m=l
  ·simp [Instr.sliceAt,run_underlying hu,Instr.sureAddr,al,hP,sizeOf,typeInfo,ab]
  ·simp [Instr.sliceAt,run_underlying hu,Instr.sureAddr,al,hP,sizeOf,typeInfo,ab]
 unfold nT at aa;split at aa
 ·rename_i e i o len cap hu;cases aj with
  | bj aL o len cap aw=>
  rename_i b bA;split at aa
  case h_2=>cases aa
  rename_i sz l U m bo h1 ad aD;cases ab:P.info? e with
  | none=>simp [cC,ab] at bo
  | some cg=>
  simp [cC,ab] at bo;subst bo;split at aa
  ·rename_i zt;split at aa
   case isFalse=>cases aa
   rename_i hP;have cI:fz bA len=len:=by simp [fz,hP.2.2]
   obtain ⟨fp,wm,nC,cb,a2,a3,eK⟩:=Ra aL (by rw [cI];exact BY _) aa
   obtain rfl:=wm ⟨by omega,hP.2.2⟩
   refine bP.mk (po e cg b o len _ l U fp hu ab ?_) eK;obtain ⟨auH,rfl⟩:=Option.isSome_iff_exists.1 zt.1;refine wT cZ dI jB h1 ad ⟨cap,aD,by simp⟩ cb a2 (by omega) (fun U=>?_)
   have:=U.2;cases hi
   ·simp at hP
   ·simp at this
  rename_i zt;split at aa
  case isTrue=>cases aa
  rename_i ks;obtain ⟨fp,wm,nC,cb,a2,a3,eK⟩:=Ra aL aw aa;refine bP.mk (po e cg b o len _ l U fp hu ab ?_) eK;by_cases ay:cap<cj
  ·have dp:fz bA cap=cap:=by simp [fz,ay]
   have zt:m<cj:=by
    have:=aa;unfold yQ at this;simp only [ay,if_true] at this;split at this
    ·omega
    ·cases this
   obtain rfl:=wm ⟨zt,ay⟩;refine wT cZ dI jB h1 ad ⟨cap,aD,fun aG=>?_⟩ cb a2 a3 (fun U=>ks ⟨U.1,.inl U.2⟩);subst aG;simp [eO] at aD;omega
  ·obtain ⟨rfl,rfl⟩:=nC (by omega)
   have Rb:mx=none:=by
    cases mx with
    | none=>rfl
    | some _=>exact absurd ⟨rfl,.inr (by omega)⟩ ks
   subst Rb;exact wT cZ dI jB h1 ad ⟨fz bA m,rfl,fun _=>rfl⟩ cb a2 a3 (by simp)
 ·rename_i e n cs hu;split at aa
  case h_2=>cases aa
  rename_i sz l U m bo h1 ad aD;split at aa
  case isTrue=>cases aa
  rename_i ks;cases ab:P.info? e with
  | none=>simp [cC,ab] at bo
  | some cg=>
  simp [cC,ab] at bo;subst bo;have hle:=V5 aa;cases aj with
  | ah o _ cap mH aG aN aj=>
   rename_i b arr;have:∃ fp,(mx.isSome=true→fp=m)∧U≤fp∧(Instr.sliceBounds true n cap mI k0 nB).run P w=.ok (l,U,fp) w:=by
    cases mx with
    | none=>exact ⟨cap,by simp,by omega,wT cZ dI jB h1 ad ⟨cap,rfl,fun _=>rfl⟩ hle.1 (by omega) (BY _) (by simp)⟩
    | some _=>exact ⟨m,fun _=>rfl,hle.2.1,wT cZ dI jB h1 ad ⟨n,aD,by simp⟩ hle.1 hle.2.1 (by omega) ks⟩
   obtain ⟨fp,aC,bd,ev⟩:=this;exact bP.mk (po e cg b o n cap l U fp hu ab ev) (V4 mH aN aj aa aC bd)
  | gg a c aP=>
   have aC:l=0:=by omega
   have bd:U=0:=by omega
   have ev:m=0:=by omega
   subst aC;subst bd;subst ev;cases Ag:mx.isSome with
   | true=>
    have al:(Instr.sliceBounds true 0 c mI k0 nB).run P w=.ok (0,0,0) w :=
     wT cZ dI jB h1 ad ⟨0,aD,fun aG=>by rw [aG] at Ag;cases Ag⟩ (BY _) (BY _) (Dc _) ks
    have cE:(Instr.sliceAt t (.slice a 0 c) mI k0 nB).run P w=.ok (.slice a 0 0) w:=by
     cases a with
     | none=>
      obtain rfl:=aP rfl;simp [Instr.sliceAt,run_underlying hu,Instr.slice,al,sizeOf,typeInfo,ab]
     | some a=>simp [Instr.sliceAt,run_underlying hu,Instr.slice,al,sizeOf,typeInfo,ab]
    refine bP.mk cE ?_;unfold Ae at aa;simp [Ag] at aa;obtain rfl:_=v:=by simpa using aa
    exact .z0 a trivial
   | false=>
    have Pd:mx=none:=by cases mx<;>simp at Ag⊢
    subst Pd;have al:(Instr.sliceBounds true 0 c mI k0 nB).run P w=.ok (0,0,c) w :=
     wT cZ dI jB h1 ad ⟨c,rfl,fun _=>rfl⟩ (BY _) (Dc _) (BY _) ks
    have cE:(Instr.sliceAt t (.slice a 0 c) mI k0 nB).run P w=.ok (.slice a 0 c) w:=by
     cases a with
     | none=>
      obtain rfl:=aP rfl;simp [Instr.sliceAt,run_underlying hu,Instr.slice,al,sizeOf,typeInfo,ab]
     | some a=>
      by_cases s8:c=0
      ·subst s8;simp [Instr.sliceAt,run_underlying hu,Instr.slice,al,sizeOf,typeInfo,ab]
      ·simp [Instr.sliceAt,run_underlying hu,Instr.slice,al,sizeOf,typeInfo,ab,Addr.add,Ne.symm s8]
    refine bP.mk cE ?_;unfold Ae at aa;simp at aa;obtain rfl:_=v:=by simpa using aa
    exact .gg a c aP
 ·rename_i e hu;cases aj;split at aa
  case h_2=>cases aa
  rename_i sz bo h1 ad aD;split at aa
  case isTrue=>cases aa
  rename_i ks;obtain rfl:_=v:=by simpa using aa
  refine bP.mk ?_ .ag;have al:(Instr.sliceBounds true 0 0 mI k0 nB).run P w=.ok (0,0,0) w :=
   wT cZ dI jB h1 ad ⟨0,aD,fun _=>rfl⟩ (BY _) (BY _) (BY _) ks
  cases ab:P.info? e with
  | none=>simp [cC,ab] at bo
  | some cg=>simp [Instr.sliceAt,run_underlying hu,Instr.slice,al,sizeOf,typeInfo,ab]
 ·rename_i e hu;cases aj with
  | z0 a aP=>
  split at aa
  case h_2=>cases aa
  rename_i sz bo h1 ad aD;split at aa
  case isTrue=>cases aa
  rename_i ks;obtain rfl:_=v:=by simpa using aa
  refine bP.mk ?_ (.z0 a trivial);have al:(Instr.sliceBounds true 0 0 mI k0 nB).run P w=.ok (0,0,0) w :=
   wT cZ dI jB h1 ad ⟨0,aD,fun _=>rfl⟩ (BY _) (BY _) (BY _) ks
  cases ab:P.info? e with
  | none=>simp [cC,ab] at bo
  | some cg=>cases a<;>simp [Instr.sliceAt,run_underlying hu,Instr.slice,al,sizeOf,typeInfo,ab]
 ·rename_i n e i o hu;cases aj with
  | ptr aL o=>
  rename_i b bA;split at aa
  case h_2=>cases aa
  rename_i sz l U m bo h1 ad aD;split at aa
  case isTrue=>cases aa
  rename_i ks;split at aa
  case isFalse=>cases aa
  rename_i HA;cases ab:P.info? e with
  | none=>simp [cC,ab] at bo
  | some cg=>
  simp [cC,ab] at bo;subst bo;have dp:fz bA n=n:=by simp [fz,HA]
  obtain ⟨fp,wm,nC,cb,a2,a3,eK⟩:=Ra aL (by rw [dp];exact BY _) aa
  rw [dp] at a3;have zt:m<cj:=by
   have:=aa;unfold yQ at this;simp only [HA,if_true] at this;split at this
   ·omega
   ·cases this
  obtain rfl:=wm ⟨zt,HA⟩;exact bP.mk (Hz e cg b o n l U fp hu ab (wT cZ dI jB h1 ad ⟨n,aD,fun aG=>by subst aG;simp [eO] at aD;omega⟩ cb a2 a3 ks)) eK
 ·rename_i n e cs hu;cases aj with
  | «at» o mH aN aj=>
  rename_i b arr;split at aa
  case h_2=>cases aa
  rename_i sz l U m bo h1 ad aD;split at aa
  case isTrue=>cases aa
  rename_i ks;cases ab:P.info? e with
  | none=>simp [cC,ab] at bo
  | some cg=>
  simp [cC,ab] at bo;subst bo;have hle:=V5 aa;refine bP.mk (Hz e cg b o n l U m hu ab (wT cZ dI jB h1 ad ⟨n,aD,fun aG=>by subst aG;simp [eO] at aD;omega⟩ hle.1 hle.2.1 hle.2.2 ks)) (V4 mH aN aj aa (fun _=>rfl) hle.2.1)
 ·rename_i s hu;cases aj;split at aa
  case h_2=>cases aa
  rename_i l U h1 ad;split at aa
  case isFalse=>cases aa
  rename_i al;obtain rfl:_=v:=by simpa using aa
  refine bP.mk ?_ (.string _);cases jB;have al:(Instr.sliceBounds false s.size s.size mI k0 none).run P w=.ok (l,U,s.size) w :=
   wT cZ dI .none h1 ad ⟨s.size,rfl,fun _=>rfl⟩ al.1 al.2 (BY _) (by simp)
  simp [Instr.sliceAt,run_underlying hu,Instr.slice,al]
 ·cases aa
def made {α:Type} (z:List α) (n:Nat):List α:=(avr n z).flatten
theorem F8 {α:Type} (z:List α) (n:Nat):made z (n+1)=made z n++z:=by simp [made,ayf]
theorem MH {α:Type} (z:List α) (n:Nat):(made z n).length=n * z.length:=by
 induction n with
 | zero=>simp [made]
 | succ n ih=>rw [F8,IS,ih,ayg]
theorem afZ {α:Type} (z:α) (n:Nat):made [z] n=avr n z:=by
 induction n with
 | zero=>rfl
 | succ n ih=>rw [F8,ih];simp [ayf]
theorem MI (z:Array Value) (n:Nat):(madeCells z (n * z.size)).toList=made z.toList n:=by
 have e:∀ k,(madeCells z k).toList=(List.range k).map (fun i=>z[i % z.size]!):=fun k=>by simp [madeCells]
 rw [e]
 induction n with
 | zero=>simp [made]
 | succ n ih=>
  rw [ayg,List.range_add,List.map_append,ih,F8]
  congr 1
  apply List.ext_getElem
  ·simp
  ·intro k h1 ad;have hk:k<z.size:=by simpa using ad
   simp [Nat.mod_eq_of_lt hk,hk]
theorem aX.made {ρ:Ren} {z:List V} {F9:List Value} (h:aX ρ z F9) (n:Nat):aX ρ (made z n) (made F9 n):=by
 induction n with
 | zero=>simp [Ab.made,aX.nil]
 | succ n ih=>rw [F8,F8];exact ih.append h
def yR (P:Program) (t:TypeId) (l c:V) (h:I):Option (V×I) :=
 match jp P t,lw l,lw c with
 | some e,some l,some c=>
  match gR P e,F3 P e with
  | some zs,some ao=>if some zs.length=cC P e∧l≤c∧ao * c≤140737488355328∧c≤140737488355328 then
    some (.bj h.n 0 l c,h.push (.cells (made zs c) e none)) else none
  | _,_=>none
 | _,_,_=>none
theorem af0 {P:Program} {t:TypeId} {l c v:V} {bU uj:Value} {h h':I} (aa:yR P t l c h=some (v,h')) {ρ:Ren} {B:Nat} {aJ w:World} (R:aR ρ B aJ h w)
  (aw:aB ρ l bU) (ay:aB ρ c uj):Yields P (Instr.makeSlice t bU uj) ρ B aJ w v h':=by
 unfold yR at aa;split at aa
 case h_2=>cases aa
 rename_i e Ga lU he h1 ad;split at aa
 case h_2=>cases aa
 rename_i zs ao fb jC;split at aa
 case isFalse=>cases aa
 rename_i lk;obtain ⟨bb,c3,eP,c5⟩:=lk;simp at aa;obtain ⟨rfl,rfl⟩:=aa;obtain ⟨z,bR,eK⟩:=F6 fb;obtain ⟨bJ,rfl⟩:=Dh h1 aw;obtain ⟨ba,rfl⟩:=Dh ad ay;have hu:P.underlying t=some (.slice e):=by
  unfold jp at he;split at he
  ·rename_i hu;rw [hu];simpa using he
  ·cases he
 cases ab:P.info? e with
 | none=>simp [la,ab] at bR
 | some cg=>
  simp [la,ab] at bR;simp [F3,ab] at jC;simp [cC,ab] at bb;have wo:=(eK ρ).1;simp at wo;have aL:=run_make (P:=P) w t e cg z hu ab bR bJ ba (Ga:Int) (lU:Int) (by omega) (by omega) (by rw [jC];omega) (by omega)
  have MJ:(madeCells z.cells (lU * cg.size)).toList=made z.cells.toList lU:=by rw [←bb,wo];exact MI _ _
  have s9:madeCells z.cells (lU * cg.size)=(made z.cells.toList lU).toArray:=by rw [←MJ]
  simp only [Int.toNat_natCast,s9] at aL;obtain ⟨ρ',hle,aG,eu⟩:=Q9 R e ((eK ρ).made lU) lU;refine ⟨ρ',_,_,aL,?_,eu,hle⟩;have l3:lU<cj:=by unfold cj;omega
  have:=aB.bj aG 0 Ga lU (by simp [fz,l3,c3])
  simpa [fz,l3] using this
def fI (P:Program) (sz:Nat) (tx:TypeId) (x:V) (h:I):Option (Nat×List V) :=
 match P.underlying tx,x with
 | some (.slice _),.ag=>some (0,[])
 | some (.slice _),.z0=>some (0,[])
 | some (.slice _),.e6=>some (0,[])
 | some (.slice _),.ah n cs=>if cs.length=n * sz∧cs.all (·.one)=true then some (n,cs) else none
 | some (.slice _),.bj i o n _=>
  match h.get i with
  | .cells c _ _=>if o+n * sz≤c.length∧((c.drop o).take (n * sz)).all (·.one)=true then some (n,(c.drop o).take (n * sz)) else none
  | _=>none
 | some .string,.string s=>if sz=1 then some (s.size,(byteCells s).map gv) else none
 | _,_=>none
theorem af1 (s:ByteArray):(byteCells s).map gv=s.data.toList.map fun b=>V.int .u8 b.toNat:=by simp [byteCells,gv]
theorem Rc (ρ:Ren) (s:ByteArray):aX ρ ((byteCells s).map gv) (byteCells s):=aX.of_map (Bo ρ) _
theorem af2 {P:Program} {sz:Nat} {tx:TypeId} {x:V} {b0:Value} {h:I} {n:Nat} {news:List V} (aa:fI P sz tx x h=some (n,news)) {ρ:Ren} {B:Nat} {aJ w:World} (R:aR ρ B aJ h w)
  (aj:aB ρ x b0):∃ dY,Src P sz tx b0 n dY w∧aX ρ news dY∧news.length=n * sz∧news.all (·.one)=true:=by
 unfold fI at aa;split at aa
 ·rename_i e hu;cases aj;simp at aa;obtain ⟨rfl,rfl⟩:=aa;exact ⟨[],Src.ofNil w hu 0,.nil ρ,by simp,rfl⟩
 ·rename_i e hu;simp at aa;obtain ⟨rfl,rfl⟩:=aa;cases aj with
  | z0 a aP=>
   cases a with
   | none=>exact ⟨[],Src.ofNil w hu 0,.nil ρ,by simp,rfl⟩
   | some a=>exact ⟨[],Src.ofSlice w hu a 0 0 [] (by simp) (by simp) (by simp),.nil ρ,by simp,rfl⟩
 ·rename_i e hu;simp at aa;obtain ⟨rfl,rfl⟩:=aa;cases aj with
  | e6 a c=>exact ⟨[],Src.ofSlice w hu a 0 c [] (by simp) (by simp) (by simp),.nil ρ,by simp,rfl⟩
 ·rename_i e m cs hu;split at aa
  case isFalse=>cases aa
  rename_i ay;simp at aa;obtain ⟨rfl,rfl⟩:=aa;rcases aj.j1 with ⟨rfl,rfl,a,kN,aP,rfl⟩ | ⟨b,o,cap,arr,al,aG,aN,dC,rfl⟩
  ·cases a with
   | none=>
    obtain rfl:=aP rfl;exact ⟨[],Src.ofNil w hu 0,.nil ρ,by simp,rfl⟩
   | some a=>exact ⟨[],Src.ofSlice w hu a 0 kN [] (by simp) (by simp) (by simp),.nil ρ,by simp,rfl⟩
  ·have jD:aB ρ (.at cs) (.pointer (some ⟨b,o,none⟩)):=.at o al aN dC;obtain ⟨b7,dZ,he,dX⟩:=Ac R.heap jD (cs:=cs) rfl;simp at he;obtain ⟨rfl,rfl⟩:=he;obtain ⟨vs,h1,ad,aD⟩:=dX cs.length (BY _);rw [avT] at ad;exact ⟨vs,Src.ofSlice w hu ⟨b,o,none⟩ m cap vs (by rw [aD,ay.1]) (fun j u hu=>by rw [Addr.add_mid];exact h1 j u hu) (ad.one ay.2),ad,ay.1,ay.2⟩
 ·rename_i e i o dy cap hu;obtain ⟨b,bA,hi,aw,rfl⟩:=aj.gm;split at aa
  case h_2=>cases aa
  rename_i c bd ex az;split at aa
  case isFalse=>cases aa
  rename_i ay;simp at aa;obtain ⟨rfl,rfl⟩:=aa;have lV:aB ρ (.ptr i o) (.pointer (some ⟨b,o,none⟩)):=.ptr hi o;obtain ⟨b7,dZ,he,dX⟩:=Ac R.heap lV (cs:=c.drop o) (by simp [rb,az];omega)
  simp at he;obtain ⟨rfl,rfl⟩:=he;obtain ⟨vs,h1,ad,aD⟩:=dX (dy * sz) (by simp;omega)
  exact ⟨vs,Src.ofSlice w hu ⟨b,o,none⟩ dy (fz bA cap) vs aD (fun j u hu=>by rw [Addr.add_mid];exact h1 j u hu) (ad.one ay.2),ad,by simp;omega,ay.2⟩
 ·rename_i s hu;cases aj;split at aa
  case isFalse=>cases aa
  rename_i h1;subst h1;simp at aa;obtain ⟨rfl,rfl⟩:=aa;have gI:=Src.ofString w hu s;refine ⟨byteCells s,gI,Rc ρ s,by simp [gI.newsLen],?_⟩
  rw [af1,avh];intro v aH;obtain ⟨b,_,rfl⟩:=MF.1 aH;rfl
 ·cases aa
theorem aR.move {ρ:Ren} {B:Nat} {aJ:World} {h:I} {w w':World} (R:aR ρ B aJ h w) {i b bA:Nat} (hi:ρ.ren i=some (b,bA)) (EY:h.get i≠.dead)
  {c:List V} {arr:Array Value} {e:TypeId} {ex:Option Nat}
  (hold:∀ k,k≠b→w'.heap[k]?=w.heap[k]?) (kL:w'.heap[b]?=some (.cells arr e (0,0))) (bo:w.heap.size≤w'.heap.size)
  (al:hn B w w') (ay:c.length≤arr.size) (aw:aX ρ c (arr.toList.take c.length)) (aj:Df ex bA arr.size c.length) :
  ∃ ρ':Ren,ρ.le ρ'∧ρ'.ren h.n=some (b,bA)∧aR ρ' B aJ ((h.set i .dead).push (.cells c e ex)) w':=by
 have hle:=Ren.rA (R.heap.lh _ (BY _)) b bA;have cU:i<h.n:=R.heap.lt hi;obtain ⟨mJ,EZ,zu,jC,_,mH,V6⟩:=R.heap.live EY;rw [zu] at hi;simp at hi;obtain ⟨rfl,rfl⟩:=hi;refine ⟨_,hle,Ren.ml,⟨⟨fun j aV=>?_,fun j k cN bb bt aV hk h1 ad=>?_,fun j=>?_,fun k a hk=>?_,fun g cs az=>?_,OF R.heap.base bo⟩,R.below.trans al⟩⟩
 ·simp only [I.push,I.set] at aV;simp [Ren.add,show j≠h.n by omega,R.heap.lh j (by omega)]
 ·simp only [I.push,I.set] at aV hk;simp only [Ren.add] at h1 ad;by_cases kZ:j=h.n<;>by_cases uo:k=h.n
  ·omega
  ·simp [kZ] at h1;simp [uo] at ad hk;obtain ⟨rfl,rfl⟩:=h1;have:=R.heap.inj i k mJ EZ bt EY hk.2 zu ad;exact absurd this.symm hk.1
  ·simp [uo] at ad;simp only [kZ,if_false] at h1 aV;obtain ⟨rfl,rfl⟩:=ad;by_cases cL:j=i
   ·simp [cL] at aV
   ·simp only [cL,if_false] at aV;have:=R.heap.inj j i mJ bb EZ aV EY h1 zu;exact absurd this cL
  ·simp only [kZ,if_false] at h1 aV;simp [uo] at ad hk;by_cases cL:j=i
   ·simp [cL] at aV
   ·simp only [cL,if_false] at aV;exact R.heap.inj j k cN bb bt aV hk.2 h1 ad
 ·by_cases kZ:j=h.n
  ·subst kZ;simp only [I.push,I.set,if_true];exact ⟨mJ,EZ,arr,Ren.ml,mH,V6,kL,ay,aw.mono hle,aj⟩
  ·simp only [I.push,I.set,kZ,if_false];by_cases cL:j=i
   ·subst cL;simp only [if_true];trivial
   ·simp only [cL,if_false];by_cases bf:h.get j=.dead
    ·rw [bf];trivial
    ·refine (R.heap.obj j).ai hle fun b7 bb aL=>⟨hold b7 ?_,fun h=>h⟩;intro wk;subst wk;exact cL (R.heap.inj i j b7 EZ bb EY bf zu aL).symm
 ·obtain ⟨ed,ho,hw⟩:=R.heap.frz k a hk;have:k≠mJ:=by intro U;subst U;simp only [Ren.add] at hk;rw [mH] at hk;cases hk
  exact ⟨ed,ho,(hold k this).trans hw⟩
 ·obtain ⟨jz,b8,gJ⟩:=R.heap.glob g cs az;exact ⟨jz,b8,gJ.mono hle⟩
def lim:Nat:=140737488355328
def Re (P:Program) (tx e:TypeId) (zs:List V) (sz ao:Nat) (s x:V) (h:I):Option (V×I) :=
 match P.underlying tx,x,s with
 | some (.int _),.int _ n,.bj i o len cap=>
  match h.get i with
  | .cells c _ _=>
   if 0<n∧cap<cj∧cap<len+n.toNat∧(len+n.toNat) * ao≤lim∧len+n.toNat≤lim∧o+len * sz≤c.length∧0<sz then
    some (.bj h.n 0 (len+n.toNat) cj,h.push (.cells ((c.drop o).take (len * sz)++made zs n.toNat) e (some sz)))
   else none
  | _=>none
 | _,_,_=>none
def kO (P:Program) (t tx:TypeId) (s x:V) (h:I):Option (V×I) :=
 match jp P t with
 | none=>none
 | some e=>
 match gR P e,cC P e,F3 P e with
 | some zs,some sz,some ao=>
  if zs.length=sz then
   match fI P sz tx x h with
   | none=>Re P tx e zs sz ao s x h
   | some (n,news)=>
    match s with
    | .ag=>
     if n=0 then some (.ag,h)
     else if n * ao≤lim∧n≤lim then some (.bj h.n 0 n cj,h.push (.cells news e (some sz))) else none
    | .z0=>
     if n=0 then some (.z0,h)
     else if n * ao≤lim∧n≤lim then some (.bj h.n 0 n cj,h.push (.cells news e (some sz))) else none
    | .bj i o len cap=>
     if n=0 then some (.bj i o len cap,h)
     else if (len+n) * ao≤lim∧len+n≤lim then
      match h.get i with
      | .cells c bd ex=>
       if cap<cj then
        if len+n≤cap then
         if o+(len+n) * sz≤c.length then some (.bj i o (len+n) cap,h.set i (.cells (lay c (o+len * sz) news) bd ex)) else none
        else if o+len * sz≤c.length then some (.bj h.n 0 (len+n) cj,h.push (.cells ((c.drop o).take (len * sz)++news) e (some sz))) else none
       else if o=0∧cap=cj∧ex=some sz∧len * sz≤c.length∧bd=e then
         some (.bj h.n 0 (len+n) cj,(h.set i .dead).push (.cells (c.take (len * sz)++news) e (some sz)))
        else none
      | _=>none
     else none
    | _=>none
  else none
 | _,_,_=>none
theorem Rf {P:Program} (w w':World) (t tx ty e:TypeId) (i:TypeInfo) (bE:P.underlying t=some (.slice e)) (hi:P.info? e=some i) (b off sLen sCap:Nat) (x:Value) (n:Nat) (news:List Value)
  (aa:Src P i.size tx x n news w) (fW:sLen+n≤sCap) (c2:(storeCells ⟨b,off+sLen * i.size,none⟩ news).run P w=.ok () w') :
  (Builtin.append_ #[t,tx] ty #[.slice (some ⟨b,off,none⟩) sLen sCap,x]).run P w=.ok (.slice (some ⟨b,off,none⟩) (sLen+n) sCap) w':=by
 rcases aa.kind with ⟨ed,hk⟩ | hk<;>simp [Builtin.append_,run_underlying bE,run_underlying hk,sizeOf,typeInfo,hi,aa.len,fW,aa.cells,Addr.add_lit,c2]
theorem V7 {P:Program} (w:World) (t tx ty e:TypeId) (i:TypeInfo) (bE:P.underlying t=some (.slice e)) (hi:P.info? e=some i) (x:Value) (news:List Value)
  (aa:Src P i.size tx x 0 news w) :
  (Builtin.append_ #[t,tx] ty #[.slice none 0 0,x]).run P w=.ok (.slice none 0 0) w:=by
 have aw:=aa.newsLen;simp at aw;subst aw;rcases aa.kind with ⟨ed,hk⟩ | hk<;>simp [Builtin.append_,run_underlying bE,run_underlying hk,sizeOf,typeInfo,hi,aa.len,aa.cells]
theorem MK {P:Program} {t tx ty e:TypeId} {cg:TypeInfo} {z:Value} (hu:P.underlying t=some (.slice e)) (ab:P.info? e=some cg) (bR:cg.zero=some z) (fb:z.cells.size=cg.size)
  {h:I} {ρ:Ren} {B:Nat} {aJ w:World} (R:aR ρ B aJ h w) {base:Option Addr} {sLen sCap n:Nat} {olds news:List V} {olds' dY:List Value} {b0:Value}
  (hold:(Builtin.firstCells cg.size sLen (.slice base sLen sCap)).run P w.drew=.ok olds'.toArray w.drew) (xk:aX ρ olds olds') (zv:olds.length=sLen * cg.size)
  (gI:Src P cg.size tx b0 n dY w) (mK:aX ρ news dY) (az:sCap<sLen+n) (h1:(sLen+n) * cg.bytes≤lim) (ad:sLen+n≤lim) :
  Yields P (Builtin.append_ #[t,tx] ty #[.slice base sLen sCap,b0]) ρ B aJ w (.bj h.n 0 (sLen+n) cj) (h.push (.cells (olds++news) e (some cg.size))):=by
 unfold lim at h1 ad;have eW:Builtin.nextslicecap (sLen+n) sCap * cg.bytes≤281474976710656:=by
  have:=nextslicecap_le az
  calc _≤(2 * (sLen+n)) * cg.bytes:=avo _ this
   _=2 * ((sLen+n) * cg.bytes):=by rw [aw3]
   _≤_:=by omega
 have cE:=run_append_grow_src w t tx ty e cg z hu ab bR base sLen sCap olds' hold b0 n dY gI az (by omega) eW
 have pQ:=grownCap_ge w (sLen+n) sCap e;have hlen:(olds'++dY).length=(sLen+n) * cg.size:=by
  rw [IS,←xk.1,zv,gI.newsLen,atY]
 obtain ⟨ρ',hle,aG,eu⟩:=R.drew.push (c:=olds++news) (arr:=(olds'++dY).toArray++Builtin.zeroCells z.cells (grownCap w (sLen+n) sCap e - (sLen+n))) (e:=e) (ex:=some cg.size)
  (w':=w.drew.alloc (.cells ((olds'++dY).toArray++Builtin.zeroCells z.cells (grownCap w (sLen+n) sCap e - (sLen+n))) e)) (grownCap w (sLen+n) sCap e)
  (by simp) (fun k hk=>Below.heap_alloc w.drew _ k hk) (heap_alloc_new w.drew _) ((hn.refl _ _).alloc R.drew.heap.base _)
  (by rw [(xk.append mK).1];simp)
  (by
   rw [(xk.append mK).1];have aC:((olds'++dY).toArray++Builtin.zeroCells z.cells (grownCap w (sLen+n) sCap e - (sLen+n))).toList.take (olds'++dY).length=olds'++dY:=by
    simp only [aAe];exact awa
   rw [aC];exact xk.append mK)
  (by
   refine ⟨?_,?_⟩
   ·rw [aw4,size_zeroCells,fb,List.size_toArray,hlen,←atY]
    congr 1
    omega
   ·have:=grownCap_le_maxLen w (sLen+n) sCap e (by simp only [maxLen];omega)
    simp only [maxLen] at this;omega)
 refine ⟨ρ',_,_,cE,?_,eu,hle⟩;have:=aB.bj (ρ:=ρ') aG 0 (sLen+n) cj (by simp [fz,pQ])
 simpa [fz] using this
theorem af3 {P:Program} {t tn ty e:TypeId} {cg:TypeInfo} {z:Value} {kq kn:IntKind} (hu:P.underlying t=some (.slice e)) (aG:P.underlying tn=some (.int kn)) (ab:P.info? e=some cg) (bR:cg.zero=some z) (fb:z.cells.size=cg.size)
  {h:I} {ρ:Ren} {B:Nat} {aJ w:World} (R:aR ρ B aJ h w) {base:Option Addr} {sLen sCap n:Nat} {olds zs:List V} {olds':List Value}
  (hold:(Builtin.firstCells cg.size sLen (.slice base sLen sCap)).run P w.drew=.ok olds'.toArray w.drew) (xk:aX ρ olds olds') (zv:olds.length=sLen * cg.size)
  (V8:aX ρ zs z.cells.toList) (aK:0<n) (aa:0<cg.size) (az:sCap<sLen+n) (h1:(sLen+n) * cg.bytes≤lim) (ad:sLen+n≤lim) :
  Yields P (Builtin.append_ #[t,tn] ty #[.slice base sLen sCap,.int kq n]) ρ B aJ w (.bj h.n 0 (sLen+n) cj) (h.push (.cells (olds++made zs n) e (some cg.size))):=by
 unfold lim at h1 ad;have eW:Builtin.nextslicecap (sLen+n) sCap * cg.bytes≤281474976710656:=by
  have:=nextslicecap_le az
  calc _≤(2 * (sLen+n)) * cg.bytes:=avo _ this
   _=2 * ((sLen+n) * cg.bytes):=by rw [aw3]
   _≤_:=by omega
 have HB:n * cg.bytes≤281474976710656:=OF (avo _ (Nat.le_add_left n sLen)) (by omega)
 have cE:=Lib.run_append_grow_zeros w t tn ty e cg z kq kn hu aG ab bR base sLen sCap olds' hold n aK aa az (by omega) HB eW
 have pQ:=grownCap_ge w (sLen+n) sCap e;have wo:(Builtin.zeroCells z.cells n).toList=made z.cells.toList n:=MI z.cells n;have mK:aX ρ (made zs n) (Builtin.zeroCells z.cells n).toList:=by rw [wo];exact V8.made n
 have Di:=xk.append mK;have hlen:(olds'++(Builtin.zeroCells z.cells n).toList).length=(sLen+n) * cg.size:=by
  rw [IS,←xk.1,zv,wo,MH,av3,fb,atY]
 obtain ⟨ρ',hle,mL,eu⟩:=R.drew.push (c:=olds++made zs n) (arr:=olds'.toArray++Builtin.zeroCells z.cells n++Builtin.zeroCells z.cells (grownCap w (sLen+n) sCap e - (sLen+n))) (e:=e) (ex:=some cg.size)
  (w':=w.drew.alloc (.cells (olds'.toArray++Builtin.zeroCells z.cells n++Builtin.zeroCells z.cells (grownCap w (sLen+n) sCap e - (sLen+n))) e)) (grownCap w (sLen+n) sCap e)
  (by simp) (fun k hk=>Below.heap_alloc w.drew _ k hk) (heap_alloc_new w.drew _) ((hn.refl _ _).alloc R.drew.heap.base _)
  (by rw [Di.1];simp)
  (by
   rw [Di.1];have aC:(olds'.toArray++Builtin.zeroCells z.cells n++Builtin.zeroCells z.cells (grownCap w (sLen+n) sCap e - (sLen+n))).toList.take (olds'++(Builtin.zeroCells z.cells n).toList).length=olds'++(Builtin.zeroCells z.cells n).toList:=by
    simp only [aAe];exact awa
   rw [aC];exact Di)
  (by
   refine ⟨?_,?_⟩
   ·have q:(olds'.toArray++Builtin.zeroCells z.cells n).size=(sLen+n) * cg.size:=by rw [←hlen];simp
    rw [aw4,size_zeroCells,fb,q,←atY]
    congr 1
    omega
   ·have:=grownCap_le_maxLen w (sLen+n) sCap e (by simp only [maxLen];omega)
    simp only [maxLen] at this;omega)
 refine ⟨ρ',_,_,cE,?_,eu,hle⟩;have:=aB.bj (ρ:=ρ') mL 0 (sLen+n) cj (by simp [fz,pQ])
 simpa [fz] using this
theorem af4 {P:Program} {t tx ty:TypeId} {s x v:V} {cJ b0:Value} {h h':I} (aa:kO P t tx s x h=some (v,h')) {ρ:Ren} {B:Nat} {aJ w:World} (R:aR ρ B aJ h w)
  (aL:aB ρ s cJ) (aj:aB ρ x b0):Yields P (Builtin.append_ #[t,tx] ty #[cJ,b0]) ρ B aJ w v h':=by
 unfold kO at aa;split at aa
 case h_1=>cases aa
 rename_i e he;have hu:P.underlying t=some (.slice e):=by
  unfold jp at he;split at he
  ·rename_i hu;rw [hu];simpa using he
  ·cases he
 split at aa
 case h_2=>cases aa
 rename_i zs sz ao uq bo jC;split at aa
 case isFalse=>cases aa
 rename_i fb;obtain ⟨z,bR,E0⟩:=F6 uq;have fb:z.cells.size=sz:=by have:=(E0 ρ).1;simp at this;omega
 cases ab:P.info? e with
 | none=>simp [la,ab] at bR
 | some cg=>
 simp [la,ab] at bR;simp [F3,ab] at jC;simp [cC,ab] at bo;subst bo;subst jC;split at aa
 case h_1=>
  unfold Re at aa;split at aa
  case h_2=>cases aa
  rename_i n i o len cap ta fr;split at aa
  case h_2=>cases aa
  rename_i c bd ex az;split at aa
  case isFalse=>cases aa
  rename_i al;obtain ⟨Pe,l3,cI,ka,k1,eW,Br⟩:=al;simp at aa;obtain ⟨rfl,rfl⟩:=aa;obtain ⟨b,bA,hi,aw,rfl⟩:=aL.gm;cases aj;have dp:fz bA cap=cap:=by simp [fz,l3]
  rw [dp] at aw⊢;have lV:aB ρ (.ptr i o) (.pointer (some ⟨b,o,none⟩)):=.ptr hi o;obtain ⟨b7,dZ,xl,dX⟩:=Ac R.drew.heap lV (cs:=c.drop o) (by simp [rb,az];omega)
  simp at xl;obtain ⟨rfl,rfl⟩:=xl;obtain ⟨olds',zw,iG,Bs⟩:=dX (len * cg.size) (by simp;omega)
  have Pf:n=((n.toNat:Nat):Int):=by omega
  rw [Pf];exact af3 hu ta ab bR fb R (run_firstCells_some (P:=P) w.drew cg.size len ⟨b,o,none⟩ len cap olds' Bs (fun j v aH=>by rw [Addr.add_mid];simpa using zw j v aH)) iG (by rw [iG.1,Bs]) (E0 ρ) (by omega) Br cI ka k1
 rename_i n news dR;obtain ⟨dY,gI,mK,xm,cm⟩:=af2 dR R aj;split at aa
 ·cases aL;split at aa
  ·rename_i aK;subst aK;simp at aa;obtain ⟨rfl,rfl⟩:=aa;exact .same R (V7 w t tx ty e cg hu ab b0 dY gI) .ag
  ·rename_i aK;split at aa
   case isFalse=>cases aa
   rename_i al;simp at aa;obtain ⟨rfl,rfl⟩:=aa;have:=MK (ty:=ty) hu ab bR fb R (base:=none) (sLen:=0) (sCap:=0) (olds:=[]) (olds':=[]) (by simpa using run_firstCells_none (P:=P) w.drew cg.size 0 0 0) (.nil ρ) (by simp) gI mK (by omega) (by simpa using al.1) (by simpa using al.2)
   simpa using this
 ·cases aL with
  | z0 a aP=>
  split at aa
  ·rename_i aK;subst aK;simp at aa;obtain ⟨rfl,rfl⟩:=aa;cases a with
   | none=>exact .same R (V7 w t tx ty e cg hu ab b0 dY gI) (.z0 none (by simp))
   | some a=>
    have ew:dY=[]:=by have:=gI.newsLen;simpa using this
    subst ew;have:(Builtin.append_ #[t,tx] ty #[.slice (some a) 0 0,b0]).run P w=.ok (.slice (some a) 0 0) w:=by
     rcases gI.kind with ⟨ed,hk⟩ | hk<;>simp [Builtin.append_,run_underlying hu,run_underlying hk,sizeOf,typeInfo,ab,gI.len,gI.cells,storeCells]
    exact .same R this (.z0 _ aP)
  ·rename_i aK;split at aa
   case isFalse=>cases aa
   rename_i al;simp at aa;obtain ⟨rfl,rfl⟩:=aa;have:=MK (ty:=ty) hu ab bR fb R (base:=a) (sLen:=0) (sCap:=0) (olds:=[]) (olds':=[]) (by
    cases a with
    | none=>simpa using run_firstCells_none (P:=P) w.drew cg.size 0 0 0
    | some a=>simpa using run_firstCells_some (P:=P) w.drew cg.size 0 a 0 0 [] (by simp) (by simp)) (.nil ρ) (by simp) gI mK (by omega) (by simpa using al.1) (by simpa using al.2)
   simpa using this
 ·rename_i i o len cap;obtain ⟨b,bA,hi,aw,rfl⟩:=aL.gm;split at aa
  ·rename_i aK;subst aK;simp at aa;obtain ⟨rfl,rfl⟩:=aa;have ew:dY=[]:=by have:=gI.newsLen;simpa using this
   subst ew;refine .same R (v':=.slice (some ⟨b,o,none⟩) len (fz bA cap)) ?_ (.bj hi o len cap aw);have:=Rf (P:=P) w w t tx ty e cg hu ab b o len (fz bA cap) b0 0 [] gI (by omega) (by simp [storeCells])
   simpa using this
  ·rename_i aK;split at aa
   case isFalse=>cases aa
   rename_i al;split at aa
   case h_2=>cases aa
   rename_i c bd ex az;have olds:∀ bS:World,aR ρ B aJ h bS→o+len * cg.size≤c.length→∃ olds',bS.rangeAt b o olds'∧aX ρ ((c.drop o).take (len * cg.size)) olds'∧olds'.length=len * cg.size:=fun bS Rg eW=>by
    have lV:aB ρ (.ptr i o) (.pointer (some ⟨b,o,none⟩)):=.ptr hi o;obtain ⟨b7,dZ,he,dX⟩:=Ac Rg.heap lV (cs:=c.drop o) (by simp [rb,az];omega)
    simp at he;obtain ⟨rfl,rfl⟩:=he;exact dX _ (by simp;omega)
   split at aa
   ·rename_i l3;have dp:fz bA cap=cap:=by simp [fz,l3]
    rw [dp];rw [dp] at aw;split at aa
    ·rename_i fW;split at aa
     case isFalse=>cases aa
     rename_i eW;simp at aa;obtain ⟨rfl,rfl⟩:=aa;obtain ⟨w',c2,eu⟩:=Hy (P:=P) az R hi (o+len * cg.size) mK cm (by rw [xm];have:=atY len n cg.size;omega)
     have cE:=Rf w w' t tx ty e cg hu ab b o len cap b0 n dY gI fW c2;refine ⟨ρ,_,_,cE,?_,eu,Ren.le.refl ρ⟩;have:=aB.bj hi o (len+n) cap (by rw [dp];exact fW)
     rwa [dp] at this
    ·rename_i fW;split at aa
     case isFalse=>cases aa
     rename_i eW;simp at aa;obtain ⟨rfl,rfl⟩:=aa;obtain ⟨olds',l4,iH,pR⟩:=olds w R eW;exact MK hu ab bR fb R (run_firstCells_some (P:=P) w.drew cg.size len ⟨b,o,none⟩ len cap olds' pR (fun j v aH=>by rw [Addr.add_mid];simpa using l4 j v aH)) iH (by rw [iH.1,pR]) gI mK (by omega) al.1 al.2
   ·rename_i l3;split at aa
    case isFalse=>cases aa
    rename_i lk;obtain ⟨rfl,rfl,rfl,tb,rfl⟩:=lk;simp at aa;obtain ⟨rfl,rfl⟩:=aa;have dp:fz bA cj=bA:=by simp [fz]
    rw [dp];rw [dp] at aw;by_cases fW:len+n≤bA
    ·have aN:=R.heap.obj i;rw [az] at aN;obtain ⟨b7,ji,arr,iG,av,cr,hw,ay,xn,Pg⟩:=aN;rw [iG] at hi;simp at hi;obtain ⟨rfl,rfl⟩:=hi;have Dj:arr.size=ji * cg.size:=Pg.1;have HC:len * cg.size+dY.length≤arr.size:=by
      rw [gI.newsLen,Dj,←atY];exact avo _ fW
     have c2:=run_storeCells_at P b7 (len * cg.size) bd dY 0 arr w hw (by simpa using HC) (mK.one cm)
     simp only [awM] at c2;have cE:=Rf w _ t tx ty bd cg hu ab b7 0 len ji b0 n dY gI fW (by simpa using c2)
     have o1:(c.take (len * cg.size)).length=len * cg.size:=by simp;omega
     obtain ⟨ρ',hle,aG,eu⟩:=R.move (w':=w.setRow b7 (arr.toList.take (len * cg.size)++dY++arr.toList.drop (len * cg.size+dY.length)).toArray) (c:=c.take (len * cg.size)++news) (ex:=some cg.size) iG (by rw [az];simp)
      (fun k hk=>by simp [World.setRow,avP,Ne.symm hk]) (setRow_heap w b7 arr _ bd (0,0) hw) (by simp [World.setRow])
      ⟨rfl,rfl,rfl,by simp [World.setRow],fun k hk=>by simp [World.setRow,avP,show b7≠k by omega],BY _⟩
      (by rw [IS,o1,mK.1];simp;omega)
      (by
       rw [IS,o1,mK.1];have aC:(arr.toList.take (len * cg.size)++dY++arr.toList.drop (len * cg.size+dY.length)).toArray.toList.take (len * cg.size+dY.length)=arr.toList.take (len * cg.size)++dY:=by
        have:(arr.toList.take (len * cg.size)++dY).length=len * cg.size+dY.length:=by simp;omega
        rw [←this];exact awa
       rw [aC];refine aX.append ?_ mK;have:=xn.take (len * cg.size);rw [awx] at this;rwa [avD tb] at this)
      (by
       refine ⟨?_,Pg.2⟩;simp;omega)
     refine ⟨ρ',_,_,cE,?_,by simpa only [List.append_assoc] using eu,hle⟩
     have:=aB.bj (ρ:=ρ') aG 0 (len+n) cj (by rw [fz];simp;exact fW)
     rwa [show fz ji cj=ji by simp [fz]] at this
    ·obtain ⟨olds',l4,iH,pR⟩:=olds w R (by simpa using tb)
     rw [List.drop_zero] at iH;exact MK (ty:=ty) hu ab bR fb (R.kill i) (run_firstCells_some (P:=P) w.drew cg.size len ⟨b,0,none⟩ len bA olds' pR (fun j v aH=>by rw [Addr.add_mid];simpa using l4 j v aH)) iH (by rw [iH.1,pR]) gI mK (by omega) al.1 al.2
 ·cases aa
def i4:V→Option Nat
 | .bj _ _ n _=>some n
 | .ah n _=>some n
 | .ag=>some 0
 | .z0=>some 0
 | .string s=>some s.size
 | _=>none
theorem pu {P:Program} {x:V} {b0:Value} {n:Nat} (h:i4 x=some n) {ρ:Ren} (aj:aB ρ x b0) (w:World):(Builtin.lenOf b0).run P w=.ok n w:=by
 cases aj<;>simp [i4] at h<;>subst h<;>rfl
def tA (sz n:Nat) (x:V) (h:I):Option (List V) :=
 match x with
 | .ag | .z0=>if n=0 then some [] else none
 | .bj i o _ _=>
  match h.get i with
  | .cells c _ _=>if o+n * sz≤c.length then some ((c.drop o).take (n * sz)) else none
  | _=>none
 | .ah m cs=>if n≤m∧n * sz≤cs.length then some (cs.take (n * sz)) else none
 | .string s=>if sz=1∧n≤s.size then some (((byteCells s).map gv).take n) else none
 | _=>none
theorem V9 {P:Program} {sz n:Nat} {x:V} {b0:Value} {h:I} {vs:List V} (aa:tA sz n x h=some vs) {ρ:Ren} {B:Nat} {aJ w:World} (R:aR ρ B aJ h w) (aj:aB ρ x b0) :
  ∃ il,(Builtin.firstCells sz n b0).run P w=.ok il.toArray w∧aX ρ vs il∧vs.length=n * sz:=by
 unfold tA at aa;split at aa
 ·cases aj;split at aa
  case isFalse=>cases aa
  rename_i aK;subst aK;obtain rfl:vs=[]:=by simpa using aa
  exact ⟨[],run_firstCells_none w sz 0 0 0,.nil ρ,by simp⟩
 ·cases aj with
  | z0 a aP=>
  split at aa
  case isFalse=>cases aa
  rename_i aK;subst aK;obtain rfl:vs=[]:=by simpa using aa
  cases a with
  | none=>exact ⟨[],run_firstCells_none w sz 0 0 0,.nil ρ,by simp⟩
  | some a=>exact ⟨[],run_firstCells_some (P:=P) w sz 0 a 0 0 [] (by simp) (by simp),.nil ρ,by simp⟩
 ·rename_i i o len cap;obtain ⟨b,bA,hi,aw,rfl⟩:=aj.gm;split at aa
  case h_2=>cases aa
  rename_i c bd ex az;split at aa
  case isFalse=>cases aa
  rename_i ay;obtain rfl:_=vs:=by simpa using aa
  have lV:aB ρ (.ptr i o) (.pointer (some ⟨b,o,none⟩)):=.ptr hi o;obtain ⟨b7,dZ,he,dX⟩:=Ac R.heap lV (cs:=c.drop o) (by simp [rb,az];omega)
  simp at he;obtain ⟨rfl,rfl⟩:=he;obtain ⟨cs,h1,ad,aD⟩:=dX (n * sz) (by simp;omega)
  exact ⟨cs,run_firstCells_some (P:=P) w sz n ⟨b,o,none⟩ len (fz bA cap) cs aD (fun j v aH=>by rw [Addr.add_mid];exact h1 j v aH),ad,by simp;omega⟩
 ·rename_i m cs;split at aa
  case isFalse=>cases aa
  rename_i ay;obtain rfl:_=vs:=by simpa using aa
  rcases aj.j1 with ⟨rfl,rfl,a,kN,aP,rfl⟩ | ⟨b,o,cap,arr,al,aG,aN,dC,rfl⟩
  ·obtain rfl:n=0:=by omega
   cases a with
   | none=>
    obtain rfl:=aP rfl;exact ⟨[],run_firstCells_none w sz 0 0 0,by simpa using aX.nil ρ,by simp⟩
   | some a=>exact ⟨[],run_firstCells_some (P:=P) w sz 0 a 0 kN [] (by simp) (by simp),by simpa using aX.nil ρ,by simp⟩
  ·have jD:aB ρ (.at cs) (.pointer (some ⟨b,o,none⟩)):=.at o al aN dC;obtain ⟨b7,dZ,he,dX⟩:=Ac R.heap jD (cs:=cs) rfl;simp at he;obtain ⟨rfl,rfl⟩:=he;obtain ⟨vs,h1,ad,aD⟩:=dX (n * sz) ay.2;exact ⟨vs,run_firstCells_some (P:=P) w sz n ⟨b,o,none⟩ m cap vs aD (fun j v aH=>by rw [Addr.add_mid];exact h1 j v aH),ad,by simp;omega⟩
 ·rename_i s;cases aj;split at aa
  case isFalse=>cases aa
  rename_i h1;obtain ⟨rfl,aG⟩:=h1;obtain rfl:_=vs:=by simpa using aa
  refine ⟨(byteCells s).take n,?_,(Rc ρ s).take n,by rw [VV,VY,byteCells_length];omega⟩
  simp only [Builtin.firstCells,Sem.run_pure]
  congr 1
  apply avE;simp [byteCells]
 ·cases aa
def vx (P:Program) (yS:TypeId) (dst src:V) (h:I):Option (V×I) :=
 match jp P yS with
 | none=>none
 | some e=>
  match cC P e,i4 src,dst with
  | some sz,some bj,.ag=>
   match tA sz (awj bj 0) src h with
   | some _=>some (.int .i64 0,h)
   | none=>none
  | some sz,some bj,.bj i o dl _=>
   match tA sz (awj bj dl) src h with
   | some vs=>
    if awj bj dl=0 then some (.int .i64 0,h) else
    match h.get i with
    | .cells c bd ex=>if o+vs.length≤c.length∧vs.all (·.one)=true then some (.int .i64 (awj bj dl:Nat),h.set i (.cells (lay c o vs) bd ex)) else none
    | _=>none
   | none=>none
  | _,_,_=>none
theorem af5 {P:Program} {yS HD ty:TypeId} {dst src v:V} {HE HF:Value} {h h':I} (aa:vx P yS dst src h=some (v,h')) {ρ:Ren} {B:Nat} {aJ w:World} (R:aR ρ B aJ h w)
  (bf:aB ρ dst HE) (aL:aB ρ src HF):Yields P (Builtin.copy_ #[yS,HD] ty #[HE,HF]) ρ B aJ w v h':=by
 unfold vx at aa;split at aa
 case h_1=>cases aa
 rename_i e he;have hu:P.underlying yS=some (.slice e):=by
  unfold jp at he;split at he
  ·rename_i hu;rw [hu];simpa using he
  ·cases he
 split at aa
 ·rename_i sz bj bo qW;cases bf;split at aa
  case h_2=>cases aa
  rename_i vs rC;simp at aa;obtain ⟨rfl,rfl⟩:=aa;obtain ⟨il,av,xn,hlen⟩:=V9 (P:=P) rC R aL;have hll:=pu (P:=P) qW aL w;cases ab:P.info? e with
  | none=>simp [cC,ab] at bo
  | some cg=>
   simp [cC,ab] at bo;refine .same R (v':=.int .i64 0) ?_ (.int _ _);have hm:awj bj 0=0:=Nat.min_zero bj;rw [hm] at av;simp [Builtin.copy_,run_underlying hu,hll,sizeOf,typeInfo,ab,bo,av,goInt]
 ·rename_i sz bj i o dl dc bo qW;obtain ⟨b,bA,hi,aw,rfl⟩:=bf.gm;split at aa
  case h_2=>cases aa
  rename_i vs rC;obtain ⟨il,av,xn,hlen⟩:=V9 (P:=P) rC R aL;have hll:=pu (P:=P) qW aL w;cases ab:P.info? e with
  | none=>simp [cC,ab] at bo
  | some cg=>
  simp [cC,ab] at bo;split at aa
  ·rename_i aK;simp at aa;obtain ⟨rfl,rfl⟩:=aa;refine .same R (v':=.int .i64 0) ?_ (.int _ _);rw [aK] at hlen av;have rE:il=[]:=avA (by rw [←xn.1,hlen];simp)
   subst rE;have hm:(awj bj dl:Nat)=0:=aK;simp [Builtin.copy_,run_underlying hu,hll,sizeOf,typeInfo,ab,bo,hm,av,goInt,storeCells]
  ·split at aa
   case h_2=>cases aa
   rename_i c bd ex az;split at aa
   case isFalse=>cases aa
   rename_i ay;simp at aa;obtain ⟨rfl,rfl⟩:=aa;obtain ⟨w',c2,eu⟩:=Hy (P:=P) az R hi o xn ay.2 ay.1;refine ⟨ρ,_,w',?_,.int _ _,eu,Ren.le.refl ρ⟩;simp [Builtin.copy_,run_underlying hu,hll,sizeOf,typeInfo,ab,bo,av,goInt,c2]
 ·cases aa
def ey {α:Type} (P:Program):Sem α→Option α
 | .pure a=>some a
 | .program k=>ey P (k P)
 | .mark _ k=>ey P k
 | _=>none
theorem Bt {α:Type} {P:Program}:∀ {s:Sem α} {a:α},ey P s=some a→∀ w,s.run P w=.ok a w
 | .pure b,a,h,w=>by simp [ey] at h;subst h;rfl
 | .program k,a,h,w=>by
  simp only [ey] at h;exact Bt (s:=k P) h w
 | .mark m k,a,h,w=>by
  simp only [ey] at h;exact Bt (s:=k) h w
 | .load ..,_,h,_=>by simp [ey] at h
 | .store ..,_,h,_=>by simp [ey] at h
 | .new ..,_,h,_=>by simp [ey] at h
 | .shape ..,_,h,_=>by simp [ey] at h
 | .freeze ..,_,h,_=>by simp [ey] at h
 | .frozen ..,_,h,_=>by simp [ey] at h
 | .getObj ..,_,h,_=>by simp [ey] at h
 | .setObj ..,_,h,_=>by simp [ey] at h
 | .choose ..,_,h,_=>by simp [ey] at h
 | .sys ..,_,h,_=>by simp [ey] at h
 | .halt ..,_,h,_=>by simp [ey] at h
theorem ni {α β:Type} {P:Program} {s:Sem α} {k:α→Sem β}:ey P (s >>= k)=(ey P s).bind fun a=>ey P (k a):=by
 induction s with
 | pure a=>rfl
 | program k ih=>exact ih P
 | mark m k ih=>exact ih
 | _=>rfl
def Gb:V→Option Nat
 | .c8=>some 0 | .ag=>some 1 | .ff=>some 2 | .nilFunc=>some 3 | .nilIface=>some 4 | _=>none
def Dk:V→Option Nat
 | .ptr _ _=>some 0 | .at _=>some 0 | .bj _ _ _ _=>some 1 | .e6=>some 1 | .ah n _=>if n=0 then none else some 1 | .map _=>some 2 | .func _ _ _=>some 3 | .iface _ _=>some 4 | _=>none
def vy:TypeDesc→Option Nat
 | .pointer _=>some 0 | .slice _=>some 1 | .map _ _=>some 2 | .func _ _ _=>some 3 | .interface _=>some 4 | _=>none
def Gc (d:TypeDesc) (x y:V):Bool :=
 match vy d with
 | some k=>(Gb x==some k&&Dk y==some k)||(Dk x==some k&&Gb y==some k)
 | none=>false
theorem nil_eq {P:Program} {w:World} {ρ:Ren} {t:TypeId} {d:TypeDesc} (hu:P.underlying t=some d) {x y:V} {b0 pq:Value} (aj:aB ρ x b0) (bp:aB ρ y pq) (aG:Gc d x y=true) :
  (Op.equal t b0 pq).run P w=.ok false w∧(∀ op xo yo,eqGuard op t xo yo b0 pq=pure ())∧binOp .eql t b0 pq=(do pure (.bool (←Op.equal t b0 pq)))∧binOp .neq t b0 pq=(do pure (.bool (!(←Op.equal t b0 pq)))):=by
 have run:∀ m,(Op.equalIn (m+1) t b0 pq).run P w=.ok false w→(Op.equal t b0 pq).run P w=.ok false w∨m≠9999:=fun m h=>by
  by_cases hm:m=9999
  ·subst hm;exact .inl h
  ·exact .inr hm
 have guard:(¬(b0=.nilIface∧pq=.nilIface))→(¬∃ a b,b0=.agg a∧pq=.agg b)→∀ op xo yo,eqGuard op t xo yo b0 pq=pure ():=fun h1 ad op xo yo=>by
  unfold eqGuard;cases op<;>first | rfl | (simp only [Bool.not_true,avO,if_false];split<;>first | rfl | exact absurd ⟨rfl,rfl⟩ h1 | exact absurd ⟨_,_,rfl,rfl⟩ ad)
 unfold Gc at aG;cases d<;>simp [vy] at aG
 all_goals
  rcases aG with ⟨h1,ad⟩ | ⟨h1,ad⟩
  all_goals
   cases aj<;>simp [Gb,Dk] at h1<;>cases bp<;>simp [Gb,Dk] at ad
   all_goals first
    | omega
    | (refine ⟨(run 9999 (by unfold Op.equalIn;rw [Sem.run_bind,run_underlying hu,Result.andThen_ok];simp)).resolve_right (by simp),guard (by simp) (by simp),rfl,rfl⟩)
def cH (P:Program) (op:BinOp) (t:TypeId) (xo yo:Operand) (x y:V):Option V :=
 match pk x,pk y with
 | some a,some b=>(ey P (do eqGuard op t xo yo a b;binOp op t a b)).map gv
 | _,_=>
  match P.underlying t,op with
  | some d,.eql=>if Gc d x y then some (.bool false) else none
  | some d,.neq=>if Gc d x y then some (.bool true) else none
  | _,_=>none
theorem af6 {P:Program} {op:BinOp} {t:TypeId} {xo yo:Operand} {x y v:V} {b0 pq:Value} {h:I} (aa:cH P op t xo yo x y=some v) {ρ:Ren} {B:Nat} {aJ w:World} (R:aR ρ B aJ h w)
  (aj:aB ρ x b0) (bp:aB ρ y pq):bP P (do eqGuard op t xo yo b0 pq;binOp op t b0 pq) ρ w v:=by
 unfold cH at aa;split at aa
 ·rename_i a b aP al;obtain rfl:=xg aj aP;obtain rfl:=xg bp al;cases aU:ey P (do eqGuard op t xo yo b0 pq;binOp op t b0 pq) with
  | none=>rw [aU] at aa;cases aa
  | some u=>
   rw [aU] at aa;obtain rfl:_=v:=by simpa using aa
   exact bP.mk (Bt aU w) (Bo ρ u)
 ·split at aa
  ·rename_i d bf;split at aa
   case isFalse=>cases aa
   rename_i aG;obtain rfl:_=v:=by simpa using aa
   obtain ⟨h1,ad,aD,bn⟩:=nil_eq (P:=P) (w:=w) bf aj bp aG;refine bP.mk (v':=.bool false) ?_ (.bool false);rw [ad,aD];simp [h1]
  ·rename_i d bf;split at aa
   case isFalse=>cases aa
   rename_i aG;obtain rfl:_=v:=by simpa using aa
   obtain ⟨h1,ad,aD,bn⟩:=nil_eq (P:=P) (w:=w) bf aj bp aG;refine bP.mk (v':=.bool true) ?_ (.bool true);rw [ad,bn];simp [h1]
  ·cases aa
def xp (P:Program) (op:UnOp) (x:V):Option V :=
 match nS x with
 | some a=>(ey P (Op.unary op a)).map gv
 | none=>none
theorem af7 {P:Program} {op:UnOp} {x v:V} {b0:Value} {h:I} (aa:xp P op x=some v) {ρ:Ren} {B:Nat} {aJ w:World} (R:aR ρ B aJ h w) (aj:aB ρ x b0) :
  bP P (Op.unary op b0) ρ w v:=by
 unfold xp at aa;split at aa
 case h_2=>cases aa
 rename_i a aP;obtain rfl:=yO aj aP;cases aU:ey P (Op.unary op b0) with
 | none=>rw [aU] at aa;cases aa
 | some u=>
  rw [aU] at aa;obtain rfl:_=v:=by simpa using aa
  exact bP.mk (Bt aU w) (Bo ρ u)
def yT:List V→Option (List Int)
 | []=>some []
 | .int .u8 n::r=>(yT r).map (n::·)
 | _=>none
theorem HG:∀ {l:List V} {j2:List Int},yT l=some j2→l=j2.map (V.int .u8)
 | [],j2,h=>by simp [yT] at h;subst h;rfl
 | v::r,j2,h=>by
  unfold yT at h;split at h
  ·rename_i heq;cases heq
  ·rename_i n c0 heq;simp only [List.cons.injEq] at heq;obtain ⟨rfl,rfl⟩:=heq;cases aL:yT r with
   | none=>simp [aL] at h
   | some ms=>simp [aL] at h;subst h;rw [HG aL];rfl
  ·cases h
theorem y6 {ρ:Ren} {k:IntKind}:∀ {j2:List Int} {l:List Value},aX ρ (j2.map (V.int k)) l→l=j2.map (Value.int k)
 | [],l,h=>h.eq_nil
 | n::j2,l,h=>by
  obtain ⟨v',iW,rfl,aH,bE⟩:=h.dB;cases aH;rw [y6 bE];rfl
def vz (P:Program) (e:TypeId):Bool:=match P.underlying e with | some (.int .u8)=>true | _=>false
theorem Gd {P:Program} {e:TypeId} (h:vz P e=true):P.underlying e=some (.int .u8):=by
 unfold vz at h;split at h
 ·assumption
 ·cases h
def re (P:Program) (src dst:TypeId) (x:V) (h:I):Option V :=
 match (nS x).bind fun a=>ey P (convert src dst a) with
 | some v=>some (gv v)
 | none=>
  match P.underlying src,P.underlying dst,x with
  | some .string,some (.slice e),.string s=>if vz P e=true then some (.ah s.size ((byteCells s).map gv)) else none
  | some (.slice e),some .string,.bj i o len _=>
   if vz P e=true then
    match h.get i with
    | .cells c _ _=>if o+len≤c.length then (yT ((c.drop o).take len)).map fun j2=>.string (strOfNums j2) else none
    | _=>none
   else none
  | some (.slice e),some .string,.ah n cs=>
   if vz P e=true∧n=cs.length then (yT cs).map fun j2=>.string (strOfNums j2) else none
  | _,_,_=>none
theorem Wa {P:Program} {ρ:Ren} {src dst e:TypeId} {w:World} {b o len cap:Nat} {j2:List Int} {cs:List Value} (k2:P.underlying src=some (.slice e)) (he:P.underlying e=some (.int .u8)) (rF:P.underlying dst=some .string)
  (dX:w.rangeAt b o cs) (aw:aX ρ (j2.map (V.int .u8)) cs) (hlen:j2.length=len):(convert src dst (.slice (some ⟨b,o,none⟩) len cap)).run P w=.ok (.string (strOfNums j2)) w:=by
 obtain rfl:=y6 aw;refine run_convert_bytes_arg w src e k2 he b o len cap j2 hlen (fun k hk=>?_) dst rF;exact dX k _ (by simp [List.getD,ME (show k<j2.length by omega)])
theorem af8 {P:Program} {src dst:TypeId} {x v:V} {b0:Value} {h:I} (aa:re P src dst x h=some v) {ρ:Ren} {B:Nat} {aJ w:World} (R:aR ρ B aJ h w) (aj:aB ρ x b0) :
  Yields P (convert src dst b0) ρ B aJ w v h:=by
 unfold re at aa;split at aa
 ·rename_i u hu;obtain rfl:_=v:=by simpa using aa
  cases av:nS x with
  | none=>simp [av] at hu
  | some a=>
   simp [av] at hu;obtain rfl:=yO aj av;exact .same R (Bt hu w) (Bo ρ u)
 ·split at aa
  ·rename_i e s k2 rF _;cases aj;split at aa
   case isFalse=>cases aa
   rename_i ay;obtain rfl:_=v:=by simpa using aa
   have he:=Gd ay;have pQ:=grownCap_ge w s.size 0 e
   let arr:Array Value:=s.data.map (fun b=>Value.int .u8 b.toNat)++Array.replicate (grownCap w s.size 0 e - s.size) (.int .u8 0)
   have Dj:arr.size=grownCap w s.size 0 e:=by
    simp only [arr,aw4,aAf,Array.size_replicate];have:s.data.size=s.size:=rfl;omega
   have cE:(convert src dst (.string s)).run P w=.ok (.slice (some ⟨w.heap.size,0,none⟩) s.size (grownCap w s.size 0 e)) ((w.drew.alloc (.cells arr e)).freeze ⟨w.heap.size,arr.size,none⟩ 1):=by
    have HH:(w.drew.alloc (.cells arr e)).shape? w.heap.size=some (e,arr.size):=by
     have:=heap_alloc_new w.drew (.cells arr e);unfold World.shape?;rw [show w.heap.size=w.drew.heap.size from rfl,this]
    simp [convert,run_underlying k2,run_underlying rF,run_underlying he,Conv.stringToBytes,Question.forced,newRow,markStringish];have ev:(Question.appendCap s.size 0 e).cut (w.tape w.drawn (Question.appendCap s.size 0 e))=grownCap w s.size 0 e:=rfl;simp only [ev];rw [HH];simp;rfl
   have l5:((w.drew.alloc (.cells arr e)).freeze ⟨w.heap.size,arr.size,none⟩ 1).heap[w.heap.size]?=some (.cells arr e (arr.size,arr.size+1)):=by
    have:=heap_alloc_new w.drew (.cells arr e);simp only [World.freeze,av4,if_false,avP,if_true];rw [show w.heap.size=w.drew.heap.size from rfl,this]
    simp
   have Bu:∀ k,k<w.heap.size→((w.drew.alloc (.cells arr e)).freeze ⟨w.heap.size,arr.size,none⟩ 1).heap[k]?=w.heap[k]?:=fun k hk=>by
    simp only [World.freeze,av4,if_false,avP,if_neg (show ¬w.heap.size=k by omega)]
    exact Below.heap_alloc w.drew _ k hk
   have vA:w.heap.size<((w.drew.alloc (.cells arr e)).freeze ⟨w.heap.size,arr.size,none⟩ 1).heap.size:=by
    simp only [World.freeze,av4,if_false,Array.size_modify];simp
   obtain ⟨ρ',hle,aG,eu⟩:=R.F4 vA Bu l5
    ⟨by simp only [World.freeze,av4,if_false];rfl,by simp only [World.freeze,av4,if_false];rfl,by simp only [World.freeze,av4,if_false];rfl,ayc vA,fun k hk=>Bu k (Nat.lt_of_lt_of_le hk R.heap.base),by simp only [World.freeze,av4,if_false];exact ayb _⟩
   refine ⟨ρ',_,_,cE,?_,eu,hle⟩;have al:((byteCells s).map gv).length=s.size:=by rw [VY,byteCells_length]
   refine .ah 0 s.size _ aG pQ (by rw [al,Dj];omega) fun k v v' h1 ad=>?_
   have aC:arr.toList.take (byteCells s).length=byteCells s:=by
    have:arr.toList=byteCells s++avr (grownCap w s.size 0 e - s.size) (.int .u8 0):=by simp [arr,byteCells]
    rw [this];exact awa
   have hk:k<(byteCells s).length:=by rw [←VY (f:=gv)];exact (VX.1 h1).1
   refine (Rc ρ' s).2 k v v' h1 ?_;rw [←aC,avg,if_pos hk,avF];simpa using ad
  ·rename_i e i o len cap k2 rF _;obtain ⟨b,bA,hi,aw,rfl⟩:=aj.gm;split at aa
   case isFalse=>cases aa
   rename_i he;split at aa
   case h_2=>cases aa
   rename_i c bd ex az;split at aa
   case isFalse=>cases aa
   rename_i ay;cases l6:yT ((c.drop o).take len) with
   | none=>simp [l6] at aa
   | some j2=>
    simp [l6] at aa;subst aa;have lV:aB ρ (.ptr i o) (.pointer (some ⟨b,o,none⟩)):=.ptr hi o;obtain ⟨b7,dZ,heq,dX⟩:=Ac R.heap lV (cs:=c.drop o) (by simp [rb,az];omega)
    simp at heq;obtain ⟨rfl,rfl⟩:=heq;obtain ⟨cs,h1,ad,aD⟩:=dX len (by simp;omega)
    have hlen:j2.length=len:=by
     have:=congrArg avu (HG l6);simp at this;omega
    rw [HG l6] at ad;exact .same R (Wa k2 (Gd he) rF h1 ad hlen) (.string _)
  ·rename_i e n cs k2 rF _;split at aa
   case isFalse=>cases aa
   rename_i he;cases l6:yT cs with
   | none=>simp [l6] at aa
   | some j2=>
    simp [l6] at aa;subst aa;rcases aj.j1 with ⟨rfl,rfl,a,kN,aP,rfl⟩ | ⟨b,o,cap,arr,al,aG,aN,dC,rfl⟩
    ·obtain rfl:j2=[]:=by simpa [yT] using l6.symm
     cases a with
     | none=>
      obtain rfl:=aP rfl;refine .same R (v':=.string .empty) ?_ (.string _);simp [convert,run_underlying k2,run_underlying rF,run_underlying (Gd he.1),Conv.bytesToString,loadCells,loadCellsFrom]
     | some a=>
      refine .same R (v':=.string .empty) ?_ (.string _);simp [convert,run_underlying k2,run_underlying rF,run_underlying (Gd he.1),Conv.bytesToString,loadCells,loadCellsFrom]
    ·have jD:aB ρ (.at cs) (.pointer (some ⟨b,o,none⟩)):=.at o al aN dC;obtain ⟨b7,dZ,heq,dX⟩:=Ac R.heap jD (cs:=cs) rfl;simp at heq;obtain ⟨rfl,rfl⟩:=heq;obtain ⟨vs,h1,ad,aD⟩:=dX cs.length (BY _);rw [avT] at ad;have hlen:j2.length=n:=by
      have:=congrArg avu (HG l6);simp at this;omega
     rw [HG l6] at ad;exact .same R (Wa k2 (Gd he.1) rF h1 ad hlen) (.string _)
  ·cases aa
def rG (cs:List V) (off:Nat):List V→List V
 | []=>cs
 | v::r=>rG (cs.set off v) (off+1) r
def pS (place:Nat→Option (Nat×Nat)) (cs:List V):List (Nat×V)→Option (List V)
 | []=>some cs
 | (i,v)::r=>match place i,v.cells with
  | some (off,size),some vs=>if vs.length=size∧off+size≤cs.length then pS place (rG cs off vs) r else none
  | _,_=>none
theorem dQ.set {ρ:Ren} {xs:List V} {eV:Array Value} (h:dQ ρ xs eV) {v:V} {v':Value} (aH:aB ρ v v') (n:Nat):dQ ρ (xs.set n v) (eV.setIfInBounds n v'):=by
 refine ⟨by simp [h.1],fun k a b aP al=>?_⟩
 rw [ayi] at al;rw [awJ] at aP;by_cases hk:n=k
 ·subst hk;simp at aP al;obtain ⟨_,rfl⟩:=aP;obtain ⟨_,rfl⟩:=al;exact aH
 ·simp [hk] at aP al;exact h.2 k a b aP al
theorem foldl_rel {ρ:Ren} (off:Nat):∀ (l:List V) (bU:List Value) (j:Nat) (cs:List V) (cs':Array Value),aX ρ l bU→dQ ρ cs cs' →
  dQ ρ (rG cs (off+j) l) ((bU.zipIdx j).foldl (fun cs p=>cs.setIfInBounds (off+p.2) p.1) cs')
 | [],bU,j,cs,cs',aw,ay=>by rw [aw.eq_nil];exact ay
 | v::l,bU,j,cs,cs',aw,ay=>by
  obtain ⟨v',iW,rfl,aH,bE⟩:=aw.dB;simp only [List.zipIdx_cons,List.foldl_cons,rG];have:=foldl_rel off l iW (j+1) _ _ bE (ay.set aH (off+j));rwa [←awy] at this
def tB (ρ:Ren):List (Nat×V)→List (Nat×Value)→Prop
 | [],[]=>True
 | (i,v)::r,(Dl,v')::c0=>i=Dl∧aB ρ v v'∧tB ρ r c0
 | _,_=>False
theorem Rh {ρ:Ren} (place:Nat→Option (Nat×Nat)):∀ (ps:List (Nat×V)) (n9:List (Nat×Value)) (cs:List V) (cs':Array Value) (r:List V),tB ρ ps n9→dQ ρ cs cs'→pS place cs ps=some r →
  ∃ c0,Instr.fill place cs' n9=some c0∧dQ ρ r c0
 | [],[],cs,cs',r,_,ay,h=>by simp [pS] at h;subst h;exact ⟨cs',rfl,ay⟩
 | (i,v)::ps,(Dl,v')::n9,cs,cs',r,aU,ay,h=>by
  obtain ⟨rfl,aH,aU⟩:=aU;unfold pS at h;split at h
  case h_2=>cases h
  rename_i off size vs ll rC;split at h
  case isFalse=>cases h
  rename_i lk;unfold Instr.fill;have cI:=aH.cells rC;have bo:v'.cells.size=vs.length:=by simpa using cI.1.symm
  simp only [ll,bo,←ay.1];rw [if_neg (by simp;omega)]
  have aC:∀ (a:Array Value) (c:Array Value),a.zipIdx.foldl (fun cs (x:Value×Nat)=>cs.setIfInBounds (off+x.2) x.1) c=(a.toList.zipIdx).foldl (fun cs p=>cs.setIfInBounds (off+p.2) p.1) c:=fun a c=>by
   rw [←Array.foldl_toList];simp
  rw [show (v'.cells.zipIdx.foldl (fun cs (x:Value×Nat)=>match x with | (c,j)=>cs.setIfInBounds (off+j) c) cs')=_ from aC v'.cells cs']
  exact Rh place ps n9 _ _ r aU (foldl_rel off vs v'.cells.toList 0 cs cs' cI ay) h
 | [],_::_,_,_,_,aU,_,_=>by simp [tB] at aU
 | _::_,[],_,_,_,aU,_,_=>by simp [tB] at aU
def ML (P:Program) (t:TypeId):Option (List (Nat×Nat)):=match P.underlying t with
 | some (.struct fields)=>fields.toList.mapM (fun f=>(P.info? f.type).map fun i=>(f.offset,i.size))
 | _=>none
def Ah (P:Program) (t:TypeId):Option (Nat×TypeId):=match P.underlying t with
 | some (.array n e)=>some (n,e)
 | _=>none
def Dm (P:Program) (t:TypeId) (parts:List (Nat×V)):Option V :=
 match gR P t,ML P t with
 | some zs,some places=>(pS (places[·]?) zs parts).map .agg
 | some zs,none=>match Ah P t with
  | some (_,e)=>match cC P e with
   | some sz=>(pS (fun i=>some (i * sz,sz)) zs parts).map .agg
   | none=>none
  | none=>none
 | _,_=>none
theorem af9 {P:Program} {t:TypeId} {ps:List (Nat×V)} {n9:Array (Nat×Value)} {v:V} {h:I} (aa:Dm P t ps=some v) {ρ:Ren} {B:Nat} {aJ w:World} (R:aR ρ B aJ h w)
  (aU:tB ρ ps n9.toList):bP P (Instr.build t n9) ρ w v:=by
 unfold Dm at aa;have key:∀ (place:Nat→Option (Nat×Nat)) (zs:List V),gR P t=some zs→(∀ z,la P t=some z→P.built t n9.toList=Instr.fill place z.cells n9.toList)→(pS place zs ps).map V.agg=some v→bP P (Instr.build t n9) ρ w v:=fun place zs bR al av=>by
  obtain ⟨z,bR,eK⟩:=F6 bR;cases ay:pS place zs ps with
  | none=>simp [ay] at av
  | some cells=>
   simp [ay] at av;subst av;obtain ⟨xq,b8,aL⟩:=Rh place _ _ _ _ _ aU (eK ρ).jz ay;exact bP.mk (run_build w t n9 xq (by rw [al z bR];exact b8)) aL.agg
 split at aa
 ·rename_i zs places bR ll;refine key _ zs bR (fun z uq=>?_) aa;unfold ML at ll;split at ll
  case h_2=>cases ll
  rename_i fields hu;unfold Program.built;cases hit:P.info? t with
  | none=>simp [la,hit] at uq
  | some it=>
   simp [la,hit] at uq;simp [hu,uq,ll]
 ·rename_i zs bR ll;split at aa
  case h_2=>cases aa
  rename_i n e rD;split at aa
  case h_2=>cases aa
  rename_i sz bo;refine key _ zs bR (fun z uq=>?_) aa;unfold Ah at rD;split at rD
  case h_2=>cases rD
  rename_i rH ed hu;simp at rD;obtain ⟨rfl,rfl⟩:=rD;unfold Program.built;cases hit:P.info? t with
  | none=>simp [la,hit] at uq
  | some it=>
   simp [la,hit] at uq;cases pT:P.info? ed with
   | none=>simp [cC,pT] at bo
   | some auI=>
    simp [cC,pT] at bo;subst bo;simp [hu,uq];rw [pT]
 ·cases aa
def ie (P:Program) (t:TypeId) (len:Nat) (parts:List (Nat×V)) (h:I):Option (V×I) :=
 match jp P t with
 | none=>none
 | some e=>
  match cC P e,gR P e with
  | some sz,some zs=>
   if zs.length=sz∧len * sz≤2 ^ 24∧len≤2 ^ 24 then
    match pS (fun i=>some (i * sz,sz)) (made zs len) parts with
    | some cells=>some (.bj h.n 0 len len,h.push (.cells cells e none))
    | none=>none
   else none
  | _,_=>none
theorem aga {P:Program} {t:TypeId} {len:Nat} {ps:List (Nat×V)} {n9:Array (Nat×Value)} {v:V} {h h':I} (aa:ie P t len ps h=some (v,h')) {ρ:Ren} {B:Nat} {aJ w:World}
  (R:aR ρ B aJ h w) (aU:tB ρ ps n9.toList):Yields P (Instr.buildSlice t len n9) ρ B aJ w v h':=by
 unfold ie at aa;split at aa
 case h_1=>cases aa
 rename_i e he;have hu:P.underlying t=some (.slice e):=by
  unfold jp at he;split at he
  ·rename_i hu;rw [hu];simpa using he
  ·cases he
 split at aa
 case h_2=>cases aa
 rename_i sz zs bo fb;split at aa
 case isFalse=>cases aa
 rename_i ay;obtain ⟨bt,c3,eP⟩:=ay;split at aa
 case h_2=>cases aa
 rename_i cells av;simp at aa;obtain ⟨rfl,rfl⟩:=aa;obtain ⟨z,bR,eK⟩:=F6 fb;have wo:z.cells.size=sz:=by have:=(eK ρ).1;simp at this;omega
 cases ab:P.info? e with
 | none=>simp [la,ab] at bR
 | some cg=>
 simp [la,ab] at bR;simp [cC,ab] at bo;have hm:dQ ρ (made zs len) (made z.cells.toList len).toArray:=((eK ρ).made len).arr;obtain ⟨xq,b8,aL⟩:=Rh _ _ _ _ _ _ aU hm av;obtain ⟨ρ',hle,aG,eu⟩:=Q9 R e aL.list len;have l3:len<cj:=by unfold cj;omega
 have cE:(Instr.buildSlice t len n9).run P w=.ok (.slice (some ⟨w.heap.size,0,none⟩) len len) (w.alloc (.cells xq e)):=by
  have nC:(Array.range (len * cg.size)).map (z.cells[· % z.cells.size]!)=(made z.cells.toList len).toArray:=by
   have:=MI z.cells len;rw [wo,←bo] at this;apply avE;simpa [madeCells] using this
  have eh:¬(2 ^ 24<len * cg.size):=by rw [bo];omega
  by_cases aK:len * cg.size=0
  ·have tc:(#[]:Array Value)=(made z.cells.toList len).toArray:=by rw [←nC,aK];simp [Array.range_zero']
   rw [←tc,←bo] at b8;have E1:len=0∨cg.size=0:=awz.1 aK;simp [Instr.buildSlice,run_underlying hu,sizeOf,typeInfo,ab,aK,E1,b8,newRow,Array.range_zero']
  ·have E1:¬(len=0∨cg.size=0):=fun h=>aK (awz.2 h);rw [←nC,←bo] at b8;have Ri:¬(16777216<len * cg.size):=by omega
   simp [Instr.buildSlice,run_underlying hu,sizeOf,typeInfo,zeroValue,bR,ab,Ri,aK,b8,newRow]
 refine ⟨ρ',_,_,cE,?_,by simpa using eu,hle⟩
 have:=aB.bj aG 0 len len (by simp [fz,l3])
 simpa [fz,l3] using this
def Dn (P:Program) (t:TypeId) (cs:List V) (off:Nat):Option V :=
 match mj P t,cC P t with
 | some true,some n=>some (.agg ((cs.drop off).take n))
 | some false,some _=>cs[off]?
 | _,_=>none
theorem dQ.part {P:Program} {ρ:Ren} {cs:List V} {cs':Array Value} (h:dQ ρ cs cs') {t:TypeId} {off:Nat} {v:V} (aa:Dn P t cs off=some v) (w:World) :
  ∃ v',(Go.part t cs' off).run P w=.ok v' w∧aB ρ v v':=by
 unfold Dn at aa;cases ab:P.info? t with
 | none=>simp [cC,ab] at aa
 | some cg=>
 cases hu:P.underlying t with
 | none=>simp [mj,hu] at aa
 | some d=>
 simp only [mj,hu,cC,ab,avI] at aa;cases bf:d.isRow with
 | true=>
  simp only [bf] at aa;obtain rfl:_=v:=by simpa using aa
  have xi:(isAgg t).run P w=.ok true w:=by
   unfold isAgg;rw [Sem.run_bind,run_underlying hu w];cases d<;>simp_all
  refine ⟨.agg (cs'.extract off (off+cg.size)),by simp [Go.part,xi,sizeOf,typeInfo,ab],?_⟩
  have ad:=((h.list.drop off).take cg.size).arr;have aC:∀ a:Array Value,((a.toList.drop off).take cg.size).toArray=a.extract off (off+cg.size):=fun a=>by
   apply avE;simp
  rw [aC] at ad;exact ad.agg
 | false=>
  simp only [bf] at aa;have xi:(isAgg t).run P w=.ok false w:=by
   unfold isAgg;rw [Sem.run_bind,run_underlying hu w];cases d<;>simp_all
  have aM:off<cs.length:=(VX.1 aa).1;have tC:off<cs'.size:=by rw [←h.1];exact aM
  refine ⟨cs'[off],by simp [Go.part,xi,avd tC],h.2 off v _ aa (avd tC)⟩
def Ge (P:Program) (t:TypeId) (x:V) (k:Nat):Option V :=
 match P.underlying t,x with
 | some (.struct eb),.agg cs=>match eb[k]? with
  | some f=>Dn P f.type cs f.offset
  | none=>none
 | _,_=>none
def Dp (P:Program) (t:TypeId) (x jy:V):Option V :=
 match P.underlying t,x,jy with
 | some (.array len e),.agg cs,.int _ n=>match cC P e with
  | some sz=>if 0≤n∧n<len then Dn P e cs (n.toNat * sz) else none
  | none=>none
 | some .string,.string s,.int _ n=>if 0≤n then match s[n.toNat]? with
  | some b=>some (.int .u8 b.toNat)
  | none=>none else none
 | _,_,_=>none
def dS (P:Program) (t:TypeId) (x:V) (h:I):Option V :=
 match P.underlying t,x with
 | some .string,.string s=>some (.int .i64 s.size)
 | some (.slice _),.bj _ _ n _=>some (.int .i64 n)
 | some (.slice _),.ah n _=>some (.int .i64 n)
 | some (.slice _),.ag=>some (.int .i64 0)
 | some (.slice _),.z0=>some (.int .i64 0)
 | some (.array n _),_=>some (.int .i64 n)
 | some (.pointer arr),_=>match P.underlying arr with
  | some (.array n _)=>some (.int .i64 n)
  | _=>none
 | some (.map _ _),.ff=>some (.int .i64 0)
 | some (.map _ _),.map i=>match h.get i with
  | .map es _=>some (.int .i64 es.length)
  | _=>none
 | _,_=>none
def d6 (P:Program) (x:V) (asserted:TypeId) (ok:Bool):Option V :=
 match P.underlying asserted,x with
 | some (.interface _),_=>none
 | some _,.iface t v=>
  if t=asserted then some (if ok then .tuple [v,.bool true] else v)
  else if ok then (match la P asserted with | some z=>some (.tuple [fg z,.bool false]) | none=>none) else none
 | _,_=>none
theorem agb {P:Program} {t:TypeId} {x v:V} {b0:Value} {k:Nat} {h:I} (aa:Ge P t x k=some v) {ρ:Ren} {B:Nat} {aJ w:World} (R:aR ρ B aJ h w) (aj:aB ρ x b0) :
  bP P (Instr.field t b0 k) ρ w v:=by
 unfold Ge at aa;split at aa
 case h_2=>cases aa
 rename_i eb cs hu;cases aj with
 | agg bo aj=>
 split at aa
 case h_2=>cases aa
 rename_i f av;obtain ⟨v',aL,aH⟩:=dQ.part ⟨bo,aj⟩ aa w;refine bP.mk ?_ aH;simp [Instr.field,run_underlying hu,av,asAgg,aL]
theorem agc {P:Program} {t:TypeId} {x jy v:V} {b0 Bq:Value} {h:I} (aa:Dp P t x jy=some v) {ρ:Ren} {B:Nat} {aJ w:World} (R:aR ρ B aJ h w) (aj:aB ρ x b0) (fq:aB ρ jy Bq) :
  bP P (Instr.index t b0 Bq) ρ w v:=by
 unfold Dp at aa;split at aa
 ·rename_i len e cs k n hu;cases fq;cases aj with
  | agg bo aj=>
  split at aa
  case h_2=>cases aa
  rename_i sz bR;split at aa
  case isFalse=>cases aa
  rename_i al;obtain ⟨v',aL,aH⟩:=dQ.part ⟨bo,aj⟩ aa w;refine bP.mk ?_ aH;cases ab:P.info? e with
  | none=>simp [cC,ab] at bR
  | some cg=>
   simp [cC,ab] at bR;simp [Instr.index,asIntOf,run_underlying hu,al,sizeOf,typeInfo,ab,bR,aL]
 ·rename_i s k n hu;cases fq;cases aj;split at aa
  case isFalse=>cases aa
  rename_i al;split at aa
  case h_2=>cases aa
  rename_i b wk;obtain rfl:_=v:=by simpa using aa
  refine bP.mk ?_ (.int _ _);simp only [Instr.index,asIntOf,Sem.run_bind,Sem.run_pure,Result.andThen_ok,run_underlying hu,if_pos al,wk]
 ·cases aa
theorem run_getObj_map {P:Program} {w:World} {b:Nat} {es:Array MapEntry} {c:Nat} (h:w.heap[b]?=some (.map es c)):(getObj b).run P w=.ok (.map es c) w:=by
 simp [getObj,Sem.run,h]
theorem Wb {P:Program} {w:World} {b:Nat} {m:Option Nat} {s:Nat} {MM:Array Nat} {st:Nat} (h:w.heap[b]?=some (.mapIter m s MM st)):(getObj b).run P w=.ok (.mapIter m s MM st) w:=by
 simp [getObj,Sem.run,h]
theorem agd {P:Program} {t ty:TypeId} {x v:V} {b0:Value} {h:I} (aa:dS P t x h=some v) {ρ:Ren} {B:Nat} {aJ w:World} (R:aR ρ B aJ h w) (aj:aB ρ x b0) :
  bP P (Builtin.len_ #[t] ty #[b0]) ρ w v:=by
 unfold dS at aa;split at aa
 ·rename_i s hu;cases aj;obtain rfl:_=v:=by simpa using aa
  exact bP.mk (by simp [Builtin.len_,run_underlying hu,goInt]) (.int _ _)
 ·rename_i e b o n c hu;obtain rfl:_=v:=by simpa using aa
  obtain ⟨_,_,_,_,rfl⟩:=aj.gm;exact bP.mk (by simp [Builtin.len_,run_underlying hu,goInt]) (.int _ _)
 ·rename_i e n cs hu;obtain rfl:_=v:=by simpa using aa
  rcases aj.j1 with ⟨rfl,rfl,a,kN,aP,rfl⟩ | ⟨_,_,_,_,_,_,_,_,rfl⟩
  ·exact bP.mk (by simp [Builtin.len_,run_underlying hu,goInt]) (.int _ _)
  ·exact bP.mk (by simp [Builtin.len_,run_underlying hu,goInt]) (.int _ _)
 ·rename_i e hu;obtain rfl:_=v:=by simpa using aa
  cases aj;exact bP.mk (by simp [Builtin.len_,run_underlying hu,goInt]) (.int _ _)
 ·rename_i e hu;obtain rfl:_=v:=by simpa using aa
  cases aj;exact bP.mk (by simp [Builtin.len_,run_underlying hu,goInt]) (.int _ _)
 ·rename_i n e hu;obtain rfl:_=v:=by simpa using aa
  exact bP.mk (by simp [Builtin.len_,run_underlying hu,goInt]) (.int _ _)
 ·rename_i arr hu;split at aa
  case h_2=>cases aa
  rename_i n e rF;obtain rfl:_=v:=by simpa using aa
  exact bP.mk (by simp [Builtin.len_,run_underlying hu,run_underlying rF,goInt]) (.int _ _)
 ·rename_i k e hu;obtain rfl:_=v:=by simpa using aa
  cases aj;exact bP.mk (by simp [Builtin.len_,run_underlying hu,goInt]) (.int _ _)
 ·rename_i k e i hu;split at aa
  case h_2=>cases aa
  rename_i es cl az;obtain rfl:_=v:=by simpa using aa
  cases aj with
  | map hi=>
  have aN:=R.heap.obj i;rw [az] at aN;obtain ⟨b,bA,arr,aL,_,_,hw,hm⟩:=aN;rw [aL] at hi;simp at hi;obtain ⟨rfl,rfl⟩:=hi;exact bP.mk (by simp [Builtin.len_,run_underlying hu,run_getObj_map hw,goInt,hm.1]) (.int _ _)
 ·cases aa
theorem age {P:Program} {x v:V} {b0:Value} {HI asserted:TypeId} {ok:Bool} {h:I} (aa:d6 P x asserted ok=some v) {ρ:Ren} {B:Nat} {aJ w:World} (R:aR ρ B aJ h w) (aj:aB ρ x b0) :
  bP P (Instr.typeAssert b0 HI asserted ok) ρ w v:=by
 unfold d6 at aa;split at aa
 ·cases aa
 ·rename_i d t u ta hu;cases aj with
  | iface t aH=>
  rename_i tz;split at aa
  ·rename_i bE;obtain rfl:_=v:=by simpa using aa
   refine bP.mk (v':=if ok then .tuple #[tz,.bool true] else tz) ?_ ?_
   ·cases d with
    | interface ms=>exact absurd rfl (ta ms)
    | _=>cases ok<;>simp [Instr.typeAssert,run_underlying hu,bE]
   ·cases ok
    ·exact aH
    ·simp only [if_true];exact ((aX.cons aH (.cons (.bool true) (.nil ρ))).arr).tuple
  ·rename_i bE;split at aa
   case isFalse=>cases aa
   rename_i aY;subst aY;split at aa
   case h_2=>cases aa
   rename_i z bR;obtain rfl:_=v:=by simpa using aa
   refine bP.mk (v':=.tuple #[z,.bool false]) ?_ ((aX.cons (De ρ z) (.cons (.bool false) (.nil ρ))).arr).tuple;cases ab:P.info? asserted with
   | none=>simp [la,ab] at bR
   | some cg=>
    simp [la,ab] at bR;cases d with
    | interface ms=>exact absurd rfl (ta ms)
    | _=>simp [Instr.typeAssert,run_underlying hu,bE,zeroValue,typeInfo,ab,bR]
 ·cases aa
def yU:TypeDesc→Bool
 | .int _ | .string | .bool=>true
 | _=>false
def wU (P:Program) (c4:TypeId) (d:TypeDesc) (a b:V):Option Bool :=
 match pk a,pk b with
 | some a,some b=>if yU d then Instr.sameNow d a b else ey P (Op.equal c4 a b)
 | _,_=>none
def oQ (P:Program) (c4:TypeId) (d:TypeDesc) (k:V):List (Nat×V×V)→Option (Option Nat)
 | []=>some none
 | e::es=>match wU P c4 d k e.2.1 with
  | some true=>some (some 0)
  | some false=>(oQ P c4 d k es).map (·.map (·+1))
  | none=>none
theorem gh.dB {ρ:Ren} {e:Nat×V×V} {es:List (Nat×V×V)} {arr:Array MapEntry} (h:gh ρ (e::es) arr):∃ ed fE,arr.toList=ed::fE∧e.1=ed.born∧aB ρ e.2.1 ed.key∧aB ρ e.2.2 ed.val∧gh ρ es fE.toArray:=by
 have aw:=h.1;cases aP:arr.toList with
 | nil=>
  have:arr.size=0:=by rw [←av3,aP];rfl
  simp at aw;omega
 | cons ed fE=>
  have hk:∀ k:Nat,arr[k]?=(ed::fE)[k]?:=fun k=>by rw [←avF,aP]
  obtain ⟨a,b,c⟩:=h.2 0 e ed rfl (by rw [hk];rfl)
  refine ⟨ed,fE,rfl,a,b,c,?_,fun k x y aj bp=>h.2 (k+1) x y (by simpa using aj) (by rw [hk];simpa using bp)⟩
  have:arr.size=fE.length+1:=by rw [←av3,aP];rfl
  simp at aw⊢;omega
theorem Wc {P:Program} {ρ:Ren} {c4:TypeId} {d:TypeDesc} (bf:yU d=true) {k:V} {k':Value} (hk:aB ρ k k'):∀ (es:List (Nat×V×V)) (l:List MapEntry) (i:Nat) (r:Option Nat),gh ρ es l.toArray→oQ P c4 d k es=some r →
  Instr.findNow d k' l i=some (match r with | some j=>(l[j]?).map fun e=>(i+j,e.val) | none=>none)∧(∀ j,r=some j→j<l.length)
 | [],l,i,r,hm,h=>by
  have:l=[]:=by have:=hm.1;simp at this;exact avA this.symm
  subst this;simp [oQ] at h;subst h;exact ⟨rfl,by simp⟩
 | e::es,l,i,r,hm,h=>by
  obtain ⟨ed,fE,aw,al,gn,wq,gF⟩:=hm.dB;obtain rfl:l=ed::fE:=by simpa using aw
  unfold oQ at h;have aa:∀ b,wU P c4 d k e.2.1=some b→Instr.sameNow d k' ed.key=some b:=fun b al=>by
   unfold wU at al;split at al
   ·rename_i a c aP ay;rw [if_pos bf] at al;rw [xg hk aP,xg gn ay];exact al
   ·cases al
  unfold Instr.findNow;split at h
  ·rename_i heq;rw [aa _ heq];obtain rfl:some 0=r:=by simpa using h
   exact ⟨rfl,by simp⟩
  ·rename_i heq;rw [aa _ heq];cases bE:oQ P c4 d k es with
   | none=>simp [bE] at h
   | some c0=>
    simp [bE] at h;obtain ⟨h1,ad⟩:=Wc bf hk es fE (i+1) c0 gF bE;subst h;simp only;rw [h1];cases c0 with
    | none=>exact ⟨rfl,by simp⟩
    | some j=>
     have:=ad j rfl;simp [ME this,awN,aAi,this]
  ·cases h
theorem Wd {P:Program} {ρ:Ren} {c4:TypeId} {d:TypeDesc} (bf:yU d=false) {k:V} {k':Value} (hk:aB ρ k k') {w:World}:∀ (es:List (Nat×V×V)) (l:List MapEntry) (i:Nat) (r:Option Nat),gh ρ es l.toArray→oQ P c4 d k es=some r →
  (Instr.findAsking c4 k' l i).run P w=.ok (match r with | some j=>(l[j]?).map fun e=>(i+j,e.val) | none=>none) w∧(∀ j,r=some j→j<l.length)
 | [],l,i,r,hm,h=>by
  have:l=[]:=by have:=hm.1;simp at this;exact avA this.symm
  subst this;simp [oQ] at h;subst h;exact ⟨rfl,by simp⟩
 | e::es,l,i,r,hm,h=>by
  obtain ⟨ed,fE,aw,al,gn,wq,gF⟩:=hm.dB;obtain rfl:l=ed::fE:=by simpa using aw
  unfold oQ at h;have aa:∀ b,wU P c4 d k e.2.1=some b→(Op.equal c4 k' ed.key).run P w=.ok b w:=fun b al=>by
   unfold wU at al;split at al
   ·rename_i a c aP ay;rw [if_neg (by simp [bf])] at al
    rw [xg hk aP,xg gn ay];exact Bt al w
   ·cases al
  unfold Instr.findAsking;rw [Sem.run_bind];split at h
  ·rename_i heq;rw [aa _ heq];obtain rfl:some 0=r:=by simpa using h
   exact ⟨by simp,by simp⟩
  ·rename_i heq;rw [aa _ heq];cases bE:oQ P c4 d k es with
   | none=>simp [bE] at h
   | some c0=>
    simp [bE] at h;obtain ⟨h1,ad⟩:=Wd bf hk es fE (i+1) c0 gF bE;subst h;simp only [Result.andThen_ok,avO,if_false];rw [h1];cases c0 with
    | none=>exact ⟨rfl,by simp⟩
    | some j=>
     have:=ad j rfl;simp [ME this,awN,aAi,this]
  ·cases h
theorem agf {d:TypeDesc} (bf:yU d=false) (a b:Value):Instr.sameNow d a b=none:=by
 cases d<;>simp [yU] at bf<;>rfl
theorem Ai {P:Program} {ρ:Ren} {c4:TypeId} {d:TypeDesc} (hu:P.underlying c4=some d) {k:V} {k':Value} (hk:aB ρ k k') {w:World} {es:List (Nat×V×V)} {arr:Array MapEntry} {r:Option Nat} (hm:gh ρ es arr) (h:oQ P c4 d k es=some r) :
  (Instr.findKey c4 k' arr.toList).run P w=.ok (r.bind fun j=>(arr[j]?).map fun e=>(j,e.val)) w∧(∀ j,r=some j→j<arr.size):=by
 unfold Instr.findKey;rw [Sem.run_bind,run_underlying hu,Result.andThen_ok];have gF:gh ρ es arr.toList.toArray:=by simpa using hm
 cases bf:yU d with
 | true=>
  obtain ⟨h1,ad⟩:=Wc bf hk es arr.toList 0 r gF h;rw [h1];refine ⟨?_,fun j aV=>by simpa using ad j aV⟩
  cases r<;>simp
 | false=>
  obtain ⟨h1,ad⟩:=Wd (w:=w) bf hk es arr.toList 0 r gF h;refine ⟨?_,fun j aV=>by simpa using ad j aV⟩
  cases aP:arr.toList with
  | nil=>
   have he:es=[]:=by
    have aD:=hm.1;rw [←av3,aP] at aD;exact avA aD
   subst he;simp [oQ] at h;subst h;simp [Instr.findNow]
  | cons e l=>
   have:Instr.findNow d k' (e::l) 0=none:=by unfold Instr.findNow;rw [agf bf]
   rw [this];rw [aP] at h1;simp only;rw [h1];cases r with
   | none=>rfl
   | some j=>
    have aC:arr[j]?=(e::l)[j]?:=by rw [←avF,aP]
    simp [aC]
def xr (P:Program) (empty:Bool) (c4:TypeId) (k:V):Bool :=
 match pk k with
 | some a=>(ey P (Instr.checkKey empty 10000 c4 a)).isSome
 | none=>false
theorem Aj {P:Program} {empty:Bool} {c4:TypeId} {k:V} {k':Value} {ρ:Ren} (h:xr P empty c4 k=true) (hk:aB ρ k k') (w:World):(Instr.checkKey empty 10000 c4 k').run P w=.ok () w:=by
 unfold xr at h;split at h
 ·rename_i a aP;rw [xg hk aP];cases aU:ey P (Instr.checkKey empty 10000 c4 a) with
  | none=>simp [aU] at h
  | some u=>exact Bt aU w
 ·cases h
def eL (P:Program) (t:TypeId):Option (TypeId×TypeId×TypeDesc) :=
 match P.underlying t with
 | some (.map k e)=>(P.underlying k).map fun d=>(k,e,d)
 | _=>none
theorem xt {P:Program} {t k e:TypeId} {d:TypeDesc} (h:eL P t=some (k,e,d)):P.underlying t=some (.map k e)∧P.underlying k=some d:=by
 unfold eL at h;split at h
 ·rename_i k' ed hu;cases hk:P.underlying k' with
  | none=>simp [hk] at h
  | some pU=>
   simp [hk] at h;obtain ⟨rfl,rfl,rfl⟩:=h;exact ⟨hu,hk⟩
 ·cases h
def nj (P:Program) (t:TypeId) (m k:V) (ok:Bool) (h:I):Option V :=
 match eL P t with
 | none=>none
 | some (c4,h3,d)=>
  match la P h3,m with
  | some z,.ff=>if xr P true c4 k then some (if ok then .tuple [fg z,.bool false] else fg z) else none
  | some z,.map i=>
   match h.get i with
   | .map es _=>
    if xr P es.isEmpty c4 k then
     match oQ P c4 d k es with
     | some (some j)=>(es[j]?).map fun e=>if ok then .tuple [e.2.2,.bool true] else e.2.2
     | some none=>some (if ok then .tuple [fg z,.bool false] else fg z)
     | none=>none
    else none
   | _=>none
  | _,_=>none
theorem Rj {ρ:Ren} {v:V} {v':Value} (h:aB ρ v v') (b:Bool) (ok:Bool):aB ρ (if ok then .tuple [v,.bool b] else v) (if ok then .tuple #[v',.bool b] else v'):=by
 cases ok
 ·exact h
 ·exact ((aX.cons h (.cons (.bool b) (.nil ρ))).arr).tuple
theorem MN {P:Program} {e:TypeId} {z:Value} (h:la P e=some z) (w:World):(zeroValue e).run P w=.ok z w:=by
 cases ab:P.info? e with
 | none=>simp [la,ab] at h
 | some cg=>simp [la,ab] at h;simp [zeroValue,typeInfo,ab,h]
theorem agh {P:Program} {t:TypeId} {m k v:V} {fp k':Value} {ok:Bool} {h:I} (aa:nj P t m k ok h=some v) {ρ:Ren} {B:Nat} {aJ w:World} (R:aR ρ B aJ h w) (hm:aB ρ m fp) (hk:aB ρ k k') :
  bP P (Instr.lookup t fp k' ok) ρ w v:=by
 unfold nj at aa;split at aa
 ·cases aa
 rename_i c4 h3 d cd;obtain ⟨hu,qX⟩:=xt cd;split at aa
 ·rename_i z bR;split at aa
  case isFalse=>cases aa
  rename_i oa;obtain rfl:_=v:=by simpa using aa
  cases hm;refine bP.mk ?_ (Rj (De ρ z) false ok);have av:=(Ai (P:=P) (w:=w) (arr:=#[]) (es:=[]) (r:=none) qX hk ⟨rfl,by simp⟩ rfl).1
  simp only [Instr.lookup,Sem.run_bind,Sem.run_pure,run_underlying hu,Result.andThen_ok];rw [show (#[]:Array MapEntry).isEmpty=true from rfl,Aj oa hk w,Result.andThen_ok,av]
  simp [MN bR]
 ·rename_i z i bR;split at aa
  case h_2=>cases aa
  rename_i es cl az;split at aa
  case isFalse=>cases aa
  rename_i oa;cases hm with
  | map hi=>
  have aN:=R.heap.obj i;rw [az] at aN;obtain ⟨b,bA,arr,aL,_,_,hw,dN⟩:=aN;rw [aL] at hi;simp at hi;obtain ⟨rfl,rfl⟩:=hi;have rI:es.isEmpty=arr.isEmpty:=by
   have:=dN.1;rw [avv,aw5,axF,←awq,←ayj,this]
  rw [rI] at oa;split at aa
  ·rename_i j av;obtain ⟨h1,ad⟩:=Ai (P:=P) (w:=w) qX hk dN av;have aV:=ad j rfl;have jj:j<es.length:=by rw [dN.1];exact aV
   rw [ME jj] at aa;obtain rfl:_=v:=by simpa using aa
   obtain ⟨_,_,aH⟩:=dN.2 j _ _ (ME jj) (avd aV);refine bP.mk ?_ (Rj aH true ok);simp only [Instr.lookup,Sem.run_bind,Sem.run_pure,run_underlying hu,run_getObj_map hw,Result.andThen_ok];rw [Aj oa hk w,Result.andThen_ok,h1];simp [avd aV]
  ·rename_i av;obtain ⟨h1,ad⟩:=Ai (P:=P) (w:=w) qX hk dN av;obtain rfl:_=v:=by simpa using aa
   refine bP.mk ?_ (Rj (De ρ z) false ok);simp only [Instr.lookup,Sem.run_bind,Sem.run_pure,run_underlying hu,run_getObj_map hw,Result.andThen_ok];rw [Aj oa hk w,Result.andThen_ok,h1];simp [MN bR]
  ·cases aa
 ·cases aa
def vB (P:Program) (t:TypeId) (m k v:V) (h:I):Option I :=
 match eL P t,m with
 | some (c4,h3,d),.map i=>
  match h.get i with
  | .map es cl=>
   if xr P false c4 k then
    match oQ P c4 d k es with
    | some (some j)=>
     match (es[j]?).bind fun e=>pk e.2.1,pk k with
     | some a,some b=>if Instr.sameBits 10000 a b=true then some (h.set i (.map (es.modify j fun e=>(e.1,k,v)) cl)) else none
     | _,_=>none
    | some none=>some (h.set i (.map (es++[(cl,k,v)]) (cl+1)))
    | none=>none
   else none
  | _=>none
 | _,_=>none
theorem run_setObj_map {P:Program} {w:World} {b:Nat} {es:Array MapEntry} {c:Nat} (h:w.heap[b]?=some (.map es c)) (o:Obj):(setObj b o).run P w=.ok () { w with heap:=w.heap.setIfInBounds b o }:=by
 simp [setObj,Sem.run,h]
theorem agi {P:Program} {w:World} {b:Nat} {m:Option Nat} {s:Nat} {MM:Array Nat} {st:Nat} (h:w.heap[b]?=some (.mapIter m s MM st)) (o:Obj):(setObj b o).run P w=.ok () { w with heap:=w.heap.setIfInBounds b o }:=by
 simp [setObj,Sem.run,h]
theorem aR.setObj {ρ:Ren} {B:Nat} {aJ:World} {h:I} {w:World} (R:aR ρ B aJ h w) {i b bA:Nat} (hi:ρ.ren i=some (b,bA)) (aw:h.get i≠.dead) (cr:B≤b) {o:aO} {ob:Obj}
  (aM:b<w.heap.size) (kL:n2 ρ B { w with heap:=w.heap.setIfInBounds b ob } i o):aR ρ B aJ (h.set i o) { w with heap:=w.heap.setIfInBounds b ob }:=by
 refine R.qh hi aw (fun k hk=>by simp [ayi,Ne.symm hk]) (by simp) ⟨rfl,rfl,rfl,by simp,fun k hk=>?_,BY _⟩ kL
 simp [ayi,show b≠k by omega]
theorem We {P:Program} {t:TypeId} {m k v:V} {fp k' v':Value} {h h':I} (aa:vB P t m k v h=some h') {ρ:Ren} {B:Nat} {aJ w:World} (R:aR ρ B aJ h w) (hm:aB ρ m fp) (hk:aB ρ k k') (aH:aB ρ v v') :
  ∃ w',(Instr.mapUpdate t fp k' v').run P w=.ok () w'∧aR ρ B aJ h' w':=by
 unfold vB at aa;split at aa
 case h_2=>cases aa
 rename_i c4 h3 d i cd;obtain ⟨hu,qX⟩:=xt cd;split at aa
 case h_2=>cases aa
 rename_i es cl az;split at aa
 case isFalse=>cases aa
 rename_i oa;cases hm with
 | map hi=>
 have aN:=R.heap.obj i;rw [az] at aN;obtain ⟨b,bA,arr,aL,l5,cr,hw,dN⟩:=aN;rw [aL] at hi;simp at hi;obtain ⟨rfl,rfl⟩:=hi;have aM:b<w.heap.size:=(avl.1 hw).1;split at aa
 ·rename_i j av;split at aa
  case h_2=>cases aa
  rename_i a c aP ay;split at aa
  case isFalse=>cases aa
  rename_i HJ;obtain rfl:_=h':=by simpa using aa
  obtain ⟨h1,ad⟩:=Ai (P:=P) (w:=w) qX hk dN av;have aV:=ad j rfl;have jj:j<es.length:=by rw [dN.1];exact aV
  obtain ⟨_,gn,_⟩:=dN.2 j _ _ (ME jj) (avd aV);rw [ME jj] at aP;simp at aP;have aC:=xg gn aP;have bd:=xg hk ay;have eu:=R.setObj (o:=.map (es.modify j fun e=>(e.1,k,v)) cl) (ob:=.map (arr.modify j fun e=>{ e with key:=k',val:=v' }) cl) aL (by rw [az];simp) cr aM (by
   refine ⟨b,bA,arr.modify j (fun e=>{ e with key:=k',val:=v' }),aL,l5,cr,by simp [aM],by simp [dN.1],fun q e ed ab ei=>?_⟩
   rw [List.getElem?_modify] at ab;rw [avP] at ei;by_cases wu:j=q
   ·subst wu;rw [ME jj] at ab;rw [avd aV] at ei;simp at ab ei;subst ab;subst ei;obtain ⟨aD,_,_⟩:=dN.2 j _ _ (ME jj) (avd aV);exact ⟨aD,hk,aH⟩
   ·simp [wu] at ab ei;exact dN.2 q e ed ab ei)
  refine ⟨_,?_,eu⟩;simp only [Instr.mapUpdate,Sem.run_bind,run_underlying hu,run_getObj_map hw,Result.andThen_ok];rw [Aj oa hk w,Result.andThen_ok,h1];have im:(Instr.keyThatStays a c).run P w=.ok c w:=by unfold Instr.keyThatStays;rw [if_pos HJ];rfl
  simp [avd aV,aC,bd,im,run_setObj_map hw]
 ·rename_i av;obtain rfl:_=h':=by simpa using aa
  obtain ⟨h1,ad⟩:=Ai (P:=P) (w:=w) qX hk dN av;have eu:=R.setObj (o:=.map (es++[(cl,k,v)]) (cl+1)) (ob:=.map (arr.push { key:=k',val:=v',born:=cl }) (cl+1)) aL (by rw [az];simp) cr aM (by
   refine ⟨b,bA,arr.push { key:=k',val:=v',born:=cl },aL,l5,cr,by simp [aM],by simp [dN.1],fun q e ed ab ei=>?_⟩
   rw [aye] at ab;rw [axG] at ei;by_cases Bv:q<es.length
   ·rw [if_pos Bv] at ab;rw [if_neg (by rw [←dN.1];omega)] at ei
    exact dN.2 q e ed ab ei
   ·rw [if_neg Bv] at ab;have HK:q=es.length:=by
     have:=(VX.1 ab).1;simp at this;omega
    subst HK;rw [if_pos dN.1] at ei;simp at ab ei;subst ab;subst ei;exact ⟨rfl,hk,aH⟩)
  refine ⟨_,?_,eu⟩;simp only [Instr.mapUpdate,Sem.run_bind,run_underlying hu,run_getObj_map hw,Result.andThen_ok];rw [Aj oa hk w,Result.andThen_ok,h1];simp [run_setObj_map hw]
 ·cases aa
def Gf (P:Program) (t:TypeId) (m k:V) (h:I):Option I :=
 match eL P t,m with
 | some (c4,h3,d),.map i=>
  match h.get i with
  | .map es cl=>
   if xr P es.isEmpty c4 k then
    match oQ P c4 d k es with
    | some (some j)=>some (h.set i (.map (es.eraseIdx j) cl))
    | some none=>some h
    | none=>none
   else none
  | _=>none
 | _,_=>none
theorem agj {P:Program} {t ty:TypeId} {ts:Array TypeId} {m k:V} {fp k':Value} {h h':I} (bE:ts[0]?=some t) (aa:Gf P t m k h=some h') {ρ:Ren} {B:Nat} {aJ w:World} (R:aR ρ B aJ h w) (hm:aB ρ m fp) (hk:aB ρ k k') :
  ∃ w',(Builtin.delete_ ts ty #[fp,k']).run P w=.ok (.tuple #[]) w'∧aR ρ B aJ h' w':=by
 unfold Gf at aa;split at aa
 case h_2=>cases aa
 rename_i c4 h3 d i cd;obtain ⟨hu,qX⟩:=xt cd;split at aa
 case h_2=>cases aa
 rename_i es cl az;split at aa
 case isFalse=>cases aa
 rename_i oa;cases hm with
 | map hi=>
 have aN:=R.heap.obj i;rw [az] at aN;obtain ⟨b,bA,arr,aL,l5,cr,hw,dN⟩:=aN;rw [aL] at hi;simp at hi;obtain ⟨rfl,rfl⟩:=hi;have aM:b<w.heap.size:=(avl.1 hw).1;have rI:es.isEmpty=arr.isEmpty:=by
  have:=dN.1;rw [avv,aw5,axF,←awq,←ayj,this]
 rw [rI] at oa;split at aa
 ·rename_i j av;obtain rfl:_=h':=by simpa using aa
  obtain ⟨h1,ad⟩:=Ai (P:=P) (w:=w) qX hk dN av;have aV:=ad j rfl;have jj:j<es.length:=by rw [dN.1];exact aV
  have eu:=R.setObj (o:=.map (es.eraseIdx j) cl) (ob:=.map (arr.eraseIdxIfInBounds j) cl) aL (by rw [az];simp) cr aM (by
   have aC:∀ q:Nat,(arr.eraseIdxIfInBounds j)[q]?=if q<j then arr[q]? else arr[q+1]?:=fun q=>by
    rw [←avF,aAj,aAk];simp
   refine ⟨b,bA,arr.eraseIdxIfInBounds j,aL,l5,cr,by simp [aM],?_,fun q e ed ab ei=>?_⟩
   ·rw [aAl,if_pos jj,←av3,aAj,aAl,if_pos (by simpa using aV),dN.1]
    simp
   ·rw [aAk] at ab;rw [aC] at ei;by_cases Ph:q<j
    ·simp only [Ph,if_true] at ab ei;exact dN.2 q e ed ab ei
    ·simp only [Ph,if_false] at ab ei;exact dN.2 _ e ed ab ei)
  refine ⟨_,?_,eu⟩;simp only [Builtin.delete_,bE,Sem.run_bind,run_underlying hu,run_getObj_map hw,Result.andThen_ok,ayl,aym,axH];rw [Aj oa hk w,Result.andThen_ok,h1];simp [avd aV,run_setObj_map hw]
 ·rename_i av;obtain rfl:_=h':=by simpa using aa
  obtain ⟨h1,ad⟩:=Ai (P:=P) (w:=w) qX hk dN av;have eu:=R.setObj (o:=.map es cl) (ob:=.map arr cl) aL (by rw [az];simp) cr aM ⟨b,bA,arr,aL,l5,cr,by simp [aM],dN⟩
  have U:h.set i (.map es cl)=h:=by
   unfold I.set
   congr 1
   funext j
   by_cases cL:j=i
   ·subst cL;simp [az]
   ·simp [cL]
  rw [U] at eu;refine ⟨_,?_,eu⟩;simp only [Builtin.delete_,bE,Sem.run_bind,run_underlying hu,run_getObj_map hw,Result.andThen_ok,ayl,aym,axH];rw [Aj oa hk w,Result.andThen_ok,h1];simp [run_setObj_map hw]
 ·cases aa
def HL (P:Program) (t:TypeId) (r:Option V) (h:I):Option (V×I) :=
 match r with
 | none=>some (.map h.n,h.push (.map [] 0))
 | some (.int _ _)=>if (eL P t).isSome then some (.map h.n,h.push (.map [] 0)) else none
 | _=>none
theorem Wf {ρ:Ren} {B:Nat} {aJ w:World} {h:I} (R:aR ρ B aJ h w) {o:aO} {ob:Obj} (kL:∀ ρ':Ren,ρ.le ρ'→ρ'.ren h.n=some (w.heap.size,0)→ρ'.frz w.heap.size=none→n2 ρ' B { w with heap:=w.heap.push ob } h.n o) :
  ∃ ρ':Ren,ρ.le ρ'∧ρ'.ren h.n=some (w.heap.size,0)∧aR ρ' B aJ (h.push o) { w with heap:=w.heap.push ob }:=by
 have Bp:ρ.frz w.heap.size=none:=by
  cases av:ρ.frz w.heap.size with
  | none=>rfl
  | some a=>
   obtain ⟨e,ho,hw⟩:=R.heap.frz _ _ av;have:=(avl.1 hw).1;omega
 have hle:=Ren.rA (R.heap.lh _ (BY _)) w.heap.size 0;obtain ⟨h1,ad⟩:=R.Aa (o:=o) (w':={ w with heap:=w.heap.push ob }) 0 (by simp) (fun k hk=>by simp [axG,show k≠w.heap.size by omega])
  ⟨rfl,rfl,rfl,by simp,fun k hk=>by have:=R.heap.base;simp [axG,show k≠w.heap.size by omega],BY _⟩ (kL _ hle Ren.ml Bp)
 exact ⟨_,h1,Ren.ml,ad⟩
theorem agk {P:Program} {t:TypeId} {r:Option V} {c0:Option Value} {v:V} {h h':I} (aa:HL P t r h=some (v,h')) {ρ:Ren} {B:Nat} {aJ w:World} (R:aR ρ B aJ h w) (aL:awp (aB ρ) r c0) :
  Yields P (Instr.makeMap t c0) ρ B aJ w v h':=by
 have key:∀ v h',some (V.map h.n,h.push (.map [] 0))=some (v,h')→(Instr.makeMap t c0).run P w=.ok (.map (some w.heap.size)) { w with heap:=w.heap.push (.map #[] 0) }→Yields P (Instr.makeMap t c0) ρ B aJ w v h':=fun v h' he cE=>by
  simp at he;obtain ⟨rfl,rfl⟩:=he;obtain ⟨ρ',hle,aG,eu⟩:=Wf R (o:=.map [] 0) (ob:=.map #[] 0) fun ρ' hle aG av=>⟨w.heap.size,0,#[],aG,av,R.heap.base,by simp,rfl,by simp⟩
  exact ⟨ρ',_,_,cE,.map aG,eu,hle⟩
 unfold HL at aa;cases aL with
 | none=>exact key v h' aa (by simp [Instr.makeMap,newObj,Sem.run])
 | some aH=>
  rename_i a b;cases a<;>simp at aa;rename_i kk n;cases aH;obtain ⟨cd,h1,ad⟩:=aa;refine key v h' (by simp [h1,ad]) ?_
  cases hm:eL P t with
  | none=>simp [hm] at cd
  | some q=>
   obtain ⟨c4,h3,d⟩:=q;simp [Instr.makeMap,run_underlying (xt hm).1,asInt,asIntOf,newObj,Sem.run]
def Gg (P:Program) (t:TypeId) (x:V) (h:I):Option (V×I) :=
 match eL P t,x with
 | some _,.map i=>match h.get i with
  | .map es cl=>some (.ptr h.n 0,h.push (.iter i cl [] cl))
  | _=>none
 | _,_=>none
theorem agl {P:Program} {t:TypeId} {x v:V} {b0:Value} {h h':I} (aa:Gg P t x h=some (v,h')) {ρ:Ren} {B:Nat} {aJ w:World} (R:aR ρ B aJ h w) (aj:aB ρ x b0) :
  Yields P (Instr.range t b0) ρ B aJ w v h':=by
 unfold Gg at aa;split at aa
 case h_2=>cases aa
 rename_i q i cd;obtain ⟨c4,h3,d⟩:=q;obtain ⟨hu,_⟩:=xt cd;split at aa
 case h_2=>cases aa
 rename_i es cl az;simp at aa;obtain ⟨rfl,rfl⟩:=aa;cases aj with
 | map hi=>
 have aN:=R.heap.obj i;rw [az] at aN;obtain ⟨b,bA,arr,aL,l5,cr,hw,dN⟩:=aN;rw [aL] at hi;simp at hi;obtain ⟨rfl,rfl⟩:=hi;obtain ⟨ρ',hle,aG,eu⟩:=Wf R (o:=.iter i cl [] cl) (ob:=.mapIter (some b) cl #[] cl) fun ρ' hle aG av=>⟨w.heap.size,0,b,bA,aG,av,R.heap.base,hle.ren _ _ aL,by simp⟩
 refine ⟨ρ',_,_,?_,.ptr aG 0,eu,hle⟩;simp [Instr.range,run_underlying hu,run_getObj_map hw,newObj,Sem.run]
def nk (es:List (Nat×V×V)) (seen:List Nat):List (Nat×V×V):=es.filter fun e=>!seen.contains e.1
def Ak (it:V) (h:I):Option (List (V×I)) :=
 match it with
 | .ptr r 0=>match h.get r with
  | .iter m since seen last=>match h.get m with
   | .map es clock=>
    if (!seen.isEmpty&&!es.isEmpty&&es.all (fun e=>decide (last≤e.1)))=true then none else
    some (
     (if (nk es seen).all (fun e=>decide (since≤e.1)) then [(.tuple [.bool false],h)] else []) ++
     (nk es seen).map fun e=>(.tuple [.bool true,e.2.1,e.2.2],h.set r (.iter m since (seen++[e.1]) clock)))
   | _=>none
  | _=>none
 | _=>none
def Gh (it:V) (h:I):Option V :=
 match it with
 | .ptr r 0=>match h.get r with
  | .iter m since seen pO=>match seen.getLast?,h.get m with
   | some sL,.map es clock=>if clock=pO then (es.find? fun e=>e.1==sL).map fun e=>.tuple [e.2.1,e.2.2] else none
   | _,_=>none
  | _=>none
 | _=>none
theorem Wg {ρ:Ren} (p:Nat→Bool):∀ (es:List (Nat×V×V)) (l:List MapEntry) (e:Nat×V×V),gh ρ es l.toArray→es.find? (fun e=>p e.1)=some e→∃ ed,l.find? (fun e=>p e.born)=some ed∧aB ρ e.2.1 ed.key∧aB ρ e.2.2 ed.val
 | [],l,e,hm,h=>by simp at h
 | a::es,l,e,hm,h=>by
  obtain ⟨ed,fE,aw,al,gn,wq,gF⟩:=hm.dB;obtain rfl:l=ed::fE:=by simpa using aw
  rw [List.find?_cons] at h⊢;rw [←al];by_cases aU:p a.1=true
  ·simp only [aU] at h⊢;obtain rfl:a=e:=by simpa using h
   exact ⟨ed,rfl,gn,wq⟩
  ·simp only [Bool.not_eq_true] at aU;simp only [aU] at h⊢;exact Wg p es fE e gF h
theorem agm {P:Program} {it v:V} {Bw:Value} {h:I} (aa:Gh it h=some v) {ρ:Ren} {B:Nat} {aJ w:World} (R:aR ρ B aJ h w) (hi:aB ρ it Bw) :
  bP P (Instr.entry Bw) ρ w v:=by
 unfold Gh at aa;split at aa
 case h_2=>cases aa
 rename_i r;split at aa
 case h_2=>cases aa
 rename_i m since seen pO xu;split at aa
 case h_2=>cases aa
 rename_i sL es clock gw HM;split at aa
 case isFalse=>cases aa
 rename_i cI;obtain ⟨HN,rc,nD,rfl⟩:=hi.pP;have aN:=R.heap.obj r;rw [xu] at aN;obtain ⟨b,bA,bm,yP,aL,l5,cr,rJ,hw⟩:=aN;rw [aL] at nD;simp at nD;obtain ⟨rfl,rfl⟩:=nD;have Bx:=R.heap.obj m;rw [HM] at Bx;obtain ⟨b7,ji,arr,iG,Rk,l7,iI,dN⟩:=Bx;rw [iG] at rJ;simp at rJ;obtain ⟨rfl,rfl⟩:=rJ;cases av:es.find? (fun e=>e.1==sL) with
 | none=>simp [av] at aa
 | some e=>
  simp [av] at aa;subst aa;obtain ⟨ed,b8,hk,aH⟩:=Wg (fun n=>n==sL) es arr.toList e (by simpa using dN) av
  have h4:arr.find? (fun x=>x.born==sL)=some ed:=by rw [←Array.find?_toList];exact b8
  have al:seen.toArray.back?=some sL:=by simpa using gw
  refine bP.mk (v':=.tuple #[ed.key,ed.val]) ?_ ((aX.cons hk (.cons aH (.nil ρ))).arr).tuple;simp only [Instr.entry,Sem.run_bind,Wb hw,Result.andThen_ok,al,run_getObj_map iI];subst cI;simp [h4]
theorem Wh {ρ:Ren} (seen:List Nat) (p:Nat→Bool):∀ (es:List (Nat×V×V)) (l:List MapEntry),gh ρ es l.toArray→gh ρ (es.filter fun e=>p e.1) (l.filter fun e=>p e.born).toArray
 | [],l,hm=>by
  have:l=[]:=by have:=hm.1;simp at this;exact avA this.symm
  subst this;exact ⟨rfl,by simp⟩
 | e::es,l,hm=>by
  obtain ⟨ed,fE,aw,al,gn,wq,gF⟩:=hm.dB;obtain rfl:l=ed::fE:=by simpa using aw
  have ih:=Wh seen p es fE gF;simp only [List.filter_cons,al];by_cases aU:p ed.born=true
  ·simp only [aU,if_true];refine ⟨by have:=ih.1;simpa using this,fun k x y aj bp=>?_⟩
   cases k with
   | zero=>simp at aj bp;subst aj;subst bp;exact ⟨al,gn,wq⟩
   | succ k=>exact ih.2 k x y (by simpa using aj) (by simpa using bp)
  ·simp only [aU];exact ih
theorem gh.all {ρ:Ren} (p:Nat→Bool):∀ (es:List (Nat×V×V)) (l:List MapEntry),gh ρ es l.toArray→(es.all fun e=>p e.1)=(l.all fun e=>p e.born)
 | [],l,hm=>by
  have:l=[]:=by have:=hm.1;simp at this;exact avA this.symm
  subst this;rfl
 | e::es,l,hm=>by
  obtain ⟨ed,fE,aw,al,gn,wq,gF⟩:=hm.dB;obtain rfl:l=ed::fE:=by simpa using aw
  simp only [List.all_cons,al,gh.all p es fE gF]
theorem agn {P:Program} {it:V} {Bw:Value} {ty:TypeId} {h:I} {alts:List (V×I)} (aa:Ak it h=some alts) {ρ:Ren} {B:Nat} {aJ w:World} (R:aR ρ B aJ h w) (hi:aB ρ it Bw) :
  ∃ v h',(v,h') ∈ alts∧Yields P (Instr.next Bw false ty) ρ B aJ w v h':=by
 unfold Ak at aa;split at aa
 case h_2=>cases aa
 rename_i r;split at aa
 case h_2=>cases aa
 rename_i m since seen last xu;split at aa
 case h_2=>cases aa
 rename_i es clock HM;split at aa
 case isTrue=>cases aa
 rename_i eh;obtain ⟨HN,rc,nD,rfl⟩:=hi.pP;have aN:=R.heap.obj r;rw [xu] at aN;obtain ⟨b,bA,bm,yP,aL,l5,cr,rJ,hw⟩:=aN;rw [aL] at nD;simp at nD;obtain ⟨rfl,rfl⟩:=nD;have Bx:=R.heap.obj m;rw [HM] at Bx;obtain ⟨b7,ji,arr,iG,Rk,l7,iI,dN⟩:=Bx;rw [iG] at rJ;simp at rJ;obtain ⟨rfl,rfl⟩:=rJ;have aM:b<w.heap.size:=(avl.1 hw).1;simp only [Option.some.injEq] at aa;have HO:gh ρ es arr.toList.toArray:=by simpa using dN
 have Rl:¬((!seen.toArray.isEmpty&&!arr.isEmpty&&arr.all (fun e=>decide (last≤e.born)))=true):=by
  have aC:seen.toArray.isEmpty=seen.isEmpty:=by simp
  have bd:arr.isEmpty=es.isEmpty:=by
   have:=dN.1;rw [avv,aw5,axF,←awq,←ayj,this]
  have ev:arr.all (fun e=>decide (last≤e.born))=es.all (fun e=>decide (last≤e.1)):=by
   rw [gh.all (fun n=>decide (last≤n)) es arr.toList HO,Array.all_toList]
  rw [aC,bd,ev];exact eh
 have j3:=Wh seen (fun n=>!seen.contains n) es arr.toList HO
 let left:=arr.filter fun e=>!seen.toArray.contains e.born
 let jk:Array (Option MapEntry):=(if (left.filter (fun e=>decide (e.born<since))).isEmpty then #[none] else #[])++(left.filter (fun e=>decide (e.born<since))++left.filter (fun e=>decide (since≤e.born))).map some
 have Bz:left.toList=arr.toList.filter fun e=>!seen.contains e.born:=by simp [left]
 have cE:∃ q:Nat,∃ cV,(∃ c,jk[q]?=some c)∧aR ρ B aJ h cV∧cV.heap=w.heap∧∀ c,jk[q]?=some c →
   (Instr.next (.pointer (some ⟨b,0,none⟩)) false ty).run P w=(match c with
    | some e=>((setObj b (.mapIter (some b7) since (seen.toArray.push e.born) clock)).run P cV).andThen fun _ bS=>.ok (.tuple #[.bool true,e.key,e.val]) bS
    | none=>.ok (.tuple #[.bool false]) cV):=by
  have bI:jk.size≠0:=by
   intro aK;simp only [jk,aw4,aAf] at aK;by_cases he:(left.filter (fun e=>decide (e.born<since))).isEmpty=true
   ·simp [he] at aK
   ·have:(left.filter (fun e=>decide (e.born<since))).size=0:=by omega
    exact he (by simp [Array.isEmpty,this])
  have nE:∃ q cV,q<jk.size∧(choose (.mapNext jk.size)).run P w=.ok q cV∧aR ρ B aJ h cV∧cV.heap=w.heap:=by
   by_cases av:(Question.mapNext jk.size).forced=true
   ·refine ⟨0,w,by omega,?_,R,rfl⟩
    simp [choose,Sem.run,av]
   ·refine ⟨(Question.mapNext jk.size).cut (w.tape w.drawn (.mapNext jk.size)),w.drew,?_,?_,R.drew,rfl⟩
    ·simp only [Question.cut];exact Nat.mod_lt _ (by omega)
    ·have b8:(Question.mapNext jk.size).forced=false:=by simpa using av
     simp only [choose,Sem.run,b8];rfl
  obtain ⟨q,cV,ab,ay,Gi,U⟩:=nE;refine ⟨q,cV,⟨_,avd ab⟩,Gi,U,fun c BA=>?_⟩;simp only [Instr.next,Sem.run_bind,Wb hw,run_getObj_map iI,Result.andThen_ok];have MO:¬((!seen.toArray.isEmpty&&!arr.isEmpty&&arr.all (fun x=>decide (x.born ≥ last)))=true):=Rl;rw [if_neg MO];have HP:=ay;simp only [jk,left] at HP BA;simp only [Sem.run_bind,Sem.run_pure,Result.andThen_ok,ge_iff_le,HP,BA];cases c<;>simp
 obtain ⟨q,cV,⟨c,BA⟩,Gi,U,cE⟩:=cE;have cE:=cE c BA;have qY:c ∈ jk:=Array.mem_of_getElem? BA;cases c with
 | none=>
  refine ⟨.tuple [.bool false],h,?_,ρ,_,cV,cE,((aX.cons (.bool false) (.nil ρ)).arr).tuple,Gi,Ren.le.refl ρ⟩;rw [←aa];apply List.mem_append_left;have he:(left.filter (fun e=>decide (e.born<since))).isEmpty=true:=by
   by_cases he:(left.filter (fun e=>decide (e.born<since))).isEmpty=true
   ·exact he
   ·simp [jk,he] at qY
  have:(nk es seen).all (fun e=>decide (since≤e.1))=true:=by
   unfold nk;rw [gh.all (fun n=>decide (since≤n)) _ _ j3,←Bz];rw [avh];intro e ur;rw [axF,←Array.toList_inj] at he;simp only [Array.toList_filter] at he;have aD:=List.filter_eq_nil_iff.1 he e (by simpa using ur)
   simp at aD⊢;exact aD
  rw [this];simp
 | some e=>
  have ur:e ∈ left.toList:=by
   simp only [jk,Array.mem_append,Array.mem_map] at qY;rcases qY with qY | ⟨x,aj,Pj⟩
   ·split at qY<;>simp at qY
   ·simp at Pj;subst Pj;rcases aj with aj | aj
    ·simpa using (aAo.1 aj).1
    ·simpa using (aAo.1 aj).1
  rw [Bz] at ur;obtain ⟨k,hk⟩:=ayd ur;have td:k<(es.filter fun e=>!seen.contains e.1).length:=by
   rw [j3.1];simpa using (VX.1 hk).1
  obtain ⟨h1,ad,aD⟩:=j3.2 k _ e (ME td) (by simpa using hk)
  have fJ:(es.filter fun e=>!seen.contains e.1)[k] ∈ nk es seen:=avb td;generalize (es.filter fun e=>!seen.contains e.1)[k]=a at h1 ad aD fJ;have gX:cV.heap[b]?=some (.mapIter (some b7) since seen.toArray last):=by rw [U];exact hw
  simp only [agi gX,Result.andThen_ok] at cE;refine ⟨.tuple [.bool true,a.2.1,a.2.2],h.set r (.iter m since (seen++[a.1]) clock),?_,ρ,_,_,cE,((aX.cons (.bool true) (.cons ad (.cons aD (.nil ρ)))).arr).tuple,?_,Ren.le.refl ρ⟩
  ·rw [←aa];apply List.mem_append_right;exact MF.2 ⟨a,fJ,rfl⟩
  ·refine Gi.setObj aL (by rw [xu];simp) cr (by rw [U];exact aM) ?_
   exact ⟨b,bA,b7,ji,aL,l5,cr,iG,by simp [U,aM,h1]⟩
end Go.Proofs.YtemdgidnhgcafaaGreatDoor.Ab
