/-
  Rules of the machine on abstract states. Conditions: as each theorem says.
-/
import Derived.WalkKit
import Derived.Below
import Derived.Laws.AppendOwn
import Derived.Laws.CopyRow
import Derived.Laws.Rows
import Derived.Deep.MidRow
import Derived.Deep.AppendSrc
import Derived.Laws.MakeOwn
import Derived.Lib.AppendZerosOnto
import Derived.Laws.BytesArg
import Derived.Laws.Tables
open Nat renaming le_refl->BY,le_trans->ajy,le_succ->aDC,le_of_lt->aDD,min_eq_left->azt,add_zero->aAv,add_assoc->aAk,zero_le->Dy,succ_mul->aBp,mul_le_mul_right->azl,mul_assoc->aBq,add_mul->axY,min->aAl,one_ne_zero->az7,mul_eq_zero->aAF,add_comm->aAZ,add_left_comm->aER
open List renaming eq_nil_of_length_eq_zero->azB,getElem?_eq_some_iff->are,getElem?_eq_getElem->IA,getElem?_take->azf,getElem?_drop->azF,getElem?_append_left->aAc,getElem?_append_right->aAd,getElem?_set->aAX,replicate->azr,take_take->azY,getElem?_of_mem->aBo,all_eq_true->ayL,getElem_mem->ayM,getElem?_append->aDE,length_append->Dx,length_take->TY,replicate_succ'->aDF,take_length->azG,mem_map->OF,take_left->azT,length_map->axT,length->azx,isEmpty_iff->aA0,length_eq_zero_iff->aAm,getElem?_eraseIdx->aET,length_eraseIdx->aEU,getElem?_toArray->aDK,getElem?_cons_zero->aDL,getElem?_cons_succ->aB3
open Array renaming getElem?_eq_some_iff->azj,getElem?_modify->azP,toList_append->aEN,size_append->aBr,length_toList->az6,ext'->azH,size_map->aEO,getElem?_toList->azI,getElem?_setIfInBounds->aDH,getElem?_eq_getElem->azd,isEmpty_iff->aB1,size_eq_zero_iff->aDI,getElem?_push->aB2,toList_eraseIdxIfInBounds->aES,mem_filter->aEX
open Bool renaming false_eq_true->azs,eq_iff_iff->azm
open Option renaming map_some->azE,Rel->aAw
open Go renaming World->aOV,IntKind->aOT,TypeId->aOS,Value->aOU,Deferred->aO9,Addr->aO2,MapEntry->aO6,Operand->aOW,Program->aOR,Result->aO3,TypeInfo->aPj,Builtin->aOY,TypeDesc->aO1,Question->aPd
set_option linter.unusedVariables false
set_option linter.unusedSimpArgs false
namespace Go.Proofs.YtemdgidnhgcafaaGreatDoor.Ab
structure hN(B:Nat)(w w':aOV):Prop where
 os:w'.os=w.os
 tape:w'.tape=w.tape
 output:w'.output=w.output
 size:w.heap.size<=w'.heap.size
 block:∀k,k<B->w'.heap[k]?=w.heap[k]?
 drawn:w.drawn<=w'.drawn
theorem hN.below{B:Nat}{w w':aOV}(h:hN B w w'):RowKit.Below B w w':=⟨h.os,h.tape,h.output,h.size,h.block⟩
theorem hN.refl(B:Nat)(w:aOV):hN B w w:=⟨rfl,rfl,rfl,BY _,λ_ _=>rfl,BY _⟩
theorem hN.trans{B:Nat}{a b c:aOV}(h:hN B a b)(k:hN B b c):hN B a c :=
 ⟨k.os.trans h.os,k.tape.trans h.tape,k.output.trans h.output,ajy h.size k.size,λi hi=>(k.block i hi).trans (h.block i hi),ajy h.drawn k.drawn⟩
theorem hN.drew{B:Nat}{a w:aOV}(h:hN B a w):hN B a w.drew:=⟨h.os,h.tape,h.output,h.size,h.block,ajy h.drawn (aDC _)⟩
theorem hN.alloc{B:Nat}{a w:aOV}(h:hN B a w)(i:B<=w.heap.size)(o:Obj):hN B a (w.alloc o) :=
 h.trans ⟨rfl,rfl,rfl,by simp,λk j=>RowKit.Below.heap_alloc _ _ _ (by omega),BY _⟩
inductive V where
 | top
 | bool (b:Bool)
 | int (k:aOT) (n:Int)
 | float (k:FloatKind) (b:Nat)
 | complex (k:FloatKind) (a b:Nat)
 | string (s:ByteArray)
 | nilFunc
 | nilIface
 | dx
 | ag
 | fj
 | z0
 | fk
 | ptr (i o:Nat)
 | bg (i o len cap:Nat)
 | af (n:Nat) (cs:List V)
 | at (cs:List V)
 | map (i:Nat)
 | func (fn:Fn) (first captured:List V)
 | iface (t:aOS) (v:V)
 | agg (cs:List V)
 | tuple (vs:List V)
 deriving Inhabited
def gy:aOU->V
 | .bool b=>.bool b
 | .int k n=>.int k n
 | .float k b=>.float k b
 | .complex k a b=>.complex k a b
 | .string s=>.string s
 | .nilFunc=>.nilFunc
 | .nilIface=>.nilIface
 | .pointer none=>.dx
 | .slice none 0 0=>.ag
 | .map none=>.fj
 | .func fn i j=>if i.isEmpty&&j.isEmpty then .func fn [] []else .top
 | .tuple i=>if i.isEmpty then .tuple []else .top
 | _=>.top
def fC:aOU->V
 | .agg a=>.agg (a.toList.map gy)
 | .iface t v=>.iface t (gy v)
 | v=>gy v
inductive aR where
 | dead
 | cells (c:List V) (elem:aOS) (ex:Option Nat)
 | map (es:List (Nat×V×V)) (clock:Nat)
 | iter (m:Nat) (since:Nat) (seen:List Nat) (rk:Nat)
 | kt (b:Nat) (mk:List aOU->Obj) (vs:List V)
structure I where
 n:Nat
 get:Nat->aR
 glob:Nat->Option (List V)
def I.set(h:I)(i:Nat)(o:aR):I:={ h with get:=λj=>if j=i then o else h.get j }
def I.push(h:I)(o:aR):I:={ h with n:=h.n+1,get:=λj=>if j=h.n then o else h.get j }
def b7:Nat:=2^64
def gg(c cap:Nat):Nat:=if cap<b7 then cap else c-(cap-b7)
structure Ren where
 ren:Nat->Option (Nat×Nat)
 frz:Nat->Option (Array aOU)
 dfr:List aO9:=[]
structure Ren.le(ρ ρ':Ren):Prop where
 ren:∀i x,ρ.ren i=some x->ρ'.ren i=some x
 frz:∀i x,ρ.frz i=some x->ρ'.frz i=some x
 dfr:ρ'.dfr=ρ.dfr
theorem Ren.le.refl(ρ:Ren):ρ.le ρ:=⟨λ_ _ h=>h,λ_ _ h=>h,rfl⟩
theorem Ren.le.trans{a b c:Ren}(h:a.le b)(k:b.le c):a.le c:=⟨λi x j=>k.ren i x (h.ren i x j),λi x j=>k.frz i x (h.frz i x j),k.dfr.trans h.dfr⟩
inductive aE(ρ:Ren):V->aOU->Prop
 | top (v):aE ρ .top v
 | bool (b):aE ρ (.bool b) (.bool b)
 | int (k n):aE ρ (.int k n) (.int k n)
 | float (k b):aE ρ (.float k b) (.float k b)
 | complex (k a b):aE ρ (.complex k a b) (.complex k a b)
 | string (s):aE ρ (.string s) (.string s)
 | nilFunc:aE ρ .nilFunc .nilFunc
 | nilIface:aE ρ .nilIface .nilIface
 | dx:aE ρ .dx (.pointer none)
 | ag:aE ρ .ag (.slice none 0 0)
 | fj:aE ρ .fj (.map none)
 | z0 (a:Option aO2) (aT:True):aE ρ .z0 (.slice a 0 0)
 | fk (a:aO2) (c:Nat):aE ρ .fk (.slice (some a) 0 c)
 | ptr {i b c:Nat} (h:ρ.ren i=some (b,c)) (o:Nat):aE ρ (.ptr i o) (.pointer (some ⟨b,o,none⟩))
 | bg {i b c:Nat} (h:ρ.ren i=some (b,c)) (o len cap:Nat) (ax:len<=gg c cap) :
   aE ρ (.bg i o len cap) (.slice (some ⟨b,o,none⟩) len (gg c cap))
 | af {b:Nat} (o n cap:Nat) {arr:Array aOU} {cs:List V} (ak:ρ.frz b=some arr) (aB:n<=cap) (aO:o+cs.length<=arr.size)
   (ah:∀(k:Nat) (v:V) (v':aOU),cs[k]?=some v->arr[o+k]?=some v'->aE ρ v v'):aE ρ (.af n cs) (.slice (some ⟨b,o,none⟩) n cap)
 | fD (a:Option aO2) (c:Nat) (aT:a=none->c=0):aE ρ (.af 0 []) (.slice a 0 c)
 | at {b:Nat} (o:Nat) {arr:Array aOU} {cs:List V} (ak:ρ.frz b=some arr) (aO:o+cs.length<=arr.size)
   (ah:∀(k:Nat) (v:V) (v':aOU),cs[k]?=some v->arr[o+k]?=some v'->aE ρ v v'):aE ρ (.at cs) (.pointer (some ⟨b,o,none⟩))
 | map {i b c:Nat} (h:ρ.ren i=some (b,c)):aE ρ (.map i) (.map (some b))
 | func (fn:Fn) {xs ys:List V} {fE ze:Array aOU} (aa:xs.length=fE.size) (bB:ys.length=ze.size)
   (ah:∀(k:Nat) (v:V) (v':aOU),xs[k]?=some v->fE[k]?=some v'->aE ρ v v') (bk:∀(k:Nat) (v:V) (v':aOU),ys[k]?=some v->ze[k]?=some v'->aE ρ v v') :
   aE ρ (.func fn xs ys) (.func fn fE ze)
 | iface (t:aOS) {v:V} {v':aOU} (h:aE ρ v v'):aE ρ (.iface t v) (.iface t v')
 | agg {xs:List V} {fE:Array aOU} (aa:xs.length=fE.size) (ah:∀(k:Nat) (v:V) (v':aOU),xs[k]?=some v->fE[k]?=some v'->aE ρ v v'):aE ρ (.agg xs) (.agg fE)
 | tuple {xs:List V} {fE:Array aOU} (aa:xs.length=fE.size) (ah:∀(k:Nat) (v:V) (v':aOU),xs[k]?=some v->fE[k]?=some v'->aE ρ v v'):aE ρ (.tuple xs) (.tuple fE)
theorem aE.za{ρ ρ':Ren}(u:∀i x,ρ.ren i=some x->ρ'.ren i=some x)(A:∀i x,ρ.frz i=some x->ρ'.frz i=some x){v:V}{v':aOU}(h:aE ρ v v'):aE ρ' v v':=by
 induction h with
 | top v=>exact .top v
 | bool b=>exact .bool b
 | int k n=>exact .int k n
 | float k b=>exact .float k b
 | complex k a b=>exact .complex k a b
 | string s=>exact .string s
 | nilFunc=>exact .nilFunc
 | nilIface=>exact .nilIface
 | dx=>exact .dx
 | ag=>exact .ag
 | fj=>exact .fj
 | z0 a aT=>exact .z0 a aT
 | fk a c=>exact .fk a c
 | ptr h o=>exact .ptr (u _ _ h) o
 | bg h o len cap B=>exact .bg (u _ _ h) o len cap B
 | af o n cap ak C z _ ih=>exact .af o n cap (A _ _ ak) C z ih
 | fD a c aT=>exact .fD a c aT
 | «at» o ak z _ ih=>exact .at o (A _ _ ak) z ih
 | map h=>exact .map (u _ _ h)
 | func fn j D _ _ E F=>exact .func fn j D E F
 | iface t _ ih=>exact .iface t ih
 | agg j _ ih=>exact .agg j ih
 | tuple j _ ih=>exact .tuple j ih
theorem aE.mono{ρ ρ':Ren}(hρ:ρ.le ρ'){v:V}{v':aOU}(h:aE ρ v v'):aE ρ' v v':=h.za hρ.ren hρ.frz
theorem aE.dfr{ρ:Ren}{v:V}{v':aOU}(h:aE ρ v v')(d:List aO9):aE { ρ with dfr:=d } v v':=aE.za (ρ:=ρ) (ρ':={ ρ with dfr:=d }) (λ_ _ h=>h) (λ_ _ h=>h) h
def a6(ρ:Ren)(l:List V)(a:List aOU):Prop:=l.length=a.length/\∀(k:Nat) (v:V) (i:aOU),l[k]?=some v->a[k]?=some i->aE ρ v i
section
variable {ρ ρ':Ren} {l m:List V} {b1 fY:List aOU}
theorem a6.mono(hρ:ρ.le ρ')(h:a6 ρ l b1):a6 ρ' l b1 :=
 ⟨h.1,λk v i a b=>(h.2 k v i a b).mono hρ⟩
theorem a6.nil(ρ:Ren):a6 ρ [] []:=⟨rfl,by simp⟩
theorem a6.cons{v:V}{v':aOU}(h:aE ρ v v')(i:a6 ρ l b1):a6 ρ (v::l) (v'::b1):=by
 refine⟨by simp[i.1],λk a b aT ak=>?_⟩
 cases k with
 | zero=>simp at aT ak;subst aT;subst ak;exact h
 | succ k=>exact i.2 k a b (by simpa using aT) (by simpa using ak)
theorem a6.dT{v:V}(h:a6 ρ (v::l) b1):∃v' i,b1=v'::i/\aE ρ v v'/\a6 ρ l i:=by
 cases b1 with
 | nil=>have:=h.1;simp at this
 | cons v' i=>exact⟨v',i,rfl,h.2 0 v v' rfl rfl,⟨by simpa using h.1,λk a b aT ak=>h.2 (k+1) a b (by simpa using aT) (by simpa using ak)⟩⟩
theorem a6.eq_nil(h:a6 ρ [] b1):b1=[]:=by
 have:=h.1;simp at this;exact azB this.symm
theorem a6.get(h:a6 ρ l b1){k:Nat}{v:V}(i:l[k]?=some v):∃v',b1[k]?=some v'/\aE ρ v v':=by
 have s:k<l.length:=(are.1 i).1;have j:k<b1.length:=by rw[<-h.1];exact s
 exact⟨b1[k],IA j,h.2 k v _ i (IA j)⟩
theorem a6.take(h:a6 ρ l b1)(n:Nat):a6 ρ (l.take n) (b1.take n):=by
 refine⟨by simp[h.1],λk a b aT ak=>?_⟩
 rw[azf]at aT ak;split at aT<;>simp_all;exact h.2 k a b aT ak
theorem a6.drop(h:a6 ρ l b1)(n:Nat):a6 ρ (l.drop n) (b1.drop n):=by
 refine⟨by simp[h.1],λk a b aT ak=>?_⟩
 rw[azF]at aT ak;exact h.2 _ a b aT ak
theorem a6.append(h:a6 ρ l b1)(g:a6 ρ m fY):a6 ρ (l++m) (b1++fY):=by
 refine⟨by simp[h.1,g.1],λk a b aT ak=>?_⟩
 by_cases i:k<l.length
 ·rw[aAc i]at aT;rw[aAc (by rw[<-h.1];exact i)]at ak
  exact h.2 k a b aT ak
 ·rw[aAd (by omega)]at aT
  rw[aAd (by rw[<-h.1];omega)]at ak
  rw[<-h.1]at ak;exact g.2 _ a b aT ak
theorem a6.set(h:a6 ρ l b1){v:V}{v':aOU}(j:aE ρ v v')(n:Nat):a6 ρ (l.set n v) (b1.set n v'):=by
 refine⟨by simp[h.1],λk a b aT ak=>?_⟩
 rw[aAX]at aT ak;by_cases i:n=k
 ·subst i;simp at aT ak;obtain⟨_,rfl⟩:=aT;obtain⟨_,rfl⟩:=ak;exact j
 ·simp[i]at aT ak;exact h.2 k a b aT ak
theorem a6.replicate{v:V}{v':aOU}(i:aE ρ v v')(n:Nat):a6 ρ (azr n v) (azr n v'):=by
 refine⟨by simp,λk a b aT ak=>?_⟩
 simp[List.getElem?_replicate]at aT ak;obtain⟨_,rfl⟩:=aT;obtain⟨_,rfl⟩:=ak;exact i
theorem a6.of_map{f:aOU->V}(i:∀v,aE ρ (f v) v)(l:List aOU):a6 ρ (l.map f) l:=by
 refine⟨by simp,λk a b aT ak=>?_⟩
 simp[ak]at aT;subst aT;exact i b
end
def er(ρ:Ren)(xs:List V)(a:Array aOU):Prop:=xs.length=a.size/\∀(k:Nat) (v:V) (i:aOU),xs[k]?=some v->a[k]?=some i->aE ρ v i
theorem er.list{ρ:Ren}{xs:List V}{i:Array aOU}(h:er ρ xs i):a6 ρ xs i.toList:=⟨by simpa using h.1,by simpa using h.2⟩
theorem a6.arr{ρ:Ren}{xs:List V}{i:List aOU}(h:a6 ρ xs i):er ρ xs i.toArray:=⟨by simpa using h.1,by simpa using h.2⟩
theorem a6.j0{ρ:Ren}{xs:List V}{i:Array aOU}(h:a6 ρ xs i.toList):er ρ xs i:=⟨by simpa using h.1,by simpa using h.2⟩
theorem er.agg{ρ:Ren}{xs:List V}{i:Array aOU}(h:er ρ xs i):aE ρ (.agg xs) (.agg i):=.agg h.1 h.2
theorem er.tuple{ρ:Ren}{xs:List V}{i:Array aOU}(h:er ρ xs i):aE ρ (.tuple xs) (.tuple i):=.tuple h.1 h.2
theorem er.mono{ρ ρ':Ren}(hρ:ρ.le ρ'){l:List V}{i:Array aOU}(h:er ρ l i):er ρ' l i:=⟨h.1,λk v j a b=>(h.2 k v j a b).mono hρ⟩
theorem Dz(ρ:Ren)(v:aOU):aE ρ (gy v) v:=by
 unfold gy;split
 ·exact .bool _
 ·exact .int _ _
 ·exact .float _ _
 ·exact .complex _ _ _
 ·exact .string _
 ·exact .nilFunc
 ·exact .nilIface
 ·exact .dx
 ·exact .ag
 ·exact .fj
 ·rename_i fn a i;split
  ·rename_i h;simp at h;obtain⟨rfl,rfl⟩:=h;exact .func fn rfl rfl (by simp) (by simp)
  ·exact .top _
 ·rename_i a;split
  ·rename_i h;simp at h;subst h;exact .tuple rfl (by simp)
  ·exact .top _
 ·exact .top _
theorem FA(ρ:Ren)(v:aOU):aE ρ (fC v) v:=by
 unfold fC;split
 ·exact(a6.of_map (Dz ρ) _).j0.agg
 ·exact .iface _ (Dz ρ _)
 ·exact Dz ρ v
def nW:V->Option aOU
 | .bool b=>some (.bool b)
 | .int k n=>some (.int k n)
 | .float k b=>some (.float k b)
 | .complex k a b=>some (.complex k a b)
 | .string s=>some (.string s)
 | .nilFunc=>some .nilFunc
 | .nilIface=>some .nilIface
 | .dx=>some (.pointer none)
 | .ag=>some (.slice none 0 0)
 | .fj=>some (.map none)
 | .tuple []=>some (.tuple #[])
 | _=>none
def jv:List V->Option (List aOU)
 | []=>some []
 | v::r=>match nW v,jv r with
  | some a,some l=>some (a::l)
  | _,_=>none
def p7:V->Option aOU
 | .agg i=>(jv i).map λl=>.agg l.toArray
 | .iface t v=>(nW v).map λa=>.iface t a
 | v=>nW v
theorem zf{ρ:Ren}{v:V}{v' a:aOU}(h:aE ρ v v')(i:nW v=some a):v'=a:=by
 cases h<;>simp[nW]at i<;>try exact i
 rename_i xs m j q;cases xs with
 | nil=>simp at i j;rw[<-i,Array.eq_empty_of_size_eq_zero j.symm]
 | cons x t=>simp at i
theorem T1{ρ:Ren}:∀{l:List V} {j a:List aOU},a6 ρ l j->jv l=some a->j=a
 | [],j,a,h,i=>by simp[jv]at i;rw[i];exact h.eq_nil
 | v::l,j,a,h,i=>by
  obtain⟨s,u,rfl,m,q⟩:=h.dT;unfold jv at i;split at i
  ·rename_i b c ak av;simp at i;rw[<-i,zf m ak,T1 q av]
  ·cases i
theorem zg{ρ:Ren}{v:V}{v' a:aOU}(h:aE ρ v v')(i:p7 v=some a):v'=a:=by
 unfold p7 at i;split at i
 ·cases h with
  | agg q s=>
   rename_i xs z;cases j:jv xs with
   | none=>simp[j]at i
   | some l=>
    simp[j]at i;have:=T1 (er.list ⟨q,s⟩) j;rw[<-i,<-this]
 ·cases h with
  | iface t h=>
   rename_i u A;cases m:nW u with
   | none=>simp[m]at i
   | some b=>simp[m]at i;rw[<-i,zf h m]
 ·exact zf h i
def FB(ex:Option Nat)(a size len:Nat):Prop:=match ex with|none=>size=len|some s=>size=a*s/\a<2^63
def gO(ρ:Ren)(es:List (Nat×V×V))(arr:Array aO6):Prop :=
 es.length=arr.size/\∀(k:Nat) (e:Nat×V×V) (a:aO6),es[k]?=some e->arr[k]?=some a->e.1=a.born/\aE ρ e.2.1 a.key/\aE ρ e.2.2 a.val
def px(ρ:Ren)(B:Nat)(w:aOV)(i:Nat):aR->Prop
 | .dead=>True
 | .cells c e z=>∃b j a,ρ.ren i=some (b,j)/\ρ.frz b=none/\B<=b/\w.heap[b]?=some (.cells a e (0,0))/\c.length<=a.size/\a6 ρ c (a.toList.take c.length) /\
   FB z j a.size c.length
 | .map A q=>∃b j a,ρ.ren i=some (b,j)/\ρ.frz b=none/\B<=b/\w.heap[b]?=some (.map a q)/\gO ρ A a
 | .iter m s seen C=>∃b j u D,ρ.ren i=some (b,j)/\ρ.frz b=none/\B<=b/\ρ.ren m=some (u,D)/\w.heap[b]?=some (.mapIter (some u) s seen.toArray C)
 | .kt b mk E=>∃j a,ρ.ren i=some (b,j)/\ρ.frz b=none/\B<=b/\w.heap[b]?=some (mk a)/\a6 ρ E a
structure qJ(ρ:Ren)(B:Nat)(h:I)(w:aOV):Prop where
 me:∀i,h.n<=i->ρ.ren i=none
 inj:∀i j b c py,h.get i≠.dead->h.get j≠.dead->ρ.ren i=some (b,c)->ρ.ren j=some (b,py)->i=j
 obj:∀i,px ρ B w i (h.get i)
 frz:∀b arr,ρ.frz b=some arr->∃e gh,w.heap[b]?=some (.cells arr e gh)
 glob:∀g cs,h.glob g=some cs->∃arr,ρ.frz g=some arr/\er ρ cs arr
 base:B<=w.heap.size
abbrev aj:=Nat->V
def aj.put(f:aj)(d:Option Tmp)(v:V):aj :=
 match d with
 | some d=>λt=>if t=d then v else f t
 | none=>f
def aj.eval(f:aj)(h:I):aOW->V
 | .tmp t=>f t
 | .const v=>fC v
 | .global g=>match h.glob g with|some i=>.at i|none=>.top
 | .func bE=>.func (.func bE) [] []
structure eE(ρ:Ren)(n:Nat)(f:aj)(a:Act):Prop where
 tmps:∀t,aE ρ (f t) (a.tmps.getD t undef)
 size:a.tmps.size=n
 defers:a.defers=ρ.dfr
theorem eE.mono{ρ ρ':Ren}(hρ:ρ.le ρ'){n:Nat}{f:aj}{a:Act}(h:eE ρ n f a):eE ρ' n f a:=⟨λt=>(h.tmps t).mono hρ,h.size,h.defers.trans hρ.dfr.symm⟩
def s7(n:Nat)(d:Option Tmp):Bool:=match d with|some t=>decide (t<n)|none=>true
theorem eE.put{ρ:Ren}{n:Nat}{f:aj}{a:Act}(h:eE ρ n f a){v:V}{v':aOU}(s:aE ρ v v')(d:Option Tmp)(i:s7 n d=true) :
  eE ρ n (f.put d v) (a.put d v'):=by
 cases d with
 | none=>exact h
 | some d=>
  have i:d<n:=by simpa [s7]using i
  refine⟨λt=>?_,by simp[Act.put,h.size],h.defers⟩
  simp only[Act.put,aj.put];by_cases j:t=d
  ·subst j;simp[h.size,i,s]
  ·have:=h.tmps t;simp[j]at this⊢;rw[Array.getElem?_setIfInBounds_ne (by omega)]
   exact this
theorem qJ.pz{ρ:Ren}{B:Nat}{h:I}{w:aOV}(H:qJ ρ B h w)(g:Nat):aE ρ (match h.glob g with|some cs=>.at cs|none=>.top) (.pointer (some ⟨g,0,none⟩)):=by
 cases j:h.glob g with
 | none=>exact .top _
 | some cs=>
  obtain⟨arr,s,i⟩:=H.glob g cs j;exact .at 0 s (by simp[i.1]) (by simpa using i.2)
theorem eE.eval{ρ:Ren}{n B:Nat}{f:aj}{a:Act}{h:I}{w:aOV}(i:eE ρ n f a)(H:qJ ρ B h w)(x:aOW):aE ρ (f.eval h x) (a.eval x):=by
 cases x with
 | tmp t=>exact i.tmps t
 | const v=>exact FA ρ v
 | global g=>exact H.pz g
 | func bE=>exact .func _ rfl rfl (by simp) (by simp)
open Go Go.RowKit
structure a1(ρ:Ren)(B:Nat)(aV:aOV)(h:I)(w:aOV):Prop where
 heap:qJ ρ B h w
 below:hN B aV w
def cH(P:aOR)(t:aOS):Option Nat:=(P.info? t).map (·.size)
def IB(P:aOR)(t:aOS):Option Nat:=(P.info? t).map (·.bytes)
def mz(P:aOR)(t:aOS):Option aOU:=(P.info? t).bind (·.zero)
def nX(P:aOR)(t:aOS):Option Bool:=(P.underlying t).map (·.isRow)
def v7(P:aOR)(t:aOS):Option aOS:=match P.underlying t with|some (.slice e)=>some e|_=>none
theorem qJ.lt{ρ:Ren}{B:Nat}{h:I}{w:aOV}(H:qJ ρ B h w){i b s:Nat}(hi:ρ.ren i=some (b,s)):i<h.n:=by
 apply Nat.lt_of_not_le;intro j;rw[H.me i j]at hi;cases hi
theorem qJ.live{ρ:Ren}{B:Nat}{h:I}{w:aOV}(H:qJ ρ B h w){i:Nat}(hi:h.get i≠.dead) :
  ∃b u,ρ.ren i=some (b,u)/\b<w.heap.size/\i<h.n/\ρ.frz b=none/\B<=b:=by
 have:=H.obj i;cases D:h.get i with
 | dead=>exact absurd D hi
 | cells c e E=>
  rw[D]at this;obtain⟨b,u,arr,j,z,A,C,_⟩:=this;exact⟨b,u,j,(azj.1 C).1,H.lt j,z,A⟩
 | map es cl=>
  rw[D]at this;obtain⟨b,u,arr,j,z,A,C,_⟩:=this;exact⟨b,u,j,(azj.1 C).1,H.lt j,z,A⟩
 | iter m s l st=>
  rw[D]at this;obtain⟨b,u,F,G,j,z,A,L,C⟩:=this;exact⟨b,u,j,(azj.1 C).1,H.lt j,z,A⟩
 | kt b mk M=>
  rw[D]at this;obtain⟨u,arr,j,z,A,C,N⟩:=this;exact⟨b,u,j,(azj.1 C).1,H.lt j,z,A⟩
theorem gO.mono{ρ ρ':Ren}(hρ:ρ.le ρ'){es:List (Nat×V×V)}{arr:Array aO6}(h:gO ρ es arr):gO ρ' es arr :=
 ⟨h.1,λk e i a b=>let ⟨x,y,z⟩:=h.2 k e i a b;⟨x,y.mono hρ,z.mono hρ⟩⟩
theorem px.ai{ρ ρ':Ren}(hρ:ρ.le ρ'){B:Nat}{w w':aOV}{i:Nat}{o:aR}(h:px ρ B w i o)
  (z:∀b c,ρ.ren i=some (b,c)->w'.heap[b]?=w.heap[b]?/\(ρ.frz b=none->ρ'.frz b=none)):px ρ' B w' i o:=by
 cases o with
 | dead=>trivial
 | cells c e M=>
  obtain⟨b,j,arr,u,A,C,D,av,E,G⟩:=h;exact⟨b,j,arr,hρ.ren _ _ u,(z b j u).2 A,C,(z b j u).1.trans D,av,E.mono hρ,G⟩
 | map es cl=>
  obtain⟨b,j,arr,u,A,C,D,F⟩:=h;exact⟨b,j,arr,hρ.ren _ _ u,(z b j u).2 A,C,(z b j u).1.trans D,F.mono hρ⟩
 | iter m s l st=>
  obtain⟨b,j,H,L,u,A,C,F,D⟩:=h;exact⟨b,j,H,L,hρ.ren _ _ u,(z b j u).2 A,C,hρ.ren _ _ F,(z b j u).1.trans D⟩
 | kt b mk N=>
  obtain⟨j,arr,u,A,C,D,E⟩:=h;exact⟨j,arr,hρ.ren _ _ u,(z b j u).2 A,C,(z b j u).1.trans D,E.mono hρ⟩
def Ren.add(ρ:Ren)(i b s:Nat):Ren:={ ρ with ren:=λj=>if j=i then some (b,s)else ρ.ren j }
theorem Ren.tq{ρ:Ren}{i:Nat}(hi:ρ.ren i=none)(b z:Nat):ρ.le (ρ.add i b z):=by
 refine⟨λj x s=>?_,λ_ _ h=>h,rfl⟩;simp only[Ren.add];by_cases u:j=i
 ·subst u;rw[hi]at s;cases s
 ·simp[u,s]
theorem Ren.nY{ρ:Ren}{i b j:Nat}:(ρ.add i b j).ren i=some (b,j):=by simp[Ren.add]
theorem a1.Cf{ρ:Ren}{B:Nat}{N:aOV}{h:I}{w w':aOV}(R:a1 ρ B N h w){o:aR}(G:Nat)
  (bl:w.heap.size<w'.heap.size) (u:∀k,k<w.heap.size->w'.heap[k]?=w.heap[k]?) (ak:hN B w w')
  (X:px (ρ.add h.n w.heap.size G) B w' h.n o) :
  ρ.le (ρ.add h.n w.heap.size G)/\a1 (ρ.add h.n w.heap.size G) B N (h.push o) w':=by
 have z:=Ren.tq (R.heap.me _ (BY _)) w.heap.size G;have Y:∀b arr,ρ.frz b=some arr->b<w.heap.size:=λb arr D=>by
  obtain⟨e,O,H⟩:=R.heap.frz b arr D;exact(azj.1 H).1
 refine⟨z,⟨⟨λi hi=>?_,λi j b Q Z hi F A C=>?_,λi=>?_,λb arr D=>?_,λg cs aw=>?_,?_⟩,R.below.trans ak⟩⟩
 ·simp only[I.push]at hi;simp[Ren.add,show i≠h.n by omega,R.heap.me i (by omega)]
 ·simp only[I.push]at hi F;simp only[Ren.add]at A C;by_cases E:i=h.n<;>by_cases L:j=h.n
  ·omega
  ·simp[E]at A;simp[L]at C F;obtain⟨S,T,s,M,_⟩:=R.heap.live F;rw[s]at C;simp at C;omega
  ·simp[L]at C;simp[E]at A hi;obtain⟨S,T,s,M,_⟩:=R.heap.live hi;rw[s]at A;simp at A;omega
  ·simp[E]at A hi;simp[L]at C F;exact R.heap.inj i j b Q Z hi F A C
 ·by_cases E:i=h.n
  ·subst E;simpa only[I.push,if_true]using X
  ·simp only[I.push,if_neg E];by_cases W:h.get i=.dead
   ·rw[W];trivial
   ·refine(R.heap.obj i).ai z λb Q s=>⟨u b ?_,λh=>h⟩;obtain⟨S,T,hy,M,_⟩:=R.heap.live W;rw[hy]at s;simp at s;obtain⟨rfl,rfl⟩:=s;exact M
 ·obtain⟨e,O,H⟩:=R.heap.frz b arr D;exact⟨e,O,(u b (Y b arr D)).trans H⟩
 ·obtain⟨arr,D,s⟩:=R.heap.glob g cs aw;exact⟨arr,D,s.mono z⟩
 ·exact ajy R.heap.base (aDD bl)
theorem a1.push{ρ:Ren}{B:Nat}{u:aOV}{h:I}{w w':aOV}(R:a1 ρ B u h w){c:List V}{arr:Array aOU}{e:aOS}{ex:Option Nat}(i:Nat)
  (bl:w.heap.size<w'.heap.size) (j:∀k,k<w.heap.size->w'.heap[k]?=w.heap[k]?) (z:w'.heap[w.heap.size]?=some (.cells arr e (0,0)))
  (ak:hN B w w') (av:c.length<=arr.size) (A:a6 ρ c (arr.toList.take c.length)) (C:FB ex i arr.size c.length) :
  ∃ ρ':Ren,ρ.le ρ'/\ρ'.ren h.n=some (w.heap.size,i)/\a1 ρ' B u (h.push (.cells c e ex)) w':=by
 have s:=Ren.tq (R.heap.me _ (BY _)) w.heap.size i;have D:ρ.frz w.heap.size=none:=by
  cases E:ρ.frz w.heap.size with
  | none=>rfl
  | some a=>
   obtain⟨e,L,F⟩:=R.heap.frz _ _ E;have:=(azj.1 F).1;omega
 obtain⟨G,H⟩:=R.Cf (o:=.cells c e ex) i bl j ak ⟨w.heap.size,i,arr,Ren.nY,D,R.heap.base,z,av,A.mono s,C⟩;exact⟨_,G,Ren.nY,H⟩
theorem a1.IC{ρ:Ren}{B:Nat}{D:aOV}{h:I}{w w':aOV}(R:a1 ρ B D h w){arr:Array aOU}{e:aOS}{z:Nat×Nat}
  (bl:w.heap.size<w'.heap.size) (u:∀k,k<w.heap.size->w'.heap[k]?=w.heap[k]?) (H:w'.heap[w.heap.size]?=some (.cells arr e z)) (ak:hN B w w') :
  ∃ ρ':Ren,ρ.le ρ'/\ρ'.frz w.heap.size=some arr/\a1 ρ' B D h w':=by
 have E:∀b arr,ρ.frz b=some arr->b<w.heap.size:=λb arr j=>by
  obtain⟨e,z,C⟩:=R.heap.frz b arr j;exact(azj.1 C).1
 have s:ρ.le { ρ with frz:=λb=>if b=w.heap.size then some arr else ρ.frz b }:=by
  refine⟨λ_ _ h=>h,λb a ak=>?_,rfl⟩;have:=E b a ak;simp[show b≠w.heap.size by omega,ak]
 refine⟨_,s,by simp,⟨⟨R.heap.me,R.heap.inj,λi=>?_,λb a j=>?_,λg L M=>?_,ajy R.heap.base (aDD bl)⟩,R.below.trans ak⟩⟩
 ·by_cases F:h.get i=.dead
  ·rw[F];trivial
  ·obtain⟨N,S,O,Q,_⟩:=R.heap.live F;refine(R.heap.obj i).ai s λb T A=>?_;rw[O]at A;simp at A;obtain⟨rfl,rfl⟩:=A;exact⟨u _ Q,λh=>by simp[show N≠w.heap.size by omega,h]⟩
 ·simp only at j;by_cases G:b=w.heap.size
  ·subst G;simp at j;subst j;exact⟨e,z,H⟩
  ·simp[G]at j;obtain⟨e,z,C⟩:=R.heap.frz b a j;exact⟨e,z,(u b (E b a j)).trans C⟩
 ·obtain⟨j0,j,A⟩:=R.heap.glob g L M;exact⟨j0,s.frz _ _ j,A.mono s⟩
theorem a1.r4{ρ:Ren}{B:Nat}{E:aOV}{h:I}{w w':aOV}(R:a1 ρ B E h w){i b F:Nat}(hi:ρ.ren i=some (b,F))(C:h.get i≠.dead){o:aR}
  (s:∀k,k≠b->w'.heap[k]?=w.heap[k]?) (bl:w.heap.size<=w'.heap.size) (ak:hN B w w') (M:px ρ B w' i o):a1 ρ B E (h.set i o) w':=by
 have N:ρ.frz b=none:=by
  obtain⟨u,tr,O,_,_,A,_⟩:=R.heap.live C;rw[O]at hi;simp at hi;rw[<-hi.1];exact A
 refine⟨⟨R.heap.me,λj k u D Q S T W X=>?_,λj=>?_,λu arr A=>?_,R.heap.glob,ajy R.heap.base bl⟩,R.below.trans ak⟩
 ·refine R.heap.inj j k u D Q ?_ ?_ W X
  ·by_cases z:j=i
   ·subst z;exact C
   ·simpa [I.set,z]using S
  ·by_cases G:k=i
   ·subst G;exact C
   ·simpa [I.set,G]using T
 ·by_cases z:j=i
  ·subst z;simpa only[I.set,if_true]using M
  ·simp only[I.set,if_neg z];by_cases H:h.get j=.dead
   ·rw[H];trivial
   ·refine(R.heap.obj j).ai (Ren.le.refl ρ) λL D Y=>⟨s L ?_,λh=>h⟩;intro Z;subst Z;exact z (R.heap.inj i j L F D C H hi Y).symm
 ·obtain⟨e,gh,hw⟩:=R.heap.frz u arr A;have:u≠b:=by intro U;subst U;rw[N]at A;cases A
  exact⟨e,gh,(s u this).trans hw⟩
theorem a1.kill{ρ:Ren}{B:Nat}{u:aOV}{h:I}{w:aOV}(R:a1 ρ B u h w)(i:Nat):a1 ρ B u (h.set i .dead) w:=by
 refine⟨⟨R.heap.me,λj k D E F z A G H=>?_,λj=>?_,R.heap.frz,R.heap.glob,R.heap.base⟩,R.below⟩
 ·refine R.heap.inj j k D E F ?_ ?_ G H
  ·by_cases s:j=i
   ·subst s;simp[I.set]at z
   ·simpa [I.set,s]using z
  ·by_cases C:k=i
   ·subst C;simp[I.set]at A
   ·simpa [I.set,C]using A
 ·by_cases s:j=i
  ·subst s;simp only[I.set,if_true];trivial
  ·simp only[I.set,if_neg s];exact R.heap.obj j
theorem a1.drew{ρ:Ren}{B:Nat}{j:aOV}{h:I}{w:aOV}(R:a1 ρ B j h w):a1 ρ B j h w.drew:=by
 refine⟨⟨R.heap.me,R.heap.inj,λi=>?_,R.heap.frz,R.heap.glob,R.heap.base⟩,R.below.drew⟩;exact(R.heap.obj i).ai (Ren.le.refl ρ) λb c s=>⟨rfl,λh=>h⟩
theorem a1.freeze{ρ:Ren}{B:Nat}{E:aOV}{h:I}{w:aOV}(R:a1 ρ B E h w){i:Nat}{c:List V}{e:aOS}{ex:Option Nat}(z:h.get i=.cells c e ex) :
  ∃ ρ':Ren,ρ.le ρ'/\a1 ρ' B E (h.set i .dead) w/\∃b A arr,ρ.ren i=some (b,A)/\ρ'.frz b=some arr/\c.length<=arr.size/\a6 ρ c (arr.toList.take c.length):=by
 have F:=R.heap.obj i;rw[z]at F;obtain⟨b,A,arr,G,M,Z,N,av,O,ah⟩:=F;have s:ρ.le { ρ with frz:=λk=>if k=b then some arr else ρ.frz k }:=by
  refine⟨λ_ _ h=>h,λk a u=>?_,rfl⟩;have:k≠b:=by intro U;subst U;rw[M]at u;cases u
  simp[this,u]
 have K:=R.kill i;refine⟨_,s,⟨⟨K.heap.me,K.heap.inj,λj=>?_,λk a u=>?_,λg Q z=>?_,K.heap.base⟩,K.below⟩,b,A,arr,G,by simp,av,O⟩
 ·by_cases C:(h.set i .dead).get j=.dead
  ·rw[C];trivial
  ·refine(K.heap.obj j).ai s λH S T=>⟨rfl,λW=>?_⟩;have:H≠b:=by
    intro U;subst U;by_cases D:j=i
    ·subst D;simp[I.set]at C
    ·refine D (R.heap.inj j i H S A ?_ (by rw[z];simp) T G)
     simpa [I.set,D]using C
   simp[this,W]
 ·simp only at u;by_cases L:k=b
  ·subst L;simp at u;subst u;exact⟨e,(0,0),N⟩
  ·simp[L]at u;exact R.heap.frz k a u
 ·obtain⟨j0,X,Y⟩:=R.heap.glob g Q z;exact⟨j0,s.frz _ _ X,Y.mono s⟩
def Yields(P:aOR)(s:Sem aOU)(ρ:Ren)(B:Nat)(i w:aOV)(v:V)(h':I):Prop :=
 ∃ ρ' a w',s.run P w=.ok a w'/\aE ρ' v a/\a1 ρ' B i h' w'/\ρ.le ρ'
theorem Yields.same{P:aOR}{s:Sem aOU}{ρ:Ren}{B:Nat}{i w:aOV}{v:V}{v':aOU}{h:I}(R:a1 ρ B i h w)(j:s.run P w=.ok v' w)(u:aE ρ v v') :
  Yields P s ρ B i w v h:=⟨ρ,v',w,j,u,R,Ren.le.refl ρ⟩
def b2(P:aOR)(s:Sem aOU)(ρ:Ren)(w:aOV)(v:V):Prop:=∃a,s.run P w=.ok a w/\aE ρ v a
theorem b2.mk{P:aOR}{s:Sem aOU}{ρ:Ren}{w:aOV}{v:V}{v':aOU}(i:s.run P w=.ok v' w)(j:aE ρ v v'):b2 P s ρ w v:=⟨v',i,j⟩
theorem b2.h0{P:aOR}{s:Sem aOU}{ρ:Ren}{B:Nat}{i w:aOV}{v:V}{h:I}(k:b2 P s ρ w v)(R:a1 ρ B i h w):Yields P s ρ B i w v h :=
 let ⟨_,j,u⟩:=k
 .same R j u
def s8(h:I):V->Option (List V)
 | .ptr i o=>match h.get i with
  | .cells c _ _=>if o<=c.length then some (c.drop o)else none
  | _=>none
 | .at a=>some a
 | _=>none
theorem Zy{w:aOV}{b o:Nat}{arr:Array aOU}{e:aOS}{i:Nat×Nat}(q:w.heap[b]?=some (.cells arr e i))(n m:Nat):w.rangeAt b o (((arr.toList.take m).drop o).take n):=by
 intro j v a;simp only[aOV.cell?,q,Option.isSome_none,azs,if_false];rw[azf]at a;split at a
 ·rw[azF,azf]at a;split at a
  ·simpa using a
  ·cases a
 ·cases a
theorem Cg{ρ:Ren}{B:Nat}{h:I}{w:aOV}(H:qJ ρ B h w){p:V}{u:aOU}(z:aE ρ p u){cs:List V}(j:s8 h p=some cs) :
  ∃b o,u=.pointer (some ⟨b,o,none⟩)/\∀n,n<=cs.length->∃vs,w.rangeAt b o vs/\a6 ρ (cs.take n) vs/\vs.length=n:=by
 unfold s8 at j;split at j
 ·rename_i i o;split at j
  case h_2=>cases j
  rename_i c e Q D;split at j
  case isFalse=>cases j
  rename_i E;obtain rfl:_=cs:=by simpa using j
  have A:=H.obj i;rw[D]at A;obtain⟨F,R,a,G,S,T,q,av,L,C⟩:=A;cases z with
  | ptr hi o=>
  rw[G]at hi;simp at hi;obtain⟨rfl,rfl⟩:=hi;refine⟨F,o,rfl,λn s=>⟨((a.toList.take c.length).drop o).take n,Zy q n _,(L.drop o).take n,?_⟩⟩;simp at s⊢;omega
 ·rename_i l;obtain rfl:l=cs:=by simpa using j
  cases z with
  | «at» o ak E C=>
  rename_i b a;obtain⟨e,W,q⟩:=H.frz b a ak;refine⟨b,o,rfl,λn s=>⟨((a.toList.take a.size).drop o).take n,Zy q n _,?_,?_⟩⟩
  ·have M:a6 ρ l ((a.toList.drop o).take l.length):=by
    refine⟨by simp;omega,λk v N O m=>?_⟩
    rw[azf]at m;split at m
    ·rw[azF]at m;exact C k v N O (by simpa using m)
    ·cases m
   have:=M.take n;rw[azY,azt s]at this;have ay:a.toList.take a.size=a.toList:=List.take_of_length_le (by simp)
   rw[ay];exact this
  ·simp;omega
 ·cases j
def m9(P:aOR)(t:aOS)(x:V)(h:I):Option V :=
 match s8 h x,nX P t,cH P t with
 | some a,some true,some n=>if n<=a.length then some (.agg (a.take n))else none
 | some (v::_),some false,some _=>some v
 | _,_,_=>none
theorem ZA{P:aOR}{t:aOS}{x v:V}{z:aOU}{h:I}(i:m9 P t x h=some v){ρ:Ren}{B:Nat}{H w:aOV}(R:a1 ρ B H h w)(L:aE ρ x z) :
  (∃a,z=.pointer (some a))/\b2 P (Instr.loadAt t z) ρ w v:=by
 unfold m9 at i;cases A:P.info? t with
 | none=>simp[cH,A]at i
 | some T=>
 cases m:P.underlying t with
 | none=>simp[nX,m]at i
 | some d=>
 simp only[nX,m,cH,A,azE]at i;cases j:s8 h x with
 | none=>simp[j]at i
 | some M=>
 obtain⟨b,o,rfl,D⟩:=Cg R.heap L j;refine⟨⟨_,rfl⟩,?_⟩;cases q:d.isRow with
 | true=>
  simp only[j,q]at i;split at i
  case isFalse=>cases i
  rename_i N;obtain rfl:_=v:=by simpa using i
  obtain⟨E,C,s,F⟩:=D _ N;exact b2.mk (run_loadAt_mid w b o t E d C m q (by simp[A,F])) (s.arr).agg
 | false=>
  cases M with
  | nil=>simp[j,q]at i
  | cons u r=>
   simp only[j,q,Option.some.injEq]at i;subst i;obtain⟨E,C,s,F⟩:=D 1 (by simp)
   simp only[List.take_succ_cons,List.take_zero]at s;obtain⟨O,W,rfl,Q,_⟩:=s.dT;have G:=C 0 O rfl;refine b2.mk ?_ Q;have S:(isAgg t).run P w=.ok false w:=by
    unfold isAgg;rw[Sem.run_bind,run_underlying m w];cases d<;>simp_all
   simp only[aAv]at G;simp[Instr.loadAt,Instr.sureAddr,loadVar,S,load,Sem.run,G]
theorem a6.dfr{ρ:Ren}{l:List V}{i:List aOU}(h:a6 ρ l i)(d:List aO9):a6 { ρ with dfr:=d } l i:=⟨h.1,λk v j a b=>(h.2 k v j a b).dfr d⟩
theorem gO.dfr{ρ:Ren}{es:List (Nat×V×V)}{arr:Array aO6}(h:gO ρ es arr)(d:List aO9):gO { ρ with dfr:=d } es arr :=
 ⟨h.1,λk e i a b=>⟨(h.2 k e i a b).1,(h.2 k e i a b).2.1.dfr d,(h.2 k e i a b).2.2.dfr d⟩⟩
theorem px.dfr{ρ:Ren}{B:Nat}{w:aOV}{i:Nat}{o:aR}(h:px ρ B w i o)(d:List aO9):px { ρ with dfr:=d } B w i o:=by
 cases o with
 | dead=>trivial
 | cells c e L=>
  obtain⟨b,j,arr,u,z,A,C,av,D,F⟩:=h;exact⟨b,j,arr,u,z,A,C,av,D.dfr d,F⟩
 | map es cl=>
  obtain⟨b,j,arr,u,z,A,C,E⟩:=h;exact⟨b,j,arr,u,z,A,C,E.dfr d⟩
 | iter m s l st=>
  obtain⟨b,j,G,H,u,z,A,E,C⟩:=h;exact⟨b,j,G,H,u,z,A,E,C⟩
 | kt b mk M=>
  obtain⟨j,arr,u,z,A,C,D⟩:=h;exact⟨j,arr,u,z,A,C,D.dfr d⟩
theorem a1.dfr{ρ:Ren}{B:Nat}{j:aOV}{h:I}{w:aOV}(R:a1 ρ B j h w)(d:List aO9):a1 { ρ with dfr:=d } B j h w :=
 ⟨⟨R.heap.me,R.heap.inj,λi=>(R.heap.obj i).dfr d,R.heap.frz,λg u z=>by
  obtain⟨arr,A,s⟩:=R.heap.glob g u z;exact⟨arr,A,s.1,λk v C a b=>(s.2 k v C a b).dfr d⟩,R.heap.base⟩,R.below⟩
theorem Ren.le.r5{ρ ρ':Ren}{d:List aO9}(h:Ren.le { ρ with dfr:=d } ρ'):ρ.le { ρ' with dfr:=ρ.dfr }:=⟨h.ren,h.frz,rfl⟩
def V.cells:V->Option (List V)
 | .agg i=>some i
 | .top=>none
 | .tuple _=>none
 | v=>some [v]
def V.one:V->Bool
 | .agg _ | .tuple _ | .top=>false
 | _=>true
theorem aE.one{ρ:Ren}{v:V}{v':aOU}(h:aE ρ v v')(i:v.one=true):v'.oneCell'=true:=by cases h<;>simp[V.one]at i<;>rfl
theorem aE.xm{ρ:Ren}{v:V}{v':aOU}(h:aE ρ v v')(i:v.one=true):v'.cells=#[v']:=by cases h<;>simp[V.one]at i<;>rfl
theorem aE.cells{ρ:Ren}{v:V}{v':aOU}(h:aE ρ v v'){cs:List V}(av:v.cells=some cs):a6 ρ cs v'.cells.toList:=by
 have key:∀u:V,aE ρ u v'->u.one=true->u.cells=some [u]->a6 ρ [u] v'.cells.toList:=λu i z _=>by
  rw[i.xm z];exact .cons i (.nil ρ)
 cases h with
 | agg j s=>
         obtain rfl:_=cs:=by simpa [V.cells]using av
         exact er.list ⟨j,s⟩
 | top=>simp[V.cells]at av
 | tuple j s=>simp[V.cells]at av
 | _=>
     obtain rfl:_=cs:=by simpa [V.cells]using av
     exact key _ (by constructor<;>assumption) rfl rfl
theorem a6.one{ρ:Ren}{l:List V}{i:List aOU}(h:a6 ρ l i)(u:l.all (·.one)=true):∀v∈i,v.oneCell'=true:=by
 intro v z;obtain⟨k,j⟩:=aBo z;have A:k<i.length:=(are.1 j).1;have s:k<l.length:=by rw[h.1];exact A
 exact(h.2 k l[k] v (IA s) j).one ((ayL.1 u) _ (ayM s))
def lay{α:Type}(c:List α)(o:Nat)(vs:List α):List α:=c.take o++vs++c.drop (o+vs.length)
theorem r6{α:Type}(c:List α)(o:Nat)(vs:List α)(h:o+vs.length<=c.length):(lay c o vs).length=c.length:=by
 simp[lay];omega
theorem a6.lay{ρ:Ren}{c:List V}{i:List aOU}(h:a6 ρ c i){vs:List V}{j:List aOU}(s:a6 ρ vs j)(o:Nat):a6 ρ (lay c o vs) (lay i o j):=by
 unfold Ab.lay;rw[<-s.1];exact((h.take o).append s).append (h.drop _)
theorem T2{α:Type}(c:List α)(o:Nat)(vs:List α)(n:Nat)(h:o+vs.length<=n)(j:n<=c.length):(lay c o vs).take n=lay (c.take n) o vs:=by
 apply List.ext_getElem?;intro k;simp only[Ab.lay,azf,aDE,Dx,TY,azF];by_cases a:k<n
 ·simp only[a,if_true];have ay:min o c.length=o:=by omega
  have bc:min o (min n c.length)=o:=by omega
  simp only[ay,bc];by_cases i:k<o+vs.length
  ·simp only[i,if_true]
  ·simp only[i,if_false]
   first|done|rw[if_pos (by omega)]
 ·simp only[a,if_false];rw[if_neg (by omega)]
  rw[if_neg (by omega)]
theorem JZ{P:aOR}{h:I}{i:Nat}{c:List V}{e:aOS}{ex:Option Nat}(C:h.get i=.cells c e ex){ρ:Ren}{B:Nat}{D w:aOV}(R:a1 ρ B D h w)
  {b L:Nat} (z:ρ.ren i=some (b,L)) (o:Nat) {vs:List V} {j:List aOU} (q:a6 ρ vs j) (M:vs.all (·.one)=true) (s:o+vs.length<=c.length) :
  ∃w',(storeCells ⟨b,o,none⟩ j).run P w=.ok () w'/\a1 ρ B D (h.set i (.cells (lay c o vs) e ex)) w':=by
 have E:=R.heap.obj i;rw[C]at E;obtain⟨u,N,a,A,O,Q,F,av,S,T⟩:=E;rw[A]at z;simp at z;obtain⟨rfl,rfl⟩:=z;have W:o+j.length<=a.size:=by rw[<-q.1];omega
 have G:=run_storeCells_at P u o e j 0 a w F (by simpa using W) (q.one M)
 simp only[aAv]at G;refine⟨_,G,R.r4 A (by rw[C];simp) (λk H=>?_) ?_ ?_ ?_⟩
 ·simp[aOV.setRow,azP,Ne.symm H]
 ·simp[aOV.setRow]
 ·refine⟨rfl,rfl,rfl,by simp[aOV.setRow],λk H=>?_,BY _⟩
  simp[aOV.setRow,azP,show u≠k by omega]
 ·refine⟨u,N,_,A,O,Q,setRow_heap w u a _ e (0,0) F,?_,?_,?_⟩
  ·rw[r6 _ _ _ s];simp;omega
  ·rw[r6 _ _ _ s];have:=S.lay q o;rw[<-T2 a.toList o j c.length (by rw[<-q.1];exact s) (by simpa using av)]at this
   exact this
  ·rw[r6 _ _ _ s];have m:(a.toList.take o++j++a.toList.drop (o+j.length)).toArray.size=a.size:=by simp;omega
   rw[m];exact T
def ID(P:aOR)(t:aOS)(x v:V)(h:I):Option I :=
 match x,v.cells with
 | .ptr i o,some a=>
  match h.get i with
  | .cells c e j=>if some a.length=cH P t/\a.all (·.one)=true/\o+a.length<=c.length then some (h.set i (.cells (lay c o a) e j))else none
  | _=>none
 | _,_=>none
theorem ajH{P:aOR}{t:aOS}{x v:V}{q v':aOU}{h h':I}(a:ID P t x v h=some h'){ρ:Ren}{B:Nat}{s w:aOV}(R:a1 ρ B s h w)
  (z:aE ρ x q) (A:aE ρ v v'):∃w',(Instr.storeAt t q v').run P w=.ok () w'/\a1 ρ B s h' w':=by
 unfold ID at a;split at a
 case h_2=>cases a
 rename_i i o C D;cases z with
 | ptr hi o=>
 rename_i b N;split at a
 case h_2=>cases a
 rename_i c e O E;split at a
 case isFalse=>cases a
 rename_i F;obtain⟨bl,G,H⟩:=F;obtain rfl:_=h':=by simpa using a
 have u:=A.cells D;obtain⟨w',L,M⟩:=JZ (P:=P) E R hi o u G H;refine⟨w',?_,M⟩;have j:v'.cells.size=C.length:=by have:=u.1;simpa using this.symm
 cases m:P.info? t with
 | none=>simp[cH,m]at bl
 | some Q=>
  simp[cH,m]at bl;simp[Instr.storeAt,Instr.sureAddr,storeVar,sizeOf,typeInfo,m,j,bl,L]
theorem T3{h:I}{ρ:Ren}{B:Nat}{i w:aOV}(R:a1 ρ B i h w){c:List V}{a:List aOU}(e:aOS)(av:a6 ρ c a)(j:Nat) :
  ∃ ρ':Ren,ρ.le ρ'/\ρ'.ren h.n=some (w.heap.size,j)/\a1 ρ' B i (h.push (.cells c e none)) (w.alloc (.cells a.toArray e)) :=
 R.push (arr:=a.toArray) j (by simp) (λk q=>Below.heap_alloc w _ k q) (heap_alloc_new w _) ((hN.refl _ _).alloc R.heap.base _)
  (by simp[av.1]) (by simpa [av.1]using av) (show _=_ by simp[av.1])
theorem wr{P:aOR}{h:I}{ρ:Ren}{B:Nat}{i w:aOV}(R:a1 ρ B i h w){cs:List V}{v':aOU}(e:aOS)(j:a6 ρ cs v'.cells.toList)(s:Sem aOU)
  (m:s.run P w=.ok (.pointer (some ⟨w.heap.size,0,none⟩)) (w.alloc (.cells v'.cells e))) :
  Yields P s ρ B i w (.ptr h.n 0) (h.push (.cells cs e none)):=by
 obtain⟨ρ',a,q,u⟩:=T3 R e j 0;exact⟨ρ',_,_,m,.ptr q 0,by simpa using u,a⟩
def gV(P:aOR)(e:aOS):Option (List V):=match mz P e with|some z=>(fC z).cells|none=>none
theorem IE{P:aOR}{e:aOS}{zs:List V}(h:gV P e=some zs):∃z,mz P e=some z/\∀ ρ,a6 ρ zs z.cells.toList:=by
 unfold gV at h;split at h
 ·rename_i z a;exact⟨z,a,fun ρ=>(FA ρ z).cells h⟩
 ·cases h
def IF(P:aOR)(e:aOS)(h:I):Option (V×I) :=
 match gV P e with
 | some zs=>some (.ptr h.n 0,h.push (.cells zs e none))
 | none=>none
def xn(e:aOS)(x:V)(h:I):Option (V×I) :=
 match x.cells with
 | some a=>some (.ptr h.n 0,h.push (.cells a e none))
 | none=>none
theorem ajI{P:aOR}{e:aOS}{v:V}{h h':I}(a:IF P e h=some (v,h')){ρ:Ren}{B:Nat}{m w:aOV}(R:a1 ρ B m h w) :
  Yields P (Instr.alloc e true (.tuple #[])) ρ B m w v h':=by
 unfold IF at a;split at a
 case h_2=>cases a
 rename_i zs q;obtain⟨z,i,s⟩:=IE q;simp at a;obtain⟨rfl,rfl⟩:=a;refine wr R e (s ρ) _ ?_;cases j:P.info? e with
 | none=>simp[mz,j]at i
 | some u=>
  simp[mz,j]at i;simp[Instr.alloc,zeroValue,typeInfo,j,i,newVar,newRow]
theorem ajJ{P:aOR}{e:aOS}{x v:V}{i:aOU}{h h':I}(a:xn e x h=some (v,h')){ρ:Ren}{B:Nat}{j w:aOV}(R:a1 ρ B j h w)(m:aE ρ x i) :
  Yields P (Instr.box e i) ρ B j w v h':=by
 unfold xn at a;split at a
 case h_2=>cases a
 rename_i s q;simp at a;obtain⟨rfl,rfl⟩:=a;exact wr R e (m.cells q) _ (by simp[Instr.box,newVar,newRow])
theorem aE.rl{ρ:Ren}{i o:Nat}{j:aOU}(h:aE ρ (.ptr i o) j):∃b c,ρ.ren i=some (b,c)/\j=.pointer (some ⟨b,o,none⟩):=by
 cases h with
 | ptr hi=>exact⟨_,_,hi,rfl⟩
theorem aE.gW{ρ:Ren}{i o len cap:Nat}{j:aOU}(h:aE ρ (.bg i o len cap) j):∃b c,ρ.ren i=some (b,c)/\len<=gg c cap/\j=.slice (some ⟨b,o,none⟩) len (gg c cap):=by
 cases h with
 | bg hi _ _ _ s=>exact⟨_,_,hi,s,rfl⟩
theorem aE.wb{ρ:Ren}{cs:List V}{i:aOU}(h:aE ρ (.at cs) i):∃(b o:Nat) (arr:Array aOU),ρ.frz b=some arr/\o+cs.length<=arr.size /\
  (∀(k:Nat) (v:V) (v':aOU),cs[k]?=some v->arr[o+k]?=some v'->aE ρ v v')/\i=.pointer (some ⟨b,o,none⟩):=by
 cases h with
 | «at» o ak j s=>exact⟨_,o,_,ak,j,s,rfl⟩
theorem aE.k1{ρ:Ren}{n:Nat}{cs:List V}{i:aOU}(h:aE ρ (.af n cs) i):(n=0/\cs=[]/\∃(a:Option aO2) (c:Nat),(a=none->c=0)/\i=.slice a 0 c)\/∃(b o cap:Nat) (arr:Array aOU),ρ.frz b=some arr/\n<=cap/\o+cs.length<=arr.size /\
  (∀(k:Nat) (v:V) (v':aOU),cs[k]?=some v->arr[o+k]?=some v'->aE ρ v v')/\i=.slice (some ⟨b,o,none⟩) n cap:=by
 cases h with
 | af o _ cap ak j s u=>exact .inr ⟨_,o,cap,_,ak,j,s,u,rfl⟩
 | fD a c aT=>exact .inl ⟨rfl,rfl,a,c,aT,rfl⟩
theorem aE.zi{ρ:Ren}{b o:Nat}{arr:Array aOU}{cs:List V}(ak:ρ.frz b=some arr)(u:o+cs.length<=arr.size)
  (j:∀(k:Nat) (v:V) (v':aOU),cs[k]?=some v->arr[o+k]?=some v'->aE ρ v v') (d:Nat) (z:d<=cs.length):aE ρ (.at (cs.drop d)) (.pointer (some ⟨b,o+d,none⟩)) :=
 .at (o+d) ak (by simp;omega) λk v v' i s=>by
  rw[azF]at i;exact j _ v v' i (by rw[<-aAk];exact s)
theorem aE.Bx{ρ:Ren}{b o n cap:Nat}{arr:Array aOU}{cs:List V}(ak:ρ.frz b=some arr)(z:o+cs.length<=arr.size)
  (j:∀(k:Nat) (v:V) (v':aOU),cs[k]?=some v->arr[o+k]?=some v'->aE ρ v v') (d m:Nat) (A:d<=cs.length) (s:n<=cap):aE ρ (.af n ((cs.drop d).take m)) (.slice (some ⟨b,o+d,none⟩) n cap) :=
 .af (o+d) n cap ak s (by simp;omega) λk v v' i u=>by
  rw[azf]at i;split at i
  ·rw[azF]at i;exact j _ v v' i (by rw[<-aAk];exact u)
  ·cases i
def FC(P:aOR)(s:aOS)(x:V)(k:Nat):Option V :=
 match P.underlying s with
 | some (.struct j)=>
  match j[k]? with
  | some f=>match cH P f.type with
   | some (_+1)=>match x with
    | .ptr i o=>some (.ptr i (o+f.offset))
    | .at a=>if f.offset<=a.length then some (.at (a.drop f.offset))else none
    | _=>none
   | _=>none
  | none=>none
 | _=>none
theorem ajK{P:aOR}{s:aOS}{x v:V}{u:aOU}{k:Nat}{h:I}(a:FC P s x k=some v){ρ:Ren}{B:Nat}{C w:aOV}(R:a1 ρ B C h w)(z:aE ρ x u) :
  b2 P (Instr.fieldAt s u k) ρ w v:=by
 unfold FC at a;split at a
 case h_2=>cases a
 rename_i M D;split at a
 case h_2=>cases a
 rename_i f E;split at a
 case h_2=>cases a
 rename_i n q;have j:∃m,P.info? f.type=some m/\m.size≠0:=by
  cases j:P.info? f.type with
  | none=>simp[cH,j]at q
  | some m=>simp[cH,j]at q;exact⟨m,rfl,by omega⟩
 obtain⟨m,j,q⟩:=j;have A:∀b o,(Instr.fieldAt s (.pointer (some ⟨b,o,none⟩)) k).run P w=.ok (.pointer (some ⟨b,o+f.offset,none⟩)) w:=λb o=>by
  simp[Instr.fieldAt,run_underlying D,E,Instr.sureAddr,fieldPlace,sizeOf,typeInfo,j,q,aO2.add_mid]
 split at a
 ·rename_i i o;obtain rfl:_=v:=by simpa using a
  obtain⟨b,c,hi,rfl⟩:=z.rl;exact b2.mk (A b o) (.ptr hi _)
 ·split at a
  case isFalse=>cases a
  rename_i F;obtain rfl:_=v:=by simpa using a
  obtain⟨b,o,G,ak,H,L,rfl⟩:=z.wb;exact b2.mk (A b o) (.zi ak H L _ F)
 ·cases a
def gP(P:aOR)(t:aOS)(x m:V):Option V :=
 match m with
 | .int _ n=>
  match P.underlying t,x with
  | some (.array a e),.ptr i o=>
   match cH P e with
   | some sz=>if 0<=n/\n<a then some (.ptr i (o+n.toNat*sz))else none
   | none=>none
  | some (.array a e),.at j=>
   match cH P e with
   | some sz=>if 0<=n/\n<a/\n.toNat*sz<=j.length then some (.at (j.drop (n.toNat*sz)))else none
   | none=>none
  | some (.slice e),.bg i o a _=>
   match cH P e with
   | some sz=>if 0<=n/\n<a then some (.ptr i (o+n.toNat*sz))else none
   | none=>none
  | some (.slice e),.af a j=>
   match cH P e with
   | some sz=>if 0<=n/\n<a/\n.toNat*sz<=j.length then some (.at (j.drop (n.toNat*sz)))else none
   | none=>none
  | _,_=>none
 | _=>none
theorem ajL{P:aOR}{t:aOS}{x D v:V}{E F:aOU}{h:I}(m:gP P t x D=some v){ρ:Ren}{B:Nat}{L w:aOV}(R:a1 ρ B L h w)
  (z:aE ρ x E) (M:aE ρ D F):b2 P (Instr.indexAt t E F) ρ w v:=by
 unfold gP at m;split at m
 case h_2=>cases m
 rename_i k n;cases M with
 | int k n=>
 have G:∀e s (j cap b o:Nat),P.underlying t=some (.slice e)->P.info? e=some s->0<=n/\n<j ->
   (Instr.indexAt t (.slice (some ⟨b,o,none⟩) j cap) (.int k n)).run P w=.ok (.pointer (some ⟨b,o+n.toNat*s.size,none⟩)) w:=λe s j cap b o u q ak=>by
  simp[Instr.indexAt,asIntOf,run_underlying u,ak,sizeOf,typeInfo,q,aO2.add_mid]
 have H:∀e s (j b o:Nat),P.underlying t=some (.array j e)->P.info? e=some s->0<=n/\n<j ->
   (Instr.indexAt t (.pointer (some ⟨b,o,none⟩)) (.int k n)).run P w=.ok (.pointer (some ⟨b,o+n.toNat*s.size,none⟩)) w:=λe s j b o u q ak=>by
  simp[Instr.indexAt,asIntOf,run_underlying u,Instr.sureAddr,ak,sizeOf,typeInfo,q,aO2.add_mid]
 split at m
 ·rename_i j e i o u;cases z with
  | ptr hi o=>
  split at m
  case h_2=>cases m
  rename_i sz bl;split at m
  case isFalse=>cases m
  rename_i ak;obtain rfl:_=v:=by simpa using m
  cases q:P.info? e with
  | none=>simp[cH,q]at bl
  | some s=>
   simp[cH,q]at bl;subst bl;exact b2.mk (H e s j _ o u q ak) (.ptr hi _)
 ·rename_i j e N u;cases z with
  | «at» o A C z=>
  split at m
  case h_2=>cases m
  rename_i sz bl;split at m
  case isFalse=>cases m
  rename_i ak;obtain rfl:_=v:=by simpa using m
  cases q:P.info? e with
  | none=>simp[cH,q]at bl
  | some s=>
   simp[cH,q]at bl;subst bl;exact b2.mk (H e s j _ o u q ⟨ak.1,ak.2.1⟩) (.zi A C z _ ak.2.2)
 ·rename_i e i o j cap u;cases z with
  | bg hi o j cap O=>
  split at m
  case h_2=>cases m
  rename_i sz bl;split at m
  case isFalse=>cases m
  rename_i ak;obtain rfl:_=v:=by simpa using m
  cases q:P.info? e with
  | none=>simp[cH,q]at bl
  | some s=>
   simp[cH,q]at bl;subst bl;exact b2.mk (G e s j _ _ o u q ak) (.ptr hi _)
 ·rename_i e j N u;split at m
  case h_2=>cases m
  rename_i sz bl;split at m
  case isFalse=>cases m
  rename_i ak;obtain rfl:_=v:=by simpa using m
  cases q:P.info? e with
  | none=>simp[cH,q]at bl
  | some s=>
   simp[cH,q]at bl;subst bl;cases z with
   | af o _ cap A Q C z=>exact b2.mk (G e s j cap _ o u q ⟨ak.1,ak.2.1⟩) (.zi A C z _ ak.2.2)
   | fD a c aT=>omega
 ·cases m
def xp:V->Option Nat
 | .int _ n=>if 0<=n then some n.toNat else none
 | _=>none
theorem FD{v:V}{v':aOU}{n:Nat}(h:xp v=some n){ρ:Ren}(a:aE ρ v v'):∃k,v'=.int k (n:Int):=by
 unfold xp at h;split at h
 ·rename_i k m;split at h
  ·cases a;simp at h;exact⟨k,by rw[<-h];congr;omega⟩
  ·cases h
 ·cases h
def lY(a:Option V):Option Nat:=match a with|none=>some 0|some v=>xp v
def eV(len:Nat)(a:Option V):Option Nat:=match a with|none=>some len|some v=>xp v
def yG(i o len cap sz l U m:Nat):Option V :=
 if cap<b7 then
  if l<=U/\U<=m/\m<=cap then some (.bg i (if m=l then o else o+l*sz) (U-l) (m-l))else none
 else
  if m=cap/\l<=U/\U<=len then(if l=0\/l<len then some (.bg i (o+l*sz) (U-l) (cap+l))else some (.af 0 []))else none
def Ch(n sz l U m:Nat)(mx:Bool)(cs:List V):Option V :=
 if l<=U/\U<=m/\m<=n/\l*sz<=cs.length then
  if mx=true/\m=l then some .z0 else some (.af (U-l) ((cs.drop (l*sz)).take ((U-l)*sz)))
 else none
def kx(P:aOR)(t:aOS)(x:V)(q a mx:Option V):Option V :=
 match P.underlying t,x with
 | some (.slice e),.bg i o j cap=>
  match cH P e,lY q,eV j a,eV cap mx with
  | some sz,some l,some U,some m=>if mx.isSome=true/\b7<=cap then(if a.isSome=true/\m<=j/\j<b7 then yG i o j j sz l U m else none)
   else if mx.isSome/\(a.isNone\/b7<=cap)then none else yG i o j cap sz l U m
  | _,_,_,_=>none
 | some (.slice e),.af n u=>
  match cH P e,lY q,eV n a,eV n mx with
  | some sz,some l,some U,some m=>if mx.isSome/\a.isNone then none else Ch n sz l U m mx.isSome u
  | _,_,_,_=>none
 | some (.slice e),.ag=>
  match cH P e,lY q,eV 0 a,eV 0 mx with
  | some _,some 0,some 0,some 0=>if mx.isSome/\a.isNone then none else some .ag
  | _,_,_,_=>none
 | some (.slice e),.z0=>
  match cH P e,lY q,eV 0 a,eV 0 mx with
  | some _,some 0,some 0,some 0=>if mx.isSome/\a.isNone then none else some .z0
  | _,_,_,_=>none
 | some (.array n e),.ptr i o=>
  match cH P e,lY q,eV n a,eV n mx with
  | some sz,some l,some U,some m=>if mx.isSome/\a.isNone then none else if n<b7 then yG i o n n sz l U m else none
  | _,_,_,_=>none
 | some (.array n e),.at u=>
  match cH P e,lY q,eV n a,eV n mx with
  | some sz,some l,some U,some m=>if mx.isSome/\a.isNone then none else Ch n sz l U m mx.isSome u
  | _,_,_,_=>none
 | some .string,.string s=>
  match lY q,eV s.size a,mx with
  | some l,some U,none=>if l<=U/\U<=s.size then some (.string (s.extract l U))else none
  | _,_,_=>none
 | _,_=>none
theorem Ci{P:aOR}{w:aOV}{k:aOT}{n y:Nat}{a:BoundsCode}(h:n<=y):(Instr.sliceBound (.int k (n:Int)) y a).run P w=.ok n w:=by
 simp[Instr.sliceBound,asIntOf,h]
theorem yH{P:aOR}{w:aOV}{a:Bool}{len cap l U m:Nat}{lo hi mx:Option V}{A B C:Option aOU}{ρ:Ren}
  (cL:aAw (aE ρ) lo A) (dB:aAw (aE ρ) hi B) (jf:aAw (aE ρ) mx C)
  (q:lY lo=some l) (i:eV len hi=some U) (j:∃D,eV D mx=some m/\(mx=none->m=cap)) (z:l<=U) (s:U<=m) (av:m<=cap) (E:¬(mx.isSome/\hi.isNone)) :
  (Instr.sliceBounds a len cap A B C).run P w=.ok (l,U,m) w:=by
 obtain⟨D,j,u⟩:=j;cases cL with
 | none=>
  simp[lY]at q;subst q;cases dB with
  | none=>
   simp[eV]at i;subst i;cases jf with
   | none=>simp[Instr.sliceBounds,u rfl]
   | some jf=>simp at E
  | some dB=>
   simp only[eV]at i;obtain⟨F,rfl⟩:=FD i dB;cases jf with
   | none=>obtain rfl:=u rfl;simp[Instr.sliceBounds,Ci s]
   | some jf=>simp only[eV]at j;obtain⟨G,rfl⟩:=FD j jf;simp[Instr.sliceBounds,Ci s,Ci av]
 | some cL=>
  simp only[lY]at q;obtain⟨H,rfl⟩:=FD q cL;cases dB with
  | none=>
   simp[eV]at i;subst i;cases jf with
   | none=>obtain rfl:=u rfl;simp[Instr.sliceBounds,Ci z]
   | some jf=>simp at E
  | some dB=>
   simp only[eV]at i;obtain⟨F,rfl⟩:=FD i dB;cases jf with
   | none=>obtain rfl:=u rfl;simp[Instr.sliceBounds,Ci s,Ci z]
   | some jf=>simp only[eV]at j;obtain⟨G,rfl⟩:=FD j jf;simp[Instr.sliceBounds,Ci s,Ci av,Ci z]
theorem T4{ρ:Ren}{i b j o len cap sz l U m:Nat}(hi:ρ.ren i=some (b,j))(z:len<=gg j cap){v:V}(h:yG i o len cap sz l U m=some v) :
  ∃q,(m<b7/\cap<b7->q=m)/\(b7<=cap->m=cap/\q=gg j cap)/\l<=U/\U<=q/\q<=gg j cap /\
   aE ρ v (.slice (if q=l then some ⟨b,o,none⟩else some (aO2.add ⟨b,o,none⟩ (l*sz))) (U-l) (q-l)):=by
 unfold yG at h;split at h
 ·rename_i av;split at h
  ·rename_i ak;obtain rfl:_=v:=by simpa using h
   refine⟨m,λ_=>rfl,λh=>by omega,ak.1,ak.2.1,by simp[gg,av,ak.2.2],?_⟩
   have a:aE ρ (.bg i (if m=l then o else o+l*sz) (U-l) (m-l)) (.slice (some ⟨b,if m=l then o else o+l*sz,none⟩) (U-l) (gg j (m-l))) :=
    .bg hi _ _ _ (by simp[gg,show m-l<b7 by omega];omega)
   simp only[gg,show m-l<b7 by omega,if_true]at a
   by_cases s:m=l
   ·simpa [s]using a
   ·simpa [s,aO2.add_mid]using a
  ·cases h
 ·rename_i av;split at h
  ·rename_i ak;refine⟨gg j cap,λh=>by omega,λ_=>⟨ak.1,rfl⟩,ak.2.1,by omega,BY _,?_⟩
   split at h
   case isFalse hll=>
    obtain rfl:_=v:=by simpa using h
    rw[show U-l=0 by omega]
    refine .fD _ _ λu=>?_;split at u<;>cases u
   rename_i hll;obtain rfl:_=v:=by simpa using h
   have ay:gg j (cap+l)=gg j cap-l:=by simp[gg,av,show ¬cap+l<b7 by omega];omega
   have a:aE ρ (.bg i (o+l*sz) (U-l) (cap+l)) (.slice (some ⟨b,o+l*sz,none⟩) (U-l) (gg j (cap+l))) :=
    .bg hi _ _ _ (by rw[ay];omega)
   rw[ay]at a;by_cases s:gg j cap=l
   ·have:l=0:=by omega
    subst this;simpa [s]using a
   ·simpa [s,aO2.add_mid]using a
  ·cases h
theorem ZB{ρ:Ren}{b o n sz l U m a:Nat}{arr:Array aOU}{cs:List V}{mx:Bool}{v:V}(ak:ρ.frz b=some arr)(i:o+cs.length<=arr.size)
  (j:∀(k:Nat) (v:V) (v':aOU),cs[k]?=some v->arr[o+k]?=some v'->aE ρ v v') (h:Ch n sz l U m mx cs=some v) (s:mx=true->a=m) (z:U<=a) :
  aE ρ v (.slice (if a=l then some ⟨b,o,none⟩else some (aO2.add ⟨b,o,none⟩ (l*sz))) (U-l) (a-l)):=by
 unfold Ch at h;split at h
 case isFalse=>cases h
 rename_i av;split at h
 ·rename_i u;obtain rfl:_=v:=by simpa using h
  have:=s u.1;have ay:a-l=0:=by omega
  have bc:U-l=0:=by omega
  rw[ay,bc];exact .z0 _ trivial
 ·obtain rfl:_=v:=by simpa using h
  by_cases q:a=l
  ·have bc:U-l=0:=by omega
   rw[if_pos q,bc];have:=aE.Bx ak i j 0 0 (by omega) (Dy (a-l))
   simpa using this
  ·rw[if_neg q,aO2.add_mid];exact .Bx ak i j (l*sz) _ (by omega) (by omega)
theorem ZC{n sz l U m:Nat}{mx:Bool}{cs:List V}{v:V}(h:Ch n sz l U m mx cs=some v):l<=U/\U<=m/\m<=n:=by
 unfold Ch at h;split at h
 ·rename_i av;exact⟨av.1,av.2.1,av.2.2.1⟩
 ·cases h
theorem ajM{P:aOR}{t:aOS}{x v:V}{b9:aOU}{lo hi mx:Option V}{G H M:Option aOU}{h:I}(j:kx P t x lo hi mx=some v){ρ:Ren}{B:Nat}{aV w:aOV}(R:a1 ρ B aV h w)
  (N:aE ρ x b9) (cL:aAw (aE ρ) lo G) (dB:aAw (aE ρ) hi H) (jf:aAw (aE ρ) mx M):b2 P (Instr.sliceAt t b9 G H M) ρ w v:=by
 have qK:∀e C (b o z cap l U m:Nat),P.underlying t=some (.slice e)->P.info? e=some C->(Instr.sliceBounds true z cap G H M).run P w=.ok (l,U,m) w ->
   (Instr.sliceAt t (.slice (some ⟨b,o,none⟩) z cap) G H M).run P w=.ok (.slice (if m=l then some ⟨b,o,none⟩else some (aO2.add ⟨b,o,none⟩ (l*C.size))) (U-l) (m-l)) w:=λe C b o z cap l U m u q ak=>by
  simp only[Instr.sliceAt,Sem.run_bind,run_underlying u,aO3.andThen_ok,Instr.slice,ak];by_cases Q:m=l
  ·simp[Q,sizeOf,typeInfo,q]
  ·simp[Q,sizeOf,typeInfo,q]
 have J0:∀e C (b o n l U m:Nat),P.underlying t=some (.array n e)->P.info? e=some C->(Instr.sliceBounds false n n G H M).run P w=.ok (l,U,m) w ->
   (Instr.sliceAt t (.pointer (some ⟨b,o,none⟩)) G H M).run P w=.ok (.slice (if m=l then some ⟨b,o,none⟩else some (aO2.add ⟨b,o,none⟩ (l*C.size))) (U-l) (m-l)) w:=λe C b o n l U m u q ak=>by
  by_cases Q:m=l
  ·simp[Instr.sliceAt,run_underlying u,Instr.sureAddr,ak,Q,sizeOf,typeInfo,q]
  ·simp[Instr.sliceAt,run_underlying u,Instr.sureAddr,ak,Q,sizeOf,typeInfo,q]
 unfold kx at j;split at j
 ·rename_i e i o z cap u;cases N with
  | bg aJ o z cap ax=>
  rename_i b Z;split at j
  case h_2=>cases j
  rename_i sz l U m bl D E F;cases q:P.info? e with
  | none=>simp[cH,q]at bl
  | some C=>
  simp[cH,q]at bl;subst bl;split at j
  ·rename_i T;split at j
   case isFalse=>cases j
   rename_i Q;have cM:gg Z z=z:=by simp[gg,Q.2.2]
   obtain⟨O,x5,o1,W,X,Y,fl⟩:=T4 aJ (by rw[cM];exact BY _) j
   obtain rfl:=x5 ⟨by omega,Q.2.2⟩
   refine b2.mk (qK e C b o z _ l U O u q ?_) fl;obtain⟨aq,rfl⟩:=Option.isSome_iff_exists.1 T.1;refine yH cL dB jf D E ⟨cap,F,by simp⟩ W X (by omega) (λU=>?_)
   have:=U.2;cases hi
   ·simp at Q
   ·simp at this
  rename_i T;split at j
  case isTrue=>cases j
  rename_i L;obtain⟨O,x5,o1,W,X,Y,fl⟩:=T4 aJ ax j;refine b2.mk (qK e C b o z _ l U O u q ?_) fl;by_cases av:cap<b7
  ·have dt:gg Z cap=cap:=by simp[gg,av]
   have T:m<b7:=by
    have:=j;unfold yG at this;simp only[av,if_true]at this;split at this
    ·omega
    ·cases this
   obtain rfl:=x5 ⟨T,av⟩;refine yH cL dB jf D E ⟨cap,F,λS=>?_⟩ W X Y (λU=>L ⟨U.1,.inl U.2⟩);subst S;simp[eV]at F;omega
  ·obtain⟨rfl,rfl⟩:=o1 (by omega)
   have T5:mx=none:=by
    cases mx with
    | none=>rfl
    | some _=>exact absurd ⟨rfl,.inr (by omega)⟩ L
   subst T5;exact yH cL dB jf D E ⟨gg Z m,rfl,λ_=>rfl⟩ W X Y (by simp)
 ·rename_i e n cs u;split at j
  case h_2=>cases j
  rename_i sz l U m bl D E F;split at j
  case isTrue=>cases j
  rename_i L;cases q:P.info? e with
  | none=>simp[cH,q]at bl
  | some C=>
  simp[cH,q]at bl;subst bl;have A:=ZC j;cases N with
  | af o _ cap jl S aO N=>
   rename_i b ai;have:∃O,(mx.isSome=true->O=m)/\U<=O/\(Instr.sliceBounds true n cap G H M).run P w=.ok (l,U,O) w:=by
    cases mx with
    | none=>exact⟨cap,by simp,by omega,yH cL dB jf D E ⟨cap,rfl,λ_=>rfl⟩ A.1 (by omega) (BY _) (by simp)⟩
    | some _=>exact⟨m,λ_=>rfl,A.2.1,yH cL dB jf D E ⟨n,F,by simp⟩ A.1 A.2.1 (by omega) L⟩
   obtain⟨O,ay,bc,cW⟩:=this;exact b2.mk (qK e C b o n cap l U O u q cW) (ZB jl aO N j ay bc)
  | fD a c aT=>
   have ay:l=0:=by omega
   have bc:U=0:=by omega
   have cW:m=0:=by omega
   subst ay;subst bc;subst cW;cases Cj:mx.isSome with
   | true=>
    have ak:(Instr.sliceBounds true 0 c G H M).run P w=.ok (0,0,0) w :=
     yH cL dB jf D E ⟨0,F,λS=>by rw[S]at Cj;cases Cj⟩ (BY _) (BY _) (Dy _) L
    have cR:(Instr.sliceAt t (.slice a 0 c) G H M).run P w=.ok (.slice a 0 0) w:=by
     cases a with
     | none=>
      obtain rfl:=aT rfl;simp[Instr.sliceAt,run_underlying u,Instr.slice,ak,sizeOf,typeInfo,q]
     | some a=>simp[Instr.sliceAt,run_underlying u,Instr.slice,ak,sizeOf,typeInfo,q]
    refine b2.mk cR ?_;unfold Ch at j;simp[Cj]at j;obtain rfl:_=v:=by simpa using j
    exact .z0 a trivial
   | false=>
    have RS:mx=none:=by cases mx<;>simp at Cj⊢
    subst RS;have ak:(Instr.sliceBounds true 0 c G H M).run P w=.ok (0,0,c) w :=
     yH cL dB jf D E ⟨c,rfl,λ_=>rfl⟩ (BY _) (Dy _) (BY _) L
    have cR:(Instr.sliceAt t (.slice a 0 c) G H M).run P w=.ok (.slice a 0 c) w:=by
     cases a with
     | none=>
      obtain rfl:=aT rfl;simp[Instr.sliceAt,run_underlying u,Instr.slice,ak,sizeOf,typeInfo,q]
     | some a=>
      by_cases uX:c=0
      ·subst uX;simp[Instr.sliceAt,run_underlying u,Instr.slice,ak,sizeOf,typeInfo,q]
      ·simp[Instr.sliceAt,run_underlying u,Instr.slice,ak,sizeOf,typeInfo,q,aO2.add,Ne.symm uX]
    refine b2.mk cR ?_;unfold Ch at j;simp at j;obtain rfl:_=v:=by simpa using j
    exact .fD a c aT
 ·rename_i e u;cases N;split at j
  case h_2=>cases j
  rename_i sz bl D E F;split at j
  case isTrue=>cases j
  rename_i L;obtain rfl:_=v:=by simpa using j
  refine b2.mk ?_ .ag;have ak:(Instr.sliceBounds true 0 0 G H M).run P w=.ok (0,0,0) w :=
   yH cL dB jf D E ⟨0,F,λ_=>rfl⟩ (BY _) (BY _) (BY _) L
  cases q:P.info? e with
  | none=>simp[cH,q]at bl
  | some C=>simp[Instr.sliceAt,run_underlying u,Instr.slice,ak,sizeOf,typeInfo,q]
 ·rename_i e u;cases N with
  | z0 a aT=>
  split at j
  case h_2=>cases j
  rename_i sz bl D E F;split at j
  case isTrue=>cases j
  rename_i L;obtain rfl:_=v:=by simpa using j
  refine b2.mk ?_ (.z0 a trivial);have ak:(Instr.sliceBounds true 0 0 G H M).run P w=.ok (0,0,0) w :=
   yH cL dB jf D E ⟨0,F,λ_=>rfl⟩ (BY _) (BY _) (BY _) L
  cases q:P.info? e with
  | none=>simp[cH,q]at bl
  | some C=>cases a<;>simp[Instr.sliceAt,run_underlying u,Instr.slice,ak,sizeOf,typeInfo,q]
 ·rename_i n e i o u;cases N with
  | ptr aJ o=>
  rename_i b Z;split at j
  case h_2=>cases j
  rename_i sz l U m bl D E F;split at j
  case isTrue=>cases j
  rename_i L;split at j
  case isFalse=>cases j
  rename_i J1;cases q:P.info? e with
  | none=>simp[cH,q]at bl
  | some C=>
  simp[cH,q]at bl;subst bl;have dt:gg Z n=n:=by simp[gg,J1]
  obtain⟨O,x5,o1,W,X,Y,fl⟩:=T4 aJ (by rw[dt];exact BY _) j
  rw[dt]at Y;have T:m<b7:=by
   have:=j;unfold yG at this;simp only[J1,if_true]at this;split at this
   ·omega
   ·cases this
  obtain rfl:=x5 ⟨T,J1⟩;exact b2.mk (J0 e C b o n l U O u q (yH cL dB jf D E ⟨n,F,λS=>by subst S;simp[eV]at F;omega⟩ W X Y L)) fl
 ·rename_i n e cs u;cases N with
  | «at» o jl aO N=>
  rename_i b ai;split at j
  case h_2=>cases j
  rename_i sz l U m bl D E F;split at j
  case isTrue=>cases j
  rename_i L;cases q:P.info? e with
  | none=>simp[cH,q]at bl
  | some C=>
  simp[cH,q]at bl;subst bl;have A:=ZC j;refine b2.mk (J0 e C b o n l U m u q (yH cL dB jf D E ⟨n,F,λS=>by subst S;simp[eV]at F;omega⟩ A.1 A.2.1 A.2.2 L)) (ZB jl aO N j (λ_=>rfl) A.2.1)
 ·rename_i s u;cases N;split at j
  case h_2=>cases j
  rename_i l U D E;split at j
  case isFalse=>cases j
  rename_i ak;obtain rfl:_=v:=by simpa using j
  refine b2.mk ?_ (.string _);cases jf;have ak:(Instr.sliceBounds false s.size s.size G H none).run P w=.ok (l,U,s.size) w :=
   yH cL dB .none D E ⟨s.size,rfl,λ_=>rfl⟩ ak.1 ak.2 (BY _) (by simp)
  simp[Instr.sliceAt,run_underlying u,Instr.slice,ak]
 ·cases j
def made{α:Type}(z:List α)(n:Nat):List α:=(azr n z).flatten
theorem IG{α:Type}(z:List α)(n:Nat):made z (n+1)=made z n++z:=by simp[made,aDF]
theorem FE{α:Type}(z:List α)(n:Nat):(made z n).length=n*z.length:=by
 induction n with
 | zero=>simp[made]
 | succ n ih=>rw[IG,Dx,ih,aBp]
theorem ajN{α:Type}(z:α)(n:Nat):made [z] n=azr n z:=by
 induction n with
 | zero=>rfl
 | succ n ih=>rw[IG,ih];simp[aDF]
theorem Pr(z:Array aOU)(n:Nat):(madeCells z (n*z.size)).toList=made z.toList n:=by
 have e:∀k,(madeCells z k).toList=(List.range k).map (λi=>z[i % z.size]!):=λk=>by simp[madeCells]
 rw[e]
 induction n with
 | zero=>simp[made]
 | succ n ih=>
  rw[aBp,List.range_add,List.map_append,ih,IG]
  congr 1
  apply List.ext_getElem
  ·simp
  ·intro k m j;have a:k<z.size:=by simpa using j
   simp[Nat.mod_eq_of_lt a,a]
theorem a6.made{ρ:Ren}{z:List V}{i:List aOU}(h:a6 ρ z i)(n:Nat):a6 ρ (made z n) (made i n):=by
 induction n with
 | zero=>simp[Ab.made,a6.nil]
 | succ n ih=>rw[IG,IG];exact ih.append h
def AQ(P:aOR)(t:aOS)(l c:V)(h:I):Option (V×I) :=
 match v7 P t,xp l,xp c with
 | some e,some l,some c=>
  match gV P e,IB P e with
  | some zs,some a=>if some zs.length=cH P e/\l<=c/\a*c<=140737488355328/\c<=140737488355328 then
    some (.bg h.n 0 l c,h.push (.cells (made zs c) e none))else none
  | _,_=>none
 | _,_,_=>none
theorem ajO{P:aOR}{t:aOS}{l c v:V}{C D:aOU}{h h':I}(a:AQ P t l c h=some (v,h')){ρ:Ren}{B:Nat}{E w:aOV}(R:a1 ρ B E h w)
  (Q:aE ρ l C) (av:aE ρ c D):Yields P (Instr.makeSlice t C D) ρ B E w v h':=by
 unfold AQ at a;split at a
 case h_2=>cases a
 rename_i e F i m S T;split at a
 case h_2=>cases a
 rename_i zs aq W G;split at a
 case isFalse=>cases a
 rename_i X;obtain⟨H,Y,fb,c5⟩:=X;simp at a;obtain⟨rfl,rfl⟩:=a;obtain⟨z,q,L⟩:=IE W;obtain⟨Z,rfl⟩:=FD S Q;obtain⟨k2,rfl⟩:=FD T av;have s:P.underlying t=some (.slice e):=by
  unfold v7 at m;split at m
  ·rename_i s;rw[s];simpa using m
  ·cases m
 cases j:P.info? e with
 | none=>simp[mz,j]at q
 | some u=>
  simp[mz,j]at q;simp[IB,j]at G;simp[cH,j]at H;have M:=(L ρ).1;simp at M;have N:=run_make (P:=P) w t e u z s j q Z k2 (F:Int) (i:Int) (by omega) (by omega) (by rw[G];omega) (by omega)
  have Ps:(madeCells z.cells (i*u.size)).toList=made z.cells.toList i:=by rw[<-H,M];exact Pr _ _
  have uY:madeCells z.cells (i*u.size)=(made z.cells.toList i).toArray:=by rw[<-Ps]
  simp only[Int.toNat_natCast,uY]at N;obtain⟨ρ',A,aB,eO⟩:=T3 R e ((L ρ).made i) i;refine⟨ρ',_,_,N,?_,eO,A⟩;have O:i<b7:=by unfold b7;omega
  have:=aE.bg aB 0 F i (by simp[gg,O,Y])
  simpa [gg,O]using this
def fS(P:aOR)(sz:Nat)(tx:aOS)(x:V)(h:I):Option (Nat×List V) :=
 match P.underlying tx,x with
 | some (.slice _),.ag=>some (0,[])
 | some (.slice _),.z0=>some (0,[])
 | some (.slice _),.fk=>some (0,[])
 | some (.slice _),.af n a=>if a.length=n*sz/\a.all (·.one)=true then some (n,a)else none
 | some (.slice _),.bg i o n _=>
  match h.get i with
  | .cells c _ _=>if o+n*sz<=c.length/\((c.drop o).take (n*sz)).all (·.one)=true then some (n,(c.drop o).take (n*sz))else none
  | _=>none
 | some .string,.string s=>if sz=1 then some (s.size,(byteCells s).map gy)else none
 | _,_=>none
theorem ww(s:ByteArray):(byteCells s).map gy=s.data.toList.map λb=>V.int .u8 b.toNat:=by simp[byteCells,gy]
theorem T6(ρ:Ren)(s:ByteArray):a6 ρ ((byteCells s).map gy) (byteCells s):=a6.of_map (Dz ρ) _
theorem ajP{P:aOR}{sz:Nat}{tx:aOS}{x:V}{N:aOU}{h:I}{n:Nat}{A:List V}(q:fS P sz tx x h=some (n,A)){ρ:Ren}{B:Nat}{T w:aOV}(R:a1 ρ B T h w)
  (C:aE ρ x N):∃O,Src P sz tx N n O w/\a6 ρ A O/\A.length=n*sz/\A.all (·.one)=true:=by
 unfold fS at q;split at q
 ·rename_i e z;cases C;simp at q;obtain⟨rfl,rfl⟩:=q;exact⟨[],Src.ofNil w z 0,.nil ρ,by simp,rfl⟩
 ·rename_i e z;simp at q;obtain⟨rfl,rfl⟩:=q;cases C with
  | z0 a aT=>
   cases a with
   | none=>exact⟨[],Src.ofNil w z 0,.nil ρ,by simp,rfl⟩
   | some a=>exact⟨[],Src.ofSlice w z a 0 0 [] (by simp) (by simp) (by simp),.nil ρ,by simp,rfl⟩
 ·rename_i e z;simp at q;obtain⟨rfl,rfl⟩:=q;cases C with
  | fk a c=>exact⟨[],Src.ofSlice w z a 0 c [] (by simp) (by simp) (by simp),.nil ρ,by simp,rfl⟩
 ·rename_i e m E z;split at q
  case isFalse=>cases q
  rename_i av;simp at q;obtain⟨rfl,rfl⟩:=q;rcases C.k1 with⟨rfl,rfl,a,W,aT,rfl⟩|⟨b,o,cap,X,ak,aB,Y,Z,rfl⟩
  ·cases a with
   | none=>
    obtain rfl:=aT rfl;exact⟨[],Src.ofNil w z 0,.nil ρ,by simp,rfl⟩
   | some a=>exact⟨[],Src.ofSlice w z a 0 W [] (by simp) (by simp) (by simp),.nil ρ,by simp,rfl⟩
  ·have lF:aE ρ (.at E) (.pointer (some ⟨b,o,none⟩)):=.at o ak Y Z;obtain⟨b8,ec,F,L⟩:=Cg R.heap lF (cs:=E) rfl;simp at F;obtain⟨rfl,rfl⟩:=F;obtain⟨G,H,D,M⟩:=L E.length (BY _);rw[azG]at D;exact⟨G,Src.ofSlice w z ⟨b,o,none⟩ m cap G (by rw[M,av.1]) (λj u z=>by rw[aO2.add_mid];exact H j u z) (D.one av.2),D,av.1,av.2⟩
 ·rename_i e i o Q cap z;obtain⟨b,bG,hi,ax,rfl⟩:=C.gW;split at q
  case h_2=>cases q
  rename_i c bc ex aw;split at q
  case isFalse=>cases q
  rename_i av;simp at q;obtain⟨rfl,rfl⟩:=q;have mA:aE ρ (.ptr i o) (.pointer (some ⟨b,o,none⟩)):=.ptr hi o;obtain⟨b8,ec,F,L⟩:=Cg R.heap mA (cs:=c.drop o) (by simp[s8,aw];omega)
  simp at F;obtain⟨rfl,rfl⟩:=F;obtain⟨G,H,D,M⟩:=L (Q*sz) (by simp;omega)
  exact⟨G,Src.ofSlice w z ⟨b,o,none⟩ Q (gg bG cap) G M (λj u z=>by rw[aO2.add_mid];exact H j u z) (D.one av.2),D,by simp;omega,av.2⟩
 ·rename_i s z;cases C;split at q
  case isFalse=>cases q
  rename_i H;subst H;simp at q;obtain⟨rfl,rfl⟩:=q;have S:=Src.ofString w z s;refine⟨byteCells s,S,T6 ρ s,by simp[S.newsLen],?_⟩
  rw[ww,ayL];intro v aI;obtain⟨b,_,rfl⟩:=OF.1 aI;rfl
 ·cases q
theorem a1.move{ρ:Ren}{B:Nat}{S:aOV}{h:I}{w w':aOV}(R:a1 ρ B S h w){i b G:Nat}(hi:ρ.ren i=some (b,G))(H:h.get i≠.dead)
  {c:List V} {arr:Array aOU} {e:aOS} {ex:Option Nat}
  (C:∀k,k≠b->w'.heap[k]?=w.heap[k]?) (Z:w'.heap[b]?=some (.cells arr e (0,0))) (bl:w.heap.size<=w'.heap.size)
  (ak:hN B w w') (av:c.length<=arr.size) (ax:a6 ρ c (arr.toList.take c.length)) (ah:FB ex G arr.size c.length) :
  ∃ ρ':Ren,ρ.le ρ'/\ρ'.ren h.n=some (b,G)/\a1 ρ' B S ((h.set i .dead).push (.cells c e ex)) w':=by
 have A:=Ren.tq (R.heap.me _ (BY _)) b G;have cQ:i<h.n:=R.heap.lt hi;obtain⟨L,M,N,jn,_,T,ZD⟩:=R.heap.live H;rw[N]at hi;simp at hi;obtain⟨rfl,rfl⟩:=hi;refine⟨_,A,Ren.nY,⟨⟨λj s=>?_,λj k cX O W s u D E=>?_,λj=>?_,λk a u=>?_,λg cs aw=>?_,ajy R.heap.base bl⟩,R.below.trans ak⟩⟩
 ·simp only[I.push,I.set]at s;simp[Ren.add,show j≠h.n by omega,R.heap.me j (by omega)]
 ·simp only[I.push,I.set]at s u;simp only[Ren.add]at D E;by_cases F:j=h.n<;>by_cases Q:k=h.n
  ·omega
  ·simp[F]at D;simp[Q]at E u;obtain⟨rfl,rfl⟩:=D;have:=R.heap.inj i k L M W H u.2 N E;exact absurd this.symm u.1
  ·simp[Q]at E;simp only[F,if_false]at D s;obtain⟨rfl,rfl⟩:=E;by_cases z:j=i
   ·simp[z]at s
   ·simp only[z,if_false]at s;have:=R.heap.inj j i L O M s H D N;exact absurd this z
  ·simp only[F,if_false]at D s;simp[Q]at E u;by_cases z:j=i
   ·simp[z]at s
   ·simp only[z,if_false]at s;exact R.heap.inj j k cX O W s u.2 D E
 ·by_cases F:j=h.n
  ·subst F;simp only[I.push,I.set,if_true];exact⟨L,M,arr,Ren.nY,T,ZD,Z,av,ax.mono A,ah⟩
  ·simp only[I.push,I.set,F,if_false];by_cases z:j=i
   ·subst z;simp only[if_true];trivial
   ·simp only[z,if_false];by_cases X:h.get j=.dead
    ·rw[X];trivial
    ·refine(R.heap.obj j).ai A λY O aJ=>⟨C Y ?_,λh=>h⟩;intro x4;subst x4;exact z (R.heap.inj i j Y M O H X N aJ).symm
 ·obtain⟨ek,gh,hw⟩:=R.heap.frz k a u;have:k≠L:=by intro U;subst U;simp only[Ren.add]at u;rw[T]at u;cases u
  exact⟨ek,gh,(C k this).trans hw⟩
 ·obtain⟨j0,cm,hy⟩:=R.heap.glob g cs aw;exact⟨j0,cm,hy.mono A⟩
def lim:Nat:=140737488355328
def T7(P:aOR)(tx e:aOS)(zs:List V)(sz j:Nat)(s x:V)(h:I):Option (V×I) :=
 match P.underlying tx,x,s with
 | some (.int _),.int _ n,.bg i o a cap=>
  match h.get i with
  | .cells c _ _=>
   if 0<n/\cap<b7/\cap<a+n.toNat/\(a+n.toNat)*j<=lim/\a+n.toNat<=lim/\o+a*sz<=c.length/\0<sz then
    some (.bg h.n 0 (a+n.toNat) b7,h.push (.cells ((c.drop o).take (a*sz)++made zs n.toNat) e (some sz)))
   else none
  | _=>none
 | _,_,_=>none
def ki(P:aOR)(t tx:aOS)(s x:V)(h:I):Option (V×I) :=
 match v7 P t with
 | none=>none
 | some e=>
 match gV P e,cH P e,IB P e with
 | some zs,some sz,some m=>
  if zs.length=sz then
   match fS P sz tx x h with
   | none=>T7 P tx e zs sz m s x h
   | some (n,j)=>
    match s with
    | .ag=>
     if n=0 then some (.ag,h)
     else if n*m<=lim/\n<=lim then some (.bg h.n 0 n b7,h.push (.cells j e (some sz)))else none
    | .z0=>
     if n=0 then some (.z0,h)
     else if n*m<=lim/\n<=lim then some (.bg h.n 0 n b7,h.push (.cells j e (some sz)))else none
    | .bg i o a cap=>
     if n=0 then some (.bg i o a cap,h)
     else if(a+n)*m<=lim/\a+n<=lim then
      match h.get i with
      | .cells c bc q=>
       if cap<b7 then
        if a+n<=cap then
         if o+(a+n)*sz<=c.length then some (.bg i o (a+n) cap,h.set i (.cells (lay c (o+a*sz) j) bc q))else none
        else if o+a*sz<=c.length then some (.bg h.n 0 (a+n) b7,h.push (.cells ((c.drop o).take (a*sz)++j) e (some sz)))else none
       else if o=0/\cap=b7/\q=some sz/\a*sz<=c.length/\bc=e then
         some (.bg h.n 0 (a+n) b7,(h.set i .dead).push (.cells (c.take (a*sz)++j) e (some sz)))
        else none
      | _=>none
     else none
    | _=>none
  else none
 | _,_,_=>none
theorem T8{P:aOR}(w w':aOV)(t tx ty e:aOS)(i:aPj)(q:P.underlying t=some (.slice e))(hi:P.info? e=some i)(b off sLen sCap:Nat)(x:aOU)(n:Nat)(a:List aOU)
  (j:Src P i.size tx x n a w) (s:sLen+n<=sCap) (u:(storeCells ⟨b,off+sLen*i.size,none⟩ a).run P w=.ok () w') :
  (aOY.append_ #[t,tx] ty #[.slice (some ⟨b,off,none⟩) sLen sCap,x]).run P w=.ok (.slice (some ⟨b,off,none⟩) (sLen+n) sCap) w':=by
 rcases j.kind with⟨z,m⟩|m<;>simp[aOY.append_,run_underlying q,run_underlying m,sizeOf,typeInfo,hi,j.len,s,j.cells,aO2.add_lit,u]
theorem ZE{P:aOR}(w:aOV)(t tx ty e:aOS)(i:aPj)(s:P.underlying t=some (.slice e))(hi:P.info? e=some i)(x:aOU)(a:List aOU)
  (j:Src P i.size tx x 0 a w) :
  (aOY.append_ #[t,tx] ty #[.slice none 0 0,x]).run P w=.ok (.slice none 0 0) w:=by
 have m:=j.newsLen;simp at m;subst m;rcases j.kind with⟨u,q⟩|q<;>simp[aOY.append_,run_underlying s,run_underlying q,sizeOf,typeInfo,hi,j.len,j.cells]
theorem Pt{P:aOR}{t tx ty e:aOS}{a:aPj}{z:aOU}(G:P.underlying t=some (.slice e))(H:P.info? e=some a)(L:a.zero=some z)(M:z.cells.size=a.size)
  {h:I} {ρ:Ren} {B:Nat} {D w:aOV} (R:a1 ρ B D h w) {base:Option aO2} {sLen sCap n:Nat} {olds i:List V} {olds' j:List aOU} {u:aOU}
  (m:(aOY.firstCells a.size sLen (.slice base sLen sCap)).run P w.drew=.ok olds'.toArray w.drew) (s:a6 ρ olds olds') (N:olds.length=sLen*a.size)
  (E:Src P a.size tx u n j w) (A:a6 ρ i j) (F:sCap<sLen+n) (O:(sLen+n)*a.bytes<=lim) (Q:sLen+n<=lim) :
  Yields P (aOY.append_ #[t,tx] ty #[.slice base sLen sCap,u]) ρ B D w (.bg h.n 0 (sLen+n) b7) (h.push (.cells (olds++i) e (some a.size))):=by
 unfold lim at O Q;have S:aOY.nextslicecap (sLen+n) sCap*a.bytes<=281474976710656:=by
  have:=nextslicecap_le F
  calc _<=(2*(sLen+n))*a.bytes:=azl _ this
   _=2*((sLen+n)*a.bytes):=by rw[aBq]
   _<=_:=by omega
 have T:=run_append_grow_src w t tx ty e a z G H L base sLen sCap olds' m u n j E F (by omega) S
 have W:=grownCap_ge w (sLen+n) sCap e;have q:(olds'++j).length=(sLen+n)*a.size:=by
  rw[Dx,<-s.1,N,E.newsLen,axY]
 obtain⟨ρ',C,X,Y⟩:=R.drew.push (c:=olds++i) (arr:=(olds'++j).toArray++aOY.zeroCells z.cells (grownCap w (sLen+n) sCap e-(sLen+n))) (e:=e) (ex:=some a.size)
  (w':=w.drew.alloc (.cells ((olds'++j).toArray++aOY.zeroCells z.cells (grownCap w (sLen+n) sCap e-(sLen+n))) e)) (grownCap w (sLen+n) sCap e)
  (by simp) (λk hk=>Below.heap_alloc w.drew _ k hk) (heap_alloc_new w.drew _) ((hN.refl _ _).alloc R.drew.heap.base _)
  (by rw[(s.append A).1];simp)
  (by
   rw[(s.append A).1];have ay:((olds'++j).toArray++aOY.zeroCells z.cells (grownCap w (sLen+n) sCap e-(sLen+n))).toList.take (olds'++j).length=olds'++j:=by
    simp only[aEN];exact azT
   rw[ay];exact s.append A)
  (by
   refine⟨?_,?_⟩
   ·rw[aBr,size_zeroCells,M,List.size_toArray,q,<-axY]
    congr 1
    omega
   ·have:=grownCap_le_maxLen w (sLen+n) sCap e (by simp only[maxLen];omega)
    simp only[maxLen]at this;omega)
 refine⟨ρ',_,_,T,?_,Y,C⟩;have:=aE.bg (ρ:=ρ') X 0 (sLen+n) b7 (by simp[gg,W])
 simpa [gg]using this
theorem ajQ{P:aOR}{t tn ty e:aOS}{a:aPj}{z:aOU}{kq kn:aOT}(F:P.underlying t=some (.slice e))(G:P.underlying tn=some (.int kn))(H:P.info? e=some a)(L:a.zero=some z)(u:z.cells.size=a.size)
  {h:I} {ρ:Ren} {B:Nat} {A w:aOV} (R:a1 ρ B A h w) {base:Option aO2} {sLen sCap n:Nat} {olds zs:List V} {olds':List aOU}
  (i:(aOY.firstCells a.size sLen (.slice base sLen sCap)).run P w.drew=.ok olds'.toArray w.drew) (C:a6 ρ olds olds') (M:olds.length=sLen*a.size)
  (N:a6 ρ zs z.cells.toList) (O:0<n) (Q:0<a.size) (D:sCap<sLen+n) (S:(sLen+n)*a.bytes<=lim) (T:sLen+n<=lim) :
  Yields P (aOY.append_ #[t,tn] ty #[.slice base sLen sCap,.int kq n]) ρ B A w (.bg h.n 0 (sLen+n) b7) (h.push (.cells (olds++made zs n) e (some a.size))):=by
 unfold lim at S T;have W:aOY.nextslicecap (sLen+n) sCap*a.bytes<=281474976710656:=by
  have:=nextslicecap_le D
  calc _<=(2*(sLen+n))*a.bytes:=azl _ this
   _=2*((sLen+n)*a.bytes):=by rw[aBq]
   _<=_:=by omega
 have X:n*a.bytes<=281474976710656:=ajy (azl _ (Nat.le_add_left n sLen)) (by omega)
 have Y:=Lib.run_append_grow_zeros w t tn ty e a z kq kn F G H L base sLen sCap olds' i n O Q D (by omega) X W
 have Z:=grownCap_ge w (sLen+n) sCap e;have E:(aOY.zeroCells z.cells n).toList=made z.cells.toList n:=Pr z.cells n;have oj:a6 ρ (made zs n) (aOY.zeroCells z.cells n).toList:=by rw[E];exact N.made n
 have m:=C.append oj;have j:(olds'++(aOY.zeroCells z.cells n).toList).length=(sLen+n)*a.size:=by
  rw[Dx,<-C.1,M,E,FE,az6,u,axY]
 obtain⟨ρ',s,mg,eO⟩:=R.drew.push (c:=olds++made zs n) (arr:=olds'.toArray++aOY.zeroCells z.cells n++aOY.zeroCells z.cells (grownCap w (sLen+n) sCap e-(sLen+n))) (e:=e) (ex:=some a.size)
  (w':=w.drew.alloc (.cells (olds'.toArray++aOY.zeroCells z.cells n++aOY.zeroCells z.cells (grownCap w (sLen+n) sCap e-(sLen+n))) e)) (grownCap w (sLen+n) sCap e)
  (by simp) (λk hk=>Below.heap_alloc w.drew _ k hk) (heap_alloc_new w.drew _) ((hN.refl _ _).alloc R.drew.heap.base _)
  (by rw[m.1];simp)
  (by
   rw[m.1];have ay:(olds'.toArray++aOY.zeroCells z.cells n++aOY.zeroCells z.cells (grownCap w (sLen+n) sCap e-(sLen+n))).toList.take (olds'++(aOY.zeroCells z.cells n).toList).length=olds'++(aOY.zeroCells z.cells n).toList:=by
    simp only[aEN];exact azT
   rw[ay];exact m)
  (by
   refine⟨?_,?_⟩
   ·have q:(olds'.toArray++aOY.zeroCells z.cells n).size=(sLen+n)*a.size:=by rw[<-j];simp
    rw[aBr,size_zeroCells,u,q,<-axY]
    congr 1
    omega
   ·have:=grownCap_le_maxLen w (sLen+n) sCap e (by simp only[maxLen];omega)
    simp only[maxLen]at this;omega)
 refine⟨ρ',_,_,Y,?_,eO,s⟩;have:=aE.bg (ρ:=ρ') mg 0 (sLen+n) b7 (by simp[gg,Z])
 simpa [gg]using this
theorem ajR{P:aOR}{t tx ty:aOS}{s x v:V}{cv O:aOU}{h h':I}(q:ki P t tx s x h=some (v,h')){ρ:Ren}{B:Nat}{aV w:aOV}(R:a1 ρ B aV h w)
  (aJ:aE ρ s cv) (ah:aE ρ x O):Yields P (aOY.append_ #[t,tx] ty #[cv,O]) ρ B aV w v h':=by
 unfold ki at q;split at q
 case h_1=>cases q
 rename_i e S;have H:P.underlying t=some (.slice e):=by
  unfold v7 at S;split at S
  ·rename_i H;rw[H];simpa using S
  ·cases S
 split at q
 case h_2=>cases q
 rename_i zs sz aq wc bl jn;split at q
 case isFalse=>cases q
 rename_i Y;obtain⟨z,T,Hs⟩:=IE wc;have Y:z.cells.size=sz:=by have:=(Hs ρ).1;simp at this;omega
 cases E:P.info? e with
 | none=>simp[mz,E]at T
 | some A=>
 simp[mz,E]at T;simp[IB,E]at jn;simp[cH,E]at bl;subst bl;subst jn;split at q
 case h_1=>
  unfold T7 at q;split at q
  case h_2=>cases q
  rename_i n i o m cap uZ e2;split at q
  case h_2=>cases q
  rename_i c bc ex Z;split at q
  case isFalse=>cases q
  rename_i ak;obtain⟨RT,nI,cM,lg,mh,fG,RU⟩:=ak;simp at q;obtain⟨rfl,rfl⟩:=q;obtain⟨b,L,hi,ax,rfl⟩:=aJ.gW;cases ah;have M:gg L cap=cap:=by simp[gg,nI]
  rw[M]at ax⊢;have mA:aE ρ (.ptr i o) (.pointer (some ⟨b,o,none⟩)):=.ptr hi o;obtain⟨W,ec,zk,dg⟩:=Cg R.drew.heap mA (cs:=c.drop o) (by simp[s8,Z];omega)
  simp at zk;obtain⟨rfl,rfl⟩:=zk;obtain⟨u,BC,jL,DC⟩:=dg (m*A.size) (by simp;omega)
  have RV:n=((n.toNat:Nat):Int):=by omega
  rw[RV];exact ajQ H uZ E T Y R (run_firstCells_some (P:=P) w.drew A.size m ⟨b,o,none⟩ m cap u DC (λj v aI=>by rw[aO2.add_mid];simpa using BC j v aI)) jL (by rw[jL.1,DC]) (Hs ρ) (by omega) RU cM lg mh
 rename_i n ad c8;obtain⟨D,F,N,tw,cb⟩:=ajP c8 R ah;split at q
 ·cases aJ;split at q
  ·rename_i Q;subst Q;simp at q;obtain⟨rfl,rfl⟩:=q;exact .same R (ZE w t tx ty e A H E O D F) .ag
  ·rename_i Q;split at q
   case isFalse=>cases q
   rename_i ak;simp at q;obtain⟨rfl,rfl⟩:=q;have:=Pt (ty:=ty) H E T Y R (base:=none) (sLen:=0) (sCap:=0) (olds:=[]) (olds':=[]) (by simpa using run_firstCells_none (P:=P) w.drew A.size 0 0 0) (.nil ρ) (by simp) F N (by omega) (by simpa using ak.1) (by simpa using ak.2)
   simpa using this
 ·cases aJ with
  | z0 a aT=>
  split at q
  ·rename_i Q;subst Q;simp at q;obtain⟨rfl,rfl⟩:=q;cases a with
   | none=>exact .same R (ZE w t tx ty e A H E O D F) (.z0 none (by simp))
   | some a=>
    have dZ:D=[]:=by have:=F.newsLen;simpa using this
    subst dZ;have:(aOY.append_ #[t,tx] ty #[.slice (some a) 0 0,O]).run P w=.ok (.slice (some a) 0 0) w:=by
     rcases F.kind with⟨ek,hk⟩|hk<;>simp[aOY.append_,run_underlying H,run_underlying hk,sizeOf,typeInfo,E,F.len,F.cells,storeCells]
    exact .same R this (.z0 _ aT)
  ·rename_i Q;split at q
   case isFalse=>cases q
   rename_i ak;simp at q;obtain⟨rfl,rfl⟩:=q;have:=Pt (ty:=ty) H E T Y R (base:=a) (sLen:=0) (sCap:=0) (olds:=[]) (olds':=[]) (by
    cases a with
    | none=>simpa using run_firstCells_none (P:=P) w.drew A.size 0 0 0
    | some a=>simpa using run_firstCells_some (P:=P) w.drew A.size 0 a 0 0 [] (by simp) (by simp)) (.nil ρ) (by simp) F N (by omega) (by simpa using ak.1) (by simpa using ak.2)
   simpa using this
 ·rename_i i o m cap;obtain⟨b,L,hi,ax,rfl⟩:=aJ.gW;split at q
  ·rename_i Q;subst Q;simp at q;obtain⟨rfl,rfl⟩:=q;have dZ:D=[]:=by have:=F.newsLen;simpa using this
   subst dZ;refine .same R (v':=.slice (some ⟨b,o,none⟩) m (gg L cap)) ?_ (.bg hi o m cap ax);have:=T8 (P:=P) w w t tx ty e A H E b o m (gg L cap) O 0 [] F (by omega) (by simp[storeCells])
   simpa using this
  ·rename_i Q;split at q
   case isFalse=>cases q
   rename_i ak;split at q
   case h_2=>cases q
   rename_i c bc ex Z;have G:∀bT:aOV,a1 ρ B aV h bT->o+m*A.size<=c.length->∃u,bT.rangeAt b o u/\a6 ρ ((c.drop o).take (m*A.size)) u/\u.length=m*A.size:=λbT T9 fG=>by
    have mA:aE ρ (.ptr i o) (.pointer (some ⟨b,o,none⟩)):=.ptr hi o;obtain⟨W,ec,S,dg⟩:=Cg T9.heap mA (cs:=c.drop o) (by simp[s8,Z];omega)
    simp at S;obtain⟨rfl,rfl⟩:=S;exact dg _ (by simp;omega)
   split at q
   ·rename_i nI;have M:gg L cap=cap:=by simp[gg,nI]
    rw[M];rw[M]at ax;split at q
    ·rename_i X;split at q
     case isFalse=>cases q
     rename_i fG;simp at q;obtain⟨rfl,rfl⟩:=q;obtain⟨w',dk,eO⟩:=JZ (P:=P) Z R hi (o+m*A.size) N cb (by rw[tw];have:=axY m n A.size;omega)
     have cR:=T8 w w' t tx ty e A H E b o m cap O n D F X dk;refine⟨ρ,_,_,cR,?_,eO,Ren.le.refl ρ⟩;have:=aE.bg hi o (m+n) cap (by rw[M];exact X)
     rwa[M]at this
    ·rename_i X;split at q
     case isFalse=>cases q
     rename_i fG;simp at q;obtain⟨rfl,rfl⟩:=q;obtain⟨u,nK,ky,rn⟩:=G w R fG;exact Pt H E T Y R (run_firstCells_some (P:=P) w.drew A.size m ⟨b,o,none⟩ m cap u rn (λj v aI=>by rw[aO2.add_mid];simpa using nK j v aI)) ky (by rw[ky.1,rn]) F N (by omega) ak.1 ak.2
   ·rename_i nI;split at q
    case isFalse=>cases q
    rename_i mK;obtain⟨rfl,rfl,rfl,lG,rfl⟩:=mK;simp at q;obtain⟨rfl,rfl⟩:=q;have M:gg L b7=L:=by simp[gg]
    rw[M];rw[M]at ax;by_cases X:m+n<=L
    ·have aO:=R.heap.obj i;rw[Z]at aO;obtain⟨W,ka,C,jL,az,b3,hw,av,zl,RW⟩:=aO;rw[jL]at hi;simp at hi;obtain⟨rfl,rfl⟩:=hi;have FG:C.size=ka*A.size:=RW.1;have J3:m*A.size+D.length<=C.size:=by
      rw[F.newsLen,FG,<-axY];exact azl _ X
     have dk:=run_storeCells_at P W (m*A.size) bc D 0 C w hw (by simpa using J3) (N.one cb)
     simp only[aAv]at dk;have cR:=T8 w _ t tx ty bc A H E W 0 m ka O n D F X (by simpa using dk)
     have ql:(c.take (m*A.size)).length=m*A.size:=by simp;omega
     obtain⟨ρ',aM,aB,eO⟩:=R.move (w':=w.setRow W (C.toList.take (m*A.size)++D++C.toList.drop (m*A.size+D.length)).toArray) (c:=c.take (m*A.size)++ad) (ex:=some A.size) jL (by rw[Z];simp)
      (λk hk=>by simp[aOV.setRow,azP,Ne.symm hk]) (setRow_heap w W C _ bc (0,0) hw) (by simp[aOV.setRow])
      ⟨rfl,rfl,rfl,by simp[aOV.setRow],λk hk=>by simp[aOV.setRow,azP,show W≠k by omega],BY _⟩
      (by rw[Dx,ql,N.1];simp;omega)
      (by
       rw[Dx,ql,N.1];have ay:(C.toList.take (m*A.size)++D++C.toList.drop (m*A.size+D.length)).toArray.toList.take (m*A.size+D.length)=C.toList.take (m*A.size)++D:=by
        have:(C.toList.take (m*A.size)++D).length=m*A.size+D.length:=by simp;omega
        rw[<-this];exact azT
       rw[ay];refine a6.append ?_ N;have:=zl.take (m*A.size);rw[azY]at this;rwa[azt lG]at this)
      (by
       refine⟨?_,RW.2⟩;simp;omega)
     refine⟨ρ',_,_,cR,?_,by simpa only[List.append_assoc]using eO,aM⟩
     have:=aE.bg (ρ:=ρ') aB 0 (m+n) b7 (by rw[gg];simp;exact X)
     rwa[show gg ka b7=ka by simp[gg]]at this
    ·obtain⟨u,nK,ky,rn⟩:=G w R (by simpa using lG)
     rw[List.drop_zero]at ky;exact Pt (ty:=ty) H E T Y (R.kill i) (run_firstCells_some (P:=P) w.drew A.size m ⟨b,0,none⟩ m L u rn (λj v aI=>by rw[aO2.add_mid];simpa using nK j v aI)) ky (by rw[ky.1,rn]) F N (by omega) ak.1 ak.2
 ·cases q
def zm:V->Option Nat
 | .bg _ _ n _=>some n
 | .af n _=>some n
 | .ag=>some 0
 | .z0=>some 0
 | .string s=>some s.size
 | _=>none
theorem ZG{P:aOR}{x:V}{a:aOU}{n:Nat}(h:zm x=some n){ρ:Ren}(i:aE ρ x a)(w:aOV):(aOY.lenOf a).run P w=.ok n w:=by
 cases i<;>simp[zm]at h<;>subst h<;>rfl
def vh(sz n:Nat)(x:V)(h:I):Option (List V) :=
 match x with
 | .ag | .z0=>if n=0 then some []else none
 | .bg i o _ _=>
  match h.get i with
  | .cells c _ _=>if o+n*sz<=c.length then some ((c.drop o).take (n*sz))else none
  | _=>none
 | .af m a=>if n<=m/\n*sz<=a.length then some (a.take (n*sz))else none
 | .string s=>if sz=1/\n<=s.size then some (((byteCells s).map gy).take n)else none
 | _=>none
theorem ZH{P:aOR}{sz n:Nat}{x:V}{M:aOU}{h:I}{vs:List V}(q:vh sz n x h=some vs){ρ:Ren}{B:Nat}{O w:aOV}(R:a1 ρ B O h w)(z:aE ρ x M) :
  ∃N,(aOY.firstCells sz n M).run P w=.ok N.toArray w/\a6 ρ vs N/\vs.length=n*sz:=by
 unfold vh at q;split at q
 ·cases z;split at q
  case isFalse=>cases q
  rename_i D;subst D;obtain rfl:vs=[]:=by simpa using q
  exact⟨[],run_firstCells_none w sz 0 0 0,.nil ρ,by simp⟩
 ·cases z with
  | z0 a aT=>
  split at q
  case isFalse=>cases q
  rename_i D;subst D;obtain rfl:vs=[]:=by simpa using q
  cases a with
  | none=>exact⟨[],run_firstCells_none w sz 0 0 0,.nil ρ,by simp⟩
  | some a=>exact⟨[],run_firstCells_some (P:=P) w sz 0 a 0 0 [] (by simp) (by simp),.nil ρ,by simp⟩
 ·rename_i i o E cap;obtain⟨b,Q,hi,ax,rfl⟩:=z.gW;split at q
  case h_2=>cases q
  rename_i c bc ex S;split at q
  case isFalse=>cases q
  rename_i av;obtain rfl:_=vs:=by simpa using q
  have T:aE ρ (.ptr i o) (.pointer (some ⟨b,o,none⟩)):=.ptr hi o;obtain⟨W,X,A,F⟩:=Cg R.heap T (cs:=c.drop o) (by simp[s8,S];omega)
  simp at A;obtain⟨rfl,rfl⟩:=A;obtain⟨u,C,G,H⟩:=F (n*sz) (by simp;omega)
  exact⟨u,run_firstCells_some (P:=P) w sz n ⟨b,o,none⟩ E (gg Q cap) u H (λj v L=>by rw[aO2.add_mid];exact C j v L),G,by simp;omega⟩
 ·rename_i m u;split at q
  case isFalse=>cases q
  rename_i av;obtain rfl:_=vs:=by simpa using q
  rcases z.k1 with⟨rfl,rfl,a,Y,aT,rfl⟩|⟨b,o,cap,Z,ak,aB,aO,dU,rfl⟩
  ·obtain rfl:n=0:=by omega
   cases a with
   | none=>
    obtain rfl:=aT rfl;exact⟨[],run_firstCells_none w sz 0 0 0,by simpa using a6.nil ρ,by simp⟩
   | some a=>exact⟨[],run_firstCells_some (P:=P) w sz 0 a 0 Y [] (by simp) (by simp),by simpa using a6.nil ρ,by simp⟩
  ·have lF:aE ρ (.at u) (.pointer (some ⟨b,o,none⟩)):=.at o ak aO dU;obtain⟨W,X,A,F⟩:=Cg R.heap lF (cs:=u) rfl;simp at A;obtain⟨rfl,rfl⟩:=A;obtain⟨vs,C,G,H⟩:=F (n*sz) av.2;exact⟨vs,run_firstCells_some (P:=P) w sz n ⟨b,o,none⟩ m cap vs H (λj v L=>by rw[aO2.add_mid];exact C j v L),G,by simp;omega⟩
 ·rename_i s;cases z;split at q
  case isFalse=>cases q
  rename_i C;obtain⟨rfl,aB⟩:=C;obtain rfl:_=vs:=by simpa using q
  refine⟨(byteCells s).take n,?_,(T6 ρ s).take n,by rw[TY,axT,byteCells_length];omega⟩
  simp only[aOY.firstCells,Sem.run_pure]
  congr 1
  apply azH;simp[byteCells]
 ·cases q
def xq(P:aOR)(s:aOS)(j src:V)(h:I):Option (V×I) :=
 match v7 P s with
 | none=>none
 | some e=>
  match cH P e,zm src,j with
  | some sz,some a,.ag=>
   match vh sz (aAl a 0) src h with
   | some _=>some (.int .i64 0,h)
   | none=>none
  | some sz,some a,.bg i o m _=>
   match vh sz (aAl a m) src h with
   | some q=>
    if aAl a m=0 then some (.int .i64 0,h)else
    match h.get i with
    | .cells c bc u=>if o+q.length<=c.length/\q.all (·.one)=true then some (.int .i64 (aAl a m:Nat),h.set i (.cells (lay c o q) bc u))else none
    | _=>none
   | none=>none
  | _,_,_=>none
theorem ajS{P:aOR}{D T ty:aOS}{s src v:V}{L M:aOU}{h h':I}(a:xq P D s src h=some (v,h')){ρ:Ren}{B:Nat}{N w:aOV}(R:a1 ρ B N h w)
  (O:aE ρ s L) (z:aE ρ src M):Yields P (aOY.copy_ #[D,T] ty #[L,M]) ρ B N w v h':=by
 unfold xq at a;split at a
 case h_1=>cases a
 rename_i e A;have u:P.underlying D=some (.slice e):=by
  unfold v7 at A;split at A
  ·rename_i u;rw[u];simpa using A
  ·cases A
 split at a
 ·rename_i sz C bl E;cases O;split at a
  case h_2=>cases a
  rename_i W F;simp at a;obtain⟨rfl,rfl⟩:=a;obtain⟨Q,q,G,j⟩:=ZH (P:=P) F R z;have hll:=ZG (P:=P) E z w;cases m:P.info? e with
  | none=>simp[cH,m]at bl
  | some X=>
   simp[cH,m]at bl;refine .same R (v':=.int .i64 0) ?_ (.int _ _);have H:aAl C 0=0:=Nat.min_zero C;rw[H]at q;simp[aOY.copy_,run_underlying u,hll,sizeOf,typeInfo,m,bl,q,goInt]
 ·rename_i sz C i o Z dc bl E;obtain⟨b,bG,hi,ax,rfl⟩:=O.gW;split at a
  case h_2=>cases a
  rename_i W F;obtain⟨Q,q,G,j⟩:=ZH (P:=P) F R z;have hll:=ZG (P:=P) E z w;cases m:P.info? e with
  | none=>simp[cH,m]at bl
  | some X=>
  simp[cH,m]at bl;split at a
  ·rename_i S;simp at a;obtain⟨rfl,rfl⟩:=a;refine .same R (v':=.int .i64 0) ?_ (.int _ _);rw[S]at j q;have lH:Q=[]:=azB (by rw[<-G.1,j];simp)
   subst lH;have H:(aAl C Z:Nat)=0:=S;simp[aOY.copy_,run_underlying u,hll,sizeOf,typeInfo,m,bl,H,q,goInt,storeCells]
  ·split at a
   case h_2=>cases a
   rename_i c bc ex aw;split at a
   case isFalse=>cases a
   rename_i av;simp at a;obtain⟨rfl,rfl⟩:=a;obtain⟨w',dk,eO⟩:=JZ (P:=P) aw R hi o G av.2 av.1;refine⟨ρ,_,w',?_,.int _ _,eO,Ren.le.refl ρ⟩;simp[aOY.copy_,run_underlying u,hll,sizeOf,typeInfo,m,bl,q,goInt,dk]
 ·cases a
def ed{α:Type}(P:aOR):Sem α->Option α
 | .pure a=>some a
 | .program k=>ed P (k P)
 | .mark _ k=>ed P k
 | _=>none
theorem DD{α:Type}{P:aOR}:∀{s:Sem α} {a:α},ed P s=some a->∀w,s.run P w=.ok a w
 | .pure b,a,h,w=>by simp[ed]at h;subst h;rfl
 | .program k,a,h,w=>by
  simp only[ed]at h;exact DD (s:=k P) h w
 | .mark m k,a,h,w=>by
  simp only[ed]at h;exact DD (s:=k) h w
 | .load ..,_,h,_=>by simp[ed]at h
 | .store ..,_,h,_=>by simp[ed]at h
 | .new ..,_,h,_=>by simp[ed]at h
 | .shape ..,_,h,_=>by simp[ed]at h
 | .freeze ..,_,h,_=>by simp[ed]at h
 | .frozen ..,_,h,_=>by simp[ed]at h
 | .getObj ..,_,h,_=>by simp[ed]at h
 | .setObj ..,_,h,_=>by simp[ed]at h
 | .choose ..,_,h,_=>by simp[ed]at h
 | .sys ..,_,h,_=>by simp[ed]at h
 | .halt ..,_,h,_=>by simp[ed]at h
theorem mB{α β:Type}{P:aOR}{s:Sem α}{k:α->Sem β}:ed P (s >>= k)=(ed P s).bind λa=>ed P (k a):=by
 induction s with
 | pure a=>rfl
 | program k ih=>exact ih P
 | mark m k ih=>exact ih
 | _=>rfl
def IJ:V->Option Nat
 | .dx=>some 0 | .ag=>some 1 | .fj=>some 2 | .nilFunc=>some 3 | .nilIface=>some 4|_=>none
def FH:V->Option Nat
 | .ptr _ _=>some 0 | .at _=>some 0 | .bg _ _ _ _=>some 1 | .fk=>some 1 | .af n _=>if n=0 then none else some 1 | .map _=>some 2 | .func _ _ _=>some 3 | .iface _ _=>some 4|_=>none
def xt:aO1->Option Nat
 | .pointer _=>some 0 | .slice _=>some 1 | .map _ _=>some 2 | .func _ _ _=>some 3 | .interface _=>some 4|_=>none
def IK(d:aO1)(x y:V):Bool :=
 match xt d with
 | some k=>(IJ x==some k&&FH y==some k)||(FH x==some k&&IJ y==some k)
 | none=>false
theorem nil_eq{P:aOR}{w:aOV}{ρ:Ren}{t:aOS}{d:aO1}(A:P.underlying t=some d){x y:V}{i j:aOU}(B:aE ρ x i)(C:aE ρ y j)(u:IK d x y=true) :
  (Op.equal t i j).run P w=.ok false w/\(∀op xo yo,eqGuard op t xo yo i j=pure ())/\binOp .eql t i j=(do pure (.bool (<-Op.equal t i j)))/\binOp .neq t i j=(do pure (.bool (!(<-Op.equal t i j)))):=by
 have run:∀m,(Op.equalIn (m+1) t i j).run P w=.ok false w->(Op.equal t i j).run P w=.ok false w\/m≠9999:=λm h=>by
  by_cases z:m=9999
  ·subst z;exact .inl h
  ·exact .inr z
 have guard:(¬(i=.nilIface/\j=.nilIface))->(¬∃a b,i=.agg a/\j=.agg b)->∀op xo yo,eqGuard op t xo yo i j=pure ():=λq s op xo yo=>by
  unfold eqGuard;cases op<;>first|rfl|(simp only[Bool.not_true,azs,if_false];split<;>first|rfl|exact absurd ⟨rfl,rfl⟩ q|exact absurd ⟨_,_,rfl,rfl⟩ s)
 unfold IK at u;cases d<;>simp[xt]at u
 all_goals
  rcases u with⟨q,s⟩|⟨q,s⟩
  all_goals
   cases B<;>simp[IJ,FH]at q<;>cases C<;>simp[IJ,FH]at s
   all_goals first
    | omega
    | (refine⟨(run 9999 (by unfold Op.equalIn;rw[Sem.run_bind,run_underlying A,aO3.andThen_ok];simp)).resolve_right (by simp),guard (by simp) (by simp),rfl,rfl⟩)
def cV(P:aOR)(op:BinOp)(t:aOS)(xo yo:aOW)(x y:V):Option V :=
 match p7 x,p7 y with
 | some a,some b=>(ed P (do eqGuard op t xo yo a b;binOp op t a b)).map gy
 | _,_=>
  match P.underlying t,op with
  | some d,.eql=>if IK d x y then some (.bool false)else none
  | some d,.neq=>if IK d x y then some (.bool true)else none
  | _,_=>none
theorem ajT{P:aOR}{op:BinOp}{t:aOS}{xo yo:aOW}{x y v:V}{j m:aOU}{h:I}(i:cV P op t xo yo x y=some v){ρ:Ren}{B:Nat}{H w:aOV}(R:a1 ρ B H h w)
  (q:aE ρ x j) (s:aE ρ y m):b2 P (do eqGuard op t xo yo j m;binOp op t j m) ρ w v:=by
 unfold cV at i;split at i
 ·rename_i a b aT ak;obtain rfl:=zg q aT;obtain rfl:=zg s ak;cases z:ed P (do eqGuard op t xo yo j m;binOp op t j m)with
  | none=>rw[z]at i;cases i
  | some u=>
   rw[z]at i;obtain rfl:_=v:=by simpa using i
   exact b2.mk (DD z w) (Dz ρ u)
 ·split at i
  ·rename_i d A;split at i
   case isFalse=>cases i
   rename_i C;obtain rfl:_=v:=by simpa using i
   obtain⟨D,E,F,G⟩:=nil_eq (P:=P) (w:=w) A q s C;refine b2.mk (v':=.bool false) ?_ (.bool false);rw[E,F];simp[D]
  ·rename_i d A;split at i
   case isFalse=>cases i
   rename_i C;obtain rfl:_=v:=by simpa using i
   obtain⟨D,E,F,G⟩:=nil_eq (P:=P) (w:=w) A q s C;refine b2.mk (v':=.bool true) ?_ (.bool true);rw[E,G];simp[D]
  ·cases i
def zn(P:aOR)(op:UnOp)(x:V):Option V :=
 match nW x with
 | some a=>(ed P (Op.unary op a)).map gy
 | none=>none
theorem ajU{P:aOR}{op:UnOp}{x v:V}{j:aOU}{h:I}(i:zn P op x=some v){ρ:Ren}{B:Nat}{q w:aOV}(R:a1 ρ B q h w)(s:aE ρ x j) :
  b2 P (Op.unary op j) ρ w v:=by
 unfold zn at i;split at i
 case h_2=>cases i
 rename_i a aT;obtain rfl:=zf s aT;cases m:ed P (Op.unary op j)with
 | none=>rw[m]at i;cases i
 | some u=>
  rw[m]at i;obtain rfl:_=v:=by simpa using i
  exact b2.mk (DD m w) (Dz ρ u)
def AR:List V->Option (List Int)
 | []=>some []
 | .int .u8 n::r=>(AR r).map (n::·)
 | _=>none
theorem J7:∀{l:List V} {i:List Int},AR l=some i->l=i.map (V.int .u8)
 | [],i,h=>by simp[AR]at h;subst h;rfl
 | v::r,i,h=>by
  unfold AR at h;split at h
  ·rename_i a;cases a
  ·rename_i n m a;simp only[List.cons.injEq]at a;obtain⟨rfl,rfl⟩:=a;cases j:AR r with
   | none=>simp[j]at h
   | some q=>simp[j]at h;subst h;rw[J7 j];rfl
  ·cases h
theorem ZI{ρ:Ren}{k:aOT}:∀{a:List Int} {l:List aOU},a6 ρ (a.map (V.int k)) l->l=a.map (aOU.int k)
 | [],l,h=>h.eq_nil
 | n::a,l,h=>by
  obtain⟨m,q,rfl,i,j⟩:=h.dT;cases i;rw[ZI j];rfl
def xu(P:aOR)(e:aOS):Bool:=match P.underlying e with|some (.int .u8)=>true|_=>false
theorem IL{P:aOR}{e:aOS}(h:xu P e=true):P.underlying e=some (.int .u8):=by
 unfold xu at h;split at h
 ·assumption
 ·cases h
def oL(P:aOR)(src j:aOS)(x:V)(h:I):Option V :=
 match(nW x).bind λa=>ed P (convert src j a)with
 | some v=>some (gy v)
 | none=>
  match P.underlying src,P.underlying j,x with
  | some .string,some (.slice e),.string s=>if xu P e=true then some (.af s.size ((byteCells s).map gy))else none
  | some (.slice e),some .string,.bg i o m _=>
   if xu P e=true then
    match h.get i with
    | .cells c _ _=>if o+m<=c.length then(AR ((c.drop o).take m)).map λq=>.string (strOfNums q)else none
    | _=>none
   else none
  | some (.slice e),some .string,.af n u=>
   if xu P e=true/\n=u.length then(AR u).map λq=>.string (strOfNums q)else none
  | _,_,_=>none
theorem ZJ{P:aOR}{ρ:Ren}{src a e:aOS}{w:aOV}{b o len cap:Nat}{i:List Int}{cs:List aOU}(m:P.underlying src=some (.slice e))(q:P.underlying e=some (.int .u8))(s:P.underlying a=some .string)
  (u:w.rangeAt b o cs) (z:a6 ρ (i.map (V.int .u8)) cs) (j:i.length=len):(convert src a (.slice (some ⟨b,o,none⟩) len cap)).run P w=.ok (.string (strOfNums i)) w:=by
 obtain rfl:=ZI z;refine run_convert_bytes_arg w src e m q b o len cap i j (λk A=>?_) a s;exact u k _ (by simp[List.getD,IA (show k<i.length by omega)])
theorem ajV{P:aOR}{src D:aOS}{x v:V}{Z:aOU}{h:I}(m:oL P src D x h=some v){ρ:Ren}{B:Nat}{aV w:aOV}(R:a1 ρ B aV h w)(O:aE ρ x Z) :
  Yields P (convert src D Z) ρ B aV w v h:=by
 unfold oL at m;split at m
 ·rename_i u S;obtain rfl:_=v:=by simpa using m
  cases T:nW x with
  | none=>simp[T]at S
  | some a=>
   simp[T]at S;obtain rfl:=zf O T;exact .same R (DD S w) (Dz ρ u)
 ·split at m
  ·rename_i e s E F _;cases O;split at m
   case isFalse=>cases m
   rename_i av;obtain rfl:_=v:=by simpa using m
   have G:=IL av;have nJ:=grownCap_ge w s.size 0 e
   let j:Array aOU:=s.data.map (λb=>aOU.int .u8 b.toNat)++Array.replicate (grownCap w s.size 0 e-s.size) (.int .u8 0)
   have FG:j.size=grownCap w s.size 0 e:=by
    simp only[j,aBr,aEO,Array.size_replicate];have:s.data.size=s.size:=rfl;omega
   have cR:(convert src D (.string s)).run P w=.ok (.slice (some ⟨w.heap.size,0,none⟩) s.size (grownCap w s.size 0 e)) ((w.drew.alloc (.cells j e)).freeze ⟨w.heap.size,j.size,none⟩ 1):=by
    have J8:(w.drew.alloc (.cells j e)).shape? w.heap.size=some (e,j.size):=by
     have:=heap_alloc_new w.drew (.cells j e);unfold aOV.shape?;rw[show w.heap.size=w.drew.heap.size from rfl,this]
    simp[convert,run_underlying E,run_underlying F,run_underlying G,Conv.stringToBytes,aPd.forced,newRow,markStringish];have cW:(aPd.appendCap s.size 0 e).cut (w.tape w.drawn (aPd.appendCap s.size 0 e))=grownCap w s.size 0 e:=rfl;simp only[cW];rw[J8];simp;rfl
   have om:((w.drew.alloc (.cells j e)).freeze ⟨w.heap.size,j.size,none⟩ 1).heap[w.heap.size]?=some (.cells j e (j.size,j.size+1)):=by
    have:=heap_alloc_new w.drew (.cells j e);simp only[aOV.freeze,az7,if_false,azP,if_true];rw[show w.heap.size=w.drew.heap.size from rfl,this]
    simp
   have DE:∀k,k<w.heap.size->((w.drew.alloc (.cells j e)).freeze ⟨w.heap.size,j.size,none⟩ 1).heap[k]?=w.heap[k]?:=λk N=>by
    simp only[aOV.freeze,az7,if_false,azP,if_neg (show ¬w.heap.size=k by omega)]
    exact Below.heap_alloc w.drew _ k N
   have xv:w.heap.size<((w.drew.alloc (.cells j e)).freeze ⟨w.heap.size,j.size,none⟩ 1).heap.size:=by
    simp only[aOV.freeze,az7,if_false,Array.size_modify];simp
   obtain⟨ρ',W,aB,eO⟩:=R.IC xv DE om
    ⟨by simp only[aOV.freeze,az7,if_false];rfl,by simp only[aOV.freeze,az7,if_false];rfl,by simp only[aOV.freeze,az7,if_false];rfl,aDD xv,λk N=>DE k (Nat.lt_of_lt_of_le N R.heap.base),by simp only[aOV.freeze,az7,if_false];exact aDC _⟩
   refine⟨ρ',_,_,cR,?_,eO,W⟩;have ak:((byteCells s).map gy).length=s.size:=by rw[axT,byteCells_length]
   refine .af 0 s.size _ aB nJ (by rw[ak,FG];omega) λk v X M C=>?_
   have ay:j.toList.take (byteCells s).length=byteCells s:=by
    have:j.toList=byteCells s++azr (grownCap w s.size 0 e-s.size) (.int .u8 0):=by simp[j,byteCells]
    rw[this];exact azT
   have N:k<(byteCells s).length:=by rw[<-axT (f:=gy)];exact(are.1 M).1
   refine(T6 ρ' s).2 k v X M ?_;rw[<-ay,azf,if_pos N,azI];simpa using C
  ·rename_i e i o H cap E F _;obtain⟨b,bG,hi,ax,rfl⟩:=O.gW;split at m
   case isFalse=>cases m
   rename_i G;split at m
   case h_2=>cases m
   rename_i c bc ex aw;split at m
   case isFalse=>cases m
   rename_i av;cases A:AR ((c.drop o).take H)with
   | none=>simp[A]at m
   | some Q=>
    simp[A]at m;subst m;have mA:aE ρ (.ptr i o) (.pointer (some ⟨b,o,none⟩)):=.ptr hi o;obtain⟨b8,ec,q,Y⟩:=Cg R.heap mA (cs:=c.drop o) (by simp[s8,aw];omega)
    simp at q;obtain⟨rfl,rfl⟩:=q;obtain⟨L,M,C,aC⟩:=Y H (by simp;omega)
    have z:Q.length=H:=by
     have:=congrArg azx (J7 A);simp at this;omega
    rw[J7 A]at C;exact .same R (ZJ E (IL G) F M C z) (.string _)
  ·rename_i e n L E F _;split at m
   case isFalse=>cases m
   rename_i G;cases A:AR L with
   | none=>simp[A]at m
   | some Q=>
    simp[A]at m;subst m;rcases O.k1 with⟨rfl,rfl,a,lr,aT,rfl⟩|⟨b,o,cap,j,ak,aB,aO,dU,rfl⟩
    ·obtain rfl:Q=[]:=by simpa [AR]using A.symm
     cases a with
     | none=>
      obtain rfl:=aT rfl;refine .same R (v':=.string .empty) ?_ (.string _);simp[convert,run_underlying E,run_underlying F,run_underlying (IL G.1),Conv.bytesToString,loadCells,loadCellsFrom]
     | some a=>
      refine .same R (v':=.string .empty) ?_ (.string _);simp[convert,run_underlying E,run_underlying F,run_underlying (IL G.1),Conv.bytesToString,loadCells,loadCellsFrom]
    ·have lF:aE ρ (.at L) (.pointer (some ⟨b,o,none⟩)):=.at o ak aO dU;obtain⟨b8,ec,q,Y⟩:=Cg R.heap lF (cs:=L) rfl;simp at q;obtain⟨rfl,rfl⟩:=q;obtain⟨vs,M,C,aC⟩:=Y L.length (BY _);rw[azG]at C;have z:Q.length=n:=by
      have:=congrArg azx (J7 A);simp at this;omega
     rw[J7 A]at C;exact .same R (ZJ E (IL G.1) F M C z) (.string _)
  ·cases m
def tA(cs:List V)(off:Nat):List V->List V
 | []=>cs
 | v::r=>tA (cs.set off v) (off+1) r
def rp(a:Nat->Option (Nat×Nat))(cs:List V):List (Nat×V)->Option (List V)
 | []=>some cs
 | (i,v)::r=>match a i,v.cells with
  | some (off,size),some j=>if j.length=size/\off+size<=cs.length then rp a (tA cs off j) r else none
  | _,_=>none
theorem er.set{ρ:Ren}{xs:List V}{i:Array aOU}(h:er ρ xs i){v:V}{v':aOU}(s:aE ρ v v')(n:Nat):er ρ (xs.set n v) (i.setIfInBounds n v'):=by
 refine⟨by simp[h.1],λk a b aT ak=>?_⟩
 rw[aDH]at ak;rw[aAX]at aT;by_cases j:n=k
 ·subst j;simp at aT ak;obtain⟨_,rfl⟩:=aT;obtain⟨_,rfl⟩:=ak;exact s
 ·simp[j]at aT ak;exact h.2 k a b aT ak
theorem foldl_rel{ρ:Ren}(off:Nat):∀(l:List V) (i:List aOU) (j:Nat) (cs:List V) (a:Array aOU),a6 ρ l i->er ρ cs a ->
  er ρ (tA cs (off+j) l) ((i.zipIdx j).foldl (λcs p=>cs.setIfInBounds (off+p.2) p.1) a)
 | [],i,j,cs,a,m,av=>by rw[m.eq_nil];exact av
 | v::l,i,j,cs,a,m,av=>by
  obtain⟨z,q,rfl,s,u⟩:=m.dT;simp only[List.zipIdx_cons,List.foldl_cons,tA];have:=foldl_rel off l q (j+1) _ _ u (av.set s (off+j));rwa[<-aAk]at this
def vi(ρ:Ren):List (Nat×V)->List (Nat×aOU)->Prop
 | [],[]=>True
 | (i,v)::r,(a,j)::m=>i=a/\aE ρ v j/\vi ρ r m
 | _,_=>False
theorem Ua{ρ:Ren}(m:Nat->Option (Nat×Nat)):∀(ps:List (Nat×V)) (s:List (Nat×aOU)) (cs:List V) (cs':Array aOU) (r:List V),vi ρ ps s->er ρ cs cs'->rp m cs ps=some r ->
  ∃z,Instr.fill m cs' s=some z/\er ρ r z
 | [],[],cs,cs',r,_,av,h=>by simp[rp]at h;subst h;exact⟨cs',rfl,av⟩
 | (i,v)::ps,(F,u)::s,cs,cs',r,q,av,h=>by
  obtain⟨rfl,C,q⟩:=q;unfold rp at h;split at h
  case h_2=>cases h
  rename_i off size A D E;split at h
  case isFalse=>cases h
  rename_i G;unfold Instr.fill;have B:=C.cells E;have bl:u.cells.size=A.length:=by simpa using B.1.symm
  simp only[D,bl,<-av.1];rw[if_neg (by simp;omega)]
  have ay:∀(a:Array aOU) (c:Array aOU),a.zipIdx.foldl (λcs (x:aOU×Nat)=>cs.setIfInBounds (off+x.2) x.1) c=(a.toList.zipIdx).foldl (λcs p=>cs.setIfInBounds (off+p.2) p.1) c:=λa c=>by
   rw[<-Array.foldl_toList];simp
  rw[show(u.cells.zipIdx.foldl (λcs (x:aOU×Nat)=>match x with|(c,j)=>cs.setIfInBounds (off+j) c) cs')=_ from ay u.cells cs']
  exact Ua m ps s _ _ r q (foldl_rel off A u.cells.toList 0 cs cs' B av) h
 | [],_::_,_,_,_,q,_,_=>by simp[vi]at q
 | _::_,[],_,_,_,q,_,_=>by simp[vi]at q
def Pu(P:aOR)(t:aOS):Option (List (Nat×Nat)):=match P.underlying t with
 | some (.struct a)=>a.toList.mapM (λf=>(P.info? f.type).map λi=>(f.offset,i.size))
 | _=>none
def Ck(P:aOR)(t:aOS):Option (Nat×aOS):=match P.underlying t with
 | some (.array n e)=>some (n,e)
 | _=>none
def FJ(P:aOR)(t:aOS)(a:List (Nat×V)):Option V :=
 match gV P t,Pu P t with
 | some zs,some j=>(rp (j[·]?) zs a).map .agg
 | some zs,none=>match Ck P t with
  | some (_,e)=>match cH P e with
   | some sz=>(rp (λi=>some (i*sz,sz)) zs a).map .agg
   | none=>none
  | none=>none
 | _,_=>none
theorem ajW{P:aOR}{t:aOS}{ps:List (Nat×V)}{q:Array (Nat×aOU)}{v:V}{h:I}(i:FJ P t ps=some v){ρ:Ren}{B:Nat}{L w:aOV}(R:a1 ρ B L h w)
  (M:vi ρ ps q.toList):b2 P (Instr.build t q) ρ w v:=by
 unfold FJ at i;have s:∀(a:Nat->Option (Nat×Nat)) (zs:List V),gV P t=some zs->(∀z,mz P t=some z->P.built t q.toList=Instr.fill a z.cells q.toList)->(rp a zs ps).map V.agg=some v->b2 P (Instr.build t q) ρ w v:=λa zs j ak E=>by
  obtain⟨z,j,N⟩:=IE j;cases av:rp a zs ps with
  | none=>simp[av]at E
  | some F=>
   simp[av]at E;subst E;obtain⟨O,Q,S⟩:=Ua a _ _ _ _ _ M (N ρ).j0 av;exact b2.mk (run_build w t q O (by rw[ak z j];exact Q)) S.agg
 split at i
 ·rename_i zs C j u;refine s _ zs j (λz m=>?_) i;unfold Pu at u;split at u
  case h_2=>cases u
  rename_i D G;unfold aOR.built;cases hit:P.info? t with
  | none=>simp[mz,hit]at m
  | some it=>
   simp[mz,hit]at m;simp[G,m,u]
 ·rename_i zs j u;split at i
  case h_2=>cases i
  rename_i n e A;split at i
  case h_2=>cases i
  rename_i sz bl;refine s _ zs j (λz m=>?_) i;unfold Ck at A;split at A
  case h_2=>cases A
  rename_i X T G;simp at A;obtain⟨rfl,rfl⟩:=A;unfold aOR.built;cases hit:P.info? t with
  | none=>simp[mz,hit]at m
  | some it=>
   simp[mz,hit]at m;cases H:P.info? T with
   | none=>simp[cH,H]at bl
   | some W=>
    simp[cH,H]at bl;subst bl;simp[G,m];rw[H]
 ·cases i
def h3(P:aOR)(t:aOS)(len:Nat)(a:List (Nat×V))(h:I):Option (V×I) :=
 match v7 P t with
 | none=>none
 | some e=>
  match cH P e,gV P e with
  | some sz,some zs=>
   if zs.length=sz/\len*sz<=2^24/\len<=2^24 then
    match rp (λi=>some (i*sz,sz)) (made zs len) a with
    | some j=>some (.bg h.n 0 len len,h.push (.cells j e none))
    | none=>none
   else none
  | _,_=>none
theorem ajX{P:aOR}{t:aOS}{len:Nat}{ps:List (Nat×V)}{A:Array (Nat×aOU)}{v:V}{h h':I}(a:h3 P t len ps h=some (v,h')){ρ:Ren}{B:Nat}{F w:aOV}
  (R:a1 ρ B F h w) (N:vi ρ ps A.toList):Yields P (Instr.buildSlice t len A) ρ B F w v h':=by
 unfold h3 at a;split at a
 case h_1=>cases a
 rename_i e q;have s:P.underlying t=some (.slice e):=by
  unfold v7 at q;split at q
  ·rename_i s;rw[s];simpa using q
  ·cases q
 split at a
 case h_2=>cases a
 rename_i sz zs bl O;split at a
 case isFalse=>cases a
 rename_i av;obtain⟨bu,c3,fb⟩:=av;split at a
 case h_2=>cases a
 rename_i C Q;simp at a;obtain⟨rfl,rfl⟩:=a;obtain⟨z,D,G⟩:=IE O;have S:z.cells.size=sz:=by have:=(G ρ).1;simp at this;omega
 cases j:P.info? e with
 | none=>simp[mz,j]at D
 | some i=>
 simp[mz,j]at D;simp[cH,j]at bl;have T:er ρ (made zs len) (made z.cells.toList len).toArray:=((G ρ).made len).arr;obtain⟨W,u,X⟩:=Ua _ _ _ _ _ _ N T Q;obtain⟨ρ',E,Y,Z⟩:=T3 R e X.list len;have H:len<b7:=by unfold b7;omega
 have cR:(Instr.buildSlice t len A).run P w=.ok (.slice (some ⟨w.heap.size,0,none⟩) len len) (w.alloc (.cells W e)):=by
  have L:(Array.range (len*i.size)).map (z.cells[· % z.cells.size]!)=(made z.cells.toList len).toArray:=by
   have:=Pr z.cells len;rw[S,<-bl]at this;apply azH;simpa [madeCells]using this
  have eR:¬(2^24<len*i.size):=by rw[bl];omega
  by_cases m:len*i.size=0
  ·have u0:(#[]:Array aOU)=(made z.cells.toList len).toArray:=by rw[<-L,m];simp[Array.range_zero']
   rw[<-u0,<-bl]at u;have M:len=0\/i.size=0:=aAF.1 m;simp[Instr.buildSlice,run_underlying s,sizeOf,typeInfo,j,m,M,u,newRow,Array.range_zero']
  ·have M:¬(len=0\/i.size=0):=λh=>m (aAF.2 h);rw[<-L,<-bl]at u;have Ub:¬(16777216<len*i.size):=by omega
   simp[Instr.buildSlice,run_underlying s,sizeOf,typeInfo,zeroValue,D,j,Ub,m,u,newRow]
 refine⟨ρ',_,_,cR,?_,by simpa using Z,E⟩
 have:=aE.bg Y 0 len len (by simp[gg,H])
 simpa [gg,H]using this
def ul(P:aOR)(t:aOS)(cs:List V)(off:Nat):Option V :=
 match nX P t,cH P t with
 | some true,some n=>some (.agg ((cs.drop off).take n))
 | some false,some _=>cs[off]?
 | _,_=>none
theorem er.part{P:aOR}{ρ:Ren}{cs:List V}{cs':Array aOU}(h:er ρ cs cs'){t:aOS}{off:Nat}{v:V}(i:ul P t cs off=some v)(w:aOV) :
  ∃v',(Go.part t cs' off).run P w=.ok v' w/\aE ρ v v':=by
 unfold ul at i;cases u:P.info? t with
 | none=>simp[cH,u]at i
 | some j=>
 cases s:P.underlying t with
 | none=>simp[nX,s]at i
 | some d=>
 simp only[nX,s,cH,u,azE]at i;cases A:d.isRow with
 | true=>
  simp only[A]at i;obtain rfl:_=v:=by simpa using i
  have z:(isAgg t).run P w=.ok true w:=by
   unfold isAgg;rw[Sem.run_bind,run_underlying s w];cases d<;>simp_all
  refine⟨.agg (cs'.extract off (off+j.size)),by simp[Go.part,z,sizeOf,typeInfo,u],?_⟩
  have B:=((h.list.drop off).take j.size).arr;have ay:∀a:Array aOU,((a.toList.drop off).take j.size).toArray=a.extract off (off+j.size):=λa=>by
   apply azH;simp
  rw[ay]at B;exact B.agg
 | false=>
  simp only[A]at i;have z:(isAgg t).run P w=.ok false w:=by
   unfold isAgg;rw[Sem.run_bind,run_underlying s w];cases d<;>simp_all
  have D:off<cs.length:=(are.1 i).1;have C:off<cs'.size:=by rw[<-h.1];exact D
  refine⟨cs'[off],by simp[Go.part,z,azd C],h.2 off v _ i (azd C)⟩
def IM(P:aOR)(t:aOS)(x:V)(k:Nat):Option V :=
 match P.underlying t,x with
 | some (.struct a),.agg i=>match a[k]? with
  | some f=>ul P f.type i f.offset
  | none=>none
 | _,_=>none
def FK(P:aOR)(t:aOS)(x i:V):Option V :=
 match P.underlying t,x,i with
 | some (.array a e),.agg j,.int _ n=>match cH P e with
  | some sz=>if 0<=n/\n<a then ul P e j (n.toNat*sz)else none
  | none=>none
 | some .string,.string s,.int _ n=>if 0<=n then match s[n.toNat]? with
  | some b=>some (.int .u8 b.toNat)
  | none=>none else none
 | _,_,_=>none
def dJ(P:aOR)(t:aOS)(x:V)(h:I):Option V :=
 match P.underlying t,x with
 | some .string,.string s=>some (.int .i64 s.size)
 | some (.slice _),.bg _ _ n _=>some (.int .i64 n)
 | some (.slice _),.af n _=>some (.int .i64 n)
 | some (.slice _),.ag=>some (.int .i64 0)
 | some (.slice _),.z0=>some (.int .i64 0)
 | some (.array n _),_=>some (.int .i64 n)
 | some (.pointer a),_=>match P.underlying a with
  | some (.array n _)=>some (.int .i64 n)
  | _=>none
 | some (.map _ _),.fj=>some (.int .i64 0)
 | some (.map _ _),.map i=>match h.get i with
  | .map j _=>some (.int .i64 j.length)
  | _=>none
 | _,_=>none
def jg(P:aOR)(x:V)(a:aOS)(ok:Bool):Option V :=
 match P.underlying a,x with
 | some (.interface _),_=>none
 | some _,.iface t v=>
  if t=a then some (if ok then .tuple [v,.bool true]else v)
  else if ok then(match mz P a with|some z=>some (.tuple [fC z,.bool false])|none=>none)else none
 | _,_=>none
theorem ajY{P:aOR}{t:aOS}{x v:V}{j:aOU}{k:Nat}{h:I}(a:IM P t x k=some v){ρ:Ren}{B:Nat}{m w:aOV}(R:a1 ρ B m h w)(i:aE ρ x j) :
  b2 P (Instr.field t j k) ρ w v:=by
 unfold IM at a;split at a
 case h_2=>cases a
 rename_i A C q;cases i with
 | agg bl i=>
 split at a
 case h_2=>cases a
 rename_i f s;obtain⟨D,u,z⟩:=er.part ⟨bl,i⟩ a w;refine b2.mk ?_ z;simp[Instr.field,run_underlying q,s,asAgg,u]
theorem ajZ{P:aOR}{t:aOS}{x u v:V}{z A:aOU}{h:I}(a:FK P t x u=some v){ρ:Ren}{B:Nat}{D w:aOV}(R:a1 ρ B D h w)(i:aE ρ x z)(C:aE ρ u A) :
  b2 P (Instr.index t z A) ρ w v:=by
 unfold FK at a;split at a
 ·rename_i E e L k n j;cases C;cases i with
  | agg bl i=>
  split at a
  case h_2=>cases a
  rename_i sz m;split at a
  case isFalse=>cases a
  rename_i ak;obtain⟨M,F,G⟩:=er.part ⟨bl,i⟩ a w;refine b2.mk ?_ G;cases q:P.info? e with
  | none=>simp[cH,q]at m
  | some N=>
   simp[cH,q]at m;simp[Instr.index,asIntOf,run_underlying j,ak,sizeOf,typeInfo,q,m,F]
 ·rename_i s k n j;cases C;cases i;split at a
  case isFalse=>cases a
  rename_i ak;split at a
  case h_2=>cases a
  rename_i b H;obtain rfl:_=v:=by simpa using a
  refine b2.mk ?_ (.int _ _);simp only[Instr.index,asIntOf,Sem.run_bind,Sem.run_pure,aO3.andThen_ok,run_underlying j,if_pos ak,H]
 ·cases a
theorem run_getObj_map{P:aOR}{w:aOV}{b:Nat}{es:Array aO6}{c:Nat}(h:w.heap[b]?=some (.map es c)):(getObj b).run P w=.ok (.map es c) w:=by
 simp[getObj,Sem.run,h]
theorem ZK{P:aOR}{w:aOV}{b:Nat}{m:Option Nat}{s:Nat}{a:Array Nat}{st:Nat}(h:w.heap[b]?=some (.mapIter m s a st)):(getObj b).run P w=.ok (.mapIter m s a st) w:=by
 simp[getObj,Sem.run,h]
theorem aj0{P:aOR}{t ty:aOS}{x v:V}{z:aOU}{h:I}(m:dJ P t x h=some v){ρ:Ren}{B:Nat}{C w:aOV}(R:a1 ρ B C h w)(q:aE ρ x z) :
  b2 P (aOY.len_ #[t] ty #[z]) ρ w v:=by
 unfold dJ at m;split at m
 ·rename_i s j;cases q;obtain rfl:_=v:=by simpa using m
  exact b2.mk (by simp[aOY.len_,run_underlying j,goInt]) (.int _ _)
 ·rename_i e b o n c j;obtain rfl:_=v:=by simpa using m
  obtain⟨_,_,_,_,rfl⟩:=q.gW;exact b2.mk (by simp[aOY.len_,run_underlying j,goInt]) (.int _ _)
 ·rename_i e n L j;obtain rfl:_=v:=by simpa using m
  rcases q.k1 with⟨rfl,rfl,a,M,aT,rfl⟩|⟨_,_,_,_,_,_,_,_,rfl⟩
  ·exact b2.mk (by simp[aOY.len_,run_underlying j,goInt]) (.int _ _)
  ·exact b2.mk (by simp[aOY.len_,run_underlying j,goInt]) (.int _ _)
 ·rename_i e j;obtain rfl:_=v:=by simpa using m
  cases q;exact b2.mk (by simp[aOY.len_,run_underlying j,goInt]) (.int _ _)
 ·rename_i e j;obtain rfl:_=v:=by simpa using m
  cases q;exact b2.mk (by simp[aOY.len_,run_underlying j,goInt]) (.int _ _)
 ·rename_i n e j;obtain rfl:_=v:=by simpa using m
  exact b2.mk (by simp[aOY.len_,run_underlying j,goInt]) (.int _ _)
 ·rename_i u j;split at m
  case h_2=>cases m
  rename_i n e D;obtain rfl:_=v:=by simpa using m
  exact b2.mk (by simp[aOY.len_,run_underlying j,run_underlying D,goInt]) (.int _ _)
 ·rename_i k e j;obtain rfl:_=v:=by simpa using m
  cases q;exact b2.mk (by simp[aOY.len_,run_underlying j,goInt]) (.int _ _)
 ·rename_i k e i j;split at m
  case h_2=>cases m
  rename_i N O E;obtain rfl:_=v:=by simpa using m
  cases q with
  | map hi=>
  have A:=R.heap.obj i;rw[E]at A;obtain⟨b,Q,u,F,_,_,G,H⟩:=A;rw[F]at hi;simp at hi;obtain⟨rfl,rfl⟩:=hi;exact b2.mk (by simp[aOY.len_,run_underlying j,run_getObj_map G,goInt,H.1]) (.int _ _)
 ·cases m
theorem aj1{P:aOR}{x v:V}{A:aOU}{G a:aOS}{ok:Bool}{h:I}(i:jg P x a ok=some v){ρ:Ren}{B:Nat}{H w:aOV}(R:a1 ρ B H h w)(L:aE ρ x A) :
  b2 P (Instr.typeAssert A G a ok) ρ w v:=by
 unfold jg at i;split at i
 ·cases i
 ·rename_i d t u C D;cases L with
  | iface t E=>
  rename_i F;split at i
  ·rename_i j;obtain rfl:_=v:=by simpa using i
   refine b2.mk (v':=if ok then .tuple #[F,.bool true]else F) ?_ ?_
   ·cases d with
    | interface m=>exact absurd rfl (C m)
    | _=>cases ok<;>simp[Instr.typeAssert,run_underlying D,j]
   ·cases ok
    ·exact E
    ·simp only[if_true];exact((a6.cons E (.cons (.bool true) (.nil ρ))).arr).tuple
  ·rename_i j;split at i
   case isFalse=>cases i
   rename_i N;subst N;split at i
   case h_2=>cases i
   rename_i z q;obtain rfl:_=v:=by simpa using i
   refine b2.mk (v':=.tuple #[z,.bool false]) ?_ ((a6.cons (FA ρ z) (.cons (.bool false) (.nil ρ))).arr).tuple;cases s:P.info? a with
   | none=>simp[mz,s]at q
   | some O=>
    simp[mz,s]at q;cases d with
    | interface m=>exact absurd rfl (C m)
    | _=>simp[Instr.typeAssert,run_underlying D,j,zeroValue,typeInfo,s,q]
 ·cases i
def we:aO1->Bool
 | .int _ | .string | .bool=>true
 | _=>false
def wg(P:aOR)(i:aOS)(d:aO1)(a b:V):Option Bool :=
 match p7 a,p7 b with
 | some a,some b=>if we d then Instr.sameNow d a b else ed P (Op.equal i a b)
 | _,_=>none
def p8(P:aOR)(a:aOS)(d:aO1)(k:V):List (Nat×V×V)->Option (Option Nat)
 | []=>some none
 | e::i=>match wg P a d k e.2.1 with
  | some true=>some (some 0)
  | some false=>(p8 P a d k i).map (·.map (·+1))
  | none=>none
theorem gO.dT{ρ:Ren}{e:Nat×V×V}{es:List (Nat×V×V)}{arr:Array aO6}(h:gO ρ (e::es) arr):∃i j,arr.toList=i::j/\e.1=i.born/\aE ρ e.2.1 i.key/\aE ρ e.2.2 i.val/\gO ρ es j.toArray:=by
 have s:=h.1;cases aT:arr.toList with
 | nil=>
  have:arr.size=0:=by rw[<-az6,aT];rfl
  simp at s;omega
 | cons i j=>
  have u:∀k:Nat,arr[k]?=(i::j)[k]?:=λk=>by rw[<-azI,aT]
  obtain⟨a,b,c⟩:=h.2 0 e i rfl (by rw[u];rfl)
  refine⟨i,j,rfl,a,b,c,?_,λk x y z A=>h.2 (k+1) x y (by simpa using z) (by rw[u];simpa using A)⟩
  have:arr.size=j.length+1:=by rw[<-az6,aT];rfl
  simp at s⊢;omega
theorem ZL{P:aOR}{ρ:Ren}{q:aOS}{d:aO1}(z:we d=true){k:V}{k':aOU}(A:aE ρ k k'):∀(es:List (Nat×V×V)) (l:List aO6) (i:Nat) (r:Option Nat),gO ρ es l.toArray->p8 P q d k es=some r ->
  Instr.findNow d k' l i=some (match r with|some j=>(l[j]?).map λe=>(i+j,e.val)|none=>none)/\(∀j,r=some j->j<l.length)
 | [],l,i,r,s,h=>by
  have:l=[]:=by have:=s.1;simp at this;exact azB this.symm
  subst this;simp[p8]at h;subst h;exact⟨rfl,by simp⟩
 | e::es,l,i,r,s,h=>by
  obtain⟨B,C,F,ak,G,N,H⟩:=s.dT;obtain rfl:l=B::C:=by simpa using F
  unfold p8 at h;have D:∀b,wg P q d k e.2.1=some b->Instr.sameNow d k' B.key=some b:=λb ak=>by
   unfold wg at ak;split at ak
   ·rename_i a c aT av;rw[if_pos z]at ak;rw[zg A aT,zg G av];exact ak
   ·cases ak
  unfold Instr.findNow;split at h
  ·rename_i m;rw[D _ m];obtain rfl:some 0=r:=by simpa using h
   exact⟨rfl,by simp⟩
  ·rename_i m;rw[D _ m];cases u:p8 P q d k es with
   | none=>simp[u]at h
   | some E=>
    simp[u]at h;obtain⟨L,M⟩:=ZL z A es C (i+1) E H u;subst h;simp only;rw[L];cases E with
    | none=>exact⟨rfl,by simp⟩
    | some j=>
     have:=M j rfl;simp[IA this,aAZ,aER,this]
  ·cases h
theorem ZM{P:aOR}{ρ:Ren}{q:aOS}{d:aO1}(z:we d=false){k:V}{k':aOU}(A:aE ρ k k'){w:aOV}:∀(es:List (Nat×V×V)) (l:List aO6) (i:Nat) (r:Option Nat),gO ρ es l.toArray->p8 P q d k es=some r ->
  (Instr.findAsking q k' l i).run P w=.ok (match r with|some j=>(l[j]?).map λe=>(i+j,e.val)|none=>none) w/\(∀j,r=some j->j<l.length)
 | [],l,i,r,s,h=>by
  have:l=[]:=by have:=s.1;simp at this;exact azB this.symm
  subst this;simp[p8]at h;subst h;exact⟨rfl,by simp⟩
 | e::es,l,i,r,s,h=>by
  obtain⟨B,C,F,ak,G,N,H⟩:=s.dT;obtain rfl:l=B::C:=by simpa using F
  unfold p8 at h;have D:∀b,wg P q d k e.2.1=some b->(Op.equal q k' B.key).run P w=.ok b w:=λb ak=>by
   unfold wg at ak;split at ak
   ·rename_i a c aT av;rw[if_neg (by simp[z])]at ak
    rw[zg A aT,zg G av];exact DD ak w
   ·cases ak
  unfold Instr.findAsking;rw[Sem.run_bind];split at h
  ·rename_i m;rw[D _ m];obtain rfl:some 0=r:=by simpa using h
   exact⟨by simp,by simp⟩
  ·rename_i m;rw[D _ m];cases u:p8 P q d k es with
   | none=>simp[u]at h
   | some E=>
    simp[u]at h;obtain⟨L,M⟩:=ZM z A es C (i+1) E H u;subst h;simp only[aO3.andThen_ok,azs,if_false];rw[L];cases E with
    | none=>exact⟨rfl,by simp⟩
    | some j=>
     have:=M j rfl;simp[IA this,aAZ,aER,this]
  ·cases h
theorem aj2{d:aO1}(i:we d=false)(a b:aOU):Instr.sameNow d a b=none:=by
 cases d<;>simp[we]at i<;>rfl
theorem Cl{P:aOR}{ρ:Ren}{i:aOS}{d:aO1}(C:P.underlying i=some d){k:V}{k':aOU}(u:aE ρ k k'){w:aOV}{es:List (Nat×V×V)}{arr:Array aO6}{r:Option Nat}(z:gO ρ es arr)(h:p8 P i d k es=some r) :
  (Instr.findKey i k' arr.toList).run P w=.ok (r.bind λj=>(arr[j]?).map λe=>(j,e.val)) w/\(∀j,r=some j->j<arr.size):=by
 unfold Instr.findKey;rw[Sem.run_bind,run_underlying C,aO3.andThen_ok];have A:gO ρ es arr.toList.toArray:=by simpa using z
 cases m:we d with
 | true=>
  obtain⟨a,q⟩:=ZL m u es arr.toList 0 r A h;rw[a];refine⟨?_,λj s=>by simpa using q j s⟩
  cases r<;>simp
 | false=>
  obtain⟨a,q⟩:=ZM (w:=w) m u es arr.toList 0 r A h;refine⟨?_,λj s=>by simpa using q j s⟩
  cases aT:arr.toList with
  | nil=>
   have D:es=[]:=by
    have B:=z.1;rw[<-az6,aT]at B;exact azB B
   subst D;simp[p8]at h;subst h;simp[Instr.findNow]
  | cons e l=>
   have:Instr.findNow d k' (e::l) 0=none:=by unfold Instr.findNow;rw[aj2 m]
   rw[this];rw[aT]at a;simp only;rw[a];cases r with
   | none=>rfl
   | some j=>
    have ay:arr[j]?=(e::l)[j]?:=by rw[<-azI,aT]
    simp[ay]
def yI(P:aOR)(i:Bool)(j:aOS)(k:V):Bool :=
 match p7 k with
 | some a=>(ed P (Instr.checkKey i 10000 j a)).isSome
 | none=>false
theorem Cm{P:aOR}{i:Bool}{j:aOS}{k:V}{k':aOU}{ρ:Ren}(h:yI P i j k=true)(q:aE ρ k k')(w:aOV):(Instr.checkKey i 10000 j k').run P w=.ok () w:=by
 unfold yI at h;split at h
 ·rename_i a aT;rw[zg q aT];cases m:ed P (Instr.checkKey i 10000 j a)with
  | none=>simp[m]at h
  | some u=>exact DD m w
 ·cases h
def eA(P:aOR)(t:aOS):Option (aOS×aOS×aO1) :=
 match P.underlying t with
 | some (.map k e)=>(P.underlying k).map λd=>(k,e,d)
 | _=>none
theorem ip{P:aOR}{t k e:aOS}{d:aO1}(h:eA P t=some (k,e,d)):P.underlying t=some (.map k e)/\P.underlying k=some d:=by
 unfold eA at h;split at h
 ·rename_i i m j;cases a:P.underlying i with
  | none=>simp[a]at h
  | some q=>
   simp[a]at h;obtain⟨rfl,rfl,rfl⟩:=h;exact⟨j,a⟩
 ·cases h
def nB(P:aOR)(t:aOS)(m k:V)(ok:Bool)(h:I):Option V :=
 match eA P t with
 | none=>none
 | some (a,s,d)=>
  match mz P s,m with
  | some z,.fj=>if yI P true a k then some (if ok then .tuple [fC z,.bool false]else fC z)else none
  | some z,.map i=>
   match h.get i with
   | .map q _=>
    if yI P q.isEmpty a k then
     match p8 P a d k q with
     | some (some j)=>(q[j]?).map λe=>if ok then .tuple [e.2.2,.bool true]else e.2.2
     | some none=>some (if ok then .tuple [fC z,.bool false]else fC z)
     | none=>none
    else none
   | _=>none
  | _,_=>none
theorem Uc{ρ:Ren}{v:V}{v':aOU}(h:aE ρ v v')(b:Bool)(ok:Bool):aE ρ (if ok then .tuple [v,.bool b]else v) (if ok then .tuple #[v',.bool b]else v'):=by
 cases ok
 ·exact h
 ·exact((a6.cons h (.cons (.bool b) (.nil ρ))).arr).tuple
theorem Pw{P:aOR}{e:aOS}{z:aOU}(h:mz P e=some z)(w:aOV):(zeroValue e).run P w=.ok z w:=by
 cases a:P.info? e with
 | none=>simp[mz,a]at h
 | some i=>simp[mz,a]at h;simp[zeroValue,typeInfo,a,h]
theorem aj3{P:aOR}{t:aOS}{m k v:V}{M k':aOU}{ok:Bool}{h:I}(a:nB P t m k ok h=some v){ρ:Ren}{B:Nat}{W w:aOV}(R:a1 ρ B W h w)(N:aE ρ m M)(q:aE ρ k k') :
  b2 P (Instr.lookup t M k' ok) ρ w v:=by
 unfold nB at a;split at a
 ·cases a
 rename_i c0 gG d X;obtain⟨D,E⟩:=ip X;split at a
 ·rename_i z F;split at a
  case isFalse=>cases a
  rename_i s;obtain rfl:_=v:=by simpa using a
  cases N;refine b2.mk ?_ (Uc (FA ρ z) false ok);have u:=(Cl (P:=P) (w:=w) (arr:=#[]) (es:=[]) (r:=none) E q ⟨rfl,by simp⟩ rfl).1
  simp only[Instr.lookup,Sem.run_bind,Sem.run_pure,run_underlying D,aO3.andThen_ok];rw[show(#[]:Array aO6).isEmpty=true from rfl,Cm s q w,aO3.andThen_ok,u]
  simp[Pw F]
 ·rename_i z i F;split at a
  case h_2=>cases a
  rename_i G cl Y;split at a
  case isFalse=>cases a
  rename_i s;cases N with
  | map hi=>
  have O:=R.heap.obj i;rw[Y]at O;obtain⟨b,bG,A,Z,_,_,Q,C⟩:=O;rw[Z]at hi;simp at hi;obtain⟨rfl,rfl⟩:=hi;have tB:G.isEmpty=A.isEmpty:=by
   have:=C.1;rw[azm,aA0,aB1,<-aAm,<-aDI,this]
  rw[tB]at s;split at a
  ·rename_i j u;obtain⟨H,S⟩:=Cl (P:=P) (w:=w) E q C u;have L:=S j rfl;have T:j<G.length:=by rw[C.1];exact L
   rw[IA T]at a;obtain rfl:_=v:=by simpa using a
   obtain⟨_,_,aI⟩:=C.2 j _ _ (IA T) (azd L);refine b2.mk ?_ (Uc aI true ok);simp only[Instr.lookup,Sem.run_bind,Sem.run_pure,run_underlying D,run_getObj_map Q,aO3.andThen_ok];rw[Cm s q w,aO3.andThen_ok,H];simp[azd L]
  ·rename_i u;obtain⟨H,S⟩:=Cl (P:=P) (w:=w) E q C u;obtain rfl:_=v:=by simpa using a
   refine b2.mk ?_ (Uc (FA ρ z) false ok);simp only[Instr.lookup,Sem.run_bind,Sem.run_pure,run_underlying D,run_getObj_map Q,aO3.andThen_ok];rw[Cm s q w,aO3.andThen_ok,H];simp[Pw F]
  ·cases a
 ·cases a
def vl(P:aOR)(t:aOS)(m k v:V)(h:I):Option I :=
 match eA P t,m with
 | some (u,z,d),.map i=>
  match h.get i with
  | .map q s=>
   if yI P false u k then
    match p8 P u d k q with
    | some (some j)=>
     match(q[j]?).bind λe=>p7 e.2.1,p7 k with
     | some a,some b=>if Instr.sameBits 10000 a b=true then some (h.set i (.map (q.modify j λe=>(e.1,k,v)) s))else none
     | _,_=>none
    | some none=>some (h.set i (.map (q++[(s,k,v)]) (s+1)))
    | none=>none
   else none
  | _=>none
 | _,_=>none
theorem run_setObj_map{P:aOR}{w:aOV}{b:Nat}{es:Array aO6}{c:Nat}(h:w.heap[b]?=some (.map es c))(o:Obj):(setObj b o).run P w=.ok () { w with heap:=w.heap.setIfInBounds b o }:=by
 simp[setObj,Sem.run,h]
theorem aj4{P:aOR}{w:aOV}{b:Nat}{m:Option Nat}{s:Nat}{a:Array Nat}{st:Nat}(h:w.heap[b]?=some (.mapIter m s a st))(o:Obj):(setObj b o).run P w=.ok () { w with heap:=w.heap.setIfInBounds b o }:=by
 simp[setObj,Sem.run,h]
theorem a1.setObj{ρ:Ren}{B:Nat}{j:aOV}{h:I}{w:aOV}(R:a1 ρ B j h w){i b u:Nat}(hi:ρ.ren i=some (b,u))(z:h.get i≠.dead)(C:B<=b){o:aR}{ob:Obj}
  (D:b<w.heap.size) (A:px ρ B { w with heap:=w.heap.setIfInBounds b ob } i o):a1 ρ B j (h.set i o) { w with heap:=w.heap.setIfInBounds b ob }:=by
 refine R.r4 hi z (λk s=>by simp[aDH,Ne.symm s]) (by simp) ⟨rfl,rfl,rfl,by simp,λk s=>?_,BY _⟩ A
 simp[aDH,show b≠k by omega]
theorem pu{P:aOR}{t:aOS}{m k v:V}{fY k' v':aOU}{h h':I}(s:vl P t m k v h=some h'){ρ:Ren}{B:Nat}{aV w:aOV}(R:a1 ρ B aV h w)(hm:aE ρ m fY)(D:aE ρ k k')(aI:aE ρ v v') :
  ∃w',(Instr.mapUpdate t fY k' v').run P w=.ok () w'/\a1 ρ B aV h' w':=by
 unfold vl at s;split at s
 case h_2=>cases s
 rename_i c0 gG d i cr;obtain⟨hu,sR⟩:=ip cr;split at s
 case h_2=>cases s
 rename_i G E T;split at s
 case isFalse=>cases s
 rename_i o2;cases hm with
 | map hi=>
 have aO:=R.heap.obj i;rw[T]at aO;obtain⟨b,bG,C,H,om,O,L,A⟩:=aO;rw[H]at hi;simp at hi;obtain⟨rfl,rfl⟩:=hi;have Q:b<w.heap.size:=(azj.1 L).1;split at s
 ·rename_i j W;split at s
  case h_2=>cases s
  rename_i a c aT av;split at s
  case isFalse=>cases s
  rename_i Ka;obtain rfl:_=h':=by simpa using s
  obtain⟨X,ad⟩:=Cl (P:=P) (w:=w) sR D A W;have M:=ad j rfl;have S:j<G.length:=by rw[A.1];exact M
  obtain⟨_,gX,_⟩:=A.2 j _ _ (IA S) (azd M);rw[IA S]at aT;simp at aT;have ay:=zg gX aT;have bc:=zg D av;have Y:=R.setObj (o:=.map (G.modify j λe=>(e.1,k,v)) E) (ob:=.map (C.modify j λe=>{ e with key:=k',val:=v' }) E) H (by rw[T];simp) O Q (by
   refine⟨b,bG,C.modify j (λe=>{ e with key:=k',val:=v' }),H,om,O,by simp[Q],by simp[A.1],λq e Z u z=>?_⟩
   rw[List.getElem?_modify]at u;rw[azP]at z;by_cases x8:j=q
   ·subst x8;rw[IA S]at u;rw[azd M]at z;simp at u z;subst u;subst z;obtain⟨aC,_,_⟩:=A.2 j _ _ (IA S) (azd M);exact⟨aC,D,aI⟩
   ·simp[x8]at u z;exact A.2 q e Z u z)
  refine⟨_,?_,Y⟩;simp only[Instr.mapUpdate,Sem.run_bind,run_underlying hu,run_getObj_map L,aO3.andThen_ok];rw[Cm o2 D w,aO3.andThen_ok,X];have jo:(Instr.keyThatStays a c).run P w=.ok c w:=by unfold Instr.keyThatStays;rw[if_pos Ka];rfl
  simp[azd M,ay,bc,jo,run_setObj_map L]
 ·rename_i W;obtain rfl:_=h':=by simpa using s
  obtain⟨X,ad⟩:=Cl (P:=P) (w:=w) sR D A W;have Y:=R.setObj (o:=.map (G++[(E,k,v)]) (E+1)) (ob:=.map (C.push { key:=k',val:=v',born:=E }) (E+1)) H (by rw[T];simp) O Q (by
   refine⟨b,bG,C.push { key:=k',val:=v',born:=E },H,om,O,by simp[Q],by simp[A.1],λq e Z u z=>?_⟩
   rw[aDE]at u;rw[aB2]at z;by_cases DF:q<G.length
   ·rw[if_pos DF]at u;rw[if_neg (by rw[<-A.1];omega)]at z
    exact A.2 q e Z u z
   ·rw[if_neg DF]at u;have Kb:q=G.length:=by
     have:=(are.1 u).1;simp at this;omega
    subst Kb;rw[if_pos A.1]at z;simp at u z;subst u;subst z;exact⟨rfl,D,aI⟩)
  refine⟨_,?_,Y⟩;simp only[Instr.mapUpdate,Sem.run_bind,run_underlying hu,run_getObj_map L,aO3.andThen_ok];rw[Cm o2 D w,aO3.andThen_ok,X];simp[run_setObj_map L]
 ·cases s
def Cn(P:aOR)(t:aOS)(m k:V)(h:I):Option I :=
 match eA P t,m with
 | some (q,u,d),.map i=>
  match h.get i with
  | .map a s=>
   if yI P a.isEmpty q k then
    match p8 P q d k a with
    | some (some j)=>some (h.set i (.map (a.eraseIdx j) s))
    | some none=>some h
    | none=>none
   else none
  | _=>none
 | _,_=>none
theorem aj5{P:aOR}{t ty:aOS}{ts:Array aOS}{m k:V}{W k':aOU}{h h':I}(X:ts[0]?=some t)(s:Cn P t m k h=some h'){ρ:Ren}{B:Nat}{Y w:aOV}(R:a1 ρ B Y h w)(hm:aE ρ m W)(G:aE ρ k k') :
  ∃w',(aOY.delete_ ts ty #[W,k']).run P w=.ok (.tuple #[]) w'/\a1 ρ B Y h' w':=by
 unfold Cn at s;split at s
 case h_2=>cases s
 rename_i c0 gG d i cr;obtain⟨Z,sR⟩:=ip cr;split at s
 case h_2=>cases s
 rename_i z A H;split at s
 case isFalse=>cases s
 rename_i O;cases hm with
 | map hi=>
 have aO:=R.heap.obj i;rw[H]at aO;obtain⟨b,bG,a,C,om,L,D,u⟩:=aO;rw[C]at hi;simp at hi;obtain⟨rfl,rfl⟩:=hi;have M:b<w.heap.size:=(azj.1 D).1;have tB:z.isEmpty=a.isEmpty:=by
  have:=u.1;rw[azm,aA0,aB1,<-aAm,<-aDI,this]
 rw[tB]at O;split at s
 ·rename_i j Q;obtain rfl:_=h':=by simpa using s
  obtain⟨S,ad⟩:=Cl (P:=P) (w:=w) sR G u Q;have T:=ad j rfl;have kb:j<z.length:=by rw[u.1];exact T
  have N:=R.setObj (o:=.map (z.eraseIdx j) A) (ob:=.map (a.eraseIdxIfInBounds j) A) C (by rw[H];simp) L M (by
   have ay:∀q:Nat,(a.eraseIdxIfInBounds j)[q]?=if q<j then a[q]? else a[q+1]?:=λq=>by
    rw[<-azI,aES,aET];simp
   refine⟨b,bG,a.eraseIdxIfInBounds j,C,om,L,by simp[M],?_,λq e ek E F=>?_⟩
   ·rw[aEU,if_pos kb,<-az6,aES,aEU,if_pos (by simpa using T),u.1]
    simp
   ·rw[aET]at E;rw[ay]at F;by_cases RX:q<j
    ·simp only[RX,if_true]at E F;exact u.2 q e ek E F
    ·simp only[RX,if_false]at E F;exact u.2 _ e ek E F)
  refine⟨_,?_,N⟩;simp only[aOY.delete_,X,Sem.run_bind,run_underlying Z,run_getObj_map D,aO3.andThen_ok,aDK,aDL,aB3];rw[Cm O G w,aO3.andThen_ok,S];simp[azd T,run_setObj_map D]
 ·rename_i Q;obtain rfl:_=h':=by simpa using s
  obtain⟨S,ad⟩:=Cl (P:=P) (w:=w) sR G u Q;have N:=R.setObj (o:=.map z A) (ob:=.map a A) C (by rw[H];simp) L M ⟨b,bG,a,C,om,L,by simp[M],u⟩
  have U:h.set i (.map z A)=h:=by
   unfold I.set
   congr 1
   funext j
   by_cases cU:j=i
   ·subst cU;simp[H]
   ·simp[cU]
  rw[U]at N;refine⟨_,?_,N⟩;simp only[aOY.delete_,X,Sem.run_bind,run_underlying Z,run_getObj_map D,aO3.andThen_ok,aDK,aDL,aB3];rw[Cm O G w,aO3.andThen_ok,S];simp[run_setObj_map D]
 ·cases s
def Kc(P:aOR)(t:aOS)(r:Option V)(h:I):Option (V×I) :=
 match r with
 | none=>some (.map h.n,h.push (.map [] 0))
 | some (.int _ _)=>if(eA P t).isSome then some (.map h.n,h.push (.map [] 0))else none
 | _=>none
theorem pp{ρ:Ren}{B:Nat}{j w:aOV}{h:I}(R:a1 ρ B j h w){o:aR}{ob:Obj}(m:∀ ρ':Ren,ρ.le ρ'->ρ'.ren h.n=some (w.heap.size,0)->ρ'.frz w.heap.size=none->px ρ' B { w with heap:=w.heap.push ob } h.n o) :
  ∃ ρ':Ren,ρ.le ρ'/\ρ'.ren h.n=some (w.heap.size,0)/\a1 ρ' B j (h.push o) { w with heap:=w.heap.push ob }:=by
 have q:ρ.frz w.heap.size=none:=by
  cases s:ρ.frz w.heap.size with
  | none=>rfl
  | some a=>
   obtain⟨e,D,u⟩:=R.heap.frz _ _ s;have:=(azj.1 u).1;omega
 have i:=Ren.tq (R.heap.me _ (BY _)) w.heap.size 0;obtain⟨z,A⟩:=R.Cf (o:=o) (w':={ w with heap:=w.heap.push ob }) 0 (by simp) (λk C=>by simp[aB2,show k≠w.heap.size by omega])
  ⟨rfl,rfl,rfl,by simp,λk C=>by have:=R.heap.base;simp[aB2,show k≠w.heap.size by omega],BY _⟩ (m _ i Ren.nY q)
 exact⟨_,z,Ren.nY,A⟩
theorem aj6{P:aOR}{t:aOS}{r:Option V}{m:Option aOU}{v:V}{h h':I}(s:Kc P t r h=some (v,h')){ρ:Ren}{B:Nat}{u w:aOV}(R:a1 ρ B u h w)(D:aAw (aE ρ) r m) :
  Yields P (Instr.makeMap t m) ρ B u w v h':=by
 have i:∀v h',some (V.map h.n,h.push (.map [] 0))=some (v,h')->(Instr.makeMap t m).run P w=.ok (.map (some w.heap.size)) { w with heap:=w.heap.push (.map #[] 0) }->Yields P (Instr.makeMap t m) ρ B u w v h':=λv h' A E=>by
  simp at A;obtain⟨rfl,rfl⟩:=A;obtain⟨ρ',j,z,F⟩:=pp R (o:=.map [] 0) (ob:=.map #[] 0) fun ρ' j z G=>⟨w.heap.size,0,#[],z,G,R.heap.base,by simp,rfl,by simp⟩
  exact⟨ρ',_,_,E,.map z,F,j⟩
 unfold Kc at s;cases D with
 | none=>exact i v h' s (by simp[Instr.makeMap,newObj,Sem.run])
 | some H=>
  rename_i a b;cases a<;>simp at s;rename_i kk n;cases H;obtain⟨L,M,N⟩:=s;refine i v h' (by simp[M,N]) ?_
  cases C:eA P t with
  | none=>simp[C]at L
  | some q=>
   obtain⟨Q,S,d⟩:=q;simp[Instr.makeMap,run_underlying (ip C).1,asInt,asIntOf,newObj,Sem.run]
def IP(P:aOR)(t:aOS)(x:V)(h:I):Option (V×I) :=
 match eA P t,x with
 | some _,.map i=>match h.get i with
  | .map j a=>some (.ptr h.n 0,h.push (.iter i a [] a))
  | _=>none
 | _,_=>none
theorem aj7{P:aOR}{t:aOS}{x v:V}{u:aOU}{h h':I}(a:IP P t x h=some (v,h')){ρ:Ren}{B:Nat}{z w:aOV}(R:a1 ρ B z h w)(D:aE ρ x u) :
  Yields P (Instr.range t u) ρ B z w v h':=by
 unfold IP at a;split at a
 case h_2=>cases a
 rename_i q i E;obtain⟨Q,S,d⟩:=q;obtain⟨F,_⟩:=ip E;split at a
 case h_2=>cases a
 rename_i T m G;simp at a;obtain⟨rfl,rfl⟩:=a;cases D with
 | map hi=>
 have A:=R.heap.obj i;rw[G]at A;obtain⟨b,H,L,C,W,X,M,Y⟩:=A;rw[C]at hi;simp at hi;obtain⟨rfl,rfl⟩:=hi;obtain⟨ρ',j,s,N⟩:=pp R (o:=.iter i m [] m) (ob:=.mapIter (some b) m #[] m) fun ρ' j s O=>⟨w.heap.size,0,b,H,s,O,R.heap.base,j.ren _ _ C,by simp⟩
 refine⟨ρ',_,_,?_,.ptr s 0,N,j⟩;simp[Instr.range,run_underlying F,run_getObj_map M,newObj,Sem.run]
def nZ(es:List (Nat×V×V))(seen:List Nat):List (Nat×V×V):=es.filter λe=>!seen.contains e.1
def Co(s:V)(h:I):Option (List (V×I)) :=
 match s with
 | .ptr r 0=>match h.get r with
  | .iter m a seen j=>match h.get m with
   | .map q i=>
    if(!seen.isEmpty&&!q.isEmpty&&q.all (λe=>decide (j<=e.1)))=true then none else
    some (
     (if(nZ q seen).all (λe=>decide (a<=e.1))then [(.tuple [.bool false],h)]else []) ++
     (nZ q seen).map λe=>(.tuple [.bool true,e.2.1,e.2.2],h.set r (.iter m a (seen++[e.1]) i)))
   | _=>none
  | _=>none
 | _=>none
def IQ(j:V)(h:I):Option V :=
 match j with
 | .ptr r 0=>match h.get r with
  | .iter m i seen q=>match seen.getLast?,h.get m with
   | some s,.map u a=>if a=q then(u.find? λe=>e.1==s).map λe=>.tuple [e.2.1,e.2.2]else none
   | _,_=>none
  | _=>none
 | _=>none
theorem ZN{ρ:Ren}(p:Nat->Bool):∀(es:List (Nat×V×V)) (l:List aO6) (e:Nat×V×V),gO ρ es l.toArray->es.find? (λe=>p e.1)=some e->∃i,l.find? (λe=>p e.born)=some i/\aE ρ e.2.1 i.key/\aE ρ e.2.2 i.val
 | [],l,e,m,h=>by simp at h
 | a::es,l,e,m,h=>by
  obtain⟨i,q,s,ak,u,z,A⟩:=m.dT;obtain rfl:l=i::q:=by simpa using s
  rw[List.find?_cons]at h⊢;rw[<-ak];by_cases j:p a.1=true
  ·simp only[j]at h⊢;obtain rfl:a=e:=by simpa using h
   exact⟨i,rfl,u,z⟩
  ·simp only[Bool.not_eq_true]at j;simp only[j]at h⊢;exact ZN p es q e A h
theorem aj8{P:aOR}{it v:V}{D:aOU}{h:I}(a:IQ it h=some v){ρ:Ren}{B:Nat}{H w:aOV}(R:a1 ρ B H h w)(hi:aE ρ it D) :
  b2 P (Instr.entry D) ρ w v:=by
 unfold IQ at a;split at a
 case h_2=>cases a
 rename_i r;split at a
 case h_2=>cases a
 rename_i m q seen rk L;split at a
 case h_2=>cases a
 rename_i j E s M N;split at a
 case isFalse=>cases a
 rename_i O;obtain⟨IU,rc,u,rfl⟩:=hi.rl;have F:=R.heap.obj r;rw[L]at F;obtain⟨b,bG,bm,vZ,Q,om,b3,z,S⟩:=F;rw[Q]at u;simp at u;obtain⟨rfl,rfl⟩:=u;have G:=R.heap.obj m;rw[N]at G;obtain⟨b8,ka,i,T,Ud,nL,W,X⟩:=G;rw[T]at z;simp at z;obtain⟨rfl,rfl⟩:=z;cases A:E.find? (λe=>e.1==j)with
 | none=>simp[A]at a
 | some e=>
  simp[A]at a;subst a;obtain⟨C,Y,Z,aI⟩:=ZN (λn=>n==j) E i.toList e (by simpa using X) A
  have iM:i.find? (λx=>x.born==j)=some C:=by rw[<-Array.find?_toList];exact Y
  have ak:seen.toArray.back?=some j:=by simpa using M
  refine b2.mk (v':=.tuple #[C.key,C.val]) ?_ ((a6.cons Z (.cons aI (.nil ρ))).arr).tuple;simp only[Instr.entry,Sem.run_bind,ZK S,aO3.andThen_ok,ak,run_getObj_map W];subst O;simp[iM]
theorem ZO{ρ:Ren}(seen:List Nat)(p:Nat->Bool):∀(es:List (Nat×V×V)) (l:List aO6),gO ρ es l.toArray->gO ρ (es.filter λe=>p e.1) (l.filter λe=>p e.born).toArray
 | [],l,a=>by
  have:l=[]:=by have:=a.1;simp at this;exact azB this.symm
  subst this;exact⟨rfl,by simp⟩
 | e::es,l,a=>by
  obtain⟨m,q,u,ak,z,A,B⟩:=a.dT;obtain rfl:l=m::q:=by simpa using u
  have ih:=ZO seen p es q B;simp only[List.filter_cons,ak];by_cases s:p m.born=true
  ·simp only[s,if_true];refine⟨by have:=ih.1;simpa using this,λk x y i j=>?_⟩
   cases k with
   | zero=>simp at i j;subst i;subst j;exact⟨ak,z,A⟩
   | succ k=>exact ih.2 k x y (by simpa using i) (by simpa using j)
  ·simp only[s];exact ih
theorem gO.all{ρ:Ren}(p:Nat->Bool):∀(es:List (Nat×V×V)) (l:List aO6),gO ρ es l.toArray->(es.all λe=>p e.1)=(l.all λe=>p e.born)
 | [],l,i=>by
  have:l=[]:=by have:=i.1;simp at this;exact azB this.symm
  subst this;rfl
 | e::es,l,i=>by
  obtain⟨s,j,u,ak,A,B,z⟩:=i.dT;obtain rfl:l=s::j:=by simpa using u
  simp only[List.all_cons,ak,gO.all p es j z]
theorem aj9{P:aOR}{it:V}{DG:aOU}{ty:aOS}{h:I}{F:List (V×I)}(A:Co it h=some F){ρ:Ren}{B:Nat}{O w:aOV}(R:a1 ρ B O h w)(hi:aE ρ it DG) :
  ∃v h',(v,h')∈F/\Yields P (Instr.next DG false ty) ρ B O w v h':=by
 unfold Co at A;split at A
 case h_2=>cases A
 rename_i r;split at A
 case h_2=>cases A
 rename_i m i seen s zp;split at A
 case h_2=>cases A
 rename_i D C Kd;split at A
 case isTrue=>cases A
 rename_i eR;obtain⟨IU,rc,T,rfl⟩:=hi.rl;have aO:=R.heap.obj r;rw[zp]at aO;obtain⟨b,bG,bm,vZ,W,om,b3,X,Y⟩:=aO;rw[W]at T;simp at T;obtain⟨rfl,rfl⟩:=T;have DH:=R.heap.obj m;rw[Kd]at DH;obtain⟨Z,ka,j,jL,Ud,nL,jM,eo⟩:=DH;rw[jL]at X;simp at X;obtain⟨rfl,rfl⟩:=X;have aD:b<w.heap.size:=(azj.1 Y).1;simp only[Option.some.injEq]at A;have Ke:gO ρ D j.toList.toArray:=by simpa using eo
 have Ue:¬((!seen.toArray.isEmpty&&!j.isEmpty&&j.all (λe=>decide (s<=e.born)))=true):=by
  have ay:seen.toArray.isEmpty=seen.isEmpty:=by simp
  have bc:j.isEmpty=D.isEmpty:=by
   have:=eo.1;rw[azm,aA0,aB1,<-aAm,<-aDI,this]
  have cW:j.all (λe=>decide (s<=e.born))=D.all (λe=>decide (s<=e.1)):=by
   rw[gO.all (λn=>decide (s<=n)) D j.toList Ke,Array.all_toList]
  rw[ay,bc,cW];exact eR
 have jz:=ZO seen (λn=>!seen.contains n) D j.toList Ke
 let left:=j.filter λe=>!seen.toArray.contains e.born
 let u:Array (Option aO6):=(if(left.filter (λe=>decide (e.born<i))).isEmpty then #[none]else #[])++(left.filter (λe=>decide (e.born<i))++left.filter (λe=>decide (i<=e.born))).map some
 have DI:left.toList=j.toList.filter λe=>!seen.contains e.born:=by simp[left]
 have G:∃q:Nat,∃z,(∃c,u[q]?=some c)/\a1 ρ B O h z/\z.heap=w.heap/\∀c,u[q]?=some c ->
   (Instr.next (.pointer (some ⟨b,0,none⟩)) false ty).run P w=(match c with
    | some e=>((setObj b (.mapIter (some Z) i (seen.toArray.push e.born) C)).run P z).andThen λ_ bT=>.ok (.tuple #[.bool true,e.key,e.val]) bT
    | none=>.ok (.tuple #[.bool false]) z):=by
  have bH:u.size≠0:=by
   intro aG;simp only[u,aBr,aEO]at aG;by_cases E:(left.filter (λe=>decide (e.born<i))).isEmpty=true
   ·simp[E]at aG
   ·have:(left.filter (λe=>decide (e.born<i))).size=0:=by omega
    exact E (by simp[Array.isEmpty,this])
  have o3:∃q z,q<u.size/\(choose (.mapNext u.size)).run P w=.ok q z/\a1 ρ B O h z/\z.heap=w.heap:=by
   by_cases az:(aPd.mapNext u.size).forced=true
   ·refine⟨0,w,by omega,?_,R,rfl⟩
    simp[choose,Sem.run,az]
   ·refine⟨(aPd.mapNext u.size).cut (w.tape w.drawn (.mapNext u.size)),w.drew,?_,?_,R.drew,rfl⟩
    ·simp only[aPd.cut];exact Nat.mod_lt _ (by omega)
    ·have cm:(aPd.mapNext u.size).forced=false:=by simpa using az
     simp only[choose,Sem.run,cm];rfl
  obtain⟨q,z,ab,av,Q,U⟩:=o3;refine⟨q,z,⟨_,azd ab⟩,Q,U,λc L=>?_⟩;simp only[Instr.next,Sem.run_bind,ZK Y,run_getObj_map jM,aO3.andThen_ok];have Px:¬((!seen.toArray.isEmpty&&!j.isEmpty&&j.all (λx=>decide (x.born >= s)))=true):=Ue;rw[if_neg Px];have DK:=av;simp only[u,left]at DK L;simp only[Sem.run_bind,Sem.run_pure,aO3.andThen_ok,ge_iff_le,DK,L];cases c<;>simp
 obtain⟨q,z,⟨c,L⟩,Q,U,G⟩:=G;have G:=G c L;have H:c∈u:=Array.mem_of_getElem? L;cases c with
 | none=>
  refine⟨.tuple [.bool false],h,?_,ρ,_,z,G,((a6.cons (.bool false) (.nil ρ)).arr).tuple,Q,Ren.le.refl ρ⟩;rw[<-A];apply List.mem_append_left;have E:(left.filter (λe=>decide (e.born<i))).isEmpty=true:=by
   by_cases E:(left.filter (λe=>decide (e.born<i))).isEmpty=true
   ·exact E
   ·simp[u,E]at H
  have:(nZ D seen).all (λe=>decide (i<=e.1))=true:=by
   unfold nZ;rw[gO.all (λn=>decide (i<=n)) _ _ jz,<-DI];rw[ayL];intro e S;rw[aB1,<-Array.toList_inj]at E;simp only[Array.toList_filter]at E;have M:=List.filter_eq_nil_iff.1 E e (by simpa using S)
   simp at M⊢;exact M
  rw[this];simp
 | some e=>
  have S:e∈left.toList:=by
   simp only[u,Array.mem_append,Array.mem_map]at H;rcases H with H|⟨x,N,Hu⟩
   ·split at H<;>simp at H
   ·simp at Hu;subst Hu;rcases N with N|N
    ·simpa using(aEX.1 N).1
    ·simpa using(aEX.1 N).1
  rw[DI]at S;obtain⟨k,hk⟩:=aBo S;have qm:k<(D.filter λe=>!seen.contains e.1).length:=by
   rw[jz.1];simpa using(are.1 hk).1
  obtain⟨h1,ad,M⟩:=jz.2 k _ e (IA qm) (by simpa using hk)
  have e3:(D.filter λe=>!seen.contains e.1)[k]∈nZ D seen:=ayM qm;generalize(D.filter λe=>!seen.contains e.1)[k]=a at h1 ad M e3;have hO:z.heap[b]?=some (.mapIter (some Z) i seen.toArray s):=by rw[U];exact Y
  simp only[aj4 hO,aO3.andThen_ok]at G;refine⟨.tuple [.bool true,a.2.1,a.2.2],h.set r (.iter m i (seen++[a.1]) C),?_,ρ,_,_,G,((a6.cons (.bool true) (.cons ad (.cons M (.nil ρ)))).arr).tuple,?_,Ren.le.refl ρ⟩
  ·rw[<-A];apply List.mem_append_right;exact OF.2 ⟨a,e3,rfl⟩
  ·refine Q.setObj W (by rw[zp];simp) b3 (by rw[U];exact aD) ?_
   exact⟨b,bG,Z,ka,W,om,b3,jL,by simp[U,aD,h1]⟩
end Go.Proofs.YtemdgidnhgcafaaGreatDoor.Ab
