/-
  Rules of the machine on abstract states. Conditions: as each theorem says.
-/
import Derived.Test.YtemdgidnhgcafaaGreatDoorAbB
import Derived.SizedLaws
import Derived.Laws.StructEq
import Derived.Sort.Row
import Derived.Sort.Grow
import Derived.Sort.Statements
open Nat renaming mul_le_mul_right->avo,le_refl->BY,zero_le->Dc,zero_add->avm,mul_one->VU,add_mul->atY,le_trans->OF,lt_or_ge->awr,one_mul->awB
open List renaming take_of_length_le->are,length_drop->avJ,length_take->VV,length_map->VY,take_length->avT,length->avu,getElem?_take->avg,getElem?_eq_getElem->ME,drop_eq_getElem_cons->avk,length_append->IS,getElem?_append_left->av8,getElem?_append_right->av9,getElem?_eq_some_iff->VX,flatten_cons->ayt,length_cons->ave,drop_drop->awA,drop_zero->avW,all_eq_true->avh,getElem?_drop->avC,eq_nil_of_length_eq_zero->avA,flatMap_cons->avj,take_left'->awV,getElem?_map->aw9,length_mergeSort->axR
open Array renaming getElem?_eq_some_iff->avl,size_eq_one_iff->aAH,setIfInBounds_comm->ayr,replicate->awb,getElem?_replicate->ays,getElem?_toList->avF
open Int renaming toNat_natCast->avc
open Bool renaming and_eq_true->VW,false_or->axQ,or_eq_true->avY,true_and->avR,not_eq_true'->awT
open Option renaming bind_some->avQ,map_eq_some_iff->avL,map_some->avI
set_option linter.unusedVariables false
set_option linter.unusedSimpArgs false
namespace Go.Proofs.YtemdgidnhgcafaaGreatDoor.Ab
open Go Go.RowKit
section
variable {P:Program} {t e:TypeId} {x y v:V} {h:I}
def eY (P:Program) (t:TypeId):Option (List (Nat×Nat) ⊕ Nat) :=
 match ML P t with
 | some pl=>some (.inl pl)
 | none=>match Ah P t with
  | some (_,e)=>(cC P e).map .inr
  | none=>none
def M9 (zs:Option (List V)) (b:Option (List (Nat×Nat) ⊕ Nat)) (parts:List (Nat×V)):Option V :=
 match zs,b with
 | some zs,some (.inl pl)=>(pS (fun i=>pl[i]?) zs parts).map .agg
 | some zs,some (.inr sz)=>(pS (fun i=>some (i * sz,sz)) zs parts).map .agg
 | _,_=>none
theorem ajO {parts:List (Nat×V)}:Dm P t parts=M9 (gR P t) (eY P t) parts:=by
 unfold Dm M9 eY;cases gR P t with
 | none=>rfl
 | some zs=>
  cases ML P t with
  | some pl=>rfl
  | none=>
   simp only;cases Ah P t with
   | none=>rfl
   | some p=>
    obtain ⟨n,e⟩:=p;simp only;cases cC P e<;>rfl
theorem un {zs:List V} {pl:List (Nat×Nat)} {parts:List (Nat×V)}:M9 (some zs) (some (.inl pl)) parts=(pS (fun i=>pl[i]?) zs parts).map .agg:=nr rfl
theorem ajP {zs:List V} {sz:Nat} {parts:List (Nat×V)}:M9 (some zs) (some (.inr sz)) parts=(pS (fun i=>some (i * sz,sz)) zs parts).map .agg:=nr rfl
theorem ajQ {place:Nat→Option (Nat×Nat)} {cs:List V}:pS place cs []=some cs:=nr rfl
def RL (place:Nat→Option (Nat×Nat)) (cs:List V) (p:Option (Nat×Nat)) (vs:Option (List V)) (r:List (Nat×V)):Option (List V) :=
 match p,vs with
 | some (off,size),some vs=>if vs.length=size∧off+size≤cs.length then pS place (rG cs off vs) r else none
 | _,_=>none
theorem ajR {place:Nat→Option (Nat×Nat)} {cs:List V} {i:Nat} {r:List (Nat×V)}:pS place cs ((i,v)::r)=RL place cs (place i) v.cells r:=by
 show (match place i,v.cells with | some (off,size),some vs=>_ | _,_=>none)=_
 unfold RL;rfl
theorem ajS {place:Nat→Option (Nat×Nat)} {cs vs:List V} {off size:Nat} {r:List (Nat×V)}:RL place cs (some (off,size)) (some vs) r=if vs.length=size∧off+size≤cs.length then pS place (rG cs off vs) r else none:=nr rfl
def RM (P:Program) (t:TypeId) (k:Nat):Option (Nat×Option Nat) :=
 match P.underlying t with
 | some (.struct eb)=>match eb[k]? with
  | some f=>match mj P f.type,cC P f.type with
   | some true,some n=>some (f.offset,some n)
   | some false,some _=>some (f.offset,none)
   | _,_=>none
  | none=>none
 | _=>none
def RN (p:Option (Nat×Option Nat)) (x:V):Option V :=
 match p,x with
 | some (off,some n),.agg cs=>some (.agg ((cs.drop off).take n))
 | some (off,none),.agg cs=>cs[off]?
 | _,_=>none
theorem ajT {k:Nat}:Ge P t x k=RN (RM P t k) x:=by
 unfold Ge RN RM;cases P.underlying t with
 | none=>rfl
 | some d=>
  cases d<;>try rfl
  rename_i eb;cases hk:eb[k]? with
  | none=>cases x<;>simp [hk]
  | some f=>
   cases aL:mj P f.type with
   | none=>cases x<;>simp [hk,aL,Dn]
   | some b=>cases b<;>cases bR:cC P f.type<;>cases x<;>simp [hk,aL,bR,Dn]
theorem ajU {off:Nat} {cs:List V}:RN (some (off,none)) (.agg cs)=cs[off]?:=nr rfl
theorem Il {sz:Nat} (h:dF P t=some sz):∃ e,P.underlying t=some (.slice e)∧cC P e=some sz:=by
 unfold dF at h;split at h
 ·rename_i e hu;exact ⟨e,hu,h⟩
 ·cases h
theorem WQ {sz n:Nat} {cs:List V} {lo hi:Option V} {l m:Nat} (aa:dF P t=some sz) (h1:kM lo=some l) (ad:eO n hi=some m) (aw:l≤m) (hm:m≤n) (ay:cs.length=n * sz) :
  nT P t (.ah n cs) lo hi none=some (.ah (m - l) ((cs.drop (l * sz)).take ((m - l) * sz))):=by
 obtain ⟨e,hu,he⟩:=Il aa;unfold nT;have aD:eO n (none:Option V)=some n:=rfl;simp only [hu,he,h1,ad,aD];have:l * sz≤cs.length:=by rw [ay];exact avo _ (by omega)
 simp [Ae,aw,hm,this]
theorem WR {sz n:Nat} {cs:List V} {k:IntKind} {l:Int} (aa:dF P t=some sz) (aK:0≤l) (aw:l≤n) (ay:cs.length=n * sz) :
  nT P t (.ah n cs) (some (.int k l)) none none=some (.ah (n - l.toNat) (cs.drop (l.toNat * sz))):=by
 rw [WQ aa (l:=l.toNat) (m:=n) (by simp [kM,lw,aK]) rfl (by omega) (BY _) ay]
 rw [are];rw [avJ,ay,Nat.sub_mul]
 first | done | exact BY _
theorem ajV {sz n:Nat} {cs:List V} {k:IntKind} {m:Int} (aa:dF P t=some sz) (aK:0≤m) (hm:m≤n) (ay:cs.length=n * sz) :
  nT P t (.ah n cs) none (some (.int k m)) none=some (.ah m.toNat (cs.take (m.toNat * sz))):=by
 rw [WQ aa (l:=0) (m:=m.toNat) rfl (by simp [eO,lw,aK]) (Dc _) (by omega) ay]
 simp
theorem Gu {sz n:Nat} {cs:List V} {k:IntKind} {i:Int} (aa:dF P t=some sz) (aK:0≤i) (hi:i<n) (ay:cs.length=n * sz) :
  hG P t (.ah n cs) (.int k i)=some (.at (cs.drop (i.toNat * sz))):=by
 rw [Gr,aa,y4,if_pos ⟨aK,hi,by rw [ay];exact avo _ (by omega)⟩]
def Im (T:Option kx) (len:Nat) (parts:List (Nat×V)) (h:I):Option (V×I) :=
 match T with
 | some T=>if len * T.sz≤2 ^ 24∧len≤2 ^ 24 then (pS (fun i=>some (i * T.sz,T.sz)) (made T.zs len) parts).map fun cells=>(.bj h.n 0 len len,h.push (.cells cells T.e none)) else none
 | none=>none
theorem lY {len:Nat} {parts:List (Nat×V)} {T:kx} (cd:fL P t=some T):ie P t len parts h=Im (some T) len parts h:=by
 obtain ⟨he,bR,bo,jC,fb,_⟩:=uw cd;unfold ie Im;simp only [he,bo,bR,fb,true_and];split
 ·cases pS (fun i=>some (i * T.sz,T.sz)) (made T.zs len) parts<;>rfl
 ·rfl
theorem Na {T:kx} {l c:Nat} {k k':IntKind} (cd:fL P t=some T) (aw:l≤c) (h1:T.ao * c≤140737488355328) (ad:c≤140737488355328) :
  yR P t (.int k (l:Int)) (.int k' (c:Int)) h=some (.bj h.n 0 l c,h.push (.cells (made T.zs c) T.e none)):=by
 obtain ⟨he,bR,bo,jC,fb,_⟩:=uw cd;unfold yR;simp [he,lw,bR,jC,bo,fb,aw,h1,ad]
theorem WS {T:kx} {tx:TypeId} {i cap n:Nat} {c cs:List V} {src:V} {h:I} (cd:fL P t=some T) (az:h.get i=.cells c T.e none) (aa:i4 src=some n) (av:tA T.sz n src h=some cs)
  (cm:cs.all (·.one)=true) (eW:cs.length≤c.length) :
  ∃ h',vx P t (.bj i 0 n cap) src h=some (.int .i64 n,h')∧h'=h.set i (.cells (lay c 0 cs) T.e none):=by
 obtain ⟨he,bR,bo,jC,fb,_⟩:=uw cd;have DC:Nat.min n n=n:=Nat.min_self _;unfold vx;simp only [he,bo,aa,DC,av];by_cases aK:n=0
 ·subst aK;have dX:cs=[]:=by
   have:=(Av av);simpa using this
  subst dX;refine ⟨h,by simp,?_⟩
  rw [show lay c 0 []=c by simp [lay]]
  exact (ajG az).symm
 ·rw [if_neg aK];simp only [az,avm];rw [if_pos ⟨eW,cm⟩];exact ⟨_,rfl,rfl⟩
where
 Av {sz n:Nat} {x:V} {h:I} {vs:List V} (aa:tA sz n x h=some vs):vs.length=n * sz:=by
  unfold tA at aa;split at aa
  ·split at aa
   ·rename_i aK;simp at aa;subst aa;simp [aK]
   ·cases aa
  ·split at aa
   ·rename_i aK;simp at aa;subst aa;simp [aK]
   ·cases aa
  ·split at aa
   ·split at aa
    ·simp at aa;subst aa;simp;omega
    ·cases aa
   ·cases aa
  ·split at aa
   ·simp at aa;subst aa;simp;omega
   ·cases aa
  ·split at aa
   ·rename_i ay;simp at aa;subst aa;have:=byteCells_length;rw [VV,VY,this];rw [ay.1];omega
   ·cases aa
  ·cases aa
end
theorem qm.refl (f:ak) (h:I):qm f h f h:=fun ρ B aJ w n a hw av=>⟨ρ,Ren.le.refl ρ,hw,av⟩
theorem qm.trans {f f1 f2:ak} {h h1 ad:I} (a:qm f h f1 h1) (b:qm f1 h1 f2 ad):qm f h f2 ad:=fun ρ B aJ w n x hw av=>
 let ⟨ρ1,hc,cV,v1⟩:=a ρ B aJ w n x hw av
 let ⟨ρ2,ez,bS,v2⟩:=b ρ1 B aJ w n x cV v1
 ⟨ρ2,hc.trans ez,bS,v2⟩
theorem bV.args {P:Program} {bG:FuncId} {args o4:List V} {h ad:I} {R:V→I→Prop} {E:I→Prop} (ay:aq args h o4 ad) (aa:bV P bG o4 ad R E):bV P bG args h R E:=by
 intro ρ B aJ w args' hw aP;obtain ⟨ρ1,hc,cV,cb⟩:=ay ρ B aJ w _ hw aP;refine (aa ρ1 B aJ w args' cV cb).mono fun e w' U=>?_;rcases U with ⟨ρ',r,c0,h',he,aL,bX,hle,eC⟩ | ⟨ρ',iv,h',he,nE,bX,hle,bL⟩
 ·exact .inl ⟨ρ',r,c0,h',he,aL,bX,hc.trans hle,eC⟩
 ·exact .inr ⟨ρ',iv,h',he,nE,bX,hc.trans hle,bL⟩
theorem af.args {P:Program} {bG:FuncId} {args o4:List V} {h ad:I} {R:V→I→Prop} (ay:aq args h o4 ad) (aa:af P bG o4 ad R):af P bG args h R:=bV.args ay aa
theorem aA.lit {h:I} {c:List V} {e:TypeId} {n sz:Nat} (ay:c.length=n * sz) (aG:n<cj) (bo:0<sz):∃ ad,aA (.bj h.n 0 n n) (h.push (.cells c e none)) (.ah n c) ad∧J h ad none_:=by
 have aN:=Own.fresh (h:=h) (e:=e) c n n ay (BY _) aG;rw [←ay,avT] at aN;obtain ⟨ad,aD,bn⟩:=aA.own aN ay bo;exact ⟨ad,aD,(J.push h _ none_).trans bn fun k hk dk=>by simp [a6,a8] at dk;omega⟩
variable {P:Program} {t:TypeId} {T:kx}
theorem WT {k:IntKind} {n:Nat}:kM (some (.int k (n:Int)))=some n:=by simp [kM,lw]
theorem Nb {kk:IntKind} (aa:dF P t=some 1) {h:I} {e:TypeId} {v:V} {cs:List V} (aN:Own h e 1 v cs) {k:Nat} (hk:k<cs.length) :
  ∃ i,hG P t v (.int kk (k:Int))=some (.ptr i k)∧a8 v=some i∧(∃ r,cP (h.get i) k=some (cs[k]::r)) ∧
   ∀ x,x.one=true→∃ ob,bF (some 1) (h.get i) k [x]=some ob∧Own (h.set i ob) e 1 v (cs.set k x)∧J h (h.set i ob) (a6 v):=by
 rcases aN with ⟨_,rfl⟩ | ⟨i,len,cap,c,ex,rfl,hi,az,hlen,bY,dp⟩
 ·simp at hk
 ·simp only [VU] at hlen bY dp;have cI:len≤c.length:=by
   have:=congrArg avu bY;rw [VV,hlen] at this;omega
  have vG:cs[k]?=c[k]?:=by rw [←bY,avg,if_pos (by omega)]
  have Io:k<c.length:=by omega
  have ur:cs[k]=c[k]:=by
   rw [ME hk,ME Io] at vG;exact Option.some.inj vG
  refine ⟨i,?_,rfl,⟨c.drop (k+1),?_⟩,fun x aN=>?_⟩
  ·rw [Gr,aa,Rz,if_pos ⟨by omega,by omega⟩]
   simp
  ·rw [az,H7,if_pos (by omega),avk Io,ur]
  ·refine ⟨.cells (c.set k x) e ex,?_,.inr ⟨i,len,cap,c.set k x,ex,rfl,hi,by simp [I.set],by simp [hlen],?_,?_⟩,(J.set h i _).mono fun k hk=>by subst hk;rfl⟩
   ·rw [az,rU aN,if_pos Io]
   ·rw [VU,←bY,List.take_set]
   ·simpa using dp
theorem WU {h:I} {e:TypeId} {v:V} {cs:List V} {sz:Nat} (aN:Own h e sz v cs) (dg:0<sz):∃ n,i4 v=some n∧cs.length=n * sz∧tA sz n v h=some cs:=by
 rcases aN with ⟨rfl | rfl,rfl⟩ | ⟨i,len,cap,c,ex,rfl,hi,az,hlen,bY,dp⟩
 ·exact ⟨0,rfl,by simp,rfl⟩
 ·exact ⟨0,rfl,by simp,rfl⟩
 ·have cI:len * sz≤c.length:=by
   have:=congrArg avu bY;rw [VV,hlen] at this;omega
  exact ⟨len,rfl,hlen,by simp [tA,az,cI,bY]⟩
theorem WV {tx:TypeId} (cd:fL P t=some T) {h:I} {src:V} {n:Nat} {cs:List V} {k k':IntKind} (aa:i4 src=some n) (av:∀ h',J h h' none_→tA T.sz n src h'=some cs) (cm:cs.all (·.one)=true) (hlen:cs.length=n * T.sz)
  (h1:T.ao * n≤140737488355328) (ad:n≤140737488355328) :
  ∃ h1 ad,yR P t (.int k (n:Int)) (.int k' (n:Int)) h=some (.bj h.n 0 n n,h1)∧vx P t (.bj h.n 0 n n) src h1=some (.int .i64 n,ad)∧Own ad T.e T.sz (.bj h.n 0 n n) cs∧J h h1 none_∧J h ad none_:=by
 obtain ⟨he,bR,bo,jC,fb,_⟩:=uw cd;have hP:(made T.zs n).length=n * T.sz:=by rw [MH,fb]
 have hv:J h (h.push (.cells (made T.zs n) T.e none)) none_:=J.push _ _ _;obtain ⟨uz,ay,rfl⟩:=WS (P:=P) (t:=t) (T:=T) (tx:=t) (i:=h.n) (cap:=n) (c:=made T.zs n) (src:=src) (h:=h.push (.cells (made T.zs n) T.e none)) cd ck aa (av _ hv) cm (by omega)
 refine ⟨_,_,Na cd (BY _) h1 ad,ay,.inr ⟨h.n,n,n,_,none,rfl,?_,aT,hlen,?_,.inl ⟨by unfold cj;omega,?_,BY _⟩⟩,hv,hv.mO (BY _) _⟩
 ·rw [lW,dq];omega
 ·simp [lay,hlen]
 ·rw [vv _ _ _ (by omega),hP];exact BY _
inductive rh where
 | bool | int (k:IntKind) | str | bj (s:rh) | unit | cat (a b:rh)
def rh.width:rh→Nat
 | .unit=>0
 | .cat a b=>a.width+b.width
 | _=>1
def rh.fits:rh→List V→Prop
 | .bool,l=>∃ b,l=[.bool b]
 | .int k,l=>∃ n,l=[.int k n]∧(Lit.int k n).wf=true
 | .str,l=>∃ s,l=[.string s]
 | .bj s,l=>∃ es:List (List V),l=[.ah es.length es.flatten]∧∀ e ∈ es,s.fits e
 | .unit,l=>l=[]
 | .cat a b,l=>∃ hc ez,l=hc++ez∧a.fits hc∧b.fits ez
theorem rh.pt:∀ {s:rh} {l:List V},s.fits l→l.length=s.width
 | .bool,_,⟨_,h⟩=>by subst h;rfl
 | .int _,_,⟨_,h,_⟩=>by subst h;rfl
 | .str,_,⟨_,h⟩=>by subst h;rfl
 | .bj _,_,⟨_,h,_⟩=>by subst h;rfl
 | .unit,_,h=>by have:_=[]:=h;subst this;rfl
 | .cat a b,_,⟨hc,ez,h,h1,ad⟩=>by subst h;rw [IS,rh.pt h1,rh.pt ad];rfl
def Ip (P:Program) (g:TypeId→Option rh):Nat→List Field→Option rh
 | _,[]=>some .unit
 | o,f::eb=>
  if f.offset=o then
   match g f.type,Ip P g (o+P.cellsOf f.type) eb with
   | some s,some r=>if s.width=P.cellsOf f.type then some (.cat s r) else none
   | _,_=>none
  else none
def shapeOf (P:Program):Nat→TypeId→Option rh
 | 0,_=>none
 | n+1,t=>
  match P.underlying t with
  | some .bool=>some .bool
  | some (.int k)=>some (.int k)
  | some .string=>some .str
  | some (.slice e)=>match shapeOf P n e with | some s=>if s.width=P.cellsOf e∧0<s.width then some (.bj s) else none | none=>none
  | some (.struct eb)=>match Ip P (shapeOf P n) 0 eb.toList with | some s=>if s.width=P.cellsOf t then some s else none | none=>none
  | _=>none
theorem WW {α:Type} {eo:Nat→α→Prop}:∀ (n:Nat),(∀ i,i<n→∃ e,eo i e)→∃ es:List α,es.length=n∧∀ i e,es[i]?=some e→eo i e
 | 0,_=>⟨[],rfl,by simp⟩
 | n+1,h=>by
  obtain ⟨es,h1,ad⟩:=WW n fun i hi=>h i (by omega)
  obtain ⟨e,he⟩:=h n (by omega)
  refine ⟨es++[e],by simp [h1],fun i x aj=>?_⟩
  by_cases hi:i<es.length
  ·rw [av8 hi] at aj;exact ad i x aj
  ·rw [av9 (by omega)] at aj
   have:i - es.length=0:=by
    have:=(VX.1 aj).1;simp at this;omega
   rw [this] at aj;simp at aj;subst aj;rw [show i=n by omega]
   exact he
theorem WX {α:Type} {sz:Nat} (dg:0<sz):∀ {es:List (List α)} {k:Nat} {v:α},(∀ e ∈ es,e.length=sz)→es.flatten[k]?=some v→∃ e,es[k / sz]?=some e∧e[k % sz]?=some v
 | [],k,v,_,h=>by simp at h
 | e::es,k,v,aw,h=>by
  have he:=aw e (by simp)
  rw [ayt] at h;by_cases hk:k<sz
  ·rw [av8 (by omega)] at h
   exact ⟨e,by rw [Nat.div_eq_of_lt hk];rfl,by rw [Nat.mod_eq_of_lt hk];exact h⟩
  ·rw [av9 (by omega),he] at h
   obtain ⟨x,h1,ad⟩:=WX dg (fun e h=>aw e (by simp [h])) h
   refine ⟨x,?_,?_⟩
   ·rw [show k / sz=(k - sz) / sz+1 by rw [Nat.div_eq_sub_div dg (by omega)]]
    simpa using h1
   ·rw [Nat.mod_eq_sub_mod (by omega)];exact ad
theorem WY {α:Type} {sz:Nat}:∀ {es:List (List α)},(∀ e ∈ es,e.length=sz)→es.flatten.length=es.length * sz
 | [],_=>by simp
 | e::es,h=>by
  rw [ayt,IS,h e (by simp),WY fun e he=>h e (by simp [he]),ave,atY]
  omega
section
variable {H:Type} {enc:TypeId×Value→H} {P:Program} {w:World} {base:Nat} {spare:Nat→Bool} {held:Bool}
theorem ajW {a:Addr} {n:Nat} {cs:List Value} (h:w.cells? base a n=some cs):cs.length=n∧∀ j,j<n→w.cell? (a.add j)=cs[j]?:=by
 unfold World.cells? at h;split at h
 case isFalse=>cases h
 exact ⟨by simpa using mapM_some_length h,fun j aV=>by simpa using mapM_some_get h j j (by simp [aV])⟩
theorem WZ {g:TypeId→Option rh} {cs:List Value} {fu:Nat} (az:∀ t s fuel cs x,g t=some s→DataW.trod enc P w base spare held fuel t cs=some x→∃ l,s.fits l∧aX (sT w) l cs) :
  ∀ (eb:List Field) (o:Nat) (s:rh) (xs:List (DataW H×List MemPlace)),Ip P g o eb=some s→xs.length=eb.length →
   (∀ (i:Nat) (f:Field),eb[i]?=some f→DataW.trod enc P w base spare held fu f.type ((cs.drop f.offset).take (P.cellsOf f.type))=xs[i]?)→∃ l,s.fits l∧aX (sT w) l ((cs.drop o).take s.width)
 | [],o,s,xs,aa,_,_=>by
  simp [Ip] at aa;subst aa;exact ⟨[],rfl,by simpa [rh.width] using aX.nil _⟩
 | f::eb,o,s,xs,aa,aw,aj=>by
  unfold Ip at aa;split at aa
  case isFalse=>cases aa
  rename_i aN;split at aa
  case h_2=>cases aa
  rename_i s1 s2 h1 ad;split at aa
  case isFalse=>cases aa
  rename_i hw;obtain rfl:=Option.some.inj aa;cases xs with
  | nil=>simp at aw
  | cons x xs=>
   have Iq:=aj 0 f rfl;obtain ⟨hc,f1,cZ⟩:=az _ _ _ _ _ h1 Iq;obtain ⟨ez,f2,dI⟩:=WZ az eb _ s2 xs ad (by simpa using aw) fun i bO av=>aj (i+1) bO (by simpa using av)
   refine ⟨hc++ez,⟨hc,ez,rfl,f1,f2⟩,?_⟩;have:=cZ.append dI;rw [aN,←hw] at this;have e:((cs.drop o).take s1.width)++((cs.drop (o+s1.width)).take s2.width)=(cs.drop o).take (s1.width+s2.width):=by
    rw [List.take_add,awA]
   rw [e] at this;exact this
theorem reads:∀ (n:Nat) (t:TypeId) (s:rh) (fuel:Nat) (cs:List Value) (x:DataW H×List MemPlace),shapeOf P n t=some s→DataW.trod enc P w base spare held fuel t cs=some x→∃ l,s.fits l∧aX (sT w) l cs
 | 0,_,_,_,_,_,aa,_=>by simp [shapeOf] at aa
 | n+1,t,s,fuel,cs,x,aa,h=>by
  unfold shapeOf at aa;split at aa
  ·rename_i hu;obtain rfl:=Option.some.inj aa;obtain ⟨b,rfl,_⟩:=DataW.trod_bool hu h;exact ⟨[.bool b],⟨b,rfl⟩,.cons (.bool b) (.nil _)⟩
  ·rename_i k hu;obtain rfl:=Option.some.inj aa;obtain ⟨m,rfl,_,hw⟩:=DataW.trod_int hu h;exact ⟨[.int k m],⟨m,rfl,hw⟩,.cons (.int k m) (.nil _)⟩
  ·rename_i hu;obtain rfl:=Option.some.inj aa;obtain ⟨b,rfl,_⟩:=DataW.trod_string hu h;exact ⟨[.string b],⟨b,rfl⟩,.cons (.string b) (.nil _)⟩
  ·rename_i e hu;split at aa
   case h_2=>cases aa
   rename_i s1 lp;split at aa
   case isFalse=>cases aa
   rename_i hw;obtain rfl:=Option.some.inj aa;rcases DataW.trod_slice hu h with ⟨rfl,_⟩ | ⟨a,len,cap,elems,rest,m,_,rfl,_,_,tb,_,ur,vG,_⟩
   ·exact ⟨[.ah 0 []],⟨[],rfl,by simp⟩,.cons (.gg none 0 (by simp)) (.nil _)⟩
   ·rcases Nat.eq_zero_or_pos len with aK | dg
    ·subst aK;exact ⟨[.ah 0 []],⟨[],rfl,by simp⟩,.cons (.gg (some a) cap (by simp)) (.nil _)⟩
    ·have each:∀ i,i<len→∃ l:List V,s1.fits l∧∃ ci:List Value,aX (sT w) l ci∧∀ j,j<s1.width→w.cell? ((a.add (i * s1.width)).add j)=ci[j]?∧j<ci.length:=fun i hi=>by
      have h1:=vG i hi;have ad:∃ y,elems[i]?=some y:=⟨_,ME (by omega)⟩
      obtain ⟨y,bp⟩:=ad;rw [bp,Option.bind_eq_some_iff] at h1;obtain ⟨ci,wB,tg⟩:=h1;obtain ⟨l,f1,cZ⟩:=reads n e s1 m ci y lp tg;rw [←hw.1] at wB;obtain ⟨g1,g2⟩:=ajW wB;exact ⟨l,f1,ci,cZ,fun j aV=>⟨g2 j aV,by omega⟩⟩
     obtain ⟨es,Ir,Aw⟩:=WW len each;have fJ:∀ e ∈ es,s1.fits e:=fun e he=>by
      obtain ⟨i,hi⟩:=List.getElem?_of_mem he;exact (Aw i e hi).1
     have hlen:∀ e ∈ es,e.length=s1.width:=fun e he=>rh.pt (fJ e he);obtain ⟨b,off,sp⟩:=a;have mm:∃ v,w.cell? ⟨b,off,sp⟩=some v:=by
      obtain ⟨_,ci,_,ay⟩:=(Aw 0 es[0] (ME (by omega)))
      obtain ⟨cX,dT⟩:=ay 0 hw.2;rw [Nat.zero_mul] at cX;simp only [Addr.add,if_true] at cX;exact ⟨_,cX.trans (ME dT)⟩
     obtain ⟨v0,rE⟩:=mm;have al:∃ arr h3 ho,w.heap[b]?=some (.cells arr h3 ho)∧sp=none:=by
      unfold World.cell? at rE;split at rE
      ·rename_i c h3 ho ab;refine ⟨c,h3,ho,ab,?_⟩;cases sp with
       | none=>rfl
       | some _=>simp at rE
      ·cases rE
     obtain ⟨arr,h3,ho,al,rfl⟩:=al;have Ad:∀ m,w.cell? (Addr.add ⟨b,off,none⟩ m)=arr[off+m]?:=fun m=>by
      rw [Addr.add_mid];simp [World.cell?,al]
     have xM:∀ i j,j<s1.width→w.cell? ((Addr.add ⟨b,off,none⟩ (i * s1.width)).add j)=arr[off+(i * s1.width+j)]?:=fun i j _=>by
      rw [Addr.add_mid,Addr.add_mid];simp [World.cell?,al,Nat.add_assoc]
     refine ⟨[.ah es.length es.flatten],⟨es,rfl,fJ⟩,.cons ?_ (.nil _)⟩;rw [Ir];refine .ah off len cap (WK al) tb ?_ fun k v v' h1 ad=>?_
     ·rw [WY hlen,Ir];obtain ⟨_,ci,_,ay⟩:=(Aw (len - 1) es[len - 1] (ME (by omega)))
      obtain ⟨cX,dT⟩:=ay (s1.width - 1) (by omega)
      rw [xM _ _ (by omega),ME dT] at cX
      have e8:=(avl.1 cX).1;have:(len - 1) * s1.width+s1.width=len * s1.width:=by
       rw [←Nat.succ_mul];congr 1;omega
      omega
     ·obtain ⟨aC,g1,g2⟩:=WX hw.2 hlen h1;obtain ⟨_,ci,aL,ay⟩:=Aw _ aC g1;have aV:k % s1.width<s1.width:=Nat.mod_lt _ hw.2;obtain ⟨cX,dT⟩:=ay _ aV;rw [xM _ _ aV,show k / s1.width * s1.width+k % s1.width=k by rw [Nat.mul_comm];exact Nat.div_add_mod k s1.width,ad] at cX
      exact aL.2 _ _ _ g2 cX.symm
  ·rename_i eb hu;split at aa
   case h_2=>cases aa
   rename_i s1 lp;split at aa
   case isFalse=>cases aa
   rename_i hw;obtain rfl:=Option.some.inj aa;obtain ⟨xs,m,_,_,cI,uA,aj⟩:=DataW.trod_struct hu h;obtain ⟨l,f1,cZ⟩:=WZ (fu:=m) (fun t s fuel cs x h1 ad=>reads n t s fuel cs x h1 ad) eb.toList 0 s1 xs lp (by simpa using uA) fun i f av=>aj i f (by simpa using av)
   rw [avW,hw,←cI,avT] at cZ;exact ⟨l,f1,cZ⟩
  ·cases aa
end
section
variable {H:Type} {enc:TypeId×Value→H} {P:Program} {w:World} {base:Nat} {spare:Nat→Bool} {held:Bool}
end
variable {P:Program} {t:TypeId} {T:kx}
theorem ajX {tx:TypeId} (cd:fL P t=some T) {h:I} {src:V} {n c:Nat} {cs:List V} {k k':IntKind} (aa:i4 src=some n) (av:∀ h',J h h' none_→tA T.sz n src h'=some cs) (cm:cs.all (·.one)=true) (hlen:cs.length=n * T.sz)
  (BN:n≤c) (h1:T.ao * c≤140737488355328) (ad:c≤140737488355328) :
  ∃ h1 ad,yR P t (.int k (n:Int)) (.int k' (c:Int)) h=some (.bj h.n 0 n c,h1)∧vx P t (.bj h.n 0 n c) src h1=some (.int .i64 n,ad)∧Own ad T.e T.sz (.bj h.n 0 n c) cs∧J h h1 none_∧J h ad none_:=by
 obtain ⟨he,bR,bo,jC,fb,_⟩:=uw cd;have hP:(made T.zs c).length=c * T.sz:=by rw [MH,fb]
 have hle:=avo T.sz BN;have hv:J h (h.push (.cells (made T.zs c) T.e none)) none_:=J.push _ _ _;obtain ⟨uz,ay,rfl⟩:=WS (P:=P) (t:=t) (T:=T) (tx:=t) (i:=h.n) (cap:=c) (c:=made T.zs c) (src:=src) (h:=h.push (.cells (made T.zs c) T.e none)) cd ck aa (av _ hv) cm (by omega)
 refine ⟨_,_,Na cd BN h1 ad,ay,.inr ⟨h.n,n,c,_,none,rfl,?_,aT,hlen,?_,.inl ⟨by unfold cj;omega,?_,BN⟩⟩,hv,hv.mO (BY _) _⟩
 ·rw [lW,dq];omega
 ·unfold lay;rw [List.take_zero,List.nil_append,List.take_append_of_le_length (by omega),are (by omega)]
 ·rw [vv _ _ _ (by omega),hP];exact BY _
def Nc (P:Program) (l:Nat) (rest:Code) (Q:Exit→Act→World→Prop):Nat→Act→World→Prop
 | 0,_,_=>False
 | m+1,a,w=>rest.wp P (Exit.jump l (Nc P l rest Q m) Q) a w
theorem ajY {P:Program} {c rest:Code} {l:Nat} {Q:Exit→Act→World→Prop} {a:Act} {w:World} (av:findLabel c l=some rest) (m:Nat)
  (first:c.wp P (Exit.jump l (Nc P l rest Q m) Q) a w):(Code.scope c).wp P Q a w:=by
 intro b k cs;have az:gotoIn l (.inScope c::k)=some (.code rest::.inScope c::k):=by simp [gotoIn,av]
 have key:∀ m a w,Nc P l rest Q m a w→∃ e ig w',Q e ig w'∧Arrives P (lone (b.at a (.code rest::.inScope c::k)) cs w) b k cs e ig w':=by
  intro m
  induction m with
  | zero=>intro a w h;exact h.elim
  | succ m ih=>
   intro a w ri;obtain ⟨e,a₁,w₁,ab,kR⟩:=ri b (.inScope c::k) cs;cases e with
   | normal=>exact ⟨.normal,a₁,w₁,ab,Steps.trans kR (.one step_inScope)⟩
   | exit id=>exact ⟨.exit id,a₁,w₁,ab,fun k' hk=>kR k' (by simp [exitTo,hk])⟩
   | goto bU=>
    obtain ⟨rfl,Is⟩:=ab;obtain ⟨e₂,a₂,w₂,hq₂,harr₂⟩:=ih a₁ w₁ Is;exact ⟨e₂,a₂,w₂,hq₂,.of_steps (kR _ az) harr₂⟩
   | ret=>exact ⟨_,a₁,w₁,ab,kR⟩
   | panic iv=>exact ⟨_,a₁,w₁,ab,kR⟩
   | outgrown=>exact ⟨_,a₁,w₁,ab,kR⟩
 obtain ⟨e,a₁,w₁,ab,kR⟩:=first b (.inScope c::k) cs
 cases e with
 | normal=>exact ⟨.normal,a₁,w₁,ab,.head step_scope (Steps.trans kR (.one step_inScope))⟩
 | exit id=>exact ⟨.exit id,a₁,w₁,ab,fun k' hk=>.head step_scope (kR k' (by simp [exitTo,hk]))⟩
 | goto bU=>
  obtain ⟨rfl,Is⟩:=ab;obtain ⟨e₂,a₂,w₂,hq₂,harr₂⟩:=key m a₁ w₁ Is;exact ⟨e₂,a₂,w₂,hq₂,.of_steps (.head step_scope (kR _ az)) harr₂⟩
 | ret=>exact ⟨_,a₁,w₁,ab,.of_steps (.one step_scope) kR⟩
 | panic iv=>exact ⟨_,a₁,w₁,ab,.of_steps (.one step_scope) kR⟩
 | outgrown=>exact ⟨_,a₁,w₁,ab,.of_steps (.one step_scope) kR⟩
def Gv (l:Nat) (y8:ak→I→Prop) (Q:cw→ak→I→Prop):cw→ak→I→Prop
 | .goto bU,f,h=>bU=l∧y8 f h
 | e,f,h=>Q e f h
section
variable {l:Nat} {y8:ak→I→Prop} {Q:cw→ak→I→Prop} {f:ak} {h:I}
theorem Ax:Gv l y8 Q .ret f h=Q .ret f h:=nr rfl
theorem ajZ {j:Nat}:Gv l y8 Q (.goto j) f h=(j=l∧y8 f h):=nr rfl
end
theorem aZ.BP {P:Program} {n l:Nat} {c b:Code} {α:Type} (aw:findLabel c l=some (.seq .skip b)) {Q:cw→ak→I→Prop} {f:ak} {h:I} (y8:α→ak→I→Prop) (μ:α→Nat)
  (hμ:∀ x f h,y8 x f h→μ x<1000000000000000000000)
  (pass:∀ x f h,y8 x f h→aZ P n b (Gv l (fun bO h'=>@rN ⟨∃ y,y8 y bO h'∧μ y<μ x⟩) Q) f h)
  (first:(∀ x f h,y8 x f h→aZ P n b (Gv l (fun bO h'=>∃ y,y8 y bO h') Q) f h)→aZ P n c (Gv l (fun bO h'=>∃ y,y8 y bO h') Q) f h):aZ P n (.scope c) Q f h:=by
 have Nd:∀ x f h,y8 x f h→aZ P n b (Gv l (fun bO h'=>∃ y,y8 y bO h') Q) f h:=fun x f h ri=>(pass x f h ri).mono fun e bO h' ab=>by
  cases e with
  | goto bU=>exact ⟨ab.1,let ⟨y,bp,_⟩:=ab.2;⟨y,bp⟩⟩
  | _=>exact ab
 intro ρ B aJ a w hw av;have key:∀ m x f h,y8 x f h→μ x<m→∀ ρ1:Ren,ρ.le ρ1→∀ a w,aR ρ1 B aJ h w→eg ρ1 n f a→Nc P l (.seq .skip b) (lq n B aJ ρ Q) m a w:=by
  intro m
  induction m with
  | zero=>intro x f h _ hm;omega
  | succ m ih=>
   intro x f h H0 hm ρ1 hle a w hw av;refine wp_mono ((aZ.seq (.skip (pass x f h H0))) ρ1 B aJ a w hw av) fun e ig w' ⟨ρ',b0,bO,h',aj,bX,b8,fX,dz⟩=>?_;cases b0<;>cases e<;>simp only [ql] at aj
   ·exact ⟨ρ',.normal,bO,h',trivial,bX,b8,hle.trans fX,dz⟩
   ·exact ⟨ρ',.exit _,bO,h',aj,bX,b8,hle.trans fX,dz⟩
   ·obtain ⟨rfl,y,bp,aM⟩:=dz;exact ⟨aj.symm,ih y bO h' bp (by omega) ρ' (hle.trans fX) ig w' bX b8⟩
   ·exact ⟨ρ',.ret,bO,h',trivial,bX,b8,hle.trans fX,dz⟩
   ·exact ⟨ρ',.panic,bO,h',aj,bX,b8,hle.trans fX,dz⟩
 refine ajY aw 1000000000000000000000 (wp_mono (first Nd ρ B aJ a w hw av) fun e ig w' ⟨ρ',x,bO,h',aj,bX,b8,fX,dz⟩=>?_)
 cases x<;>cases e<;>simp only [ql] at aj
 ·exact ⟨ρ',.normal,bO,h',trivial,bX,b8,fX,dz⟩
 ·exact ⟨ρ',.exit _,bO,h',aj,bX,b8,fX,dz⟩
 ·obtain ⟨rfl,y,bp⟩:=dz;exact ⟨aj.symm,key _ y bO h' bp (hμ y bO h' bp) ρ' fX ig w' bX b8⟩
 ·exact ⟨ρ',.ret,bO,h',trivial,bX,b8,fX,dz⟩
 ·exact ⟨ρ',.panic,bO,h',aj,bX,b8,fX,dz⟩
def DD {α:Type} (b:α→Nat):List α→Nat
 | []=>0
 | x::r=>b x+DD b r
structure aj0 {H:Type} (b:DataW H→Nat):Prop where
 lit:∀ l,1≤b (.lit l)
 str:∀ ao:List UInt8,ao.length+1≤b (.lit (.string ao))
 nil:1≤b .nil
 slice:∀ es sp,DD b es+1≤b (.slice es sp)
 agg:∀ ps,DD b ps+1≤b (.agg ps)
section
variable {H:Type} {aj1:DataW H→Nat} (W0:aj0 aj1)
include W0
variable {enc:TypeId×Value→H} {P:Program} {w:World} {base:Nat} {spare:Nat→Bool} {held:Bool}
end
section
variable {H:Type} {enc:TypeId×Value→H} {P:Program} {w:World} {base:Nat} {spare:Nat→Bool} {held:Bool}
end
theorem Acc.step {aK h h':I} {e:TypeId} {sz:Nat} {s r:V} {cs cs':List V} (a:Acc aK h e sz s cs) (o:Own h' e sz r cs') (k:J h h' (a6 s)) (d:dm h s r):Acc aK h' e sz r cs' :=
 ⟨o,a.ai.trans k fun j aV hi=>by have:=a.new j hi;omega,fun j aV=>by
  rcases d with d | d
  ·exact a.new j (d ▸ aV)
  ·exact OF a.ai.n (d j aV)⟩
theorem Acc.on {aK h h':I} {e:TypeId} {sz:Nat} {s:V} {cs:List V} (a:Acc aK h e sz s cs) (k:J h h' none_):Acc aK h' e sz s cs :=
 ⟨a.own.br k,a.ai.trans' k,a.new⟩
theorem Acc.conv {aK h:I} {e:TypeId} {sz:Nat} {s:V} {cs cs':List V} (a:Acc aK h e sz s cs) (ay:cs=cs'):Acc aK h e sz s cs':=ay ▸ a
theorem Pure.acc {P:Program} {bG:FuncId} {args:List V} {h:I} {e:TypeId} {sz n:Nat} {cs:List V} (qq:a1 cs) (aG:cs.length=n * sz) (bo:0<sz)
  (ay:af P bG args h fun r h'=>Acc h h' e sz r cs):Pure P bG args h (.ah n cs) :=
 Pure.of (a7.ah qq) (ay.mono fun r h' a=>a.cast aG bo)
section
variable {P:Program} {f:ak} {h:I}
theorem ij {t:Tmp}:oR P f h (.tmp t)=some (f t):=rfl
theorem fB {a:Tmp} {t:TypeId}:oR P f h (.cell a t)=xh P t (f a) h:=rfl
def DE (x y:Option V):Option V:=match x,y with | some a,some b=>some (.tuple [a,b]) | _,_=>none
def DF (x y z:Option V):Option V:=match x,y,z with | some a,some b,some c=>some (.tuple [a,b,c]) | _,_,_=>none
theorem ix {a b:V}:DE (some a) (some b)=some (.tuple [a,b]):=rfl
theorem Nf {a b c:V}:DF (some a) (some b) (some c)=some (.tuple [a,b,c]):=rfl
theorem vH {r:ResultVar}:qn P [r] f h=oR P f h r:=rfl
theorem iy {r s:ResultVar}:qn P [r,s] f h=DE (oR P f h r) (oR P f h s):=by
 cases aL:oR P f h r<;>cases aa:oR P f h s<;>simp [qn,DE,aL,aa]
theorem Ng {r s t:ResultVar}:qn P [r,s,t] f h=DF (oR P f h r) (oR P f h s) (oR P f h t):=by
 cases aL:oR P f h r<;>cases aa:oR P f h s<;>cases bE:oR P f h t<;>simp [qn,DF,aL,aa,bE]
end
def ar (l:List Int):List V:=l.map (V.int .i64)
def tG (l:List Bool):List V:=l.map V.bool
theorem gi (l:List Int):(ar l).length=l.length:=by simp [ar]
theorem aj2 (l:List Bool):(tG l).length=l.length:=by simp [tG]
theorem wV (l:List Int):a1 (ar l):=a1.map fun _ _=>a7.int _ _
theorem aj3 (l:List Bool):a1 (tG l):=a1.map fun _ _=>a7.bool _
theorem It (l:List Int):(ar l).all (·.one)=true:=by
 rw [avh];intro x aj;obtain ⟨n,_,rfl⟩:=List.mem_map.1 aj;rfl
theorem RO (a b:List Int):ar (a++b)=ar a++ar b:=by simp [ar]
theorem RP {l:List Int} {k:Nat} (hk:k<l.length):(ar l)[k]'(by rw [gi];exact hk)=.int .i64 l[k]:=by simp [ar]
theorem Nh (l:List Int) (k:Nat) (x:Int):(ar l).set k (.int .i64 x)=ar (l.set k x):=by simp [ar,List.map_set]
theorem Ni {P:Program} {α:Type} (f:α→V) {l:List α} {k:Nat} (hk:k<l.length) {t:TypeId} {kk:IntKind} (aa:dF P t=some 1) :
  hG P t (.ah l.length (l.map f)) (.int kk (k:Int))=some (.at (f l[k]::(l.drop (k+1)).map f)):=by
 rw [Gu aa (by omega) (by omega) (by simp),avc,VU,←List.map_drop,avk hk]
 rfl
theorem tH {P:Program} {l:List Int} {k:Nat} (hk:k<l.length) {t:TypeId} {kk:IntKind} (aa:dF P t=some 1) :
  hG P t (.ah l.length (ar l)) (.int kk (k:Int))=some (.at (.int .i64 l[k]::ar (l.drop (k+1)))):=Ni _ hk aa
theorem RQ {P:Program} {l:List Bool} {k:Nat} (hk:k<l.length) {t:TypeId} {kk:IntKind} (aa:dF P t=some 1) :
  hG P t (.ah l.length (tG l)) (.int kk (k:Int))=some (.at (.bool l[k]::tG (l.drop (k+1)))):=Ni _ hk aa
theorem sU {i n:Nat} (h:i<n) (aG:n≤2 ^ 62):IntKind.i64.wrap ((i:Int)+1)=((i+1:Nat):Int):=by rw [Go.IntWalk.i64_in _ (by omega)];rfl
theorem aj4 {n:Nat} (h:n<2 ^ 63):IntKind.i64.wrap (n:Int)=(n:Int):=Go.IntWalk.i64_in _ (by omega)
theorem W1 {n:Nat} (h:n<2 ^ 64):IntKind.u64.wrap (n:Int)=(n:Int):=by rw [IntKind.wrap_u64];omega
theorem wf_u16 {a:Int} (h:(Lit.int .u16 a).wf=true):∃ n:Nat,a=n∧n<65536:=by
 simp only [Lit.wf,VW,decide_eq_true_eq] at h;have h1:IntKind.u16.min=0:=rfl;have ad:IntKind.u16.max=65535:=rfl;exact ⟨a.toNat,by omega,by omega⟩
theorem aA.hL (h:I):aA .ag h (.ah 0 []) h:=fun ρ B aJ w c0 hw aH=>by
 cases aH;exact ⟨ρ,Ren.le.refl ρ,hw,.gg none 0 (by simp)⟩
theorem Pure.args {P:Program} {bG:FuncId} {args o4:List V} {h:I} {v:V} (ay:aq args h o4 h) (aU:Pure P bG o4 h v):Pure P bG args h v:=af.args ay aU
theorem aq.skip {v:V} {l ez:List V} {h:I} (b:aq l h ez h):aq (v::l) h (v::ez) h:=aq.cons (aA.refl v h) b
theorem aq.last {v v2:V} {h:I} (a:aA v h v2 h):aq [v] h [v2] h:=aq.cons a (aq.refl [] h)
theorem Own.eZ {h:I} {e:TypeId} {sz:Nat} (c:List V) (n:Nat) (ay:c.length=n * sz) (hu:n<cj):Own (h.push (.cells c e none)) e sz (.bj h.n 0 n n) c:=by
 have aN:=Own.fresh (h:=h) (e:=e) c n n ay (BY _) hu;rwa [←ay,avT] at aN
def iY:V→Option Nat
 | .ptr i _=>some i
 | .bj i _ _ _=>some i
 | .map i=>some i
 | _=>none
def pW (bz:Operand→V):Op→Option Nat
 | .load _ a=>iY (bz a)
 | .lookup _ m _ _=>iY (bz m)
 | .convert _ _ x=>iY (bz x)
 | .call ⟨.builtin .len,args,_⟩=>(args.toList.map bz).head?.bind iY
 | _=>none
def m8:Op→Bool
 | .entry _=>false
 | .call ⟨.builtin .len,args,ts⟩=>args.size==1&&ts.size==1
 | o=>nV o
def DG (h:I):Prop:=∀ j,h.n≤j→h.get j=.dead
theorem aR.wf {ρ:Ren} {B:Nat} {aJ w:World} {h:I} (R:aR ρ B aJ h w):DG h:=fun j aV=>by
 have bf:=R.heap.lh j aV;have aN:=R.heap.obj j;cases az:h.get j with
 | dead=>rfl
 | cells c e ex=>rw [az] at aN;obtain ⟨b,bA,arr,aL,_⟩:=aN;rw [bf] at aL;cases aL
 | map es c=>rw [az] at aN;obtain ⟨b,bA,arr,aL,_⟩:=aN;rw [bf] at aL;cases aL
 | iter m s l st=>rw [az] at aN;obtain ⟨b,bA,bm,yP,aL,_⟩:=aN;rw [bf] at aL;cases aL
 | jx b mk vs=>rw [az] at aN;obtain ⟨bA,arr,aL,_⟩:=aN;rw [bf] at aL;cases aL
section
variable {P:Program} {h h':I} {M:Nat→Prop}
theorem J.live (hw:DG h) (hk:J h h' M) {i:Nat} (hm:¬M i) (bf:h.get i≠.dead):h'.get i=h.get i:=by
 rcases awr i h.n with aM | pQ
 ·exact hk.get i aM hm
 ·exact absurd (hw i pQ) bf
theorem aj5 (hk:J h h' M) (f:ak) (x:Operand):f.eval h' x=f.eval h x:=by
 cases x<;>simp [ak.eval,hk.glob]
theorem AI (hw:DG h) (hk:J h h' M) {x:V} (hm:∀ i,iY x=some i→¬M i) {cs:List V} (aU:rb h x=some cs):rb h' x=some cs:=by
 cases x<;>simp [rb] at aU⊢
 case ptr i o=>
  have bf:h.get i≠.dead:=fun U=>by rw [U] at aU;simp at aU
  rw [hk.live hw (hm i rfl) bf];exact aU
 case «at» cs'=>exact aU
theorem aj6 (hw:DG h) (hk:J h h' M) {t:TypeId} {x:V} (hm:∀ i,iY x=some i→¬M i) {v:V} (aw:xh P t x h=some v):xh P t x h'=some v:=by
 rw [Wt] at aw⊢;cases aU:rb h x with
 | none=>rw [aU] at aw;unfold cO at aw;split at aw<;>simp_all
 | some cs=>rw [aU] at aw;rw [AI hw hk hm aU];exact aw
theorem aj7 {t:TypeId} {m k:V} {ok:Bool} (e:∀ i,iY m=some i→h'.get i=h.get i):nj P t m k ok h'=nj P t m k ok h:=by
 unfold nj;cases eL P t with
 | none=>rfl
 | some q=>
  obtain ⟨c4,h3,d⟩:=q;simp only;split
  ·rfl
  ·rw [e _ rfl]
  ·rfl
theorem aj8 {s d:TypeId} {x:V} (e:∀ i,iY x=some i→h'.get i=h.get i):re P s d x h'=re P s d x h:=by
 unfold re;cases (nS x).bind fun a=>ey P (convert s d a) with
 | some v=>rfl
 | none=>
  simp only;split
  ·rfl
  ·rw [e _ rfl]
  ·rfl
  ·rfl
theorem aj9 {t:TypeId} {x:V} (e:∀ i,iY x=some i→h'.get i=h.get i):dS P t x h'=dS P t x h:=by
 unfold dS;split
 all_goals first | rfl | rw [e _ rfl]
theorem aka {t:TypeId} {m k:V} {ok:Bool} (bf:∀ i,iY m=some i→h.get i=.dead) {v:V} (aw:nj P t m k ok h=some v):nj P t m k ok h'=some v:=by
 unfold nj at aw⊢;cases ab:eL P t with
 | none=>rw [ab] at aw;cases aw
 | some q=>
  rw [ab] at aw;obtain ⟨c4,h3,d⟩:=q;simp only at aw⊢;split at aw
  ·exact aw
  ·rw [bf _ rfl] at aw;cases aw
  ·cases aw
theorem akb {s d:TypeId} {x:V} (bf:∀ i,iY x=some i→h.get i=.dead) {v:V} (aw:re P s d x h=some v):re P s d x h'=some v:=by
 unfold re at aw⊢;cases ab:(nS x).bind fun a=>ey P (convert s d a) with
 | some u=>rw [ab] at aw;exact aw
 | none=>
  rw [ab] at aw;simp only at aw⊢;split at aw
  ·exact aw
  ·split at aw
   ·rw [bf _ rfl] at aw;cases aw
   ·cases aw
  ·exact aw
  ·cases aw
theorem akc {t:TypeId} {x:V} (bf:∀ i,iY x=some i→h.get i=.dead) {v:V} (aw:dS P t x h=some v):dS P t x h'=some v:=by
 unfold dS at aw⊢;split at aw
 all_goals first | exact aw | (rw [bf _ rfl] at aw;cases aw) | skip
 all_goals (cases aw;done)
theorem RR (hw:DG h) (hk:J h h' M) {x:V} (hm:∀ i,iY x=some i→¬M i):(∀ i,iY x=some i→h'.get i=h.get i)∨(∀ i,iY x=some i→h.get i=.dead):=by
 cases aj:iY x with
 | none=>left;intro i hi;cases hi
 | some j=>
  by_cases bf:h.get j=.dead
  ·right;intro i hi;simp at hi;subst hi;exact bf
  ·left;intro i hi;simp at hi;subst hi;exact hk.live hw (hm j aj) bf
theorem akd {c:Call} (h:m8 (.call c)=true):c.callee=.builtin .len∨c.callee=.builtin .min∨c.callee=.builtin .max:=by
 obtain ⟨callee,args,ts⟩:=c;cases callee with
 | builtin b=>cases b<;>simp [m8,nV] at h⊢
 | _=>simp [m8,nV] at h
theorem EQ (hw:DG h) (hk:J h h' M) {o:Oper} {bz:Operand→V} (hi:m8 o.op=true) (hm:∀ i,pW bz o.op=some i→¬M i) {v:V} (he:ej P o bz h=some (.val v h)):ej P o bz h'=some (.val v h'):=by
 have xN:∀ {x y:Option V},gS x h=some (.val v h)→(∀ u,x=some u→y=some u)→gS y h'=some (.val v h'):=fun {x y} aj bp=>by
  obtain ⟨aC,_⟩:=tE aj;rw [bp _ aC];rfl
 obtain ⟨dst,op,type,pos,after,guard⟩:=o;have Pr:=hi;cases op<;>simp [m8,nV] at hi<;>simp only [ej] at he⊢
 case move x=>simp at he;rw [he]
 case assign x=>simp at he;rw [he]
 case pick c a b=>split at he<;>simp at he⊢;exact he
 case nilCheck x=>split at he<;>simp at he⊢<;>exact he
 case makeInterface t x=>split at he<;>simp at he⊢;exact he
 case makeFunc fn xs ys=>simp at he⊢;exact he
 case extract t k=>
  split at he
  ·exact xN he fun _ h=>h
  ·cases he
 case load t a=>exact xN he fun u hu=>aj6 hw hk hm hu
 case lookup t m k ok=>
  refine xN he fun u hu=>?_;rcases RR hw hk hm with e | e
  ·rw [aj7 e];exact hu
  ·exact aka e hu
 case convert s d x=>
  cases ay:re P s d (bz x) h with
  | none=>
   rw [ay] at he;cases ab:yW P s d (bz x) h with
   | none=>rw [ab] at he;cases he
   | some p=>
    obtain ⟨u,ad⟩:=p;rw [ab] at he;have aD:ad=h:=by
     have:some (Step.val u ad)=some (Step.val v h):=he;simp only [Option.some.injEq,Step.val.injEq] at this;exact this.2
    exact absurd aD (agw ab)
  | some u=>
   rw [ay] at he;have hu:re P s d (bz x) h'=some u:=by
    rcases RR hw hk hm with e | e
    ·rw [aj8 e];exact ay
    ·exact akb e ay
   rw [hu];have:some (Step.val u h)=some (Step.val v h):=he;simp only [Option.some.injEq,Step.val.injEq] at this;rw [this.1]
 case call c=>
  have al:=akd Pr;have other:∀ b,(b=.min∨b=.max)→c.callee=.builtin b→kP P c type bz h'=some (.val v h'):=fun b wk ay=>by
   have aP:∀ U:I,qj P b c.argTypes.toList type (xx c.args) (c.args.toList.map bz) U=(match jA (c.args.toList.map bz) with
     | some as=>match ey P (builtin b c.argTypes.toList.toArray type (xx c.args) as.toArray) with
      | some (.value v)=>some (gv v,U)
      | _=>none
     | none=>none):=fun U=>by
    rcases wk with rfl | rfl<;>rfl
   have eX:∀ U:I,kP P c type bz U=(match qj P b c.argTypes.toList type (xx c.args) (c.args.toList.map bz) U with | some (v,h')=>some (.val v h') | none=>none):=fun U=>by
    unfold kP;rw [ay];rcases wk with rfl | rfl<;>rfl
   rw [eX,aP] at he⊢;cases av:jA (c.args.toList.map bz) with
   | none=>rw [av] at he;cases he
   | some as=>
    rw [av] at he;simp only at he⊢;split at he
    ·rename_i v' ad ab;split at ab
     ·simp at ab he;obtain ⟨rfl,rfl⟩:=ab;rw [he.1]
     ·cases ab
    ·cases he
  rcases al with al | al | al
  ·obtain ⟨callee,args,W2⟩:=c;simp only at al;subst al;have aa:(args.size==1&&W2.size==1)=true:=Pr;simp at aa;obtain ⟨x,rfl⟩:=aAH.1 aa.1;obtain ⟨t,rfl⟩:=aAH.1 aa.2;have eX:∀ U:I,kP P ⟨.builtin .len,#[x],#[t]⟩ type bz U=(match dS P t (bz x) U with | some v=>some (.val v U) | none=>none):=fun U=>by
    show (match (match dS P t (bz x) U with | some v=>some (v,U) | none=>none) with | some (v,h')=>some (Step.val v h') | none=>none)=_
    cases dS P t (bz x) U<;>rfl
   rw [eX] at he⊢;have gF:∀ i,iY (bz x)=some i→¬M i:=fun i aj=>hm i (by simp [pW,aj])
   cases hu:dS P t (bz x) h with
   | none=>rw [hu] at he;cases he
   | some u=>
    rw [hu] at he;simp at he;subst he;have aG:dS P t (bz x) h'=some u:=by
     rcases RR hw hk gF with e | e
     ·rw [aj9 e];exact hu
     ·exact akc e hu
    rw [aG]
  ·exact other _ (.inl rfl) al
  ·exact other _ (.inr rfl) al
 all_goals exact xN he fun _ h=>h
end
def xO (P:Program) (ops:Array Oper) (M:Nat→Prop) (aa:I) (o:Oper) (f:ak) (v:V):Prop:=∀ h',J aa h' M→gp P ops.toList h' o v f
def Iu (ops:Array Oper) (es:List Nat) (listed:Array Bool) (i:Nat):Bool:=es.all fun e=>listed.getD e true||oe ops ops.size e i
def RS (ops:Array Oper) (k:Nat):Bool:=(List.range ops.size).all fun i=>i==k||oe ops ops.size k i||oe ops ops.size i k
def anyS (P:Program) (ops:Array Oper) (es:List Nat) (M:Nat→Prop) (aa:I) (K:ak→I→Prop) (X:I→Prop):Nat→Array Bool→ak→I→Prop
 | 0,listed,f,h=>Region.ready .any ops listed=[]∧K f h
 | n+1,listed,f,h=>(Region.ready .any ops listed=[]→K f h) ∧
  ∀ i ∈ Region.ready .any ops listed,∀ o,ops[i]?=some o →
   if es.contains i then (match hr ops.toList o.guard f with
    | some true=>hV P o (fun bO h'=>(RS ops i=true∨J aa h' M)∧anyS P ops es M aa K X n (listed.setIfInBounds i true) bO h') (fun _ h=>X h) f h
    | some false=>anyS P ops es M aa K X n (listed.setIfInBounds i true) (f.put o.dst (.tuple [])) h
    | none=>False)
   else ∃ v,((J aa h M∧xO P ops M aa o f v)∨(Iu ops es listed i=true∧gp P ops.toList h o v f))∧anyS P ops es M aa K X n (listed.setIfInBounds i true) (f.put o.dst v) h
theorem Iv {P:Program} {o:Oper} {K ux E HZ:ak→I→Prop} (hk:∀ f h,K f h→ux f h) {f:ak} {h:I} (he:∀ f h,E f h→HZ f h) (aa:hV P o K E f h):hV P o ux HZ f h:=by
 unfold hV at *;split at aa
 ·exact hk _ _ aa
 ·exact aa.mono (fun _ _ h=>hk _ _ h) fun _ h=>he _ _ h
 ·exact fun v h' hm=>hk _ _ (aa v h' hm)
 ·exact he _ _ aa
 ·exact aa.mono (fun _ _ h=>hk _ _ h)
 ·exact aa.elim
section
variable {P:Program} {ops:Array Oper} {es:List Nat} {M:Nat→Prop} {aa:I} {K E:ak→I→Prop} {X:I→Prop}
theorem Iw (fT:∀ f h,X h→E f h):∀ (n:Nat) (listed:Array Bool) (f:ak) (h:I),anyS P ops es M aa K X n listed f h→rW P ops es K E n listed f h
 | 0,_,_,_,ab=>ab
 | n+1,listed,f,h,ab=>by
  refine ⟨ab.1,fun i hi o aN=>?_⟩;have h1:=ab.2 i hi o aN;by_cases he:es.contains i=true
  ·rw [if_pos he] at h1⊢;cases hw:hr ops.toList o.guard f with
   | none=>rw [hw] at h1;exact h1
   | some b=>
    rw [hw] at h1;cases b with
    | true=>exact Iv (fun bO h' U=>Iw fT n _ bO h' U.2) (fun f h U=>fT f h U) h1
    | false=>exact Iw fT n _ _ _ h1
  ·rw [if_neg he] at h1⊢;obtain ⟨v,aH,aL⟩:=h1;refine ⟨v,?_,Iw fT n _ _ _ aL⟩;rcases aH with ⟨hk,c2⟩ | ⟨_,bp⟩
   ·exact c2 h hk
   ·exact bp
theorem ake {o:Oper} {dst:Option Tmp} {v:V} {f:ak} {h:I} {K ux:ak→I→Prop} (aw:∀ d,dst=some d→d ∉ o.looksAt ops) (ay:∀ d,dst=some d→o.dst≠some d)
  (hk:∀ r h',K ((f.put o.dst r).put dst v) h'→ux (f.put o.dst r) h') (aa:hV P o K (fun _ h=>X h) (f.put dst v) h):hV P o ux (fun _ h=>X h) f h:=by
 unfold hV at *;rw [RB o f dst v aw] at aa;split at aa
 ·exact hk _ _ (by rw [ak.put_comm f _ _ fun d bf aj=>ay d aj bf];exact aa)
 ·exact aa.mono (fun r h' U=>hk r h' (by rw [ak.put_comm f _ _ fun d bf aj=>ay d aj bf];exact U)) fun _ h=>h
 ·exact fun r h' hm=>hk r h' (by rw [ak.put_comm f _ _ fun d bf aj=>ay d aj bf];exact aa r h' hm)
 ·exact aa
 ·exact aa.mono (fun r h' U=>hk r h' (by rw [ak.put_comm f _ _ fun d bf aj=>ay d aj bf];exact U))
 ·exact aa
theorem RT {listed:Array Bool} (bf:Down ops listed) {i j:Nat} (aV:j ∈ Region.ready .any ops listed) (h:oe ops ops.size j i=true):listed.getD i false=true:=by
 obtain ⟨_,o,aN,dr⟩:=mem_ready.1 aV;exact RI bf ops.size j i (fun o' gY=>by
                           rw [aN] at gY;obtain rfl:o=o':=by simpa using gY
                           exact dr) h
theorem Nj {listed:Array Bool} {i:Nat} (hi:i ∈ Region.ready .any ops listed):listed.getD i false=false:=by
 have aK:=(mem_ready.1 hi).1;rcases awr i listed.size with h' | h'
 ·simp [h'] at aK⊢;exact aK
 ·simp [Array.getElem?_eq_none h']
theorem RU {i:Nat} {lX:Oper} {v:V} (hi:ops[i]?=some lX) (pT:es.contains i=false) :
  ∀ (fuel:Nat) (listed:Array Bool) (f:ak) (h:I),
   (∀ j gK,ops[j]?=some gK→j≠i→listed.getD j true=false→(∀ e ∈ gK.after,Region.binds .any e=true→e.on≠i)→lX.apart ops gK=true) →
   i ∈ Region.ready .any ops listed→Down ops listed→((J aa h M∧xO P ops M aa lX f v)∨(Iu ops es listed i=true∧gp P ops.toList h lX v f)) →
   anyS P ops es M aa K X fuel (listed.setIfInBounds i true) (f.put lX.dst v) h→anyS P ops es M aa K X (fuel+1) listed f h:=by
 intro fuel
 induction fuel with
 | zero=>
  intro listed f h _ aL hx bp H;refine ⟨fun h=>(by rw [h] at aL;cases aL),fun j aV o aN=>?_⟩
  by_cases cL:j=i
  ·subst cL;rw [hi] at aN;obtain rfl:lX=o:=by simpa using aN
   rw [pT];exact ⟨v,bp,H⟩
  ·have:=ready_mono aV cL;rw [H.1] at this;cases this
 | succ fuel ih=>
  intro listed f h kH aL hx bp H;refine ⟨fun h=>(by rw [h] at aL;cases aL),fun j aV gK nF=>?_⟩
  by_cases cL:j=i
  ·subst cL;rw [hi] at nF;obtain rfl:lX=gK:=by simpa using nF
   rw [pT];exact ⟨v,bp,H⟩
  ·have Ay:=H.2 j (ready_mono aV cL) gK nF;obtain ⟨rY,Ih,xH,dr⟩:=mem_ready.1 aV;rw [nF] at xH;obtain rfl:gK=Ih:=by simpa using xH
   have vF:∀ e ∈ gK.after,Region.binds .any e=true→e.on≠i:=fun e he al heq=>by
    have h1:=dr e he al;have aK:=Nj aL;rw [heq,aK] at h1;cases h1
   obtain ⟨cb,a2,a3⟩:=Oper.apart_spec (kH j gK nF cL rY vF);have uy:∀ k ok,ops[k]?=some ok→k≠i→(listed.setIfInBounds j true).getD k true=false →
     (∀ e ∈ ok.after,Region.binds .any e=true→e.on≠i)→lX.apart ops ok=true:=fun k ok hk o0 o3 eh=>by
    refine kH k ok hk o0 ?_ eh;by_cases BL:j=k
    ·subst BL;exact rY
    ·rw [getD_set_ne true BL] at o3;exact o3
   have nD:=ready_mono aL (Ne.symm cL);have xG:=hx.add aV;have pv:∀ (h':I) (r:V),J aa h' M→xO P ops M aa lX f v→anyS P ops es M aa K X fuel ((listed.setIfInBounds i true).setIfInBounds j true) ((f.put gK.dst r).put lX.dst v) h'→anyS P ops es M aa K X (fuel+1) (listed.setIfInBounds j true) (f.put gK.dst r) h':=fun h' r hk c2 U=>
    ih (listed.setIfInBounds j true) (f.put gK.dst r) h' uy nD xG (.inl ⟨hk,fun ad ba=>(c2 ad ba).put gK.dst r a3⟩) (by rw [ayr _ _ cL];exact U)
   by_cases BK:es.contains j=true
   ·rw [if_pos BK] at Ay⊢;have c2:J aa h M∧xO P ops M aa lX f v:=by
     rcases bp with bp | ⟨aN,_⟩
     ·exact bp
     ·exfalso;have h1:=(avh.1 aN) j (by simpa using BK)
      rw [rY,axQ] at h1;have:=RT hx aV h1;rw [Nj aL] at this;cases this
    rw [RC gK f lX.dst v cb] at Ay;cases hw:hr ops.toList gK.guard f with
    | none=>rw [hw] at Ay;exact Ay
    | some b=>
     rw [hw] at Ay;cases b with
     | true=>
      refine ake cb a2 (fun r h' U=>?_) Ay;have hk:J aa h' M:=by
       rcases U.1 with l8 | hk
       ·exfalso;have h1:=(avh.1 l8) i (by
         have:=(avl.1 hi).1;simpa using this)
        simp only [avY,beq_iff_eq] at h1;rcases h1 with (h1 | h1) | h1
        ·exact cL h1.symm
        ·have:=RT hx aV h1;rw [Nj aL] at this;cases this
        ·have:=RT hx aL h1;rw [Nj aV] at this;cases this
       ·exact hk
      exact ⟨.inr hk,pv h' r hk c2.2 U.2⟩
     | false=>
      refine pv h (.tuple []) c2.1 c2.2 ?_;rw [←ak.put_comm f v (.tuple []) a2];exact Ay
   ·rw [if_neg BK] at Ay⊢;obtain ⟨u,Ii,iw⟩:=Ay;refine ⟨u,?_,?_⟩
    ·rcases Ii with ⟨hk,c2⟩ | ⟨aN,Ix⟩
     ·exact .inl ⟨hk,fun ad ba=>(c2 ad ba).Au lX.dst v cb⟩
     ·refine .inr ⟨?_,Ix.Au lX.dst v cb⟩;refine avh.2 fun e he=>?_;have h1:=(avh.1 aN) e he;have W3:i≠e:=fun U=>by
       subst U;have:es.contains i=true:=by simpa using he
       rw [pT] at this;cases this
      rwa [getD_set_ne true W3] at h1
    ·have nG:((J aa h M∧xO P ops M aa lX (f.put gK.dst u) v)∨(Iu ops es (listed.setIfInBounds j true) i=true∧gp P ops.toList h lX v (f.put gK.dst u))):=by
      rcases bp with ⟨hk,c2⟩ | ⟨aN,Ix⟩
      ·exact .inl ⟨hk,fun ad ba=>(c2 ad ba).put gK.dst u a3⟩
      ·refine .inr ⟨avh.2 fun e he=>?_,Ix.put gK.dst u a3⟩;have h1:=(avh.1 aN) e he;simp only [avY] at h1⊢;rcases h1 with h1 | h1
       ·exact .inl (WM h1)
       ·exact .inr h1
     refine ih (listed.setIfInBounds j true) (f.put gK.dst u) h uy nD xG nG ?_;rw [ayr _ _ cL,←ak.put_comm f v u a2];exact iw
end
def RV:Op→Bool
 | .move _ | .assign _ | .pick .. | .build .. | .nilCheck _ | .binOp .. | .unOp .. | .makeInterface .. | .makeFunc .. | .slice .. | .fieldAddr .. | .field .. | .indexAddr .. | .index .. | .typeAssert .. | .extract ..=>true
 | _=>false
section
variable {P:Program} {h h':I}
theorem akf {o:Oper} {bz:Operand→V} (hi:RV o.op=true) {v:V} (he:ej P o bz h=some (.val v h)):ej P o bz h'=some (.val v h'):=by
 have xN:∀ {x:Option V},gS x h=some (.val v h)→gS x h'=some (.val v h'):=fun {x} aj=>by
  obtain ⟨aC,_⟩:=tE aj;rw [aC];rfl
 obtain ⟨dst,op,type,pos,after,guard⟩:=o;cases op<;>simp [RV] at hi<;>simp only [ej] at he⊢
 case move x=>simp at he;rw [he]
 case assign x=>simp at he;rw [he]
 case pick c a b=>split at he<;>simp at he⊢;exact he
 case nilCheck x=>split at he<;>simp at he⊢<;>exact he
 case makeInterface t x=>split at he<;>simp at he⊢;exact he
 case makeFunc fn xs ys=>simp at he⊢;exact he
 case extract t k=>
  split at he
  ·exact xN he
  ·cases he
 all_goals exact xN he
theorem akg {o:Oper} {bz:Operand→V} {g:FuncId} {args:List V} (he:ej P o bz h=some (.call g args)):ej P o bz h'=some (.call g args):=by
 obtain ⟨dst,op,type,pos,after,guard⟩:=o;have W4:∀ {x:Option V},gS x h≠some (.call g args):=fun {x} aj=>by obtain ⟨v,aH⟩:=RK aj;cases aH
 have Nk:∀ {x:Option (V×I)},fK x≠some (.call g args):=fun {x} aj=>by unfold fK at aj;split at aj<;>simp at aj
 have akh:∀ {x:Option I},rM x≠some (.call g args):=fun {x} aj=>by unfold rM at aj;split at aj<;>simp at aj
 cases op<;>simp only [ej] at he⊢
 case call c=>
  obtain ⟨callee,afQ,ts⟩:=c;unfold kP at he⊢;cases callee with
  | value f=>
   simp only at he⊢;split at he
   case h_2=>simp at he
   case h_3=>cases he
   split at he
   ·rename_i ay;rw [if_pos ay];exact he
   ·exfalso;split at he<;>simp at he
  | builtin b=>
   exfalso;cases b
   case panic=>simp only at he;split at he<;>simp at he
   all_goals
    simp only at he;split at he<;>simp at he
  | invoke r m=>exact he
 case next it s=>
  cases s
  ·simp only at he;split at he<;>simp at he
  ·cases he
 all_goals first
  | exact absurd he W4
  | exact absurd he Nk
  | exact absurd he akh
  | (simp at he;done)
  | (split at he<;>first | (simp at he;done) | exact absurd he W4 | exact absurd he Nk)
  | (cases he;done)
end
inductive dO where
 | done
 | stop
 | q (k:Nat) (s:dO)
 | c (k:Nat) (s:dO)
 | a (k:Nat) (s:dO)
 | e (k:Nat) (s alt:dO)
def dO.keys:dO→List Nat
 | .e k _ alt=>k::alt.keys
 | _=>[]
def dO.ok (ops:Array Oper) (es:List Nat):dO→Nat→Bool→Bool→Bool→Array Bool→Bool
 | .done,n,top,p,iM,listed=>top&&n==0&&(Region.ready .any ops listed).isEmpty
 | .stop,_,top,_,_,_=>!top
 | .q k s,n,top,p,iM,listed=>match n,ops[k]? with
  | n+1,some o=>top&&!es.contains k&&(Region.ready .any ops listed).contains k&&Region.free .any ops listed k&&m8 o.op&&((p&&iM)||(iM&&RV o.op)||Iu ops es listed k)&&s.ok ops es n true p iM (listed.setIfInBounds k true)
  | _,_=>false
 | .c k s,n,top,p,iM,listed=>match n,ops[k]? with
  | n+1,some o=>top&&!es.contains k&&(Region.ready .any ops listed).contains k&&Region.free .any ops listed k&&((p&&iM)||Iu ops es listed k)&&s.ok ops es n true p iM (listed.setIfInBounds k true)
  | _,_=>false
 | .a k s,n,top,p,iM,listed=>match n with
  | n+1=>top&&es.contains k&&Region.ready .any ops listed==[k]&&RS ops k&&s.ok ops es n true false false (listed.setIfInBounds k true)
  | 0=>false
 | .e k s alt,n,top,p,iM,listed=>match n with
  | n+1=>(!top||((Region.ready .any ops listed).contains k&&(Region.ready .any ops listed).all fun i=>(k::alt.keys).contains i))&&es.contains k&&s.ok ops es n true false true (listed.setIfInBounds k true)&&alt.ok ops es (n+1) false p iM listed
  | 0=>false
section
variable {P:Program} {ops:Array Oper} {es:List Nat} {M:Nat→Prop} {aa:I} {K:ak→I→Prop} {X:I→Prop}
def k3 (P:Program) (ol:List Oper) (M:Nat→Prop) (aa:I) (K:ak→I→Prop) (X:I→Prop):dO→Bool→ak→I→Prop
 | .done,_,f,h=>K f h
 | .stop,_,_,_=>True
 | .q k s,p,f,h=>match ol[k]? with
  | some o=>(match hr ol o.guard f with
   | some true=>∃ v,(ej P o (f.eval h) h=some (.val v h)∧(p=true→∀ i,pW (f.eval h) o.op=some i→¬M i))∧k3 P ol M aa K X s p (f.put o.dst v) h
   | some false=>k3 P ol M aa K X s p (f.put o.dst (.tuple [])) h
   | none=>False)
  | none=>False
 | .c k s,p,f,h=>match ol[k]? with
  | some o=>(match hr ol o.guard f with
   | some true=>∃ g args v,ej P o (f.eval h) h=some (.call g args)∧(∀ h',J aa h' M∨h'=h→Pure P g args h' v)∧k3 P ol M aa K X s p (f.put o.dst v) h
   | some false=>k3 P ol M aa K X s p (f.put o.dst (.tuple [])) h
   | none=>False)
  | none=>False
 | .a k s,p,f,h=>match ol[k]? with
  | some o=>(match hr ol o.guard f with
   | some true=>hV P o (fun bO h'=>k3 P ol M aa K X s false bO h') (fun _ h=>X h) f h
   | some false=>k3 P ol M aa K X s false (f.put o.dst (.tuple [])) h
   | none=>False)
  | none=>False
 | .e k s alt,p,f,h=>(match ol[k]? with
  | some o=>(match hr ol o.guard f with
   | some true=>hV P o (fun bO h'=>J aa h' M∧k3 P ol M aa K X s false bO h') (fun _ h=>X h) f h
   | some false=>J aa h M∧k3 P ol M aa K X s false (f.put o.dst (.tuple [])) h
   | none=>False)
  | none=>False)∧k3 P ol M aa K X alt p f h
def Clause (P:Program) (ops:Array Oper) (es:List Nat) (M:Nat→Prop) (aa:I) (K:ak→I→Prop) (X:I→Prop) (n:Nat) (listed:Array Bool) (f:ak) (h:I) (i:Nat):Prop :=
 ∀ o,ops[i]?=some o→(match hr ops.toList o.guard f with
    | some true=>hV P o (fun bO h'=>(RS ops i=true∨J aa h' M)∧anyS P ops es M aa K X n (listed.setIfInBounds i true) bO h') (fun _ h=>X h) f h
    | some false=>anyS P ops es M aa K X n (listed.setIfInBounds i true) (f.put o.dst (.tuple [])) h
    | none=>False)
theorem Nl {l:List Nat} {k:Nat} (h:l.contains k=true):k ∈ l:=by simpa using h
theorem Nn {h':I} (hk:J aa h' M) (f:ak):f.eval h'=f.eval aa:=funext fun x=>aj5 hk f x
theorem W5 (q1:DG aa):∀ (s:dO) (n:Nat) (p iM:Bool) (listed:Array Bool) (f:ak) (h:I),(p=true→h=aa)→(iM=true→J aa h M)→Down ops listed→k3 P ops.toList M aa K X s p f h →
  (s.ok ops es n true p iM listed=true→anyS P ops es M aa K X n listed f h) ∧
  (∀ m,n=m+1→s.ok ops es n false p iM listed=true→∀ i ∈ s.keys,i ∈ Region.ready .any ops listed→es.contains i=true∧Clause P ops es M aa K X m listed f h i):=by
 intro s
 induction s with
 | done=>
  intro n p iM listed f h aU o5 hx he;refine ⟨fun aY=>?_,fun m hm aY=>by simp [dO.ok] at aY⟩
  simp only [dO.ok,avR,VW,beq_iff_eq,List.isEmpty_iff] at aY;obtain ⟨rfl,aL⟩:=aY;exact ⟨aL,he⟩
 | stop=>
  intro n p iM listed f h aU o5 hx he;exact ⟨fun aY=>by simp [dO.ok] at aY,fun m hm aY i hi=>by simp [dO.keys] at hi⟩
 | q k s ih=>
  intro n p iM listed f h aU o5 hx he;refine ⟨fun aY=>?_,fun m hm aY i hi=>by simp [dO.keys] at hi⟩
  cases n with
  | zero=>simp [dO.ok] at aY
  | succ n=>
   cases aN:ops[k]? with
   | none=>simp [dO.ok,aN] at aY
   | some o=>
    simp only [dO.ok,aN,avR,VW,awT] at aY;obtain ⟨⟨⟨⟨⟨gn,aL⟩,jF⟩,dk⟩,zB⟩,fs⟩:=aY;have gJ:=Nl aL;have ly:ops.toList[k]?=some o:=by simpa using aN
    simp only [k3,ly] at he;have fin:∀ v,gp P ops.toList h o v f→(hr ops.toList o.guard f=some false∨(p=true→∀ i,pW (f.eval h) o.op=some i→¬M i)∧ej P o (f.eval h) h=some (.val v h))→k3 P ops.toList M aa K X s p (f.put o.dst v) h→anyS P ops es M aa K X (n+1) listed f h:=fun v bp hm iw=>by
     refine RU aN gn n listed f h (Region.free_spec aN jF) gJ hx ?_ ((ih n p iM _ _ h aU o5 (hx.add gJ) iw).1 fs);simp only [avY,VW] at zB;rcases zB with (⟨BQ,hv⟩ | ⟨hv,W6⟩) | pw
     ·refine .inl ⟨o5 hv,fun h' eJ=>?_⟩;have U:=aU BQ;subst U;rcases hm with hm | ⟨hm,b5⟩
      ·rcases bp with ⟨uB,_⟩ | bp
       ·rw [hm] at uB;cases uB
       ·exact .inr bp
      ·rcases bp with ⟨uB,_⟩ | bp
       ·exact .inl ⟨uB,.inl (by rw [Nn eJ];exact EQ q1 eJ dk (hm BQ) b5)⟩
       ·exact .inr bp
     ·refine .inl ⟨o5 hv,fun h' eJ=>?_⟩;rcases hm with hm | ⟨hm,b5⟩
      ·rcases bp with ⟨uB,_⟩ | bp
       ·rw [hm] at uB;cases uB
       ·exact .inr bp
      ·rcases bp with ⟨uB,_⟩ | bp
       ·exact .inl ⟨uB,.inl (by rw [Nn eJ,←Nn (o5 hv)];exact akf W6 b5)⟩
       ·exact .inr bp
     ·exact .inr ⟨pw,bp⟩
    cases hw:hr ops.toList o.guard f with
    | none=>rw [hw] at he;exact he.elim
    | some b=>
     rw [hw] at he;cases b with
     | true=>
      obtain ⟨v,⟨b5,hm⟩,iw⟩:=he;exact fin v (.inl ⟨hw,.inl b5⟩) (.inr ⟨hm,b5⟩) iw
     | false=>exact fin (.tuple []) (.inr ⟨hw,rfl⟩) (.inl hw) he
 | c k s ih=>
  intro n p iM listed f h aU o5 hx he;refine ⟨fun aY=>?_,fun m hm aY i hi=>by simp [dO.keys] at hi⟩
  cases n with
  | zero=>simp [dO.ok] at aY
  | succ n=>
   cases aN:ops[k]? with
   | none=>simp [dO.ok,aN] at aY
   | some o=>
    simp only [dO.ok,aN,avR,VW,awT] at aY;obtain ⟨⟨⟨⟨gn,aL⟩,jF⟩,zB⟩,fs⟩:=aY;have gJ:=Nl aL;have ly:ops.toList[k]?=some o:=by simpa using aN
    simp only [k3,ly] at he;simp only [avY,VW] at zB;cases hw:hr ops.toList o.guard f with
    | none=>rw [hw] at he;exact he.elim
    | some b=>
     rw [hw] at he;cases b with
     | true=>
      obtain ⟨g,args,v,b5,Ps,iw⟩:=he;refine RU (v:=v) aN gn n listed f h (Region.free_spec aN jF) gJ hx ?_ ((ih n p iM _ _ h aU o5 (hx.add gJ) iw).1 fs);rcases zB with ⟨BQ,hv⟩ | pw
      ·refine .inl ⟨o5 hv,fun h' eJ=>.inl ⟨hw,.inr ⟨g,args,?_,Ps h' (.inl eJ)⟩⟩⟩;have U:=aU BQ;subst U;rw [Nn eJ];exact akg b5
      ·exact .inr ⟨pw,.inl ⟨hw,.inr ⟨g,args,b5,Ps h (.inr rfl)⟩⟩⟩
     | false=>
      refine RU (v:=.tuple []) aN gn n listed f h (Region.free_spec aN jF) gJ hx ?_ ((ih n p iM _ _ h aU o5 (hx.add gJ) he).1 fs);rcases zB with ⟨BQ,hv⟩ | pw
      ·exact .inl ⟨o5 hv,fun h' eJ=>.inr ⟨hw,rfl⟩⟩
      ·exact .inr ⟨pw,.inr ⟨hw,rfl⟩⟩
 | a k s ih=>
  intro n p iM listed f h aU o5 hx he;refine ⟨fun aY=>?_,fun m hm aY i hi=>by simp [dO.keys] at hi⟩
  cases n with
  | zero=>simp [dO.ok] at aY
  | succ n=>
   simp only [dO.ok,avR,VW,beq_iff_eq] at aY;obtain ⟨⟨⟨gn,aL⟩,l8⟩,fs⟩:=aY;have gJ:k ∈ Region.ready .any ops listed:=by rw [aL];simp
   refine ⟨fun aK=>(by rw [aK] at aL;cases aL),fun i hi o aN=>?_⟩
   rw [aL] at hi;simp at hi;subst hi;rw [if_pos gn];have ly:ops.toList[i]?=some o:=by simpa using aN
   simp only [k3,ly] at he;cases hw:hr ops.toList o.guard f with
   | none=>rw [hw] at he;exact he.elim
   | some b=>
    rw [hw] at he;cases b with
    | true=>exact Iv (fun bO h' U=>⟨.inl l8,(ih n false false _ _ h' (by simp) (by simp) (hx.add gJ) U).1 fs⟩) (fun _ _ h=>h) he
    | false=>exact (ih n false false _ _ h (by simp) (by simp) (hx.add gJ) he).1 fs
 | e k s alt BR Iy=>
  intro n p iM listed f h aU o5 hx he;have main:∀ (m:Nat) (top:Bool),n=m+1→(dO.e k s alt).ok ops es n top p iM listed=true→∀ i ∈ (dO.e k s alt).keys,i ∈ Region.ready .any ops listed→es.contains i=true∧Clause P ops es M aa K X m listed f h i:=by
   intro m top aG aY i hi Iz;subst aG;simp only [dO.ok,VW] at aY;obtain ⟨⟨⟨_,gn⟩,fs⟩,halt⟩:=aY;simp only [k3] at he;simp only [dO.keys,List.mem_cons] at hi;by_cases Pt:i=k
   ·subst Pt;refine ⟨gn,fun o aN=>?_⟩;have ly:ops.toList[i]?=some o:=by simpa using aN
    have h1:=he.1;rw [ly] at h1;simp only at h1;cases hw:hr ops.toList o.guard f with
    | none=>rw [hw] at h1;exact h1.elim
    | some b=>
     rw [hw] at h1;cases b with
     | true=>exact Iv (fun bO h' U=>⟨.inr U.1,(BR m false true _ _ h' (by simp) (fun _=>U.1) (hx.add Iz) U.2).1 fs⟩) (fun _ _ h=>h) h1
     | false=>exact (BR m false true _ _ h (by simp) (fun _=>h1.1) (hx.add Iz) h1.2).1 fs
   ·rcases hi with hi | hi
    ·exact absurd hi Pt
    ·exact (Iy (m+1) p iM listed f h aU o5 hx he.2).2 m rfl halt i hi Iz
  refine ⟨fun aY=>?_,fun m hm aY=>main m false hm aY⟩;cases n with
  | zero=>simp [dO.ok] at aY
  | succ m=>
   have IA:(Region.ready .any ops listed).all (fun i=>(k::alt.keys).contains i)=true∧(Region.ready .any ops listed).contains k=true:=by
    simp only [dO.ok,VW,Bool.not_true,axQ] at aY;exact ⟨aY.1.1.1.2,aY.1.1.1.1⟩
   have cU:∀ i ∈ Region.ready .any ops listed,i ∈ (dO.e k s alt).keys:=fun i hi=>by
    have:=(avh.1 IA.1) i hi;exact Nl this
   refine ⟨fun aK=>?_,fun i hi o aN=>?_⟩
   ·have:=Nl IA.2;rw [aK] at this;cases this
   ·obtain ⟨h1,ad⟩:=main m true rfl aY i (cU i hi) hi;rw [if_pos h1];exact ad o aN
end
def l9 (M:Nat→Prop) (r:Option Nat):Prop:=∀ i,r=some i→¬M i
theorem aki {r:Option Nat}:l9 none_ r=True:=eq_true fun _ _ h=>h
theorem akj {o:Op} (h:m8 o=true):nV o=true:=by
 cases o
 case entry=>simp [m8] at h
 case call c=>
  obtain ⟨callee,args,ts⟩:=c;cases callee with
  | builtin b=>cases b<;>simp [m8,nV] at h⊢
  | _=>simp [m8,nV] at h
 all_goals exact h
def fY (P:Program) (ol:List Oper) (M:Nat→Prop) (aa:I) (K:e7):dO→Bool→ak→I→Prop
 | .done,_,f,h=>@jm K f h
 | .stop,_,_,_=>True
 | .q k s,p,f,h=>match ol[k]? with
  | some o=>(p=true→l9 M (pW (f.eval h) o.op))∧@rf P ol [o] ⟨h⟩ (.fn (fun bO _=>fY P ol M aa K s p bO h) (fun _ _=>False)) f
  | none=>False
 | .c k s,p,f,h=>match ol[k]? with
  | some o=>(match hr ol o.guard f with
   | some true=>∃ g args v,ej P o (f.eval h) h=some (.call g args)∧(∀ h',J aa h' M∨h'=h→Pure P g args h' v)∧fY P ol M aa K s p (f.put o.dst v) h
   | some false=>fY P ol M aa K s p (f.put o.dst (.tuple [])) h
   | none=>False)
  | none=>False
 | .a k s,p,f,h=>match ol[k]? with
  | some o=>@hJ P ol [o] (.fn (fun bO h'=>fY P ol M aa K s false bO h') (fun _ h'=>∀ f,e7.exc K f h')) f h
  | none=>False
 | .e k s alt,p,f,h=>(match ol[k]? with
  | some o=>@hJ P ol [o] (.fn (fun bO h'=>J aa h' M∧fY P ol M aa K s false bO h') (fun _ h'=>∀ f,e7.exc K f h')) f h
  | none=>False)∧fY P ol M aa K alt p f h
section
variable {P:Program} {ol:List Oper} {M:Nat→Prop} {aa h:I} {K:e7} {f:ak} {k:Nat} {s alt:dO} {p:Bool} {o:Oper}
def IB (P:Program) (ol:List Oper) (M:Nat→Prop) (aa:I) (K:e7) (s:dO) (p:Bool) (f:ak) (h:I):Option Oper→Prop
 | some o=>(p=true→l9 M (pW (f.eval h) o.op))∧@rf P ol [o] ⟨h⟩ (.fn (fun bO _=>fY P ol M aa K s p bO h) (fun _ _=>False)) f
 | none=>False
def IC (P:Program) (ol:List Oper) (M:Nat→Prop) (aa:I) (K:e7) (s:dO) (f:ak) (h:I):Option Oper→Prop
 | some o=>@hJ P ol [o] (.fn (fun bO h'=>fY P ol M aa K s false bO h') (fun _ h'=>∀ f,e7.exc K f h')) f h
 | none=>False
def ID (P:Program) (ol:List Oper) (M:Nat→Prop) (aa:I) (K:e7) (s:dO) (f:ak) (h:I):Option Oper→Prop
 | some o=>@hJ P ol [o] (.fn (fun bO h'=>J aa h' M∧fY P ol M aa K s false bO h') (fun _ h'=>∀ f,e7.exc K f h')) f h
 | none=>False
theorem akk:fY P ol M aa K .done p f h=@jm K f h:=nr rfl
theorem akl:fY P ol M aa K .stop p f h=True:=nr rfl
theorem akm:fY P ol M aa K (.q k s) p f h=IB P ol M aa K s p f h ol[k]?:=by
 unfold fY IB;cases ol[k]?<;>rfl
theorem akn:fY P ol M aa K (.a k s) p f h=IC P ol M aa K s f h ol[k]?:=by
 unfold fY IC;cases ol[k]?<;>rfl
theorem ako:fY P ol M aa K (.e k s alt) p f h=(ID P ol M aa K s f h ol[k]?∧fY P ol M aa K alt p f h):=by
 conv=>lhs;unfold fY
 unfold ID;cases ol[k]?<;>rfl
theorem akp:IB P ol M aa K s p f h (some o)=((p=true→l9 M (pW (f.eval h) o.op))∧@rf P ol [o] ⟨h⟩ (.fn (fun bO _=>fY P ol M aa K s p bO h) (fun _ _=>False)) f):=nr rfl
theorem akq:IC P ol M aa K s f h (some o)=@hJ P ol [o] (.fn (fun bO h'=>fY P ol M aa K s false bO h') (fun _ h'=>∀ f,e7.exc K f h')) f h:=nr rfl
theorem akr:ID P ol M aa K s f h (some o)=@hJ P ol [o] (.fn (fun bO h'=>J aa h' M∧fY P ol M aa K s false bO h') (fun _ h'=>∀ f,e7.exc K f h')) f h:=nr rfl
theorem aks {A E:ak→I→Prop} {f:ak} {h:I}:e7.exc (.fn A E) f h=E f h:=nr rfl
theorem j6 {bG:FuncId} {args:List V} {v:V} (aN:ol[k]?=some o) (az:hr ol o.guard f=some true) (ay:ej P o (f.eval h) h=some (.call bG args)) (aU:∀ h',J aa h' M∨h'=h→Pure P bG args h' v)
  (hk:fY P ol M aa K s p (f.put o.dst v) h):fY P ol M aa K (.c k s) p f h:=by
 unfold fY;rw [aN];simp only;rw [az];exact ⟨_,_,_,ay,aU,hk⟩
theorem sV (aN:ol[k]?=some o) (az:hr ol o.guard f=some false) (hk:fY P ol M aa K s p (f.put o.dst (.tuple [])) h):fY P ol M aa K (.c k s) p f h:=by
 unfold fY;rw [aN];simp only;rw [az];exact hk
theorem akt {M:Nat→Prop} {h:I}:J h h M=True:=eq_true (J.refl _ _)
theorem aku {M:Nat→Prop} {h:I} {a:aO}:J h (h.push a) M=True:=eq_true (J.push _ _ _)
theorem akv {M:Nat→Prop} {h:I} {a b:aO}:J h ((h.push a).push b) M=True:=eq_true ((J.push _ _ _).bH _)
end
theorem W7 {P:Program} {ops:Array Oper} {es:List Nat} {M:Nat→Prop} {aa:I} {K:e7}:∀ (s:dO) (n:Nat) (top p iM:Bool) (listed:Array Bool) (f:ak) (h:I),
  s.ok ops es n top p iM listed=true→fY P ops.toList M aa K s p f h→k3 P ops.toList M aa K.go (fun h=>∀ f,e7.exc K f h) s p f h:=by
 intro s
 induction s with
 | done=>intro n top p iM listed f h _ he;exact he
 | stop=>intro n top p iM listed f h _ he;trivial
 | q k s ih=>
  intro n top p iM listed f h aY he;cases n with
  | zero=>simp [dO.ok] at aY
  | succ n=>
   cases aN:ops[k]? with
   | none=>simp [dO.ok,aN] at aY
   | some o=>
    simp only [dO.ok,aN,VW] at aY;have dk:=aY.1.1.2;have fs:=aY.2;have ly:ops.toList[k]?=some o:=by simpa using aN
    simp only [fY,ly] at he;simp only [k3,ly];obtain ⟨hm,ab⟩:=he;unfold rf Gs at ab;cases hw:hr ops.toList o.guard f with
    | none=>rw [hw] at ab;exact ab.elim
    | some b=>
     rw [hw] at ab;cases b with
     | true=>
      obtain ⟨v,c2,aL⟩:=ab;have aH:ej P o (f.eval h) h=some (.val v h):=by
       rcases c2 with c2 | ⟨g,args,c2,_⟩
       ·exact c2
       ·obtain ⟨u,hu⟩:=i6 (akj dk) c2;cases hu
      exact ⟨v,⟨aH,hm⟩,ih n true p iM _ _ h fs aL⟩
     | false=>exact ih n true p iM _ _ h fs ab
 | c k s ih=>
  intro n top p iM listed f h aY he;cases n with
  | zero=>simp [dO.ok] at aY
  | succ n=>
   cases aN:ops[k]? with
   | none=>simp [dO.ok,aN] at aY
   | some o=>
    simp only [dO.ok,aN,VW] at aY;have fs:=aY.2;have ly:ops.toList[k]?=some o:=by simpa using aN
    simp only [fY,ly] at he;simp only [k3,ly];cases hw:hr ops.toList o.guard f with
    | none=>rw [hw] at he;exact he
    | some b=>
     rw [hw] at he;cases b with
     | true=>
      obtain ⟨g,args,v,h1,ad,aD⟩:=he;exact ⟨g,args,v,h1,ad,ih n true p iM _ _ h fs aD⟩
     | false=>exact ih n true p iM _ _ h fs he
 | a k s ih=>
  intro n top p iM listed f h aY he;cases n with
  | zero=>simp [dO.ok] at aY
  | succ n=>
   simp only [dO.ok,VW] at aY;have fs:=aY.2;simp only [fY] at he;simp only [k3];cases ly:ops.toList[k]? with
   | none=>rw [ly] at he;exact he
   | some o=>
    rw [ly] at he;simp only at he⊢;unfold hJ mn at he;cases hw:hr ops.toList o.guard f with
    | none=>rw [hw] at he;exact he
    | some b=>
     rw [hw] at he;cases b with
     | true=>exact Iv (fun bO h' U=>ih n true false false _ bO h' fs U) (fun _ _ U=>U) he
     | false=>exact ih n true false false _ _ h fs he
 | e k s alt BR Iy=>
  intro n top p iM listed f h aY he;cases n with
  | zero=>simp [dO.ok] at aY
  | succ n=>
   simp only [dO.ok,VW] at aY;obtain ⟨⟨⟨_,_⟩,fs⟩,halt⟩:=aY;simp only [fY] at he;simp only [k3];refine ⟨?_,Iy (n+1) false p iM _ f h halt he.2⟩;have h1:=he.1;cases ly:ops.toList[k]? with
   | none=>rw [ly] at h1;exact h1
   | some o=>
    rw [ly] at h1;simp only at h1⊢;unfold hJ mn at h1;cases hw:hr ops.toList o.guard f with
    | none=>rw [hw] at h1;exact h1
    | some b=>
     rw [hw] at h1;cases b with
     | true=>exact Iv (fun bO h' U=>⟨U.1,BR n true false true _ bO h' fs U.2⟩) (fun _ _ U=>U) h1
     | false=>exact ⟨h1.1,BR n true false true _ _ h fs h1.2⟩
theorem aZ.bB {P:Program} {n id:Nat} {ops:Array Oper} (M:Nat→Prop) (es:List Nat) (s:dO) (hm:P.follows .mixedOrders=true) (cr:s.ok ops es ops.size true true true (awb ops.size false)=true) (aY:ops.toList.all (fun o=>sQ n o.dst)=true) {Q:rQ} {f:ak} {h:I}
  (ab:fY P ops.toList M h (.out Q) s true f h):aZ P n (.region id ops true) Q.go f h:=by
 intro ρ B aJ a w hw av;refine wpIn_wide.1 (wpIn_region_any (n:=0) hm (DB (ρ0:=ρ) (es:=es) aY _ _ f h ρ a _ (Ren.le.refl ρ) hw.drew av ?_));have:=(W5 (es:=es) hw.wf s _ true true _ f h (fun _=>rfl) (fun _=>J.refl _ _) (fun k o aN hk=>by simp [ays] at hk;split at hk<;>simp_all) (W7 s _ true true true _ f h cr ab)).1 cr
 exact Iw (fun f h aj=>aj f) _ _ _ _ this
def DH (P:Program):Nat→List Field→Option (List Nat)
 | _,[]=>some []
 | o, f :: eb => if f.name ≠ "_" ∧ f.offset = o then
   match P.underlying f.type,DH P (o+1) eb with
   | some (.int _),some l=>some (0::l)
   | some .bool,some l=>some (1::l)
   | some .string,some l=>some (2::l)
   | _,_=>none
  else none
def IE (P:Program) (t:TypeId):Option (List Nat):=match P.underlying t with
 | some (.struct eb)=>if P.stoodInHeld t=false∧P.eqGuardType P.depth t=false then DH P 0 eb.toList else none
 | _=>none
def gL:List Nat→List V→List V→Option Bool
 | [],[],[]=>some true
 | 0::aQ,.int k a::r,.int k' b::s=>if k=k' then (gL aQ r s).map fun x=>(a==b)&&x else none
 | 1::aQ,.bool a::r,.bool b::s=>(gL aQ r s).map fun x=>(a==b)&&x
 | 2::aQ,.string a::r,.string b::s=>(gL aQ r s).map fun x=>(a.toList==b.toList)&&x
 | _,_,_=>none
section
variable {P:Program}
theorem Az {α:Type} {a:α}:ey P (pure a:Sem α)=some a:=rfl
theorem W8:ey P program=some P:=rfl
theorem IF {t:TypeId} {d:TypeDesc} (h:P.underlying t=some d):ey P (underlying t)=some d:=Dy h
theorem W9 {t:TypeId} {d:TypeDesc} {cs:Array Value} {o:Nat} {v:Value} (hu:P.underlying t=some d) (bf:d.isRow=false) (aH:cs[o]?=some v):ey P (part t cs o)=some v:=by
 have aP:ey P (isAgg t)=some false:=by
  unfold isAgg;rw [ni,IF hu];cases d<;>simp_all [TypeDesc.isRow,Az]
 unfold part;rw [ni,aP];simp [aH,Az]
theorem akw {d:Nat} {t:TypeId} {k k':IntKind} {a b:Int} (h:P.underlying t=some (.int k')):ey P (Op.equalIn (d+1) t (.int k a) (.int k b))=some (a==b):=by
 unfold Op.equalIn;rw [ni,IF h];simp [Az]
theorem akx {d:Nat} {t:TypeId} {a b:Bool} (h:P.underlying t=some .bool):ey P (Op.equalIn (d+1) t (.bool a) (.bool b))=some (a==b):=by
 unfold Op.equalIn;rw [ni,IF h];simp [Az]
theorem aky {d:Nat} {t:TypeId} {a b:ByteArray} (h:P.underlying t=some .string):ey P (Op.equalIn (d+1) t (.string a) (.string b))=some (a.toList==b.toList):=by
 unfold Op.equalIn;rw [ni,IF h];simp [Az,beq_toListBytes]
theorem drop_cons {α:Type} {l:List α} {o:Nat} {a:α} {r:List α} (h:l.drop o=a::r):l[o]?=some a∧l.drop (o+1)=r:=by
 have h1:(l.drop o)[0]?=some a:=by rw [h];rfl
 rw [avC] at h1;refine ⟨by simpa using h1,?_⟩
 rw [←awA,h];rfl
theorem Xa {d:Nat} {X Y:Array Value}:∀ (eb:List Field) (o:Nat) (aQ:List Nat) (xs ys:List V) (gq gU:List Value) (b:Bool),DH P o eb=some aQ→gL aQ xs ys=some b→jA xs=some gq→jA ys=some gU →
  X.toList.drop o=gq→Y.toList.drop o=gU→ey P (Op.eqFields (d+1) X Y eb)=some b
 | [],o,aQ,xs,ys,gq,gU,b,hk,he,aj,bp,fT,oT=>by
  simp [DH] at hk;subst hk;cases xs<;>cases ys<;>simp [gL] at he;subst he;rfl
 | f::eb,o,aQ,xs,ys,gq,gU,b,hk,he,aj,bp,fT,oT=>by
  unfold DH at hk;split at hk
  case isFalse=>cases hk
  rename_i aG;have go:∀ (ig cN:Value) (cZ dI:List V) (cV bS:List Value) (q x:Bool) (uC:List Nat) (mr:TypeDesc),P.underlying f.type=some mr→mr.isRow=false→X.toList.drop o=ig::cV→Y.toList.drop o=cN::bS→DH P (o+1) eb=some uC→gL uC cZ dI=some x→jA cZ=some cV→jA dI=some bS →
    ey P (Op.equalIn (d+1) f.type ig cN)=some q→ey P (Op.eqFields (d+1) X Y (f::eb))=some (q&&x):=fun ig cN cZ dI cV bS q x uC mr hu bf h1 ad aD bn bN c6 gV=>by
   obtain ⟨g1,g2⟩:=drop_cons h1;obtain ⟨g3,g4⟩:=drop_cons ad;have ih:=Xa (d:=d) eb (o+1) uC cZ dI cV bS x aD bn bN c6 g2 g4;unfold Op.eqFields;rw [if_pos aG.1,ni,aG.2,W9 hu bf (by rw [←avF];exact g1)]
   simp only [avQ];rw [ni,W9 hu bf (by rw [←avF];exact g3)]
   simp only [avQ];rw [ni,gV];simp only [avQ];cases q
   ·rfl
   ·simpa using ih
  cases im:DH P (o+1) eb with
  | none=>rw [im] at hk;split at hk<;>simp_all
  | some uC=>
   rw [im] at hk;cases hu:P.underlying f.type with
   | none=>rw [hu] at hk;cases hk
   | some mr=>
    rw [hu] at hk;cases mr<;>simp only at hk<;>try (cases hk;done)
    case int kk=>
     obtain rfl:=Option.some.inj hk;cases xs with
     | nil=>simp [gL] at he
     | cons sW cZ=>
      cases ys with
      | nil=>cases sW<;>simp [gL] at he
      | cons IG dI=>
       cases sW<;>cases IG<;>first | (simp [gL] at he;done) | skip
       rename_i bJ a ba c;have gG:(if bJ=ba then (gL uC cZ dI).map (fun x=>(a==c)&&x) else none)=some b:=he
       split at gG
       case isFalse=>cases gG
       rename_i BS;subst BS;obtain ⟨x,dC,rfl⟩:=avL.1 gG;simp only [jA,nS] at aj bp;cases bN:jA cZ with
       | none=>rw [bN] at aj;cases aj
       | some cV=>
        cases c6:jA dI with
        | none=>rw [c6] at bp;cases bp
        | some bS=>
         rw [bN] at aj;rw [c6] at bp;obtain rfl:=Option.some.inj aj;obtain rfl:=Option.some.inj bp;exact go _ _ cZ dI cV bS _ x uC _ hu rfl fT oT im dC bN c6 (akw hu)
    case bool=>
     obtain rfl:=Option.some.inj hk;cases xs with
     | nil=>simp [gL] at he
     | cons sW cZ=>
      cases ys with
      | nil=>cases sW<;>simp [gL] at he
      | cons IG dI=>
       cases sW<;>cases IG<;>first | (simp [gL] at he;done) | skip
       rename_i a c;obtain ⟨x,dC,rfl⟩:=avL.1 he;simp only [jA,nS] at aj bp;cases bN:jA cZ with
       | none=>rw [bN] at aj;cases aj
       | some cV=>
        cases c6:jA dI with
        | none=>rw [c6] at bp;cases bp
        | some bS=>
         rw [bN] at aj;rw [c6] at bp;obtain rfl:=Option.some.inj aj;obtain rfl:=Option.some.inj bp;exact go _ _ cZ dI cV bS _ x uC _ hu rfl fT oT im dC bN c6 (akx hu)
    case string=>
     obtain rfl:=Option.some.inj hk;cases xs with
     | nil=>simp [gL] at he
     | cons sW cZ=>
      cases ys with
      | nil=>cases sW<;>simp [gL] at he
      | cons IG dI=>
       cases sW<;>cases IG<;>first | (simp [gL] at he;done) | skip
       rename_i a c;obtain ⟨x,dC,rfl⟩:=avL.1 he;simp only [jA,nS] at aj bp;cases bN:jA cZ with
       | none=>rw [bN] at aj;cases aj
       | some cV=>
        cases c6:jA dI with
        | none=>rw [c6] at bp;cases bp
        | some bS=>
         rw [bN] at aj;rw [c6] at bp;obtain rfl:=Option.some.inj aj;obtain rfl:=Option.some.inj bp;exact go _ _ cZ dI cV bS _ x uC _ hu rfl fT oT im dC bN c6 (aky hu)
theorem RW:∀ {aQ:List Nat} {xs ys:List V} {b:Bool},gL aQ xs ys=some b→∃ gq gU,jA xs=some gq∧jA ys=some gU
 | [],xs,ys,b,h=>by
  cases xs<;>cases ys<;>simp [gL] at h;exact ⟨[],[],rfl,rfl⟩
 | k::aQ,[],ys,b,h=>by unfold gL at h;split at h<;>simp_all
 | k::aQ,x::xs,[],b,h=>by unfold gL at h;split at h<;>simp_all
 | k::aQ,x::xs,y::ys,b,h=>by
  have fin:∀ {a c:Value} {q:Option Bool},nS x=some a→nS y=some c→gL aQ xs ys≠none→∃ gq gU,jA (x::xs)=some gq∧jA (y::ys)=some gU:=fun {a c q} h1 ad aD=>by
   cases ab:gL aQ xs ys with
   | none=>exact absurd ab aD
   | some cN=>
    obtain ⟨gq,gU,aC,bd⟩:=RW ab;exact ⟨a::gq,c::gU,by simp [jA,h1,aC],by simp [jA,ad,bd]⟩
  unfold gL at h;split at h
  ·simp_all
  ·rename_i im pX wC;simp only [List.cons.injEq] at im pX wC;obtain ⟨rfl,rfl⟩:=im;obtain ⟨rfl,rfl⟩:=pX;obtain ⟨rfl,rfl⟩:=wC;split at h
   ·exact fin (q:=none) rfl rfl (by intro U;rw [U] at h;cases h)
   ·cases h
  ·rename_i im pX wC;simp only [List.cons.injEq] at im pX wC;obtain ⟨rfl,rfl⟩:=im;obtain ⟨rfl,rfl⟩:=pX;obtain ⟨rfl,rfl⟩:=wC;exact fin (q:=none) rfl rfl (by intro U;rw [U] at h;cases h)
  ·rename_i im pX wC;simp only [List.cons.injEq] at im pX wC;obtain ⟨rfl,rfl⟩:=im;obtain ⟨rfl,rfl⟩:=pX;obtain ⟨rfl,rfl⟩:=wC;exact fin (q:=none) rfl rfl (by intro U;rw [U] at h;cases h)
  ·cases h
theorem pp {t:TypeId} {aQ:List Nat} {xs ys:List V} {gq gU:List Value} {b:Bool} (hk:IE P t=some aQ) (he:gL aQ xs ys=some b) (aj:jA xs=some gq) (bp:jA ys=some gU) :
  ey P (Op.equal t (.agg gq.toArray) (.agg gU.toArray))=some b∧P.eqGuardType P.depth t=false:=by
 unfold IE at hk;split at hk
 case h_2=>cases hk
 rename_i eb hu;split at hk
 case isFalse=>cases hk
 rename_i c2;refine ⟨?_,c2.2⟩;show ey P (Op.equalIn (9999+1) t _ _)=some b;have hW : ∀ eb : List Field, ey P (forIn eb ((none, ()) : Option Bool × Unit) fun f r => if f.name ≠ "_" then do
   let a ←part f.type gq.toArray f.offset
   let c ←part f.type gU.toArray f.offset
   let q ←Op.equalIn 9999 f.type a c
   if (!q)=true then pure (ForInStep.done (some false,())) else pure (ForInStep.yield (none,()))
   else pure (ForInStep.yield (none,())))=(ey P (Op.eqFields 9999 gq.toArray gU.toArray eb)).map fun r=>if r then (none,()) else (some false,()):=fun eb=>by
  induction eb with
  | nil=>rfl
  | cons f eb ih=>
   rw [List.forIn_cons];unfold Op.eqFields;by_cases aG : f.name ≠ "_"
   ·rw [if_pos aG,if_pos aG];simp only [ni,Option.bind_assoc];cases ey P (part f.type gq.toArray f.offset) with
    | none=>rfl
    | some a=>
     simp only [avQ];cases ey P (part f.type gU.toArray f.offset) with
     | none=>rfl
     | some c=>
      simp only [avQ];cases ey P (Op.equalIn 9999 f.type a c) with
      | none=>rfl
      | some q=>
       cases q
       ·rfl
       ·simpa [Az] using ih
   ·rw [if_neg aG,if_neg aG];simp only [ni,Az,avQ];exact ih
 have cE:=Xa (P:=P) (d:=9998) (X:=gq.toArray) (Y:=gU.toArray) eb.toList 0 aQ xs ys gq gU b hk he aj bp (by simp) (by simp)
 unfold Op.equalIn;simp only [ni,IF hu,avQ,W8,c2.1,Bool.false_eq_true,if_false];rw [←Array.forIn_toList];have ad:=hW eb.toList;rw [cE] at ad
 first
  | (simp only [ni] at *;rw [ad];cases b<;>rfl)
  | (erw [ad];cases b<;>rfl)
theorem Xb {t:TypeId} {aQ:List Nat} {xs ys:List V} {b:Bool} {xo yo:Operand} (hk:IE P t=some aQ) (he:gL aQ xs ys=some b):cH P .neq t xo yo (.agg xs) (.agg ys)=some (.bool (!b)):=by
 obtain ⟨gq,gU,aj,bp⟩:=RW he;obtain ⟨h1,ad⟩:=pp hk he aj bp;unfold cH;simp only [pk,aj,bp,avI];have az:ey P (eqGuard .neq t xo yo (.agg gq.toArray) (.agg gU.toArray))=some ():=by
  simp [eqGuard,ni,W8,ad,Az]
 rw [ni,az];simp only [avQ,binOp,ni,h1,Az,avI];rfl
end
theorem vI {P:Program} {t tx:TypeId} {T:kx} (cd:fL P t=some T) (dg:0<T.sz)
  {h:I} {s x:V} {cs:List V} (aN:Own h T.e T.sz s cs) {n:Nat} {news:List V} (dR:fI P T.sz tx x h=some (n,news)) (aG:news.length=n * T.sz)
  (hm:∀ m,m * T.sz=cs.length+news.length→m * T.ao≤lim∧m≤lim) :
  ∃ v h',kO P t tx s x h=some (v,h')∧Own h' T.e T.sz v (cs++news)∧J h h' (a6 s)∧dm h s v:=by
 obtain ⟨he,bR,bo,jC,fb,_⟩:=uw cd;unfold kO;simp only [he,bR,bo,jC,fb,if_true,dR];have start:∀ s:V,(s=.ag∨s=.z0)→cs=[]→∃ v h',(if n=0 then some (s,h) else if n * T.ao≤lim∧n≤lim then some (.bj h.n 0 n cj,h.push (.cells news T.e (some T.sz))) else none)=some (v,h')∧Own h' T.e T.sz v (cs++news)∧J h h' (a6 s)∧dm h s v:=fun s aa dX=>by
  subst dX;by_cases aK:n=0
  ·subst aK;have:news=[]:=avA (by simpa using aG)
   subst this;exact ⟨s,h,by simp,.inl ⟨aa,rfl⟩,J.refl _ _,.inl rfl⟩
  ·obtain ⟨bb,bt⟩:=hm n (by simp [aG])
   exact ⟨.bj h.n 0 n cj,h.push (.cells news T.e (some T.sz)),by simp [aK,bb,bt],Own.grown (by simp [I.push]) (by simp [I.push]) (by simpa using aG),J.push _ _ _,.inr fun k hk=>by simp [a8] at hk;omega⟩
 rcases aN with ⟨rfl | rfl,dX⟩ | ⟨i,len,cap,c,ex,rfl,hi,az,hlen,bY,dp⟩
 ·exact start _ (.inl rfl) dX
 ·exact start _ (.inr rfl) dX
 ·by_cases aK:n=0
  ·subst aK;have:news=[]:=avA (by simpa using aG)
   subst this;exact ⟨.bj i 0 len cap,h,by simp,by rw [List.append_nil];exact .inr ⟨i,len,cap,c,ex,rfl,hi,az,hlen,bY,dp⟩,J.refl _ _,.inl rfl⟩
  ·obtain ⟨bb,bt⟩:=hm (len+n) (by rw [atY,hlen,aG])
   have cI:len * T.sz≤c.length:=by
    have:=congrArg avu bY;rw [VV,hlen] at this;omega
   simp only [aK,bb,bt,and_self,if_true,if_false,az];rcases dp with ⟨l3,o1,hle⟩ | ⟨rfl,rfl⟩
   ·simp only [l3,if_true];by_cases fW:len+n≤cap
    ·have eW:0+(len+n) * T.sz≤c.length:=by rw [avm];exact OF (avo _ fW) o1
     have hll:(lay c (len * T.sz) news).length=c.length:=vv _ _ _ (by rw [aG,←atY];omega)
     simp only [fW,if_true,eW];refine ⟨_,_,rfl,.inr ⟨i,len+n,cap,lay c (0+len * T.sz) news,ex,rfl,hi,by simp [I.set],by simp [hlen,aG,atY],?_,.inl ⟨l3,?_,fW⟩⟩,⟨BY _,fun j aV bI=>?_,rfl⟩,.inl rfl⟩
     ·simp only [avm,lay,bY,atY,←aG];have:(cs++news).length=len * T.sz+news.length:=by simp [hlen]
      rw [←this];exact List.take_left
     ·rw [avm,hll];exact o1
     ·simp only [I.set];rw [if_neg (by intro cL;subst cL;simp [a6,a8] at bI)]
    ·simp only [fW,if_false];have As:0+len * T.sz≤c.length:=by omega
     simp only [As,if_true,avW,bY];exact ⟨_,_,rfl,Own.grown (by simp [I.push]) (by simp [I.push]) (by simp [hlen,aG,atY]),J.push _ _ _,.inr fun k hk=>by simp [a8] at hk;omega⟩
   ·simp only [Nat.lt_irrefl,if_false,true_and,cI,and_self,if_true];refine ⟨_,_,rfl,Own.grown (by simp [I.push,I.set]) (by simp [I.push,I.set,bY]) (by simp [hlen,aG,atY]),⟨by simp [I.push,I.set],fun j aV bI=>?_,rfl⟩,.inr fun k hk=>by simp [a8] at hk;omega⟩
    have h1:j≠i:=by intro cL;subst cL;simp [a6,a8] at bI
    have ad:j≠h.n:=by omega
    simp [I.push,I.set,h1,ad]
theorem Np {P:Program} {t:TypeId} {T:kx} (cd:fL P t=some T) (dg:0<T.sz)
  {h:I} {s:V} {cs xs:List V} (aN:Own h T.e T.sz s cs) (aw:xs.length=T.sz) (cm:xs.all (·.one)=true)
  (hm:∀ m,m * T.sz=cs.length+T.sz→m * T.ao≤lim∧m≤lim) :
  ∃ v h',kO P t t s (.bj h.n 0 1 1) (h.push (.cells xs T.e none))=some (v,h')∧Own h' T.e T.sz v (cs++xs)∧J h h' (a6 s)∧dm h s v:=by
 obtain ⟨he,bR,bo,jC,fb,hu⟩:=uw cd;have hk:=J.push h (.cells xs T.e none) none_;have dR:fI P T.sz t (.bj h.n 0 1 1) (h.push (.cells xs T.e none))=some (1,xs):=by
  simp only [fI,hu,I.push,if_true,awB,avm,avW];rw [are (by omega),if_pos ⟨by omega,cm⟩]
 obtain ⟨v,h',aP,gY,eJ,dk⟩:=vI (tx:=t) cd dg (aN.br hk) dR (by omega) (by rw [aw];exact hm)
 refine ⟨v,h',aP,gY,(hk.up).trans' eJ,dk.imp id fun U k rV=>?_⟩;have:=U k rV;simp [I.push] at this;omega
theorem Acc.qs {P:Program} {t tx:TypeId} {T:kx} (cd:fL P t=some T) {aK h:I} {s x:V} {cs news:List V} (a:Acc aK h T.e T.sz s cs) (dg:0<T.sz) {n:Nat} (dR:fI P T.sz tx x h=some (n,news)) (aG:news.length=n * T.sz)
  (hm:∀ m,m * T.sz=cs.length+news.length→m * T.ao≤lim∧m≤lim) :
  ∃ v h',kO P t tx s x h=some (v,h')∧Acc aK h' T.e T.sz v (cs++news):=by
 obtain ⟨v,h',aP,gY,eJ,dk⟩:=vI cd dg a.own dR aG hm;exact ⟨v,h',aP,a.step gY eJ dk⟩
theorem Acc.xb {P:Program} {t:TypeId} {T:kx} (cd:fL P t=some T) {aK h:I} {s:V} {cs xs:List V} (a:Acc aK h T.e T.sz s cs) (dg:0<T.sz) (aw:xs.length=T.sz) (cm:xs.all (·.one)=true)
  (hm:∀ m,m * T.sz=cs.length+T.sz→m * T.ao≤lim∧m≤lim) :
  ∃ v h',kO P t t s (.bj h.n 0 1 1) (h.push (.cells xs T.e none))=some (v,h')∧Acc aK h' T.e T.sz v (cs++xs):=by
 obtain ⟨v,h',aP,gY,eJ,dk⟩:=Np cd dg a.own aw cm hm;exact ⟨v,h',aP,a.step gY eJ dk⟩
section
variable {P:Program} {α:Type} {enc:α→List V} {sz:Nat}
theorem gM (he:∀ x,(enc x).length=sz):∀ l:List α,(l.flatMap enc).length=l.length * sz
 | []=>by simp
 | x::l=>by rw [avj,IS,he,gM he l,ave,atY];omega
theorem Xc (he:∀ x,(enc x).all (·.one)=true):∀ l:List α,(l.flatMap enc).all (·.one)=true
 | []=>rfl
 | x::l=>by rw [avj,List.all_append,he,Xc he l];rfl
theorem BT (he:∀ x,(enc x).length=sz):∀ (l:List α) (k:Nat),(l.flatMap enc).drop (k * sz)=(l.drop k).flatMap enc
 | l,0=>by simp
 | [],k+1=>by simp
 | x::l,k+1=>by
  rw [avj,atY,awB,Nat.add_comm,←awA,List.drop_left' (he x),BT he l k,List.drop_succ_cons]
theorem Nq (he:∀ x,(enc x).length=sz):∀ (l:List α) (k:Nat),(l.flatMap enc).take (k * sz)=(l.take k).flatMap enc
 | l,0=>by simp
 | [],k+1=>by simp
 | x::l,k+1=>by
  rw [avj,atY,awB,List.take_append,he,Nat.add_sub_cancel,Nq he l k,List.take_succ_cons,avj,are (by rw [he];omega)]
theorem sX (he:∀ x,(enc x).length=sz) {l:List α} {k:Nat} (hk:k<l.length) {t:TypeId} {kk:IntKind} (aa:dF P t=some sz) :
  hG P t (.ah l.length (l.flatMap enc)) (.int kk (k:Int))=some (.at (enc l[k]++(l.drop (k+1)).flatMap enc)):=by
 rw [Gu aa (by omega) (by omega) (gM he l),avc,BT he,avk hk,avj]
theorem Nr (he:∀ x,(enc x).length=sz) {l:List α} {n:Nat} (aG:l.length=n) {k:Nat} {x:α} (aj:l[k]?=some x) {t:TypeId} {kk:IntKind} (aa:dF P t=some sz) :
  ∃ r,hG P t (.ah n (l.flatMap enc)) (.int kk (k:Int))=some (.at (enc x++r)):=by
 subst aG;obtain ⟨hk,rfl⟩:=VX.1 aj;exact ⟨_,sX he hk aa⟩
theorem lz {e r:List V} (he:e.length=sz):cO (some (some sz)) (some (e++r))=some (.agg e):=by
 rw [Wu,if_pos (by rw [IS];omega),awV he]
theorem AA (he:∀ x,a1 (enc x)) (l:List α):a1 (l.flatMap enc):=a1.flatMap fun x _=>he x
end
theorem aZ.cut {P:Program} {n:Nat} {c:Code} {f:ak} {h:I} (R:ak→I→Prop) {Q:rQ} (aa:aZ P n c (rQ.go (.fn fun x f h=>@rN ⟨x=.normal∧R f h⟩)) f h) (hk:∀ f h,R f h→@fA .normal Q f h):aZ P n c (rQ.go Q) f h :=
 aa.mono fun e f h ab=>by
  have ei:e=.normal∧R f h:=ab;obtain ⟨rfl,aL⟩:=ei;exact hk f h aL
theorem akz {h:I} {fh yV:TypeId} {hX sY n m:Nat} {a b:V} {kN rK:List V} (hq:Own h fh hX a kN) (ob:Own h yV sY b rK) (bI:∀ k,a8 a=some k→a8 b≠some k) (aG:kN.length=n * hX) (hm:rK.length=m * sY) (aP:0<hX) (al:0<sY) :
  ∃ ad,aq [a,b] h [.ah n kN,.ah m rK] ad∧J h ad (fun k=>a6 a k∨a6 b k):=by
 obtain ⟨h1,bb,bJ⟩:=aA.own hq aG aP;have Xd:=ob.ai bJ fun k hk hi=>bI k hi hk;obtain ⟨ad,bt,ba⟩:=aA.own Xd hm al;exact ⟨ad,aq.cons bb (aq.cons bt (aq.refl [] _)),(bJ.mono fun _ h=>.inl h).trans (ba.mono fun _ h=>.inr h) fun _ _ h=>h⟩
theorem Acc.Ns {aK h:I} {fh yV:TypeId} {hX sY n m:Nat} {a b:V} {kN rK:List V} (hq:Acc aK h fh hX a kN) (ob:Acc aK h yV sY b rK) (bI:∀ k,a8 a=some k→a8 b≠some k) (aG:kN.length=n * hX) (hm:rK.length=m * sY) (aP:0<hX) (al:0<sY) :
  ∃ ad,aq [a,b] h [.ah n kN,.ah m rK] ad∧J aK ad none_:=by
 obtain ⟨ad,c,k⟩:=akz hq.own ob.own bI aG hm aP al;exact ⟨ad,c,hq.ai.trans k fun j aV hi=>by
  rcases hi with hi | hi
  ·have:=hq.new j hi;omega
  ·have:=ob.new j hi;omega⟩
open Go
section
variable {H:Type} {enc:TypeId×Value→H} {P:Program} {w:World} {base:Nat} {spare:Nat→Bool} {held:Bool}
end
theorem aZ.BU {P:Program} {n id:Nat} {ops:Array Oper} (M:Nat→Prop) (es:List Nat) (s:dO) (hm:P.follows .mixedOrders=true) (cr:s.ok ops es ops.size true false true (awb ops.size false)=true) (aY:ops.toList.all (fun o=>sQ n o.dst)=true) {Q:rQ} {f:ak} {h:I}
  (ab:fY P ops.toList M h (.out Q) s false f h):aZ P n (.region id ops true) Q.go f h:=by
 intro ρ B aJ a w hw av;refine wpIn_wide.1 (wpIn_region_any (n:=0) hm (DB (ρ0:=ρ) (es:=es) aY _ _ f h ρ a _ (Ren.le.refl ρ) hw.drew av ?_));have:=(W5 (es:=es) hw.wf s _ false true _ f h (fun aU=>by cases aU) (fun _=>J.refl _ _) (fun k o aN hk=>by simp [ays] at hk;split at hk<;>simp_all) (W7 s _ true false true _ f h cr ab)).1 cr
 exact Iw (fun f h aj=>aj f) _ _ _ _ this
section
variable {ρ:Ren} {B:Nat} {aJ:World} {h:I} {w:World}
theorem aR.grow (R:aR ρ B aJ h w) (os:Array Obj):aR ρ B aJ h (Sort.grow w os):=by
 have hold:∀ k,k<w.heap.size→(Sort.grow w os).heap[k]?=w.heap[k]?:=fun k hk=>by
  show (w.heap++os)[k]?=_;rw [Array.getElem?_append,if_pos hk]
 have bo:w.heap.size≤(Sort.grow w os).heap.size:=by
  show w.heap.size≤(w.heap++os).size;rw [Array.size_append];omega
 refine ⟨⟨R.heap.lh,R.heap.inj,fun i=>?_,fun b arr av=>?_,R.heap.glob,OF R.heap.base bo⟩,R.below.trans ⟨rfl,rfl,rfl,bo,fun k hk=>hold k (Nat.lt_of_lt_of_le hk R.heap.base),BY _⟩⟩
 ·by_cases bf:h.get i=.dead
  ·rw [bf];trivial
  ·refine (R.heap.obj i).ai (Ren.le.refl ρ) fun b bb aL=>⟨hold b ?_,fun h=>h⟩;obtain ⟨cN,rB,gJ,aM,_⟩:=R.heap.live bf;rw [gJ] at aL;cases aL;exact aM
 ·obtain ⟨e,ho,hw⟩:=R.heap.frz b arr av;exact ⟨e,ho,(hold b (avl.1 hw).1).trans hw⟩
theorem aR.ahead (R:aR ρ B aJ h w):∀ n:Nat,aR ρ B aJ h (Sort.ahead w n)
 | 0=>R
 | n+1=>by rw [←Sort.ahead_drew];exact (R.ahead n).drew
theorem aR.Gw (R:aR ρ B aJ h w) {k:IntKind} {i b bA n:Nat} {c:List V} {e:TypeId} {ex:Option Nat} (az:h.get i=.cells c e ex) (hi:ρ.ren i=some (b,bA)) (aG:n≤c.length) (d:Array Int) (bf:d.size=n) :
  aR ρ B aJ (h.set i (.cells (d.toList.map (.int k)++c.drop n) e ex)) (Sort.putRow (Value.int k) w b 0 d):=by
 have aN:=R.heap.obj i;rw [az] at aN;obtain ⟨cN,rB,arr,aL,av,cr,hw,hlen,eK,aj⟩:=aN;rw [hi] at aL;cases aL;have aM:=(avl.1 hw).1;have qt:∀ j,(Sort.putRow (Value.int k) w b 0 d).heap[j]?=if b=j then (w.heap[j]?).map (Sort.onCells (Sort.putCells (Value.int k) 0 d)) else w.heap[j]?:=fun j=>by
  show (w.heap.modify b _)[j]?=_;rw [Array.getElem?_modify]
 refine R.qh hi (by rw [az];simp) (fun j aV=>by rw [qt,if_neg (Ne.symm aV)]) (by rw [Sort.size_putRow];exact BY _) ⟨rfl,rfl,rfl,by rw [Sort.size_putRow];exact BY _,fun j aV=>by rw [qt,if_neg (by omega)],BY _⟩ ?_
 have aw:(d.toList.map (V.int k)++c.drop n).length=c.length:=by simp;omega
 refine ⟨b,bA,Sort.putCells (Value.int k) 0 d arr,hi,av,cr,by rw [qt,if_pos rfl,hw];rfl,by rw [aw];simpa [Sort.putCells] using hlen,?_,by rw [aw];simpa [Sort.putCells] using aj⟩
 rw [aw];refine ⟨by simp [Sort.putCells];omega,fun j v v' h1 ad=>?_⟩
 rw [avg] at ad;split at ad
 case isFalse=>cases ad
 rename_i aV;rw [avF] at ad;unfold Sort.putCells at ad;rw [Array.getElem?_mapIdx,avL] at ad;obtain ⟨x,ln,dC⟩:=ad;by_cases kZ:j<n
 ·rw [if_pos ⟨Dc _,by omega⟩] at dC
  subst dC;rw [av8 (by simp;omega),aw9,avF,Array.getElem?_eq_getElem (by omega)] at h1
  simp only [avI,Option.some.injEq] at h1;subst h1;rw [Nat.sub_zero,getElem!_pos d j (by omega)]
  exact .int k _
 ·rw [if_neg (by omega)] at dC
  subst dC;rw [av9 (by simp;omega),avC] at h1
  simp only [VY,Array.length_toList] at h1;rw [bf,show n+(j - n)=j by omega] at h1
  refine eK.2 j v x h1 ?_;rw [avg,if_pos aV,avF];exact ln
theorem aR.holds (R:aR ρ B aJ h w) {k:IntKind} {i b bA:Nat} {c:List V} {e:TypeId} {ex:Option Nat} (az:h.get i=.cells c e ex) (hi:ρ.ren i=some (b,bA)) {l:List Int} (ay:c.take l.length=l.map (.int k)) :
  Sort.Holds (Value.int k) w b 0 l.toArray∧b<w.heap.size:=by
 have aN:=R.heap.obj i;rw [az] at aN;obtain ⟨cN,rB,arr,aL,av,cr,hw,hlen,eK,aj⟩:=aN;rw [hi] at aL;cases aL;refine ⟨fun j aV=>?_,(avl.1 hw).1⟩;simp only [List.size_toArray] at aV;have cI:l.length≤c.length:=by
  have:=congrArg avu ay;rw [VV,VY] at this;omega
 have h1:c[j]?=some (.int k l[j]):=by
  have:(c.take l.length)[j]?=some (.int k l[j]):=by rw [ay,aw9,ME aV];rfl
  rwa [avg,if_pos aV] at this
 obtain ⟨v',ad,aD⟩:=eK.get h1;cases aD;rw [avg] at ad;split at ad
 case isFalse=>cases ad
 rw [avF] at ad;have aC:l.toArray[j]! = l[j]:=by rw [getElem!_pos _ j (by simpa using aV)];simp
 rw [aC];exact ⟨by simp [World.cell?,hw,ad],by simp [World.frozen?,hw]⟩
end
theorem akA {P:Program} {f:FuncId} {e:TypeId}
  (eX:∀ (hs off cap:Nat) (zs:List Int) (w:World),Sort.Holds (Value.int .i64) w hs off zs.toArray→hs<w.heap.size→zs.length<4611686018427387904→Calls P f #[.slice (some ⟨hs,off,none⟩) zs.length cap] w fun x w'=>
   x=.returned (.tuple #[])∧∃ n os,w'=Sort.grow (Sort.putRow (Value.int .i64) (Sort.ahead w n) hs off (zs.mergeSort fun x y=>decide (x≤y)).toArray) os)
  (AB:∀ (p:Option Addr) (cap:Nat) (w:World),Calls P f #[.slice p 0 cap] w fun x w'=>x=.returned (.tuple #[])∧w'=w)
  {h:I} {v:V} {l:List Int} (aN:Own h e 1 v (l.map (.int .i64))) (aw:l.length<4611686018427387904) :
  af P f [v] h (fun r h'=>r=.tuple []∧Own h' e 1 v ((l.mergeSort fun x y=>decide (x≤y)).map (.int .i64))∧J h h' (a6 v)):=by
 have nil:∀ (p:Option Addr) (cap:Nat) (ρ:Ren) (B:Nat) (aJ w:World),aR ρ B aJ h w→l=[]→Calls P f #[.slice p 0 cap] w fun Pu w'=>(∃ (ρ':Ren) (r:V) (c0:Value) (h':I),Pu=.returned c0∧aB ρ' r c0∧aR ρ' B aJ h' w'∧ρ.le ρ'∧(r=.tuple []∧Own h' e 1 v ((l.mergeSort fun x y=>decide (x≤y)).map (.int .i64))∧J h h' (a6 v))) ∨
   (∃ (ρ':Ren) (iv:List PanicEntry) (h':I),Pu=.panicked iv∧ii iv∧aR ρ' B aJ h' w'∧ρ.le ρ'∧False):=fun p cap ρ B aJ w hw aK=>by
  subst aK;refine (AB p cap w).mono fun x w' ⟨aj,bX⟩=>.inl ⟨ρ,.tuple [],.tuple #[],h,aj,.tuple rfl (by simp),by rw [bX];exact hw,Ren.le.refl ρ,rfl,?_,J.refl _ _⟩
  simpa using aN
 intro ρ B aJ w args' hw aP;obtain ⟨v',t,bE,aH,RX⟩:=aP.dB;have Xe:t=[]:=by
  have:=RX.1;cases t with
  | nil=>rfl
  | cons _ _=>simp at this
 subst Xe;have fh:args'=#[v']:=by
  apply Array.toList_inj.1;rw [bE]
 subst fh;rcases aN with ⟨rE,dX⟩ | ⟨i,len,cap,c,ex,rfl,DI,az,hlen,bY,dp⟩
 ·have ew:l=[]:=List.map_eq_nil_iff.1 dX;rcases rE with rfl | rfl
  ·cases aH;exact nil _ _ ρ B aJ w hw ew
  ·cases aH;exact nil _ _ ρ B aJ w hw ew
 ·rw [VU] at hlen bY;have xm:l.length=len:=by rw [←hlen,VY]
  subst xm;have cI:l.length≤c.length:=by
   have:=congrArg avu bY;rw [VV,VY] at this;omega
  cases aH with
  | bj hi _ _ _ hle=>
   rename_i b bA;obtain ⟨hH,aM⟩:=hw.holds (k:=.i64) az hi bY;refine (eX b 0 (fz bA cap) l w hH aM aw).mono fun x w' ⟨aj,m,os,bX⟩=>.inl ⟨ρ,.tuple [],.tuple #[],h.set i (.cells ((l.mergeSort fun x y=>decide (x≤y)).map (.int .i64)++c.drop l.length) e ex),aj,.tuple rfl (by simp),?_,Ren.le.refl ρ,rfl,?_,?_⟩
   ·subst bX;exact ((hw.ahead m).Gw az hi cI (l.mergeSort fun x y=>decide (x≤y)).toArray (by simp [axR])).grow os
   ·refine .inr ⟨i,l.length,cap,_,ex,rfl,DI,aT,by simp [axR],?_,?_⟩
    ·rw [VU,awV (by simp [axR])]
    ·rcases dp with ⟨h1,ad,aD⟩ | h1
     ·refine .inl ⟨h1,?_,aD⟩;simp only [IS,VY,axR,avJ];omega
     ·exact .inr h1
   ·exact (J.set h i _).mono fun k hk=>by simp [a6,a8,hk]
end Go.Proofs.YtemdgidnhgcafaaGreatDoor.Ab
