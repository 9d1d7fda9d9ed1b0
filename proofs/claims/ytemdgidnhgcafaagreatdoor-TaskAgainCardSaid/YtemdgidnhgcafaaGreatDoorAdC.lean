/-
  Rules of the machine on abstract states. Conditions: as each theorem says.
-/
import Derived.Test.YtemdgidnhgcafaaGreatDoorAdB
import Derived.SizedLaws
import Derived.Laws.StructEq
import Derived.Sort.Row
import Derived.Sort.Grow
import Derived.Sort.Statements
open Go.IntWalk renaming i64_in->kp
open Go.Proofs.YtemdgidnhgcafaaGreatDoor.Ab.V renaming int->kA
open Option renaming some->eL,none->eN
open Bool renaming true->e6,false->fr
open Go.IntKind renaming i64->gj
open Nat renaming mul_le_mul_right->ay6,le_refl->BY,zero_le->D8,zero_add->ayB,mul_one->axD,add_mul->ayC,le_trans->UN,lt_or_ge->aAi,one_mul->aAv
open List renaming take_of_length_le->ajE,length_drop->azk,length_take->ajB,length_map->ajD,take_length->azB,length->azl,getElem?_take->ay7,getElem?_eq_getElem->Jt,drop_eq_getElem_cons->ay0,getElem?_append_left->azW,getElem?_append_right->azX,getElem?_eq_some_iff->axB,flatten_cons->aC3,length_append->D9,length_cons->axF,mem_cons->IN,all_eq_true->ayy,getElem?_drop->azI,drop_drop->aAu,eq_nil_of_length_eq_zero->azo,drop_zero->azw,flatMap_cons->ayW,take_left'->aAj,getElem?_map->aA1,length_mergeSort->aBz
open Int renaming toNat_natCast->ayw
open Bool renaming and_eq_true->are,false_or->aBy,or_eq_true->azG,true_and->azr,not_eq_true'->azY
open Array renaming size_eq_one_iff->aD2,setIfInBounds_comm->aC0,getElem?_eq_some_iff->ay8,replicate->azJ,getElem?_replicate->aC1,getElem?_toList->azq
open Option renaming bind_some->azm,map_eq_some_iff->azs,map_some->azi
open Go renaming Program->aPf,TypeId->aPg,IntKind->aPh,FuncId->aPn,Value->aPi,World->aPj,DataW->aPo,ResultVar->aPv,Operand->aPk,Oper->aPl,TypeDesc->aPp
set_option linter.unusedVariables false
set_option linter.unusedSimpArgs false
namespace Go.Proofs.YtemdgidnhgcafaaGreatDoor.Ab
open Go Go.RowKit
section
variable {P:aPf} {t e:aPg} {x y v:V} {h:I}
def fm(P:aPf)(t:aPg):Option (List (Nat×Nat) ⊕ Nat) :=
 match Qq P t with
 | some a=>eL (.inl a)
 | none=>match C5 P t with
  | some (_,e)=>(cO P e).map .inr
  | none=>eN
def QJ(zs:Option (List V))(b:Option (List (Nat×Nat) ⊕ Nat))(a:List (Nat×V)):Option V :=
 match zs,b with
 | some zs,eL (.inl j)=>(rS (λi=>j[i]?) zs a).map .agg
 | some zs,eL (.inr sz)=>(rS (λi=>eL (i*sz,sz)) zs a).map .agg
 | _,_=>eN
theorem anO{a:List (Nat×V)}:Gd P t a=QJ (hA P t) (fm P t) a:=by
 unfold Gd QJ fm;cases hA P t with
 | none=>rfl
 | some zs=>
  cases Qq P t with
  | some i=>rfl
  | none=>
   simp only;cases C5 P t with
   | none=>rfl
   | some p=>
    obtain⟨n,e⟩:=p;simp only;cases cO P e<;>rfl
theorem anP{zs:List V}{j:List (Nat×Nat)}{a:List (Nat×V)}:QJ (eL zs) (eL (.inl j)) a=(rS (λi=>j[i]?) zs a).map .agg:=nr rfl
theorem anQ{zs:List V}{sz:Nat}{a:List (Nat×V)}:QJ (eL zs) (eL (.inr sz)) a=(rS (λi=>eL (i*sz,sz)) zs a).map .agg:=nr rfl
theorem anR{a:Nat->Option (Nat×Nat)}{i:List V}:rS a i []=eL i:=nr rfl
def Vx(a:Nat->Option (Nat×Nat))(j:List V)(p:Option (Nat×Nat))(i:Option (List V))(r:List (Nat×V)):Option (List V) :=
 match p,i with
 | some (off,size),eL i=>if i.length=size/\off+size<=j.length then rS a (tL j off i) r else eN
 | _,_=>eN
theorem anS{a:Nat->Option (Nat×Nat)}{j:List V}{i:Nat}{r:List (Nat×V)}:rS a j ((i,v)::r)=Vx a j (a i) v.cells r:=by
 show(match a i,v.cells with|some (off,size),eL m=>_|_,_=>eN)=_;unfold Vx;rfl
theorem anT{a:Nat->Option (Nat×Nat)}{i j:List V}{off size:Nat}{r:List (Nat×V)}:Vx a i (eL (off,size)) (eL j) r=if j.length=size/\off+size<=i.length then rS a (tL i off j) r else none:=nr rfl
def Vy(P:aPf)(t:aPg)(k:Nat):Option (Nat×Option Nat) :=
 match P.underlying t with
 | some (.struct a)=>match a[k]? with
  | some f=>match ox P f.type,cO P f.type with
   | some e6,eL n=>eL (f.offset,eL n)
   | some fr,eL _=>eL (f.offset,eN)
   | _,_=>eN
  | none=>eN
 | _=>eN
def Vz(p:Option (Nat×Option Nat))(x:V):Option V :=
 match p,x with
 | some (off,eL n),.agg a=>eL (.agg ((a.drop off).take n))
 | some (off,eN),.agg a=>a[off]?
 | _,_=>eN
theorem anU{k:Nat}:JE P t x k=Vz (Vy P t k) x:=by
 unfold JE Vz Vy;cases P.underlying t with
 | none=>rfl
 | some d=>
  cases d<;>try rfl
  rename_i j;cases a:j[k]? with
  | none=>cases x<;>simp[a]
  | some f=>
   cases i:ox P f.type with
   | none=>cases x<;>simp[a,i,Ge]
   | some b=>cases b<;>cases m:cO P f.type<;>cases x<;>simp[a,i,m,Ge]
theorem anV{off:Nat}{a:List V}:Vz (eL (off,eN)) (.agg a)=a[off]?:=nr rfl
theorem BH{sz:Nat}(h:dU P t=eL sz):∃e,P.underlying t=eL (.slice e)/\cO P e=eL sz:=by
 unfold dU at h;split at h
 .rename_i e a;exact⟨e,a,h⟩
 .cases h
theorem aa4{sz n:Nat}{a:List V}{i j:Option V}{l m:Nat}(q:dU P t=eL sz)(s:mB i=eL l)(u:fk n j=eL m)(z:l<=m)(A:m<=n)(aw:a.length=n*sz) :
  kX P t (.ag n a) i j eN=eL (.ag (m-l) ((a.drop (l*sz)).take ((m-l)*sz))):=by
 obtain⟨e,B,C⟩:=BH q;unfold kX;have D:fk n (eN:Option V)=eL n:=rfl;simp only[B,C,s,u,D];have:l*sz<=a.length:=by rw[aw];exact ay6 _ (by omega)
 simp[C0,z,A,this]
theorem aa5{sz n:Nat}{a:List V}{k:aPh}{l:Int}(i:dU P t=eL sz)(j:0<=l)(q:l<=n)(aw:a.length=n*sz) :
  kX P t (.ag n a) (eL (.int k l)) eN eN=eL (.ag (n-l.toNat) (a.drop (l.toNat*sz))):=by
 rw[aa4 i (l:=l.toNat) (m:=n) (by simp[mB,xG,j]) rfl (by omega) (BY _) aw];rw[ajE];rw[azk,aw,Nat.sub_mul]
 first|done|exact BY _
theorem anW{sz n:Nat}{a:List V}{k:aPh}{m:Int}(i:dU P t=eL sz)(j:0<=m)(q:m<=n)(aw:a.length=n*sz) :
  kX P t (.ag n a) eN (eL (.int k m)) eN=eL (.ag m.toNat (a.take (m.toNat*sz))):=by
 rw[aa4 i (l:=0) (m:=m.toNat) rfl (by simp[fk,xG,j]) (D8 _) (by omega) aw];simp
theorem JW{sz n:Nat}{cs:List V}{k:aPh}{i:Int}(a:dU P t=eL sz)(j:0<=i)(m:i<n)(aw:cs.length=n*sz) :
  hC P t (.ag n cs) (.int k i)=eL (.at (cs.drop (i.toNat*sz))):=by
 rw[Es,a,aaO,gr ⟨j,m,by rw[aw];exact ay6 _ (by omega)⟩]
def Lw(T:Option mi)(len:Nat)(a:List (Nat×V))(h:I):Option (V×I) :=
 match T with
 | some T=>if len*T.sz<=2^24/\len<=2^24 then(rS (λi=>eL (i*T.sz,T.sz)) (made T.zs len) a).map λj=>(.bh h.n 0 len len,h.push (.cells j T.e eN))else eN
 | none=>eN
theorem nm{len:Nat}{a:List (Nat×V)}{T:mi}(j:gM P t=eL T):am P t len a h=Lw (eL T) len a h:=by
 obtain⟨m,q,bq,u,s,_⟩:=tr j;unfold am Lw;simp only[m,bq,q,s,true_and];split
 .cases rS (λi=>eL (i*T.sz,T.sz)) (made T.zs len) a<;>rfl
 .rfl
theorem QK{T:mi}{l c:Nat}{k k':aPh}(a:gM P t=eL T)(i:l<=c)(j:T.av*c<=140737488355328)(m:c<=140737488355328) :
  Bx P t (.int k (l:Int)) (.int k' (c:Int)) h=eL (.bh h.n 0 l c,h.push (.cells (made T.zs c) T.e eN)):=by
 obtain⟨q,s,bq,u,z,_⟩:=tr a;unfold Bx;simp[q,xG,s,u,bq,z,i,j,m]
theorem aa6{T:mi}{tx:aPg}{i cap n:Nat}{c m:List V}{src:V}{h:I}(z:gM P t=eL T)(q:h.get i=.cells c T.e eN)(a:zC src=eL n)(s:vy T.sz n src h=eL m)
  (A:m.all (·.one)=e6) (B:m.length<=c.length) :
  ∃h',xH P t (.bh i 0 n cap) src h=eL (.int gj n,h')/\h'=h.set i (.cells (lay c 0 m) T.e eN):=by
 obtain⟨C,G,bq,H,L,_⟩:=tr z;have D:Nat.min n n=n:=Nat.min_self _;unfold xH;simp only[C,bq,a,D,s];by_cases j:n=0
 .subst j;have E:m=[]:=by
   have:=(F s);simpa using this
  subst E;refine⟨h,by simp,?_⟩;rw[show lay c 0 []=c by simp[lay]];exact(QH q).symm
 .rw[gQ j];simp only[q,ayB];rw[gr ⟨B,A⟩];exact⟨_,rfl,rfl⟩
where
 F {sz n:Nat} {x:V} {h:I} {u:List V} (a:vy sz n x h=eL u):u.length=n*sz:=by
  unfold vy at a;split at a
  .split at a
   .rename_i j;simp at a;subst a;simp[j]
   .cases a
  .split at a
   .rename_i j;simp at a;subst a;simp[j]
   .cases a
  .split at a
   .split at a
    .simp at a;subst a;simp;omega
    .cases a
   .cases a
  .split at a
   .simp at a;subst a;simp;omega
   .cases a
  .split at a
   .rename_i aw;simp at a;subst a;have:=byteCells_length;rw[ajB,ajD,this];rw[aw.1];omega
   .cases a
  .cases a
end
theorem cn.args{P:aPf}{bJ:aPn}{args z:List V}{h A:I}{R:V->I->Prop}{E:I->Prop}(aw:aE args h z A)(F:cn P bJ z A R E):cn P bJ args h R E:=by
 intro ρ B C w i G aW;obtain⟨ρ1,D,H,L⟩:=aw ρ B C w _ G aW;refine(F ρ1 B C w i H L).mono λe w' U=>?_;rcases U with⟨ρ',r,M,h',s,N,u,j,O⟩|⟨ρ',Q,h',s,S,u,j,T⟩
 .exact .inl ⟨ρ',r,M,h',s,N,u,D.trans j,O⟩
 .exact .inr ⟨ρ',Q,h',s,S,u,D.trans j,T⟩
theorem au.args{P:aPf}{bJ:aPn}{args i:List V}{h j:I}{R:V->I->Prop}(aw:aE args h i j)(s:au P bJ i j R):au P bJ args h R:=cn.args aw s
theorem aK.lit{h:I}{c:List V}{e:aPg}{n sz:Nat}(aw:c.length=n*sz)(s:n<b9)(bq:0<sz):∃i,aK (.bh h.n 0 n n) (h.push (.cells c e eN)) (.ag n c) i/\J h i kR:=by
 have j:=Own.fresh (h:=h) (e:=e) c n n aw (BY _) s;rw[<-aw,azB]at j;obtain⟨i,u,z⟩:=aK.own j aw bq;exact⟨i,u,(J.push h _ kR).trans z λk B A=>by simp[bb,aS]at A;omega⟩
variable {P:aPf} {t:aPg} {T:mi}
theorem QL{k:aPh}{n:Nat}:mB (eL (.int k (n:Int)))=eL n:=by simp[mB,xG]
theorem anX{k:aPh}{l n:Nat}:fk l (eL (.int k (n:Int)))=eL n:=by simp[fk,xG]
theorem QM{kk:aPh}(E:dU P t=eL 1){h:I}{e:aPg}{v:V}{j:List V}(u:Own h e 1 v j){k:Nat}(q:k<j.length) :
  ∃i,hC P t v (.int kk (k:Int))=eL (.ptr i k)/\aS v=eL i/\(∃r,cI (h.get i) k=eL (j[k]::r)) /\
   ∀x,x.one=e6->∃ob,bD (eL 1) (h.get i) k [x]=eL ob/\Own (h.set i ob) e 1 v (j.set k x)/\J h (h.set i ob) (bb v):=by
 rcases u with⟨_,rfl⟩|⟨i,m,cap,c,A,rfl,hi,B,a,s,C⟩
 .simp at q
 .simp only[axD]at a s C;have G:m<=c.length:=by
   have:=iy azl s;rw[ajB,a]at this;omega
  have D:j[k]?=c[k]?:=by rw[<-s,ay7,gr (by omega)]
  have z:k<c.length:=by omega
  have F:j[k]=c[k]:=by
   rw[Jt q,Jt z]at D;exact Option.some.inj D
  refine⟨i,?_,rfl,⟨c.drop (k+1),?_⟩,λx u=>?_⟩
  .rw[Es,E,Vi,gr ⟨by omega,by omega⟩];simp
  .rw[B,i9,gr (by omega),ay0 z,F]
  .refine⟨.cells (c.set k x) e A,?_,.inr ⟨i,m,cap,c.set k x,A,rfl,hi,by simp[I.set],by simp[a],?_,?_⟩,(J.set h i _).mono λk q=>by subst q;rfl⟩
   .rw[B,rb u,gr z]
   .rw[axD,<-s,List.take_set]
   .simpa using C
theorem wr{h:I}{e:aPg}{v:V}{m:List V}{sz:Nat}(s:Own h e sz v m)(A:0<sz):∃n,zC v=eL n/\m.length=n*sz/\vy sz n v h=eL m:=by
 rcases s with⟨rfl|rfl,rfl⟩|⟨i,j,cap,c,B,rfl,hi,u,a,q,C⟩
 .exact⟨0,rfl,by simp,rfl⟩
 .exact⟨0,rfl,by simp,rfl⟩
 .have z:j*sz<=c.length:=by
   have:=iy azl q;rw[ajB,a]at this;omega
  exact⟨j,rfl,a,by simp[vy,u,z,q]⟩
theorem ws{tx:aPg}(q:gM P t=eL T){h:I}{src:V}{n:Nat}{cs:List V}{k k':aPh}(u:zC src=eL n)(z:∀h',J h h' kR->vy T.sz n src h'=eL cs)(A:cs.all (·.one)=e6)(a:cs.length=n*T.sz)
  (j:T.av*n<=140737488355328) (m:n<=140737488355328) :
  ∃j m,Bx P t (.int k (n:Int)) (.int k' (n:Int)) h=eL (.bh h.n 0 n n,j)/\xH P t (.bh h.n 0 n n) src j=eL (.int gj n,m)/\Own m T.e T.sz (.bh h.n 0 n n) cs/\J h j kR/\J h m kR:=by
 obtain⟨D,E,bq,F,B,_⟩:=tr q;have C:(made T.zs n).length=n*T.sz:=by rw[C3,B]
 have s:J h (h.push (.cells (made T.zs n) T.e eN)) kR:=J.push _ _ _;obtain⟨G,aw,rfl⟩:=aa6 (P:=P) (t:=t) (T:=T) (tx:=t) (i:=h.n) (cap:=n) (c:=made T.zs n) (src:=src) (h:=h.push (.cells (made T.zs n) T.e eN)) q ac u (z _ s) A (by omega);refine⟨_,_,QK q (BY _) j m,aw,.inr ⟨h.n,n,n,_,eN,rfl,?_,aM,a,?_,.inl ⟨by unfold b9;omega,?_,BY _⟩⟩,s,s.kj (BY _) _⟩
 .rw[jM,dn];omega
 .simp[lay,a]
 .rw[q9 _ _ _ (by omega),C];exact BY _
inductive JX where
 | bool|int (k:aPh)|str|bh (s:JX)|unit|cat (a b:JX)
def JX.width:JX->Nat
 | .unit=>0
 | .cat a b=>a.width+b.width
 | _=>1
def JX.fits:JX->List V->Prop
 | .bool,l=>∃b,l=[.bool b]
 | .int k,l=>∃n,l=[.int k n]/\(Lit.int k n).wf=e6
 | .str,l=>∃s,l=[.string s]
 | .bh s,l=>∃es:List (List V),l=[.ag es.length es.flatten]/\∀e∈es,s.fits e
 | .unit,l=>l=[]
 | .cat a b,l=>∃i j,l=i++j/\a.fits i/\b.fits j
theorem aa7{α:Type}{dM:Nat->α->Prop}:∀(n:Nat),(∀i,i<n->∃e,dM i e)->∃j:List α,j.length=n/\∀i e,j[i]?=eL e->dM i e
 | 0,_=>⟨[],rfl,by simp⟩
 | n+1,h=>by
  obtain⟨j,m,q⟩:=aa7 n λi hi=>h i (by omega);obtain⟨e,s⟩:=h n (by omega);refine⟨j++[e],by simp[m],λi x a=>?_⟩;by_cases hi:i<j.length
  .rw[azW hi]at a;exact q i x a
  .rw[azX (by omega)]at a;have:i-j.length=0:=by
    have:=(axB.1 a).1;simp at this;omega
   rw[this]at a;simp at a;subst a;rw[show i=n by omega];exact s
theorem aa8{α:Type}{sz:Nat}(i:0<sz):∀{a:List (List α)} {k:Nat} {v:α},(∀e∈a,e.length=sz)->a.flatten[k]?=eL v->∃e,a[k / sz]?=eL e/\e[k % sz]?=eL v
 | [],k,v,_,h=>by simp at h
 | e::a,k,v,j,h=>by
  have q:=j e (by simp);rw[aC3]at h;by_cases m:k<sz
  .rw[azW (by omega)]at h;exact⟨e,by rw[Nat.div_eq_of_lt m];rfl,by rw[Nat.mod_eq_of_lt m];exact h⟩
  .rw[azX (by omega),q]at h;obtain⟨x,s,u⟩:=aa8 i (λe h=>j e (by simp[h])) h;refine⟨x,?_,?_⟩
   .rw[show k / sz=(k-sz) / sz+1 by rw[Nat.div_eq_sub_div i (by omega)]];simpa using s
   .rw[Nat.mod_eq_sub_mod (by omega)];exact u
theorem aa9{α:Type}{sz:Nat}:∀{a:List (List α)},(∀e∈a,e.length=sz)->a.flatten.length=a.length*sz
 | [],_=>by simp
 | e::a,h=>by
  rw[aC3,D9,h e (by simp),aa9 λe i=>h e (by simp[i]),axF,ayC];omega
section
variable {H:Type} {enc:aPg×aPi->H} {P:aPf} {w:aPj} {base:Nat} {spare:Nat->Bool} {held:Bool}
theorem anY{a:Addr}{n:Nat}{i:List aPi}(h:w.cells? base a n=eL i):i.length=n/\∀j,j<n->w.cell? (a.add j)=i[j]?:=by
 unfold aPj.cells? at h;split at h
 case isFalse=>cases h
 exact⟨by simpa using mapM_some_length h,λj m=>by simpa using mapM_some_get h j j (by simp[m])⟩
end
theorem m8{H:Type}{P:aPf}{e:aPg}{n:Nat}:∀{l:List (aPo H)} {d:aPo H},d∈l->n∈d.weights P e->n∈aPo.weightsAll P e l
 | [],_,h,_=>by simp at h
 | x::l,d,h,a=>by
  simp only[aPo.weightsAll,List.mem_append];rcases IN.1 h with rfl|h
  .exact .inl a
  .exact .inr (m8 h a)
section
variable {H:Type} {enc:aPg×aPi->H} {P:aPf} {w:aPj} {base:Nat} {spare:Nat->Bool} {held:Bool}
end
variable {P:aPf} {t:aPg} {T:mi}
theorem anZ{tx:aPg}(u:gM P t=eL T){h:I}{a:V}{n c:Nat}{s:List V}{k k':aPh}(B:zC a=eL n)(C:∀h',J h h' kR->vy T.sz n a h'=eL s)(D:s.all (·.one)=e6)(j:s.length=n*T.sz)
  (z:n<=c) (m:T.av*c<=140737488355328) (q:c<=140737488355328) :
  ∃m q,Bx P t (.int k (n:Int)) (.int k' (c:Int)) h=eL (.bh h.n 0 n c,m)/\xH P t (.bh h.n 0 n c) a m=eL (.int gj n,q)/\Own q T.e T.sz (.bh h.n 0 n c) s/\J h m kR/\J h q kR:=by
 obtain⟨H,L,bq,M,E,_⟩:=tr u;have F:(made T.zs c).length=c*T.sz:=by rw[C3,E]
 have G:=ay6 T.sz z;have A:J h (h.push (.cells (made T.zs c) T.e eN)) kR:=J.push _ _ _;obtain⟨N,aw,rfl⟩:=aa6 (P:=P) (t:=t) (T:=T) (tx:=t) (i:=h.n) (cap:=c) (c:=made T.zs c) (src:=a) (h:=h.push (.cells (made T.zs c) T.e eN)) u ac B (C _ A) D (by omega);refine⟨_,_,QK u z m q,aw,.inr ⟨h.n,n,c,_,eN,rfl,?_,aM,j,?_,.inl ⟨by unfold b9;omega,?_,z⟩⟩,A,A.kj (BY _) _⟩
 .rw[jM,dn];omega
 .unfold lay;rw[List.take_zero,List.nil_append,List.take_append_of_le_length (by omega),ajE (by omega)]
 .rw[q9 _ _ _ (by omega),F];exact BY _
def QN(P:aPf)(l:Nat)(rest:Code)(Q:Exit->Act->aPj->Prop):Nat->Act->aPj->Prop
 | 0,_,_=>False
 | m+1,a,w=>rest.wp P (Exit.jump l (QN P l rest Q m) Q) a w
theorem an0{P:aPf}{c rest:Code}{l:Nat}{Q:Exit->Act->aPj->Prop}{a:Act}{w:aPj}(N:findLabel c l=eL rest)(m:Nat)
  (first:c.wp P (Exit.jump l (QN P l rest Q m) Q) a w):(Code.scope c).wp P Q a w:=by
 intro b k A;have L:gotoIn l (.inScope c::k)=eL (.code rest::.inScope c::k):=by simp[gotoIn,N]
 have B:∀m a w,QN P l rest Q m a w->∃e M w',Q e M w'/\Arrives P (lone (b.at a (.code rest::.inScope c::k)) A w) b k A e M w':=by
  intro m
  induction m with
  | zero=>intro a w h;exact h.elim
  | succ m ih=>
   intro a w O;obtain⟨e,j,q,s,u⟩:=O b (.inScope c::k) A;cases e with
   | normal=>exact⟨.normal,j,q,s,Steps.trans u (.one step_inScope)⟩
   | exit id=>exact⟨.exit id,j,q,s,λC D=>u C (by simp[exitTo,D])⟩
   | goto R=>
    obtain⟨rfl,E⟩:=s;obtain⟨F,G,H,z,i⟩:=ih j q E;exact⟨F,G,H,z,.of_steps (u _ L) i⟩
   | ret=>exact⟨_,j,q,s,u⟩
   | panic S=>exact⟨_,j,q,s,u⟩
   | outgrown=>exact⟨_,j,q,s,u⟩
 obtain⟨e,j,q,s,u⟩:=first b (.inScope c::k) A
 cases e with
 | normal=>exact⟨.normal,j,q,s,.head step_scope (Steps.trans u (.one step_inScope))⟩
 | exit id=>exact⟨.exit id,j,q,s,λC D=>.head step_scope (u C (by simp[exitTo,D]))⟩
 | goto R=>
  obtain⟨rfl,E⟩:=s;obtain⟨F,G,H,z,i⟩:=B m j q E;exact⟨F,G,H,z,.of_steps (.head step_scope (u _ L)) i⟩
 | ret=>exact⟨_,j,q,s,.of_steps (.one step_scope) u⟩
 | panic S=>exact⟨_,j,q,s,.of_steps (.one step_scope) u⟩
 | outgrown=>exact⟨_,j,q,s,.of_steps (.one step_scope) u⟩
def JY(l:Nat)(a:aj->I->Prop)(Q:cR->aj->I->Prop):cR->aj->I->Prop
 | .goto i,f,h=>i=l/\a f h
 | e,f,h=>Q e f h
section
variable {l:Nat} {BI:aj->I->Prop} {Q:cR->aj->I->Prop} {f:aj} {h:I}
theorem Dg:JY l BI Q .ret f h=Q .ret f h:=nr rfl
theorem an1{j:Nat}:JY l BI Q (.goto j) f h=(j=l/\BI f h):=nr rfl
end
theorem aT.EA{P:aPf}{n l:Nat}{c b:Code}{α:Type}(O:findLabel c l=eL (.seq .skip b)){Q:cR->aj->I->Prop}{f:aj}{h:I}(C:α->aj->I->Prop)(μ:α->Nat)
  (hμ:∀x f h,C x f h->μ x<1000000000000000000000)
  (E:∀x f h,C x f h->aT P n b (JY l (λi h'=>@sx ⟨∃y,C y i h'/\μ y<μ x⟩) Q) f h)
  (first:(∀x f h,C x f h->aT P n b (JY l (λi h'=>∃y,C y i h') Q) f h)->aT P n c (JY l (λi h'=>∃y,C y i h') Q) f h):aT P n (.scope c) Q f h:=by
 have R:∀x f h,C x f h->aT P n b (JY l (λi h'=>∃y,C y i h') Q) f h:=λx f h S=>(E x f h S).mono λe i h' H=>by
  cases e with
  | goto Z=>exact⟨H.1,let ⟨y,F,_⟩:=H.2;⟨y,F⟩⟩
  | _=>exact H
 intro ρ B G a w L M;have key:∀m x f h,C x f h->μ x<m->∀ ρ1:Ren,ρ.le ρ1->∀a w,a8 ρ1 B G h w->fw ρ1 n f a->QN P l (.seq .skip b) (oR n B G ρ Q) m a w:=by
  intro m
  induction m with
  | zero=>intro x f h _ W;omega
  | succ m ih=>
   intro x f h X W ρ1 j a w L M;refine wp_mono ((aT.seq (.skip (E x f h X))) ρ1 B G a w L M) λe N w' ⟨ρ',Y,i,h',D,s,u,z,A⟩=>?_;cases Y<;>cases e<;>simp only[tq]at D
   .exact⟨ρ',.normal,i,h',trivial,s,u,j.trans z,A⟩
   .exact⟨ρ',.exit _,i,h',D,s,u,j.trans z,A⟩
   .obtain⟨rfl,y,F,aC⟩:=A;exact⟨D.symm,ih y i h' F (by omega) ρ' (j.trans z) N w' s u⟩
   .exact⟨ρ',.ret,i,h',trivial,s,u,j.trans z,A⟩
   .exact⟨ρ',.panic,i,h',D,s,u,j.trans z,A⟩
 refine an0 O 1000000000000000000000 (wp_mono (first R ρ B G a w L M) λe N w' ⟨ρ',x,i,h',D,s,u,z,A⟩=>?_);cases x<;>cases e<;>simp only[tq]at D
 .exact⟨ρ',.normal,i,h',trivial,s,u,z,A⟩
 .exact⟨ρ',.exit _,i,h',D,s,u,z,A⟩
 .obtain⟨rfl,y,F⟩:=A;exact⟨D.symm,key _ y i h' F (hμ y i h' F) ρ' z N w' s u⟩
 .exact⟨ρ',.ret,i,h',trivial,s,u,z,A⟩
 .exact⟨ρ',.panic,i,h',D,s,u,z,A⟩
def Gt{α:Type}(b:α->Nat):List α->Nat
 | []=>0
 | x::r=>b x+Gt b r
structure an2{H:Type}(b:aPo H->Nat):Prop where
 lit:∀l,1<=b (.lit l)
 str:∀av:List UInt8,av.length+1<=b (.lit (.string av))
 nil:1<=b .nil
 slice:∀es sp,Gt b es+1<=b (.slice es sp)
 agg:∀ps,Gt b ps+1<=b (.agg ps)
section
variable {H:Type} {an3:aPo H->Nat} (aba:an2 an3)
include aba
variable {enc:aPg×aPi->H} {P:aPf} {w:aPj} {base:Nat} {spare:Nat->Bool} {held:Bool}
end
section
variable {H:Type} {enc:aPg×aPi->H} {P:aPf} {w:aPj} {base:Nat} {spare:Nat->Bool} {held:Bool}
end
theorem Acc.step{u h h':I}{e:aPg}{sz:Nat}{s r:V}{z cs':List V}(a:Acc u h e sz s z)(o:Own h' e sz r cs')(k:J h h' (bb s))(d:b6 h s r):Acc u h' e sz r cs' :=
 ⟨o,a.ai.trans k λj i hi=>by have:=a.new j hi;omega,λj i=>by
  rcases d with d|d
  .exact a.new j (d▸i)
  .exact UN a.ai.n (d j i)⟩
theorem Acc.on{i h h':I}{e:aPg}{sz:Nat}{s:V}{j:List V}(a:Acc i h e sz s j)(k:J h h' kR):Acc i h' e sz s j :=
 ⟨a.own.aY k,a.ai.trans' k,a.new⟩
theorem Acc.conv{j h:I}{e:aPg}{sz:Nat}{s:V}{u i:List V}(a:Acc j h e sz s u)(aw:u=i):Acc j h e sz s i:=aw▸a
theorem Pure.acc{P:aPf}{bJ:aPn}{args:List V}{h:I}{e:aPg}{sz n:Nat}{i:List V}(j:bc i)(s:i.length=n*sz)(bq:0<sz)
  (aw:au P bJ args h λr h'=>Acc h h' e sz r i):Pure P bJ args h (.ag n i) :=
 Pure.of (bf.ag j) (aw.mono λr h' a=>a.cast s bq)
section
variable {P:aPf} {f:aj} {h:I}
theorem an4{t:Tmp}:qE P f h (.tmp t)=eL (f t):=rfl
theorem an5{a:Tmp}{t:aPg}:qE P f h (.cell a t)=zw P t (f a) h:=rfl
def Gu(x y:Option V):Option V:=match x,y with|some a,eL b=>eL (.tuple [a,b])|_,_=>eN
def Gv(x y z:Option V):Option V:=match x,y,z with|some a,eL b,eL c=>eL (.tuple [a,b,c])|_,_,_=>eN
theorem an6{a b:V}:Gu (eL a) (eL b)=eL (.tuple [a,b]):=rfl
theorem an7{a b c:V}:Gv (eL a) (eL b) (eL c)=eL (.tuple [a,b,c]):=rfl
theorem an8{r:aPv}:uZ P [r] f h=qE P f h r:=rfl
theorem an9{r s:aPv}:uZ P [r,s] f h=Gu (qE P f h r) (qE P f h s):=by
 cases a:qE P f h r<;>cases i:qE P f h s<;>simp[uZ,Gu,a,i]
theorem aoa{r s t:aPv}:uZ P [r,s,t] f h=Gv (qE P f h r) (qE P f h s) (qE P f h t):=by
 cases a:qE P f h r<;>cases i:qE P f h s<;>cases j:qE P f h t<;>simp[uZ,Gv,a,i,j]
end
def ax(l:List Int):List V:=l.map (kA gj)
def ua(l:List Bool):List V:=l.map V.bool
theorem ht(l:List Int):(ax l).length=l.length:=by simp[ax]
theorem aob(l:List Bool):(ua l).length=l.length:=by simp[ua]
theorem y1(l:List Int):bc (ax l):=bc.map λ_ _=>bf.int _ _
theorem aoc(l:List Bool):bc (ua l):=bc.map λ_ _=>bf.bool _
theorem Ly(l:List Int):(ax l).all (·.one)=true:=by
 rw[ayy];intro x a;obtain⟨n,_,rfl⟩:=List.mem_map.1 a;rfl
theorem VA(a b:List Int):ax (a++b)=ax a++ax b:=by simp[ax]
theorem VB{l:List Int}{k:Nat}(a:k<l.length):(ax l)[k]'(by rw[ht];exact a)=.int gj l[k]:=by simp[ax]
theorem QP(l:List Int)(k:Nat)(x:Int):(ax l).set k (.int gj x)=ax (l.set k x):=by simp[ax,List.map_set]
theorem JZ{P:aPf}{α:Type}(f:α->V){l:List α}{k:Nat}(a:k<l.length){t:aPg}{i:aPh}(j:dU P t=eL 1) :
  hC P t (.ag l.length (l.map f)) (.int i (k:Int))=eL (.at (f l[k]::(l.drop (k+1)).map f)):=by
 rw[JW j (by omega) (by omega) (by simp),ayw,axD,<-List.map_drop,ay0 a];rfl
theorem vH{P:aPf}{l:List Int}{k:Nat}(a:k<l.length){t:aPg}{kk:aPh}(i:dU P t=eL 1) :
  hC P t (.ag l.length (ax l)) (.int kk (k:Int))=eL (.at (.int gj l[k]::ax (l.drop (k+1)))):=JZ _ a i
theorem VC{P:aPf}{l:List Bool}{k:Nat}(a:k<l.length){t:aPg}{kk:aPh}(i:dU P t=eL 1) :
  hC P t (.ag l.length (ua l)) (.int kk (k:Int))=eL (.at (.bool l[k]::ua (l.drop (k+1)))):=JZ _ a i
theorem km{i n:Nat}(h:i<n)(a:n<=2^62):aPh.i64.wrap ((i:Int)+1)=((i+1:Nat):Int):=by rw[kp _ (by omega)];rfl
theorem abb{n:Nat}(h:n<2^63):aPh.i64.wrap (n:Int)=(n:Int):=kp _ (by omega)
theorem VD{n:Nat}(h:n<2^64):aPh.u64.wrap (n:Int)=(n:Int):=by rw[aPh.wrap_u64];omega
theorem aod{α:Type}(f:α->V)(l:List α):(l.map λn=>[f n]).flatten=l.map f:=by
 induction l with
 | nil=>rfl
 | cons n l ih=>simp[ih]
theorem wf_i64{a:Int}(h:(Lit.int gj a).wf=e6):-2^63<=a/\a<2^63:=by
 simp only[Lit.wf,are,ig]at h;have i:aPh.i64.min=-2^63:=rfl;have j:aPh.i64.max=2^63-1:=rfl;omega
theorem wf_u8{a:Int}(h:(Lit.int .u8 a).wf=e6):∃n:Nat,a=n/\n<256:=by
 simp only[Lit.wf,are,ig]at h;have i:aPh.u8.min=0:=rfl;have j:aPh.u8.max=255:=rfl;exact⟨a.toNat,by omega,by omega⟩
theorem aK.h3(h:I):aK .ah h (.ag 0 []) h:=fun ρ B s w u i j=>by
 cases j;exact⟨ρ,Ren.le.refl ρ,i,.kC eN 0 (by simp)⟩
theorem aE.skip{v:V}{l i:List V}{h:I}(b:aE l h i h):aE (v::l) h (v::i) h:=aE.cons (aK.refl v h) b
theorem aE.last{v i:V}{h:I}(a:aK v h i h):aE [v] h [i] h:=aE.cons a (aE.refl [] h)
theorem Own.fz{h:I}{e:aPg}{sz:Nat}(c:List V)(n:Nat)(aw:c.length=n*sz)(i:n<b9):Own (h.push (.cells c e eN)) e sz (.bh h.n 0 n n) c:=by
 have j:=Own.fresh (h:=h) (e:=e) c n n aw (BY _) i;rwa[<-aw,azB]at j
def kD:V->Option Nat
 | .ptr i _=>eL i
 | .bh i _ _ _=>eL i
 | .map i=>eL i
 | _=>eN
def rf(bK:aPk->V):Op->Option Nat
 | .load _ a=>kD (bK a)
 | .lookup _ m _ _=>kD (bK m)
 | .convert _ _ x=>kD (bK x)
 | .call ⟨.builtin .len,args,_⟩=>(args.toList.map bK).head?.bind kD
 | _=>eN
def BJ:Op->Bool
 | .entry _=>fr
 | .call ⟨.builtin .len,args,ts⟩=>args.size==1&&ts.size==1
 | o=>pQ o
def Gw(h:I):Prop:=∀j,h.n<=j->h.get j=.dead
theorem a8.wf{ρ:Ren}{B:Nat}{D w:aPj}{h:I}(R:a8 ρ B D h w):Gw h:=λj E=>by
 have z:=R.heap.mQ j E;have u:=R.heap.obj j;cases A:h.get j with
 | dead=>rfl
 | cells c e F=>rw[A]at u;obtain⟨b,C,arr,i,_⟩:=u;rw[z]at i;cases i
 | map es c=>rw[A]at u;obtain⟨b,C,arr,i,_⟩:=u;rw[z]at i;cases i
 | iter m s l st=>rw[A]at u;obtain⟨b,C,G,H,i,_⟩:=u;rw[z]at i;cases i
 | k0 b mk L=>rw[A]at u;obtain⟨C,arr,i,_⟩:=u;rw[z]at i;cases i
section
variable {P:aPf} {h h':I} {M:Nat->Prop}
theorem J.live(j:Gw h)(s:J h h' M){i:Nat}(u:¬M i)(z:h.get i≠.dead):h'.get i=h.get i:=by
 rcases aAi i h.n with A|B
 .exact s.get i A u
 .exact absurd (j i B) z
theorem aoe(a:J h h' M)(f:aj)(x:aPk):f.eval h' x=f.eval h x:=by
 cases x<;>simp[aj.eval,a.glob]
theorem aof(m:Gw h)(q:J h h' M){x:V}(s:∀i,kD x=eL i->¬M i){j:List V}(a:tp h x=eL j):tp h' x=eL j:=by
 cases x<;>simp[tp]at a⊢
 case ptr i o=>
  have u:h.get i≠.dead:=λU=>by rw[U]at a;simp at a
  rw[q.live m (s i rfl) u];exact a
 case «at» cs'=>exact a
theorem aog(m:Gw h)(q:J h h' M){t:aPg}{x:V}(s:∀i,kD x=eL i->¬M i){v:V}(a:zw P t x h=eL v):zw P t x h'=eL v:=by
 rw[aaM]at a⊢;cases j:tp h x with
 | none=>rw[j]at a;unfold cw at a;split at a<;>simp_all
 | some u=>rw[j]at a;rw[aof m q s j];exact a
theorem aoh{t:aPg}{m k:V}{ok:Bool}(e:∀i,kD m=eL i->h'.get i=h.get i):ni P t m k ok h'=ni P t m k ok h:=by
 unfold ni;cases eQ P t with
 | none=>rfl
 | some q=>
  obtain⟨a,j,d⟩:=q;simp only;split
  .rfl
  .rw[e _ rfl]
  .rfl
theorem aoi{s d:aPg}{x:V}(e:∀i,kD x=eL i->h'.get i=h.get i):oc P s d x h'=oc P s d x h:=by
 unfold oc;cases(oT x).bind λa=>eu P (convert s d a)with
 | some v=>rfl
 | none=>
  simp only;split
  .rfl
  .rw[e _ rfl]
  .rfl
  .rfl
theorem aoj{t:aPg}{x:V}(e:∀i,kD x=eL i->h'.get i=h.get i):dX P t x h'=dX P t x h:=by
 unfold dX;split
 all_goals first|rfl|rw[e _ rfl]
theorem aok{t:aPg}{m k:V}{ok:Bool}(s:∀i,kD m=eL i->h.get i=.dead){v:V}(a:ni P t m k ok h=eL v):ni P t m k ok h'=eL v:=by
 unfold ni at a⊢;cases j:eQ P t with
 | none=>rw[j]at a;cases a
 | some q=>
  rw[j]at a;obtain⟨u,z,d⟩:=q;simp only at a⊢;split at a
  .exact a
  .rw[s _ rfl]at a;cases a
  .cases a
theorem aol{s d:aPg}{x:V}(q:∀i,kD x=eL i->h.get i=.dead){v:V}(j:oc P s d x h=eL v):oc P s d x h'=eL v:=by
 unfold oc at j⊢;cases m:(oT x).bind λa=>eu P (convert s d a)with
 | some u=>rw[m]at j;exact j
 | none=>
  rw[m]at j;simp only at j⊢;split at j
  .exact j
  .split at j
   .rw[q _ rfl]at j;cases j
   .cases j
  .exact j
  .cases j
theorem aom{t:aPg}{x:V}(j:∀i,kD x=eL i->h.get i=.dead){v:V}(a:dX P t x h=eL v):dX P t x h'=eL v:=by
 unfold dX at a⊢;split at a
 all_goals first|exact a|(rw[j _ rfl]at a;cases a)|skip
 all_goals (cases a;done)
theorem VE(m:Gw h)(q:J h h' M){x:V}(s:∀i,kD x=eL i->¬M i):(∀i,kD x=eL i->h'.get i=h.get i)\/(∀i,kD x=eL i->h.get i=.dead):=by
 cases u:kD x with
 | none=>left;intro i hi;cases hi
 | some j=>
  by_cases a:h.get j=.dead
  .right;intro i hi;simp at hi;subst hi;exact a
  .left;intro i hi;simp at hi;subst hi;exact q.live m (s j u) a
theorem aon{c:Call}(h:BJ (.call c)=e6):c.callee=.builtin .len\/c.callee=.builtin .min\/c.callee=.builtin .max:=by
 obtain⟨callee,args,ts⟩:=c;cases callee with
 | builtin b=>cases b<;>simp[BJ,pQ]at h⊢
 | _=>simp[BJ,pQ]at h
theorem FS(B:Gw h)(C:J h h' M){o:aPl}{bK:aPk->V}(hi:BJ o.op=e6)(D:∀i,rf bK o.op=eL i->¬M i){v:V}(j:eI P o bK h=eL (.val v h)):eI P o bK h'=eL (.val v h'):=by
 have E:∀{x y:Option V},hL x h=eL (.val v h)->(∀u,x=eL u->y=eL u)->hL y h'=eL (.val v h'):=λ{x y} F W=>by
  obtain⟨az,_⟩:=vF F;rw[W _ az];rfl
 obtain⟨X,op,type,pos,G,guard⟩:=o;have Q:=hi;cases op<;>simp[BJ,pQ]at hi<;>simp only[eI]at j⊢
 case move x=>simp at j;rw[j]
 case assign x=>simp at j;rw[j]
 case pick c a b=>split at j<;>simp at j⊢;exact j
 case nilCheck x=>split at j<;>simp at j⊢<;>exact j
 case makeInterface t x=>split at j<;>simp at j⊢;exact j
 case makeFunc fn xs ys=>simp at j⊢;exact j
 case extract t k=>
  split at j
  .exact E j λ_ h=>h
  .cases j
 case load t a=>exact E j λu q=>aog B C D q
 case lookup t m k ok=>
  refine E j λu q=>?_;rcases VE B C D with e|e
  .rw[aoh e];exact q
  .exact aok e q
 case convert s d x=>
  cases aw:oc P s d (bK x) h with
  | none=>
   rw[aw]at j;cases A:yX P s d (bK x) h with
   | none=>rw[A]at j;cases j
   | some p=>
    obtain⟨u,H⟩:=p;rw[A]at j;have Y:H=h:=by
     have:eL (Step.val u H)=eL (Step.val v h):=j;simp only[Option.some.injEq,Step.val.injEq]at this;exact this.2
    exact absurd Y (aaC A)
  | some u=>
   rw[aw]at j;have q:oc P s d (bK x) h'=eL u:=by
    rcases VE B C D with e|e
    .rw[aoi e];exact aw
    .exact aol e aw
   rw[q];have:eL (Step.val u h)=eL (Step.val v h):=j;simp only[Option.some.injEq,Step.val.injEq]at this;rw[this.1]
 case call c=>
  have an:=aon Q;have z:∀b,(b=.min\/b=.max)->c.callee=.builtin b->k7 P c type bK h'=eL (.val v h'):=λb R aw=>by
   have aW:∀U:I,qD P b c.argTypes.toList type (wH c.args) (c.args.toList.map bK) U=(match jX (c.args.toList.map bK)with
     | some as=>match eu P (builtin b c.argTypes.toList.toArray type (wH c.args) as.toArray)with
      | some (.value v)=>eL (gR v,U)
      | _=>eN
     | none=>eN):=λU=>by
    rcases R with rfl|rfl<;>rfl
   have L:∀U:I,k7 P c type bK U=(match qD P b c.argTypes.toList type (wH c.args) (c.args.toList.map bK) U with|some (v,h')=>eL (.val v h')|none=>eN):=λU=>by
    unfold k7;rw[aw];rcases R with rfl|rfl<;>rfl
   rw[L,aW]at j⊢;cases S:jX (c.args.toList.map bK)with
   | none=>rw[S]at j;cases j
   | some as=>
    rw[S]at j;simp only at j⊢;split at j
    .rename_i v' H A;split at A
     .simp at A j;obtain⟨rfl,rfl⟩:=A;rw[j.1]
     .cases A
    .cases j
  rcases an with an|an|an
  .obtain⟨callee,args,N⟩:=c;simp only at an;subst an;have O:(args.size==1&&N.size==1)=true:=Q;simp at O;obtain⟨x,rfl⟩:=aD2.1 O.1;obtain⟨t,rfl⟩:=aD2.1 O.2;have L:∀U:I,k7 P ⟨.builtin .len,#[x],#[t]⟩ type bK U=(match dX P t (bK x) U with|some v=>eL (.val v U)|none=>eN):=λU=>by
    show(match(match dX P t (bK x) U with|some v=>eL (v,U)|none=>eN)with|some (v,h')=>eL (Step.val v h')|none=>eN)=_;cases dX P t (bK x) U<;>rfl
   rw[L]at j⊢;have Z:∀i,kD (bK x)=eL i->¬M i:=λi F=>D i (by simp[rf,F]);cases q:dX P t (bK x) h with
   | none=>rw[q]at j;cases j
   | some u=>
    rw[q]at j;simp at j;subst j;have aF:dX P t (bK x) h'=eL u:=by
     rcases VE B C Z with e|e
     .rw[aoj e];exact q
     .exact aom e q
    rw[aF]
  .exact z _ (.inl rfl) an
  .exact z _ (.inr rfl) an
 all_goals exact E j λ_ h=>h
end
def zW(P:aPf)(a:Array aPl)(M:Nat->Prop)(i:I)(o:aPl)(f:aj)(v:V):Prop:=∀h',J i h' M->hF P a.toList h' o v f
def Lz(j:Array aPl)(m:List Nat)(a:Array Bool)(i:Nat):Bool:=m.all λe=>a.getD e e6||p5 j j.size e i
def VF(a:Array aPl)(k:Nat):Bool:=(List.range a.size).all λi=>i==k||p5 a a.size k i||p5 a a.size i k
def anyS(P:aPf)(j:Array aPl)(q:List Nat)(M:Nat->Prop)(m:I)(K:aj->I->Prop)(X:I->Prop):Nat->Array Bool->aj->I->Prop
 | 0,a,f,h=>Region.ready .any j a=[]/\K f h
 | n+1,a,f,h=>(Region.ready .any j a=[]->K f h) /\
  ∀i∈Region.ready .any j a,∀o,j[i]?=eL o ->
   if q.contains i then(match iI j.toList o.guard f with
    | some e6=>iX P o (λs h'=>(VF j i=e6\/J m h' M)/\anyS P j q M m K X n (a.setIfInBounds i e6) s h') (λ_ h=>X h) f h
    | some fr=>anyS P j q M m K X n (a.setIfInBounds i e6) (f.put o.dst (.tuple [])) h
    | none=>False)
   else ∃v,((J m h M/\zW P j M m o f v)\/(Lz j q a i=e6/\hF P j.toList h o v f))/\anyS P j q M m K X n (a.setIfInBounds i e6) (f.put o.dst v) h
theorem LA{P:aPf}{o:aPl}{K j E m:aj->I->Prop}(i:∀f h,K f h->j f h){f:aj}{h:I}(q:∀f h,E f h->m f h)(a:iX P o K E f h):iX P o j m f h:=by
 unfold iX at *;split at a
 .exact i _ _ a
 .exact a.mono (λ_ _ h=>i _ _ h) λ_ h=>q _ _ h
 .exact λv h' s=>i _ _ (a v h' s)
 .exact q _ _ a
 .exact a.mono (λ_ _ h=>i _ _ h)
 .exact a.elim
section
variable {P:aPf} {ops:Array aPl} {es:List Nat} {M:Nat->Prop} {aa:I} {K E:aj->I->Prop} {X:I->Prop}
theorem LB(m:∀f h,X h->E f h):∀(n:Nat) (a:Array Bool) (f:aj) (h:I),anyS P ops es M aa K X n a f h->tW P ops es K E n a f h
 | 0,_,_,_,q=>q
 | n+1,a,f,h,q=>by
  refine⟨q.1,λi hi o z=>?_⟩;have j:=q.2 i hi o z;by_cases s:es.contains i=e6
  .rw[gr s]at j⊢;cases u:iI ops.toList o.guard f with
   | none=>rw[u]at j;exact j
   | some b=>
    rw[u]at j;cases b with
    | true=>exact LA (λA h' U=>LB m n _ A h' U.2) (λf h U=>m f h U) j
    | false=>exact LB m n _ _ _ j
  .rw[gQ s]at j⊢;obtain⟨v,B,C⟩:=j;refine⟨v,?_,LB m n _ _ _ C⟩;rcases B with⟨D,F⟩|⟨_,G⟩
   .exact F h D
   .exact G
theorem aoo{o:aPl}{a:Option Tmp}{v:V}{f:aj}{h:I}{K q:aj->I->Prop}(s:∀d,a=eL d->d∉o.looksAt ops)(aw:∀d,a=eL d->o.dst≠eL d)
  (m:∀r h',K ((f.put o.dst r).put a v) h'->q (f.put o.dst r) h') (aa:iX P o K (λ_ h=>X h) (f.put a v) h):iX P o q (λ_ h=>X h) f h:=by
 unfold iX at *;rw[Vl o f a v s]at aa;split at aa
 .exact m _ _ (by rw[aj.put_comm f _ _ λd i j=>aw d j i];exact aa)
 .exact aa.mono (λr h' U=>m r h' (by rw[aj.put_comm f _ _ λd i j=>aw d j i];exact U)) λ_ h=>h
 .exact λr h' u=>m r h' (by rw[aj.put_comm f _ _ λd i j=>aw d j i];exact aa r h' u)
 .exact aa
 .exact aa.mono (λr h' U=>m r h' (by rw[aj.put_comm f _ _ λd i j=>aw d j i];exact U))
 .exact aa
theorem VG{a:Array Bool}(q:Down ops a){i j:Nat}(s:j∈Region.ready .any ops a)(h:p5 ops ops.size j i=e6):a.getD i fr=true:=by
 obtain⟨_,o,u,z⟩:=mem_ready.1 s;exact Vt q ops.size j i (λA m=>by
                           rw[u]at m;obtain rfl:o=A:=by simpa using m
                           exact z) h
theorem QQ{a:Array Bool}{i:Nat}(hi:i∈Region.ready .any ops a):a.getD i fr=false:=by
 have j:=(mem_ready.1 hi).1;rcases aAi i a.size with h'|h'
 .simp[h']at j⊢;exact j
 .simp[Array.getElem?_eq_none h']
theorem VH{i:Nat}{z:aPl}{v:V}(hi:ops[i]?=eL z)(Z:es.contains i=fr) :
  ∀(m:Nat) (a:Array Bool) (f:aj) (h:I),
   (∀j s,ops[j]?=eL s->j≠i->a.getD j e6=fr->(∀e∈s.after,Region.binds .any e=e6->e.on≠i)->z.apart ops s=e6) ->
   i∈Region.ready .any ops a->Down ops a->((J aa h M/\zW P ops M aa z f v)\/(Lz ops es a i=e6/\hF P ops.toList h z v f)) ->
   anyS P ops es M aa K X m (a.setIfInBounds i e6) (f.put z.dst v) h->anyS P ops es M aa K X (m+1) a f h:=by
 intro m
 induction m with
 | zero=>
  intro a f h _ B Q N H;refine⟨λh=>(by rw[h]at B;cases B),λj G o L=>?_⟩;by_cases C:j=i
  .subst C;rw[hi]at L;obtain rfl:z=o:=by simpa using L
   rw[Z];exact⟨v,N,H⟩
  .have:=ready_mono G C;rw[H.1]at this;cases this
 | succ m ih=>
  intro a f h mz B Q N H;refine⟨λh=>(by rw[h]at B;cases B),λj G s R=>?_⟩;by_cases C:j=i
  .subst C;rw[hi]at R;obtain rfl:z=s:=by simpa using R
   rw[Z];exact⟨v,N,H⟩
  .have D:=H.2 j (ready_mono G C) s R;obtain⟨tX,Lt,zQ,dt⟩:=mem_ready.1 G;rw[R]at zQ;obtain rfl:s=Lt:=by simpa using zQ
   have xP:∀e∈s.after,Region.binds .any e=e6->e.on≠i:=λe O an ab=>by
    have q:=dt e O an;have aG:=QQ B;rw[ab,aG]at q;cases q
   obtain⟨Y,a2,a3⟩:=aPl.apart_spec (mz j s R C tX xP);have wM:∀k ok,ops[k]?=eL ok->k≠i->(a.setIfInBounds j e6).getD k e6=fr ->
     (∀e∈ok.after,Region.binds .any e=e6->e.on≠i)->z.apart ops ok=true:=λk ok A qN qT eD=>by
    refine mz k ok A qN ?_ eD;by_cases Ev:j=k
    .subst Ev;exact tX
    .rw[getD_set_ne e6 Ev]at qT;exact qT
   have kg:=ready_mono B (Ne.symm C);have zP:=Q.add G;have rh:∀(h':I) (r:V),J aa h' M->zW P ops M aa z f v->anyS P ops es M aa K X m ((a.setIfInBounds i e6).setIfInBounds j e6) ((f.put s.dst r).put z.dst v) h'->anyS P ops es M aa K X (m+1) (a.setIfInBounds j e6) (f.put s.dst r) h':=λh' r A F U=>
    ih (a.setIfInBounds j e6) (f.put s.dst r) h' wM kg zP (.inl ⟨A,λS W=>(F S W).put s.dst r a3⟩) (by rw[aC0 _ _ C];exact U)
   by_cases Eu:es.contains j=e6
   .rw[gr Eu]at D⊢;have F:J aa h M/\zW P ops M aa z f v:=by
     rcases N with N|⟨L,_⟩
     .exact N
     .exfalso;have q:=(ayy.1 L) j (by simpa using Eu);rw[tX,aBy]at q;have:=VG Q G q;rw[QQ B]at this;cases this
    rw[Vm s f z.dst v Y]at D;cases hw:iI ops.toList s.guard f with
    | none=>rw[hw]at D;exact D
    | some b=>
     rw[hw]at D;cases b with
     | true=>
      refine aoo Y a2 (λr h' U=>?_) D;have A:J aa h' M:=by
       rcases U.1 with ko|A
       .exfalso;have q:=(ayy.1 ko) i (by
         have:=(ay8.1 hi).1;simpa using this)
        simp only[azG,beq_iff_eq]at q;rcases q with(q|q)|q
        .exact C q.symm
        .have:=VG Q G q;rw[QQ B]at this;cases this
        .have:=VG Q B q;rw[QQ G]at this;cases this
       .exact A
      exact⟨.inr A,rh h' r A F.2 U.2⟩
     | false=>
      refine rh h (.tuple []) F.1 F.2 ?_;rw[<-aj.put_comm f v (.tuple []) a2];exact D
   .rw[gQ Eu]at D⊢;obtain⟨u,Lu,iJ⟩:=D;refine⟨u,?_,?_⟩
    .rcases Lu with⟨A,F⟩|⟨L,LC⟩
     .exact .inl ⟨A,λS W=>(F S W).De z.dst v Y⟩
     .refine .inr ⟨?_,LC.De z.dst v Y⟩;refine ayy.2 λe O=>?_;have q:=(ayy.1 L) e O;have af:i≠e:=λU=>by
       subst U;have:es.contains i=true:=by simpa using O
       rw[Z]at this;cases this
      rwa[getD_set_ne e6 af]at q
    .have Ib:((J aa h M/\zW P ops M aa z (f.put s.dst u) v)\/(Lz ops es (a.setIfInBounds j e6) i=e6/\hF P ops.toList h z v (f.put s.dst u))):=by
      rcases N with⟨A,F⟩|⟨L,LC⟩
      .exact .inl ⟨A,λS W=>(F S W).put s.dst u a3⟩
      .refine .inr ⟨ayy.2 λe O=>?_,LC.put s.dst u a3⟩;have q:=(ayy.1 L) e O;simp only[azG]at q⊢;rcases q with q|q
       .exact .inl (aa1 q)
       .exact .inr q
     refine ih (a.setIfInBounds j e6) (f.put s.dst u) h wM kg zP Ib ?_;rw[aC0 _ _ C,<-aj.put_comm f v u a2];exact iJ
end
def VI:Op->Bool
 | .move _ | .assign _ | .pick .. | .build .. | .nilCheck _ | .binOp .. | .unOp .. | .makeInterface .. | .makeFunc .. | .slice .. | .fieldAddr .. | .field .. | .indexAddr .. | .index .. | .typeAssert .. | .extract ..=>e6
 | _=>fr
section
variable {P:aPf} {h h':I}
theorem aop{o:aPl}{bK:aPk->V}(hi:VI o.op=e6){v:V}(i:eI P o bK h=eL (.val v h)):eI P o bK h'=eL (.val v h'):=by
 have m:∀{x:Option V},hL x h=eL (.val v h)->hL x h'=eL (.val v h'):=λ{x} q=>by
  obtain⟨az,_⟩:=vF q;rw[az];rfl
 obtain⟨s,op,type,pos,j,guard⟩:=o;cases op<;>simp[VI]at hi<;>simp only[eI]at i⊢
 case move x=>simp at i;rw[i]
 case assign x=>simp at i;rw[i]
 case pick c a b=>split at i<;>simp at i⊢;exact i
 case nilCheck x=>split at i<;>simp at i⊢<;>exact i
 case makeInterface t x=>split at i<;>simp at i⊢;exact i
 case makeFunc fn xs ys=>simp at i⊢;exact i
 case extract t k=>
  split at i
  .exact m i
  .cases i
 all_goals exact m i
theorem aoq{o:aPl}{bK:aPk->V}{g:aPn}{args:List V}(a:eI P o bK h=eL (.call g args)):eI P o bK h'=eL (.call g args):=by
 obtain⟨A,op,type,pos,q,guard⟩:=o;have j:∀{x:Option V},hL x h≠eL (.call g args):=λ{x} i=>by obtain⟨v,B⟩:=Vv i;cases B
 have z:∀{x:Option (V×I)},gb x≠eL (.call g args):=λ{x} i=>by unfold gb at i;split at i<;>simp at i
 have u:∀{x:Option I},tN x≠eL (.call g args):=λ{x} i=>by unfold tN at i;split at i<;>simp at i
 cases op<;>simp only[eI]at a⊢
 case call c=>
  obtain⟨callee,C,ts⟩:=c;unfold k7 at a⊢;cases callee with
  | value f=>
   simp only at a⊢;split at a
   case h_2=>simp at a
   case h_3=>cases a
   split at a
   .rename_i aw;rw[gr aw];exact a
   .exfalso;split at a<;>simp at a
  | builtin b=>
   exfalso;cases b
   case panic=>simp only at a;split at a<;>simp at a
   all_goals
    simp only at a;split at a<;>simp at a
  | invoke r m=>exact a
 case next it s=>
  cases s
  .simp only at a;split at a<;>simp at a
  .cases a
 all_goals first
  | exact absurd a j
  | exact absurd a z
  | exact absurd a u
  | (simp at a;done)
  | (split at a<;>first|(simp at a;done)|exact absurd a j|exact absurd a z)
  | (cases a;done)
end
inductive ey where
 | done
 | stop
 | q (k:Nat) (s:ey)
 | c (k:Nat) (s:ey)
 | a (k:Nat) (s:ey)
 | e (k:Nat) (s alt:ey)
def ey.keys:ey->List Nat
 | .e k _ i=>k::i.keys
 | _=>[]
def ey.ok(ops:Array aPl)(es:List Nat):ey->Nat->Bool->Bool->Bool->Array Bool->Bool
 | .done,n,top,p,u,j=>top&&n==0&&(Region.ready .any ops j).isEmpty
 | .stop,_,top,_,_,_=>!top
 | .q k s,n,top,p,u,j=>match n,ops[k]? with
  | n+1,eL o=>top&&!es.contains k&&(Region.ready .any ops j).contains k&&Region.free .any ops j k&&BJ o.op&&((p&&u)||(u&&VI o.op)||Lz ops es j k)&&s.ok ops es n e6 p u (j.setIfInBounds k e6)
  | _,_=>fr
 | .c k s,n,top,p,u,j=>match n,ops[k]? with
  | n+1,eL o=>top&&!es.contains k&&(Region.ready .any ops j).contains k&&Region.free .any ops j k&&((p&&u)||Lz ops es j k)&&s.ok ops es n e6 p u (j.setIfInBounds k e6)
  | _,_=>fr
 | .a k s,n,top,p,u,j=>match n with
  | n+1=>top&&es.contains k&&Region.ready .any ops j==[k]&&VF ops k&&s.ok ops es n e6 fr fr (j.setIfInBounds k e6)
  | 0=>fr
 | .e k s z,n,top,p,u,j=>match n with
  | n+1=>(!top||((Region.ready .any ops j).contains k&&(Region.ready .any ops j).all λi=>(k::z.keys).contains i))&&es.contains k&&s.ok ops es n e6 fr e6 (j.setIfInBounds k e6)&&z.ok ops es (n+1) fr p u j
  | 0=>fr
section
variable {P:aPf} {ops:Array aPl} {es:List Nat} {M:Nat->Prop} {aa:I} {K:aj->I->Prop} {X:I->Prop}
def mV(P:aPf)(j:List aPl)(M:Nat->Prop)(aa:I)(K:aj->I->Prop)(X:I->Prop):ey->Bool->aj->I->Prop
 | .done,_,f,h=>K f h
 | .stop,_,_,_=>True
 | .q k s,p,f,h=>match j[k]? with
  | some o=>(match iI j o.guard f with
   | some e6=>∃v,(eI P o (f.eval h) h=eL (.val v h)/\(p=e6->∀i,rf (f.eval h) o.op=eL i->¬M i))/\mV P j M aa K X s p (f.put o.dst v) h
   | some fr=>mV P j M aa K X s p (f.put o.dst (.tuple [])) h
   | none=>False)
  | none=>False
 | .c k s,p,f,h=>match j[k]? with
  | some o=>(match iI j o.guard f with
   | some e6=>∃g args v,eI P o (f.eval h) h=eL (.call g args)/\(∀h',J aa h' M\/h'=h->Pure P g args h' v)/\mV P j M aa K X s p (f.put o.dst v) h
   | some fr=>mV P j M aa K X s p (f.put o.dst (.tuple [])) h
   | none=>False)
  | none=>False
 | .a k s,p,f,h=>match j[k]? with
  | some o=>(match iI j o.guard f with
   | some e6=>iX P o (λm h'=>mV P j M aa K X s fr m h') (λ_ h=>X h) f h
   | some fr=>mV P j M aa K X s fr (f.put o.dst (.tuple [])) h
   | none=>False)
  | none=>False
 | .e k s u,p,f,h=>(match j[k]? with
  | some o=>(match iI j o.guard f with
   | some e6=>iX P o (λm h'=>J aa h' M/\mV P j M aa K X s fr m h') (λ_ h=>X h) f h
   | some fr=>J aa h M/\mV P j M aa K X s fr (f.put o.dst (.tuple [])) h
   | none=>False)
  | none=>False)/\mV P j M aa K X u p f h
def Clause(P:aPf)(ops:Array aPl)(es:List Nat)(M:Nat->Prop)(aa:I)(K:aj->I->Prop)(X:I->Prop)(n:Nat)(a:Array Bool)(f:aj)(h:I)(i:Nat):Prop :=
 ∀o,ops[i]?=eL o->(match iI ops.toList o.guard f with
    | some e6=>iX P o (λj h'=>(VF ops i=e6\/J aa h' M)/\anyS P ops es M aa K X n (a.setIfInBounds i e6) j h') (λ_ h=>X h) f h
    | some fr=>anyS P ops es M aa K X n (a.setIfInBounds i e6) (f.put o.dst (.tuple [])) h
    | none=>False)
theorem QS{l:List Nat}{k:Nat}(h:l.contains k=e6):k∈l:=by simpa using h
theorem QT{h':I}(a:J aa h' M)(f:aj):f.eval h'=f.eval aa:=funext λx=>aoe a f x
theorem abf(nC:Gw aa):∀(s:ey) (n:Nat) (p E:Bool) (j:Array Bool) (f:aj) (h:I),(p=e6->h=aa)->(E=e6->J aa h M)->Down ops j->mV P ops.toList M aa K X s p f h ->
  (s.ok ops es n e6 p E j=e6->anyS P ops es M aa K X n j f h) /\
  (∀m,n=m+1->s.ok ops es n fr p E j=e6->∀i∈s.keys,i∈Region.ready .any ops j->es.contains i=e6/\Clause P ops es M aa K X m j f h i):=by
 intro s
 induction s with
 | done=>
  intro n p E j f h H F D z;refine⟨λu=>?_,λm B u=>by simp[ey.ok]at u⟩;simp only[ey.ok,azr,are,beq_iff_eq,List.isEmpty_iff]at u;obtain⟨rfl,L⟩:=u;exact⟨L,z⟩
 | stop=>
  intro n p E j f h H F D z;exact⟨λu=>by simp[ey.ok]at u,λm B u i hi=>by simp[ey.keys]at hi⟩
 | q k s ih=>
  intro n p E j f h H F D z;refine⟨λu=>?_,λm B u i hi=>by simp[ey.keys]at hi⟩;cases n with
  | zero=>simp[ey.ok]at u
  | succ n=>
   cases A:ops[k]? with
   | none=>simp[ey.ok,A]at u
   | some o=>
    simp only[ey.ok,A,azr,are,azY]at u;obtain⟨⟨⟨⟨⟨Y,L⟩,kS⟩,dm⟩,Ck⟩,N⟩:=u;have O:=QS L;have nD:ops.toList[k]?=eL o:=by simpa using A
    simp only[mV,nD]at z;have af:∀v,hF P ops.toList h o v f->(iI ops.toList o.guard f=eL fr\/(p=e6->∀i,rf (f.eval h) o.op=eL i->¬M i)/\eI P o (f.eval h) h=eL (.val v h))->mV P ops.toList M aa K X s p (f.put o.dst v) h->anyS P ops es M aa K X (n+1) j f h:=λv G B iJ=>by
     refine VH A Y n j f h (Region.free_spec A kS) O D ?_ ((ih n p E _ _ h H F (D.add O) iJ).1 N);simp only[azG,are]at Ck;rcases Ck with(⟨EB,Z⟩|⟨Z,p6⟩)|vI
     .refine .inl ⟨F Z,λh' fi=>?_⟩;have U:=H EB;subst U;rcases B with B|⟨B,R⟩
      .rcases G with⟨S,_⟩|G
       .rw[B]at S;cases S
       .exact .inr G
      .rcases G with⟨S,_⟩|G
       .exact .inl ⟨S,.inl (by rw[QT fi];exact FS nC fi dm (B EB) R)⟩
       .exact .inr G
     .refine .inl ⟨F Z,λh' fi=>?_⟩;rcases B with B|⟨B,R⟩
      .rcases G with⟨S,_⟩|G
       .rw[B]at S;cases S
       .exact .inr G
      .rcases G with⟨S,_⟩|G
       .exact .inl ⟨S,.inl (by rw[QT fi,<-QT (F Z)];exact aop p6 R)⟩
       .exact .inr G
     .exact .inr ⟨vI,G⟩
    cases C:iI ops.toList o.guard f with
    | none=>rw[C]at z;exact z.elim
    | some b=>
     rw[C]at z;cases b with
     | true=>
      obtain⟨v,⟨R,B⟩,iJ⟩:=z;exact af v (.inl ⟨C,.inl R⟩) (.inr ⟨B,R⟩) iJ
     | false=>exact af (.tuple []) (.inr ⟨C,rfl⟩) (.inl C) z
 | c k s ih=>
  intro n p E j f h H F D z;refine⟨λu=>?_,λm B u i hi=>by simp[ey.keys]at hi⟩;cases n with
  | zero=>simp[ey.ok]at u
  | succ n=>
   cases A:ops[k]? with
   | none=>simp[ey.ok,A]at u
   | some o=>
    simp only[ey.ok,A,azr,are,azY]at u;obtain⟨⟨⟨⟨Y,L⟩,kS⟩,Ck⟩,N⟩:=u;have O:=QS L;have nD:ops.toList[k]?=eL o:=by simpa using A
    simp only[mV,nD]at z;simp only[azG,are]at Ck;cases C:iI ops.toList o.guard f with
    | none=>rw[C]at z;exact z.elim
    | some b=>
     rw[C]at z;cases b with
     | true=>
      obtain⟨g,args,v,R,SU,iJ⟩:=z;refine VH (v:=v) A Y n j f h (Region.free_spec A kS) O D ?_ ((ih n p E _ _ h H F (D.add O) iJ).1 N);rcases Ck with⟨EB,Z⟩|vI
      .refine .inl ⟨F Z,λh' fi=>.inl ⟨C,.inr ⟨g,args,?_,SU h' (.inl fi)⟩⟩⟩;have U:=H EB;subst U;rw[QT fi];exact aoq R
      .exact .inr ⟨vI,.inl ⟨C,.inr ⟨g,args,R,SU h (.inr rfl)⟩⟩⟩
     | false=>
      refine VH (v:=.tuple []) A Y n j f h (Region.free_spec A kS) O D ?_ ((ih n p E _ _ h H F (D.add O) z).1 N);rcases Ck with⟨EB,Z⟩|vI
      .exact .inl ⟨F Z,λh' fi=>.inr ⟨C,rfl⟩⟩
      .exact .inr ⟨vI,.inr ⟨C,rfl⟩⟩
 | a k s ih=>
  intro n p E j f h H F D z;refine⟨λu=>?_,λm B u i hi=>by simp[ey.keys]at hi⟩;cases n with
  | zero=>simp[ey.ok]at u
  | succ n=>
   simp only[ey.ok,azr,are,beq_iff_eq]at u;obtain⟨⟨⟨Y,L⟩,ko⟩,N⟩:=u;have O:k∈Region.ready .any ops j:=by rw[L];simp
   refine⟨λaG=>(by rw[aG]at L;cases L),λi hi o A=>?_⟩;rw[L]at hi;simp at hi;subst hi;rw[gr Y];have nD:ops.toList[i]?=eL o:=by simpa using A
   simp only[mV,nD]at z;cases C:iI ops.toList o.guard f with
   | none=>rw[C]at z;exact z.elim
   | some b=>
    rw[C]at z;cases b with
    | true=>exact LA (λb2 h' U=>⟨.inl ko,(ih n fr fr _ _ h' (by simp) (by simp) (D.add O) U).1 N⟩) (λ_ _ h=>h) z
    | false=>exact(ih n fr fr _ _ h (by simp) (by simp) (D.add O) z).1 N
 | e k s W zX EC=>
  intro n p E j f h H F D z;have ab:∀(m:Nat) (kV:Bool),n=m+1->(ey.e k s W).ok ops es n kV p E j=e6->∀i∈(ey.e k s W).keys,i∈Region.ready .any ops j->es.contains i=e6/\Clause P ops es M aa K X m j f h i:=by
   intro m kV aF u i hi LD;subst aF;simp only[ey.ok,are]at u;obtain⟨⟨⟨_,Y⟩,N⟩,ai⟩:=u;simp only[mV]at z;simp only[ey.keys,IN]at hi;by_cases SV:i=k
   .subst SV;refine⟨Y,λo A=>?_⟩;have nD:ops.toList[i]?=eL o:=by simpa using A
    have Q:=z.1;rw[nD]at Q;simp only at Q;cases C:iI ops.toList o.guard f with
    | none=>rw[C]at Q;exact Q.elim
    | some b=>
     rw[C]at Q;cases b with
     | true=>exact LA (λb2 h' U=>⟨.inr U.1,(zX m fr e6 _ _ h' (by simp) (λ_=>U.1) (D.add LD) U.2).1 N⟩) (λ_ _ h=>h) Q
     | false=>exact(zX m fr e6 _ _ h (by simp) (λ_=>Q.1) (D.add LD) Q.2).1 N
   .rcases hi with hi|hi
    .exact absurd hi SV
    .exact(EC (m+1) p E j f h H F D z.2).2 m rfl ai i hi LD
  refine⟨λu=>?_,λm B u=>ab m fr B u⟩;cases n with
  | zero=>simp[ey.ok]at u
  | succ m=>
   have LF:(Region.ready .any ops j).all (λi=>(k::W.keys).contains i)=e6/\(Region.ready .any ops j).contains k=true:=by
    simp only[ey.ok,are,Bool.not_true,aBy]at u;exact⟨u.1.1.1.2,u.1.1.1.1⟩
   have b7:∀i∈Region.ready .any ops j,i∈(ey.e k s W).keys:=λi hi=>by
    have:=(ayy.1 LF.1) i hi;exact QS this
   refine⟨λaG=>?_,λi hi o A=>?_⟩
   .have:=QS LF.2;rw[aG]at this;cases this
   .obtain⟨Q,ad⟩:=ab m e6 rfl u i (b7 i hi) hi;rw[gr Q];exact ad o A
end
def nE(M:Nat->Prop)(r:Option Nat):Prop:=∀i,r=eL i->¬M i
theorem aos{r:Option Nat}:nE kR r=True:=eq_true λ_ _ h=>h
theorem aot{o:Op}(h:BJ o=e6):pQ o=true:=by
 cases o
 case entry=>simp[BJ]at h
 case call c=>
  obtain⟨callee,args,ts⟩:=c;cases callee with
  | builtin b=>cases b<;>simp[BJ,pQ]at h⊢
  | _=>simp[BJ,pQ]at h
 all_goals exact h
def gN(P:aPf)(i:List aPl)(M:Nat->Prop)(j:I)(K:fS):ey->Bool->aj->I->Prop
 | .done,_,f,h=>@jT K f h
 | .stop,_,_,_=>True
 | .q k s,p,f,h=>match i[k]? with
  | some o=>(p=e6->nE M (rf (f.eval h) o.op))/\@tt P i [o] ⟨h⟩ (.fn (λm _=>gN P i M j K s p m h) (λ_ _=>False)) f
  | none=>False
 | .c k s,p,f,h=>match i[k]? with
  | some o=>(match iI i o.guard f with
   | some e6=>∃g args v,eI P o (f.eval h) h=eL (.call g args)/\(∀h',J j h' M\/h'=h->Pure P g args h' v)/\gN P i M j K s p (f.put o.dst v) h
   | some fr=>gN P i M j K s p (f.put o.dst (.tuple [])) h
   | none=>False)
  | none=>False
 | .a k s,p,f,h=>match i[k]? with
  | some o=>@iY P i [o] (.fn (λm h'=>gN P i M j K s fr m h') (λ_ h'=>∀f,fS.exc K f h')) f h
  | none=>False
 | .e k s u,p,f,h=>(match i[k]? with
  | some o=>@iY P i [o] (.fn (λm h'=>J j h' M/\gN P i M j K s fr m h') (λ_ h'=>∀f,fS.exc K f h')) f h
  | none=>False)/\gN P i M j K u p f h
section
variable {P:aPf} {ol:List aPl} {M:Nat->Prop} {aa h:I} {K:fS} {f:aj} {k:Nat} {s alt:ey} {p:Bool} {o:aPl}
def LG(P:aPf)(ol:List aPl)(M:Nat->Prop)(aa:I)(K:fS)(s:ey)(p:Bool)(f:aj)(h:I):Option aPl->Prop
 | some o=>(p=e6->nE M (rf (f.eval h) o.op))/\@tt P ol [o] ⟨h⟩ (.fn (λa _=>gN P ol M aa K s p a h) (λ_ _=>False)) f
 | none=>False
def LH(P:aPf)(ol:List aPl)(M:Nat->Prop)(aa:I)(K:fS)(s:ey)(f:aj)(h:I):Option aPl->Prop
 | some o=>@iY P ol [o] (.fn (λa h'=>gN P ol M aa K s fr a h') (λ_ h'=>∀f,fS.exc K f h')) f h
 | none=>False
def LI(P:aPf)(ol:List aPl)(M:Nat->Prop)(aa:I)(K:fS)(s:ey)(f:aj)(h:I):Option aPl->Prop
 | some o=>@iY P ol [o] (.fn (λa h'=>J aa h' M/\gN P ol M aa K s fr a h') (λ_ h'=>∀f,fS.exc K f h')) f h
 | none=>False
theorem aou:gN P ol M aa K .done p f h=@jT K f h:=nr rfl
theorem aov:gN P ol M aa K .stop p f h=True:=nr rfl
theorem aow:gN P ol M aa K (.q k s) p f h=LG P ol M aa K s p f h ol[k]?:=by
 unfold gN LG;cases ol[k]?<;>rfl
theorem aox:gN P ol M aa K (.a k s) p f h=LH P ol M aa K s f h ol[k]?:=by
 unfold gN LH;cases ol[k]?<;>rfl
theorem aoy:gN P ol M aa K (.e k s alt) p f h=(LI P ol M aa K s f h ol[k]?/\gN P ol M aa K alt p f h):=by
 conv=>lhs;unfold gN
 unfold LI;cases ol[k]?<;>rfl
theorem aoz:LG P ol M aa K s p f h (eL o)=((p=e6->nE M (rf (f.eval h) o.op))/\@tt P ol [o] ⟨h⟩ (.fn (λa _=>gN P ol M aa K s p a h) (λ_ _=>False)) f):=nr rfl
theorem aoA:LH P ol M aa K s f h (eL o)=@iY P ol [o] (.fn (λa h'=>gN P ol M aa K s fr a h') (λ_ h'=>∀f,fS.exc K f h')) f h:=nr rfl
theorem aoB:LI P ol M aa K s f h (eL o)=@iY P ol [o] (.fn (λa h'=>J aa h' M/\gN P ol M aa K s fr a h') (λ_ h'=>∀f,fS.exc K f h')) f h:=nr rfl
theorem aoC{A E:aj->I->Prop}{f:aj}{h:I}:fS.exc (.fn A E) f h=E f h:=nr rfl
theorem gh{bJ:aPn}{args:List V}{v:V}(a:ol[k]?=eL o)(i:iI ol o.guard f=eL e6)(aw:eI P o (f.eval h) h=eL (.call bJ args))(j:∀h',J aa h' M\/h'=h->Pure P bJ args h' v)
  (m:gN P ol M aa K s p (f.put o.dst v) h):gN P ol M aa K (.c k s) p f h:=by
 unfold gN;rw[a];simp only;rw[i];exact⟨_,_,_,aw,j,m⟩
theorem rZ(a:ol[k]?=eL o)(i:iI ol o.guard f=eL fr)(j:gN P ol M aa K s p (f.put o.dst (.tuple [])) h):gN P ol M aa K (.c k s) p f h:=by
 unfold gN;rw[a];simp only;rw[i];exact j
theorem aoD{M:Nat->Prop}{h:I}:J h h M=True:=eq_true (J.refl _ _)
theorem aoE{M:Nat->Prop}{h:I}{a:aP}:J h (h.push a) M=True:=eq_true (J.push _ _ _)
theorem aoF{M:Nat->Prop}{h:I}{a b:aP}:J h ((h.push a).push b) M=True:=eq_true ((J.push _ _ _).bp _)
end
theorem abg{P:aPf}{m:Array aPl}{S:List Nat}{M:Nat->Prop}{Q:I}{K:fS}:∀(s:ey) (n:Nat) (A p C:Bool) (i:Array Bool) (f:aj) (h:I),
  s.ok m S n A p C i=e6->gN P m.toList M Q K s p f h->mV P m.toList M Q K.go (λh=>∀f,fS.exc K f h) s p f h:=by
 intro s
 induction s with
 | done=>intro n A p C i f h _ j;exact j
 | stop=>intro n A p C i f h _ j;trivial
 | q k s ih=>
  intro n A p C i f h z j;cases n with
  | zero=>simp[ey.ok]at z
  | succ n=>
   cases G:m[k]? with
   | none=>simp[ey.ok,G]at z
   | some o=>
    simp only[ey.ok,G,are]at z;have W:=z.1.1.2;have D:=z.2;have E:m.toList[k]?=eL o:=by simpa using G
    simp only[gN,E]at j;simp only[mV,E];obtain⟨X,H⟩:=j;unfold tt JR at H;cases F:iI m.toList o.guard f with
    | none=>rw[F]at H;exact H.elim
    | some b=>
     rw[F]at H;cases b with
     | true=>
      obtain⟨v,L,Y⟩:=H;have Z:eI P o (f.eval h) h=eL (.val v h):=by
       rcases L with L|⟨g,args,L,_⟩
       .exact L
       .obtain⟨u,hu⟩:=Gr (aot W) L;cases hu
      exact⟨v,⟨Z,X⟩,ih n e6 p C _ _ h D Y⟩
     | false=>exact ih n e6 p C _ _ h D H
 | c k s ih=>
  intro n A p C i f h z j;cases n with
  | zero=>simp[ey.ok]at z
  | succ n=>
   cases G:m[k]? with
   | none=>simp[ey.ok,G]at z
   | some o=>
    simp only[ey.ok,G,are]at z;have D:=z.2;have E:m.toList[k]?=eL o:=by simpa using G
    simp only[gN,E]at j;simp only[mV,E];cases F:iI m.toList o.guard f with
    | none=>rw[F]at j;exact j
    | some b=>
     rw[F]at j;cases b with
     | true=>
      obtain⟨g,args,v,B,ad,aD⟩:=j;exact⟨g,args,v,B,ad,ih n e6 p C _ _ h D aD⟩
     | false=>exact ih n e6 p C _ _ h D j
 | a k s ih=>
  intro n A p C i f h z j;cases n with
  | zero=>simp[ey.ok]at z
  | succ n=>
   simp only[ey.ok,are]at z;have D:=z.2;simp only[gN]at j;simp only[mV];cases E:m.toList[k]? with
   | none=>rw[E]at j;exact j
   | some o=>
    rw[E]at j;simp only at j⊢;unfold iY oz at j;cases F:iI m.toList o.guard f with
    | none=>rw[F]at j;exact j
    | some b=>
     rw[F]at j;cases b with
     | true=>exact LA (λO h' U=>ih n e6 fr fr _ O h' D U) (λ_ _ U=>U) j
     | false=>exact ih n e6 fr fr _ _ h D j
 | e k s af R EC=>
  intro n A p C i f h z j;cases n with
  | zero=>simp[ey.ok]at z
  | succ n=>
   simp only[ey.ok,are]at z;obtain⟨⟨⟨_,_⟩,D⟩,N⟩:=z;simp only[gN]at j;simp only[mV];refine⟨?_,EC (n+1) fr p C _ f h N j.2⟩;have B:=j.1;cases E:m.toList[k]? with
   | none=>rw[E]at B;exact B
   | some o=>
    rw[E]at B;simp only at B⊢;unfold iY oz at B;cases F:iI m.toList o.guard f with
    | none=>rw[F]at B;exact B
    | some b=>
     rw[F]at B;cases b with
     | true=>exact LA (λO h' U=>⟨U.1,R n e6 fr e6 _ O h' D U.2⟩) (λ_ _ U=>U) B
     | false=>exact⟨B.1,R n e6 fr e6 _ _ h D B.2⟩
theorem aT.LJ{P:aPf}{n id:Nat}{ops:Array aPl}(M:Nat->Prop)(es:List Nat)(s:ey)(z:P.follows .mixedOrders=e6)(i:s.ok ops es ops.size e6 e6 e6 (azJ ops.size fr)=e6)(A:ops.toList.all (λo=>tm n o.dst)=e6){Q:qF}{f:aj}{h:I}
  (C:gN P ops.toList M h (.out Q) s e6 f h):aT P n (.region id ops e6) Q.go f h:=by
 intro ρ B F a w j D;refine wpIn_wide.1 (wpIn_region_any (n:=0) z (Gq (ρ0:=ρ) (es:=es) A _ _ f h ρ a _ (Ren.le.refl ρ) j.drew D ?_));have:=(abf (es:=es) j.wf s _ e6 e6 _ f h (λ_=>rfl) (λ_=>J.refl _ _) (λk o G u=>by simp[aC1]at u;split at u<;>simp_all) (abg s _ e6 e6 e6 _ f h i C)).1 i;exact LB (λf h E=>E f) _ _ _ _ this
def Gx(P:aPf):Nat->List Field->Option (List Nat)
 | _,[]=>eL []
 | o, f :: a => if f.name ≠ "_" /\ f.offset = o then
   match P.underlying f.type,Gx P (o+1) a with
   | some (.int _),eL l=>eL (0::l)
   | some .bool,eL l=>eL (1::l)
   | some .string,eL l=>eL (2::l)
   | _,_=>eN
  else eN
def ED(P:aPf)(t:aPg):Option (List Nat):=match P.underlying t with
 | some (.struct a)=>if P.stoodInHeld t=fr/\P.eqGuardType P.depth t=fr then Gx P 0 a.toList else eN
 | _=>eN
def gl:List Nat->List V->List V->Option Bool
 | [],[],[]=>eL e6
 | 0::i,.int k a::r,.int j b::s=>if k=j then(gl i r s).map λx=>(a==b)&&x else eN
 | 1::i,.bool a::r,.bool b::s=>(gl i r s).map λx=>(a==b)&&x
 | 2::i,.string a::r,.string b::s=>(gl i r s).map λx=>(a.toList==b.toList)&&x
 | _,_,_=>eN
section
variable {P:aPf}
theorem zY{α:Type}{a:α}:eu P (pure a:Sem α)=eL a:=rfl
theorem VJ:eu P program=eL P:=rfl
theorem LK{t:aPg}{d:aPp}(h:P.underlying t=eL d):eu P (underlying t)=eL d:=zL h
theorem abh{t:aPg}{d:aPp}{a:Array aPi}{o:Nat}{v:aPi}(i:P.underlying t=eL d)(m:d.isRow=fr)(j:a[o]?=eL v):eu P (part t a o)=eL v:=by
 have aW:eu P (isAgg t)=eL false:=by
  unfold isAgg;rw[lY,LK i];cases d<;>simp_all[aPp.isRow,zY]
 unfold part;rw[lY,aW];simp[j,zY]
theorem aoG{d:Nat}{t:aPg}{k i:aPh}{a b:Int}(h:P.underlying t=eL (.int i)):eu P (Op.equalIn (d+1) t (.int k a) (.int k b))=eL (a==b):=by
 unfold Op.equalIn;rw[lY,LK h];simp[zY]
theorem aoH{d:Nat}{t:aPg}{a b:Bool}(h:P.underlying t=eL .bool):eu P (Op.equalIn (d+1) t (.bool a) (.bool b))=eL (a==b):=by
 unfold Op.equalIn;rw[lY,LK h];simp[zY]
theorem aoI{d:Nat}{t:aPg}{a b:ByteArray}(h:P.underlying t=eL .string):eu P (Op.equalIn (d+1) t (.string a) (.string b))=eL (a.toList==b.toList):=by
 unfold Op.equalIn;rw[lY,LK h];simp[zY,beq_toListBytes]
theorem drop_cons{α:Type}{l:List α}{o:Nat}{a:α}{r:List α}(h:l.drop o=a::r):l[o]?=eL a/\l.drop (o+1)=r:=by
 have i:(l.drop o)[0]?=eL a:=by rw[h];rfl
 rw[azI]at i;refine⟨by simpa using i,?_⟩;rw[<-aAu,h];rfl
theorem abi{d:Nat}{X Y:Array aPi}:∀(F:List Field) (o:Nat) (N:List Nat) (xs ys:List V) (O Q:List aPi) (b:Bool),Gx P o F=eL N->gl N xs ys=eL b->jX xs=eL O->jX ys=eL Q ->
  X.toList.drop o=O->Y.toList.drop o=Q->eu P (Op.eqFields (d+1) X Y F)=eL b
 | [],o,N,xs,ys,O,Q,b,i,s,j,m,R,S=>by
  simp[Gx]at i;subst i;cases xs<;>cases ys<;>simp[gl]at s;subst s;rfl
 | f::F,o,N,xs,ys,O,Q,b,i,s,j,m,R,S=>by
  unfold Gx at i;split at i
  case isFalse=>cases i
  rename_i aF;have go:∀(W Z:aPi) (db ea:List V) (B C:List aPi) (q x:Bool) (D:List Nat) (G:aPp),P.underlying f.type=eL G->G.isRow=fr->X.toList.drop o=W::B->Y.toList.drop o=Z::C->Gx P (o+1) F=eL D->gl D db ea=eL x->jX db=eL B->jX ea=eL C ->
    eu P (Op.equalIn (d+1) f.type W Z)=eL q->eu P (Op.eqFields (d+1) X Y (f::F))=eL (q&&x):=λW Z db ea B C q x D G A a6 h1 ad aD br u z kr=>by
   obtain⟨g1,g2⟩:=drop_cons h1;obtain⟨g3,g4⟩:=drop_cons ad;have ih:=abi (d:=d) F (o+1) D db ea B C x aD br u z g2 g4;unfold Op.eqFields;rw[gr aF.1,lY,aF.2,abh A a6 (by rw[<-azq];exact g1)];simp only[azm];rw[lY,abh A a6 (by rw[<-azq];exact g3)];simp only[azm];rw[lY,kr];simp only[azm];cases q
   .rfl
   .simpa using ih
  cases H:Gx P (o+1) F with
  | none=>rw[H]at i;split at i<;>simp_all
  | some D=>
   rw[H]at i;cases A:P.underlying f.type with
   | none=>rw[A]at i;cases i
   | some G=>
    rw[A]at i;cases G<;>simp only at i<;>try (cases i;done)
    case int kk=>
     obtain rfl:=Option.some.inj i;cases xs with
     | nil=>simp[gl]at s
     | cons E db=>
      cases ys with
      | nil=>cases E<;>simp[gl]at s
      | cons L ea=>
       cases E<;>cases L<;>first|(simp[gl]at s;done)|skip
       rename_i bx a k2 c;have hU:(if bx=k2 then(gl D db ea).map (λx=>(a==c)&&x)else eN)=eL b:=s;split at hU
       case isFalse=>cases hU
       rename_i Cl;subst Cl;obtain⟨x,M,rfl⟩:=azs.1 hU;simp only[jX,oT]at j m;cases u:jX db with
       | none=>rw[u]at j;cases j
       | some B=>
        cases z:jX ea with
        | none=>rw[z]at m;cases m
        | some C=>
         rw[u]at j;rw[z]at m;obtain rfl:=Option.some.inj j;obtain rfl:=Option.some.inj m;exact go _ _ db ea B C _ x D _ A rfl R S H M u z (aoG A)
    case bool=>
     obtain rfl:=Option.some.inj i;cases xs with
     | nil=>simp[gl]at s
     | cons E db=>
      cases ys with
      | nil=>cases E<;>simp[gl]at s
      | cons L ea=>
       cases E<;>cases L<;>first|(simp[gl]at s;done)|skip
       rename_i a c;obtain⟨x,M,rfl⟩:=azs.1 s;simp only[jX,oT]at j m;cases u:jX db with
       | none=>rw[u]at j;cases j
       | some B=>
        cases z:jX ea with
        | none=>rw[z]at m;cases m
        | some C=>
         rw[u]at j;rw[z]at m;obtain rfl:=Option.some.inj j;obtain rfl:=Option.some.inj m;exact go _ _ db ea B C _ x D _ A rfl R S H M u z (aoH A)
    case string=>
     obtain rfl:=Option.some.inj i;cases xs with
     | nil=>simp[gl]at s
     | cons E db=>
      cases ys with
      | nil=>cases E<;>simp[gl]at s
      | cons L ea=>
       cases E<;>cases L<;>first|(simp[gl]at s;done)|skip
       rename_i a c;obtain⟨x,M,rfl⟩:=azs.1 s;simp only[jX,oT]at j m;cases u:jX db with
       | none=>rw[u]at j;cases j
       | some B=>
        cases z:jX ea with
        | none=>rw[z]at m;cases m
        | some C=>
         rw[u]at j;rw[z]at m;obtain rfl:=Option.some.inj j;obtain rfl:=Option.some.inj m;exact go _ _ db ea B C _ x D _ A rfl R S H M u z (aoI A)
theorem LM:∀{u:List Nat} {xs ys:List V} {b:Bool},gl u xs ys=eL b->∃z A,jX xs=eL z/\jX ys=eL A
 | [],xs,ys,b,h=>by
  cases xs<;>cases ys<;>simp[gl]at h;exact⟨[],[],rfl,rfl⟩
 | k::u,[],ys,b,h=>by unfold gl at h;split at h<;>simp_all
 | k::u,x::xs,[],b,h=>by unfold gl at h;split at h<;>simp_all
 | k::u,x::xs,y::ys,b,h=>by
  have s:∀{a c:aPi} {q:Option Bool},oT x=eL a->oT y=eL c->gl u xs ys≠eN->∃z A,jX (x::xs)=eL z/\jX (y::ys)=eL A:=λ{a c q} C D E=>by
   cases B:gl u xs ys with
   | none=>exact absurd B E
   | some F=>
    obtain⟨z,A,az,bd⟩:=LM B;exact⟨a::z,c::A,by simp[jX,C,az],by simp[jX,D,bd]⟩
  unfold gl at h;split at h
  .simp_all
  .rename_i i j m;simp only[List.cons.injEq]at i j m;obtain⟨rfl,rfl⟩:=i;obtain⟨rfl,rfl⟩:=j;obtain⟨rfl,rfl⟩:=m;split at h
   .exact s (q:=eN) rfl rfl (by intro U;rw[U]at h;cases h)
   .cases h
  .rename_i i j m;simp only[List.cons.injEq]at i j m;obtain⟨rfl,rfl⟩:=i;obtain⟨rfl,rfl⟩:=j;obtain⟨rfl,rfl⟩:=m;exact s (q:=eN) rfl rfl (by intro U;rw[U]at h;cases h)
  .rename_i i j m;simp only[List.cons.injEq]at i j m;obtain⟨rfl,rfl⟩:=i;obtain⟨rfl,rfl⟩:=j;obtain⟨rfl,rfl⟩:=m;exact s (q:=eN) rfl rfl (by intro U;rw[U]at h;cases h)
  .cases h
theorem QU{t:aPg}{z:List Nat}{xs ys:List V}{j m:List aPi}{b:Bool}(s:ED P t=eL z)(C:gl z xs ys=eL b)(D:jX xs=eL j)(E:jX ys=eL m) :
  eu P (Op.equal t (.agg j.toArray) (.agg m.toArray))=eL b/\P.eqGuardType P.depth t=false:=by
 unfold ED at s;split at s
 case h_2=>cases s
 rename_i i F;split at s
 case isFalse=>cases s
 rename_i B;refine⟨?_,B.2⟩;show eu P (Op.equalIn (9999+1) t _ _)=eL b;have G : ∀i : List Field, eu P (forIn i ((eN, ()) : Option Bool × Unit) λf r => if f.name ≠ "_" then do
   let a <-part f.type j.toArray f.offset
   let c <-part f.type m.toArray f.offset
   let q <-Op.equalIn 9999 f.type a c
   if(!q)=e6 then pure (ForInStep.done (eL fr,()))else pure (ForInStep.yield (eN,()))
   else pure (ForInStep.yield (eN,())))=(eu P (Op.eqFields 9999 j.toArray m.toArray i)).map λr=>if r then(eN,())else(eL fr,()):=λi=>by
  induction i with
  | nil=>rfl
  | cons f i ih=>
   rw[List.forIn_cons];unfold Op.eqFields;by_cases u : f.name ≠ "_"
   .rw[gr u,gr u];simp only[lY,Option.bind_assoc];cases eu P (part f.type j.toArray f.offset)with
    | none=>rfl
    | some a=>
     simp only[azm];cases eu P (part f.type m.toArray f.offset)with
     | none=>rfl
     | some c=>
      simp only[azm];cases eu P (Op.equalIn 9999 f.type a c)with
      | none=>rfl
      | some q=>
       cases q
       .rfl
       .simpa [zY]using ih
   .rw[gQ u,gQ u];simp only[lY,zY,azm];exact ih
 have H:=abi (P:=P) (d:=9998) (X:=j.toArray) (Y:=m.toArray) i.toList 0 z xs ys j m b s C D E (by simp) (by simp);unfold Op.equalIn;simp only[lY,LK F,azm,VJ,B.1,Bool.false_eq_true,iC];rw[<-Array.forIn_toList];have A:=G i.toList;rw[H]at A
 first
  | (simp only[lY]at *;rw[A]<;>cases b<;>rfl)
  | (erw[A]<;>cases b<;>rfl)
theorem aoJ{t:aPg}{a:List Nat}{i j:List V}{b:Bool}{m q:aPk}(A:ED P t=eL a)(s:gl a i j=eL b):cB P .eql t m q (.agg i) (.agg j)=eL (.bool b):=by
 obtain⟨B,C,u,z⟩:=LM s;obtain⟨D,E⟩:=QU A s u z;unfold cB;simp only[pd,u,z,azi];have F:eu P (eqGuard .eql t m q (.agg B.toArray) (.agg C.toArray))=eL ():=by
  simp[eqGuard,lY,VJ,E,zY]
 rw[lY,F];simp only[azm,binOp,lY,D,zY,azi];rfl
theorem m7{t:aPg}{a:List Nat}{i j:List V}{b:Bool}{m q:aPk}(A:ED P t=eL a)(s:gl a i j=eL b):cB P .neq t m q (.agg i) (.agg j)=eL (.bool (!b)):=by
 obtain⟨B,C,u,z⟩:=LM s;obtain⟨D,E⟩:=QU A s u z;unfold cB;simp only[pd,u,z,azi];have F:eu P (eqGuard .neq t m q (.agg B.toArray) (.agg C.toArray))=eL ():=by
  simp[eqGuard,lY,VJ,E,zY]
 rw[lY,F];simp only[azm,binOp,lY,D,zY,azi];rfl
end
theorem be{P:aPf}{t tx:aPg}{T:mi}(X:gM P t=eL T)(dG:0<T.sz)
  {h:I} {s x:V} {A:List V} (Y:Own h T.e T.sz s A) {n:Nat} {a:List V} (Z:gS P T.sz tx x h=eL (n,a)) (z:a.length=n*T.sz)
  (N:∀m,m*T.sz=A.length+a.length->m*T.av<=lim/\m<=lim) :
  ∃v h',kd P t tx s x h=eL (v,h')/\Own h' T.e T.sz v (A++a)/\J h h' (bb s)/\b6 h s v:=by
 obtain⟨he,bP,bq,iF,fG,_⟩:=tr X;unfold kd;simp only[he,bP,bq,iF,fG,jS,Z];have start:∀s:V,(s=.ah\/s=.z0)->A=[]->∃v h',(if n=0 then eL (s,h)else if n*T.av<=lim/\n<=lim then eL (.bh h.n 0 n b9,h.push (.cells a T.e (eL T.sz)))else eN)=eL (v,h')/\Own h' T.e T.sz v (A++a)/\J h h' (bb s)/\b6 h s v:=λs aa E=>by
  subst E;by_cases B:n=0
  .subst B;have:a=[]:=azo (by simpa using z);subst this;exact⟨s,h,by simp,.inl ⟨aa,rfl⟩,J.refl _ _,.inl rfl⟩
  .obtain⟨G,H⟩:=N n (by simp[z]);exact⟨.bh h.n 0 n b9,h.push (.cells a T.e (eL T.sz)),by simp[B,G,H],Own.grown (by simp[I.push]) (by simp[I.push]) (by simpa using z),J.push _ _ _,.inr λk C=>by simp[aS]at C;omega⟩
 rcases Y with⟨rfl|rfl,E⟩|⟨i,q,cap,c,O,rfl,hi,Q,u,D,R⟩
 .exact start _ (.inl rfl) E
 .exact start _ (.inr rfl) E
 .by_cases B:n=0
  .subst B;have:a=[]:=azo (by simpa using z);subst this;exact⟨.bh i 0 q cap,h,by simp,by rw[List.append_nil];exact .inr ⟨i,q,cap,c,O,rfl,hi,Q,u,D,R⟩,J.refl _ _,.inl rfl⟩
  .obtain⟨G,H⟩:=N (q+n) (by rw[ayC,u,z]);have c9:q*T.sz<=c.length:=by
    have:=iy azl D;rw[ajB,u]at this;omega
   simp only[B,G,H,and_self,jS,iC,Q];rcases R with⟨S,W,ab⟩|⟨rfl,rfl⟩
   .simp only[S,jS];by_cases F:q+n<=cap
    .have ga:0+(q+n)*T.sz<=c.length:=(by rw[ayB];exact UN (ay6 _ F) W);have hll:(lay c (q*T.sz) a).length=c.length:=q9 _ _ _ (by rw[z,<-ayC];omega);simp only[F,jS,ga];refine⟨_,_,rfl,.inr ⟨i,q+n,cap,lay c (0+q*T.sz) a,O,rfl,hi,by simp[I.set],by simp[u,z,ayC],?_,.inl ⟨S,?_,F⟩⟩,⟨BY _,λj aV L=>?_,rfl⟩,.inl rfl⟩
     .simp only[ayB,lay,D,ayC,<-z];have:(A++a).length=q*T.sz+a.length:=by simp[u]
      rw[<-this];exact List.take_left
     .rw[ayB,hll];exact W
     .simp only[I.set];rw[gQ (by intro M;subst M;simp[bb,aS]at L)]
    .simp only[F,iC];have Dd:0+q*T.sz<=c.length:=by omega
     simp only[Dd,jS,azw,D];exact⟨_,_,rfl,Own.grown (by simp[I.push]) (by simp[I.push]) (by simp[u,z,ayC]),J.push _ _ _,.inr λk C=>by simp[aS]at C;omega⟩
   .simp only[Nat.lt_irrefl,iC,true_and,c9,and_self,jS];refine⟨_,_,rfl,Own.grown (by simp[I.push,I.set]) (by simp[I.push,I.set,D]) (by simp[u,z,ayC]),⟨by simp[I.push,I.set],λj aV L=>?_,rfl⟩,.inr λk C=>by simp[aS]at C;omega⟩;have h1:j≠i:=(by intro M;subst M;simp[bb,aS]at L);have ad:j≠h.n:=(by omega);simp[I.push,I.set,h1,ad]
theorem Gy{P:aPf}{t:aPg}{T:mi}(i:gM P t=eL T)(q:0<T.sz)
  {h:I} {s:V} {a xs:List V} (u:Own h T.e T.sz s a) (z:xs.length=T.sz) (A:xs.all (·.one)=e6)
  (B:∀m,m*T.sz=a.length+T.sz->m*T.av<=lim/\m<=lim) :
  ∃v h',kd P t t s (.bh h.n 0 1 1) (h.push (.cells xs T.e eN))=eL (v,h')/\Own h' T.e T.sz v (a++xs)/\J h h' (bb s)/\b6 h s v:=by
 obtain⟨L,M,bq,N,O,C⟩:=tr i;have j:=J.push h (.cells xs T.e eN) kR;have D:gS P T.sz t (.bh h.n 0 1 1) (h.push (.cells xs T.e eN))=eL (1,xs):=by
  simp only[gS,C,I.push,jS,aAv,ayB,azw];rw[ajE (by omega),gr ⟨by omega,A⟩]
 obtain⟨v,h',aW,E,F,G⟩:=be (tx:=t) i q (u.aY j) D (by omega) (by rw[z];exact B);refine⟨v,h',aW,E,(j.up).trans' F,G.imp id λU k H=>?_⟩;have:=U k H;simp[I.push]at this;omega
theorem Acc.sD{P:aPf}{t tx:aPg}{T:mi}(z:gM P t=eL T){u h:I}{s x:V}{j i:List V}(a:Acc u h T.e T.sz s j)(A:0<T.sz){n:Nat}(B:gS P T.sz tx x h=eL (n,i))(C:i.length=n*T.sz)
  (D:∀m,m*T.sz=j.length+i.length->m*T.av<=lim/\m<=lim) :
  ∃v h',kd P t tx s x h=eL (v,h')/\Acc u h' T.e T.sz v (j++i):=by
 obtain⟨v,h',aW,E,F,G⟩:=be z A a.own B C D;exact⟨v,h',aW,a.step E F G⟩
theorem Acc.uV{P:aPf}{t:aPg}{T:mi}(u:gM P t=eL T){j h:I}{s:V}{i xs:List V}(a:Acc j h T.e T.sz s i)(z:0<T.sz)(A:xs.length=T.sz)(B:xs.all (·.one)=e6)
  (C:∀m,m*T.sz=i.length+T.sz->m*T.av<=lim/\m<=lim) :
  ∃v h',kd P t t s (.bh h.n 0 1 1) (h.push (.cells xs T.e eN))=eL (v,h')/\Acc j h' T.e T.sz v (i++xs):=by
 obtain⟨v,h',aW,D,E,F⟩:=Gy u z a.own A B C;exact⟨v,h',aW,a.step D E F⟩
section
variable {P:aPf} {α:Type} {enc:α->List V} {sz:Nat}
theorem ft(a:∀x,(enc x).length=sz):∀l:List α,(l.flatMap enc).length=l.length*sz
 | []=>by simp
 | x::l=>by rw[ayW,D9,a,ft a l,axF,ayC];omega
theorem LN(a:∀x,(enc x).all (·.one)=e6):∀l:List α,(l.flatMap enc).all (·.one)=e6
 | []=>rfl
 | x::l=>by rw[ayW,List.all_append,a,LN a l];rfl
theorem xR(a:∀x,(enc x).length=sz):∀(l:List α) (k:Nat),(l.flatMap enc).drop (k*sz)=(l.drop k).flatMap enc
 | l,0=>by simp
 | [],k+1=>by simp
 | x::l,k+1=>by
  rw[ayW,ayC,aAv,Nat.add_comm,<-aAu,List.drop_left' (a x),xR a l k,List.drop_succ_cons]
theorem Di(a:∀x,(enc x).length=sz):∀(l:List α) (k:Nat),(l.flatMap enc).take (k*sz)=(l.take k).flatMap enc
 | l,0=>by simp
 | [],k+1=>by simp
 | x::l,k+1=>by
  rw[ayW,ayC,aAv,List.take_append,a,Nat.add_sub_cancel,Di a l k,List.take_succ_cons,ayW,ajE (by rw[a];omega)]
theorem r0(a:∀x,(enc x).length=sz){l:List α}{k:Nat}(i:k<l.length){t:aPg}{kk:aPh}(j:dU P t=eL sz) :
  hC P t (.ag l.length (l.flatMap enc)) (.int kk (k:Int))=eL (.at (enc l[k]++(l.drop (k+1)).flatMap enc)):=by
 rw[JW j (by omega) (by omega) (ft a l),ayw,xR a,ay0 i,ayW]
theorem QV(a:∀x,(enc x).length=sz){l:List α}{n:Nat}(i:l.length=n){k:Nat}{x:α}(j:l[k]?=eL x){t:aPg}{m:aPh}(q:dU P t=eL sz) :
  ∃r,hC P t (.ag n (l.flatMap enc)) (.int m (k:Int))=eL (.at (enc x++r)):=by
 subst i;obtain⟨s,rfl⟩:=axB.1 j;exact⟨_,r0 a s q⟩
theorem j1{e r:List V}(a:e.length=sz):cw (eL (eL sz)) (eL (e++r))=eL (.agg e):=by
 rw[aaN,gr (by rw[D9];omega),aAj a]
theorem xS(a:∀x,bc (enc x))(l:List α):bc (l.flatMap enc):=bc.flatMap λx _=>a x
end
theorem aT.cut{P:aPf}{n:Nat}{c:Code}{f:aj}{h:I}(R:aj->I->Prop){Q:qF}(i:aT P n c (qF.go (.fn λx f h=>@sx ⟨x=.normal/\R f h⟩)) f h)(j:∀f h,R f h->@gq .normal Q f h):aT P n c (qF.go Q) f h :=
 i.mono λe f h s=>by
  have u:e=.normal/\R f h:=s;obtain⟨rfl,z⟩:=u;exact j f h z
theorem aoK{h:I}{B C:aPg}{j q n m:Nat}{a b:V}{s u:List V}(D:Own h B j a s)(ob:Own h C q b u)(E:∀k,aS a=eL k->aS b≠eL k)(F:s.length=n*j)(G:u.length=m*q)(aW:0<j)(an:0<q) :
  ∃i,aE [a,b] h [.ag n s,.ag m u] i/\J h i (λk=>bb a k\/bb b k):=by
 obtain⟨Q,H,A⟩:=aK.own D F aW;have z:=ob.ai A λk L M=>E k M L;obtain⟨i,N,O⟩:=aK.own z G an;exact⟨i,aE.cons H (aE.cons N (aE.refl [] _)),(A.mono λ_ h=>.inl h).trans (O.mono λ_ h=>.inr h) λ_ _ h=>h⟩
theorem Acc.QW{s h:I}{D E:aPg}{u z n m:Nat}{a b:V}{A B:List V}(C:Acc s h D u a A)(ob:Acc s h E z b B)(F:∀k,aS a=eL k->aS b≠eL k)(G:A.length=n*u)(H:B.length=m*z)(aW:0<u)(an:0<z) :
  ∃i,aE [a,b] h [.ag n A,.ag m B] i/\J s i kR:=by
 obtain⟨i,c,k⟩:=aoK C.own ob.own F G H aW an;exact⟨i,c,C.ai.trans k λj L hi=>by
  rcases hi with hi|hi
  .have:=C.new j hi;omega
  .have:=ob.new j hi;omega⟩
open Go
section
variable {H:Type} {enc:aPg×aPi->H} {P:aPf} {w:aPj} {base:Nat} {spare:Nat->Bool} {held:Bool}
theorem aoL{t e:aPg}{a:Option Addr}{len cap:Nat}{d:aPo H}{ps:List MemPlace}{j:List (List V)}{k:Nat}(z:P.underlying t=eL (.slice e))(D:P.bytesOf e=k)(E:∀n∈d.weights P t,n<=reachBytes)
  (h:aPo.Trod enc P w base spare held t (.slice a len cap) d ps) (q:aL (oY w) (.ag j.length j.flatten) (.slice a len cap)):j.length*k<=2^47:=by
 obtain⟨A,F⟩:=h;have B:j.length=len:=by
  generalize j.length=n at q;generalize j.flatten=c at q;cases q<;>rfl
 rcases aPo.trod_slice z F with⟨s,_⟩|⟨G,L,M,i,rest,m,_,s,C,_,_,_,N,_,_⟩
 .cases s;rw[B];omega
 .cases s;simp only[Prod.mk.injEq]at C;have u:=E ((i.length+rest.length)*P.bytesOf e) (by rw[C.1];simp[aPo.weights,z]);have O:=reachBytes_lt;have Q:len*k<=(i.length+rest.length)*k:=ay6 _ (by omega);rw[D]at u;rw[B];omega
end
theorem aT.LO{P:aPf}{n id:Nat}{ops:Array aPl}(M:Nat->Prop)(es:List Nat)(s:ey)(z:P.follows .mixedOrders=e6)(i:s.ok ops es ops.size e6 fr e6 (azJ ops.size fr)=e6)(A:ops.toList.all (λo=>tm n o.dst)=e6){Q:qF}{f:aj}{h:I}
  (C:gN P ops.toList M h (.out Q) s fr f h):aT P n (.region id ops e6) Q.go f h:=by
 intro ρ B G a w j D;refine wpIn_wide.1 (wpIn_region_any (n:=0) z (Gq (ρ0:=ρ) (es:=es) A _ _ f h ρ a _ (Ren.le.refl ρ) j.drew D ?_));have:=(abf (es:=es) j.wf s _ fr e6 _ f h (λE=>by cases E) (λ_=>J.refl _ _) (λk o H u=>by simp[aC1]at u;split at u<;>simp_all) (abg s _ e6 fr e6 _ f h i C)).1 i;exact LB (λf h F=>F f) _ _ _ _ this
section
variable {ρ:Ren} {B:Nat} {aZ:aPj} {h:I} {w:aPj}
theorem a8.grow(R:a8 ρ B aZ h w)(os:Array Obj):a8 ρ B aZ h (Sort.grow w os):=by
 have j:∀k,k<w.heap.size->(Sort.grow w os).heap[k]?=w.heap[k]?:=λk s=>by
  show(w.heap++os)[k]?=_;rw[Array.getElem?_append,gr s]
 have bq:w.heap.size<=(Sort.grow w os).heap.size:=by
  show w.heap.size<=(w.heap++os).size;rw[Array.size_append];omega
 refine⟨⟨R.heap.mQ,R.heap.inj,λi=>?_,λb arr C=>?_,R.heap.glob,UN R.heap.base bq⟩,R.below.trans ⟨rfl,rfl,rfl,bq,λk s=>j k (Nat.lt_of_lt_of_le s R.heap.base),BY _⟩⟩
 .by_cases u:h.get i=.dead
  .rw[u];trivial
  .refine(R.heap.obj i).ai (Ren.le.refl ρ) λb G z=>⟨j b ?_,λh=>h⟩;obtain⟨H,L,D,E,_⟩:=R.heap.live u;rw[D]at z;cases z;exact E
 .obtain⟨e,F,A⟩:=R.heap.frz b arr C;exact⟨e,F,(j b (ay8.1 A).1).trans A⟩
theorem a8.ahead(R:a8 ρ B aZ h w):∀n:Nat,a8 ρ B aZ h (Sort.ahead w n)
 | 0=>R
 | n+1=>by rw[<-Sort.ahead_drew];exact(R.ahead n).drew
theorem a8.J0(R:a8 ρ B aZ h w){k:aPh}{i b F n:Nat}{c:List V}{e:aPg}{G:Option Nat}(H:h.get i=.cells c e G)(hi:ρ.ren i=eL (b,F))(Z:n<=c.length)(d:Array Int)(O:d.size=n) :
  a8 ρ B aZ (h.set i (.cells (d.toList.map (.int k)++c.drop n) e G)) (Sort.putRow (aPi.int k) w b 0 d):=by
 have L:=R.heap.obj i;rw[H]at L;obtain⟨da,tF,arr,M,Q,S,N,z,W,X⟩:=L;rw[hi]at M;cases M;have aC:=(ay8.1 N).1;have D:∀j,(Sort.putRow (aPi.int k) w b 0 d).heap[j]?=if b=j then(w.heap[j]?).map (Sort.onCells (Sort.putCells (aPi.int k) 0 d))else w.heap[j]?:=λj=>by
  show(w.heap.modify b _)[j]?=_;rw[Array.getElem?_modify]
 refine R.su hi (by rw[H];simp) (λj A=>by rw[D,gQ (Ne.symm A)]) (by rw[Sort.size_putRow];exact BY _) ⟨rfl,rfl,rfl,by rw[Sort.size_putRow];exact BY _,λj A=>by rw[D,gQ (by omega)],BY _⟩ ?_;have E:(d.toList.map (kA k)++c.drop n).length=c.length:=by simp;omega
 refine⟨b,F,Sort.putCells (aPi.int k) 0 d arr,hi,Q,S,by rw[D,gr rfl,N];rfl,by rw[E];simpa [Sort.putCells]using z,?_,by rw[E];simpa [Sort.putCells]using X⟩;rw[E];refine⟨by simp[Sort.putCells];omega,λj v v' s u=>?_⟩;rw[ay7]at u;split at u
 case isFalse=>cases u
 rename_i A;rw[azq]at u;unfold Sort.putCells at u;rw[Array.getElem?_mapIdx,azs]at u;obtain⟨x,Y,C⟩:=u;by_cases jQ:j<n
 .rw[gr ⟨D8 _,by omega⟩]at C;subst C;rw[azW (by simp;omega),aA1,azq,Array.getElem?_eq_getElem (by omega)]at s;simp only[azi,Option.some.injEq]at s;subst s;rw[Nat.sub_zero,getElem!_pos d j (by omega)];exact .int k _
 .rw[gQ (by omega)]at C;subst C;rw[azX (by simp;omega),azI]at s;simp only[ajD,Array.length_toList]at s;rw[O,show n+(j-n)=j by omega]at s;refine W.2 j v x s ?_;rw[ay7,gr A,azq];exact Y
theorem a8.holds(R:a8 ρ B aZ h w){k:aPh}{i b E:Nat}{c:List V}{e:aPg}{F:Option Nat}(G:h.get i=.cells c e F)(hi:ρ.ren i=eL (b,E)){l:List Int}(aw:c.take l.length=l.map (.int k)) :
  Sort.Holds (aPi.int k) w b 0 l.toArray/\b<w.heap.size:=by
 have A:=R.heap.obj i;rw[G]at A;obtain⟨N,O,arr,C,Q,S,z,D,H,W⟩:=A;rw[hi]at C;cases C;refine⟨λj u=>?_,(ay8.1 z).1⟩;simp only[List.size_toArray]at u;have X:l.length<=c.length:=by
  have:=iy azl aw;rw[ajB,ajD]at this;omega
 have L:c[j]?=eL (.int k l[j]):=by
  have:(c.take l.length)[j]?=eL (.int k l[j]):=by rw[aw,aA1,Jt u];rfl
  rwa[ay7,gr u]at this
 obtain⟨Y,s,M⟩:=H.get L;cases M;rw[ay7]at s;split at s
 case isFalse=>cases s
 rw[azq]at s;have az:l.toArray[j]! = l[j]:=by rw[getElem!_pos _ j (by simpa using u)];simp
 rw[az];exact⟨by simp[aPj.cell?,z,s],by simp[aPj.frozen?,z]⟩
end
theorem aoM{P:aPf}{f:aPn}{e:aPg}
  (R:∀(h2 off cap:Nat) (zs:List Int) (w:aPj),Sort.Holds (aPi.int gj) w h2 off zs.toArray->h2<w.heap.size->zs.length<4611686018427387904->Calls P f #[.slice (eL ⟨h2,off,eN⟩) zs.length cap] w λx w'=>
   x=.returned (.tuple #[])/\∃n os,w'=Sort.grow (Sort.putRow (aPi.int gj) (Sort.ahead w n) h2 off (zs.mergeSort λx y=>decide (x<=y)).toArray) os)
  (S:∀(p:Option Addr) (cap:Nat) (w:aPj),Calls P f #[.slice p 0 cap] w λx w'=>x=.returned (.tuple #[])/\w'=w)
  {h:I} {v:V} {l:List Int} (G:Own h e 1 v (l.map (.int gj))) (W:l.length<4611686018427387904) :
  au P f [v] h (λr h'=>r=.tuple []/\Own h' e 1 v ((l.mergeSort λx y=>decide (x<=y)).map (.int gj))/\J h h' (bb v)):=by
 have nil:∀(p:Option Addr) (cap:Nat) (ρ:Ren) (B:Nat) (j w:aPj),a8 ρ B j h w->l=[]->Calls P f #[.slice p 0 cap] w λH w'=>(∃(ρ':Ren) (r:V) (L:aPi) (h':I),H=.returned L/\aL ρ' r L/\a8 ρ' B j h' w'/\ρ.le ρ'/\(r=.tuple []/\Own h' e 1 v ((l.mergeSort λx y=>decide (x<=y)).map (.int gj))/\J h h' (bb v))) \/
   (∃(ρ':Ren) (M:List PanicEntry) (h':I),H=.panicked M/\i7 M/\a8 ρ' B j h' w'/\ρ.le ρ'/\False):=λp cap ρ B j w s X=>by
  subst X;refine(S p cap w).mono λx w' ⟨u,z⟩=>.inl ⟨ρ,.tuple [],.tuple #[],h,u,.tuple rfl (by simp),by rw[z];exact s,Ren.le.refl ρ,rfl,?_,J.refl _ _⟩;simpa using G
 intro ρ B j w q s aW;obtain⟨Y,t,Z,A,VK⟩:=aW.eM;have C:t=[]:=by
  have:=VK.1;cases t with
  | nil=>rfl
  | cons _ _=>simp at this
 subst C;have dr:q=#[Y]:=by
  apply Array.toList_inj.1;rw[Z]
 subst dr;rcases G with⟨tJ,dh⟩|⟨i,D,cap,c,N,rfl,z1,O,a,E,dF⟩
 .have Q:l=[]:=List.map_eq_nil_iff.1 dh;rcases tJ with rfl|rfl
  .cases A;exact nil _ _ ρ B j w s Q
  .cases A;exact nil _ _ ρ B j w s Q
 .rw[axD]at a E;have qO:l.length=D:=by rw[<-a,ajD]
  subst qO;have c9:l.length<=c.length:=by
   have:=iy azl E;rw[ajB,ajD]at this;omega
  cases A with
  | bh hi _ _ _ aa=>
   rename_i b bI;obtain⟨hH,aC⟩:=s.holds (k:=.i64) O hi E;refine(R b 0 (gH bI cap) l w hH aC W).mono λx w' ⟨u,m,os,z⟩=>.inl ⟨ρ,.tuple [],.tuple #[],h.set i (.cells ((l.mergeSort λx y=>decide (x<=y)).map (.int gj)++c.drop l.length) e N),u,.tuple rfl (by simp),?_,Ren.le.refl ρ,rfl,?_,?_⟩
   .subst z;exact((s.ahead m).J0 O hi c9 (l.mergeSort λx y=>decide (x<=y)).toArray (by simp[aBz])).grow os
   .refine .inr ⟨i,l.length,cap,_,N,rfl,z1,aM,by simp[aBz],?_,?_⟩
    .rw[axD,aAj (by simp[aBz])]
    .rcases dF with⟨F,ad,aD⟩|F
     .refine .inl ⟨F,?_,aD⟩;simp only[D9,ajD,aBz,azk];omega
     .exact .inr F
   .exact(J.set h i _).mono λk hk=>by simp[bb,aS,hk]
end Go.Proofs.YtemdgidnhgcafaaGreatDoor.Ab
