/-
  What functions of the program do, told of abstract states. Conditions: as each theorem says.
-/
import Derived.Test.YtemdgidnhgcafaaGreatDoorNd
import Derived.Test.YtemdgidnhgcafaaGreatDoorNb
import Derived.Test.YtemdgidnhgcafaaGreatDoorAcD
import Derived.Test.YtemdgidnhgcafaaGreatDoorNa
open List renaming mem_cons->Iz,cons_append->azv,nil_append->azy,getElem?_eq_getElem->IA,length_append->Dx,append_assoc->axV,getElem_mem->ayM,mem_of_mem_take->aA9,length_take->TY,take_of_length_le->ajz,length_drop->azD,length_cons->axW,length_nil->ayK,drop_of_length_le->azz,drop_eq_getElem_cons->azg,any_append->aEu,any_cons->aEv,any_nil->aF4,take_succ_eq_append_getElem->azi,any_eq_true->aAC,any_eq_false->aAS,getD->ayO,append_nil->axX,flatMap_cons->azh,mem_of_mem_drop->aAg,drop_left->aAe
open Go.Proofs.Tryz renaming prog->mc,results173->aF0,func202->aEb,underlying256->aBI,results202->aEc,results146->aEs,results144->aAV,results185->aEt,results167->aDq,results141->aDr,results100->azA,results59->aBe,results112->aF6,results30->aF8,results107->aAW
open Nat renaming reduceEqDiff->ds,reduceAdd->AS,reduceLeDiff->By,le_trans->ajy,mul_one->ajD,zero_le->Dy,min_eq_left->azt,zero_add->ayP,le_refl->BY
open Int renaming reduceNeg->IN,emod_eq_of_lt->aF3,toNat_natCast->ayQ,reduceLE->aAi,eq_ofNat_of_zero_le->aBS
open Option renaming map_some->azE
open Bool renaming and_eq_true->ajC,or_false->azN,eq_false_iff->aF5
open Go renaming IntKind->aOT
set_option linter.unusedVariables false
set_option linter.unusedSimpArgs false
set_option maxHeartbeats 2000000
set_option maxRecDepth 10000
namespace Go.Proofs.YtemdgidnhgcafaaGreatDoor.Pk
open Go Go.Proofs Go.Proofs.YtemdgidnhgcafaaGreatDoor.Ab
def iA(h:I)(a:Nat)(O:List Nat)(K:fc)(e:b6)(n:Int)(l:List an):Prop :=
 ∃i j,O=a::j/\Af h a (ng K) i e n/\js h i j K l/\a∉j/\HN K n
section
variable {h h':I} {a:Nat} {O:List Nat} {K:fc} {e:b6} {n:Int} {l:List an}
theorem iA.lt(s:iA h a O K e n l):∀q∈O,q<h.n:=by
 obtain⟨i,z,rfl,u,k,ne,A⟩:=s;intro q j;rcases Iz.1 j with rfl|j
 ·exact u.lt
 ·exact k.lt q j
theorem iA.ai{M:Nat->Prop}(s:iA h a O K e n l)(j:J h h' M)(u:∀q∈O,¬M q):iA h' a O K e n l:=by
 obtain⟨i,z,rfl,A,k,ne,B⟩:=s;exact⟨i,z,rfl,A.ai j (u _ (by simp)),k.ai j (λq C=>u q (by simp[C])),ne,B⟩
theorem iA.ba(s:iA h a O K e n l)(i:J h h' none_):iA h' a O K e n l:=s.ai i λ_ _=>by simp[none_]
theorem iA.wf(s:iA h a O K e n l):dX K l:=by obtain⟨i,j,rfl,u,k,ne,z⟩:=s;exact k.wf
def nR(K:fc)(e:b6)(l:List an)(r:Rec):Except Int Int :=
 if d8 r.t=false then .error 2 else
 match c2 r.k r.v r.t (M5 K l r.k r.t) 16 e with
 | none=>.error 10
 | some N=>if uq K l r.k r.t then .error 3 else .ok N
def rV(K:fc)(e:b6)(l:List an)(r:Rec):V :=
 match nR K e l r with
 | .error c=>sq c
 | .ok N=>lN r.k N (C5 K l r.k r.t) (kF (um K l r.k r.t N))
def oC(K:fc)(e:b6)(l:List an)(r:Rec):List an :=
 match nR K e l r with
 | .error _=>l
 | .ok N=>uo K l r.k r.t N
theorem ato(w:dX K l)(r:Rec):dX K (oC K e l r):=by
 unfold oC nR;cases j:d8 r.t with
 | false=>simpa using w
 | true=>
  rw[if_neg (by decide)]
  cases c2 r.k r.v r.t (M5 K l r.k r.t) 16 e with
  | none=>exact w
  | some N=>
   cases i:uq K l r.k r.t with
   | true=>simpa [i]using w
   | false=>simpa [i]using w.l6 N j i
theorem atp(s:iA h a O K e n l)(hm:dj e=true)(aw:hB h)(r:Rec) :
  au mc 174 [.ptr a 0,.agg (aK r)] h (λq h'=>∃j,q=rV K e l r/\J h h' (·∈O)/\e8 h O j/\iA h' a j K e n (oC K e l r)):=by
 have aD:=s.lt;obtain⟨i,A,rfl,F,k,G,Q⟩:=s;have kd:=F.lt;have R:=k.lt;refine(arS F hm aw r (M5 K l r.k r.t) (·∈A) G (λq u U=>by have:=R q U;omega)
  (λH S N c t L=>∃j,e8 H A j/\if uq K l r.k r.t=true then L=3/\js S i j K l else L=0/\t=C5 K l r.k r.t/\c=kF (um K l r.k r.t N)/\js S i j K (uo K l r.k r.t N))
  (λh' Y Z=>ath (k.ba Y) r Z)
  (λh' N Y Z _=>(atl (k.ba Y) r N Z).mono λq S ⟨c,t,L,j,ay,T,B,av⟩=>⟨c,t,L,ay,T,j,B,av⟩)).mono λq U ⟨yb,S,C,en,z,P⟩=>?_
 have up:∀{j:List Nat},e8 yb A j->e8 h (a::A) (a::j):=λB x m=>by
  rcases Iz.1 m with rfl|m
  ·exact .inl (by simp)
  ·rcases B x m with m|m
   ·exact .inl (by simp[m])
   ·exact .inr (by omega)
 cases E:d8 r.t with
 | false=>
  have ay:rV K e l r=sq 2:=by unfold rV nR;rw[if_pos E]
  have bc:oC K e l r=l:=by unfold oC nR;rw[if_pos E]
  rw[if_pos E]at P;obtain⟨rfl,rfl⟩:=P;rw[ay,bc];refine⟨a::A,rfl,(C.trans z λq u U=>by omega).up,e8.refl _ _,i,A,rfl,(F.ai C (by simp[none_])).ai z (by omega),(k.ba C).ai z λq u=>by have:=R q u;omega,G,Q⟩
 | true=>
  rw[if_neg (by rw[E];decide)]at P
  cases M:c2 r.k r.v r.t (M5 K l r.k r.t) 16 e with
  | none=>
   have D:nR K e l r=.error 10:=by unfold nR;rw[if_neg (by rw[E];decide),M]
   have ay:rV K e l r=sq 10:=by unfold rV;rw[D]
   have bc:oC K e l r=l:=by unfold oC;rw[D]
   rw[M]at P;obtain⟨rfl,rfl⟩:=P;rw[ay,bc];exact⟨a::A,rfl,(C.trans z λq u U=>by omega).up,e8.refl _ _,i,A,rfl,(F.ai C (by simp[none_])).ai z (by omega),(k.ba C).ai z λq u=>by have:=R q u;omega,G,Q⟩
  | some N=>
   rw[M]at P;obtain⟨c,t,L,T,⟨j,B,av⟩,W⟩:=P;have vM:J h U (·∈a::A):=((C.up).trans' (T.mono λq u=>by simp[u])).trans z λq u e=>by omega
   have SQ:=((F.ai C (by simp[none_])).ai T G).ai z (by omega)
   have nD:∀{x},x∈j->x≠h.n+1:=λ{x} m=>by
    rcases B x m with m|m
    ·have:=R x m;omega
    ·omega
   have eS:a∉j:=λm=>by
    rcases B a m with m|m
    ·exact G m
    ·omega
   cases X:uq K l r.k r.t with
   | true=>
    rw[X,if_pos rfl]at av;obtain⟨rfl,hk⟩:=av;have D:nR K e l r=.error 3:=by unfold nR;rw[if_neg (by rw[E];decide),M];simp only[X,if_true]
    have ay:rV K e l r=sq 3:=by unfold rV;rw[D]
    have bc:oC K e l r=l:=by unfold oC;rw[D]
    rw[if_neg (by decide)]at W
    rw[ay,bc,W];exact⟨a::j,rfl,vM,up B,i,j,rfl,SQ,hk.ai z λq u=>nD u,eS,Q⟩
   | false=>
    rw[X,if_neg (by decide)]at av
    obtain⟨rfl,rfl,rfl,hk⟩:=av;have D:nR K e l r=.ok N:=by unfold nR;rw[if_neg (by rw[E];decide),M];simp only[X,Bool.false_eq_true,if_false]
    have ay:rV K e l r=lN r.k N (C5 K l r.k r.t) (kF (um K l r.k r.t N)):=by unfold rV;rw[D]
    have bc:oC K e l r=uo K l r.k r.t N:=by unfold oC;rw[D]
    rw[if_pos rfl]at W;rw[ay,bc,W];exact⟨a::j,rfl,vM,up B,i,j,rfl,SQ,hk.ai z λq u=>nD u,eS,Q⟩
theorem aeJ(s:iA h a O K e n l)(mark:Int)(M:-2^63<=mark/\mark<2^63) :
  au mc 89 [.ptr a 0,.int .i64 mark] h (λr h'=>∃z,Own h' 110 5 r ((hY K mark l).flatMap aQ)/\(∀j,aU r=some j->h.n<=j/\j∉z)/\J h h' (·∈O)/\e8 h O z/\iA h' a z K e n (iv K mark l)):=by
 obtain⟨i,F,rfl,A,k,B,G⟩:=s;have T:=A.lt;have W:=k.lt;refine bd Tryz.func89 rfl ?_;have C:=A.get;obtain⟨o,m,X⟩:=e;rw[l3]at C;simp only[azv,azy]at C;simp only[ae,ds,reduceCtorEq];refine bO (QO A) ?_;simp only[ae,ds];have N:(a∈F)=False:=eq_false B;refine aS.cS (λx=>x∈F) [9] (.q 0 (.q 1 (.q 2 (.q 3 (.q 4 (.q 5 (.q 6 (.q 7 (.q 8 (.a 9 (.q 10 .done))))))))))) ?_;simp only[ae,bt,fo,ds,AS,By,reduceCtorEq,abp,Jf,bR,Jn,C,N];refine cA (atm k n mark G M) λr Y ⟨z,Q,D,H,L,R⟩=>?_;simp only[ae,bt,fo,ds,aP,Tryz.results89,ac];refine ar ⟨a::z,Q,λj E=>⟨(D j E).1,λu=>?_⟩,H.mono λq S=>by simp[S],λx u=>?_,i,z,rfl,A.ai H B,R,λu=>?_,G⟩
 ·rcases Iz.1 u with rfl|u
  ·have:=(D _ E).1;omega
  ·exact(D j E).2 u
 ·rcases Iz.1 u with rfl|u
  ·exact .inl (by simp)
  ·rcases L x u with u|u
   ·exact .inl (by simp[u])
   ·exact .inr (by omega)
 ·rcases L a u with u|u
  ·exact B u
  ·omega
def Q3(K:fc)(r:Rec)(mark:Int):Bool:=d8 r.t&&aet K r.t mark
theorem atq(s:iA h a O K e n l)(r:Rec)(mark:Int):Pure mc 173 [.ptr a 0,.agg (aK r),.int .i64 mark] h (.bool (Q3 K r mark)):=by
 obtain⟨i,N,rfl,F,k,Q,G⟩:=s;refine Pure.val (a8.bool _) ?_;obtain⟨L,M,j⟩:=r;refine bd Tryz.func173 rfl ?_;unfold aK Q3;obtain⟨H,hH,u,C,_⟩:=b0 h (.cells [.int .i64 L,.int .i64 M,.int .i64 j] 45 none);have D:=F.ai u (by simp[none_])
 have E:=k.ba u;have z:=D.get;obtain⟨o,m,R⟩:=e;rw[l3]at z;simp only[azv,azy]at z;simp only[ae,ds,reduceCtorEq];rw[<-hH];clear hH;refine bO (QO D) ?_;simp only[ae,ds,AS,By,td,bR,C];refine bO (adl j H) ?_;cases A:d8 j with
 | false=>
  rw[show decide (0<=j/\j<=1099511627776)=false from A]
  simp only[ae,ds,aP,aF0,ac];exact ar ⟨rfl,u⟩
 | true=>
  rw[show decide (0<=j/\j<=1099511627776)=true from A]
  simp only[ae,ds];refine aS.cS none_ [] (.q 0 (.q 1 (.q 2 (.q 3 (.q 4 (.q 5 (.q 6 (.q 7 (.q 8 (.q 9 (.q 10 (.c 11 (.q 12 .done))))))))))))) ?_;simp only[ae,bt,ds,AS,By,reduceCtorEq,abp,Jf,td,bR,Jn,z,C];refine fA rfl rfl rfl (λh' B=>atn (h:=h') (by rcases B with B|rfl;exact E.ba B;exact E) n j mark G A) ?_
  simp only[ae,bt,ds,aP,aF0,ac];exact ar ⟨rfl,u⟩
def C8(K:fc)(l:List an)(key:Int):Int:=match K with | .kv=>valOf l (pT .kv key 0 0)|_=>0
theorem atr(s:iA h a O K e n l)(key:Int):Pure mc 176 [.ptr a 0,.int .i64 key] h (.int .i64 (C8 K l key)):=by
 obtain⟨i,A,rfl,u,k,B,C⟩:=s;have j:=u.get;obtain⟨o,m,D⟩:=e;rw[l3]at j;simp only[azv,azy]at j;have z:Pure mc 202 [.iface (ng K) (.ptr i 0),.int .i64 key] h (.int .i64 (C8 K l key)):=by
  cases k with
  | @kv v l k=>
   have:=arQ k key;rw[<-aez (v:=0) (d:=false) k.oz]at this;exact this
  | @dW m E g e l k F w=>
   refine bd aEb rfl ?_;have q:jg mc (.iface (ng (.dW g)) (.ptr i 0)) 256 true=some (.tuple [.dx,.bool false]):=by unfold jg;rw[aBI];rfl
   simp only[ae,ds,reduceCtorEq,q,aP,aEc,ac];exact ar ⟨rfl,rfl⟩
  | @fi v g l k=>
   refine bd aEb rfl ?_;have q:jg mc (.iface (ng (.fi g)) (.ptr i 0)) 256 true=some (.tuple [.dx,.bool false]):=by unfold jg;rw[aBI];rfl
   simp only[ae,ds,reduceCtorEq,q,aP,aEc,ac];exact ar ⟨rfl,rfl⟩
 refine bd Tryz.func176 rfl ?_;simp only[ae,ds,reduceCtorEq];refine bO (QO u) ?_;simp only[ae,ds,AS,By,reduceCtorEq,Jf,Jn,j];refine bO z ?_;simp only[ae,ds,aP,Tryz.results176,ac];exact ar ⟨rfl,rfl⟩
end
theorem ats{e:List V}(h:j1.h7 (.cat (.int .i64) (.cat (.int .i64) (.cat (.int .i64) .unit))) e):∃c:Rec,e=aK c:=by
 obtain⟨i,_,rfl,⟨a,rfl,_⟩,j,_,rfl,⟨b,rfl,_⟩,m,_,rfl,⟨c,rfl,_⟩,rfl⟩:=h;exact⟨⟨a,b,c⟩,rfl⟩
theorem aeK{α:Type}{s:j1}{enc:α->List V}(a:∀e,s.h7 e->∃c,e=enc c):∀{es:List (List V)},(∀x∈es,s.h7 x)->∃l:List α,es.length=l.length/\es.flatten=l.flatMap enc
 | [],_=>⟨[],rfl,rfl⟩
 | e::es,h=>by
  obtain⟨l,i,j⟩:=aeK a (es:=es) λx m=>h x (by simp[m])
  obtain⟨c,rfl⟩:=a e (h _ (by simp))
  exact⟨c::l,by simp[i],by simp[j]⟩
def qz(a n:Int):Option fc :=
 if a=6 then some .kv else
 if a=7 then(if 1<=n/\n<=1048576 then some (.dW n)else none)else
 if a=8 then(if 1<=n/\n<=1048576 then some (.fi n)else none)else none
theorem att(x:bz){K:fc}(u:qz x.kind x.n=some K)(G:dj x.e=true)(W:hT x.e)(h:I)(X:hB h) :
  au mc 75 [.agg (al x)] h (λr h'=>∃a O,r=.tuple [.ptr a 0,.int .i64 0]/\J h h' none_/\(∀q∈O,h.n<=q)/\iA h' a O K x.e x.n []):=by
 have B:∀(T:TypeId) (M:T=ng K) (N:HN K x.n) (F:I->I->Nat->Prop) (Q:∀H j i,J h H none_->F H j i->∃O,js j i O K []/\∀q∈O,H.n<=q)
   (z:∀H,J h H none_->au mc 113 [.agg (al x)] H (λr h'=>∃i,r=.tuple [.iface T (.ptr i 0),.int .i64 0]/\J H h' none_/\F H h' i)),
   au mc 75 [.agg (al x)] h (λr h'=>∃a O,r=.tuple [.ptr a 0,.int .i64 0]/\J h h' none_/\(∀q∈O,h.n<=q)/\iA h' a O K x.e x.n []):=λT M N F Q z=>by
  refine(arT x G W h X T F z).mono λr h' ⟨a,i,H,j,e,R,q,Y,kk,aT,BJ,s⟩=>?_;obtain⟨O,S,Z⟩:=Q H j i R q;subst M;have A:=R.n;refine⟨a,a::O,e,kk,λq L=>?_,i,O,rfl,s,S.ba Y,λU=>by have:=S.lt a U;omega,N⟩
  rcases Iz.1 L with rfl|L
  ·exact aT
  ·exact ajy A (Z q L)
 unfold qz at u;split at u
 ·rename_i z;cases u;refine B 256 rfl trivial (λH j i=>H.n<=i/\fU j i .ag 1024 []) (λH j i _ ⟨C,D⟩=>⟨[i],.kv D,by simpa using C⟩) λH _=>?_
  exact(arO x z H).mono λr h' ⟨i,e,hi,k,E⟩=>⟨i,e,E,hi,k⟩
 split at u
 ·rename_i z;split at u
  case isFalse=>cases u
  rename_i A;cases u;refine B 259 rfl rfl (λH j i=>∃m,H.n<=i/\H.n<=m/\ej j i m 1024 x.n [] 0) (λH j i _ ⟨m,C,D,fp⟩=>⟨[i,m],.dW (e:=[]) ⟨fp,⟨by simp[j6,dz],by simp[j6,dz]⟩,c1.nil,by simp⟩ (by simp[e7]) (dX.nil A),by simp[C,D]⟩) λH _=>?_
  exact(asB x z A.1 A.2 H).mono λr h' ⟨i,e,E,m,hi,G,k⟩=>⟨i,e,E,m,hi,G,k⟩
 split at u
 ·rename_i z;split at u
  case isFalse=>cases u
  rename_i A;cases u;refine B 262 rfl rfl (λH j i=>H.n<=i/\dI j i .ag 1024 x.n []) (λH j i _ ⟨C,D⟩=>⟨[i],.fi D,by simpa using C⟩) λH _=>?_
  exact(asC x z A.1 A.2 H).mono λr h' ⟨i,e,E,hi,k⟩=>⟨i,e,E,hi,k⟩
 ·cases u
def BU(O a:List Nat):Prop:=∀q∈O,q∉a
theorem BU.symm{O i:List Nat}(d:BU O i):BU i O:=λq j U=>d q U j
theorem BU.step{h:I}{b:Nat}{O u j:List Nat}{z:fc}{bc:b6}{A:Int}{B:List an}(s:iA h b j z bc A B)(C:e8 h O u)(d:BU O j):BU u j:=λq i U=>by
 rcases C q i with i|i
 ·exact d q i U
 ·have:=s.lt q U;omega
theorem atu{l:List Rec}{k:Nat}{kk:aOT}(h:k<l.length):∃r,gP mc 25 (.af l.length (l.flatMap aK)) (.int kk (k:Int))=some (.at (aK l[k]++r)) :=
 P4 Ae rfl (IA h) VU
theorem atv(s x:V)(cs xs:List Nat)(h:I)(rd:Rd h s cs)(a:Rd h x xs)(av:cs.length+xs.length<=2^45) :
  Pure mc 64 [s,x] h (.af (cs++Bd xs).length (e5 (cs++Bd xs))):=by
 refine Pure.acc (e:=5) (sz:=1) (Es _) (by rw[rQ,ajD]) (by omega) ?_
 refine bd Tryz.func64 rfl ?_;have q:aOT.i64.wrap (10+(xs.length:Int))=((10+xs.length:Nat):Int):=by rw[Go.IntWalk.i64_in _ (by omega)];omega
 have u:=L8 (n:=xs.length) (by omega)
 simp only[ae,ds,reduceCtorEq,a.len h (J.refl _ _),q];refine cA (acE s cs (10+xs.length) h rd (by omega)) λcL i j=>?_
 simp only[ae,ds,a.len i j.ai,lL gS oP,u];refine cA (Wl cL cs xs.length i j (by omega) (by omega)) λdB z m=>?_
 have C:=(rR xs.length (by omega)).2
 obtain⟨v,D,A,B⟩:=m.app (P:=mc) (tx:=26) LS (by decide) (a.src z m.ai) (by rw[rQ,ajD]) (by simp only[rQ,Dx,lim];omega) (by simp only[rQ,Dx,lim];omega)
 simp only[ae,ds,A,aP,Tryz.results64,ac];exact ar (B.conv (by rw[<-Wd,axV];rfl))
theorem atw(s:V)(cs:List Nat)(l:List Int)(h:I)(rd:Rd h s cs)(E:∀n∈l,-2^63<=n/\n<2^63)(av:cs.length+10*l.length<=2^45) :
  Pure mc 61 [s,.af l.length (ao l)] h (.af (cs++zZ l).length (e5 (cs++zZ l))):=by
 refine Pure.acc (e:=5) (sz:=1) (Es _) (by rw[rQ,ajD]) (by omega) ?_
 refine bd Tryz.func61 rfl ?_;have G:aOT.i64.wrap (10+(l.length:Int))=((10+l.length:Nat):Int):=by rw[Go.IntWalk.i64_in _ (by omega)];omega
 have H:=L8 (n:=l.length) (by omega)
 simp only[ae,ds,reduceCtorEq,fB,G];refine cA (acE s cs (10+l.length) h rd (by omega)) λcL z L=>?_
 simp only[ae,ds,fB,lL gS oP,H];refine cA (Wl cL cs l.length z L (by omega) (by omega)) λdB M N=>?_
 simp only[ae,ds,fB];refine aS.bI (α:=V×Nat) (λx f h'=>f 5=x.1/\f 17=.af l.length (ao l)/\f 18=.int .i64 (l.length:Nat)/\f 19=.int .i64 (x.2:Nat)/\Acc h h' 5 1 x.1 (e5 (cs++enc l.length++(l.take x.2).flatMap λn=>enc (kJ n)))/\x.2<=l.length) (λx=>l.length-x.2) (dB,0)
  ⟨rfl,rfl,rfl,rfl,by simpa using N,Dy _⟩ ?_
 rintro⟨v,i⟩ f F ⟨A,m,j,a,B,hi⟩
 simp only at A a B hi;refine wpS ?_;by_cases C:i<l.length
 ·have D:decide ((i:Int)<(l.length:Int))=true:=by simp;omega
  have u:=E _ (ayM C);have O:aOT.i64.wrap ((i:Int)+1)=((i+1:Nat):Int):=by rw[Go.IntWalk.i64_in _ (by omega)];rfl
  have q:(cs++enc l.length++(l.take i).flatMap λn=>enc (kJ n)).length<=2^46:=by
   have z:=acG (l:=l.take i) λn Q=>E n (aA9 Q);have M:=(rR l.length (by omega)).2
   rw[TY]at z;simp only[Dx];omega
  simp only[ae,ds,aY,A,m,j,a,D,QI C iS];refine bO (acA _ F u.1 u.2) ?_;simp only[ae,ds];refine cA (Wl v _ _ F B q (CN _ u.1 u.2)) λCO S R=>?_;simp only[ae,ds,a,O];refine ar ⟨(CO,i+1),⟨rfl,m,j,rfl,?_,by simp only;omega⟩,by simp only;omega⟩
  refine R.conv ?_
  rw[acF l _ C,axV]
 ·have D:decide ((i:Int)<(l.length:Int))=false:=by simp;omega
  simp only[ae,ds,A,j,a,D,aP,Tryz.results61,ac];refine ar (B.conv ?_)
  rw[ajz (by omega),axV]
  rfl
theorem atx(p:V)(i:Nat)(a:List Nat)(h:I)(q:dS h p i a)(ak:∀b∈a,b<256)(av:a.length<=2^47) :
  au mc 146 [p] h (λr h'=>r=.tuple [.af (ir a).1.length (e5 (ir a).1),.int .i64 ((ir a).2.2:Nat)]/\dS h' p i (ir a).2.1/\J h h' (·=i)):=by
 refine au.cast ?_;refine bd Tryz.func146 rfl ?_;simp only[ae,ds,reduceCtorEq];refine bO (rest h p i a q) ?_;simp only[ae,ds];refine bO (number a h ak (by omega)) ?_
 by_cases s:(dec a 0 0).2.2=0
 ·have m:((((dec a 0 0).2.2:Nat):Int) !=0)=false:=by simp[s]
  have F:=Wj a 0 0;have G:=dec_lt a 0 0 (by omega) (by decide) ak
  obtain⟨rfl,hi,u⟩:=q;have B:=acI a (dec a 0 0).2.1 (by omega) (kk:=.i64)
  have C:=L8 (n:=(a.drop (dec a 0 0).2.1).length) (by rw[azD];omega)
  by_cases z:(a.drop (dec a 0 0).2.1).length<(dec a 0 0).1
  ·have A:decide ((((a.drop (dec a 0 0).2.1).length:Nat):Int)<(((dec a 0 0).1:Nat):Int))=true:=by simpa using z
   have j:ir a=([],a,4):=by unfold ir;rw[if_neg (by omega),if_pos z]
   simp only[ae,ds,reduceCtorEq,LD,qd,LN,xH,m,u,B,lL gS oP,C,A,aP,aEs,da];exact ar ⟨_,_,yT _ _,by rw[j];rfl,by rw[j];exact⟨rfl,hi,u⟩,J.refl _ _⟩
  ·have A:decide ((((a.drop (dec a 0 0).2.1).length:Nat):Int)<(((dec a 0 0).1:Nat):Int))=false:=decide_eq_false (by omega)
   have j:ir a=((a.drop (dec a 0 0).2.1).take (dec a 0 0).1,(a.drop (dec a 0 0).2.1).drop (dec a 0 0).1,0):=by unfold ir;rw[if_neg (by omega),if_neg z]
   have H:(a.drop (dec a 0 0).2.1).length<=2^47:=by rw[azD];omega
   have D:=acI (a.drop (dec a 0 0).2.1) (dec a 0 0).1 (by omega) (kk:=.u64)
   have E:=ari (a.drop (dec a 0 0).2.1) (dec a 0 0).1 (by omega) (kk:=.u64)
   simp only[ae,ds,reduceCtorEq,LD,qd,LN,V0,xH,m,u,B,lL gS oP,C,A,D,E];refine bO (acs _ _ 0 _ (Rd.af _ _) (by rw[TY];omega)) ?_
   simp only[ae,ds,aP,aEs,da];exact ar ⟨_,_,aF.refl _ _,by rw[j];rfl,by rw[j];exact⟨rfl,by rw[kj];exact hi,aL⟩,J.set _ _ _⟩
 ·have m:((((dec a 0 0).2.2:Nat):Int) !=0)=true:=by simp;omega
  have L:=Wi a 0 0 s;have j:ir a=([],a,(dec a 0 0).2.2):=by unfold ir;rw[if_pos s]
  simp only[ae,ds,xH,m,aP,aEs,da];exact ar ⟨_,_,yT _ _,by rw[j];rfl,by rw[j];exact q,J.refl _ _⟩
theorem aty(p:V)(i:Nat)(j:List Nat)(a:Int)(h:I)(G:dS h p i j)(ak:∀b∈j,b<256)(av:j.length<=2^47)(sS:j.length<=2^40\/a<=2^40)(hm:-2^63<=a/\a<2^63) :
  au mc 144 [p,.int .i64 a] h (λr h'=>r=.tuple [.af (j3 j a).1.length (ao (j3 j a).1),.int .i64 ((j3 j a).2.2:Nat)]/\dS h' p i (j3 j a).2.1/\J h h' (·=i)):=by
 refine au.cast ?_;refine bd Tryz.func144 rfl ?_;have cQ:=G.2.1;simp only[ae,IN,ds,reduceCtorEq];refine bO (rest h p i j G) ?_;simp only[ae,IN,ds,abR,ab4,aqK];have eZ:J h (h.push (.cells [.af j.length (e5 j)] 198 none)) none_:=J.push _ _ _;have n9:dS (h.push (.cells [.af j.length (e5 j)] 198 none)) (.ptr h.n 0) h.n j:=⟨rfl,by rw[df];omega,fv⟩
 refine cA (QG _ h.n j _ n9 ak (by omega)) λr S ⟨ay,cL,bx⟩=>?_
 subst ay;have H:J h S none_:=eZ.trans bx λk z hi=>by omega
 have Xi:=G.ai H (by simp[none_])
 have jk:h.n<S.n:=cL.2.1;have aD:=dec_lt j 0 0 (by omega) (by decide) ak
 by_cases iU:(dec j 0 0).2.2=0;rotate_left
 ·have L:((((dec j 0 0).2.2:Nat):Int) !=0)=true:=by simp;omega
  have m:j3 j a=([],j,(dec j 0 0).2.2):=by unfold j3;rw[if_pos iU]
  simp only[ae,IN,ds,L,aP,aAV,da];exact ar ⟨_,_,yT _ _,by rw[m];rfl,by rw[m];exact Xi,H.up⟩
 ·have L:((((dec j 0 0).2.2:Nat):Int) !=0)=false:=by simp[iU]
  have dk:=acJ ak iU;have F5:(decide (a<(0:Int))=true\/(decide (a<(0:Int))=false/\decide (aOT.u64.wrap a<(((dec j 0 0).1:Nat):Int))=decide (a<(((dec j 0 0).1:Nat):Int)))):=by
   by_cases T:a<0
   ·left;simpa using T
   ·right;refine⟨by simp;omega,?_⟩
    rw[aOT.wrap_u64,aF3 (by omega) (by omega)]
  by_cases M:a<0\/a<(((dec j 0 0).1:Nat):Int)
  ·have m:j3 j a=([],j,2):=by unfold j3;rw[if_neg (by omega),if_pos M]
   rcases F5 with D|⟨D,bu⟩
   ·simp only[ae,IN,ds,L,D,aP,aAV,da];exact ar ⟨_,_,yT _ _,by rw[m];rfl,by rw[m];exact Xi,H.up⟩
   ·have c3:decide (a<(((dec j 0 0).1:Nat):Int))=true:=by
     rcases M with T|T
     ·simp at D;omega
     ·simpa using T
    simp only[ae,IN,ds,L,D,bu,c3,lL gS oP,aP,aAV,da];exact ar ⟨_,_,yT _ _,by rw[m];rfl,by rw[m];exact Xi,H.up⟩
  ·have D:decide (a<(0:Int))=false:=by simp;omega
   have bu:decide (aOT.u64.wrap a<(((dec j 0 0).1:Nat):Int))=false:=by
    rw[aOT.wrap_u64,aF3 (by omega) (by omega)]
    simp;omega
   simp only[ae,IN,ds,L,D,bu,lL gS oP];refine aS.bI (α:=V×Nat×List Nat×List Int) (λx f h'=>f 0=p/\f 6=.ptr h.n 0/\f 9=x.1/\f 30=.int .u64 ((dec j 0 0).1:Nat)/\f 31=.int .u64 (x.2.1:Nat) /\
     Own h' 3 1 x.1 (ao x.2.2.2)/\(∀k,aU x.1=some k->S.n<=k)/\J S h' (·=h.n)/\dS h' (.ptr h.n 0) h.n x.2.2.1 /\
     so ((dec j 0 0).1-x.2.1) x.2.2.1 x.2.2.2=so (dec j 0 0).1 (j.drop (dec j 0 0).2.1) []/\x.2.1<=(dec j 0 0).1/\(x.2.2.2.length+x.2.2.1.length<=j.length/\x.2.2.2.length<=x.2.1)/\∀b∈x.2.2.1,b<256)
    (λx=>(dec j 0 0).1-x.2.1) (.ag,0,j.drop (dec j 0 0).2.1,[])
    ⟨rfl,rfl,rfl,rfl,rfl,Own.ag _ _ _,by simp[aU],J.refl _ _,cL,by simp,Dy _,⟨by simp,by simp⟩,acK ak _⟩ ?_
   rintro⟨v,k,rest,q⟩ f E ⟨f0,f6,f9,C,u,aO,A,z,M9,s,tv,⟨N,Q4⟩,W⟩
   simp only at f9 u aO A M9 s tv N Q4 W;have ab:q.length<=2^40:=by rcases sS with sS|sS<;>omega
   refine wpS ?_;have X:J h E none_:=H.trans z λk z hi=>by omega
   by_cases fW:k<(dec j 0 0).1
   ·have d1:decide ((k:Int)<(((dec j 0 0).1:Nat):Int))=true:=by simp;omega
    have hO:aOT.u64.wrap ((k:Int)+1)=((k+1:Nat):Int):=by rw[aOT.wrap_u64];omega
    rw[show(dec j 0 0).1-k=((dec j 0 0).1-(k+1))+1 by omega,so]at s
    simp only[ae,IN,ds,f6,C,u,d1];refine cA (Gr _ _ rest E M9 W (by omega)) λr aC ⟨cW,jf,Y⟩=>?_
    subst cW;have Z:J h aC none_:=X.trans Y λk z hi=>by omega
    have rn:Own aC 3 1 v (ao q):=aO.ai Y λk z hi=>by have:=A k z;omega
    have Na:=G.ai Z (by simp[none_])
    by_cases qw:(dec rest 0 0).2.2=0;rotate_left
    ·have O:((((dec rest 0 0).2.2:Nat):Int) !=0)=true:=by simp;omega
     rw[if_pos qw]at s;have m:j3 j a=([],j,(dec rest 0 0).2.2):=by
      unfold j3;rw[if_neg (by omega),if_neg M,<-s,if_pos qw]
     simp only[ae,IN,ds,O,aP,aAV,da];exact ar ⟨_,_,yT _ _,by rw[m];rfl,by rw[m];exact Na,Z.up⟩
    ·have O:((((dec rest 0 0).2.2:Nat):Int) !=0)=false:=by simp[qw]
     rw[if_neg (by omega)]at s
     have ah:=acJ W qw;by_cases nf:gL (dec rest 0 0).1 < -2147483648\/2147483647<gL (dec rest 0 0).1
     ·rw[if_pos nf]at s;have m:j3 j a=([],j,2):=by
       unfold j3;rw[if_neg (by omega),if_neg M,<-s];rfl
      by_cases BB:gL (dec rest 0 0).1 < -2147483648
      ·have Q:decide (gL (dec rest 0 0).1<(-2147483648:Int))=true:=by simpa using BB
       simp only[ae,IN,ds,O,Q,aP,aAV,da];exact ar ⟨_,_,yT _ _,by rw[m];rfl,by rw[m];exact Na,Z.up⟩
      ·have Q:decide (gL (dec rest 0 0).1<(-2147483648:Int))=false:=by simpa using BB
       have g2:decide ((2147483647:Int)<gL (dec rest 0 0).1)=true:=by simp;omega
       simp only[ae,IN,ds,O,Q,g2,aP,aAV,da];exact ar ⟨_,_,yT _ _,by rw[m];rfl,by rw[m];exact Na,Z.up⟩
     ·rw[if_neg nf]at s;have Q:decide (gL (dec rest 0 0).1<(-2147483648:Int))=false:=by simp;omega
      have g2:decide ((2147483647:Int)<gL (dec rest 0 0).1)=false:=by simp;omega
      obtain⟨v4,bn,cB,de,fp,R⟩:=ls (P:=mc) oQ (by decide) rn (xs:=[.int .i64 (gL (dec rest 0 0).1)]) rfl rfl (by simp[am,lim];omega) (by simp[am,lim];omega)
      simp only[ae,IN,ds,f9,u,O,Q,g2,arj,cB,hO];have uZ:¬a7 v h.n:=λU=>by have:=A _ U;omega
      refine ar ⟨(v4,k+1,rest.drop (dec rest 0 0).2.1,q++[gL (dec rest 0 0).1]),⟨f0,f6,rfl,C,rfl,?_,?_,?_,jf.ai fp uZ,s,by simp only;omega,?_,acK W _⟩,by simp only;omega⟩
      ·simp only[ao,List.map_append,List.map_cons,List.map_nil];exact de
      ·intro B F;rcases R with R|R
       ·exact A B (by rw[<-R];exact F)
       ·have:=R B F;have:=z.n;have:=Y.n;omega
      ·refine(z.trans' Y).trans fp λB F hi=>?_;have:=A B hi;omega
      ·simp only[Dx,azD,axW,ayK];omega
   ·have d1:decide ((k:Int)<(((dec j 0 0).1:Nat):Int))=false:=by simp;omega
    rw[show(dec j 0 0).1-k=0 by omega,so]at s
    have m:j3 j a=(q,rest,0):=by
     unfold j3;rw[if_neg (by omega),if_neg M,<-s];rfl
    have aa:=G.ai X (by simp[none_])
    obtain⟨rfl,_,pE⟩:=aa;obtain⟨_,_,oD⟩:=M9;simp only[ae,IN,ds,reduceCtorEq,LD,LN,V0,f0,f6,f9,C,u,d1,pE,oD,aP,aAV,da];have HP:J E (E.set i (.cells [.af rest.length (e5 rest)] 198 none)) (·=i):=J.set _ _ _;have ky:Own (E.set i (.cells [.af rest.length (e5 rest)] 198 none)) 3 1 v (ao q):=aO.ai HP λB F hi=>by have:=A B F;omega
    obtain⟨bM,c5,dQ⟩:=aF.own ky (n:=q.length) (by rw[am,ajD]) (by omega)
    have uZ:¬a7 v i:=λU=>by have:=A _ U;omega
    have Jw:dS (E.set i (.cells [.af rest.length (e5 rest)] 198 none)) (.ptr i 0) i rest:=⟨rfl,by rw[kj];exact Nat.lt_of_lt_of_le cQ X.n,aL⟩
    refine ar ⟨_,bM,aF.tuple (aA.cons c5 (aA.refl _ _)),by rw[m];rfl,by rw[m];exact Jw.ai dQ uZ,?_⟩
    refine(X.up.trans' HP).trans dQ λB F hi=>?_;have:=A B hi;omega
theorem atB(op:Int):∀(s:Nat) (e:b6) (h:I),e0 e=s->hT e->Pure mc 185 [.agg (aH e),.int .i64 op] h (.bool (tY op e)):=by
 intro s
 induction s using Nat.strongRecOn with
 | _ s ih=>
 intro e h aa H;obtain⟨o,n,j⟩:=e;refine Pure.val (a8.bool _) ?_;have z:=H.len;simp only[b6.aM]at z;refine bd Tryz.func185 rfl ?_;have av:(V.agg (aH (.mk o n j))).cells=some (aH (.mk o n j)):=rfl;have L:cO (aR.cells (aH (.mk o n j)) 66 none) 0=some [.int .i64 o,.int .i64 n,.af j.length (j.flatMap aH)]:=by rw[l3];rfl
 have R:cO (aR.cells (aH (.mk o n j)) 66 none) 2=some [.af j.length (j.flatMap aH)]:=by rw[l3];rfl
 by_cases D:o=op
 ·have c:(o==op)=true:=by simp[D]
  simp only[ae,ds,pn,aY,av,L,c,aP,aEt,ac];exact ar ⟨by simp[tY,D],J.push _ _ _⟩
 have c:(o==op)=false:=by simp[D]
 have M:tY op (.mk o n j)=tZ op j:=by simp[tY,c]
 simp only[ae,ds,pn,rJ,zT,aY,tf,av,L,R,c];refine aS.bI (α:=Nat) (λi f h'=>f 1=.int .i64 op/\f 12=.af j.length (j.flatMap aH)/\f 13=.int .i64 (j.length:Int)/\f 14=.int .i64 (i:Nat)/\i<=j.length/\J h h' none_/\tZ op j=tZ op (j.drop i)) (λi=>j.length-i) 0 ⟨rfl,rfl,rfl,rfl,Dy _,J.push _ _ _,rfl⟩ ?_
 rintro i f h' ⟨N,B,m,u,hi,E,C⟩
 refine wpS ?_;by_cases F:i<j.length;rotate_left
 ·have G:=eC (a:=i) (b:=j.length) (by omega)
  rw[azz (by omega)]at C
  simp only[ae,ds,m,u,G,aP,aEt,ac];exact ar ⟨by rw[M,C];simp[tZ],E⟩
 ·have G:=dV (a:=i) (b:=j.length) (by omega)
  rw[azg F]at C;have S:=LZ (kk:=.i64) F;have O:j[i]∈(b6.mk o n j).aM:=ayM F;have jx:=Wa _ O;have T:=H.Er _ O;generalize j[i]=A at *;have W:∀(q:List V),cJ (some (some 3)) (some (aH A++q))=some (.agg (aH A)):=λq=>be (rO A);have X:(V.agg (aH A)).cells=some (aH A):=rfl;have Y:bA (some 3) (aR.cells [.int .i64 0,.int .i64 0,.ag] 66 none) 0 (aH A)=some (.cells (aH A) 66 none):=by
   rw[uR (n:=3) (rO A) (LY A),if_pos (by decide)];cases A;rfl
  have Z:cO (aR.cells (aH A) 66 none) 0=some (aH A):=by cases A;rfl
  have jS:cJ (some (some 3)) (some (aH A))=some (.agg (aH A)):=by cases A;rfl
  have bT:=hR (i:=i) (by omega)
  simp only[ae,ds,gj,qe,oS,N,B,m,u,G,S,W,X,Y,Z,jS];refine bO (ih (e0 A) (by omega) A _ rfl T) ?_
  cases Q:tY op A with
  | true=>
   simp only[ae,ds,aP,aEt,ac];exact ar ⟨by rw[M,C];simp[tZ,Q],E.bp _⟩
  | false=>
   simp only[ae,ds,u,bT];exact ar ⟨i+1,⟨N,B,m,rfl,by omega,E.bp _,by rw[C];simp[tZ,Q]⟩,by omega⟩
theorem C9(v:bz):(al v).all (·.one)=true:=by
 have:=LY v.e;simp only[al,List.all_append,this];rfl
theorem ss(v:bz):al v=[.int .i64 v.kind,.af v.bj.length (ao v.bj),.int .i64 v.e.op,.int .i64 v.e.num,.af v.e.aM.length (v.e.aM.flatMap aH),.int .i64 v.n]:=by
 obtain⟨k,f,⟨o,m,a⟩,n⟩:=v;simp[al,l3,b6.op,b6.num,b6.aM]
def mu(x:Int):Prop:=-2^63<=x/\x<2^63
def yv(v:bz):Prop:=hT v.e/\v.bj.length<2^47/\mu v.kind/\mu v.n/\∀f∈v.bj,mu f
abbrev Da:=Int×Int×Int×Int
def lQ:List Da:=[(0,0,0,0),(0,0,0,7),(1,1,0,0),(1,1,0,0),(1,1,0,0),(1,1,0,0),(1,2,0,0),(1,2,1,1048576),(1,2,1,1048576),(2,2,0,0),(1,0,0,7)]
def Q5(q:Da):List V:=[.int .i64 q.1,.int .i64 q.2.1,.int .i64 q.2.2.1,.int .i64 q.2.2.2]
def pU:List V:=lQ.flatMap Q5
def jG(h:I):Prop:=hB h/\h.glob 1=some pU
theorem jG.ai{h h':I}{M:Nat->Prop}(i:jG h)(j:J h h' M):jG h':=⟨i.1.ai j,by rw[j.glob];exact i.2⟩
theorem jG.or{h j h':I}{M:Nat->Prop}(s:jG j)(u:jG h)(i:J j h' M\/h'=h):jG h':=by
 rcases i with i|rfl
 ·exact s.ai i
 ·exact u
def pm(e:b6)(k:Int):Bool:=if k=0 then(e.op==0&&(e.num==0&&e.aM.isEmpty))else(dj e&&(k==2||!tY 5 e))
def ii(v:bz)(q:Da):Bool:=decide ((v.bj.length:Int)=q.1)&&(pm v.e q.2.1&&(decide (q.2.2.1<=v.n)&&decide (v.n<=q.2.2.2)))
def ly(v:bz):Bool:=ii v (lQ.getD v.kind.toNat (0,0,0,0))
def gD(l:List bz)(f:Int):Int:=((l[f.toNat]?).map bz.kind).getD 0
def GO(l:List bz)(i:Nat)(v:bz):Bool:=(v.kind==1||v.kind==10)&&(l.take i).any λu=>u.kind==v.kind&&u.n==v.n
def dD(l:List bz)(i:Nat)(v:bz):Int :=
 if v.kind<1\/10<v.kind then 1 else
 if(v.bj.any λf=>decide (f<0\/(i:Int)<=f))=true then 2 else
 if ly v=false then 5 else
 if GO l i v=true then 12 else
 if(v.bj.any λf=>gD l f==10)=true then 5 else
 if v.kind=9/\gD l (v.bj.getD 1 0)≠6 then 5 else 0
def pV(l:List bz):Nat->List bz->Int×Int
 | _,[]=>(-1,0)
 | i,v::r=>if dD l i v=0 then pV l (i+1) r else((i:Int),dD l i v)
def cg(p:Int)(l:List bz):Int×Int:=if p<1\/8<p\/l.length=0\/24<l.length then(-1,2)else pV l 0 l
def hU(v:Int):Nat->List bz->List Int
 | _,[]=>[]
 | i,u::r=>(if u.bj.contains v then [(i:Int)]else [])++hU v (i+1) r
theorem AC(v:Int)(u:bz):∀(l:List bz) (j:Nat),hU v j (l++[u])=hU v j l++(if u.bj.contains v then [((j+l.length:Nat):Int)]else [])
 | [],j=>by simp[hU]
 | a::r,j=>by
  simp only[azv,hU,AC v u r (j+1),axW,axV];rw[show j+1+r.length=j+(r.length+1)by omega]
theorem GP{v k:Int}:∀{l:List bz} {j:Nat},k∈hU v j l↔∃(m:Nat) (u:bz),k=((j+m:Nat):Int)/\l[m]?=some u/\v∈u.bj
 | [],j=>by simp[hU]
 | a::r,j=>by
  simp only[hU,List.mem_append,GP (l:=r)]
  constructor
  ·rintro(h|⟨m,u,s,i,q⟩)
   ·split at h
    ·rename_i av;exact⟨0,a,by simpa using h,rfl,by simpa using av⟩
    ·simp at h
   ·exact⟨m+1,u,by omega,by simpa using i,q⟩
  ·rintro⟨m,u,s,i,q⟩
   cases m with
   | zero=>
    left;simp at i;subst i;rw[if_pos (by simpa using q)]
    simpa using s
   | succ m=>exact .inr ⟨m,u,by omega,by simpa using i,q⟩
theorem GQ{v:Int}:∀{l:List bz} {j:Nat},(hU v j l).length<=l.length
 | [],j=>by simp[hU]
 | a::r,j=>by
  have:=GQ (v:=v) (l:=r) (j:=j+1);simp only[hU,Dx,axW];split<;>simp<;>omega
theorem Xj{l:List bz}:∀{a:List bz} {i:Nat},(pV l i a).2=0->pV l i a=(-1,0)/\∀k v,a[k]?=some v->dD l (i+k) v=0
 | [],i,h=>⟨rfl,by simp⟩
 | u::a,i,h=>by
  unfold pV at h⊢;split at h
  ·rename_i j;rw[if_pos j];obtain⟨q,s⟩:=Xj h;refine⟨q,λk v m=>?_⟩;cases k with
   | zero=>simp at m;subst m;exact j
   | succ k=>rw[show i+(k+1)=i+1+k by omega];exact s k v (by simpa using m)
  ·rename_i j;exact absurd h j
theorem atC(e:b6)(k:Int)(A:hT e)(h:I)(B:hB h):Pure mc 167 [.agg (aH e),.int .i64 k] h (.bool (pm e k)):=by
 refine Pure.val (a8.bool _) ?_;have m:aH e=[.int .i64 e.op,.int .i64 e.num,.af e.aM.length (e.aM.flatMap aH)]:=by obtain⟨o,n,l⟩:=e;rw[l3];rfl
 have C:∀a,hB (h.push a):=λa=>by unfold hB;rw[FT];exact B
 have av:(V.agg (aH e)).cells=some (aH e):=rfl;have D:cJ (some none) (some (aH e))=some (.int .i64 e.op):=by rw[m];rfl
 have s:cO (aR.cells (aH e) 66 none) 0=some (aH e):=by rw[m];rfl
 have E:cO (aR.cells (aH e) 66 none) 1=some [.int .i64 e.num,.af e.aM.length (e.aM.flatMap aH)]:=by rw[m];rfl
 have F:cO (aR.cells (aH e) 66 none) 2=some [.af e.aM.length (e.aM.flatMap aH)]:=by rw[m];rfl
 have z:cJ (some (some 3)) (some (aH e))=some (.agg (aH e)):=by rw[m];rfl
 refine bd Tryz.func167 rfl ?_;by_cases q:k=0
 ·have c:(k==0)=true:=by simp[q]
  have G:((e.aM.length:Int)==0)=e.aM.isEmpty:=by cases e.aM<;>simp;omega
  cases j:(e.op==0)<;>cases i:(e.num==0) <;>
  ·simp only[ae,ds,pn,Jj,rJ,zT,bR,aY,tf,av,c,D,s,E,F,j,i,G,aP,aDq,ac];exact ar ⟨by simp[pm,q,j,i],J.push _ _ _⟩
 ·have c:(k==0)=false:=by simp[q]
  have u:pm e k=(dj e&&(k==2||!tY 5 e)):=by simp[pm,q]
  simp only[ae,ds,gj,av,c,s,z];refine bO (Gp e _ (C _)) ?_;cases j:dj e
  ·simp only[ae,ds,aP,aDq,ac];exact ar ⟨by rw[u,j];rfl,J.push _ _ _⟩
  ·cases i:(k==2)
   ·simp only[ae,ds,gj,s,z,i];refine bO (atB 5 _ e _ rfl A) ?_;simp only[ae,ds,aP,aDq,ac];exact ar ⟨by rw[u,j,i];simp,J.push _ _ _⟩
   ·simp only[ae,ds,i,aP,aDq,ac];exact ar ⟨by rw[u,j,i];rfl,J.push _ _ _⟩
theorem atD(v:bz)(q:Da)(M:hT v.e)(h:I)(N:hB h):Pure mc 141 [.agg (al v),.agg (Q5 q)] h (.bool (ii v q)):=by
 refine Pure.val (a8.bool _) ?_;obtain⟨a,i,j,s⟩:=q;have D:=ss v;have av:(V.agg (al v)).cells=some (al v):=rfl;have E:(V.agg (Q5 (a,i,j,s))).cells=some [.int .i64 a,.int .i64 i,.int .i64 j,.int .i64 s]:=rfl;have F:cO (aR.cells (al v) 68 none) 1=some [.af v.bj.length (ao v.bj),.int .i64 v.e.op,.int .i64 v.e.num,.af v.e.aM.length (v.e.aM.flatMap aH),.int .i64 v.n]:=by rw[D];rfl
 have O:cO (aR.cells (al v) 68 none) 2=some (aH v.e++[.int .i64 v.n]):=rfl;have G:cO (aR.cells (al v) 68 none) 5=some [.int .i64 v.n]:=by rw[D];rfl
 have Q:cJ (some (some 3)) (some (aH v.e++[.int .i64 v.n]))=some (.agg (aH v.e)):=be (rO v.e);refine bd Tryz.func141 rfl ?_;obtain⟨H,hH⟩:∃x,x=(h.push (.cells (al v) 68 none)).push (.cells [.int .i64 a,.int .i64 i,.int .i64 j,.int .i64 s] 245 none):=⟨_,rfl⟩;have u:H.get h.n=.cells (al v) 68 none:=by rw[hH];exact yL
 have z:H.get (h.n+1)=.cells [.int .i64 a,.int .i64 i,.int .i64 j,.int .i64 s] 245 none:=by rw[hH];exact zA
 have m:J h H none_:=by rw[hH];exact(J.push _ _ _).bp _
 have R:hB H:=N.ai m;cases A:((v.bj.length:Int)==a)
 ·have C:decide ((v.bj.length:Int)=a)=false:=by simpa using A
  simp only[ae,ds,AS,abq,te,fB,aY,hL,av,E,<-hH,u,z,F,A,aP,aDr,ac];exact ar ⟨by simp[ii,C],m⟩
 ·have C:decide ((v.bj.length:Int)=a)=true:=by simpa using A
  simp only[ae,ds,AS,By,abq,apJ,te,rK,fB,aY,hL,gj,av,E,<-hH,u,z,F,O,Q,A];refine bO (atC v.e i M _ R) ?_;cases L:pm v.e i
  ·simp only[ae,ds,aP,aDr,ac];exact ar ⟨by simp[ii,L],m⟩
  cases B:decide (j<=v.n)
  ·simp only[ae,ds,AS,By,abr,i6,bR,u,z,G,B,aP,aDr,ac];exact ar ⟨by simp[ii,B],m⟩
  ·simp only[ae,ds,AS,By,abr,apK,i6,bR,u,z,G,B,aP,aDr,ac];exact ar ⟨by simp only[ii,C,L,B,Bool.true_and],m⟩
def Ap(p:Int×Int):V:=.agg [.int .i64 p.1,.int .i64 p.2]
theorem atE:I8 mc 248=some [0,0]:=by kernel_rfl
theorem atF(e:Bool)(a b:Int):yI mc e 248 (Ap (a,b))=true:=by
 cases e<;>kernel_rfl
theorem Nb:∃d,eA mc 191=some (248,3,d)/\we d=false:=by
 have h:(eA mc 191).map (λq=>(q.1,q.2.1,we q.2.2))=some (248,3,false):=by kernel_rfl
 cases i:eA mc 191 with
 | none=>rw[i]at h;cases h
 | some q=>
  rw[i]at h;obtain⟨a,b,d⟩:=q;simp only[azE,Option.some.injEq,Prod.mk.injEq]at h;obtain⟨rfl,rfl,h⟩:=h;exact⟨d,rfl,h⟩
theorem Nc:mz mc 3=some (.int .i64 0):=by kernel_rfl
theorem SU{d:TypeDesc}(m:we d=false):h8 mc 248 d Ap where
 eq a b:=by
  have h:ha [0,0] [.int .i64 a.1,.int .i64 a.2] [.int .i64 b.1,.int .i64 b.2]=some (a.1==b.1&&a.2==b.2):=by simp[ha]
  obtain⟨gH,s,i,j⟩:=P2 h;obtain⟨q,_⟩:=UX atE h i j;have:wg mc 248 d (Ap a) (Ap b)=some (a.1==b.1&&a.2==b.2):=by
   unfold wg Ap;simp only[p7,i,j,azE,m,q];rfl
  rw[this,Option.some.injEq,Bool.eq_iff_iff];simp only[ajC,beq_iff_eq,decide_eq_true_eq];exact⟨λh=>Prod.ext h.1 h.2,λh=>⟨congrArg Prod.fst h,congrArg Prod.snd h⟩⟩
 ok b a:=atF b a.1 a.2
 bits a:=by
  refine⟨_,rfl,?_⟩;simp[Instr.sameBits]
abbrev uu:=List (Nat×(Int×Int)×Int)
def xO(l:uu):List (Nat×V×V):=dz Ap (V.int .i64) l
theorem atG{h:I}{i cl:Nat}(l:uu)(a b:Int)(j:h.get i=.map (xO l) cl):nB mc 191 (.map i) (.agg [.int .i64 a,.int .i64 b]) true h=some (.tuple [.int .i64 ((bQ l (a,b)).getD 0),.bool (bQ l (a,b)).isSome]):=by
 obtain⟨d,m,q⟩:=Nb;have:=Lf (enc:=V.int .i64) (ok:=true) (SU q) (k:=(a,b)) m Nc j;rw[show(V.agg [.int .i64 a,.int .i64 b])=Ap (a,b)from rfl,this]
 cases bQ l (a,b)<;>simp[fC,gy]
theorem Xk{h:I}{i cl:Nat}(l:uu)(a b v:Int)(j:h.get i=.map (xO l) cl):vl mc 191 (.map i) (.agg [.int .i64 a,.int .i64 b]) (.int .i64 v) h=some (h.set i (.map (xO (cz cl l (a,b) v)) (eY cl l (a,b)))):=by
 obtain⟨d,m,q⟩:=Nb;exact Lg (enc:=V.int .i64) (SU q) (k:=(a,b)) m j rfl
def wU(l:List bz)(es:uu):Prop:=∀k n,(k=1\/k=10)->(bQ es (k,n)).isSome=l.any λu=>u.kind==k&&u.n==n
theorem wU.nil:wU [] []:=λk n _=>rfl
theorem wU.set{l:List bz}{es:uu}(a:wU l es)(v:bz)(cl:Nat)(x:Int):wU (l++[v]) (cz cl es (v.kind,v.n) x):=λk n j=>by
 rw[yO,aEu];simp only[aEv,aF4,azN];by_cases i:(k,n)=(v.kind,v.n)
 ·rw[if_pos i];cases i;simp
 ·rw[if_neg i,a k n j];have:(v.kind==k&&v.n==n)=false:=by
   rw[aF5];intro U;simp only[ajC,beq_iff_eq]at U;exact i (by rw[U.1,U.2])
  rw[this,azN]
theorem wU.skip{l:List bz}{es:uu}(a:wU l es){v:bz}(j:¬(v.kind=1\/v.kind=10)):wU (l++[v]) es:=λk n i=>by
 rw[a k n i,aEu];simp only[aEv,aF4,azN];have:(v.kind==k&&v.n==n)=false:=by
  rw[aF5];intro U;simp only[ajC,beq_iff_eq]at U;exact j (by rw[U.1];exact i)
 rw[this,azN]
theorem i9{α:Type}{l:List α}{j:Nat}(p:α->Bool)(a:j<l.length):(l.take (j+1)).any p=((l.take j).any p||p l[j]):=by
 rw[azi a,aEu];simp
theorem EP{l:List bz}{q:Nat}(a:q<l.length):gP mc 22 (.af l.length (l.flatMap al)) (.int .i64 (q:Int))=some (.at (al l[q]++(l.drop (q+1)).flatMap al))/\(∀r,cJ (some none) (some (al l[q]++r))=some (.int .i64 (gD l (q:Int))))/\gD l (q:Int)=l[q].kind:=by
 have i:gD l (q:Int)=l[q].kind:=by unfold gD;rw[ayQ,IA a];rfl
 refine⟨tR la a En,λr=>?_,i⟩;rw[i,ss];rfl
theorem GR{v:bz}(i:v.kind=9)(a:ly v=true):v.bj.length=2:=by
 simp only[ly,i,ii,ajC,decide_eq_true_eq]at a;have:=a.1;simp[lQ]at this;omega
theorem Xl{l:List Int}(a:1<l.length):(if(1:Int)<(l.length:Int)/\Int.toNat 1*1<=(ao l).length then some (V.at (List.drop (Int.toNat 1*1) (ao l)))else none)=some (V.at (V.int .i64 l[1]::ao (l.drop 2))):=by
 rw[if_pos ⟨by omega,by rw[am];show 1*1<=_;omega⟩]
 show some (V.at ((l.map (V.int .i64)).drop 1))=_;rw[<-List.map_drop,azg a];rfl
theorem atH:∀q:Nat,q<11->cJ (some (some 4)) (some (pU.drop (q*4)))=some (.agg (Q5 (lQ.getD q (0,0,0,0))))
 | 0,_=>rfl
 | 1,_=>rfl
 | 2,_=>rfl
 | 3,_=>rfl
 | 4,_=>rfl
 | 5,_=>rfl
 | 6,_=>rfl
 | 7,_=>rfl
 | 8,_=>rfl
 | 9,_=>rfl
 | 10,_=>rfl
 | q+11,h=>by omega
theorem atI(l:List bz)(i m cl:Nat)(es:uu)(hi:i<l.length)(su:l.length<=24)(v:bz)(aI:l[i]=v)(aZ:hT v.e)(lf:v.bj.length<2^47)(h:I)(aw:jG h)(hm:m<h.n)(gx:h.get m=.map (xO es) cl)(cr:wU (l.take i) es) :
  au mc 100 [.af l.length (l.flatMap al),.int .i64 (i:Nat),.map m] h (λr h'=>r=.int .i64 (dD l i v)/\J h h' (·=m)/\(dD l i v=0->∃gn Aq,h'.get m=.map (xO gn) Aq/\wU (l.take (i+1)) gn)):=by
 have gu:=ss v;have dL:=tR (kk:=.i64) (P:=mc) la hi En;rw[aI]at dL;have SX:l.take (i+1)=l.take i++[v]:=by rw[azi hi,aI]
 have jC:∀(q:List V),cJ (some (some 6)) (some (al v++q))=some (.agg (al v)):=λq=>be (la v);have cb:(V.agg (al v)).cells=some (al v):=rfl;have dA:bA (some 6) (aR.cells [.int .i64 0,.ag,.int .i64 0,.int .i64 0,.ag,.int .i64 0] 68 none) 0 (al v)=some (.cells (al v) 68 none):=by
  rw[uR (n:=6) (la v) (C9 v),if_pos (by decide),gu];rfl
 have F:cJ (some none) (some (al v))=some (.int .i64 v.kind):=by rw[gu];rfl
 have G:cO (aR.cells (al v) 68 none) 0=some (al v):=by rw[gu];rfl
 have gM:cO (aR.cells (al v) 68 none) 1=some [.af v.bj.length (ao v.bj),.int .i64 v.e.op,.int .i64 v.e.num,.af v.e.aM.length (v.e.aM.flatMap aH),.int .i64 v.n]:=by rw[gu];rfl
 have wT:cO (aR.cells (al v) 68 none) 5=some [.int .i64 v.n]:=by rw[gu];rfl
 have mm:cJ (some (some 6)) (some (al v))=some (.agg (al v)):=by rw[gu];rfl
 obtain⟨H,hH,bo,vN,ib⟩:=b0 h (.cells (al v) 68 none);have jD:jG H:=aw.ai bo;have BV:H.get m=.map (xO es) cl:=(bo.get m hm (by simp[none_])).trans gx
 refine bd Tryz.func100 rfl ?_;by_cases Y:v.kind<1
 ·have bf:decide (v.kind<1)=true:=by simpa using Y
  have s:dD l i v=1:=by unfold dD;rw[if_pos (.inl Y)]
  simp only[ae,ds,reduceCtorEq,hb,aY,pN,rM,rN,dL,jC,cb,dA,<-hH,vN,F,G,bf,aP,azA,ac];exact ar ⟨by rw[s],bo.up,λU=>by rw[s]at U;cases U⟩
 have bf:decide (v.kind<1)=false:=by simpa using Y
 by_cases ad:10<v.kind
 ·have bu:decide (10<v.kind)=true:=by simpa using ad
  have s:dD l i v=1:=by unfold dD;rw[if_pos (.inr ad)]
  simp only[ae,ds,reduceCtorEq,hb,aY,pN,rM,rN,dL,jC,cb,dA,<-hH,vN,F,G,bf,bu,aP,azA,ac];exact ar ⟨by rw[s],bo.up,λU=>by rw[s]at U;cases U⟩
 have bu:decide (10<v.kind)=false:=by simpa using ad
 simp only[ae,ds,reduceCtorEq,hb,te,fB,aY,hL,pN,rM,rN,dL,jC,cb,dA,<-hH,vN,F,G,gM,bf,bu];refine aS.bI (α:=Nat) (λj f h'=>f 0=.af l.length (l.flatMap al)/\f 1=.int .i64 (i:Nat)/\f 2=.map m/\f 7=.ptr h.n 0/\f 28=.af v.bj.length (ao v.bj)/\f 29=.int .i64 (v.bj.length:Int)/\f 30=.int .i64 (j:Nat)/\j<=v.bj.length/\h'=H/\((v.bj.take j).any λf=>decide (f<0\/(i:Int)<=f))=false) (λj=>v.bj.length-j) 0 ⟨rfl,rfl,rfl,rfl,rfl,rfl,rfl,Dy _,rfl,rfl⟩ ?_
 rintro j f h' ⟨f0,f1,f2,f7,aq,ab,ax,aN,rfl,lF⟩
 refine wpS ?_;by_cases aD:j<v.bj.length
 ·have c3:=dV (a:=j) (b:=v.bj.length) (by omega)
  have z:=vq (P:=mc) (kk:=.i64) aD iS;have bT:=hR (i:=j) (by omega)
  have e2:=i9 (λf=>decide (f<0\/(i:Int)<=f)) aD;have B:v.bj[j]∈v.bj:=ayM aD;generalize v.bj[j]=A at z e2 B;have az:∀ak:A<0\/(i:Int)<=A,dD l i v=2:=λak=>by
   unfold dD;rw[if_neg (by omega),if_pos (aAC.2 ⟨A,B,by simpa using ak⟩)]
  by_cases en:A<0
  ·have d1:decide (A<0)=true:=by simpa using en
   simp only[ae,ds,aY,aq,ab,ax,c3,z,d1,aP,azA,ac];exact ar ⟨by rw[az (.inl en)],bo.up,λU=>by rw[az (.inl en)]at U;cases U⟩
  have d1:decide (A<0)=false:=by simpa using en
  by_cases dd:(i:Int)<=A
  ·have d2:decide ((i:Int)<=A)=true:=by simpa using dd
   simp only[ae,ds,aY,f1,aq,ab,ax,c3,z,d1,d2,aP,azA,ac];exact ar ⟨by rw[az (.inr dd)],bo.up,λU=>by rw[az (.inr dd)]at U;cases U⟩
  have d2:decide ((i:Int)<=A)=false:=by simpa using dd
  simp only[ae,ds,aY,f1,aq,ab,ax,c3,z,d1,d2,bT];exact ar ⟨j+1,⟨f0,f1,f2,f7,aq,ab,rfl,by omega,rfl,by rw[e2,lF];simp[en,dd]⟩,by omega⟩
 have c3:=eC (a:=j) (b:=v.bj.length) (by omega)
 rw[ajz (by omega)]at lF
 have nf:∀x∈v.bj,0<=x/\x<i:=λx ah=>by
  rw[aAS]at lF;have:=lF x ah;simp only[decide_eq_true_eq]at this;omega
 simp only[ae,ab,ax,c3];have tU:∀f:aj,aj.eval f h' (.global 1)=.at pU:=λf=>Ks jD.2;have fZ:(if(0:Int)<=v.kind/\v.kind<((11:Nat):Int)/\(v.kind.toNat*4)<=pU.length then some (V.at (pU.drop (v.kind.toNat*4)))else none)=some (.at (pU.drop (v.kind.toNat*4))):=if_pos ⟨by omega,by omega,by show _<=44;omega⟩
 have Xm:=atH v.kind.toNat (by omega)
 have eR:¬(v.kind<1\/10<v.kind):=by omega
 have pO:¬((v.bj.any λf=>decide (f<0\/(i:Int)<=f))=true):=by rw[lF];simp
 refine aS.cS none_ [] (.q 0 (.q 1 (.q 2 (.q 3 (.q 4 (.c 5 (.q 6 .done))))))) ?_;simp only[ae,bt,ds,apx,hb,apZ,aY,pN,aqo,f7,vN,G,F,mm,tU,fZ,Xm];refine fA rfl rfl rfl (λqA hk=>atD v _ aZ qA (jD.or jD hk).1) ?_;have Nd:ii v (lQ.getD v.kind.toNat (0,0,0,0))=ly v:=rfl;cases fb:ly v
 ·have s:dD l i v=5:=by unfold dD;rw[if_neg eR,if_neg pO,if_pos fb]
  simp only[ae,bt,ds,Nd,fb,aP,azA,ac];exact ar ⟨by rw[s],bo.up,λU=>by rw[s]at U;cases U⟩
 simp only[ae,bt,ds,hb,Nd,fb];have q3:¬(ly v=false):=by rw[fb];simp
 have aB:(V.agg [.int .i64 v.kind,.int .i64 v.n]).cells=some [.int .i64 v.kind,.int .i64 v.n]:=rfl;by_cases aa:v.kind=1\/v.kind=10
 ·obtain⟨Q6,ER,bX,oB,_⟩:=b0 h' (.cells [.int .i64 v.kind,.int .i64 v.n] 248 none);have aG:Q6.get h.n=.cells (al v) 68 none:=(bX.get h.n (by omega) (by simp[none_])).trans vN
  have SY:Q6.get m=.map (xO es) cl:=(bX.get m (by omega) (by simp[none_])).trans BV
  have hd:=atG es v.kind v.n SY;have rS:=Xk es v.kind v.n (i:Nat) SY;have Xn:(bQ es (v.kind,v.n)).isSome=GO l i v:=by
   rw[cr v.kind v.n aa];unfold GO;rcases aa with aa|aa<;>rw[aa]<;>rfl
  rw[Xn]at hd;have SZ:((v.kind==1)=true/\(v.kind==10)=false)\/((v.kind==1)=false/\(v.kind==10)=true):=by
   rcases aa with aa|aa<;>rw[aa]<;>simp
  cases T:GO l i v
  ·rw[T]at hd;obtain⟨Z,wV⟩:∃x,x=Q6.set m (.map (xO (cz cl es (v.kind,v.n) (i:Nat))) (eY cl es (v.kind,v.n))):=⟨_,rfl⟩;have c6:J Q6 Z (·=m):=by rw[wV];exact J.set _ _ _
   have W:Z.get h.n=.cells (al v) 68 none:=(c6.get h.n (by rw[ER,df];omega) (by omega)).trans aG
   have aJ:Z.get m=.map (xO (cz cl es (v.kind,v.n) (i:Nat))) (eY cl es (v.kind,v.n)):=by rw[wV];exact aL
   have X:J h Z (·=m):=((bo.trans' bX).up).trans' c6;have l5:∃gn Aq,Z.get m=.map (xO gn) Aq/\wU (l.take (i+1)) gn:=⟨_,_,aJ,by rw[SX];exact cr.set v _ _⟩
   rcases SZ with⟨c5,iT⟩|⟨c5,iT⟩
   ·simp only[ae,ds,AS,By,hb,te,i6,fB,bR,Qq,aY,hL,Qs,Qy,QD,f1,f2,f7,vN,F,G,gM,wT,c5,aB,<-ER,oB,hd,rS,<-wV,W];refine aS.bI (α:=Nat) (λj f Y=>f 0=.af l.length (l.flatMap al)/\f 7=.ptr h.n 0/\f 73=.af v.bj.length (ao v.bj)/\f 74=.int .i64 (v.bj.length:Int)/\f 75=.int .i64 (j:Nat)/\j<=v.bj.length/\Y=Z/\((v.bj.take j).any λf=>gD l f==10)=false) (λj=>v.bj.length-j) 0 ⟨f0,f7,rfl,rfl,rfl,Dy _,rfl,rfl⟩ ?_
    rintro C S0 Y ⟨L,R,uw,D,M,yw,rfl,b3⟩
    refine wpS ?_;by_cases jx:C<v.bj.length
    ·have E:=dV (a:=C) (b:=v.bj.length) (by omega)
     have z:=vq (P:=mc) (kk:=.i64) jx iS;have bT:=hR (i:=C) (by omega)
     have e2:=i9 (λf=>gD l f==10) jx;have B:v.bj[C]∈v.bj:=ayM jx;generalize v.bj[C]=A at z e2 B;obtain⟨kC,rC⟩:=nf A B;obtain⟨q,rfl⟩:∃q:Nat,A=(q:Int):=⟨A.toNat,by omega⟩
     obtain⟨N,O,jj⟩:=EP (l:=l) (q:=q) (by omega)
     cases u:(gD l (q:Int)==10)
     ·simp only[ae,ds,reduceCtorEq,hb,aY,L,uw,D,M,E,z,N,O,u,bT];exact ar ⟨C+1,⟨L,R,uw,D,rfl,by omega,rfl,by rw[e2,b3,u];rfl⟩,by omega⟩
     ·have s:dD l i v=5:=by
       unfold dD;rw[if_neg eR,if_neg pO,if_neg q3,if_neg (by rw[T];simp),if_pos (aAC.2 ⟨_,B,u⟩)]
      simp only[ae,ds,reduceCtorEq,hb,aY,L,uw,D,M,E,z,N,O,u,aP,azA,ac];exact ar ⟨by rw[s],X,λU=>by rw[s]at U;cases U⟩
    have E:=eC (a:=C) (b:=v.bj.length) (by omega)
    rw[ajz (by omega)]at b3
    have nL:¬((v.bj.any λf=>gD l f==10)=true):=by rw[b3];simp
    by_cases Q:v.kind=9
    ·have u:(v.kind==9)=true:=by simp[Q]
     have aC:v.bj.length=2:=GR Q fb;have z:=Xl (l:=v.bj) (by omega)
     have nJ:v.bj.getD 1 0=v.bj[1]:=by rw[ayO,IA (by omega)];rfl
     have B:v.bj[1]∈v.bj:=ayM _;have s:dD l i v=if v.kind=9/\gD l v.bj[1]≠6 then 5 else 0:=by
      unfold dD;rw[if_neg eR,if_neg pO,if_neg q3,if_neg (by rw[T];simp),if_neg nL,nJ]
     generalize v.bj[1]=A at z B s;obtain⟨kC,rC⟩:=nf A B;obtain⟨q,rfl⟩:∃q:Nat,A=(q:Int):=⟨A.toNat,by omega⟩
     obtain⟨N,O,jj⟩:=EP (l:=l) (q:=q) (by omega)
     by_cases S:gD l (q:Int)=6
     ·have hS:(gD l (q:Int) !=6)=false:=by simp[S]
      rw[if_neg (by simp[S])]at s
      simp only[ae,aAi,ds,reduceCtorEq,F7,hb,te,aY,hL,iS,L,R,D,M,E,u,W,F,G,gM,z,N,O,hS,aP,azA,ac];exact ar ⟨by rw[s],X,λ_=>l5⟩
     ·have hS:(gD l (q:Int) !=6)=true:=by simp[S]
      rw[if_pos ⟨Q,S⟩]at s;simp only[ae,aAi,ds,reduceCtorEq,F7,hb,te,aY,hL,iS,L,R,D,M,E,u,W,F,G,gM,z,N,O,hS,aP,azA,ac];exact ar ⟨by rw[s],X,λU=>by rw[s]at U;cases U⟩
    ·have u:(v.kind==9)=false:=by simp[Q]
     have s:dD l i v=0:=by
      unfold dD;rw[if_neg eR,if_neg pO,if_neg q3,if_neg (by rw[T];simp),if_neg nL,if_neg (by simp[Q])]
     simp only[ae,ds,hb,aY,R,D,M,E,u,W,F,G,aP,azA,ac];exact ar ⟨by rw[s],X,λ_=>l5⟩
   ·simp only[ae,ds,AS,By,hb,te,i6,fB,bR,Qq,aY,hL,Qs,Qy,QD,f1,f2,f7,vN,F,G,gM,wT,c5,iT,aB,<-ER,oB,hd,rS,<-wV,W];refine aS.bI (α:=Nat) (λj f Y=>f 0=.af l.length (l.flatMap al)/\f 7=.ptr h.n 0/\f 73=.af v.bj.length (ao v.bj)/\f 74=.int .i64 (v.bj.length:Int)/\f 75=.int .i64 (j:Nat)/\j<=v.bj.length/\Y=Z/\((v.bj.take j).any λf=>gD l f==10)=false) (λj=>v.bj.length-j) 0 ⟨f0,f7,rfl,rfl,rfl,Dy _,rfl,rfl⟩ ?_
    rintro C S0 Y ⟨L,R,uw,D,M,yw,rfl,b3⟩
    refine wpS ?_;by_cases jx:C<v.bj.length
    ·have E:=dV (a:=C) (b:=v.bj.length) (by omega)
     have z:=vq (P:=mc) (kk:=.i64) jx iS;have bT:=hR (i:=C) (by omega)
     have e2:=i9 (λf=>gD l f==10) jx;have B:v.bj[C]∈v.bj:=ayM jx;generalize v.bj[C]=A at z e2 B;obtain⟨kC,rC⟩:=nf A B;obtain⟨q,rfl⟩:∃q:Nat,A=(q:Int):=⟨A.toNat,by omega⟩
     obtain⟨N,O,jj⟩:=EP (l:=l) (q:=q) (by omega)
     cases u:(gD l (q:Int)==10)
     ·simp only[ae,ds,reduceCtorEq,hb,aY,L,uw,D,M,E,z,N,O,u,bT];exact ar ⟨C+1,⟨L,R,uw,D,rfl,by omega,rfl,by rw[e2,b3,u];rfl⟩,by omega⟩
     ·have s:dD l i v=5:=by
       unfold dD;rw[if_neg eR,if_neg pO,if_neg q3,if_neg (by rw[T];simp),if_pos (aAC.2 ⟨_,B,u⟩)]
      simp only[ae,ds,reduceCtorEq,hb,aY,L,uw,D,M,E,z,N,O,u,aP,azA,ac];exact ar ⟨by rw[s],X,λU=>by rw[s]at U;cases U⟩
    have E:=eC (a:=C) (b:=v.bj.length) (by omega)
    rw[ajz (by omega)]at b3
    have nL:¬((v.bj.any λf=>gD l f==10)=true):=by rw[b3];simp
    by_cases Q:v.kind=9
    ·have u:(v.kind==9)=true:=by simp[Q]
     have aC:v.bj.length=2:=GR Q fb;have z:=Xl (l:=v.bj) (by omega)
     have nJ:v.bj.getD 1 0=v.bj[1]:=by rw[ayO,IA (by omega)];rfl
     have B:v.bj[1]∈v.bj:=ayM _;have s:dD l i v=if v.kind=9/\gD l v.bj[1]≠6 then 5 else 0:=by
      unfold dD;rw[if_neg eR,if_neg pO,if_neg q3,if_neg (by rw[T];simp),if_neg nL,nJ]
     generalize v.bj[1]=A at z B s;obtain⟨kC,rC⟩:=nf A B;obtain⟨q,rfl⟩:∃q:Nat,A=(q:Int):=⟨A.toNat,by omega⟩
     obtain⟨N,O,jj⟩:=EP (l:=l) (q:=q) (by omega)
     by_cases S:gD l (q:Int)=6
     ·have hS:(gD l (q:Int) !=6)=false:=by simp[S]
      rw[if_neg (by simp[S])]at s
      simp only[ae,aAi,ds,reduceCtorEq,F7,hb,te,aY,hL,iS,L,R,D,M,E,u,W,F,G,gM,z,N,O,hS,aP,azA,ac];exact ar ⟨by rw[s],X,λ_=>l5⟩
     ·have hS:(gD l (q:Int) !=6)=true:=by simp[S]
      rw[if_pos ⟨Q,S⟩]at s;simp only[ae,aAi,ds,reduceCtorEq,F7,hb,te,aY,hL,iS,L,R,D,M,E,u,W,F,G,gM,z,N,O,hS,aP,azA,ac];exact ar ⟨by rw[s],X,λU=>by rw[s]at U;cases U⟩
    ·have u:(v.kind==9)=false:=by simp[Q]
     have s:dD l i v=0:=by
      unfold dD;rw[if_neg eR,if_neg pO,if_neg q3,if_neg (by rw[T];simp),if_neg nL,if_neg (by simp[Q])]
     simp only[ae,ds,hb,aY,R,D,M,E,u,W,F,G,aP,azA,ac];exact ar ⟨by rw[s],X,λ_=>l5⟩
  ·rw[T]at hd;have s:dD l i v=12:=by unfold dD;rw[if_neg eR,if_neg pO,if_neg q3,if_pos T]
   rcases SZ with⟨c5,iT⟩|⟨c5,iT⟩
   ·simp only[ae,ds,AS,By,hb,i6,bR,Qq,aY,Qs,Qy,QD,f2,f7,vN,F,G,wT,c5,aB,<-ER,oB,hd,aP,azA,ac];exact ar ⟨by rw[s],(bo.trans' bX).up,λU=>by rw[s]at U;cases U⟩
   ·simp only[ae,ds,AS,By,hb,i6,bR,Qq,aY,Qs,Qy,QD,f2,f7,vN,F,G,wT,c5,iT,aB,<-ER,oB,hd,aP,azA,ac];exact ar ⟨by rw[s],(bo.trans' bX).up,λU=>by rw[s]at U;cases U⟩
 ·have c5:(v.kind==1)=false:=by simp;omega
  have iT:(v.kind==10)=false:=by simp;omega
  have T:GO l i v=false:=by unfold GO;rw[c5,iT];rfl
  obtain⟨Z,wV⟩:∃x,x=h':=⟨_,rfl⟩;have l5:∃gn Aq,Z.get m=.map (xO gn) Aq/\wU (l.take (i+1)) gn:=⟨_,_,by rw[wV];exact BV,by rw[SX];exact cr.skip aa⟩
  have X:J h Z (·=m):=by rw[wV];exact bo.up
  have W:Z.get h.n=.cells (al v) 68 none:=by rw[wV];exact vN
  simp only[ae,ds,hb,te,fB,aY,hL,f7,<-wV,W,F,G,gM,c5,iT];refine aS.bI (α:=Nat) (λj f Y=>f 0=.af l.length (l.flatMap al)/\f 7=.ptr h.n 0/\f 73=.af v.bj.length (ao v.bj)/\f 74=.int .i64 (v.bj.length:Int)/\f 75=.int .i64 (j:Nat)/\j<=v.bj.length/\Y=Z/\((v.bj.take j).any λf=>gD l f==10)=false) (λj=>v.bj.length-j) 0 ⟨f0,f7,rfl,rfl,rfl,Dy _,rfl,rfl⟩ ?_
  rintro C S0 Y ⟨L,R,uw,D,M,yw,rfl,b3⟩
  refine wpS ?_;by_cases jx:C<v.bj.length
  ·have E:=dV (a:=C) (b:=v.bj.length) (by omega)
   have z:=vq (P:=mc) (kk:=.i64) jx iS;have bT:=hR (i:=C) (by omega)
   have e2:=i9 (λf=>gD l f==10) jx;have B:v.bj[C]∈v.bj:=ayM jx;generalize v.bj[C]=A at z e2 B;obtain⟨kC,rC⟩:=nf A B;obtain⟨q,rfl⟩:∃q:Nat,A=(q:Int):=⟨A.toNat,by omega⟩
   obtain⟨N,O,jj⟩:=EP (l:=l) (q:=q) (by omega)
   cases u:(gD l (q:Int)==10)
   ·simp only[ae,ds,reduceCtorEq,hb,aY,L,uw,D,M,E,z,N,O,u,bT];exact ar ⟨C+1,⟨L,R,uw,D,rfl,by omega,rfl,by rw[e2,b3,u];rfl⟩,by omega⟩
   ·have s:dD l i v=5:=by
     unfold dD;rw[if_neg eR,if_neg pO,if_neg q3,if_neg (by rw[T];simp),if_pos (aAC.2 ⟨_,B,u⟩)]
    simp only[ae,ds,reduceCtorEq,hb,aY,L,uw,D,M,E,z,N,O,u,aP,azA,ac];exact ar ⟨by rw[s],X,λU=>by rw[s]at U;cases U⟩
  have E:=eC (a:=C) (b:=v.bj.length) (by omega)
  rw[ajz (by omega)]at b3
  have nL:¬((v.bj.any λf=>gD l f==10)=true):=by rw[b3];simp
  by_cases Q:v.kind=9
  ·have u:(v.kind==9)=true:=by simp[Q]
   have aC:v.bj.length=2:=GR Q fb;have z:=Xl (l:=v.bj) (by omega)
   have nJ:v.bj.getD 1 0=v.bj[1]:=by rw[ayO,IA (by omega)];rfl
   have B:v.bj[1]∈v.bj:=ayM _;have s:dD l i v=if v.kind=9/\gD l v.bj[1]≠6 then 5 else 0:=by
    unfold dD;rw[if_neg eR,if_neg pO,if_neg q3,if_neg (by rw[T];simp),if_neg nL,nJ]
   generalize v.bj[1]=A at z B s;obtain⟨kC,rC⟩:=nf A B;obtain⟨q,rfl⟩:∃q:Nat,A=(q:Int):=⟨A.toNat,by omega⟩
   obtain⟨N,O,jj⟩:=EP (l:=l) (q:=q) (by omega)
   by_cases S:gD l (q:Int)=6
   ·have hS:(gD l (q:Int) !=6)=false:=by simp[S]
    rw[if_neg (by simp[S])]at s
    simp only[ae,aAi,ds,reduceCtorEq,F7,hb,te,aY,hL,iS,L,R,D,M,E,u,W,F,G,gM,z,N,O,hS,aP,azA,ac];exact ar ⟨by rw[s],X,λ_=>l5⟩
   ·have hS:(gD l (q:Int) !=6)=true:=by simp[S]
    rw[if_pos ⟨Q,S⟩]at s;simp only[ae,aAi,ds,reduceCtorEq,F7,hb,te,aY,hL,iS,L,R,D,M,E,u,W,F,G,gM,z,N,O,hS,aP,azA,ac];exact ar ⟨by rw[s],X,λU=>by rw[s]at U;cases U⟩
  ·have u:(v.kind==9)=false:=by simp[Q]
   have s:dD l i v=0:=by
    unfold dD;rw[if_neg eR,if_neg pO,if_neg q3,if_neg (by rw[T];simp),if_neg nL,if_neg (by simp[Q])]
   simp only[ae,ds,hb,aY,R,D,M,E,u,W,F,G,aP,azA,ac];exact ar ⟨by rw[s],X,λ_=>l5⟩
def cD(l:List bz)(p:Int):List V:=[.af l.length (l.flatMap al),.int .i64 p]
theorem aeO(l:List bz)(p:Int):bb (cD l p):=bb.cons (a8.af (A4 arN _)) (bb.cons (a8.int _ _) bb.nil)
def ju(l:List bz):Prop:=l.length<2^47/\∀v∈l,yv v
def sv(q:Int×Int):V:=.tuple [.int .i64 q.1,.int .i64 q.2]
theorem Q7(l:List bz)(p:Int)(aZ:ju l)(h:I)(aw:jG h):Pure mc 59 [.agg (cD l p)] h (sv (cg p l)):=by
 have si:a8 (sv (cg p l)):=a8.tuple (bb.cons (a8.int _ _) (bb.cons (a8.int _ _) bb.nil));refine Pure.val si ?_;have av:(V.agg (cD l p)).cells=some [.af l.length (l.flatMap al),.int .i64 p]:=rfl;obtain⟨H,hH,A,u,ib⟩:=b0 h (.cells [.af l.length (l.flatMap al),.int .i64 p] 24 none);refine bd Tryz.func59 rfl ?_;by_cases B:p<1
 ·have z:decide (p<1)=true:=by simpa using B
  have j:cg p l=(-1,2):=if_pos (.inl B);simp only[ae,IN,ds,AS,By,yP,aY,av,<-hH,u,z,aP,aBe,da];exact ar ⟨by rw[j];rfl,A⟩
 have z:decide (p<1)=false:=by simpa using B
 by_cases C:8<p
 ·have D:decide (8<p)=true:=by simpa using C
  have j:cg p l=(-1,2):=if_pos (.inr (.inl C));simp only[ae,IN,ds,AS,By,yP,aY,av,<-hH,u,z,D,aP,aBe,da];exact ar ⟨by rw[j];rfl,A⟩
 have D:decide (8<p)=false:=by simpa using C
 by_cases W:l.length=0
 ·have G:((l.length:Int)==0)=true:=by simp[W]
  have j:cg p l=(-1,2):=if_pos (.inr (.inr (.inl W)));simp only[ae,IN,ds,AS,By,km,yP,pM,kH,aY,av,<-hH,u,z,D,G,aP,aBe,da];exact ar ⟨by rw[j];rfl,A⟩
 have G:((l.length:Int)==0)=false:=by simp only[beq_eq_false_iff_ne,ne_eq];omega
 by_cases bn:24<l.length
 ·have M:decide ((24:Int)<(l.length:Int))=true:=decide_eq_true (by omega)
  have j:cg p l=(-1,2):=if_pos (.inr (.inr (.inr bn)));simp only[ae,IN,ds,AS,By,km,yP,pM,kH,aY,av,<-hH,u,z,D,G,M,aP,aBe,da];exact ar ⟨by rw[j];rfl,A⟩
 have M:decide ((24:Int)<(l.length:Int))=false:=decide_eq_false (by omega)
 have j:cg p l=pV l 0 l:=if_neg (by omega)
 obtain⟨L,E⟩:∃x,x=H.push (.map [] 0):=⟨_,rfl⟩;have X:L.get h.n=.cells [.af l.length (l.flatMap al),.int .i64 p] 24 none:=by rw[E];exact(iP (by omega)).trans u
 have xM:J h L none_:=by rw[E];exact A.bp _
 have N:L.get H.n=.map (xO []) 0:=by rw[E];exact fv
 have aa:L.n=H.n+1:=by rw[E];rfl
 simp only[ae,IN,ds,AS,By,km,yP,pM,kH,aY,av,<-hH,u,z,D,G,M,<-E,X];refine aS.bI (α:=Nat×uu×Nat) (λx f h'=>f 1=.ptr h.n 0/\f 4=.map H.n/\f 30=.int .i64 (l.length:Int)/\f 31=.int .i64 (x.1:Nat)/\x.1<=l.length/\J h h' none_/\H.n<h'.n/\h'.get h.n=.cells [.af l.length (l.flatMap al),.int .i64 p] 24 none/\h'.get H.n=.map (xO x.2.1) x.2.2/\wU (l.take x.1) x.2.1/\pV l 0 l=pV l x.1 (l.drop x.1)) (λx=>l.length-x.1) (0,[],0) ⟨rfl,rfl,rfl,rfl,Dy _,xM,by omega,X,N,wU.nil,rfl⟩ ?_
 rintro⟨i,es,cl⟩ f B ⟨Y,Z,s,q,hi,O,en,g1,gx,cr,m⟩
 simp only at q hi gx cr m;refine wpS ?_;by_cases Q:i<l.length
 ·have R:=dV (a:=i) (b:=l.length) (by omega)
  rw[azg Q]at m;obtain⟨S2,Nf,_⟩:=aZ.2 _ (ayM Q);have bT:=hR (i:=i) (by omega)
  simp only[ae,ds,AS,km,kH,Y,Z,s,q,R,g1];refine cA (atI l i H.n cl es Q (by omega) _ rfl S2 Nf B (aw.ai O) en gx cr) λr C ⟨ay,S,l5⟩=>?_
  subst ay;have k3:J h C none_:=O.trans S λk hk D1=>by omega
  have DS:=S.n;have g2:=(S.get h.n (by omega) (by omega)).trans g1
  replace m:pV l 0 l=if dD l i l[i]=0 then pV l (i+1) (l.drop (i+1))else((i:Int),dD l i l[i]):=m
  by_cases F:dD l i l[i]=0
  ·have T:(dD l i l[i] !=0)=false:=by simp[F]
   obtain⟨gn,Aq,cB,de⟩:=l5 F;rw[if_pos F]at m;simp only[ae,IN,ds,q,T,bT];exact ar ⟨(i+1,gn,Aq),⟨Y,Z,s,rfl,by simp only;omega,k3,by omega,g2,cB,de,m⟩,by simp only;omega⟩
  ·have T:(dD l i l[i] !=0)=true:=by simp[F]
   rw[if_neg F]at m;simp only[ae,IN,ds,T,aP,aBe,da];exact ar ⟨by rw[j,m];rfl,k3⟩
 ·have R:=eC (a:=i) (b:=l.length) (by omega)
  rw[azz (by omega)]at m
  simp only[ae,IN,ds,s,q,R,aP,aBe,da];exact ar ⟨by rw[j,m];rfl,O⟩
theorem Ng(h:I)(x:Int):h3 mc 46 1 [(0,.int .i64 x)] h=some (.bg h.n 0 1 1,h.push (.cells [.int .i64 x] 3 none)):=by rw[mD oQ];rfl
theorem Q9(l:List Int)(x:Int)(M:l.length<2^47)(h:I):Pure mc 73 [.af l.length (ao l),.int .i64 x] h (.bool (l.contains x)):=by
 have F:au mc 112 [.af l.length (ao l),.int .i64 x] h (λr h'=>(∃k:Int,r=.int .i64 k/\(decide (0<=k))=l.contains x)/\h'=h):=by
  refine bd Tryz.func112 rfl ?_;simp only[ae,IN,ds,reduceCtorEq,fB];refine aS.bI (α:=Nat) (λj f h'=>f 0=.af l.length (ao l)/\f 1=.int .i64 x/\f 7=.int .i64 (l.length:Int)/\f 8=.int .i64 (j:Nat)/\j<=l.length/\h'=h/\l.contains x=(l.drop j).contains x) (λj=>l.length-j) 0 ⟨rfl,rfl,rfl,rfl,Dy _,rfl,rfl⟩ ?_
  rintro j f G ⟨z,B,q,C,N,rfl,m⟩
  refine wpS ?_;by_cases D:j<l.length
  ·have s:=dV (a:=j) (b:=l.length) (by omega)
   rw[azg D,List.contains_cons]at m;have E:=vq (P:=mc) (kk:=.i64) D iS;generalize l[j]=A at *;have H:=hR (i:=j) (by omega)
   cases u:(x==A)
   ·simp only[ae,IN,ds,reduceCtorEq,aY,z,B,q,C,s,E,u,H];rw[u,Bool.false_or]at m;exact ar ⟨j+1,⟨z,B,q,rfl,by omega,rfl,m⟩,by omega⟩
   ·simp only[ae,IN,ds,reduceCtorEq,aY,z,B,q,C,s,E,u,aP,aF6,ac];rw[u,Bool.true_or]at m;exact ar ⟨⟨_,rfl,by rw[m];simp⟩,rfl⟩
  ·have s:=eC (a:=j) (b:=l.length) (by omega)
   rw[azz (by omega)]at m
   simp only[ae,IN,ds,q,C,s,aP,aF6,ac];exact ar ⟨⟨_,rfl,by rw[m];rfl⟩,rfl⟩
 refine bd Tryz.func73 rfl ?_;simp only[ae,ds,reduceCtorEq];refine cA F λr G ⟨⟨k,ay,bc⟩,L⟩=>?_;subst ay L;simp only[ae,ds,aP,Tryz.results73,ac];exact ar ⟨by rw[bc],rfl⟩
theorem aeQ(l:List bz)(p v:Int)(R:ju l)(ax:l.length<=2^40)(h:I):Pure mc 71 [.agg (cD l p),.int .i64 v] h (.af (hU v 0 l).length (ao (hU v 0 l))):=by
 refine Pure.acc (e:=3) (sz:=1) (yM _) (by rw[am,ajD]) (by have:=GQ (v:=v) (l:=l) (j:=0);omega) ?_
 have av:(V.agg (cD l p)).cells=some [.af l.length (l.flatMap al),.int .i64 p]:=rfl;obtain⟨H,hH,S,T,_⟩:=b0 h (.cells [.af l.length (l.flatMap al),.int .i64 p] 24 none);refine bd Tryz.func71 rfl ?_;simp only[ae,ds,AS,km,pM,kH,av,<-hH,T];refine aS.bI (α:=V×Nat) (λx f h'=>f 1=.int .i64 v/\f 5=x.1/\f 9=.af l.length (l.flatMap al)/\f 10=.int .i64 (l.length:Int)/\f 11=.int .i64 (x.2:Nat)/\x.2<=l.length/\Acc h h' 3 1 x.1 (ao (hU v 0 (l.take x.2)))) (λx=>l.length-x.2) (.ag,0) ⟨rfl,rfl,rfl,rfl,rfl,Dy _,Acc.nil S⟩ ?_
 rintro⟨u,i⟩ f W ⟨D,B,E,s,m,hi,C⟩
 simp only at B m hi C;refine wpS ?_;by_cases F:i<l.length
 ·have G:=dV (a:=i) (b:=l.length) (by omega)
  obtain⟨S2,X,_⟩:=R.2 _ (ayM F);have Y:=tR (kk:=.i64) (P:=mc) la F En;have z:=AC v l[i] (l.take i) 0;rw[<-azi F,TY,azt (by omega),ayP]at z
  generalize l[i]=A at *;have L:=ss A;have Z:∀(q:List V),cJ (some (some 6)) (some (al A++q))=some (.agg (al A)):=λq=>be (la A);have cb:(V.agg (al A)).cells=some (al A):=rfl;have dA:bA (some 6) (aR.cells [.int .i64 0,.ag,.int .i64 0,.int .i64 0,.ag,.int .i64 0] 68 none) 0 (al A)=some (.cells (al A) 68 none):=by
   rw[uR (n:=6) (la A) (C9 A),if_pos (by decide),L];rfl
  have gM:cO (aR.cells (al A) 68 none) 1=some [.af A.bj.length (ao A.bj),.int .i64 A.e.op,.int .i64 A.e.num,.af A.e.aM.length (A.e.aM.flatMap aH),.int .i64 A.n]:=by rw[L];rfl
  have M:=hR (i:=i) (by omega)
  have N:=C.on (J.push W (.cells (al A) 68 none) _);simp only[ae,ds,te,hL,pN,rM,rN,D,E,s,m,G,Y,Z,cb,dA,gM];refine bO (Q9 A.bj v X _) ?_;cases O:A.bj.contains v
  ·rw[O,if_neg (by simp),axX]at z
   simp only[ae,ds,m,M];exact ar ⟨(u,i+1),⟨D,B,E,s,rfl,by simp only;omega,by simp only;rw[z];exact N⟩,by simp only;omega⟩
  ·rw[O,if_pos rfl]at z;obtain⟨v2,ad,Q,a2⟩:=N.elem (P:=mc) oQ (by decide) (xs:=[.int .i64 (i:Nat)]) rfl rfl (by have:=GQ (v:=v) (l:=l.take i) (j:=0);simp[am,lim]at this⊢;omega) (by have:=GQ (v:=v) (l:=l.take i) (j:=0);simp[am,lim]at this⊢;omega)
   simp only[df]at Q;simp only[ae,ds,B,m,Ng,Q,M];exact ar ⟨(v2,i+1),⟨D,rfl,E,s,rfl,by simp only;omega,by simp only;rw[z,UN];exact a2⟩,by simp only;omega⟩
 ·have G:=eC (a:=i) (b:=l.length) (by omega)
  rw[ajz (by omega)]at C
  simp only[ae,ds,B,s,m,G,aP,Tryz.results71,ac];exact ar C
theorem atJ(h:I)(a i j m:Int):h3 mc 64 2 [(0,.agg [.int .i64 a,.int .i64 i,.ag]),(1,.agg [.int .i64 j,.int .i64 m,.ag])] h=some (.bg h.n 0 2 2,h.push (.cells [.int .i64 a,.int .i64 i,.ag,.int .i64 j,.int .i64 m,.ag] 66 none)):=by rw[mD VS];rfl
theorem atK(h:I)(i j b:Nat):h3 mc 22 3 [(0,.agg [.int .i64 1,.ag,.int .i64 0,.int .i64 0,.ag,.int .i64 0]),(1,.agg [.int .i64 6,.bg i 0 1 1,.int .i64 6,.int .i64 0,.bg b 0 2 2,.int .i64 0]),(2,.agg [.int .i64 10,.bg j 0 1 1,.int .i64 0,.int .i64 0,.ag,.int .i64 0])] h=some (.bg h.n 0 3 3,h.push (.cells [.int .i64 1,.ag,.int .i64 0,.int .i64 0,.ag,.int .i64 0,.int .i64 6,.bg i 0 1 1,.int .i64 6,.int .i64 0,.bg b 0 2 2,.int .i64 0,.int .i64 10,.bg j 0 1 1,.int .i64 0,.int .i64 0,.ag,.int .i64 0] 68 none)):=by rw[mD VR];rfl
def Nh:b6:=.mk 6 0 [.mk 5 0 [],.mk 3 0 []]
def eI:List bz:=[⟨1,[],.mk 0 0 [],0⟩,⟨6,[0],Nh,0⟩,⟨10,[1],.mk 0 0 [],0⟩]
theorem Db{h:I}{i n:Nat}{cs:List V}{e:TypeId}{sz:Nat}(j:i<h.n)(m:h.get i=.cells cs e none)(a:cs.length=n*sz)(q:n<b7):Own h e sz (.bg i 0 n n) cs :=
 .inr ⟨i,n,n,cs,none,rfl,j,m,a,by rw[<-a];exact List.take_length,.inl ⟨q,by omega,BY _⟩⟩
theorem atL(h:I)(a b c d e f:aR):let H:=(((((h.push a).push b).push c).push d).push e).push f
  H.n=h.n+6/\H.get h.n=a/\H.get (h.n+1)=b/\H.get (h.n+3)=d/\H.get (h.n+4)=e/\H.get (h.n+5)=f/\J h H none_:=by
 intro H;refine⟨rfl,?_,?_,?_,?_,?_,(((((J.push _ _ _).bp _).bp _).bp _).bp _).bp _⟩<;>simp only[H,I.push]<;>repeat first|rfl|rw[if_pos trivial]|rw[if_pos rfl]|rw[if_neg (by omega)]
def Xo:List bz:=eI++[⟨10,[2],.mk 0 0 [],1⟩]
theorem xQ(o n:Int)(a:-2^63<=o/\o<2^63)(i:-2^63<=n/\n<2^63):hT (.mk o n []):=.mk o n [] (by simp) (by simp) a i
theorem Xp:hT Nh:=.mk 6 0 _ (by simp) (by
 intro k a;simp at a;rcases a with rfl|rfl
 ·exact xQ 5 0 (by omega) (by omega)
 ·exact xQ 3 0 (by omega) (by omega)) (by omega) (by omega)
theorem atM:ju Xo:=by
 refine⟨by decide,?_⟩
 intro v i;simp only[Xo,eI,azv,azy,Iz,List.not_mem_nil,or_false]at i;rcases i with rfl|rfl|rfl|rfl
 ·exact⟨xQ 0 0 (by omega) (by omega),by decide,by unfold mu;decide,by unfold mu;decide,by intro f a;simp at a<;>(subst a;unfold mu;omega)⟩
 ·exact⟨Xp,by decide,by unfold mu;decide,by unfold mu;decide,by intro f a;simp at a<;>(subst a;unfold mu;omega)⟩
 ·exact⟨xQ 0 0 (by omega) (by omega),by decide,by unfold mu;decide,by unfold mu;decide,by intro f a;simp at a<;>(subst a;unfold mu;omega)⟩
 ·exact⟨xQ 0 0 (by omega) (by omega),by decide,by unfold mu;decide,by unfold mu;decide,by intro f a;simp at a<;>(subst a;unfold mu;omega)⟩
theorem aeR:ju eI:=⟨by decide,λv a=>atM.2 v (by simp only[Xo];exact List.mem_append_left _ a)⟩
theorem aA.trans{a b c:List V}{h i j:I}(x:aA a h b i)(y:aA b i c j):aA a h c j:=fun ρ B s w u z A=>
 let ⟨ρ1,C,D,E⟩:=x ρ B s w u z A
 let ⟨ρ2,F,G,H⟩:=y ρ1 B s w u D E
 ⟨ρ2,C.trans F,G,H⟩
theorem Xq{l:List bz}{i:Nat}{v:bz}(h:dD l i v=0):(1<=v.kind/\v.kind<=10)/\(∀f∈v.bj,0<=f/\f<i)/\ly v=true/\GO l i v=false/\(∀f∈v.bj,gD l f≠10):=by
 unfold dD at h;split at h
 ·cases h
 rename_i A;split at h
 ·cases h
 rename_i m;split at h
 ·cases h
 rename_i q;split at h
 ·cases h
 rename_i s;split at h
 ·cases h
 rename_i u;refine⟨by omega,λf a=>?_,by simpa using q,by simpa using s,λf a z=>?_⟩
 ·have j:(v.bj.any λf=>decide (f<0\/(i:Int)<=f))=false:=by simpa using m
  rw[aAS]at j;have:=j f a;simp only[decide_eq_true_eq]at this;omega
 ·exact u (aAC.2 ⟨f,a,by simp[z]⟩)
theorem Dc{p:Int}{l:List bz}(h:(cg p l).2=0):cg p l=(-1,0)/\(1<=p/\p<=8)/\1<=l.length/\l.length<=24/\pV l 0 l=(-1,0)/\∀k v,l[k]?=some v->dD l k v=0:=by
 unfold cg at h⊢;split at h
 ·cases h
 rename_i i;rw[if_neg i];obtain⟨a,b⟩:=Xj h;exact⟨a,by omega,by omega,by omega,a,λk v j=>by simpa using b k v j⟩
def gE(v:bz):List Nat:=enc v.kind.toNat++zZ v.bj++enc (kJ v.n)++Bd (j4 v.e)
def sw(p:Int)(l:List bz):List Nat:=enc p.toNat++enc l.length++l.flatMap gE
def nh(p:Int)(l:List bz):List Nat:=if(cg p l).2=0 then sw p l else []
theorem atN:∀k,k<11->(lQ.getD k (0,0,0,0)).1<=2:=by decide
theorem Dd{p:Int}{l:List bz}(h:(cg p l).2=0):(1<=p/\p<=8)/\1<=l.length/\l.length<=24/\∀v∈l,(1<=v.kind/\v.kind<=10)/\v.bj.length<=2/\(∀f∈v.bj,0<=f/\f<24)/\ly v=true:=by
 unfold cg at h;split at h
 ·cases h
 rename_i ak;refine⟨by omega,by omega,by omega,λv m=>?_⟩
 obtain⟨i,hi,rfl⟩:=List.getElem_of_mem m;have a:=(Xj h).2 i l[i] (IA hi);rw[ayP]at a;obtain⟨q,s,j,_,_⟩:=Xq a;refine⟨q,?_,λf u=>by have:=s f u;omega,j⟩
 have:=j;unfold ly ii at this;simp only[ajC,decide_eq_true_eq]at this;have z:=atN l[i].kind.toNat (by omega)
 omega
theorem Xr{e:b6}(a:hT e):(j4 e).length<=1280:=by
 unfold j4;split
 ·rename_i i;have j:=Wn (e0 e) e rfl a;have m:=Wp i;omega
 ·simp
theorem aeS{l:List Int}(h:∀n∈l,-2^63<=n/\n<2^63)(a:l.length<=2):(zZ l).length<=30:=by
 unfold zZ;rw[Dx];have i:=acG h;have j:=(rR l.length (by omega)).2
 omega
theorem aeT{v:bz}(a:yv v)(j:1<=v.kind/\v.kind<=10)(i:v.bj.length<=2):(gE v).length<=1400:=by
 unfold gE Bd;simp only[Dx];have m:=aeS a.2.2.2.2 i;have q:=(rR v.kind.toNat (by omega)).2
 have s:=(rR (kJ v.n) (CN _ a.2.2.2.1.1 a.2.2.2.1.2)).2;have u:=Xr a.1;have z:=(rR (j4 v.e).length (by omega)).2
 omega
theorem aeU{l:List bz}(h:∀v∈l,(gE v).length<=1400):(l.flatMap gE).length<=1400*l.length:=by
 induction l with
 | nil=>simp
 | cons v l ih=>
  have i:=h v (by simp)
  have j:=ih λu a=>h u (by simp[a])
  simp only[azh,Dx,axW];omega
def ET(p:Int)(l:List bz):V:=.tuple [.af (nh p l).length (e5 (nh p l)),.int .i64 (cg p l).2]
theorem atO(p:Int)(l:List bz):a8 (ET p l):=a8.tuple (bb.cons (a8.af (Es _)) (bb.cons (a8.int _ _) bb.nil))
theorem aeV(l:List bz)(p:Int)(L:ju l)(h:I)(Z:jG h):Pure mc 30 [.agg (cD l p)] h (ET p l):=by
 refine Pure.of (atO p l) ?_;have av:(V.agg (cD l p)).cells=some [.af l.length (l.flatMap al),.int .i64 p]:=rfl;obtain⟨H,hH,M,E,_⟩:=b0 h (.cells [.af l.length (l.flatMap al),.int .i64 p] 24 none);have ib:h.n<H.n:=by rw[hH];exact Nat.lt_succ_self _
 refine bd Tryz.func30 rfl ?_;simp only[ae,ds,AS,jh,av,<-hH,E];refine bO (Q7 l p L H (Z.ai M)) ?_;by_cases u:(cg p l).2=0;rotate_left
 ·have N:((cg p l).2 !=0)=true:=by simpa using u
  have O:ET p l=.tuple [.af 0 [],.int .i64 (cg p l).2]:=by unfold ET nh;rw[if_neg u];rfl
  rw[O];simp only[ae,ds,sv,N,aP,aF8,da];exact ar ⟨_,aF.tuple (aA.cons (aF.k7 _) (aA.refl _ _)),M⟩
 ·have N:((cg p l).2 !=0)=false:=by simpa using u
  obtain⟨aW,hP,h6,Q⟩:=Dd u;obtain⟨P,rfl⟩:=aBS (show 0<=p by omega)
  have O:ET P l=.tuple [.af (sw P l).length (e5 (sw P l)),.int .i64 0]:=by unfold ET nh;rw[if_pos u,u]
  have De:=L8 (n:=P) (by omega)
  have JC:=L8 (n:=l.length) (by omega)
  simp only[ae,ds,AS,By,yP,aY,sv,N,E,lL gS oP,De];refine bO (Fd .ag [] P H (Rd.ag _) (by simp) (by omega)) ?_
  simp only[ae,ds,AS,km,pM,kH,E,lL gS oP,JC];have ay:=(rR P (by omega)).2
  have bc:=(rR l.length (by omega)).2
  refine bO (Fd _ _ l.length H (Rd.af _ _) (by omega) (by omega)) ?_
  simp only[ae,ds,AS,km,pM,kH,E];have z:∀v∈l,(gE v).length<=1400:=λv B=>aeT (L.2 v B) (Q v B).1 (Q v B).2.1;refine aS.bI (α:=Nat) (λi f h'=>f 1=.ptr h.n 0/\f 6=.af (enc P++enc l.length++(l.take i).flatMap gE).length (e5 (enc P++enc l.length++(l.take i).flatMap gE))/\f 30=.af l.length (l.flatMap al)/\f 31=.int .i64 (l.length:Int)/\f 32=.int .i64 (i:Nat)/\i<=l.length/\J h h' none_) (λi=>l.length-i) 0
   ⟨rfl,by simp only[List.take_zero,List.flatMap_nil,axX];rfl,rfl,rfl,rfl,Dy _,M⟩ ?_
  rintro i f h1 ⟨f1,F,C,j,s,hi,R⟩
  refine wpS ?_;by_cases G:i<l.length
  ·have S:=dV (a:=i) (b:=l.length) (by omega)
   have lN:=L.2 _ (ayM G);obtain⟨mG,ud,aa,_⟩:=Q _ (ayM G);have dL:=tR (kk:=.i64) (P:=mc) la G En;have e2:(l.take (i+1)).flatMap gE=(l.take i).flatMap gE++gE l[i]:=acF l gE G;have cM:((l.take i).flatMap gE).length<=1400*24:=by
    have:=aeU (l:=l.take i) λv B=>z v (aA9 B);rw[TY]at this;have:(l.take i).length<=24:=by rw[TY];omega
    omega
   generalize l[i]=A at *;have D:=ss A;have jC:∀(q:List V),cJ (some (some 6)) (some (al A++q))=some (.agg (al A)):=λq=>be (la A);have cb:(V.agg (al A)).cells=some (al A):=rfl;have dA:bA (some 6) (aR.cells [.int .i64 0,.ag,.int .i64 0,.int .i64 0,.ag,.int .i64 0] 68 none) 0 (al A)=some (.cells (al A) 68 none):=by
    rw[uR (n:=6) (la A) (C9 A),if_pos (by decide),D];rfl
   have gB:cO (aR.cells (al A) 68 none) 0=some [.int .i64 A.kind,.af A.bj.length (ao A.bj),.int .i64 A.e.op,.int .i64 A.e.num,.af A.e.aM.length (A.e.aM.flatMap aH),.int .i64 A.n]:=by rw[D];rfl
   have gM:cO (aR.cells (al A) 68 none) 1=some [.af A.bj.length (ao A.bj),.int .i64 A.e.op,.int .i64 A.e.num,.af A.e.aM.length (A.e.aM.flatMap aH),.int .i64 A.n]:=by rw[D];rfl
   have kg:cO (aR.cells (al A) 68 none) 2=some (aH A.e++[.int .i64 A.n]):=by obtain⟨k,aX,⟨o,m,aM⟩,n⟩:=A;rw[D,l3];rfl
   have wT:cO (aR.cells (al A) 68 none) 5=some [.int .i64 A.n]:=by rw[D];rfl
   have bT:=hR (i:=i) (by omega)
   have T:aOT.u64.wrap A.kind=(A.kind.toNat:Int):=by rw[aOT.wrap_u64];omega
   have W:=Wo A.e;obtain⟨cs,X⟩:∃y,y=enc P++enc l.length++(l.take i).flatMap gE:=⟨_,rfl⟩;have Xs:enc P++enc l.length++(l.take (i+1)).flatMap gE=(((cs++enc A.kind.toNat)++zZ A.bj)++enc (kJ A.n))++Bd (j4 A.e):=by rw[e2,X,gE];simp only[axV]
   have u5:cs.length<=40000:=by rw[X];simp only[Dx];omega
   rw[<-X]at F;have g1:=(rR A.kind.toNat (by omega)).2
   have g2:=aeS lN.2.2.2.2 ud;have g3:=(rR (kJ A.n) (CN _ lN.2.2.2.1.1 lN.2.2.2.1.2)).2;have g4:=Xr lN.1;have Y:jG (h1.push (.cells (al A) 68 none)):=Z.ai (R.trans' (J.push _ _ _));simp only[ae,ds,hb,aY,pN,rM,rN,F,C,j,s,S,dL,jC,cb,dA,gB,lL gS oP,T];refine bO (Fd _ _ A.kind.toNat _ (Rd.af _ _) (by omega) (by omega)) ?_
   simp only[ae,ds,te,hL,gM];refine bO (atw _ _ A.bj _ (Rd.af _ _) lN.2.2.2.2 (by rw[Dx];omega)) ?_
   simp only[ae,ds,i6,bR,wT];refine bO (L7 _ _ A.n _ (Rd.af _ _) (by simp only[Dx];omega) lN.2.2.2.1.1 lN.2.2.2.1.2) ?_
   simp only[ae,ds,rK,gj,kg,W];refine bO (y6 A.e lN.1 _ Y.1) ?_;simp only[ae,ds,ub];refine bO (atv _ _ _ (j4 A.e) _ (Rd.af _ _) (Rd.af _ _) (by simp only[Dx];omega)) ?_
   simp only[ae,ds,s,bT];exact ar ⟨i+1,⟨f1,by rw[Xs];rfl,C,j,rfl,by omega,R.trans' (J.push _ _ _)⟩,by omega⟩
  ·have S:=eC (a:=i) (b:=l.length) (by omega)
   rw[ajz (by omega)]at F
   rw[O];simp only[ae,ds,F,j,s,S,aP,aF8,da];exact ar ⟨_,aF.refl _ _,R⟩
theorem GS(i:Nat)(a:List Nat)(h:I)(j:dS h (.ptr i 0) i a)(ak:∀b∈a,b<256)(av:a.length<=2^47) :
  au mc 106 [.ptr i 0] h (λr h'=>r=.tuple [.int .i64 ((min (dec a 0 0).1 1000:Nat):Int),.int .i64 ((dec a 0 0).2.2:Nat)]/\dS h' (.ptr i 0) i (a.drop (dec a 0 0).2.1)/\J h h' (·=i)):=by
 refine bd Tryz.func106 rfl ?_;simp only[ae,ds,reduceCtorEq];refine cA (QG _ i a h j ak av) λr s ⟨ay,cL,m⟩=>?_;subst ay;have q:aOT.i64.wrap (min ((dec a 0 0).1:Int) 1000)=((min (dec a 0 0).1 1000:Nat):Int):=by rw[Go.IntWalk.i64_in _ (by omega)];omega
 simp only[ae,ds,lL oP gS,q,aP,Tryz.results106,da];exact ar ⟨rfl,cL,m⟩
def sx(k:Nat)(i:List Int)(n:Int)(a:List Nat):Except Nat (bz×List Nat) :=
 if(ir a).2.2≠0 then .error (ir a).2.2
 else if(ir a).1.length=0 then .ok (⟨(k:Int),i,.mk 0 0 [],n⟩,(ir a).2.1)
 else if o9 (ir a).1≠0 then .error (o9 (ir a).1)
 else .ok (⟨(k:Int),i,pP (ir a).1,n⟩,(ir a).2.1)
def sy(k:Nat)(i:List Int)(a:List Nat):Except Nat (bz×List Nat) :=
 if(dec a 0 0).2.2≠0 then .error (dec a 0 0).2.2 else sx k i (gL (dec a 0 0).1) (a.drop (dec a 0 0).2.1)
def sA(k:Nat)(a:List Nat):Except Nat (bz×List Nat) :=
 if(j3 a 2).2.2≠0 then .error (j3 a 2).2.2 else sy k (j3 a 2).1 (j3 a 2).2.1
def pa(a:List Nat):Except Nat (bz×List Nat) :=
 if(dec a 0 0).2.2≠0 then .error (dec a 0 0).2.2 else sA (min (dec a 0 0).1 1000) (a.drop (dec a 0 0).2.1)
def GU:bz:=⟨0,[],.mk 0 0 [],0⟩
def Xt:Except Nat (bz×List Nat)->V
 | .error c=>.tuple [.agg (al GU),.int .i64 (c:Nat)]
 | .ok (v,_)=>.tuple [.agg (al v),.int .i64 0]
def Sub(a b:List Nat):Prop:=(∀x∈a,x∈b)/\a.length<=b.length
theorem Sub.rfl'(a:List Nat):Sub a a:=⟨λ_ h=>h,BY _⟩
theorem Sub.nil(a:List Nat):Sub [] a:=⟨λ_ h=>(by cases h),Dy _⟩
theorem Sub.trans{a b c:List Nat}(x:Sub a b)(y:Sub b c):Sub a c:=⟨λq h=>y.1 q (x.1 q h),ajy x.2 y.2⟩
theorem Sub.drop(a:List Nat)(k:Nat):Sub (a.drop k) a:=⟨λ_ h=>aAg h,by rw[azD];omega⟩
theorem Sub.take(a:List Nat)(k:Nat):Sub (a.take k) a:=⟨λ_ h=>aA9 h,by rw[TY];omega⟩
theorem Sub.lt{a b:List Nat}(x:Sub a b)(h:∀q∈b,q<256):∀q∈a,q<256:=λq i=>h q (x.1 q i)
theorem aeY:∀(m:Nat) (r:List Nat) (a:List Int),Sub (so m r a).2.1 r
 | 0,r,a=>Sub.rfl' r
 | m+1,r,a=>by
  unfold so;split
  ·exact Sub.nil _
  ·split
   ·exact Sub.nil _
   ·exact(aeY m _ _).trans (Sub.drop _ _)
theorem aeZ(a:List Nat)(m:Int):Sub (j3 a m).2.1 a:=by
 unfold j3;split
 ·exact Sub.rfl' _
 ·split
  ·exact Sub.rfl' _
  ·split
   ·exact Sub.rfl' _
   ·exact(aeY _ _ _).trans (Sub.drop _ _)
theorem Xu(a:List Nat):Sub (ir a).2.1 a/\Sub (ir a).1 a:=by
 unfold ir;split
 ·exact⟨Sub.rfl' _,Sub.nil _⟩
 ·split
  ·exact⟨Sub.rfl' _,Sub.nil _⟩
  ·exact⟨(Sub.drop _ _).trans (Sub.drop _ _),(Sub.take _ _).trans (Sub.drop _ _)⟩
theorem Ni(h:I)(c:Nat):aF (.tuple [.agg [.int .i64 0,.ag,.int .i64 0,.int .i64 0,.ag,.int .i64 0],.int .i64 (c:Nat)]) h (.tuple [.agg (al GU),.int .i64 (c:Nat)]) h:=by
 refine aF.tuple (aA.cons ?_ (aA.refl _ _));rw[ss];exact Pk.aF.agg (aA.skip (aA.cons (aF.il h) (aA.skip (aA.skip (aA.cons (aF.il h) (aA.refl _ _))))))
theorem atQ(h:I)(k:Nat)(a:List Int)(n:Int):aF (.tuple [.agg [.int .i64 (k:Int),.af a.length (ao a),.int .i64 0,.int .i64 0,.ag,.int .i64 n],.int .i64 0]) h (.tuple [.agg (al ⟨(k:Int),a,.mk 0 0 [],n⟩),.int .i64 0]) h:=by
 refine aF.tuple (aA.cons ?_ (aA.refl _ _));rw[ss];exact Pk.aF.agg (aA.skip (aA.skip (aA.skip (aA.skip (aA.cons (aF.il h) (aA.refl _ _))))))
theorem atS(i:Nat)(a:List Nat)(h:I)(aw:hB h)(aJ:dS h (.ptr i 0) i a)(ak:∀b∈a,b<256)(av:a.length<=2^47) :
  au mc 107 [.ptr i 0] h (λr h'=>r=Xt (pa a)/\J h h' (·=i)/\∀v D,pa a=.ok (v,D)->dS h' (.ptr i 0) i D):=by
 refine au.cast ?_;refine bd Tryz.func107 rfl ?_;have cQ:=aJ.2.1;obtain⟨mE,Y,HQ,g0,ox⟩:=b0 h (.cells [V.int .i64 0,.ag,.int .i64 0,.int .i64 0,.ag,.int .i64 0] 68 none);have eZ:J h mE (·=i):=by rw[Y];exact J.push _ _ _
 have n9:=dS.ai aJ HQ (by simp[none_])
 have M:bA (some 6) (aR.cells [V.int .i64 0,.ag,.int .i64 0,.int .i64 0,.ag,.int .i64 0] 68 none) 0 [V.int .i64 0,.ag,.int .i64 0,.int .i64 0,.ag,.int .i64 0]=some (.cells [V.int .i64 0,.ag,.int .i64 0,.int .i64 0,.ag,.int .i64 0] 68 none):=rfl;have R:(((0:Nat):Int) !=0)=false:=rfl;simp only[ae,ds,reduceCtorEq,rM];rw[<-Y];clear Y;refine cA (GS i a mE n9 ak (by omega)) λr H1 ⟨ay,cL,Z⟩=>?_
 subst ay;have s1:Sub (a.drop (dec a 0 0).2.1) a:=Sub.drop _ _;have g1:=(Z.get h.n (by omega) (by omega)).trans g0
 have o6:=eZ.trans' Z;have en:=Z.n;by_cases ay:(dec a 0 0).2.2=0;rotate_left
 ·have z:(((dec a 0 0).2.2:Int) !=0)=true:=by simp;omega
  have H:pa a=.error (dec a 0 0).2.2:=by unfold pa;rw[if_pos ay]
  simp only[ae,ds,AS,pN,Gl,rM,rN,z,g1,M,aP,aAW,iR,iG,fq,iQ];rw[H];exact ar ⟨_,_,Ni _ _,rfl,o6.trans (J.set _ h.n _) λq F U=>by omega,λv D U=>by cases U⟩
 have B:pa a=sA (min (dec a 0 0).1 1000) (a.drop (dec a 0 0).2.1):=by unfold pa;rw[if_neg (by omega)]
 rw[ay]at *;rw[B];generalize min (dec a 0 0).1 1000=K at *;generalize a.drop (dec a 0 0).2.1=C at *;clear B;simp only[ae,ds,reduceCtorEq,R];refine cA (aty _ i C 2 H1 cL (s1.lt ak) (by have:=s1.2;omega) (.inr (by decide)) (by decide)) λr ca ⟨bc,dB,k2⟩=>?_
 subst bc;have s2:=(aeZ C 2).trans s1;have g2:=(k2.get h.n (by omega) (by omega)).trans g1
 have c4:=o6.trans' k2;have dd:=k2.n;by_cases bc:(j3 C 2).2.2=0;rotate_left
 ·have z:(((j3 C 2).2.2:Int) !=0)=true:=by simp;omega
  have H:sA K C=.error (j3 C 2).2.2:=by unfold sA;rw[if_pos bc]
  simp only[ae,ds,AS,pN,Gl,rM,rN,z,g2,M,aP,aAW,iR,iG,fq,iQ];rw[H];exact ar ⟨_,_,Ni _ _,rfl,c4.trans (J.set _ h.n _) λq F U=>by omega,λv D U=>by cases U⟩
 have B:sA K C=sy K (j3 C 2).1 (j3 C 2).2.1:=by unfold sA;rw[if_neg (by omega)]
 rw[bc]at *;rw[B];generalize(j3 C 2).1=s at *;generalize(j3 C 2).2.1=u at *;clear B;simp only[ae,ds,reduceCtorEq,R];refine cA (Gr _ i u ca dB (s2.lt ak) (by have:=s2.2;omega)) λr iV ⟨S,jf,k3⟩=>?_
 subst S;have l2:=(Sub.drop u (dec u 0 0).2.1).trans s2;have g3:=(k3.get h.n (by omega) (by omega)).trans g2
 have ez:=c4.trans' k3;have n3:=k3.n;by_cases S:(dec u 0 0).2.2=0;rotate_left
 ·have z:(((dec u 0 0).2.2:Int) !=0)=true:=by simp;omega
  have H:sy K s u=.error (dec u 0 0).2.2:=by unfold sy;rw[if_pos S]
  simp only[ae,ds,AS,pN,Gl,rM,rN,z,g3,M,aP,aAW,iR,iG,fq,iQ];rw[H];exact ar ⟨_,_,Ni _ _,rfl,ez.trans (J.set _ h.n _) λq F U=>by omega,λv D U=>by cases U⟩
 have B:sy K s u=sx K s (gL (dec u 0 0).1) (u.drop (dec u 0 0).2.1):=by unfold sy;rw[if_neg (by omega)]
 rw[S]at *;rw[B];generalize gL (dec u 0 0).1=N at *;generalize u.drop (dec u 0 0).2.1=j at *;clear B;simp only[ae,ds,reduceCtorEq,R];refine cA (atx _ i j iV jf (l2.lt ak) (by have:=l2.2;omega)) λr L ⟨T,CO,cx⟩=>?_
 subst T;have qW:=(Xu j).2.trans l2;have g4:=(cx.get h.n (by omega) (by omega)).trans g3
 have mq:=ez.trans' cx;have n4:=cx.n;by_cases T:(ir j).2.2=0;rotate_left
 ·have z:(((ir j).2.2:Int) !=0)=true:=by simp;omega
  have H:sx K s N j=.error (ir j).2.2:=by unfold sx;rw[if_pos T]
  simp only[ae,ds,AS,pN,Gl,rM,rN,z,g4,M,aP,aAW,iR,iG,fq,iQ];rw[H];exact ar ⟨_,_,Ni _ _,rfl,mq.trans (J.set _ h.n _) λq F U=>by omega,λv D U=>by cases U⟩
 have B:sx K s N j=if(ir j).1.length=0 then .ok (⟨(K:Int),s,.mk 0 0 [],N⟩,(ir j).2.1)else if o9 (ir j).1≠0 then .error (o9 (ir j).1)else .ok (⟨(K:Int),s,pP (ir j).1,N⟩,(ir j).2.1):=by unfold sx;rw[if_neg (by omega)]
 rw[B];clear B;rw[T]at *;have O:∀(k:Int) (m:Nat) (x:List V) (n:Int),bA (some 6) (aR.cells [V.int .i64 0,.ag,.int .i64 0,.int .i64 0,.ag,.int .i64 0] 68 none) 0 [.int .i64 k,.af m x,.int .i64 0,.int .i64 0,.ag,.int .i64 n]=some (.cells [.int .i64 k,.af m x,.int .i64 0,.int .i64 0,.ag,.int .i64 n] 68 none):=λ_ _ _ _=>rfl;obtain⟨G,iX,aa,Nj,yU⟩:=b0 L (.cells [V.int .i64 (K:Int),.af s.length (ao s),.int .i64 0,.int .i64 0,.ag,.int .i64 N] 68 none);have dQ:J L G (·=i):=by rw[iX];exact J.push _ _ _
 have g5:=(dQ.get h.n (by omega) (by omega)).trans g4
 have W:=mq.trans' dQ;have Jw:=dS.ai CO aa (by simp[none_])
 simp only[ae,ds,AS,By,qd,Gl,rM,rN,R,O];rw[<-iX];clear iX;by_cases dZ:(ir j).1.length=0
 ·have z:decide ((0:Int)<(((ir j).1.length:Nat):Int))=false:=decide_eq_false (by omega)
  rw[if_pos dZ];simp only[ae,ds,AS,pN,rN,z,Nj,g5,O,aP,aAW,iR,iG,fq,iQ];have Q:J G (G.set h.n (.cells [V.int .i64 (K:Int),.af s.length (ao s),.int .i64 0,.int .i64 0,.ag,.int .i64 N] 68 none)) (·=h.n):=J.set _ h.n _;exact ar ⟨_,_,atQ _ _ _ _,rfl,W.trans Q λq F U=>by omega,λv D U=>by injection U with U;injection U with h1 ad;subst ad;exact Jw.ai Q (by omega)⟩
 ·have z:decide ((0:Int)<(((ir j).1.length:Nat):Int))=true:=decide_eq_true (by omega)
  simp only[ae,ds,z];refine bO (Sy _ (ir j).1 G (aw.ai W) (Rd.af _ _) (qW.lt ak) (by have:=qW.2;omega)) ?_
  rw[if_neg dZ];generalize(ir j).1=xs at *;unfold ug;have S3:=z1 (pP xs);obtain⟨A,lF⟩:∃y,y=(⟨(K:Int),s,pP xs,N⟩:bz):=⟨_,rfl⟩;have S4:bA (some 3) (aR.cells [V.int .i64 (K:Int),.af s.length (ao s),.int .i64 0,.int .i64 0,.ag,.int .i64 N] 68 none) 2 (aH (pP xs))=some (.cells (al A) 68 none):=by
   rw[uR (n:=3) (rO _) (LY _),if_pos (by simp),lF]
   simp only[al];generalize pP xs=E;cases E;rfl
  have cb:(V.agg (al A)).cells=some (al A):=rfl;have dA:bA (some 6) (aR.cells [V.int .i64 0,.ag,.int .i64 0,.int .i64 0,.ag,.int .i64 0] 68 none) 0 (al A)=some (.cells (al A) 68 none):=by
   rw[uR (n:=6) (la A) (C9 A),if_pos (by decide),ss];rfl
  have gB:cO (aR.cells (al A) 68 none) 0=some (al A):=by rw[ss];rfl
  have mm:cJ (some (some 6)) (some (al A))=some (.agg (al A)):=by rw[ss];rfl
  have ah:(if 6<=(al A).length then some (V.agg (List.take 6 (al A)))else none)=some (.agg (al A)):=by rw[ss];rfl
  have X:J G (G.set L.n (.cells (al A) 68 none)) (·=L.n):=J.set _ _ _;have g6:=(X.get h.n (by omega) (by omega)).trans g5
  by_cases jB:o9 xs=0
  ·have bu:((o9 xs:Int) !=0)=false:=by simp[jB]
   rw[if_neg (by omega)]
   simp only[ae,ds,rK,pN,oS,rN,S3,Nj,S4,bu,gB,mm,g6,cb,dA,aP,aAW,iR,iG,fq,iQ];have Q:J (G.set L.n (.cells (al A) 68 none)) ((G.set L.n (.cells (al A) 68 none)).set h.n (.cells (al A) 68 none)) (·=h.n):=J.set _ h.n _;exact ar ⟨_,_,aF.refl _ _,by rw[lF];rfl,(W.trans X λq F U=>by omega).trans Q λq F U=>by omega,λv D U=>by injection U with U;injection U with h1 ad;subst ad;exact(Jw.ai X (by omega)).ai Q (by omega)⟩
  ·have bu:((o9 xs:Int) !=0)=true:=by simp;omega
   rw[if_pos jB];simp only[ae,ds,AS,rK,pN,Gl,rM,oS,rN,S3,Nj,S4,bu,g6,M,aP,aAW,iR,iG,fq,iQ];exact ar ⟨_,_,Ni _ _,rfl,(W.trans X λq F U=>by omega).trans (J.set _ h.n _) λq F U=>by omega,λv D U=>by cases U⟩
def jH:Nat->List Nat->List bz->Except Nat (List bz×List Nat)
 | 0,i,a=>.ok (a,i)
 | m+1,i,a=>match pa i with
  | .error c=>.error c
  | .ok (v,j)=>jH m j (a++[v])
def sB(p n:Nat)(a:List Nat):Except Nat (Nat×List bz×List Nat):=match jH n a []with
 | .error c=>.error c
 | .ok (l,r)=>.ok (p,l,r)
def sC(p:Nat)(a:List Nat):Except Nat (Nat×List bz×List Nat) :=
 if(dec a 0 0).2.2≠0 then .error (dec a 0 0).2.2 else if 24<min (dec a 0 0).1 1000 then .error 2 else sB p (min (dec a 0 0).1 1000) (a.drop (dec a 0 0).2.1)
def qC(a:List Nat):Except Nat (Nat×List bz×List Nat) :=
 if(dec a 0 0).2.2≠0 then .error (dec a 0 0).2.2 else sC (min (dec a 0 0).1 1000) (a.drop (dec a 0 0).2.1)
def Xv:Except Nat (Nat×List bz×List Nat)->V
 | .error c=>.tuple [.agg (cD [] 0),.int .i64 (c:Nat)]
 | .ok (p,l,_)=>.tuple [.agg (cD l (p:Int)),.int .i64 0]
theorem atT{xs:List Nat}(h:o9 xs≠0->False)(i:xs≠[]):∃e,o8 xs=.ok e/\pP xs=e:=by
 unfold o9 at h;unfold pP;cases a:o8 xs with
 | ok e=>exact⟨e,rfl,rfl⟩
 | error c=>rw[a]at h;exact(h (arv a)).elim
theorem ae1:∀(m:Nat) (r:List Nat) (a:List Int),(∀b∈r,b<256)->(so m r a).2.2=0->∃l,(so m r a).1=a++l/\l.length=m/\r=(l.flatMap λn=>enc (kJ n))++(so m r a).2.1/\∀n∈l,-2147483648<=n/\n<=2147483647
 | 0,r,a,_,_=>⟨[],by simp[so],rfl,by simp[so],by simp⟩
 | m+1,r,a,ak,h=>by
  unfold so at h⊢;split at h
  ·rename_i i;exact absurd h i
  ·rename_i i;rw[if_neg i];split at h
   ·cases h
   ·rename_i q;rw[if_neg q];obtain⟨s,u⟩:=z7 ak (by omega)
    obtain⟨l,z,A,B,C⟩:=ae1 m _ _ (λb D=>ak b (aAg D)) h;refine⟨gL (dec r 0 0).1::l,by rw[z];simp,by simp[A],?_,?_⟩
    ·rw[azh,Wq _ u,axV,<-B];exact s
    ·intro n j;rcases Iz.1 j with rfl|j
     ·omega
     ·exact C n j
theorem atU{a:List Nat}(ak:∀b∈a,b<256)(h:(j3 a 2).2.2=0):a=zZ (j3 a 2).1++(j3 a 2).2.1/\(j3 a 2).1.length<=2/\∀n∈(j3 a 2).1,-2147483648<=n/\n<=2147483647:=by
 unfold j3 at h⊢;split at h
 ·rename_i i;exact absurd h i
 rename_i i;rw[if_neg i];split at h
 ·cases h
 rename_i q;rw[if_neg q];split at h
 ·rename_i j;exact absurd h j
 rename_i j;rw[if_neg j];obtain⟨s,C⟩:=z7 ak (by omega)
 obtain⟨l,m,u,z,A⟩:=ae1 _ _ [] (λb B=>ak b (aAg B)) h;rw[azy]at m;rw[m];refine⟨?_,by omega,A⟩
 unfold zZ;rw[u,axV,<-z];exact s
theorem atV{a:List Nat}(ak:∀b∈a,b<256)(h:(ir a).2.2=0):a=Bd (ir a).1++(ir a).2.1:=by
 unfold ir at h⊢;split at h
 ·rename_i i;exact absurd h i
 rename_i i;rw[if_neg i];split at h
 ·cases h
 rename_i j;rw[if_neg j];obtain⟨m,q⟩:=z7 ak (by omega)
 unfold Bd;simp only;rw[TY,azt (by omega),axV,List.take_append_drop]
 exact m
theorem ae2{a:List Nat}(ak:∀b∈a,b<256){v:bz}{q:List Nat}(h:pa a=.ok (v,q)):yv v/\Sub q a/\(v.kind<1000->a=gE v++q):=by
 unfold pa at h;split at h
 ·cases h
 rename_i ay;obtain⟨F,eD⟩:=z7 ak (by omega)
 have G:=Sub.drop a (dec a 0 0).2.1;generalize ct:(dec a 0 0).1=K at *;generalize a.drop (dec a 0 0).2.1=s at *;unfold sA at h;split at h
 ·cases h
 rename_i bc;obtain⟨H,dw,dB⟩:=atU (G.lt ak) (by omega)
 have L:=(aeZ s 2).trans G;generalize(j3 s 2).1=W at *;generalize(j3 s 2).2.1=i at *;unfold sy at h;split at h
 ·cases h
 rename_i cW;obtain⟨M,O⟩:=z7 (L.lt ak) (by omega)
 have u:=(Sub.drop i (dec i 0 0).2.1).trans L;have j:=acH _ O;have Q:=Wq _ O;generalize(dec i 0 0).1=N at *;generalize i.drop (dec i 0 0).2.1=m at *;unfold sx at h;split at h
 ·cases h
 rename_i hW;have R:=atV (u.lt ak) (by omega)
 have S:=(Xu m).1.trans u;have X:=(Xu m).2.trans u;generalize(ir m).1=xs at *;generalize(ir m).2.1=pr at *;have T:∀f∈W,mu f:=λf Y=>by have:=dB f Y;unfold mu;omega
 split at h
 ·rename_i z;injection h with h;injection h with A B;subst A;subst B;have Z:xs=[]:=List.eq_nil_of_length_eq_zero z;refine⟨⟨xQ 0 0 (by decide) (by decide),by simp only;omega,by simp only[mu];omega,j,T⟩,S,λC=>?_⟩
  simp only at C;have D:min K 1000=K:=by omega
  have E:j4 (.mk 0 0 [])=[]:=by decide
  unfold gE;simp only;rw[D,ayQ,E,Q];subst Z
  conv=>lhs;rw[F,H,M,R]
  simp only[axV]
 ·rename_i z;split at h
  ·cases h
  rename_i dh;injection h with h;injection h with A B;subst A;subst B;obtain⟨e,cB,de⟩:=atT (xs:=xs) (λU=>dh U) (λU=>z (by rw[U];rfl))
  obtain⟨fp,kp,vC⟩:=arw (X.lt ak) cB;rw[de];refine⟨⟨vC,by simp only;omega,by simp only[mu];omega,j,T⟩,S,λC=>?_⟩
  simp only at C;have D:min K 1000=K:=by omega
  have E:j4 e=xs:=by unfold j4;rw[if_pos kp,<-fp]
  unfold gE;simp only;rw[D,ayQ,E,Q]
  conv=>lhs;rw[F,H,M,R]
  simp only[axV]
theorem atW{v:bz}(j:yv v)(C:1<=v.kind/\v.kind<=10)(D:v.bj.length<=2)(A:∀f∈v.bj,0<=f/\f<24)(a:v.e=.mk 0 0 []\/dj v.e=true)(r:List Nat):pa (gE v++r)=.ok (v,r):=by
 obtain⟨i,s,e,n⟩:=v;simp only at C D A a;obtain⟨K,rfl⟩:=aBS (show 0<=i by omega)
 have u:=j.2.2.2.1;simp only at u;unfold gE;simp only[ayQ,axV];unfold pa;rw[i8 K (by omega)]
 simp only[aAe];rw[if_neg (by simp),azt (by omega)]
 unfold sA;have E:∀q,j3 (zZ s++q) 2=(s,q,0):=λq=>by
  unfold j3 zZ;rw[axV,i8 _ (by omega)]
  simp only[aAe];rw[if_neg (by simp),if_neg (by omega),acL q s [] (λf F=>by have:=A f F;omega),if_neg (by simp)]
  simp
 rw[E];simp only;rw[if_neg (by simp)]
 unfold sy;rw[i8 _ (CN _ u.1 u.2)];simp only[aAe];rw[if_neg (by simp),Wm]
 unfold sx;have G:=Xr j.1;simp only at G;rw[ark _ _ (by omega)]
 simp only;rw[if_neg (by simp)]
 rcases a with rfl|a
 ·have z:j4 (.mk 0 0 [])=[]:=by decide
  rw[z,ayK,if_pos rfl]
 ·have z:j4 e=c9 e:=by unfold j4;rw[if_pos a]
  rw[z];have B:=ac1 a j.1;have H:(c9 e).length≠0:=by
   obtain⟨o,m,N⟩:=e;rw[Jt];simp only[Dx];have:=(rR o.toNat (by have:=j.1;cases this;omega)).1
   omega
  have L:o9 (c9 e)=0:=by unfold o9;rw[B]
  have M:pP (c9 e)=e:=by unfold pP;rw[B]
  rw[if_neg H,L,if_neg (by simp),M]
end Go.Proofs.YtemdgidnhgcafaaGreatDoor.Pk
