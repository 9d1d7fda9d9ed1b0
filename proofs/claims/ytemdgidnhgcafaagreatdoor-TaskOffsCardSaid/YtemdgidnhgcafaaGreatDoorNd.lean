/-
  What functions of the program do, told of abstract states. Conditions: as each theorem says.
-/
import Derived.Test.YtemdgidnhgcafaaGreatDoorNc
import Derived.Test.YtemdgidnhgcafaaGreatDoorNb
import Derived.Test.YtemdgidnhgcafaaGreatDoorAcD
import Derived.Shelf.SlSortCmp.WholeK
import Derived.Test.YtemdgidnhgcafaaGreatDoorProg
import Derived.Test.YtemdgidnhgcafaaGreatDoorNa
open Nat renaming le_trans->ajy,reduceEqDiff->ds,reduceAdd->AS,reduceLeDiff->By,zero_le->Dy,lt_of_lt_of_le->IS
open Go.Proofs.Tryz renaming prog->mc,func217->aFO,results217->aFP,underlying256->aBI,underlying259->aAD,underlying262->aBO,func113->aCk,results113->aCl,func198->aD9,results198->aEa,func199->aBJ,results199->aBK,func132->aBQ,results132->aFT,func97->aBR,func179->aFU,func203->aFV,func219->aFW,func180->aFX,func121->aEp,results121->aDp,func197->aEq,results197->aEr
open List renaming flatMap_append->azo,drop->aBc,filter_append->aAr,map_append->azp,mem_of_getElem?->azq,mem_filter->ajA,getElem?_eq_some_iff->are,take_succ_eq_append_getElem->azi,take_of_length_le->ajz,getElem?_eq_getElem->IA,append_nil->axX,length_map->axT,length_filter_le->azK,length_take_le->aBN,cons_append->azv,mem_map->OF,nodup_cons->azQ,mem_cons->Iz,filter_cons_of_neg->aAR,filter_eq_self->aBb,filter_cons_of_pos->aBa,contains_iff_mem->aCn,mem_append->ayN,filter_sublist->aAs,filter_filter->aA4,filter_congr->aAb,pairwise_map->azW,perm_ext_iff_of_nodup->aCj,length_append->Dx,length_cons->axW,length_nil->ayK,filter_nil->aEl,pairwise_cons->aze,mem_cons_self->aEm,Perm->aCi,mem_cons_of_mem->aAM,Pairwise->azV,isEmpty_eq_false_iff->aFQ,mergeSort_perm->aEo,map_map->azM,filter_eq_nil_iff->aAH,filter_map->aFS
open Bool renaming false_eq_true->azs,eq_iff_iff->azm,not_false->aBC,or_eq_false_iff->aBP,and_comm->aEh,not_eq_false'->aCo,true_and->azR,and_eq_false_iff->aEn,not_eq_true'->aAL,and_eq_true->ajC
open Int renaming reduceBEq->azX,tmod_eq_emod_of_nonneg->aAQ,reduceLE->aAi
open Option renaming isSome_iff_exists->aBZ
open Go renaming IntKind->aOT
set_option linter.unusedVariables false
set_option linter.unusedSimpArgs false
set_option maxHeartbeats 4000000
set_option maxRecDepth 20000
namespace Go.Proofs.YtemdgidnhgcafaaGreatDoor.Pk
open Go Go.Proofs Go.Proofs.YtemdgidnhgcafaaGreatDoor.Ab
theorem cu.after{h H:I}{v v':V}(d:cu H v v')(i:h.n<=H.n):cu h v v':=by
 rcases d with d|d
 ·exact .inl d
 ·exact .inr λq j=>ajy i (d q j)
theorem QY{h:I}{s:V}{cs:List an}(o:Own h 110 5 s (cs.flatMap aQ))(D:cs.length<=2^40)(c:an) :
  ∃a h',ki mc 52 52 s (.bg h.n 0 1 1) (h.push (.cells (aQ c) 110 none))=some (a,h')/\Own h' 110 5 a ((cs++[c]).flatMap aQ)/\J h h' (a7 s)/\cu h s a:=by
 have i:J h (h.push (.cells (aQ c) 110 none)) none_:=J.push _ _ _;have q:Own (h.push (.cells (aQ c) 110 none)) 110 5 (.bg h.n 0 1 1) (aQ c):=Own.e4 (aQ c) 1 rfl (by decide)
 have u:=tc (P:=mc) (t:=52) wF q (n:=1) rfl (by decide) (Ww c)
 obtain⟨a,h',z,A,B,C⟩:=sj (P:=mc) (t:=52) (tx:=52) Em (by decide) (o.ba i) u rfl (λm j=>by
  change m*5=_+5 at j;rw[fJ qh]at j;exact⟨by simp only[lim];omega,by simp only[lim];omega⟩)
 refine⟨a,h',z,?_,(i.up).trans' B,cu.after C i.n⟩;rw[azo];simpa using A
theorem adP(p:an)(r:List V):cJ (some (some 5)) (some (aQ p++r))=some (.agg (aQ p)):=be (qh p)
theorem WY(p:an):(if 5<=(aQ p).length then some (V.agg (List.take 5 (aQ p)))else none)=some (.agg (aQ p)):=rfl
theorem WZ(p:an):bA (some 5) (aR.cells [V.int .i64 0,V.int .i64 0,V.int .i64 0,V.int .i64 0,V.bool false] 110 none) 0 (aQ p)=some (.cells (aQ p) 110 none):=rfl
theorem W0(p:an):(V.agg (aQ p)).cells=some (aQ p):=rfl
theorem adQ(p:an):aBc 1 (aQ p)=[.int .i64 p.aX,.int .i64 p.to,.int .i64 p.val,.bool p.del]:=rfl
theorem adR(p:an):aBc 2 (aQ p)=[.int .i64 p.to,.int .i64 p.val,.bool p.del]:=rfl
theorem asy(c:an)(cs:List an)(p:an):((cs++[p]).filter (ce c)).map na=((cs.filter (ce c)).map na)++(if ce c p=true then [na p]else []):=by
 rw[aAr,azp];cases h:ce c p<;>simp[h]
theorem asz{g:Int}{l:List an}(i:fr l)(k t:Int){j:Nat}{p:an}(a:(found g l k t)[j]?=some p):p∈hj l ((found g l k t).take j):=by
 have m:fr (found g l k t):=i.filter _;have q:p∈found g l k t:=azq a;refine asb i (ajA.1 q).1 (λs=>?_) λy u=>(ajA.1 (List.mem_of_mem_take u)).1;have z:=(are.1 a).1;have e:found g l k t=(found g l k t).take j++p::(found g l k t).drop (j+1):=by
  have:=List.take_append_drop j (found g l k t);rw[List.drop_eq_getElem_cons z,(are.1 a).2]at this;exact this.symm
 rw[e]at m;exact absurd ((List.pairwise_append.1 m).2.2 p s p (by simp)) (GB (pq.2 ⟨rfl,rfl,rfl⟩))
theorem asA(h:I)(i:Nat)(v:V)(room g key time val:Int)(l:List an)(pS:nc time=true)(fH:found g l key time≠[]\/(l.length:Int)<room)(ax:found g l key time≠[]\/l.length<1024)(k:dI h i v room g l) :
  au mc 217 [.ptr i 0,.int .i64 key,.int .i64 time,.int .i64 val] h (λr h'=>∃v',r=.tuple [.af (jE g l key time val).length ((jE g l key time val).flatMap aQ),.int .i64 0]/\dI h' i v' room g (ui g l key time val)/\J h h' (oV i v)/\cu h v v'):=by
 refine au.cast ?_;refine bd aFO rfl ?_;have aw:=k.get;have kd:=k.vH h;have MQ:=adG.1 pS;have cQ:=k.lt;have fy:=k.g1;simp only[ae,ds,reduceCtorEq,Qn];refine bO (WN time h) ?_;simp only[ae,ds,reduceCtorEq,pS];refine bO (WX h i v room g key time l k) ?_;have MR:xL g l key time=found g l key time:=by rw[xL,if_pos pS]
 rw[MR];obtain⟨m,dg⟩:∃y,y=found g l key time:=⟨_,rfl⟩;have cM:m.length<=1024:=by rw[dg];have:=MP g l key time;have:=k.len;omega
 have d0:((m.length:Int)==0)=true->decide (room<=(l.length:Int))=false:=λbS=>decide_eq_false (by
  rcases fH with aJ|aJ
  ·exfalso;rw[<-dg]at aJ;have:m.length=0:=by simpa using bS
   exact aJ (List.eq_nil_of_length_eq_zero this)
  ·omega)
 have ax:(Aj g l key time).length<1024:=by
  have kf:=asg g l key time;have bk:=k.len;rcases ax with ax|ax
  ·have:0<(found g l key time).length:=List.length_pos_iff.2 ax;omega
  ·omega
 rw[<-dg];obtain⟨c,av⟩:∃y,y=fK g l key time val:=⟨_,rfl⟩;have HK:c.aX=kP time m:=by rw[av,dg];rfl
 have MS:c.to=ll time m:=by rw[av,dg];rfl
 have yd:c.key=key:=by rw[av];rfl
 have az:c.val=val:=by rw[av];rfl
 have aB:c.del=false:=by rw[av];rfl
 have W1:kO c:=by rw[av];exact WJ k.ok val MQ.1 MQ.2
 simp only[ae,ds];cases ak:((m.length:Int)==0)
 all_goals
  refine aS.cS none_ [] (.q 0 (.q 1 (.q 2 (.q 3 (.q 4 (.q 5 (.q 6 (.q 7 (.q 8 (.q 9 (.q 10 (.q 11 (.q 12 (.q 13 (.q 14 .done))))))))))))))) ?_;simp only[ae,bt,ds,AS,By,reduceCtorEq,abw,A8,wF,Gh,aY,ak,aw,kd,d0];refine aS.bI (α:=Nat) (λt f h'=>f 0=.ptr i 0/\f 1=.int .i64 key/\f 3=.int .i64 val/\f 10=.af m.length (m.flatMap aQ)/\f 11=.int .i64 (kP time (m.take t))/\f 12=.int .i64 (ll time (m.take t))/\f 46=.af m.length (m.flatMap aQ)/\f 47=.int .i64 (m.length:Nat)/\f 48=.int .i64 (t:Nat)/\t<=m.length/\J h h' none_) (λt=>m.length-t) 0
   ⟨rfl,rfl,rfl,rfl,rfl,rfl,rfl,rfl,rfl,Dy _,J.refl _ _⟩ ?_
  rintro t f F ⟨f0,f1,f3,ah,z,A,aq,aa,ad,bB,bx⟩
  refine wpS ?_;by_cases M:t<m.length
  ·have d1:=dV (a:=t) (b:=m.length) (by omega)
   have hw:=mQ M (by omega)
   have bV:=Wx (kk:=.i64) M;have mT:m.take (t+1)=m.take t++[m[t]]:=azi M;have W:=asc time (m.take t) m[t];have wi:=asd time (m.take t) m[t];rw[<-mT]at W wi;generalize m[t]=p at bV mT W wi;have ld:=adP p;have lk:=WY p;have st:=WZ p;have cc:=W0 p;have bf:=adQ p;have bu:=adR p;simp only[ae,ds,ou,oR,qS,aq,aa,ad,d1,bV,ld,st,cc];refine aS.cS none_ [] (.q 0 (.q 1 (.q 2 (.q 3 (.q 4 (.q 5 (.q 6 (.q 7 (.q 8 (.q 9 .done)))))))))) ?_;simp only[ae,bt,ds,By,A6,LC,bR,z,A,ad,bf,bu,qh,hw];exact ar ⟨t+1,⟨f0,f1,f3,ah,by rw[W];rfl,by rw[wi];rfl,aq,aa,rfl,M,bx.bp _⟩,by omega⟩
  ·have d1:=eC (a:=t) (b:=m.length) (by omega)
   rw[ajz (by omega)]at z A
   rw[<-HK]at z;rw[<-MS]at A;simp only[ae,ds,wF,ah,aa,ad,d1];have aG:=k.ba bx;refine aS.bI (α:=Nat×V×V) (λx f h'=>f 0=.ptr i 0/\f 1=.int .i64 key/\f 3=.int .i64 val/\f 11=.int .i64 c.aX/\f 12=.int .i64 c.to/\f 15=x.2.2/\f 61=.af m.length (m.flatMap aQ)/\f 62=.int .i64 (m.length:Nat)/\f 63=.int .i64 (x.1:Nat)/\x.1<=m.length/\dI h' i x.2.1 room g (hj l (m.take x.1)) /\
     Own h' 110 5 x.2.2 ((((m.take x.1).filter (ce c)).map na).flatMap aQ)/\J h h' (oV i v)/\cu h v x.2.1/\(∀j,aU x.2.2=some j->h.n<=j/\aU x.2.1≠some j)) (λx=>m.length-x.1) (0,v,.ag)
    ⟨f0,f1,f3,z,A,rfl,rfl,rfl,rfl,Dy _,by rw[List.take_zero,adw];exact aG,Own.ag _ _ _,bx.up,.inl rfl,by simp[aU]⟩ ?_
   rintro⟨t,v1,s⟩ f F ⟨f0,f1,f3,z,A,N,X,O,L,bB,R,os,kk,C,Y⟩
   simp only at N L bB R os C Y;refine wpS ?_;by_cases M:t<m.length
   ·have d1:=dV (a:=t) (b:=m.length) (by omega)
    have hw:=mQ M (by omega)
    have bV:=Wx (kk:=.i64) M;have mT:m.take (t+1)=m.take t++[m[t]]:=azi M;have aW:m[t]?=some m[t]:=IA M;have pB:=asa l (m.take t) m[t];have Q:=asy c (m.take t) m[t];rw[<-mT]at pB Q;have W2:∀p,m[t]?=some p->p∈hj l (m.take t):=by
     rw[dg];exact λp aW=>asz k.nb key time aW
    have GH:=W2 _ aW;generalize m[t]=p at bV mT aW pB Q GH;have gC:kO p:=R.ok p GH;have ld:=adP p;have lk:=WY p;have st:=WZ p;have cc:=W0 p;have bf:=adQ p;have bu:=adR p;obtain⟨H,hH⟩:∃y,y=(F.push (.cells (aQ p) 110 none)).push (.cells (bJ p) 308 none):=⟨_,rfl⟩;have GI:H.get F.n=.cells (aQ p) 110 none:=by rw[hH];exact yL
    have EJ:H.get (F.n+1)=.cells (bJ p) 308 none:=by rw[hH];exact zA
    have bo:J F H none_:=by rw[hH];exact(J.push _ _ _).bp _
    have ib:H.n=F.n+2:=by rw[hH];rfl
    have MT:=R.ba bo;have MU:=WU p;have aI:=WV p;have aV:=WW p;simp only[ae,ds,ou,oR,qS,X,O,L,d1,bV,ld,lk,st,cc];refine bO (adF p _) ?_;simp only[ae,ds,reduceCtorEq,mU,QA,QE,f0,aI,aV,MU];rw[<-hH];clear hH;refine cA (asu H i v1 room g _ p gC (adu GH) MT) λr aC ⟨S,Z,T,B⟩=>?_;rw[<-pB]at Z;have C1:∀q,aU v1=some q->q<F.n:=λq D=>R.own.lt q D;have zL:=R.lt;have MV:=(T.get F.n (by omega) (by rintro(U|U);omega;have:=C1 _ U;omega)).trans GI
    have SF:=(T.get (F.n+1) (by omega) (by rintro(U|U);omega;have:=C1 _ U;omega)).trans EJ
    have W3:=T.n;have gb:∀j,aU s=some j->j<F.n:=λj u=>os.lt j u;have EK:=(os.ba bo).ai T (λj u U=>by
     rcases U with U|U
     ·have:=(Y j u).1;omega
     ·exact(Y j u).2 U)
    have ez:J h aC (oV i v):=((kk.trans' bo.up).trans T λq D U=>by
     rcases U with U|U
     ·exact .inl U
     ·rcases C with C|C
      ·exact .inr (by show aU v=some q;rw[<-C];exact U)
      ·have:=C q U;omega)
    have EL:cu h v S:=by
     rcases B with B|B
     ·rcases C with C|C
      ·exact .inl (B.trans C)
      ·exact .inr λq D=>C q (by rw[<-B];exact D)
     ·exact .inr λq D=>by have:=B q D;have:=kk.n;omega
    have G:∀j,aU s=some j->h.n<=j/\aU S≠some j:=λj u=>by
     refine⟨(Y j u).1,λU=>?_⟩;rcases B with B|B
     ·rw[B]at U;exact(Y j u).2 U
     ·have:=B j U;have:=gb j u;omega
    cases ay:(p.aX !=c.aX)
    ·cases bc:(p.to !=c.to)
     ·have aO:ce c p=false:=by
       simp at ay bc;simp[ce,ay,bc]
      rw[aO]at Q;simp only[azs,if_false,axX]at Q;simp only[ae,ds,By,A6,LC,bR,z,A,L,MV,bf,bu,qh,ay,bc,hw];exact ar ⟨(t+1,S,s),⟨f0,f1,f3,z,A,N,X,O,rfl,M,Z,by simp only;rw[Q];exact EK,ez,EL,G⟩,by simp only;omega⟩
     ·have aO:ce c p=true:=by
       simp at ay bc;simp[ce,ay,bc]
      rw[aO,if_pos rfl]at Q;obtain⟨cv,bn,W,qX,cx,E⟩:=QY EK (by simp only[axT];have:=azK (ce c) (m.take t);have:=aBN t m;omega) (na p)
      have gk:=MO aC (na p);simp only[ae,ds,By,A6,LC,bR,mU,z,A,N,MV,SF,bf,bu,qh,MU,ay,bc];refine bO (WM p gC _) ?_;simp only[ae,ds,L,gk,W,hw];refine ar ⟨(t+1,S,cv),⟨f0,f1,f3,z,A,rfl,X,O,rfl,M,Z.ai cx (λU=>?_) (λj u U=>(G j U).2 u),by simp only;rw[Q];exact qX,ez.trans cx λq D U=>?_,EL,λj u=>?_⟩,by simp only;omega⟩
      ·have:=(G i U).1;omega
      ·have:=(G q U).1;omega
      ·rcases E with E|E
       ·rw[E]at u;exact G j u
       ·have bM:=E j u;have dh:=ez.n;exact⟨by omega,λU=>by have:=Z.own.lt j U;omega⟩
    ·have aO:ce c p=true:=by
      simp at ay;simp[ce,ay]
     rw[aO,if_pos rfl]at Q;obtain⟨cv,bn,W,qX,cx,E⟩:=QY EK (by simp only[axT];have:=azK (ce c) (m.take t);have:=aBN t m;omega) (na p)
     have gk:=MO aC (na p);simp only[ae,ds,By,A6,bR,mU,z,N,MV,SF,bf,qh,MU,ay];refine bO (WM p gC _) ?_;simp only[ae,ds,L,gk,W,hw];refine ar ⟨(t+1,S,cv),⟨f0,f1,f3,z,A,rfl,X,O,rfl,M,Z.ai cx (λU=>?_) (λj u U=>(G j U).2 u),by simp only;rw[Q];exact qX,ez.trans cx λq D U=>?_,EL,λj u=>?_⟩,by simp only;omega⟩
     ·have:=(G i U).1;omega
     ·have:=(G q U).1;omega
     ·rcases E with E|E
      ·rw[E]at u;exact G j u
      ·have bM:=E j u;have dh:=ez.n;exact⟨by omega,λU=>by have:=Z.own.lt j U;omega⟩
   ·have d1:=eC (a:=t) (b:=m.length) (by omega)
    rw[ajz (by omega)]at R os
    have h5:hj l m=Aj g l key time:=by rw[dg];exact adx k.nb _
    rw[h5]at R;have Kz:(Aj g l key time).length<1024:=ax;have aZ:ev (Aj g l key time) c=false:=by rw[av];exact adz (by omega) l key time val
    have lk:=WY c;have st:=WZ c;have cc:=W0 c;have bg:(V.agg [.int .i64 key,.int .i64 c.aX,.int .i64 c.to,.int .i64 val,.bool false])=.agg (aQ c):=by unfold aQ;rw[yd,az,aB]
    obtain⟨H,hH,bo,jD,ib⟩:=b0 F (.cells (aQ c) 110 none);have MT:=R.ba bo;simp only[ae,ds,AS,By,reduceCtorEq,ou,Bb,oR,qS,f0,f1,f3,z,A,O,L,d1,bg,st,cc,lk];rw[<-hH];clear hH;refine bO (adF c _) ?_;simp only[ae,ds];refine cA (asv H i v1 room g _ c W1 aZ Kz MT) λr aC ⟨S,Z,T,B⟩=>?_;have C1:∀q,aU v1=some q->q<F.n:=λq D=>R.own.lt q D;have zL:=R.lt;have bh:=(T.get F.n (by omega) (by rintro(U|U);omega;have:=C1 _ U;omega)).trans jD
    have W3:=T.n;have gb:∀j,aU s=some j->j<F.n:=λj u=>os.lt j u;have EK:=(os.ba bo).ai T (λj u U=>by
     rcases U with U|U
     ·have:=(Y j u).1;omega
     ·exact(Y j u).2 U)
    have ez:J h aC (oV i v):=((kk.trans' bo.up).trans T λq D U=>by
     rcases U with U|U
     ·exact .inl U
     ·rcases C with C|C
      ·exact .inr (by show aU v=some q;rw[<-C];exact U)
      ·have:=C q U;omega)
    have EL:cu h v S:=by
     rcases B with B|B
     ·rcases C with C|C
      ·exact .inl (B.trans C)
      ·exact .inr λq D=>C q (by rw[<-B];exact D)
     ·exact .inr λq D=>by have:=B q D;have:=kk.n;omega
    have G:∀j,aU s=some j->h.n<=j/\aU S≠some j:=λj u=>by
     refine⟨(Y j u).1,λU=>?_⟩;rcases B with B|B
     ·rw[B]at U;exact(Y j u).2 U
     ·have:=B j U;have:=gb j u;omega
    obtain⟨cv,bn,W,qX,cx,E⟩:=QY EK (by simp only[axT];have:=azK (ce c) m;omega) c
    have gk:=MO aC c;simp only[ae,ds,ou,N,bh,lk,gk,W,aP,aFP,da];have bj:=Z.ai cx (λU=>by have:=(G i U).1;omega) (λj u U=>(G j U).2 u)
    have mq:J h bn (oV i v):=ez.trans cx λq D U=>by have:=(G q U).1;omega
    have MW:∀j,aU cv=some j->h.n<=j/\aU S≠some j:=λj u=>by
     rcases E with E|E
     ·rw[E]at u;exact G j u
     ·have bM:=E j u;have dh:=ez.n;exact⟨by omega,λU=>by have:=Z.own.lt j U;omega⟩
    have Q:((m.filter (ce c)).map na)++[c]=jE g l key time val:=by rw[av,dg];rfl
    rw[Q]at qX;obtain⟨bM,c5,dQ⟩:=aF.own qX (n:=(jE g l key time val).length) (fJ qh _) (by decide)
    refine ar ⟨_,bM,aF.tuple (aA.cons c5 (aA.refl _ _)),S,rfl,?_,mq.trans dQ λq D U=>by have:=(MW q U).1;omega,EL⟩
    have:=bj.ai dQ (λU=>by have:=(MW i U).1;omega) (λj u U=>(MW j U).2 u)
    rw[av]at this;exact this
theorem W4(i:Nat):jg mc (.iface 259 (.ptr i 0)) 256 true=some (.tuple [.dx,.bool false]):=by
 unfold jg;rw[aBI];rfl
theorem W5(i:Nat):jg mc (.iface 259 (.ptr i 0)) 259 true=some (.tuple [.ptr i 0,.bool true]):=by
 unfold jg;rw[aAD];rfl
theorem W6(i:Nat):jg mc (.iface 262 (.ptr i 0)) 256 true=some (.tuple [.dx,.bool false]):=by
 unfold jg;rw[aBI];rfl
theorem W7(i:Nat):jg mc (.iface 262 (.ptr i 0)) 259 true=some (.tuple [.dx,.bool false]):=by
 unfold jg;rw[aAD];rfl
theorem W8(i:Nat):jg mc (.iface 262 (.ptr i 0)) 262 true=some (.tuple [.ptr i 0,.bool true]):=by
 unfold jg;rw[aBO];rfl
theorem ej.ai{h h':I}{i m cl:Nat}{room size:Int}{es:List (Nat×V×V)}{M:Nat->Prop}(k:ej h i m room size es cl)(j:J h h' M)(s:¬M i)(u:¬M m):ej h' i m room size es cl :=
 ⟨(j.get i k.lt s).trans k.get,(j.get m k.qY u).trans k.map,k.ne,IS k.lt j.n,IS k.qY j.n,k.s1,k.s2⟩
theorem asB(x:bz)(a:x.kind=7)(s:1<=x.n)(u:x.n<=1048576)(h:I):au mc 113 [.agg (al x)] h (λr h'=>∃i,r=.tuple [.iface 259 (.ptr i 0),.int .i64 0]/\J h h' none_/\∃m,h.n<=i/\h.n<=m/\ej h' i m 1024 x.n [] 0):=by
 refine bd aCk rfl ?_;obtain⟨z,j,⟨o,m,q⟩,n⟩:=x;have a:z=7:=a;subst a;have a:al ⟨7,j,.mk o m q,n⟩=[.int .i64 7,.af j.length (ao j),.int .i64 o,.int .i64 m,.af q.length (q.flatMap aH),.int .i64 n]:=by simp[al,l3]
 rw[a];have A:J h (h.push (.cells [.int .i64 7,.af j.length (ao j),.int .i64 o,.int .i64 m,.af q.length (q.flatMap aH),.int .i64 n] 68 none)) none_:=J.push _ _ _;simp only[ae,azX,ds,AS,By,hb,i6,bR,aY];refine cA (arX _ 1024 n (by decide) (by decide) s u) λr s ⟨ay,B,C⟩=>?_
 subst ay;simp only[ae,ds,apO,aP,aCl,da];exact ar ⟨h.n+1+1,rfl,A.trans' C,h.n+1,by omega,by omega,B⟩
theorem asC(x:bz)(a:x.kind=8)(s:1<=x.n)(u:x.n<=1048576)(h:I):au mc 113 [.agg (al x)] h (λr h'=>∃i,r=.tuple [.iface 262 (.ptr i 0),.int .i64 0]/\J h h' none_/\h.n<=i/\dI h' i .ag 1024 x.n []):=by
 refine bd aCk rfl ?_;obtain⟨z,j,⟨o,m,q⟩,n⟩:=x;have a:z=8:=a;subst a;have a:al ⟨8,j,.mk o m q,n⟩=[.int .i64 8,.af j.length (ao j),.int .i64 o,.int .i64 m,.af q.length (q.flatMap aH),.int .i64 n]:=by simp[al,l3]
 rw[a];have A:J h (h.push (.cells [.int .i64 8,.af j.length (ao j),.int .i64 o,.int .i64 m,.af q.length (q.flatMap aH),.int .i64 n] 68 none)) none_:=J.push _ _ _;simp only[ae,azX,ds,AS,By,hb,i6,bR,aY];refine cA (asw 1024 n (by decide) (by decide) s u _) λr s ⟨ay,bc⟩=>?_
 subst ay bc;simp only[ae,ds,apP,aP,aCl,da];exact ar ⟨_,rfl,A.trans' (J.push _ _ _),by omega,dI.new s u⟩
theorem asD{h:I}{i m cl:Nat}{room size:Int}{l:e6}(k:ej h i m room size (j6 l) cl)(r:Rec)(s:0<=r.t)(u:r.t<=1099511627776):Pure mc 198 [.iface 259 (.ptr i 0),.agg (aK r)] h (.int .i64 ((bQ l (r.k,eH size r.t)).getD 0)):=by
 refine Pure.val (a8.int _ _) ?_;obtain⟨a,z,j⟩:=r;refine bd aD9 rfl ?_;unfold aK;have q:J h (h.push (.cells [.int .i64 a,.int .i64 z,.int .i64 j] 45 none)) none_:=J.push _ _ _;simp only[ae,ds,AS,By,reduceCtorEq,vx,td,bR,W4,W5];refine bO (ar3 _ i m cl room size a j l (k.ba q) s u) ?_;simp only[ae,ds,aP,aEa,ac];exact ar ⟨rfl,q⟩
theorem asE{h:I}{i m cl:Nat}{room size:Int}{l:e6}(k:ej h i m room size (j6 l) cl)(r:Rec)(n:Int)(M:0<=r.t)(N:r.t<=1099511627776)(O:(bQ l (r.k,eH size r.t)).isSome=true\/(l.length:Int)<room) :
  au mc 199 [.iface 259 (.ptr i 0),.agg (aK r),.int .i64 n] h (λq h'=>∃j,q=.tuple [.bg j 0 1 1,.int .i64 (eH size r.t),.int .i64 0]/\ej h' i m room size (j6 (cz cl l (r.k,eH size r.t) n)) (eY cl l (r.k,eH size r.t))/\J h h' (λq=>q=m) /\
   Own h' 110 5 (.bg j 0 1 1) (aQ ⟨r.k,eH size r.t,eH size r.t+size,n,false⟩)/\h.n<=j):=by
 obtain⟨u,Q,a⟩:=r;refine bd aBJ rfl ?_;unfold aK;obtain⟨H,hH,A,g0,ox⟩:=b0 h (.cells [.int .i64 u,.int .i64 Q,.int .i64 a] 45 none);simp only[ae,ds,AS,By,reduceCtorEq,vx,td,bR,W4,W5];rw[<-hH];clear hH;have ga:=k.qY;refine cA (ar0 H i m cl room size u a n l (k.ba A) O M N) λq R ⟨ay,S,B⟩=>?_;subst ay;obtain⟨C,D⟩:∃y,y=(⟨u,eH size a,eH size a+size,n,false⟩:an):=⟨_,rfl⟩;rw[<-D];have z:C.aX=eH size a:=by rw[D]
 have cc:∀c:an,(V.agg (aQ c)).cells=some (aQ c):=λ_=>rfl;have T:∀c:an,bA (some 5) (aR.cells [V.int .i64 0,V.int .i64 0,V.int .i64 0,V.int .i64 0,V.bool false] 110 none) 0 (aQ c)=some (.cells (aQ c) 110 none):=λ_=>rfl;obtain⟨s,F,G,W,dd⟩:=b0 R (.cells (aQ C) 110 none);simp only[ae,ds,oR,qS,cc,T];rw[<-F];clear F;have X:=MB s C;have Y:cJ (some (some 5)) (some (aQ C))=some (.agg (aQ C)):=rfl;have Z:cO (.cells (aQ C) 110 none) 0=some (aQ C):=rfl;have d1:cO (.cells (aQ C) 110 none) 1=some [.int .i64 (eH size a),.int .i64 C.to,.int .i64 C.val,.bool C.del]:=by rw[<-z];rfl
 have MC:(aQ C).length=5:=rfl;have wo:=B.n;generalize bN:aQ C=E at *;refine aS.cS none_ [1] (.q 0 (.q 2 (.q 3 (.q 4 (.e 1 (.q 5 (.q 6 (.q 7 .done))) .stop))))) ?_;simp only[ae,bt,ds,A6,ou,bR,W,X,Y,Z,d1,aP,aBK,xx];have L:J s (s.push (.cells E 110 none)) none_:=J.push _ _ _;refine ar ⟨s.n,rfl,(S.ba G).ba L,((A.up).trans' B).trans' ((G.trans' L).up),Own.e4 _ 1 MC (by decide),by omega⟩
def qZ(cs:List an):Int:=cs.foldl (λa c=>mo (a+c.val)) 0
theorem asG(cs:List an)(c:an):qZ (cs++[c])=mo (qZ cs+c.val):=by simp[qZ,List.foldl_append]
theorem W9{l:List an}{k:Nat}{kk:aOT}(h:k<l.length):∃r,gP mc 52 (.af l.length (l.flatMap aQ)) (.int kk (k:Int))=some (.at (aQ l[k]++r)) :=
 P4 qh rfl (IA h) Qv
theorem asH{h:I}{i:Nat}{v:V}{room g:Int}{l:List an}(k:dI h i v room g l)(r:Rec):Pure mc 198 [.iface 262 (.ptr i 0),.agg (aK r)] h (.int .i64 (qZ (xL g l r.k r.t))):=by
 refine Pure.val (a8.int _ _) ?_;obtain⟨q,Q,s⟩:=r;refine bd aD9 rfl ?_;unfold aK;have kk:J h (h.push (.cells [.int .i64 q,.int .i64 Q,.int .i64 s] 45 none)) none_:=J.push _ _ _;simp only[ae,ds,AS,By,reduceCtorEq,vx,td,bR,W6,W7,W8];refine bO (WX _ i v room g q s l (k.ai kk (by simp[none_]) (by simp[none_]))) ?_
 have G:(xL g l q s).length<=1024:=by
  unfold xL;split
  ·exact ajy (MP g l q s) k.len
  ·exact Dy _
 show _;generalize xL g l q s=j at *;simp only[ae,ds,wF];refine aS.bI (α:=Nat) (λx f h'=>f 42=.af j.length (j.flatMap aQ)/\f 43=.int .i64 (j.length:Nat)/\f 5=.int .i64 (qZ (j.take x))/\f 44=.int .i64 (x:Nat)/\x<=j.length/\J h h' none_) (λx=>j.length-x) 0
  ⟨rfl,rfl,rfl,rfl,Dy _,kk⟩ ?_
 rintro t f h' ⟨u,m,H,z,W,L⟩
 refine wpS ?_;by_cases C:t<j.length
 ·have D:=dV (a:=t) (b:=j.length) (by omega)
  have R:=mQ C (by omega)
  obtain⟨X,E⟩:=W9 (kk:=.i64) C;have M:qZ (j.take (t+1))=mo (qZ (j.take t)+j[t].val):=by rw[azi C,asG]
  generalize j[t]=c at E M;obtain⟨N,O,A,F,B⟩:=c;simp only[ae,abh,Qv,aQ]at E;have S:aOT.i64.wrap (qZ (j.take t)+F)=qZ (j.take (t+1)):=M.symm;have T:bA (some 5) (aR.cells [V.int .i64 0,V.int .i64 0,V.int .i64 0,V.int .i64 0,V.bool false] 110 none) 0 [.int .i64 N,.int .i64 O,.int .i64 A,.int .i64 F,.bool B]=some (.cells [.int .i64 N,.int .i64 O,.int .i64 A,.int .i64 F,.bool B] 110 none):=rfl;simp only[ae,ds,AS,By,abh,Vu,ou,bR,Qv,oR,qS,u,m,H,z,D,E,T,S,R];exact ar ⟨t+1,⟨u,m,rfl,rfl,by omega,L.bp _⟩,by omega⟩
 ·have D:=eC (a:=t) (b:=j.length) (by omega)
  simp only[ae,ds,reduceCtorEq,m,H,z,D,aP,aEa,ac];exact ar ⟨by rw[ajz (by omega)],L⟩
theorem asI{h:I}{i:Nat}{v:V}{g:Int}{l:List an}(k:dI h i v 1024 g l)(r:Rec)(n:Int)(B:nc r.t=true)(u:found g l r.k r.t≠[]\/l.length<1024) :
  au mc 199 [.iface 262 (.ptr i 0),.agg (aK r),.int .i64 n] h (λq h'=>∃v',q=.tuple [.af (jE g l r.k r.t n).length ((jE g l r.k r.t n).flatMap aQ),.int .i64 (fK g l r.k r.t n).aX,.int .i64 0]/\dI h' i v' 1024 g (ui g l r.k r.t n)/\J h h' (oV i v)/\cu h v v'):=by
 obtain⟨a,C,j⟩:=r;refine bd aBJ rfl ?_;unfold aK;obtain⟨H,hH,z,_,O⟩:=b0 h (.cells [.int .i64 a,.int .i64 C,.int .i64 j] 45 none);simp only[ae,ds,AS,By,reduceCtorEq,vx,td,bR,W6,W7,W8];rw[<-hH];clear hH;refine cA (asA H i v 1024 g a j n l B (u.imp id λq=>by omega) u (k.ai z (by simp[none_]) (by simp[none_]))) λq Q ⟨v',ay,D,E,F⟩=>?_
 subst ay;have G:=MP g l a j;have R:=k.len;have L:(jE g l a j n).length=((found g l a j).filter (ce (fK g l a j n))).length+1:=by simp[jE]
 have M:=azK (ce (fK g l a j n)) (found g l a j);have A:(jE g l a j n)[(jE g l a j n).length-1]'(by omega)=fK g l a j n:=by
  simp[jE]
 have s:aOT.i64.wrap (((jE g l a j n).length:Int)-1)=(((jE g l a j n).length-1:Nat):Int):=by rw[Go.IntWalk.i64_in _ (by omega)];omega
 obtain⟨S,m⟩:=W9 (l:=jE g l a j n) (k:=(jE g l a j n).length-1) (kk:=.i64) (by omega)
 rw[A]at m;clear A L M G;have N:aQ (fK g l a j n)=[.int .i64 (fK g l a j n).key,.int .i64 (fK g l a j n).aX,.int .i64 (fK g l a j n).to,.int .i64 (fK g l a j n).val,.bool (fK g l a j n).del]:=rfl;rw[N]at m;simp only[azv,List.nil_append]at m;generalize W:jE g l a j n=X at *;simp only[ae,ds];refine aS.cS none_ [] (.q 0 (.q 1 (.q 2 (.q 3 (.q 4 (.q 5 (.q 6 (.q 7 (.q 8 (.q 9 (.q 10 .done))))))))))) ?_;simp only[ae,bt,ds,By,A6,wF,bR,s,m,aP,aBK,xx];exact ar ⟨v',rfl,D,(z.up).trans' E,cu.later F (by omega)⟩
def q0(a b:an):Bool:=decide (a.aX<b.aX\/(a.aX=b.aX/\a.key<b.key))
def C3(l:List an):Prop:=l.Pairwise λa b=>q0 b a=false
def ad3(i:V):Prop:=∀(h:I) (x:V) (l:List an),Own h 110 5 x (l.flatMap aQ)->l.length<=2^40 ->
 au mc 179 [x,i] h (λr h'=>r=.tuple []/\J h h' (a7 x)/\∃a,a.Perm l/\C3 a/\Own h' 110 5 x (a.flatMap aQ))
abbrev SG:V:=.func (.func 180) [] []
def vJ(size:Int)(e:Nat×(Int×Int)×Int):an:=⟨e.2.1.1,e.2.1.2,e.2.1.2+size,e.2.2,false⟩
theorem ad4{l:e6}{e:Nat×V×V}(h:e∈j6 l):∃x∈l,e=(x.1,yn x.2.1,.int .i64 x.2.2):=by
 obtain⟨x,a,rfl⟩:=OF.1 h;exact⟨x,a,rfl⟩
theorem ad5(l:e6):(j6 l).map (·.1)=l.map (·.1):=by simp[j6,dz]
theorem QZ:∀{q:e6},(q.map (·.1)).Nodup->∀{x y},x∈q->y∈q->x.1=y.1->x=y
 | [],_,x,y,j,_,_=>by cases j
 | z::q,u,x,y,j,s,e=>by
  have m:=azQ.1 u;rcases Iz.1 j with i|i
  ·rcases Iz.1 s with a|a
   ·rw[i,a]
   ·exact absurd (OF.2 ⟨y,a,by rw[<-e,i]⟩) m.1
  ·rcases Iz.1 s with a|a
   ·exact absurd (OF.2 ⟨x,i,by rw[e,a]⟩) m.1
   ·exact QZ m.2 i a e
def lP(size before:Int)(e:Nat×(Int×Int)×Int):Bool:=decide (e.2.1.2+size<=before)
def Bj(size:Int)(e:Nat×(Int×Int)×Int):an:=⟨e.2.1.1,e.2.1.2,e.2.1.2+size,0,true⟩
def q1(size before:Int)(l a:e6):e6:=l.filter λe=>!(lP size before e&&(a.map (·.1)).contains e.1)
theorem ad6:∀{l:e6},c1 l->∀k,im l k=l.filter λe=>decide (e.2.1≠k)
 | [],_,k=>rfl
 | e::l,j,k=>by
  have i:=azQ.1 j;unfold im;by_cases a:k=e.2.1
  ·rw[if_pos a,aAR (by simp[a])]
   symm;rw[aBb];intro y m;simp only[decide_eq_true_eq];exact λU=>i.1 (OF.2 ⟨y,m,by rw[U,a]⟩)
  ·rw[if_neg a,aBa (by simp[Ne.symm a]),ad6 i.2]
theorem key_inj:∀{q:e6},c1 q->∀{x y},x∈q->y∈q->x.2.1=y.2.1->x=y
 | [],_,x,y,j,_,_=>by cases j
 | z::q,u,x,y,j,s,e=>by
  have m:=azQ.1 u;rcases Iz.1 j with i|i
  ·rcases Iz.1 s with a|a
   ·rw[i,a]
   ·exact absurd (OF.2 ⟨y,a,by rw[<-e,i]⟩) m.1
  ·rcases Iz.1 s with a|a
   ·exact absurd (OF.2 ⟨x,i,by rw[e,a]⟩) m.1
   ·exact key_inj m.2 i a e
theorem ad7{a:e6}{x e:Nat×(Int×Int)×Int}(h:e.1≠x.1):((a++[x]).map (·.1)).contains e.1=(a.map (·.1)).contains e.1:=by
 rw[azm,aCn,aCn,azp,ayN];simp[h]
theorem asJ{size before:Int}{l i:e6}{x:Nat×(Int×Int)×Int}(j:c1 l)(s:(l.map (·.1)).Nodup)(m:x∈l)(u:lP size before x=true):im (q1 size before l i) x.2.1=q1 size before l (i++[x]):=by
 unfold q1;rw[ad6 (List.Nodup.sublist ((aAs).map _) j),aA4];apply aAb;intro e q;by_cases a:e=x
 ·subst a;simp[u]
 ·have z:e.2.1≠x.2.1:=λU=>a (key_inj j q m U);have A:e.1≠x.1:=λU=>a (QZ s q m U);rw[ad7 A];simp[z]
theorem asK{size before:Int}{l i:e6}{x:Nat×(Int×Int)×Int}(j:(l.map (·.1)).Nodup)(m:x∈l)(q:lP size before x=false):q1 size before l i=q1 size before l (i++[x]):=by
 unfold q1;apply aAb;intro e s;by_cases a:e=x
 ·subst a;simp[q]
 ·have u:e.1≠x.1:=λU=>a (QZ j s m U);rw[ad7 u]
theorem asL{size before:Int}{l a:e6}(u:(l.map (·.1)).Nodup)(s:∀e∈q1 size before l a,e.1∈a.map (·.1)):q1 size before l a=l.filter (λe=>!lP size before e)/\∀e∈l,lP size before e=true->e.1∈a.map (·.1):=by
 have m:∀e∈l,lP size before e=true->e.1∈a.map (·.1):=λe i j=>by
  apply Classical.byContradiction;intro q;have av:(a.map (·.1)).contains e.1=false:=by simpa using q
  exact q (s e (ajA.2 ⟨i,by rw[j,av];rfl⟩))
 refine⟨?_,m⟩;unfold q1;apply aAb;intro e i;cases j:lP size before e
 ·rfl
 ·have av:(a.map (·.1)).contains e.1=true:=by simpa using m e i j
  rw[av];rfl
theorem asM{size before:Int}{l i:e6}(m:(l.map (·.1)).Nodup)(s:(i.map (·.1)).Nodup)(q:∀e∈i,e∈l)(u:∀e∈l,lP size before e=true->e.1∈i.map (·.1)):(i.filter (lP size before)).Perm (l.filter (lP size before)):=by
 have z:l.Nodup:=(azW.1 m).imp λh e=>h (by rw[e])
 have A:i.Nodup:=(azW.1 s).imp λh e=>h (by rw[e])
 rw[aCj (A.sublist aAs) (z.sublist aAs)];intro a;simp only[ajA];refine⟨λ⟨aT,j⟩=>⟨q a aT,j⟩,λ⟨aT,j⟩=>⟨?_,j⟩⟩;obtain⟨b,ak,B⟩:=OF.1 (u a aT j);rw[<-QZ m (q b ak) aT B];exact ak
theorem asN(h:I)(i m cl:Nat)(room size key j:Int)(es:List (Nat×V×V))(k:ej h i m room size es cl)(D:0<=j)(E:j<=2^41):Pure mc 178 [.ptr i 0,Bf key j] h (.agg (aQ ⟨key,j,j+size,0,true⟩)):=by
 refine Pure.val (a8.agg (CQ _)) ?_;refine bd Tryz.func178 rfl ?_;have s:=k.get;have u:=k.lt;have z:∀A B,((h.push A).push B).get i=.cells [.int .i64 room,.int .i64 size,.map m] 287 none:=λA B=>(iP (by simp only[df];omega)).trans ((iP u).trans s)
 have C:aOT.i64.wrap (j+size)=j+size:=Go.IntWalk.i64_in _ (by have:=k.s1;have:=k.s2;omega)
 simp only[ae,oR,adn];refine aS.cS none_ [12] (.q 0 (.q 1 (.q 2 (.q 3 (.q 4 (.q 5 (.q 6 (.q 7 (.q 8 (.q 9 (.q 10 (.q 11 (.a 12 .done))))))))))))) ?_;simp only[ae,bt,ds,AS,By,reduceCtorEq,Jg,abx,Qg,ou,bR,Bb,oR,qS,z,C,aP,Tryz.results178,tb,fq];exact ar ⟨rfl,(J.push _ _ _).bp _⟩
theorem asO(aq:ad3 SG)(h:I)(i m cl:Nat)(room size before:Int)(l:e6)(k:ej h i m room size (j6 l) cl)(aa:eg (j6 l) cl)(tv:c1 l)(ax:l.length<=2^30)(az:∀e∈l,0<=e.2.1.2/\e.2.1.2<=2^41) :
  au mc 157 [.ptr i 0,.int .i64 before] h (λr h'=>J h h' (λq=>q=m)/\ej h' i m room size (j6 (l.filter λe=>!lP size before e)) cl /\
   ∃M,M.Perm ((l.filter (lP size before)).map (Bj size))/\C3 M/\Own h' 110 5 r (M.flatMap aQ)/\(∀j,aU r=some j->h.n<=j)):=by
 refine bd Tryz.func157 rfl ?_;have qg:=k.get;have gx:=k.map;have N:(l.map (·.1)).Nodup:=by rw[<-ad5];exact aa.2
 simp only[ae,ds,reduceCtorEq];refine bO (QP h i m cl room size _ k) ?_;obtain⟨q,ab⟩:=arZ;have nf:=KE ab gx;simp only[ae,ds,AS,By,reduceCtorEq,Ee,Ej,qg,nf];have Jz:=k.lt;have qY:=k.qY;refine aS.bI (α:=e6) (λs f h'=>f 0=.ptr i 0/\f 1=.int .i64 before/\f 13=.ptr h.n 0/\h.n<h'.n/\h'.get h.n=.iter m cl (s.map (·.1)) cl/\J h h' (λq=>q=m)/\ej h' i m room size (j6 (q1 size before l s)) cl /\
   Own h' 110 5 (f 5) (((s.filter (lP size before)).map (Bj size)).flatMap aQ)/\(∀j,aU (f 5)=some j->h.n<=j)/\aU (f 5)≠some h.n/\(∀e∈s,e∈l)/\(s.map (·.1)).Nodup)
  (λs=>l.length-s.length) []
  ⟨rfl,rfl,rfl,by simp only[df];omega,fv,J.push _ _ _,by
   have:q1 size before l []=l:=by unfold q1;simp
   rw[this];exact k.ba (J.push _ _ _),Own.ag _ _ _,(show ∀j,aU V.ag=some j->h.n<=j by simp[aU]),(show aU V.ag≠some h.n by simp[aU]),by simp,by simp⟩ ?_
 rintro s f h' ⟨O,Y,B,aB,aJ,bX,u,ow,Q,Z,nP,u4⟩
 refine wpS ?_;have oO:(q1 size before l s).Sublist l:=aAs;have SH:eg (j6 (q1 size before l s)) cl:=by
  refine⟨λe C=>?_,?_⟩
  ·obtain⟨x,F,rfl⟩:=ad4 C;exact aa.1 _ (OF.2 ⟨x,oO.subset F,rfl⟩)
  ·rw[ad5];exact N.sublist (oO.map _)
 simp only[ae,B];refine KC aJ u.map SH (λjz=>?_) λe C=>?_
 ·have dq:∀e∈q1 size before l s,e.1∈s.map (·.1):=λe C=>by
   apply Classical.byContradiction;intro mi;have:(e.1,yn e.2.1,V.int .i64 e.2.2)∈nZ (j6 (q1 size before l s)) (s.map (·.1)):=by
    unfold nZ;exact ajA.2 ⟨OF.2 ⟨e,C,rfl⟩,by simpa using mi⟩
   rw[jz]at this;simp at this
  obtain⟨aC,HH⟩:=asL N dq;have aW:=asM (size:=size) (before:=before) N u4 nP HH;have lh:=aW.length_eq;have lf:=(aAs (p:=lP size before) (l:=l)).length_le;simp only[ae,ds];refine cA (aq h' (f 5) _ ow (by rw[axT];omega)) λr R ⟨ay,k2,M,pl,bg,ec⟩=>?_
  subst ay;simp only[ae,ds,aP,Tryz.results157,ac];have E:∀j,a7 (f 5) j->h.n<=j:=λj z=>Q j z;refine ar ⟨bX.trans k2 λq ab e=>by have:=E q e;omega,?_,M,pl.trans (aW.map _),bg,ec,Q⟩
  rw[<-aC];have dd:=k2.n;exact⟨(k2.get i u.lt (λe=>by have:=E i e;omega)).trans u.get,(k2.get m u.qY (λe=>by have:=E m e;omega)).trans u.map,k.ne,by have:=u.lt;omega,by have:=u.qY;omega,k.s1,k.s2⟩
 ·obtain⟨x,ot,rfl⟩:=ad4 (ajA.1 C).1;have F:=oO.subset ot;have wD:x.1∉s.map (·.1):=by
   have:=(ajA.1 C).2;simpa using this
  generalize hH:h'.set h.n (.iter m cl (s.map (·.1)++[x.1]) cl)=H;have Xb:J h' H (λq=>q=h.n):=by rw[<-hH];exact J.set _ _ _
  have SI:J h H (λq=>q=m):=by rw[<-hH];exact bX.kB (Nat.le_refl _) _
  have ib:H.n=h'.n:=by rw[<-hH];rfl
  have ji:H.get h.n=.iter m cl (s.map (·.1)++[x.1]) cl:=by rw[<-hH];exact aL
  have S:ej H i m room size (j6 (q1 size before l s)) cl:=⟨(Xb.get i u.lt (by omega)).trans u.get,(Xb.get m u.qY (by omega)).trans u.map,k.ne,by have:=u.lt;omega,by have:=u.qY;omega,k.s1,k.s2⟩
  have fh:Own H 110 5 (f 5) (((s.filter (lP size before)).map (Bj size)).flatMap aQ):=ow.ai Xb λj z e=>Z (by rw[z,e])
  have u7:=KD ji S.map SH (ajA.1 C).1;obtain⟨aD,aG⟩:=az x F;have en:((s++[x]).map (·.1)).Nodup:=by
   rw[azp,List.nodup_append];exact⟨u4,by simp,λa aT b ak=>by simp at ak;subst ak;exact λU=>wD (U▸aT)⟩
  have vK:∀e∈s++[x],e∈l:=λe C=>by
   rcases ayN.1 C with h|h
   ·exact nP e h
   ·simp at h;subst h;exact F
  have aO:s.length<l.length:=by
   have dd:(s++[x]).Nodup:=(azW.1 en).imp λh e=>h (by rw[e])
   have:=dd.length_le_of_subset (l₂:=l) vK;rw[Dx]at this;simp at this;omega
  have yl:=S.get;have MH:(yn x.2.1).cells=some [.int .i64 x.2.1.1,.int .i64 x.2.1.2]:=rfl;have CW:cJ (some (some 2)) (some [.int .i64 x.2.1.1,.int .i64 x.2.1.2])=some (.agg [.int .i64 x.2.1.1,.int .i64 x.2.1.2]):=rfl;have hw:aOT.i64.wrap (x.2.1.2+size)=x.2.1.2+size:=Go.IntWalk.i64_in _ (by have:=k.s1;have:=k.s2;omega)
  simp only[ae,ds,AS,Qz,V2,B,u7,MH];have ym:∀A,(H.push A).get i=.cells [.int .i64 room,.int .i64 size,.map m] 287 none:=λA=>(iP S.lt).trans yl;have o7:lP size before x=decide (x.2.1.2+size<=before):=rfl;cases G:lP size before x
  ·have d1:decide (x.2.1.2+size<=before)=false:=by rw[<-o7,G]
   refine aS.cS none_ [] (.q 0 (.q 1 (.q 2 (.q 3 (.q 4 (.q 5 (.q 6 (.q 7 (.q 8 .done))))))))) ?_;simp only[ae,bt,ds,AS,By,reduceCtorEq,Jg,Qg,bR,O,Y,ym,hw,d1];refine ar ⟨s++[x],⟨O,Y,B,by simp only[df];omega,(iP (by omega)).trans (by rw[ji];simp),SI.bp _,?_,?_,Q,Z,vK,en⟩,by simp only[Dx,axW,ayK];omega⟩
   ·rw[<-asK N F G];exact S.ba (J.push _ _ _)
   ·rw[aAr,aAR (by simp[G]),aEl,axX];exact fh.ba (J.push _ _ _)
  ·have d1:decide (x.2.1.2+size<=before)=true:=by rw[<-o7,G]
   refine aS.cS none_ [] (.q 0 (.q 1 (.q 2 (.q 3 (.q 4 (.q 5 (.q 6 (.q 7 (.q 8 .done))))))))) ?_;simp only[ae,bt,ds,AS,By,reduceCtorEq,Jg,Qg,bR,LO,O,Y,ym,hw,d1];have hx:=SI.bp (.cells [.int .i64 x.2.1.1,.int .i64 x.2.1.2] 302 none);have yW:(H.push (.cells [.int .i64 x.2.1.1,.int .i64 x.2.1.2] 302 none)).get h.n=.iter m cl (s.map (·.1)++[x.1]) cl:=(iP (by omega)).trans ji
   have SJ:(H.push (.cells [.int .i64 x.2.1.1,.int .i64 x.2.1.2] 302 none)).get H.n=.cells [.int .i64 x.2.1.1,.int .i64 x.2.1.2] 302 none:=fv;have aI:(H.push (.cells [.int .i64 x.2.1.1,.int .i64 x.2.1.2] 302 none)).n=H.n+1:=rfl;have D:=S.ba (J.push H (.cells [.int .i64 x.2.1.1,.int .i64 x.2.1.2] 302 none) none_);have hC:=fh.ba (J.push H (.cells [.int .i64 x.2.1.1,.int .i64 x.2.1.2] 302 none) none_);generalize H.push (.cells [.int .i64 x.2.1.1,.int .i64 x.2.1.2] 302 none)=T at hx yW SJ aI D hC⊢;refine bO (asN T i m cl room size x.2.1.1 x.2.1.2 _ D aD aG) ?_;have aV:=(aAs (p:=lP size before) (l:=s)).length_le;obtain⟨cv,R,dy,ec,L,d2⟩:=I9 (P:=mc) Em (by decide) hC (xs:=aQ (Bj size x)) rfl rfl (λm hm=>by
    change m*5=_+5 at hm;rw[fJ qh,axT]at hm;exact⟨by simp only[lim];omega,by simp only[lim];omega⟩)
   have E:∀j,a7 (f 5) j->h.n<=j:=λj z=>Q j z;have g2:=(L.get h.n (by omega) (λU=>Z U)).trans yW
   have MX:=(L.get H.n (by omega) (λU=>by have:=fh.lt _ U;omega)).trans SJ
   have dd:=L.n;have Xc:aU cv≠some h.n:=λU=>by
    rcases d2 with d|d
    ·exact Z (d▸U)
    ·have:=d _ U;omega
   have MY:∀j,aU cv=some j->h.n<=j:=λj z=>by
    rcases d2 with d|d
    ·exact Q j (d▸z)
    ·have:=d _ z;omega
   have W:ej R i m room size (j6 (q1 size before l s)) cl:=⟨(L.get i D.lt (λe=>by have:=E i e;omega)).trans D.get,(L.get m D.qY (λe=>by have:=E m e;omega)).trans D.map,k.ne,by have:=D.lt;omega,by have:=D.qY;omega,k.s1,k.s2⟩
   have SK:=W.get;have gk:=adi T (Bj size x);have aM:=WC _ x.2.1.1 x.2.1.2 W.map;unfold Bj at gk dy;simp only[ae,ds,gk,dy];refine aS.cS none_ [5] (.q 0 (.q 1 (.q 2 (.q 3 (.q 4 (.a 5 .done)))))) ?_;simp only[ae,bt,ds,AS,By,reduceCtorEq,Ee,Ej,LO,O,SK,MX,CW,aM];have X:J R (R.set m (.map (j6 (im (q1 size before l s) (x.2.1.1,x.2.1.2))) cl)) (λq=>q=m):=J.set _ _ _;have eG:im (q1 size before l s) (x.2.1.1,x.2.1.2)=q1 size before l (s++[x]):=asJ tv N F G;refine ar ⟨s++[x],⟨O,Y,B,by show h.n<R.n;omega,(X.get h.n (by omega) (by omega)).trans (by rw[g2];simp),(hx.trans L λq ab e=>by have:=E q e;omega).trans' X,?_,?_,MY,Xc,vK,en⟩,by simp only[Dx,axW,ayK];omega⟩
   ·rw[eG]at X⊢;exact⟨(X.get i W.lt (by exact k.ne)).trans SK,aL,k.ne,W.lt,W.qY,k.s1,k.s2⟩
   ·rw[aAr,aBa (by simp[G]),aEl,azp,azo]
    have lx:=ec.ai X λj z e=>by have:=MY j z;omega
    rw[show List.flatMap aQ (List.map (Bj size) [x])=aQ (Bj size x)by simp]
    exact lx
def rT(c:an):Int×Int:=(c.key,c.aX)
theorem asQ{a b:an}(h:rT a≠rT b)(i:q0 b a=false):q0 a b=true:=by
 unfold q0 at *;simp only[decide_eq_false_iff_not,decide_eq_true_eq]at *;have:¬(a.key=b.key/\a.aX=b.aX):=λe=>h (Prod.ext e.1 e.2);omega
theorem aed:∀{a b:List an},a.Perm b->C3 a->C3 b->(a.map rT).Nodup->a=b
 | [],b,i,_,_,_=>(List.nil_perm.1 i).symm
 | x::a,b,i,aT,ak,B=>by
  cases b with
  | nil=>exact absurd (List.perm_nil.1 i) (by simp)
  | cons y b=>
   have m:=azQ.1 B;have q:=aze.1 aT;have s:=aze.1 ak;have j:x=y:=by
    apply Classical.byContradiction;intro u;have z:y∈a:=by
     rcases Iz.1 (i.symm.subset (aEm (a:=y) (l:=b)))with h|h
     ·exact absurd h.symm u
     ·exact h
    have C:x∈b:=by
     rcases Iz.1 (i.subset (aEm (a:=x) (l:=a)))with h|h
     ·exact absurd h u
     ·exact h
    have D:=q.1 y z;have A:=s.1 x C;have E:rT x≠rT y:=λe=>m.1 (OF.2 ⟨y,z,e.symm⟩);have F:=asQ E D;rw[F]at A;cases A
   subst j;rw[aed (aCi.cons_inv i) q.2 s.2 m.2]
structure aef(h:I)(i m:Nat)(n:Int)(l:e6)(cl:Nat):Prop where
 k:ej h i m 1024 n (j6 l) cl
 st:eg (j6 l) cl
 GJ:c1 l
 aX:∀e∈l,0<=e.2.1.2/\e.2.1.2<=2^41
theorem aeg:∀{l:e6} {cl:Nat} {k:Int×Int} {a:Int} {e:Nat×(Int×Int)×Int},e∈cz cl l k a->e.2.1=k\/e∈l
 | [],cl,k,a,e,h=>by simp[cz]at h;exact .inl (by rw[h])
 | x::l,cl,k,a,e,h=>by
  unfold cz at h;split at h
  ·rcases Iz.1 h with rfl|h
   ·exact .inl rfl
   ·exact .inr (aAM _ h)
  ·rcases Iz.1 h with rfl|h
   ·exact .inr aEm
   ·rcases aeg h with h|h
    ·exact .inl h
    ·exact .inr (aAM _ h)
theorem asR(h:I)(n:Int):aF (.tuple [.ag,.int .i64 n]) h (.tuple [.af 0 [],.int .i64 n]) h:=aF.tuple (aA.cons (aF.k7 h) (aA.refl _ _))
theorem asS{h:I}{s:V}{cs:List an}(o:Own h 308 3 s (cs.flatMap bJ))(D:cs.length<=2^40)(c:an) :
  ∃a h',ki mc 288 288 s (.bg h.n 0 1 1) (h.push (.cells (bJ c) 308 none))=some (a,h')/\Own h' 308 3 a ((cs++[c]).flatMap bJ)/\J h h' (a7 s)/\cu h s a:=by
 have i:J h (h.push (.cells (bJ c) 308 none)) none_:=J.push _ _ _;have q:Own (h.push (.cells (bJ c) 308 none)) 308 3 (.bg h.n 0 1 1) (bJ c):=Own.e4 (bJ c) 1 rfl (by decide)
 have u:=tc (P:=mc) (t:=288) tV q (n:=1) rfl (by decide) (QV c)
 obtain⟨a,h',z,A,B,C⟩:=sj (P:=mc) (t:=288) (tx:=288) yS (by decide) (o.ba i) u rfl (λm j=>by
  change m*3=_+3 at j;rw[fJ vI]at j;exact⟨by simp only[lim];omega,by simp only[lim];omega⟩)
 refine⟨a,h',z,?_,(i.up).trans' B,cu.after C i.n⟩;rw[azo];simpa using A
def ended(g t:Int)(x:an):Bool:=decide (x.to+g<=t)
theorem aeh(q:an->Bool)(cs:List an)(p:an):(cs++[p]).filter q=cs.filter q++(if q p=true then [p]else []):=by
 rw[aAr];cases h:q p<;>simp[h]
theorem asT(h:I)(i:Nat)(v:V)(room g time:Int)(l:List an)(k:dI h i v room g l) :
  au mc 158 [.ptr i 0,.int .i64 time] h (λr h'=>∃v',Own h' 110 5 r (((l.filter (ended g time)).map na).flatMap aQ)/\(∀j,aU r=some j->h.n<=j/\aU v'≠some j)/\dI h' i v' room g (l.filter λx=>!ended g time x)/\J h h' (oV i v)/\cu h v v'):=by
 refine bd Tryz.func158 rfl ?_;have aw:=k.get;have kd:=k.vH h;have SE:=k.len;have cQ:=k.lt;simp only[ae,ds,AS,By,reduceCtorEq,A8,Qn,Gh,aw,kd];refine aS.bI (α:=Nat×V×V) (λx f h'=>f 0=.ptr i 0/\f 1=.int .i64 time/\f 5=x.2.1/\f 6=x.2.2/\f 14=v/\f 15=.int .i64 (l.length:Nat)/\f 16=.int .i64 (x.1:Nat)/\x.1<=l.length/\J h h' none_ /\
   Own h' 110 5 x.2.1 ((((l.take x.1).filter (ended g time)).map na).flatMap aQ)/\Own h' 308 3 x.2.2 (((l.take x.1).filter λy=>!ended g time y).flatMap bJ) /\
   (∀j,aU x.2.1=some j->h.n<=j/\aU x.2.2≠some j)/\(∀j,aU x.2.2=some j->h.n<=j)) (λx=>l.length-x.1) (0,.ag,.ag)
  ⟨rfl,rfl,rfl,rfl,rfl,rfl,rfl,Dy _,J.refl _ _,Own.ag _ _ _,Own.ag _ _ _,by simp[aU],by simp[aU]⟩ ?_
 rintro⟨t,a,b⟩ f Q ⟨L,R,S,T,E,z,u,bB,M,W,G,A,F⟩
 simp only at S T u bB W G A F;refine wpS ?_;by_cases N:t<l.length
 ·have d1:=dV (a:=t) (b:=l.length) (by omega)
  have hw:=mQ N (by omega)
  have X:=k.ba M;have aW:l[t]?=some l[t]:=IA N;have mT:l.take (t+1)=l.take t++[l[t]]:=azi N;have C:=aeh (ended g time) (l.take t) l[t];have D:=aeh (λy=>!ended g time y) (l.take t) l[t];rw[<-mT]at C D;generalize l[t]=p at aW mT C D;obtain⟨j,r,bV,eM,CS,CT,_⟩:=CY X.own aW;have O:=k.ok p (azq aW);have ld:=QX p r;have Ad:=WW p;have lk:=WU p;have st:=WV p;obtain⟨H,hH,Y,jD,_⟩:=b0 Q (.cells (bJ p) 308 none);have Z:=(X.ba Y).get;have MZ:=W.ba Y;have M0:=G.ba Y;have iz:=M.trans' Y;have bT:aOT.i64.wrap (p.to+g)=p.to+g:=Go.IntWalk.i64_in _ (by have:=O.lo;have:=O.le;have:=O.hi;have:=k.g1;have:=k.g2;omega)
  simp only[ae,ds,mU,QA,QE,E,z,u,d1,bV,CT,ld,Ad,st];rw[<-hH];clear hH;refine aS.cS none_ [] (.q 0 (.c 1 (.q 2 (.q 3 (.q 4 (.q 5 (.q 6 (.q 7 (.q 8 .done))))))))) ?_;simp only[ae,bt,ds,mU,jD,lk];refine fA rfl rfl rfl (λh' _=>GD p O h') ?_;cases e:decide (p.to+g<=time)
  ·have ek:ended g time p=false:=e;rw[ek]at C D;simp only[azs,if_false,axX,aBC,if_true]at C D;obtain⟨cX,bn,dy,qX,B,s⟩:=asS M0 (by have:=azK (λy=>!ended g time y) (l.take t);have:=aBN t l;omega) p
   have gk:=adM H p;simp only[ae,bt,ds,AS,By,reduceCtorEq,Gc,bR,mU,L,R,T,u,jD,Z,bT,e,lk,gk,dy,hw];refine ar ⟨(t+1,a,cX),⟨L,R,S,rfl,E,z,rfl,N,iz.trans B λq m U=>by have:=F q U;omega,by simp only;rw[C];exact MZ.ai B λq m U=>(A q m).2 U,by simp only;rw[D];exact qX,λq m=>⟨(A q m).1,λU=>?_⟩,λq m=>?_⟩,by simp only;omega⟩
   ·rcases s with s|s
    ·rw[s]at U;exact(A q m).2 U
    ·have:=s q U;have:=MZ.lt q m;omega
   ·rcases s with s|s
    ·exact F q (by rw[<-s];exact m)
    ·have:=s q m;have:=iz.n;omega
  ·have ek:ended g time p=true:=e;rw[ek]at C D;simp only[Bool.not_true,azs,if_false,axX,if_true]at C D;obtain⟨iD,bn,dy,qX,B,s⟩:=QY MZ (by simp only[axT];have:=azK (ended g time) (l.take t);have:=aBN t l;omega) (na p)
   have gk:=MO H (na p);simp only[ae,bt,ds,AS,By,reduceCtorEq,Gc,bR,mU,L,R,S,jD,Z,bT,e,lk];refine bO (WM p O _) ?_;simp only[ae,ds,u,gk,dy,hw];refine ar ⟨(t+1,iD,b),⟨L,R,rfl,T,E,z,rfl,N,iz.trans B λq m U=>by have:=(A q U).1;omega,by simp only;rw[C,azp];exact qX,by simp only;rw[D];exact M0.ai B λq m U=>(A q U).2 m,λq m=>?_,F⟩,by simp only;omega⟩
   rcases s with s|s
   ·exact A q (by rw[<-s];exact m)
   ·exact⟨by have:=s q m;have:=iz.n;omega,λU=>by have:=s q m;have:=M0.lt q U;omega⟩
 ·have d1:=eC (a:=t) (b:=l.length) (by omega)
  rw[ajz (by omega)]at W G
  have Z:=(k.ba M).get;have k9:b.one=true:=by
   rcases G with⟨rfl|rfl,_⟩|⟨_,_,_,_,_,rfl,_⟩<;>rfl
  have jb:b.cells=some [b]:=by
   rcases G with⟨rfl|rfl,_⟩|⟨_,_,_,_,_,rfl,_⟩<;>rfl
  have dA:bA (some 1) (aR.cells [V.int .i64 room,V.int .i64 g,v] 290 none) 2 [b]=some (.cells [.int .i64 room,.int .i64 g,b] 290 none):=by rw[rA k9];rfl
  simp only[ae,ds,reduceCtorEq,A8,V1,L,S,T,z,u,d1,Z,jb,dA,aP,Tryz.results158,ac];have B:J Q (Q.set i (.cells [V.int .i64 room,V.int .i64 g,b] 290 none)) (λq=>q=i):=J.set _ _ _;have yc:aU b≠some i:=λU=>by have:=F i U;omega
  have ah:=M.n;have aa:=W.ai B λq m U=>by have:=(A q m).1;omega
  have ad:=G.ai B λq m U=>by have:=F q m;omega
  have X:dI (Q.set i (.cells [V.int .i64 room,V.int .i64 g,b] 290 none)) i b room g (l.filter λx=>!ended g time x) :=
   ⟨by rw[kj];omega,aL,ad,yc,k.nb.filter _,λy bk=>k.ok y (ajA.1 bk).1,ajy (azK ..) SE,k.g1,k.g2⟩
  refine ar ⟨b,aa,A,X,?_,.inr λq m=>F q m⟩;exact(M.up (o:=oV i v)).trans B λq m U=>.inl U
inductive fc where
 | kv
 | dW (g:Int)
 | fi (g:Int)
def M1(g a i:Int):Bool:=d8 a&&decide (eH g a=a)&&decide (i=a+g)
def q2(c:an):Bool:=c.del&&decide (c.val≠0)
def iu:fc->an->Bool
 | .kv,c=>decide (c.aX≠0)||decide (c.to≠0)||q2 c
 | .dW g,c=>!M1 g c.aX c.to||q2 c
 | .fi _,c=>!d8 c.aX||!d8 c.to||decide (c.to<c.aX)||q2 c
def Xd:fc->Prop
 | .kv=>True
 | .dW g=>1<=g/\g<=1048576
 | .fi g=>1<=g/\g<=1048576
structure dX(K:fc)(l:List an):Prop where
 nb:fr l
 len:l.length<=1024
 ok:∀x∈l,x.del=false/\iu K x=false
 g:Xd K
theorem dX.nil{K:fc}(i:Xd K):dX K []:=⟨azV.nil,by simp,by simp,i⟩
def u9(K:fc)(l:List an)(c:an):List an×Int :=
 if iu K c then(l,5)else
 if c.del then(if ev l c then(ic l c,0)else(l,6))else
 if !ev l c&&decide (1024<=l.length)then(l,3)else(l7 (ic l c) c,0)
def l8(K:fc):List an->List an->Option (List an)
 | l,[]=>some l
 | l,c::r=>if(u9 K l c).2=0 then l8 K (u9 K l c).1 r else none
theorem aek(K:fc):∀(l a b:List an),l8 K l (a++b)=(l8 K l a).bind λm=>l8 K m b
 | l,[],b=>rfl
 | l,c::r,b=>by
  simp only[azv,l8];split
  ·exact aek K _ r b
  ·rfl
theorem M3{l:List an}{x y:an}:y∈ic l x↔y∈l/\hv y x=false:=by simp[ic]
theorem M4{l:List an}(h:fr l)(x:an):fr (ic l x):=h.filter _
theorem ael(l:List an)(x:an):(ic l x).length<=l.length:=azK _ _
theorem dX.rm{K:fc}{l:List an}(w:dX K l)(x:an):dX K (ic l x) :=
 ⟨M4 w.nb x,ajy (ael l x) w.len,λy i=>w.ok y (M3.1 i).1,w.g⟩
theorem dX.filter{K:fc}{l:List an}(w:dX K l)(p:an->Bool):dX K (l.filter p) :=
 ⟨w.nb.filter p,ajy (azK _ _) w.len,λy i=>w.ok y (ajA.1 i).1,w.g⟩
theorem dX.ins{K:fc}{l:List an}(w:dX K l){x:an}(U:ev l x=false)(j:l.length<1024)(s:x.del=false)(ak:iu K x=false):dX K (l7 l x) :=
 ⟨w.nb.Ai U,by have:=w.nb.BQ x;omega,λy i=>by
  rcases MK.1 i with rfl|i
  ·exact⟨s,ak⟩
  ·exact w.ok y i,w.g⟩
theorem Q0{l:List an}{x:an}:ev l x=true↔∃y∈l,hv y x=true:=by simp[ev]
theorem asV{l:List an}(h:fr l){x:an}(a:ev l x=true):(ic l x).length<l.length:=by have:=adv h a;omega
theorem dX.set{K:fc}{l:List an}(w:dX K l){x:an}(i:(!ev l x&&decide (1024<=l.length))=false)(j:x.del=false)(ak:iu K x=false):dX K (l7 (ic l x) x):=by
 refine(w.rm x).ins (WE l x) ?_ j ak;cases U:ev l x
 ·rw[U]at i;have:=ael l x;simp at i;omega
 ·have:=asV w.nb U;have:=w.len;omega
theorem dX.aem{K:fc}{l:List an}(w:dX K l)(c:an):dX K (u9 K l c).1:=by
 unfold u9;split
 ·exact w
 rename_i ak;split
 ·split
  ·exact w.rm c
  ·exact w
 rename_i i;split
 ·exact w
 rename_i j;exact w.set (by simpa using j) (by simpa using i) (by simpa using ak)
theorem dX.l8{K:fc}:∀{cs l m:List an},dX K l->l8 K l cs=some m->dX K m
 | [],l,m,w,h=>by cases h;exact w
 | c::r,l,m,w,h=>by
  unfold Pk.l8 at h;split at h
  ·exact dX.l8 (w.aem c) h
  ·cases h
theorem asW{K:fc}{l:List an}{c:an}(ak:iu K c=false)(a:c.del=false)(i:(!ev l c&&decide (1024<=l.length))=false):u9 K l c=(l7 (ic l c) c,0):=by
 unfold u9;rw[if_neg (by simp[ak]),if_neg (by simp[a]),if_neg (by rw[i];decide)]
theorem LT{K:fc}{l:List an}{c:an}(ak:iu K c=false)(a:c.del=true)(U:ev l c=true):u9 K l c=(ic l c,0):=by
 unfold u9;rw[if_neg (by simp[ak]),if_pos a,if_pos U]
theorem asX(l:List an)(x:an):ev l (na x)=ev l x:=rfl
theorem asY(l:List an)(x:an):ic l (na x)=ic l x:=rfl
theorem EQ{K:fc}{x:an}(h:iu K x=false):iu K (na x)=false:=by
 have a:q2 (na x)=false:=by simp[q2,na]
 cases K<;>simp only[iu,aBP]at h⊢<;>simp_all[na]<;>exact decide_eq_false (by show ¬x.to<x.aX;omega)
theorem aen{K:fc}:∀(A:List an) {l:List an},fr l->(∀x∈A,x∈l/\iu K x=false)->A.Pairwise (λa b=>hv b a=false)->l8 K l (A.map na)=some (hj l A)
 | [],l,_,_,_=>by rw[List.map_nil,adw];rfl
 | x::A,l,s,i,u=>by
  have m:=i x (by simp)
  have q:=aze.1 u;rw[List.map_cons,l8,LT (EQ m.2) rfl (by rw[asX];exact adu m.1),if_pos rfl,asY]
  rw[aen A (M4 s x) (λy j=>⟨M3.2 ⟨(i y (by simp[j])).1,q.1 y j⟩,(i y (by simp[j])).2⟩) q.2]
  congr 1
  unfold hj ic;rw[aA4];refine aAb λy _=>?_;simp only[List.all_cons];rw[aEh]
def valOf(l:List an)(x:an):Int:=((l.filter λy=>hv y x).map (·.val)).headD 0
def pT:fc->Int->Int->Int->an
 | .kv,k,_,v=>⟨k,0,0,v,false⟩
 | .dW g,k,t,v=>⟨k,eH g t,eH g t+g,v,false⟩
 | .fi _,k,t,v=>⟨k,t,t,v,false⟩
def uk(l:List an)(x:an):List an:=l7 (ic l x) x
def um:fc->List an->Int->Int->Int->List an
 | .kv,_,k,t,v=>[pT .kv k t v]
 | .dW g,_,k,t,v=>[pT (.dW g) k t v]
 | .fi g,l,k,t,v=>jE g l k t v
def uo:fc->List an->Int->Int->Int->List an
 | .kv,l,k,t,v=>uk l (pT .kv k t v)
 | .dW g,l,k,t,v=>uk l (pT (.dW g) k t v)
 | .fi g,l,k,t,v=>ui g l k t v
def uq:fc->List an->Int->Int->Bool
 | .kv,l,k,t=>!ev l (pT .kv k t 0)&&decide (1024<=l.length)
 | .dW g,l,k,t=>!ev l (pT (.dW g) k t 0)&&decide (1024<=l.length)
 | .fi g,l,k,t=>(found g l k t).isEmpty&&decide (1024<=l.length)
def C5:fc->List an->Int->Int->Int
 | .kv,_,_,t=>t
 | .dW g,_,_,t=>eH g t
 | .fi g,l,k,t=>kP t (found g l k t)
def M5:fc->List an->Int->Int->Int
 | .kv,l,k,t=>valOf l (pT .kv k t 0)
 | .dW g,l,k,t=>valOf l (pT (.dW g) k t 0)
 | .fi g,l,k,t=>qZ (found g l k t)
theorem asZ{n t:Int}(a:0<=t)(i:1<=n):eH n (eH n t)=eH n t:=by
 have j:=GA a i;unfold eH at *;have m:t.tmod n=t % n:=aAQ a;rw[m]at j⊢;have q:(t-t % n).tmod n=(t-t % n) % n:=aAQ (by omega)
 rw[q,Int.sub_emod,Int.emod_emod_of_dvd _ (Int.dvd_refl n),Int.sub_self];simp
theorem aeo{K:fc}(i:Xd K){k t v:Int}(j:d8 t=true):iu K (pT K k t v)=false:=by
 have a:=j;simp only[d8,decide_eq_true_eq]at a;cases K with
 | kv=>simp[iu,pT,q2]
 | dW g=>
  have m:=GA a.1 i.1;have:d8 (eH g t)=true:=by simp only[d8,decide_eq_true_eq];omega
  simp[iu,pT,q2,M1,asZ a.1 i.1,this]
 | fi g=>simp[iu,pT,q2,j]
theorem as0{g:Int}{x:an}(h:x.del=false/\iu (.fi g) x=false):kO x:=by
 obtain⟨a,i⟩:=h;simp only[iu,aBP,aCo,d8,decide_eq_true_eq,decide_eq_false_iff_not]at i;exact⟨by omega,by omega,by omega,a⟩
theorem aep{g:Int}{x:an}(h:kO x):iu (.fi g) x=false:=by
 have a:=h.lo;have i:=h.le;have j:=h.hi;simp only[iu,aBP,aCo,d8,decide_eq_true_eq,decide_eq_false_iff_not,q2,h.del,Bool.false_and,and_true];omega
theorem Xe{K:fc}{l:List an}{x:an}(ak:iu K x=false)(a:x.del=false)(i:(!ev l x&&decide (1024<=l.length))=false):l8 K l [x]=some (uk l x):=by
 rw[l8,asW ak a i,if_pos rfl];rfl
theorem dX.sr{K:fc}{l:List an}(w:dX K l){k t v:Int}(z:d8 t=true)(A:uq K l k t=false):Pk.l8 K l (um K l k t v)=some (uo K l k t v):=by
 have D:=z;simp only[d8,decide_eq_true_eq]at D;cases K with
 | kv=>exact Xe (aeo w.g z) rfl A
 | dW g=>exact Xe (aeo w.g z) rfl A
 | fi g=>
  have M:0<=g:=by have:=w.g.1;omega
  have N:∀x∈l,kO x:=λx i=>as0 (w.ok x i);have E:=WJ (g:=g) N (k:=k) v D.1 (by omega)
  unfold um jE;rw[aek];have F:∀x∈(found g l k t).filter (ce (fK g l k t v)),x∈l:=λx i=>(ajA.1 (ajA.1 i).1).1;have B:fr ((found g l k t).filter (ce (fK g l k t v))):=(w.nb.filter _).filter _;rw[aen _ w.nb (λx i=>⟨F x i,(w.ok x (F x i)).2⟩) (B.imp λ{a b} h=>by
   cases O:hv b a
   ·rfl
   ·rw[pq]at O;unfold eT at h;omega)]
  rw[Option.bind_some];have C:hj l ((found g l k t).filter (ce (fK g l k t v)))=l.filter λy=>!((oA g k t y)&&ce (fK g l k t v) y):=by
   have:(found g l k t).filter (ce (fK g l k t v))=l.filter λy=>(oA g k t y)&&ce (fK g l k t v) y:=by
    unfold found;rw[aA4];refine aAb λy _=>?_;rw[aEh]
   rw[this,adx w.nb]
  have Q:=ash M w.nb k t v;generalize S:hj l ((found g l k t).filter (ce (fK g l k t v)))=R at *;have T:fr R:=by rw[<-S];exact w.nb.hj _
  have Y:R.length<=l.length:=by rw[C];exact azK _ _
  rw[Xe (aep E) E.del ?_]
  ·unfold uk;rw[Q];rfl
  ·cases U:ev R (fK g l k t v)
   ·simp only[aBC,azR,decide_eq_false_iff_not];intro av;have Z:=w.len;have j:uq (.fi g) l k t=false:=A;simp only[uq,aEn,aFQ,decide_eq_false_iff_not]at j;rcases j with j|j
    ·
     have G:R.length=l.length:=by omega
     have H:∀x∈l,x∈R:=λx i=>by
      rw[C]at G⊢;have:=List.length_filter_eq_length_iff.1 G x i;exact ajA.2 ⟨i,this⟩
     obtain⟨x,i⟩:=List.exists_mem_of_ne_nil _ j;have s:=(ajA.1 i);have L:=H x s.1;rw[C]at L;have u:=(ajA.1 L).2;rw[s.2,azR]at u;have W:=(Bh.1 s.2).1;have:hv x (fK g l k t v)=true:=pq.2 (by
      simp only[ce,aAL,aBP,decide_eq_false_iff_not,Decidable.not_not]at u;exact⟨W,u.1,u.2⟩)
     have X:ev R (fK g l k t v)=true:=Q0.2 ⟨x,H x s.1,this⟩;rw[X]at U;cases U
    ·omega
   ·rfl
theorem dX.l6{K:fc}{l:List an}(w:dX K l){k t:Int}(v:Int)(i:d8 t=true)(j:uq K l k t=false):dX K (uo K l k t v):=dX.l8 w (w.sr i j)
def yX:fc->Int->an->Bool
 | .kv,_,_=>false
 | .dW g,m,x=>decide (0<=m)&&decide (x.to<=m-g)
 | .fi g,m,x=>decide (x.to+g<=m)
def GK(l:List an):List an:=l.mergeSort λa b=>!q0 b a
def EO:fc->List an->List an
 | .kv,l=>l
 | .dW _,l=>GK l
 | .fi _,l=>l
def hY(K:fc)(m:Int)(l:List an):List an:=EO K ((l.filter (yX K m)).map na)
def iv(K:fc)(m:Int)(l:List an):List an:=l.filter λx=>!yX K m x
theorem aer(K:fc)(l:List an):(EO K l).Perm l:=by cases K<;>first|exact .refl _|exact aEo _ _
theorem dX.iv{K:fc}{l:List an}(w:dX K l)(m:Int):dX K (Pk.iv K m l):=w.filter _
theorem as1(l:List an):C3 (GK l):=by
 unfold C3 GK;have:=List.pairwise_mergeSort (le:=λa b=>!q0 b a) (l:=l) (λa b c j m=>?_) (λa b=>?_)
 ·exact this.imp λ{a b} h=>by simpa using h
 ·simp only[q0,aAL,decide_eq_false_iff_not]at *;omega
 ·simp only[q0,Bool.or_eq_true,aAL,decide_eq_false_iff_not];omega
theorem aes{l a:List an}(i:a.Perm l)(j:C3 a)(m:(l.map rT).Nodup):a=GK l :=
 aed (i.trans (aEo _ _).symm) j (as1 l) ((i.map rT).nodup_iff.2 m)
def aet:fc->Int->Int->Bool
 | .kv,_,_=>false
 | .dW g,t,m=>decide (eH g t+g<=m)
 | .fi g,t,m=>decide (t+g<=m)
def e7(g:Int)(e:e6)(l:List an):Prop:=(e.map (vJ g)).Perm l
def oW(g k a v:Int):an:=⟨k,a,a+g,v,false⟩
theorem e7.mem{g:Int}{e:e6}{l:List an}(h:e7 g e l)(x:an):x∈l↔∃s k aX v,(s,(k,aX),v)∈e/\x=oW g k aX v:=by
 rw[<-h.mem_iff,OF]
 constructor
 ·rintro⟨⟨s,⟨k,aX⟩,v⟩,i,rfl⟩;exact⟨s,k,aX,v,i,rfl⟩
 ·rintro⟨s,k,aX,v,i,rfl⟩;exact⟨_,i,rfl⟩
theorem Q1{e:e6}(j:c1 e){k m v:Int}:bQ e (k,m)=some v↔∃s,(s,(k,m),v)∈e:=by
 constructor
 ·intro h;clear j
  induction e with
  | nil=>cases h
  | cons a r ih=>
   unfold bQ at h;split at h
   ·rename_i q;obtain⟨s,kk,u⟩:=a;simp only at q h;subst q;cases h;exact⟨s,by simp⟩
   ·obtain⟨s,i⟩:=ih h;exact⟨s,by simp[i]⟩
 ·rintro⟨s,i⟩
  exact qQ j i
theorem e7.vL{g:Int}{e:e6}{l:List an}(h:e7 g e l)(u:c1 e)(x:an):x∈l↔∃k aX v,bQ e (k,aX)=some v/\x=oW g k aX v:=by
 rw[h.mem x]
 constructor
 ·rintro⟨s,k,aX,v,i,j⟩;exact⟨k,aX,v,(Q1 u).2 ⟨s,i⟩,j⟩
 ·rintro⟨k,aX,v,i,j⟩
  obtain⟨s,z⟩:=(Q1 u).1 i;exact⟨s,k,aX,v,z,j⟩
theorem as2{l:List an}(h:fr l):l.Nodup:=h.imp λ{a b} i e=>by subst e;unfold eT at i;omega
theorem as3{g:Int}{e:e6}(i:c1 e):(e.map (vJ g)).Nodup:=by
 have:((e.map (vJ g)).map rT).Nodup:=by
  rw[azM];have ay:(rT∘vJ g)=λx:Nat×(Int×Int)×Int=>x.2.1:=rfl;rw[ay];exact i
 exact azV.of_map rT (λa b h e=>h (by rw[e])) this
theorem e7.of{g:Int}{e:e6}{l:List an}(i:c1 e)(j:fr l)(h:∀x,x∈l↔∃k aX v,bQ e (k,aX)=some v/\x=oW g k aX v):e7 g e l:=by
 refine(aCj (as3 i) (as2 j)).2 λx=>?_;rw[h x,OF]
 constructor
 ·rintro⟨⟨s,⟨k,aX⟩,v⟩,u,rfl⟩;exact⟨k,aX,v,(Q1 i).2 ⟨s,u⟩,rfl⟩
 ·rintro⟨k,aX,v,u,rfl⟩
  obtain⟨s,j⟩:=(Q1 i).1 u;exact⟨_,j,rfl⟩
theorem GL{g:Int}{k a v k2 i j:Int}:hv (oW g k a v) (oW g k2 i j)=decide (k=k2/\a=i):=by
 rw[azm,pq,decide_eq_true_eq];simp only[oW]
 constructor
 ·rintro⟨m,q,_⟩;exact⟨m,q⟩
 ·rintro⟨rfl,rfl⟩;exact⟨rfl,rfl,rfl⟩
theorem e7.len{g:Int}{e:e6}{l:List an}(h:e7 g e l):e.length=l.length:=by have:=h.length_eq;simpa using this
theorem e7.has{g:Int}{e:e6}{l:List an}(h:e7 g e l)(s:c1 e){x:an}{k aX v:Int}(u:x=oW g k aX v):ev l x=(bQ e (k,aX)).isSome:=by
 subst u;rw[azm,Q0]
 constructor
 ·rintro⟨y,z,i⟩
  obtain⟨C,D,j,A,rfl⟩:=(h.vL s y).1 z;rw[GL,decide_eq_true_eq]at i;obtain⟨rfl,rfl⟩:=i;rw[A];rfl
 ·intro i;obtain⟨j,B⟩:=aBZ.1 i;exact⟨oW g k aX j,(h.vL s _).2 ⟨k,aX,j,B,rfl⟩,by rw[GL];simp⟩
theorem as4{l:List an}(q:fr l){x y:an}(i:y∈l)(h:hv y x=true):l.filter (λz=>hv z x)=[y]:=by
 induction l with
 | nil=>cases i
 | cons a r ih=>
  have j:=aze.1 q;rcases Iz.1 i with rfl|i
  ·rw[aBa (p:=λz=>hv z x) h]
   congr 1
   rw[aAH];intro z s u;have m:=j.1 z s;rw[pq]at h u;unfold eT at m;omega
  ·rw[aAR (p:=λz=>hv z x)]
   ·exact ih j.2 i
   ·intro aT;have m:=j.1 y i;rw[pq]at h aT;unfold eT at m;omega
theorem aeu{l:List an}(a:fr l){x y:an}(i:y∈l)(h:hv y x=true):valOf l x=y.val:=by
 unfold valOf;rw[as4 a i h];rfl
theorem aev{l:List an}{x:an}(h:ev l x=false):valOf l x=0:=by
 unfold valOf;have:l.filter (λz=>hv z x)=[]:=by
  rw[aAH];intro z a i;have:=Q0.2 ⟨z,a,i⟩;rw[this]at h;cases h
 rw[this];rfl
theorem e7.val{g:Int}{e:e6}{l:List an}(h:e7 g e l)(i:c1 e)(s:fr l){k aX v:Int}:valOf l (oW g k aX v)=(bQ e (k,aX)).getD 0:=by
 cases j:bQ e (k,aX)with
 | none=>rw[aev (by rw[h.has i rfl,j];rfl)];rfl
 | some u=>rw[aeu s ((h.vL i (oW g k aX u)).2 ⟨k,aX,u,j,rfl⟩) (by rw[GL];simp)];rfl
theorem e7.set{g:Int}{e:e6}{l:List an}(h:e7 g e l)(z:c1 e)(C:fr l)(cl:Nat)(k aX v:Int):e7 g (cz cl e (k,aX) v) (uk l (oW g k aX v)):=by
 refine e7.of (z.set _ _ _) ((M4 C _).Ai (WE _ _)) λx=>?_;unfold uk;rw[MK,M3]
 constructor
 ·rintro(rfl|⟨D,B⟩)
  ·exact⟨k,aX,v,by rw[yO,if_pos rfl],rfl⟩
  ·obtain⟨j,s,A,i,rfl⟩:=(h.vL z x).1 D;rw[GL,decide_eq_false_iff_not]at B;exact⟨j,s,A,by rw[yO,if_neg (λq=>B (by cases q;exact⟨rfl,rfl⟩))];exact i,rfl⟩
 ·rintro⟨j,s,A,i,rfl⟩
  rw[yO]at i;by_cases u:(j,s)=(k,aX)
  ·rw[if_pos u]at i;cases u;cases i;exact .inl rfl
  ·rw[if_neg u]at i;refine .inr ⟨(h.vL z _).2 ⟨j,s,A,i,rfl⟩,?_⟩;rw[GL,decide_eq_false_iff_not]
   rintro⟨rfl,rfl⟩
   exact u rfl
theorem GE{l:List an}{x y:an}(h:hv x y=true):ic l x=ic l y:=by
 unfold ic;refine aAb λz _=>?_;rw[pq]at h;have:hv z x=hv z y:=by rw[azm,pq,pq,h.1,h.2.1,h.2.2]
 rw[this]
theorem e7.del{g:Int}{e:e6}{l:List an}(h:e7 g e l)(j:c1 e)(B:fr l){k aX:Int}{c:an}(av:hv c (oW g k aX 0)=true):e7 g (im e (k,aX)) (ic l c):=by
 rw[GE av];refine e7.of (j.del _) (M4 B _) λx=>?_;rw[M3]
 constructor
 ·rintro⟨C,A⟩
  obtain⟨s,u,z,i,rfl⟩:=(h.vL j x).1 C;rw[GL,decide_eq_false_iff_not]at A;exact⟨s,u,z,by rw[Vd j,if_neg (λq=>A (by cases q;exact⟨rfl,rfl⟩))];exact i,rfl⟩
 ·rintro⟨s,u,z,i,rfl⟩
  rw[Vd j]at i;split at i
  ·cases i
  ·rename_i D;refine⟨(h.vL j _).2 ⟨s,u,z,i,rfl⟩,?_⟩;rw[GL,decide_eq_false_iff_not]
   rintro⟨rfl,rfl⟩
   exact D rfl
theorem e7.filter{g b:Int}{e:e6}{l:List an}(h:e7 g e l):e7 g (e.filter λx=>!lP g b x) (l.filter λx=>!decide (x.to<=b)):=by
 unfold e7;have:=aCi.filter (λx:an=>!decide (x.to<=b)) (show(e.map (vJ g)).Perm l from h)
 rw[aFS]at this;exact this
theorem e7.gone{g b:Int}{e:e6}{l i:List an}(h:e7 g e l)(j:i.Perm ((e.filter (lP g b)).map (Bj g))):i.Perm ((l.filter λx=>decide (x.to<=b)).map na):=by
 refine j.trans ?_;have:=(aCi.filter (λx:an=>decide (x.to<=b)) (show(e.map (vJ g)).Perm l from h)).map na
 rw[aFS,azM]at this;exact this
theorem aew{g:Int}{l:List an}(w:dX (.dW g) l):(l.map rT).Nodup:=by
 refine azW.2 (w.nb.imp_of_mem λ{a b} aT ak j i=>?_);have m:=w.ok a aT;have q:=w.ok b ak;simp only[iu,M1,aBP,aCo,ajC,decide_eq_true_eq]at m q;have ay:a.key=b.key:=congrArg Prod.fst i;have bc:a.aX=b.aX:=congrArg Prod.snd i;unfold eT at j;omega
theorem e7.list{g:Int}{e:e6}{l i:List an}(w:dX (.dW g) l)(h:e7 g e l)(j:i.Perm (e.map (vJ g)))(s:C3 i):i=GK l:=aes (j.trans h) s (aew w)
theorem e7.exp{g b:Int}{e:e6}{l i:List an}(w:dX (.dW g) l)(h:e7 g e l)(j:i.Perm ((e.filter (lP g b)).map (Bj g)))(s:C3 i):i=GK ((l.filter λx=>decide (x.to<=b)).map na):=by
 refine aes (h.gone j) s ?_;rw[azM];have ay:(rT∘na)=rT:=rfl;rw[ay];exact(aew w).sublist (aAs.map _)
def va(p:eL):an:=⟨p.1,0,0,p.2,false⟩
theorem aex{l:List eL}(a:oy l){k v:Int}:(k,v)∈l↔look l k=some v:=⟨λh=>ac9 a h,ada⟩
theorem JB{l:List eL}(i:oy l){x:an}:x∈l.map va↔∃k v,look l k=some v/\x=⟨k,0,0,v,false⟩:=by
 rw[OF]
 constructor
 ·rintro⟨⟨k,v⟩,a,rfl⟩;exact⟨k,v,(aex i).1 a,rfl⟩
 ·rintro⟨k,v,a,rfl⟩;exact⟨_,(aex i).2 a,rfl⟩
theorem Q2{l:List eL}(i:oy l):fr (l.map va):=by
 refine azW.2 (i.imp λ{a b} h=>?_);exact .inl h
theorem M7{k k2 v a:Int}{d i:Bool}:hv ⟨k,0,0,v,d⟩ ⟨k2,0,0,a,i⟩=decide (k=k2):=by
 rw[azm,pq,decide_eq_true_eq];simp
theorem aey{l:List eL}(a:oy l){k v:Int}{d:Bool}:ev (l.map va) ⟨k,0,0,v,d⟩=has l k:=by
 rw[azm,Q0];unfold has
 constructor
 ·rintro⟨y,j,h⟩
  obtain⟨s,i,m,rfl⟩:=(JB a).1 j;rw[M7,decide_eq_true_eq]at h;subst h;rw[m];rfl
 ·intro h;obtain⟨i,q⟩:=aBZ.1 h;exact⟨_,(JB a).2 ⟨k,i,q,rfl⟩,by rw[M7];simp⟩
theorem aez{l:List eL}(a:oy l){k v:Int}{d:Bool}:valOf (l.map va) ⟨k,0,0,v,d⟩=(look l k).getD 0:=by
 cases i:look l k with
 | none=>rw[aev (by rw[aey a,has,i];rfl)];rfl
 | some u=>rw[aeu (Q2 a) ((JB a).2 ⟨k,u,i,rfl⟩) (by rw[M7];simp)];rfl
theorem as5{l:List eL}(a:oy l)(k v:Int):(put l k v).map va=uk (l.map va) ⟨k,0,0,v,false⟩:=by
 refine fr.yq (Q2 (Mw a k v)) ((M4 (Q2 a) _).Ai (WE _ _)) λx=>?_;unfold uk;rw[JB (Mw a k v),MK,M3,JB a]
 constructor
 ·rintro⟨j,m,i,rfl⟩
  rw[QN l k v j a]at i;split at i
  ·rename_i e;subst e;cases i;exact .inl rfl
  ·rename_i e;exact .inr ⟨⟨j,m,i,rfl⟩,by rw[M7,decide_eq_false_iff_not];exact e⟩
 ·rintro(rfl|⟨⟨j,m,i,rfl⟩,q⟩)
  ·exact⟨k,v,by rw[QN l k v k a,if_pos rfl],rfl⟩
  ·rw[M7,decide_eq_false_iff_not]at q;exact⟨j,m,by rw[QN l k v j a,if_neg q];exact i,rfl⟩
open Go Go.Proofs Go.Proofs.YtemdgidnhgcafaaGreatDoor.Ab Go.Sort
theorem then_eq{K:fz}{x:Option V}{v:V}{d:Option Tmp}{f:aj}{h:I}(e:x=some v)(g:@lK (some v) d K f h):@lK x d K f h:=e▸g
theorem as6(h:I)(n:Int)(j:n=0\/n=1):Pure mc 132 [.int .u64 n] h (.int .i64 n):=by
 refine Pure.val (a8.int _ _) ?_;refine bd aBQ rfl ?_;have a:aOT.u8.wrap 0=0:=by decide
 have i:aOT.u8.wrap 1=1:=by decide
 have m:aOT.i64.wrap 1=1:=by decide
 have q:aOT.i64.wrap 0=0:=by decide
 have s:aOT.i64.wrap (0+0)=0:=by decide
 have u:aOT.i64.wrap (0+1)=1:=by decide
 rcases j with rfl|rfl
 ·simp only[ae,aAi,ds,reduceCtorEq,oP,kG,a];refine then_eq (v:=.int .u8 0) (by kernel_rfl) ?_
  simp only[ae,ds,gS,kG,q,s,aP,aFT,ac];exact ar ⟨rfl,J.refl _ _⟩
 ·simp only[ae,aAi,ds,reduceCtorEq,oP,kG,i];refine then_eq (v:=.int .u8 1) (by kernel_rfl) ?_
  simp only[ae,ds,gS,kG,m,u,aP,aFT,ac];exact ar ⟨rfl,J.refl _ _⟩
theorem GM(h:I)(n:Int)(a:n=0\/n=1):Pure mc 97 [.int .u64 n] h (.int .i64 n):=by
 refine Pure.val (a8.int _ _) ?_;refine bd aBR rfl ?_;have i:aOT.u64.wrap n=n:=by rcases a with rfl|rfl<;>decide
 simp only[ae,ds,reduceCtorEq];refine bO (as6 h n a) ?_;simp only[ae,ds,aP,Tryz.results97,ac];exact ar ⟨rfl,J.refl _ _⟩
open Go.Shelf
def as7:Go.Shelf.Ren:=⟨λ| 6=>179|15=>97|14=>203|28=>131|29=>132|20=>219|21=>220|22=>221|23=>222|24=>223|25=>224|26=>225|27=>226|46=>240|47=>160|48=>161|49=>241|50=>242|57=>250|n=>n,λ| 22=>52|24=>110|25=>305|3=>3|39=>189|0=>0|53=>236|55=>131|4=>4|46=>229|45=>228|50=>233|5=>5|9=>9|66=>270|70=>274|76=>310|77=>82|n=>n,λ| n=>n⟩
theorem aeC:Go.Proofs.SlLaysF0.n6 mc as7:={
 mixed:=by kernel_rfl
 f6:=⟨Tryz.f179.name,by decide,aFU.trans (congrArg some (by kernel_rfl))⟩
 f14:=⟨Tryz.f203.name,by decide,aFV.trans (congrArg some (by kernel_rfl))⟩
 f15:=aBR.trans (congrArg some (by kernel_rfl))
 f20:=⟨Tryz.f219.name,by decide,aFW.trans (congrArg some (by kernel_rfl))⟩
 f21:=⟨Tryz.f220.name,by decide,Tryz.func220.trans (congrArg some (by kernel_rfl))⟩
 f22:=⟨Tryz.f221.name,by decide,Tryz.func221.trans (congrArg some (by kernel_rfl))⟩
 f23:=⟨Tryz.f222.name,by decide,Tryz.func222.trans (congrArg some (by kernel_rfl))⟩
 f24:=⟨Tryz.f223.name,by decide,Tryz.func223.trans (congrArg some (by kernel_rfl))⟩
 f25:=⟨Tryz.f224.name,by decide,Tryz.func224.trans (congrArg some (by kernel_rfl))⟩
 f26:=⟨Tryz.f225.name,by decide,Tryz.func225.trans (congrArg some (by kernel_rfl))⟩
 f27:=⟨Tryz.f226.name,by decide,Tryz.func226.trans (congrArg some (by kernel_rfl))⟩
 f28:=Tryz.func131.trans (congrArg some (by kernel_rfl))
 f29:=aBQ.trans (congrArg some (by kernel_rfl))
 f46:=⟨Tryz.f240.name,by decide,Tryz.func240.trans (congrArg some (by kernel_rfl))⟩
 f47:=Tryz.func160.trans (congrArg some (by kernel_rfl))
 f48:=Tryz.func161.trans (congrArg some (by kernel_rfl))
 f49:=⟨Tryz.f241.name,by decide,Tryz.func241.trans (congrArg some (by kernel_rfl))⟩
 f50:=⟨Tryz.f242.name,by decide,Tryz.func242.trans (congrArg some (by kernel_rfl))⟩
 f57:=⟨Tryz.f250.name,by decide,Tryz.func250.trans (congrArg some (by kernel_rfl))⟩
 t0:=Tryz.underlying0
 a0:=Tryz.isAgg0
 z0:=Tryz.sizeOf0
 v0:=Tryz.zeroValue0
 t3:=Tryz.underlying3
 a3:=Tryz.isAgg3
 z3:=Tryz.sizeOf3
 v3:=Tryz.zeroValue3
 t4:=Tryz.underlying4
 a4:=Tryz.isAgg4
 z4:=Tryz.sizeOf4
 v4:=Tryz.zeroValue4
 t5:=Tryz.underlying5
 a5:=Tryz.isAgg5
 z5:=Tryz.sizeOf5
 v5:=Tryz.zeroValue5
 t9:=Tryz.underlying9
 a9:=Tryz.isAgg9
 z9:=Tryz.sizeOf9
 v9:=Tryz.zeroValue9
 t22:=Tryz.underlying52
 a22:=Tryz.isAgg52
 z22:=Tryz.sizeOf52
 v22:=Tryz.zeroValue52
 t25:=Tryz.underlying305
 a25:=Tryz.isAgg305
 z25:=Tryz.sizeOf305
 v25:=Tryz.zeroValue305
 t39:=Tryz.underlying189
 a39:=Tryz.isAgg189
 z39:=Tryz.sizeOf189
 v39:=Tryz.zeroValue189
 t45:=Tryz.underlying228
 a45:=Tryz.isAgg228
 z45:=Tryz.sizeOf228
 v45:=Tryz.zeroValue228
 t46:=Tryz.underlying229
 a46:=Tryz.isAgg229
 z46:=Tryz.sizeOf229
 v46:=Tryz.zeroValue229
 t50:=Tryz.underlying233
 a50:=Tryz.isAgg233
 z50:=Tryz.sizeOf233
 v50:=Tryz.zeroValue233
 t53:=Tryz.underlying236
 a53:=Tryz.isAgg236
 z53:=Tryz.sizeOf236
 v53:=Tryz.zeroValue236
 t55:=Tryz.underlying131
 a55:=Tryz.isAgg131
 z55:=Tryz.sizeOf131
 v55:=Tryz.zeroValue131
 t66:=Tryz.underlying270
 a66:=Tryz.isAgg270
 z66:=Tryz.sizeOf270
 v66:=Tryz.zeroValue270
 t70:=Tryz.underlying274
 a70:=Tryz.isAgg274
 z70:=Tryz.sizeOf274
 v70:=Tryz.zeroValue274
 t76:=Tryz.underlying310
 a76:=Tryz.isAgg310
 z76:=Tryz.sizeOf310
 v76:=Tryz.zeroValue310
 t77:=Tryz.underlying82
 a77:=Tryz.isAgg82
 z77:=Tryz.sizeOf82
 v77:=Tryz.zeroValue82 }
theorem as8(h:I)(x c:V)(n lim:Int)(q:n<=1)(s:0<=n):Pure mc 219 [x,.int .i64 0,.int .i64 n,c] h (.tuple []):=by
 refine Pure.val (a8.tuple bb.nil) ?_;refine bd aFW rfl ?_;have a:aOT.i64.wrap (0+1)=1:=by decide
 simp only[ae,ds,a];refine aS.bI (α:=Unit) (λ_ f h'=>f 8=.int .i64 1/\f 2=.int .i64 n/\h'=h) (λ_=>0) () ⟨rfl,rfl,rfl⟩ ?_
 rintro _ f h' ⟨i,j,rfl⟩
 refine wpS ?_;have m:decide (1<n)=false:=decide_eq_false (by omega)
 simp only[ae,ds,i,j,m,k6,Tryz.results219,hK];exact ar ⟨rfl,J.refl _ _⟩
theorem So(h:I)(x c:V)(n l:Int)(a:n<=1)(i:0<=n):Pure mc 203 [x,.int .i64 0,.int .i64 n,.int .i64 l,c] h (.tuple []):=by
 refine Pure.val (a8.tuple bb.nil) ?_;refine bd aFV rfl ?_;simp only[ae];refine aS.bI (α:=Unit) (λ_ f h'=>f 0=x/\f 1=.int .i64 0/\f 2=.int .i64 n/\f 4=c/\h'=h) (λ_=>0) () ⟨rfl,rfl,rfl,rfl,rfl⟩ ?_
 rintro _ f h' ⟨j,m,q,s,rfl⟩
 refine wpS ?_;have u:aOT.i64.wrap (n-0)=n:=by rw[Go.IntWalk.i64_in _ (by omega)];omega
 have z:decide (n<=12)=true:=decide_eq_true (by omega)
 simp only[ae,ds,reduceCtorEq,j,m,q,s,u,z];refine bO (as8 _ x c n 0 a i) ?_;simp only[ae,aP,Tryz.results203,hK];exact ar ⟨rfl,J.refl _ _⟩
theorem as9(h:I)(x c:V)(n:Int)(a:n=0\/n=1)(i:dJ mc 52 x h=some (.int .i64 n)):Pure mc 179 [x,c] h (.tuple []):=by
 refine Pure.val (a8.tuple bb.nil) ?_;refine bd aFU rfl ?_;have j:aOT.u64.wrap n=n:=by rcases a with rfl|rfl<;>decide
 simp only[ae,ds,reduceCtorEq,Ge,gS,i,j];refine bO (GM h n a) ?_;simp only[ae,ds];refine bO (So h x c n n (by omega) (by omega)) ?_
 simp only[ae,k6,Tryz.results179,hK];exact ar ⟨rfl,J.refl _ _⟩
theorem ata{g:FuncId}{cf:an->an->Int}(m:SWO (ltOf cf))(A:∀a b,au mc g [.agg (aQ a),.agg (aQ b)] xz λr _=>r=.int .i64 (cf a b))
  (B:∀args w,(callFunc g args).run mc w=.ok (.enter g args) w) (h:I) (x:V) (l:List an) (u:Own h 110 5 x (l.flatMap aQ)) (z:l.length<=2^40) :
  au mc 179 [x,.func (.func g) [] []] h λr h'=>r=.tuple []/\J h h' (a7 x)/\∃q:List an,q.Perm l/\(q.Pairwise λa b=>ltOf cf b a=false)/\Own h' 110 5 x (q.flatMap aQ):=by
 refine Ve (by decide) qh (λx=>rfl) CQ m A
  (λn enc C D cf m hz cap d w av hH ak E=>AnyQ.slices_SortFunc aeC 5 Tryz.isAgg110 Tryz.sizeOf110 enc C D cf m g #[] hz 0 cap d w B av hH ak E) (λF=>?_) u (by omega)
 subst F;have j:dJ mc 52 x h=some (.int .i64 0):=by
  rcases u with⟨rfl|rfl,_⟩|⟨i,s,cap,c,G,rfl,_,_,z,_⟩
  ·exact yK wF
  ·exact zz wF
  ·have:s=0:=by simp at z;omega
   subst this;exact zy wF
 exact as9 h x _ 0 (.inl rfl) j
theorem atb(h:I)(a b:an):au mc 180 [.agg (aQ a),.agg (aQ b)] h (λr h'=>r=.int .i64 (nd [jF a.aX b.aX,jF a.key b.key])/\J h h' none_):=by
 refine bd aFX rfl ?_;have cc:∀c:an,(V.agg (aQ c)).cells=some (aQ c):=λ_=>rfl;have m:∀c:an,(aQ c).length=5:=qh;have i:∀c:an,aBc 1 (aQ c)=[.int .i64 c.aX,.int .i64 c.to,.int .i64 c.val,.bool c.del]:=λ_=>rfl;have j:∀c:an,cJ (some none) (some (aQ c))=some (.int .i64 c.key):=λ_=>rfl;simp only[ae,ds,cc];refine aS.cS none_ [10,11] (.q 0 (.q 1 (.q 2 (.q 3 (.c 4 (.q 5 (.q 6 (.q 7 (.q 8 (.c 9 (.e 10 (.a 11 (.q 12 .done)) .stop))))))))))) ?_;simp only[ae,bt,ds,By,A6,bR,m,i];refine fA rfl rfl rfl (λh' _=>MN h' a.aX b.aX) ?_;simp only[ae,bt,ds,Qf,bR,m,j];refine fA rfl rfl rfl (λh' _=>MN h' a.key b.key) ?_;generalize jF a.aX b.aX=x;generalize jF a.key b.key=y;have s:∀H:I,h3 mc 46 2 [(0,.int .i64 x),(1,.int .i64 y)] H=some (.bg H.n 0 2 2,H.push (.cells (ao [x,y]) 3 none)):=λH=>by rw[mD oQ];rfl
 simp only[ae,bt,ds,s];obtain⟨u,z,A⟩:=aF.lit (h:=(h.push (.cells (aQ a) 110 none)).push (.cells (aQ b) 110 none)) (c:=ao [x,y]) (e:=3) (n:=2) (sz:=1) rfl (by decide) (by decide)
 refine cA (au.args (aA.cons z (aA.refl _ _)) (adJ u [x,y] (by simp only[axW,ayK];omega))) λr D ⟨B,C⟩=>?_
 subst B;simp only[ae,bt,ds,aP,Tryz.results180,ac];refine ar ⟨rfl,?_⟩;rw[C];exact((J.push _ _ _).bp _).trans' A
def HL(a b:an):Int:=nd [jF a.aX b.aX,jF a.key b.key]
theorem atc(a b:an):decide (HL a b<0)=q0 a b:=by
 unfold HL nd nd nd jF q0;rw[azm];simp only[decide_eq_true_eq];by_cases j:a.aX<b.aX
 ·simp[j]
 ·by_cases q:b.aX<a.aX
  ·have:¬a.aX=b.aX:=by omega
   simp[j,q,this]
  ·have e:a.aX=b.aX:=by omega
   by_cases i:a.key<b.key
   ·simp[e,i]
   ·by_cases m:b.key<a.key
    ·simp[e,i,m]
    ·simp[e,i,m]
theorem atd(a:an):q0 a a=false:=by unfold q0;exact decide_eq_false (by omega)
theorem ate(a b c:an)(i:q0 a b=true)(j:q0 b c=true):q0 a c=true:=by
 unfold q0 at *;simp only[decide_eq_true_eq]at *;omega
theorem atf(a b c:an)(i:q0 a b=false)(j:q0 b c=false):q0 a c=false:=by
 unfold q0 at *;simp only[decide_eq_false_iff_not]at *;omega
theorem HM(a b:an):ltOf HL a b=q0 a b:=atc a b
theorem atg:ad3 SG:=λh x l m q=>by
 refine(ata (cf:=HL) ⟨λa=>by rw[HM];exact atd a,λa b c i j=>by rw[HM]at *;exact ate a b c i j,λa b c i j=>by rw[HM]at *;exact atf a b c i j⟩
  (λa b=>(atb xz a b).mono λr h' U=>U.1) (enters_of aFX (by kernel_rfl) rfl) h x l m q).mono λr h' ⟨i,j,s,u,z,m⟩=>⟨i,j,s,u,z.imp λ{a b} A=>by rwa[HM]at A,m⟩
theorem Xh{t:Int}:d8 t=true↔0<=t/\t<=1099511627776:=by simp[d8]
def ng:fc->TypeId
 | .kv=>256
 | .dW _=>259
 | .fi _=>262
inductive js(h:I)(i:Nat):List Nat->fc->List an->Prop
 | kv {v:V} {l:List eL} (k:fU h i v 1024 l):js h i (i::(aU v).toList) .kv (l.map va)
 | dW {m cl:Nat} {g:Int} {e:e6} {l:List an} (k:aef h i m g e cl) (r:e7 g e l) (w:dX (.dW g) l):js h i [i,m] (.dW g) l
 | fi {v:V} {g:Int} {l:List an} (k:dI h i v 1024 g l):js h i (i::(aU v).toList) (.fi g) l
theorem mem_io{i:Nat}{v:V}{q:Nat}:q∈i::(aU v).toList↔q=i\/aU v=some q:=by
 cases h:aU v<;>simp[eq_comm]
def e8(h:I)(O a:List Nat):Prop:=∀x∈a,x∈O\/h.n<=x
theorem e8.refl(h:I)(O:List Nat):e8 h O O:=λ_ i=>.inl i
theorem e8.of{h:I}{i:Nat}{v v':V}(d:cu h v v'):e8 h (i::(aU v).toList) (i::(aU v').toList):=λx j=>by
 rcases mem_io.1 j with rfl|j
 ·exact .inl (by simp)
 ·rcases d with d|d
  ·exact .inl (mem_io.2 (.inr (by rw[<-d];exact j)))
  ·exact .inr (d x j)
section
variable {h h':I} {i:Nat} {O:List Nat} {K:fc} {l:List an}
theorem js.lt(k:js h i O K l):∀q∈O,q<h.n:=by
 cases k with
 | kv k=>intro q j;rcases mem_io.1 j with rfl|j;exact k.lt;exact k.own.lt q j
 | dW k r w=>intro q j;simp at j;rcases j with rfl|rfl;exact k.k.lt;exact k.k.qY
 | fi k=>intro q j;rcases mem_io.1 j with rfl|j;exact k.lt;exact k.own.lt q j
theorem js.ai{M:Nat->Prop}(k:js h i O K l)(u:J h h' M)(s:∀q∈O,¬M q):js h' i O K l:=by
 cases k with
 | kv k=>exact .kv (k.ai u (s _ (by simp)) λj z=>s j (mem_io.2 (.inr z)))
 | dW k r w=>exact .dW ⟨k.k.ai u (s _ (by simp)) (s _ (by simp)),k.st,k.GJ,k.aX⟩ r w
 | fi k=>exact .fi (k.ai u (s _ (by simp)) λj z=>s j (mem_io.2 (.inr z)))
theorem js.ba(k:js h i O K l)(j:J h h' none_):js h' i O K l:=k.ai j λ_ _=>by simp[none_]
theorem js.wf(k:js h i O K l):dX K l:=by
 cases k with
 | kv k=>
  refine⟨Q2 k.oz,by rw[axT];have:=k.len;omega,λx j=>?_,trivial⟩
  obtain⟨a,b,_,rfl⟩:=(JB k.oz).1 j;exact⟨rfl,by simp[iu,q2]⟩
 | dW k r w=>exact w
 | fi k=>exact⟨k.nb,k.len,λx j=>⟨(k.ok x j).del,aep (k.ok x j)⟩,k.g1,by have:=k.g2;omega⟩
theorem aeF{t:Int}:nc t=d8 t:=by simp[nc,d8]
theorem ath(k:js h i O K l)(r:Rec)(a:d8 r.t=true):Pure mc 198 [.iface (ng K) (.ptr i 0),.agg (aK r)] h (.int .i64 (M5 K l r.k r.t)):=by
 have j:=Xh.1 a;cases k with
 | kv k=>
  have:=arP k r;rw[<-aez (v:=0) (d:=false) k.oz]at this;exact this
 | dW k m w=>
  have:=asD k.k r j.1 j.2;rw[<-m.val (v:=0) k.GJ w.nb]at this;exact this
 | fi k=>
  have:=asH k r;rw[show xL _ _ _ _=found _ _ _ _ from by rw[xL,if_pos (by rw[aeF];exact a)]]at this
  exact this
def kF(cs:List an):V:=.af cs.length (cs.flatMap aQ)
theorem aeG{h':I}{j:Nat}{c:an}(o:Own h' 110 5 (.bg j 0 1 1) (aQ c))(t m:Int):∃a,aF (.tuple [.bg j 0 1 1,.int .i64 t,.int .i64 m]) h' (.tuple [kF [c],.int .i64 t,.int .i64 m]) a/\J h' a (λq=>q=j):=by
 obtain⟨a,s,u⟩:=aF.own o (n:=1) rfl (by decide)
 refine⟨a,aF.tuple (aA.cons ?_ (aA.refl _ _)),u.mono λq z=>by simpa [a7,aU,eq_comm]using z⟩
 have:kF [c]=.af 1 (aQ c):=by simp[kF]
 rw[this];exact s
theorem ati{m cl:Nat}{room size:Int}{e:e6}(k:ej h i m room size (j6 e) cl)(r:Rec)(n:Int)(A:0<=r.t)(B:r.t<=1099511627776)(D:(bQ e (r.k,eH size r.t)).isSome=false)(F:room<=(e.length:Int)) :
  au mc 199 [.iface 259 (.ptr i 0),.agg (aK r),.int .i64 n] h (λq h'=>∃c t,q=.tuple [c,.int .i64 t,.int .i64 3]/\J h h' none_):=by
 obtain⟨j,G,s⟩:=r;refine bd aBJ rfl ?_;unfold aK;obtain⟨H,hH,u,_,ox⟩:=b0 h (.cells [.int .i64 j,.int .i64 G,.int .i64 s] 45 none);simp only[ae,ds,AS,By,reduceCtorEq,vx,td,bR,W4,W5];rw[<-hH];clear hH;refine cA (ar2 H i m cl room size j s n e (k.ba u) D F A B) λq L ⟨ay,M⟩=>?_;subst ay;obtain⟨C,N⟩:∃y,y=(⟨0,0,0,0,false⟩:an):=⟨_,rfl⟩;rw[<-N];have cc:∀c:an,(V.agg (aQ c)).cells=some (aQ c):=λ_=>rfl;have Q:∀c:an,bA (some 5) (aR.cells [V.int .i64 0,V.int .i64 0,V.int .i64 0,V.int .i64 0,V.bool false] 110 none) 0 (aQ c)=some (.cells (aQ c) 110 none):=λ_=>rfl;obtain⟨a,z,R,S,dd⟩:=b0 L (.cells (aQ C) 110 none);simp only[ae,ds,oR,qS,cc,Q];rw[<-z];clear z;have T:=MB a C;have W:cJ (some (some 5)) (some (aQ C))=some (.agg (aQ C)):=rfl;have X:cO (.cells (aQ C) 110 none) 0=some (aQ C):=rfl;have Y:cO (.cells (aQ C) 110 none) 1=some [.int .i64 C.aX,.int .i64 C.to,.int .i64 C.val,.bool C.del]:=rfl;generalize bN:aQ C=E at *;refine aS.cS none_ [1] (.q 0 (.q 2 (.q 3 (.q 4 (.e 1 (.q 5 (.q 6 (.q 7 .done))) .stop))))) ?_;simp only[ae,bt,ds,A6,ou,bR,S,T,W,X,Y,aP,aBK,xx];have Z:J a (a.push (.cells E 110 none)) none_:=J.push _ _ _;exact ar ⟨_,_,rfl,(u.trans' M).trans' (R.trans' Z)⟩
theorem atj(h:I)(i:Nat)(v:V)(room g key time val:Int)(l:List an)(a:nc time=true)(j:found g l key time=[])(m:room<=(l.length:Int))(k:dI h i v room g l) :
  au mc 217 [.ptr i 0,.int .i64 key,.int .i64 time,.int .i64 val] h (λr h'=>r=.tuple [.af 0 [],.int .i64 3]/\h'=h):=by
 refine au.cast ?_;refine bd aFO rfl ?_;have s:=k.get;have u:=k.vH h;have z:decide (room<=(l.length:Int))=true:=decide_eq_true m;simp only[ae,ds,reduceCtorEq,Qn];refine bO (WN time h) ?_;simp only[ae,ds,reduceCtorEq,a];refine bO (WX h i v room g key time l k) ?_;have A:xL g l key time=[]:=by rw[xL,if_pos a,j]
 rw[A];have B:(((0:Nat):Int)==0)=true:=rfl;simp only[ae,ds];refine aS.cS none_ [] (.q 0 (.q 1 (.q 2 (.q 3 (.q 4 (.q 5 (.q 6 (.q 7 (.q 8 (.q 9 (.q 10 (.q 11 (.q 12 (.q 13 (.q 14 .done))))))))))))))) ?_;simp only[ae,bt,ds,AS,By,reduceCtorEq,abw,A8,wF,Gh,aY,s,u,z,B,aP,aFP,da];exact ar ⟨_,h,asR h 3,rfl,rfl⟩
theorem atk{v:V}{g:Int}(k:dI h i v 1024 g l)(r:Rec)(n:Int)(s:nc r.t=true)(u:found g l r.k r.t=[])(B:1024<=l.length) :
  au mc 199 [.iface 262 (.ptr i 0),.agg (aK r),.int .i64 n] h (λq h'=>∃c t,q=.tuple [c,.int .i64 t,.int .i64 3]/\J h h' none_):=by
 obtain⟨a,z,j⟩:=r;refine bd aBJ rfl ?_;unfold aK;obtain⟨H,hH,m,_,_⟩:=b0 h (.cells [.int .i64 a,.int .i64 z,.int .i64 j] 45 none);simp only[ae,ds,AS,By,reduceCtorEq,vx,td,bR,W6,W7,W8];rw[<-hH];clear hH;refine cA (atj H i v 1024 g a j n l s u (by omega) (k.ba m)) λq C ⟨ay,A⟩=>?_
 subst ay A;simp only[ae,Int.reduceBNe,ds,aP,aBK,xx];exact ar ⟨_,_,rfl,m⟩
theorem atl(k:js h i O K l)(r:Rec)(n:Int)(F:d8 r.t=true) :
  au mc 199 [.iface (ng K) (.ptr i 0),.agg (aK r),.int .i64 n] h (λq h'=>∃c t G H,q=.tuple [c,.int .i64 t,.int .i64 G]/\J h h' (·∈O)/\e8 h O H /\
   if uq K l r.k r.t=true then G=3/\js h' i H K l else G=0/\t=C5 K l r.k r.t/\c=kF (um K l r.k r.t n)/\js h' i H K (uo K l r.k r.t n)):=by
 have A:=Xh.1 F;cases k with
 | @kv v l k=>
  have Q:uq .kv (l.map va) r.k r.t=full 1024 l r.k:=by
   simp only[uq,pT,aey k.oz,full,axT]
   congr 1
   rw[azm,decide_eq_true_eq,decide_eq_true_eq];omega
  refine au.cast ((arR k r n).mono λq h' ⟨R,j,e,z,s,d,o,Y,Z,L⟩=>?_);subst e;have S:J h h' (·∈i::(aU v).toList):=s.mono λq u=>mem_io.2 u;cases a:full 1024 l r.k with
  | true=>
   refine⟨_,h',aF.refl _ _,_,_,_,_,rfl,S,e8.of d,?_⟩;rw[if_pos (by rw[Q];exact a)]
   refine⟨by simp[pR,a],?_⟩
   have:l6 1024 l r.k n=l:=by simp[l6,a]
   rw[this]at z;exact .kv z
  | false=>
   have gu:kN 1024 l r.k n=⟨r.k,0,0,n,false⟩:=by simp[kN,a]
   have fF:l6 1024 l r.k n=put l r.k n:=by simp[l6,a]
   rw[gu]at o;rw[fF]at z;obtain⟨D,M,B⟩:=aeG o r.t (pR 1024 l r.k);refine⟨_,D,M,_,_,_,_,rfl,S.trans B λq u U=>by omega,e8.of d,?_⟩
   rw[if_neg (by rw[Q,a];decide)]
   refine⟨by simp[pR,a],rfl,rfl,?_⟩
   have bc:uo .kv (l.map va) r.k r.t n=(put l r.k n).map va:=(as5 k.oz r.k n).symm;rw[bc];exact .kv (z.ai B Z.symm λq u U=>L (by rw[u,U]))
 | @dW m T g e l k E w=>
  have U:ev l (pT (.dW g) r.k r.t 0)=(bQ e (r.k,eH g r.t)).isSome:=E.has k.GJ rfl;have W:=E.len;cases a:uq (.dW g) l r.k r.t with
  | true=>
   simp only[uq,U,ajC,aAL,decide_eq_true_eq]at a;refine(ati k.k r n A.1 A.2 a.1 (by omega)).mono λq h' ⟨c,t,ay,s⟩=>⟨c,t,3,[i,m],ay,s.up,e8.refl _ _,?_⟩
   rw[if_pos rfl];exact⟨rfl,(js.dW k E w).ba s⟩
  | false=>
   have zQ:=a;simp only[uq,U,aEn,aCo,decide_eq_false_iff_not]at a;refine au.cast ((asE k.k r n A.1 A.2 (a.imp id λq=>by omega)).mono λq h' ⟨j,ay,z,s,o,Y⟩=>?_)
   subst ay;obtain⟨D,M,B⟩:=aeG o (eH g r.t) 0;have rU:=k.k.lt;have ga:=k.k.qY;refine⟨_,D,M,_,_,_,[i,m],rfl,(s.mono λq u=>by simp[u]).trans B λq u U=>by omega,e8.refl _ _,?_⟩
   rw[if_neg (by decide)]
   refine⟨rfl,rfl,rfl,?_⟩;have aJ:=GA (size:=g) A.1 k.k.s1;have N:aef D i m g (cz T e (r.k,eH g r.t) n) (eY T e (r.k,eH g r.t)):=⟨z.ai B (by omega) (by omega),k.st.cz _ _,k.GJ.set _ _ _,λx C=>by
    rcases aeg C with C|C
    ·rw[C];show 0<=eH g r.t/\eH g r.t<=2^41;omega
    ·exact k.aX x C⟩
   exact .dW N (E.set k.GJ w.nb _ _ _ _) (w.l6 n F zQ)
 | @fi v g l k=>
  have X:nc r.t=true:=by rw[aeF];exact F
  cases a:uq (.fi g) l r.k r.t with
  | true=>
   simp only[uq,ajC,List.isEmpty_iff,decide_eq_true_eq]at a;refine(atk k r n X a.1 a.2).mono λq h' ⟨c,t,ay,s⟩=>⟨c,t,3,i::(aU v).toList,ay,s.up,e8.refl _ _,?_⟩;rw[if_pos rfl];exact⟨rfl,(js.fi k).ba s⟩
  | false=>
   simp only[uq,aEn,aFQ,decide_eq_false_iff_not]at a;refine(asI k r n X (a.imp id λq=>by omega)).mono λq h' ⟨R,ay,z,s,d⟩=>⟨_,_,_,i::(aU R).toList,ay,s.mono λq u=>mem_io.2 u,e8.of d,?_⟩
   rw[if_neg (by decide)]
   exact⟨rfl,rfl,rfl,.fi z⟩
end
section
variable {h h':I} {i:Nat} {O:List Nat} {K:fc} {l:List an}
def HN:fc->Int->Prop
 | .kv,_=>True
 | .dW g,n=>n=g
 | .fi g,n=>n=g
theorem atm(k:js h i O K l)(n mark:Int)(W:HN K n)(a:-2^63<=mark/\mark<2^63) :
  au mc 121 [.iface (ng K) (.ptr i 0),.int .i64 n,.int .i64 mark] h (λr h'=>∃C,Own h' 110 5 r ((hY K mark l).flatMap aQ)/\(∀j,aU r=some j->h.n<=j/\j∉C)/\J h h' (·∈O)/\e8 h O C/\js h' i C K (iv K mark l)):=by
 have N:∀l:List an,hY .kv mark l=[]/\iv .kv mark l=l:=λl=>⟨by simp[hY,EO,yX],by simp[iv,yX]⟩
 cases k with
 | @kv v l k=>
  refine bd aEp rfl ?_;have s:jg mc (.iface (ng .kv) (.ptr i 0)) 259 true=some (.tuple [.dx,.bool false]):=by unfold jg;rw[aAD];rfl
  have D:jg mc (.iface (ng .kv) (.ptr i 0)) 262 true=some (.tuple [.dx,.bool false]):=by unfold jg;rw[aBO];rfl
  simp only[ae,ds,reduceCtorEq,s,D,aP,aDp,ac];refine ar ⟨_,?_,by simp[aU],J.refl _ _,e8.refl _ _,?_⟩
  ·rw[(N _).1];exact Own.ag _ _ _
  ·rw[(N _).2];exact .kv k
 | @dW m X g e l k A w=>
  obtain rfl:n=g:=W;have fy:=k.k.s1;have pE:=k.k.s2;have Q:=A.len;have ax:=w.len;refine bd aEp rfl ?_;have s:jg mc (.iface (ng (.dW n)) (.ptr i 0)) 259 true=some (.tuple [.ptr i 0,.bool true]):=by unfold jg;rw[aAD];rfl
  by_cases E:0<=mark
  ·have F:decide (0<=mark)=true:=decide_eq_true E;have Y:aOT.i64.wrap (mark-n)=mark-n:=Go.IntWalk.i64_in _ (by omega)
   simp only[ae,ds,reduceCtorEq,s,F,Y];refine cA (asO atg h i m X 1024 n (mark-n) e k.k k.st k.GJ (by omega) k.aX) λr Z ⟨G,cE,lc,kC,rC,B,u⟩=>?_
   have R:∀x:an,yX (.dW n) mark x=decide (x.to<=mark-n):=λx=>by simp[yX,E]
   have H:lc=hY (.dW n) mark l:=by
    rw[A.exp w kC rC];unfold hY EO
    congr 2
    exact aAb λx _=>(R x).symm
   have C7:iv (.dW n) mark l=l.filter λx=>!decide (x.to<=mark-n):=aAb λx _=>by rw[R x]
   rw[H]at B;simp only[ae,ds,aP,aDp,ac];have rU:=k.k.lt;have ga:=k.k.qY;refine ar ⟨[i,m],B,λj z=>⟨u j z,λa=>by have:=u j z;simp at a;omega⟩,G.mono λq L=>by simp[L],e8.refl _ _,?_⟩
   have S:=w.iv mark;rw[C7]at S⊢;refine .dW ⟨cE,?_,?_,λx M=>k.aX x (ajA.1 M).1⟩ A.filter S
   ·have T:=k.st;exact⟨λx M=>T.1 x (by
     obtain⟨y,bk,rfl⟩:=OF.1 M;exact List.mem_map_of_mem (ajA.1 bk).1),T.2.sublist ((aAs.map _).map _)⟩
   ·exact k.GJ.sublist (aAs.map _)
  ·have F:decide (0<=mark)=false:=decide_eq_false E;have ay:hY (.dW n) mark l=[]:=by
    have:l.filter (yX (.dW n) mark)=[]:=by rw[aAH];intro x _;simp[yX];omega
    simp[hY,EO,this,GK]
   have bc:iv (.dW n) mark l=l:=by
    unfold iv;rw[aBb];intro x _;simp[yX];omega
   simp only[ae,ds,reduceCtorEq,s,F,aP,aDp,ac];refine ar ⟨_,?_,by simp[aU],J.refl _ _,e8.refl _ _,?_⟩
   ·rw[ay];exact Own.ag _ _ _
   ·rw[bc];exact .dW k A w
 | @fi v g l k=>
  refine bd aEp rfl ?_;have s:jg mc (.iface (ng (.fi g)) (.ptr i 0)) 259 true=some (.tuple [.dx,.bool false]):=by unfold jg;rw[aAD];rfl
  have D:jg mc (.iface (ng (.fi g)) (.ptr i 0)) 262 true=some (.tuple [.ptr i 0,.bool true]):=by unfold jg;rw[aBO];rfl
  simp only[ae,ds,reduceCtorEq,s,D];refine cA (asT h i v 1024 g mark l k) λr Z ⟨v',B,u,G,bX,d⟩=>?_;simp only[ae,ds,aP,aDp,ac];exact ar ⟨i::(aU v').toList,B,λj z=>⟨(u j z).1,λa=>by
   rcases mem_io.1 a with rfl|a
   ·have:=(u j z).1;have:=k.lt;omega
   ·exact(u j z).2 a⟩,bX.mono λq L=>mem_io.2 L,e8.of d,.fi G⟩
theorem atn(k:js h i O K l)(n t mark:Int)(u:HN K n)(A:d8 t=true) :
  Pure mc 197 [.iface (ng K) (.ptr i 0),.int .i64 n,.int .i64 t,.int .i64 mark] h (.bool (aet K t mark)):=by
 have j:=Xh.1 A;refine Pure.val (a8.bool _) ?_;cases k with
 | @kv v l k=>
  refine bd aEq rfl ?_;have a:jg mc (.iface (ng .kv) (.ptr i 0)) 259 true=some (.tuple [.dx,.bool false]):=by unfold jg;rw[aAD];rfl
  have q:jg mc (.iface (ng .kv) (.ptr i 0)) 262 true=some (.tuple [.dx,.bool false]):=by unfold jg;rw[aBO];rfl
  simp only[ae,ds,reduceCtorEq,a,q,aP,aEr,ac];exact ar ⟨rfl,J.refl _ _⟩
 | @dW m B g e l k D w=>
  obtain rfl:n=g:=u;have z:=k.k.s1;have C:=k.k.s2;have E:=GA (size:=n) j.1 z;refine bd aEq rfl ?_;have a:jg mc (.iface (ng (.dW n)) (.ptr i 0)) 259 true=some (.tuple [.ptr i 0,.bool true]):=by unfold jg;rw[aAD];rfl
  have s:aOT.i64.wrap (eH n t+n)=eH n t+n:=Go.IntWalk.i64_in _ (by omega)
  simp only[ae,ds,reduceCtorEq,a];refine bO (QQ h i m B 1024 n t _ k.k) ?_;rw[QR j.1 j.2];simp only[ae,ds,s,aP,aEr,ac];exact ar ⟨rfl,J.refl _ _⟩
 | @fi v g l k=>
  obtain rfl:n=g:=u;have z:=k.g1;have C:=k.g2;refine bd aEq rfl ?_;have a:jg mc (.iface (ng (.fi n)) (.ptr i 0)) 259 true=some (.tuple [.dx,.bool false]):=by unfold jg;rw[aAD];rfl
  have q:jg mc (.iface (ng (.fi n)) (.ptr i 0)) 262 true=some (.tuple [.ptr i 0,.bool true]):=by unfold jg;rw[aBO];rfl
  have s:aOT.i64.wrap (t+n)=t+n:=Go.IntWalk.i64_in _ (by omega)
  simp only[ae,ds,reduceCtorEq,a,q,s,aP,aEr,ac];exact ar ⟨rfl,J.refl _ _⟩
end
end Go.Proofs.YtemdgidnhgcafaaGreatDoor.Pk
