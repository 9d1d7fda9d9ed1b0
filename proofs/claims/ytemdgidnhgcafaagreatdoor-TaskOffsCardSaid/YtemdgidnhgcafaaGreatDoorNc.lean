/-
  What functions of the program do, told of abstract states. Conditions: as each theorem says.
-/
import Derived.Test.YtemdgidnhgcafaaGreatDoorNb
import Derived.Test.YtemdgidnhgcafaaGreatDoorNa
import Derived.Test.YtemdgidnhgcafaaGreatDoorAcD
open Nat renaming lt_of_lt_of_le->IS,reduceEqDiff->ds,reduceAdd->AS,reduceLeDiff->By,le_refl->BY,log2_lt->aBL,lt_succ_self->az1,mul_lt_mul_of_pos_right->aFI,two_pow_pos->aEf,pow_add->aAA,min_eq_left->azt,mul_div_cancel->aB9,zero_add->ayP,add_zero->aAv,zero_le->Dy
open Go.Proofs.Tryz renaming prog->mc,results174->aCm,results211->aEe,func216->aFF,results216->aFG,results230->aFK,func249->aEj,results249->aBM,results205->aEk,results204->aFL,results252->aFM,results214->aFN
open List renaming cons_append->azv,nil_append->azy,take->azw,pairwise_cons->aze,filter_cons_of_pos->aBa,filter_cons_of_neg->aAR,filter_eq_self->aBb,take_left'->aAO,length_filter_le->azK,mem_of_getElem?->azq,mem_filter->ajA,getElem?_drop->azF,Pairwise->azV,mem_cons->Iz,any_eq_false->aAS,any_eq_true->aAC,getElem?_eq_some_iff->are,take_append_drop->azU,drop_eq_getElem_cons->azg,pairwise_append->aEg,filter_append->aAr,filter_filter->aA4,filter_congr->aAb,all_eq_true->ayL,all_eq_false->aFJ,take_left->azT,drop_of_length_le->azz,take_take->azY,append_assoc->axV,take_append_of_le_length->aBw,length_take->TY,take_of_length_le->ajz,append_nil->axX,length_drop->azD,drop_take->aBz,mem_of_mem_drop->aAg,drop_zero->azC,length_append->Dx,length_nil->ayK,length_cons->axW,getElem?_eq_getElem->IA
open Option renaming map_some->azE
open Int renaming reduceNeg->IN,le_refl->az4,le_trans->aAT,min_eq_left->aEi,reduceBEq->azX
open Bool renaming eq_iff_iff->azm,not_false->aBC,true_and->azR,false_eq_true->azs
open Go renaming TypeId->aOS,IntKind->aOT,FloatKind->aO5
set_option linter.unusedVariables false
set_option linter.unusedSimpArgs false
set_option maxHeartbeats 2000000
set_option maxRecDepth 20000
namespace Go.Proofs.YtemdgidnhgcafaaGreatDoor.Pk
open Go Go.Proofs Go.Proofs.YtemdgidnhgcafaaGreatDoor.Ab
def sq(c:Int):V:=.tuple [.agg [.int .i64 0,.int .i64 0,.int .i64 0],.ag,.int .i64 c]
def lN(k n t:Int)(c:V):V:=.tuple [.agg [.int .i64 k,.int .i64 n,.int .i64 t],c,.int .i64 0]
structure Af(h:I)(a:Nat)(T:aOS)(i:Nat)(e:b6)(n:Int):Prop where
 lt:a<h.n
 get:h.get a=.cells (aH e++[.int .i64 n,.iface T (.ptr i 0)]) 218 none
theorem Af.ai{h h':I}{a i:Nat}{T:aOS}{e:b6}{n:Int}{own:Nat->Prop}(s:Af h a T i e n)(j:J h h' own)(u:¬own a):Af h' a T i e n :=
 ⟨IS s.lt j.n,(j.get a s.lt u).trans s.get⟩
theorem QO{h:I}{a i:Nat}{T:aOS}{e:b6}{n:Int}(s:Af h a T i e n):Pure mc 120 [.ptr a 0] h (.bool false):=by
 obtain⟨o,m,j⟩:=e;have g:=s.get;rw[l3]at g;refine bd Tryz.func120 rfl ?_;simp only[azv,azy]at g;simp only[ae,ds,AS,By,reduceCtorEq,Jf,abH,Jn,g];exact ar ⟨rfl,rfl⟩
theorem arS{h:I}{a i:Nat}{T:aOS}{e:b6}{n:Int}(s:Af h a T i e n)(hm:dj e=true)(aw:hB h)(r:Rec)(j:Int)(M:Nat->Prop)(Y:¬M a)(Z:∀q,h.n<=q->¬M q)
  (Q:I->I->Int->V->Int->Int->Prop)
  (HH:∀h',J h h' none_->d8 r.t=true->Pure mc 198 [.iface T (.ptr i 0),.agg (aK r)] h' (.int .i64 j))
  (qP:∀h' N,J h h' none_->d8 r.t=true->c2 r.k r.v r.t j 16 e=some N->au mc 199 [.iface T (.ptr i 0),.agg (aK r),.int .i64 N] h' (λq A=>∃c t u,q=.tuple [c,.int .i64 t,.int .i64 u]/\J h' A M/\Q h' A N c t u)) :
  au mc 174 [.ptr a 0,.agg (aK r)] h (λq U=>∃D A,J h D none_/\D.n=h.n+2/\J A U (λq=>q=h.n+1) /\
   if d8 r.t=false then A=D/\q=sq 2 else match c2 r.k r.v r.t j 16 e with
   | none=>A=D/\q=sq 10
   | some N=>∃c t u,J D A M/\Q D A N c t u/\q=if u=0 then lN r.k N t c else sq u):=by
 obtain⟨E,F,z⟩:=r;obtain⟨o,m,C⟩:=e;have bN:aH (.mk o m C)=[.int .i64 o,.int .i64 m,.af C.length (C.flatMap aH)]:=l3 _ _ _;refine bd Tryz.func174 rfl ?_;unfold aK at *;obtain⟨H,hH⟩:∃y,y=(h.push (.cells [.int .i64 E,.int .i64 F,.int .i64 z] 45 none)).push (.cells [.int .i64 0,.int .i64 0,.int .i64 0] 45 none):=⟨_,rfl⟩;have B:J h H none_:=by rw[hH];exact(J.push _ _ _).bp _
 have O:H.get h.n=.cells [.int .i64 E,.int .i64 F,.int .i64 z] 45 none:=by rw[hH];exact yL
 have g1:H.get (h.n+1)=.cells [.int .i64 0,.int .i64 0,.int .i64 0] 45 none:=by rw[hH];exact zA
 have R:H.n=h.n+2:=by rw[hH];rfl
 have CU:=s.ai B (by simp[none_])
 have S:=CU.get;rw[bN]at S;simp only[azv,azy]at S;have aa:=s.lt;have ME:∀h',hB h'->Pure mc 175 [.agg [.int .i64 o,.int .i64 m,.af C.length (C.flatMap aH)],.agg [.int .i64 E,.int .i64 F,.int .i64 z],.int .i64 j] h' (pQ (c2 E F z j 16 (.mk o m C))):=λh' MF=>by
  have:=arx (.mk o m C) E F z j _ hm rfl h' MF;rw[bN]at this;exact this
 simp only at HH qP;simp only[ae,ds,reduceCtorEq,tg];rw[<-hH];clear hH;refine bO (QO CU) ?_;simp only[ae,ds,AS,By,td,bR,O];refine bO (adl z H) ?_;cases W:d8 z with
 | false=>
  rw[show decide (0<=z/\z<=1099511627776)=false from W]
  simp only[ae,ds,AS,dM,Ek,tg,vz,g1,aP,aCm,PW,iG,fq,PV];exact ar ⟨H,H,B,R,J.set _ _ _,by rw[if_pos rfl];exact⟨rfl,rfl⟩⟩
 | true=>
  rw[show decide (0<=z/\z<=1099511627776)=true from W]
  simp only[ae,ds];refine aS.cS none_ [] (.q 0 (.q 1 (.q 2 (.q 3 (.q 4 (.q 5 (.q 6 (.q 7 (.q 8 (.q 9 (.c 10 (.c 11 (.q 12 (.q 13 (.q 14 (.q 15 (.q 16 .done))))))))))))))))) ?_;simp only[ae,bt,ds,AS,By,reduceCtorEq,apI,Jf,Jn,dM,gj,S,O];refine fA rfl rfl rfl (λh' G=>HH h' (by rcases G with G|rfl;exact B.trans' G;exact B) W) ?_
  simp only[bt];refine fA rfl rfl rfl (λh' G=>ME h' ((aw.ai B).or (aw.ai B) G)) ?_;cases aI:c2 E F z j 16 (.mk o m C)with
  | none=>
   simp only[ae,bt,Int.reduceBNe,ds,AS,dM,Ek,tg,vz,pQ,g1,aP,aCm,PW,iG,fq,PV];exact ar ⟨H,H,B,R,J.set _ _ _,by rw[if_neg (by decide)];exact⟨rfl,rfl⟩⟩
  | some N=>
   simp only[ae,bt,ds,pQ];refine aS.cS (λx=>M x) [6] (.q 0 (.q 1 (.q 2 (.q 3 (.q 4 (.q 5 (.a 6 (.q 7 (.q 8 (.q 9 (.q 10 (.q 11 (.q 12 (.q 13 .done)))))))))))))) ?_;have f1:M a=False:=eq_false Y;have f2:M h.n=False:=eq_false (Z _ (BY _));simp only[ae,bt,fo,ds,AS,By,reduceCtorEq,Jf,Jn,dM,S,O,f1,f2];refine cA (qP H N B W aI) λq A ⟨c,t,u,bc,L,dn⟩=>?_;subst bc;have Wz:=L.n;have gc:=L.get (h.n+1) (by omega) (Z _ (by omega))
   have r7:=L.get h.n (by omega) (Z _ (by omega))
   rw[O]at r7;rw[g1]at gc;simp only[ae,bt,fo,ds];by_cases X:u=0
   ·have ab:(u !=0)=false:=by simp[X]
    simp only[ae,fo,ds,AS,By,vx,bR,dM,Ek,tg,vz,gc,r7,ab,aP,aCm,PW,iG,fq,PV];exact ar ⟨H,A,B,R,J.set _ _ _,by rw[if_neg (by decide)];exact⟨c,t,u,L,dn,by rw[if_pos X];rfl⟩⟩
   ·have ab:(u !=0)=true:=by simp[X]
    simp only[ae,fo,ds,AS,dM,Ek,tg,vz,gc,ab,aP,aCm,PW,iG,fq,PV];exact ar ⟨H,A,B,R,J.set _ _ _,by rw[if_neg (by decide)];exact⟨c,t,u,L,dn,by rw[if_neg X];rfl⟩⟩
theorem arT(x:bz)(W:dj x.e=true)(B:hT x.e)(h:I)(F:hB h)(T:aOS)(G:I->I->Nat->Prop)
  (X:∀H,J h H none_->au mc 113 [.agg (al x)] H (λr h'=>∃i,r=.tuple [.iface T (.ptr i 0),.int .i64 0]/\J H h' none_/\G H h' i)) :
  au mc 75 [.agg (al x)] h (λr h'=>∃a i H q,r=.tuple [.ptr a 0,.int .i64 0]/\J h H none_/\G H q i/\J q h' none_/\J h h' none_/\h.n<=a/\q.n<=a/\Af h' a T i x.e x.n):=by
 refine bd Tryz.func75 rfl ?_;obtain⟨C,s,⟨o,m,j⟩,n⟩:=x;have L:al ⟨C,s,.mk o m j,n⟩=[.int .i64 C,.af s.length (ao s),.int .i64 o,.int .i64 m,.af j.length (j.flatMap aH),.int .i64 n]:=by simp[al,l3]
 have D:aH (.mk o m j)=[.int .i64 o,.int .i64 m,.af j.length (j.flatMap aH)]:=l3 _ _ _;obtain⟨H,hH,u,M,ox⟩:=b0 h (.cells [.int .i64 C,.af s.length (ao s),.int .i64 o,.int .i64 m,.af j.length (j.flatMap aH),.int .i64 n] 68 none);have Y:Pure mc 63 [.agg [.int .i64 o,.int .i64 m,.af j.length (j.flatMap aH)]] H (ub (.mk o m j)):=by rw[<-D];exact y6 _ B H (F.ai u)
 have z:dj (.mk o m j)=true:=W;rw[L];simp only[ae,ds,AS,By,rK,gj];rw[<-hH];clear hH;refine bO Y ?_;unfold ub j4;rw[if_pos z,if_pos z];simp only[ae,ds,AS,pN,M];have N:=X H u;rw[L]at N;refine cA N λr q ⟨i,ay,A,Z⟩=>?_;subst ay;have g1:=(A.get h.n (by omega) (by simp[none_])).trans M
 simp only[ae,ds];have O:=Sy (.af (c9 (.mk o m j)).length (e5 (c9 (.mk o m j)))) (c9 (.mk o m j)) q ((F.ai u).ai A) (Rd.af _ _) (Wy _) (by have:=Wn _ (.mk o m j) rfl B;have:=Wp z;omega)
 have Ac:ug (c9 (.mk o m j))=.tuple [.agg (aH (.mk o m j)),.int .i64 0]:=by unfold ug pP o9;rw[ac1 z B];rfl
 rw[Ac,D]at O;refine bO O ?_;have en:=A.n;obtain⟨Q,R,E,g3,dd⟩:=b0 q (.cells [.int .i64 o,.int .i64 m,.af j.length (j.flatMap aH)] 66 none);have g2:=(E.get h.n (by omega) (by simp[none_])).trans g1
 simp only[ae,ds,AS,i6,bR,gj,qe,oS];rw[<-R];clear R;simp only[ae,ds,AS,By,aqc,aqy,g2,aP,Tryz.results75,da];have S:J Q (Q.push (.cells [.int .i64 o,.int .i64 m,.af j.length (j.flatMap aH),.int .i64 n,.iface T (.ptr i 0)] 218 none)) none_:=J.push _ _ _;refine ar ⟨_,i,H,q,rfl,u,Z,E.trans' S,(u.trans' A).trans' (E.trans' S),by omega,by omega,⟨by rw[df];omega,?_⟩⟩
 rw[D];exact fv
def Bf(k f:Int):V:=.agg [.int .i64 k,.int .i64 f]
theorem arU:I8 mc 302=some [0,0]:=by kernel_rfl
theorem arV(e:Bool)(a b:Int):yI mc e 302 (Bf a b)=true:=by
 cases e<;>kernel_rfl
theorem CV:∃d,eA mc 285=some (302,2,d)/\we d=false:=by
 have h:(eA mc 285).map (λq=>(q.1,q.2.1,we q.2.2))=some (302,2,false):=by kernel_rfl
 cases i:eA mc 285 with
 | none=>rw[i]at h;cases h
 | some q=>
  rw[i]at h;obtain⟨a,b,d⟩:=q;simp only[azE,Option.some.injEq,Prod.mk.injEq]at h;obtain⟨rfl,rfl,h⟩:=h;exact⟨d,rfl,h⟩
theorem arW{d:TypeDesc}(m:we d=false)(a b c e:Int):wg mc 302 d (Bf a b) (Bf c e)=some (a==c&&b==e):=by
 have h:ha [0,0] [.int .i64 a,.int .i64 b] [.int .i64 c,.int .i64 e]=some (a==c&&b==e):=by simp[ha]
 obtain⟨s,u,i,j⟩:=P2 h;obtain⟨q,_⟩:=UX arU h i j;unfold wg Bf;simp only[p7,i,j,azE,m,q];rfl
theorem AI{time size:Int}(a:0<=time)(i:1<=size):0<=time.tmod size/\time.tmod size<size/\time.tmod size<=time:=by
 rw[Int.tmod_eq_emod_of_nonneg a];exact⟨Int.emod_nonneg _ (by omega),Int.emod_lt_of_pos _ (by omega),by
  have j:=Int.emod_add_mul_ediv time size;have m:0<=size*(time / size):=Int.mul_nonneg (by omega) (Int.ediv_nonneg a (by omega))
  omega⟩
structure ej(h:I)(i m:Nat)(room size:Int)(es:List (Nat×V×V))(cl:Nat):Prop where
 get:h.get i=.cells [.int .i64 room,.int .i64 size,.map m] 287 none
 map:h.get m=.map es cl
 ne:i≠m
 lt:i<h.n
 qY:m<h.n
 s1:1<=size
 s2:size<=1048576
theorem ej.ba{h h':I}{i m cl:Nat}{room size:Int}{es:List (Nat×V×V)}(k:ej h i m room size es cl)(j:J h h' none_):ej h' i m room size es cl :=
 ⟨(j.get i k.lt (by simp[none_])).trans k.get,(j.get m k.qY (by simp[none_])).trans k.map,k.ne,IS k.lt j.n,IS k.qY j.n,k.s1,k.s2⟩
theorem arX(h:I)(room size:Int)(u:1<=room)(z:room<=1024)(a:1<=size)(i:size<=1048576) :
  au mc 148 [.int .i64 room,.int .i64 size] h (λr h'=>r=.tuple [.ptr (h.n+1) 0,.int .i64 0]/\ej h' (h.n+1) h.n room size [] 0/\J h h' none_):=by
 refine bd Tryz.func148 rfl ?_;have j:decide (room<1)=false:=decide_eq_false (by omega)
 have m:decide (1024<room)=false:=decide_eq_false (by omega)
 have q:decide (size<1)=false:=decide_eq_false (by omega)
 have s:decide (1048576<size)=false:=decide_eq_false (by omega)
 simp only[ae,ds,AS,By,reduceCtorEq,aqf,aqB,j,m,q,s,aP,Tryz.results148,da];refine ar ⟨rfl,⟨fv,(iP (by simp only[df];omega)).trans fv,by omega,by simp only[df];omega,by simp only[df];omega,a,i⟩,(J.push _ _ _).bp _⟩
theorem QP(h:I)(i m cl:Nat)(room size:Int)(es:List (Nat×V×V))(k:ej h i m room size es cl):Pure mc 177 [.ptr i 0] h (.bool false):=by
 refine Pure.val (a8.bool _) ?_;refine bd Tryz.func177 rfl ?_;have a:=k.get;have j:(size==0)=false:=by have:=k.s1;simp;omega
 simp only[ae,ds,AS,By,reduceCtorEq,Jg,apT,bR,a,j,aP,Tryz.results177,ac];exact ar ⟨rfl,J.refl _ _⟩
def Jy(size time:Int):Int:=if time<0\/1099511627776<time then -1 else time-time.tmod size
theorem QQ(h:I)(i m cl:Nat)(room size time:Int)(es:List (Nat×V×V))(k:ej h i m room size es cl):Pure mc 211 [.ptr i 0,.int .i64 time] h (.int .i64 (Jy size time)):=by
 refine Pure.val (a8.int _ _) ?_;refine bd Tryz.func211 rfl ?_;have A:=k.get;simp only[ae,IN,ds,reduceCtorEq];refine bO (QP h i m cl room size es k) ?_;by_cases j:time<0
 ·have a:decide (time<0)=true:=decide_eq_true j;simp only[ae,IN,ds,a,aP,aEe,ac];exact ar ⟨by rw[Jy,if_pos (.inl j)],J.refl _ _⟩
 have a:decide (time<0)=false:=decide_eq_false j;by_cases q:1099511627776<time
 ·have s:decide (1099511627776<time)=true:=decide_eq_true q;simp only[ae,IN,ds,a,s,aP,aEe,ac];exact ar ⟨by rw[Jy,if_pos (.inr q)],J.refl _ _⟩
 have s:decide (1099511627776<time)=false:=decide_eq_false q;have B:∀u z,cV mc .rem 2 u z (.int .i64 time) (.int .i64 size)=some (.int .i64 (time.tmod size)):=λu z=>Cr (by have:=k.s1;omega)
 obtain⟨D,E,F⟩:=AI (time:=time) (size:=size) (by omega) k.s1
 have C:aOT.i64.wrap (time-time.tmod size)=time-time.tmod size:=Go.IntWalk.i64_in _ (by omega)
 simp only[ae,IN,ds,AS,By,reduceCtorEq,Jg,bR,a,s,A,B,C,aP,aEe,ac];exact ar ⟨by rw[Jy,if_neg (by omega)],J.refl _ _⟩
theorem adn(k f:Int):(Bf k f).cells=some [.int .i64 k,.int .i64 f]:=rfl
theorem arY(h:I)(i m cl:Nat)(room size key j val:Int)(es:List (Nat×V×V))(k:ej h i m room size es cl)(D:0<=j)(E:j<=2^41):Pure mc 234 [.ptr i 0,Bf key j,.int .i64 val] h (.agg (aQ ⟨key,j,j+size,val,false⟩)):=by
 refine Pure.val (a8.agg (CQ _)) ?_;refine bd Tryz.func234 rfl ?_;have s:=k.get;have u:=k.lt;have z:∀A B,((h.push A).push B).get i=.cells [.int .i64 room,.int .i64 size,.map m] 287 none:=λA B=>(iP (by simp only[df];omega)).trans ((iP u).trans s)
 have C:aOT.i64.wrap (j+size)=j+size:=Go.IntWalk.i64_in _ (by have:=k.s1;have:=k.s2;omega)
 simp only[ae,oR,adn];refine aS.cS none_ [13] (.q 0 (.q 1 (.q 2 (.q 3 (.q 4 (.q 5 (.q 6 (.q 7 (.q 8 (.q 9 (.q 10 (.q 11 (.q 12 (.a 13 .done)))))))))))))) ?_;simp only[ae,bt,ds,AS,By,reduceCtorEq,Jg,abx,Qg,ou,bR,Bb,oR,qS,z,C,aP,Tryz.results234,tb,fq];exact ar ⟨rfl,(J.push _ _ _).bp _⟩
def eH(size time:Int):Int:=time-time.tmod size
theorem QR{size time:Int}(a:0<=time)(i:time<=1099511627776):Jy size time=eH size time:=by rw[Jy,if_neg (by omega)];rfl
theorem GA{size time:Int}(i:0<=time)(j:1<=size):0<=eH size time/\eH size time<=time/\time<eH size time+size:=by
 obtain⟨a,b,c⟩:=AI i j;unfold eH;omega
theorem arZ:∃q,eA mc 285=some q:=by
 obtain⟨d,a,_⟩:=CV;exact⟨_,a⟩
def yn(p:Int×Int):V:=Bf p.1 p.2
abbrev e6:=List (Nat×(Int×Int)×Int)
def j6(l:e6):List (Nat×V×V):=dz yn (V.int .i64) l
theorem WA{d:TypeDesc}(i:we d=false):h8 mc 302 d yn where
 eq a b:=by
  rw[show yn a=Bf a.1 a.2 from rfl,show yn b=Bf b.1 b.2 from rfl,arW i]
  rw[Option.some.injEq,azm];simp only[Bool.and_eq_true,beq_iff_eq,decide_eq_true_eq];exact⟨λh=>Prod.ext h.1 h.2,λh=>⟨congrArg Prod.fst h,congrArg Prod.snd h⟩⟩
 ok b a:=arV b a.1 a.2
 bits a:=by
  refine⟨_,rfl,?_⟩;simp[Instr.sameBits]
theorem lookW{h:I}{i cl:Nat}(l:e6)(a b:Int)(j:h.get i=.map (j6 l) cl):nB mc 285 (.map i) (.agg [.int .i64 a,.int .i64 b]) true h=some (.tuple [.int .i64 ((bQ l (a,b)).getD 0),.bool (bQ l (a,b)).isSome]):=by
 obtain⟨d,m,q⟩:=CV;have:=Lf (enc:=V.int .i64) (ok:=true) (WA q) (k:=(a,b)) m LV j;rw[show(V.agg [.int .i64 a,.int .i64 b])=yn (a,b)from rfl,this]
 cases bQ l (a,b)<;>simp[fC,gy]
theorem WB{h:I}{i cl:Nat}(l:e6)(a b v:Int)(j:h.get i=.map (j6 l) cl):vl mc 285 (.map i) (.agg [.int .i64 a,.int .i64 b]) (.int .i64 v) h=some (h.set i (.map (j6 (cz cl l (a,b) v)) (eY cl l (a,b)))):=by
 obtain⟨d,m,q⟩:=CV;exact Lg (enc:=V.int .i64) (WA q) (k:=(a,b)) m j rfl
theorem WC{h:I}{i cl:Nat}(l:e6)(a b:Int)(j:h.get i=.map (j6 l) cl):Cn mc 285 (.map i) (.agg [.int .i64 a,.int .i64 b]) h=some (h.set i (.map (j6 (im l (a,b))) cl)):=by
 obtain⟨d,m,q⟩:=CV;exact ao2 (enc:=V.int .i64) (WA q) (k:=(a,b)) m j
theorem MG(l:e6):(j6 l).length=l.length:=by simp[j6,dz]
theorem ar0(h:I)(i m cl:Nat)(room size key time val:Int)(l:e6)(k:ej h i m room size (j6 l) cl)(u:(bQ l (key,eH size time)).isSome=true\/(l.length:Int)<room)(L:0<=time)(W:time<=1099511627776) :
  au mc 216 [.ptr i 0,.int .i64 key,.int .i64 time,.int .i64 val] h (λr h'=>r=.tuple [.agg (aQ ⟨key,eH size time,eH size time+size,val,false⟩),.int .i64 0]/\ej h' i m room size (j6 (cz cl l (key,eH size time) val)) (eY cl l (key,eH size time))/\J h h' (λq=>q=m)):=by
 refine bd aFF rfl ?_;have Jz:=k.lt;have qY:=k.qY;obtain⟨M,X,Y⟩:=GA L k.s1;have Z:=QR (size:=size) L W;simp only[ae,ds,reduceCtorEq,oR];have N:=k.ba (J.push h (.cells [.int .i64 0,.int .i64 0,.int .i64 0,.int .i64 0,.bool false] 110 none) none_);refine bO (QP _ i m cl room size _ N) ?_;simp only[ae,ds,reduceCtorEq];refine bO (QQ _ i m cl room size time _ N) ?_;rw[Z];generalize eH size time=j at M X Y u⊢;have d1:decide (j<0)=false:=decide_eq_false (by omega)
 have MH:∀a b:Int,(V.agg [.int .i64 a,.int .i64 b]).cells=some [.int .i64 a,.int .i64 b]:=λ_ _=>rfl;simp only[ae,ds,AS,By,VQ,Qz,V2,d1,MH];generalize hH:(h.push (.cells [.int .i64 0,.int .i64 0,.int .i64 0,.int .i64 0,.bool false] 110 none)).push (.cells [.int .i64 key,.int .i64 j] 302 none)=H;have O:J h H none_:=by rw[<-hH];exact(J.push _ _ _).bp _
 have kk:ej H i m room size (j6 l) cl:=k.ba O;have z:=kk.get;have B:=kk.map;have g0:H.get h.n=.cells [.int .i64 0,.int .i64 0,.int .i64 0,.int .i64 0,.bool false] 110 none:=by rw[<-hH];exact(iP (by simp only[df];omega)).trans fv
 have C:H.get (h.n+1)=.cells [.int .i64 key,.int .i64 j] 302 none:=by rw[<-hH];exact fv
 have ib:H.n=h.n+2:=by rw[<-hH];rfl
 have Q:nB mc 285 (.map m) (.agg [.int .i64 key,.int .i64 j]) true H=some (.tuple [.int .i64 ((bQ l (key,j)).getD 0),.bool (bQ l (key,j)).isSome]):=lookW l key j B;have rS:vl mc 285 (.map m) (.agg [.int .i64 key,.int .i64 j]) (.int .i64 val) H=some (H.set m (.map (j6 (cz cl l (key,j) val)) (eY cl l (key,j)))):=WB l key j val B;have tw:dJ mc 285 (.map m) H=some (.int .i64 (l.length:Nat)):=by rw[Uu abI B,MG]
 have D:cJ (some (some 2)) (some [.int .i64 key,.int .i64 j])=some (.agg [.int .i64 key,.int .i64 j]):=rfl;refine aS.cS none_ [] (.q 0 (.q 1 (.q 2 (.q 3 (.q 4 (.q 5 (.q 6 (.q 7 (.q 8 (.q 9 (.q 10 .done))))))))))) ?_;simp only[ae,bt,ds,AS,By,reduceCtorEq,Ee,Ej,LO,z,C,D,Q];generalize bQ l (key,j)=o at u Q;have av:(o.isSome=true)\/(o.isSome=false/\decide (room<=(l.length:Int))=false):=by
  cases aO:o.isSome
  ·rw[aO]at u;exact .inr ⟨rfl,decide_eq_false (by simp at u;omega)⟩
  ·exact .inl rfl
 generalize o.isSome=ob at av;refine aS.cS none_ [] (.q 0 (.q 1 (.q 2 (.q 3 (.q 4 (.q 5 (.q 6 (.q 7 (.q 8 (.q 9 (.q 10 (.q 11 (.q 12 (.q 13 .done)))))))))))))) ?_;rcases av with q|⟨q,de⟩
 all_goals first|simp only[ae,bt,ds,AS,By,reduceCtorEq,abv,Ee,Ej,aY,z,tw,q,de]|simp only[ae,bt,ds,q]
 all_goals
  refine aS.cS none_ [6] (.q 0 (.q 1 (.q 2 (.q 3 (.q 4 (.q 5 (.a 6 .done))))))) ?_;simp only[ae,bt,ds,AS,By,reduceCtorEq,Ee,Ej,LO,z,C,D,rS];generalize E:H.set m (.map (j6 (cz cl l (key,j) val)) (eY cl l (key,j)))=s;have A:J H s (λq=>q=m):=by rw[<-E];exact J.set _ _ _
  have aa:s.n=H.n:=by rw[<-E];rfl
  have R:=(A.get i kk.lt (by exact k.ne)).trans z
  have S:s.get m=.map (j6 (cz cl l (key,j) val)) (eY cl l (key,j)):=by rw[<-E];exact aL
  have MI:=(A.get h.n (by omega) (by omega)).trans g0
  have F:=(A.get (h.n+1) (by omega) (by omega)).trans C
  have c4:ej s i m room size (j6 (cz cl l (key,j) val)) (eY cl l (key,j)):=⟨R,S,k.ne,by omega,by omega,k.s1,k.s2⟩
  simp only[ae,ds,AS,F,D];refine bO (arY s i m _ room size key j val _ c4 M (by omega)) ?_
  have cc:∀c:an,(V.agg (aQ c)).cells=some (aQ c):=λ_=>rfl;have st:∀c:an,bA (some 5) (aR.cells [.int .i64 0,.int .i64 0,.int .i64 0,.int .i64 0,.bool false] 110 none) 0 (aQ c)=some (.cells (aQ c) 110 none):=λ_=>rfl;have G:∀c:an,(if 5<=(aQ c).length then some (V.agg (azw 5 (aQ c)))else none)=some (.agg (aQ c)):=λ_=>rfl
  simp only[ae,ds,ou,qS,MI,cc,st,G,aP,aFG,iR,iG,fq,iQ];have T:J s (s.set h.n (.cells (aQ ⟨key,j,j+size,val,false⟩) 110 none)) (λq=>q=h.n):=J.set _ _ _;refine ar ⟨rfl,⟨(T.get i (by omega) (by omega)).trans R,(T.get m (by omega) (by omega)).trans S,k.ne,by show i<s.n;omega,by show m<s.n;omega,k.s1,k.s2⟩,?_⟩
  exact((O.up).trans' A).kB (BY _) _
theorem ar2(h:I)(i m cl:Nat)(room size key time val:Int)(l:e6)(k:ej h i m room size (j6 l) cl)(s:(bQ l (key,eH size time)).isSome=false)(F:room<=(l.length:Int))(u:0<=time)(G:time<=1099511627776) :
  au mc 216 [.ptr i 0,.int .i64 key,.int .i64 time,.int .i64 val] h (λr h'=>r=.tuple [.agg (aQ ⟨0,0,0,0,false⟩),.int .i64 3]/\J h h' none_):=by
 refine bd aFF rfl ?_;have Z:=k.lt;have qY:=k.qY;obtain⟨L,M,N⟩:=GA u k.s1;have O:=QR (size:=size) u G;simp only[ae,ds,reduceCtorEq,oR];have z:=k.ba (J.push h (.cells [.int .i64 0,.int .i64 0,.int .i64 0,.int .i64 0,.bool false] 110 none) none_);refine bO (QP _ i m cl room size _ z) ?_;simp only[ae,ds,reduceCtorEq];refine bO (QQ _ i m cl room size time _ z) ?_;rw[O];generalize eH size time=j at L M N s⊢;have Q:decide (j<0)=false:=decide_eq_false (by omega)
 have R:∀a b:Int,(V.agg [.int .i64 a,.int .i64 b]).cells=some [.int .i64 a,.int .i64 b]:=λ_ _=>rfl;simp only[ae,ds,AS,By,VQ,Qz,V2,Q,R];generalize hH:(h.push (.cells [.int .i64 0,.int .i64 0,.int .i64 0,.int .i64 0,.bool false] 110 none)).push (.cells [.int .i64 key,.int .i64 j] 302 none)=H;have A:J h H none_:=by rw[<-hH];exact(J.push _ _ _).bp _
 have B:ej H i m room size (j6 l) cl:=k.ba A;have C:=B.get;have D:=B.map;have S:H.get h.n=.cells [.int .i64 0,.int .i64 0,.int .i64 0,.int .i64 0,.bool false] 110 none:=by rw[<-hH];exact(iP (by simp only[df];omega)).trans fv
 have T:H.get (h.n+1)=.cells [.int .i64 key,.int .i64 j] 302 none:=by rw[<-hH];exact fv
 have ib:H.n=h.n+2:=by rw[<-hH];rfl
 have E:nB mc 285 (.map m) (.agg [.int .i64 key,.int .i64 j]) true H=some (.tuple [.int .i64 ((bQ l (key,j)).getD 0),.bool (bQ l (key,j)).isSome]):=lookW l key j D;have W:dJ mc 285 (.map m) H=some (.int .i64 (l.length:Nat)):=by rw[Uu abI D,MG]
 have X:cJ (some (some 2)) (some [.int .i64 key,.int .i64 j])=some (.agg [.int .i64 key,.int .i64 j]):=rfl;refine aS.cS none_ [] (.q 0 (.q 1 (.q 2 (.q 3 (.q 4 (.q 5 (.q 6 (.q 7 (.q 8 (.q 9 (.q 10 .done))))))))))) ?_;simp only[ae,bt,ds,AS,By,reduceCtorEq,Ee,Ej,LO,C,T,X,E];generalize bQ l (key,j)=o at s E;generalize o.isSome=ob at s;subst s;have Y:decide (room<=(l.length:Int))=true:=decide_eq_true F;have st:∀c:an,bA (some 5) (aR.cells [.int .i64 0,.int .i64 0,.int .i64 0,.int .i64 0,.bool false] 110 none) 0 (aQ c)=some (.cells (aQ c) 110 none):=λ_=>rfl;refine aS.cS none_ [] (.q 0 (.q 1 (.q 2 (.q 3 (.q 4 (.q 5 (.q 6 (.q 7 (.q 8 (.q 9 (.q 10 (.q 11 (.q 12 (.q 13 .done)))))))))))))) ?_;simp only[ae,bt,ds,AS,By,reduceCtorEq,abv,Ee,ou,Ej,aY,Bb,oR,qS,C,W,Y,S,aP,aFG,iR,iG,fq,iQ];refine ar ⟨rfl,A.kB (BY _) _⟩
theorem ar3(h:I)(i m cl:Nat)(room size key time:Int)(l:e6)(k:ej h i m room size (j6 l) cl)(a:0<=time)(j:time<=1099511627776) :
  Pure mc 213 [.ptr i 0,.int .i64 key,.int .i64 time] h (.tuple [.int .i64 ((bQ l (key,eH size time)).getD 0),.bool (bQ l (key,eH size time)).isSome]):=by
 refine Pure.val (a8.tuple (bb.cons (a8.int _ _) (bb.cons (a8.bool _) bb.nil))) ?_;refine bd Tryz.func213 rfl ?_;have q:=k.get;obtain⟨A,B,C⟩:=GA a k.s1;have s:=QR (size:=size) a j;simp only[ae,ds,reduceCtorEq];refine bO (QQ _ i m cl room size time _ k) ?_;rw[s];have u:decide (eH size time<0)=false:=decide_eq_false (by omega)
 have z:=lookW l key (eH size time) k.map;simp only[ae,ds,AS,By,reduceCtorEq,Ee,Ej,VQ,Qz,u,q,z,aP,Tryz.results213,da];exact ar ⟨rfl,J.refl _ _⟩
def f64(n:Int):Nat:=aO5.nearest .f64 n
theorem ar4(neg:Bool)(n:Nat):Ieee.Toward.even.cut neg n 0=n:=by
 have h:(1:Nat) <<< min 0 (n.log2+2)=1:=by rw[Nat.zero_min];rfl
 unfold Ieee.Toward.cut;simp only[h,Nat.div_one,Nat.mod_one,Nat.mul_zero];rfl
theorem ar5(n:Nat)(a:n≠0)(h:n<2^53):f64 n=(n.log2+1022)*2^52+n*2^(52-n.log2):=by
 have s:n.log2<53:=(aBL a).2 h;have i:n<2^(n.log2+1):=(aBL a).1 (az1 _);have u:n*2^(52-n.log2)<2^53:=by
  have:=aFI i (aEf (52-n.log2));rwa[<-aAA,show n.log2+1+(52-n.log2)=53 by omega]at this
 have ay:decide ((n:Int)<0)=false:=decide_eq_false (by omega)
 unfold f64 aO5.nearest aO5.encode aO5.format Ieee.Format.write Ieee.Format.nearest;rw[ay];simp only[Int.natAbs_natCast,if_neg a];have bc:max (0+(n.log2:Int)-(Ieee.double.fractionBits:Int)) Ieee.double.leastPlace=(n.log2:Int)-52:=by
  show max (0+(n.log2:Int)-((52:Nat):Int)) (-1074)=_;omega
 rw[bc];have j:((0:Int)-((n.log2:Int)-52)).toNat=52-n.log2:=by omega
 have m:((n.log2:Int)-52-0).toNat=0:=by omega
 have q:((n.log2:Int)-52-Ieee.double.leastPlace).toNat=n.log2+1022:=by
  show((n.log2:Int)-52-(-1074)).toNat=_;omega
 rw[j,m,q,ar4,Nat.shiftLeft_eq];show Ieee.double.word false (min ((n.log2+1022)*2^52+n*2^(52-n.log2)) (2047*2^52))=_;rw[azt (by omega)]
 rfl
theorem ar6(n:Nat)(h:n<2^53):((aO5.f64).decode (f64 n)).toInt .zero=some (n:Int):=by
 by_cases j:n=0
 ·subst j;decide
 have O:n.log2<53:=(aBL j).2 h;have q:n<2^(n.log2+1):=(aBL j).1 (az1 _);have u:2^n.log2<=n:=Nat.log2_self_le j;have z:n*2^(52-n.log2)<2^53:=by
  have:=aFI q (aEf (52-n.log2));rwa[<-aAA,show n.log2+1+(52-n.log2)=53 by omega]at this
 have A:2^52<=n*2^(52-n.log2):=by
  have:=Nat.mul_le_mul_right (2^(52-n.log2)) u;rwa[<-aAA,show n.log2+(52-n.log2)=52 by omega]at this
 have B:=ar5 n j h;have m:n*2^(52-n.log2) / 2^(52-n.log2)=n:=aB9 _ (aEf _);have C:n*2^(52-n.log2) % 2^(52-n.log2)=0:=Nat.mul_mod_left _ _;have D:(n*2^(52-n.log2)).log2=52:=by
  refine Nat.le_antisymm ?_ ?_
  ·exact Nat.le_of_lt_succ ((aBL (by omega)).2 z)
  ·exact(Nat.le_log2 (by omega)).2 A
 generalize n*2^(52-n.log2)=a at *;rw[B];have e:(aO5.f64).decode ((n.log2+1022)*2^52+a)=.number false a ((n.log2:Int)-52):=by
  unfold aO5.decode aO5.format Ieee.Format.read;have s:Ieee.double.signWeight=2^63:=rfl;have b:Ieee.double.binade=2^52:=rfl;have i:Ieee.double.infRung=2047*2^52:=rfl;have E:Ieee.double.leastPlace=-1074:=rfl;simp only[s,b,i,E];have F:((n.log2+1022)*2^52+a) / 2^63=0:=by omega
  have G:((n.log2+1022)*2^52+a) % 2^63=(n.log2+1022)*2^52+a:=by omega
  have H:((n.log2+1022)*2^52+a) / 2^52=n.log2+1023:=by omega
  have L:((n.log2+1022)*2^52+a) % 2^52=a-2^52:=by omega
  rw[F,G,H,L,if_neg (by omega),if_pos (by omega),show 2^52+(a-2^52)=a by omega,show(-1074:Int)+((n.log2+1023-1:Nat):Int)=(n.log2:Int)-52 by omega]
  rfl
 rw[e];unfold Ieee.Datum.toInt Ieee.Datum.integral Ieee.Toward.cut;have M:((n.log2:Int)-52).toNat=0:=by omega
 have N:(-((n.log2:Int)-52)).toNat=52-n.log2:=by omega
 simp only[M,N,Nat.shiftLeft_zero,D];rw[azt (by omega),Nat.one_shiftLeft,m]
 simp[Ieee.signed]
theorem ar8(n:Int)(a:0<=n)(h:n<=2^40):((aO5.f64).decode (f64 n)).toInt .zero=some n:=by
 obtain⟨k,rfl⟩:∃k:Nat,n=k:=⟨n.toNat,by omega⟩
 exact ar6 k (by omega)
def eT(a b:an):Prop:=a.key<b.key\/a.key=b.key/\(a.aX<b.aX\/a.aX=b.aX/\a.to<b.to)
instance (a b:an):Decidable (eT a b):=by unfold eT;infer_instance
def hv(a b:an):Bool:=decide (a.key=b.key/\a.aX=b.aX/\a.to=b.to)
theorem pq{a b:an}:hv a b=true↔a.key=b.key/\a.aX=b.aX/\a.to=b.to:=by simp[hv]
theorem adp{a b:an}:hv a b=false↔¬(a.key=b.key/\a.aX=b.aX/\a.to=b.to):=by simp[hv]
theorem GB{a b:an}(h:hv a b=true):¬eT a b:=by have:=pq.1 h;unfold eT;omega
theorem adq{a b c:an}(h:eT a b)(k:eT b c):eT a c:=by unfold eT at *;omega
theorem ar9{a b:an}(h:eT a b):¬eT b a:=by unfold eT at *;omega
theorem adr{a b:an}(h:¬eT a b)(k:¬eT b a):hv a b=true:=by rw[pq];unfold eT at *;omega
abbrev fr(l:List an):Prop:=l.Pairwise eT
def low(l:List an)(x:an):List an:=l.filter λy=>decide (eT y x)
def high(l:List an)(x:an):List an:=l.filter λy=>!decide (eT y x)
def dN(l:List an)(x:an):Nat:=(low l x).length
def ev(l:List an)(x:an):Bool:=l.any λy=>hv y x
def ic(l:List an)(x:an):List an:=l.filter λy=>!hv y x
def l7(l:List an)(x:an):List an:=low l x++x::high l x
theorem fr.split:∀{l:List an},fr l->∀x,low l x++high l x=l
 | [],_,x=>rfl
 | a::l,s,x=>by
  have i:=aze.1 s;have ih:=fr.split i.2 x;unfold low high at ih⊢;by_cases h:eT a x
  ·rw[aBa (by simpa using h),aAR (by simpa using h),azv,ih]
  ·have j:∀b∈l,¬eT b x:=λb ak u=>h (adq (i.1 b ak) u);rw[aAR (by simpa using h),aBa (by simpa using h),List.filter_eq_nil_iff.2 (by simpa using j),aBb.2 (by simpa using j)]
   rfl
theorem fr.take{l:List an}(h:fr l)(x:an):l.take (dN l x)=low l x:=by
 have:=congrArg (azw (low l x).length) (h.split x);rw[aAO rfl]at this;exact this.symm
theorem fr.drop{l:List an}(h:fr l)(x:an):l.drop (dN l x)=high l x:=by
 have:=congrArg (List.drop (low l x).length) (h.split x);rw[List.drop_left' rfl]at this;exact this.symm
theorem ads(l:List an)(x:an):dN l x<=l.length:=azK ..
theorem fr.MJ{l:List an}(h:fr l){x:an}{t:Nat}{p:an}(j:t<dN l x)(s:l[t]?=some p):eT p x:=by
 have:p∈l.take (dN l x):=azq (i:=t) (by rw[List.getElem?_take,if_pos j];exact s)
 rw[h.take]at this;simpa using(ajA.1 this).2
theorem fr.Ah{l:List an}(h:fr l){x:an}{t:Nat}{p:an}(s:dN l x<=t)(j:l[t]?=some p):¬eT p x:=by
 have:p∈l.drop (dN l x):=azq (i:=t-dN l x) (by rw[azF,show dN l x+(t-dN l x)=t by omega];exact j)
 rw[h.drop]at this;simpa using(ajA.1 this).2
theorem fr.filter{l:List an}(h:fr l)(p:an->Bool):fr (l.filter p):=azV.filter p h
theorem fr.uniq{l:List an}(h:fr l){a b:an}(aT:a∈l)(ak:b∈l)(j:hv a b=true):a=b:=by
 induction l with
 | nil=>cases aT
 | cons c l ih=>
  have h':=aze.1 h;rcases Iz.1 aT with e|aT
  ·rcases Iz.1 ak with bc|ak
   ·rw[e,bc]
   ·have i:=h'.1 b ak;rw[<-e]at i;exact absurd i (GB j)
  ·rcases Iz.1 ak with e|ak
   ·have i:=h'.1 a aT;rw[<-e]at i;exact absurd i (GB (by rw[pq]at *;omega))
   ·exact ih h'.2 aT ak
theorem fr.lO{l:List an}(h:fr l)(x:an):(ev l x=true/\∃p,l[dN l x]?=some p/\hv p x=true/\p∈l)\/(ev l x=false/\∀p,l[dN l x]?=some p->¬eT p x/\hv p x=false):=by
 cases U:ev l x
 ·refine .inr ⟨rfl,λp i=>⟨h.Ah (BY _) i,?_⟩⟩;have:=aAS.1 U p (azq i);simpa using this
 ·refine .inl ⟨rfl,?_⟩;obtain⟨q,C,s⟩:=aAC.1 U;have j:q∈high l x:=ajA.2 ⟨C,by simpa using GB s⟩
  rw[<-h.drop]at j;cases u:l.drop (dN l x)with
  | nil=>rw[u]at j;cases j
  | cons p r=>
   have i:l[dN l x]?=some p:=by
    have:=congrArg (λz=>z[0]?) u;simpa [azF]using this
   refine⟨p,i,?_,azq i⟩;have B:fr (l.drop (dN l x)):=azV.sublist (List.drop_sublist ..) h;rw[u]at j B;rcases Iz.1 j with rfl|A
   ·exact s
   ·have E:=(aze.1 B).1 q A;have D:=h.Ah (BY _) i;exact absurd (show eT p x by have:=pq.1 s;unfold eT at *;omega) D
theorem adu{l:List an}{x:an}(h:x∈l):ev l x=true:=aAC.2 ⟨x,h,pq.2 ⟨rfl,rfl,rfl⟩⟩
theorem fr.rm{l:List an}(h:fr l){x:an}(A:ev l x=true):ic l x=l.take (dN l x)++l.drop (dN l x+1):=by
 rcases h.lO x with⟨_,p,j,B,C⟩|⟨h',_⟩;rotate_left
 ·rw[A]at h';cases h'
 have D:=(are.1 j).1;have e:l=l.take (dN l x)++p::l.drop (dN l x+1):=by
  have:=azU (dN l x) l;rw[azg D,(are.1 j).2]at this;exact this.symm
 have E:∀y,y∈l->hv y x=true->y=p:=λy i s=>h.uniq i C (by rw[pq]at *;omega)
 unfold ic
 conv=>lhs;rw[e]
 have u:=h;rw[e]at u;have z:=aEg.1 u;rw[aAr,aAR (by simp[B]),aBb.2,aBb.2]
 ·intro y i;cases s:hv y x
  ·rfl
  ·have:=(aze.1 z.2.1).1 y i;exact absurd this (GB (by rw[pq]at *;omega))
 ·intro y i;cases s:hv y x
  ·rfl
  ·have:=z.2.2 y i p (by simp)
   exact absurd this (GB (by rw[pq]at *;omega))
theorem fr.ins{l:List an}(h:fr l)(x:an):l7 l x=l.take (dN l x)++[x]++l.drop (dN l x):=by rw[h.take,h.drop];simp[l7]
theorem MK{l:List an}{x y:an}:y∈l7 l x↔y=x\/y∈l:=by
 unfold l7 low high;rw[List.mem_append,Iz,ajA,ajA];by_cases h:eT y x<;>simp[h,or_comm]
theorem fr.BQ{l:List an}(h:fr l)(x:an):(l7 l x).length=l.length+1:=by
 have:=congrArg List.length (h.split x);unfold l7;simp at this⊢;omega
theorem fr.Ai{l:List an}(h:fr l){x:an}(u:ev l x=false):fr (l7 l x):=by
 refine aEg.2 ⟨h.filter _,aze.2 ⟨λy C=>?_,h.filter _⟩,λa aT b ak=>?_⟩
 ·have z:=ajA.1 C;have j:=aAS.1 u y z.1;have s:¬eT y x:=by simpa using z.2
  by_cases i:eT x y
  ·exact i
  ·exact absurd (adr s i) j
 ·have A:eT a x:=by simpa using(ajA.1 aT).2
  rcases Iz.1 ak with rfl|ak
  ·exact A
  ·have B:=ajA.1 ak;have j:=aAS.1 u b B.1;have s:¬eT b x:=by simpa using B.2
   by_cases i:eT x b
   ·exact adq A i
   ·exact absurd (adr s i) j
theorem WE(l:List an)(x:an):ev (ic l x) x=false:=by
 refine aAS.2 λy a=>?_;have:=(ajA.1 a).2;simpa using this
theorem adv{l:List an}(h:fr l){x:an}(a:ev l x=true):(ic l x).length+1=l.length:=by
 rcases h.lO x with⟨_,p,i,j,m⟩|⟨h',_⟩
 ·rw[h.rm a];have q:=(are.1 i).1;simp;omega
 ·rw[a]at h';cases h'
def hj(l cs:List an):List an:=l.filter λy=>cs.all λx=>!hv y x
theorem adw(l:List an):hj l []=l:=aBb.2 λ_ _=>rfl
theorem asa(l cs:List an)(x:an):hj l (cs++[x])=ic (hj l cs) x:=by
 unfold hj ic;rw[aA4];refine aAb λy _=>?_;rw[List.all_append];simp[Bool.and_comm]
theorem adx{l:List an}(h:fr l)(p:an->Bool):hj l (l.filter p)=l.filter λy=>!p y:=by
 refine aAb λy i=>?_;cases j:p y
 ·refine ayL.2 λx m=>?_;have a:=ajA.1 m;cases e:hv y x
  ·rfl
  ·have:=h.uniq i a.1 e;subst this;rw[j]at a;cases a.2
 ·refine aFJ.2 ⟨y,ajA.2 ⟨i,j⟩,?_⟩;simp[pq.2 (show y.key=y.key/\y.aX=y.aX/\y.to=y.to from⟨rfl,rfl,rfl⟩)]
theorem asb{l cs:List an}(h:fr l){x:an}(a:x∈l)(j:x∉cs)(m:∀y∈cs,y∈l):x∈hj l cs:=by
 refine ajA.2 ⟨a,ayL.2 λy i=>?_⟩;cases e:hv x y
 ·rfl
 ·exact absurd (h.uniq a (m y i) e▸i) j
theorem fr.hj{l:List an}(h:fr l)(cs:List an):fr (hj l cs):=h.filter _
structure kO(c:an):Prop where
 lo:0<=c.aX
 le:c.aX<=c.to
 hi:c.to<=2^40
 del:c.del=false
def oA(g k t:Int)(x:an):Bool:=decide (x.key=k/\x.aX-g<=t/\t<=x.to+g)
theorem Bh{g k t:Int}{x:an}:oA g k t x=true↔x.key=k/\x.aX-g<=t/\t<=x.to+g:=by simp[oA]
theorem WG{g k t:Int}{x y:an}(h:hv x y=true):oA g k t x=oA g k t y:=by
 obtain⟨a,i,j⟩:=pq.1 h;unfold oA;rw[a,i,j]
def found(g:Int)(l:List an)(k t:Int):List an:=l.filter (oA g k t)
def Aj(g:Int)(l:List an)(k t:Int):List an:=l.filter λx=>!oA g k t x
def kP(t:Int)(cs:List an):Int:=cs.foldl (λa c=>min a c.aX) t
def ll(t:Int)(cs:List an):Int:=cs.foldl (λa c=>max a c.to) t
theorem asc(t:Int)(cs:List an)(c:an):kP t (cs++[c])=min (kP t cs) c.aX:=by simp[kP]
theorem asd(t:Int)(cs:List an)(c:an):ll t (cs++[c])=max (ll t cs) c.to:=by simp[ll]
theorem QT:∀(cs:List an) (t:Int),kP t cs<=t/\∀x∈cs,kP t cs<=x.aX
 | [],t=>⟨az4 _,by simp⟩
 | c::cs,t=>by
  obtain⟨i,j⟩:=QT cs (min t c.aX);refine⟨aAT i (by omega),λx a=>?_⟩
  rcases Iz.1 a with rfl|a
  ·exact aAT i (by omega)
  ·exact j x a
theorem WH:∀(cs:List an) (t:Int),kP t cs=t\/∃x∈cs,kP t cs=x.aX
 | [],t=>.inl rfl
 | c::cs,t=>by
  rcases WH cs (min t c.aX)with h|⟨x,i,h⟩
  ·by_cases a:t<=c.aX
   ·left;rw[aEi a]at h;show kP (min t c.aX) cs=t;rw[aEi a];exact h
   ·right;refine⟨c,by simp,?_⟩;show kP (min t c.aX) cs=c.aX;rw[h];omega
  ·exact .inr ⟨x,by simp[i],h⟩
theorem QU:∀(cs:List an) (t:Int),t<=ll t cs/\∀x∈cs,x.to<=ll t cs
 | [],t=>⟨az4 _,by simp⟩
 | c::cs,t=>by
  obtain⟨i,j⟩:=QU cs (max t c.to);refine⟨aAT (by omega) i,λx a=>?_⟩
  rcases Iz.1 a with rfl|a
  ·exact aAT (by omega) i
  ·exact j x a
theorem WI:∀(cs:List an) (t:Int),ll t cs=t\/∃x∈cs,ll t cs=x.to
 | [],t=>.inl rfl
 | c::cs,t=>by
  rcases WI cs (max t c.to)with h|⟨x,a,h⟩
  ·by_cases i:c.to<=t
   ·left;show ll (max t c.to) cs=t;rw[h];omega
   ·right;refine⟨c,by simp,?_⟩;show ll (max t c.to) cs=c.to;rw[h];omega
  ·exact .inr ⟨x,by simp[a],h⟩
def fK(g:Int)(l:List an)(k t v:Int):an:=⟨k,kP t (found g l k t),ll t (found g l k t),v,false⟩
def ui(g:Int)(l:List an)(k t v:Int):List an:=l7 (Aj g l k t) (fK g l k t v)
def na(x:an):an:=⟨x.key,x.aX,x.to,0,true⟩
def ce(c x:an):Bool:=decide (x.aX≠c.aX)||decide (x.to≠c.to)
def jE(g:Int)(l:List an)(k t v:Int):List an:=((found g l k t).filter (ce (fK g l k t v))).map na++[fK g l k t v]
theorem ady{g:Int}(a:0<=g)(l:List an)(k t v:Int):oA g k t (fK g l k t v)=true:=by
 rw[Bh];have i:=(QT (found g l k t) t).1;have j:=(QU (found g l k t) t).1;exact⟨rfl,by show kP _ _-g<=t;omega,by show t<=ll _ _+g;omega⟩
theorem adz{g:Int}(i:0<=g)(l:List an)(k t v:Int):ev (Aj g l k t) (fK g l k t v)=false:=by
 refine aAS.2 λy j m=>?_;have a:=(ajA.1 j).2;rw[WG m,ady i]at a;cases a
theorem ase{g:Int}(a:0<=g){l:List an}(h:fr l)(k t v:Int):fr (ui g l k t v):=(h.filter _).Ai (adz a l k t v)
theorem WJ{g:Int}{l:List an}(h:∀x∈l,kO x){k t:Int}(v:Int)(j:0<=t)(m:t<=2^40):kO (fK g l k t v):=by
 have i:∀x∈found g l k t,kO x:=λx a=>h x (ajA.1 a).1;refine⟨?_,?_,?_,rfl⟩
 ·rcases WH (found g l k t) t with e|⟨x,a,e⟩
  ·show 0<=kP _ _;omega
  ·have:=(i x a).lo;show 0<=kP _ _;omega
 ·exact aAT (QT _ _).1 (QU _ _).1
 ·rcases WI (found g l k t) t with e|⟨x,a,e⟩
  ·show ll _ _<=_;omega
  ·have:=(i x a).hi;show ll _ _<=_;omega
theorem CX{g:Int}{l:List an}{k t v:Int}{x:an}:x∈ui g l k t v↔x=fK g l k t v\/x∈l/\oA g k t x=false:=by
 unfold ui;rw[MK];unfold Aj;rw[ajA];simp
theorem asf{g:Int}{l:List an}(h:∀x∈l,kO x){k t:Int}(v:Int)(i:0<=t)(j:t<=2^40):∀x∈ui g l k t v,kO x:=λx a=>by
 rcases CX.1 a with rfl|a
 ·exact WJ h v i j
 ·exact h x a.1
theorem asg(g:Int)(l:List an)(k t:Int):(found g l k t).length+(Aj g l k t).length=l.length:=by
 unfold found Aj
 induction l with
 | nil=>rfl
 | cons a l ih=>cases h:oA g k t a<;>simp[h]<;>omega
theorem ash{g:Int}(j:0<=g){l:List an}(h:fr l)(k t v:Int):ic (hj l ((found g l k t).filter (ce (fK g l k t v)))) (fK g l k t v)=Aj g l k t:=by
 unfold ic hj Aj;rw[aA4];refine aAb λy m=>?_;cases a:oA g k t y
 ·have q:hv y (fK g l k t v)=false:=by
   cases e:hv y (fK g l k t v)
   ·rfl
   ·rw[WG e,ady j]at a;cases a
  rw[q];simp only[aBC,azR];refine ayL.2 λx s=>?_;have u:=ajA.1 (ajA.1 s).1;cases e:hv y x
  ·rfl
  ·rw[WG e,u.2]at a;cases a
 ·cases e:hv y (fK g l k t v)
  ·simp only[aBC,Bool.not_true,azR];refine aFJ.2 ⟨y,ajA.2 ⟨ajA.2 ⟨m,a⟩,?_⟩,by simp[hv]⟩
   have z:=(Bh.1 a).1;have A:=adp.1 e;unfold ce;by_cases i:y.aX=(fK g l k t v).aX
   ·have:y.to≠(fK g l k t v).to:=λB=>A ⟨z,i,B⟩;simp[this]
   ·simp[i]
  ·simp
structure Good(g:Int)(l:List an)(P:List (Int×Int)):Prop where
 nb:fr l
 ok:∀x∈l,kO x
 sep:∀x∈l,∀y∈l,x.key=y.key->hv x y=false->x.to+g<y.aX\/y.to+g<x.aX
 aX:∀x∈l,(x.key,x.aX)∈P
 to:∀x∈l,(x.key,x.to)∈P
 adA:∀k t,(k,t)∈P->∃x∈l,x.key=k/\x.aX<=t/\t<=x.to
 ML:∀x∈l,∀t,x.aX<t->t<=x.to->∃p,(x.key,p)∈P/\t-g<=p/\p<t
theorem Good.nil(g:Int):Good g [] []:=⟨azV.nil,by simp,by simp,by simp,by simp,by simp,by simp⟩
theorem Good.put{g:Int}(aw:1<=g){l:List an}{P:List (Int×Int)}(w:Good g l P){k t:Int}(v:Int)(Y:0<=t)(E:t<=2^40):Good g (ui g l k t v) ((k,t)::P):=by
 obtain⟨Z,a2⟩:=QT (found g l k t) t;obtain⟨dH,b8⟩:=QU (found g l k t) t;have F:=WH (found g l k t) t;have G:=WI (found g l k t) t;have D:∀x,x∈found g l k t↔x∈l/\x.key=k/\x.aX-g<=t/\t<=x.to+g:=λx=>by unfold found;rw[ajA,Bh]
 have cr:∀x,oA g k t x=false↔¬(x.key=k/\x.aX-g<=t/\t<=x.to+g):=λx=>by rw[<-Bh];cases oA g k t x<;>simp
 have W:∀x∈l,x.key=k->oA g k t x=false->x.to+g<kP t (found g l k t)\/ll t (found g l k t)+g<x.aX:=λx i aa H=>by
  have L:t<x.aX-g\/x.to+g<t:=by have:=(cr x).1 H;omega
  have BR:=w.ok x i;have M:=BR.le;rcases L with L|L
  ·right;rcases G with e|⟨y,u,e⟩
   ·omega
   ·have A:=(D y).1 u;have B:hv y x=false:=by
     cases bc:hv y x
     ·rfl
     ·have:=pq.1 bc;omega
    have:=w.sep y A.1 x i (by omega) B
    have:=(w.ok y A.1).le;omega
  ·left;rcases F with e|⟨y,u,e⟩
   ·omega
   ·have A:=(D y).1 u;have B:hv y x=false:=by
     cases bc:hv y x
     ·rfl
     ·have:=pq.1 bc;omega
    have:=w.sep y A.1 x i (by omega) B
    have:=(w.ok y A.1).le;omega
 refine⟨ase (by omega) w.nb k t v,asf w.ok v Y E,λx i y u N B=>?_,λx i=>?_,λx i=>?_,λk' j s=>?_,λx i j E O=>?_⟩
 ·rcases CX.1 i with rfl|i<;>rcases CX.1 u with rfl|u
  ·rw[adp]at B;exact absurd ⟨rfl,rfl,rfl⟩ B
  ·have:=W y u.1 N.symm u.2;show ll _ _+g<y.aX\/y.to+g<kP _ _;omega
  ·have:=W x i.1 N i.2;show x.to+g<kP _ _\/ll _ _+g<x.aX;omega
  ·exact w.sep x i.1 y u.1 N B
 ·rcases CX.1 i with rfl|i
  ·rcases F with e|⟨y,u,e⟩
   ·exact Iz.2 (.inl (by show(k,kP _ _)=_;rw[e]))
   ·have A:=(D y).1 u;refine Iz.2 (.inr ?_);show(k,kP _ _)∈P;rw[e,<-A.2.1];exact w.aX y A.1
  ·exact Iz.2 (.inr (w.aX x i.1))
 ·rcases CX.1 i with rfl|i
  ·rcases G with e|⟨y,u,e⟩
   ·exact Iz.2 (.inl (by show(k,ll _ _)=_;rw[e]))
   ·have A:=(D y).1 u;refine Iz.2 (.inr ?_);show(k,ll _ _)∈P;rw[e,<-A.2.1];exact w.to y A.1
  ·exact Iz.2 (.inr (w.to x i.1))
 ·rcases Iz.1 s with e|s
  ·cases e;exact⟨fK g l k t v,CX.2 (.inl rfl),rfl,Z,dH⟩
  ·obtain⟨x,i,ay,bc,cW⟩:=w.adA k' j s;cases Q:oA g k t x
   ·exact⟨x,CX.2 (.inr ⟨i,Q⟩),ay,bc,cW⟩
   ·have X:x∈found g l k t:=ajA.2 ⟨i,Q⟩;have:=a2 x X;have:=b8 x X;exact⟨fK g l k t v,CX.2 (.inl rfl),by rw[<-ay];exact(Bh.1 Q).1.symm,by show kP _ _<=j;omega,by show j<=ll _ _;omega⟩
 ·rcases CX.1 i with rfl|i
  ·replace E:kP t (found g l k t)<j:=E
   replace O:j<=ll t (found g l k t):=O
   have key:∀p,(k,p)∈P\/p=t->j-g<=p->p<j->∃p,((fK g l k t v).key,p)∈(k,t)::P/\j-g<=p/\p<j:=λp s ay bc=>by
    refine⟨p,Iz.2 ?_,ay,bc⟩;rcases s with s|rfl
    ·exact .inr s
    ·exact .inl rfl
   by_cases M:j<=t
   ·rcases F with e|⟨z,R,e⟩
    ·omega
    ·have C:=(D z).1 R;by_cases S:j<=z.to
     ·obtain⟨p,s,ay,bc⟩:=w.ML z C.1 j (by omega) S
      rw[C.2.1]at s;exact key p (.inl s) ay bc
     ·have:=w.to z C.1;rw[C.2.1]at this;exact key z.to (.inl this) (by omega) (by omega)
   ·rcases G with e|⟨z,R,e⟩
    ·omega
    ·have C:=(D z).1 R;by_cases T:z.aX<j
     ·obtain⟨p,s,ay,bc⟩:=w.ML z C.1 j T (by omega)
      rw[C.2.1]at s;exact key p (.inl s) ay bc
     ·exact key t (.inr rfl) (by omega) (by omega)
  ·obtain⟨p,s,ay,bc⟩:=w.ML x i.1 j E O;exact⟨p,Iz.2 (.inr s),ay,bc⟩
theorem fr.yq:∀{a b:List an},fr a->fr b->(∀x,x∈a↔x∈b)->a=b
 | [],[],_,_,_=>rfl
 | [],q::r,_,_,h=>by have:=(h q).2 (by simp);cases this
 | q::r,[],_,_,h=>by have:=(h q).1 (by simp);cases this
 | p::r,q::s,aT,ak,h=>by
  have j:=aze.1 aT;have u:=aze.1 ak;have B:∀x:an,¬eT x x:=λx=>GB (pq.2 ⟨rfl,rfl,rfl⟩);have C:p=q:=by
   rcases Iz.1 ((h p).1 (by simp))with z|z
   ·exact z
   ·rcases Iz.1 ((h q).2 (by simp))with A|A
    ·exact A.symm
    ·exact absurd (u.1 p z) (ar9 (j.1 q A))
  subst C
  congr 1
  refine fr.yq j.2 u.2 λx=>⟨λi=>?_,λi=>?_⟩
  ·rcases Iz.1 ((h x).1 (by simp[i]))with e|e
   ·subst e;exact absurd (j.1 x i) (B x)
   ·exact e
  ·rcases Iz.1 ((h x).2 (by simp[i]))with e|e
   ·subst e;exact absurd (u.1 x i) (B x)
   ·exact e
def bJ(c:an):List V:=[.int .i64 c.key,.complex .f64 (f64 c.aX) (f64 c.to),.int .i64 c.val]
theorem vI(c:an):(bJ c).length=3:=rfl
theorem QV(c:an):(bJ c).all (·.one)=true:=rfl
theorem asi(c:an):bb (bJ c):=bb.cons (a8.int _ _) (bb.cons (a8.complex _ _ _) (bb.cons (a8.int _ _) bb.nil))
theorem Bi(c:an):(V.agg (bJ c)).cells=some [.int .i64 c.key,.complex .f64 (f64 c.aX) (f64 c.to),.int .i64 c.val]:=rfl
theorem asj(c:an):(V.agg (aQ c)).cells=some [.int .i64 c.key,.int .i64 c.aX,.int .i64 c.to,.int .i64 c.val,.bool c.del]:=rfl
theorem adE(n:Int)(a:0<=n)(i:n<=2^40)(h:I):oL mc 329 2 (.float .f64 (f64 n)) h=some (.int .i64 n) :=
 aph Qe xF (ar8 n a i) (by show -9223372036854775808<=n;omega) (by show n<=9223372036854775807;omega)
theorem GC(c:an)(av:kO c)(h:I):Pure mc 206 [.agg (bJ c)] h (.int .i64 c.aX):=by
 refine Pure.val (a8.int _ _) ?_;refine bd Tryz.func206 rfl ?_;have cc:=Bi c;have a:=adE c.aX av.lo (by have:=av.le;have:=av.hi;omega)
 simp only[ae,ds,AS,By,apc,apf,aby,abN,cc,a,aP,Tryz.results206,ac];exact ar ⟨rfl,(J.push _ _ _)⟩
theorem GD(c:an)(av:kO c)(h:I):Pure mc 181 [.agg (bJ c)] h (.int .i64 c.to):=by
 refine Pure.val (a8.int _ _) ?_;refine bd Tryz.func181 rfl ?_;have cc:=Bi c;have a:=adE c.to (by have:=av.lo;have:=av.le;omega) av.hi
 simp only[ae,ds,AS,By,apd,apg,aby,abN,cc,a,aP,Tryz.results181,ac];exact ar ⟨rfl,(J.push _ _ _)⟩
theorem WL(c:an)(av:kO c)(h:I):Pure mc 231 [.agg (bJ c)] h (.agg (aQ c)):=by
 refine Pure.val (a8.agg (CQ _)) ?_;refine bd Tryz.func231 rfl ?_;have cc:=Bi c;simp only[ae,oR,cc];refine aS.cS none_ [9] (.q 0 (.q 1 (.q 2 (.c 3 (.q 4 (.c 5 (.q 6 (.q 7 (.q 8 (.a 9 .done)))))))))) ?_;simp only[ae,bt,ds,AS,Gd,bR,mU];refine fA rfl rfl rfl (λh' _=>GC c av h') ?_;simp only[ae,bt,ds,AS,mU];refine fA rfl rfl rfl (λh' _=>GD c av h') ?_;simp only[ae,bt,ds,AS,By,apL,ou,bR,Bb,oR,qS,aP,Tryz.results231,tb,fq];have i:=av.del;exact ar ⟨by unfold aQ;rw[i],(J.push _ _ _).bp _⟩
theorem WM(c:an)(av:kO c)(h:I):Pure mc 182 [.agg (bJ c)] h (.agg (aQ (na c))):=by
 refine Pure.val (a8.agg (CQ _)) ?_;refine bd Tryz.func182 rfl ?_;have cc:=Bi c;simp only[ae,oR,cc];refine aS.cS none_ [7] (.q 0 (.q 1 (.q 2 (.c 3 (.q 4 (.c 5 (.q 6 (.a 7 .done)))))))) ?_;simp only[ae,bt,ds,AS,Gd,bR,mU];refine fA rfl rfl rfl (λh' _=>GC c av h') ?_;simp only[ae,bt,ds,AS,mU];refine fA rfl rfl rfl (λh' _=>GD c av h') ?_;simp only[ae,bt,ds,AS,By,ou,Bb,oR,qS,aP,Tryz.results182,tb,fq];exact ar ⟨rfl,(J.push _ _ _).bp _⟩
theorem adF(c:an)(h:I):Pure mc 235 [.agg (aQ c)] h (.agg (bJ c)):=by
 refine Pure.val (a8.agg (asi _)) ?_;refine bd Tryz.func235 rfl ?_;have cc:=asj c;have a:oL mc 2 329 (.int .i64 c.aX)=λ_=>some (.float .f64 (f64 c.aX)):=funext λh=>Vi xF Qe;have i:oL mc 2 329 (.int .i64 c.to)=λ_=>some (.float .f64 (f64 c.to)):=funext λh=>Vi xF Qe;simp only[ae,ds,AS,By,apb,ape,Vi,api,apj,Qe,Qf,A6,LC,Vu,xF,bR,mU,aqh,QA,QE,cc,aP,Tryz.results235,tb,fq];exact ar ⟨rfl,(J.push _ _ _).bp _⟩
def nc(t:Int):Bool:=decide (0<=t)&&decide (t<=1099511627776)
theorem adG{t:Int}:nc t=true↔0<=t/\t<=2^40:=by simp[nc]
theorem WN(t:Int)(h:I):Pure mc 230 [.int .i64 t] h (.bool (nc t)):=by
 refine Pure.val (a8.bool _) ?_;refine bd Tryz.func230 rfl ?_;cases a:decide (0<=t)
 ·simp only[ae,ds,reduceCtorEq,a,aP,aFK,ac];exact ar ⟨by rw[nc,a];rfl,J.refl _ _⟩
 ·simp only[ae,ds,reduceCtorEq,a,aP,aFK,ac];exact ar ⟨by rw[nc,a];rfl,J.refl _ _⟩
theorem WO{α:Type}(A M X:List α){a:Nat}(aT:A.length=a):lay (A++M) a X=A++X++M.drop X.length:=by
 unfold lay;rw[<-aT,azT,show A.length+X.length=A.length+X.length from rfl,List.drop_append]
 simp
theorem asl{α:Type}(A M X B:List α){a x b:Nat}(aT:A.length=a)(i:X.length=x)(ak:B.length=b)(j:M.length=x+b):lay (lay (A++M) a X) (a+x) B=A++X++B:=by
 rw[WO A M X aT,WO (A++X) _ B (by simp[aT,i])]
 rw[azz (l:=M.drop X.length) (by simp;omega)]
 simp
theorem asm{α:Type}(c A B X:List α){a x b:Nat}(j:c.take (a+b)=A++B)(aT:A.length=a)(ak:B.length=b)(m:X.length=x)(s:a+x+b<=c.length) :
  ∃R,lay (lay c (a+x) B) a X=A++X++(B++R)/\(lay (lay c (a+x) B) a X).length=c.length:=by
 have q:c.take a=A:=by
  have:=congrArg (azw a) j;rw[azY,azt (by omega),<-aT,azT]at this
  rw[<-aT];exact this
 have i:(lay c (a+x) B).length=c.length:=r6 _ _ _ (by omega)
 refine⟨c.drop (a+x+b),?_,by rw[r6 _ _ _ (by omega),i]⟩
 have ay:(lay c (a+x) B).take a=A:=by
  unfold lay;rw[axV,aBw (by rw[TY];omega),azY,azt (by omega),q]
 have bc:(lay c (a+x) B).drop (a+x)=B++c.drop (a+x+b):=by
  unfold lay;rw[axV,List.drop_append_of_le_length (by rw[TY];omega),azz (by rw[TY];omega),ak]
  simp
 generalize lay c (a+x) B=d at ay bc i;unfold lay;rw[ay,m,bc]
theorem WQ:xw mc 254:=⟨_,Tryz.func254,by kernel_rfl,by kernel_rfl,by kernel_rfl,by kernel_rfl,288,308,3,4,by kernel_rfl,by kernel_rfl,Tryz.underlying288,by kernel_rfl⟩
theorem asn(i len cap k j:Nat)(c cs xs:List V)(ex:Option Nat)(h:I)(o:vu h 308 3 i len cap c ex cs)(ax:len<2^40)(hk:k<=len)(N:h.get j=.cells xs 308 none)(jk:j<h.n)(iL:j≠i)
  (z:xs.length=3) (X:xs.all (·.one)=true) (mX:cs.all (·.one)=true):au mc 249 [.bg i 0 len cap,.int .i64 (k:Nat),.bg j 0 1 1] h
   (λr h'=>Own h' 308 3 r (cs.take (k*3)++xs++cs.drop (k*3))/\J h h' (λq=>q=i)/\cu h (.bg i 0 len cap) r):=by
 refine bd aEj rfl ?_;have gT:=o;obtain⟨hi,G,H,Y,A,iN,lG⟩:=gT;have Z:((1:Nat):Int)=1:=rfl;have s1:=CC (P:=mc) (t:=288) (i:=i) (o:=0) (len:=len) (cap:=cap) (k:=.i64) vy A hk lG;have mj:Own h 308 3 (.bg j 0 1 1) xs:=.inr ⟨j,1,1,xs,none,rfl,jk,N,by rw[z],by rw[ajz (by omega)],.inl ⟨by unfold b7;omega,by omega,BY _⟩⟩
 have c8:=tc (P:=mc) (t:=288) tV mj (n:=1) (by rw[z]) (by decide) X
 by_cases qm:k=len
 ·subst qm;have d1:((k:Int)==(k:Int))=true:=by simp
  obtain⟨v',h',dy,ft,j5,eS⟩:=sj (P:=mc) (t:=288) (tx:=288) yS (by decide) o.own c8 (by rw[z];rfl) (λm hm=>by
   change m*3=_ at hm;rw[H,z]at hm;exact⟨by simp only[lim];omega,by simp only[lim];omega⟩)
  simp only[ae,azX,ds,reduceCtorEq,tV,s1,Z,dy,aP,aBM,ac];refine ar ⟨?_,j5.mono λq L=>(Option.some.inj L).symm,eS⟩;rw[ajz (by omega),azz (by omega),axX]
  exact ft
 have qm:k<len:=by omega
 have d1:((k:Int)==(len:Int))=false:=by simp;omega
 have cE:=mQ (i:=len) (n:=len+1) (by omega) (by omega)
 have xJ:=mQ (i:=k) (n:=len) (by omega) (by omega)
 have av:=aaM (P:=mc) (t:=288) (i:=i) (o:=0) (len:=len) yS A;have C:(cs.take (k*3)).length=k*3:=by rw[TY];omega
 have E:(cs.drop (k*3)).length=(len-k)*3:=by rw[azD];omega
 have b3:(c.drop (k*3)).take ((len-k)*3)=cs.drop (k*3):=by rw[<-Y,aBz];congr 1;omega
 have wP:((c.drop (k*3)).take ((len-k)*3)).all (·.one)=true:=by
  rw[b3,ayL];exact λv aI=>ayL.1 mX v (aAg aI)
 have Q:(xs.drop 0).take (1*3)=xs:=by rw[azC,ajz (by omega)]
 by_cases fH:cap<len+1
 ·have d2:decide ((cap:Int)<((len+1:Nat):Int))=true:=decide_eq_true (by omega)
  have s2:=Le (P:=mc) (t:=288) (i:=i) (o:=0) (len:=len) (cap:=cap) (k:=.i64) (m:=k) vy A (by omega)
  have bT:aOT.i64.wrap (((len+1:Nat):Int)-(k:Int))=((len+1-k:Nat):Int):=by rw[Go.IntWalk.i64_in _ (by omega)];omega
  have ay:=aaN (P:=mc) (t:=288) (kq:=.i64) (o:=0) (len:=k) (cap:=cap) (n:=len+1-k) (kn:=.i64) (tn:=3) yS (by kernel_rfl) (by decide) G (by omega) A (by omega) (by simp only[lim];omega) (by simp only[lim];omega) (by simp only[];omega)
  simp only[azC]at ay;have uh:k+(len+1-k)=len+1:=by omega
  rw[uh]at ay;obtain⟨u,s⟩:∃y,y=h.push (.cells (c.take (k*3)++made [V.int .i64 0,V.complex .f64 0 0,V.int .i64 0] (len+1-k)) 308 (some 3)):=⟨_,rfl⟩;rw[<-s]at ay;have g1:u.get h.n=.cells (c.take (k*3)++made [V.int .i64 0,V.complex .f64 0 0,V.int .i64 0] (len+1-k)) 308 (some 3):=by rw[s];exact fv
  have Be:u.get j=.cells xs 308 none:=by rw[s,iP jk];exact N
  have qg:u.get i=.cells c 308 ex:=by rw[s,iP hi];exact G
  have en:u.n=h.n+1:=by rw[s];rfl
  have bx:J h u none_:=by rw[s];exact J.push _ _ _
  have D:kx mc 288 (.bg h.n 0 (len+1) b7) (some (.int .i64 (k:Int))) none none=some (.bg h.n (0+k*3) (len+1-k) (b7+0+k)):=P7 (a:=0) vy (by omega)
  have F:kx mc 288 (.bg h.n 0 (len+1) b7) (some (.int .i64 ((k+1:Nat):Int))) none none=some (.bg h.n (0+(k+1)*3) (len+1-(k+1)) (b7+0+(k+1))):=P7 (a:=0) vy (by omega)
  rw[ayP,aAv]at D F;have S:c.take (k*3)=cs.take (k*3):=by rw[<-Y,azY,azt (by omega)]
  have T:(made [V.int .i64 0,V.complex .f64 0 0,V.int .i64 0] (len+1-k)).length=(len+1-k)*3:=FE _ _;have bc:=D6 (P:=mc) (t:=288) (tx:=288) (o:=k*3) (dl:=len+1-k) (dc:=b7+k) (p:=0) (n:=1) (d:=1) (m:=1) yS g1 Be (by show min 1 (len+1-k)=1;omega) (by decide) (by simp only[];omega) (by rw[Dx,T,S,C];simp only[];omega) (by rw[Q];exact X)
  rw[Q]at bc;obtain⟨ca,M⟩:∃y,y=u.set h.n (.cells (lay (c.take (k*3)++made [V.int .i64 0,V.complex .f64 0 0,V.int .i64 0] (len+1-k)) (k*3) xs) 308 (some 3)):=⟨_,rfl⟩;rw[<-M]at bc;have g2:ca.get h.n=.cells (lay (c.take (k*3)++made [V.int .i64 0,V.complex .f64 0 0,V.int .i64 0] (len+1-k)) (k*3) xs) 308 (some 3):=by rw[M];exact aL
  have yl:ca.get i=.cells c 308 ex:=by rw[M,n1 (by omega)];exact qg
  have dw:(lay (c.take (k*3)++made [V.int .i64 0,V.complex .f64 0 0,V.int .i64 0] (len+1-k)) (k*3) xs).length=(len+1)*3:=by rw[r6 _ _ _ (by rw[Dx,T,S,C,z];omega),Dx,T,S,C];omega
  have k2:J h ca none_:=by rw[M];exact bx.trans (J.set _ _ _) λq L U=>by omega
  have Gx:=CC (P:=mc) (t:=288) (i:=i) (o:=0) (len:=len) (cap:=cap) (k:=.i64) (l:=k) vy A hk lG;rw[if_neg (by omega),ayP]at Gx
  have B:=D6 (P:=mc) (t:=288) (tx:=288) (o:=(k+1)*3) (dl:=len+1-(k+1)) (dc:=b7+(k+1)) (p:=k*3) (n:=len-k) (d:=cap-k) (m:=len-k) yS g2 yl (by show min (len-k) (len+1-(k+1))=len-k;omega) (by omega) (by simp only[];omega) (by rw[dw];simp only[];omega) wP
  simp only at B;rw[b3]at B;rw[show(k+1)*3=k*3+3 by omega]at F B
  rw[S,asl (cs.take (k*3)) (made [V.int .i64 0,V.complex .f64 0 0,V.int .i64 0] (len+1-k)) xs (cs.drop (k*3)) C z E (by rw[T];omega)]at B
  simp only[ae,azX,ds,reduceCtorEq,tV,s1,Z,d1,cE,av,d2,s2,bT,ay,D,bc];refine aS.cS none_ [8] (.q 0 (.q 1 (.q 2 (.q 3 (.q 4 (.q 5 (.q 6 (.q 7 (.a 8 .done))))))))) ?_;simp only[ae,bt,ds,reduceCtorEq,xJ,F,Gx,B,aP,aBM,ac];refine ar ⟨?_,?_,.inr λq L=>?_⟩
  ·refine Own.grown (by rw[kj,M,kj,en];omega) aL ?_
   simp only[Dx,C,E,z];omega
  ·exact(k2.trans (J.set _ _ _) λq L U=>by omega).up
  ·simp only[aU,Option.some.injEq]at L;omega
 ·have d2:decide ((cap:Int)<((len+1:Nat):Int))=false:=decide_eq_false (by omega)
  have W:len+1<=cap:=by omega
  have s2:=Le (P:=mc) (t:=288) (i:=i) (o:=0) (len:=len) (cap:=cap) (k:=.i64) (m:=len+1) vy A W;have D:=CC (P:=mc) (t:=288) (i:=i) (o:=0) (len:=len+1) (cap:=cap) (k:=.i64) (l:=k+1) vy A (by omega) W
  rw[if_neg (by omega),ayP]at D
  have F:=CC (P:=mc) (t:=288) (i:=i) (o:=0) (len:=len+1) (cap:=cap) (k:=.i64) (l:=k) vy A (by omega) W
  rw[if_neg (by omega),ayP]at F
  have Ac:wh h [.bg j 0 1 1,.bg i ((k+1)*3) (len+1-(k+1)) (cap-(k+1))]=some (.bool false):=by
   cases c with
   | nil=>simp at iN;omega
   | cons jy Ad=>simp[wh,N,G,iL]
  have cM:len*3+3<=c.length:=by omega
  have bc:=D6 (P:=mc) (t:=288) (tx:=288) (o:=(k+1)*3) (dl:=len+1-(k+1)) (dc:=cap-(k+1)) (p:=k*3) (n:=len+1-k) (d:=cap-k) (m:=len-k) yS G G (by show min (len+1-k) (len+1-(k+1))=len-k;omega) (by omega) (by simp only[];omega) (by simp only[];omega) wP
  simp only at bc;rw[b3]at bc;obtain⟨R,eF,BP⟩:=asm c (cs.take (k*3)) (cs.drop (k*3)) xs (a:=k*3) (x:=3) (b:=(len-k)*3) (by rw[azU,show k*3+(len-k)*3=len*3 by omega];exact Y) C E z (by omega)
  rw[show(k+1)*3=k*3+3 by omega]at D Ac bc
  obtain⟨u,s⟩:∃y,y=h.set i (.cells (lay c (k*3+3) (cs.drop (k*3))) 308 ex):=⟨_,rfl⟩;rw[<-s]at bc;have g1:u.get i=.cells (lay c (k*3+3) (cs.drop (k*3))) 308 ex:=by rw[s];exact aL
  have Be:u.get j=.cells xs 308 none:=by rw[s,n1 iL];exact N
  have bx:J h u (λq=>q=i):=by rw[s];exact J.set _ _ _
  have en:u.n=h.n:=by rw[s];rfl
  have eD:(lay c (k*3+3) (cs.drop (k*3))).length=c.length:=r6 _ _ _ (by rw[E];omega)
  have B:=D6 (P:=mc) (t:=288) (tx:=288) (o:=k*3) (dl:=len+1-k) (dc:=cap-k) (p:=0) (n:=1) (d:=1) (m:=1) yS g1 Be (by show min 1 (len+1-k)=1;omega) (by decide) (by simp only[];omega) (by rw[eD];simp only[];omega) (by rw[Q];exact X)
  simp only at B;rw[Q]at B;simp only[ae,azX,ds,reduceCtorEq,tV,s1,Z,d1,cE,av,d2,s2,xJ,D];refine ZX ap1 WQ Ac ?_;simp only[ae,ds,reduceCtorEq];refine aS.cS none_ [8] (.q 0 (.q 1 (.q 2 (.q 3 (.q 4 (.q 5 (.q 6 (.q 7 (.a 8 .done))))))))) ?_;simp only[ae,bt,ds,reduceCtorEq,xJ,D,F,bc,B,aP,aBM,ac];refine ar ⟨.inr ⟨i,len+1,cap,_,ex,rfl,by rw[kj,en];exact hi,aL,?_,?_,.inl ⟨A,by rw[BP];exact iN,W⟩⟩,bx.trans' (J.set _ _ _),.inl rfl⟩
  ·simp only[Dx,C,E,z];omega
  ·rw[eF,<-axV];exact aAO (by simp only[Dx,C,E,z];omega)
theorem aso(v:V)(k j:Nat)(cs xs:List V)(h:I)(o:Own h 308 3 v cs)(ax:cs.length<2^40)(W:k*3<=cs.length)(F:h.get j=.cells xs 308 none)(G:j<h.n)(X:aU v≠some j)
  (a:xs.length=3) (H:xs.all (·.one)=true) (Y:cs.all (·.one)=true):au mc 249 [v,.int .i64 (k:Nat),.bg j 0 1 1] h
   (λr h'=>Own h' 308 3 r (cs.take (k*3)++xs++cs.drop (k*3))/\J h h' (a7 v)/\cu h v r):=by
 refine au.F4 o (by decide) (λz av=>?_) λi A cap c Z ad z ok dt kk aB=>?_
 ·subst av;obtain rfl:k=0:=by simp at W;omega
  have mj:Own h 308 3 (.bg j 0 1 1) xs:=.inr ⟨j,1,1,xs,none,rfl,G,F,by rw[a],by rw[ajz (by omega)],.inl ⟨by unfold b7;omega,by omega,BY _⟩⟩
  have c8:=tc (P:=mc) (t:=288) tV mj (n:=1) (by rw[a]) (by decide) H
  obtain⟨L,h',M,ft,j5,eS⟩:=sj (P:=mc) (t:=288) (tx:=288) yS (by decide) o c8 (by rw[a];rfl) (λm B=>by
   change m*3=_ at B;rw[a]at B;simp only[ayK]at B;exact⟨by simp only[lim];omega,by simp only[lim];omega⟩)
  obtain⟨e,N,O⟩:=Cv (P:=mc) vy;have Q:((1:Nat):Int)=1:=rfl;have R:((0:Nat):Int)=0:=rfl;have s:Own h' 308 3 L (([]:List V).take (0*3)++xs++([]:List V).drop (0*3))/\J h h' (a7 v)/\cu h v L:=⟨by simpa using ft,j5,eS⟩
  rcases z with rfl|rfl
  ·have C:kx mc 288 .ag (some (.int .i64 0)) none none=some .ag:=by unfold kx;rw[N];simp only[O];rfl
   refine bd aEj rfl ?_;simp only[ae,azX,ds,reduceCtorEq,tV,R,C,Q,M,aP,aBM,ac];exact ar s
  ·have C:kx mc 288 .z0 (some (.int .i64 0)) none none=some .z0:=by unfold kx;rw[N];simp only[O];rfl
   refine bd aEj rfl ?_;simp only[ae,azX,ds,reduceCtorEq,tV,R,C,Q,M,aP,aBM,ac];exact ar s
 ·have D:aU v=some i:=by rcases z with rfl|rfl<;>rfl
  have S:j≠i:=λU=>X (by rw[D,U])
  have T:=ok.2.2.1;refine(asn i A cap k j c cs xs Z ad ok (by omega) (by omega) ((kk.get j G S).trans F) (by omega) S a H Y).mono λr h' ⟨o',k',u⟩=>⟨o',(kk.trans' k').mono λq E=>by subst E;exact D,?_⟩
  rcases u with u|u
  ·exact .inl (by rw[u,D];rfl)
  ·exact .inr λq E=>by have:=u q E;omega
theorem asp(i len cap k:Nat)(c cs:List V)(ex:Option Nat)(h:I)(o:vu h 308 3 i len cap c ex cs)(ax:len<2^40)(hk:k<len)(W:cs.all (·.one)=true) :
  au mc 248 [.bg i 0 len cap,.int .i64 (k:Nat),.int .i64 ((k+1:Nat):Int)] h
   (λr h'=>Own h' 308 3 r (cs.take (k*3)++cs.drop ((k+1)*3))/\J h h' (λq=>q=i)/\aU r=some i):=by
 refine bd Tryz.func248 rfl ?_;have X:=o;obtain⟨hi,u,M,N,j,O,D⟩:=X;obtain⟨gH,Y⟩:=ao1 (P:=mc) (t:=288) (i:=i) (o:=0) (len:=len) (cap:=cap) (k:=.i64) (k2:=.i64) (k3:=.i64) (l:=k) (m:=k+1) (n:=len) vy j (by omega) (by omega) D
 have d1:((k:Int)==((k+1:Nat):Int))=false:=by simp;omega
 have s1:=Le (P:=mc) (t:=288) (i:=i) (o:=0) (len:=len) (cap:=cap) (k:=.i64) (m:=k) vy j (by omega)
 have s2:=CC (P:=mc) (t:=288) (i:=i) (o:=0) (len:=len) (cap:=cap) (k:=.i64) (l:=k+1) vy j (by omega) D
 have E:(cs.take (k*3)).length=k*3:=by rw[TY];omega
 have z:(cs.drop ((k+1)*3)).length=(len-(k+1))*3:=by rw[azD];omega
 have b3:(c.drop ((k+1)*3)).take ((len-(k+1))*3)=cs.drop ((k+1)*3):=by rw[<-N,aBz];congr 1;omega
 have cM:len*3<=c.length:=by omega
 have QW:∃b,kx mc 288 (.bg i 0 len cap) (some (.int .i64 ((k+1:Nat):Int))) none none=some b/\fS mc 3 288 b h=some (len-(k+1),cs.drop ((k+1)*3)):=by
  refine⟨_,s2,?_⟩;obtain⟨e,h2,A⟩:=Cv (P:=mc) vy;have cb:(cs.drop ((k+1)*3)).all (·.one)=true:=ayL.2 λv aI=>ayL.1 W v (aAg aI);unfold fS;simp only[h2];by_cases Q:cap=k+1
  ·rw[if_pos Q];have B:len-(k+1)=0:=by omega
   simp only[u,B,Nat.zero_mul,List.take_zero];rw[if_pos ⟨by omega,rfl⟩,azz (by omega)]
  ·rw[if_neg Q,ayP];simp only[u];rw[b3,if_pos ⟨by omega,cb⟩]
 obtain⟨b,ak,c8⟩:=QW;have lN:vu h 308 3 i k cap c ex (cs.take (k*3)):=⟨hi,u,E,by rw[<-N,azY,azt (by omega)],j,O,by omega⟩
 obtain⟨s,R,F,DK⟩:∃s,ki mc 288 288 (.bg i 0 k cap) b h=some (.bg i 0 (len-1) cap,h.set i (.cells s 308 ex))/\s.length=c.length/\s.take ((len-1)*3)=cs.take (k*3)++cs.drop ((k+1)*3):=by
  obtain⟨G,A,bl,S,fw,_⟩:=uS (P:=mc) yS;unfold ki;simp only[G,A,bl,S,c8,axW,ayK,if_true,ayP,AS];by_cases B:len-(k+1)=0
  ·refine⟨c,?_,rfl,?_⟩
   ·rw[if_pos B,show len-1=k by omega,Uy u]
   ·rw[show len-1=k by omega,lN.2.2.2.1,azz (by omega),axX]
  ·refine⟨lay c (k*3) (cs.drop ((k+1)*3)),?_,r6 _ _ _ (by rw[z];omega),?_⟩
   ·rw[if_neg B,if_pos ⟨by simp only[lim];omega,by simp only[lim];omega⟩]
    simp only[u];rw[if_pos j,if_pos (by omega),if_pos (by omega),show k+(len-(k+1))=len-1 by omega]
   ·rw[T2 _ _ _ _ (by rw[z];omega) (by omega)]
    have:c.take ((len-1)*3)=cs.take (k*3)++(c.drop (k*3)).take ((len-1-k)*3):=by
     rw[<-lN.2.2.2.1,show(len-1)*3=k*3+(len-1-k)*3 by omega,List.take_add]
    rw[this,WO _ _ _ E,azz (l:=(c.drop (k*3)).take ((len-1-k)*3)) (by rw[TY,azD,z];omega),axX]
 obtain⟨H,C⟩:∃y,y=h.set i (.cells s 308 ex):=⟨_,rfl⟩;rw[<-C]at R;have g1:H.get i=.cells s 308 ex:=by rw[C];exact aL
 have T:=ao0 (P:=mc) (t:=288) (i:=i) (o:=0) (len:=len-1) (cap:=cap) (k:=.i64) (k2:=.i64) (l:=len-1) (m:=len) vy j (by omega) D
 rw[if_neg (by omega),ayP]at T
 have L:DM mc 288 (.bg i ((len-1)*3) (len-(len-1)) (cap-(len-1))) H=some (H.set i (.cells (lay s ((len-1)*3) (made [V.int .i64 0,V.complex .f64 0 0,V.int .i64 0] 1)) 308 ex)):=by
  obtain⟨G,A,bl,S,fw,_⟩:=uS (P:=mc) yS;unfold DM;simp only[G,A,g1];rw[show len-(len-1)=1 by omega,if_neg (by decide),if_pos ⟨rfl,by rw[FE,F];simp only[axW,ayK];omega⟩]
 simp only[ae,ds,reduceCtorEq,tV,Y,d1];refine aS.cS none_ [6] (.q 0 (.q 1 (.q 2 (.q 3 (.q 4 (.q 5 (.a 6 (.q 7 .done)))))))) ?_;simp only[ae,bt,ds,reduceCtorEq,tV,s1,ak,R,T,L,aP,Tryz.results248,ac];refine ar ⟨.inr ⟨i,len-1,cap,_,ex,rfl,by rw[kj,C,kj];exact hi,aL,?_,?_,.inl ⟨j,?_,by omega⟩⟩,?_,rfl⟩
 ·rw[Dx,E,z];omega
 ·have hm:(made [V.int .i64 0,V.complex .f64 0 0,V.int .i64 0] 1).length=3:=rfl;unfold lay;rw[axV,aBw (by rw[TY];omega),azY,Nat.min_self,DK]
 ·rw[r6 _ _ _ (by rw[FE,F];simp only[axW,ayK];omega),F];exact O
 ·rw[C];exact(J.set _ _ _).trans' (J.set _ _ _)
theorem asq(v:V)(k:Nat)(cs:List V)(h:I)(o:Own h 308 3 v cs)(G:cs.length<2^40)(u:(k+1)*3<=cs.length)(z:cs.all (·.one)=true) :
  au mc 248 [v,.int .i64 (k:Nat),.int .i64 ((k+1:Nat):Int)] h
   (λr h'=>Own h' 308 3 r (cs.take (k*3)++cs.drop ((k+1)*3))/\J h h' (a7 v)/\cu h v r):=by
 refine au.F4 o (by decide) (λj av=>?_) λi a cap c A B j ok H kk L=>?_
 ·subst av;simp at u
 ·have m:aU v=some i:=by rcases j with rfl|rfl<;>rfl
  have s:=ok.2.2.1;refine(asp i a cap k c cs A B ok (by omega) (by omega) z).mono λr h' ⟨C,D,E⟩=>⟨C,(kk.trans' D).mono λq F=>by subst F;exact m,.inl (by rw[E,m])⟩
def jF(x y:Int):Int:=if x<y then -1 else if y<x then 1 else 0
theorem adI(h:I)(x:Int):Pure mc 227 [.int .i64 x] h (.bool false):=by
 refine Pure.val (a8.bool _) ?_;refine bd Tryz.func227 rfl ?_;have e:(x !=x)=false:=by simp
 simp only[ae,ds,reduceCtorEq,aP,Tryz.results227,ac];exact ar ⟨rfl,J.refl _ _⟩
theorem MN(h:I)(x y:Int):Pure mc 205 [.int .i64 x,.int .i64 y] h (.int .i64 (jF x y)):=by
 refine Pure.val (a8.int _ _) ?_;refine bd Tryz.func205 rfl ?_;simp only[ae,IN,ds,reduceCtorEq];refine bO (adI h x) ?_;simp only[ae,IN,ds];refine bO (adI h y) ?_;by_cases a:x<y
 ·have i:decide (x<y)=true:=decide_eq_true a;simp only[ae,IN,ds,reduceCtorEq,i,aP,aEk,ac];exact ar ⟨by rw[jF,if_pos a],J.refl _ _⟩
 ·have i:decide (x<y)=false:=decide_eq_false a;by_cases j:y<x
  ·have m:decide (y<x)=true:=decide_eq_true j;simp only[ae,IN,ds,reduceCtorEq,i,m,aP,aEk,ac];exact ar ⟨by rw[jF,if_neg a,if_pos j],J.refl _ _⟩
  ·have m:decide (y<x)=false:=decide_eq_false j;simp only[ae,IN,ds,reduceCtorEq,i,m,aP,aEk,ac];exact ar ⟨by rw[jF,if_neg a,if_neg j],J.refl _ _⟩
def nd(l:List Int):Int:=match l with | []=>0|x::r=>if x=0 then nd r else x
theorem adJ(h:I)(l:List Int)(E:l.length<=2^40):Pure mc 204 [.af l.length (ao l)] h (.int .i64 (nd l)):=by
 refine Pure.val (a8.int _ _) ?_;refine bd Tryz.func204 rfl ?_;simp only[ae,ds,reduceCtorEq,fB];refine aS.bI (α:=Nat) (λx f h'=>h'=h/\f 3=.int .i64 0/\f 6=.af l.length (ao l)/\f 7=.int .i64 (l.length:Nat)/\f 8=.int .i64 (x:Nat)/\x<=l.length/\nd l=nd (l.drop x)) (λx=>l.length-x) 0
  ⟨rfl,rfl,rfl,rfl,rfl,Dy _,rfl⟩ ?_
 rintro t f h' ⟨rfl,q,A,s,B,F,j⟩
 refine wpS ?_;by_cases C:t<l.length
 ·have u:=dV (a:=t) (b:=l.length) (by omega)
  have D:=hR (i:=t) (by omega)
  have m:∃r,gP mc 46 (.af l.length (ao l)) (.int .i64 (t:Int))=some (.at (.int .i64 l[t]::r)):=⟨_,A1 (V.int .i64) C iS⟩;obtain⟨r,m⟩:=m;rw[azg C,nd]at j;generalize l[t]=x at m j;by_cases z:x=0
  ·have ay:(x !=0)=false:=by simp[z]
   rw[if_pos z]at j;simp only[ae,ds,aY,q,A,s,B,u,m,ay,D];exact ar ⟨t+1,⟨rfl,q,A,s,rfl,C,j⟩,by omega⟩
  ·have ay:(x !=0)=true:=by simp[z]
   rw[if_neg z]at j;simp only[ae,ds,aY,q,A,s,B,u,m,ay,aP,aFL,ac];exact ar ⟨by rw[j],J.refl _ _⟩
 ·have u:=eC (a:=t) (b:=l.length) (by omega)
  rw[azz (by omega)]at j
  simp only[ae,ds,q,s,B,u,aP,aFL,ac];exact ar ⟨by rw[j];rfl,J.refl _ _⟩
def BS(a b:an):Int:=nd [jF a.key b.key,jF a.aX b.aX,jF a.to b.to]
theorem asr(a b:an):decide (BS a b<0)=decide (eT a b):=by
 refine decide_eq_decide.2 ?_;unfold BS nd nd nd nd jF eT
 repeat' split
 all_goals omega
theorem ass(a b:an):(BS a b==0)=hv a b:=by
 rw[azm,pq];unfold BS nd nd nd nd jF;simp only[beq_iff_eq]
 repeat' split
 all_goals omega
theorem adK(a b:an)(aT:kO a)(ak:kO b)(h:I):Pure mc 253 [.agg (bJ a),.agg (bJ b)] h (.int .i64 (BS a b)):=by
 refine Pure.val (a8.int _ _) ?_;refine bd Tryz.func253 rfl ?_;have s:=Bi a;have u:=Bi b;simp only[ae,ds,s,u];refine aS.cS none_ [15,16] (.q 0 (.q 1 (.q 2 (.q 3 (.c 4 (.q 5 (.c 6 (.q 7 (.c 8 (.c 9 (.q 10 (.c 11 (.q 12 (.c 13 (.c 14 (.e 15 (.a 16 (.q 17 .done)) .stop)))))))))))))))) ?_;simp only[ae,bt,ds,AS,Gd,bR];refine fA rfl rfl rfl (λh' _=>MN h' a.key b.key) ?_;simp only[ae,bt,ds,AS,mU];refine fA rfl rfl rfl (λh' _=>GC a aT h') ?_;simp only[ae,bt,ds,AS,mU];refine fA rfl rfl rfl (λh' _=>GC b ak h') ?_;simp only[bt];refine fA rfl rfl rfl (λh' _=>MN h' a.aX b.aX) ?_;simp only[ae,bt,ds,AS,mU];refine fA rfl rfl rfl (λh' _=>GD a aT h') ?_;simp only[ae,bt,ds,AS,mU];refine fA rfl rfl rfl (λh' _=>GD b ak h') ?_;simp only[bt];refine fA rfl rfl rfl (λh' _=>MN h' a.to b.to) ?_;unfold BS;generalize jF a.key b.key=x;generalize jF a.aX b.aX=y;generalize jF a.to b.to=z;have A:∀H:I,h3 mc 46 3 [(0,.int .i64 x),(1,.int .i64 y),(2,.int .i64 z)] H=some (.bg H.n 0 3 3,H.push (.cells (ao [x,y,z]) 3 none)):=λH=>by rw[mD oQ];rfl
 obtain⟨j,i⟩:∃y,y=(h.push (.cells (bJ a) 308 none)).push (.cells (bJ b) 308 none):=⟨_,rfl⟩;have B:J h j none_:=by rw[i];exact(J.push _ _ _).bp _
 unfold bJ at i;simp only[ae,bt,ds,A];rw[<-i];obtain⟨C,m,D⟩:=aF.lit (h:=j) (c:=ao [x,y,z]) (e:=3) (n:=3) (sz:=1) rfl (by decide) (by decide)
 rw[show j.n=h.n+1+1 by rw[i];rfl]at m
 refine cA (au.args (aA.cons m (aA.refl _ _)) (adJ C [x,y,z] (by simp only[axW,ayK];omega))) λr G ⟨E,F⟩=>?_
 subst E;simp only[ae,bt,ds,aP,Tryz.results253,ac];refine ar ⟨rfl,?_⟩;rw[F];exact B.trans' D
theorem ast(l:List an)(k:Nat)(p:an)(a:k<l.length):lay (l.flatMap bJ) (k*3) (bJ p)=(l.set k p).flatMap bJ:=by
 unfold lay;rw[D2 vI,show k*3+(bJ p).length=(k+1)*3 by rw[vI];omega,yN vI,List.set_eq_take_append_cons_drop,if_pos a]
 simp
theorem CY{h:I}{v:V}{l:List an}(o:Own h 308 3 v (l.flatMap bJ)){t:Nat}{p:an}(a:l[t]?=some p) :
  ∃j r,gP mc 288 v (.int .i64 (t:Int))=some (.ptr j (t*3))/\aU v=some j/\j<h.n/\cO (h.get j) (t*3)=some (bJ p++r) /\
   ∀q:an,∃ob,bA (some 3) (h.get j) (t*3) (bJ q)=some ob/\Own (h.set j ob) 308 3 v ((l.set t q).flatMap bJ)/\J h (h.set j ob) (a7 v):=by
 have i:=(are.1 a).1;have u:(l.flatMap bJ).length=l.length*3:=fJ vI l;have z:((l.flatMap bJ).drop (t*3)).take 3=bJ p:=by
  rw[yN vI,show 3=1*3 from rfl,D2 vI,azg i,(are.1 a).2]
  simp
 obtain⟨j,A,B,C,D,E⟩:=U9 (P:=mc) (t:=288) (kk:=.i64) vy (by decide) o (k:=t) (by rw[u];omega)
 obtain⟨F,m⟩:=D h 0 rfl (by decide)
 rw[z,azC,aAv]at m;refine⟨j,F,A,B,C,m,λq=>?_⟩;obtain⟨ob,G,s,H⟩:=E (bJ q) (vI q) (QV q);rw[ast l t q i]at s;exact⟨ob,G,s,H⟩
theorem adL{h h':I}{v:V}{l:List an}(o:Own h 308 3 v (l.flatMap bJ)):dJ mc 288 v h'=some (.int .i64 (l.length:Nat)):=by
 have a:(l.flatMap bJ).length=l.length*3:=fJ vI l;have:=o.length (by decide) mc tV
 rw[a,aB9 _ (by decide)]at this
 rw[<-this];rcases o with⟨rfl|rfl,_⟩|⟨j,n,c,_,_,rfl,_⟩
 ·rw[yK tV,yK tV]
 ·rw[zz tV,zz tV]
 ·rw[zy tV,zy tV]
theorem QX(p:an)(r:List V):cJ (some (some 3)) (some (bJ p++r))=some (.agg (bJ p)):=be (vI p)
theorem WS(v:V)(l:List an)(x:an)(h:I)(o:Own h 308 3 v (l.flatMap bJ))(A:fr l)(W:∀y∈l,kO y)(X:kO x)(ax:l.length<2^40) :
  Pure mc 252 [v,.agg (bJ x),.func (.func 253) [] []] h (.tuple [.int .i64 (dN l x:Nat),.bool (ev l x)]):=by
 refine Pure.val (a8.tuple (bb.cons (a8.int _ _) (bb.cons (a8.bool _) bb.nil))) ?_;refine bd Tryz.func252 rfl ?_;obtain⟨H,hH,L,Y,_⟩:=b0 h (.cells (bJ x) 308 none);have M:=o.ba L;have GF:=Bi x;have u:=adL (h':=H) M;have Z:cJ (some (some 3)) (some (bJ x))=some (.agg (bJ x)):=rfl;have CZ:cO (aR.cells (bJ x) 308 none) 0=some (bJ x):=rfl;unfold bJ at hH;simp only[ae,ds,reduceCtorEq,GF];rw[<-hH];clear hH;have Mx:=ads l x;simp only[ae,ds,u];refine aS.bI (α:=Nat×Nat) (λz f h'=>h'=H/\f 0=v/\f 2=.func (.func 253) [] []/\f 4=.ptr h.n 0/\f 8=.int .i64 (l.length:Nat)/\f 9=.int .i64 (z.1:Nat)/\f 10=.int .i64 (z.2:Nat)/\z.1<=dN l x/\dN l x<=z.2/\z.2<=l.length) (λz=>z.2-z.1) (0,l.length)
  ⟨rfl,rfl,rfl,rfl,rfl,rfl,rfl,Dy _,Mx,BY _⟩ ?_
 rintro⟨lo,hi⟩ f h' ⟨rfl,B,C,D,E,s,a,bZ,a2,a3⟩
 simp only at s a bZ a2 a3;refine wpS ?_;by_cases aD:lo<hi
 ·have F:decide ((lo:Int)<(hi:Int))=true:=decide_eq_true (by omega)
  have cE:aOT.i64.wrap ((lo:Int)+(hi:Int))=((lo+hi:Nat):Int):=by rw[Go.IntWalk.i64_in _ (by omega)];omega
  have bT:=UQ (n:=lo+hi) (by omega)
  have iI:(((lo+hi:Nat):Int)).fdiv (2^(min (Int.toNat 1) aOT.u64.bits))=(((lo+hi) / 2:Nat):Int):=by
   rw[show(2:Int)^(min (Int.toNat 1) aOT.u64.bits)=2 from rfl,Int.fdiv_eq_ediv_of_nonneg _ (by omega)];omega
  have wA:=aar (n:=(lo+hi) / 2) (by omega)
  have rI:=mQ (i:=(lo+hi) / 2) (n:=l.length) (by omega) (by omega)
  have xI:(lo+hi) / 2<l.length:=by omega
  have m:l[(lo+hi) / 2]?=some l[(lo+hi) / 2]:=IA xI;generalize l[(lo+hi) / 2]=p at m;obtain⟨j,r,N,eM,CS,O,_⟩:=CY M m;have Q:=QX p r;have R:=W p (azq m);simp only[ae,ds,s,a,F,cE,lL gS Ge,bT,Ku (show(0:Int)<=1 by decide),iI,lL Ge gS,wA]
  refine aS.cS none_ [] (.q 0 (.q 1 (.q 2 (.q 3 (.q 4 (.q 5 (.c 6 (.q 7 .done)))))))) ?_;simp only[ae,bt,ds,reduceCtorEq,mU,B,C,D,N,O,Q,Y,CZ,Z];refine fA rfl rfl rfl (λh' _=>adK p x R X h') ?_;have av:=asr p x;cases G:decide (eT p x)
  ·rw[G]at av;have S:¬eT p x:=of_decide_eq_false G;have:¬(lo+hi) / 2<dN l x:=λU=>S (A.MJ U m);simp only[ae,bt,ds,av];exact ar ⟨(lo,(lo+hi) / 2),⟨rfl,B,C,D,E,s,rfl,bZ,by simp only;omega,by simp only;omega⟩,by simp only;omega⟩
  ·rw[G]at av;have S:eT p x:=of_decide_eq_true G;have:¬dN l x<=(lo+hi) / 2:=λU=>A.Ah U m S;simp only[ae,bt,ds,av,rI];exact ar ⟨((lo+hi) / 2+1,hi),⟨rfl,B,C,D,E,rfl,a,by simp only;omega,a2,a3⟩,by simp only;omega⟩
 ·have F:decide ((lo:Int)<(hi:Int))=false:=decide_eq_false (by omega)
  obtain rfl:lo=dN l x:=by omega
  by_cases vE:dN l x<l.length
  ·have T:decide (((dN l x:Nat):Int)<(l.length:Int))=true:=decide_eq_true (by omega)
   have m:l[dN l x]?=some l[dN l x]:=IA vE;generalize l[dN l x]=p at m;obtain⟨j,r,N,eM,CS,O,_⟩:=CY M m;have Q:=QX p r;have R:=W p (azq m);have av:=ass p x;have U:hv p x=ev l x:=by
    rcases A.lO x with⟨ay,q,bc,cW,_⟩|⟨ay,bc⟩
    ·rw[m]at bc;cases bc;rw[ay,cW]
    ·rw[ay];exact(bc p m).2
   rw[U]at av;simp only[ae,ds,s,a,F];refine aS.cS none_ [] (.q 0 (.q 1 (.q 2 (.q 3 (.q 4 (.q 5 (.q 6 (.q 7 (.q 8 (.q 9 (.q 10 (.c 11 (.q 12 (.q 13 (.q 14 (.q 15 .done)))))))))))))))) ?_;simp only[ae,bt,ds,reduceCtorEq,mU,B,C,D,E,s,T,N,O,Q,Y,CZ,Z];refine fA rfl rfl rfl (λh' _=>adK p x R X h') ?_;simp only[ae,bt,ds,av,aP,aFM,da];exact ar ⟨rfl,L⟩
  ·have T:decide (((dN l x:Nat):Int)<(l.length:Int))=false:=decide_eq_false (by omega)
   have U:ev l x=false:=by
    rcases A.lO x with⟨ay,q,bc,cW,_⟩|⟨ay,bc⟩
    ·have:=(are.1 bc).1;omega
    ·exact ay
   simp only[ae,ds,s,a,F];refine aS.cS none_ [] (.q 0 (.q 1 (.q 2 (.q 3 (.q 4 (.q 5 (.q 6 (.q 7 (.q 8 (.q 9 (.q 10 (.c 11 (.q 12 (.q 13 (.q 14 (.q 15 .done)))))))))))))))) ?_;simp only[ae,bt,ds,E,s,T];refine rG rfl rfl ?_;simp only[ae,bt,ds,aP,aFM,da];exact ar ⟨by rw[U],L⟩
theorem MO(h:I)(c:an):h3 mc 52 1 [(0,.agg (aQ c))] h=some (.bg h.n 0 1 1,h.push (.cells (aQ c) 110 none)):=PK Em rfl rfl (by decide)
theorem adM(h:I)(c:an):h3 mc 288 1 [(0,.agg (bJ c))] h=some (.bg h.n 0 1 1,h.push (.cells (bJ c) 308 none)):=PK yS rfl rfl (by decide)
structure dI(h:I)(i:Nat)(v:V)(room g:Int)(l:List an):Prop where
 lt:i<h.n
 get:h.get i=.cells [.int .i64 room,.int .i64 g,v] 290 none
 own:Own h 308 3 v (l.flatMap bJ)
 ne:aU v≠some i
 nb:fr l
 ok:∀x∈l,kO x
 len:l.length<=1024
 g1:1<=g
 g2:g<=2^20
section
variable {h h':I} {i:Nat} {v:V} {room g:Int} {l:List an}
theorem dI.rows(k:dI h i v room g l):(l.flatMap bJ).length=l.length*3:=fJ vI l
theorem dI.ai{own:Nat->Prop}(k:dI h i v room g l)(s:J h h' own)(u:¬own i)(z:∀j,aU v=some j->¬own j):dI h' i v room g l :=
 ⟨IS k.lt s.n,(s.get i k.lt u).trans k.get,k.own.ai s z,k.ne,k.nb,k.ok,k.len,k.g1,k.g2⟩
theorem dI.ba(k:dI h i v room g l)(j:J h h' none_):dI h' i v room g l:=k.ai j (by simp[none_]) (by simp[none_])
theorem dI.vH(k:dI h i v room g l)(H:I):dJ mc 288 v H=some (.int .i64 (l.length:Nat)):=adL k.own
end
def oV(i:Nat)(v:V):Nat->Prop:=λq=>q=i\/a7 v q
theorem adN(h:I)(i:Nat)(v:V)(room g:Int)(l:List an)(x:an)(m:kO x)(k:dI h i v room g l) :
  Pure mc 247 [.ptr i 0,.agg (bJ x)] h (.tuple [.int .i64 (dN l x:Nat),.bool (ev l x)]):=by
 refine Pure.val (a8.tuple (bb.cons (a8.int _ _) (bb.cons (a8.bool _) bb.nil))) ?_;refine bd Tryz.func247 rfl ?_;obtain⟨H,hH,j,s,_⟩:=b0 h (.cells (bJ x) 308 none);have kk:=k.ba j;have u:=kk.get;have z:=Bi x;have A:cJ (some (some 3)) (some (bJ x))=some (.agg (bJ x)):=rfl;have B:cO (aR.cells (bJ x) 308 none) 0=some (bJ x):=rfl;unfold bJ at hH;simp only[ae,z];rw[<-hH];clear hH;refine aS.cS none_ [] (.q 0 (.q 1 (.q 2 (.q 3 (.q 4 (.c 5 (.q 6 (.q 7 (.q 8 (.q 9 .done)))))))))) ?_;simp only[ae,bt,ds,AS,By,reduceCtorEq,A8,Gh,mU,s,u,B,A];refine fA rfl rfl rfl (λh' a=>WS v l x h' (by rcases a with a|a;exact kk.own.ba a;subst a;exact kk.own) k.nb k.ok m (by have:=k.len;omega)) ?_
 simp only[ae,bt,ds,aP,Tryz.results247,da];exact ar ⟨rfl,j⟩
theorem asu(h:I)(i:Nat)(v:V)(room g:Int)(l:List an)(x:an)(D:kO x)(U:ev l x=true)(k:dI h i v room g l) :
  au mc 236 [.ptr i 0,.agg (bJ x)] h (λr h'=>∃v',dI h' i v' room g (ic l x)/\J h h' (oV i v)/\cu h v v'):=by
 refine bd Tryz.func236 rfl ?_;obtain⟨H,hH,u,S,T⟩:=b0 h (.cells (bJ x) 308 none);have kk:=k.ba u;have z:=kk.get;have E:=Bi x;have W:cJ (some (some 3)) (some (bJ x))=some (.agg (bJ x)):=rfl;have X:cO (aR.cells (bJ x) 308 none) 0=some (bJ x):=rfl;have Y:=k.lt;unfold bJ at hH;simp only[ae,ds,AS,reduceCtorEq,mU,E];rw[<-hH];clear hH;refine bO (adN H i v room g l x D kk) ?_;rcases k.nb.lO x with⟨ay,p,bc,Z,hW⟩|⟨ay,bc⟩;rotate_left
 ·rw[U]at ay;cases ay
 have F:=(are.1 bc).1;have G:=mQ F (by have:=k.len;omega)
 simp only[ae,ds,AS,By,reduceCtorEq,A8,Gh,z,G];refine cA (asq v (dN l x) (l.flatMap bJ) H kk.own (by rw[k.rows];have:=k.len;omega) (by rw[k.rows];omega) (P3 QV l)) λr A ⟨m,s,a⟩=>?_
 have L:(l.flatMap bJ).take (dN l x*3)++(l.flatMap bJ).drop ((dN l x+1)*3)=(ic l x).flatMap bJ:=by
  rw[D2 vI,yN vI,k.nb.rm U];simp
 rw[L]at m;have M:=(s.get i (by omega) (λU=>k.ne U)).trans z
 have N:r.one=true:=by
  rcases m with⟨rfl|rfl,_⟩|⟨_,_,_,_,_,rfl,_⟩<;>rfl
 have O:r.cells=some [r]:=by
  rcases m with⟨rfl|rfl,_⟩|⟨_,_,_,_,_,rfl,_⟩<;>rfl
 have Q:bA (some 1) (aR.cells [V.int .i64 room,V.int .i64 g,v] 290 none) 2 [r]=some (.cells [.int .i64 room,.int .i64 g,r] 290 none):=by rw[rA N];rfl
 have n3:=s.n;simp only[ae,ds,A8,V1,M,O,Q,k6,Tryz.results236,hK];have B:aU r≠some i:=λU=>by
  rcases a with a|a
  ·rw[a]at U;exact k.ne U
  ·have:=a i U;omega
 have C:J A (A.set i (.cells [V.int .i64 room,V.int .i64 g,r] 290 none)) (λq=>q=i):=J.set _ _ _;refine ar ⟨r,⟨by rw[kj];omega,aL,m.ai C λq j U=>B (by rw[j,U]),B,k.nb.filter _,λy R=>k.ok y (ajA.1 R).1,?_,k.g1,k.g2⟩,?_,?_⟩
 ·have:=adv k.nb U;have:=k.len;omega
 ·exact((u.up (o:=oV i v)).trans s λq j U=>.inr U).trans C λq j U=>.inl U
 ·rcases a with a|a
  ·exact .inl a
  ·exact .inr λq j=>by have:=a q j;omega
theorem asv(h:I)(i:Nat)(v:V)(room g:Int)(l:List an)(x:an)(C:kO x)(U:ev l x=false)(D:l.length<1024)(k:dI h i v room g l) :
  au mc 237 [.ptr i 0,.agg (bJ x)] h (λr h'=>∃v',dI h' i v' room g (l7 l x)/\J h h' (oV i v)/\cu h v v'):=by
 refine bd Tryz.func237 rfl ?_;obtain⟨H,hH,E,Q,ib⟩:=b0 h (.cells (bJ x) 308 none);have kk:=k.ba E;have R:=kk.get;have S:=Bi x;have T:cJ (some (some 3)) (some (bJ x))=some (.agg (bJ x)):=rfl;have W:cO (aR.cells (bJ x) 308 none) 0=some (bJ x):=rfl;have cQ:=k.lt;unfold bJ at hH;simp only[ae,ds,AS,reduceCtorEq,mU,S];rw[<-hH];clear hH;refine bO (adN H i v room g l x C kk) ?_;simp only[ae,ds];have F:a7 v i=False:=eq_false λU=>k.ne U;have X:a7 v h.n=False:=eq_false λU=>by have:=k.own.lt _ U;omega
 obtain⟨Y,Z,u,de,dd⟩:=b0 H (.cells (bJ x) 308 none);have G:=kk.ba u;have L:=adM H x;rw[<-Z]at L;refine aS.cS (λx=>a7 v x) [7,8,11] (.q 0 (.q 1 (.q 2 (.q 3 (.q 4 (.q 5 (.q 6 (.e 7 (.e 8 (.q 9 (.q 10 (.a 11 .done))) .stop) .stop)))))))) ?_;simp only[ae,bt,fo,ds,AS,By,reduceCtorEq,A8,Gh,mU,Q,R,W,T,F,X,L];refine⟨u.up,?_⟩;refine cA (aso v (dN l x) H.n (l.flatMap bJ) (bJ x) Y G.own (by rw[k.rows];have:=k.len;omega) (by rw[k.rows];have:=ads l x;omega) de (by omega) (λU=>by have:=k.own.lt _ U;omega) rfl rfl (P3 QV l)) λr z ⟨s,A,j⟩=>?_
 have pK:(l.flatMap bJ).take (dN l x*3)++bJ x++(l.flatMap bJ).drop (dN l x*3)=(l7 l x).flatMap bJ:=by
  rw[D2 vI,yN vI,k.nb.ins];simp
 rw[pK]at s;have ym:=(A.get i (by omega) (by rw[F];exact id)).trans G.get
 have k9:r.one=true:=by
  rcases s with⟨rfl|rfl,_⟩|⟨_,_,_,_,_,rfl,_⟩<;>rfl
 have jb:r.cells=some [r]:=by
  rcases s with⟨rfl|rfl,_⟩|⟨_,_,_,_,_,rfl,_⟩<;>rfl
 have dA:bA (some 1) (aR.cells [V.int .i64 room,V.int .i64 g,v] 290 none) 2 [r]=some (.cells [.int .i64 room,.int .i64 g,r] 290 none):=by rw[rA k9];rfl
 have M:J H z (λx=>a7 v x):=(u.up).trans' A;have n3:=A.n;simp only[ae,bt,fo,ds,A8,V1,ym,jb,dA,M,k6,Tryz.results237,hK];have N:aU r≠some i:=λU=>by
  rcases j with j|j
  ·rw[j]at U;exact k.ne U
  ·have:=j i U;omega
 have O:J z (z.set i (.cells [V.int .i64 room,V.int .i64 g,r] 290 none)) (λq=>q=i):=J.set _ _ _;refine ar ⟨r,⟨by rw[kj];omega,aL,s.ai O λq m U=>N (by rw[m,U]),N,k.nb.Ai U,λy B=>?_,?_,k.g1,k.g2⟩,?_,?_⟩
 ·rcases MK.1 B with rfl|B
  ·exact C
  ·exact k.ok y B
 ·rw[k.nb.BQ];omega
 ·exact((E.up (o:=oV i v)).trans M λq m U=>.inr U).trans O λq m U=>.inl U
 ·rcases j with j|j
  ·exact .inl j
  ·exact .inr λq m=>by have:=j q m;omega
theorem asw(room g:Int)(q:1<=room)(s:room<=1024)(u:1<=g)(z:g<=2^20)(h:I) :
  au mc 149 [.int .i64 room,.int .i64 g] h (λr h'=>r=.tuple [.ptr h.n 0,.int .i64 0]/\h'=h.push (.cells [.int .i64 room,.int .i64 g,.ag] 290 none)):=by
 refine bd Tryz.func149 rfl ?_;have a:decide (room<1)=false:=decide_eq_false (by omega)
 have i:decide (1024<room)=false:=decide_eq_false (by omega)
 have j:decide (g<1)=false:=decide_eq_false (by omega)
 have m:decide (1048576<g)=false:=decide_eq_false (by omega)
 simp only[ae,ds,AS,By,reduceCtorEq,aqg,aqC,a,i,j,m,aP,Tryz.results149,da];exact ar ⟨rfl,rfl⟩
theorem dI.new{h:I}{room g:Int}(i:1<=g)(j:g<=2^20):dI (h.push (.cells [.int .i64 room,.int .i64 g,.ag] 290 none)) h.n .ag room g [] :=
 ⟨az1 _,fv,Own.ag _ _ _,by simp[aU],azV.nil,by simp,by simp,i,j⟩
theorem WU(p:an):(if 3<=(bJ p).length then some (V.agg (azw 3 (bJ p)))else none)=some (.agg (bJ p)):=rfl
theorem WV(p:an):bA (some 3) (aR.cells [V.int .i64 0,V.complex .f64 0 0,V.int .i64 0] 308 none) 0 (bJ p)=some (.cells (bJ p) 308 none):=rfl
theorem WW(p:an):(V.agg (bJ p)).cells=some (bJ p):=rfl
def xL(g:Int)(l:List an)(k t:Int):List an:=if nc t=true then found g l k t else []
theorem asx(g:Int)(l:List an)(k t:Int)(p:an):found g (l++[p]) k t=found g l k t++(if oA g k t p=true then [p]else []):=by
 unfold found;rw[aAr];cases h:oA g k t p<;>simp[h]
theorem MP(g:Int)(l:List an)(k t:Int):(found g l k t).length<=l.length:=azK ..
theorem WX(h:I)(i:Nat)(v:V)(room g key time:Int)(l:List an)(k:dI h i v room g l):Pure mc 214 [.ptr i 0,.int .i64 key,.int .i64 time] h (.af (xL g l key time).length ((xL g l key time).flatMap aQ)):=by
 refine Pure.acc (A4 CQ _) (fJ qh _) (by decide) (e:=110) (sz:=5) ?_
 refine bd Tryz.func214 rfl ?_;have aw:=k.get;have ax:=k.vH h;have SE:=k.len;simp only[ae,ds,reduceCtorEq,Qn];refine bO (WN time h) ?_;unfold xL;cases pS:nc time
 ·simp only[ae,ds,aP,aFN,ac];exact ar (Acc.nil (J.refl _ _))
 have MQ:=adG.1 pS;rw[if_pos rfl];simp only[ae,ds,AS,By,reduceCtorEq,A8,Gh,aw,ax];refine aS.bI (α:=Nat×V) (λx f h'=>f 0=.ptr i 0/\f 1=.int .i64 key/\f 2=.int .i64 time/\f 7=x.2/\f 20=v/\f 21=.int .i64 (l.length:Nat)/\f 22=.int .i64 (x.1:Nat)/\x.1<=l.length/\Acc h h' 110 5 x.2 ((found g (l.take x.1) key time).flatMap aQ)) (λx=>l.length-x.1) (0,.ag)
  ⟨rfl,rfl,rfl,rfl,rfl,rfl,rfl,Dy _,Acc.nil (J.refl _ _)⟩ ?_
 rintro⟨t,s⟩ f h1 ⟨E,F,G,O,C,z,u,bB,D⟩
 simp only at O u bB D;refine wpS ?_;by_cases L:t<l.length
 ·have Y:=dV (a:=t) (b:=l.length) (by omega)
  have S:=mQ L (by omega)
  have bx:=k.ba D.ai;have Z:l[t]?=some l[t]:=IA L;have mT:l.take (t+1)=l.take t++[l[t]]:=List.take_succ_eq_append_getElem L;have A:=asx g (l.take t) key time l[t];rw[<-mT]at A;generalize l[t]=p at Z mT A;obtain⟨j,r,bV,eM,CS,CT,_⟩:=CY bx.own Z;have B:=k.ok p (azq Z);have ld:=QX p r;have Ad:=WW p;have Q:=WU p;have st:=WV p;have T:cJ (some none) (some (bJ p))=some (.int .i64 p.key):=rfl;obtain⟨H,hH,bo,M,_⟩:=b0 h1 (.cells (bJ p) 308 none);have kk:=bx.ba bo;have R:=kk.get;have W:=D.on bo;have cE:aOT.i64.wrap (p.aX-g)=p.aX-g:=Go.IntWalk.i64_in _ (by have:=B.lo;have:=B.le;have:=B.hi;have:=k.g1;have:=k.g2;omega)
  have bT:aOT.i64.wrap (p.to+g)=p.to+g:=Go.IntWalk.i64_in _ (by have:=B.lo;have:=B.le;have:=B.hi;have:=k.g1;have:=k.g2;omega)
  simp only[ae,ds,mU,QA,QE,C,z,u,Y,bV,CT,ld,Ad,st];rw[<-hH];cases ay:(p.key==key)
  ·have N:oA g key time p=false:=by
    cases e:oA g key time p
    ·rfl
    ·have:=(Bh.1 e).1;simp at ay;omega
   rw[N]at A;simp only[azs,if_false,axX]at A;refine aS.cS none_ [] (.q 0 (.q 1 (.q 2 (.q 3 (.q 4 (.q 5 (.c 6 (.q 7 (.q 8 (.q 9 (.q 10 (.q 11 (.q 12 (.q 13 (.q 14 (.q 15 (.q 16 (.q 17 (.c 18 (.q 19 (.q 20 (.q 21 (.q 22 (.q 23 (.q 24 (.q 25 .done)))))))))))))))))))))))))) ?_;simp only[ae,bt,ds,Gd,bR,F,M,T,ay];refine rG rfl rfl ?_;simp only[ae,bt,ds];refine rG rfl rfl ?_;simp only[ae,bt,ds,u,S];exact ar ⟨(t+1,s),⟨E,F,G,O,C,z,rfl,L,by simp only;rw[A];exact W⟩,by simp only;omega⟩
  have aa:p.key=key:=by simpa using ay
  cases bc:decide (p.aX-g<=time)
  ·have N:oA g key time p=false:=by
    cases e:oA g key time p
    ·rfl
    ·have:=(Bh.1 e).2.1;have:=of_decide_eq_false bc;omega
   rw[N]at A;simp only[azs,if_false,axX]at A;refine aS.cS none_ [] (.q 0 (.q 1 (.q 2 (.q 3 (.q 4 (.q 5 (.c 6 (.q 7 (.q 8 (.q 9 (.q 10 (.q 11 (.q 12 (.q 13 (.q 14 (.q 15 (.q 16 (.q 17 (.c 18 (.q 19 (.q 20 (.q 21 (.q 22 (.q 23 (.q 24 (.q 25 .done)))))))))))))))))))))))))) ?_;simp only[ae,bt,ds,Gd,bR,mU,F,M,T,ay,Q];refine fA rfl rfl rfl (λh' _=>GC p B h') ?_;simp only[ae,bt,ds,AS,By,reduceCtorEq,Gc,bR,E,G,R,cE,bc];refine rG rfl rfl ?_;simp only[ae,bt,ds,u,S];exact ar ⟨(t+1,s),⟨E,F,G,O,C,z,rfl,L,by simp only;rw[A];exact W⟩,by simp only;omega⟩
  cases X:decide (time<=p.to+g)
  ·have N:oA g key time p=false:=by
    cases e:oA g key time p
    ·rfl
    ·have:=(Bh.1 e).2.2;have:=of_decide_eq_false X;omega
   rw[N]at A;simp only[azs,if_false,axX]at A;refine aS.cS none_ [] (.q 0 (.q 1 (.q 2 (.q 3 (.q 4 (.q 5 (.c 6 (.q 7 (.q 8 (.q 9 (.q 10 (.q 11 (.q 12 (.q 13 (.q 14 (.q 15 (.q 16 (.q 17 (.c 18 (.q 19 (.q 20 (.q 21 (.q 22 (.q 23 (.q 24 (.q 25 .done)))))))))))))))))))))))))) ?_;simp only[ae,bt,ds,Gd,bR,mU,F,M,T,ay,Q];refine fA rfl rfl rfl (λh' _=>GC p B h') ?_;simp only[ae,bt,ds,AS,By,reduceCtorEq,Gc,bR,mU,E,G,M,R,Q,cE,bc];refine fA rfl rfl rfl (λh' _=>GD p B h') ?_;simp only[ae,bt,ds,AS,By,reduceCtorEq,Gc,bR,E,u,R,bT,X,S];exact ar ⟨(t+1,s),⟨E,F,G,O,C,z,rfl,L,by simp only;rw[A];exact W⟩,by simp only;omega⟩
  ·have N:oA g key time p=true:=Bh.2 ⟨aa,of_decide_eq_true bc,of_decide_eq_true X⟩;rw[N,if_pos rfl]at A;obtain⟨cv,ad,dy,a2⟩:=W.zb Em (by decide) (xs:=aQ p) rfl rfl (λm hm=>by
    change m*5=_+5 at hm;rw[fJ qh]at hm;have:=MP g (l.take t) key time;simp only[TY]at this;exact⟨by simp only[lim];omega,by simp only[lim];omega⟩)
   have gk:=MO H p;refine aS.cS none_ [] (.q 0 (.q 1 (.q 2 (.q 3 (.q 4 (.q 5 (.c 6 (.q 7 (.q 8 (.q 9 (.q 10 (.q 11 (.q 12 (.q 13 (.q 14 (.q 15 (.q 16 (.q 17 (.c 18 (.q 19 (.q 20 (.q 21 (.q 22 (.q 23 (.q 24 (.q 25 .done)))))))))))))))))))))))))) ?_;simp only[ae,bt,ds,Gd,bR,mU,F,M,T,ay,Q];refine fA rfl rfl rfl (λh' _=>GC p B h') ?_;simp only[ae,bt,ds,AS,By,reduceCtorEq,Gc,bR,mU,E,G,M,R,Q,cE,bc];refine fA rfl rfl rfl (λh' _=>GD p B h') ?_;simp only[ae,bt,ds,AS,By,reduceCtorEq,Gc,bR,mU,E,O,M,R,Q,bT,X];refine bO (WL p B _) ?_;simp only[ae,ds,u,gk,dy,S];refine ar ⟨(t+1,cv),⟨E,F,G,rfl,C,z,rfl,L,a2.conv ?_⟩,by simp only;omega⟩
   rw[A,List.flatMap_append];simp
 ·have Y:=eC (a:=t) (b:=l.length) (by omega)
  rw[ajz (by omega)]at D
  simp only[ae,ds,O,z,u,Y,aP,aFN,ac];exact ar D
end Go.Proofs.YtemdgidnhgcafaaGreatDoor.Pk
