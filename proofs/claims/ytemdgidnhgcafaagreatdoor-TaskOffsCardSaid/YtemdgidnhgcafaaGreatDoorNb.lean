/-
  What functions of the program do, told of abstract states. Conditions: as each theorem says.
-/
import Derived.Test.YtemdgidnhgcafaaGreatDoorNa
import Derived.Test.YtemdgidnhgcafaaGreatDoorAcD
open List renaming take_append_drop->azU,flatMap_cons->azh,length_append->Dx,length_nil->ayK,take->azw,mem_of_mem_take->aA9,take_succ_eq_append_getElem->azi,flatMap_append->azo,getElem_mem->ayM,append_assoc->axV,take_of_length_le->ajz,append_nil->axX,mem_cons->Iz,mem_of_mem_drop->aAg,all_eq_true->ayL,length_cons->axW,eq_nil_of_length_eq_zero->azB,drop_left->aAe,length_drop->azD,drop_eq_getElem_cons->azg,getElem?_eq_getElem->IA,take_left->azT,getElem?_take->azf,getElem?_drop->azF,getElem?_eq_some_iff->are,drop_of_length_le->azz,take_take->azY,length_take->TY,drop_zero->azC,pairwise_cons->aze,mem_append->ayN
open Nat renaming zero_le->Dy,reduceEqDiff->ds,sub_zero->aBy,sub_sub->aFz,lt_of_lt_of_le->IS,le_trans->ajy,reduceAdd->AS,reduceLeDiff->By,le_refl->BY,min_eq_left->azt,zero_add->ayP
open Go.Proofs.Tryz renaming prog->mc,results105->aFx,results63->aFy,func150->aFA,results150->aAh,results114->aD3,func232->aD5,results232->aBH,results229->aD6,results215->aD7,results212->aFB,results196->aD8
open Prod renaming mk->azn
open Bool renaming and_eq_true->ajC,or_eq_true->az2,and_self->aBt
open Int renaming toNat_natCast->ayQ,reduceBEq->azX
open Go renaming IntKind->aOT
set_option linter.unusedVariables false
set_option linter.unusedSimpArgs false
set_option maxHeartbeats 4000000
set_option maxRecDepth 10000
namespace Go.Proofs.YtemdgidnhgcafaaGreatDoor.Pk
open Go Go.Proofs Go.Proofs.YtemdgidnhgcafaaGreatDoor.Ab
mutual
def c9:b6->List Nat
 | .mk o n l=>enc o.toNat++(if o=1 then enc (kJ n)else [])++Et l
def Et:List b6->List Nat
 | []=>[]
 | k::r=>c9 k++Et r
end
theorem acM:∀l:List b6,Et l=l.flatMap c9
 | []=>by rw[Et];rfl
 | k::r=>by rw[Et,acM r];rfl
theorem Jt(o n:Int)(l:List b6):c9 (.mk o n l)=enc o.toNat++(if o=1 then enc (kJ n)else [])++l.flatMap c9:=by rw[c9,acM]
theorem acN:∀a b:List b6,ff (a++b)=ff a+ff b
 | [],b=>by rw[List.nil_append,ff];omega
 | k::a,b=>by rw[List.cons_append,ff,ff,acN a b];omega
theorem acO{l:List b6}{i:Nat}(a:i<l.length):ff (l.take i)+e0 l[i]<=ff l:=by
 have m:=acp a;have j:=acN (l.take (i+1)) (l.drop (i+1));rw[azU]at j;omega
theorem QJ:∀l:List b6,(∀k∈l,(c9 k).length<=20*e0 k)->(l.flatMap c9).length<=20*ff l
 | [],_=>Dy _
 | k::r,h=>by
  have i:=h k (by simp)
  have j:=QJ r λx a=>h x (by simp[a])
  rw[azh,Dx,ff];omega
theorem Wn:∀(s:Nat) (e:b6),e0 e=s->hT e->(c9 e).length<=20*e0 e:=by
 intro s
 induction s using Nat.strongRecOn with
 | _ s ih=>
 intro e m i;have a:∀k∈e.aM,(c9 k).length<=20*e0 k:=λk a=>ih (e0 k) (by have:=Wa k a;omega) k rfl (i.Er k a)
 cases i with
 | mk o n l q U u j=>
  have z:=rR o.toNat (by omega)
  have A:=rR (kJ n) (CN n j.1 j.2);have B:=QJ l a;rw[Jt,Dx,Dx,e0];split
  ·omega
  ·simp only[ayK];omega
theorem z1(e:b6):(V.agg (aH e)).cells=some (aH e):=rfl
theorem Eu(e:b6):bA (some 3) (aR.cells [V.int .i64 0,V.int .i64 0,V.ag] 66 none) 0 (aH e)=some (.cells (aH e) 66 none):=by cases e;rfl
theorem Ju(e:b6):(if 3<=(aH e).length then some (V.agg (azw 3 (aH e)))else none)=some (.agg (aH e)):=by cases e;rfl
theorem arl(o n:Int)(a:List b6):cO (aR.cells (aH (.mk o n a)) 66 none) 0=some [.int .i64 o,.int .i64 n,.af a.length (a.flatMap aH)]:=by rw[l3];rfl
theorem arn(o n:Int)(a:List b6):cO (aR.cells (aH (.mk o n a)) 66 none) 1=some [.int .i64 n,.af a.length (a.flatMap aH)]:=by rw[l3];rfl
theorem aro(o n:Int)(a:List b6):cO (aR.cells (aH (.mk o n a)) 66 none) 2=some [.af a.length (a.flatMap aH)]:=by rw[l3];rfl
theorem Wo(A:b6)(q:List V):cJ (some (some 3)) (some (aH A++q))=some (.agg (aH A)):=be (rO A)
theorem y4:∀(d:Nat) (e:b6) (h:I) (x:V) (cs:List Nat),wI d e->hT e->Rd h x cs->cs.length+20*e0 e<=2^40->Pure mc 105 [x,.agg (aH e)] h (.af (cs++c9 e).length (e5 (cs++c9 e)))
 | 0,e,h,x,cs,T,_,_,_=>T.zero.elim
 | d+1,e,h,x,cs,T,W,rd,ak=>by
  obtain⟨az,X⟩:=T.fits;have Q:=W.Er;have Y:∀k∈e.aM,(c9 k).length<=20*e0 k:=λk G=>Wn _ k rfl (Q k G);obtain⟨o,n,j⟩:=e;obtain⟨_,nK,ky⟩:=V9 az;have R:-2^63<=n/\n<2^63:=by cases W;assumption
  have L:=W.len;simp only[b6.aM]at X Q L Y;obtain⟨k,rfl⟩:∃k:Nat,o=k:=⟨o.toNat,by omega⟩
  have bS:=rR (kJ n) (CN n R.1 R.2);have aa:=rR k (by omega)
  rw[e0]at ak;refine Pure.val (a8.af (Es _)) ?_;obtain⟨u,S⟩:∃m,m=cs++enc k++(if(k:Int)=1 then enc (kJ n)else []):=⟨_,rfl⟩
  have l5:cs++c9 (.mk k n j)=u++j.flatMap c9:=by rw[S,Jt];simp
  have ga:u.length<=cs.length+20:=by
   rw[S,Dx,Dx];split
   ·omega
   ·simp only[ayK];omega
  rw[l5];refine bd Tryz.func105 rfl ?_;have av:=z1 (.mk k n j);have Z:=arl k n j;have gM:=arn k n j;have kg:=aro k n j;have xJ:aOT.u64.wrap (k:Int)=(k:Int):=UQ (by omega)
  obtain⟨H,hH,bo,jD,_⟩:=b0 h (.cells (aH (.mk k n j)) 66 none);simp only[ae,ds,reduceCtorEq,pn,aY,av,Z,lL gS oP,xJ];rw[<-hH];clear hH;refine bO (Fd x cs k H (rd.ai bo) (by omega) (by omega)) ?_
  by_cases F:(k:Int)=1
  ·have bf:((k:Int)==1)=true:=by simpa using F
   have m1:cs++enc k++enc (kJ n)=u:=by rw[S,if_pos F]
   simp only[ae,ds,reduceCtorEq,pn,Jj,bR,aY,jD,Z,gM,bf];refine bO (L7 _ (cs++enc k) n H (Rd.af _ _) (by rw[Dx];omega) R.1 R.2) ?_
   rw[m1];simp only[ae,ds,reduceCtorEq,rJ,zT,tf,jD,kg];refine aS.bI (α:=Nat) (λi f h'=>f 0=.af (u++(j.take i).flatMap c9).length (e5 (u++(j.take i).flatMap c9))/\f 20=.af j.length (j.flatMap aH)/\f 21=.int .i64 (j.length:Int)/\f 22=.int .i64 (i:Nat)/\i<=j.length/\J h h' none_) (λi=>j.length-i) 0
    ⟨(show V.af _ _=_ by simp),rfl,rfl,rfl,Dy _,bo⟩ ?_
   rintro i f F ⟨C,z,q,s,hi,M⟩
   refine wpS ?_;by_cases B:i<j.length
   ·have D:=dV (a:=i) (b:=j.length) (by omega)
    have hw:=hR (i:=i) (by omega)
    have N:=LZ (kk:=.i64) B;have bl:=acO B;have lf:=QJ (j.take i) λk G=>Y k (aA9 G);have O:(j.take (i+1)).flatMap c9=(j.take i).flatMap c9++c9 j[i]:=by rw[azi B,azo];simp
    have E:j[i]∈j:=ayM B;generalize j[i]=A at N bl O E;have L9:=X A E;have pO:=Q A E;have jC:=Wo A;have tj:=z1 A;have st:=Eu A;have lk:=Ju A;have dZ:(u++(j.take i).flatMap c9).length=u.length+((j.take i).flatMap c9).length:=Dx;simp only[ae,ds,reduceCtorEq,gj,qe,oS,C,z,q,s,D,N,jC,tj,st,lk];refine bO (y4 d A _ _ _ L9 pO (Rd.af _ _) (by omega)) ?_
    rw[axV,<-O];simp only[ae,ds,reduceCtorEq,s,hw];exact ar ⟨i+1,⟨rfl,z,q,rfl,B,M.bp _⟩,by omega⟩
   ·have D:=eC (a:=i) (b:=j.length) (by omega)
    rw[ajz (by omega)]at C
    simp only[ae,ds,reduceCtorEq,C,q,s,D,aP,aFx,ac];exact ar ⟨rfl,M⟩
  ·have bf:((k:Int)==1)=false:=by simpa using F
   have m1:cs++enc k=u:=by rw[S,if_neg F,axX]
   rw[m1];simp only[ae,ds,reduceCtorEq,pn,rJ,zT,aY,tf,jD,Z,kg,bf];refine aS.bI (α:=Nat) (λi f h'=>f 0=.af (u++(j.take i).flatMap c9).length (e5 (u++(j.take i).flatMap c9))/\f 20=.af j.length (j.flatMap aH)/\f 21=.int .i64 (j.length:Int)/\f 22=.int .i64 (i:Nat)/\i<=j.length/\J h h' none_) (λi=>j.length-i) 0
    ⟨(show V.af _ _=_ by simp),rfl,rfl,rfl,Dy _,bo⟩ ?_
   rintro i f F ⟨C,z,q,s,hi,M⟩
   refine wpS ?_;by_cases B:i<j.length
   ·have D:=dV (a:=i) (b:=j.length) (by omega)
    have hw:=hR (i:=i) (by omega)
    have N:=LZ (kk:=.i64) B;have bl:=acO B;have lf:=QJ (j.take i) λk G=>Y k (aA9 G);have O:(j.take (i+1)).flatMap c9=(j.take i).flatMap c9++c9 j[i]:=by rw[azi B,azo];simp
    have E:j[i]∈j:=ayM B;generalize j[i]=A at N bl O E;have L9:=X A E;have pO:=Q A E;have jC:=Wo A;have tj:=z1 A;have st:=Eu A;have lk:=Ju A;have dZ:(u++(j.take i).flatMap c9).length=u.length+((j.take i).flatMap c9).length:=Dx;simp only[ae,ds,reduceCtorEq,gj,qe,oS,C,z,q,s,D,N,jC,tj,st,lk];refine bO (y4 d A _ _ _ L9 pO (Rd.af _ _) (by omega)) ?_
    rw[axV,<-O];simp only[ae,ds,reduceCtorEq,s,hw];exact ar ⟨i+1,⟨rfl,z,q,rfl,B,M.bp _⟩,by omega⟩
   ·have D:=eC (a:=i) (b:=j.length) (by omega)
    rw[ajz (by omega)]at C
    simp only[ae,ds,reduceCtorEq,C,q,s,D,aP,aFx,ac];exact ar ⟨rfl,M⟩
theorem arp{e:b6}(a:dj e=true):wI 16 e:=by
 unfold dj at a;cases av:h9 16 64 e with
 | none=>rw[av]at a;cases a
 | some c=>exact⟨64,c,av⟩
def j4(e:b6):List Nat:=if dj e=true then c9 e else []
def ub(e:b6):V:=.tuple [.af (j4 e).length (e5 (j4 e)),.int .i64 (if dj e=true then 0 else 1)]
theorem arq(e:b6):a8 (ub e):=a8.tuple (bb.cons (a8.af (Es _)) (bb.cons (a8.int _ _) bb.nil))
theorem Wp{e:b6}(h:dj e=true):e0 e<=64:=by
 unfold dj at h;rw[QF]at h;split at h
 ·rename_i U;exact U.2
 ·cases h
theorem y6(e:b6)(q:hT e)(h:I)(s:hB h):Pure mc 63 [.agg (aH e)] h (ub e):=by
 refine Pure.of (arq e) ?_;refine bd Tryz.func63 rfl ?_;have av:=z1 e;have z:=Ju e;have i:cO (aR.cells (aH e) 66 none) 0=some (aH e):=by cases e;rfl
 have j:cJ (some (some 3)) (some (aH e))=some (.agg (aH e)):=by cases e;rfl
 have u:∀a,hB (h.push a):=λa=>by unfold hB;rw[FT];exact s
 simp only[ae,ds,gj,av,i,j];refine bO (Gp e _ (u _)) ?_;unfold ub j4;cases m:dj e
 ·simp only[ae,ds,aP,aFy,da];exact ar ⟨_,aF.tuple (aA.cons (aF.k7 _) (aA.refl _ _)),J.push _ _ _⟩
 ·have bl:=Wp m;simp only[ae,ds,gj,i,j];refine bO (y4 16 e _ .ag [] (arp m) q (Rd.ag _) (by simp only[ayK];omega)) ?_
  simp only[ae,ds,aP,aFy,da];exact ar ⟨_,aF.refl _ _,J.push _ _ _⟩
abbrev Jv:=Except Nat (b6×List Nat×Nat)
def ov(f:Nat->List Nat->Jv):Nat->Nat->List Nat->Except Nat (List b6×List Nat×Nat)
 | 0,left,a=>.ok ([],a,left)
 | m+1,left,a=>match f left a with
  | .error e=>.error e
  | .ok (k,i,j)=>match ov f m j i with
   | .error e=>.error e
   | .ok (q,r)=>.ok (k::q,r)
def dY:Nat->Nat->List Nat->Jv
 | 0,_,_=>.error 11
 | d+1,left,a=>
  if left=0 then .error 11
  else if(dec a 0 0).2.2≠0 then .error (dec a 0 0).2.2
  else if(dec a 0 0).1<1\/16<(dec a 0 0).1 then .error 5
  else if(dec a 0 0).1=1 then
   if(dec (a.drop (dec a 0 0).2.1) 0 0).2.2≠0 then .error (dec (a.drop (dec a 0 0).2.1) 0 0).2.2
   else .ok (.mk 1 (gL (dec (a.drop (dec a 0 0).2.1) 0 0).1) [],(a.drop (dec a 0 0).2.1).drop (dec (a.drop (dec a 0 0).2.1) 0 0).2.1,left-1)
  else match ov (dY d) (zW (dec a 0 0).1).toNat (left-1) (a.drop (dec a 0 0).2.1)with
   | .error e=>.error e
   | .ok (i,r)=>.ok (.mk (dec a 0 0).1 0 i,r)
theorem Wq(n:Nat)(a:n<2^64):kJ (gL n)=n:=by
 unfold kJ gL;split<;>split<;>omega
theorem z7{a:List Nat}(ak:∀b∈a,b<256)(h:(dec a 0 0).2.2=0):a=enc (dec a 0 0).1++a.drop (dec a 0 0).2.1/\(dec a 0 0).1<2^64:=by
 refine⟨?_,dec_lt a 0 0 (by omega) (by decide) ak⟩
 obtain⟨q,x,j,i,_⟩:=Wk a 0 0 (dec a 0 0).1 (dec a 0 0).2.1 ak (Prod.ext rfl (Prod.ext rfl h));have m:x=(dec a 0 0).1:=by rw[j];simp
 rw[m,aBy]at i;rw[<-i,azU]
structure Sq(d left:Nat)(aq:List Nat)(e:b6)(ia:List Nat)(iK:Nat):Prop where
 wL:aq=c9 e++ia
 sz:iK+e0 e=left
 deep:ti d e=true
 ok:hT e
theorem acP{d:Nat}{f:Nat->List Nat->Jv}(A:∀left a,(∀b∈a,b<256)->∀e j q,f left a=.ok (e,j,q)->Sq d left a e j q) :
  ∀(m left:Nat) (a:List Nat),(∀b∈a,b<256)->∀i j q,ov f m left a=.ok (i,j,q)->i.length=m/\a=i.flatMap c9++j/\q+ff i=left/\(∀k∈i,ti d k=true)/\∀k∈i,hT k
 | 0,left,a,ak,i,j,q,h=>by
  simp only[ov,Except.ok.injEq,azn.injEq]at h;obtain⟨rfl,rfl,rfl⟩:=h;exact⟨rfl,rfl,by simp[ff],by simp,by simp⟩
 | m+1,left,a,ak,i,j,q,h=>by
  unfold ov at h;split at h
  ·cases h
  ·rename_i k u B C;have g:=A left a ak k u B C;have D:∀b∈u,b<256:=λb E=>ak b (by rw[g.wL];simp[E])
   split at h
   ·cases h
   ·rename_i z r F;obtain⟨G,H⟩:=r;simp only[Except.ok.injEq,azn.injEq]at h;obtain⟨rfl,rfl,rfl⟩:=h;obtain⟨L,M,Q,N,O⟩:=acP A m B u D z G H F;refine⟨by simp[L],?_,?_,?_,?_⟩
    ·rw[g.wL,M];simp
    ·rw[ff];have:=g.sz;omega
    ·intro x s;rcases Iz.1 s with rfl|s
     ·exact g.deep
     ·exact N x s
    ·intro x s;rcases Iz.1 s with rfl|s
     ·exact g.ok
     ·exact O x s
theorem QK(o:Int):0<=zW o/\zW o<=3:=by unfold zW;split<;>(try split)<;>(try split)<;>omega
theorem QL:∀(d left:Nat) (a:List Nat),(∀b∈a,b<256)->∀e i j,dY d left a=.ok (e,i,j)->Sq d left a e i j
 | 0,left,a,ak,e,i,j,h=>by simp[dY]at h
 | d+1,left,a,ak,e,i,j,h=>by
  unfold dY at h;split at h
  ·cases h
  rename_i S;split at h
  ·cases h
  rename_i A;split at h
  ·cases h
  rename_i T;obtain⟨m,W⟩:=z7 ak (by simpa using A)
  have q:∀b∈a.drop (dec a 0 0).2.1,b<256:=λb B=>ak b (aAg B);generalize(dec a 0 0).1=o at *;generalize a.drop (dec a 0 0).2.1=X at *;split at h
  ·rename_i s;split at h
   ·cases h
   rename_i C;obtain⟨D,u⟩:=z7 q (by simpa using C)
   simp only[Except.ok.injEq,azn.injEq]at h;obtain⟨rfl,rfl,rfl⟩:=h;have E:=acH _ u;refine⟨?_,by simp only[e0,ff];omega,?_,.mk _ _ _ (by simp) (by simp) (by omega) E⟩
   ·rw[Jt,if_pos rfl,Wq _ u]
    conv=>lhs;rw[m,D,s]
    simp
   ·simp[ti,nE,dR,b6.aM]
  ·rename_i s;split at h
   ·cases h
   rename_i z r F;obtain⟨G,H⟩:=r;simp only[Except.ok.injEq,azn.injEq]at h;obtain⟨rfl,rfl,rfl⟩:=h;obtain⟨Y,L,Z,M,N⟩:=acP (QL d) _ _ _ q z G H F;have O:=QK (o:Int);have Q:=Wb (o:=(o:Int)) (by omega) (by omega)
   refine⟨?_,by rw[e0];omega,?_,.mk _ _ _ (by omega) N (by omega) (by omega)⟩
   ·rw[Jt,if_neg (by omega)]
    conv=>lhs;rw[m,L]
    simp
   ·have R:nE (.mk (o:Int) 0 z)=true:=by
     simp only[nE,ajC,az2,decide_eq_true_eq];exact⟨⟨by omega,by omega⟩,by rw[Q];omega,by simp⟩
    rw[ti,R,Bool.true_and,ayL];exact M
theorem acR{d:Nat}{f:Nat->List Nat->Jv}(r:List Nat):∀(a:List b6) (left:Nat),(∀k∈a,∀left r,e0 k<=left->f left (c9 k++r)=.ok (k,r,left-e0 k))->ff a<=left->ov f a.length left (a.flatMap c9++r)=.ok (a,r,left-ff a)
 | [],left,_,_=>by simp[ov,ff]
 | k::a,left,i,j=>by
  rw[ff]at j;rw[axW,ov,azh,axV,i k (by simp) left _ (by omega)]
  simp only;rw[acR (d:=d) r a (left-e0 k) (λx m=>i x (by simp[m])) (by omega)]
  simp only[ff,aFz]
theorem acS:∀(d left:Nat) (e:b6) (r:List Nat),ti d e=true->hT e->e0 e<=left->dY d left (c9 e++r)=.ok (e,r,left-e0 e)
 | 0,left,e,r,i,_,_=>by simp[ti]at i
 | d+1,left,e,r,i,m,D=>by
  have q:=m.Er;rw[ti,ajC,ayL]at i;obtain⟨s,u⟩:=i;obtain⟨o,n,a⟩:=e;obtain⟨z,L,M⟩:=V9 s;have A:-2^63<=n/\n<2^63:=by cases m;assumption
  obtain⟨o,rfl⟩:∃k:Nat,o=k:=⟨o.toNat,by omega⟩
  have E:=Wb (o:=(o:Int)) (by omega) (by omega)
  simp only[b6.aM]at u q;rw[e0]at D⊢;have N:n=0\/o=1:=by
   simp only[nE,ajC,az2,decide_eq_true_eq]at s;omega
  rw[Jt,ayQ];unfold dY;rw[if_neg (by omega)]
  by_cases B:o=1
  ·subst B;have F:a=[]:=by
    have:dR.getD (((1:Nat):Int)).toNat 0=0:=by decide
    rw[this]at z;exact azB (by omega)
   subst F;have ay:enc 1++(if(((1:Nat):Int))=1 then enc (kJ n)else [])++([]:List b6).flatMap c9++r=enc 1++(enc (kJ n)++r):=by simp
   rw[ay,i8 1 (by decide)]
   simp only[aAe,ne_eq,not_true,if_false];rw[if_neg (by omega),i8 (kJ n) (CN n A.1 A.2)]
   simp[Wm,ff]
  ·have G:n=0:=by omega
   subst G;have ay:enc o++(if(o:Int)=1 then enc (kJ 0)else [])++a.flatMap c9++r=enc o++(a.flatMap c9++r):=by rw[if_neg (by omega)];simp
   rw[ay,i8 o (by omega)]
   simp only[aAe,ne_eq,not_true,if_false];rw[if_neg (by omega),if_neg B]
   have H:(zW (o:Int)).toNat=a.length:=by rw[<-E,<-z];simp
   rw[H,acR (d:=d) r a (left-1) (λk C left r j=>acS d left k r (u k C) (q k C) j) (by omega)]
   simp only[aFz];rw[Nat.add_comm]
theorem acT{f:Nat->List Nat->Jv}(i:∀l b c,f l b=.error c->c≠0):∀(m l:Nat) (b:List Nat) (c:Nat),ov f m l b=.error c->c≠0
 | 0,l,b,c,h=>by simp[ov]at h
 | m+1,l,b,c,h=>by
  unfold ov at h;split at h
  ·rename_i e a;cases h;exact i _ _ _ a
  ·split at h
   ·rename_i e a;cases h;exact acT i _ _ _ _ a
   ·cases h
theorem Ma:∀(d l:Nat) (b:List Nat) (c:Nat),dY d l b=.error c->c≠0
 | 0,l,b,c,h=>by simp[dY]at h;omega
 | d+1,l,b,c,h=>by
  unfold dY at h;split at h
  ·cases h;omega
  split at h
  ·cases h;assumption
  split at h
  ·cases h;omega
  split at h
  ·split at h
   ·cases h;assumption
   ·cases h
  ·split at h
   ·rename_i e a;cases h;exact acT (Ma d) _ _ _ _ a
   ·cases h
def fX(h:I)(i a:Nat)(j:List Nat)(begun:Nat):Prop:=i<h.n/\h.get i=.cells [.ptr a 0,.int .i64 (begun:Nat)] 266 none/\dS h (.ptr a 0) a j/\i≠a
theorem fX.ai{h h':I}{i j:Nat}{aq:List Nat}{begun:Nat}{own:Nat->Prop}(w:fX h i j aq begun)(k:J h h' own)(s:¬own i)(u:¬own j):fX h' i j aq begun :=
 ⟨IS w.1 k.n,(k.get i w.1 s).trans w.2.1,dS.ai w.2.2.1 k u,w.2.2.2⟩
def oU(a i:Nat):Nat->Prop:=λq=>q=a\/q=i
def vG:Jv->V
 | .error c=>.tuple [.agg (aH (.mk 0 0 [])),.int .i64 (c:Nat)]
 | .ok (e,_,_)=>.tuple [.agg (aH e),.int .i64 0]
theorem qV(h:I)(c:Nat):aF (.tuple [.agg [.int .i64 0,.int .i64 0,.ag],.int .i64 (c:Nat)]) h (.tuple [.agg (aH (.mk 0 0 [])),.int .i64 (c:Nat)]) h:=aF.tuple (aA.cons (aq0 0 0 h) (aA.refl _ _))
theorem acU(h:I)(e:b6):h3 mc 64 1 [(0,.agg (aH e))] h=some (.bg h.n 0 1 1,h.push (.cells (aH e) 66 none)):=by cases e;rw[mD VS];rfl
theorem acV{h:I}{s:V}{cs:List b6}(o:Own h 66 3 s (cs.flatMap aH))(F:cs.length<=2^40)(c:b6) :
  ∃a h',ki mc 64 64 s (.bg h.n 0 1 1) (h.push (.cells (aH c) 66 none))=some (a,h')/\Own h' 66 3 a ((cs++[c]).flatMap aH)/\J h h' (a7 s)/\cu h s a:=by
 have j:J h (h.push (.cells (aH c) 66 none)) none_:=J.push _ _ _;have z:Own (h.push (.cells (aH c) 66 none)) 66 3 (.bg h.n 0 1 1) (aH c):=Own.e4 (aH c) 1 (rO c) (by decide)
 have A:=tc (P:=mc) (t:=64) zT z (n:=1) (rO c) (by decide) (LY c)
 obtain⟨a,h',B,C,D,i⟩:=sj (P:=mc) (t:=64) (tx:=64) VS (by decide) (o.ba j) A (rO c) (λm u=>by
  change m*3=_ at u;rw[fJ rO,rO]at u;exact⟨by simp only[lim];omega,by simp only[lim];omega⟩)
 refine⟨a,h',B,?_,(j.up).trans' D,?_⟩
 ·rw[azo];simpa using C
 ·rcases i with i|i
  ·exact .inl i
  ·exact .inr λq E=>ajy j.n (i q E)
theorem Wr:∀(d left:Nat) (z:List Nat) (h:I) (C B:Nat),d<=16->left<=64->hB h->fX h C B z (64-left)->(∀b∈z,b<256)->z.length<=2^47 ->
  au mc 150 [.ptr C 0,.int .i64 ((17-d:Nat):Int)] h (λr h'=>r=vG (dY d left z)/\J h h' (oU C B)/\∀e Z E,dY d left z=.ok (e,Z,E)->fX h' C B Z (64-E))
 | 0,left,z,h,C,B,_,ax,aw,W,ak,tS=>by
  refine au.cast ?_;refine bd aFA rfl ?_;have bf:decide ((16:Int)<((17-0:Nat):Int))=true:=by decide
  simp only[ae,ds,AS,Nat.reduceSub,gj,yR,qe,oS,bf,aP,aAh,iR,iG,fq,iQ];exact ar ⟨_,_,qV _ 11,rfl,(J.push _ _ _),λe Z E U=>by cases U⟩
 | d+1,left,z,h,C,B,aJ,ax,aw,W,ak,tS=>by
  refine au.cast ?_;refine bd aFA rfl ?_;have bf:decide ((16:Int)<((17-(d+1):Nat):Int))=false:=decide_eq_false (by omega)
  obtain⟨mE,iy,eZ,g0,ox⟩:=b0 h (.cells [.int .i64 0,.int .i64 0,.ag] 66 none);have Ss:=fX.ai W eZ (by simp[none_]) (by simp[none_])
  have ah:=Ss.2.1;have St:=W.1;have lj:=W.2.2.1.2.1;have bH:=W.2.2.2;have Su:(h.push (.cells [.int .i64 0,.int .i64 0,.ag] 66 none)).get C=.cells [.ptr B 0,.int .i64 ((64-left:Nat):Int)] 266 none:=by rw[<-iy];exact ah
  by_cases dZ:left=0
  ·have bu:(((64-left:Nat):Int)==64)=true:=by simp;omega
   have H:dY (d+1) left z=.error 11:=by rw[dY,if_pos dZ]
   simp only[ae,ds,AS,By,reduceCtorEq,abt,aY,gj,yR,qe,oS,bf,Su,bu,aP,aAh,iR,iG,fq,iQ];exact ar ⟨_,_,qV _ 11,by rw[H];rfl,(J.push _ _ _),λe Z E U=>by rw[H]at U;cases U⟩
  have bu:(((64-left:Nat):Int)==64)=false:=by simp;omega
  have hw:aOT.i64.wrap (((64-left:Nat):Int)+1)=((64-(left-1):Nat):Int):=by rw[Go.IntWalk.i64_in _ (by omega)];omega
  obtain⟨H1,fg⟩:∃y,y=mE.set C (.cells [.ptr B 0,.int .i64 ((64-(left-1):Nat):Int)] 266 none):=⟨_,rfl⟩;have bx:J mE H1 (λq=>q=C):=by rw[fg];exact J.set _ _ _
  have en:H1.n=mE.n:=by rw[fg];rfl
  have az:H1.get C=.cells [.ptr B 0,.int .i64 ((64-(left-1):Nat):Int)] 266 none:=by rw[fg];exact aL
  have g1:=(bx.get h.n (by omega) (by omega)).trans g0
  have cL:dS H1 (.ptr B 0) B z:=dS.ai Ss.2.2.1 bx (by omega)
  have o6:J h H1 (oU C B):=(eZ.up).trans bx λq N U=>.inl U;simp only[ae,ds,AS,By,reduceCtorEq,Vz,abt,VJ,aY,qe,qU,bf,Su,bu,hw];rw[<-iy,<-fg];clear iy fg;refine cA (QG (.ptr B 0) B z H1 cL ak (by omega)) λr ad ⟨bc,dB,k2⟩=>?_
  subst bc;have dd:=k2.n;have Mb:=(k2.get C (by omega) (by omega)).trans az
  have g2:=(k2.get h.n (by omega) (by omega)).trans g1
  have c4:J h ad (oU C B):=o6.trans k2 λq N U=>.inr U;by_cases iU:(dec z 0 0).2.2=0;rotate_left
  ·have c3:((((dec z 0 0).2.2:Nat):Int) !=0)=true:=by simp;omega
   have H:dY (d+1) left z=.error (dec z 0 0).2.2:=by rw[dY,if_neg dZ,if_pos iU]
   simp only[ae,ds,AS,gj,yR,qe,oS,c3,g2,aP,aAh,iR,iG,fq,iQ];exact ar ⟨_,_,qV _ _,by rw[H];rfl,c4.trans (J.set _ h.n _) λq N U=>by omega,λe Z E U=>by rw[H]at U;cases U⟩
  have c3:((((dec z 0 0).2.2:Nat):Int) !=0)=false:=by simp;omega
  obtain⟨R9,aO⟩:=z7 ak iU;have u6:dY (d+1) left z=(if(dec z 0 0).1<1\/16<(dec z 0 0).1 then .error 5
   else if(dec z 0 0).1=1 then
    if(dec (z.drop (dec z 0 0).2.1) 0 0).2.2≠0 then .error (dec (z.drop (dec z 0 0).2.1) 0 0).2.2
    else .ok (.mk 1 (gL (dec (z.drop (dec z 0 0).2.1) 0 0).1) [],(z.drop (dec z 0 0).2.1).drop (dec (z.drop (dec z 0 0).2.1) 0 0).2.1,left-1)
   else match ov (dY d) (zW (dec z 0 0).1).toNat (left-1) (z.drop (dec z 0 0).2.1)with
    | .error e=>.error e
    | .ok (aM,r)=>.ok (.mk (dec z 0 0).1 0 aM,r)):=by
   conv=>lhs;unfold dY
   rw[if_neg dZ,if_neg (by simpa using iU)]
   all_goals rfl
  have lg:∀y∈z.drop (dec z 0 0).2.1,y<256:=λy bk=>ak y (aAg bk);have hP:(z.drop (dec z 0 0).2.1).length<=2^47:=by rw[azD];omega
  simp only[ae,ds,c3];clear c3 iU R9;generalize z.drop (dec z 0 0).2.1=L at *;generalize(dec z 0 0).1=k at *;by_cases gJ:k<1
  ·have fb:decide ((k:Int)<1)=true:=decide_eq_true (by omega)
   have H:dY (d+1) left z=.error 5:=by rw[u6,if_pos (.inl gJ)]
   simp only[ae,ds,AS,gj,yR,qe,oS,fb,g2,aP,aAh,iR,iG,fq,iQ];exact ar ⟨_,_,qV _ 5,by rw[H];rfl,c4.trans (J.set _ h.n _) λq N U=>by omega,λe Z E U=>by rw[H]at U;cases U⟩
  have fb:decide ((k:Int)<1)=false:=decide_eq_false (by omega)
  by_cases rB:16<k
  ·have c5:decide ((16:Int)<(k:Int))=true:=decide_eq_true (by omega)
   have H:dY (d+1) left z=.error 5:=by rw[u6,if_pos (.inr rB)]
   simp only[ae,ds,AS,gj,yR,qe,oS,fb,c5,g2,aP,aAh,iR,iG,fq,iQ];exact ar ⟨_,_,qV _ 5,by rw[H];rfl,c4.trans (J.set _ h.n _) λq N U=>by omega,λe Z E U=>by rw[H]at U;cases U⟩
  have c5:decide ((16:Int)<(k:Int))=false:=decide_eq_false (by omega)
  rw[if_neg (by omega)]at u6
  have xJ:aOT.i64.wrap (k:Int)=(k:Int):=Go.IntWalk.i64_in _ (by omega)
  have aC:bA (some 3) (aR.cells [V.int .i64 0,V.int .i64 0,V.ag] 66 none) 0 [V.int .i64 (k:Int),V.int .i64 0,V.ag]=some (.cells [V.int .i64 (k:Int),V.int .i64 0,V.ag] 66 none):=rfl;obtain⟨D,Mc⟩:∃y,y=ad.n:=⟨_,rfl⟩;have Md:h.n<D:=by omega
  obtain⟨iV,jr,k3,_,n3⟩:=b0 ad (.cells [V.int .i64 (k:Int),V.int .i64 0,V.ag] 66 none);have Ev:iV.get D=.cells [V.int .i64 (k:Int),V.int .i64 0,V.ag] 66 none:=by rw[jr,Mc];exact fv
  have Sv:=(k3.get h.n (by omega) (by simp[none_])).trans g2
  have Me:=(k3.get C (by omega) (by simp[none_])).trans Mb
  have jf:dS iV (.ptr B 0) B L:=dS.ai dB k3 (by simp[none_])
  have ez:J h iV (oU C B):=c4.trans' k3.up;have D1:k<17:=by omega
  have fZ:(if(0:Int)<=(k:Int)/\(k:Int)<((17:Nat):Int)/\((k:Int).toNat*1)<=gv.length then some (V.at (gv.drop ((k:Int).toNat*1)))else none)=some (.at (.int .i64 (dR.getD k 0)::gv.drop (k+1))):=by
   rw[if_pos ⟨by omega,by omega,by simp[gv,dR];omega⟩]
   have:gv.drop ((k:Int).toNat*1)=.int .i64 (dR.getD k 0)::gv.drop (k+1):=by
    rw[ayQ,Nat.mul_one,azg (by simp[gv,dR];omega)]
    simp[gv,List.getD,IA (show k<dR.length by simp[dR];omega)]
   rw[this]
  have gX:=Wb (o:=(k:Int)) (by omega) (by omega)
  rw[ayQ]at gX;simp only[ae,ds,AS,By,pn,aY,yR,qe,oS,fb,c5,lL oP gS,xJ,aC];rw[<-Mc,<-jr];clear jr;by_cases mn:k=1
  ·have iT:((k:Int)==1)=true:=by simp;omega
   simp only[ae,ds,AS,reduceCtorEq,Vz,VJ,iT,Me];refine cA (Gr (.ptr B 0) B L iV jf lg (by omega)) λr bn ⟨hW,CO,cx⟩=>?_
   subst hW;have n4:=cx.n;have Ew:=(cx.get D (by omega) (by omega)).trans Ev
   have Mf:=(cx.get h.n (by omega) (by omega)).trans Sv
   have BO:=(cx.get C (by omega) (by omega)).trans Me
   have mq:J h bn (oU C B):=ez.trans cx λq N U=>.inr U;have aV:J iV bn (λq=>q=B):=cx;obtain⟨iW,iX⟩:∃y,y=bn.set D (.cells [V.int .i64 (k:Int),V.int .i64 (gL (dec L 0 0).1),V.ag] 66 none):=⟨_,rfl⟩;have dQ:J bn iW (λq=>q=D):=by rw[iX];exact J.set _ _ _
   have yU:iW.n=bn.n:=by rw[iX];rfl
   have HE:iW.get D=.cells [V.int .i64 (k:Int),V.int .i64 (gL (dec L 0 0).1),V.ag] 66 none:=by rw[iX];exact aL
   have HF:=(dQ.get h.n (by omega) (by omega)).trans Mf
   have aD:=(dQ.get C (by omega) (by omega)).trans BO
   have Jw:dS iW (.ptr B 0) B _:=dS.ai CO dQ (by omega)
   have kK:J h iW (oU C B):=mq.trans dQ λq N U=>by omega
   simp only[ae,fo,ds,AS,By,Jj,qT,Ew];rw[<-iX];clear iX;by_cases qw:(dec L 0 0).2.2=0;rotate_left
   ·have oT:((((dec L 0 0).2.2:Nat):Int) !=0)=true:=by simp;omega
    have H:dY (d+1) left z=.error (dec L 0 0).2.2:=by rw[u6,if_pos mn,if_pos qw]
    simp only[ae,ds,AS,gj,yR,qe,oS,oT,HF,aP,aAh,iR,iG,fq,iQ];exact ar ⟨_,_,qV _ _,by rw[H];rfl,kK.trans (J.set _ h.n _) λq N U=>by omega,λe Z E U=>by rw[H]at U;cases U⟩
   have oT:((((dec L 0 0).2.2:Nat):Int) !=0)=false:=by simp;omega
   have qm:=(z7 lg qw).2;have mh:∀y∈L.drop (dec L 0 0).2.1,y<256:=λy bk=>lg y (aAg bk);have h6:(L.drop (dec L 0 0).2.1).length<=2^47:=by rw[azD];omega
   rw[if_pos mn,if_neg (by simpa using qw)]at u6
   generalize L.drop (dec L 0 0).2.1=wM at *;generalize gL (dec L 0 0).1=n at *;have Sw:zW (k:Int)=0:=by rw[mn];decide
   obtain⟨m,hm⟩:∃m:Nat,m=(zW (k:Int)).toNat:=⟨_,rfl⟩;have Mg:m=0:=by rw[hm,Sw];rfl
   have H:dY (d+1) left z=(match ov (dY d) m (left-1) wM with | .error e=>.error e | .ok (aM,r)=>.ok (.mk (k:Int) n aM,r)):=by rw[u6,Mg,mn,ov];rfl
   have Mh:dR.getD k 0=(m:Int):=by rw[gX,Sw,Mg];rfl
   have Mi:fX iW C B wM (64-(left-1)):=⟨by omega,aD,Jw,bH⟩
   have Gs:∀(f:aj),aj.eval f iW (.global 2)=.at gv:=λf=>Ks (aw.ai kK);have Sx:=HE;have Gt:D<iW.n:=by omega
   simp only[ae,ds,pn,aY,oT];have u0:=QK (k:Int);simp only[ae,ds,AS,LA,aY,un,Sx,Gs,fZ,Mh];refine aS.bI (α:=Nat×V×List b6×List Nat×Nat) (λx f h'=>f 0=.ptr C 0/\f 1=.int .i64 ((17-(d+1):Nat):Int)/\f 4=.ptr h.n 0/\f 8=.ptr D 0/\f 69=.int .i64 (m:Nat)/\f 70=.int .i64 (x.1:Nat)/\x.1<=m/\h'.get h.n=.cells [.int .i64 0,.int .i64 0,.ag] 66 none/\h'.get D=.cells [.int .i64 (k:Int),.int .i64 n,x.2.1] 66 none /\
     Own h' 66 3 x.2.1 (x.2.2.1.flatMap aH)/\(∀j,aU x.2.1=some j->h.n<=j/\j≠h.n/\j≠D)/\x.2.2.1.length=x.1/\fX h' C B x.2.2.2.1 (64-x.2.2.2.2)/\x.2.2.2.2<=64/\(∀y∈x.2.2.2.1,y<256)/\x.2.2.2.1.length<=2^47/\J h h' (oU C B)/\D<h'.n /\
     ov (dY d) m (left-1) wM=(match ov (dY d) (m-x.1) x.2.2.2.2 x.2.2.2.1 with | .error e=>.error e | .ok (aM,r)=>.ok (x.2.2.1++aM,r))) (λx=>m-x.1) (0,.ag,[],wM,left-1)
    ⟨rfl,rfl,rfl,rfl,rfl,rfl,Dy _,HF,HE,Own.ag _ _ _,by simp[aU],rfl,Mi,by simp only;omega,mh,h6,kK,Gt,by simp only[aBy];cases ov (dY d) m (left-1) wM<;>rfl⟩ ?_
   rintro⟨i,s,aa,b,l⟩ f dh ⟨f0,f1,f4,f8,R,M,hi,g4,g8,os,u,kd,dc,z8,wN,tS,kk,Mj,F⟩
   simp only at M hi g8 os u kd dc z8 wN tS F;refine wpS ?_;by_cases Mk:i<m
   ·have ay:=dV (a:=i) (b:=m) (by omega)
    have Ml:=hR (i:=i) (by omega)
    have Ec:aOT.i64.wrap (((17-(d+1):Nat):Int)+1)=((17-d:Nat):Int):=by rw[Go.IntWalk.i64_in _ (by omega)];omega
    obtain⟨iY,Ex⟩:∃iY,m-i=iY+1:=⟨m-i-1,by omega⟩
    rw[Ex,ov]at F;simp only[ae,ds,reduceCtorEq,f0,f1,R,M,ay,Ec];refine cA (Wr d l b dh C B (by omega) z8 (aw.ai kk) dc wN tS) λr l1 ⟨wK,oa,d7⟩=>?_
    subst wK;have St:=dc.1;have lj:=dc.2.2.1.2.1;have Gu:C<h.n:=W.1;have Gv:B<h.n:=W.2.2.1.2.1;have Ws:h.n<D:=Md;have Ey:=(oa.get h.n (by omega) (by rintro(U|U)<;>omega)).trans g4
    have Mm:=(oa.get D Mj (by rintro(U|U)<;>omega)).trans g8
    have Mn:=os.ai oa λj G U=>by
     have:=(u j G).1;rcases U with U|U<;>omega
    have sX:J h l1 (oU C B):=kk.trans' oa;have n7:=oa.n;cases X:dY d l b with
    | error c=>
     rw[X]at F;have uX:=Ma d l b c X;have bf:((c:Int) !=0)=true:=by simp;omega
     rw[X]at d7;simp only at F;have mV:dY (d+1) left z=.error c:=by rw[H,F]
     simp only[vG];have tj:=z1 (.mk 0 0 []);have sY:=Eu (.mk 0 0 []);have wO:J l1 (l1.push (.cells (aH (.mk 0 0 [])) 66 none)) none_:=J.push _ _ _;have Mo:=(wO.get h.n (by omega) (by simp[none_])).trans Ey
     simp only[ae,ds,AS,gj,yR,qe,oS,f4,tj,sY,bf,Mo,aP,aAh,iR,iG,fq,iQ];refine ar ⟨_,_,qV _ c,by rw[mV];rfl,?_,λe Z E U=>by rw[mV]at U;cases U⟩
     exact((sX.trans' wO.up).trans (J.set _ h.n _) λq N U=>by omega)
    | ok r=>
     obtain⟨A,S,E⟩:=r;rw[X]at F;simp only at F;have gt:=QL d l b wN A S E X;have Mp:=d7 A S E X;have Gw:∀y∈S,y<256:=λy bk=>wN y (by rw[gt.wL];simp[bk])
     have Wt:S.length<=b.length:=by rw[gt.wL];simp
     have bl:=gt.sz;simp only[vG];have tj:=z1 A;have sY:=Eu A;have aG:=Ju A;obtain⟨Mq,uc,k8,g9,n8⟩:=b0 l1 (.cells (aH A) 66 none);have Ez:=(k8.get D (by omega) (by simp[none_])).trans Mm
     have Ew:=(k8.get h.n (by omega) (by simp[none_])).trans Ey
     have Mr:cO (aR.cells (aH A) 66 none) 0=some (aH A):=by cases A;rfl
     have ud:cJ (some (some 3)) (some (aH A))=some (.agg (aH A)):=by cases A;rfl
     obtain⟨O,Y,dy,CP,Q,Aa⟩:=acV (Mn.ba k8) (by omega) A
     have gk:=acU Mq A;have EA:∀j,aU s=some j->j<dh.n:=λj G=>os.lt j G;have Ms:=(Q.get D (by omega) (λU=>(u D U).2.2 rfl)).trans Ez
     have Mt:=(Q.get h.n (by omega) (λU=>(u h.n U).2.1 rfl)).trans Ew
     have mW:O.one=true:=by
      rcases CP with⟨rfl|rfl,_⟩|⟨_,_,_,_,_,rfl,_⟩<;>rfl
     have ue:O.cells=some [O]:=by
      rcases CP with⟨rfl|rfl,_⟩|⟨_,_,_,_,_,rfl,_⟩<;>rfl
     have dA:bA (some 1) (aR.cells [V.int .i64 (k:Int),V.int .i64 n,s] 66 none) 2 [O]=some (.cells [.int .i64 (k:Int),.int .i64 n,O] 66 none):=by rw[rA mW];rfl
     have z0:((0:Int) !=0)=false:=rfl;simp only[ae,ds,rJ,tf,qe,oS,f8,tj,sY];rw[<-uc];clear uc;simp only[ae,ds,AS,By,rJ,gj,ab6,f8,M,Ez,g9,Mr,ud,gk,dy,Ms,ue,dA,Ml];have T:J Y (Y.set D (.cells [V.int .i64 (k:Int),V.int .i64 n,O] 66 none)) (λq=>q=D):=J.set _ _ _;have uf:∀j,aU O=some j->h.n<=j/\j≠h.n/\j≠D:=λj G=>by
      rcases Aa with Aa|Aa
      ·exact u j (by rw[<-Aa];exact G)
      ·have:=Aa j G;omega
     have Mu:J h Y (oU C B):=(sX.trans' k8.up).trans Q λq N U=>by have:=(u q U).1;omega
     have Mv:fX Y C B S (64-E):=fX.ai Mp (k8.up.trans' Q) (λU=>by have:=(u C U).1;omega) (λU=>by have:=(u B U).1;omega)
     have aI:=Q.n;refine ar ⟨(i+1,O,aa++[A],S,E),⟨f0,f1,f4,f8,R,rfl,Mk,(n1 (by omega)).trans Mt,aL,CP.ai T (λj G U=>(uf j G).2.2 U),uf,by simp[kd],fX.ai Mv T (by omega) (by omega),by simp only;omega,Gw,by simp only;omega,Mu.trans T λq N U=>by omega,by rw[kj];omega,?_⟩,by simp only;omega⟩
     rw[F,show m-(i+1)=iY by omega]
     cases ov (dY d) iY E S with
     | error e=>rfl
     | ok r=>obtain⟨aM,r⟩:=r;simp
   ·have ay:=eC (a:=i) (b:=m) (by omega)
    rw[show m-i=0 by omega,ov]at F
    simp only[axX]at F;have mV:dY (d+1) left z=.ok (.mk k n aa,b,l):=by rw[H,F]
    have mW:s.one=true:=by
     rcases os with⟨rfl|rfl,_⟩|⟨_,_,_,_,_,rfl,_⟩<;>rfl
    have EB:bA (some 3) (aR.cells [V.int .i64 0,V.int .i64 0,V.ag] 66 none) 0 [.int .i64 (k:Int),.int .i64 n,s]=some (.cells [.int .i64 (k:Int),.int .i64 n,s] 66 none):=by
     exact(uR (n:=3) (vs:=[V.int .i64 (k:Int),V.int .i64 n,s]) rfl (by simp only[all_cons,all_nil,PJ,mW,aBt])).trans rfl
    have T:J dh (dh.set h.n (.cells [V.int .i64 (k:Int),V.int .i64 n,s] 66 none)) (λq=>q=h.n):=J.set _ _ _;have EC:=os.ai T λj G U=>(u j G).2.1 U;obtain⟨Y,iq,Q⟩:=aco (k:Int) n EC;simp only[ae,ds,AS,gj,oS,f4,f8,R,M,ay,g8,g4,EB,aP,aAh,iR,iG,fq,iQ];have Gu:C<h.n:=W.1;have Gv:B<h.n:=W.2.2.1.2.1;refine ar ⟨_,Y,aF.tuple (aA.cons iq (aA.refl _ _)),by rw[mV];rfl,(kk.trans T λq N U=>by omega).trans Q λq N U=>by have:=(u q U).1;omega,λe Z E U=>?_⟩
    rw[mV]at U;cases U;exact fX.ai (fX.ai dc T (by omega) (by omega)) Q (λU=>by have:=(u C U).1;omega) (λU=>by have:=(u B U).1;omega)
  ·have iT:((k:Int)==1)=false:=by simp;omega
   rw[if_neg mn]at u6;obtain⟨m,hm⟩:∃m:Nat,m=(zW (k:Int)).toNat:=⟨_,rfl⟩;rw[<-hm]at u6;have qm:=QK (k:Int);obtain⟨n,aB⟩:∃n:Int,n=0:=⟨0,rfl⟩;rw[<-aB]at u6 Ev;have H:=u6;have Mh:dR.getD k 0=(m:Int):=by rw[gX,hm];omega
   have Mi:fX iV C B L (64-(left-1)):=⟨by omega,Me,jf,bH⟩
   have Gs:∀(f:aj),aj.eval f iV (.global 2)=.at gv:=λf=>Ks (aw.ai ez);have Sx:=Ev;have HF:=Sv;have HE:=Ev;have kK:=ez;have Gt:D<iV.n:=by omega
   have mh:=lg;have h6:=hP;simp only[ae,ds,AS,LA,pn,aY,un,Ev,iT];have u0:=QK (k:Int);simp only[ae,ds,aY,Gs,fZ,Mh];refine aS.bI (α:=Nat×V×List b6×List Nat×Nat) (λx f h'=>f 0=.ptr C 0/\f 1=.int .i64 ((17-(d+1):Nat):Int)/\f 4=.ptr h.n 0/\f 8=.ptr D 0/\f 69=.int .i64 (m:Nat)/\f 70=.int .i64 (x.1:Nat)/\x.1<=m/\h'.get h.n=.cells [.int .i64 0,.int .i64 0,.ag] 66 none/\h'.get D=.cells [.int .i64 (k:Int),.int .i64 n,x.2.1] 66 none /\
     Own h' 66 3 x.2.1 (x.2.2.1.flatMap aH)/\(∀j,aU x.2.1=some j->h.n<=j/\j≠h.n/\j≠D)/\x.2.2.1.length=x.1/\fX h' C B x.2.2.2.1 (64-x.2.2.2.2)/\x.2.2.2.2<=64/\(∀y∈x.2.2.2.1,y<256)/\x.2.2.2.1.length<=2^47/\J h h' (oU C B)/\D<h'.n /\
     ov (dY d) m (left-1) L=(match ov (dY d) (m-x.1) x.2.2.2.2 x.2.2.2.1 with | .error e=>.error e | .ok (aM,r)=>.ok (x.2.2.1++aM,r))) (λx=>m-x.1) (0,.ag,[],L,left-1)
    ⟨rfl,rfl,rfl,rfl,rfl,rfl,Dy _,HF,HE,Own.ag _ _ _,by simp[aU],rfl,Mi,by simp only;omega,mh,h6,kK,Gt,by simp only[aBy];cases ov (dY d) m (left-1) L<;>rfl⟩ ?_
   rintro⟨i,s,aa,b,l⟩ f dh ⟨f0,f1,f4,f8,R,M,hi,g4,g8,os,u,kd,dc,z8,wN,tS,kk,Mj,F⟩
   simp only at M hi g8 os u kd dc z8 wN tS F;refine wpS ?_;by_cases Mk:i<m
   ·have ay:=dV (a:=i) (b:=m) (by omega)
    have Ml:=hR (i:=i) (by omega)
    have Ec:aOT.i64.wrap (((17-(d+1):Nat):Int)+1)=((17-d:Nat):Int):=by rw[Go.IntWalk.i64_in _ (by omega)];omega
    obtain⟨iY,Ex⟩:∃iY,m-i=iY+1:=⟨m-i-1,by omega⟩
    rw[Ex,ov]at F;simp only[ae,ds,reduceCtorEq,f0,f1,R,M,ay,Ec];refine cA (Wr d l b dh C B (by omega) z8 (aw.ai kk) dc wN tS) λr l1 ⟨wK,oa,d7⟩=>?_
    subst wK;have St:=dc.1;have lj:=dc.2.2.1.2.1;have Gu:C<h.n:=W.1;have Gv:B<h.n:=W.2.2.1.2.1;have Ws:h.n<D:=Md;have Ey:=(oa.get h.n (by omega) (by rintro(U|U)<;>omega)).trans g4
    have Mm:=(oa.get D Mj (by rintro(U|U)<;>omega)).trans g8
    have Mn:=os.ai oa λj G U=>by
     have:=(u j G).1;rcases U with U|U<;>omega
    have sX:J h l1 (oU C B):=kk.trans' oa;have n7:=oa.n;cases X:dY d l b with
    | error c=>
     rw[X]at F;have uX:=Ma d l b c X;have bf:((c:Int) !=0)=true:=by simp;omega
     rw[X]at d7;simp only at F;have mV:dY (d+1) left z=.error c:=by rw[H,F]
     simp only[vG];have tj:=z1 (.mk 0 0 []);have sY:=Eu (.mk 0 0 []);have wO:J l1 (l1.push (.cells (aH (.mk 0 0 [])) 66 none)) none_:=J.push _ _ _;have Mo:=(wO.get h.n (by omega) (by simp[none_])).trans Ey
     simp only[ae,ds,AS,gj,yR,qe,oS,f4,tj,sY,bf,Mo,aP,aAh,iR,iG,fq,iQ];refine ar ⟨_,_,qV _ c,by rw[mV];rfl,?_,λe Z E U=>by rw[mV]at U;cases U⟩
     exact((sX.trans' wO.up).trans (J.set _ h.n _) λq N U=>by omega)
    | ok r=>
     obtain⟨A,S,E⟩:=r;rw[X]at F;simp only at F;have gt:=QL d l b wN A S E X;have Mp:=d7 A S E X;have Gw:∀y∈S,y<256:=λy bk=>wN y (by rw[gt.wL];simp[bk])
     have Wt:S.length<=b.length:=by rw[gt.wL];simp
     have bl:=gt.sz;simp only[vG];have tj:=z1 A;have sY:=Eu A;have aG:=Ju A;obtain⟨Mq,uc,k8,g9,n8⟩:=b0 l1 (.cells (aH A) 66 none);have Ez:=(k8.get D (by omega) (by simp[none_])).trans Mm
     have Ew:=(k8.get h.n (by omega) (by simp[none_])).trans Ey
     have Mr:cO (aR.cells (aH A) 66 none) 0=some (aH A):=by cases A;rfl
     have ud:cJ (some (some 3)) (some (aH A))=some (.agg (aH A)):=by cases A;rfl
     obtain⟨O,Y,dy,CP,Q,Aa⟩:=acV (Mn.ba k8) (by omega) A
     have gk:=acU Mq A;have EA:∀j,aU s=some j->j<dh.n:=λj G=>os.lt j G;have Ms:=(Q.get D (by omega) (λU=>(u D U).2.2 rfl)).trans Ez
     have Mt:=(Q.get h.n (by omega) (λU=>(u h.n U).2.1 rfl)).trans Ew
     have mW:O.one=true:=by
      rcases CP with⟨rfl|rfl,_⟩|⟨_,_,_,_,_,rfl,_⟩<;>rfl
     have ue:O.cells=some [O]:=by
      rcases CP with⟨rfl|rfl,_⟩|⟨_,_,_,_,_,rfl,_⟩<;>rfl
     have dA:bA (some 1) (aR.cells [V.int .i64 (k:Int),V.int .i64 n,s] 66 none) 2 [O]=some (.cells [.int .i64 (k:Int),.int .i64 n,O] 66 none):=by rw[rA mW];rfl
     have z0:((0:Int) !=0)=false:=rfl;simp only[ae,ds,rJ,tf,qe,oS,f8,tj,sY];rw[<-uc];clear uc;simp only[ae,ds,AS,By,rJ,gj,ab6,f8,M,Ez,g9,Mr,ud,gk,dy,Ms,ue,dA,Ml];have T:J Y (Y.set D (.cells [V.int .i64 (k:Int),V.int .i64 n,O] 66 none)) (λq=>q=D):=J.set _ _ _;have uf:∀j,aU O=some j->h.n<=j/\j≠h.n/\j≠D:=λj G=>by
      rcases Aa with Aa|Aa
      ·exact u j (by rw[<-Aa];exact G)
      ·have:=Aa j G;omega
     have Mu:J h Y (oU C B):=(sX.trans' k8.up).trans Q λq N U=>by have:=(u q U).1;omega
     have Mv:fX Y C B S (64-E):=fX.ai Mp (k8.up.trans' Q) (λU=>by have:=(u C U).1;omega) (λU=>by have:=(u B U).1;omega)
     have aI:=Q.n;refine ar ⟨(i+1,O,aa++[A],S,E),⟨f0,f1,f4,f8,R,rfl,Mk,(n1 (by omega)).trans Mt,aL,CP.ai T (λj G U=>(uf j G).2.2 U),uf,by simp[kd],fX.ai Mv T (by omega) (by omega),by simp only;omega,Gw,by simp only;omega,Mu.trans T λq N U=>by omega,by rw[kj];omega,?_⟩,by simp only;omega⟩
     rw[F,show m-(i+1)=iY by omega]
     cases ov (dY d) iY E S with
     | error e=>rfl
     | ok r=>obtain⟨aM,r⟩:=r;simp
   ·have ay:=eC (a:=i) (b:=m) (by omega)
    rw[show m-i=0 by omega,ov]at F
    simp only[axX]at F;have mV:dY (d+1) left z=.ok (.mk k n aa,b,l):=by rw[H,F]
    have mW:s.one=true:=by
     rcases os with⟨rfl|rfl,_⟩|⟨_,_,_,_,_,rfl,_⟩<;>rfl
    have EB:bA (some 3) (aR.cells [V.int .i64 0,V.int .i64 0,V.ag] 66 none) 0 [.int .i64 (k:Int),.int .i64 n,s]=some (.cells [.int .i64 (k:Int),.int .i64 n,s] 66 none):=by
     exact(uR (n:=3) (vs:=[V.int .i64 (k:Int),V.int .i64 n,s]) rfl (by simp only[all_cons,all_nil,PJ,mW,aBt])).trans rfl
    have T:J dh (dh.set h.n (.cells [V.int .i64 (k:Int),V.int .i64 n,s] 66 none)) (λq=>q=h.n):=J.set _ _ _;have EC:=os.ai T λj G U=>(u j G).2.1 U;obtain⟨Y,iq,Q⟩:=aco (k:Int) n EC;simp only[ae,ds,AS,gj,oS,f4,f8,R,M,ay,g8,g4,EB,aP,aAh,iR,iG,fq,iQ];have Gu:C<h.n:=W.1;have Gv:B<h.n:=W.2.2.1.2.1;refine ar ⟨_,Y,aF.tuple (aA.cons iq (aA.refl _ _)),by rw[mV];rfl,(kk.trans T λq N U=>by omega).trans Q λq N U=>by have:=(u q U).1;omega,λe Z E U=>?_⟩
    rw[mV]at U;cases U;exact fX.ai (fX.ai dc T (by omega) (by omega)) Q (λU=>by have:=(u C U).1;omega) (λU=>by have:=(u B U).1;omega)
def o8(a:List Nat):Except Nat b6:=match dY 16 64 a with
 | .error c=>.error c
 | .ok (e,r,_)=>if r.length=0 then .ok e else .error 5
def pP(a:List Nat):b6:=match o8 a with
 | .error _=>.mk 0 0 []
 | .ok e=>e
def o9(a:List Nat):Nat:=match o8 a with
 | .error c=>c
 | .ok _=>0
def ug(a:List Nat):V:=.tuple [.agg (aH (pP a)),.int .i64 (o9 a:Nat)]
theorem aru(a:List Nat):a8 (ug a):=a8.tuple (bb.cons (a8.agg (V7 _)) (bb.cons (a8.int _ _) bb.nil))
theorem arv{a:List Nat}{c:Nat}(h:o8 a=.error c):c≠0:=by
 unfold o8 at h;split at h
 ·rename_i e i;cases h;exact Ma _ _ _ _ i
 ·split at h
  ·cases h
  ·cases h;omega
theorem arw{a:List Nat}(ak:∀b∈a,b<256){e:b6}(h:o8 a=.ok e):a=c9 e/\dj e=true/\hT e:=by
 unfold o8 at h;split at h
 ·cases h
 ·rename_i q r l i;split at h
  ·rename_i j;cases h;have g:=QL 16 64 a ak _ _ _ i;have m:r=[]:=azB j;refine⟨by rw[g.wL,m,axX],?_,g.ok⟩
   have s:=g.sz;unfold dj;rw[QF,if_pos ⟨g.deep,by omega⟩]
   rfl
  ·cases h
theorem ac1{e:b6}(a:dj e=true)(j:hT e):o8 (c9 e)=.ok e:=by
 have i:ti 16 e=true/\e0 e<=64:=by
  unfold dj at a;rw[QF]at a;split at a
  ·assumption
  ·cases a
 have:=acS 16 64 e [] i.1 j i.2;rw[axX]at this;unfold o8;rw[this];rfl
theorem Sy(x:V)(a:List Nat)(h:I)(aw:hB h)(rd:Rd h x a)(ak:∀b∈a,b<256)(ax:a.length<=2^47):Pure mc 114 [x] h (ug a):=by
 refine Pure.of (aru a) ?_;refine bd Tryz.func114 rfl ?_;obtain⟨i,Q,R,g0,ox⟩:=b0 h (.cells [.int .i64 0,.int .i64 0,.ag] 66 none);simp only[ae,ds,reduceCtorEq,qe];rw[<-Q];clear Q;refine cA (L5 x a i (rd.ai R) (by omega)) λr A ⟨ay,cL,S⟩=>?_
 subst ay;have en:i.n+1<=A.n:=cL.2.1;have g1:=(S.get h.n (by omega) (by simp[none_])).trans g0
 have F:bA (some 2) (aR.cells [V.dx,V.int .i64 0] 266 none) 0 [V.ptr i.n 0,V.int .i64 0]=some (.cells [V.ptr i.n 0,V.int .i64 0] 266 none):=rfl;obtain⟨G,T,H,Mb,dd⟩:=b0 A (.cells [V.ptr i.n 0,V.int .i64 0] 266 none);have g2:=(H.get h.n (by omega) (by simp[none_])).trans g1
 have dc:fX G A.n i.n a (64-64):=⟨by omega,Mb,dS.ai cL H (by simp[none_]),by omega⟩
 have W:J h G none_:=(R.trans' S).trans' H;simp only[ae,ds,AS,By,aqd,aqz,aqM,F];rw[<-T];clear T;refine cA (Wr 16 64 a G A.n i.n (by decide) (by decide) (aw.ai W) dc ak ax) λr B ⟨cW,L,d3⟩=>?_
 subst cW;have n3:=L.n;have X:=(L.get h.n (by omega) (by rintro(U|U)<;>omega)).trans g2
 have Y:J h B none_:=W.trans L λq M U=>by rcases U with U|U<;>omega
 cases j:dY 16 64 a with
 | error c=>
  have uX:=Ma _ _ _ _ j;have m:((c:Int) !=0)=true:=by simp;omega
  have s:o8 a=.error c:=by unfold o8;rw[j]
  have u:ug a=.tuple [.agg (aH (.mk 0 0 [])),.int .i64 (c:Nat)]:=by unfold ug pP o9;rw[s]
  rw[u];have C:=z1 (.mk 0 0 []);have D:=Eu (.mk 0 0 []);have Z:J B (B.push (.cells (aH (.mk 0 0 [])) 66 none)) none_:=J.push _ _ _;have E:=(Z.get h.n (by omega) (by simp[none_])).trans X
  simp only[vG];simp only[ae,ds,AS,gj,yR,qe,oS,C,D,m,E,aP,aD3,iR,iG,fq,iQ];exact ar ⟨_,qV _ c,(Y.trans' Z).trans (J.set _ h.n _) λq M U=>by omega⟩
 | ok r=>
  obtain⟨e,z,b1⟩:=r;have N:=d3 e z b1 j;have z0:((0:Int) !=0)=false:=rfl;have C:=z1 e;have D:=Eu e;obtain⟨mF,mr,O,Mf,_⟩:=b0 B (.cells (aH e) 66 none);have E:=(O.get h.n (by omega) (by simp[none_])).trans X
  have Sz:=fX.ai N O (by simp[none_]) (by simp[none_])
  have BO:=Sz.2.1;have mq:=Y.trans' O;simp only[vG];simp only[ae,ds,Vz,VJ,qe,oS,C,D];rw[<-mr];clear mr;simp only[ae,ds,AS,BO];refine bO (Left mF _ _ z Sz.2.2.1) ?_;by_cases SA:z.length=0
  ·have m:decide ((0:Int)<(z.length:Int))=false:=decide_eq_false (by omega)
   have s:o8 a=.ok e:=by unfold o8;rw[j];simp only;rw[if_pos SA]
   have u:ug a=.tuple [.agg (aH e),.int .i64 0]:=by unfold ug pP o9;rw[s];rfl
   rw[u];have Mr:cO (aR.cells (aH e) 66 none) 0=some (aH e):=by cases e;rfl
   have ud:cJ (some (some 3)) (some (aH e))=some (.agg (aH e)):=by cases e;rfl
   have lk:=Ju e;simp only[ae,ds,gj,oS,m,Mf,E,Mr,ud,C,D,aP,aD3,iR,iG,fq,iQ];exact ar ⟨_,aF.refl _ _,mq.trans (J.set _ h.n _) λq M U=>by omega⟩
  ·have m:decide ((0:Int)<(z.length:Int))=true:=decide_eq_true (by omega)
   have s:o8 a=.error 5:=by unfold o8;rw[j];simp only;rw[if_neg SA]
   have u:ug a=.tuple [.agg (aH (.mk 0 0 [])),.int .i64 (5:Nat)]:=by unfold ug pP o9;rw[s]
   rw[u];simp only[ae,ds,AS,gj,yR,qe,oS,m,E,aP,aD3,iR,iG,fq,iQ];exact ar ⟨_,qV _ 5,mq.trans (J.set _ h.n _) λq M U=>by omega⟩
def pQ:Option Int->V
 | some n=>.tuple [.int .i64 n,.int .i64 0]
 | none=>.tuple [.int .i64 0,.int .i64 10]
theorem arx(e:b6)(i rv j a:Int)(o:Option Int)(m:dj e=true)(q:c2 i rv j a 16 e=o)(h:I)(s:hB h) :
  Pure mc 175 [.agg (aH e),.agg [.int .i64 i,.int .i64 rv,.int .i64 j],.int .i64 a] h (pQ o):=by
 have:=acn e i rv j a h s;rw[m,q]at this;cases o<;>exact this
def kD(v i:V):Prop:=∀ ρ a,aE ρ v a->aE ρ i a
def kE(l i:List V):Prop:=∀ ρ a,a6 ρ l a->a6 ρ i a
theorem kD.refl(v:V):kD v v:=λ_ _ h=>h
theorem kE.refl(l:List V):kE l l:=λ_ _ h=>h
theorem kE.cons{v i:V}{l j:List V}(a:kD v i)(b:kE l j):kE (v::l) (i::j):=fun ρ B h=>by
 obtain⟨s,u,rfl,z,A⟩:=h.dT;exact a6.cons (a ρ s z) (b ρ u A)
theorem kE.append{a i b j:List V}(aT:kE a i)(z:a.length=i.length)(ak:kE b j):kE (a++b) (i++j):=fun ρ A h=>by
 have s:=h.take a.length;have u:=h.drop a.length;rw[azT]at s;rw[aAe]at u;have:=(aT ρ _ s).append (ak ρ _ u);rwa[azU]at this
theorem kD.ag:kD .ag (.af 0 []):=fun ρ i h=>by cases h;exact .fD none 0 (by simp)
theorem kD.af{n:Nat}{cs j:List V}(h:kE cs j)(u:cs.length=j.length):kD (.af n cs) (.af n j):=fun ρ s A=>by
 cases A with
 | af o n cap ak B H C=>
  rename_i b arr;have D:a6 ρ cs ((arr.toList.drop o).take cs.length):=by
   refine⟨by simp;omega,λk v s E i=>?_⟩
   rw[azf]at i;split at i
   ·rw[azF]at i;exact C k v s E (by simpa using i)
   ·cases i
  have i:=h ρ _ D;refine .af o n cap ak B (by omega) λk v s z F=>?_
  have G:k<cs.length:=by rw[u];exact(are.1 z).1
  refine i.2 k v s z ?_;rw[azf,if_pos G,azF];simpa using F
 | fD a c aT=>
  have:j=[]:=azB (by simpa using u.symm)
  subst this;exact .fD a c aT
theorem kD.cast{v i:V}(a:kD v i)(h:I):aF v h i h:=fun ρ B z w j s u=>⟨ρ,Ren.le.refl ρ,s,a ρ j u⟩
theorem ary(n:Nat)(g:FuncId)(cap:List V)(p:Nat->Bool)(h:I)(O:n<2^61)(B:mC mc g=true)(C:∀i,i<n->Pure mc g (.int .i64 (i:Nat)::cap) h (.bool (p i)))
  (r:Nat) (D:r<=n) (E:∀t,t<r->p t=false) (F:∀t,r<=t->t<n->p t=true):Pure mc 243 [.int .i64 (n:Nat),.func (.func g) [] cap] h (.int .i64 (r:Nat)):=by
 refine bd Tryz.func243 rfl ?_;simp only[ae,ds,reduceCtorEq];refine aS.bI (α:=Nat×Nat) (λx f h'=>h'=h/\f 1=.func (.func g) [] cap/\f 5=.int .i64 (x.1:Nat)/\f 6=.int .i64 (x.2:Nat)/\x.1<=r/\r<=x.2/\x.2<=n) (λx=>x.2-x.1) (0,n)
  ⟨rfl,rfl,rfl,rfl,Dy _,D,BY _⟩ ?_
 rintro⟨lo,hi⟩ f h' ⟨rfl,m,a,j,s,u,z⟩
 simp only at a j s u z;refine wpS ?_;by_cases Q:lo<hi
 ·have q:decide ((lo:Int)<(hi:Int))=true:=decide_eq_true (by omega)
  have G:aOT.i64.wrap ((lo:Int)+(hi:Int))=((lo+hi:Nat):Int):=by rw[Go.IntWalk.i64_in _ (by omega)];omega
  have H:=UQ (n:=lo+hi) (by omega)
  have L:(((lo+hi:Nat):Int)).fdiv (2^(min (Int.toNat 1) aOT.u64.bits))=(((lo+hi) / 2:Nat):Int):=by
   rw[show(2:Int)^(min (Int.toNat 1) aOT.u64.bits)=2 from rfl,Int.fdiv_eq_ediv_of_nonneg _ (by omega)];omega
  have M:=aar (n:=(lo+hi) / 2) (by omega)
  have N:=mQ (i:=(lo+hi) / 2) (n:=n) (by omega) (by omega)
  simp only[ae,ds,m,a,j,q,G,lL gS Ge,H,Ku (show(0:Int)<=1 by decide),L,lL Ge gS,M]
  refine wd B (C _ (by omega)) ?_
  cases A:p ((lo+hi) / 2)
  ·have:¬r<=(lo+hi) / 2:=λU=>by have:=F _ U (by omega);rw[A]at this;cases this
   simp only[ae,ds,N];exact ar ⟨((lo+hi) / 2+1,hi),⟨rfl,m,rfl,j,by simp only;omega,u,z⟩,by simp only;omega⟩
  ·have:¬(lo+hi) / 2<r:=λU=>by have:=E _ U;rw[A]at this;cases this
   simp only[ae,ds];exact ar ⟨(lo,(lo+hi) / 2),⟨rfl,m,a,rfl,s,by simp only;omega,by simp only;omega⟩,by simp only;omega⟩
 ·have q:decide ((lo:Int)<(hi:Int))=false:=decide_eq_false (by omega)
  obtain rfl:lo=r:=by omega
  simp only[ae,ds,a,j,q,aP,Tryz.results243,ac];exact ar ⟨rfl,rfl⟩
theorem ac4{α:Type}(A M X:List α){a:Nat}(aT:A.length=a):lay (A++M) a X=A++X++M.drop X.length:=by
 unfold lay;rw[<-aT,azT,show A.length+X.length=A.length+X.length from rfl,List.drop_append]
 simp
theorem arz{α:Type}(A M X B:List α){a x b:Nat}(aT:A.length=a)(i:X.length=x)(ak:B.length=b)(j:M.length=x+b):lay (lay (A++M) a X) (a+x) B=A++X++B:=by
 rw[ac4 A M X aT,ac4 (A++X) _ B (by simp[aT,i])]
 rw[azz (l:=M.drop X.length) (by simp;omega)]
 simp
theorem arA{α:Type}(c A B X:List α){a x b:Nat}(j:c.take (a+b)=A++B)(aT:A.length=a)(ak:B.length=b)(m:X.length=x)(s:a+x+b<=c.length) :
  ∃R,lay (lay c (a+x) B) a X=A++X++(B++R)/\(lay (lay c (a+x) B) a X).length=c.length:=by
 have q:c.take a=A:=by
  have:=congrArg (azw a) j;rw[azY,azt (by omega),<-aT,azT]at this
  rw[<-aT];exact this
 have i:(lay c (a+x) B).length=c.length:=r6 _ _ _ (by omega)
 refine⟨c.drop (a+x+b),?_,by rw[r6 _ _ _ (by omega),i]⟩
 have ay:(lay c (a+x) B).take a=A:=by
  unfold lay;rw[axV,List.take_append_of_le_length (by rw[TY];omega),azY,azt (by omega),q]
 have bc:(lay c (a+x) B).drop (a+x)=B++c.drop (a+x+b):=by
  unfold lay;rw[axV,List.drop_append_of_le_length (by rw[TY];omega),azz (by rw[TY];omega),ak]
  simp
 generalize lay c (a+x) B=d at ay bc i;unfold lay;rw[ay,m,bc]
theorem ac5:xw mc 245:=⟨_,Tryz.func245,by kernel_rfl,by kernel_rfl,by kernel_rfl,by kernel_rfl,282,350,2,4,by kernel_rfl,by kernel_rfl,Tryz.underlying282,by kernel_rfl⟩
theorem arB(i len cap k j:Nat)(c cs xs:List V)(ex:Option Nat)(h:I)(o:vu h 350 2 i len cap c ex cs)(ax:len<2^40)(hk:k<=len)(N:h.get j=.cells xs 350 none)(jk:j<h.n)(iL:j≠i)
  (z:xs.length=2) (X:xs.all (·.one)=true) (mX:cs.all (·.one)=true):au mc 232 [.bg i 0 len cap,.int .i64 (k:Nat),.bg j 0 1 1] h
   (λr h'=>Own h' 350 2 r (cs.take (k*2)++xs++cs.drop (k*2))/\J h h' (λq=>q=i)/\cu h (.bg i 0 len cap) r):=by
 refine bd aD5 rfl ?_;have gT:=o;obtain⟨hi,G,H,Y,A,iN,lG⟩:=gT;have Z:((1:Nat):Int)=1:=rfl;have s1:=CC (P:=mc) (t:=282) (i:=i) (o:=0) (len:=len) (cap:=cap) (k:=.i64) zV A hk lG;have mj:Own h 350 2 (.bg j 0 1 1) xs:=.inr ⟨j,1,1,xs,none,rfl,jk,N,by rw[z],by rw[ajz (by omega)],.inl ⟨by unfold b7;omega,by omega,BY _⟩⟩
 have c8:=tc (P:=mc) (t:=282) wE mj (n:=1) (by rw[z]) (by decide) X
 by_cases qm:k=len
 ·subst qm;have d1:((k:Int)==(k:Int))=true:=by simp
  obtain⟨v',h',dy,ft,j5,eS⟩:=sj (P:=mc) (t:=282) (tx:=282) CJ (by decide) o.own c8 (by rw[z];rfl) (λm hm=>by
   change m*2=_ at hm;rw[H,z]at hm;exact⟨by simp only[lim];omega,by simp only[lim];omega⟩)
  simp only[ae,azX,ds,reduceCtorEq,wE,s1,Z,dy,aP,aBH,ac];refine ar ⟨?_,j5.mono λq L=>(Option.some.inj L).symm,eS⟩;rw[ajz (by omega),azz (by omega),axX]
  exact ft
 have qm:k<len:=by omega
 have d1:((k:Int)==(len:Int))=false:=by simp;omega
 have cE:=mQ (i:=len) (n:=len+1) (by omega) (by omega)
 have xJ:=mQ (i:=k) (n:=len) (by omega) (by omega)
 have av:=aaM (P:=mc) (t:=282) (i:=i) (o:=0) (len:=len) CJ A;have C:(cs.take (k*2)).length=k*2:=by rw[TY];omega
 have E:(cs.drop (k*2)).length=(len-k)*2:=by rw[azD];omega
 have b3:(c.drop (k*2)).take ((len-k)*2)=cs.drop (k*2):=by rw[<-Y,List.drop_take];congr 1;omega
 have wP:((c.drop (k*2)).take ((len-k)*2)).all (·.one)=true:=by
  rw[b3,ayL];exact λv aI=>ayL.1 mX v (aAg aI)
 have Q:(xs.drop 0).take (1*2)=xs:=by rw[azC,ajz (by omega)]
 by_cases fH:cap<len+1
 ·have d2:decide ((cap:Int)<((len+1:Nat):Int))=true:=decide_eq_true (by omega)
  have s2:=Le (P:=mc) (t:=282) (i:=i) (o:=0) (len:=len) (cap:=cap) (k:=.i64) (m:=k) zV A (by omega)
  have bT:aOT.i64.wrap (((len+1:Nat):Int)-(k:Int))=((len+1-k:Nat):Int):=by rw[Go.IntWalk.i64_in _ (by omega)];omega
  have ay:=aaN (P:=mc) (t:=282) (kq:=.i64) (o:=0) (len:=k) (cap:=cap) (n:=len+1-k) (kn:=.i64) (tn:=3) CJ (by kernel_rfl) (by decide) G (by omega) A (by omega) (by simp only[lim];omega) (by simp only[lim];omega) (by simp only[];omega)
  simp only[azC]at ay;have uh:k+(len+1-k)=len+1:=by omega
  rw[uh]at ay;obtain⟨u,s⟩:∃y,y=h.push (.cells (c.take (k*2)++made [V.int .i64 0,V.int .i64 0] (len+1-k)) 350 (some 2)):=⟨_,rfl⟩;rw[<-s]at ay;have g1:u.get h.n=.cells (c.take (k*2)++made [V.int .i64 0,V.int .i64 0] (len+1-k)) 350 (some 2):=by rw[s];exact fv
  have Be:u.get j=.cells xs 350 none:=by rw[s,iP jk];exact N
  have qg:u.get i=.cells c 350 ex:=by rw[s,iP hi];exact G
  have en:u.n=h.n+1:=by rw[s];rfl
  have bx:J h u none_:=by rw[s];exact J.push _ _ _
  have D:kx mc 282 (.bg h.n 0 (len+1) b7) (some (.int .i64 (k:Int))) none none=some (.bg h.n (0+k*2) (len+1-k) (b7+0+k)):=P7 (a:=0) zV (by omega)
  have F:kx mc 282 (.bg h.n 0 (len+1) b7) (some (.int .i64 ((k+1:Nat):Int))) none none=some (.bg h.n (0+(k+1)*2) (len+1-(k+1)) (b7+0+(k+1))):=P7 (a:=0) zV (by omega)
  rw[ayP,Nat.add_zero]at D F;have S:c.take (k*2)=cs.take (k*2):=by rw[<-Y,azY,azt (by omega)]
  have T:(made [V.int .i64 0,V.int .i64 0] (len+1-k)).length=(len+1-k)*2:=FE _ _;have bc:=D6 (P:=mc) (t:=282) (tx:=282) (o:=k*2) (dl:=len+1-k) (dc:=b7+k) (p:=0) (n:=1) (d:=1) (m:=1) CJ g1 Be (by show min 1 (len+1-k)=1;omega) (by decide) (by simp only[];omega) (by rw[Dx,T,S,C];simp only[];omega) (by rw[Q];exact X)
  rw[Q]at bc;obtain⟨ca,M⟩:∃y,y=u.set h.n (.cells (lay (c.take (k*2)++made [V.int .i64 0,V.int .i64 0] (len+1-k)) (k*2) xs) 350 (some 2)):=⟨_,rfl⟩;rw[<-M]at bc;have g2:ca.get h.n=.cells (lay (c.take (k*2)++made [V.int .i64 0,V.int .i64 0] (len+1-k)) (k*2) xs) 350 (some 2):=by rw[M];exact aL
  have yl:ca.get i=.cells c 350 ex:=by rw[M,n1 (by omega)];exact qg
  have dw:(lay (c.take (k*2)++made [V.int .i64 0,V.int .i64 0] (len+1-k)) (k*2) xs).length=(len+1)*2:=by rw[r6 _ _ _ (by rw[Dx,T,S,C,z];omega),Dx,T,S,C];omega
  have k2:J h ca none_:=by rw[M];exact bx.trans (J.set _ _ _) λq L U=>by omega
  have Gx:=CC (P:=mc) (t:=282) (i:=i) (o:=0) (len:=len) (cap:=cap) (k:=.i64) (l:=k) zV A hk lG;rw[if_neg (by omega),ayP]at Gx
  have B:=D6 (P:=mc) (t:=282) (tx:=282) (o:=(k+1)*2) (dl:=len+1-(k+1)) (dc:=b7+(k+1)) (p:=k*2) (n:=len-k) (d:=cap-k) (m:=len-k) CJ g2 yl (by show min (len-k) (len+1-(k+1))=len-k;omega) (by omega) (by simp only[];omega) (by rw[dw];simp only[];omega) wP
  simp only at B;rw[b3]at B;rw[show(k+1)*2=k*2+2 by omega]at F B
  rw[S,arz (cs.take (k*2)) (made [V.int .i64 0,V.int .i64 0] (len+1-k)) xs (cs.drop (k*2)) C z E (by rw[T];omega)]at B
  simp only[ae,azX,ds,reduceCtorEq,wE,s1,Z,d1,cE,av,d2,s2,bT,ay,D,bc];refine aS.cS none_ [8] (.q 0 (.q 1 (.q 2 (.q 3 (.q 4 (.q 5 (.q 6 (.q 7 (.a 8 .done))))))))) ?_;simp only[ae,bt,ds,reduceCtorEq,xJ,F,Gx,B,aP,aBH,ac];refine ar ⟨?_,?_,.inr λq L=>?_⟩
  ·refine Own.grown (by rw[kj,M,kj,en];omega) aL ?_
   simp only[Dx,C,E,z];omega
  ·exact(k2.trans (J.set _ _ _) λq L U=>by omega).up
  ·simp only[aU,Option.some.injEq]at L;omega
 ·have d2:decide ((cap:Int)<((len+1:Nat):Int))=false:=decide_eq_false (by omega)
  have W:len+1<=cap:=by omega
  have s2:=Le (P:=mc) (t:=282) (i:=i) (o:=0) (len:=len) (cap:=cap) (k:=.i64) (m:=len+1) zV A W;have D:=CC (P:=mc) (t:=282) (i:=i) (o:=0) (len:=len+1) (cap:=cap) (k:=.i64) (l:=k+1) zV A (by omega) W
  rw[if_neg (by omega),ayP]at D
  have F:=CC (P:=mc) (t:=282) (i:=i) (o:=0) (len:=len+1) (cap:=cap) (k:=.i64) (l:=k) zV A (by omega) W
  rw[if_neg (by omega),ayP]at F
  have Ac:wh h [.bg j 0 1 1,.bg i ((k+1)*2) (len+1-(k+1)) (cap-(k+1))]=some (.bool false):=by
   cases c with
   | nil=>simp at iN;omega
   | cons jy Ad=>simp[wh,N,G,iL]
  have cM:len*2+2<=c.length:=by omega
  have bc:=D6 (P:=mc) (t:=282) (tx:=282) (o:=(k+1)*2) (dl:=len+1-(k+1)) (dc:=cap-(k+1)) (p:=k*2) (n:=len+1-k) (d:=cap-k) (m:=len-k) CJ G G (by show min (len+1-k) (len+1-(k+1))=len-k;omega) (by omega) (by simp only[];omega) (by simp only[];omega) wP
  simp only at bc;rw[b3]at bc;obtain⟨R,eF,BP⟩:=arA c (cs.take (k*2)) (cs.drop (k*2)) xs (a:=k*2) (x:=2) (b:=(len-k)*2) (by rw[azU,show k*2+(len-k)*2=len*2 by omega];exact Y) C E z (by omega)
  rw[show(k+1)*2=k*2+2 by omega]at D Ac bc
  obtain⟨u,s⟩:∃y,y=h.set i (.cells (lay c (k*2+2) (cs.drop (k*2))) 350 ex):=⟨_,rfl⟩;rw[<-s]at bc;have g1:u.get i=.cells (lay c (k*2+2) (cs.drop (k*2))) 350 ex:=by rw[s];exact aL
  have Be:u.get j=.cells xs 350 none:=by rw[s,n1 iL];exact N
  have bx:J h u (λq=>q=i):=by rw[s];exact J.set _ _ _
  have en:u.n=h.n:=by rw[s];rfl
  have eD:(lay c (k*2+2) (cs.drop (k*2))).length=c.length:=r6 _ _ _ (by rw[E];omega)
  have B:=D6 (P:=mc) (t:=282) (tx:=282) (o:=k*2) (dl:=len+1-k) (dc:=cap-k) (p:=0) (n:=1) (d:=1) (m:=1) CJ g1 Be (by show min 1 (len+1-k)=1;omega) (by decide) (by simp only[];omega) (by rw[eD];simp only[];omega) (by rw[Q];exact X)
  simp only at B;rw[Q]at B;simp only[ae,azX,ds,reduceCtorEq,wE,s1,Z,d1,cE,av,d2,s2,xJ,D];refine ZX ap0 ac5 Ac ?_;simp only[ae,ds,reduceCtorEq];refine aS.cS none_ [8] (.q 0 (.q 1 (.q 2 (.q 3 (.q 4 (.q 5 (.q 6 (.q 7 (.a 8 .done))))))))) ?_;simp only[ae,bt,ds,reduceCtorEq,xJ,D,F,bc,B,aP,aBH,ac];refine ar ⟨.inr ⟨i,len+1,cap,_,ex,rfl,by rw[kj,en];exact hi,aL,?_,?_,.inl ⟨A,by rw[BP];exact iN,W⟩⟩,bx.trans' (J.set _ _ _),.inl rfl⟩
  ·simp only[Dx,C,E,z];omega
  ·rw[eF,<-axV];exact List.take_left' (by simp only[Dx,C,E,z];omega)
theorem insertC(v:V)(k j:Nat)(cs xs:List V)(h:I)(o:Own h 350 2 v cs)(ax:cs.length<2^40)(W:k*2<=cs.length)(F:h.get j=.cells xs 350 none)(G:j<h.n)(X:aU v≠some j)
  (a:xs.length=2) (H:xs.all (·.one)=true) (Y:cs.all (·.one)=true):au mc 232 [v,.int .i64 (k:Nat),.bg j 0 1 1] h
   (λr h'=>Own h' 350 2 r (cs.take (k*2)++xs++cs.drop (k*2))/\J h h' (a7 v)/\cu h v r):=by
 refine au.F4 o (by decide) (λz av=>?_) λi A cap c Z ad z ok dt kk aB=>?_
 ·subst av;obtain rfl:k=0:=by simp at W;omega
  have mj:Own h 350 2 (.bg j 0 1 1) xs:=.inr ⟨j,1,1,xs,none,rfl,G,F,by rw[a],by rw[ajz (by omega)],.inl ⟨by unfold b7;omega,by omega,BY _⟩⟩
  have c8:=tc (P:=mc) (t:=282) wE mj (n:=1) (by rw[a]) (by decide) H
  obtain⟨L,h',M,ft,j5,eS⟩:=sj (P:=mc) (t:=282) (tx:=282) CJ (by decide) o c8 (by rw[a];rfl) (λm B=>by
   change m*2=_ at B;rw[a]at B;simp only[ayK]at B;exact⟨by simp only[lim];omega,by simp only[lim];omega⟩)
  obtain⟨e,N,O⟩:=Cv (P:=mc) zV;have Q:((1:Nat):Int)=1:=rfl;have R:((0:Nat):Int)=0:=rfl;have s:Own h' 350 2 L (([]:List V).take (0*2)++xs++([]:List V).drop (0*2))/\J h h' (a7 v)/\cu h v L:=⟨by simpa using ft,j5,eS⟩
  rcases z with rfl|rfl
  ·have C:kx mc 282 .ag (some (.int .i64 0)) none none=some .ag:=by unfold kx;rw[N];simp only[O];rfl
   refine bd aD5 rfl ?_;simp only[ae,azX,ds,reduceCtorEq,wE,R,C,Q,M,aP,aBH,ac];exact ar s
  ·have C:kx mc 282 .z0 (some (.int .i64 0)) none none=some .z0:=by unfold kx;rw[N];simp only[O];rfl
   refine bd aD5 rfl ?_;simp only[ae,azX,ds,reduceCtorEq,wE,R,C,Q,M,aP,aBH,ac];exact ar s
 ·have D:aU v=some i:=by rcases z with rfl|rfl<;>rfl
  have S:j≠i:=λU=>X (by rw[D,U])
  have T:=ok.2.2.1;refine(arB i A cap k j c cs xs Z ad ok (by omega) (by omega) ((kk.get j G S).trans F) (by omega) S a H Y).mono λr h' ⟨o',k',u⟩=>⟨o',(kk.trans' k').mono λq E=>by subst E;exact D,?_⟩
  rcases u with u|u
  ·exact .inl (by rw[u,D];rfl)
  ·exact .inr λq E=>by have:=u q E;omega
abbrev eL:=Int×Int
def oy(l:List eL):Prop:=l.Pairwise λa b=>a.1<b.1
def look:List eL->Int->Option Int
 | [],_=>none
 | p::r,k=>if p.1=k then some p.2 else look r k
def put:List eL->Int->Int->List eL
 | [],k,v=>[(k,v)]
 | p::r,k,v=>if p.1<k then p::put r k v else if p.1=k then(k,v)::r else(k,v)::p::r
def rm:List eL->Int->List eL
 | [],_=>[]
 | p::r,k=>if p.1=k then r else p::rm r k
def pos:List eL->Int->Nat
 | [],_=>0
 | p::r,k=>if p.1<k then pos r k+1 else 0
def has(l:List eL)(k:Int):Bool:=(look l k).isSome
theorem Jx:∀(l:List eL) (k:Int),pos l k<=l.length
 | [],_=>BY _
 | p::r,k=>by
  unfold pos;split
  ·have:=Jx r k;simp only[axW];omega
  ·exact Dy _
theorem ac6:∀(l:List eL) (k:Int) (t:Nat) (p:eL),t<pos l k->l[t]?=some p->p.1<k
 | [],_,t,p,h,_=>by simp[pos]at h
 | q::r,k,t,p,h,a=>by
  unfold pos at h;split at h
  ·cases t with
   | zero=>simp at a;subst a;assumption
   | succ t=>exact ac6 r k t p (by omega) (by simpa using a)
  ·omega
theorem ac7:∀{l:List eL},oy l->∀(k:Int) (t:Nat) (p:eL),pos l k<=t->l[t]?=some p->k<=p.1
 | [],_,_,t,p,_,a=>by simp at a
 | q::r,j,k,t,p,h,a=>by
  have i:=aze.1 j;unfold pos at h;split at h
  ·cases t with
   | zero=>omega
   | succ t=>exact ac7 i.2 k t p (by omega) (by simpa using a)
  ·cases t with
   | zero=>simp at a;subst a;omega
   | succ t=>
    have:=i.1 p (List.mem_of_getElem? (by simpa using a))
    omega
theorem Wu:∀{l:List eL} {k:Int},(∀p∈l,k<p.1)->look l k=none
 | [],_,_=>rfl
 | q::r,k,h=>by
  unfold look;rw[if_neg (by have:=h q (by simp);omega)]
  exact Wu λp a=>h p (by simp[a])
theorem lO:∀{l:List eL},oy l->∀(k:Int),(has l k=true/\∃p,l[pos l k]?=some p/\p.1=k/\look l k=some p.2)\/(has l k=false/\look l k=none/\∀p,l[pos l k]?=some p->k<p.1)
 | [],_,k=>.inr ⟨rfl,rfl,by simp⟩
 | q::r,s,k=>by
  have j:=aze.1 s;unfold has pos;by_cases m:q.1<k
  ·rw[if_pos m];have:look (q::r) k=look r k:=by rw[look,if_neg (by omega)]
   rw[this];simpa [has]using lO j.2 k
  ·rw[if_neg m];by_cases i:q.1=k
   ·exact .inl ⟨by simp[look,i],q,by simp,i,by simp[look,i]⟩
   ·have:look (q::r) k=none:=Wu λp a=>by
     rcases Iz.1 a with rfl|a
     ·omega
     ·have:=j.1 p a;omega
    exact .inr ⟨by rw[this];rfl,this,λp a=>by simp at a;subst a;omega⟩
theorem QM:∀{l:List eL},oy l->∀(k v:Int),has l k=true->put l k v=l.set (pos l k) (k,v)
 | [],_,k,v,h=>by simp[has,look]at h
 | q::r,m,k,v,h=>by
  have j:=aze.1 m;unfold put pos;by_cases a:q.1<k
  ·rw[if_pos a,if_pos a,List.set_cons_succ,QM j.2 k v];have:look (q::r) k=look r k:=by rw[look,if_neg (by omega)]
   rw[has,this]at h;exact h
  ·rw[if_neg a,if_neg a];by_cases s:q.1=k
   ·rw[if_pos s];rfl
   ·exfalso;have:look (q::r) k=none:=Wu λp i=>by
     rcases Iz.1 i with rfl|i
     ·omega
     ·have:=j.1 p i;omega
    rw[has,this]at h;cases h
theorem Wv:∀{l:List eL},oy l->∀(k v:Int),has l k=false->put l k v=l.take (pos l k)++[(k,v)]++l.drop (pos l k)
 | [],_,k,v,h=>rfl
 | q::r,j,k,v,h=>by
  have m:=aze.1 j;unfold put pos;by_cases a:q.1<k
  ·rw[if_pos a,if_pos a,Wv m.2 k v]
   ·simp
   ·have:look (q::r) k=look r k:=by rw[look,if_neg (by omega)]
    rw[has,this]at h;exact h
  ·rw[if_neg a,if_neg a];by_cases i:q.1=k
   ·simp[has,look,i]at h
   ·rw[if_neg i];simp
theorem ac8:∀{l:List eL} {k v:Int} {p:eL},p∈put l k v->p=(k,v)\/p∈l
 | [],k,v,p,h=>by simp[put]at h;exact .inl h
 | q::r,k,v,p,h=>by
  unfold put at h;split at h
  ·rcases Iz.1 h with rfl|h
   ·exact .inr (by simp)
   ·rcases ac8 h with h|h
    ·exact .inl h
    ·exact .inr (by simp[h])
  ·split at h
   ·rcases Iz.1 h with rfl|h
    ·exact .inl rfl
    ·exact .inr (by simp[h])
   ·rcases Iz.1 h with rfl|h
    ·exact .inl rfl
    ·exact .inr h
theorem Mw:∀{l:List eL},oy l->∀(k v:Int),oy (put l k v)
 | [],_,k,v=>by simp[put,oy]
 | q::r,j,k,v=>by
  have i:=aze.1 j;unfold put;split
  ·refine aze.2 ⟨λp a=>?_,Mw i.2 k v⟩;rcases ac8 a with rfl|a
   ·assumption
   ·exact i.1 p a
  ·split
   ·rename_i m s;exact aze.2 ⟨λp a=>by have:=i.1 p a;simp only;omega,i.2⟩
   ·refine aze.2 ⟨λp a=>?_,j⟩;rcases Iz.1 a with rfl|a
    ·simp only;omega
    ·have:=i.1 p a;simp only;omega
theorem QN:∀(l:List eL) (k v x:Int),oy l->look (put l k v) x=if x=k then some v else look l x
 | [],k,v,x,_=>by simp only[put,look];by_cases h:k=x<;>simp[h,eq_comm]
 | q::r,k,v,x,m=>by
  have s:=aze.1 m;unfold put;by_cases j:q.1<k
  ·rw[if_pos j,look,look,QN r k v x s.2];by_cases a:q.1=x
   ·rw[if_pos a,if_neg (by omega),if_pos a]
   ·rw[if_neg a,if_neg a]
  ·rw[if_neg j];by_cases a:q.1=k
   ·rw[if_pos a,look,look];by_cases i:x=k
    ·simp[i]
    ·rw[if_neg (by simp only;omega),if_neg i,if_neg (by omega)]
   ·rw[if_neg a,look];by_cases i:x=k
    ·simp[i]
    ·rw[if_neg (by simp only;omega),if_neg i]
theorem ac9:∀{l:List eL},oy l->∀{p:eL},p∈l->look l p.1=some p.2
 | [],_,p,h=>by cases h
 | q::r,i,p,h=>by
  have a:=aze.1 i;rcases Iz.1 h with rfl|h
  ·simp[look]
  ·rw[look,if_neg (by have:=a.1 p h;omega)]
   exact ac9 a.2 h
theorem ada:∀{l:List eL} {k v:Int},look l k=some v->(k,v)∈l
 | [],_,_,h=>by cases h
 | q::r,k,v,h=>by
  unfold look at h;split at h
  ·rename_i a;have:=Option.some.inj h;subst this;subst a;simp
  ·simp[ada h]
theorem arC:∀{l:List eL},oy l->∀(k v:Int),(put l k v).length=if has l k=true then l.length else l.length+1:=by
 intro l a k v;cases h:has l k
 ·rw[Wv a k v h];have:=Jx l k;simp;omega
 ·rw[QM a k v h];simp
structure an where
 key:Int
 aX:Int
 to:Int
 val:Int
 del:Bool
 deriving DecidableEq
def aQ(c:an):List V:=[.int .i64 c.key,.int .i64 c.aX,.int .i64 c.to,.int .i64 c.val,.bool c.del]
theorem qh(r:an):(aQ r).length=5:=rfl
theorem Ww(r:an):(aQ r).all (·.one)=true:=rfl
theorem CQ(r:an):bb (aQ r):=bb.cons (a8.int _ _) (bb.cons (a8.int _ _) (bb.cons (a8.int _ _) (bb.cons (a8.int _ _) (bb.cons (a8.bool _) bb.nil))))
theorem Wx{l:List an}{k:Nat}(a:k<l.length){kk:aOT}:gP mc 52 (.af l.length (l.flatMap aQ)) (.int kk (k:Int))=some (.at (aQ l[k]++(l.drop (k+1)).flatMap aQ)):=tR qh a Qv
def iZ(p:eL):List V:=[.int .i64 p.1,.int .i64 p.2]
theorem CR(p:eL):(iZ p).length=2:=rfl
theorem adb(p:eL):(iZ p).all (·.one)=true:=rfl
theorem arD(l:List eL)(k:Nat)(p:eL)(a:k<l.length):lay (l.flatMap iZ) (k*2) (iZ p)=(l.set k p).flatMap iZ:=by
 unfold lay;rw[D2 CR,show k*2+(iZ p).length=(k+1)*2 by rw[CR];omega,yN CR,List.set_eq_take_append_cons_drop,if_pos a]
 simp
structure fU(h:I)(i:Nat)(v:V)(room:Int)(l:List eL):Prop where
 lt:i<h.n
 get:h.get i=.cells [.int .i64 room,v] 284 none
 own:Own h 350 2 v (l.flatMap iZ)
 ne:aU v≠some i
 oz:oy l
 len:(l.length:Int)<=room
 room:room<=1024
theorem fU.HG{h:I}{i:Nat}{v:V}{room:Int}{l:List eL}(k:fU h i v room l):l.length<=1024:=by have:=k.len;have:=k.room;omega
theorem fU.rows{h:I}{i:Nat}{v:V}{room:Int}{l:List eL}(k:fU h i v room l):(l.flatMap iZ).length=l.length*2:=fJ CR l
theorem fU.ai{h h':I}{i:Nat}{v:V}{room:Int}{l:List eL}{own:Nat->Prop}(k:fU h i v room l)(s:J h h' own)(u:¬own i)(z:∀j,aU v=some j->¬own j):fU h' i v room l :=
 ⟨IS k.lt s.n,(s.get i k.lt u).trans k.get,k.own.ai s z,k.ne,k.oz,k.len,k.room⟩
theorem fU.ba{h h':I}{i:Nat}{v:V}{room:Int}{l:List eL}(k:fU h i v room l)(j:J h h' none_):fU h' i v room l:=k.ai j (by simp[none_]) (by simp[none_])
theorem fU.vH{h h':I}{i:Nat}{v:V}{room:Int}{l:List eL}(k:fU h i v room l):dJ mc 282 v h'=some (.int .i64 (l.length:Nat)):=by
 have:=k.own.length (by decide) mc wE
 rw[k.rows,Nat.mul_div_cancel _ (by decide)]at this
 rw[<-this];rcases k.own with⟨rfl|rfl,_⟩|⟨j,n,c,_,_,rfl,_⟩
 ·rw[yK wE,yK wE]
 ·rw[zz wE,zz wE]
 ·rw[zy wE,zy wE]
theorem fU.row{h:I}{i:Nat}{v:V}{room:Int}{l:List eL}(k:fU h i v room l){t:Nat}{p:eL}(u:l[t]?=some p) :
  ∃j s cL,(∀kk,gP mc 282 v (.int kk (t:Int))=some (.ptr j (t*2)))/\aU v=some j/\j<h.n/\cO (h.get j) (t*2)=some (.int .i64 p.1::.int .i64 p.2::s)/\cO (h.get j) (t*2+1)=some (.int .i64 p.2::cL) /\
   ∀q:eL,∃ob,bA (some 2) (h.get j) (t*2) (iZ q)=some ob/\Own (h.set j ob) 350 2 v ((l.set t q).flatMap iZ)/\J h (h.set j ob) (a7 v):=by
 have z:=(are.1 u).1;have G:((l.flatMap iZ).drop (t*2)).take 2=iZ p:=by
  rw[yN CR,show 2=1*2 from rfl,D2 CR,azg z,(are.1 u).2]
  simp
 obtain⟨j,Q,A,H,B,L⟩:=U9 (P:=mc) (t:=282) (kk:=.i64) zV (by decide) k.own (k:=t) (by rw[k.rows];omega)
 obtain⟨s,C⟩:=B h 0 rfl (by decide)
 obtain⟨cL,D⟩:=B h 1 rfl (by decide)
 rw[G]at C D;refine⟨j,s,cL,λkk=>?_,A,H,C,D,λq=>?_⟩
 ·obtain⟨R,M,E,_⟩:=U9 (P:=mc) (t:=282) (kk:=kk) zV (by decide) k.own (k:=t) (by rw[k.rows];omega)
  rw[A]at E;cases E;exact M
 ·obtain⟨ob,N,F,O⟩:=L (iZ q) (CR q) (adb q);rw[arD l t q z]at F;exact⟨ob,N,F,O⟩
theorem arE(h:I)(i a b t:Nat)(v:V)(room key:Int)(l:List eL)(p:eL)(k:fU h i v room l)(aT:h.get a=.cells [.ptr i 0] 256 none)(ak:h.get b=.cells [.int .i64 key] 2 none)(s:l[t]?=some p) :
  Pure mc 244 [.int .i64 (t:Nat),.ptr a 0,.ptr b 0] h (.bool (decide (key<=p.1))):=by
 refine bd Tryz.func244 rfl ?_;obtain⟨j,A,cL,m,_,_,u,_⟩:=k.row s;have z:=k.get;have m:=m .i64;simp only[ae];refine aS.cS none_ [] (.q 0 (.q 1 (.q 2 (.q 3 (.q 4 (.q 5 (.q 6 (.q 7 (.q 8 (.q 9 (.q 10 .done))))))))))) ?_;simp only[ae,bt,ds,AS,By,reduceCtorEq,zS,Qh,bR,LM,Ba,aT,ak,z,m,u,aP,Tryz.results244,ac];exact ar ⟨rfl,rfl⟩
theorem ade(h:I)(i:Nat)(v:V)(room key:Int)(l:List eL)(k:fU h i v room l) :
  Pure mc 229 [.ptr i 0,.int .i64 key] h (.tuple [.int .i64 (pos l key:Nat),.bool (has l key)]):=by
 refine Pure.val (a8.tuple (bb.cons (a8.int _ _) (bb.cons (a8.bool _) bb.nil))) ?_;refine bd Tryz.func229 rfl ?_;obtain⟨H,hH⟩:∃y,y=(h.push (.cells [.ptr i 0] 256 none)).push (.cells [.int .i64 key] 2 none):=⟨_,rfl⟩;have u:H.get h.n=.cells [.ptr i 0] 256 none:=by rw[hH];exact yL
 have C:H.get (h.n+1)=.cells [.int .i64 key] 2 none:=by rw[hH];exact zA
 have z:J h H none_:=by rw[hH];exact(J.push _ _ _).bp _
 have kk:=k.ba z;have A:=kk.get;simp only[ae,ds,zS,VH,LM,Ba];rw[<-hH];clear hH;have B:=kk.vH (h':=H);simp only[ae,ds,AS,By,A,B];refine bO (ary l.length _ _ (λt=>match l[t]? with|some p=>decide (key<=p.1)|none=>true) H (by have:=k.HG;omega) apC (λt D=>?_) (pos l key) (Jx l key) (λt D=>?_) (λt M O=>?_)) ?_
 ·have a:l[t]?=some l[t]:=IA D;rw[a];exact arE H i h.n (h.n+1) t v room key l l[t] kk u C a
 ·cases a:l[t]? with
  | none=>have:=Jx l key;rw[List.getElem?_eq_none_iff]at a;omega
  | some p=>have:=ac6 l key t p D a;simp only[decide_eq_false_iff_not];omega
 ·cases a:l[t]? with
  | none=>rfl
  | some p=>have:=ac7 k.oz key t p M a;simp only[decide_eq_true_eq];exact this
 have Q:=Jx l key;rcases lO k.oz key with⟨ay,p,bc,E,R⟩|⟨ay,bc,E⟩
 ·obtain⟨j,N,cL,m,_,_,F,_⟩:=kk.row bc;have m:=m .i64;have L:=(are.1 bc).1;have s:decide (((pos l key:Nat):Int)<(l.length:Int))=true:=decide_eq_true (by omega)
  have G:(p.1==key)=true:=by simp[E]
  simp only[ae,ds];refine aS.cS none_ [] (.q 0 (.q 1 (.q 2 (.q 3 (.q 4 (.q 5 (.q 6 (.q 7 (.q 8 (.q 9 (.q 10 (.q 11 (.q 12 (.q 13 (.q 14 (.q 15 (.q 16 (.q 17 (.q 18 (.q 19 (.q 20 (.q 21 .done)))))))))))))))))))))) ?_;simp only[ae,bt,ds,AS,By,zS,Qh,bR,LM,Ba,u,C,A,B,s,m,F,G,aP,aD6,da];exact ar ⟨by rw[ay],z⟩
 ·by_cases L:pos l key<l.length
  ·have a:l[pos l key]?=some l[pos l key]:=IA L;obtain⟨j,N,cL,m,_,_,F,_⟩:=kk.row a;have m:=m .i64;have s:decide (((pos l key:Nat):Int)<(l.length:Int))=true:=decide_eq_true (by omega)
   have G:(l[pos l key].1==key)=false:=by have:=E _ a;simp;omega
   simp only[ae,ds];refine aS.cS none_ [] (.q 0 (.q 1 (.q 2 (.q 3 (.q 4 (.q 5 (.q 6 (.q 7 (.q 8 (.q 9 (.q 10 (.q 11 (.q 12 (.q 13 (.q 14 (.q 15 (.q 16 (.q 17 (.q 18 (.q 19 (.q 20 (.q 21 .done)))))))))))))))))))))) ?_;simp only[ae,bt,ds,AS,By,zS,Qh,bR,LM,Ba,u,C,A,B,s,m,F,G,aP,aD6,da];exact ar ⟨by rw[ay],z⟩
  ·have s:decide (((pos l key:Nat):Int)<(l.length:Int))=false:=decide_eq_false (by omega)
   simp only[ae,ds];refine aS.cS none_ [] (.q 0 (.q 1 (.q 2 (.q 3 (.q 4 (.q 5 (.q 6 (.q 7 (.q 8 (.q 9 (.q 10 (.q 11 (.q 12 (.q 13 (.q 14 (.q 15 (.q 16 (.q 17 (.q 18 (.q 19 (.q 20 (.q 21 .done)))))))))))))))))))))) ?_;simp only[ae,bt,ds,AS,By,zS,LM,Ba,u,A,B,s,aP,aD6,da];exact ar ⟨by rw[ay],z⟩
theorem adf(p:eL)(h:I):Pure mc 233 [.agg (iZ p)] h (.agg (aQ ⟨p.1,0,0,p.2,false⟩)):=by
 refine Pure.val (a8.agg (CQ _)) ?_;refine bd Tryz.func233 rfl ?_;have av:(V.agg (iZ p)).cells=some [.int .i64 p.1,.int .i64 p.2]:=rfl;simp only[ae,ds,AS,By,Qh,abA,ou,bR,Bb,oR,qS,av,aP,Tryz.results233,tb,fq];exact ar ⟨rfl,(J.push _ _ _).bp _⟩
def adg:an:=⟨0,0,0,0,false⟩
def full(room:Int)(l:List eL)(k:Int):Bool:=!has l k&&decide (room<=(l.length:Int))
def l6(room:Int)(l:List eL)(k v:Int):List eL:=if full room l k then l else put l k v
def kN(room:Int)(l:List eL)(k v:Int):an:=if full room l k then adg else⟨k,0,0,v,false⟩
def pR(room:Int)(l:List eL)(k:Int):Int:=if full room l k then 3 else 0
theorem arF{room:Int}{l:List eL}{k:Int}(h:has l k=true):full room l k=false:=by simp[full,h]
theorem arG{room:Int}{l:List eL}{k:Int}(h:has l k=false):full room l k=decide (room<=(l.length:Int)):=by simp[full,h]
def ED(i:Nat)(v:V):Nat->Prop:=λq=>q=i\/a7 v q
theorem arH(h:I)(p:eL):h3 mc 282 1 [(0,.agg (iZ p))] h=some (.bg h.n 0 1 1,h.push (.cells (iZ p) 350 none)):=PK CJ rfl rfl (by decide)
theorem arI(h:I)(i:Nat)(v:V)(room key val:Int)(l:List eL)(k:fU h i v room l) :
  au mc 215 [.ptr i 0,.int .i64 key,.int .i64 val] h (λr h'=>∃v',r=.tuple [.agg (aQ (kN room l key val)),.int .i64 (pR room l key)]/\fU h' i v' room (l6 room l key val)/\J h h' (ED i v)/\cu h v v'):=by
 refine bd Tryz.func215 rfl ?_;obtain⟨H,hH⟩:∃y,y=(h.push (.cells [.int .i64 0,.int .i64 0,.int .i64 0,.int .i64 0,.bool false] 110 none)).push (.cells [.int .i64 key,.int .i64 val] 350 none):=⟨_,rfl⟩;have X:H.get h.n=.cells [.int .i64 0,.int .i64 0,.int .i64 0,.int .i64 0,.bool false] 110 none:=by rw[hH];exact yL
 have N:H.get (h.n+1)=.cells [.int .i64 key,.int .i64 val] 350 none:=by rw[hH];exact zA
 have O:J h H none_:=by rw[hH];exact(J.push _ _ _).bp _
 have ib:H.n=h.n+2:=by rw[hH];rfl
 have kk:=k.ba O;have B:=kk.get;have cQ:=k.lt;simp only[ae,ds,AS,By,reduceCtorEq,aqj,oR,aqD,IR];rw[<-hH];clear hH;refine bO (ade H i v room key l kk) ?_;have ax:=kk.vH (h':=H);rcases lO k.oz key with⟨ay,p,bc,cW,hW⟩|⟨ay,bc,cW⟩
 ·have u:=arF (room:=room) ay;have C:kN room l key val=⟨key,0,0,val,false⟩:=by simp[kN,u]
  have D:pR room l key=0:=by simp[pR,u]
  have E:l6 room l key val=l.set (pos l key) (key,val):=by rw[l6,u];exact QM k.oz key val ay
  rw[C,D,E];obtain⟨j,n9,cL,Y,Q,CS,_,_,CT⟩:=kk.row bc;have Y:=Y .i64;obtain⟨F,EE,Z,y3⟩:=CT (key,val);unfold iZ at EE;have iL:j≠i:=λU=>kk.ne (by rw[Q,U])
  have ag:j<h.n:=k.own.lt j Q;have z0:(H.set j F).get h.n=_:=(n1 (by omega)).trans X
  have My:(H.set j F).get (h.n+1)=_:=(n1 (by omega)).trans N
  simp only[ae,ds,ay];refine aS.cS none_ [7] (.q 0 (.q 1 (.q 2 (.q 3 (.q 4 (.q 5 (.q 6 (.a 7 .done)))))))) ?_;simp only[ae,bt,ds,AS,By,reduceCtorEq,zS,Ba,VL,IR,N,B,Y,EE,My];refine bO (adf (key,val) _) ?_;have iN:(V.agg (aQ ⟨key,0,0,val,false⟩)).cells=some [.int .i64 key,.int .i64 0,.int .i64 0,.int .i64 val,.bool false]:=rfl;simp only[ae,ds,AS,ou,qS,z0,iN,aP,aD7,iR,iG,fq,iQ];have z:J (H.set j F) ((H.set j F).set h.n (.cells [.int .i64 key,.int .i64 0,.int .i64 0,.int .i64 val,.bool false] 110 none)) (λq=>q=h.n):=J.set _ _ _;have kw:J H (H.set j F) (λq=>q=j):=J.set _ _ _;refine ar ⟨v,rfl,⟨by rw[kj,kj];exact kk.lt,?_,Z.ai z λq m=>by rw[Q]at m;cases m;omega,k.ne,?_,by rw[List.length_set];exact k.len,k.room⟩,?_,.inl rfl⟩
  ·rw[n1 (by omega),n1 (by omega)];exact B
  ·rw[<-QM k.oz key val ay];exact Mw k.oz _ _
  ·refine((O.up (o:=ED i v)).trans kw λq m U=>.inr ?_).trans z λq m U=>by omega
   subst U;exact Q
 ·have u:=arG (room:=room) ay;by_cases R:room<=(l.length:Int)
  ·have u:full room l key=true:=by rw[u];exact decide_eq_true R
   have C:kN room l key val=adg:=by simp[kN,u]
   have D:pR room l key=3:=by simp[pR,u]
   have E:l6 room l key val=l:=by simp[l6,u]
   rw[C,D,E];have d1:decide (room<=(l.length:Int))=true:=decide_eq_true R;simp only[ae,ds,ay];refine aS.cS none_ [] (.q 0 (.q 1 (.q 2 (.q 3 (.q 4 (.q 5 (.q 6 (.q 7 (.q 8 (.q 9 (.q 10 (.q 11 (.q 12 (.q 13 (.q 14 .done))))))))))))))) ?_;simp only[ae,bt,ds,AS,By,reduceCtorEq,abu,zS,VH,ou,Ba,aY,Bb,oR,qS,X,B,ax,d1,aP,aD7,iR,iG,fq,iQ];have z:J H (H.set h.n (.cells [.int .i64 0,.int .i64 0,.int .i64 0,.int .i64 0,.bool false] 110 none)) (λq=>q=h.n):=J.set _ _ _;refine ar ⟨v,rfl,kk.ai z (by omega) λq m=>by have:=k.own.lt q m;omega,?_,.inl rfl⟩
   exact(O.up (o:=ED i v)).trans z λq m U=>by omega
  ·have u:full room l key=false:=by rw[u];exact decide_eq_false R
   have C:kN room l key val=⟨key,0,0,val,false⟩:=by simp[kN,u]
   have D:pR room l key=0:=by simp[pR,u]
   have E:l6 room l key val=put l key val:=by simp[l6,u]
   rw[C,D,E];have d1:decide (room<=(l.length:Int))=false:=decide_eq_false R;simp only[ae,ds,ay];refine aS.cS none_ [] (.q 0 (.q 1 (.q 2 (.q 3 (.q 4 (.q 5 (.q 6 (.q 7 (.q 8 (.q 9 (.q 10 (.q 11 (.q 12 (.q 13 (.q 14 .done))))))))))))))) ?_;simp only[ae,bt,ds,AS,By,reduceCtorEq,abu,zS,VH,Ba,aY,B,ax,d1];have f1:a7 v i=False:=eq_false λU=>k.ne U;have f2:a7 v (h.n+1)=False:=eq_false λU=>by have:=k.own.lt _ U;omega
   obtain⟨ca,bP,G,de,dd⟩:=b0 H (.cells (iZ (key,val)) 350 none);have c4:=kk.ba G;have gk:=arH H (key,val);rw[<-bP]at gk;unfold iZ at gk;refine aS.cS (λx=>a7 v x) [7,8,11] (.q 0 (.q 1 (.q 2 (.q 3 (.q 4 (.q 5 (.q 6 (.e 7 (.e 8 (.q 9 (.q 10 (.a 11 .done))) .stop) .stop)))))))) ?_;simp only[ae,bt,fo,ds,AS,By,reduceCtorEq,zS,Ba,VL,N,B,f1,f2,gk];refine⟨G.up,?_⟩;refine cA (insertC v (pos l key) H.n (l.flatMap iZ) (iZ (key,val)) ca c4.own (by rw[k.rows];have:=k.HG;omega) (by rw[k.rows];have:=Jx l key;omega) de (by omega) (λU=>by have:=k.own.lt _ U;omega) rfl rfl (P3 adb l)) λr S ⟨T,L,s⟩=>?_
   have pK:(l.flatMap iZ).take (pos l key*2)++iZ (key,val)++(l.flatMap iZ).drop (pos l key*2)=(put l key val).flatMap iZ:=by
    rw[D2 CR,yN CR,Wv k.oz key val ay];simp
   rw[pK]at T;have ym:=(L.get i (by omega) (by rw[f1];exact id)).trans c4.get
   have Mz:=(L.get h.n (by omega) (λU=>by have:=k.own.lt _ U;omega)).trans ((G.get h.n (by omega) (by simp[none_])).trans X)
   have aa:=(L.get (h.n+1) (by omega) (by rw[f2];exact id)).trans ((G.get (h.n+1) (by omega) (by simp[none_])).trans N)
   have k9:r.one=true:=by
    rcases T with⟨rfl|rfl,_⟩|⟨_,_,_,_,_,rfl,_⟩<;>rfl
   have jb:r.cells=some [r]:=by
    rcases T with⟨rfl|rfl,_⟩|⟨_,_,_,_,_,rfl,_⟩<;>rfl
   have dA:bA (some 1) (aR.cells [V.int .i64 room,v] 284 none) 1 [r]=some (.cells [.int .i64 room,r] 284 none):=by rw[rA k9];rfl
   have EG:J H S (λx=>a7 v x):=(G.up).trans' L;have n3:=L.n;simp only[ae,bt,fo,ds,zS,VL,aqN,ym,jb,dA,EG];obtain⟨A,M⟩:∃y,y=S.set i (.cells [V.int .i64 room,r] 284 none):=⟨_,rfl⟩;have W:J S A (λq=>q=i):=by rw[M];exact J.set _ _ _
   have z0:A.get h.n=_:=(W.get h.n (by omega) (by omega)).trans Mz
   have My:A.get (h.n+1)=_:=(W.get (h.n+1) (by omega) (by omega)).trans aa
   have ad:A.get i=.cells [.int .i64 room,r] 284 none:=by rw[M];exact aL
   have n4:A.n=S.n:=by rw[M];rfl
   have lj:aU r≠some i:=λU=>by
    rcases s with s|s
    ·rw[s]at U;exact k.ne U
    ·have:=s i U;omega
   have qX:Own A 350 2 r ((put l key val).flatMap iZ):=T.ai W λq m U=>lj (by rw[m,U])
   rw[<-M];clear M;simp only[ae,ds,AS,My];refine bO (adf (key,val) _) ?_;have iN:(V.agg (aQ ⟨key,0,0,val,false⟩)).cells=some [.int .i64 key,.int .i64 0,.int .i64 0,.int .i64 val,.bool false]:=rfl;simp only[ae,ds,AS,ou,qS,z0,iN,aP,aD7,iR,iG,fq,iQ];have z:J A (A.set h.n (.cells [.int .i64 key,.int .i64 0,.int .i64 0,.int .i64 val,.bool false] 110 none)) (λq=>q=h.n):=J.set _ _ _;have oj:∀q,aU r=some q->q≠h.n:=λq m U=>by
    rcases s with s|s
    ·rw[s]at m;have:=k.own.lt q m;omega
    ·have:=s q m;omega
   refine ar ⟨r,rfl,⟨by rw[kj];omega,?_,qX.ai z λq m=>oj q m,lj,Mw k.oz _ _,?_,k.room⟩,?_,?_⟩
   ·rw[n1 (by omega)];exact ad
   ·rw[arC k.oz,if_neg (by rw[ay];simp)];omega
   ·refine(((O.up (o:=ED i v)).trans EG λq m U=>.inr U).trans W λq m U=>.inl U).trans z λq m U=>by omega
   ·rcases s with s|s
    ·exact .inl s
    ·exact .inr λq m=>by have:=s q m;omega
theorem adh(h:I)(i:Nat)(v:V)(room key:Int)(l:List eL)(k:fU h i v room l) :
  Pure mc 212 [.ptr i 0,.int .i64 key] h (.tuple [.int .i64 ((look l key).getD 0),.bool (has l key)]):=by
 refine bd Tryz.func212 rfl ?_;have m:=k.get;simp only[ae,ds,reduceCtorEq];refine bO (ade h i v room key l k) ?_;rcases lO k.oz key with⟨ay,p,bc,q,s⟩|⟨ay,bc,q⟩
 ·obtain⟨j,z,cL,a,_,_,_,u,_⟩:=k.row bc;have a:=a .i64;simp only[ae,ds,AS,By,reduceCtorEq,zS,abA,bR,Ba,ay,m,a,u,aP,aFB,da];exact ar ⟨by rw[s,ay];rfl,rfl⟩
 ·simp only[ae,ds,ay,aP,aFB,da];exact ar ⟨by rw[bc,ay];rfl,rfl⟩
theorem adi(h:I)(c:an):h3 mc 52 1 [(0,.agg (aQ c))] h=some (.bg h.n 0 1 1,h.push (.cells (aQ c) 110 none)):=PK Em rfl rfl (by decide)
theorem cu.later{h H:I}{v v':V}(d:cu H v v')(i:h.n<=H.n):cu h v v':=by
 rcases d with d|d
 ·exact .inl d
 ·exact .inr λq j=>ajy i (d q j)
theorem arL(h:I)(room:Int)(m:1<=room)(a:room<=1024):au mc 147 [.int .i64 room] h (λr h'=>r=.tuple [.ptr h.n 0,.int .i64 0]/\fU h' h.n .ag room []/\J h h' none_):=by
 refine bd Tryz.func147 rfl ?_;have i:decide (room<1)=false:=decide_eq_false (by omega)
 have j:decide (1024<room)=false:=decide_eq_false (by omega)
 simp only[ae,ds,AS,By,reduceCtorEq,aqe,aqA,i,j,aP,Tryz.results147,da];exact ar ⟨rfl,⟨by rw[df];omega,fv,.inl ⟨.inl rfl,rfl⟩,by simp[aU],List.Pairwise.nil,by simp;omega,a⟩,J.push _ _ _⟩
structure Rec where
 k:Int
 v:Int
 t:Int
 deriving DecidableEq
def aK(r:Rec):List V:=[.int .i64 r.k,.int .i64 r.v,.int .i64 r.t]
theorem Ae(r:Rec):(aK r).length=3:=rfl
theorem arM(r:Rec):(aK r).all (·.one)=true:=rfl
theorem MA(r:Rec):bb (aK r):=bb.cons (a8.int _ _) (bb.cons (a8.int _ _) (bb.cons (a8.int _ _) bb.nil))
structure bz where
 kind:Int
 bj:List Int
 e:b6
 n:Int
def al(v:bz):List V:=[.int .i64 v.kind,.af v.bj.length (ao v.bj)]++aH v.e++[.int .i64 v.n]
theorem la(v:bz):(al v).length=6:=by simp[al,rO]
theorem arN(v:bz):bb (al v) :=
 ((bb.cons (a8.int _ _) (bb.cons (a8.af (yM _)) bb.nil)).append (V7 v.e)).append (bb.cons (a8.int _ _) bb.nil)
structure xK(h:I)(a:Nat)(i:Nat)(v:V)(e:b6)(n:Int)(l:List eL):Prop where
 lt:a<h.n
 get:h.get a=.cells (aH e++[.int .i64 n,.iface 256 (.ptr i 0)]) 218 none
 kv:fU h i v 1024 l
 ne:a≠i
 adj:aU v≠some a
theorem arO(x:bz)(a:x.kind=6)(h:I):au mc 113 [.agg (al x)] h (λr h'=>∃i,r=.tuple [.iface 256 (.ptr i 0),.int .i64 0]/\h.n<=i/\fU h' i .ag 1024 []/\J h h' none_):=by
 refine bd Tryz.func113 rfl ?_;obtain⟨s,j,⟨o,m,q⟩,n⟩:=x;have a:s=6:=a;subst a;have a:al ⟨6,j,.mk o m q,n⟩=[.int .i64 6,.af j.length (ao j),.int .i64 o,.int .i64 m,.af q.length (q.flatMap aH),.int .i64 n]:=by simp[al,l3]
 rw[a];have u:J h (h.push (.cells [.int .i64 6,.af j.length (ao j),.int .i64 o,.int .i64 m,.af q.length (q.flatMap aH),.int .i64 n] 68 none)) none_:=J.push _ _ _;simp only[ae,ds,AS,hb,aY];refine cA (arL _ 1024 (by decide) (by decide)) λr B ⟨ay,z,A⟩=>?_
 subst ay;simp only[ae,ds,apN,aP,Tryz.results113,da];exact ar ⟨_,rfl,by omega,z,u.trans' A⟩
mutual
theorem Wy:(e:b6)->∀b∈c9 e,b<256
 | .mk o n l=>λb ak=>by
  rw[c9]at ak;simp only[ayN]at ak;rcases ak with(ak|ak)|ak
  ·exact Bc _ _ (BY _) b ak
  ·split at ak
   ·exact Bc _ _ (BY _) b ak
   ·cases ak
  ·exact adk l b ak
theorem adk:(l:List b6)->∀b∈Et l,b<256
 | []=>λb ak=>by rw[Et]at ak;cases ak
 | k::r=>λb ak=>by
  rw[Et]at ak;rcases ayN.1 ak with ak|ak
  ·exact Wy k b ak
  ·exact adk r b ak
end
theorem Gy(i:Nat):jg mc (.iface 256 (.ptr i 0)) 256 true=some (.tuple [.ptr i 0,.bool true]):=by
 unfold jg;rw[Tryz.underlying256];rfl
theorem adl(t:Int)(h:I):Pure mc 196 [.int .i64 t] h (.bool (decide (0<=t/\t<=1099511627776))):=by
 refine bd Tryz.func196 rfl ?_;by_cases a:0<=t
 ·have i:decide (0<=t)=true:=decide_eq_true a;by_cases j:t<=1099511627776
  ·have m:decide (t<=1099511627776)=true:=decide_eq_true j;simp only[ae,ds,reduceCtorEq,i,m,aP,aD8,ac];exact ar ⟨by rw[decide_eq_true (⟨a,j⟩:0<=t/\t<=1099511627776)],rfl⟩
  ·have m:decide (t<=1099511627776)=false:=decide_eq_false j;simp only[ae,ds,reduceCtorEq,i,m,aP,aD8,ac];exact ar ⟨by rw[decide_eq_false (λq:0<=t/\t<=1099511627776=>j q.2)],rfl⟩
 ·have i:decide (0<=t)=false:=decide_eq_false a;simp only[ae,ds,reduceCtorEq,i,aP,aD8,ac];exact ar ⟨by rw[decide_eq_false (λq:0<=t/\t<=1099511627776=>a q.1)],rfl⟩
theorem arP{h:I}{i:Nat}{v:V}{room:Int}{l:List eL}(k:fU h i v room l)(r:Rec):Pure mc 198 [.iface 256 (.ptr i 0),.agg (aK r)] h (.int .i64 ((look l r.k).getD 0)):=by
 refine Pure.val (a8.int _ _) ?_;obtain⟨a,m,q⟩:=r;refine bd Tryz.func198 rfl ?_;unfold aK;have j:J h (h.push (.cells [.int .i64 a,.int .i64 m,.int .i64 q] 45 none)) none_:=J.push _ _ _;simp only[ae,ds,AS,reduceCtorEq,vx,bR,Gy];refine bO (adh _ i v room a l (k.ba j)) ?_;simp only[ae,ds,aP,Tryz.results198,ac];exact ar ⟨rfl,j⟩
theorem arQ{h:I}{i:Nat}{v:V}{room:Int}{l:List eL}(k:fU h i v room l)(key:Int):Pure mc 202 [.iface 256 (.ptr i 0),.int .i64 key] h (.int .i64 ((look l key).getD 0)):=by
 refine bd Tryz.func202 rfl ?_;simp only[ae,ds,reduceCtorEq,Gy];refine bO (adh _ i v room key l k) ?_;simp only[ae,ds,aP,Tryz.results202,ac];exact ar ⟨rfl,rfl⟩
theorem MB(h:I)(c:an):h3 mc 52 1 [(0,.agg (aQ c))] h=some (.bg h.n 0 1 1,h.push (.cells (aQ c) 110 none)):=by rw[mD Em];rfl
theorem arR{h:I}{i:Nat}{v:V}{room:Int}{l:List eL}(k:fU h i v room l)(r:Rec)(n:Int) :
  au mc 199 [.iface 256 (.ptr i 0),.agg (aK r),.int .i64 n] h (λq h'=>∃v' j,q=.tuple [.bg j 0 1 1,.int .i64 r.t,.int .i64 (pR room l r.k)]/\fU h' i v' room (l6 room l r.k n)/\J h h' (ED i v)/\cu h v v' /\
   Own h' 110 5 (.bg j 0 1 1) (aQ (kN room l r.k n))/\h.n<=j/\j≠i/\aU v'≠some j):=by
 obtain⟨a,E,F⟩:=r;refine bd Tryz.func199 rfl ?_;unfold aK;obtain⟨H,hH,z,G,ox⟩:=b0 h (.cells [.int .i64 a,.int .i64 E,.int .i64 F] 45 none);simp only[ae,ds,AS,reduceCtorEq,vx,bR,Gy];rw[<-hH];clear hH;refine cA (arI H i v room a n l (k.ba z)) λq L ⟨M,ay,A,m,N⟩=>?_;subst ay;have aD:=k.lt;have O:=(m.get h.n (by omega) (by
  rintro(U|U)
  ·omega
  ·have:=k.own.lt _ U;omega)).trans G
 have cc:∀c:an,(V.agg (aQ c)).cells=some (aQ c):=λ_=>rfl;have Q:∀c:an,bA (some 5) (aR.cells [V.int .i64 0,V.int .i64 0,V.int .i64 0,V.int .i64 0,V.bool false] 110 none) 0 (aQ c)=some (.cells (aQ c) 110 none):=λ_=>rfl;obtain⟨s,B,u,R,dd⟩:=b0 L (.cells (aQ (kN room l a n)) 110 none);have S:=(u.get h.n (by have:=m.n;omega) (by simp[none_])).trans O
 simp only[ae,ds,oR,qS,cc,Q];rw[<-B];clear B;have T:=MB s (kN room l a n);have W:cJ (some (some 5)) (some (aQ (kN room l a n)))=some (.agg (aQ (kN room l a n))):=rfl;have X:cO (.cells (aQ (kN room l a n)) 110 none) 0=some (aQ (kN room l a n)):=rfl;generalize Y:aQ (kN room l a n)=C at *;refine aS.cS none_ [1] (.q 0 (.q 2 (.q 3 (.q 4 (.e 1 (.q 5 (.q 6 (.q 7 .done))) .stop))))) ?_;simp only[ae,bt,ds,AS,By,td,ou,bR,R,S,T,W,X,aP,Tryz.results199,xx];have D:J s (s.push (.cells C 110 none)) none_:=J.push _ _ _;have wo:=m.n;have Z:C.length=5:=by rw[<-Y];rfl
 refine ar ⟨M,s.n,rfl,(A.ba u).ba D,?_,cu.later N (by omega),Own.e4 _ 1 Z (by decide),by omega,by omega,λU=>?_⟩
 ·exact((z.up).trans' m).trans' ((u.trans' D).up)
 ·have:=A.own.lt _ U;omega
def d8(t:Int):Bool:=decide (0<=t/\t<=1099511627776)
theorem xK.ai{h h':I}{a i:Nat}{v:V}{e:b6}{n:Int}{l:List eL}{own:Nat->Prop}(s:xK h a i v e n l)(u:J h h' own)(z:¬own a)(A:¬own i)(B:∀j,aU v=some j->¬own j):xK h' a i v e n l :=
 ⟨IS s.lt u.n,(u.get a s.lt z).trans s.get,s.kv.ai u A B,s.ne,s.adj⟩
theorem xK.ba{h h':I}{a i:Nat}{v:V}{e:b6}{n:Int}{l:List eL}(s:xK h a i v e n l)(j:J h h' none_):xK h' a i v e n l:=s.ai j (by simp[none_]) (by simp[none_]) (by simp[none_])
end Go.Proofs.YtemdgidnhgcafaaGreatDoor.Pk
