/-
  What functions of the program do, told of abstract states. Conditions: as each theorem says.
-/
import Derived.Test.YtemdgidnhgcafaaGreatDoorQb
import Derived.Test.YtemdgidnhgcafaaGreatDoorAdD
import Derived.Shelf.Sort.Plain
import Derived.Shelf.Slices.In.SortNone
import Derived.Test.YtemdgidnhgcafaaGreatDoorProg
import Derived.Test.YtemdgidnhgcafaaGreatDoorQa
open Go.IntWalk renaming i64_in->kp
open Go.Proofs.YtemdgidnhgcafaaGreatDoor.Ab.V renaming int->kA,agg->kB
open Option renaming some->eL,none->eN
open Bool renaming true->e6,false->fr
open Go.IntKind renaming i64->gj
open Go.Proofs.Tryz renaming prog->mP,func74->aEM,func94->aER
open List renaming flatMap_append->ay3,take_of_length_le->ajE,take_succ_eq_append_getElem->ayY,mem_cons->IN,length_cons->axF,flatMap_cons->ayW,append_assoc->axC,drop_left->aAm,append_nil->axA,length_nil->ayx,find?_cons->azC,map_cons->ajF,mem_map->OF,nodup_cons->azD,map_map->azn,foldr_cons->aEL,mem_filter->ajA,mem_append->axE,cons_append->aza,getElem?_eq_getElem->Jt,drop_eq_getElem_cons->ay0,take_length->azB,pairwise_cons->ayA,Pairwise->azM,length_map->ajD,range->ajC,getD->ayX,getElem?_set->aAW,drop_of_length_le->azg,getElem_mem->ayz,length_range->aDw,getElem?_range->aA6,replicate->azj,length_replicate->aAP,length_append->D9,getElem?_eq_some_iff->axB,length_filter_le->azu,foldl_append->aAA,range_succ->aCH,contains_iff_mem->aAN,find?->aEU,mem_flatMap->aAg
open Nat renaming le_trans->UN,reduceEqDiff->ds,reduceAdd->AT,zero_le->D8,min_eq_left->azb,mul_one->axD,le_refl->BY,lt_of_lt_of_le->IS,sub_self->aCG,reduceLeDiff->By
open Int renaming toNat_natCast->ayw,reduceNeg->Js,le_refl->az7,tmod_lt_of_pos->aEQ,toNat->ay4,reduceBNe->azU
open Bool renaming and_eq_true->are
open Go renaming IntKind->aPh,TypeId->aPg
set_option linter.unusedVariables false
set_option linter.unusedSimpArgs false
set_option maxHeartbeats 8000000
set_option maxRecDepth 10000
namespace Go.Proofs.YtemdgidnhgcafaaGreatDoor.Pk
open Go Go.Proofs Go.Proofs.YtemdgidnhgcafaaGreatDoor.Ab
theorem atm(h:I)(v:bC):am mP 22 1 [(0,.agg (ao v))] h=eL (.bh h.n 0 1 1,h.push (.cells (ao v) 68 eN)):=by
 rw[sM,nm Wg];rfl
theorem atn{h:I}{s:V}{j:List bC}(o:Own h 68 6 s (j.flatMap ao))(G:j.length<=2^40)(c:bC) :
  ∃a h',kd mP 22 22 s (.bh h.n 0 1 1) (h.push (.cells (ao c) 68 eN))=eL (a,h')/\Own h' 68 6 a ((j++[c]).flatMap ao)/\J h h' (bb s)/\b6 h s a:=by
 have u:J h (h.push (.cells (ao c) 68 eN)) kR:=J.push _ _ _;have A:Own (h.push (.cells (ao c) 68 eN)) 68 6 (.bh h.n 0 1 1) (ao c):=Own.fz (ao c) 1 (lp c) (by decide);have B:=uc (P:=mP) (t:=22) d6 A (n:=1) (lp c) (by decide) (DG c);obtain⟨a,h',C,D,E,i⟩:=be (P:=mP) (t:=22) (tx:=22) Wg (by decide) (o.aY u) B (lp c) (λm z=>by
  change m*6=_ at z;rw[ft lp,lp]at z;exact⟨by simp only[lim];omega,by simp only[lim];omega⟩)
 refine⟨a,h',C,?_,(u.up).trans' E,?_⟩
 .rw[ay3];simpa using D
 .rcases i with i|i
  .exact .inl i
  .exact .inr λq F=>UN u.n (i q F)
theorem Kt(h:I)(c:Nat):aK (.tuple [.agg [.ah,.int gj 0],.int gj (c:Nat)]) h (.tuple [.agg (cx [] 0),.int gj (c:Nat)]) h :=
 aK.tuple (aE.cons (Pk.aK.agg (aE.cons (aK.h3 h) (aE.refl _ _))) (aE.refl _ _))
theorem ato{h:I}{s:V}{l:List bC}(p:Int)(o:Own h 68 6 s (l.flatMap ao)):∃a,aK (.agg [s,.int gj p]) h (.agg (cx l p)) a/\J h a (bb s):=by
 obtain⟨a,c,k⟩:=aK.own (n:=l.length) o (ft lp l) (by decide);exact⟨a,Pk.aK.agg (aE.cons c (aE.refl _ _)),k⟩
theorem aeP{a:List Nat}{c:Nat}(h:pH a=.error c):c≠0:=by
 unfold pH at h;split at h
 .injection h with h;omega
 unfold sR at h;split at h
 .injection h with h;omega
 unfold sQ at h;split at h
 .injection h with h;omega
 unfold sP at h;split at h
 .injection h with h;omega
 split at h
 .cases h
 split at h
 .injection h with h;omega
 .cases h
theorem atp{m:Nat}{i:List Nat}{a:List bC}{c:Nat}(h:pH i=.error c):j7 (m+1) i a=.error c:=by unfold j7;rw[h]
theorem atq(i:Nat)(a:List Nat)(h:I)(ay:h4 h)(aH:ei h (.ptr i 0) i a)(an:∀b∈a,b<256)(aw:a.length<=2^47) :
  au mP 66 [.ptr i 0] h (λr h'=>r=XQ (q1 a)/\J h h' (·=i)/\∀p l B,q1 a=.ok (p,l,B)->ei h' (.ptr i 0) i B):=by
 refine au.cast ?_;refine a7 Tryz.func66 rfl ?_;have b7:=aH.2.1;obtain⟨np,jh,IC,g0,nq⟩:=bU h (.cells [V.ah,.int gj 0] 24 eN);have eW:J h np (·=i):=IC.up;have pk:=ei.ai aH IC (by simp[kR]);have Z:bD (eL 2) (aP.cells [V.ah,.int gj 0] 24 eN) 0 [V.ah,.int gj 0]=eL (.cells [V.ah,.int gj 0] 24 eN):=rfl;have z0:(((0:Nat):Int) !=0)=false:=rfl;simp only[ae,ds,reduceCtorEq,al];rw[<-jh];clear jh;refine cp (Hg i a np pk an (by omega)) λr H1 ⟨az,db,bx⟩=>?_;subst az;have s1:Sub (a.drop (dec a 0 0).2.1) a:=Sub.drop _ _;have g1:=(bx.get h.n (by omega) (by omega)).trans g0;have pB:=eW.trans' bx;have eh:=bx.n;by_cases az:(dec a 0 0).2.2=0;rotate_left
 .have G:(((dec a 0 0).2.2:Int) !=0)=true:=by simp;omega
  have kI:q1 a=.error (dec a 0 0).2.2:=by unfold q1;rw[gr az]
  simp only[ae,ds,AT,al,G,g1,Z,aJ];rw[kI];exact ar ⟨_,_,Kt _ _,rfl,pB.trans (J.set _ h.n _) λq u U=>by omega,λp l B U=>by cases U⟩
 have O:q1 a=sT (min (dec a 0 0).1 1000) (a.drop (dec a 0 0).2.1):=by unfold q1;rw[gQ (by omega)]
 rw[az]at *;rw[O];generalize min (dec a 0 0).1 1000=P at *;generalize a.drop (dec a 0 0).2.1=z at *;clear O;simp only[ae,ds,reduceCtorEq,z0];refine cp (Hg i z H1 db (s1.lt an) (by have:=s1.2;omega)) λr bZ ⟨bd,ea,k2⟩=>?_;subst bd;have s2:=(Sub.drop z (dec z 0 0).2.1).trans s1;have g2:=(k2.get h.n (by omega) (by omega)).trans g1;have c4:=pB.trans' k2;have c6:=k2.n;by_cases bd:(dec z 0 0).2.2=0;rotate_left
 .have G:(((dec z 0 0).2.2:Int) !=0)=true:=by simp;omega
  have kI:sT P z=.error (dec z 0 0).2.2:=by unfold sT;rw[gr bd]
  simp only[ae,ds,AT,al,G,g2,Z,aJ];rw[kI];exact ar ⟨_,_,Kt _ _,rfl,c4.trans (J.set _ h.n _) λq u U=>by omega,λp l B U=>by cases U⟩
 have O:sT P z=if 24<min (dec z 0 0).1 1000 then .error 2 else sS P (min (dec z 0 0).1 1000) (z.drop (dec z 0 0).2.1):=by unfold sT;rw[gQ (by omega)]
 rw[bd]at *;rw[O];generalize min (dec z 0 0).1 1000=N at *;generalize z.drop (dec z 0 0).2.1=Q at *;clear O;by_cases Cy:24<N
 .have G:decide ((24:Int)<(N:Int))=true:=hO (by omega);simp only[ae,ds,AT,al,z0,G,g2,Z,aJ];rw[gr Cy];exact ar ⟨_,_,Kt _ 2,rfl,c4.trans (J.set _ h.n _) λq u U=>by omega,λp l B U=>by cases U⟩
 have G:decide ((24:Int)<(N:Int))=false:=hK (by omega);rw[gQ Cy];have aa:bD (eL 2) (aP.cells [V.ah,.int gj 0] 24 eN) 0 [V.ah,.int gj (P:Int)]=eL (.cells [V.ah,.int gj (P:Int)] 24 eN):=rfl;obtain⟨hb,gW,TR,ID,n3⟩:=bU bZ (.cells [V.ah,.int gj (P:Int)] 24 eN);have k3:J bZ hb (·=i):=TR.up;have g3:=(k3.get h.n (by omega) (by omega)).trans g2;have ez:=c4.trans' k3;have jI:=ei.ai ea TR (by simp[kR]);simp only[ae,ds,AT,al,z0,G,aa];rw[<-gW];clear gW;generalize k9:bZ.n=F at *;have XR:Own hb 68 6 .ah (([]:List bC).flatMap ao):=.inl ⟨.inl rfl,rfl⟩;refine aT.bG (α:=Nat×V×List bC×List Nat) (λx f h'=>f 0=.ptr i 0/\f 2=.ptr h.n 0/\f 7=.ptr F 0/\f 33=.int gj (N:Int)/\f 34=.int gj (x.1:Nat)/\x.1<=N/\x.2.2.1.length=x.1/\h'.get h.n=.cells [V.ah,.int gj 0] 24 eN/\h'.get F=.cells [x.2.1,.int gj (P:Int)] 24 eN /\
   Own h' 68 6 x.2.1 (x.2.2.1.flatMap ao)/\(∀j,aS x.2.1=eL j->F<j)/\ei h' (.ptr i 0) i x.2.2.2/\Sub x.2.2.2 a/\J h h' (·=i)/\F<h'.n/\j7 N Q []=j7 (N-x.1) x.2.2.2 x.2.2.1) (λx=>N-x.1) (0,.ah,[],Q)
  ⟨rfl,rfl,rfl,rfl,rfl,D8 _,rfl,g3,ID,XR,(λj aV=>by simp[aS]at aV),jI,s2,ez,by omega,rfl⟩ ?_
 rintro⟨j,s,H,b⟩ f h1 ⟨f0,f2,f7,L,C,aV,ko,RK,NX,os,m,rd,R,kk,ad,M⟩
 simp only at C aV ko NX os m rd R M;refine wpS ?_;by_cases aC:j<N
 .have c5:decide ((j:Int)<(N:Int))=true:=hO (by omega);have bY:=iM j;obtain⟨jA,EZ⟩:∃jA,N-j=jA+1:=⟨N-j-1,by omega⟩;rw[EZ]at M;simp only[ae,ds,reduceCtorEq,f0,L,C,c5];refine cp (ath i b h1 (ay.ai kk) rd (R.lt an) (by have:=R.2;omega)) λr lJ ⟨hE,S,d4⟩=>?_;subst hE;have n4:=S.n;have TS:=(S.get h.n (by omega) (by omega)).trans RK;have af:=(S.get F ad (by omega)).trans NX;have lR:=kk.trans' S;have aA:=os.ai S (λq u U=>by have:=m q u;omega);cases T:pH b with
  | error c=>
   rw[atp T]at M;have u9:((c:Int) !=0)=true:=by have:=aeP T;simp;omega
   have bu:sS P N Q=.error c:=(by unfold sS;rw[M]);have ch:(kB (ao Hh)).cells=eL (ao Hh):=rfl;have dI:bD (eL 6) (aP.cells [kA gj 0,.ah,.int gj 0,.int gj 0,.ah,.int gj 0] 68 eN) 0 (ao Hh)=eL (.cells (ao Hh) 68 eN):=by
    rw[u0 (n:=6) (lp _) (DG _),gr (by decide),sM];rfl
   have wZ:J lJ (lJ.push (.cells (ao Hh) 68 eN)) kR:=J.push _ _ _;have NY:=(wZ.get h.n (by omega) (by simp[kR])).trans TS;simp only[XO];simp only[ae,ds,AT,al,f2,ch,dI,u9,NY,Z,aJ];rw[bu];exact ar ⟨_,_,Kt _ _,rfl,(lR.trans' wZ.up).trans (J.set _ h.n _) λq u U=>by omega,λp l B U=>by cases U⟩
  | ok y=>
   obtain⟨A,B⟩:=y;have aB:j7 N Q []=j7 jA B (H++[A]):=by rw[M];conv=>lhs;unfold j7;rw[T]
   obtain⟨_,XS,_⟩:=aeN (R.lt an) T;have aD:=d4 A B T;have ch:(kB (ao A)).cells=eL (ao A):=rfl;have dI:bD (eL 6) (aP.cells [kA gj 0,.ah,.int gj 0,.int gj 0,.ah,.int gj 0] 68 eN) 0 (ao A)=eL (.cells (ao A) 68 eN):=by
    rw[u0 (n:=6) (lp _) (DG _),gr (by decide),sM];rfl
   have gV:cI (aP.cells (ao A) 68 eN) 0=eL (ao A):=(by rw[sM];rfl);have mX:cw (eL (eL 6)) (eL (ao A))=eL (.agg (ao A)):=(by rw[sM];rfl);obtain⟨hV,im,W,vW,u5⟩:=bU lJ (.cells (ao A) 68 eN);have NY:=(W.get h.n (by omega) (by simp[kR])).trans TS;have TT:=(W.get F (by omega) (by simp[kR])).trans af;obtain⟨D,BX,dr,Hi,X,Y⟩:=atn (aA.aY W) (by omega) A;have eY:=atm hV A;have aQ:=X.n;have aF:=(X.get h.n (by omega) (λU=>by have:=m h.n U;omega)).trans NY;have aG:=(X.get F (by omega) (λU=>by have:=m F U;omega)).trans TT;have nH:D.one=true:=by
    rcases Hi with⟨rfl|rfl,_⟩|⟨_,_,_,_,_,rfl,_⟩<;>rfl
   have uu:D.cells=eL [D]:=by
    rcases Hi with⟨rfl|rfl,_⟩|⟨_,_,_,_,_,rfl,_⟩<;>rfl
   have RL:bD (eL 1) (aP.cells [s,kA gj (P:Int)] 24 eN) 0 [D]=eL (.cells [D,.int gj (P:Int)] 24 eN):=(by rw[rb nH];rfl);have uv:∀q,aS D=eL q->F<q:=λq u=>by
    rcases Y with Y|Y
    .exact m q (by rw[<-Y];exact u)
    .have:=Y q u;omega
   have E:J BX (BX.set F (.cells [D,.int gj (P:Int)] 24 eN)) (·=F):=J.set _ _ _;have IE:J h BX (·=i):=(lR.trans' W.up).trans X λq u U=>by have:=m q U;omega
   have aO:ei BX (.ptr i 0) i B:=ei.ai aD (W.up.trans' X) (λU=>by have:=m i U;omega);simp only[XO];simp only[ae,ds,al,f7,ch,dI];rw[<-im];clear im;simp only[ae,ds,AT,al,f7,C,TT,vW,gV,mX,eY,dr,aG,uu,RL,bY];exact ar ⟨(j+1,D,H++[A],B),⟨f0,f2,f7,L,rfl,aC,by simp[ko],(E.get h.n (by omega) (by omega)).trans aF,aM,Hi.ai E (λq u U=>by have:=uv q u;omega),uv,aO.ai E (by omega),XS.trans R,IE.trans E λq u U=>by omega,by rw[jM];omega,by rw[show N-(j+1)=jA by omega];exact aB⟩,by simp only;omega⟩
 .have c5:decide ((j:Int)<(N:Int))=false:=hK (by omega);rw[show N-j=0 by omega,j7]at M;have bu:sS P N Q=.ok (P,H,b):=by unfold sS;rw[M]
  have nH:s.one=true:=by
   rcases os with⟨rfl|rfl,_⟩|⟨_,_,_,_,_,rfl,_⟩<;>rfl
  have E3:bD (eL 2) (aP.cells [V.ah,.int gj 0] 24 eN) 0 [s,.int gj (P:Int)]=eL (.cells [s,.int gj (P:Int)] 24 eN) :=
   (u0 (n:=2) (vs:=[s,kA gj (P:Int)]) rfl (by simp only[all_cons,all_nil,QE,nH,Bool.and_self])).trans rfl
  have E:J h1 (h1.set h.n (.cells [s,.int gj (P:Int)] 24 eN)) (·=h.n):=J.set _ _ _;have E4:=os.ai E λq u U=>by have:=m q u;omega
  obtain⟨hv,ja,qI⟩:=ato (P:Int) E4;simp only[ae,ds,AT,al,f2,f7,L,C,c5,NX,RK,E3,aJ];rw[bu];refine ar ⟨_,hv,aK.tuple (aE.cons ja (aE.refl _ _)),rfl,(kk.trans E λq u U=>by omega).trans qI λq u U=>by have:=m q U;omega,λp l B U=>?_⟩;cases U;exact(rd.ai E (by omega)).ai qI (λU=>by have:=m i U;omega)
theorem RM(a b:List Int)(h:I)(aW:a.length<=2^60):Pure mP 16 [.ag a.length (ax a),.ag b.length (ax b)] h (.bool (decide (a=b))):=by
 refine Pure.val (bf.bool _) ?_;refine a7 Tryz.func16 rfl ?_;by_cases N:a.length=b.length;rotate_left
 .have C:((a.length:Int) !=(b.length:Int))=true:=by simp;omega
  have R:decide (a=b)=false:=by simp only[hS];rintro rfl;exact N rfl
  simp only[ae,ds,reduceCtorEq,hI,C,aJ];exact ar ⟨by rw[R],J.refl _ _⟩
 have C:((a.length:Int) !=(b.length:Int))=false:=by simp[N]
 simp only[ae,ds,reduceCtorEq,hI,C];refine aT.bG (α:=Nat) (λi f h'=>f 0=.ag a.length (ax a)/\f 1=.ag b.length (ax b)/\f 5=.int gj (i:Nat)/\J h h' kR/\i<=a.length/\a.take i=b.take i) (λi=>a.length-i) 0
  ⟨rfl,rfl,rfl,J.refl _ _,D8 _,rfl⟩ ?_
 rintro i f T ⟨m,D,z,E,hi,F⟩
 refine wpS ?_;by_cases O:i<a.length;rotate_left
 .have G:=dY i a.length;rw[ajE (by omega),ajE (by omega)]at F;simp only[ae,ds,reduceCtorEq,hI,m,z,G,aJ];exact ar ⟨by rw[F];simp,E⟩
 .have G:=dK i a.length;have Q:i<b.length:=by omega
  have S:=iM i;have s:∃r,hC mP 46 (.ag a.length (ax a)) (.int gj (i:Int))=eL (.at (.int gj a[i]::r)):=⟨_,Ab.JZ (kA gj) O kE⟩;have u:∃r,hC mP 46 (.ag b.length (ax b)) (.int gj (i:Int))=eL (.at (.int gj b[i]::r)):=⟨_,Ab.JZ (kA gj) Q kE⟩;obtain⟨W,s⟩:=s;obtain⟨db,u⟩:=u;have H:a[i]=b[i]->a.take (i+1)=b.take (i+1):=λj=>by rw[ayY O,ayY Q,F,j]
  have L:¬a[i]=b[i]->decide (a=b)=false:=λj=>by simp only[hS];rintro rfl;exact j rfl
  generalize a[i]=A at s H L;generalize b[i]=B at u H L;simp only[ae,ds,reduceCtorEq,hI,m,z,G];refine aT.cL kR [] (.q 0 (.q 1 (.q 2 (.q 3 (.q 4 (.q 5 (.q 6 (.q 7 (.q 8 .done))))))))) ?_;by_cases j:A=B
  .have M:(A !=B)=false:=(by simp[j]);simp only[ae,bw,ds,reduceCtorEq,al,m,D,z,s,u,M,S];exact ar ⟨i+1,⟨m,D,rfl,E,by omega,H j⟩,by omega⟩
  .have M:(A !=B)=true:=(by simp[j]);simp only[ae,bw,ds,reduceCtorEq,al,m,D,z,s,u,M,aJ];exact ar ⟨by rw[L j],E⟩
theorem aeY:∀(m:Nat) (j:List Nat) (a:List bC),(∀b∈j,b<256)->∀l r,j7 m j a=.ok (l,r)->∃i,l=a++i/\i.length=m/\(∀v∈i,yH v)/\Sub r j/\((∀v∈i,v.kind<1000)->j=i.flatMap gY++r)
 | 0,j,a,an,l,r,h=>by
  unfold j7 at h;cases h;exact⟨[],by simp,rfl,by simp,Sub.rfl' _,λ_=>rfl⟩
 | m+1,j,a,an,l,r,h=>by
  unfold j7 at h;split at h
  .cases h
  .rename_i v A B;obtain⟨ok,s,C⟩:=aeN an B;obtain⟨i,D,E,F,G,H⟩:=aeY m A (a++[v]) (s.lt an) l r h;refine⟨v::i,by rw[D];simp,by simp[E],λu q=>?_,G.trans s,λz=>?_⟩
   .rcases IN.1 q with rfl|q
    .exact ok
    .exact F u q
   .rw[C (z v (by simp)),H λu q=>z u (by simp[q])];simp
theorem aeZ:∀(l:List bC) (a:List bC) (r:List Nat),(∀v∈l,∀r,pH (gY v++r)=.ok (v,r))->j7 l.length (l.flatMap gY++r) a=.ok (a++l,r)
 | [],a,r,h=>by simp[j7]
 | v::l,a,r,h=>by
  rw[axF,ayW,axC];unfold j7;rw[h v (by simp)];simp only;rw[aeZ l (a++[v]) r λu i=>h u (by simp[i])];simp
theorem atr{a:List Nat}(an:∀b∈a,b<256){p:Nat}{l:List bC}{r:List Nat}(h:q1 a=.ok (p,l,r)):jE l/\p<=1000/\(p<1000->(∀v∈l,v.kind<1000)->a=sO (p:Int) l++r):=by
 unfold q1 at h;split at h
 .cases h
 rename_i az;obtain⟨q,G⟩:=Am an (by omega);have j:=Sub.drop a (dec a 0 0).2.1;generalize(dec a 0 0).1=P at *;generalize a.drop (dec a 0 0).2.1=i at *;unfold sT at h;split at h
 .cases h
 rename_i bd;obtain⟨s,H⟩:=Am (j.lt an) (by omega);have u:=(Sub.drop i (dec i 0 0).2.1).trans j;generalize(dec i 0 0).1=N at *;generalize i.drop (dec i 0 0).2.1=z at *;split at h
 .cases h
 rename_i L;unfold sS at h;split at h
 .cases h
 rename_i M O A;cases h;obtain⟨Q,m,R,B,S,C⟩:=aeY _ z [] (u.lt an) _ _ A;rw[List.nil_append]at m;subst m;refine⟨⟨by omega,B⟩,by omega,λT D=>?_⟩;have E:min P 1000=P:=by omega
 have F:l.length=N:=by omega
 unfold sO;rw[E,F,ayw]
 conv=>lhs;rw[q,s,C D]
 simp only[axC]
theorem ats{v:bC}(i:1<=v.kind/\v.kind<=10)(h:l2 v=e6):v.e=.mk 0 0 []\/dB v.e=true:=by
 unfold l2 w7 at h;simp only[are]at h;have a:=h.2.1;unfold BW at a;split at a
 .left;simp only[are,beq_iff_eq,List.isEmpty_iff]at a;obtain⟨k,j,⟨o,n,q⟩,m⟩:=v;simp only[cd.op,cd.num,cd.aQ]at a;obtain⟨rfl,rfl,rfl⟩:=a;rfl
 .right;simp only[are]at a;exact a.1
theorem att{P:Nat}{l:List bC}(j:jE l)(h:(cj (P:Int) l).2=0):q1 (sO (P:Int) l)=.ok (P,l,[]):=by
 obtain⟨m,q,s,i⟩:=zg h;unfold sO;rw[ayw,axC];unfold q1;rw[BM P (by omega)];simp only[aAm];rw[gQ (by simp),azb (by omega)];unfold sT;rw[BM l.length (by omega)];simp only[aAm];rw[gQ (by simp),azb (by omega),gQ (by omega)];unfold sS;have:=aeZ l [] [] λv a r=>atl (j.2 v a) (i v a).1 (i v a).2.1 (i v a).2.2.1 (ats (i v a).1 (i v a).2.2.2) r;rw[axA]at this;rw[this];rfl
theorem atu{j:List Nat}{c:Nat}(h:q1 j=.error c):c≠0:=by
 have q:∀(m:Nat) (b:List Nat) (a:List bC) (c:Nat),j7 m b a=.error c->c≠0:=by
  intro m
  induction m with
  | zero=>intro b a c h;unfold j7 at h;cases h
  | succ m ih=>
   intro b a c h;unfold j7 at h;split at h
   .rename_i i;cases h;exact aeP i
   .exact ih _ _ _ h
 unfold q1 at h;split at h
 .injection h with h;omega
 unfold sT at h;split at h
 .injection h with h;omega
 split at h
 .injection h with h;omega
 unfold sS at h;split at h
 .rename_i i;cases h;exact q _ _ _ _ i
 .cases h
def xb(a:List Nat):(Int×List bC)×Int:=match q1 a with
 | .error c=>((0,[]),(c:Int))
 | .ok (p,l,r)=>if r.length≠0 then((0,[]),5)else if(cj (p:Int) l).2≠0 then((0,[]),(cj (p:Int) l).2)else(((p:Int),l),0)
def pI(a:List Nat):V:=.tuple [.agg (cx (xb a).1.2 (xb a).1.1),.int gj (xb a).2]
theorem atv(a:List Nat):bf (pI a):=bf.tuple (bc.cons (bf.agg (aeA _ _)) (bc.cons (bf.int _ _) bc.nil))
theorem XT{p:Int}{l:List bC}(a:jE l)(h:(cj p l).2=0):xb (l3 p l)=((p,l),0):=by
 obtain⟨i,_,_,j⟩:=zg h;obtain⟨P,rfl⟩:=Int.eq_ofNat_of_zero_le (show 0<=p by omega);unfold l3;rw[gr h];unfold xb;rw[att a h];simp only[ayx];rw[gQ (by simp),gQ (by omega)]
theorem Hj(x:V)(a:List Nat)(h:I)(N:iU h)(rd:Rd h x a)(an:∀b∈a,b<256)(aB:a.length<=2^47):Pure mP 31 [x] h (pI a):=by
 refine Pure.of (atv a) ?_;refine a7 Tryz.func31 rfl ?_;obtain⟨B,O,Q,g0,nq⟩:=bU h (.cells [V.ah,.int gj 0] 24 eN);have C:bD (eL 2) (aP.cells [V.ah,.int gj 0] 24 eN) 0 [V.ah,.int gj 0]=eL (.cells [V.ah,.int gj 0] 24 eN):=rfl;have R:∀(l:List bC) (p:Int),bD (eL 2) (aP.cells [V.ah,.int gj 0] 24 eN) 0 [.ag l.length (l.flatMap ao),.int gj p]=eL (.cells [.ag l.length (l.flatMap ao),.int gj p] 24 eN):=λ_ _=>rfl;have mo:∀(l:List bC) (p:Int),(kB (cx l p)).cells=eL [.ag l.length (l.flatMap ao),.int gj p]:=λ_ _=>rfl;have h9:∀(l:List bC) (p:Int),kB [.ag l.length (l.flatMap ao),.int gj p]=.agg (cx l p):=λ_ _=>rfl;simp only[ae,ds,reduceCtorEq,al];rw[<-O];clear O;refine cp (Mv x a B (rd.ai Q) (by omega)) λr S ⟨az,db,T⟩=>?_;subst az;have eh:B.n+1<=S.n:=db.2.1;have g1:=(T.get h.n (by omega) (by simp[kR])).trans g0;have W:=Q.trans' T;simp only[ae,ds];refine cp (atq B.n a S (N.1.ai W) db an aB) λr u ⟨bd,D,d2⟩=>?_;subst bd;have c6:=D.n;have X:=(D.get h.n (by omega) (by omega)).trans g1;have Y:J h u kR:=W.trans D λq z U=>by omega
 cases i:q1 a with
 | error c=>
  have Z:=atu i;have m:((c:Int) !=0)=true:=by simp;omega
  have j:pI a=.tuple [.agg (cx [] 0),.int gj (c:Nat)]:=by unfold pI xb;rw[i]
  rw[j];have wZ:J u (u.push (.cells [.ag 0 [],.int gj 0] 24 eN)) kR:=J.push _ _ _;have s:=(wZ.get h.n (by omega) (by simp[kR])).trans X;have Z:(kB (cx [] 0)).cells=eL [.ag 0 [],.int gj 0]:=rfl;have XU:bD (eL 2) (aP.cells [V.ah,.int gj 0] 24 eN) 0 [.ag 0 [],.int gj 0]=eL (.cells [.ag 0 [],.int gj 0] 24 eN):=rfl;simp only[XQ];simp only[ae,ds,AT,al,Z,XU,m,s,C,aJ];exact ar ⟨_,Kt _ c,(Y.trans' wZ).trans (J.set _ h.n _) λq z U=>by omega⟩
 | ok y=>
  obtain⟨p,l,r⟩:=y;have E:=d2 p l r i;obtain⟨F,_,_⟩:=atr an i;have z0:((0:Int) !=0)=false:=rfl;obtain⟨hb,gW,G,ID,n3⟩:=bU u (.cells [.ag l.length (l.flatMap ao),.int gj (p:Int)] 24 eN);have s:=(G.get h.n (by omega) (by simp[kR])).trans X;have H:=ei.ai E G (by simp[kR]);have A:=Y.trans' G;simp only[XQ];simp only[ae,ds,al,mo,R];rw[<-gW];clear gW;refine bE (Left hb _ _ r H) ?_;by_cases Cb:r.length=0;rotate_left
  .have m:decide ((0:Int)<(r.length:Int))=true:=hO (by omega);have j:pI a=.tuple [.agg (cx [] 0),.int gj (5:Nat)]:=(by unfold pI xb;rw[i];simp only;rw[gr Cb];rfl);rw[j];simp only[ae,ds,AT,al,m,s,C,aJ];exact ar ⟨_,Kt _ 5,A.trans (J.set _ h.n _) λq z U=>by omega⟩
  have m:decide ((0:Int)<(r.length:Int))=false:=hK (by omega);simp only[ae,ds,AT,al,m,ID,h9];refine bE (RI l p F hb (N.ai A)) ?_;by_cases L:(cj (p:Int) l).2=0
  .have M:((cj (p:Int) l).2 !=0)=false:=(by simpa using L);have j:pI a=.tuple [.agg (cx l (p:Int)),.int gj 0]:=(by unfold pI xb;rw[i];simp only;rw[gQ (by omega),gQ (by omega)]);rw[j];simp only[ae,ds,AT,al,sN,M,ID,s,R,aJ];exact ar ⟨_,aK.refl _ _,A.trans (J.set _ h.n _) λq z U=>by omega⟩
  .have M:((cj (p:Int) l).2 !=0)=true:=(by simpa using L);have j:pI a=.tuple [.agg (cx [] 0),.int gj (cj (p:Int) l).2]:=(by unfold pI xb;rw[i];simp only;rw[gQ (by omega),gr L]);rw[j];simp only[ae,ds,AT,al,sN,M,s,C,aJ];exact ar ⟨_,aK.tuple (aE.cons (Pk.aK.agg (aE.cons (aK.h3 _) (aE.refl _ _))) (aE.refl _ _)),A.trans (J.set _ h.n _) λq z U=>by omega⟩
abbrev Seen:=List (Nat×Int×Int)
def o5(a:Int):V:=.int gj a
def wc(h:I)(p:V)(l:Seen)(i j a:Nat):Prop :=
 p=.ptr i 0/\i<h.n/\j<h.n/\i≠j/\h.get i=.cells [.map j] 210 eN/\h.get j=.map (mapOf gj o5 l) a/\dE (mapOf gj o5 l) a
def we(l:Seen)(v:Int):Int:=(cV l v).getD (-1)
def leastOf(l:Seen):Int:=if l=[]then -1 else l.foldr (λe m=>min e.2.2 m) 1099511627776
theorem atw(h:I)(p:V)(l:Seen)(i j u:Nat)(z:wc h p l i j u)(v:Int) :
  Pure mP 93 [p,.int gj v] h (.int gj (we l v)):=by
 obtain⟨rfl,hi,B,C,s,A,D⟩:=z;refine a7 Tryz.func93 rfl ?_;have m:=lookup_int (P:=mP) (ok:=e6) (k:=v) J5 GF A;cases q:cV l v with
 | none=>
  rw[q]at m;simp only[ae,Js,ds,reduceCtorEq,al,s,m,aJ];exact ar ⟨by simp only[we,q];rfl,rfl⟩
 | some a=>
  rw[q]at m;simp only[ae,Js,ds,reduceCtorEq,al,s,m,aJ,o5];exact ar ⟨by simp only[we,q];rfl,rfl⟩
def dR(l:Seen)(v t:Int):Bool×Int:=match cV l v with
 | none=>(fr,6)
 | some g=>if t<0\/1099511627776<t then(fr,2)else if t<=g then(fr,0)else(e6,0)
def dJ(a:Nat)(l:Seen)(v t:Int):Seen:=match cV l v with
 | none=>l
 | some g=>if t<0\/1099511627776<t then l else if t<=g then l else ev a l v t
theorem ae3{kk:aPh}{α:Type}{enc:α->V}{cl:Nat}{v:Int}{a:α}:∀{l:List (Nat×Int×α)},(cV l v).isSome->(mapOf kk enc (ev cl l v a)).map (·.1)=(mapOf kk enc l).map (·.1)
 | [],h=>by simp[cV]at h
 | e::l,h=>by
  unfold ev;by_cases i:e.2.1=v
  .simp[i,mapOf]
  .have:(cV l v).isSome:=by
    unfold cV at h⊢;rw[azC,show(e.2.1==v)=fr by simp[i]]at h;exact h
   have ih:=ae3 (kk:=kk) (enc:=enc) (cl:=cl) (a:=a) this;simp only[mapOf,i,iC,ajF]at ih⊢;rw[ih]
theorem atx{i a:List (Nat×V×V)}{j:Nat}(h:dE i j)(m:a.map (·.1)=i.map (·.1)):dE a j:=by
 refine⟨λe q=>?_,by rw[m];exact h.2⟩;have:e.1∈a.map (·.1):=OF.2 ⟨e,q,rfl⟩;rw[m]at this;obtain⟨s,u,z⟩:=OF.1 this;rw[<-z];exact h.1 s u
theorem NZ(h:I)(p:V)(l:Seen)(i j m:Nat)(B:wc h p l i j m)(v t:Int) :
  au mP 84 [p,.int gj v,.int gj t] h (λr h'=>r=.tuple [.bool (dR l v t).1,.int gj (dR l v t).2]/\wc h' p (dJ m l v t) i j m/\J h h' (·=j)):=by
 have N:=B;obtain⟨rfl,hi,F,C,s,D,G⟩:=B;refine a7 Tryz.func84 rfl ?_;have q:=lookup_int (P:=mP) (ok:=e6) (k:=v) J5 GF D;have H:=Vr (P:=mP) (k:=v) (a:=t) (v:=.int gj t) J5 D rfl;cases u:cV l v with
 | none=>
  rw[u]at q;simp only[ae,ds,reduceCtorEq,al,s,q,aJ];exact ar ⟨by simp[dR, *],by simp[dJ, *],J.refl _ _⟩
 | some a=>
  rw[u]at q;have L:pf m l v=m:=by simp[pf,u]
  have M:wc (h.set j (.map (mapOf gj o5 (ev m l v t)) m)) (.ptr i 0) (ev m l v t) i j m :=
   ⟨rfl,hi,F,C,by rw[nk C];exact s,aM,atx G (ae3 (by simp[u]))⟩
  by_cases z:t<0
  .simp only[ae,ds,reduceCtorEq,al,s,q,o5,z,aJ];exact ar ⟨by simp[dR, *],by simp[dJ, *],J.refl _ _⟩
  .by_cases A:1099511627776<t
   .simp only[ae,ds,reduceCtorEq,al,s,q,o5,z,A,aJ];exact ar ⟨by simp[dR, *],by simp[dJ, *],J.refl _ _⟩
   .by_cases E:t<=a
    .simp only[ae,ds,reduceCtorEq,al,s,q,o5,z,A,E,aJ];exact ar ⟨by simp[dR, *],by simp[dJ, *],J.refl _ _⟩
    .simp only[ae,ds,reduceCtorEq,al,s,q,o5,z,A,E,aJ,H,L];exact ar ⟨by simp[dR, *],by simp[dJ, *],J.set _ _ _⟩
theorem XV{kk:aPh}{α:Type}{enc:α->V}:∀{l:List (Nat×Int×α)} {a b:Nat×Int×α},((mapOf kk enc l).map (·.1)).Nodup->a∈l->b∈l->a.1=b.1->a=b
 | [],a,b,_,h,_,_=>by simp at h
 | e::l,a,b,j,aW,an,m=>by
  simp only[mapOf,ajF,azD]at j;have i:∀c:Nat×Int×α,c∈l->c.1≠e.1:=λc aw u=>j.1 (by
   rw[azn];exact OF.2 ⟨c,aw,u⟩)
  rcases IN.1 aW with q|aW<;>rcases IN.1 an with s|an
  .rw[q,s]
  .exact absurd (by rw[<-m,q]) (i b an)
  .exact absurd (by rw[m,s]) (i a aW)
  .exact XV (kk:=kk) (enc:=enc) j.2 aW an m
structure oF(l:Seen)(m:Int):Prop where
 le:m<=1099511627776
 all:∀e∈l,m<=e.2.2
 mem:m=1099511627776\/∃e∈l,m=e.2.2
theorem oF.eq{l:Seen}{a b:Int}(aW:oF l a)(an:oF l b):a=b:=by
 have key:∀{x y:Int},oF l x->oF l y->x<=y:=λj i=>by
  rcases i.mem with i|⟨e,s,i⟩
  .rw[i];exact j.le
  .rw[i];exact j.all e s
 have u:=key aW an;have z:=key an aW;omega
theorem aty(l:Seen):oF l (l.foldr (λe m=>min e.2.2 m) 1099511627776):=by
 induction l with
 | nil=>exact⟨az7 _,by simp,.inl rfl⟩
 | cons a l ih=>
  simp only[aEL];refine⟨?_,λe i=>?_,?_⟩
  .have:=ih.le;omega
  .rcases IN.1 i with rfl|i
   .omega
   .have:=ih.all e i;omega
  .by_cases j:a.2.2<=l.foldr (λe m=>min e.2.2 m) 1099511627776
   .exact .inr ⟨a,by simp,by omega⟩
   .rcases ih.mem with h|⟨e,i,h⟩
    .exact .inl (by omega)
    .exact .inr ⟨e,by simp[i],by omega⟩
theorem N0(h:I)(p:V)(l:Seen)(i j a:Nat)(R:wc h p l i j a) :
  Pure mP 90 [p] h (.int gj (leastOf l)):=by
 obtain⟨rfl,hi,S,iD,F,B,q⟩:=R;have T:=q;refine Pure.val (bf.int _ _) ?_;refine a7 Tryz.func90 rfl ?_;have z:=Vj (P:=mP) (h:=h) apR B;have W:=JU (P:=mP) J5 B;by_cases A:l=[]
 .have C:((((mapOf gj o5 l).length:Nat):Int)==0)=true:=by simp[mapOf,A]
  simp only[ae,Js,ds,reduceCtorEq,al,F,z,C,aJ];exact ar ⟨by rw[leastOf,gr A],J.refl _ _⟩
 .have C:((((mapOf gj o5 l).length:Nat):Int)==0)=false:=by
   have:l.length≠0:=by simpa using A
   simp[mapOf];exact A
  simp only[ae,Js,ds,reduceCtorEq,al,F,z,C,W];refine aT.bG (α:=List Nat) (λseen f h'=>h'=h.push (.iter j a seen a)/\f 20=.ptr h.n 0/\∃m,f 3=.int gj m/\m<=1099511627776/\(∀e∈l,e.1∈seen->m<=e.2.2)/\(m=1099511627776\/∃e∈l,m=e.2.2))
   (λseen=>(nj (mapOf gj o5 l) seen).length) [] ⟨rfl,rfl,_,rfl,az7 _,by simp,.inl rfl⟩ ?_
  rintro seen f h' ⟨rfl,D,m,G,X,H,L⟩
  refine wpS ?_;have M:(h.push (.iter j a seen a)).get j=.map (mapOf gj o5 l) a:=by rw[iZ S];exact B
  simp only[ae,D];refine JS ac M q (λY=>?_) λe s=>?_
  .have Z:∀e∈l,e.1∈seen:=λe s=>by
    apply Classical.byContradiction;intro lO;have:(e.1,kA gj e.2.1,o5 e.2.2)∈nj (mapOf gj o5 l) seen:=by
     unfold nj;exact ajA.2 ⟨OF.2 ⟨e,s,rfl⟩,by simp[lO]⟩
    rw[Y]at this;simp at this
   simp only[ae,ds,G,aJ];refine ar ⟨?_,J.push _ _ _⟩;rw[leastOf,gQ A]
   congr 1
   exact oF.eq ⟨X,λe s=>H e s (Z e s),L⟩ (aty l)
  .have N:=(ajA.1 s).1;obtain⟨u,O,rfl⟩:=OF.1 N;have Q:=JT (h:=(h.push (.iter j a seen a)).set h.n (.iter j a (seen++[u.1]) a)) (r:=h.n) (e:=(u.1,kA gj u.2.1,o5 u.2.2)) aM (by rw[nk (by omega)];exact M) q N;simp only[set_push]at Q;simp only[ae,ds,D,Q,o5,G];refine ar ⟨seen++[u.1],⟨rfl,D,min m u.2.2,rfl,by omega,λe s q=>?_,?_⟩,Lr s⟩
   .rcases axE.1 q with q|q
    .have:=H e s q;omega
    .simp at q;have tP:e=u:=XV T.2 s O (by simpa using q);subst tP;omega
   .by_cases E:m<=u.2.2
    .rw[Int.min_eq_left E];exact L
    .rw[Int.min_eq_right (by omega)];exact .inr ⟨u,O,rfl⟩
def nu(k:Nat):List Int->Seen
 | []=>[]
 | z::r=>(k,z,-1)::nu (k+1) r
def sf(a:Int):List Int->Prop
 | []=>True
 | z::r=>a<z/\sf z r
theorem XW(k:Nat)(z:Int):∀(zs:List Int),nu k (zs++[z])=nu k zs++[(k+zs.length,z,-1)]
 | []=>rfl
 | a::zs=>by
  simp only[aza,nu,XW (k+1) z zs,axF];rw[show k+1+zs.length=k+(zs.length+1)by omega]
theorem ae4{lo z:Int}:∀{zs:List Int},sf lo (zs++[z])->sf lo zs/\lo<z/\∀x∈zs,x<z
 | [],h=>⟨trivial,h.1,by simp⟩
 | a::zs,h=>by
  obtain⟨j,m⟩:=h;obtain⟨q,s,u⟩:=ae4 m;exact⟨⟨j,q⟩,by omega,λx i=>by
   rcases IN.1 i with rfl|i
   .exact s
   .exact u x i⟩
theorem ae5{k:Nat}{v:Int}:∀{zs:List Int},cV (nu k zs) v=if v∈zs then eL (-1)else eN
 | []=>rfl
 | a::zs=>by
  have ih:=ae5 (k:=k+1) (v:=v) (zs:=zs);unfold cV at ih⊢;simp only[nu,azC];by_cases h:a=v
  .subst h;simp
  .have:(a==v)=false:=by simp[h]
   rw[this];simp only;rw[ih];simp[Ne.symm h]
def Ku(a:Int):List Int->Int
 | []=>a
 | z::r=>Ku z r
theorem ae6(i z:Int):∀zs:List Int,Ku i (zs++[z])=z
 | []=>rfl
 | a::zs=>ae6 a z zs
theorem atz{lo:Int}{zs:List Int}(h:sf lo zs){k:Nat}(i:k<zs.length):sf lo (zs.take (k+1))/\Ku lo (zs.take k)<zs[k]:=by
 induction zs generalizing lo k with
 | nil=>simp at i
 | cons a zs ih=>
  cases k with
  | zero=>exact⟨⟨h.1,trivial⟩,h.1⟩
  | succ k=>
   obtain⟨j,m⟩:=ih h.2 (k:=k) (by simpa using i);exact⟨⟨h.1,by simpa using j⟩,by simpa [Ku]using m⟩
theorem take_succ{α:Type}{l:List α}{k:Nat}(a:k<l.length):l.take (k+1)=l.take k++[l[k]]:=by
 rw[List.take_add_one,Jt a];rfl
theorem XX(h:I)(zs:List Int)(h1:1<=zs.length)(ad:zs.length<=24)(aW:sf (-1) zs) :
  au mP 74 [.ag zs.length (zs.map (.int gj))] h (λr h'=>∃i j,r=.tuple [.ptr i 0,.int gj 0]/\wc h' (.ptr i 0) (nu 0 zs) i j zs.length/\h.n<=i/\h.n<=j/\J h h' kR):=by
 refine a7 aEM rfl ?_;have R:decide ((zs.length:Int)<1)=false:=by simp;omega
 have S:decide (24<(zs.length:Int))=false:=by simp;omega
 simp only[ae,Js,ds,reduceCtorEq,hI,al,R,S];refine aT.bG (α:=Nat) (λk f h'=>k<=zs.length/\f 4=.ptr (h.n+1) 0/\f 5=.int gj (Ku (-1) (zs.take k))/\f 19=.ag zs.length (zs.map (.int gj))/\f 20=.int gj zs.length/\f 21=.int gj (k:Nat) /\
  wc h' (.ptr (h.n+1) 0) (nu 0 (zs.take k)) (h.n+1) h.n k/\J h h' kR) (λk=>zs.length-k) 0 ?_ ?_
 .refine⟨D8 _,rfl,rfl,rfl,rfl,rfl,⟨rfl,?_,?_,by omega,?_,?_,dE.nil _⟩,?_⟩
  .rw[dn,dn];omega
  .rw[dn,dn];omega
  .rw[show h.n+1=(h.push (.map [] 0)).n by rfl,ac]
  .rw[iZ (by rw[dn];omega),ac];rfl
  .exact(J.push _ _ _).bp _
 .rintro k f h' ⟨hk,A,T,u,m,z,W,G⟩
  refine wpS ?_;obtain⟨_,hi,H,B,C,D,E⟩:=W;by_cases s:k<zs.length
  .have F:decide ((k:Int)<(zs.length:Int))=true:=(by simp;omega);have L:=JW (P:=mP) (t:=46) (k:=.i64) (i:=(k:Int)) (cs:=zs.map (kA gj)) kE (by omega) (by omega:(k:Int)<(zs.length:Nat)) (by simp);have X:(zs.map (kA gj)).drop ((k:Int).toNat*1)=.int gj zs[k]::(zs.map (kA gj)).drop (k+1):=by
    rw[ayw,axD,ay0 (by simpa using s)];simp
   rw[X]at L;obtain⟨M,Y⟩:=atz aW s;have Z:decide (zs[k]<=Ku (-1) (zs.take k))=false:=by simp;omega
   have N:=Vr (P:=mP) (h:=h') (k:=zs[k]) (a:=(-1:Int)) (v:=.int gj (-1)) J5 D rfl;have O:cV (nu 0 (zs.take k)) zs[k]=none:=by
    rw[ae5,gQ];intro fy;rw[take_succ s]at M;have:=(ae4 M).2.2 _ fy;omega
   have dI:ev k (nu 0 (zs.take k)) zs[k] (-1)=nu 0 (zs.take (k+1)):=by
    have:(nu 0 (zs.take k)).findIdx? (λe=>e.2.1==zs[k])=none:=by
     cases aA:(nu 0 (zs.take k)).findIdx? (λe=>e.2.1==zs[k])with
     | none=>rfl
     | some q=>
      obtain⟨e,_,_,Q⟩:=Vp aA;rw[O]at Q;cases Q
    rw[Vq this,take_succ s,XW];simp;omega
   have XY:pf k (nu 0 (zs.take k)) zs[k]=k+1:=(by simp[pf,O]);rw[dI,XY]at N;have cH:aPh.i64.wrap ((k:Int)+1)=((k+1:Nat):Int):=by rw[kp _ (by omega)];rfl
   simp only[ae,Js,ds,al,A,T,u,m,z,F,L,Z,C,N,cH];refine ar ⟨k+1,⟨by omega,A,?_,u,m,rfl,⟨rfl,hi,H,B,by rw[nk B];exact C,aM,?_⟩,G.kj (BY _) _⟩,by omega⟩
   .show kA gj zs[k]=_;rw[take_succ s,ae6]
   .have az:mapOf gj o5 (nu 0 (zs.take (k+1)))=mapOf gj o5 (nu 0 (zs.take k))++[(k,.int gj zs[k],o5 (-1))]:=by
     rw[take_succ s,XW];simp[mapOf];omega
    rw[az];exact E.snoc _ _
  .obtain rfl:k=zs.length:=by omega
   have F:decide ((zs.length:Int)<(zs.length:Int))=false:=(by simp);simp only[ae,Js,ds,A,m,z,F,aJ];rw[azB]at D E;exact ar ⟨h.n+1,h.n,by first|rfl|(show V.tuple [f 4,.int gj 0]=_;rw[A]),⟨rfl,hi,H,B,C,D,E⟩,by omega,BY _,G⟩
open Go.Shelf
def atB:Go.Shelf.Ren:=⟨λ| 189=>151|125=>97|257=>171|128=>131|129=>132|294=>186|295=>187|296=>188|297=>189|298=>190|299=>191|216=>192|300=>193|301=>194|328=>207|329=>160|330=>161|331=>208|332=>209|215=>98|343=>228|n=>n,λ| 28=>46|3=>3|46=>189|0=>0|51=>236|53=>131|4=>4|183=>229|182=>228|131=>233|5=>5|9=>9|218=>270|222=>274|228=>310|229=>82|n=>n,λ| n=>n⟩
theorem ae7:Go.Proofs.Lays.n189 mP atB:={
 mixed:=by kernel_rfl
 f125:=Tryz.func97.trans (iy eL (by kernel_rfl))
 f128:=Tryz.func131.trans (iy eL (by kernel_rfl))
 f129:=Tryz.func132.trans (iy eL (by kernel_rfl))
 f189:=Tryz.func151.trans (iy eL (by kernel_rfl))
 f215:=Tryz.func98.trans (iy eL (by kernel_rfl))
 f216:=Tryz.func192.trans (iy eL (by kernel_rfl))
 f257:=Tryz.func171.trans (iy eL (by kernel_rfl))
 f294:=Tryz.func186.trans (iy eL (by kernel_rfl))
 f295:=Tryz.func187.trans (iy eL (by kernel_rfl))
 f296:=Tryz.func188.trans (iy eL (by kernel_rfl))
 f297:=Tryz.func189.trans (iy eL (by kernel_rfl))
 f298:=Tryz.func190.trans (iy eL (by kernel_rfl))
 f299:=Tryz.func191.trans (iy eL (by kernel_rfl))
 f300:=Tryz.func193.trans (iy eL (by kernel_rfl))
 f301:=Tryz.func194.trans (iy eL (by kernel_rfl))
 f328:=Tryz.func207.trans (iy eL (by kernel_rfl))
 f329:=Tryz.func160.trans (iy eL (by kernel_rfl))
 f330:=Tryz.func161.trans (iy eL (by kernel_rfl))
 f331:=Tryz.func208.trans (iy eL (by kernel_rfl))
 f332:=Tryz.func209.trans (iy eL (by kernel_rfl))
 f343:=Tryz.func228.trans (iy eL (by kernel_rfl))
 t0:=Tryz.underlying0
 a0:=Tryz.isAgg0
 z0:=Tryz.sizeOf0
 v0:=Tryz.zeroValue0
 t3:=Tryz.underlying3
 a3:=Tryz.isAgg3
 z3:=Tryz.sizeOf3
 v3:=Tryz.zeroValue3
 t4:=Tryz.underlying4
 a4:=Tryz.isAgg4
 z4:=Tryz.sizeOf4
 v4:=Tryz.zeroValue4
 t5:=Tryz.underlying5
 a5:=Tryz.isAgg5
 z5:=Tryz.sizeOf5
 v5:=Tryz.zeroValue5
 t9:=Tryz.underlying9
 a9:=Tryz.isAgg9
 z9:=Tryz.sizeOf9
 v9:=Tryz.zeroValue9
 t28:=Tryz.underlying46
 a28:=Tryz.isAgg46
 z28:=Tryz.sizeOf46
 v28:=Tryz.zeroValue46
 t46:=Tryz.underlying189
 a46:=Tryz.isAgg189
 z46:=Tryz.sizeOf189
 v46:=Tryz.zeroValue189
 t51:=Tryz.underlying236
 a51:=Tryz.isAgg236
 z51:=Tryz.sizeOf236
 v51:=Tryz.zeroValue236
 t53:=Tryz.underlying131
 a53:=Tryz.isAgg131
 z53:=Tryz.sizeOf131
 v53:=Tryz.zeroValue131
 t131:=Tryz.underlying233
 a131:=Tryz.isAgg233
 z131:=Tryz.sizeOf233
 v131:=Tryz.zeroValue233
 t182:=Tryz.underlying228
 a182:=Tryz.isAgg228
 z182:=Tryz.sizeOf228
 v182:=Tryz.zeroValue228
 t183:=Tryz.underlying229
 a183:=Tryz.isAgg229
 z183:=Tryz.sizeOf229
 v183:=Tryz.zeroValue229
 t218:=Tryz.underlying270
 a218:=Tryz.isAgg270
 z218:=Tryz.sizeOf270
 v218:=Tryz.zeroValue270
 t222:=Tryz.underlying274
 a222:=Tryz.isAgg274
 z222:=Tryz.sizeOf274
 v222:=Tryz.zeroValue274
 t228:=Tryz.underlying310
 a228:=Tryz.isAgg310
 z228:=Tryz.sizeOf310
 v228:=Tryz.zeroValue310
 t229:=Tryz.underlying82
 a229:=Tryz.isAgg82
 z229:=Tryz.sizeOf82
 v229:=Tryz.zeroValue82 }
open Go.Sort Go.RowKit in
theorem slices_Sort_int(h2 off cap:Nat)(zs:List Int)(w:World)(hH:Holds (Value.int gj) w h2 off zs.toArray)(hblk:h2<w.heap.size)(bq:zs.length<4611686018427387904) :
  Calls mP 151 #[.slice (eL ⟨h2,off,eN⟩) zs.length cap] w λe w'=>
   e=.returned (.tuple #[])/\∃n os,w'=grow (putRow (Value.int gj) (Sort.ahead w n) h2 off (zs.mergeSort λx y=>decide (x<=y)).toArray) os:=Any.slices_Sort_int ae7 h2 off cap zs w hH hblk bq
open Go.Sort Go.RowKit in
theorem slices_Sort_int_none(p:Option Addr)(cap:Nat)(w:World) :
  Calls mP 151 #[.slice p 0 cap] w λe w'=>e=.returned (.tuple #[])/\w'=w:=Any.slices_Sort_int_none ae7 p cap w
theorem atC{h:I}{v:V}{l:List Int}(a:Own h 3 1 v (ax l))(i:l.length<4611686018427387904) :
  au mP 151 [v] h (λr h'=>r=.tuple []/\Own h' 3 1 v (ax (l.mergeSort λx y=>decide (x<=y)))/\J h h' (bb v)) :=
 aoM (λh2 off cap zs w hH an j=>slices_Sort_int h2 off cap zs w hH an j) (λp cap w=>slices_Sort_int_none p cap w) a i
theorem m9:∀{b a:List Int},a.Perm b->a.Pairwise (·<=·)->b.Pairwise (·<·)->a=b
 | [],a,i,_,_=>i.eq_nil
 | y::j,[],i,_,_=>by have:=i.length_eq;simp at this
 | y::j,x::xs,i,aW,an=>by
  have m:x∈y::j:=i.subset (by simp);have q:y∈x::xs:=i.symm.subset (by simp);have s:x<=y:=by
   rcases IN.1 q with h|h
   .omega
   .exact(ayA.1 aW).1 y h
  have u:y<=x:=by
   rcases IN.1 m with h|h
   .omega
   .have:=(ayA.1 an).1 x h;omega
  obtain rfl:x=y:=by omega
  rw[m9 (List.perm_cons x |>.1 i) (ayA.1 aW).2 (ayA.1 an).2]
theorem XZ:∀{zs:List Int} {lo:Int},sf lo zs->zs.Pairwise (·<·)/\∀x∈zs,lo<x
 | [],lo,_=>⟨azM.nil,by simp⟩
 | z::zs,lo,h=>by
  obtain⟨j,m⟩:=h;obtain⟨q,i⟩:=XZ m;refine⟨ayA.2 ⟨λx a=>i x a,q⟩,λx a=>?_⟩;rcases IN.1 a with rfl|a
  .exact j
  .have:=i x a;omega
theorem atD{zs i:List Int}{j:Int}(aW:sf j zs)(m:i.Perm zs):(i.mergeSort λx y=>decide (x<=y))=zs:=by
 refine m9 ((List.mergeSort_perm _ _).trans m) ?_ (XZ aW).1;have:=List.pairwise_mergeSort (le:=λx y:Int=>decide (x<=y)) (by intro a b c s u;simp at *;omega) (by intro a b;simp;omega) i;exact this.imp λh=>by simpa using h
theorem atE(h:I)(p:V)(l:Seen)(i j q:Nat)(D:wc h p l i j q)(zs:List Int)(bP:l.map (·.2.1)=zs)(aW:sf (-1) zs)(aB:zs.length<=24) :
  Pure mP 115 [p] h (.ag zs.length (ax zs)):=by
 obtain⟨rfl,hi,aV,iD,lS,nO,N⟩:=D;have dq:=N;refine Pure.acc (e:=3) (sz:=1) (y1 _) (by rw[ht,axD]) (by omega) ?_;refine a7 Tryz.func115 rfl ?_;have mj:=JU (P:=mP) J5 nO;simp only[ae,ds,reduceCtorEq,al,lS,mj];refine aT.bG (α:=V×List (Nat×Int×Int)) (λx f h'=>h'.get h.n=.iter j q (x.2.map (·.1)) q/\h'.get j=.map (mapOf gj o5 l) q/\h.n<h'.n/\f 11=.ptr h.n 0/\f 3=x.1/\Acc h h' 3 1 x.1 (ax (x.2.map (·.2.1)))/\aS x.1≠eL h.n/\(∀e∈x.2,e∈l)/\x.2.Nodup)
  (λx=>(nj (mapOf gj o5 l) (x.2.map (·.1))).length) (.ah,[]) ⟨ac,by rw[iZ aV];exact nO,by rw[dn];omega,rfl,rfl,Acc.nil (J.push _ _ _),by simp[aS],by simp,List.nodup_nil⟩ ?_
 rintro⟨v,s⟩ f h' ⟨g1,O,aF,z,F,A,G,E,H⟩
 simp only at g1 F A G E H;refine wpS ?_;have IF:s.length<=l.length:=H.length_le_of_subset E;have ym:l.length=zs.length:=by rw[<-bP,ajD]
 simp only[ae,z];refine JS g1 O N (λiH=>?_) λe B=>?_
 .have dt:∀e∈l,e∈s:=λe B=>by
   apply Classical.byContradiction;intro Q;have X0:e.1∉s.map (·.1):=λD=>by
    obtain⟨eB,hU,R⟩:=OF.1 D;have:eB=e:=XV dq.2 (E eB hU) B R;exact Q (this▸hU)
   have:(e.1,kA gj e.2.1,o5 e.2.2)∈nj (mapOf gj o5 l) (s.map (·.1)):=by
    unfold nj;exact ajA.2 ⟨OF.2 ⟨e,B,rfl⟩,by simpa using X0⟩
   rw[iH]at this;simp at this
  have qO:l.Nodup:=by
   have:=dq.2;unfold mapOf at this;rw[azn]at this;exact azM.of_map _ (λa b S W=>S (by rw[W])) this
  have aX:s.Perm l:=(List.perm_ext_iff_of_nodup H qO).2 λe=>⟨E e,dt e⟩;have X:(s.map (·.2.1)).Perm zs:=by rw[<-bP];exact aX.map _
  simp only[ae,ds,F];refine cp (atC A.own (by rw[ajD];omega)) λr ad ⟨az,L,C⟩=>?_;subst az;rw[atD aW X]at L;simp only[ae,ds,F,aJ];exact ar (A.step L C (.inl rfl))
 .have tM:=(ajA.1 B).1;have N3:=(ajA.1 B).2;obtain⟨u,s8,rfl⟩:=OF.1 tM;have Q:u.1∉s.map (·.1):=by simpa using N3
  have DL:=JT (h:=h'.set h.n (.iter j q (s.map (·.1)++[u.1]) q)) (r:=h.n) (e:=(u.1,kA gj u.2.1,o5 u.2.2)) aM (by rw[nk (by omega)];exact O) N tM;have c8:J h (h'.set h.n (.iter j q (s.map (·.1)++[u.1]) q)) kR:=A.ai.kj (BY _) _;have vX:Acc h (h'.set h.n (.iter j q (s.map (·.1)++[u.1]) q)) 3 1 v (ax (s.map (·.2.1))):=⟨A.own.ai (J.set _ _ _) λk hk tI=>G (tI▸hk),c8,A.new⟩;obtain⟨v2,ad,cY,L,C,d2⟩:=Gy (P:=mP) (t:=46) (T:=⟨3,[.int gj 0],1,8⟩) pR (by decide) vX.own (xs:=[.int gj u.2.1]) rfl rfl (λm D=>by
   have hd:m*1=(ax (s.map (·.2.1))).length+1:=D;rw[ht,ajD]at hd;show m*8<=lim/\m<=lim;unfold lim;omega)
  have Y:∀h,am mP 46 1 [(0,.int gj u.2.1)] h=eL (.bh h.n 0 1 1,h.push (.cells [.int gj u.2.1] 3 eN)):=λh=>by rw[nm pR];rfl
  have AM:(h'.set h.n (.iter j q (s.map (·.1)++[u.1]) q)).get h.n=.iter j q (s.map (·.1)++[u.1]) q:=aM;have Z:(h'.set h.n (.iter j q (s.map (·.1)++[u.1]) q)).get j=.map (mapOf gj o5 l) q:=by rw[nk (by omega)];exact O
  have TU:h.n<(h'.set h.n (.iter j q (s.map (·.1)++[u.1]) q)).n:=aF;generalize h'.set h.n (.iter j q (s.map (·.1)++[u.1]) q)=fl at *;have eh:¬bb v h.n:=λU=>G U;have c6:¬bb v j:=λU=>by have:=A.new j U;omega
  simp only[ae,ds,z,DL,o5,F,Y,cY];refine ar ⟨(v2,s++[u]),⟨?_,?_,?_,z,rfl,?_,?_,?_,?_⟩,?_⟩
  .rw[C.get h.n TU eh,AM];simp
  .rw[C.get j (by omega) c6,Z]
  .exact IS TU C.n
  .exact(vX.step L C d2).conv (by simp[ax])
  .intro U;rcases d2 with d|d
   .exact G (d▸U)
   .have:=d h.n U;omega
  .intro e R;rcases axE.1 R with M|M
   .exact E e M
   .simp at M;subst M;exact s8
  .rw[List.nodup_append];refine⟨H,by simp,λa aW b an S=>?_⟩;simp at an;subst an;subst S;exact Q (OF.2 ⟨a,aW,rfl⟩)
  .simpa using Lr B
def pJ(l:List bC)(L:List Nat)(v:Nat):List Int->Option (List Nat)
 | []=>eN
 | f::r=>if gK l f≠5/\L.getD v 0≠L.getD f.toNat 0 then eL ((L.set v (min (L.getD v 0) (L.getD f.toNat 0))).set f.toNat (min (L.getD v 0) (L.getD f.toNat 0)))else pJ l L v r
def pK(l:List bC)(L:List Nat):Nat->List bC->Option (List Nat)
 | _,[]=>eN
 | v,x::r=>match pJ l L v x.bn with
  | some a=>eL a
  | none=>pK l L (v+1) r
def q3(l:List bC):Nat->List Nat->List Nat
 | 0,L=>L
 | k+1,L=>match pK l L 0 l with
  | some a=>q3 l k a
  | none=>L
def pL(l:List bC):List Nat:=q3 l 600 (ajC l.length)
def DM(a:List (Nat×Int×Int))(L:List Nat):Prop:=∀k,k<L.length->bR a (k:Int)=eL ((L.getD k 0:Nat):Int)
def BZ(a:List (Nat×Int×Int)):List (Nat×V×V):=dH (kA gj) (kA gj) a
theorem GT{h:I}{i j:Nat}{a:List (Nat×Int×Int)}{L:List Nat}(m:DM a L){k:Nat}(q:k<L.length)(s:h.get i=.map (BZ a) j):ni mP 204 (.map i) (.int gj (k:Int)) fr h=eL (.int gj ((L.getD k 0:Nat):Int)):=by
 have:=L1 (enc:=kA gj) (ok:=fr) (iL.ofInt Q8) (k:=(k:Int)) Q8 NP s;rw[this,m k q];rfl
theorem Hl{h:I}{i a:Nat}(j:List (Nat×Int×Int))(k x:Int)(m:h.get i=.map (BZ j) a):vB mP 204 (.map i) (.int gj k) (.int gj x) h=eL (h.set i (.map (BZ (cC a j k x)) (fb a j k))) :=
 L2 (enc:=kA gj) (iL.ofInt Q8) (k:=k) Q8 m rfl
theorem DM.set{es:List (Nat×Int×Int)}{L:List Nat}(a:DM es L)(cl k x:Nat):DM (cC cl es (k:Int) (x:Int)) (L.set k x):=λj i=>by
 rw[List.length_set]at i;rw[y5];by_cases s:j=k
 .subst s;rw[gr rfl,ayX,aAW];simp[i]
 .rw[gQ (by omega),a j i,ayX,ayX,aAW,gQ (by omega)]
theorem afb{l:List bC}{L:List Nat}{v:Nat}:∀{r:List Int} {a:List Nat},pJ l L v r=eL a->∃f∈r,L.getD v 0≠L.getD f.toNat 0/\a=(L.set v (min (L.getD v 0) (L.getD f.toNat 0))).set f.toNat (min (L.getD v 0) (L.getD f.toNat 0))
 | [],_,h=>by cases h
 | f::r,a,h=>by
  unfold pJ at h;split at h
  .rename_i aw;exact⟨f,by simp,aw.2,(Option.some.inj h).symm⟩
  .obtain⟨g,i,j,m⟩:=afb h;exact⟨g,List.mem_cons_of_mem _ i,j,m⟩
theorem X1:∀{L:List Nat} {k:Nat} (x:Nat),k<L.length->(L.set k x).sum+L.getD k 0=L.sum+x
 | [],k,x,h=>by simp at h
 | a::r,0,x,_=>by simp;omega
 | a::r,k+1,x,h=>by
  have:=X1 (L:=r) (k:=k) x (by simpa using h);simp only[List.set_cons_succ,List.sum_cons,List.getD_cons_succ];omega
theorem afc{L:List Nat}{v f:Nat}(a:v<L.length)(i:f<L.length)(j:v≠f)(m:L.getD v 0≠L.getD f 0):((L.set v (min (L.getD v 0) (L.getD f 0))).set f (min (L.getD v 0) (L.getD f 0))).sum<L.sum:=by
 have q:=X1 (L:=L) (min (L.getD v 0) (L.getD f 0)) a;have s:=X1 (L:=L.set v (min (L.getD v 0) (L.getD f 0))) (k:=f) (min (L.getD v 0) (L.getD f 0)) (by simpa using i);have u:(L.set v (min (L.getD v 0) (L.getD f 0))).getD f 0=L.getD f 0:=by
  rw[ayX,aAW,gQ j,<-ayX]
 omega
theorem X2{l:List bC}{L:List Nat}:∀{r:List bC} {v:Nat} {a:List Nat},pK l L v r=eL a->∃k x,r[k]?=eL x/\pJ l L (v+k) x.bn=eL a
 | [],_,_,h=>by cases h
 | x::r,v,a,h=>by
  unfold pK at h;split at h
  .rename_i q;exact⟨0,x,rfl,by rw[Nat.add_zero,q];exact h⟩
  .obtain⟨k,y,i,j⟩:=X2 h;exact⟨k+1,y,by simpa using i,by rw[show v+(k+1)=v+1+k by omega];exact j⟩
theorem atF(l:List bC)(h:I)(rA:l.length<=24)(aH:∀(v:Nat) (x:bC),l[v]?=eL x->∀f∈x.bn,0<=f/\f<(v:Int))(lN:∀x∈l,x.bn.length<2^47) :
  au mP 110 [.ag l.length (l.flatMap ao)] h (λr h'=>∃m a s,r=.map m/\h.n<=m/\m<h'.n/\h'.get m=.map (BZ a) s/\DM a (pL l)/\(pL l).length=l.length/\J h h' kR):=by
 refine a7 Tryz.func110 rfl ?_;simp only[ae];refine aT.EA (α:=Unit) (l:=0) rfl (λ_ f h'=>f 0=.ag l.length (l.flatMap ao)/\f 3=.map h.n/\J h h' kR/\h.n<h'.n/\∃a s,h'.get h.n=.map (BZ a) s/\DM a (ajC l.length)) (λ_=>0) ?_ ?_ ?_
 .intro _ f h1 _;omega
 .rintro _ f h1 ⟨G,H,bx,eh,a,s,E,z⟩
  refine wpS ?_;simp only[ae];refine aT.bG (α:=List Nat×List (Nat×Int×Int)×Nat×Nat) (λx f h'=>f 0=.ag l.length (l.flatMap ao)/\f 3=.map h.n/\J h h' kR/\h.n<h'.n/\h'.get h.n=.map (BZ x.2.1) x.2.2.1/\DM x.2.1 x.1/\x.1.length=l.length/\x.1.sum<x.2.2.2/\q3 l x.2.2.2 x.1=pL l) (λx=>x.1.sum) (ajC l.length,a,s,600) ⟨G,H,bx,eh,E,z,by simp,?_,rfl⟩ ?_
  .show(ajC l.length).sum<600;have:∀n:Nat,n<=24->(ajC n).sum<600:=by decide
   exact this _ rA
  rintro⟨L,a,s,k⟩ f ad ⟨G,H,k2,c6,E,z,fL,W,e8⟩
  simp only at E z fL W e8;refine wpS ?_;simp only[ae,d6,G];refine aT.bG (α:=Nat) (λv f h'=>f 0=.ag l.length (l.flatMap ao)/\f 3=.map h.n/\f 20=.ag l.length (l.flatMap ao)/\f 21=.int gj (l.length:Int)/\f 22=.int gj (v:Nat)/\v<=l.length/\J h h' kR/\h.n<h'.n/\h'.get h.n=.map (BZ a) s/\pK l L 0 l=pK l L v (l.drop v)) (λv=>l.length-v) 0 ⟨G,H,rfl,rfl,rfl,D8 _,k2,c6,E,rfl⟩ ?_
  rintro v g aD ⟨g0,g3,Y,M,N,aI,k3,n3,Cz,C⟩
  refine wpS ?_;by_cases Z:v<l.length;rotate_left
  .have O:=dY v l.length;rw[azg (by omega)]at C;have kY:q3 l k L=L:=by
    obtain⟨F,rfl⟩:∃F,k=F+1:=⟨k-1,by omega⟩;unfold q3;rw[C];rfl
   simp only[ae,ds,g3,M,N,O,Dg,aJ];exact ar ⟨h.n,a,s,rfl,BY _,n3,Cz,by rw[<-e8,kY];exact z,by rw[<-e8,kY];exact fL,k3⟩
  have O:=dK v l.length;have eg:=r0 (kk:=.i64) (P:=mP) lp Z EO;have TV:=aH v l[v] (Jt Z);have zI:=lN l[v] (ayz Z);rw[ay0 Z]at C
  replace C:pK l L 0 l=match pJ l L v l[v].bn with|some kZ=>eL kZ|none=>pK l L (v+1) (l.drop (v+1)):=C
  have bY:=iM v;generalize l[v]=A at eg TV zI C;have iO:∀(q:List V),cw (eL (eL 6)) (eL (ao A++q))=eL (.agg (ao A)):=λq=>j1 (lp A);have ch:(kB (ao A)).cells=eL (ao A):=rfl;have dI:bD (eL 6) (aP.cells [.int gj 0,.ah,.int gj 0,.int gj 0,.ah,.int gj 0] 68 eN) 0 (ao A)=eL (.cells (ao A) 68 eN):=by
   rw[u0 (n:=6) (lp A) (DG A),gr (by decide),sM];rfl
  have hj:cI (aP.cells (ao A) 68 eN) 1=eL [.ag A.bn.length (ax A.bn),.int gj A.e.op,.int gj A.e.num,.ag A.e.aQ.length (A.e.aQ.flatMap aN),.int gj A.n]:=by rw[sM];rfl
  obtain⟨lJ,jU,_,vW,n4⟩:=bU aD (.cells (ao A) 68 eN);have IG:lJ.get h.n=.map (BZ a) s:=by rw[jU];exact(iZ (by omega)).trans Cz
  have cg:J h lJ kR:=by rw[jU];exact k3.bp _
  simp only[ae,ds,al,hI,Y,M,N,O,eg,iO,ch,dI,<-jU,vW,hj];refine aT.bG (α:=Nat) (λj f h'=>f 0=.ag l.length (l.flatMap ao)/\f 3=.map h.n/\f 20=.ag l.length (l.flatMap ao)/\f 21=.int gj (l.length:Int)/\f 22=.int gj (v:Nat)/\f 5=.int gj (v:Nat)/\f 28=.ag A.bn.length (ax A.bn)/\f 29=.int gj (A.bn.length:Int)/\f 30=.int gj (j:Nat)/\j<=A.bn.length/\h'=lJ/\pJ l L v A.bn=pJ l L v (A.bn.drop j)) (λj=>A.bn.length-j) 0 ⟨g0,g3,Y,M,N,rfl,rfl,rfl,rfl,D8 _,rfl,rfl⟩ ?_
  rintro j p bV ⟨Q,R,N4,N5,IH,Kv,Fl,X,II,aV,rfl,u⟩
  refine wpS ?_;by_cases lr:j<A.bn.length;rotate_left
  .have bt:=dY j A.bn.length;rw[azg (by omega)]at u;have aa:pJ l L v A.bn=none:=u;rw[aa]at C;simp only[ae,ds,R,IH,X,II,bt,bY];exact ar ⟨v+1,⟨Q,R,N4,N5,rfl,by omega,cg,by omega,IG,C⟩,by omega⟩
  have bt:=dK j A.bn.length;have b0:=vH (P:=mP) (kk:=.i64) lr kE;have jn:=iM j;have b7:A.bn[j]∈A.bn:=ayz lr;rw[ay0 lr]at u;generalize A.bn[j]=B at b0 b7 u;obtain⟨jL,oX⟩:=TV B b7;obtain⟨q,rfl⟩:∃q:Nat,B=(q:Int):=⟨B.toNat,by omega⟩;obtain⟨eU,jV,hX⟩:=Fi (l:=l) (q:=q) (by omega);have DN:=GT z (k:=v) (by omega) IG;have RN:=GT z (k:=q) (by omega) IG
  replace u:pJ l L v A.bn=if gK l (q:Int)≠5/\L.getD v 0≠L.getD q 0 then eL ((L.set v (min (L.getD v 0) (L.getD q 0))).set q (min (L.getD v 0) (L.getD q 0)))else pJ l L v (A.bn.drop (j+1)):=u
  by_cases IJ:gK l (q:Int)=5
  .have c3:(gK l (q:Int) !=5)=false:=(by simp[IJ]);rw[gQ (by simp[IJ])]at u;simp only[ae,ds,reduceCtorEq,al,Q,Fl,X,II,bt,b0,eU,jV,c3,jn];exact ar ⟨j+1,⟨Q,R,N4,N5,IH,Kv,Fl,X,rfl,by omega,rfl,u⟩,by omega⟩
  have c3:(gK l (q:Int) !=5)=true:=by simp[IJ]
  by_cases D:L.getD v 0=L.getD q 0
  .have eb:(((L.getD v 0:Nat):Int) !=((L.getD q 0:Nat):Int))=false:=(by rw[D];simp);rw[gQ (λU=>U.2 D)]at u;simp only[ae,ds,reduceCtorEq,al,Q,R,Kv,Fl,X,II,bt,b0,eU,jV,c3,DN,RN,eb,jn];exact ar ⟨j+1,⟨Q,R,N4,N5,IH,Kv,Fl,X,rfl,by omega,rfl,u⟩,by omega⟩
  have eb:(((L.getD v 0:Nat):Int) !=((L.getD q 0:Nat):Int))=true:=by rw[bne_iff_ne];omega
  rw[gr ⟨IJ,D⟩]at u;rw[u]at C;have X3:=afc (L:=L) (v:=v) (f:=q) (by omega) (by omega) (by omega) D;generalize Hm:min (L.getD v 0) (L.getD q 0)=low at u C X3;have Gs:min ((L.getD v 0:Nat):Int) ((L.getD q 0:Nat):Int)=(low:Int):=by rw[<-Hm,Nat.min_def,Int.min_def];split<;>split<;>omega
  have zh:=Hl a (v:Int) (low:Int) IG;have Ks:=Hl (h:=bV.set h.n (.map (BZ (cC s a (v:Int) (low:Int))) (fb s a (v:Int)))) (cC s a (v:Int) (low:Int)) (q:Int) (low:Int) aM;simp only[ae,ds,reduceCtorEq,al,Q,R,IH,Kv,Fl,X,II,bt,b0,eU,jV,c3,DN,RN,eb,Gs,zh,Ks];obtain⟨F,rfl⟩:∃F,k=F+1:=⟨k-1,by omega⟩;have ab:q3 l F ((L.set v low).set q low)=pL l:=by
   rw[<-e8];show _=match pK l L 0 l with|some kZ=>q3 l F kZ|none=>L
   rw[C]
  refine ar ⟨((L.set v low).set q low,cC (fb s a (v:Int)) (cC s a (v:Int) (low:Int)) (q:Int) (low:Int),fb (fb s a (v:Int)) (cC s a (v:Int) (low:Int)) (q:Int),F),⟨Q,R,cg.kj (BY _) _,by show h.n<bV.n;omega,aM,(z.set s v low).set _ q low,by simp[fL],by simp only;omega,ab⟩,by simp only;omega⟩
 .intro step;refine aT.seq (jp (by kernel_rfl) ?_);simp only[ae,ds];refine aT.seq (jp (by kernel_rfl) ?_);simp only[ae,ds,reduceCtorEq,d6];refine aT.bG (α:=Nat×List (Nat×Int×Int)×Nat) (λx f h'=>f 0=.ag l.length (l.flatMap ao)/\f 3=.map h.n/\f 12=.int gj (l.length:Int)/\f 13=.int gj (x.1:Nat)/\x.1<=l.length/\J h h' kR/\h.n<h'.n/\h'.get h.n=.map (BZ x.2.1) x.2.2/\DM x.2.1 (ajC x.1)) (λx=>l.length-x.1) (0,[],0) ⟨rfl,rfl,rfl,rfl,D8 _,J.push _ _ _,Nat.lt_succ_self _,ac,λk W=>by simp at W⟩ ?_
  rintro⟨i,a,s⟩ f h1 ⟨G,H,S,T,hi,bx,eh,E,z⟩
  simp only at T hi E z;refine wpS ?_;by_cases Z:i<l.length
  .have O:=dK i l.length;have bY:=iM i;have zh:=Hl a (i:Int) (i:Int) E;have IK:DM (cC s a (i:Int) (i:Int)) (ajC (i+1)):=λk W=>by
    rw[aDw]at W;rw[y5];have ay:(ajC (i+1)).getD k 0=k:=by rw[ayX,aA6 W];rfl
    rw[ay];by_cases qN:k=i
    .rw[qN,gr rfl]
    .rw[gQ (by omega),z k (by rw[aDw];omega),ayX,aA6 (by omega)];rfl
   simp only[ae,ds,H,S,T,O,zh,bY];exact ar ⟨(i+1,cC s a (i:Int) (i:Int),fb s a (i:Int)),⟨G,H,S,rfl,by simp only;omega,bx.kj (BY _) _,eh,aM,IK⟩,by simp only;omega⟩
  .have O:=dY i l.length;have qi:i=l.length:=by omega
   rw[qi]at z;simp only[ae,S,T,O];refine aT.seq (.label ?_);exact step () _ _ ⟨G,H,bx,eh,a,s,E,z⟩
theorem RO{L:List Nat}{k j x:Nat}:(L.set k x).getD j 0=if k=j/\j<L.length then x else L.getD j 0:=by
 rw[ayX,aAW];by_cases h:k=j
 .subst h;by_cases a:k<L.length
  .simp[a]
  .simp[a,ayX]
 .simp[h,ayX]
theorem aff{l:List bC}:∀(k:Nat) (L:List Nat),(∀j,L.getD j 0<=j)->∀j,(q3 l k L).getD j 0<=j
 | 0,L,h,j=>h j
 | k+1,L,h,j=>by
  unfold q3;cases i:pK l L 0 l with
  | none=>exact h j
  | some m=>
   refine aff k m (λj=>?_) j;obtain⟨v,x,s,q⟩:=X2 i;obtain⟨f,_,_,e⟩:=afb q;rw[e,RO,RO];have a:=h (0+v);have b:=h f.toNat;split
   .rename_i U;rw[<-U.1];omega
   .split
    .rename_i U;rw[<-U.1];omega
    .exact h j
theorem afg(l:List bC):∀j,(pL l).getD j 0<=j:=aff _ _ λj=>by
 rw[ayX];by_cases h:j<l.length
 .rw[aA6 h];exact BY _
 .rw[List.getElem?_eq_none (by simp;omega)];exact D8 _
theorem Own.at'{h:I}{e:aPg}{v:V}{s:List V}{i:Nat}(z:Own h e 1 v s)(hi:aS v=eL i){k:Nat}(A:k<s.length){kk:aPh}{t:aPg}(B:dU mP t=eL 1) :
  hC mP t v (.int kk (k:Int))=eL (.ptr i k)/\(∃r,cI (h.get i) k=eL (s[k]::r))/\∀x,x.one=e6->∃ob,bD (eL 1) (h.get i) k [x]=eL ob/\Own (h.set i ob) e 1 v (s.set k x):=by
 obtain⟨j,C,u,D,E⟩:=QM (P:=mP) (kk:=kk) B z A;rw[hi]at u;obtain rfl:i=j:=by simpa using u
 exact⟨C,D,λx F=>by obtain⟨ob,a,b,_⟩:=E x F;exact⟨ob,a,b⟩⟩
def e1(R:List Nat):Nat->List Int×Nat
 | 0=>([],0)
 | i+1=>if R.getD i 0=i then((e1 R i).1++[((e1 R i).2:Int)],(e1 R i).2+1)else((e1 R i).1++[(e1 R i).1.getD (R.getD i 0) 0],(e1 R i).2)
theorem AN(R:List Nat):∀i,(e1 R i).1.length=i
 | 0=>rfl
 | i+1=>by unfold e1;split<;>simp[AN R i]
theorem X4(R:List Nat):∀i,(e1 R i).2<=i
 | 0=>BY _
 | i+1=>by have:=X4 R i;unfold e1;split<;>simp only<;>omega
def fo(p:Int)(l:List bC):List Int:=if(cj p l).2=0 then(e1 (pL l) l.length).1 else []
theorem afh{P:List Int}{i n:Nat}(a:P.length=i)(j:i<n)(x:Int):(P++azj (n-i) 0).set i x=(P++[x])++azj (n-(i+1)) 0:=by
 subst a;rw[List.set_append_right _ _ (BY _),aCG,show n-P.length=(n-(P.length+1))+1 by omega,List.replicate_succ,List.set_cons_zero];simp
theorem N6(l:List bC)(p:Int)(a1:jE l)(h:I)(ay:iU h):Pure mP 69 [.agg (cx l p)] h (.tuple [.ag (fo p l).length (ax (fo p l)),.int gj (cj p l).2]):=by
 refine Pure.of (bf.tuple (bc.cons (bf.ag (y1 _)) (bc.cons (bf.int _ _) bc.nil))) ?_;have aw:(kB (cx l p)).cells=eL [.ag l.length (l.flatMap ao),.int gj p]:=rfl;obtain⟨H,hH,S,T,hx⟩:=bU h (.cells [.ag l.length (l.flatMap ao),.int gj p] 24 eN);have jq:=ay.ai S;refine a7 Tryz.func69 rfl ?_;simp only[ae,ds,AT,al,aw,<-hH,T];refine bE (RI l p a1 H jq) ?_;by_cases z:(cj p l).2=0;rotate_left
 .have W:((cj p l).2 !=0)=true:=by simp[z]
  have F:fo p l=[]:=gQ z;simp only[ae,ds,sN,W,aJ];exact ar ⟨_,by rw[F];exact aK.tuple (aE.cons (aK.lI _) (aE.refl _ _)),S⟩
 have W:((cj p l).2 !=0)=false:=by simp[z]
 obtain⟨_,_,gp,xc,_,dt⟩:=DJ z;have F:fo p l=(e1 (pL l) l.length).1:=gr z;simp only[ae,ds,AT,al,sN,W,T];refine cp (atF l H xc (λv x X f aA=>(XK (dt v x X)).2.1 f aA) (λx X=>(a1.2 x X).2.1)) λr a ⟨m,es,cl,jc,m1,m2,fe,lb,Ct,G⟩=>?_;subst jc;have N7:=afg l;generalize pL l=R at lb Ct N7 F;have CB:=(G.get h.n (by omega) (by simp[kR])).trans T;have va:Bx mP 46 (.int gj (l.length:Int)) (.int gj (l.length:Int)) a=eL (.bh a.n 0 l.length l.length,a.push (.cells (ax (azj l.length 0)) 3 eN)):=by
  rw[QK pR (BY _) (by simp only;omega) (by omega),ajQ];simp[ax]
 have a0:Own (a.push (.cells (ax (azj l.length 0)) 3 eN)) 3 1 (.bh a.n 0 l.length l.length) (ax (azj l.length 0)):=Own.fz _ l.length (by rw[ht,aAP,axD]) (by unfold b9;omega);obtain⟨bZ,bN,Y,_,c6⟩:=bU a (.cells (ax (azj l.length 0)) 3 eN);rw[<-bN]at a0;have nQ:=(Y.get h.n (by have:=G.n;omega) (by simp[kR])).trans CB;have w5:=(Y.get m m2 (by simp[kR])).trans fe;simp only[ae,ds,AT,al,d6,CB,va,<-bN,nQ];have WX:=G.n;refine aT.bG (α:=Nat) (λi f h'=>f 6=.map m/\f 7=.bh a.n 0 l.length l.length/\f 8=.int gj (((e1 R i).2:Nat):Int)/\f 27=.int gj (l.length:Int)/\f 28=.int gj (i:Nat)/\i<=l.length/\J bZ h' (λq=>q=a.n)/\Own h' 3 1 (.bh a.n 0 l.length l.length) (ax ((e1 R i).1++azj (l.length-i) 0))) (λi=>l.length-i) 0 ⟨rfl,rfl,rfl,rfl,rfl,D8 _,J.refl _ _,a0⟩ ?_
 rintro i f aD ⟨L,A,f8,j,u,hi,M,N⟩
 have Cz:=(M.get m (by omega) (by omega)).trans w5;refine wpS ?_;by_cases Z:i<l.length;rotate_left
 .have O:=dY i l.length;have qi:i=l.length:=by omega
  subst qi;rw[aCG,List.replicate_zero,axA]at N;obtain⟨br,B,cg⟩:=aK.own N (n:=l.length) (by rw[ht,AN,axD]) (by decide);have xd:J h br kR:=(((S.trans' G).trans' Y).trans M λq ab e=>by omega).trans cg λq ab e=>by simp[bb,aS]at e;omega
  simp only[ae,ds,A,j,u,O,aJ];refine ar ⟨br,?_,xd⟩;rw[F,AN,z];exact aK.tuple (aE.cons B (aE.refl _ _))
 have O:=dK i l.length;have bY:=iM i;have hX:=GT lb (k:=i) (by omega) Cz;have s:(ax ((e1 R i).1++azj (l.length-i) 0)).length=l.length:=by rw[ht,D9,AN,aAP];omega
 obtain⟨cY,_,fP⟩:=Pk.Own.at' (kk:=.i64) N (i:=a.n) rfl (k:=i) (by rw[s];exact Z) kE;have aa:=X4 R i;by_cases he:R.getD i 0=i
 .have B:(((R.getD i 0:Nat):Int)==(i:Int))=true:=by rw[he];simp
  have jn:aPh.i64.wrap ((((e1 R i).2:Nat):Int)+1)=(((e1 R i).2+1:Nat):Int):=by rw[kp _ (by omega)];omega
  obtain⟨ob,dL,C⟩:=fP (.int gj (((e1 R i).2:Nat):Int)) rfl;rw[QP,afh (AN R i) Z]at C;have D:e1 R (i+1)=((e1 R i).1++[((e1 R i).2:Int)],(e1 R i).2+1):=gr he;simp only[ae,ds,al,L,A,f8,j,u,O,hX,B,cY,dL,bY,jn];exact ar ⟨i+1,⟨L,A,by rw[D];rfl,j,rfl,by omega,M.trans' (J.set _ _ _),by rw[D];exact C⟩,by omega⟩
 .have B:(((R.getD i 0:Nat):Int)==(i:Int))=false:=by simp only[beq_eq_false_iff_ne,ne_eq];omega
  have ad:=N7 i;have aV:R.getD i 0<i:=by omega
  generalize tv:R.getD i 0=E at *;obtain⟨jL,Q,_⟩:=Pk.Own.at' (kk:=.i64) N (i:=a.n) rfl (k:=E) (by rw[s];omega) kE;have nO:(ax ((e1 R i).1++azj (l.length-i) 0))[E]'(by rw[s];omega)=.int gj ((e1 R i).1.getD E 0):=by
   simp only[ax,List.getElem_map];rw[List.getElem_append_left (by rw[AN];exact aV),ayX,Jt (by rw[AN];exact aV)];rfl
  obtain⟨fO,Q⟩:=Q;rw[nO]at Q;obtain⟨ob,dL,C⟩:=fP (.int gj ((e1 R i).1.getD E 0)) rfl;rw[QP,afh (AN R i) Z]at C;have D:e1 R (i+1)=((e1 R i).1++[(e1 R i).1.getD E 0],(e1 R i).2):=by
   show(if R.getD i 0=i then _ else _)=_;rw[tv,gQ (by omega)]
  simp only[ae,ds,al,L,A,j,u,O,hX,B,jL,Q,cY,dL,bY];exact ar ⟨i+1,⟨L,A,by rw[D];exact f8,j,rfl,by omega,M.trans' (J.set _ _ _),by rw[D];exact C⟩,by omega⟩
theorem afi(l:List bC)(p:Int)(i:jE l)(h:I)(j:iU h):Pure mP 49 [.agg (cx l p)] h (.bool ((cj p l).2==0)):=by
 refine Pure.val (bf.bool _) ?_;have aw:(kB (cx l p)).cells=eL [.ag l.length (l.flatMap ao),.int gj p]:=rfl;obtain⟨H,hH,a,m,_⟩:=bU h (.cells [.ag l.length (l.flatMap ao),.int gj p] 24 eN);refine a7 Tryz.func49 rfl ?_;simp only[ae,ds,AT,al,aw,<-hH,m];refine bE (RI l p i H (j.ai a)) ?_;simp only[ae,ds,sN,aJ];exact ar ⟨rfl,a⟩
def rC(p:Int)(l:List bC)(key:Int):Int:=if(cj p l).2=0 then(if key.tmod p<0 then key.tmod p+p else key.tmod p)else -1
theorem afj{a p:Int}(i:1<=p):-p<a.tmod p/\a.tmod p<p:=by
 have e:=aEQ a (show(0:Int)<p by omega);have bd:=aEQ (-a) (show(0:Int)<p by omega);rw[Int.neg_tmod]at bd;omega
theorem afk(l:List bC)(p key:Int)(z:jE l)(h:I)(A:iU h):Pure mP 26 [.agg (cx l p),.int gj key] h (.int gj (rC p l key)):=by
 refine Pure.val (bf.int _ _) ?_;have aw:(kB (cx l p)).cells=eL [.ag l.length (l.flatMap ao),.int gj p]:=rfl;obtain⟨H,hH,j,s,_⟩:=bU h (.cells [.ag l.length (l.flatMap ao),.int gj p] 24 eN);refine a7 Tryz.func26 rfl ?_;simp only[ae,Js,ds,AT,al,aw,<-hH,s];refine bE (afi l p z H (A.ai j)) ?_;by_cases i:(cj p l).2=0;rotate_left
 .have m:((cj p l).2==0)=false:=by simp[i]
  simp only[ae,Js,ds,m,aJ];exact ar ⟨by rw[rC,gQ i],j⟩
 have m:((cj p l).2==0)=true:=by simp[i]
 obtain⟨_,B,_⟩:=DJ i;obtain⟨D,E⟩:=afj (a:=key) B.1;by_cases q:key.tmod p<0
 .have u:decide (key.tmod p<0)=true:=by simpa using q
  have C:aPh.i64.wrap (key.tmod p+p)=key.tmod p+p:=kp _ (by omega);simp only[ae,Js,ds,AT,By,al,m,s,BE (show p≠0 by omega),u,C,aJ];exact ar ⟨by rw[rC,gr i,gr q],j⟩
 .have u:decide (key.tmod p<0)=false:=by simpa using q
  simp only[ae,Js,ds,AT,By,al,m,s,BE (show p≠0 by omega),u,aJ];exact ar ⟨by rw[rC,gr i,gQ q],j⟩
def mx:Int->List Int->Int
 | a,[]=>a
 | a,b::r=>mx (max a b) r
theorem X5(b:Int):∀(a:Int) (r:List Int),mx a (r++[b])=max (mx a r) b
 | a,[]=>rfl
 | a,c::r=>X5 b (max a c) r
theorem X6(L:List Int)(a:Int)(r:List Int)(j:L=a::r)(H:L.length<2^40)(h:I):Pure mP 109 [.ag L.length (ax L)] h (.int gj (mx a r)):=by
 refine Pure.val (bf.int _ _) ?_;have M:0<L.length:=by rw[j];simp
 have N:L.length=r.length+1:=by rw[j];rfl
 refine a7 Tryz.func109 rfl ?_;have C:decide ((L.length:Int)<1)=false:=hK (by omega);have D:(if(0:Int)<(L.length:Int)/\ay4 0*1<=(ax L).length then eL (V.at (List.drop (ay4 0*1) (ax L)))else eN)=eL (V.at (.int gj a::ax r)):=by
  rw[gr ⟨by omega,by simp⟩,j];rfl
 simp only[ae,Int.reduceLE,ds,reduceCtorEq,al,hI,kE,C,D];refine aT.bG (α:=Nat) (λi f h'=>f 0=.ag L.length (ax L)/\f 3=.int gj (mx a (r.take i))/\f 4=.int gj ((i+1:Nat):Int)/\i<=r.length/\h'=h) (λi=>r.length-i) 0 ⟨rfl,rfl,rfl,D8 _,rfl⟩ ?_
 rintro i f O ⟨m,q,z,hi,rfl⟩
 refine wpS ?_;by_cases E:i<r.length
 .have s:decide (((i+1:Nat):Int)<(L.length:Int))=true:=hO (by omega);have u:=vH (P:=mP) (kk:=.i64) (l:=L) (k:=i+1) (by omega) kE;have F:L[i+1]'(by omega)=r[i]:=by subst j;rfl
  have A:r.take (i+1)=r.take i++[r[i]]:=ayY E;rw[F]at u;generalize r[i]=B at u A;have G:aPh.i64.wrap (((i+1:Nat):Int)+1)=((i+1+1:Nat):Int):=by rw[kp _ (by omega)];omega
  simp only[ae,ds,reduceCtorEq,hI,al,m,q,z,s,u,G];exact ar ⟨i+1,⟨m,by rw[A,X5];rfl,rfl,by omega,rfl⟩,by omega⟩
 .have s:decide (((i+1:Nat):Int)<(L.length:Int))=false:=hK (by omega);rw[ajE (by omega)]at q;simp only[ae,ds,reduceCtorEq,hI,m,q,z,s,aJ];exact ar ⟨rfl,J.refl _ _⟩
def zi(p:Int)(l:List bC):Int:=if(cj p l).2=0 then aPh.i64.wrap (aPh.i64.wrap (mx ((fo p l).headD 0) (fo p l).tail+1)*p)else 0
theorem Fm{p:Int}{l:List bC}(a:(cj p l).2=0):(fo p l).length=l.length:=by
 unfold fo;rw[gr a,AN]
theorem atG(l:List bC)(p:Int)(B:jE l)(h:I)(C:iU h):Pure mP 68 [.agg (cx l p)] h (.int gj (zi p l)):=by
 refine Pure.val (bf.int _ _) ?_;have aw:(kB (cx l p)).cells=eL [.ag l.length (l.flatMap ao),.int gj p]:=rfl;obtain⟨H,hH,j,z,_⟩:=bU h (.cells [.ag l.length (l.flatMap ao),.int gj p] 24 eN);refine a7 Tryz.func68 rfl ?_;simp only[ae,ds,AT,al,aw,<-hH,z];refine bE (N6 l p B H (C.ai j)) ?_;by_cases i:(cj p l).2=0;rotate_left
 .have m:((cj p l).2 !=0)=true:=by simp[i]
  simp only[ae,ds,m,aJ];exact ar ⟨by rw[zi,gQ i],j⟩
 have m:((cj p l).2 !=0)=false:=by simp[i]
 obtain⟨_,_,E,F,_⟩:=DJ i;have s:=Fm i;have A:zi p l=aPh.i64.wrap (aPh.i64.wrap (mx ((fo p l).headD 0) (fo p l).tail+1)*p):=gr i;obtain⟨a,r,u⟩:∃a r,fo p l=a::r:=by
  cases D:fo p l with
  | nil=>rw[D]at s;simp at s;omega
  | cons a r=>exact⟨a,r,rfl⟩
 rw[u]at A;generalize fo p l=L at s u;simp only[ae,ds,m];refine aT.cL kR [] (.q 0 (.c 1 (.q 2 (.q 3 (.q 4 (.q 5 (.q 6 .done))))))) ?_;simp only[ae,bw,ds];refine gh rfl rfl rfl (λh' G=>X6 L a r u (by omega) h') ?_;simp only[ae,bw,ds,AT,By,al,z,aJ];exact ar ⟨by rw[A];rfl,j⟩
theorem X7(u:Nat)(a b:Nat)(P:List Int)(part:Int)(i:u<P.length)(h:I)(j:h.get a=.cells [.ag P.length (ax P)] 46 eN)(m:h.get b=.cells [.int gj part] 3 eN) :
  Pure mP 72 [.int gj (u:Int),.ptr a 0,.ptr b 0] h (.bool (P.getD u 0==part)):=by
 refine Pure.val (bf.bool _) ?_;have s:=vH (P:=mP) (kk:=.i64) i kE;have z:P.getD u 0=P[u]:=by rw[ayX,Jt i];rfl
 refine a7 Tryz.func72 rfl ?_;simp only[ae];refine aT.cL kR [] (.q 0 (.q 1 (.q 2 (.q 3 (.q 4 (.q 5 (.q 6 .done))))))) ?_;simp only[ae,bw,ds,reduceCtorEq,al,j,m,s,aJ];exact ar ⟨by rw[z],J.refl _ _⟩
theorem atH(i:List Int)(a b:Nat)(P:List Int)(part:Int)(H:∀u∈i,0<=u/\u<P.length)(S:i.length<2^40)(h:I)(L:h.get a=.cells [.ag P.length (ax P)] 46 eN)(M:h.get b=.cells [.int gj part] 3 eN) :
  Pure mP 70 [.ag i.length (ax i),.func (.func 72) [] [.ptr a 0,.ptr b 0]] h (.bool (i.any λu=>P.getD u.toNat 0==part)):=by
 have N:au mP 111 [.ag i.length (ax i),.func (.func 72) [] [.ptr a 0,.ptr b 0]] h (λr h'=>(∃k:Int,r=.int gj k/\(decide (0<=k))=i.any λu=>P.getD u.toNat 0==part)/\h'=h):=by
  refine a7 Tryz.func111 rfl ?_;simp only[ae,Js,ds,reduceCtorEq,hI];refine aT.bG (α:=Nat) (λj f h'=>f 0=.ag i.length (ax i)/\f 1=.func (.func 72) [] [.ptr a 0,.ptr b 0]/\f 7=.int gj (i.length:Int)/\f 8=.int gj (j:Nat)/\j<=i.length/\h'=h/\(i.any λu=>P.getD u.toNat 0==part)=((i.drop j).any λu=>P.getD u.toNat 0==part)) (λj=>i.length-j) 0 ⟨rfl,rfl,rfl,rfl,D8 _,rfl,rfl⟩ ?_
  rintro j f D ⟨E,F,s,z,T,rfl,m⟩
  refine wpS ?_;by_cases B:j<i.length
  .have C:=dK j i.length;rw[ay0 B,List.any_cons]at m;have O:=vH (P:=mP) (kk:=.i64) B kE;have W:=H _ (ayz B);generalize i[j]=A at *;obtain⟨q,rfl⟩:∃q:Nat,A=(q:Int):=⟨A.toNat,by omega⟩;have Q:=iM j;simp only[ae,ds,reduceCtorEq,al,E,F,s,z,C,O];refine bE (X7 q a b P part (by omega) D L M) ?_;rw[ayw]at m;cases G:(P.getD q 0==part)
   .simp only[ae,Js,ds,z,Q];rw[G,Bool.false_or]at m;exact ar ⟨j+1,⟨E,F,s,rfl,by omega,rfl,m⟩,by omega⟩
   .simp only[ae,Js,ds,aJ];rw[G,Bool.true_or]at m;exact ar ⟨⟨_,rfl,by rw[m];simp⟩,rfl⟩
  .have C:=dY j i.length;rw[azg (by omega)]at m;simp only[ae,Js,ds,s,z,C,aJ];exact ar ⟨⟨_,rfl,by rw[m];rfl⟩,rfl⟩
 refine a7 Tryz.func70 rfl ?_;simp only[ae,ds,reduceCtorEq];refine cp N λr D ⟨⟨k,az,bd⟩,R⟩=>?_;subst az R;simp only[ae,ds,aJ];exact ar ⟨by rw[bd],rfl⟩
def uE(l:List bC)(P:List Int)(part:Int)(v:Nat):Bool:=(gK l (v:Int)==1&&P.getD v 0==part)||(gK l (v:Int)==5&&(ir (v:Int) 0 l).any λu=>P.getD u.toNat 0==part)
def nR(l:List bC)(P:List Int)(part:Int):Nat->List Int
 | 0=>[]
 | i+1=>nR l P part i++(if uE l P part i then [(i:Int)]else [])
theorem RP(l:List bC)(P:List Int)(part:Int):∀i,(nR l P part i).length<=i
 | 0=>BY _
 | i+1=>by
  have:=RP l P part i;unfold nR;rw[D9];split<;>simp<;>omega
def oG(p:Int)(l:List bC)(part:Int):List Int:=nR l (fo p l) part (fo p l).length
theorem X8(l:List bC)(p part:Int)(a1:jE l)(h:I)(ay:iU h):Pure mP 33 [.agg (cx l p),.int gj part] h (.ag (oG p l part).length (ax (oG p l part))):=by
 have X9:(fo p l).length<=24/\((fo p l).length=0\/((fo p l).length=l.length/\l.length<=24)):=by
  by_cases W:(cj p l).2=0
  .obtain⟨_,_,_,xc,_⟩:=DJ W;rw[Fm W];exact⟨xc,.inr ⟨rfl,xc⟩⟩
  .unfold fo;rw[gQ W];exact⟨by simp,.inl rfl⟩
 have qi:=RP l (fo p l) part (fo p l).length;refine Pure.acc (e:=3) (sz:=1) (y1 _) (by rw[ht,axD]) (by decide) ?_;have aw:(kB (cx l p)).cells=eL [.ag l.length (l.flatMap ao),.int gj p]:=rfl;obtain⟨H,hH⟩:∃x,x=(h.push (.cells [.ag l.length (l.flatMap ao),.int gj p] 24 eN)).push (.cells [.int gj part] 3 eN):=⟨_,rfl⟩;have gt:H.get h.n=.cells [.ag l.length (l.flatMap ao),.int gj p] 24 none:=by rw[hH];exact yZ
 have nN:H.get (h.n+1)=.cells [.int gj part] 3 none:=by rw[hH];exact zO
 have bl:J h H kR:=by rw[hH];exact(J.push _ _ _).bp _
 have hx:H.n=h.n+2:=by rw[hH];rfl
 have AO:∀x:Int,(kA gj x).cells=eL [.int gj x]:=λ_=>rfl;have p0:∀(n:Nat) (x:List V),(V.ag n x).cells=eL [.ag n x]:=λ_ _=>rfl;refine a7 Tryz.func33 rfl ?_;simp only[ae,ds,AT,al,aw,AO,<-hH,gt];refine bE (N6 l p a1 H (ay.ai bl)) ?_;unfold oG;generalize fo p l=P at X9 qi;obtain⟨X,bN,Y,vY,c6⟩:=bU H (.cells [.ag P.length (ax P)] 46 eN);have nQ:=(Y.get h.n (by omega) (by simp[kR])).trans gt;have Ny:=(Y.get (h.n+1) (by omega) (by simp[kR])).trans nN;simp only[ae,ds,hI,al,p0,<-bN,vY];refine aT.bG (α:=V×Nat) (λx f h'=>f 2=.ptr h.n 0/\f 3=.ptr (h.n+1) 0/\f 5=.ptr H.n 0/\f 7=x.1/\f 15=.ag P.length (ax P)/\f 16=.int gj (P.length:Int)/\f 17=.int gj (x.2:Nat)/\x.2<=P.length/\Acc X h' 3 1 x.1 (ax (nR l P part x.2))) (λx=>P.length-x.2) (.ah,0) ⟨rfl,rfl,rfl,rfl,rfl,rfl,rfl,D8 _,Acc.nil (J.refl _ _)⟩ ?_
 rintro⟨u,i⟩ f Z ⟨B,D,F,E,q,a,s,hi,A⟩
 simp only at E s hi A;have Q:=(A.ai.get h.n (by omega) (by simp[kR])).trans nQ;have N8:=(A.ai.get (h.n+1) (by omega) (by simp[kR])).trans Ny;have aa:=(A.ai.get H.n (by omega) (by simp[kR])).trans vY;refine wpS ?_;by_cases aC:i<P.length;rotate_left
 .have G:=dY i P.length;have ab:i=P.length:=by omega
  rw[ab]at A;simp only[ae,ds,E,a,s,G,aJ];exact ar ⟨A.own,(bl.trans' Y).trans' A.ai,λk hk=>by have:=A.new k hk;omega⟩
 have G:=dK i P.length;have Ya:i<l.length:=by omega
 have M:=vH (P:=mP) (kk:=.i64) aC kE;have ad:P.getD i 0=P[i]:=by rw[ayX,Jt aC];rfl
 rw[<-ad]at M;obtain⟨R,S,hX⟩:=Fi Ya;have N:=iM i;have af:=RP l P part i;have vo:nR l P part (i+1)=nR l P part i++(if uE l P part i then [(i:Int)]else []):=rfl;obtain⟨v2,aD,cY,a2⟩:=A.elem (P:=mP) pR (by decide) (xs:=[.int gj (i:Nat)]) rfl rfl (by simp[ht,lim];omega) (by simp[ht,lim];omega);have O:uE l P part i=e6->Acc X aD 3 1 v2 (ax (nR l P part (i+1))):=λU=>by rw[vo,U,gr rfl,VA];exact a2
 have no:uE l P part i=fr->Acc X Z 3 1 u (ax (nR l P part (i+1))):=λU=>by rw[vo,U,gQ (by simp),axA];exact A
 have z:uE l P part i=((gK l (i:Int)==1&&P.getD i 0==part)||(gK l (i:Int)==5&&(ir (i:Int) 0 l).any λu=>P.getD u.toNat 0==part)):=rfl;cases C:(gK l (i:Int)==1)
 .cases L:(gK l (i:Int)==5)
  .rw[C,L]at z;simp only[ae,ds,AT,al,B,q,a,s,G,M,Q,R,S,C,L,N];exact ar ⟨(u,i+1),⟨B,D,F,E,q,a,rfl,by simp only;omega,no z⟩,by simp only;omega⟩
  .rw[C,L]at z;simp only[ae,ds,AT,al,B,q,a,s,G,M,Q,R,S,C,L];refine bE (aeC l p (i:Int) a1 (by omega) Z) ?_;simp only[ae,ds,D,F];refine bE (atH (ir (i:Int) 0 l) H.n (h.n+1) P part (λu hu=>by
    obtain⟨m,x,az,bd,_⟩:=Hd.1 hu;have:=(axB.1 bd).1;omega) (by have:=He (v:=(i:Int)) (l:=l) (j:=0);omega) Z aa N8) ?_
   cases cc:(ir (i:Int) 0 l).any λu=>P.getD u.toNat 0==part
   .rw[cc]at z;simp only[ae,ds,s,N];exact ar ⟨(u,i+1),⟨B,D,F,E,q,a,rfl,by simp only;omega,no z⟩,by simp only;omega⟩
   .rw[cc]at z;simp only[ae,ds,E,s,NS,cY,N];exact ar ⟨(v2,i+1),⟨B,D,F,rfl,q,a,rfl,by simp only;omega,O z⟩,by simp only;omega⟩
 .have L:(gK l (i:Int)==5)=false:=by
   rw[beq_iff_eq]at C;rw[C];rfl
  rw[C,L]at z;cases T:(P.getD i 0==part)
  .rw[T]at z;simp only[ae,ds,AT,al,B,D,q,a,s,G,M,Q,N8,R,S,C,T,N];exact ar ⟨(u,i+1),⟨B,D,F,E,q,a,rfl,by simp only;omega,no z⟩,by simp only;omega⟩
  .rw[T]at z;simp only[ae,ds,AT,al,B,D,E,q,a,s,G,M,Q,N8,R,S,C,T,NS,cY,N];exact ar ⟨(v2,i+1),⟨B,D,F,rfl,q,a,rfl,by simp only;omega,O z⟩,by simp only;omega⟩
def IL(i j m a:Int)(e:cd):V:=if dB e=e6 then qb (c7 i j m a 16 e)else .tuple [.int gj 0,.int gj 1]
theorem afo(e:cd)(i j m a:Int)(h:I)(s:h4 h):Pure mP 175 [.agg (aN e),.agg [.int gj i,.int gj j,.int gj m],.int gj a] h (IL i j m a e):=by
 have:=Nm e i j m a h s;unfold IL;cases q:dB e with
 | false=>rw[q]at this;exact this
 | true=>
  rw[q]at this;cases u:c7 i j m a 16 e<;>(rw[u]at this;exact this)
theorem N9(h:I)(k v t:Int):am mP 25 1 [(0,.agg [.int gj k,.int gj v,.int gj t])] h=eL (.bh h.n 0 1 1,h.push (.cells [.int gj k,.int gj v,.int gj t] 45 eN)):=by rw[nm EN];rfl
def qm(r:Rec):Nat->List Rec
 | 0=>[]
 | i+1=>qm r i++[⟨r.k,mZ (r.v+i),r.t⟩]
theorem Oa(r:Rec):∀i,(qm r i).length=i
 | 0=>rfl
 | i+1=>by simp[qm,Oa r i]
theorem atI(n:Int)(T:n<=4)(r:Rec)(h:I):Pure mP 210 [.int gj n,.agg (aR r)] h (.ag n.toNat ((qm r n.toNat).flatMap aR)):=by
 refine Pure.of (bf.ag (xS M1 _)) ?_;refine a7 Tryz.func210 rfl ?_;simp only[ae,aR];obtain⟨H,hH,M,N,_⟩:=bU h (.cells [.int gj r.k,.int gj r.v,.int gj r.t] 45 eN);have O:h.n<H.n:=by rw[hH,dn];omega
 rw[<-hH];refine aT.bG (α:=Nat×V) (λx f h'=>f 0=.int gj n/\f 3=.ptr h.n 0/\f 5=x.2/\f 6=.int gj (x.1:Nat)/\x.1<=n.toNat/\Acc H h' 45 3 x.2 ((qm r x.1).flatMap aR)) (λx=>n.toNat-x.1) (0,.ah) ⟨rfl,rfl,rfl,rfl,D8 _,Acc.nil (J.refl _ _)⟩ ?_
 rintro⟨i,v⟩ f B ⟨q,C,s,u,hi,j⟩
 simp only at s u hi j;refine wpS ?_;by_cases D:(i:Int)<n;rotate_left
 .have z:decide ((i:Int)<n)=false:=by simpa using D
  have E:i=n.toNat:=by omega
  obtain⟨F,c,k⟩:=j.cast (n:=n.toNat) (by rw[ft Av,Oa,E]) (by decide);simp only[ae,ds,reduceCtorEq,q,s,u,z,aJ];exact ar ⟨F,by rw[E]at c;exact c,M.trans' k⟩
 .have z:decide ((i:Int)<n)=true:=by simpa using D
  have Q:=(j.ai.get h.n O (by simp[kR])).trans N;have R:=iM i;obtain⟨S,F,A,G⟩:=Acc.uV (P:=mP) EN (j.on (J.push B (.cells [.int gj r.k,.int gj (mZ (r.v+i)),.int gj r.t] 45 eN) _)) (xs:=[.int gj r.k,.int gj (mZ (r.v+i)),.int gj r.t]) (by decide) rfl rfl (λm L=>by
   rw[ft Av,Oa]at L;have W:m*3=i*3+3:=L;show m*24<=140737488355328/\m<=140737488355328;omega)
  have a:=N9 (B.push (.cells [.int gj r.k,.int gj (mZ (r.v+i)),.int gj r.t] 45 eN)) r.k (mZ (r.v+i)) r.t;unfold mZ at A G a;simp only[dn]at A a;simp only[ae,ds,AT,By,reduceCtorEq,al,q,C,s,u,z,Q,a,A,R];exact ar ⟨(i+1,S),⟨q,C,rfl,rfl,by simp only;omega,by simp only[qm,ay3,ayW,List.flatMap_nil,axA];exact G⟩,by simp only;omega⟩
def j8(a n:Int)(r:Rec):List Rec :=
 if a=2 then [⟨r.k,n,r.t⟩]else if a=5 then [⟨n,r.v,r.t⟩]else if a=3 then(if n=0 then []else [r])
 else if a=4 then qm r (min n 4).toNat else [r]
theorem Ob(l:List Rec):bf (V.ag l.length (l.flatMap aR)):=bf.ag (xS M1 _)
theorem RQ(h:I)(x:Rec):∃a,aK (.bh h.n 0 1 1) (h.push (.cells (aR x) 45 eN)) (.ag [x].length ([x].flatMap aR)) a/\J h a kR:=by
 have:=aK.lit (h:=h) (c:=[x].flatMap aR) (e:=45) (n:=1) (sz:=3) rfl (by decide) (by decide);simpa using this
theorem atJ(a n:Int)(r:Rec)(h:I):Pure mP 195 [.int gj a,.int gj n,.agg (aR r)] h (.ag (j8 a n r).length ((j8 a n r).flatMap aR)):=by
 refine Pure.of (Ob _) ?_;refine a7 Tryz.func195 rfl ?_;by_cases s:a=2
 .have c:(a==2)=true:=by simp[s]
  have j:j8 a n r=[⟨r.k,n,r.t⟩]:=by simp[j8,s]
  have i:=N9 (h.push (.cells [.int gj r.k,.int gj n,.int gj r.t] 45 eN)) r.k n r.t;simp only[dn]at i;simp only[ae,ds,AT,By,reduceCtorEq,al,aR,c,i,aJ];obtain⟨U,cc,kk⟩:=RQ (h.push (.cells [.int gj r.k,.int gj n,.int gj r.t] 45 eN)) ⟨r.k,n,r.t⟩;exact ar ⟨U,by rw[j];exact cc,(J.push _ _ _).trans' kk⟩
 have m:(a==2)=false:=by simp[s]
 by_cases u:a=5
 .have c:(a==5)=true:=by simp[u]
  have j:j8 a n r=[⟨n,r.v,r.t⟩]:=by simp[j8,u]
  have i:=N9 (h.push (.cells [.int gj n,.int gj r.v,.int gj r.t] 45 eN)) n r.v r.t;simp only[dn]at i;simp only[ae,ds,AT,By,reduceCtorEq,al,aR,m,c,i,aJ];obtain⟨U,cc,kk⟩:=RQ (h.push (.cells [.int gj n,.int gj r.v,.int gj r.t] 45 eN)) ⟨n,r.v,r.t⟩;exact ar ⟨U,by rw[j];exact cc,(J.push _ _ _).trans' kk⟩
 have z:(a==5)=false:=by simp[u]
 have i:=N9 (h.push (.cells [.int gj r.k,.int gj r.v,.int gj r.t] 45 eN)) r.k r.v r.t;simp only[dn]at i;obtain⟨U,cc,kk⟩:=RQ (h.push (.cells [.int gj r.k,.int gj r.v,.int gj r.t] 45 eN)) r;by_cases q:a=3
 .have c:(a==3)=true:=by simp[q]
  by_cases A:n=0
  .have C:(n==0)=true:=(by simp[A]);have j:j8 a n r=[]:=(by simp[j8,q,A]);simp only[ae,ds,reduceCtorEq,aR,m,z,c,C,aJ];exact ar ⟨_,by rw[j];exact aK.h3 _,J.push _ _ _⟩
  .have C:(n==0)=false:=(by simp[A]);have j:j8 a n r=[r]:=(by simp[j8,q,A]);simp only[ae,ds,AT,reduceCtorEq,al,aR,m,z,c,C,i,aJ];exact ar ⟨U,by rw[j];exact cc,(J.push _ _ _).trans' kk⟩
 have D:(a==3)=false:=by simp[q]
 by_cases B:a=4
 .have c:(a==4)=true:=by simp[B]
  have j:j8 a n r=qm r (min n 4).toNat:=by simp[j8,B]
  simp only[ae,ds,AT,reduceCtorEq,al,aR,m,z,D,c];refine bE (atI (min n 4) (by omega) r _) ?_;simp only[ae,ds,aJ];exact ar ⟨_,by rw[j,Oa];exact aK.refl _ _,J.push _ _ _⟩
 have E:(a==4)=false:=by simp[B]
 have j:j8 a n r=[r]:=by simp[j8,s,u,q,B]
 simp only[ae,ds,AT,reduceCtorEq,al,aR,m,z,D,E,i,aJ];exact ar ⟨U,by rw[j];exact cc,(J.push _ _ _).trans' kk⟩
def flatK(k:Int):Bool:=decide (k=2\/k=3\/k=4\/k=5)
def o6(v:bC)(r:Rec):List Rec×Int :=
 if v.kind=1\/v.kind=10 then([r],0)
 else if v.kind=2\/v.kind=3\/v.kind=4\/v.kind=5 then
  (if dB v.e=e6 then(match c7 r.k r.v r.t 0 16 v.e with|some n=>(j8 v.kind n r,0)|none=>([],10))else([],1))
 else([],1)
def IM(p:List Rec×Int):V:=.tuple [.ag p.1.length (p.1.flatMap aR),.int gj p.2]
theorem atK(p:List Rec×Int):bf (IM p):=bf.tuple (bc.cons (Ob _) (bc.cons (bf.int _ _) bc.nil))
theorem DO(h:I)(n:Int):aK (.tuple [.ah,.int gj n]) h (IM ([],n)) h:=aK.tuple (aE.cons (aK.h3 h) (aE.refl _ _))
theorem atL(v:bC)(r:Rec)(h:I)(Z:h4 h):Pure mP 172 [.agg (ao v),.agg (aR r)] h (IM (o6 v r)):=by
 refine Pure.of (atK _) ?_;refine a7 Tryz.func172 rfl ?_;obtain⟨a,L,e,n⟩:=v;have aw:(kB (ao ⟨a,L,e,n⟩)).cells=eL (ao ⟨a,L,e,n⟩):=rfl;simp only[ae,ds,al,aR,aw];obtain⟨H,hH⟩:∃x,x=(h.push (.cells (ao ⟨a,L,e,n⟩) 68 eN)).push (.cells [.int gj r.k,.int gj r.v,.int gj r.t] 45 eN):=⟨_,rfl⟩;have S:cI (H.get h.n) 0=eL (ao ⟨a,L,e,n⟩):=by rw[hH,yZ];rfl
 have E:cI (H.get h.n) 2=eL (aN e++[.int gj n]):=by rw[hH,yZ];rfl
 have z:H.get (h.n+1)=.cells [.int gj r.k,.int gj r.v,.int gj r.t] 45 none:=by rw[hH];exact zO
 have B:J h H kR:=by rw[hH];exact(J.push _ _ _).bp _
 have j2:h4 H:=Z.ai B;have s:cw (eL eN) (eL (ao ⟨a,L,e,n⟩))=eL (.int gj a):=rfl;have F:cw (eL (eL 3)) (eL (aN e++[.int gj n]))=eL (.agg (aN e)):=j1 (r5 e);rw[<-hH];clear hH aw;obtain⟨U,cc,kk⟩:=RQ H r;have N:=N9 H r.k r.v r.t;by_cases O:a=1
 .have c:(a==1)=true:=by simp[O]
  have i:o6 ⟨a,L,e,n⟩ r=([r],0):=by simp[o6,O]
  simp only[ae,ds,AT,al,z,s,c,N,aJ];exact ar ⟨U,by rw[i];exact aK.tuple (aE.cons cc (aE.refl _ _)),B.trans' kk⟩
 have C:(a==1)=false:=by simp[O]
 by_cases Q:a=10
 .have c:(a==10)=true:=by simp[Q]
  have i:o6 ⟨a,L,e,n⟩ r=([r],0):=by simp[o6,Q]
  simp only[ae,ds,AT,al,z,s,C,c,N,aJ];exact ar ⟨U,by rw[i];exact aK.tuple (aE.cons cc (aE.refl _ _)),B.trans' kk⟩
 have D:(a==10)=false:=by simp[Q]
 by_cases M:a=2\/a=3\/a=4\/a=5;rotate_left
 .have bt:(a==2)=false:=by simp;intro q;exact M (.inl q)
  have c3:(a==3)=false:=by simp;intro q;exact M (.inr (.inl q))
  have eb:(a==4)=false:=by simp;intro q;exact M (.inr (.inr (.inl q)))
  have c5:(a==5)=false:=by simp;intro q;exact M (.inr (.inr (.inr q)))
  have i:o6 ⟨a,L,e,n⟩ r=([],1):=by simp[o6,O,Q];intro q;exact absurd q M
  simp only[ae,ds,s,C,D,bt,c3,eb,c5,aJ];exact ar ⟨_,by rw[i];exact DO _ _,B⟩
 have i:o6 ⟨a,L,e,n⟩ r=(if dB e=e6 then(match c7 r.k r.v r.t 0 16 e with|some n=>(j8 a n r,(0:Int))|none=>([],10))else([],1)):=by
  have:¬(a=1\/a=10):=λq=>by rcases q with q|q;exact O q;exact Q q
  simp only[o6];rw[gQ this,gr M]
 have u:=afo e r.k r.v r.t 0 H j2;have W:((a==2)=e6)\/((a==2)=fr/\(a==3)=e6)\/((a==2)=fr/\(a==3)=fr/\(a==4)=e6)\/((a==2)=fr/\(a==3)=fr/\(a==4)=fr/\(a==5)=e6):=by
  rcases M with q|q|q|q<;>subst q<;>decide
 unfold IL at u;cases X:dB e with
 | false=>
  rw[X]at u i;simp only[Bool.false_eq_true,iC]at u i;rcases W with j|⟨j,A⟩|⟨j,A,G⟩|⟨j,A,G,R⟩
  .simp only[ae,ds,AT,al,z,E,s,F,C,D,j];refine bE u ?_;simp only[ae,azU,ds,aJ];exact ar ⟨_,by rw[i];exact DO _ _,B⟩
  .simp only[ae,ds,AT,al,z,E,s,F,C,D,j,A];refine bE u ?_;simp only[ae,azU,ds,aJ];exact ar ⟨_,by rw[i];exact DO _ _,B⟩
  .simp only[ae,ds,AT,al,z,E,s,F,C,D,j,A,G];refine bE u ?_;simp only[ae,azU,ds,aJ];exact ar ⟨_,by rw[i];exact DO _ _,B⟩
  .simp only[ae,ds,AT,al,z,E,s,F,C,D,j,A,G,R];refine bE u ?_;simp only[ae,azU,ds,aJ];exact ar ⟨_,by rw[i];exact DO _ _,B⟩
 | true=>
  rw[X]at u i;simp only[jS]at u i;cases Y:c7 r.k r.v r.t 0 16 e with
  | none=>
   rw[Y]at u i;rcases W with j|⟨j,A⟩|⟨j,A,G⟩|⟨j,A,G,R⟩
   .simp only[ae,ds,AT,al,z,E,s,F,C,D,j];refine bE u ?_;simp only[ae,azU,ds,qb,aJ];exact ar ⟨_,by rw[i];exact DO _ _,B⟩
   .simp only[ae,ds,AT,al,z,E,s,F,C,D,j,A];refine bE u ?_;simp only[ae,azU,ds,qb,aJ];exact ar ⟨_,by rw[i];exact DO _ _,B⟩
   .simp only[ae,ds,AT,al,z,E,s,F,C,D,j,A,G];refine bE u ?_;simp only[ae,azU,ds,qb,aJ];exact ar ⟨_,by rw[i];exact DO _ _,B⟩
   .simp only[ae,ds,AT,al,z,E,s,F,C,D,j,A,G,R];refine bE u ?_;simp only[ae,azU,ds,qb,aJ];exact ar ⟨_,by rw[i];exact DO _ _,B⟩
  | some m=>
   rw[Y]at u i;have T:=atJ a m r H;rcases W with j|⟨j,A⟩|⟨j,A,G⟩|⟨j,A,G,R⟩
   .simp only[ae,ds,AT,al,z,E,s,F,C,D,j];refine bE u ?_;simp only[ae,ds,AT,al,qb,S,z,s];refine bE T ?_;simp only[ae,ds,aJ];exact ar ⟨_,by rw[i];exact aK.refl _ _,B⟩
   .simp only[ae,ds,AT,al,z,E,s,F,C,D,j,A];refine bE u ?_;simp only[ae,ds,AT,al,qb,S,z,s];refine bE T ?_;simp only[ae,ds,aJ];exact ar ⟨_,by rw[i];exact aK.refl _ _,B⟩
   .simp only[ae,ds,AT,al,z,E,s,F,C,D,j,A,G];refine bE u ?_;simp only[ae,ds,AT,al,qb,S,z,s];refine bE T ?_;simp only[ae,ds,aJ];exact ar ⟨_,by rw[i];exact aK.refl _ _,B⟩
   .simp only[ae,ds,AT,al,z,E,s,F,C,D,j,A,G,R];refine bE u ?_;simp only[ae,ds,AT,al,qb,S,z,s];refine bE T ?_;simp only[ae,ds,aJ];exact ar ⟨_,by rw[i];exact aK.refl _ _,B⟩
structure bk where
 l:List bC
 p:Int
 part:Int
def bk.P(c:bk):List Int:=fo c.p c.l
def bk.ins(c:bk):List Int:=oG c.p c.l c.part
def bk.c0(c:bk)(u:Nat):Option ej:=if c.P[u]?=eL c.part then(match c.l[u]? with|some x=>qZ x.kind x.n|none=>eN)else eN
def bk.us(c:bk)(v:Int):List Nat:=((ir v 0 c.l).map ay4).filter λu=>c.P.getD u 0==c.part
structure cT where
 ms:Seen
 st:Nat->List ak
structure eG where
 outs:List (Int×Rec)
 verts:List Int
 chgs:List ak
 deads:List (Int×Rec×Int)
 n:Nat
def eG.none:eG:=⟨[],[],[],[],0⟩
abbrev bX:=cT×eG
def pT(u:Int)(r:Rec)(e:Int)(x:bX):bX:=(x.1,{ x.2 with deads:=x.2.deads++[(u,r,e)] })
def nS(u:Int)(r:Rec)(x:bX):bX:=(x.1,{ x.2 with outs:=x.2.outs++[(u,r)] })
def kL(u:Int)(i:List ak)(x:bX):bX:=(x.1,{ x.2 with verts:=x.2.verts++azj i.length u,chgs:=x.2.chgs++i })
def kM(u:Nat)(l:List ak)(x:bX):bX:=({ x.1 with st:=λv=>if v=u then l else x.1.st v },x.2)
def dC(x:bX):bX:=(x.1,{ x.2 with n:=x.2.n+1 })
def qn(v:bC)(u:Int)(a:Rec->bX->bX)(r:Rec)(x:bX):bX :=
 if(o6 v r).2≠0 then pT u r (o6 v r).2 x else(o6 v r).1.foldl (λx y=>a y x) x
def tB(K:ej)(v:bC)(u:Nat)(a:Rec->bX->bX)(r:Rec)(x:bX):bX :=
 if RD K r (leastOf x.1.ms)then pT u r 13 x else
 match lT K v.e (x.1.st u) r with
 | .error e=>pT u r e x
 | .ok N=>a ⟨r.k,N,BV K (x.1.st u) r.k r.t⟩ (kL u (sL K (x.1.st u) r.k r.t N) (kM u (sd K (x.1.st u) r.k r.t N) x))
def bk.table(c:bk)(v:bC)(key:Int)(m:cT):Int :=
 match c.c0 (v.bn.getD 1 0).toNat with
 | some K=>DF K (m.st (v.bn.getD 1 0).toNat) key
 | none=>0
def wh(c:bk)(v:bC)(u:Int)(a:Rec->bX->bX)(r:Rec)(x:bX):bX :=
 if dB v.e=e6 then
  (match c7 r.k r.v r.t (c.table v r.k x.1) 16 v.e with
  | some n=>a ⟨r.k,n,r.t⟩ x
  | none=>pT u r 10 x)
 else pT u r 1 x
def qo(c:bk)(a:Int->Rec->bX->bX)(f:Int)(u:Nat)(r:Rec)(x:bX):bX :=
 if x.2.n=1000 then pT u r 3 x else
 match c.l[u]? with
 | none=>dC x
 | some v=>
  if v.kind=10\/v.kind=5 then qn v u (nS u) r (dC x)
  else if v.kind=2\/v.kind=3\/v.kind=4 then qn v u (a u) r (dC x)
  else if v.kind=6\/v.kind=7\/v.kind=8 then
   (match c.c0 u with
   | some K=>tB K v u (a u) r (dC x)
   | none=>dC x)
  else if v.kind=9 then(if f=v.bn.getD 0 0 then wh c v u (a u) r (dC x)else dC x)
  else dC x
def oH(c:bk):Nat->Int->Rec->bX->bX
 | 0,_,_,x=>x
 | k+1,v,r,x=>(c.us v).foldl (λx u=>qo c (oH c k) v u r x) x
def cS(c:bk)(u:Nat)(x:bX):bX :=
 match c.c0 u with
 | some K=>kL u (h8 K (leastOf x.1.ms) (x.1.st u)) (kM u (iB K (leastOf x.1.ms) (x.1.st u)) x)
 | none=>x
def l4(c:bk)(t:Int):ak:=⟨c.part,0,0,t,fr⟩
def stepT(c:bk)(m:cT)(v:Int)(r:Rec):bX×Int :=
 if c.ins.contains v=fr then((m,eG.none),6)else
 if(dR m.ms v r.t).2≠0 then(pT v r (dR m.ms v r.t).2 (m,eG.none),0)else
 let a:bX:=({ m with ms:=dJ c.ins.length m.ms v r.t },eG.none)
 let i:=if(dR m.ms v r.t).1 then kL v [l4 c r.t] a else a
 ((ajC c.l.length).foldl (λx u=>cS c u x) (oH c 24 v r i),0)
def cT.new(c:bk):cT:=⟨nu 0 c.ins,λ_=>[]⟩
abbrev cM:=Nat->Nat×Nat
def cW(a:cM)(id:Nat):Nat->Prop:=λq=>(a q).1=id/\5<=(a q).2
def Fr(h:I)(a:cM):Prop:=∀q,h.n<=q->a q=(0,0)
structure gZ(id:Nat)(h:I)(ow:cM)(h':I)(ow':cM):Prop where
 bH:∀q,q<h.n->ow' q=ow q
 ai:J h h' (cW ow id)
 aO:Fr h' ow'
 xe:True
theorem gZ.refl{id:Nat}{h:I}{i:cM}(f:Fr h i):gZ id h i h i:=⟨λ_ _=>rfl,J.refl _ _,f,trivial⟩
theorem gZ.trans{id:Nat}{h j s:I}{u z A:cM}(a:gZ id h u j z)(b:gZ id j z s A):gZ id h u s A :=
 ⟨λq i=>(b.bH q (IS i a.ai.n)).trans (a.bH q i),a.ai.trans b.ai λq i B=>by unfold cW at *;rw[<-a.bH q i];exact B,b.aO,trivial⟩
theorem gZ.push{id:Nat}{h:I}{i:cM}(f:Fr h i){h':I}(k:J h h' kR):gZ id h i h' i:=⟨λ_ _=>rfl,k.up,λq j=>f q (UN k.n j),trivial⟩
def dS(i:cM)(a b:Nat)(t:Nat×Nat):cM:=λq=>if a<=q/\q<b then t else i q
theorem zj{i:cM}{a b:Nat}{t:Nat×Nat}{q:Nat}(h:q<a):dS i a b t q=i q:=by unfold dS;rw[gQ (by omega)]
theorem Oc{i:cM}{a b:Nat}{t:Nat×Nat}{q:Nat}(j:a<=q)(m:q<b):dS i a b t q=t:=by unfold dS;rw[gr ⟨j,m⟩]
theorem gZ.dS{id:Nat}{h h':I}{j:cM}{M:Nat->Prop}(f:Fr h j)(k:J h h' M)(s:∀q,q<h.n->M q->cW j id q)(t:Nat×Nat):gZ id h j h' (Pk.dS j h.n h'.n t) :=
 ⟨λq i=>zj i,⟨k.n,λq i u=>k.get q i λU=>u (s q i U),k.glob⟩,λq i=>by
  have:=k.n;unfold Pk.dS;rw[gQ (by omega)];exact f q (by omega),trivial⟩
def nT(a:cM)(t:Nat×Nat)(O:List Nat):Prop:=∀q∈O,a q=t
theorem nT.new{h h':I}{j:cM}{t:Nat×Nat}{O i:List Nat}(o:nT j t O)(u:∀q∈O,q<h.n)(z:eF h O i)(A:∀q∈i,q<h'.n):nT (dS j h.n h'.n t) t i:=λq s=>by
 rcases z q s with U|U
 .rw[zj (u q U)];exact o q U
 .exact Oc U (A q s)
theorem nT.bH{h:I}{j i:cM}{t:Nat×Nat}{O:List Nat}(o:nT j t O)(u:∀q∈O,q<h.n)(z:∀q,q<h.n->i q=j q):nT i t O:=λq s=>(z q (u q s)).trans (o q s)
def x9(a:Nat):V:=.ptr a 0
structure At where
 mq:Nat
 rD:Nat
 mp:Nat
 es:List (Nat×Int×Nat)
 cl:Nat
def bk.cells(c:bk)(b:At):List V:=cx c.l c.p++[.ag c.P.length (ax c.P),.int gj c.part,.ptr b.mq 0,.map b.mp]
structure fJ(h:I)(ow:cM)(id m:Nat)(b:At)(c:bk)(s:cT):Prop where
 lt:m<h.n
 get:h.get m=.cells (c.cells b) 150 eN
 own:ow m=(id,1)
 marks:wc h (.ptr b.mq 0) s.ms b.mq b.rD c.ins.length
 hn:ow b.mq=(id,2)/\ow b.rD=(id,3)
 mr:b.mp<h.n
 map:h.get b.mp=.map (mapOf gj x9 b.es) b.cl
 nU:ow b.mp=(id,4)
 some:∀u K,c.c0 u=eL K->∃a O x,cV b.es (u:Int)=Option.some a/\c.l[u]?=Option.some x/\iq h a O K x.e x.n (s.st u)/\nT ow (id,10+u) O/\dB x.e=e6
 none:∀u,c.c0 u=Option.none->cV b.es (u:Int)=Option.none
section
variable {h h':I} {ow ow':cM} {id i2 m:Nat} {b:At} {c:bk} {s:cT}
theorem fJ.ai{M:Nat->Prop}(k:fJ h ow id m b c s)(i:J h h' M)(E:∀q,q<h.n->M q->(ow q).1≠id)(j:∀q,q<h.n->ow' q=ow q):fJ h' ow' id m b c s:=by
 obtain⟨az,B,C,G,g1,g2,st⟩:=k.marks;have A:∀q,q<h.n->(ow q).1=id->h'.get q=h.get q:=λq z H=>i.get q z λU=>E q z U H;refine⟨IS k.lt i.n,(A _ k.lt (by rw[k.own])).trans k.get,(j _ k.lt).trans k.own,⟨az,IS B i.n,IS C i.n,G,(A _ B (by rw[k.hn.1])).trans g1,(A _ C (by rw[k.hn.2])).trans g2,st⟩,
  ⟨(j _ B).trans k.hn.1,(j _ C).trans k.hn.2⟩,IS k.mr i.n,(A _ k.mr (by rw[k.nU])).trans k.map,(j _ k.mr).trans k.nU,λu K L=>?_,k.none⟩
 obtain⟨a,O,x,N,Q,D,F,R⟩:=k.some u K L;exact⟨a,O,x,N,Q,D.ai i λq z U=>E q (D.lt q z) U (by rw[F q z]),F.bH D.lt j,R⟩
theorem fJ.aY(k:fJ h ow id m b c s)(i:J h h' kR):fJ h' ow id m b c s:=k.ai i (λ_ _ U=>by simp[kR]at U) λ_ _=>rfl
theorem fJ.part{M:Nat->Prop}(k:fJ h ow id m b c s)(i:J h h' M)(F:∀q,q<h.n->M q->∃t,ow q=(id,t)/\5<=t/\t<=9)(j:∀q,q<h.n->ow' q=ow q):fJ h' ow' id m b c s:=by
 obtain⟨az,C,D,L,g1,g2,st⟩:=k.marks;have A:∀q t,q<h.n->ow q=(id,t)->(t<5\/9<t)->h'.get q=h.get q:=λq t z N T=>i.get q z λU=>by
  obtain⟨Q,B,G⟩:=F q z U;rw[N]at B;simp at B;omega
 refine⟨IS k.lt i.n,(A _ _ k.lt k.own (by omega)).trans k.get,(j _ k.lt).trans k.own,⟨az,IS C i.n,IS D i.n,L,(A _ _ C k.hn.1 (by omega)).trans g1,(A _ _ D k.hn.2 (by omega)).trans g2,st⟩,
  ⟨(j _ C).trans k.hn.1,(j _ D).trans k.hn.2⟩,IS k.mr i.n,(A _ _ k.mr k.nU (by omega)).trans k.map,(j _ k.mr).trans k.nU,λu K R=>?_,k.none⟩
 obtain⟨a,O,x,B,G,E,H,S⟩:=k.some u K R;exact⟨a,O,x,B,G,E.ai i λq z U=>by
  obtain⟨Q,az,bd⟩:=F q (E.lt q z) U;rw[H q z]at az;simp at az;omega,H.bH E.lt j,S⟩
end
def gF(v:V):List Nat:=(aS v).toList
theorem cD{v:V}{q:Nat}:q∈gF v↔aS v=eL q:=by
 unfold gF;cases h:aS v<;>simp[eq_comm]
theorem RR{h:I}{v a:V}(d:b6 h v a):eF h (gF v) (gF a):=λq i=>by
 rcases d with d|d
 .exact .inl (cD.2 (by rw[<-d];exact cD.1 i))
 .exact .inr (d q (cD.1 i))
def jf(o:Int×Rec):List V:=.int gj o.1::aR o.2
def rE(o:Int×Rec×Int):List V:=.int gj o.1::(aR o.2.1++[.int gj o.2.2])
theorem RS(o:Int×Rec):(jf o).length=4:=rfl
theorem RT(o:Int×Rec×Int):(rE o).length=5:=rfl
theorem atM(o:Int×Rec):(jf o).all (·.one)=true:=rfl
theorem atN(o:Int×Rec×Int):(rE o).all (·.one)=true:=rfl
structure kz(h:I)(ow:cM)(id s m:Nat)(x:eG)(cE cK dd dg:V):Prop where
 lt:s<h.n
 get:h.get s=.cells [.ptr m 0,cE,cK,dd,dg,.int gj (x.n:Nat)] 163 eN
 own:ow s=(id,5)
 o:Own h 173 4 cE (x.outs.flatMap jf)
 v:Own h 3 1 cK (ax x.verts)
 c:Own h 110 5 dd (x.chgs.flatMap aq)
 d:Own h 177 5 dg (x.deads.flatMap rE)
 hQ:nT ow (id,6) (gF cE)
 cK:nT ow (id,7) (gF cK)
 cc:nT ow (id,8) (gF dd)
 oA:nT ow (id,9) (gF dg)
section
variable {h h':I} {ow ow':cM} {id s m:Nat} {x:eG} {cE cK dd dg:V}
theorem kz.ai{M:Nat->Prop}(k:kz h ow id s m x cE cK dd dg)(j:J h h' M)(u:∀q,q<h.n->M q->∀t,5<=t->t<=9->ow q≠(id,t))(z:∀q,q<h.n->ow' q=ow q):kz h' ow' id s m x cE cK dd dg:=by
 have A:∀{e sz B v},Own h e sz v B->∀q∈gF v,q<h.n:=λo q i=>o.lt q (cD.1 i);exact⟨IS k.lt j.n,(j.get _ k.lt λU=>u _ k.lt U 5 (by omega) (by omega) k.own).trans k.get,(z _ k.lt).trans k.own,
  k.o.ai j λq i U=>u q (k.o.lt q i) U 6 (by omega) (by omega) (k.hQ q (cD.2 i)),
  k.v.ai j λq i U=>u q (k.v.lt q i) U 7 (by omega) (by omega) (k.cK q (cD.2 i)),
  k.c.ai j λq i U=>u q (k.c.lt q i) U 8 (by omega) (by omega) (k.cc q (cD.2 i)),
  k.d.ai j λq i U=>u q (k.d.lt q i) U 9 (by omega) (by omega) (k.oA q (cD.2 i)),
  k.hQ.bH (A k.o) z,k.cK.bH (A k.v) z,k.cc.bH (A k.c) z,k.oA.bH (A k.d) z⟩
theorem kz.aY(k:kz h ow id s m x cE cK dd dg)(i:J h h' kR):kz h' ow id s m x cE cK dd dg:=k.ai i (λ_ _ U=>by simp[kR]at U) λ_ _=>rfl
end
theorem kz.Yb{h h':I}{C i:cM}{id s m:Nat}{x:eG}{cE cK D E u:V}{l:List (Int×Rec×Int)}(k:kz h C id s m x cE cK D E)(z:J h h' (λq=>q=s\/bb E q))(A:∀q,q<h.n->i q=C q)
  (g:h'.get s=.cells [.ptr m 0,cE,cK,D,u,.int gj (x.n:Nat)] 163 eN) (oA:nT i (id,9) (gF u)) (d:Own h' 177 5 u (l.flatMap rE)):kz h' i id s m { x with deads:=l } cE cK D u:=by
 have F:∀{e sz H v},Own h e sz v H->∀q∈gF v,q<h.n:=λo q j=>o.lt q (cD.1 j);have G:∀{q t},C q=(id,t)->t≠5->t≠9->¬(q=s\/bb E q):=λ{q t} B L M U=>by
  rcases U with rfl|U
  .rw[k.own]at B;simp at B;omega
  .rw[k.oA q (cD.2 U)]at B;simp at B;omega
 exact⟨IS k.lt z.n,g,(A _ k.lt).trans k.own,
  k.o.ai z λq j=>G (k.hQ q (cD.2 j)) (by decide) (by decide),k.v.ai z λq j=>G (k.cK q (cD.2 j)) (by decide) (by decide),k.c.ai z λq j=>G (k.cc q (cD.2 j)) (by decide) (by decide),d,
  k.hQ.bH (F k.o) A,k.cK.bH (F k.v) A,k.cc.bH (F k.c) A,oA⟩
structure hR(h:I)(ow:cM)(id s m:Nat)(b:At)(c:bk)(x:bX):Prop where
 ef:fJ h ow id m b c x.1
 qp:∃cE cK dd dg,kz h ow id s m x.2 cE cK dd dg
 aO:Fr h ow
 xe:h4 h
 oq:id≠0
section
variable {h h':I} {ow ow':cM} {id s m:Nat} {b:At} {c:bk} {x:bX}
theorem hR.aY(k:hR h ow id s m b c x)(i:J h h' kR):hR h' ow id s m b c x:=by
 obtain⟨cE,cK,j,u,z⟩:=k.qp;exact⟨k.ef.aY i,⟨cE,cK,j,u,z.aY i⟩,λq A=>k.aO q (UN i.n A),k.xe.ai i,k.oq⟩
end
def l5(id s m:Nat)(b:At)(c:bk)(h:I)(i:cM)(y:bX):V->I->Prop:=λr h'=>r=.tuple []/\∃a,gZ id h i h' a/\hR h' a id s m b c y
theorem Yc(h:I)(o:Int×Rec×Int):am mP 99 1 [(0,.agg (rE o))] h=eL (.bh h.n 0 1 1,h.push (.cells (rE o) 177 eN)):=by rw[nm acd];rfl
theorem Yd(h:I)(o:Int×Rec):am mP 98 1 [(0,.agg (jf o))] h=eL (.bh h.n 0 1 1,h.push (.cells (jf o) 173 eN)):=by rw[nm acb];rfl
theorem RU{P:Program}{t:aPg}{T:mi}(z:gM P t=eL T)(q:0<T.sz){α:Type}{enc:α->List V}(i:∀a,(enc a).length=T.sz)(A:∀a,(enc a).all (·.one)=e6)(B:eJ P t=eL 1)(L:T.sz*8=T.av)(M:T.sz<=8)
  {h:I} {s:V} {cs:List α} (o:Own h T.e T.sz s (cs.flatMap enc)) (N:cs.length<=2^40) (c:α) :
  ∃j h',kd P t t s (.bh h.n 0 1 1) (h.push (.cells (enc c) T.e eN))=eL (j,h')/\Own h' T.e T.sz j ((cs++[c]).flatMap enc)/\J (h.push (.cells (enc c) T.e eN)) h' (bb s)/\b6 (h.push (.cells (enc c) T.e eN)) s j:=by
 have k:J h (h.push (.cells (enc c) T.e eN)) kR:=J.push _ _ _;have C:Own (h.push (.cells (enc c) T.e eN)) T.e T.sz (.bh h.n 0 1 1) (enc c):=Own.fz _ 1 (by rw[i];omega) (by decide);have D:=uc (P:=P) (t:=t) B C (n:=1) (by rw[i];omega) q (A c);obtain⟨j,h',E,F,G,H⟩:=be (P:=P) (t:=t) (tx:=t) z q (o.aY k) D (by rw[i];omega) (λm u=>by
  rw[ft i,i]at u;have:m=cs.length+1:=Nat.eq_of_mul_eq_mul_right q (by rw[u,Nat.add_mul];omega);subst this;have:T.av<=64:=by omega
  have Q:(cs.length+1)*T.av<=(2^40+1)*64:=Nat.mul_le_mul (by omega) this;exact⟨by simp only[lim];omega,by simp only[lim];omega⟩)
 refine⟨j,h',E,?_,G,H⟩;rw[ay3];simpa using F
theorem Ho{h:I}{M:cM}{id s m:Nat}{b:At}{c:bk}{x:bX}(k:hR h M id s m b c x)(u:Int)(r:Rec)(e:Int)(aB:x.2.deads.length<=2^30) :
  au mP 85 [.ptr s 0,.int gj u,.agg (aR r),.int gj e] h (l5 id s m b c h M (pT u r e x)):=by
 refine a7 Tryz.func85 rfl ?_;obtain⟨A,B,C,E,z⟩:=k.qp;obtain⟨H,hH,Q,je,hx⟩:=bU h (.cells (aR r) 45 eN);have F:=z.aY Q;have R:=F.get;have ld:cw (eL (eL 3)) (eL (aR r))=eL (.agg (aR r)):=rfl;have d0:cI (.cells (aR r) 45 eN) 0=eL (aR r):=rfl;have cc:(kB (aR r)).cells=eL (aR r):=rfl;simp only[ae];rw[<-hH];clear hH;have Fo:(if(aR r).length=3 then if 5<=(tL [kA aPh.i64 u,kA aPh.i64 0,kA aPh.i64 0,kA aPh.i64 0,kA aPh.i64 0] 1 (aR r)).length then eL ((tL [kA aPh.i64 u,kA aPh.i64 0,kA aPh.i64 0,kA aPh.i64 0,kA aPh.i64 0] 1 (aR r)).set 4 (kA aPh.i64 e))else eN else eN)=eL (rE (u,r,e)):=rfl;obtain⟨j,D,q,N,S,T⟩:=RU (P:=mP) (t:=99) acd (by decide) RT atN ab7 (by decide) (by decide) F.d (cs:=x.2.deads) (UN aB (by decide)) (u,r,e);have G:J H (H.push (.cells (rE (u,r,e)) 177 eN)) kR:=J.push _ _ _;have xf:=(S.get s (IS F.lt G.n) (λU=>by have:=z.oA s (cD.2 U);rw[z.own]at this;simp at this)).trans ((G.get s F.lt (by simp[kR])).trans R);have W:bb E s=False:=eq_false λU=>by have:=z.oA s (cD.2 U);rw[z.own]at this;simp at this
 have f2:bb E h.n=False:=eq_false λU=>by have:=z.d.lt _ U;omega
 have X:J H D (λx=>bb E x):=G.up.trans' S;have j5:j.one=true:=by
  rcases N with⟨rfl|rfl,_⟩|⟨_,_,_,_,_,rfl,_⟩<;>rfl
 have h5:j.cells=eL [j]:=by
  rcases N with⟨rfl|rfl,_⟩|⟨_,_,_,_,_,rfl,_⟩<;>rfl
 have dI:bD (eL 1) (aP.cells [.ptr m 0,A,B,C,E,.int gj (x.2.n:Nat)] 163 eN) 4 [j]=eL (.cells [.ptr m 0,A,B,C,j,.int gj (x.2.n:Nat)] 163 eN):=by rw[rb j5];rfl
 refine aT.cL (λx=>bb E x) [10,11,15] (.q 0 (.q 1 (.q 2 (.q 3 (.q 4 (.q 5 (.q 6 (.q 7 (.q 8 (.q 9 (.e 10 (.e 11 (.q 12 (.q 13 (.q 14 (.a 15 .done)))) .stop) .stop))))))))))) ?_;simp only[ae,bw,e4,ds,AT,By,reduceCtorEq,al,R,je,ld,d0,cc,Fo,Yc,q,xf,W,f2,X,h5,dI,aJ];have L:J h (D.set s (.cells [.ptr m 0,A,B,C,j,.int gj (x.2.n:Nat)] 163 eN)) (λq=>q=s\/bb E q) :=
  (Q.up.trans' (X.mono λq i=>.inr i)).trans' ((J.set _ _ _).mono λq i=>.inl i)
 have n3:(D.set s (.cells [.ptr m 0,A,B,C,j,.int gj (x.2.n:Nat)] 163 eN)).n=D.n:=rfl;have Y:(D.set s (.cells [.ptr m 0,A,B,C,j,.int gj (x.2.n:Nat)] 163 eN)).get s=.cells [.ptr m 0,A,B,C,j,.int gj (x.2.n:Nat)] 163 none:=aM;have O:Own (D.set s (.cells [.ptr m 0,A,B,C,j,.int gj (x.2.n:Nat)] 163 eN)) 177 5 j ((x.2.deads++[(u,r,e)]).flatMap rE):=Own.ai N (J.set _ _ _) λq i U=>by
  subst U;rcases T with d|d
  .rw[d]at i;exact W.mp i
  .have Z:(H.push (.cells (rE (u,r,e)) 177 eN)).n<=q:=d q i;have:=F.lt;have:=G.n;omega
 have Fp:eF h (gF E) (gF j):=λq i=>by
  rcases RR T q i with U|U
  .exact .inl U
  .exact .inr (by have:=G.n;have:(H.push (.cells (rE (u,r,e)) 177 eN)).n<=q:=U;omega)
 generalize D.set s (.cells [.ptr m 0,A,B,C,j,.int gj (x.2.n:Nat)] 163 eN)=aD at L n3 Y O⊢;have lb:∀q,q<h.n->(q=s\/bb E q)->∃t,M q=(id,t)/\5<=t/\t<=9:=λq i U=>by
  rcases U with rfl|U
  .exact⟨5,z.own,by omega,by omega⟩
  .exact⟨9,z.oA q (cD.2 U),by omega,by omega⟩
 have bK:=gZ.dS (id:=id) k.aO L (λq i U=>by obtain⟨t,Z,D,_⟩:=lb q i U;unfold cW;rw[Z];exact⟨rfl,D⟩) (id,9);exact ar ⟨rfl,_,bK,k.ef.part L lb bK.bH,⟨A,B,C,j,z.Yb L bK.bH Y (z.oA.new (λq i=>z.d.lt q (cD.1 i)) Fp λq i=>O.lt q (cD.1 i)) O⟩,bK.aO,k.xe.ai L,k.oq⟩
theorem kz.Yf{h h':I}{C i:cM}{id s m:Nat}{x:eG}{cE cK D E u:V}{l:List (Int×Rec)}(k:kz h C id s m x cE cK D E)(z:J h h' (λq=>q=s\/bb cE q))(A:∀q,q<h.n->i q=C q)
  (g:h'.get s=.cells [.ptr m 0,u,cK,D,E,.int gj (x.n:Nat)] 163 eN) (hQ:nT i (id,6) (gF u)) (o:Own h' 173 4 u (l.flatMap jf)):kz h' i id s m { x with outs:=l } u cK D E:=by
 have F:∀{e sz H v},Own h e sz v H->∀q∈gF v,q<h.n:=λo q j=>o.lt q (cD.1 j);have G:∀{q t},C q=(id,t)->t≠5->t≠6->¬(q=s\/bb cE q):=λ{q t} B L M U=>by
  rcases U with rfl|U
  .rw[k.own]at B;simp at B;omega
  .rw[k.hQ q (cD.2 U)]at B;simp at B;omega
 exact⟨IS k.lt z.n,g,(A _ k.lt).trans k.own,
  o,k.v.ai z λq j=>G (k.cK q (cD.2 j)) (by decide) (by decide),k.c.ai z λq j=>G (k.cc q (cD.2 j)) (by decide) (by decide),k.d.ai z λq j=>G (k.oA q (cD.2 j)) (by decide) (by decide),
  hQ,k.cK.bH (F k.v) A,k.cc.bH (F k.c) A,k.oA.bH (F k.d) A⟩
theorem Od{h:I}{M:cM}{id s m:Nat}{b:At}{c:bk}{x:bX}(k:hR h M id s m b c x)(u:Int)(r:Rec)(aB:x.2.outs.length<=2^30) :
  au mP 154 [.ptr s 0,.int gj u,.agg (aR r)] h (l5 id s m b c h M (nS u r x)):=by
 refine a7 Tryz.func154 rfl ?_;obtain⟨E,A,B,C,z⟩:=k.qp;obtain⟨H,hH,Q,je,hx⟩:=bU h (.cells (aR r) 45 eN);have F:=z.aY Q;have R:=F.get;have ld:cw (eL (eL 3)) (eL (aR r))=eL (.agg (aR r)):=rfl;have d0:cI (.cells (aR r) 45 eN) 0=eL (aR r):=rfl;have cc:(kB (aR r)).cells=eL (aR r):=rfl;simp only[ae];rw[<-hH];clear hH;have Fo:(if(aR r).length=3 then eL (tL [kA aPh.i64 u,kA aPh.i64 0,kA aPh.i64 0,kA aPh.i64 0] 1 (aR r))else eN)=eL (jf (u,r)):=rfl;obtain⟨j,D,q,N,S,T⟩:=RU (P:=mP) (t:=98) acb (by decide) RS atM ab6 (by decide) (by decide) F.o (cs:=x.2.outs) (UN aB (by decide)) (u,r);have G:J H (H.push (.cells (jf (u,r)) 173 eN)) kR:=J.push _ _ _;have xf:=(S.get s (IS F.lt G.n) (λU=>by have:=z.hQ s (cD.2 U);rw[z.own]at this;simp at this)).trans ((G.get s F.lt (by simp[kR])).trans R);have W:bb E s=False:=eq_false λU=>by have:=z.hQ s (cD.2 U);rw[z.own]at this;simp at this
 have f2:bb E h.n=False:=eq_false λU=>by have:=z.o.lt _ U;omega
 have X:J H D (λx=>bb E x):=G.up.trans' S;have j5:j.one=true:=by
  rcases N with⟨rfl|rfl,_⟩|⟨_,_,_,_,_,rfl,_⟩<;>rfl
 have h5:j.cells=eL [j]:=by
  rcases N with⟨rfl|rfl,_⟩|⟨_,_,_,_,_,rfl,_⟩<;>rfl
 have dI:bD (eL 1) (aP.cells [.ptr m 0,E,A,B,C,.int gj (x.2.n:Nat)] 163 eN) 1 [j]=eL (.cells [.ptr m 0,j,A,B,C,.int gj (x.2.n:Nat)] 163 eN):=by rw[rb j5];rfl
 refine aT.cL (λx=>bb E x) [9,10,14] (.q 0 (.q 1 (.q 2 (.q 3 (.q 4 (.q 5 (.q 6 (.q 7 (.q 8 (.e 9 (.e 10 (.q 11 (.q 12 (.q 13 (.a 14 .done)))) .stop) .stop)))))))))) ?_;simp only[ae,bw,e4,ds,AT,By,reduceCtorEq,al,R,je,ld,d0,cc,Fo,Yd,q,xf,W,f2,X,h5,dI,aJ];have L:J h (D.set s (.cells [.ptr m 0,j,A,B,C,.int gj (x.2.n:Nat)] 163 eN)) (λq=>q=s\/bb E q) :=
  (Q.up.trans' (X.mono λq i=>.inr i)).trans' ((J.set _ _ _).mono λq i=>.inl i)
 have n3:(D.set s (.cells [.ptr m 0,j,A,B,C,.int gj (x.2.n:Nat)] 163 eN)).n=D.n:=rfl;have Y:(D.set s (.cells [.ptr m 0,j,A,B,C,.int gj (x.2.n:Nat)] 163 eN)).get s=.cells [.ptr m 0,j,A,B,C,.int gj (x.2.n:Nat)] 163 none:=aM;have O:Own (D.set s (.cells [.ptr m 0,j,A,B,C,.int gj (x.2.n:Nat)] 163 eN)) 173 4 j ((x.2.outs++[(u,r)]).flatMap jf):=Own.ai N (J.set _ _ _) λq i U=>by
  subst U;rcases T with d|d
  .rw[d]at i;exact W.mp i
  .have Z:(H.push (.cells (jf (u,r)) 173 eN)).n<=q:=d q i;have:=F.lt;have:=G.n;omega
 have Fp:eF h (gF E) (gF j):=λq i=>by
  rcases RR T q i with U|U
  .exact .inl U
  .exact .inr (by have:=G.n;have:(H.push (.cells (jf (u,r)) 173 eN)).n<=q:=U;omega)
 generalize D.set s (.cells [.ptr m 0,j,A,B,C,.int gj (x.2.n:Nat)] 163 eN)=aD at L n3 Y O⊢;have lb:∀q,q<h.n->(q=s\/bb E q)->∃t,M q=(id,t)/\5<=t/\t<=9:=λq i U=>by
  rcases U with rfl|U
  .exact⟨5,z.own,by omega,by omega⟩
  .exact⟨6,z.hQ q (cD.2 U),by omega,by omega⟩
 have bK:=gZ.dS (id:=id) k.aO L (λq i U=>by obtain⟨t,Z,D,_⟩:=lb q i U;unfold cW;rw[Z];exact⟨rfl,D⟩) (id,6);exact ar ⟨rfl,_,bK,k.ef.part L lb bK.bH,⟨j,A,B,C,z.Yf L bK.bH Y (z.hQ.new (λq i=>z.o.lt q (cD.1 i)) Fp λq i=>O.lt q (cD.1 i)) O⟩,bK.aO,k.xe.ai L,k.oq⟩
theorem kz.Yg{h h':I}{C i:cM}{id s m:Nat}{x:eG}{cE cK D E u:V}{l:List Int}(k:kz h C id s m x cE cK D E)(z:J h h' (λq=>q=s\/bb cK q))(A:∀q,q<h.n->i q=C q)
  (g:h'.get s=.cells [.ptr m 0,cE,u,D,E,.int gj (x.n:Nat)] 163 eN) (H:nT i (id,7) (gF u)) (L:Own h' 3 1 u (ax l)):kz h' i id s m { x with verts:=l } cE u D E:=by
 have F:∀{e sz M v},Own h e sz v M->∀q∈gF v,q<h.n:=λo q j=>o.lt q (cD.1 j);have G:∀{q t},C q=(id,t)->t≠5->t≠7->¬(q=s\/bb cK q):=λ{q t} B N O U=>by
  rcases U with rfl|U
  .rw[k.own]at B;simp at B;omega
  .rw[k.cK q (cD.2 U)]at B;simp at B;omega
 exact⟨IS k.lt z.n,g,(A _ k.lt).trans k.own,
  k.o.ai z λq j=>G (k.hQ q (cD.2 j)) (by decide) (by decide),L,k.c.ai z λq j=>G (k.cc q (cD.2 j)) (by decide) (by decide),k.d.ai z λq j=>G (k.oA q (cD.2 j)) (by decide) (by decide),k.hQ.bH (F k.o) A,H,k.cc.bH (F k.c) A,k.oA.bH (F k.d) A⟩
theorem kz.Yh{h h':I}{C i:cM}{id s m:Nat}{x:eG}{cE cK D E u:V}{l:List ak}(k:kz h C id s m x cE cK D E)(z:J h h' (λq=>q=s\/bb D q))(A:∀q,q<h.n->i q=C q)
  (g:h'.get s=.cells [.ptr m 0,cE,cK,u,E,.int gj (x.n:Nat)] 163 eN) (H:nT i (id,8) (gF u)) (L:Own h' 110 5 u (l.flatMap aq)):kz h' i id s m { x with chgs:=l } cE cK u E:=by
 have F:∀{e sz M v},Own h e sz v M->∀q∈gF v,q<h.n:=λo q j=>o.lt q (cD.1 j);have G:∀{q t},C q=(id,t)->t≠5->t≠8->¬(q=s\/bb D q):=λ{q t} B N O U=>by
  rcases U with rfl|U
  .rw[k.own]at B;simp at B;omega
  .rw[k.cc q (cD.2 U)]at B;simp at B;omega
 exact⟨IS k.lt z.n,g,(A _ k.lt).trans k.own,
  k.o.ai z λq j=>G (k.hQ q (cD.2 j)) (by decide) (by decide),k.v.ai z λq j=>G (k.cK q (cD.2 j)) (by decide) (by decide),L,k.d.ai z λq j=>G (k.oA q (cD.2 j)) (by decide) (by decide),k.hQ.bH (F k.o) A,k.cK.bH (F k.v) A,H,k.oA.bH (F k.d) A⟩
theorem afp(l:List Int):l.flatMap (λa=>[kA gj a])=ax l:=by
 induction l with
 | nil=>rfl
 | cons a r ih=>rw[ayW,ih];rfl
theorem Yi(h:I)(u:Int):am mP 46 1 [(0,.int gj u)] h=eL (.bh h.n 0 1 1,h.push (.cells [.int gj u] 3 eN)):=by rw[nm pR];rfl
theorem xg{h:I}{e:aPg}{sz:Nat}{v:V}{a:List V}(o:Own h e sz v a):v.one=e6/\v.cells=eL [v]:=by
 rcases o with⟨rfl|rfl,_⟩|⟨_,_,_,_,_,rfl,_⟩<;>exact⟨rfl,rfl⟩
theorem atO(u:Int)(a:List ak)(c:ak)(x:bX):kL u [c] (kL u a x)=kL u (a++[c]) x:=by
 unfold kL;simp[axC,List.replicate_succ']
theorem Kw{h:I}{Y:cM}{id s m:Nat}{b:At}{c:bk}{x:bX}(k:hR h Y id s m b c x)(u:Int)(j:List ak)(aB:x.2.verts.length+x.2.chgs.length+j.length<=2^30) :
  au mP 86 [.ptr s 0,.int gj u,gU j] h (l5 id s m b c h Y (kL u j x)):=by
 unfold gU;refine a7 Tryz.func86 rfl ?_;simp only[ae,rl];refine aT.bG (α:=Nat×cM) (λy f h'=>f 0=.ptr s 0/\f 1=.int gj u/\f 8=.ag j.length (j.flatMap aq)/\f 9=.int gj (j.length:Int)/\f 10=.int gj (y.1:Nat)/\y.1<=j.length/\gZ id h Y h' y.2/\hR h' y.2 id s m b c (kL u (j.take y.1) x)) (λy=>j.length-y.1) (0,Y)
  ⟨rfl,rfl,rfl,rfl,rfl,D8 _,gZ.refl k.aO,by simpa [kL]using k⟩ ?_
 rintro⟨t,Z⟩ f F ⟨f0,f1,f8,f9,M,bA,bK,kk⟩
 simp only at M bA bK kk;refine wpS ?_;by_cases aC:t<j.length
 .have d1:=dK t j.length;have hw:=km aC (by omega);obtain⟨fO,b0⟩:=Xk (kk:=.i64) aC;have fL:(x.2.verts++azj (j.take t).length u).length<=2^30/\(x.2.chgs++j.take t).length<=2^30:=by
   simp only[D9,aAP,List.length_take];omega
  have cv:kL u (j.take (t+1)) x=kL u [j[t]] (kL u (j.take t) x):=by rw[atO,ayY aC]
  generalize j[t]=C at b0 cv;obtain⟨B,N,A,D,G⟩:=kk.qp;obtain⟨X,fW⟩:∃X,X=kL u (j.take t) x:=⟨_,rfl⟩;have EH:X.2.verts.length<=2^30:=by rw[fW];exact fL.1
  have mW:X.2.chgs.length<=2^30:=by rw[fW];exact fL.2
  rw[<-fW]at kk G cv;clear fW;have cc:(kB (aq C)).cells=eL (aq C):=rfl;have st:bD (eL 5) (aP.cells [kA gj 0,kA gj 0,kA gj 0,kA gj 0,V.bool fr] 110 eN) 0 (aq C)=eL (.cells (aq C) 110 eN):=rfl;have ld:cw (eL (eL 5)) (eL (aq C++fO))=eL (.agg (aq C)):=j1 (jo C);obtain⟨H,hH,bl,je,hx⟩:=bU F (.cells (aq C) 110 eN);have R:=G.aY bl;have gs:=R.get;simp only[ae,ds,AT,reduceCtorEq,al,f0,f8,f9,M,d1,b0,ld,cc,st];rw[<-hH];clear hH;have tJ:Own H 3 1 N (X.2.verts.flatMap λa=>[kA gj a]):=by rw[afp];exact R.v
  obtain⟨z,E,q,ec,k2,c6⟩:=RU (P:=mP) (t:=46) (enc:=λa:Int=>[kA gj a]) pR (by decide) (λ_=>rfl) (λ_=>rfl) hI (by decide) (by decide) tJ (cs:=X.2.verts) (UN EH (by decide)) u;have hc:J H (H.push (.cells [.int gj u] 3 eN)) kR:=J.push _ _ _;have Of:kd mP 46 46 N (.bh H.n 0 1 1) (H.push (.cells [.int gj u] 3 eN))=eL (z,E):=q;have TW:bb N s=False:=eq_false λU=>by have:=G.cK s (cD.2 U);rw[G.own]at this;simp at this
  have af:bb N F.n=False:=eq_false λU=>by have:=G.v.lt _ U;omega
  have lK:J H E (λx=>bb N x):=hc.up.trans' k2;have xf:=(lK.get s R.lt (λU=>TW.mp U)).trans gs;have ot:=(lK.get F.n (by omega) (λU=>af.mp U)).trans je;obtain⟨j5,h5⟩:=xg ec;have dI:bD (eL 1) (aP.cells [.ptr m 0,B,N,A,D,.int gj (X.2.n:Nat)] 163 eN) 2 [z]=eL (.cells [.ptr m 0,B,z,A,D,.int gj (X.2.n:Nat)] 163 eN):=by rw[rb j5];rfl
  simp only[ae,ds,AT,By,al,f1,gs,Yi,Of,xf,h5,dI];have S:J H (E.set s (.cells [.ptr m 0,B,z,A,D,.int gj (X.2.n:Nat)] 163 eN)) (λq=>q=s\/bb N q) :=
   (lK.mono λq i=>.inr i).trans' ((J.set _ _ _).mono λq i=>.inl i)
  have bO:F.n≠s:=by have:=G.lt;omega
  have nX:(E.set s (.cells [.ptr m 0,B,z,A,D,.int gj (X.2.n:Nat)] 163 eN)).get F.n=.cells (aq C) 110 none:=by rw[nk bO];exact ot
  have g3:(E.set s (.cells [.ptr m 0,B,z,A,D,.int gj (X.2.n:Nat)] 163 eN)).get s=(.cells [.ptr m 0,B,z,A,D,.int gj (X.2.n:Nat)] 163 eN):=aM;have iS:Own (E.set s (.cells [.ptr m 0,B,z,A,D,.int gj (X.2.n:Nat)] 163 eN)) 3 1 z (ax (X.2.verts++[u])):=by
   have AP:Own E 3 1 z (ax (X.2.verts++[u])):=(by rw[<-afp];exact ec);refine AP.ai (J.set _ _ _) λq i U=>?_;subst U;rcases c6 with d|d
   .rw[d]at i;exact TW.mp i
   .have F:(H.push (.cells [.int gj u] 3 eN)).n<=q:=d q i;have:=R.lt;have:=hc.n;omega
  have Fp:eF H (gF N) (gF z):=λq i=>by
   rcases RR c6 q i with U|U
   .exact .inl U
   .exact .inr (by have:=hc.n;have:(H.push (.cells [.int gj u] 3 eN)).n<=q:=U;omega)
  have n3:(E.set s (.cells [.ptr m 0,B,z,A,D,.int gj (X.2.n:Nat)] 163 eN)).n=E.n:=rfl;generalize E.set s (.cells [.ptr m 0,B,z,A,D,.int gj (X.2.n:Nat)] 163 eN)=L at S n3 g3 iS nX⊢;have ji:=kk.aY bl;have lb:∀q,q<H.n->(q=s\/bb N q)->∃t,Z q=(id,t)/\5<=t/\t<=9:=λq i U=>by
   rcases U with rfl|U
   .exact⟨5,G.own,by omega,by omega⟩
   .exact⟨7,G.cK q (cD.2 U),by omega,by omega⟩
  have o9:=gZ.dS (id:=id) ji.aO S (λq i U=>by obtain⟨t,F,E,_⟩:=lb q i U;unfold cW;rw[F];exact⟨rfl,E⟩) (id,7);have Q:=R.Yg S o9.bH g3 (G.cK.new (λq i=>R.v.lt q (cD.1 i)) Fp λq i=>iS.lt q (cD.1 i)) iS;have kV:=ji.ef.part S lb o9.bH;have av:=ji.xe.ai S;have sg:=(gZ.push (id:=id) kk.aO bl).trans o9;have aI:=S.n;have eZ:F.n<L.n:=by omega
  obtain⟨O,T,Du,mK,cg,n4⟩:=RU (P:=mP) (t:=52) Ag (by decide) jo WO rl (by decide) (by decide) Q.c (cs:=X.2.chgs) (UN mW (by decide)) C;have Yj:J L (L.push (.cells (aq C) 110 eN)) kR:=J.push _ _ _;have Og:bb A s=False:=eq_false λU=>by have:=G.cc s (cD.2 U);rw[G.own]at this;simp at this
  have ay:bb A F.n=False:=eq_false λU=>by have:=G.c.lt _ U;omega
  have Yk:J L T (λx=>bb A x):=Yj.up.trans' cg;have aA:=(Yk.get s Q.lt (λU=>Og.mp U)).trans g3;obtain⟨RV,Oh⟩:=xg mK;have RW:bD (eL 1) (.cells [.ptr m 0,B,z,A,D,.int gj (X.2.n:Nat)] 163 eN) 3 [O]=eL (.cells [.ptr m 0,B,z,O,D,.int gj (X.2.n:Nat)] 163 eN):=by rw[rb RV];rfl
  have d0:cI (.cells (aq C) 110 eN) 0=eL (aq C):=rfl;have lu:cw (eL (eL 5)) (eL (aq C))=eL (.agg (aq C)):=rfl;refine aT.cL (λx=>bb A x) [7,8,12] (.q 0 (.q 1 (.q 2 (.q 3 (.q 4 (.q 5 (.q 6 (.e 7 (.e 8 (.q 9 (.q 10 (.q 11 (.a 12 .done)))) .stop) .stop)))))))) ?_;simp only[ae,bw,e4,ds,AT,By,reduceCtorEq,al,f0,M,g3,nX,d0,lu,Ke,Du,Og,ay,Yk,aA,Oh,RW,hw];have W:J L (T.set s (.cells [.ptr m 0,B,z,O,D,.int gj (X.2.n:Nat)] 163 eN)) (λq=>q=s\/bb A q) :=
   (Yk.mono λq i=>.inr i).trans' ((J.set _ _ _).mono λq i=>.inl i)
  have g5:(T.set s (.cells [.ptr m 0,B,z,O,D,.int gj (X.2.n:Nat)] 163 eN)).get s=(.cells [.ptr m 0,B,z,O,D,.int gj (X.2.n:Nat)] 163 eN):=aM;have Kx:Own (T.set s (.cells [.ptr m 0,B,z,O,D,.int gj (X.2.n:Nat)] 163 eN)) 110 5 O ((X.2.chgs++[C]).flatMap aq):=Own.ai mK (J.set _ _ _) λq i U=>by
   subst U;rcases n4 with d|d
   .rw[d]at i;exact Og.mp i
   .have F:(L.push (.cells (aq C) 110 eN)).n<=q:=d q i;have:=Q.lt;have:=Yj.n;omega
  have aF:eF L (gF A) (gF O):=λq i=>by
   rcases RR n4 q i with U|U
   .exact .inl U
   .exact .inr (by have:=Yj.n;have:(L.push (.cells (aq C) 110 eN)).n<=q:=U;omega)
  generalize T.set s (.cells [.ptr m 0,B,z,O,D,.int gj (X.2.n:Nat)] 163 eN)=bV at W g5 Kx⊢;have TX:∀q,q<L.n->(q=s\/bb A q)->∃t,dS Z H.n L.n (id,7) q=(id,t)/\5<=t/\t<=9:=λq i U=>by
   rcases U with rfl|U
   .exact⟨5,Q.own,by omega,by omega⟩
   .exact⟨8,Q.cc q (cD.2 U),by omega,by omega⟩
  have vp:=gZ.dS (id:=id) o9.aO W (λq i U=>by obtain⟨t,F,E,_⟩:=TX q i U;unfold cW;rw[F];exact⟨rfl,E⟩) (id,8);have Oj:=Q.Yh W vp.bH g5 (Q.cc.new (λq i=>Q.c.lt q (cD.1 i)) aF λq i=>Kx.lt q (cD.1 i)) Kx;have aG:=kV.part W TX vp.bH;have aH:hR bV (dS (dS Z H.n L.n (id,7)) L.n bV.n (id,8)) id s m b c (kL u [C] X):=⟨aG,⟨_,_,_,_,Oj⟩,vp.aO,av.ai W,kk.oq⟩;exact ar ⟨(t+1,_),⟨f0,f1,f8,f9,rfl,aC,bK.trans (sg.trans vp),by rw[cv];exact aH⟩,by simp only;omega⟩
 .have d1:=dY t j.length;rw[ajE (by omega)]at kk;simp only[ae,f9,M,d1,aJ];exact ar ⟨rfl,Z,bK,kk⟩
def sz(x:bX):Nat:=x.2.outs.length+x.2.verts.length+x.2.chgs.length+x.2.deads.length+4000*(1000-x.2.n)
structure Inv(c:bk)(x:bX):Prop where
 n:x.2.n<=1000
 wf:∀u K,c.c0 u=eL K->dw K (x.1.st u)
structure cF(c:bk)(j:Nat)(x y:bX):Prop where
 inv:Inv c y
 sz:sz y<=sz x+j
 ms:y.1.ms=x.1.ms
def fT(c:bk)(j:Nat)(F:bX->bX):Prop:=∀x,Inv c x->cF c j x (F x)
theorem cF.refl{c:bk}{x:bX}(i:Inv c x):cF c 0 x x:=⟨i,BY _,rfl⟩
theorem cF.trans{c:bk}{j k:Nat}{x y z:bX}(a:cF c j x y)(b:cF c k y z):cF c (j+k) x z:=⟨b.inv,by have:=a.sz;have:=b.sz;omega,b.ms.trans a.ms⟩
theorem cF.mono{c:bk}{j k:Nat}{x y:bX}(a:cF c j x y)(h:j<=k):cF c k x y:=⟨a.inv,by have:=a.sz;omega,a.ms⟩
theorem fT.mono{c:bk}{j k:Nat}{F:bX->bX}(a:fT c j F)(h:j<=k):fT c k F:=λx i=>(a x i).mono h
theorem Ky(c:bk)(u:Int)(r:Rec)(e:Int):fT c 1 (pT u r e):=λx i=>⟨⟨i.n,i.wf⟩,by simp only[sz,pT,D9,axF,ayx];omega,rfl⟩
theorem Ol(c:bk)(u:Int)(r:Rec):fT c 1 (nS u r):=λx i=>⟨⟨i.n,i.wf⟩,by simp only[sz,nS,D9,axF,ayx];omega,rfl⟩
theorem B0(c:bk)(u:Int)(a:List ak):fT c (2*a.length) (kL u a):=λx i=>⟨⟨i.n,i.wf⟩,by simp only[sz,kL,D9,aAP];omega,rfl⟩
theorem RX{c:bk}{x:bX}(i:Inv c x)(h:x.2.n≠1000):Inv c (dC x)/\sz (dC x)+4000=sz x/\(dC x).1=x.1:=by
 have a:=i.n;refine⟨⟨by simp only[dC];omega,i.wf⟩,?_,rfl⟩;simp only[sz,dC];omega
theorem Hq{c:bk}{u:Nat}{l:List ak}(j:∀K,c.c0 u=eL K->dw K l):fT c 0 (kM u l):=λx i=>⟨⟨i.n,λv K a=>by
 simp only[kM];split
 .rename_i e;subst e;exact j K a
 .exact i.wf v K a⟩,BY _,rfl⟩
theorem Kz{c:bk}{α:Type}{j:Nat}(f:bX->α->bX):∀(l:List α),(∀a∈l,fT c j λx=>f x a)->fT c (j*l.length) λx=>l.foldl f x
 | [],_=>λx i=>cF.refl i
 | a::r,h=>λx i=>by
  have m:=h a (by simp) x i;have q:=Kz f r (λb an=>h b (by simp[an])) (f x a) m.inv;have s:=m.trans q;exact s.mono (by rw[axF,Nat.mul_add];omega)
theorem afx(v:bC)(r:Rec):(o6 v r).1.length<=4:=by
 unfold o6;split
 .simp
 .split
  .split
   .split
    .simp only[j8];split
     .simp
     .split
      .simp
      .split
       .split<;>simp
       .split
        .rw[Oa];omega
        .simp
    .simp
   .simp
  .simp
theorem afy{c:bk}{v:bC}{u:Int}{r:Rec}{m:Rec->bX->bX}(h:∀y,fT c 24 (m y)):fT c 96 (qn v u m r):=λx i=>by
 unfold qn;split
 .exact(Ky c u r _ x i).mono (by omega)
 .have:=afx v r;exact(Kz (j:=24) (λx y=>m y x) (o6 v r).1 (λa _=>h a) x i).mono (by omega)
theorem afz{K:ej}{l:List ak}(w:dw K l)(k t v:Int):(sL K l k t v).length<=1025:=by
 have:=w.len;cases K with
 | kv=>simp[sL]
 | dy g=>simp[sL]
 | eA g=>
  simp only[sL,jD,D9,ajD,axF,ayx];have a:=azu (nK (gX g l k t v)) (found g l k t);have i:=Ni g l k t;omega
theorem Om{K:ej}{e:cd}{l:List ak}{r:Rec}{N:Int}(w:dw K l)(h:lT K e l r=.ok N):na K e l r=sd K l r.k r.t N/\dw K (sd K l r.k r.t N):=by
 have a:na K e l r=sd K l r.k r.t N:=by unfold na;rw[h]
 exact⟨a,by rw[<-a];exact asM w r⟩
theorem atP{c:bk}{K:ej}{v:bC}{u:Nat}{r:Rec}{a:Rec->bX->bX}(m:c.c0 u=eL K)(h:∀y,fT c 24 (a y)):fT c 2100 (tB K v u a r):=λx i=>by
 unfold tB;split
 .exact(Ky c u r _ x i).mono (by omega)
 .have w:=i.wf u K m;split
  .exact(Ky c u r _ x i).mono (by omega)
  .rename_i N s;have q:=Hq (c:=c) (u:=u) (l:=sd K (x.1.st u) r.k r.t N) (λA j=>by rw[m]at j;cases j;exact(Om w s).2) x i;have j:=B0 c u (sL K (x.1.st u) r.k r.t N) _ q.inv;have z:=h ⟨r.k,N,BV K (x.1.st u) r.k r.t⟩ _ j.inv;have:=afz w r.k r.t N;exact((q.trans j).trans z).mono (by omega)
theorem atQ{c:bk}{v:bC}{u:Int}{r:Rec}{a:Rec->bX->bX}(h:∀y,fT c 24 (a y)):fT c 24 (wh c v u a r):=λx i=>by
 unfold wh;split
 .split
  .exact h _ x i
  .exact(Ky c u r _ x i).mono (by omega)
 .exact(Ky c u r _ x i).mono (by omega)
theorem RY{c:bk}{m:Int->Rec->bX->bX}(h:∀u y,fT c 24 (m u y))(f:Int)(u:Nat)(r:Rec):fT c 1 (qo c m f u r):=λx i=>by
 unfold qo;split
 .exact Ky c u r _ x i
 .rename_i z;obtain⟨j,C,A⟩:=RX i z;have a:∀{y:bX} {k:Nat},k<=4000->cF c k (dC x) y->cF c 1 x y:=λD s=>⟨s.inv,by have:=s.sz;omega,s.ms.trans (by rw[A])⟩;have q:cF c 1 x (dC x):=a (D8 _) (cF.refl j);split
  .exact q
  .split
   .exact a (by omega) (afy (λy=>(Ol c u y).mono (by omega)) _ j)
   .split
    .exact a (by omega) (afy (λy=>h u y) _ j)
    .split
     .split
      .rename_i K B;exact a (by omega) (atP B (λy=>h u y) _ j)
      .exact q
     .split
      .split
       .exact a (by omega) (atQ (λy=>h u y) _ j)
       .exact q
      .exact q
theorem atS{c:bk}(i:c.l.length<=24)(v:Int):(c.us v).length<=24:=by
 unfold bk.us;have m:=He (v:=v) (l:=c.l) (j:=0);have a:=azu (λu=>c.P.getD u 0==c.part) ((ir v 0 c.l).map ay4);rw[ajD]at a;omega
theorem zk{c:bk}(m:c.l.length<=24):∀(k:Nat) (v:Int) (r:Rec),fT c 24 (oH c k v r)
 | 0,v,r=>λx i=>(cF.refl i).mono (by omega)
 | k+1,v,r=>λx i=>by
  have:=atS m v;exact(Kz (j:=1) (λx u=>qo c (oH c k) v u r x) (c.us v) (λu _=>RY (λa y=>zk m k a y) v u r) x i).mono (by omega)
theorem ce(c:bk)(b:At):c.cells b=[.ag c.l.length (c.l.flatMap ao),.int gj c.p,.ag c.P.length (ax c.P),.int gj c.part,.ptr b.mq 0,.map b.mp]:=rfl
theorem Hr{l:List bC}{u:Nat}{v:bC}(h:l[u]?=eL v){kk:aPh}:∃r,hC mP 22 (.ag l.length (l.flatMap ao)) (.int kk (u:Int))=eL (.at (ao v++r)) :=
 QV lp rfl h EO
theorem RZ{x:bX}{j:Nat}(h:sz x+j<=2^30):x.2.deads.length<=2^30:=by unfold sz at h;omega
theorem afA{x:bX}{j:Nat}(h:sz x+j<=2^30):x.2.outs.length<=2^30:=by unfold sz at h;omega
section
variable {id s m:Nat} {b:At} {c:bk}
theorem AR{g:FuncId}(hq:me mP g=e6){th:Rec->bX->bX}{u:Nat}{v:bC}(aI:c.l[u]?=eL v)
  (M:∀(y:Rec) (h:I) (j:cM) (x:bX),hR h j id s m b c x->Inv c x->sz x+24<=2^30->au mP g [.ptr s 0,.int gj u,.agg (aR y)] h (l5 id s m b c h j (th y x)))
  (q5:∀y,fT c 24 (th y)) {h:I} {j:cM} {x:bX} (k:hR h j id s m b c x) (i:Inv c x) (bq:sz x+100<=2^30) (r:Rec) :
  au mP 153 [.ptr s 0,.int gj u,.agg (aR r),.func (.func g) [.ptr s 0] []] h (l5 id s m b c h j (qn v u th r x)):=by
 refine a7 Tryz.func153 rfl ?_;obtain⟨cE,cK,dd,dg,aa⟩:=k.qp;obtain⟨H,hH,D,N,hx⟩:=bU h (.cells (aR r) 45 eN);have B:=k.aY D;have gs:=(aa.aY D).get;have O:=B.ef.get;rw[ce]at O;have ld:cw (eL (eL 3)) (eL (aR r))=eL (.agg (aR r)):=rfl;have d0:cI (.cells (aR r) 45 eN) 0=eL (aR r):=rfl;have cc:(kB (aR r)).cells=eL (aR r):=rfl;obtain⟨fO,b0⟩:=Hr (kk:=.i64) aI;have DN:cw (eL (eL 6)) (eL (ao v++fO))=eL (.agg (ao v)):=j1 (lp v);simp only[ae];rw[<-hH];clear hH;refine aT.cL kR [] (.q 0 (.q 1 (.q 2 (.q 3 (.q 4 (.q 5 (.q 6 (.q 7 (.q 8 (.q 9 (.q 10 (.q 11 (.c 12 (.q 13 (.q 14 (.q 15 (.q 16 (.q 17 .done)))))))))))))))))) ?_;simp only[ae,bw,ds,AT,reduceCtorEq,al,gs,N,ld,d0,O,b0,DN];refine gh rfl rfl rfl (λh' hk=>atL v r h' (hk.elim (λq=>B.xe.ai q) λe=>by rw[e];exact B.xe)) ?_;unfold IM;simp only[ae,bw,ds];have sV:=RZ bq;cases Q:((o6 v r).2 !=0);rotate_left
 .have E:(o6 v r).2≠0:=by simpa using Q
  simp only[ae,ds,reduceCtorEq,al,N,ld,d0];refine cp (Ho B u r (o6 v r).2 sV) λq ad ⟨az,R,bK,S⟩=>?_;subst az;simp only[ae,aJ];exact ar ⟨rfl,R,(gZ.push k.aO D).trans bK,by unfold qn;rw[gr E];exact S⟩
 have E:¬(o6 v r).2≠0:=by simpa using Q
 have jZ:qn v u th r x=(o6 v r).1.foldl (λx y=>th y x) x:=by unfold qn;rw[gQ E]
 have p7:=afx v r;rw[jZ];generalize(o6 v r).1=L at p7;clear jZ Q E aa gs O N b0 DN;simp only[ae,ds,r4];refine aT.bG (α:=Nat×cM) (λy f h'=>f 0=.ptr s 0/\f 1=.int gj (u:Nat)/\f 3=.func (.func g) [.ptr s 0] []/\f 35=.ag L.length (L.flatMap aR)/\f 36=.int gj (L.length:Int)/\f 37=.int gj (y.1:Nat)/\y.1<=L.length /\
   gZ id h j h' y.2/\hR h' y.2 id s m b c ((L.take y.1).foldl (λx y=>th y x) x)/\cF c (24*y.1) x ((L.take y.1).foldl (λx y=>th y x) x)) (λy=>L.length-y.1) (0,j)
  ⟨rfl,rfl,rfl,rfl,rfl,rfl,D8 _,gZ.push k.aO D,B,cF.refl i⟩ ?_
 rintro⟨t,dz⟩ f h1 ⟨f0,f1,f3,C,z,a,bA,bK,kk,A⟩
 simp only at a bA bK kk A;refine wpS ?_;by_cases F:t<L.length
 .have az:=dK t L.length;have hw:=km F (by omega);obtain⟨IP,eU⟩:=asV (kk:=.i64) F;have G:(L.take (t+1)).foldl (λx y=>th y x) x=th L[t] ((L.take t).foldl (λx y=>th y x) x):=by rw[ayY F,aAA];rfl
  generalize L[t]=Y at eU G;have T:cw (eL (eL 3)) (eL (aR Y++IP))=eL (.agg (aR Y)):=j1 (Av Y);have W:(kB (aR Y)).cells=eL (aR Y):=rfl;have Z:bD (eL 3) (aP.cells [kA gj 0,kA gj 0,kA gj 0] 45 eN) 0 (aR Y)=eL (.cells (aR Y) 45 eN):=rfl;have ab:cI (.cells (aR Y) 45 eN) 0=eL (aR Y):=rfl;have lu:cw (eL (eL 3)) (eL (aR Y))=eL (.agg (aR Y)):=rfl;obtain⟨H1,eX,vq,kV,_⟩:=bU h1 (.cells (aR Y) 45 eN);have pB:=kk.aY vq;generalize(L.take t).foldl (λx y=>th y x) x=X at G kk pB A;simp only[ae,ds,al,f1,f3,C,z,a,az,eU,T,W,Z,ab,lu];rw[<-eX];clear eX;refine QC hq (M Y H1 dz X pB A.inv (by have:=A.sz;omega)) λq ad ⟨az,R,xh,S⟩=>?_;subst az;simp only[ae,ds,a,hw];have af:=A.trans (q5 Y X A.inv);exact ar ⟨(t+1,R),⟨f0,f1,f3,C,z,rfl,F,bK.trans ((gZ.push kk.aO vq).trans xh),by rw[G];exact S,by rw[G];exact af⟩,by simp only;omega⟩
 .have az:=dY t L.length;rw[ajE (by omega)]at kk;simp only[ae,z,a,az,aJ];exact ar ⟨rfl,dz,bK,kk⟩
end
theorem fJ.at{h:I}{i:cM}{id m:Nat}{b:At}{c:bk}{s:cT}(k:fJ h i id m b c s){u:Nat}{K:ej}(L:c.c0 u=Option.some K){v:bC}(M:c.l[u]?=Option.some v) :
  ∃a O,cV b.es (u:Int)=Option.some a/\iq h a O K v.e v.n (s.st u)/\dB v.e=e6/\nT i (id,10+u) O /\
   ∀(h':I) (B:List Nat) (E:List ak),J h h' (·∈O)->eF h O B->iq h' a B K v.e v.n E->fJ h' (dS i h.n h'.n (id,10+u)) id m b c { s with st:=λw=>if w=u then E else s.st w }:=by
 obtain⟨a,O,x,N,Q,R,C,S⟩:=k.some u K L;rw[M]at Q;cases Q;refine⟨a,O,N,R,S,C,λh' B E j nl T=>?_⟩;obtain⟨az,F,G,pN,g1,g2,st⟩:=k.marks;have D:∀q t,q<h.n->i q=(id,t)->t≠10+u->h'.get q=h.get q:=λq t z W bA=>j.get q z λU=>by rw[C q U]at W;simp at W;omega
 have A:∀q,q<h.n->dS i h.n h'.n (id,10+u) q=i q:=λq z=>zj z;refine⟨IS k.lt j.n,(D _ _ k.lt k.own (by omega)).trans k.get,(A _ k.lt).trans k.own,⟨az,IS F j.n,IS G j.n,pN,(D _ _ F k.hn.1 (by omega)).trans g1,(D _ _ G k.hn.2 (by omega)).trans g2,st⟩,
  ⟨(A _ F).trans k.hn.1,(A _ G).trans k.hn.2⟩,IS k.mr j.n,(D _ _ k.mr k.nU (by omega)).trans k.map,(A _ k.mr).trans k.nU,λw AQ H=>?_,k.none⟩
 by_cases X:w=u
 .subst X;rw[L]at H;cases H;exact⟨a,B,v,N,M,by simpa using T,C.new R.lt nl T.lt,S⟩
 .obtain⟨a2,R0,eU,cY,dD,Y,Z,vN⟩:=k.some w AQ H;refine⟨a2,R0,eU,cY,dD,?_,Z.bH Y.lt A,vN⟩;simp only[gQ X];exact Y.ai j λq z U=>by have az:=Z q z;rw[C q U]at az;simp at az;omega
theorem hR.at{h:I}{B:cM}{id s m:Nat}{b:At}{c:bk}{x:bX}(k:hR h B id s m b c x){u:Nat}{K:ej}(E:c.c0 u=eL K){v:bC}(F:c.l[u]?=eL v) :
  ∃a O,cV b.es (u:Int)=eL a/\iq h a O K v.e v.n (x.1.st u)/\dB v.e=e6/\(∀q∈O,B q=(id,10+u)) /\
   ∀(h':I) (j:List Nat) (z:List ak),J h h' (·∈O)->eF h O j->iq h' a j K v.e v.n z->∃i,gZ id h B h' i/\hR h' i id s m b c (kM u z x):=by
 obtain⟨a,O,G,H,L,C,D⟩:=k.ef.at E F;refine⟨a,O,G,H,L,C,λh' j z A M N=>?_⟩;obtain⟨cE,cK,Q,R,S⟩:=k.qp;have bK:=gZ.dS (id:=id) k.aO A (λq T U=>by unfold cW;rw[C q U];exact⟨rfl,by show 5<=10+u;omega⟩) (id,10+u);exact⟨_,bK,D h' j z A M N,⟨cE,cK,Q,R,S.ai A (λq T U t D W e=>by rw[C q U]at e;simp at e;omega) bK.bH⟩,bK.aO,k.xe.ai A,k.oq⟩
theorem gZ.step{id:Nat}{h s u:I}{j i:cM}(f:Fr h j)(k:J h s kR)(e:gZ id s j u i):gZ id h j u i:=(gZ.push f k).trans e
theorem afE{K:ej}{e:cd}{l:List ak}{r:Rec}{c:Int}(h:lT K e l r=.error c):c≠0:=by
 unfold lT at h;split at h
 .cases h;decide
 .split at h
  .cases h;decide
  .split at h
   .cases h;decide
   .cases h
theorem atW{h h':I}{p:V}{l:Seen}{i j m:Nat}(k:wc h p l i j m)(a:J h h' kR\/h'=h):wc h' p l i j m:=by
 rcases a with a|rfl
 .obtain⟨az,q,s,u,z,A,B⟩:=k;exact⟨az,IS q a.n,IS s a.n,u,(a.get _ q (by simp[kR])).trans z,(a.get _ s (by simp[kR])).trans A,B⟩
 .exact k
theorem afF{h h':I}{a:Nat}{O:List Nat}{K:ej}{e:cd}{n:Int}{l:List ak}(s:iq h a O K e n l)(i:J h h' kR\/h'=h):iq h' a O K e n l:=by
 rcases i with i|rfl
 .exact s.aY i
 .exact s
section
variable {id s m:Nat} {b:At} {c:bk}
theorem Yl{u:Nat}{v:bC}(aI:c.l[u]?=eL v){K:ej}(S:c.c0 u=eL K){j:Rec->bX->bX}
  (oI:∀(y:Rec) (h:I) (D:cM) (x:bX),hR h D id s m b c x->Inv c x->sz x+24<=2^30->au mP 88 [.ptr s 0,.int gj u,.agg (aR y)] h (l5 id s m b c h D (j y x)))
  {h:I} {D:cM} {x:bX} (k:hR h D id s m b c x) (i:Inv c x) (bq:sz x+2100<=2^30) (r:Rec) :
  au mP 155 [.ptr s 0,.int gj u,.agg (aR r)] h (l5 id s m b c h D (tB K v u j r x)):=by
 refine a7 Tryz.func155 rfl ?_;obtain⟨cE,cK,dd,dg,aa⟩:=k.qp;obtain⟨H,hH,E,L,hx⟩:=bU h (.cells (aR r) 45 eN);have B:=k.aY E;have gs:=(aa.aY E).get;have W:=B.ef.get;rw[ce]at W;have M:cw (eL (eL 3)) (eL (aR r))=eL (.agg (aR r)):=rfl;have Q:cI (.cells (aR r) 45 eN) 0=eL (aR r):=rfl;obtain⟨a,O,aW,hG,ma,mH,uF⟩:=B.at S aI;have hX:=lookup_int (P:=mP) (ok:=fr) (k:=(u:Int)) J4 Mo B.ef.map;rw[aW]at hX;have si:ni mP 148 (.map b.mp) (.int gj (u:Int)) fr H=eL (.ptr a 0):=hX;have va:=B.ef.marks;simp only[ae,ds,reduceCtorEq,al];rw[<-hH];clear hH;simp only[ae,ds,AT,By,al,gs,W,si];refine aT.cL kR [] (.q 0 (.q 1 (.q 2 (.q 3 (.q 4 (.q 5 (.q 6 (.q 7 (.q 8 (.c 9 (.c 10 .done))))))))))) ?_;simp only[ae,bw,ds,AT,By,reduceCtorEq,al,gs,L,M,Q,W];refine gh rfl rfl rfl (λh' X=>N0 h' _ _ _ _ _ (atW va X)) ?_;simp only[bw];refine gh rfl rfl rfl (λh' X=>asR (afF hG X) r (leastOf x.1.ms)) ?_;simp only[ae,bw,ds];have sV:=RZ bq;cases fL:RD K r (leastOf x.1.ms);rotate_left
 .simp only[ae,ds,reduceCtorEq,al,L,M,Q];refine cp (Ho B u r 13 sV) λq z ⟨az,eT,bK,A⟩=>?_;subst az;simp only[ae,aJ];exact ar ⟨rfl,eT,gZ.step k.aO E bK,by unfold tB;rw[gr fL];exact A⟩
 have bu:tB K v u j r x=(match lT K v.e (x.1.st u) r with
   | .error e=>pT u r e x
   | .ok N=>j ⟨r.k,N,BV K (x.1.st u) r.k r.t⟩ (kL u (sL K (x.1.st u) r.k r.t N) (kM u (sd K (x.1.st u) r.k r.t N) x))):=by
  unfold tB;rw[gQ (by rw[fL];decide)]<;>cases lT K v.e (x.1.st u) r<;>rfl
 rw[bu];simp only[ae,ds,al,L,M,Q];refine cp (asO hG ma B.xe r) λq z ⟨fv,az,Y,nl,b3⟩=>?_;subst az;obtain⟨eT,xh,A⟩:=uF z fv _ Y nl b3;have af:H.n=h.n+1:=hx;have ot:=(Y.get h.n (by omega) (λU=>by
  have az:=mH _ U;have bd:=k.aO h.n (BY _);rw[bd]at az;simp at az;exact absurd az.1.symm k.oq)).trans L
 have w:=i.wf u K S;cases F:lT K v.e (x.1.st u) r with
 | error e=>
  have Z:se K v.e (x.1.st u) r=sJ e:=by unfold se;rw[F]
  have fl:kM u (na K v.e (x.1.st u) r) x=x:=by
   have:na K v.e (x.1.st u) r=x.1.st u:=by unfold na;rw[F]
   rw[this];unfold kM;have:(λw=>if w=u then x.1.st u else x.1.st w)=x.1.st:=by funext w;split;rename_i e;rw[e];rfl
   rw[this]
  rw[fl]at A;have bO:(e !=0)=true:=by
   have:=afE F;simpa using this
  rw[Z];unfold sJ;obtain⟨bZ,G,C,_,_⟩:=bU z (aP.cells [kA gj 0,kA gj 0,kA gj 0] 45 eN);have nX:=(C.get h.n (by have:=Y.n;omega) (by simp[kR])).trans ot;simp only[ae,ds,AT,reduceCtorEq,al,bO];rw[<-G];clear G;simp only[ae,ds,nX,M,Q];refine cp (Ho (A.aY C) u r e sV) λq aD ⟨az,h6,R,k3⟩=>?_;subst az;simp only[ae,aJ];exact ar ⟨rfl,h6,gZ.step k.aO E (xh.trans (gZ.step A.aO C R)),k3⟩
 | ok N=>
  have Z:se K v.e (x.1.st u) r=kU r.k N (BV K (x.1.st u) r.k r.t) (gU (sL K (x.1.st u) r.k r.t N)):=by unfold se;rw[F]
  obtain⟨fl,ab⟩:=Om w F;rw[fl]at A;rw[Z];unfold kU;have t1:=Hq (c:=c) (u:=u) (l:=sd K (x.1.st u) r.k r.t N) (λAQ z=>by rw[S]at z;cases z;exact ab) x i;have t2:=B0 c u (sL K (x.1.st u) r.k r.t N) _ t1.inv;have c9:=afz w r.k r.t N;have an:(kM u (sd K (x.1.st u) r.k r.t N) x).2.verts.length+(kM u (sd K (x.1.st u) r.k r.t N) x).2.chgs.length+(sL K (x.1.st u) r.k r.t N).length<=2^30:=by
   have:=t1.sz;unfold sz at this bq;omega
  have mb:sz (kL u (sL K (x.1.st u) r.k r.t N) (kM u (sd K (x.1.st u) r.k r.t N) x))+24<=2^30:=by
   have:=t1.sz;have:=t2.sz;omega
  generalize BV K (x.1.st u) r.k r.t=T at *;obtain⟨bZ,G,C,R1,c6⟩:=bU z (aP.cells [kA gj r.k,kA gj N,kA gj T] 45 eN);simp only[ae,ds,AT,reduceCtorEq,al];rw[<-G];clear G;refine cp (Kw (A.aY C) u _ an) λq aD ⟨az,h6,R,k3⟩=>?_;subst az;have yM:=(R.ai.get z.n (by omega) (λU=>by
   unfold cW at U;rw[A.aO z.n (BY _)]at U;exact k.oq U.1.symm)).trans R1
  simp only[ae,ds,AT,reduceCtorEq,al,yM];refine cp (oI ⟨r.k,N,T⟩ aD h6 _ k3 t2.inv mb) λq br ⟨az,e5,gi,cg⟩=>?_;subst az;simp only[ae,aJ];exact ar ⟨rfl,e5,gZ.step k.aO E (xh.trans ((gZ.step A.aO C R).trans gi)),cg⟩
end
theorem Ym(h:I):Pure mP 120 [.dA] h (.bool e6):=by
 refine a7 Tryz.func120 rfl ?_;simp only[ae,ds,reduceCtorEq,al,aJ];exact ar ⟨rfl,rfl⟩
theorem atY(key:Int)(h:I):Pure mP 176 [.dA,.int gj key] h (.int gj 0):=by
 refine a7 Tryz.func176 rfl ?_;simp only[ae,ds,reduceCtorEq];refine bE (Ym _) ?_;simp only[ae,ds,aJ];exact ar ⟨rfl,rfl⟩
theorem afG(m:Int)(h:I):Pure mP 89 [.dA,.int gj m] h .ah:=by
 refine a7 Tryz.func89 rfl ?_;simp only[ae,ds,reduceCtorEq];refine bE (Ym _) ?_;simp only[ae,ds,aJ];exact ar ⟨rfl,rfl⟩
theorem atZ(h:I):Pure mP 95 [.dA] h .ah:=by
 refine a7 Tryz.func95 rfl ?_;simp only[ae,ds,reduceCtorEq];refine bE (Ym _) ?_;simp only[ae,ds,aJ];exact ar ⟨rfl,rfl⟩
theorem hR.sW{h h':I}{j:cM}{id s m t:Nat}{b:At}{c:bk}{x:bX}(k:hR h j id s m b c x)(i:J h h' (·=t))(u:j t=(0,0)):hR h' j id s m b c x:=by
 obtain⟨cE,cK,z,A,B⟩:=k.qp;refine⟨k.ef.ai i (λq _ U=>by subst U;rw[u];exact λe=>k.oq e.symm) λ_ _=>rfl,⟨cE,cK,z,A,B.ai i (λq _ U D _ _ e=>?_) λ_ _=>rfl⟩,λq C=>k.aO q (UN i.n C),k.xe.ai i,k.oq⟩;subst U;rw[u]at e;exact k.oq (by simpa using(iy Prod.fst e).symm)
section
variable {id s m:Nat} {b:At} {c:bk}
theorem at0{u:Nat}{v:bC}(aI:c.l[u]?=eL v)(aA:v.bn.length=2)(Ac:∀f∈v.bn,0<=f){A:Rec->bX->bX}
  (oI:∀(y:Rec) (h:I) (j:cM) (x:bX),hR h j id s m b c x->Inv c x->sz x+24<=2^30->au mP 88 [.ptr s 0,.int gj u,.agg (aR y)] h (l5 id s m b c h j (A y x)))
  {h:I} {j:cM} {x:bX} (k:hR h j id s m b c x) (i:Inv c x) (bq:sz x+24<=2^30) (r:Rec) :
  au mP 156 [.ptr s 0,.int gj u,.agg (aR r)] h (l5 id s m b c h j (wh c v u A r x)):=by
 refine a7 Tryz.func156 rfl ?_;obtain⟨cE,cK,dd,dg,aa⟩:=k.qp;obtain⟨H,hH,F,je,hx⟩:=bU h (.cells (aR r) 45 eN);have Z:=k.aY F;have gs:=(aa.aY F).get;have fe:=Z.ef.get;rw[ce]at fe;have ld:cw (eL (eL 3)) (eL (aR r))=eL (.agg (aR r)):=rfl;have d0:cI (.cells (aR r) 45 eN) 0=eL (aR r):=rfl;have ad:cw (eL eN) (eL (aR r))=eL (.int gj r.k):=rfl;obtain⟨fO,b0⟩:=Hr (kk:=.i64) aI;have DN:cw (eL (eL 6)) (eL (ao v++fO))=eL (.agg (ao v)):=j1 (lp v);have jP:(kB (ao v)).cells=eL (ao v):=rfl;have Hs:bD (eL 6) (aP.cells [kA gj 0,.ah,.int gj 0,.int gj 0,.ah,.int gj 0] 68 eN) 0 (ao v)=eL (.cells (ao v) 68 eN):=by
  obtain⟨c0,aO,⟨o,q,aQ⟩,n⟩:=v;rfl
 simp only[ae,ds,reduceCtorEq,al];rw[<-hH];clear hH;simp only[ae,ds,AT,al,gs,fe,b0,DN,jP,Hs];obtain⟨C,bN,G,wb,c6⟩:=bU H (.cells (ao v) 68 eN);have B:=Z.aY G;have xf:=(G.get s (aa.aY F).lt (by simp[kR])).trans gs;have w5:=B.ef.get;rw[ce]at w5;have L:=(G.get h.n (by omega) (by simp[kR])).trans je;have R2:cI (.cells (ao v) 68 eN) 1=eL (.ag v.bn.length (ax v.bn)::(aN v.e++[.int gj v.n])):=rfl;have Yn:cI (.cells (ao v) 68 eN) 2=eL (aN v.e++[.int gj v.n]):=rfl;have IQ:cw (eL eN) (eL (.ag v.bn.length (ax v.bn)::(aN v.e++[.int gj v.n])))=eL (.ag v.bn.length (ax v.bn)):=rfl;have pM:cw (eL (eL 3)) (eL (aN v.e++[.int gj v.n]))=eL (.agg (aN v.e)):=j1 (r5 v.e);have gk:v.bn.getD 1 0=v.bn[1]:=by rw[ayX,Jt (by omega)];rfl
 have M:∃t,hC mP 46 (.ag v.bn.length (ax v.bn)) (.int gj 1)=eL (.at (.int gj (v.bn.getD 1 0)::t)):=⟨_,by rw[gk];exact vH (P:=mP) (kk:=.i64) (k:=1) (by omega) kE⟩;obtain⟨ay,M⟩:=M;have aB:0<=v.bn.getD 1 0:=by rw[gk];exact Ac _ (ayz _)
 obtain⟨w,hw⟩:∃w:Nat,v.bn.getD 1 0=(w:Int):=⟨(v.bn.getD 1 0).toNat,by omega⟩;rw[hw]at M;have cv:c.table v r.k x.1=(match c.c0 w with|some K=>DF K (x.1.st w) r.k|none=>0):=by unfold bk.table;rw[hw];rfl
 have Q:∃a,ni mP 148 (.map b.mp) (.int gj (w:Int)) fr C=eL a/\∀h',J C h' kR\/h'=C->Pure mP 176 [a,.int gj r.k] h' (.int gj (c.table v r.k x.1)):=by
  have D:=lookup_int (P:=mP) (ok:=fr) (k:=(w:Int)) J4 Mo B.ef.map;cases R:c.c0 w with
  | none=>
   rw[B.ef.none w R]at D;refine⟨.dA,D,λh' _=>?_⟩;rw[cv,R];exact atY r.k h'
  | some K=>
   obtain⟨a,O,zb,cY,dD,fP,_,_⟩:=B.ef.some w K R;rw[cY]at D;refine⟨.ptr a 0,D,λh' E=>?_⟩;rw[cv,R];exact asS (afF fP E) r.k
 obtain⟨aC,D,Q⟩:=Q;have z:∀y,y=wh c v u A r x->y=(if dB v.e=e6 then(match c7 r.k r.v r.t (c.table v r.k x.1) 16 v.e with|some n=>A ⟨r.k,n,r.t⟩ x|none=>pT u r 10 x)else pT u r 1 x):=λy bg=>bg;obtain⟨Y,oZ⟩:∃Y,Y=wh c v u A r x:=⟨_,rfl⟩;have z:=z Y oZ;rw[<-oZ];clear oZ;generalize c.table v r.k x.1=T at cv Q z;rw[<-bN];clear bN;refine aT.cL kR [] (.q 0 (.q 1 (.q 2 (.q 3 (.q 4 (.q 5 (.q 6 (.q 7 (.q 8 (.q 9 (.q 10 (.q 11 (.q 12 (.q 13 (.q 14 (.q 15 (.q 16 (.c 17 (.c 18 (.q 19 (.q 20 (.q 21 (.q 22 (.q 23 .done)))))))))))))))))))))))) ?_;simp only[ae,bw,ds,AT,By,reduceCtorEq,al,xf,w5,L,wb,R2,Yn,IQ,pM,M,D,ld,d0,ad];refine gh rfl rfl rfl (λh' E=>Q h' E) ?_;simp only[bw];refine gh rfl rfl rfl (λh' E=>afo v.e r.k r.v r.t T h' (E.elim (λq=>B.xe.ai q) λe=>by rw[e];exact B.xe)) ?_;unfold IL;have sV:=RZ bq;have TZ:gZ id h j C j:=gZ.step k.aO F (gZ.push Z.aO G);have fail:∀(e:Int),Y=pT u r e x->e≠0->∀h',l5 id s m b c C j (pT u r e x) (.tuple []) h'->l5 id s m b c h j Y (.tuple []) h':=λe bg _ h' ⟨_,h6,o9,k3⟩=>⟨rfl,h6,TZ.trans o9,by rw[bg];exact k3⟩;cases hm:dB v.e with
 | false=>
  rw[hm]at z;rw[gQ (by decide)]at z⊢;have S:((1:Int) !=0)=true:=rfl;simp only[ae,bw,ds,reduceCtorEq,al,L,ld,d0,S];refine cp (Ho B u r 1 sV) λq aD a6=>?_;obtain⟨az,yG⟩:=a6;subst az;simp only[ae,aJ];exact ar (fail 1 z (by decide) aD ⟨rfl,yG⟩)
 | true=>
  rw[hm]at z;rw[gr rfl]at z⊢;cases T1:c7 r.k r.v r.t T 16 v.e with
  | none=>
   rw[T1]at z;unfold qb;have S:((10:Int) !=0)=true:=rfl;simp only[ae,bw,ds,reduceCtorEq,al,L,ld,d0,S];refine cp (Ho B u r 10 sV) λq aD a6=>?_;obtain⟨az,yG⟩:=a6;subst az;simp only[ae,aJ];exact ar (fail 10 z (by decide) aD ⟨rfl,yG⟩)
  | some N=>
   rw[T1]at z;unfold qb;have S:((0:Int) !=0)=false:=rfl;have af:(if 2<=(aR r).length then eL (aP.cells ((aR r).set 1 (kA aPh.i64 N)) 45 eN)else eN)=eL (.cells (aR ⟨r.k,N,r.t⟩) 45 eN):=rfl;obtain⟨W,X⟩:∃y,y=C.set h.n (.cells (aR ⟨r.k,N,r.t⟩) 45 eN):=⟨_,rfl⟩;have dN:J C W (·=h.n):=by rw[X];exact J.set _ _ _
   have g5:W.get h.n=.cells (aR ⟨r.k,N,r.t⟩) 45 none:=(by rw[X];exact aM);have lh:=B.sW dN (k.aO h.n (BY _));have vp:gZ id h j W j:=⟨λ_ _=>rfl,TZ.ai.trans dN (λq ab U=>by omega),lh.aO,trivial⟩;have d5:cI (.cells (aR ⟨r.k,N,r.t⟩) 45 eN) 0=eL (aR ⟨r.k,N,r.t⟩):=rfl;have av:cw (eL (eL 3)) (eL (aR ⟨r.k,N,r.t⟩))=eL (.agg (aR ⟨r.k,N,r.t⟩)):=rfl;simp only[ae,bw,ds,AT,reduceCtorEq,al,L,af,d5,av];rw[<-X];clear X;refine cp (oI ⟨r.k,N,r.t⟩ W j x lh i bq) λq br ⟨az,e5,gi,cg⟩=>?_;subst az;simp only[ae,aJ];exact ar ⟨rfl,e5,vp.trans gi,by rw[z];exact cg⟩
end
structure et(c:bk):Prop where
 ti:(cj c.p c.l).2=0
 ok:jE c.l
theorem et.len{c:bk}(o:et c):c.l.length<=24:=(zg o.ti).2.2.1
theorem et.gJ{c:bk}(o:et c){u:Nat}{v:bC}(i:c.l[u]?=eL v):(1<=v.kind/\v.kind<=10)/\(∀f∈v.bn,0<=f)/\l2 v=true:=by
 obtain⟨j,_,s,z⟩:=(zg o.ti).2.2.2 v (List.mem_of_getElem? i);exact⟨j,λf A=>(s f A).1,z⟩
theorem at2{v:bC}(h:l2 v=e6)(a:v.kind=9):v.bn.length=2:=by
 unfold l2 at h;rw[a]at h;have:mn.getD (9:Int).toNat (0,0,0,0)=(2,2,0,0):=by decide
 rw[this]at h;simp only[w7,are,ig]at h;omega
theorem afK{v:bC}(h:l2 v=e6)(a:v.kind=6\/v.kind=7\/v.kind=8):(∃K,qZ v.kind v.n=eL K)/\dB v.e=true:=by
 unfold l2 at h;have i:mn.getD (6:Int).toNat (0,0,0,0)=(1,2,0,0):=by decide
 have j:mn.getD (7:Int).toNat (0,0,0,0)=(1,2,1,1048576):=by decide
 have m:mn.getD (8:Int).toNat (0,0,0,0)=(1,2,1,1048576):=by decide
 rcases a with a|a|a
 .rw[a,i]at h;simp[w7,BW]at h;exact⟨⟨.kv,by unfold qZ;rw[gr a]⟩,h.2.1⟩
 .rw[a,j]at h;simp[w7,BW]at h;exact⟨⟨.dy v.n,by unfold qZ;rw[gQ (by omega),gr a,gr (by omega)]⟩,h.2.1⟩
 .rw[a,m]at h;simp[w7,BW]at h;exact⟨⟨.eA v.n,by unfold qZ;rw[gQ (by omega),gQ (by omega),gr a,gr (by omega)]⟩,h.2.1⟩
theorem et.c0{c:bk}(o:et c){u:Nat}{v:bC}(i:c.l[u]?=eL v)(j:c.P[u]?=eL c.part)(s:v.kind=6\/v.kind=7\/v.kind=8):∃K,c.c0 u=eL K:=by
 obtain⟨⟨K,z⟩,_⟩:=afK (o.gJ i).2.2 s;exact⟨K,by unfold bk.c0;rw[gr j,i];exact z⟩
theorem hR.inc{h h':I}{u:cM}{id s m:Nat}{b:At}{c:bk}{x:bX}(k:hR h u id s m b c x){cE cK A B:V}(i:kz h u id s m x.2 cE cK A B)(z:J h h' (·=s))
  (g:h'.get s=.cells [.ptr m 0,cE,cK,A,B,.int gj ((x.2.n+1:Nat):Int)] 163 eN):gZ id h u h' u/\hR h' u id s m b c (dC x)/\kz h' u id s m (dC x).2 cE cK A B:=by
 have C:∀{q t},u q=(id,t)->t≠5->¬(q=s):=λ{q t} D H U=>by
  subst U;rw[i.own]at D;simp at D;omega
 have E:kz h' u id s m (dC x).2 cE cK A B:=⟨IS i.lt z.n,g,i.own,
  i.o.ai z λq j=>C (i.hQ q (cD.2 j)) (by decide),i.v.ai z λq j=>C (i.cK q (cD.2 j)) (by decide),i.c.ai z λq j=>C (i.cc q (cD.2 j)) (by decide),i.d.ai z λq j=>C (i.oA q (cD.2 j)) (by decide),i.hQ,i.cK,i.cc,i.oA⟩
 have F:Fr h' u:=λq j=>k.aO q (UN z.n j);have G:∀q,q<h.n->q=s->∃t,u q=(id,t)/\5<=t/\t<=9:=λq j U=>by subst U;exact⟨5,i.own,by omega,by omega⟩
 exact⟨⟨λ_ _=>rfl,z.mono λq j=>by subst j;unfold cW;rw[i.own];exact⟨rfl,BY _⟩,F,trivial⟩,⟨k.ef.part z G λ_ _=>rfl,⟨_,_,_,_,E⟩,F,k.xe.ai z,k.oq⟩,E⟩
def eJ(c:bk)(a:Int->Rec->bX->bX)(v:bC)(f:Int)(u:Nat)(r:Rec)(y:bX):bX :=
 if v.kind=10\/v.kind=5 then qn v u (nS u) r y
 else if v.kind=2\/v.kind=3\/v.kind=4 then qn v u (a u) r y
 else if v.kind=6\/v.kind=7\/v.kind=8 then
  (match c.c0 u with
  | some K=>tB K v u (a u) r y
  | none=>y)
 else if v.kind=9 then(if f=v.bn.getD 0 0 then wh c v u (a u) r y else y)
 else y
theorem at3{c:bk}{sndT:Int->Rec->bX->bX}{v:bC}{f:Int}{u:Nat}{r:Rec}{x:bX}(a:¬x.2.n=1000)(i:c.l[u]?=eL v):qo c sndT f u r x=eJ c sndT v f u r (dC x):=by
 unfold qo eJ;rw[gQ a,i]<;>cases c.c0 u<;>rfl
section
variable {id s m:Nat} {b:At} {c:bk}
theorem at4(o:et c){a:Int->Rec->bX->bX}{f:Int}{u:Nat}{v:bC}(M:c.l[u]?=eL v)(kc:c.P[u]?=eL c.part)
  (oI:∀(y:Rec) (h:I) (Z:cM) (x:bX),hR h Z id s m b c x->Inv c x->sz x+24<=2^30->au mP 88 [.ptr s 0,.int gj u,.agg (aR y)] h (l5 id s m b c h Z (a u y x)))
  (q5:∀y,fT c 24 (a u y)) {h:I} {Z:cM} {x:bX} (k:hR h Z id s m b c x) (i:Inv c x) (bq:sz x+1<=2^30) (r:Rec) :
  au mP 119 [.ptr s 0,.int gj f,.int gj u,.agg (aR r)] h (l5 id s m b c h Z (qo c a f u r x)):=by
 refine a7 Tryz.func119 rfl ?_;obtain⟨cE,cK,dd,dg,aa⟩:=k.qp;obtain⟨H,hH,bl,je,hx⟩:=bU h (.cells (aR r) 45 eN);have ji:=k.aY bl;have mu:=aa.aY bl;have gs:=mu.get;have W:cw (eL (eL 3)) (eL (aR r))=eL (.agg (aR r)):=rfl;have X:cI (.cells (aR r) 45 eN) 0=eL (aR r):=rfl;simp only[ae,ds,reduceCtorEq,al];rw[<-hH];clear hH;have b7:=i.n;by_cases aF:x.2.n=1000
 .have oa:((x.2.n:Int)==1000)=true:=by rw[beq_iff_eq];omega
  have GB:qo c a f u r x=pT u r 3 x:=by unfold qo;rw[gr aF]
  rw[GB];simp only[ae,ds,AT,By,reduceCtorEq,al,gs,oa,je,W,X];refine cp (Ho ji u r 3 (RZ bq)) λq aD ⟨az,h6,o9,k3⟩=>?_;subst az;simp only[ae,aJ];exact ar ⟨rfl,h6,gZ.step k.aO bl o9,k3⟩
 have oa:((x.2.n:Int)==1000)=false:=by rw[beq_eq_false_iff_ne];omega
 obtain⟨DQ,SK,MH⟩:=RX i aF;have hw:aPh.i64.wrap ((x.2.n:Int)+1)=((x.2.n+1:Nat):Int):=by rw[kp _ (by omega)];omega
 have ab:bD (eL 1) (aP.cells [.ptr m 0,cE,cK,dd,dg,.int gj (x.2.n:Int)] 163 eN) 5 [.int gj ((x.2.n+1:Nat):Int)]=eL (.cells [.ptr m 0,cE,cK,dd,dg,.int gj ((x.2.n+1:Nat):Int)] 163 eN):=rfl;obtain⟨bZ,bN⟩:∃y,y=H.set s (.cells [.ptr m 0,cE,cK,dd,dg,.int gj ((x.2.n+1:Nat):Int)] 163 eN):=⟨_,rfl⟩;have k2:J H bZ (·=s):=by rw[bN];exact J.set _ _ _
 have c6:bZ.n=H.n:=by rw[bN];rfl
 have g2:bZ.get s=.cells [.ptr m 0,cE,cK,dd,dg,.int gj ((x.2.n+1:Nat):Int)] 163 none:=by rw[bN];exact aM
 obtain⟨xh,c4,gD⟩:=ji.inc mu k2 g2;have fe:=c4.ef.get;rw[ce]at fe;have s5:=aa.lt;have ot:=(k2.get h.n (by omega) (by omega)).trans je;obtain⟨fO,b0⟩:=Hr (kk:=.i64) M;have DN:cw (eL (eL 6)) (eL (ao v++fO))=eL (.agg (ao v)):=j1 (lp v);have jP:(kB (ao v)).cells=eL (ao v):=rfl;have Hs:bD (eL 6) (aP.cells [kA gj 0,.ah,.int gj 0,.int gj 0,.ah,.int gj 0] 68 eN) 0 (ao v)=eL (.cells (ao v) 68 eN):=by
  obtain⟨c0,aO,⟨o,q,aQ⟩,n⟩:=v;rfl
 simp only[ae,ds,AT,By,reduceCtorEq,al,gs,oa,hw,ab];rw[<-bN];clear bN;obtain⟨hb,gW,k3,wb,n3⟩:=bU bZ (.cells (ao v) 68 eN);have S:=c4.aY k3;have nX:=(k3.get h.n (by omega) (by simp[kR])).trans ot;have T:gZ id h Z hb Z:=gZ.step k.aO bl (xh.trans (gZ.push c4.aO k3));have af:cI (.cells (ao v) 68 eN) 0=eL (ao v):=rfl;have z:cw (eL eN) (eL (ao v))=eL (.int gj v.kind):=rfl;simp only[ae,ds,AT,al,fe,b0,DN,jP,Hs];rw[<-gW];clear gW;have bM:=at3 (sndT:=a) (f:=f) (r:=r) aF M;rw[bM];have Yo:sz (dC x)+2100<=2^30:=by omega
 obtain⟨ai,Ac,Yp⟩:=o.gJ M;have Cl:v.kind=1\/v.kind=2\/v.kind=3\/v.kind=4\/v.kind=5\/v.kind=6\/v.kind=7\/v.kind=8\/v.kind=9\/v.kind=10:=by omega
 rcases Cl with j|j|j|j|j|j|j|j|j|j
 .
  rw[j]at z;have D:((1:Int)==2)=false:=rfl;have L:((1:Int)==3)=false:=rfl;have N:((1:Int)==4)=false:=rfl;have C:((1:Int)==5)=false:=rfl;have O:((1:Int)==6)=false:=rfl;have Q:((1:Int)==7)=false:=rfl;have R:((1:Int)==8)=false:=rfl;have Y:((1:Int)==9)=false:=rfl;have B:((1:Int)==10)=false:=rfl;have A:eJ c a v f u r (dC x)=dC x:=by unfold eJ;simp[j]
  rw[A];simp only[ae,ds,z,D,L,N,C,O,Q,R,Y,B,aJ];exact ar ⟨rfl,Z,T,S⟩
 .
  rw[j]at z;have D:((2:Int)==2)=true:=rfl;have L:((2:Int)==3)=false:=rfl;have N:((2:Int)==4)=false:=rfl;have C:((2:Int)==5)=false:=rfl;have O:((2:Int)==6)=false:=rfl;have Q:((2:Int)==7)=false:=rfl;have R:((2:Int)==8)=false:=rfl;have Y:((2:Int)==9)=false:=rfl;have B:((2:Int)==10)=false:=rfl;have A:eJ c a v f u r (dC x)=qn v u (a u) r (dC x):=by unfold eJ;simp[j]
  rw[A];simp only[ae,ds,reduceCtorEq,al,z,C,B,nX,W,X];refine cp (AR We M (th:=a u) oI q5 S DQ (by omega) r) λq br ⟨az,E,F,G⟩=>?_;subst az;simp only[ae,aJ];exact ar ⟨rfl,E,T.trans F,G⟩
 .
  rw[j]at z;have D:((3:Int)==2)=false:=rfl;have L:((3:Int)==3)=true:=rfl;have N:((3:Int)==4)=false:=rfl;have C:((3:Int)==5)=false:=rfl;have O:((3:Int)==6)=false:=rfl;have Q:((3:Int)==7)=false:=rfl;have R:((3:Int)==8)=false:=rfl;have Y:((3:Int)==9)=false:=rfl;have B:((3:Int)==10)=false:=rfl;have A:eJ c a v f u r (dC x)=qn v u (a u) r (dC x):=by unfold eJ;simp[j]
  rw[A];simp only[ae,ds,reduceCtorEq,al,z,D,C,B,nX,W,X];refine cp (AR We M (th:=a u) oI q5 S DQ (by omega) r) λq br ⟨az,E,F,G⟩=>?_;subst az;simp only[ae,aJ];exact ar ⟨rfl,E,T.trans F,G⟩
 .
  rw[j]at z;have D:((4:Int)==2)=false:=rfl;have L:((4:Int)==3)=false:=rfl;have N:((4:Int)==4)=true:=rfl;have C:((4:Int)==5)=false:=rfl;have O:((4:Int)==6)=false:=rfl;have Q:((4:Int)==7)=false:=rfl;have R:((4:Int)==8)=false:=rfl;have Y:((4:Int)==9)=false:=rfl;have B:((4:Int)==10)=false:=rfl;have A:eJ c a v f u r (dC x)=qn v u (a u) r (dC x):=by unfold eJ;simp[j]
  rw[A];simp only[ae,ds,reduceCtorEq,al,z,D,L,C,B,nX,W,X];refine cp (AR We M (th:=a u) oI q5 S DQ (by omega) r) λq br ⟨az,E,F,G⟩=>?_;subst az;simp only[ae,aJ];exact ar ⟨rfl,E,T.trans F,G⟩
 .
  rw[j]at z;have D:((5:Int)==2)=false:=rfl;have L:((5:Int)==3)=false:=rfl;have N:((5:Int)==4)=false:=rfl;have C:((5:Int)==5)=true:=rfl;have O:((5:Int)==6)=false:=rfl;have Q:((5:Int)==7)=false:=rfl;have R:((5:Int)==8)=false:=rfl;have Y:((5:Int)==9)=false:=rfl;have B:((5:Int)==10)=false:=rfl;have A:eJ c a v f u r (dC x)=qn v u (nS u) r (dC x):=by unfold eJ;simp[j]
  rw[A];simp only[ae,ds,reduceCtorEq,al,z,B,nX,W,X];refine cp (AR ab3 M (th:=nS u) (λy h' ad cb k' Gc JB=>Od k' u y (afA JB)) (λy=>(Ol c u y).mono (by omega)) S DQ (by omega) r) λq br ⟨az,E,F,G⟩=>?_;subst az;simp only[ae,aJ];exact ar ⟨rfl,E,T.trans F,G⟩
 .
  rw[j]at z;have D:((6:Int)==2)=false:=rfl;have L:((6:Int)==3)=false:=rfl;have N:((6:Int)==4)=false:=rfl;have C:((6:Int)==5)=false:=rfl;have O:((6:Int)==6)=true:=rfl;have Q:((6:Int)==7)=false:=rfl;have R:((6:Int)==8)=false:=rfl;have Y:((6:Int)==9)=false:=rfl;have B:((6:Int)==10)=false:=rfl;obtain⟨K,yN⟩:=o.c0 M kc (by omega);have A:eJ c a v f u r (dC x)=tB K v u (a u) r (dC x):=by unfold eJ;simp[j,yN]
  rw[A];simp only[ae,ds,reduceCtorEq,al,z,D,L,N,C,B,nX,W,X];refine cp (Yl M yN oI S DQ Yo r) λq br ⟨az,E,F,G⟩=>?_;subst az;simp only[ae,aJ];exact ar ⟨rfl,E,T.trans F,G⟩
 .
  rw[j]at z;have D:((7:Int)==2)=false:=rfl;have L:((7:Int)==3)=false:=rfl;have N:((7:Int)==4)=false:=rfl;have C:((7:Int)==5)=false:=rfl;have O:((7:Int)==6)=false:=rfl;have Q:((7:Int)==7)=true:=rfl;have R:((7:Int)==8)=false:=rfl;have Y:((7:Int)==9)=false:=rfl;have B:((7:Int)==10)=false:=rfl;obtain⟨K,yN⟩:=o.c0 M kc (by omega);have A:eJ c a v f u r (dC x)=tB K v u (a u) r (dC x):=by unfold eJ;simp[j,yN]
  rw[A];simp only[ae,ds,reduceCtorEq,al,z,D,L,N,C,O,B,nX,W,X];refine cp (Yl M yN oI S DQ Yo r) λq br ⟨az,E,F,G⟩=>?_;subst az;simp only[ae,aJ];exact ar ⟨rfl,E,T.trans F,G⟩
 .
  rw[j]at z;have D:((8:Int)==2)=false:=rfl;have L:((8:Int)==3)=false:=rfl;have N:((8:Int)==4)=false:=rfl;have C:((8:Int)==5)=false:=rfl;have O:((8:Int)==6)=false:=rfl;have Q:((8:Int)==7)=false:=rfl;have R:((8:Int)==8)=true:=rfl;have Y:((8:Int)==9)=false:=rfl;have B:((8:Int)==10)=false:=rfl;obtain⟨K,yN⟩:=o.c0 M kc (by omega);have A:eJ c a v f u r (dC x)=tB K v u (a u) r (dC x):=by unfold eJ;simp[j,yN]
  rw[A];simp only[ae,ds,reduceCtorEq,al,z,D,L,N,C,O,Q,B,nX,W,X];refine cp (Yl M yN oI S DQ Yo r) λq br ⟨az,E,F,G⟩=>?_;subst az;simp only[ae,aJ];exact ar ⟨rfl,E,T.trans F,G⟩
 .
  rw[j]at z;have D:((9:Int)==2)=false:=rfl;have L:((9:Int)==3)=false:=rfl;have N:((9:Int)==4)=false:=rfl;have C:((9:Int)==5)=false:=rfl;have O:((9:Int)==6)=false:=rfl;have Q:((9:Int)==7)=false:=rfl;have R:((9:Int)==8)=false:=rfl;have Y:((9:Int)==9)=true:=rfl;have B:((9:Int)==10)=false:=rfl;have lN:=at2 Yp j;have R2:cI (.cells (ao v) 68 eN) 1=eL (.ag v.bn.length (ax v.bn)::(aN v.e++[.int gj v.n])):=rfl;have IQ:cw (eL eN) (eL (.ag v.bn.length (ax v.bn)::(aN v.e++[.int gj v.n])))=eL (.ag v.bn.length (ax v.bn)):=rfl;have CC:v.bn.getD 0 0=v.bn[0]:=by rw[ayX,Jt (by omega)];rfl
  have eU:∃t,hC mP 46 (.ag v.bn.length (ax v.bn)) (.int gj 0)=eL (.at (.int gj (v.bn.getD 0 0)::t)):=⟨_,by rw[CC];exact vH (P:=mP) (kk:=.i64) (k:=0) (by omega) kE⟩;obtain⟨av,eU⟩:=eU;cases IU:(f==v.bn.getD 0 0)
  .have bO:f≠v.bn.getD 0 0:=(by simpa using IU);have A:eJ c a v f u r (dC x)=dC x:=(by unfold eJ;simp only[j];rw[gQ (by decide),gQ (by decide),gQ (by decide),gr trivial,gQ bO]);rw[A];simp only[ae,ds,al,z,D,L,N,C,O,Q,R,B,wb,R2,IQ,eU,IU,aJ];exact ar ⟨rfl,Z,T,S⟩
  .have bO:f=v.bn.getD 0 0:=(by simpa using IU);have A:eJ c a v f u r (dC x)=wh c v u (a u) r (dC x):=(by unfold eJ;simp only[j];rw[gQ (by decide),gQ (by decide),gQ (by decide),gr trivial,gr bO]);rw[A];simp only[ae,ds,reduceCtorEq,al,z,D,L,N,C,O,Q,R,B,wb,R2,IQ,eU,IU,nX,W,X];refine cp (at0 M lN Ac oI S DQ (by omega) r) λq br ⟨az,E,F,G⟩=>?_;subst az;simp only[ae,aJ];exact ar ⟨rfl,E,T.trans F,G⟩
 .
  rw[j]at z;have D:((10:Int)==2)=false:=rfl;have L:((10:Int)==3)=false:=rfl;have N:((10:Int)==4)=false:=rfl;have C:((10:Int)==5)=false:=rfl;have O:((10:Int)==6)=false:=rfl;have Q:((10:Int)==7)=false:=rfl;have R:((10:Int)==8)=false:=rfl;have Y:((10:Int)==9)=false:=rfl;have B:((10:Int)==10)=true:=rfl;have A:eJ c a v f u r (dC x)=qn v u (nS u) r (dC x):=by unfold eJ;simp[j]
  rw[A];simp only[ae,ds,reduceCtorEq,al,z,nX,W,X];refine cp (AR ab3 M (th:=nS u) (λy h' ad cb k' Gc JB=>Od k' u y (afA JB)) (λy=>(Ol c u y).mono (by omega)) S DQ (by omega) r) λq br ⟨az,E,F,G⟩=>?_;subst az;simp only[ae,aJ];exact ar ⟨rfl,E,T.trans F,G⟩
end
section
variable {id s m:Nat} {b:At} {c:bk}
theorem at6(v:Int)(h:I):au mP 118 [.ptr m 0,.int gj v] h (λr h'=>r=.func (.func 152) [] [.ptr h.n 0,.ptr (h.n+1) 0]/\h'=(h.push (.cells [.ptr m 0] 85 eN)).push (.cells [.int gj v] 3 eN)):=by
 refine a7 Tryz.func118 rfl ?_;simp only[ae,ds,aJ];exact ar ⟨rfl,rfl⟩
theorem at7{l:List Int}{t:Nat}(a:t<l.length){F:bX->Nat->bX}{P:List Int}{part:Int}{x:bX} :
  (((l.take (t+1)).map ay4).filter λu=>P.getD u 0==part).foldl F x=if P.getD l[t].toNat 0==part then F ((((l.take t).map ay4).filter λu=>P.getD u 0==part).foldl F x) l[t].toNat else(((l.take t).map ay4).filter λu=>P.getD u 0==part).foldl F x:=by
 rw[ayY a,List.map_append,List.filter_append,aAA];cases i:(P.getD l[t].toNat 0==part)<;>(simp only[ajF,List.map_nil,List.filter_cons,List.filter_nil,i];rfl)
theorem aua(o:et c){l:Nat}{v:Int}{bm bv:Nat}{F:bX->Nat->bX}(k9:∀u,fT c 1 λx=>F x u){h:I}{D:cM}{x:bX}(k:hR h D id s m b c x)(i:Inv c x)(bq:sz x+24<=2^30)
  (T2:h.get bm=.cells [.ptr m 0] 85 eN) (T:h.get bv=.cells [.int gj v] 3 eN) (T3:bm<h.n) (af:bv<h.n) (T4:D bm=(0,0)) (kV:D bv=(0,0))
  (aH:∀u:Nat,(u:Int)∈ir v 0 c.l->c.P[u]?=eL c.part->∀(h':I) (E:cM) (X:bX),gZ id h D h' E->hR h' E id s m b c X->Inv c X->sz X+1<=2^30->mf mP l [.int gj (u:Int)] h' (λr M=>r=.bool e6/\∃R,gZ id h' E M R/\hR M R id s m b c (F X u))) :
  au mP 152 [.func (.yield l) [] [],.ptr bm 0,.ptr bv 0] h (λ_ aD=>∃h6,gZ id h D aD h6/\hR aD h6 id s m b c ((c.us v).foldl F x)):=by
 have IV:c.P.length=c.l.length:=Fm o.ti;have rA:=o.len;have fe:=k.ef.get;rw[ce]at fe;have IA:(ir v 0 c.l).length<=24:=by have:=He (v:=v) (l:=c.l) (j:=0);omega
 refine a7 Tryz.func152 rfl ?_;simp only[ae];have W:cI (.cells [.ag c.l.length (c.l.flatMap ao),.int gj c.p,.ag c.P.length (ax c.P),.int gj c.part,.ptr b.mq 0,.map b.mp] 150 eN) 0=eL [.ag c.l.length (c.l.flatMap ao),.int gj c.p,.ag c.P.length (ax c.P),.int gj c.part,.ptr b.mq 0,.map b.mp]:=rfl;have T5:cw (eL (eL 2)) (eL [.ag c.l.length (c.l.flatMap ao),.int gj c.p,.ag c.P.length (ax c.P),.int gj c.part,.ptr b.mq 0,.map b.mp])=eL (.agg (cx c.l c.p)):=rfl;refine aT.cL kR [] (.q 0 (.q 1 (.q 2 (.q 3 (.q 4 (.c 5 (.q 6 (.q 7 .done)))))))) ?_;simp only[ae,bw,ds,al,T2,T,fe,W,T5];refine gh rfl rfl rfl (λh' hk=>aeC c.l c.p v o.ok (by omega) h') ?_;simp only[ae,bw,ds,hI];obtain⟨z,Y⟩:∃z,z=ir v 0 c.l:=⟨_,rfl⟩;have fy:∀q∈z,∃u:Nat,q=(u:Int)/\u<c.l.length/\(u:Int)∈ir v 0 c.l:=λq Z=>by
  rw[Y]at Z;obtain⟨gz,vx,e,M,_⟩:=Hd.1 Z;refine⟨gz,by simpa using e,(axB.1 M).1,?_⟩;have:q=(gz:Int):=by simpa using e
  rw[<-this];exact Z
 have On:c.us v=(z.map ay4).filter λu=>c.P.getD u 0==c.part:=by rw[Y];rfl
 rw[On];rw[<-Y]at IA⊢;have aa:((((z.take z.length).map ay4).filter λu=>c.P.getD u 0==c.part).foldl F x)=((z.map ay4).filter λu=>c.P.getD u 0==c.part).foldl F x:=by rw[azB]
 refine aT.bG (α:=Nat×cM) (λy f h'=>f 0=.func (.yield l) [] []/\f 1=.ptr bm 0/\f 2=.ptr bv 0/\f 11=.ag z.length (ax z)/\f 12=.int gj (z.length:Int)/\f 13=.int gj (y.1:Nat)/\y.1<=z.length /\
   gZ id h D h' y.2/\hR h' y.2 id s m b c ((((z.take y.1).map ay4).filter λu=>c.P.getD u 0==c.part).foldl F x)/\cF c y.1 x ((((z.take y.1).map ay4).filter λu=>c.P.getD u 0==c.part).foldl F x)) (λy=>z.length-y.1) (0,D)
  ⟨rfl,rfl,rfl,rfl,rfl,rfl,D8 _,gZ.refl k.aO,k,cF.refl i⟩ ?_
 rintro⟨t,C⟩ f h1 ⟨f0,S,f2,G,B,A,bA,bK,kk,H⟩
 simp only at A bA bK kk H;refine wpS ?_;by_cases N:t<z.length
 .have az:=dK t z.length;have hw:=km N (by omega);have eU:=vH (P:=mP) (kk:=.i64) N kE;have L:=at7 (F:=F) (P:=c.P) (part:=c.part) (x:=x) N;obtain⟨u,hu,av,R3⟩:=fy _ (ayz N);rw[hu]at L eU;rw[ayw]at L;have T6:c.P.getD u 0=c.P[u]'(by omega):=by rw[ayX,Jt (by omega)];rfl
  have zb:=vH (P:=mP) (l:=c.P) (kk:=.i64) (k:=u) (by omega) kE;rw[<-T6]at zb;have Oo:=(bK.ai.get bm T3 (λU=>by unfold cW at U;rw[T4]at U;exact k.oq U.1.symm)).trans T2;have Oq:=kk.ef.get;rw[ce]at Oq;generalize(((z.take t).map ay4).filter λu=>c.P.getD u 0==c.part).foldl F x=X at L kk H;simp only[ae,ds,al,G,B,A,az,eU];have m1:cW C id bm=False:=eq_false λU=>by unfold cW at U;rw[bK.bH bm T3,T4]at U;exact k.oq U.1.symm
  have m2:cW C id m=False:=eq_false λU=>by unfold cW at U;rw[kk.ef.own]at U;simp at U
  cases O:(c.P.getD u 0==c.part)
  .rw[O]at L;have Q:=L.trans (gQ (by decide));refine aT.cL (λq=>cW C id q) [15] (.q 0 (.q 1 (.q 2 (.q 3 (.q 4 (.q 5 (.q 6 (.q 7 (.q 8 (.q 9 (.q 10 (.q 11 (.q 12 (.q 13 (.q 14 (.a 15 (.q 16 (.q 17 .done)))))))))))))))))) ?_;simp only[ae,bw,e4,ds,AT,By,al,S,A,Oo,Oq,zb,O,m1,m2,hw];exact ar ⟨(t+1,C),⟨f0,S,f2,G,B,rfl,N,bK,by have U:=kk;rw[<-Q]at U;exact U,by have U:=H.mono (Nat.le_succ t);rw[<-Q]at U;exact U⟩,by simp only;omega⟩
  .rw[O]at L;have Q:=L.trans (gr rfl);refine aT.cL (λq=>cW C id q) [15] (.q 0 (.q 1 (.q 2 (.q 3 (.q 4 (.q 5 (.q 6 (.q 7 (.q 8 (.q 9 (.q 10 (.q 11 (.q 12 (.q 13 (.q 14 (.a 15 (.q 16 (.q 17 .done)))))))))))))))))) ?_;simp only[ae,bw,e4,ds,AT,By,reduceCtorEq,al,f0,S,Oo,Oq,zb,O,m1,m2];have Aa:c.P[u]?=eL c.part:=by
    rw[Jt (by omega),<-T6];simpa using O
   refine al5 (aH u R3 Aa h1 C X bK kk H.inv (by have:=H.sz;omega)) λq M ⟨bd,R,xh,k2⟩=>?_;subst bd;have lK:J h1 M (λq=>cW C id q):=xh.ai;simp only[ae,bw,e4,ds,A,hw];exact ar ⟨(t+1,R),⟨f0,S,f2,G,B,rfl,N,bK.trans xh,by have U:=k2;rw[<-Q]at U;exact U,by have U:cF c (t+1) x (F X u):=H.trans (k9 u X H.inv);rw[<-Q]at U;exact U⟩,by simp only;omega⟩
 .have az:=dY t z.length;obtain rfl:t=z.length:=by omega
  rw[aa]at kk;simp only[ae,B,A,az,aJ];exact ar ⟨C,bK,kk⟩
end
section
variable {id s m:Nat} {b:At} {c:bk}
structure afN(h:I)(s m:Nat)(v:Int)(r:Rec)(f:aj)(h1:I):Prop where
 f3:f 3=.ptr h.n 0
 f4:f 4=.ptr (h.n+1) 0
 f5:f 5=.ptr (h.n+2) 0
 f12:f 12=.func (.func 152) [] [.ptr (h.n+3) 0,.ptr (h.n+4) 0]
 n:h1.n=h.n+5
 ai:J h h1 kR
 g0:h1.get h.n=.cells [.ptr s 0] 161 eN
 g1:h1.get (h.n+1)=.cells [.int gj v] 3 eN
 g2:h1.get (h.n+2)=.cells (aR r) 45 eN
 g3:h1.get (h.n+3)=.cells [.ptr m 0] 85 eN
 g4:h1.get (h.n+4)=.cells [.int gj v] 3 eN
theorem afO(o:et c){sndT:Int->Rec->bX->bX}{v:Int}
  (oI:∀(u:Nat),(u:Int)∈ir v 0 c.l->c.P[u]?=eL c.part->∀(y:Rec) (h:I) (M:cM) (x:bX),hR h M id s m b c x->Inv c x->sz x+24<=2^30->au mP 88 [.ptr s 0,.int gj u,.agg (aR y)] h (l5 id s m b c h M (sndT u y x)))
  (q5:∀u y,fT c 24 (sndT u y)) {h:I} {M:cM} {x:bX} (k:hR h M id s m b c x) (i:Inv c x) (bq:sz x+24<=2^30) (r:Rec) :
  au mP 88 [.ptr s 0,.int gj v,.agg (aR r)] h (l5 id s m b c h M ((c.us v).foldl (λx u=>qo c sndT v u r x) x)):=by
 refine au.jw (g:=12) (p:=13) (gf:=152) Tryz.func88 rfl apN (Nat.le_of_ble_eq_true rfl) (K:=afN h s m v r) (caps:=λ_=>[.ptr (h.n+3) 0,.ptr (h.n+4) 0]) ?_ (λf A E=>E.f12) ?_
 .obtain⟨cE,cK,dd,dg,aa⟩:=k.qp;refine wpS ?_;simp only[ae,ds];obtain⟨H,hH⟩:∃y,y=((h.push (.cells [.ptr s 0] 161 eN)).push (.cells [.int gj v] 3 eN)).push (.cells (aR r) 45 eN):=⟨_,rfl⟩;have hx:H.n=h.n+3:=by rw[hH];rfl
  have bl:J h H kR:=by rw[hH];exact((J.push _ _ _).bp _).bp _
  have g0:H.get h.n=.cells [.ptr s 0] 161 none:=by
   rw[hH,iZ (by rw[dn,dn];omega),iZ (by rw[dn];omega),ac]
  have g1:H.get (h.n+1)=.cells [.int gj v] 3 none:=by
   rw[hH,iZ (by rw[dn,dn];omega)];exact ac
  have g2:H.get (h.n+2)=.cells (aR r) 45 none:=by rw[hH];exact ac
  have gs:=(aa.aY bl).get;rw[<-hH];clear hH;change aT _ _ _ (qF.go (qF.fn λz f h_1=>z=cR.normal/\afN h s m v r f h_1)) _ _;refine aT.cL (λq=>False) [5] (.q 0 (.q 1 (.q 2 (.q 3 (.q 4 (.a 5 .done)))))) ?_;simp only[ae,bw,e4,ds,AT,al,g0,g1,gs];refine cp (at6 v H) λq O ⟨az,W⟩=>?_;subst az;have Q:J H O kR:=by rw[W];exact(J.push _ _ _).bp _
  have lK:J H O (λ_=>False):=Q.mono λq G=>by simp[kR]at G
  have u5:O.n=h.n+5:=by rw[W,dn,dn];omega
  have g3:O.get (h.n+3)=.cells [.ptr m 0] 85 none:=by
   rw[W,iZ (by rw[dn];omega),<-hx];exact ac
  have g4:O.get (h.n+4)=.cells [.int gj v] 3 none:=by
   rw[W,show h.n+4=(H.push (.cells [.ptr m 0] 85 eN)).n by rw[dn];omega];exact ac
  simp only[ae,bw];exact⟨rfl,rfl,rfl,by show V.func (.func 152) [] [.ptr H.n 0,.ptr (H.n+1) 0]=_;rw[hx],u5,bl.trans' Q,(Q.get _ (by omega) (by simp[kR])).trans g0,(Q.get _ (by omega) (by simp[kR])).trans g1,(Q.get _ (by omega) (by simp[kR])).trans g2,g3,g4⟩
 .intro f A E l D q B Y;have k2:J A B kR:=by rw[Y];exact(J.push _ _ _).bp _
  have eh:=E.n;have c6:B.n=A.n+2:=by rw[Y,dn,dn]
  have nN:=(iy (λH=>H.get (A.n+1)) Y).trans ac;have B2:B.get A.n=.k0 D (λ_=>.deferred (eL [])) []:=by rw[Y,iZ (by rw[dn];omega)];exact ac
  have T7:J h B kR:=E.ai.trans' k2;have c4:=k.aY T7;have C:∀q,h.n<=q->M q=(0,0):=λq G=>k.aO q G;have R:∀q,q<A.n->B.get q=A.get q:=λq G=>k2.get q G (by simp[kR]);refine(aua o (l:=l) (v:=v) (bm:=h.n+3) (bv:=h.n+4) (F:=λX u=>qo c sndT v u r X) (λu=>RY q5 v u r) c4 i bq ((R _ (by omega)).trans E.g3) ((R _ (by omega)).trans E.g4) (by omega) (by omega) (C _ (by omega)) (C _ (by omega)) ?_).mono ?_
  .intro u hu kc h' S X cP k' Gc sV;obtain⟨gz,w,e,hw,_⟩:=Hd.1 hu;have Ou:u=gz:=by omega
   subst Ou;have Z:∀q,h.n<=q->q<B.n->h'.get q=B.get q:=λq A B=>cP.ai.get q B λU=>by
    unfold cW at U;rw[C q A]at U;exact k.oq U.1.symm
   have Ov:∀q,h.n<=q->q<B.n->S q=(0,0):=λq A B=>(cP.bH q B).trans (C q A);have Ow:=(Z (A.n+1) (by omega) (by omega)).trans nN;have oa:=((Z h.n (by omega) (by omega)).trans (R _ (by omega))).trans E.g0;have dL:=((Z (h.n+1) (by omega) (by omega)).trans (R _ (by omega))).trans E.g1;have ck:=((Z (h.n+2) (by omega) (by omega)).trans (R _ (by omega))).trans E.g2;have mS:=cP.ai.n;refine mf.of (i:=A.n+1) (p:=13) (f:=f) (by decide) Ow (λT N=>N=h'/\T 3=.ptr h.n 0/\T 4=.ptr (h.n+1) 0/\T 5=.ptr (h.n+2) 0/\T 6=.int gj (u:Nat)) ?_ ?_
   .refine rk.region (by kernel_rfl) ?_;change @iY _ _ _ (fS.fn _ _) _ _;simp only[ae,ds];exact⟨Ow,E.f3,E.f4,E.f5,rfl⟩
   .rintro T N ⟨rfl,fP,ku,vN,af⟩
    refine rk.block (rk.region (by kernel_rfl) ?_);have vS:∀o,(N.set (A.n+1) o).get h.n=.cells [.ptr s 0] 161 none:=λo=>by rw[nk (by omega)];exact oa
    have s1:∀o,(N.set (A.n+1) o).get (h.n+1)=.cells [.int gj v] 3 none:=λo=>by rw[nk (by omega)];exact dL
    have s2:∀o,(N.set (A.n+1) o).get (h.n+2)=.cells (aR r) 45 none:=λo=>by rw[nk (by omega)];exact ck
    have ld:cw (eL (eL 3)) (eL (aR r))=eL (.agg (aR r)):=rfl;have d0:cI (.cells (aR r) 45 eN) 0=eL (aR r):=rfl;have c8:∀o,hR (N.set (A.n+1) o) S id s m b c X:=λo=>k'.sW (J.set _ _ _) (Ov _ (by omega) (by omega));change @iY _ _ _ (fS.fn _ _) _ _;have kV:=λob=>at4 o (f:=v) hw kc (oI u hu kc) (q5 u) (c8 ob) Gc sV r;have bO:A.n+1<B.n:=by omega
    simp only[ae,ds,al,fP,ku,vN,af,vS,s1,s2,ld,d0];refine cp (kV _) λcY br a6=>?_;obtain⟨az,e5,L,cg⟩:=a6;subst az;simp only[ae];have Yq:=L.ai.n;rw[jM]at Yq;have g4:=(L.ai.get (A.n+1) (by rw[jM];omega) (λU=>by
     unfold cW at U;rw[Ov _ (by omega) (by omega)]at U;exact k.oq U.1.symm)).trans aM
    refine⟨g4,e5,⟨λq G=>L.bH q (by rw[jM];exact G),?_,L.aO,trivial⟩,cg.sW (J.set _ _ _) ((L.bH _ (by rw[jM];omega)).trans (Ov _ (by omega) (by omega)))⟩;refine⟨by rw[jM];exact Yq,λj aV hm=>?_,L.ai.glob⟩;by_cases c1:j=A.n+1
    .subst c1;exact aM.trans Ow.symm
    .rw[nk c1];exact(L.ai.get j (by rw[jM];exact aV) hm).trans (nk c1)
  .rintro _ aD ⟨h6,o9,k3⟩
   have T8:∀q,h.n<=q->q<B.n->aD.get q=B.get q:=λq A B=>o9.ai.get q B λU=>by
    unfold cW at U;rw[C q A]at U;exact k.oq U.1.symm
   have yO:∀q,h.n<=q->q<B.n->h6 q=(0,0):=λq A B=>(o9.bH q B).trans (C q A);refine⟨(T8 _ (by omega) (by omega)).trans nN,(T8 _ (by omega) (by omega)).trans B2,.tuple [],rfl,rfl,h6,?_,?_⟩
   .have az:=gZ.step k.aO T7 o9;have c8:J aD ((aD.set (A.n+1) .dead).set A.n .dead) (λq=>q=A.n+1\/q=A.n):=((J.set _ _ _).mono λq G=>.inl G).trans' ((J.set _ _ _).mono λq G=>.inr G);exact⟨az.bH,az.ai.trans c8 (λq G U=>by omega),az.aO,trivial⟩
   .exact(k3.sW (J.set _ (A.n+1) _) (yO _ (by omega) (by omega))).sW (J.set _ A.n _) (yO _ (by omega) (by omega))
end
section
variable {id s m:Nat} {b:At} {c:bk}
theorem afP(o:et c){v:Int}{u:Nat}(h:(u:Int)∈ir v 0 c.l):v<(u:Int)/\u<c.l.length:=by
 obtain⟨q,w,e,i,z⟩:=Hd.1 h;have A:u=q:=by omega
 subst A;have a:=(DJ o.ti).2.2.2.2.2 u w i;have B:=(axB.1 i).1;unfold dV at a;split at a
 .cases a
 split at a
 .cases a
 rename_i j;simp only[List.any_eq_true,ig,not_exists,not_and]at j;have:=j v z;omega
theorem aue(c:bk):fT c 24 (λx=>x):=λx i=>(cF.refl i).mono (by omega)
theorem Yr(o:et c):∀(k:Nat) (v:Int),(c.l.length:Int)<=v+k->∀(y:Rec) (h:I) (j:cM) (x:bX),hR h j id s m b c x->Inv c x->sz x+24<=2^30->au mP 88 [.ptr s 0,.int gj v,.agg (aR y)] h (l5 id s m b c h j (oH c k v y x))
 | 0,v,C,y,h,j,x,A,i,bq=>by
  have B:∀u:Nat,¬(u:Int)∈ir v 0 c.l:=λu q=>by have:=afP o q;omega
  have D:c.us v=[]:=by
   unfold bk.us;have:ir v 0 c.l=[]:=by
    cases E:ir v 0 c.l with
    | nil=>rfl
    | cons a r=>
     have aW:a∈ir v 0 c.l:=(by rw[E];simp);obtain⟨F,w,e,_,_⟩:=Hd.1 aW;rw[Nat.zero_add]at e;rw[e]at aW;exact absurd aW (B F)
   rw[this];rfl
  have:=afO o (sndT:=λ_ _ x=>x) (v:=v) (λu q=>absurd q (B u)) (λ_ _=>aue c) A i bq y;rw[D]at this;exact this
 | k+1,v,C,y,h,j,x,A,i,bq=>
  afO o (sndT:=oH c k) (v:=v) (λu q _ y h j x=>Yr o k (u:Int) (by have:=(afP o q).1;omega) y h j x) (λu y=>zk o.len k u y) A i bq y
end
def sj(c:bk)(s:cT):Prop:=s.ms.map (·.2.1)=c.ins/\∀e∈s.ms,-1<=e.2.2/\e.2.2<=1099511627776
theorem afQ{a z:Int}:∀{zs:List Int},sf a zs->(∀y∈zs,y<z)->a<z->sf a (zs++[z])
 | [],_,_,h=>⟨h,trivial⟩
 | y::r,⟨j,m⟩,i,h=>⟨j,afQ m (λw q=>i w (by simp[q])) (i y (by simp))⟩
theorem afR(l:List bC)(P:List Int)(part:Int):∀i,sf (-1) (nR l P part i)/\∀y∈nR l P part i,y<(i:Int)
 | 0=>⟨trivial,by simp[nR]⟩
 | i+1=>by
  obtain⟨m,j⟩:=afR l P part i;unfold nR;split
  .exact⟨afQ m j (by omega),λy a=>by
    rcases axE.1 a with a|a
    .have:=j y a;omega
    .simp at a;omega⟩
  .rw[axA];exact⟨m,λy a=>by have:=j y a;omega⟩
theorem Ys(c:bk):sf (-1) c.ins:=(afR _ _ _ _).1
theorem KA{c:bk}(o:et c):c.ins.length<=24:=by
 have a:=RP c.l (fo c.p c.l) c.part (fo c.p c.l).length;have i:=Fm o.ti;have:=o.len;unfold bk.ins oG;omega
section
variable {id m:Nat} {b:At} {c:bk} {h:I} {ow:cM} {s:cT}
theorem Yt(o:et c)(k:fJ h ow id m b c s)(i:sj c s):Pure mP 80 [.ptr m 0] h (.ag c.ins.length (ax c.ins)):=by
 have a:=k.get;rw[ce]at a;refine a7 Tryz.func80 rfl ?_;simp only[ae,ds,AT,By,reduceCtorEq,al,a];refine bE (atE h _ _ _ _ _ k.marks c.ins i.1 (Ys c) (KA o)) ?_;simp only[ae,ds,aJ];exact ar ⟨rfl,rfl⟩
theorem Yu(o:et c)(k:fJ h ow id m b c s)(a:sj c s)(v:Int):Pure mP 83 [.ptr m 0,.int gj v] h (.bool (c.ins.contains v)):=by
 refine a7 Tryz.func83 rfl ?_;simp only[ae,ds,reduceCtorEq];refine bE (Yt o k a) ?_;simp only[ae,ds];refine bE (ls c.ins v (by have:=KA o;omega) h) ?_;simp only[ae,ds,aJ];exact ar ⟨rfl,rfl⟩
theorem Yv(k:fJ h ow id m b c s)(t:Int):Pure mP 87 [.ptr m 0,.int gj t] h (.agg (aq (l4 c t))):=by
 refine Pure.val (bf.agg (za _)) ?_;have a:=k.get;rw[ce]at a;have i:∀o,(h.push o).get m=.cells [.ag c.l.length (c.l.flatMap ao),.int gj c.p,.ag c.P.length (ax c.P),.int gj c.part,.ptr b.mq 0,.map b.mp] 150 none:=λo=>by rw[iZ k.lt];exact a
 refine a7 Tryz.func87 rfl ?_;simp only[ae,ds,AT,By,reduceCtorEq,al,i,aJ];exact ar ⟨rfl,J.push _ _ _⟩
end
theorem hR.start{h:I}{i:cM}{id m:Nat}{b:At}{c:bk}{s:cT}(k:fJ h i id m b c s)(f:Fr h i)(z:h4 h)(A:id≠0) :
  hR (h.push (.cells [.ptr m 0,.ah,.ah,.ah,.ah,.int gj 0] 163 eN)) (dS i h.n (h.n+1) (id,5)) id h.n m b c (s,eG.none):=by
 have u:J h (h.push (.cells [.ptr m 0,.ah,.ah,.ah,.ah,.int gj 0] 163 eN)) kR:=J.push _ _ _;have B:∀q,q<h.n->dS i h.n (h.n+1) (id,5) q=i q:=λq j=>zj j;refine⟨k.ai u (λ_ _ U=>by simp[kR]at U) B,⟨.ah,.ah,.ah,.ah,by rw[dn];omega,ac,Oc (BY _) (by omega),Own.ah _ _ _,Own.ah _ _ _,Own.ah _ _ _,Own.ah _ _ _,?_,?_,?_,?_⟩,λq j=>?_,z.ai u,A⟩
 iterate 4 (intro q j;simp[gF,aS]at j)
 rw[dn]at j;unfold dS;rw[gQ (by omega)];exact f q (by omega)
theorem fJ.IX{h h':I}{i:cM}{id m:Nat}{b:At}{c:bk}{s:cT}{A:Seen}(k:fJ h i id m b c s)(E:wc h' (.ptr b.mq 0) A b.mq b.rD c.ins.length)(j:J h h' (·=b.rD)):fJ h' i id m b c { s with ms:=A }:=by
 have mt:i b.rD=(id,3):=k.hn.2;have B:∀q t,q<h.n->i q=(id,t)->t≠3->h'.get q=h.get q:=λq t z C N=>j.get q z λU=>by rw[U,mt]at C;simp at C;omega
 refine⟨IS k.lt j.n,(B _ _ k.lt k.own (by omega)).trans k.get,k.own,E,k.hn,IS k.mr j.n,(B _ _ k.mr k.nU (by omega)).trans k.map,k.nU,λu K F=>?_,k.none⟩;obtain⟨a,O,x,G,H,L,D,M⟩:=k.some u K F;exact⟨a,O,x,G,H,L.ai j λq z U=>by have az:=D q z;rw[U,mt]at az;simp at az;omega,D,M⟩
theorem hR.IX{h h':I}{j:cM}{id st m:Nat}{b:At}{c:bk}{x:bX}{s:Seen}(k:hR h j id st m b c x)(u:wc h' (.ptr b.mq 0) s b.mq b.rD c.ins.length)(i:J h h' (·=b.rD)):hR h' j id st m b c ({ x.1 with ms:=s },x.2):=by
 obtain⟨cE,cK,z,A,B⟩:=k.qp;exact⟨k.ef.IX u i,⟨cE,cK,z,A,B.ai i (λq _ U t D E e=>by subst U;rw[k.ef.hn.2]at e;simp at e;omega) λ_ _=>rfl⟩,λq C=>k.aO q (UN i.n C),k.xe.ai i,k.oq⟩
def R4(x:eG):V:=.agg [.ag x.outs.length (x.outs.flatMap jf),.ag x.verts.length (ax x.verts),gU x.chgs,.ag x.deads.length (x.deads.flatMap rE)]
def Steps(id m:Nat)(b:At)(c:bk)(h:I)(i:cM)(y:bX×Int):V->I->Prop:=λq h'=>q=.tuple [R4 y.1.2,.int gj y.2]/\∃a,fJ h' a id m b c y.1.1/\(∀q,q<h.n->a q=i q)/\Fr h' a/\J h h' (λq=>(i q).1=id)
theorem hR.told{h:I}{u:cM}{id s m:Nat}{b:At}{c:bk}{x:bX}{cE cK E F:V}(k:hR h u id s m b c x)(j:kz h u id s m x.2 cE cK E F) :
  ∃h',aK (.agg [cE,cK,E,F]) h (R4 x.2) h'/\fJ h' u id m b c x.1/\J h h' (cW u id)/\Fr h' u:=by
 obtain⟨G,M,z⟩:=aK.own j.o (n:=x.2.outs.length) (ft RS _) (by decide);have N:=j.v.ai z λq i U=>by have az:=j.cK q (cD.2 i);have bd:=j.hQ q (cD.2 U);rw[az]at bd;simp at bd
 have A:=j.c.ai z λq i U=>by have az:=j.cc q (cD.2 i);have bd:=j.hQ q (cD.2 U);rw[az]at bd;simp at bd
 have O:=j.d.ai z λq i U=>by have az:=j.oA q (cD.2 i);have bd:=j.hQ q (cD.2 U);rw[az]at bd;simp at bd
 obtain⟨H,Q,B⟩:=aK.own N (n:=x.2.verts.length) (by rw[ht,axD]) (by decide);have C:=A.ai B λq i U=>by have az:=j.cc q (cD.2 i);have bd:=j.cK q (cD.2 U);rw[az]at bd;simp at bd
 have R:=O.ai B λq i U=>by have az:=j.oA q (cD.2 i);have bd:=j.cK q (cD.2 U);rw[az]at bd;simp at bd
 obtain⟨Y,S,L⟩:=aK.own C (n:=x.2.chgs.length) (ft jo _) (by decide);have T:=R.ai L λq i U=>by have az:=j.oA q (cD.2 i);have bd:=j.cc q (cD.2 U);rw[az]at bd;simp at bd
 obtain⟨D,W,X⟩:=aK.own T (n:=x.2.deads.length) (ft RT _) (by decide);have K:J h D (λq=>∃t,u q=(id,t)/\5<=t/\t<=9) :=
  (((z.mono λq i=>⟨6,j.hQ q (cD.2 i),by omega,by omega⟩).trans' (B.mono λq i=>⟨7,j.cK q (cD.2 i),by omega,by omega⟩)).trans' (L.mono λq i=>⟨8,j.cc q (cD.2 i),by omega,by omega⟩)).trans' (X.mono λq i=>⟨9,j.oA q (cD.2 i),by omega,by omega⟩)
 exact⟨D,aK.agg (aE.cons M (aE.cons Q (aE.cons S (aE.cons W (aE.refl [] D))))),k.ef.part K (λq _ U=>U) λ_ _=>rfl,K.mono λq ⟨t,G,H,_⟩=>by unfold cW;rw[G];exact⟨rfl,H⟩,λq i=>k.aO q (UN K.n i)⟩
theorem L9{M:Nat->Prop}{bK:Operand->V}{t:aPg}{x y:Operand}{ok:Bool}:nE M (rf bK (.lookup t x y ok))=ud M (bK x):=rfl
theorem afU{i:Nat}{k a:Int}:∀{l:Seen} {e:Nat×Int×Int},e∈ev i l k a->e.2.2=a\/e∈l
 | [],e,h=>by simp[ev]at h;exact .inl (by rw[h])
 | x::r,e,h=>by
  unfold ev at h;split at h
  .rcases IN.1 h with h|h
   .exact .inl (by rw[h])
   .exact .inr (by simp[h])
  .rcases IN.1 h with h|h
   .exact .inr (by simp[h])
   .rcases afU h with h|h
    .exact .inl h
    .exact .inr (by simp[h])
theorem Yw{i:Nat}{l:Seen}{v t:Int}(h:∀e∈l,-1<=e.2.2/\e.2.2<=1099511627776):∀e∈dJ i l v t,-1<=e.2.2/\e.2.2<=1099511627776:=λe a=>by
 unfold dJ at a;split at a
 .exact h e a
 .split at a
  .exact h e a
  .split at a
   .exact h e a
   .rename_i j m;rcases afU a with a|a
    .omega
    .exact h e a
theorem afV{l:Seen}(h:∀e∈l,-1<=e.2.2/\e.2.2<=1099511627776):-2^63<=leastOf l/\leastOf l<2^63:=by
 have j:∀(r:Seen),(∀e∈r,-1<=e.2.2/\e.2.2<=1099511627776)->-1<=r.foldr (λe m=>min e.2.2 m) (1099511627776:Int)/\r.foldr (λe m=>min e.2.2 m) (1099511627776:Int)<=1099511627776:=by
  intro r
  induction r with
  | nil=>intro _;simp
  | cons a r ih=>
   intro i;have s:=i a (by simp);have u:=ih λe q=>i e (by simp[q]);simp only[aEL];omega
 unfold leastOf;split
 .omega
 .have:=j l h;omega
theorem R5(x:bX):x.2.verts.length+x.2.chgs.length<=sz x:=by unfold sz;omega
theorem afW{K:ej}{l:List ak}(w:dw K l)(m:Int):(h8 K m l).length<=1024:=by
 have a:(h8 K m l).length=((l.filter (zd K m)).map jd).length:=(NG K _).length_eq;rw[a,ajD];exact UN (azu _ _) w.len
theorem R6{h h':I}{i:cM}{id m:Nat}{b:At}{c:bk}{s:cT}(k:fJ h i id m b c s)(a:J h h' (λq=>cW i id q)\/h'=h):wc h' (.ptr b.mq 0) s.ms b.mq b.rD c.ins.length:=by
 rcases a with a|rfl
 .obtain⟨az,j,u,z,A,B,C⟩:=k.marks;exact⟨az,IS j a.n,IS u a.n,z,(a.get _ j (λU=>by unfold cW at U;rw[k.hn.1]at U;simp at U)).trans A,(a.get _ u (λU=>by unfold cW at U;rw[k.hn.2]at U;simp at U)).trans B,C⟩
 .exact k.marks
theorem DR{c:bk}{u:Nat}:fT c 3000 (λx=>cS c u x):=λx i=>by
 show cF c 3000 x (cS c u x);unfold cS;cases m:c.c0 u with
 | none=>exact(cF.refl i).mono (by omega)
 | some K=>
  have w:=i.wf u K m;have a:=Hq (c:=c) (u:=u) (l:=iB K (leastOf x.1.ms) (x.1.st u)) (λq j=>by rw[m]at j;cases j;exact w.iB _) x i;have j:=B0 c u (h8 K (leastOf x.1.ms) (x.1.st u)) _ a.inv;have s:(h8 K (leastOf x.1.ms) (x.1.st u)).length<=1024:=by
   have a:(h8 K (leastOf x.1.ms) (x.1.st u)).length=((x.1.st u).filter (zd K (leastOf x.1.ms))).length:=by
    have:=(NG K (((x.1.st u).filter (zd K (leastOf x.1.ms))).map jd)).length_eq;rw[ajD]at this;exact this
   rw[a];exact UN (azu _ _) w.len
  exact(a.trans j).mono (by omega)
theorem Oy{a b c d:V}(aW:a.one=e6)(an:b.one=e6)(aw:c.one=e6)(i:d.one=e6):bD (eL 4) (aP.cells [V.ah,V.ah,V.ah,V.ah] 101 eN) 0 [a,b,c,d]=eL (.cells [a,b,c,d] 101 eN):=by
 have e:∀(p:Prop) [Decidable p] (x:Option aP),p->(if p then x else eN)=x:=λp _ x j=>gr j;exact e _ (eL (.cells (lay [V.ah,V.ah,V.ah,V.ah] 0 [a,b,c,d]) 101 eN)) ⟨rfl,by simp[aW,an,aw,i],by decide⟩
theorem Yx{h a:I}{s i:cM}{id st m:Nat}{b:At}{c:bk}{y:bX}{u z A B:V}(E:hR a i id st m b c y)(M:kz a i id st m y.2 u z A B){t0:Nat}(X:h.n<=t0)(j:i t0=(0,0))
  (F:∀q,q<h.n->i q=s q) (N:J h a (λq=>(s q).1=id)) (ob:aP) :
  ∃G H,aK (.tuple [.agg [u,z,A,B],.int gj 0]) (a.set t0 ob) G H/\Steps id m b c h s (y,0) G H:=by
 have C:J a (a.set t0 ob) (·=t0):=J.set _ _ _;have O:=E.sW C j;have Q:kz (a.set t0 ob) i id st m y.2 u z A B:=M.ai C (λq _ U Y _ _ e=>by subst U;rw[j]at e;exact E.oq (iy Prod.fst e).symm) λ_ _=>rfl;obtain⟨R,D,S,T,W⟩:=O.told Q;exact⟨_,R,aK.tuple (aE.cons D (aE.refl _ _)),rfl,i,S,F,W,(N.trans C λq L U=>by omega).trans T λq L U=>by unfold cW at U;rw[F q L]at U;exact U.1⟩
theorem afY{l:List bC}{P:List Int}{part:Int}:∀{i:Nat} {y:Int},y∈nR l P part i->0<=y
 | 0,y,h=>by simp[nR]at h
 | i+1,y,h=>by
  unfold nR at h;rcases axE.1 h with h|h
  .exact afY h
  .split at h
   .simp at h;omega
   .simp at h
theorem auf{c:bk}{v:Int}(h:v∈c.ins):0<=v:=afY h
theorem aug{a:Nat}{l:Seen}{v t:Int}(h:(dR l v t).2≠0):dJ a l v t=l:=by
 unfold dR at h;unfold dJ;cases i:cV l v with
 | none=>rfl
 | some g=>
  rw[i]at h;simp only at h⊢;split
  .rfl
  .rename_i j;rw[gQ j]at h;split at h<;>simp at h
section
variable {id m:Nat} {b:At} {c:bk}
theorem afZ(o:et c){s:cT}{h:I}{X:cM}(k:fJ h X id m b c s)(hk:sj c s)(nC:∀u K,c.c0 u=eL K->dw K (s.st u))(f:Fr h X)(ay:h4 h)(aG:id≠0)(v:Int)(r:Rec) :
  au mP 40 [.ptr m 0,.int gj v,.agg (aR r)] h (Steps id m b c h X (stepT c s v r)):=by
 refine au.cast ?_;refine a7 Tryz.func40 rfl ?_;obtain⟨H,hH⟩:∃y,y=(h.push (.cells (aR r) 45 eN)).push (.cells [.ah,.ah,.ah,.ah] 101 eN):=⟨_,rfl⟩;have bl:J h H kR:=by rw[hH];exact(J.push _ _ _).bp _
 have hx:H.n=h.n+2:=by rw[hH];rfl
 have je:H.get h.n=.cells (aR r) 45 none:=by rw[hH,iZ (by rw[dn];omega)];exact ac
 have gt:H.get (h.n+1)=.cells [.ah,.ah,.ah,.ah] 101 none:=by rw[hH];exact ac
 have qg:=k.aY bl;have AU:Fr H X:=λq j=>f q (by omega);have ld:cw (eL (eL 3)) (eL (aR r))=eL (.agg (aR r)):=rfl;have d0:cI (.cells (aR r) 45 eN) 0=eL (aR r):=rfl;simp only[ae,ds,reduceCtorEq,al];rw[<-hH];clear hH;refine bE (Yu o qg hk v) ?_;cases b7:c.ins.contains v
 .have fl:stepT c s v r=((s,eG.none),6):=by unfold stepT;rw[gr b7]
  rw[fl];simp only[ae,ds,AT,al,gt,aJ];have c8:J H (H.set (h.n+1) (aP.cells [V.ah,V.ah,V.ah,V.ah] 101 eN)) (λq=>q=h.n+1):=J.set _ _ _;have af:=qg.ai (ow':=X) c8 (λq _ U=>by subst U;rw[f _ (by omega)];exact λe=>aG e.symm) λ_ _=>rfl;exact ar ⟨_,_,aK.tuple (aE.cons (aK.agg (aE.cons (aK.h3 _) (aE.cons (aK.h3 _) (aE.cons (aK.h3 _) (aE.cons (aK.h3 _) (aE.refl [] _)))))) (aE.refl _ _)),rfl,X,af,λ_ _=>rfl,λq j=>AU q j,bl.up.trans c8 λq j U=>by omega⟩
 .obtain⟨bZ,bN,k2,_,c6⟩:=bU H (.cells [.ptr m 0,.ah,.ah,.ah,.ah,.int gj 0] 163 eN);have kk:=hR.start qg AU (ay.ai bl) aG;rw[<-bN]at kk;have IY:∀q,q<H.n->dS X H.n (H.n+1) (id,5) q=X q:=λq j=>zj j;have ot:=(k2.get h.n (by omega) (by simp[kR])).trans je;have nQ:=(k2.get (h.n+1) (by omega) (by simp[kR])).trans gt;have fe:=kk.ef.get;rw[ce]at fe;have xI:cI (.cells (aR r) 45 eN) 2=eL [.int gj r.t]:=rfl;have m1:(m=b.rD)=False:=eq_false λe=>by have S:=k.own;have Y:=k.hn.2;rw[e,Y]at S;simp at S
  have m2:(h.n=b.rD)=False:=eq_false λe=>by have S:=k.hn.2;rw[<-e,f _ (BY _)]at S;simp at S
  simp only[ae,ds,AT,By,reduceCtorEq,al];rw[<-bN];clear bN;generalize dS X H.n (H.n+1) (id,5)=dz at kk IY;refine aT.cL (λq=>q=b.rD) [7] (.q 0 (.q 1 (.q 2 (.q 3 (.q 4 (.q 5 (.q 6 (.a 7 (.q 8 (.q 9 (.q 10 (.q 11 (.q 12 .done))))))))))))) ?_;simp only[ae,bw,e4,ds,AT,By,reduceCtorEq,al,fe,ot,xI,m1,m2];refine cp (NZ bZ _ s.ms _ _ _ kk.ef.marks v r.t) λq F ⟨az,s6,nZ⟩=>?_;subst az;have ez:=kk.IX s6 nZ;have lK:J bZ F (λq=>q=b.rD):=nZ;have n3:=nZ.n;have m3:h.n+1≠b.rD:=λe=>by have S:=k.hn.2;rw[<-e,f _ (by omega)]at S;simp at S
  have nX:=(nZ.get h.n (by omega) (λU=>m2.mp U)).trans ot;have iu:=(nZ.get (h.n+1) (by omega) m3).trans nQ;have CD:∀q,q<h.n->dz q=X q:=λq j=>IY q (by omega);have Yy:dz h.n=(0,0):=(IY _ (by omega)).trans (f _ (BY _));have yc:dz (h.n+1)=(0,0):=(IY _ (by omega)).trans (f _ (by omega));have sX:J h F (λq=>(X q).1=id):=(bl.up.trans k2.up λ_ _ U=>U).trans nZ λq j U=>by subst U;rw[k.hn.2]
  cases he:((dR s.ms v r.t).2 !=0);rotate_left
  .have hU:(dR s.ms v r.t).2≠0:=(by simpa using he);have fl:stepT c s v r=(pT v r (dR s.ms v r.t).2 (s,eG.none),0):=(by unfold stepT;rw[gQ (by rw[b7];decide),gr hU]);rw[fl];have fL:dJ c.ins.length s.ms v r.t=s.ms:=aug hU;rw[fL]at ez;simp only[ae,bw,e4,ds,al,he,nX,ld,d0];refine cp (Ho ez v r _ (D8 _)) λq T ⟨az,e5,gi,cg⟩=>?_;subst az;obtain⟨cE,cK,dd,dg,yP⟩:=cg.qp;have g4:=yP.get;have uH:=(gi.ai.get (h.n+1) (by omega) (λU=>by unfold cW at U;rw[yc]at U;exact aG U.1.symm)).trans iu;have Fq:bD (eL 4) (aP.cells [V.ah,V.ah,V.ah,V.ah] 101 eN) 0 [cE,cK,dd,dg]=eL (.cells [cE,cK,dd,dg] 101 eN):=Oy (xg yP.o).1 (xg yP.v).1 (xg yP.c).1 (xg yP.d).1;simp only[ae,ds,AT,By,al,g4,uH,Fq,aJ];exact ar (Yx cg yP (t0:=h.n+1) (by omega) ((gi.bH _ (by omega)).trans yc) (λq j=>(gi.bH q (by omega)).trans (CD q j)) (sX.trans gi.ai λq j U=>by unfold cW at U;rw[CD q j]at U;exact U.1) _)
  .have hU:¬(dR s.ms v r.t).2≠0:=(by simpa using he);obtain⟨M,iv⟩:∃M:bX,M=({ s with ms:=dJ c.ins.length s.ms v r.t },eG.none):=⟨_,rfl⟩;obtain⟨N,lv⟩:∃N:bX,N=(if(dR s.ms v r.t).1=e6 then kL v [l4 c r.t] M else M):=⟨_,rfl⟩;have fl:stepT c s v r=((ajC c.l.length).foldl (λx u=>cS c u x) (oH c 24 v r N),0):=by
    unfold stepT;rw[gQ (by rw[b7];decide),gQ hU,lv,iv]
   rw[fl];have i0:Inv c M:=by rw[iv];exact⟨D8 _,nC⟩
   have z0:sz M=4000000:=(by rw[iv];simp[sz,eG.none]);have AV:hR F dz id H.n m b c M:=(by rw[iv];exact ez);have W:cF c 2 M N:=by
    rw[lv];split
    .exact B0 c v [l4 c r.t] M i0
    .exact(cF.refl i0).mono (by omega)
   have tJ:0<=v:=auf (by simpa using b7);cases zG:(dR s.ms v r.t).1
   .have fW:N=M:=(by rw[lv,zG];rfl);rw[<-fW]at AV;obtain⟨T,Oz⟩:∃T,T=F:=⟨_,rfl⟩;obtain⟨e5,OA⟩:∃e5,e5=dz:=⟨_,rfl⟩;have cg:hR T e5 id H.n m b c N:=by rw[Oz,OA];exact AV
    have gi:gZ id F dz T e5:=(by rw[Oz,OA];exact gZ.refl AV.aO);simp only[ae,bw,e4,ds,al,he,nX,ld,d0];rw[<-Oz];refine cp (Yr o 24 v (by have:=o.len;omega) r T e5 N cg W.inv (by have:=W.sz;omega)) λq bV ⟨az,eH,vp,dN⟩=>?_;subst az;have Fs:=dN.ef.get;rw[ce]at Fs;simp only[ae,ds,AT,reduceCtorEq,al,d6,Fs];have Ht:=gi.trans vp;have Z:=W.trans (zk o.len 24 v r N W.inv);generalize oH c 24 v r N=D at dN Z;have rA:=o.len;refine aT.bG (α:=Nat×cM) (λy f h'=>f 0=.ptr m 0/\f 6=.ptr (h.n+1) 0/\f 8=.ptr H.n 0/\f 60=.int gj (c.l.length:Int)/\f 61=.int gj (y.1:Nat)/\y.1<=c.l.length /\
      gZ id F dz h' y.2/\hR h' y.2 id H.n m b c ((ajC y.1).foldl (λx u=>cS c u x) D)/\cF c (3000*y.1) D ((ajC y.1).foldl (λx u=>cS c u x) D)) (λy=>c.l.length-y.1) (0,eH)
     ⟨rfl,rfl,rfl,rfl,rfl,D8 _,Ht,dN,cF.refl Z.inv⟩ ?_
    have Ft:M.1.ms=dJ c.ins.length s.ms v r.t:=(by rw[iv]);clear lv iv fl
    rintro⟨t,G⟩ b2 E ⟨f0,f6,f8,C,A,bA,L,z,B⟩
    simp only at A bA L z B;refine wpS ?_;by_cases aC:t<c.l.length
    .have d1:=dK t c.l.length;have Fu:=km aC (by omega);have e8:(ajC (t+1)).foldl (λx u=>cS c u x) D=cS c t ((ajC t).foldl (λx u=>cS c u x) D):=(by rw[aCH,aAA];rfl);generalize(ajC t).foldl (λx u=>cS c u x) D=i at e8 z B;have AW:=z.ef.get;rw[ce]at AW;have cY:cW G id m=False:=eq_false λU=>by unfold cW at U;rw[z.ef.own]at U;simp at U
     have dD:cW G id b.mp=False:=eq_false λU=>by unfold cW at U;rw[z.ef.nU]at U;simp at U
     have hX:=lookup_int (P:=mP) (ok:=fr) (k:=(t:Int)) J4 Mo z.ef.map;simp only[ae,ds,C,A,d1];cases Q:c.c0 t with
     | none=>
      rw[z.ef.none t Q]at hX;have si:ni mP 148 (.map b.mp) (.int gj (t:Int)) fr E=eL .dA:=hX;refine aT.cL (λq=>cW G id q) [14] (.q 0 (.q 1 (.q 2 (.q 3 (.q 4 (.q 5 (.q 6 (.q 7 (.q 8 (.q 9 (.q 10 (.q 11 (.c 12 (.c 13 (.a 14 .done))))))))))))))) ?_;simp only[ae,bw,e4,ds,AT,By,reduceCtorEq,al,f0,f8,AW,cY,dD,si,L9];refine gh rfl rfl rfl (λh' fi=>N0 h' _ _ _ _ _ (R6 z.ef fi)) ?_;simp only[e4];refine gh rfl rfl rfl (λh' fi=>afG (leastOf i.1.ms) h') ?_;simp only[ae,bw,e4,ds];have ze:=Kw z (t:Int) [] (by have S:=Z.sz;have Y:=B.sz;have F:=W.sz;have T:=R5 i;simp only[ayx];omega);refine cp (au.args (aE.cons (aK.refl _ _) (aE.cons (aK.refl _ _) (aE.cons (aK.h3 E) (aE.refl [] E)))) ze) λq kt ⟨az,vt,xi,jO⟩=>?_;subst az;have OB:J E kt (λq=>cW G id q):=xi.ai;have bM:cS c t i=kL (t:Int) [] i:=by unfold cS;rw[Q];simp[kL]
      rw[<-bM]at jO;have Hu:=B.trans (DR (u:=t) i B.inv);simp only[ae,bw,e4,ds,A,Fu];exact ar ⟨(t+1,vt),⟨f0,f6,f8,C,rfl,aC,L.trans xi,by have U:=jO;rw[<-e8]at U;exact U,by have U:cF c (3000*(t+1)) D (cS c t i):=Hu.mono (by omega);rw[<-e8]at U;exact U⟩,by simp only;omega⟩
     | some K=>
      obtain⟨a,O,aW,hG,ma,mH,uF⟩:=z.at Q (Jt aC);rw[aW]at hX;have si:ni mP 148 (.map b.mp) (.int gj (t:Int)) fr E=eL (.ptr a 0):=hX;refine aT.cL (λq=>cW G id q) [13,14] (.q 0 (.q 1 (.q 2 (.q 3 (.q 4 (.q 5 (.q 6 (.q 7 (.q 8 (.q 9 (.q 10 (.q 11 (.c 12 (.e 13 (.a 14 .done) .stop)))))))))))))) ?_;simp only[ae,bw,e4,ds,AT,By,reduceCtorEq,al,f0,f8,AW,cY,dD,si,L9];refine gh rfl rfl rfl (λh' fi=>N0 h' _ _ _ _ _ (R6 z.ef fi)) ?_;simp only[ae,bw,e4,ds];have Hv:-2^63<=leastOf i.1.ms/\leastOf i.1.ms<2^63:=by
       rw[B.ms,Z.ms,Ft];exact afV (Yw hk.2)
      refine cp (aeu hG (leastOf i.1.ms) Hv) λq kr ⟨fv,DS,DC,Fv,OC,Yz⟩=>?_;have OD:J E kr (λq=>cW G id q):=Fv.mono λq j=>by unfold cW;rw[mH q j];exact⟨rfl,by show 5<=10+t;omega⟩
      have c9:(h8 K (leastOf i.1.ms) (i.1.st t)).length<=1024:=afW (hG.wf) _;obtain⟨b4,Hw,vu⟩:=aK.own DS (n:=(h8 K (leastOf i.1.ms) (i.1.st t)).length) (ft jo _) (by decide);have OE:J E b4 (·∈O):=Fv.trans vu λq j U=>by have:=(DC q U).1;omega
      obtain⟨av,Fw,lK⟩:=uF b4 fv _ OE OC (Yz.ai vu λq j U=>(DC q U).2 j);have YA:=Hq (c:=c) (u:=t) (l:=iB K (leastOf i.1.ms) (i.1.st t)) (λAQ Y=>by rw[Q]at Y;cases Y;exact(B.inv.wf t K Q).iB _) i B.inv;have ze:=Kw lK (t:Int) (h8 K (leastOf i.1.ms) (i.1.st t)) (by have S:=Z.sz;have Y:=B.sz;have F:=W.sz;have T:=YA.sz;have bV:=R5 (kM t (iB K (leastOf i.1.ms) (i.1.st t)) i);omega);simp only[ae,bw,e4,ds,OD];refine cp (au.args (aE.cons (aK.refl _ _) (aE.cons (aK.refl _ _) (aE.cons Hw (aE.refl [] b4)))) ze) λaA kt ⟨az,vt,xi,jO⟩=>?_;subst az;have Fx:=Fw.trans xi;have OB:J E kt (λq=>cW G id q):=Fx.ai;have bM:cS c t i=kL (t:Int) (h8 K (leastOf i.1.ms) (i.1.st t)) (kM t (iB K (leastOf i.1.ms) (i.1.st t)) i):=by unfold cS;rw[Q]
      rw[<-bM]at jO;have Hu:=B.trans (DR (u:=t) i B.inv);simp only[ae,bw,e4,ds,A,Fu];exact ar ⟨(t+1,vt),⟨f0,f6,f8,C,rfl,aC,L.trans Fx,by have U:=jO;rw[<-e8]at U;exact U,by have U:cF c (3000*(t+1)) D (cS c t i):=Hu.mono (by omega);rw[<-e8]at U;exact U⟩,by simp only;omega⟩
    .have d1:=dY t c.l.length;obtain rfl:t=c.l.length:=by omega
     obtain⟨cE,cK,dd,dg,R⟩:=z.qp;have g6:=R.get;have OG:=(L.ai.get (h.n+1) (by omega) (λU=>by unfold cW at U;rw[yc]at U;exact aG U.1.symm)).trans iu;have OH:bD (eL 4) (aP.cells [V.ah,V.ah,V.ah,V.ah] 101 eN) 0 [cE,cK,dd,dg]=eL (.cells [cE,cK,dd,dg] 101 eN):=Oy (xg R.o).1 (xg R.v).1 (xg R.c).1 (xg R.d).1;simp only[ae,ds,AT,By,al,f6,f8,C,A,d1,g6,OG,OH,aJ];exact ar (Yx z R (t0:=h.n+1) (by omega) ((L.bH _ (by omega)).trans yc) (λq j=>(L.bH q (by omega)).trans (CD q j)) (sX.trans L.ai λq j U=>by unfold cW at U;rw[CD q j]at U;exact U.1) _)
   .have fW:N=kL v [l4 c r.t] M:=(by rw[lv,zG];rfl);have aH:cI (.cells (aR r) 45 eN) 2=eL [.int gj r.t]:=rfl;have Cz:=AV.ef.get;rw[ce]at Cz;simp only[ae,bw,e4,ds,reduceCtorEq,al,he,nX,xI];refine bE (Yv AV.ef r.t) ?_;simp only[ae,ds,Ke];obtain⟨aB,OI,aa,_,_⟩:=bU F (.cells (aq (l4 c r.t)) 110 eN);have YB:Own aB 110 5 (.bh F.n 0 1 1) (aq (l4 c r.t)):=by rw[OI];exact Own.fz _ 1 rfl (by decide)
    rw[<-OI];clear OI;obtain⟨b4,Hw,vu⟩:=aK.own YB (n:=1) rfl (by decide);have T9:=(AV.aY aa).sW (vu.mono λq j=>by simpa [bb,aS,eq_comm]using j) (AV.aO F.n (BY _));have ze:=Kw T9 v [l4 c r.t] (by rw[iv];simp[eG.none]);have mI:gU [l4 c r.t]=.ag 1 (aq (l4 c r.t)):=(by simp[gU]);rw[mI]at ze;refine cp (au.args (aE.cons (aK.refl _ _) (aE.cons (aK.refl _ _) (aE.cons Hw (aE.refl [] b4)))) ze) λq T ⟨az,e5,YC,cg⟩=>?_;subst az;rw[<-fW]at cg;have Fw:gZ id F dz b4 dz:=⟨λ_ _=>rfl,aa.up.trans vu (λq j U=>by simp[bb,aS]at U;omega),T9.aO,trivial⟩;have gi:=Fw.trans YC;have OJ:=(gi.ai.get h.n (by omega) (λU=>by unfold cW at U;rw[Yy]at U;exact aG U.1.symm)).trans nX;simp only[ae,ds,al,OJ,ld,d0];refine cp (Yr o 24 v (by have:=o.len;omega) r T e5 N cg W.inv (by have:=W.sz;omega)) λq bV ⟨az,eH,vp,dN⟩=>?_;subst az;have Fs:=dN.ef.get;rw[ce]at Fs;simp only[ae,ds,AT,reduceCtorEq,al,d6,Fs];have Ht:=gi.trans vp;have Z:=W.trans (zk o.len 24 v r N W.inv);generalize oH c 24 v r N=D at dN Z;have rA:=o.len;refine aT.bG (α:=Nat×cM) (λy f h'=>f 0=.ptr m 0/\f 6=.ptr (h.n+1) 0/\f 8=.ptr H.n 0/\f 60=.int gj (c.l.length:Int)/\f 61=.int gj (y.1:Nat)/\y.1<=c.l.length /\
      gZ id F dz h' y.2/\hR h' y.2 id H.n m b c ((ajC y.1).foldl (λx u=>cS c u x) D)/\cF c (3000*y.1) D ((ajC y.1).foldl (λx u=>cS c u x) D)) (λy=>c.l.length-y.1) (0,eH)
     ⟨rfl,rfl,rfl,rfl,rfl,D8 _,Ht,dN,cF.refl Z.inv⟩ ?_
    have Ft:M.1.ms=dJ c.ins.length s.ms v r.t:=(by rw[iv]);clear lv iv fl
    rintro⟨t,G⟩ b2 E ⟨f0,f6,f8,C,A,bA,L,z,B⟩
    simp only at A bA L z B;refine wpS ?_;by_cases aC:t<c.l.length
    .have d1:=dK t c.l.length;have Fu:=km aC (by omega);have e8:(ajC (t+1)).foldl (λx u=>cS c u x) D=cS c t ((ajC t).foldl (λx u=>cS c u x) D):=(by rw[aCH,aAA];rfl);generalize(ajC t).foldl (λx u=>cS c u x) D=i at e8 z B;have AW:=z.ef.get;rw[ce]at AW;have cY:cW G id m=False:=eq_false λU=>by unfold cW at U;rw[z.ef.own]at U;simp at U
     have dD:cW G id b.mp=False:=eq_false λU=>by unfold cW at U;rw[z.ef.nU]at U;simp at U
     have hX:=lookup_int (P:=mP) (ok:=fr) (k:=(t:Int)) J4 Mo z.ef.map;simp only[ae,ds,C,A,d1];cases Q:c.c0 t with
     | none=>
      rw[z.ef.none t Q]at hX;have si:ni mP 148 (.map b.mp) (.int gj (t:Int)) fr E=eL .dA:=hX;refine aT.cL (λq=>cW G id q) [14] (.q 0 (.q 1 (.q 2 (.q 3 (.q 4 (.q 5 (.q 6 (.q 7 (.q 8 (.q 9 (.q 10 (.q 11 (.c 12 (.c 13 (.a 14 .done))))))))))))))) ?_;simp only[ae,bw,e4,ds,AT,By,reduceCtorEq,al,f0,f8,AW,cY,dD,si,L9];refine gh rfl rfl rfl (λh' fi=>N0 h' _ _ _ _ _ (R6 z.ef fi)) ?_;simp only[e4];refine gh rfl rfl rfl (λh' fi=>afG (leastOf i.1.ms) h') ?_;simp only[ae,bw,e4,ds];have ze:=Kw z (t:Int) [] (by have S:=Z.sz;have Y:=B.sz;have F:=W.sz;have T:=R5 i;simp only[ayx];omega);refine cp (au.args (aE.cons (aK.refl _ _) (aE.cons (aK.refl _ _) (aE.cons (aK.h3 E) (aE.refl [] E)))) ze) λq kt ⟨az,vt,xi,jO⟩=>?_;subst az;have OB:J E kt (λq=>cW G id q):=xi.ai;have bM:cS c t i=kL (t:Int) [] i:=by unfold cS;rw[Q];simp[kL]
      rw[<-bM]at jO;have Hu:=B.trans (DR (u:=t) i B.inv);simp only[ae,bw,e4,ds,A,Fu];exact ar ⟨(t+1,vt),⟨f0,f6,f8,C,rfl,aC,L.trans xi,by have U:=jO;rw[<-e8]at U;exact U,by have U:cF c (3000*(t+1)) D (cS c t i):=Hu.mono (by omega);rw[<-e8]at U;exact U⟩,by simp only;omega⟩
     | some K=>
      obtain⟨a,O,aW,hG,ma,mH,uF⟩:=z.at Q (Jt aC);rw[aW]at hX;have si:ni mP 148 (.map b.mp) (.int gj (t:Int)) fr E=eL (.ptr a 0):=hX;refine aT.cL (λq=>cW G id q) [13,14] (.q 0 (.q 1 (.q 2 (.q 3 (.q 4 (.q 5 (.q 6 (.q 7 (.q 8 (.q 9 (.q 10 (.q 11 (.c 12 (.e 13 (.a 14 .done) .stop)))))))))))))) ?_;simp only[ae,bw,e4,ds,AT,By,reduceCtorEq,al,f0,f8,AW,cY,dD,si,L9];refine gh rfl rfl rfl (λh' fi=>N0 h' _ _ _ _ _ (R6 z.ef fi)) ?_;simp only[ae,bw,e4,ds];have Hv:-2^63<=leastOf i.1.ms/\leastOf i.1.ms<2^63:=by
       rw[B.ms,Z.ms,Ft];exact afV (Yw hk.2)
      refine cp (aeu hG (leastOf i.1.ms) Hv) λq kr ⟨fv,DS,DC,Fv,OC,Yz⟩=>?_;have OD:J E kr (λq=>cW G id q):=Fv.mono λq j=>by unfold cW;rw[mH q j];exact⟨rfl,by show 5<=10+t;omega⟩
      have c9:(h8 K (leastOf i.1.ms) (i.1.st t)).length<=1024:=afW (hG.wf) _;obtain⟨b4,Hw,vu⟩:=aK.own DS (n:=(h8 K (leastOf i.1.ms) (i.1.st t)).length) (ft jo _) (by decide);have OE:J E b4 (·∈O):=Fv.trans vu λq j U=>by have:=(DC q U).1;omega
      obtain⟨av,Fw,lK⟩:=uF b4 fv _ OE OC (Yz.ai vu λq j U=>(DC q U).2 j);have YA:=Hq (c:=c) (u:=t) (l:=iB K (leastOf i.1.ms) (i.1.st t)) (λAQ Y=>by rw[Q]at Y;cases Y;exact(B.inv.wf t K Q).iB _) i B.inv;have ze:=Kw lK (t:Int) (h8 K (leastOf i.1.ms) (i.1.st t)) (by have S:=Z.sz;have Y:=B.sz;have F:=W.sz;have T:=YA.sz;have bV:=R5 (kM t (iB K (leastOf i.1.ms) (i.1.st t)) i);omega);simp only[ae,bw,e4,ds,OD];refine cp (au.args (aE.cons (aK.refl _ _) (aE.cons (aK.refl _ _) (aE.cons Hw (aE.refl [] b4)))) ze) λaA kt ⟨az,vt,xi,jO⟩=>?_;subst az;have Fx:=Fw.trans xi;have OB:J E kt (λq=>cW G id q):=Fx.ai;have bM:cS c t i=kL (t:Int) (h8 K (leastOf i.1.ms) (i.1.st t)) (kM t (iB K (leastOf i.1.ms) (i.1.st t)) i):=by unfold cS;rw[Q]
      rw[<-bM]at jO;have Hu:=B.trans (DR (u:=t) i B.inv);simp only[ae,bw,e4,ds,A,Fu];exact ar ⟨(t+1,vt),⟨f0,f6,f8,C,rfl,aC,L.trans Fx,by have U:=jO;rw[<-e8]at U;exact U,by have U:cF c (3000*(t+1)) D (cS c t i):=Hu.mono (by omega);rw[<-e8]at U;exact U⟩,by simp only;omega⟩
    .have d1:=dY t c.l.length;obtain rfl:t=c.l.length:=by omega
     obtain⟨cE,cK,dd,dg,R⟩:=z.qp;have g6:=R.get;have OG:=(L.ai.get (h.n+1) (by omega) (λU=>by unfold cW at U;rw[yc]at U;exact aG U.1.symm)).trans iu;have OH:bD (eL 4) (aP.cells [V.ah,V.ah,V.ah,V.ah] 101 eN) 0 [cE,cK,dd,dg]=eL (.cells [cE,cK,dd,dg] 101 eN):=Oy (xg R.o).1 (xg R.v).1 (xg R.c).1 (xg R.d).1;simp only[ae,ds,AT,By,al,f6,f8,C,A,d1,g6,OG,OH,aJ];exact ar (Yx z R (t0:=h.n+1) (by omega) ((L.bH _ (by omega)).trans yc) (λq j=>(L.bH q (by omega)).trans (CD q j)) (sX.trans L.ai λq j U=>by unfold cW at U;rw[CD q j]at U;exact U.1) _)
end
section
variable {id m:Nat} {b:At} {c:bk} {h:I} {ow:cM} {s:cT}
theorem af3(k:fJ h ow id m b c s)(u:Nat):∃a,Pure mP 94 [.ptr m 0,.int gj u] h a/\((c.c0 u=eN/\a=.dA)\/∃K i,c.c0 u=eL K/\a=.ptr i 0/\cV b.es (u:Int)=eL i):=by
 have q:=k.get;rw[ce]at q;have j:=lookup_int (P:=mP) (ok:=fr) (k:=(u:Int)) J4 Mo k.map;cases A:c.c0 u with
 | none=>
  rw[k.none u A]at j;have z:ni mP 148 (.map b.mp) (.int gj (u:Int)) fr h=eL .dA:=j;refine⟨.dA,?_,.inl ⟨rfl,rfl⟩⟩;refine a7 aER rfl ?_;simp only[ae,ds,AT,By,reduceCtorEq,al,q,z,aJ];exact ar ⟨rfl,rfl⟩
 | some K=>
  obtain⟨a,O,x,B,_⟩:=k.some u K A;rw[B]at j;have z:ni mP 148 (.map b.mp) (.int gj (u:Int)) fr h=eL (.ptr a 0):=j;refine⟨.ptr a 0,?_,.inr ⟨K,a,rfl,rfl,B⟩⟩;refine a7 aER rfl ?_;simp only[ae,ds,AT,By,reduceCtorEq,al,q,z,aJ];exact ar ⟨rfl,rfl⟩
def zl(c:bk)(s:cT)(u:Nat):List ak :=
 if c.ins.contains (u:Int)then(if 0<=we s.ms u then [l4 c (we s.ms u)]else [])
 else match c.c0 u with
  | some K=>NF K (s.st u)
  | none=>[]
theorem auk(o:et c)(k:fJ h ow id m b c s)(F:sj c s)(u:Nat):Pure mP 45 [.ptr m 0,.int gj u] h (gU (zl c s u)):=by
 have C:=k.get;rw[ce]at C;refine Pure.of (Xz _) ?_;refine a7 Tryz.func45 rfl ?_;simp only[ae,ds,reduceCtorEq];refine bE (Yu o k F u) ?_;cases D:c.ins.contains (u:Int)
 .have A:zl c s u=(match c.c0 u with|some K=>NF K (s.st u)|none=>[]):=by unfold zl;rw[gQ (by rw[D];decide)]
  rw[A];simp only[ae,ds,reduceCtorEq];obtain⟨a,G,aw⟩:=af3 k u;refine bE G ?_;simp only[ae,ds];rcases aw with⟨j,rfl⟩|⟨K,i,j,rfl,hi⟩
  .rw[j];refine bE (atZ h) ?_;simp only[ae,ds,aJ];exact ar ⟨h,aK.h3 h,J.refl _ _⟩
  .rw[j];obtain⟨S,O,x,E,_,H,_,_⟩:=k.some u K j;rw[hi]at E;cases E;refine bE (asQ H) ?_;simp only[ae,ds,aJ];exact ar ⟨h,aK.refl _ _,J.refl _ _⟩
 .have A:zl c s u=(if 0<=we s.ms u then [l4 c (we s.ms u)]else []):=by unfold zl;rw[gr D]
  rw[A];simp only[ae,ds,AT,By,reduceCtorEq,al,C];refine bE (atw h _ _ _ _ _ k.marks u) ?_;by_cases z:0<=we s.ms u
  .have B:decide (0<=we s.ms u)=true:=hO z;rw[gr z];simp only[ae,ds,reduceCtorEq,B];refine bE (Yv k (we s.ms u)) ?_;simp only[ae,ds,Ke,aJ];have L:Own (h.push (.cells (aq (l4 c (we s.ms u))) 110 eN)) 110 5 (.bh h.n 0 1 1) (aq (l4 c (we s.ms u))):=Own.fz _ 1 rfl (by decide);obtain⟨M,N,Q⟩:=aK.own L (n:=1) rfl (by decide);have R:gU [l4 c (we s.ms u)]=.ag 1 (aq (l4 c (we s.ms u))):=(by simp[gU]);rw[R];exact ar ⟨M,N,(J.push h _ kR).trans Q λq T U=>by simp[bb,aS]at U;omega⟩
  .have B:decide (0<=we s.ms u)=false:=hK z;rw[gQ z];simp only[ae,ds,B,aJ];exact ar ⟨h,aK.h3 h,J.refl _ _⟩
end
def fB(c:bk)(s:cT)(u:Nat)(d:ak):cT×Int :=
 if c.ins.contains (u:Int)then(if d=l4 c d.val then({ s with ms:=dJ c.ins.length s.ms u d.val },(dR s.ms u d.val).2)else(s,5))
 else match c.c0 u with
  | some K=>({ s with st:=λw=>if w=u then(hJ K (s.st u) d).1 else s.st w },(hJ K (s.st u) d).2)
  | none=>(s,6)
def aul(id m:Nat)(b:At)(c:bk)(h:I)(i:cM)(j:cT):V->I->Prop:=λq h'=>q=.int gj 0/\∃a,fJ h' a id m b c j/\(∀q,q<h.n->a q=i q)/\Fr h' a/\J h h' (λq=>(i q).1=id)
section
variable {id m:Nat} {b:At} {c:bk}
theorem OK(o:et c){s:cT}{h:I}{C:cM}(k:fJ h C id m b c s)(Y:sj c s)(f:Fr h C)(aG:id≠0)(u:Nat)(d:ak)(j:(fB c s u d).2=0) :
  au mP 82 [.ptr m 0,.int gj u,.agg (aq d)] h (aul id m b c h C (fB c s u d).1):=by
 refine a7 Tryz.func82 rfl ?_;obtain⟨H,hH,L,M,hx⟩:=bU h (.cells (aq d) 110 eN);have z:=k.aY L;have S:cw (eL (eL 5)) (eL (aq d))=eL (.agg (aq d)):=rfl;have T:cI (.cells (aq d) 110 eN) 0=eL (aq d):=rfl;have W:cI (.cells (aq d) 110 eN) 3=eL [.int gj d.val,.bool d.del]:=rfl;have X:=z.get;rw[ce]at X;simp only[ae,ds,reduceCtorEq];rw[<-hH];clear hH;refine bE (Yu o z Y u) ?_;cases N:c.ins.contains (u:Int)
 .have D:fB c s u d=(match c.c0 u with|some K=>({ s with st:=λw=>if w=u then(hJ K (s.st u) d).1 else s.st w },(hJ K (s.st u) d).2)|none=>(s,6)):=by unfold fB;rw[gQ (by rw[N];decide)]
  rw[D]at j⊢;simp only[ae,ds,reduceCtorEq];obtain⟨a,Z,aw⟩:=af3 z u;refine bE Z ?_;rcases aw with⟨E,rfl⟩|⟨K,i,E,rfl,hi⟩
  .rw[E]at j;cases j
  .rw[E]at j⊢;obtain⟨x,af⟩:∃x,c.l[u]?=eL x:=by
    obtain⟨_,_,x,_,B,_⟩:=z.some u K E;exact⟨x,B⟩
   obtain⟨a2,O,A,hG,_,mH,uF⟩:=z.at E af;rw[hi]at A;cases A;simp only[ae,ds,al,M,S,T];refine cp (asP hG d j) λq B ⟨fv,az,Q,nl,b3⟩=>?_;subst az;simp only[ae,ds,aJ];have gm:J H B (λq=>(C q).1=id):=Q.mono λq F=>by rw[mH q F]
   exact ar ⟨rfl,_,uF B fv _ Q nl b3,λq F=>zj (by omega),λq F=>by have:=Q.n;unfold dS;rw[gQ (by omega)];exact f q (by omega),L.up.trans' gm⟩
 .simp only[ae,ds];refine aT.cL kR [] (.q 0 (.q 1 (.q 2 (.q 3 (.c 4 (.q 5 .done)))))) ?_;simp only[ae,bw,ds,reduceCtorEq,al,M,S,T,W];refine gh rfl rfl rfl (λh' fi=>Yv (fi.elim (λq=>z.aY q) λe=>by rw[e];exact z) d.val) ?_;by_cases R:d=l4 c d.val
  .have D:fB c s u d=({ s with ms:=dJ c.ins.length s.ms u d.val },(dR s.ms u d.val).2):=(by unfold fB;rw[gr N,gr R]);rw[D]at j⊢;have aF:decide (d≠l4 c d.val)=false:=hK (λU=>U R);simp only[ae,bw,ds,WQ,aF];have m1:(m=b.rD)=False:=eq_false λe=>by have A:=k.own;have B:=k.hn.2;rw[e,B]at A;simp at A
   have m2:(h.n=b.rD)=False:=eq_false λe=>by have A:=k.hn.2;rw[<-e,f _ (BY _)]at A;simp at A
   refine aT.cL (λq=>q=b.rD) [7] (.q 0 (.q 1 (.q 2 (.q 3 (.q 4 (.q 5 (.q 6 (.a 7 (.q 8 (.q 9 (.q 10 (.q 11 (.q 12 .done))))))))))))) ?_;simp only[ae,bw,e4,ds,AT,By,reduceCtorEq,al,X,M,W,m1,m2];refine cp (NZ H _ s.ms _ _ _ z.marks u d.val) λq aD ⟨az,s6,G⟩=>?_;subst az;have lK:J H aD (λq=>q=b.rD):=G;simp only[ae,bw,e4,ds,aJ];exact ar ⟨by rw[j],C,z.IX s6 G,λ_ _=>rfl,λq F=>f q (by have:=G.n;omega),L.up.trans G λq F U=>by subst U;rw[k.hn.2]⟩
  .have D:fB c s u d=(s,5):=(by unfold fB;rw[gr N,gQ R]);rw[D]at j;cases j
end
theorem aum(x:bC)(q:x.kind≠6/\x.kind≠7/\x.kind≠8)(h:I):au mP 113 [.agg (ao x)] h (λr h'=>(∃w,r=.tuple [w,.int gj 1])/\J h h' kR):=by
 refine a7 Tryz.func113 rfl ?_;obtain⟨a,i,⟨o,m,j⟩,n⟩:=x;have s:ao ⟨a,i,.mk o m j,n⟩=[.int gj a,.ag i.length (ax i),.int gj o,.int gj m,.ag j.length (j.flatMap aN),.int gj n]:=by simp[ao,l0]
 rw[s];have u:(a==6)=false:=by simpa using q.1
 have z:(a==7)=false:=by simpa using q.2.1
 have A:(a==8)=false:=by simpa using q.2.2
 have B:J h (h.push (.cells [.int gj a,.ag i.length (ax i),.int gj o,.int gj m,.ag j.length (j.flatMap aN),.int gj n] 68 eN)) kR:=J.push _ _ _;simp only[ae,ds,AT,al,u,z,A,aJ];exact ar ⟨⟨_,rfl⟩,B⟩
theorem aun(x:bC)(z:x.kind≠6/\x.kind≠7/\x.kind≠8)(A:ik x.e)(h:I)(B:h4 h):au mP 75 [.agg (ao x)] h (λr h'=>r=.tuple [.dA,.int gj 1]/\J h h' kR):=by
 refine a7 Tryz.func75 rfl ?_;obtain⟨j,i,⟨o,m,a⟩,n⟩:=x;have C:ao ⟨j,i,.mk o m a,n⟩=[.int gj j,.ag i.length (ax i),.int gj o,.int gj m,.ag a.length (a.flatMap aN),.int gj n]:=by simp[ao,l0]
 have D:aN (.mk o m a)=[.int gj o,.int gj m,.ag a.length (a.flatMap aN)]:=l0 _ _ _;obtain⟨H,hH,q,E,_⟩:=bU h (.cells [.int gj j,.ag i.length (ax i),.int gj o,.int gj m,.ag a.length (a.flatMap aN),.int gj n] 68 eN);have F:Pure mP 63 [.agg [.int gj o,.int gj m,.ag a.length (a.flatMap aN)]] H (uo (.mk o m a)):=by rw[<-D];exact WG _ A H (B.ai q)
 have u:=aum ⟨j,i,.mk o m a,n⟩ z H;rw[C]at u⊢;simp only[ae,ds,AT,By,al];rw[<-hH];clear hH;refine bE F ?_;unfold uo;cases L:dB (.mk o m a)
 .simp only[ae,azU,ds,aJ];exact ar ⟨rfl,q⟩
 .simp only[ae,ds,AT,al,E];refine cp u λr M ⟨⟨w,az⟩,G⟩=>?_;subst az;have s:((1:Int) !=0)=true:=rfl;simp only[ae,ds,s,aJ];exact ar ⟨rfl,q.trans' G⟩
theorem auo(h:I):Pure mP 74 [.ag ([]:List Int).length (ax [])] h (.tuple [.dA,.int gj 1]):=by
 refine a7 aEM rfl ?_;have a:decide (((([]:List Int).length:Nat):Int)<1)=true:=rfl;simp only[ae,Js,ds,reduceCtorEq,hI];exact ar ⟨rfl,rfl⟩
theorem YD(c:bk):sj c (cT.new c):=by
 have j:∀(zs:List Int) (k:Nat),(nu k zs).map (·.2.1)=zs/\∀e∈nu k zs,e.2.2=-1:=by
  intro zs
  induction zs with
  | nil=>intro k;exact⟨rfl,by simp[nu]⟩
  | cons z r ih=>
   intro k;obtain⟨a,b⟩:=ih (k+1);refine⟨by simp[nu,a],λe i=>?_⟩;rcases IN.1 (show e∈(k,z,(-1:Int))::nu (k+1) r from i)with i|i
   .rw[i]
   .exact b e i
 obtain⟨a,b⟩:=j c.ins 0;exact⟨a,λe i=>by have:=b e i;omega⟩
theorem aup(c:bk)(o:et c):∀u K,c.c0 u=eL K->dw K ((cT.new c).st u):=λu K a=>by
 refine dw.nil ?_;unfold bk.c0 at a;split at a
 .split at a
  .unfold qZ at a;split at a
   .cases a;trivial
   .split at a
    .split at a
     .rename_i h;cases a;exact h
     .cases a
    .split at a
     .split at a
      .rename_i h;cases a;exact h
      .cases a
     .cases a
  .cases a
 .cases a
structure rH(c:bk)(x:bX):Prop where
 outs:∀o∈x.2.outs,∃(u:Nat) (v:bC),o.1=(u:Int)/\c.l[u]?=eL v/\(v.kind=10\/v.kind=5)
 deads:∀d∈x.2.deads,d.2.2≠0/\∃u:Nat,d.1=(u:Int)/\u<c.l.length
def xj(c:bk)(F:bX->bX):Prop:=∀x,rH c x->rH c (F x)
theorem Hx{c:bk}{u:Nat}(j:u<c.l.length)(r:Rec){e:Int}(m:e≠0):xj c (pT (u:Int) r e):=λx i=>⟨i.outs,λd a=>by
 rcases axE.1 (show d∈x.2.deads++[((u:Int),r,e)]from a)with a|a
 .exact i.deads d a
 .simp at a;subst a;exact⟨m,u,rfl,j⟩⟩
theorem auq{c:bk}{u:Nat}{v:bC}(j:c.l[u]?=eL v)(m:v.kind=10\/v.kind=5)(r:Rec):xj c (nS (u:Int) r):=λx i=>⟨λd a=>by
 rcases axE.1 (show d∈x.2.outs++[((u:Int),r)]from a)with a|a
 .exact i.outs d a
 .simp at a;subst a;exact⟨u,v,rfl,j,m⟩,i.deads⟩
theorem R7{c:bk}{x y:bX}(i:rH c x)(a:y.2.outs=x.2.outs)(j:y.2.deads=x.2.deads):rH c y:=⟨by rw[a];exact i.outs,by rw[j];exact i.deads⟩
theorem R8{c:bk}{α:Type}(f:bX->α->bX):∀(l:List α),(∀a∈l,xj c λx=>f x a)->xj c λx=>l.foldl f x
 | [],_=>λx i=>i
 | a::r,h=>λx i=>R8 f r (λb an=>h b (by simp[an])) (f x a) (h a (by simp) x i)
theorem af5{c:bk}{v:bC}{u:Nat}(m:u<c.l.length){r:Rec}{j:Rec->bX->bX}(h:∀y,xj c (j y)):xj c (qn v u j r):=λx i=>by
 unfold qn;split
 .rename_i q;exact Hx m r q x i
 .exact R8 (λx y=>j y x) (o6 v r).1 (λa _=>h a) x i
theorem aur{c:bk}{K:ej}{v:bC}{u:Nat}(j:u<c.l.length){r:Rec}{a:Rec->bX->bX}(h:∀y,xj c (a y)):xj c (tB K v u a r):=λx i=>by
 unfold tB;split
 .exact Hx j r (by decide) x i
 .split
  .rename_i m;exact Hx j r (afE m) x i
  .exact h _ _ (R7 i rfl rfl)
theorem aus{c:bk}{v:bC}{u:Nat}(j:u<c.l.length){r:Rec}{a:Rec->bX->bX}(h:∀y,xj c (a y)):xj c (wh c v u a r):=λx i=>by
 unfold wh;split
 .split
  .exact h _ x i
  .exact Hx j r (by decide) x i
 .exact Hx j r (by decide) x i
theorem aut{c:bk}{j:Int->Rec->bX->bX}(h:∀u y,xj c (j u y))(f:Int){u:Nat}(m:u<c.l.length)(r:Rec):xj c (qo c j f u r):=λx i=>by
 unfold qo;split
 .exact Hx m r (by decide) x i
 .have a:rH c (dC x):=R7 i rfl rfl;split
  .exact a
  .rename_i v q;split
   .rename_i s;exact af5 m (λy=>auq q s y) _ a
   .split
    .exact af5 m (λy=>h u y) _ a
    .split
     .split
      .exact aur m (λy=>h u y) _ a
      .exact a
     .split
      .split
       .exact aus m (λy=>h u y) _ a
       .exact a
      .exact a
theorem M2{c:bk}{v:Int}{u:Nat}(h:u∈c.us v):u<c.l.length:=by
 unfold bk.us at h;obtain⟨q,a,e⟩:=OF.1 (ajA.1 h).1;obtain⟨j,w,bd,i,_⟩:=Hd.1 a;have:=(axB.1 i).1;omega
theorem af6{c:bk}:∀(k:Nat) (v:Int) (r:Rec),xj c (oH c k v r)
 | 0,v,r=>λx i=>i
 | k+1,v,r=>λx i=>R8 (λx u=>qo c (oH c k) v u r x) (c.us v) (λu j=>aut (λa y=>af6 k a y) v (M2 j) r) x i
theorem auu{c:bk}{u:Nat}:xj c (λx=>cS c u x):=λx i=>by
 show rH c (cS c u x);unfold cS;split
 .exact R7 i rfl rfl
 .exact i
theorem af7{c:bk}(s:cT){v:Int}{u:Nat}(j:v=(u:Int))(m:u<c.l.length)(r:Rec):rH c (stepT c s v r).1:=by
 have i:∀s:cT,rH c (s,eG.none):=λs=>⟨λo h=>by simp[eG.none]at h,λo h=>by simp[eG.none]at h⟩;unfold stepT;split
 .exact i s
 .split
  .rename_i q;subst j;exact Hx m r q _ (i s)
  .refine R8 (λx u=>cS c u x) _ (λa _=>auu) _ (af6 24 v r _ ?_);split
   .exact R7 (i s) rfl rfl
   .exact i _
def nf(st:Nat->List ak)(u:Nat)(l:List ak):Nat->List ak:=λw=>if w=u then l else st w
def mD(c:bk):(Nat->List ak)->List (Int×ak)->Option (Nat->List ak)
 | st,[]=>eL st
 | st,p::r=>match c.c0 p.1.toNat with
  | some K=>if 0<=p.1/\(hJ K (st p.1.toNat) p.2).2=0 then mD c (nf st p.1.toNat (hJ K (st p.1.toNat) p.2).1) r else eN
  | none=>eN
theorem af8(c:bk):∀(st:Nat->List ak) (a b:List (Int×ak)),mD c st (a++b)=(mD c st a).bind λs=>mD c s b
 | st,[],b=>rfl
 | st,p::a,b=>by
  simp only[aza,mD];split
  .split
   .exact af8 c _ a b
   .rfl
  .rfl
theorem auv(st:Nat->List ak)(u:Nat)(a b:List ak):nf (nf st u a) u b=nf st u b:=by
 funext w;unfold nf;split<;>rfl
theorem auw(st:Nat->List ak)(u:Nat):nf st u (st u)=st:=by
 funext w;unfold nf;split
 .rename_i e;rw[e]
 .rfl
theorem af9{c:bk}{u:Nat}{K:ej}(a:c.c0 u=eL K):∀(i:List ak) (st:Nat->List ak) (l:List ak),h7 K (st u) i=eL l->mD c st (i.map λx=>((u:Int),x))=eL (nf st u l)
 | [],st,l,h=>by
  have:st u=l:=by simpa [h7]using h
  rw[<-this];show eL st=_;rw[auw]
 | x::r,st,l,h=>by
  have h':(if(hJ K (st u) x).2=0 then h7 K (hJ K (st u) x).1 r else eN)=eL l:=h;split at h'
  case isFalse=>cases h'
  rename_i j;have m:h7 K (nf st u (hJ K (st u) x).1 u) r=eL l:=by
   have:nf st u (hJ K (st u) x).1 u=(hJ K (st u) x).1:=by simp[nf]
   rw[this];exact h'
  have ih:=af9 a r (nf st u (hJ K (st u) x).1) l m;rw[auv]at ih;rw[ajF];unfold mD;simp only[ayw,a];rw[gr ⟨by omega,j⟩];exact ih
def gy(c:bk)(x y:bX):Prop:=∃a:List (Int×ak),y.2.verts=x.2.verts++a.map (·.1)/\y.2.chgs=x.2.chgs++a.map (·.2)/\mD c x.1.st a=eL y.1.st
theorem gy.same{c:bk}{x y:bX}(i:y.2.verts=x.2.verts)(j:y.2.chgs=x.2.chgs)(s:y.1.st=x.1.st):gy c x y:=⟨[],by simp[i],by simp[j],by rw[s];rfl⟩
theorem gy.trans{c:bk}{x y z:bX}(a:gy c x y)(b:gy c y z):gy c x z:=by
 obtain⟨p,i,j,s⟩:=a;obtain⟨q,u,A,B⟩:=b;exact⟨p++q,by rw[u,i];simp,by rw[A,j];simp,by rw[af8,s];exact B⟩
theorem aga{c:bk}{u:Nat}{K:ej}(i:c.c0 u=eL K){a l:List ak}{x:bX}(h:h7 K (x.1.st u) a=eL l):gy c x (kL (u:Int) a (kM u l x)):=by
 refine⟨a.map λy=>((u:Int),y),?_,?_,af9 i a x.1.st l h⟩
 .simp only[kL,kM,azn]
  congr 1
  exact(List.eq_replicate_iff.2 ⟨by simp,λb an=>by
   obtain⟨y,_,rfl⟩:=OF.1 an;rfl⟩).symm
 .simp[kL,kM,Function.comp_def]
def tj(c:bk)(F:bX->bX):Prop:=∀x,Inv c x->gy c x (F x)
theorem R9{c:bk}{α:Type}{j:Nat}(f:bX->α->bX):∀(l:List α),(∀a∈l,tj c λx=>f x a)->(∀a∈l,fT c j λx=>f x a)->tj c λx=>l.foldl f x
 | [],_,_=>λx i=>gy.same rfl rfl rfl
 | a::r,h,t=>λx i=>(h a (by simp) x i).trans (R9 f r (λb an=>h b (by simp[an])) (λb an=>t b (by simp[an])) (f x a) (t a (by simp) x i).inv)
theorem agb{c:bk}{v:bC}{u:Int}{r:Rec}{th:Rec->bX->bX}(h:∀y,tj c (th y))(t:∀y,fT c 24 (th y)):tj c (qn v u th r):=λx i=>by
 unfold qn;split
 .exact gy.same rfl rfl rfl
 .exact R9 (j:=24) (λx y=>th y x) (o6 v r).1 (λa _=>h a) (λa _=>t a) x i
theorem auy{c:bk}{K:ej}{v:bC}{u:Nat}(j:c.c0 u=eL K){r:Rec}{a:Rec->bX->bX}(h:∀y,tj c (a y)):tj c (tB K v u a r):=λx i=>by
 unfold tB;split
 .exact gy.same rfl rfl rfl
 .have w:=i.wf u K j;split
  .exact gy.same rfl rfl rfl
  .rename_i N m;have q:=asN w r m;rw[(Om w m).1]at q;have z:=aga j q;have A:=Hq (c:=c) (u:=u) (l:=sd K (x.1.st u) r.k r.t N) (λB s=>by rw[j]at s;cases s;exact(Om w m).2) x i;exact z.trans (h _ _ (B0 c u _ _ A.inv).inv)
theorem auz{c:bk}{v:bC}{u:Int}{r:Rec}{a:Rec->bX->bX}(h:∀y,tj c (a y)):tj c (wh c v u a r):=λx i=>by
 unfold wh;split
 .split
  .exact h _ x i
  .exact gy.same rfl rfl rfl
 .exact gy.same rfl rfl rfl
theorem auA{c:bk}{m:Int->Rec->bX->bX}(h:∀u y,tj c (m u y))(t:∀u y,fT c 24 (m u y))(f:Int)(u:Nat)(r:Rec):tj c (qo c m f u r):=λx i=>by
 unfold qo;split
 .exact gy.same rfl rfl rfl
 .rename_i q;obtain⟨j,_,_⟩:=RX i q;have a:gy c x (dC x):=gy.same rfl rfl rfl;split
  .exact a
  .split
   .exact a.trans (agb (th:=nS u) (λy x _=>gy.same rfl rfl rfl) (λy=>(Ol c u y).mono (by omega)) _ j)
   .split
    .exact a.trans (agb (λy=>h u y) (λy=>t u y) _ j)
    .split
     .split
      .rename_i K s;exact a.trans (auy s (λy=>h u y) _ j)
      .exact a
     .split
      .split
       .exact a.trans (auz (λy=>h u y) _ j)
       .exact a
      .exact a
theorem agc{c:bk}(m:c.l.length<=24):∀(k:Nat) (v:Int) (r:Rec),tj c (oH c k v r)
 | 0,v,r=>λx i=>gy.same rfl rfl rfl
 | k+1,v,r=>R9 (j:=1) (λx u=>qo c (oH c k) v u r x) (c.us v) (λu _=>auA (λa y=>agc m k a y) (λa y=>zk m k a y) v u r) (λu _=>RY (λa y=>zk m k a y) v u r)
theorem auB{c:bk}{u:Nat}:tj c (λx=>cS c u x):=λx i=>by
 show gy c x (cS c u x);unfold cS;cases a:c.c0 u with
 | none=>exact gy.same rfl rfl rfl
 | some K=>exact aga a ((i.wf u K a).Xw _)
def eR(c:bk):cT->List (Int×ak)->Option cT
 | s,[]=>eL s
 | s,p::r=>if 0<=p.1/\(fB c s p.1.toNat p.2).2=0 then eR c (fB c s p.1.toNat p.2).1 r else eN
theorem YE{l:List bC}{P:List Int}{part:Int}{y:Int}:∀{i:Nat},y∈nR l P part i->∃u,u<i/\y=(u:Int)/\uE l P part u=e6
 | 0,h=>by simp[nR]at h
 | i+1,h=>by
  unfold nR at h;rcases axE.1 h with h|h
  .obtain⟨u,m,a,j⟩:=YE h;exact⟨u,by omega,a,j⟩
  .split at h
   .rename_i hi;simp at h;exact⟨i,by omega,h,hi⟩
   .simp at h
theorem Sa{c:bk}(o:et c){y:Int}(h:c.ins.contains y=e6):∃u:Nat,u<c.l.length/\y=(u:Int)/\uE c.l c.P c.part u=true:=by
 obtain⟨u,j,a,i⟩:=YE (aAN.1 h);exact⟨u,by have:=Fm o.ti;omega,a,i⟩
theorem YF{k n:Int}{K:ej}(h:qZ k n=eL K):k=6\/k=7\/k=8:=by
 unfold qZ at h;split at h
 .omega
 .split at h
  .omega
  .split at h
   .omega
   .cases h
theorem YG{c:bk}{u:Nat}{K:ej}(h:c.c0 u=eL K):∃x,c.l[u]?=eL x/\qZ x.kind x.n=eL K:=by
 unfold bk.c0 at h;split at h
 .split at h
  .rename_i x a;exact⟨x,a,h⟩
  .cases h
 .cases h
theorem auC{c:bk}{u:Nat}{K:ej}(h:c.c0 u=eL K):c.ins.contains (u:Int)=false:=by
 cases aw:c.ins.contains (u:Int)
 .rfl
 exfalso;obtain⟨w,_,e,a⟩:=YE (aAN.1 aw);have e:u=w:=by omega
 subst e;obtain⟨x,i,j⟩:=YG h;have q:=YF j;have m:gK c.l (u:Int)=x.kind:=by unfold gK;rw[ayw,i];rfl
 unfold uE at a;rw[m]at a;simp only[Bool.or_eq_true,are,beq_iff_eq]at a;omega
theorem agd{c:bk}:∀(ps:List (Int×ak)) (ms:Seen) (st a:Nat->List ak),mD c st ps=eL a->eR c ⟨ms,st⟩ ps=eL ⟨ms,a⟩
 | [],ms,st,a,h=>by
  have:st=a:=by simpa [mD]using h
  rw[this];rfl
 | p::r,ms,st,a,h=>by
  unfold mD at h;split at h
  case h_2=>cases h
  rename_i K i;split at h
  case isFalse=>cases h
  rename_i j;have m:=auC i;have q:fB c ⟨ms,st⟩ p.1.toNat p.2=(⟨ms,nf st p.1.toNat (hJ K (st p.1.toNat) p.2).1⟩,(hJ K (st p.1.toNat) p.2).2):=by
   unfold fB;rw[gQ (by rw[m];decide),i];rfl
  unfold eR;rw[q,gr j];exact agd r ms _ a h
theorem auD{a:Nat}{l:Seen}{v t:Int}(h:(dR l v t).1=fr):dJ a l v t=l:=by
 unfold dR at h;unfold dJ;cases i:cV l v with
 | none=>rfl
 | some g=>
  rw[i]at h;simp only at h⊢;split
  .rfl
  .rename_i j;rw[gQ j]at h;split
   .rfl
   .rename_i m;rw[gQ m]at h;cases h
theorem auE{c:bk}(o:et c){s:cT}(N:∀u K,c.c0 u=eL K->dw K (s.st u))(v:Int)(r:Rec) :
  ∃ps:List (Int×ak),(stepT c s v r).1.2.verts=ps.map (·.1)/\(stepT c s v r).1.2.chgs=ps.map (·.2)/\eR c s ps=eL (stepT c s v r).1.1:=by
 cases A:c.ins.contains v
 .have B:stepT c s v r=((s,eG.none),6):=by unfold stepT;rw[gr A]
  rw[B];exact⟨[],rfl,rfl,rfl⟩
 by_cases D:(dR s.ms v r.t).2≠0
 .have B:stepT c s v r=(pT v r (dR s.ms v r.t).2 (s,eG.none),0):=by unfold stepT;rw[gQ (by rw[A];decide),gr D]
  rw[B];exact⟨[],rfl,rfl,rfl⟩
 obtain⟨i,m⟩:∃i:bX,i=({ s with ms:=dJ c.ins.length s.ms v r.t },eG.none):=⟨_,rfl⟩;obtain⟨a,z⟩:∃a:bX,a=(if(dR s.ms v r.t).1=e6 then kL v [l4 c r.t] i else i):=⟨_,rfl⟩;have B:stepT c s v r=((ajC c.l.length).foldl (λx u=>cS c u x) (oH c 24 v r a),0):=by
  unfold stepT;rw[gQ (by rw[A];decide),gQ D,z,m]
 rw[B];have F:Inv c i:=by rw[m];exact⟨D8 _,N⟩
 have G:cF c 2 i a:=by
  rw[z];split
  .exact B0 c v [l4 c r.t] i F
  .exact(cF.refl F).mono (by omega)
 have H:a.1=i.1:=by rw[z];split<;>rfl
 have E:=zk o.len 24 v r a G.inv;have Q:=Kz (c:=c) (j:=3000) (λx u=>cS c u x) (ajC c.l.length) (λu _=>DR) _ E.inv;have T:gy c a ((ajC c.l.length).foldl (λx u=>cS c u x) (oH c 24 v r a)):=(agc o.len 24 v r a G.inv).trans (R9 (c:=c) (j:=3000) (λx u=>cS c u x) (ajC c.l.length) (λu _=>auB) (λu _=>DR) _ E.inv);have R:((ajC c.l.length).foldl (λx u=>cS c u x) (oH c 24 v r a)).1.ms=i.1.ms:=Q.ms.trans (E.ms.trans (by rw[H]));generalize(ajC c.l.length).foldl (λx u=>cS c u x) (oH c 24 v r a)=Y at *;obtain⟨q,L,M,S⟩:=T;have W:Y.1=⟨i.1.ms,Y.1.st⟩:=by rw[<-R]
 have C:=agd q i.1.ms a.1.st Y.1.st S;rw[<-W,H]at C;cases an:(dR s.ms v r.t).1
 .rw[an,gQ (by decide)]at z;subst z;refine⟨q,by rw[L,m];rfl,by rw[M,m];rfl,?_⟩;rw[<-C,m];simp only[auD an]
 .rw[an,gr rfl]at z;subst z;obtain⟨u,Z,e,_⟩:=Sa o A;refine⟨(v,l4 c r.t)::q,by rw[L,m];rfl,by rw[M,m];rfl,?_⟩;have X:fB c s v.toNat (l4 c r.t)=({ s with ms:=dJ c.ins.length s.ms v r.t },(dR s.ms v r.t).2):=by
   unfold fB;rw[e,ayw,<-e,gr A];exact gr rfl
  unfold eR;simp only[X];rw[gr ⟨by omega,by simpa using D⟩];rw[m]at C;exact C
theorem age{c:bk}{s:cT}(a:sj c s)(v t:Int):sj c { s with ms:=dJ c.ins.length s.ms v t }:=by
 refine⟨Eq.trans ?_ a.1,Yw a.2⟩;show(dJ c.ins.length s.ms v t).map (·.2.1)=s.ms.map (·.2.1);unfold dJ;cases j:cV s.ms v with
 | none=>rfl
 | some g=>
  simp only;split
  .rfl
  .split
   .rfl
   .generalize c.ins.length=m;have i:∀l:Seen,(cV l v).isSome->(ev m l v t).map (·.2.1)=l.map (·.2.1):=by
     intro l
     induction l with
     | nil=>intro h;simp[cV]at h
     | cons e r ih=>
      intro h;unfold ev;by_cases a:e.2.1=v
      .rw[gr a];simp[a]
      .rw[gQ a,ajF,ajF,ih];unfold cV at h⊢;rw[azC,show(e.2.1==v)=fr by simpa using a]at h;exact h
    exact i _ (by rw[j];rfl)
theorem agf{c:bk}(o:et c){s:cT}(F:∀u K,c.c0 u=eL K->dw K (s.st u))(v:Int)(r:Rec) :
  (stepT c s v r).1.1.ms=s.ms\/(stepT c s v r).1.1.ms=dJ c.ins.length s.ms v r.t:=by
 cases q:c.ins.contains v
 .have i:stepT c s v r=((s,eG.none),6):=by unfold stepT;rw[gr q]
  rw[i];exact .inl rfl
 by_cases A:(dR s.ms v r.t).2≠0
 .have i:stepT c s v r=(pT v r (dR s.ms v r.t).2 (s,eG.none),0):=by unfold stepT;rw[gQ (by rw[q];decide),gr A]
  rw[i];exact .inl rfl
 obtain⟨a,z⟩:∃a:bX,a=({ s with ms:=dJ c.ins.length s.ms v r.t },eG.none):=⟨_,rfl⟩;obtain⟨m,B⟩:∃m:bX,m=(if(dR s.ms v r.t).1=e6 then kL v [l4 c r.t] a else a):=⟨_,rfl⟩;have i:stepT c s v r=((ajC c.l.length).foldl (λx u=>cS c u x) (oH c 24 v r m),0):=by
  unfold stepT;rw[gQ (by rw[q];decide),gQ A,B,z]
 rw[i];have C:Inv c a:=by rw[z];exact⟨D8 _,F⟩
 have D:cF c 2 a m:=by
  rw[B];split
  .exact B0 c v [l4 c r.t] a C
  .exact(cF.refl C).mono (by omega)
 have E:=zk o.len 24 v r m D.inv;have G:=Kz (c:=c) (j:=3000) (λx u=>cS c u x) (ajC c.l.length) (λu _=>DR) _ E.inv;refine .inr (G.ms.trans (E.ms.trans (D.ms.trans ?_)));rw[z]
theorem YH{c:bk}(o:et c){s:cT}(z:sj c s)(q:∀u K,c.c0 u=eL K->dw K (s.st u))(v:Int)(r:Rec) :
  sj c (stepT c s v r).1.1/\(∀u K,c.c0 u=eL K->dw K ((stepT c s v r).1.1.st u))/\sz (stepT c s v r).1<=2^22:=by
 have L:sj c (stepT c s v r).1.1:=by
  rcases agf o q v r with h|h
  .exact⟨by rw[h];exact z.1,by rw[h];exact z.2⟩
  .have:=age z v r.t;exact⟨by rw[h];exact this.1,by rw[h];exact this.2⟩
 refine⟨L,?_⟩;cases A:c.ins.contains v
 .have m:stepT c s v r=((s,eG.none),6):=by unfold stepT;rw[gr A]
  rw[m];exact⟨q,by simp[sz,eG.none]⟩
 by_cases C:(dR s.ms v r.t).2≠0
 .have m:stepT c s v r=(pT v r (dR s.ms v r.t).2 (s,eG.none),0):=by unfold stepT;rw[gQ (by rw[A];decide),gr C]
  rw[m];exact⟨q,by simp[sz,eG.none,pT]⟩
 obtain⟨a,B⟩:∃a:bX,a=({ s with ms:=dJ c.ins.length s.ms v r.t },eG.none):=⟨_,rfl⟩;obtain⟨i,D⟩:∃i:bX,i=(if(dR s.ms v r.t).1=e6 then kL v [l4 c r.t] a else a):=⟨_,rfl⟩;have m:stepT c s v r=((ajC c.l.length).foldl (λx u=>cS c u x) (oH c 24 v r i),0):=by
  unfold stepT;rw[gQ (by rw[A];decide),gQ C,D,B]
 rw[m];have E:Inv c a:=by rw[B];exact⟨D8 _,q⟩
 have O:sz a=4000000:=by rw[B];simp[sz,eG.none]
 have F:cF c 2 a i:=by
  rw[D];split
  .exact B0 c v [l4 c r.t] a E
  .exact(cF.refl E).mono (by omega)
 have G:=zk o.len 24 v r i F.inv;have H:=Kz (c:=c) (j:=3000) (λx u=>cS c u x) (ajC c.l.length) (λu _=>DR) _ G.inv;refine⟨H.inv.wf,?_⟩;have az:=F.sz;have bd:=G.sz;have M:sz ((ajC c.l.length).foldl (λx u=>cS c u x) (oH c 24 v r i))<=sz (oH c 24 v r i)+3000*(ajC c.l.length).length:=H.sz;have:=o.len;rw[aDw]at M;have:3000*c.l.length<=3000*24:=Nat.mul_le_mul_left _ this;show sz ((ajC c.l.length).foldl (λx u=>cS c u x) (oH c 24 v r i))<=2^22;omega
def jF(f:Int->Int)(L:Seen):Seen:=L.map λe=>(e.1,e.2.1,f e.2.1)
theorem auF{f g:Int->Int}{L:Seen}(h:∀z∈L.map (·.2.1),f z=g z):jF f L=jF g L:=by
 unfold jF;refine List.map_congr_left λe a=>?_;rw[h _ (OF.2 ⟨e,a,rfl⟩)]
theorem agh(f:Int->Int)(v:Int):∀L:Seen,cV (jF f L) v=if v∈L.map (·.2.1)then eL (f v)else eN
 | []=>rfl
 | e::L=>by
  have ih:=agh f v L;unfold cV at ih⊢;rw[jF,ajF,azC];by_cases h:e.2.1=v
  .subst h;simp
  .have j:(e.2.1==v)=false:=(by simpa using h);have m:¬v=e.2.1:=λU=>h U.symm;show((match e.2.1==v with|true=>eL (e.1,e.2.1,f e.2.1)|false=>aEU (λe=>e.2.1==v) (jF f L)).map (λe:Nat×Int×Int=>e.2.2))=_;rw[j];show(aEU (λe=>e.2.1==v) (jF f L)).map (λe:Nat×Int×Int=>e.2.2)=_;rw[ih];have i:v∈(e::L).map (λx:Nat×Int×Int=>x.2.1)↔v∈L.map (λx:Nat×Int×Int=>x.2.1):=by
    rw[ajF,IN];exact⟨λU=>U.resolve_left m,.inr⟩
   by_cases a:v∈L.map (λx:Nat×Int×Int=>x.2.1)
   .rw[gr a,gr (i.2 a)]
   .rw[gQ a,gQ λU=>a (i.1 U)]
theorem agi(i:Nat)(f:Int->Int)(v t:Int):∀L:Seen,v∈L.map (·.2.1)->(L.map (·.2.1)).Nodup->ev i (jF f L) v t=jF (λz=>if z=v then t else f z) L
 | [],h,_=>by simp at h
 | e::L,h,j=>by
  rw[ajF,azD]at j;show ev i ((e.1,e.2.1,f e.2.1)::jF f L) v t=(e.1,e.2.1,if e.2.1=v then t else f e.2.1)::jF (λz=>if z=v then t else f z) L;unfold ev;by_cases a:e.2.1=v
  .rw[gr a,gr a];have:jF f L=jF (λz=>if z=v then t else f z) L:=auF λz m=>by
    rw[gQ];intro U;subst U;exact j.1 (a▸m)
   rw[<-this];show(e.1,v,t)::jF f L=(e.1,e.2.1,t)::jF f L;rw[a]
  .rw[gQ a,gQ a];rw[agi i f v t L (by
    rw[ajF]at h;rcases IN.1 h with h|h
    .exact absurd h.symm a
    .exact h) j.2]
theorem auG(i:Nat)(f:Int->Int)(v t:Int){L:Seen}(j:(L.map (·.2.1)).Nodup):∃g,dJ i (jF f L) v t=jF g L:=by
 unfold dJ;rw[agh];by_cases a:v∈L.map (·.2.1)
 .rw[gr a];simp only;split
  .exact⟨f,rfl⟩
  .split
   .exact⟨f,rfl⟩
   .exact⟨_,agi i f v t L a j⟩
 .rw[gQ a];exact⟨f,rfl⟩
theorem YI:∀(zs:List Int) (k:Nat),(nu k zs).map (·.2.1)=zs/\jF (λ_=>-1) (nu k zs)=nu k zs
 | [],k=>⟨rfl,rfl⟩
 | z::r,k=>by
  obtain⟨a,b⟩:=YI r (k+1);refine⟨?_,?_⟩
  .show z::(nu (k+1) r).map (·.2.1)=z::r;rw[a]
  .show(k,z,(-1:Int))::jF (λ_=>-1) (nu (k+1) r)=(k,z,-1)::nu (k+1) r;rw[b]
def Mb(c:bk):Seen:=nu 0 c.ins
theorem auH(c:bk):(Mb c).map (·.2.1)=c.ins:=(YI c.ins 0).1
theorem auI(c:bk):c.ins.Nodup:=(XZ (Ys c)).1.imp λh=>by omega
theorem auJ(c:bk):((Mb c).map (·.2.1)).Nodup:=by rw[auH];exact auI c
def IZ(c:bk)(s:cT):Prop:=∃f,s.ms=jF f (Mb c)
theorem auK(c:bk):IZ c (cT.new c):=⟨λ_=>-1,(YI c.ins 0).2.symm⟩
theorem auL{c:bk}(o:et c){s:cT}(i:IZ c s)(j:∀u K,c.c0 u=eL K->dw K (s.st u))(v:Int)(r:Rec):IZ c (stepT c s v r).1.1:=by
 obtain⟨f,a⟩:=i;rcases agf o j v r with h|h
 .exact⟨f,by rw[h,a]⟩
 .rw[a]at h;obtain⟨g,m⟩:=auG c.ins.length f v r.t (auJ c);exact⟨g,by rw[h,m]⟩
theorem LT:∀(s:Nat) (e:cd) (h:I),fs e=s->ik e->Pure mP 24 [.agg (aN e)] h (.int gj (aPh.i64.wrap (fs e:Nat))):=by
 intro s
 induction s using Nat.strongRecOn with
 | _ s ih=>
 intro e h O D;obtain⟨o,n,a⟩:=e;refine Pure.val (bf.int _ _) ?_;have j:=D.len;simp only[cd.aQ]at j;refine a7 Tryz.func24 rfl ?_;have aw:(kB (aN (.mk o n a))).cells=eL (aN (.mk o n a)):=rfl;have E:cI (aP.cells (aN (.mk o n a)) 66 eN) 2=eL [.ag a.length (a.flatMap aN)]:=by rw[l0];rfl
 simp only[ae,aw];refine aT.bG (α:=Nat) (λi f h'=>f 1=.ptr h.n 0/\f 4=.int gj (i:Nat)/\f 3=.int gj (aPh.i64.wrap ((fH (a.take i)+1:Nat):Int))/\i<=a.length/\h'=h.push (.cells (aN (.mk o n a)) 66 eN)) (λi=>a.length-i) 0 ⟨rfl,rfl,rfl,D8 _,rfl⟩ ?_
 rintro i f h' ⟨m,u,z,hi,rfl⟩
 refine wpS ?_;by_cases B:i<a.length;rotate_left
 .have C:=dY i a.length;rw[ajE (by omega)]at z;simp only[ae,ds,al,Ae,m,u,z,E,C,aJ];exact ar ⟨by simp[fs],J.push _ _ _⟩
 .have C:=dK i a.length;have G:=Mr (kk:=.i64) B;have bq:=acw B;have F:a[i]∈(cd.mk o n a).aQ:=ayz B;have Q:=Wp _ F;have H:=D.ES _ F;generalize a[i]=A at *;have L:∀(q:List V),cw (eL (eL 3)) (eL (aN A++q))=eL (.agg (aN A)):=λq=>j1 (r5 A);have M:=iM i;have N:aPh.i64.wrap (aPh.i64.wrap ((fH (a.take i)+1:Nat):Int)+aPh.i64.wrap ((fs A:Nat):Int))=aPh.i64.wrap ((fH (a.take (i+1))+1:Nat):Int):=by rw[wrap_add,bq];congr 1;omega
  simp only[ae,ds,al,Ae,m,u,z,E,C,G,L];refine bE (ih (fs A) (by omega) A _ rfl H) ?_;simp only[ae,ds,u,M,N];exact ar ⟨i+1,⟨m,rfl,rfl,by omega,rfl⟩,by omega⟩
theorem auM{c:bk}{s:cT}(a:∀u K,c.c0 u=eL K->dw K (s.st u))(u:Nat):(zl c s u).length<=1024:=by
 unfold zl;split
 .split<;>simp
 .split
  .rename_i K i;have:=(NG K (s.st u)).length_eq;unfold NF;rw[this];exact(a u K i).len
  .simp
theorem Sb{α:Type}{cl:Nat}{k:Int}{a:α}:∀{l:List (Nat×Int×α)} {z:Int},cV (ev cl l k a) z=if z=k then eL a else cV l z
 | [],z=>by
  unfold ev cV;rw[azC];by_cases h:z=k
  .subst h;simp
  .rw[gQ h];have:(k==z)=false:=by simpa using λe=>h e.symm
   simp[this]
 | e::r,z=>by
  have ih:=Sb (cl:=cl) (k:=k) (a:=a) (l:=r) (z:=z);unfold ev;by_cases j:e.2.1=k
  .rw[gr j];unfold cV;rw[azC,azC];by_cases h:z=k
   .subst h;simp
   .rw[gQ h];have q:(k==z)=false:=by simpa using λe=>h e.symm
    have i:(e.2.1==z)=false:=(by rw[j];exact q);simp only[q,i]
  .rw[gQ j];unfold cV at ih⊢;rw[azC,azC];by_cases i:e.2.1=z
   .have m:(e.2.1==z)=true:=(by simpa using i);have s:z≠k:=λU=>j (i.trans U);simp[m,s]
   .have m:(e.2.1==z)=false:=(by simpa using i);simp only[m];exact ih
structure l6(h:I)(ow:cM)(id m:Nat)(b:At)(c:bk)(n:Nat):Prop where
 lt:m<h.n
 get:h.get m=.cells (c.cells b) 150 eN
 own:ow m=(id,1)
 marks:wc h (.ptr b.mq 0) (nu 0 c.ins) b.mq b.rD c.ins.length
 hn:ow b.mq=(id,2)/\ow b.rD=(id,3)
 mr:b.mp<h.n
 map:h.get b.mp=.map (mapOf gj x9 b.es) b.cl
 nU:ow b.mp=(id,4)
 some:∀u K,u<n->c.c0 u=eL K->∃a O x,cV b.es (u:Int)=Option.some a/\c.l[u]?=eL x/\iq h a O K x.e x.n []/\nT ow (id,10+u) O/\dB x.e=e6
 none:∀u,(n<=u\/c.c0 u=Option.none)->cV b.es (u:Int)=Option.none
section
variable {h h':I} {ow ow':cM} {id m n:Nat} {b:At} {c:bk}
theorem l6.ai{M:Nat->Prop}(k:l6 h ow id m b c n)(i:J h h' M)(D:∀q,q<h.n->M q->(ow q).1≠id)(j:∀q,q<h.n->ow' q=ow q):l6 h' ow' id m b c n:=by
 obtain⟨az,A,B,F,g1,g2,st⟩:=k.marks;have z:∀q,q<h.n->(ow q).1=id->h'.get q=h.get q:=λq s G=>i.get q s λU=>D q s U G;refine⟨IS k.lt i.n,(z _ k.lt (by rw[k.own])).trans k.get,(j _ k.lt).trans k.own,⟨az,IS A i.n,IS B i.n,F,(z _ A (by rw[k.hn.1])).trans g1,(z _ B (by rw[k.hn.2])).trans g2,st⟩,
  ⟨(j _ A).trans k.hn.1,(j _ B).trans k.hn.2⟩,IS k.mr i.n,(z _ k.mr (by rw[k.nU])).trans k.map,(j _ k.mr).trans k.nU,λu K H L=>?_,k.none⟩
 obtain⟨a,O,x,N,Q,C,E,R⟩:=k.some u K H L;exact⟨a,O,x,N,Q,C.ai i λq s U=>D q (C.lt q s) U (by rw[E q s]),E.bH C.lt j,R⟩
theorem l6.aY(k:l6 h ow id m b c n)(i:J h h' kR):l6 h' ow id m b c n:=k.ai i (λ_ _ U=>by simp[kR]at U) λ_ _=>rfl
theorem l6.skip(k:l6 h ow id m b c n)(s:c.c0 n=Option.none):l6 h ow id m b c (n+1) :=
 ⟨k.lt,k.get,k.own,k.marks,k.hn,k.mr,k.map,k.nU,λu K j i=>by
  by_cases e:u=n
  .subst e;rw[s]at i;cases i
  .exact k.some u K (by omega) i,λu j=>k.none u (j.imp (λh=>by omega) λh=>h)⟩
theorem l6.put(k:l6 h ow id m b c n)(f:Fr h ow){K:ej}(B:c.c0 n=Option.some K){x:bC}(Q:c.l[n]?=Option.some x)(R:dB x.e=e6){a:Nat}{O:List Nat}(S:J h h' kR)(T:∀q∈O,h.n<=q)(C:iq h' a O K x.e x.n []) :
  l6 (h'.set b.mp (.map (mapOf gj x9 (ev b.cl b.es (n:Int) a)) (pf b.cl b.es (n:Int)))) (dS ow h.n h'.n (id,10+n)) id m ⟨b.mq,b.rD,b.mp,ev b.cl b.es (n:Int) a,pf b.cl b.es (n:Int)⟩ c (n+1):=by
 have W:∀q,q<h.n->dS ow h.n h'.n (id,10+n) q=ow q:=λq i=>zj i;have kk:=k.ai (ow':=dS ow h.n h'.n (id,10+n)) S (λ_ _ U=>by simp[kR]at U) W;have mr:=k.mr;have aQ:J h' (h'.set b.mp (.map (mapOf gj x9 (ev b.cl b.es (n:Int) a)) (pf b.cl b.es (n:Int)))) (·=b.mp):=J.set _ _ _;obtain⟨az,D,E,X,g1,g2,st⟩:=kk.marks;have z:∀q t,q<h'.n->dS ow h.n h'.n (id,10+n) q=(id,t)->t≠4->(h'.set b.mp (.map (mapOf gj x9 (ev b.cl b.es (n:Int) a)) (pf b.cl b.es (n:Int)))).get q=h'.get q:=λq t i F bA=>aQ.get q i λU=>by
  rw[U,kk.nU]at F;simp at F;omega
 refine⟨kk.lt,(z _ _ kk.lt kk.own (by omega)).trans kk.get,kk.own,⟨az,D,E,X,(z _ _ D kk.hn.1 (by omega)).trans g1,(z _ _ E kk.hn.2 (by omega)).trans g2,st⟩,kk.hn,kk.mr,aM,kk.nU,λu Y j A=>?_,λu j=>?_⟩
 .show ∃G H L,cV (ev b.cl b.es (n:Int) a) (u:Int)=_/\_;rw[Sb];by_cases e:u=n
  .subst e;rw[B]at A;cases A;rw[gr rfl];have M:nT (dS ow h.n h'.n (id,10+u)) (id,10+u) O:=λq i=>Oc (T q i) (C.lt q i);exact⟨a,O,x,rfl,Q,C.ai aQ λq i U=>by have s:=M q i;rw[U,kk.nU]at s;simp at s;omega,M,R⟩
  .rw[gQ (by omega)];obtain⟨G,H,L,s,Z,aD,N,bV⟩:=kk.some u Y (by omega) A;exact⟨G,H,L,s,Z,aD.ai aQ λq i U=>by have s:=N q i;rw[U,kk.nU]at s;simp at s;omega,N,bV⟩
 .show cV (ev b.cl b.es (n:Int) a) (u:Int)=_;rw[Sb,gQ (by
   intro e;have e:u=n:=by omega
   subst e;rcases j with j|j
   .omega
   .rw[B]at j;cases j)]
  exact k.none u (j.imp (λh=>by omega) λh=>h)
theorem l6.done(k:l6 h ow id m b c n)(z:c.l.length<=n):fJ h ow id m b c (cT.new c) :=
 ⟨k.lt,k.get,k.own,k.marks,k.hn,k.mr,k.map,k.nU,λu K i=>by
  obtain⟨x,j,_⟩:=YG i;have:=(axB.1 j).1;exact k.some u K (by omega) i,λu s=>k.none u (.inr s)⟩
end
def kN(c:bk):Int:=if(cj c.p c.l).2≠0 then(cj c.p c.l).2 else if c.P.contains c.part=fr then 1 else if c.ins=[]then 1 else 0
def Made(id:Nat)(c:bk)(h:I)(i:cM):V->I->Prop:=λr h'=>J h h' kR /\
 ((kN c≠0/\r=.tuple [.dA,.int gj (kN c)])\/(kN c=0/\∃m b a,r=.tuple [.ptr m 0,.int gj 0]/\fJ h' a id m b c (cT.new c)/\(∀q,q<h.n->a q=i q)/\Fr h' a))
theorem auN{e:cd}(a:ik e):∀b∈kG e,b<256:=by
 unfold kG;split
 .exact WW e
 .simp
theorem auO{v:bC}(a:yH v):∀b∈gY v,b<256:=λb an=>by
 unfold gY Ak BN at an;simp only[axE,aAg]at an;rcases an with((an|an|⟨n,_,an⟩)|an)|an|an
 .exact BL _ _ (BY _) b an
 .exact BL _ _ (BY _) b an
 .exact BL _ _ (BY _) b an
 .exact BL _ _ (BY _) b an
 .exact BL _ _ (BY _) b an
 .exact auN a.1 b an
theorem YJ{p:Int}{l:List bC}(a:jE l):∀b∈l3 p l,b<256:=λb an=>by
 unfold l3 at an;split at an
 .unfold sO at an;simp only[axE,aAg]at an;rcases an with(an|an)|⟨v,i,an⟩
  .exact BL _ _ (BY _) b an
  .exact BL _ _ (BY _) b an
  .exact auO (a.2 v i) b an
 .cases an
theorem YK{p:Int}{l:List bC}(j:jE l):(l3 p l).length<=2^40:=by
 unfold l3;split
 .rename_i m;obtain⟨q,s,u,i⟩:=zg m;have z:=aeG (l:=l) λv a=>aeF (j.2 v a) (i v a).1 (i v a).2.1;have A:=(r8 p.toNat (by omega)).2;have B:=(r8 l.length (by omega)).2;unfold sO;simp only[D9];omega
 .simp
def rI(a:cM)(q:Nat)(t:Nat×Nat):cM:=λx=>if x=q then t else a x
theorem Fy(a:cM)(q:Nat)(t:Nat×Nat):rI a q t q=t:=gr rfl
theorem sl{a:cM}{q x:Nat}{t:Nat×Nat}(h:x≠q):rI a q t x=a x:=gQ h
theorem auP{c:bk}(h:(cj c.p c.l).2=0)(a:c.P.contains c.part=fr):kN c=1:=by unfold kN;rw[gQ (by rw[h];decide),gr a]
theorem auQ{c:bk}(h:(cj c.p c.l).2=0)(a:c.P.contains c.part=e6)(i:c.ins=[]):kN c=1:=by unfold kN;rw[gQ (by rw[h];decide),gQ (by rw[a];decide),gr i]
theorem auR{c:bk}(h:(cj c.p c.l).2=0)(a:c.P.contains c.part=e6)(i:c.ins≠[]):kN c=0:=by unfold kN;rw[gQ (by rw[h];decide),gQ (by rw[a];decide),gQ i]
theorem agj(id:Nat)(c:bk)(E:jE c.l)(h:I)(ay:iU h)(Y:cM)(f:Fr h Y)(aG:id≠0) :
  au mP 34 [.agg (cx c.l c.p),.int gj c.part] h (Made id c h Y):=by
 obtain⟨l,p,part⟩:=c;simp only at E⊢;have mo:∀(l:List bC) (p:Int),(kB (cx l p)).cells=eL [.ag l.length (l.flatMap ao),.int gj p]:=λ_ _=>rfl;have h9:∀(l:List bC) (p:Int),kB [.ag l.length (l.flatMap ao),.int gj p]=.agg (cx l p):=λ_ _=>rfl;have yK:∀(l:List bC) (p:Int),bD (eL 2) (aP.cells [V.ah,.int gj 0] 24 eN) 0 [.ag l.length (l.flatMap ao),.int gj p]=eL (.cells [.ag l.length (l.flatMap ao),.int gj p] 24 eN):=λ_ _=>rfl;refine a7 Tryz.func34 rfl ?_;obtain⟨H,hH,bl,gt,hx⟩:=bU h (.cells [.ag l.length (l.flatMap ao),.int gj p] 24 eN);have jq:=ay.ai bl;simp only[ae,ds,AT,al,mo,<-hH,gt,h9];refine bE (XM l p E H jq) ?_;unfold DK;by_cases z:(cj p l).2=0;rotate_left
 .have ba:((cj p l).2 !=0)=true:=by simpa using z
  have D:kN ⟨l,p,part⟩=(cj p l).2:=by unfold kN;rw[gr z]
  simp only[ae,ds,ba,aJ];exact ar ⟨bl,.inl ⟨by rw[D];exact z,by rw[D]⟩⟩
 have ba:((0:Int) !=0)=false:=rfl;have o:et ⟨l,p,part⟩:=⟨z,E⟩;simp only[ae,ds,z];refine bE (Hj _ (l3 p l) H jq (Rd.ag _ _) (YJ E) (by have:=YK (p:=p) E;omega)) ?_;have kI:pI (l3 p l)=.tuple [.agg (cx l p),.int gj 0]:=by unfold pI;rw[XT E z]
 rw[kI];obtain⟨bZ,bN,k2,nQ,c6⟩:=bU H (.cells [.ag l.length (l.flatMap ao),.int gj p] 24 eN);have t2:=jq.ai k2;have c4:=bl.trans' k2;simp only[ae,ds,AT,al,mo,yK,<-bN,nQ,h9];refine bE (N6 l p E bZ t2) ?_;have IV:(fo p l).length=l.length:=Fm z;have rA:l.length<=24:=o.len;rw[z];simp only[ae,ds];refine bE (ls (fo p l) part (by omega) bZ) ?_;cases Aa:(fo p l).contains part
 .have D:kN ⟨l,p,part⟩=1:=auP (c:=⟨l,p,part⟩) z Aa;simp only[ae,ds,aJ];exact ar ⟨c4,.inl ⟨by rw[D];decide,by rw[D]⟩⟩
 simp only[ae,ds,AT,al,nQ,h9];refine bE (X8 l p part E bZ t2) ?_;simp only[ae,ds];by_cases hi:oG p l part=[]
 .have D:kN ⟨l,p,part⟩=1:=auQ (c:=⟨l,p,part⟩) z Aa hi;rw[hi];refine bE (auo bZ) ?_;have bt:((1:Int) !=0)=true:=rfl;simp only[ae,ds,bt,aJ];exact ar ⟨c4,.inl ⟨by rw[D];decide,by rw[D]⟩⟩
 have D:kN ⟨l,p,part⟩=0:=auR (c:=⟨l,p,part⟩) z Aa hi;refine cp (XX bZ (oG p l part) (by cases af:oG p l part with|nil=>exact absurd af hi|cons a r=>simp) (KA o) (Ys ⟨l,p,part⟩)) λr s ⟨i,j,c2,s6,OL,aU,k3⟩=>?_;subst c2;have ez:=c4.trans' k3;have iu:=(k3.get H.n (by omega) (by simp[kR])).trans nQ;have n3:=k3.n;have aV:∀(n:Nat) (x:List V),(V.ag n x).cells=eL [.ag n x]:=λ_ _=>rfl;have YL:=s6;obtain⟨_,jA,o7,pN,ns,BO,av⟩:=YL;obtain⟨F,Z⟩:∃x,x=(s.push (.map [] 0)).push (.cells [.ag l.length (l.flatMap ao),.int gj p,.ag (fo p l).length (ax (fo p l)),.int gj part,.ptr i 0,.map s.n] 150 eN):=⟨_,rfl⟩;have dN:J s F kR:=by rw[Z];exact(J.push _ _ _).bp _
 have u5:F.n=s.n+2:=by rw[Z];rfl
 have aa:F.get (s.n+1)=.cells [.ag l.length (l.flatMap ao),.int gj p,.ag (fo p l).length (ax (fo p l)),.int gj part,.ptr i 0,.map s.n] 150 none:=by rw[Z];exact zO
 have vY:F.get s.n=.map [] 0:=by rw[Z];exact yZ
 have Ua:=(dN.get H.n (by omega) (by simp[kR])).trans iu;have lh:=ez.trans' dN;simp only[ae,ds,AT,By,al,iu,h9,mo];rw[<-Z];simp only[ae,ds,AT,d6,Ua];clear Z;obtain⟨G,tb⟩:∃x,x=rI (rI (rI (rI Y i (id,2)) j (id,3)) s.n (id,4)) (s.n+1) (id,1):=⟨_,rfl⟩;have cH:G (s.n+1)=(id,1):=by rw[tb];exact Fy _ _ _
 have ri:G s.n=(id,4):=by rw[tb,sl (by omega)];exact Fy _ _ _
 have jn:G j=(id,3):=by rw[tb,sl (by omega),sl (by omega)];exact Fy _ _ _
 have bY:G i=(id,2):=by rw[tb,sl (by omega),sl (by omega),sl pN];exact Fy _ _ _
 have DT:∀q,q≠i->q≠j->q≠s.n->q≠s.n+1->G q=Y q:=λq z ad s br=>by rw[tb,sl br,sl s,sl ad,sl z]
 clear tb;have f5:Fr F G:=λq R=>(DT q (by omega) (by omega) (by omega) (by omega)).trans (f q (by omega));have CG:∀q,q<h.n->G q=Y q:=λq R=>DT q (by omega) (by omega) (by omega) (by omega);have OM:l6 F G id (s.n+1) ⟨i,j,s.n,[],0⟩ ⟨l,p,part⟩ 0 :=
  ⟨by omega,aa,cH,⟨rfl,by show i<F.n;omega,by show j<F.n;omega,pN,(dN.get i jA (by simp[kR])).trans ns,(dN.get j o7 (by simp[kR])).trans BO,av⟩,⟨bY,jn⟩,by show s.n<F.n;omega,vY,ri,λu K hu=>absurd hu (Nat.not_lt_zero _),λu _=>rfl⟩
 obtain⟨m,hm⟩:∃m,m=s.n+1:=⟨_,rfl⟩;rw[<-hm]at OM⊢;have aA:(fo p l)=(bk.mk l p part).P:=rfl;refine aT.bG (α:=Nat×cM×At) (λx S h'=>S 1=.int gj part/\S 10=.ag (fo p l).length (ax (fo p l))/\S 13=.ptr m 0/\S 58=.ag l.length (l.flatMap ao)/\S 59=.int gj (l.length:Int)/\S 60=.int gj (x.1:Nat)/\x.1<=l.length /\
   l6 h' x.2.1 id m x.2.2 ⟨l,p,part⟩ x.1/\Fr h' x.2.1/\J h h' kR/\(∀q,q<h.n->x.2.1 q=Y q)/\x.2.2.mp=s.n) (λx=>l.length-x.1) (0,G,⟨i,j,s.n,[],0⟩)
  ⟨rfl,rfl,rfl,rfl,rfl,rfl,D8 _,OM,f5,lh,CG,rfl⟩ ?_
 clear OM f5 CG DT cH bY jn ri aa vY Ua ns BO s6 iu nQ gt;have z7:h.n<=s.n:=by omega
 rintro⟨x,T,b⟩ S cX ⟨f1,L,A,M,C,B,af,kY,f6,IE,Fz,yB⟩
 simp only at B af kY f6 Fz yB;refine wpS ?_;by_cases aC:x<l.length;rotate_left
 .have d1:=dY x l.length;simp only[ae,ds,A,C,B,d1,aJ];exact ar ⟨IE,.inr ⟨D,m,b,T,rfl,kY.done (by show l.length<=x;omega),Fz,f6⟩⟩
 have d1:=dK x l.length;have hw:=km aC (by omega);have ON:x<(fo p l).length:=by omega
 have eg:hC mP 22 (.ag l.length (l.flatMap ao)) (.int gj (x:Int))=eL (.at (ao l[x]++(l.drop (x+1)).flatMap ao)):=r0 lp aC EO;have b0:=vH (P:=mP) (kk:=.i64) ON kE;have aB:(fo p l)[x]?=eL (fo p l)[x]:=Jt ON;have yv:l[x]?=eL l[x]:=Jt aC;have CH:=(E.2 _ (ayz aC)).1;have Ub:=o.gJ (u:=x) yv;have N:(bk.mk l p part).c0 x=if(fo p l)[x]=part then qZ l[x].kind l[x].n else none:=by
  unfold bk.c0;rw[<-aA,aB];simp only[Option.some.injEq,yv]
 generalize(fo p l)[x]=sY at b0 N;generalize l[x]=v at eg CH Ub N yv;have iO:∀(q:List V),cw (eL (eL 6)) (eL (ao v++q))=eL (.agg (ao v)):=λq=>j1 (lp v);have aF:cw (eL (eL 6)) (eL (ao v))=eL (.agg (ao v)):=by have:=iO [];rwa[axA]at this
 have aH:(kB (ao v)).cells=eL (ao v):=rfl;have aI:bD (eL 6) (aP.cells [kA gj 0,.ah,.int gj 0,.int gj 0,.ah,.int gj 0] 68 eN) 0 (ao v)=eL (.cells (ao v) 68 eN):=by
  rw[u0 (n:=6) (lp _) (DG _),gr (by decide),sM];rfl
 obtain⟨u7,sm,j3,g7,n7⟩:=bU cX (.cells (ao v) 68 eN);have aO:cI (.cells (ao v) 68 eN) 0=eL (ao v):=by simp[i9,lp]
 have W:=kY.aY j3;have f7:Fr u7 T:=λq R=>f6 q (by omega);have te:=IE.trans' j3;simp only[ae,ds,al,f1,L,M,C,B,d1,eg,b0,iO,aH,aI];rw[<-sm];clear sm;by_cases aX:sY=part;rotate_left
 .have c5:(sY !=part)=true:=by simpa using aX
  rw[gQ aX]at N;simp only[ae,ds,reduceCtorEq,A,B,c5,hw];exact ar ⟨(x+1,T,b),⟨f1,L,A,M,C,rfl,by simp only;omega,W.skip N,f7,te,Fz,yB⟩,by simp only;omega⟩
 have c5:(sY !=part)=false:=by simpa using aX
 rw[gr aX]at N;simp only[ae,ds,al,c5,g7,aO,aF];by_cases OO:v.kind=6\/v.kind=7\/v.kind=8
 .obtain⟨⟨K,bQ⟩,OP⟩:=afK Ub.2.2 OO;rw[bQ]at N;refine cp (asU v bQ OP CH u7 (ay.1.ai te)) λr X ⟨a,O,DP,Q,mH,hG⟩=>?_;subst DP;have put:=W.put f7 N yv OP Q mH hG;have Uc:=(Q.get m W.lt (by simp[kR])).trans W.get;have q2:(bk.mk l p part).cells b=[.ag l.length (l.flatMap ao),.int gj p,.ag (fo p l).length (ax (fo p l)),.int gj part,.ptr b.mq 0,.map b.mp]:=rfl;rw[q2]at Uc;have aQ:=(Q.get b.mp W.mr (by simp[kR])).trans W.map;have up:=Vr (P:=mP) (k:=(x:Int)) (a:=a) (v:=.ptr a 0) J4 aQ rfl;have mC:((0:Int)==0)=true:=rfl;simp only[ae,ds,AT,By,al,A,B,Uc,up,hw];have cC:J X (X.set b.mp (.map (mapOf gj x9 (ev b.cl b.es (x:Int) a)) (pf b.cl b.es (x:Int)))) (·=b.mp):=J.set _ _ _;have n8:=Q.n;exact ar ⟨(x+1,dS T u7.n X.n (id,10+x),⟨b.mq,b.rD,b.mp,ev b.cl b.es (x:Int) a,pf b.cl b.es (x:Int)⟩),⟨f1,L,A,M,C,rfl,by simp only;omega,put,λq R=>by
   have dP:X.n<=q:=R;show dS T u7.n X.n (id,10+x) q=_;unfold dS;rw[gQ (by omega)];exact f7 q (by omega),(te.trans' Q).trans cC λq R e=>by omega,λq R=>by
   have:=te.n;show dS T u7.n X.n (id,10+x) q=_;rw[zj (by omega)];exact Fz q R,yB⟩,by simp only;omega⟩
 .refine cp (aun v (by omega) CH u7 (ay.1.ai te)) λr X ⟨DP,Q⟩=>?_;subst DP;have tI:qZ v.kind v.n=none:=by
   cases U:qZ v.kind v.n with
   | none=>rfl
   | some K=>have:=YF U;omega
  rw[tI]at N;have mC:((1:Int)==0)=false:=rfl;simp only[ae,ds,B,mC,hw];exact ar ⟨(x+1,T,b),⟨f1,L,A,M,C,rfl,by simp only;omega,(W.aY Q).skip N,λq R=>f7 q (by have:=Q.n;omega),te.trans' Q,Fz,yB⟩,by simp only;omega⟩
structure ayM where
 v:Int
 r:Rec
 d:Bool
 c:ak
structure yd(c:bk)(s:cT):Prop where
 aQ:sj c s
 wf:∀u K,c.c0 u=eL K->dw K (s.st u)
 ags:IZ c s
theorem auT{c:bk}(o:et c):yd c (cT.new c):=⟨YD c,aup c o,auK c⟩
theorem YM{c:bk}(o:et c){s:cT}(g:yd c s)(v:Int)(r:Rec):yd c (stepT c s v r).1.1 :=
 ⟨(YH o g.aQ g.wf v r).1,(YH o g.aQ g.wf v r).2.1,auL o g.ags g.wf v r⟩
theorem agt{c:bk}(o:et c){s:cT}(g:yd c s)(v:Int)(r:Rec):sz (stepT c s v r).1<=2^22:=(YH o g.aQ g.wf v r).2.2
def agu:bk:=⟨e0,1,0⟩
theorem auU:(cj 1 e0).2=0:=by decide
theorem OQ:et agu:=⟨auU,aeD⟩
end Go.Proofs.YtemdgidnhgcafaaGreatDoor.Pk
