/-
  What functions of the program do, told of abstract states. Conditions: as each theorem says.
-/
import Derived.Test.YtemdgidnhgcafaaGreatDoorNe
import Derived.Test.YtemdgidnhgcafaaGreatDoorAcD
import Derived.Shelf.Sort.Plain
import Derived.Shelf.Slices.In.SortNone
import Derived.Test.YtemdgidnhgcafaaGreatDoorProg
import Derived.Test.YtemdgidnhgcafaaGreatDoorNb
import Derived.Test.YtemdgidnhgcafaaGreatDoorNa
open Go.Proofs.Tryz renaming prog->mc,results66->aBT,results16->aBf,results31->aDs,results84->aBU,results90->aGb,results69->aGg,results26->aEy,results68->aGi,results111->aGj,results195->aBh,results172->azO
open List renaming flatMap_append->azo,take_of_length_le->ajz,take_succ_eq_append_getElem->azi,mem_cons->Iz,length_cons->axW,flatMap_cons->azh,append_assoc->axV,drop_left->aAe,append_nil->axX,find?_cons->az0,map_cons->axU,mem_map->OF,map_map->azM,mem_filter->ajA,mem_append->ayN,getElem?_eq_getElem->IA,drop_eq_getElem_cons->azg,pairwise_cons->aze,Pairwise->azV,length_map->axT,range->ajB,getD->ayO,getElem?_set->aAX,drop_of_length_le->azz,getElem_mem->ayM,length_range->aEx,getElem?_range->aBB,replicate->azr,length_replicate->aBg,length_append->Dx
open Nat renaming le_trans->ajy,reduceEqDiff->ds,reduceAdd->AS,zero_le->Dy,min_eq_left->azt,mul_one->ajD,le_refl->BY,lt_of_lt_of_le->IS,sub_self->aDu,reduceLeDiff->By
open Int renaming toNat_natCast->ayQ,le_refl->az4,reduceNeg->IN,tmod_lt_of_pos->aGh,toNat->azk,reduceBNe->aAa
open Bool renaming and_eq_true->ajC
open Go renaming IntKind->aOT
set_option linter.unusedVariables false
set_option linter.unusedSimpArgs false
set_option maxHeartbeats 4000000
set_option maxRecDepth 10000
namespace Go.Proofs.YtemdgidnhgcafaaGreatDoor.Pk
open Go Go.Proofs Go.Proofs.YtemdgidnhgcafaaGreatDoor.Ab
theorem ST(h:I)(v:bz):h3 mc 22 1 [(0,.agg (al v))] h=some (.bg h.n 0 1 1,h.push (.cells (al v) 68 none)):=by
 rw[ss,mD VR];rfl
theorem atX{h:I}{s:V}{cs:List bz}(o:Own h 68 6 s (cs.flatMap al))(F:cs.length<=2^40)(c:bz) :
  ∃a h',ki mc 22 22 s (.bg h.n 0 1 1) (h.push (.cells (al c) 68 none))=some (a,h')/\Own h' 68 6 a ((cs++[c]).flatMap al)/\J h h' (a7 s)/\cu h s a:=by
 have j:J h (h.push (.cells (al c) 68 none)) none_:=J.push _ _ _;have z:Own (h.push (.cells (al c) 68 none)) 68 6 (.bg h.n 0 1 1) (al c):=Own.e4 (al c) 1 (la c) (by decide)
 have A:=tc (P:=mc) (t:=22) pM z (n:=1) (la c) (by decide) (C9 c)
 obtain⟨a,h',B,C,D,i⟩:=sj (P:=mc) (t:=22) (tx:=22) VR (by decide) (o.ba j) A (la c) (λm u=>by
  change m*6=_ at u;rw[fJ la,la]at u;exact⟨by simp only[lim];omega,by simp only[lim];omega⟩)
 refine⟨a,h',B,?_,(j.up).trans' D,?_⟩
 ·rw[azo];simpa using C
 ·rcases i with i|i
  ·exact .inl i
  ·exact .inr λq E=>ajy j.n (i q E)
theorem JD(h:I)(c:Nat):aF (.tuple [.agg [.ag,.int .i64 0],.int .i64 (c:Nat)]) h (.tuple [.agg (cD [] 0),.int .i64 (c:Nat)]) h :=
 aF.tuple (aA.cons (Pk.aF.agg (aA.cons (aF.il h) (aA.refl _ _))) (aA.refl _ _))
theorem atY{h:I}{s:V}{l:List bz}(p:Int)(o:Own h 68 6 s (l.flatMap al)):∃a,aF (.agg [s,.int .i64 p]) h (.agg (cD l p)) a/\J h a (a7 s):=by
 obtain⟨a,c,k⟩:=aF.own (n:=l.length) o (fJ la l) (by decide)
 exact⟨a,Pk.aF.agg (aA.cons c (aA.refl _ _)),k⟩
theorem ae4{a:List Nat}{c:Nat}(h:pa a=.error c):c≠0:=by
 unfold pa at h;split at h
 ·injection h with h;omega
 unfold sA at h;split at h
 ·injection h with h;omega
 unfold sy at h;split at h
 ·injection h with h;omega
 unfold sx at h;split at h
 ·injection h with h;omega
 split at h
 ·cases h
 split at h
 ·injection h with h;omega
 ·cases h
theorem atZ{m:Nat}{i:List Nat}{a:List bz}{c:Nat}(h:pa i=.error c):jH (m+1) i a=.error c:=by unfold jH;rw[h]
theorem at0(i:Nat)(a:List Nat)(h:I)(aw:hB h)(aJ:dS h (.ptr i 0) i a)(ak:∀b∈a,b<256)(av:a.length<=2^47) :
  au mc 66 [.ptr i 0] h (λr h'=>r=Xv (qC a)/\J h h' (·=i)/\∀p l B,qC a=.ok (p,l,B)->dS h' (.ptr i 0) i B):=by
 refine au.cast ?_;refine bd Tryz.func66 rfl ?_;have cQ:=aJ.2.1;obtain⟨mE,iy,HQ,g0,ox⟩:=b0 h (.cells [V.ag,.int .i64 0] 24 none);have eZ:J h mE (·=i):=HQ.up;have n9:=dS.ai aJ HQ (by simp[none_])
 have Z:bA (some 2) (aR.cells [V.ag,.int .i64 0] 24 none) 0 [V.ag,.int .i64 0]=some (.cells [V.ag,.int .i64 0] 24 none):=rfl;have z0:(((0:Nat):Int) !=0)=false:=rfl;simp only[ae,ds,reduceCtorEq,wG];rw[<-iy];clear iy;refine cA (GS i a mE n9 ak (by omega)) λr H1 ⟨ay,cL,bx⟩=>?_
 subst ay;have s1:Sub (a.drop (dec a 0 0).2.1) a:=Sub.drop _ _;have g1:=(bx.get h.n (by omega) (by omega)).trans g0
 have o6:=eZ.trans' bx;have en:=bx.n;by_cases ay:(dec a 0 0).2.2=0;rotate_left
 ·have G:(((dec a 0 0).2.2:Int) !=0)=true:=by simp;omega
  have kM:qC a=.error (dec a 0 0).2.2:=by unfold qC;rw[if_pos ay]
  simp only[ae,ds,AS,jh,CI,wG,wH,G,g1,Z,aP,aBT,iR,iG,fq,iQ];rw[kM];exact ar ⟨_,_,JD _ _,rfl,o6.trans (J.set _ h.n _) λq u U=>by omega,λp l B U=>by cases U⟩
 have O:qC a=sC (min (dec a 0 0).1 1000) (a.drop (dec a 0 0).2.1):=by unfold qC;rw[if_neg (by omega)]
 rw[ay]at *;rw[O];generalize min (dec a 0 0).1 1000=P at *;generalize a.drop (dec a 0 0).2.1=z at *;clear O;simp only[ae,ds,reduceCtorEq,z0];refine cA (GS i z H1 cL (s1.lt ak) (by have:=s1.2;omega)) λr ca ⟨bc,dB,k2⟩=>?_
 subst bc;have s2:=(Sub.drop z (dec z 0 0).2.1).trans s1;have g2:=(k2.get h.n (by omega) (by omega)).trans g1
 have c4:=o6.trans' k2;have dd:=k2.n;by_cases bc:(dec z 0 0).2.2=0;rotate_left
 ·have G:(((dec z 0 0).2.2:Int) !=0)=true:=by simp;omega
  have kM:sC P z=.error (dec z 0 0).2.2:=by unfold sC;rw[if_pos bc]
  simp only[ae,ds,AS,jh,CI,wG,wH,G,g2,Z,aP,aBT,iR,iG,fq,iQ];rw[kM];exact ar ⟨_,_,JD _ _,rfl,c4.trans (J.set _ h.n _) λq u U=>by omega,λp l B U=>by cases U⟩
 have O:sC P z=if 24<min (dec z 0 0).1 1000 then .error 2 else sB P (min (dec z 0 0).1 1000) (z.drop (dec z 0 0).2.1):=by unfold sC;rw[if_neg (by omega)]
 rw[bc]at *;rw[O];generalize min (dec z 0 0).1 1000=N at *;generalize z.drop (dec z 0 0).2.1=Q at *;clear O;by_cases EU:24<N
 ·have G:decide ((24:Int)<(N:Int))=true:=decide_eq_true (by omega)
  simp only[ae,ds,AS,jh,CI,wG,wH,z0,G,g2,Z,aP,aBT,iR,iG,fq,iQ];rw[if_pos EU];exact ar ⟨_,_,JD _ 2,rfl,c4.trans (J.set _ h.n _) λq u U=>by omega,λp l B U=>by cases U⟩
 have G:decide ((24:Int)<(N:Int))=false:=decide_eq_false (by omega)
 rw[if_neg EU];have aa:bA (some 2) (aR.cells [V.ag,.int .i64 0] 24 none) 0 [V.ag,.int .i64 (P:Int)]=some (.cells [V.ag,.int .i64 (P:Int)] 24 none):=rfl;obtain⟨iV,jr,S5,HR,n3⟩:=b0 ca (.cells [V.ag,.int .i64 (P:Int)] 24 none);have k3:J ca iV (·=i):=S5.up;have g3:=(k3.get h.n (by omega) (by omega)).trans g2
 have ez:=c4.trans' k3;have jf:=dS.ai dB S5 (by simp[none_])
 simp only[ae,ds,AS,CI,wG,wH,z0,G,aa];rw[<-jr];clear jr;generalize iF:ca.n=F at *;have Xw:Own iV 68 6 .ag (([]:List bz).flatMap al):=.inl ⟨.inl rfl,rfl⟩;refine aS.bI (α:=Nat×V×List bz×List Nat) (λx f h'=>f 0=.ptr i 0/\f 2=.ptr h.n 0/\f 7=.ptr F 0/\f 33=.int .i64 (N:Int)/\f 34=.int .i64 (x.1:Nat)/\x.1<=N/\x.2.2.1.length=x.1/\h'.get h.n=.cells [V.ag,.int .i64 0] 24 none/\h'.get F=.cells [x.2.1,.int .i64 (P:Int)] 24 none /\
   Own h' 68 6 x.2.1 (x.2.2.1.flatMap al)/\(∀j,aU x.2.1=some j->F<j)/\dS h' (.ptr i 0) i x.2.2.2/\Sub x.2.2.2 a/\J h h' (·=i)/\F<h'.n/\jH N Q []=jH (N-x.1) x.2.2.2 x.2.2.1) (λx=>N-x.1) (0,.ag,[],Q)
  ⟨rfl,rfl,rfl,rfl,rfl,Dy _,rfl,g3,HR,Xw,(λj aN=>by simp[aU]at aN),jf,s2,ez,by omega,rfl⟩ ?_
 rintro⟨j,s,H,b⟩ f h1 ⟨f0,f2,f7,L,C,aN,kd,Ra,Nl,os,m,rd,R,kk,ad,M⟩
 simp only at C aN kd Nl os m rd R M;refine wpS ?_;by_cases aD:j<N
 ·have c5:decide ((j:Int)<(N:Int))=true:=decide_eq_true (by omega)
  have bT:=hR (i:=j) (by omega)
  obtain⟨iY,Ex⟩:∃iY,N-j=iY+1:=⟨N-j-1,by omega⟩
  rw[Ex]at M;simp only[ae,ds,reduceCtorEq,f0,L,C,c5];refine cA (atS i b h1 (aw.ai kk) rd (R.lt ak) (by have:=R.2;omega)) λr mF ⟨hW,S,d4⟩=>?_
  subst hW;have n4:=S.n;have S6:=(S.get h.n (by omega) (by omega)).trans Ra
  have ah:=(S.get F ad (by omega)).trans Nl
  have mq:=kk.trans' S;have ax:=os.ai S (λq u U=>by have:=m q u;omega)
  cases T:pa b with
  | error c=>
   rw[atZ T]at M;have uX:((c:Int) !=0)=true:=by have:=ae4 T;simp;omega
   have bq:sB P N Q=.error c:=by unfold sB;rw[M]
   have cb:(V.agg (al GU)).cells=some (al GU):=rfl;have dA:bA (some 6) (aR.cells [V.int .i64 0,.ag,.int .i64 0,.int .i64 0,.ag,.int .i64 0] 68 none) 0 (al GU)=some (.cells (al GU) 68 none):=by
    rw[uR (n:=6) (la _) (C9 _),if_pos (by decide),ss];rfl
   have wO:J mF (mF.push (.cells (al GU) 68 none)) none_:=J.push _ _ _;have Nn:=(wO.get h.n (by omega) (by simp[none_])).trans S6
   simp only[Xt];simp only[ae,ds,AS,jh,CI,wG,rM,wH,rN,f2,cb,dA,uX,Nn,Z,aP,aBT,iR,iG,fq,iQ];rw[bq];exact ar ⟨_,_,JD _ _,rfl,(mq.trans' wO.up).trans (J.set _ h.n _) λq u U=>by omega,λp l B U=>by cases U⟩
  | ok y=>
   obtain⟨A,B⟩:=y;have az:jH N Q []=jH iY B (H++[A]):=by rw[M];conv=>lhs;unfold jH;rw[T]
   obtain⟨_,Xx,_⟩:=ae2 (R.lt ak) T;have aB:=d4 A B T;have cb:(V.agg (al A)).cells=some (al A):=rfl;have dA:bA (some 6) (aR.cells [V.int .i64 0,.ag,.int .i64 0,.int .i64 0,.ag,.int .i64 0] 68 none) 0 (al A)=some (.cells (al A) 68 none):=by
    rw[uR (n:=6) (la _) (C9 _),if_pos (by decide),ss];rfl
   have gB:cO (aR.cells (al A) 68 none) 0=some (al A):=by rw[ss];rfl
   have mm:cJ (some (some 6)) (some (al A))=some (.agg (al A)):=by rw[ss];rfl
   obtain⟨iW,iX,W,GI,yU⟩:=b0 mF (.cells (al A) 68 none);have Nn:=(W.get h.n (by omega) (by simp[none_])).trans S6
   have S7:=(W.get F (by omega) (by simp[none_])).trans ah
   obtain⟨D,uU,dy,Xy,X,Y⟩:=atX (ax.ba W) (by omega) A
   have gk:=ST iW A;have aO:=X.n;have aC:=(X.get h.n (by omega) (λU=>by have:=m h.n U;omega)).trans Nn
   have aG:=(X.get F (by omega) (λU=>by have:=m F U;omega)).trans S7
   have mW:D.one=true:=by
    rcases Xy with⟨rfl|rfl,_⟩|⟨_,_,_,_,_,rfl,_⟩<;>rfl
   have ue:D.cells=some [D]:=by
    rcases Xy with⟨rfl|rfl,_⟩|⟨_,_,_,_,_,rfl,_⟩<;>rfl
   have Rb:bA (some 1) (aR.cells [s,V.int .i64 (P:Int)] 24 none) 0 [D]=some (.cells [D,.int .i64 (P:Int)] 24 none):=by rw[rA mW];rfl
   have uf:∀q,aU D=some q->F<q:=λq u=>by
    rcases Y with Y|Y
    ·exact m q (by rw[<-Y];exact u)
    ·have:=Y q u;omega
   have E:J uU (uU.set F (.cells [D,.int .i64 (P:Int)] 24 none)) (·=F):=J.set _ _ _;have HS:J h uU (·=i):=(mq.trans' W.up).trans X λq u U=>by have:=m q U;omega
   have aM:dS uU (.ptr i 0) i B:=dS.ai aB (W.up.trans' X) (λU=>by have:=m i U;omega)
   simp only[Xt];simp only[ae,ds,km,kH,rM,rN,f7,cb,dA];rw[<-iX];clear iX;simp only[ae,ds,AS,km,pN,aqL,f7,C,S7,GI,gB,mm,gk,dy,aG,ue,Rb,bT];exact ar ⟨(j+1,D,H++[A],B),⟨f0,f2,f7,L,rfl,aD,by simp[kd],(E.get h.n (by omega) (by omega)).trans aC,aL,Xy.ai E (λq u U=>by have:=uf q u;omega),uf,aM.ai E (by omega),Xx.trans R,HS.trans E λq u U=>by omega,by rw[kj];omega,by rw[show N-(j+1)=iY by omega];exact az⟩,by simp only;omega⟩
 ·have c5:decide ((j:Int)<(N:Int))=false:=decide_eq_false (by omega)
  rw[show N-j=0 by omega,jH]at M
  have bq:sB P N Q=.ok (P,H,b):=by unfold sB;rw[M]
  have mW:s.one=true:=by
   rcases os with⟨rfl|rfl,_⟩|⟨_,_,_,_,_,rfl,_⟩<;>rfl
  have EB:bA (some 2) (aR.cells [V.ag,.int .i64 0] 24 none) 0 [s,.int .i64 (P:Int)]=some (.cells [s,.int .i64 (P:Int)] 24 none) :=
   (uR (n:=2) (vs:=[s,V.int .i64 (P:Int)]) rfl (by simp only[all_cons,all_nil,PJ,mW,Bool.and_self])).trans rfl
  have E:J h1 (h1.set h.n (.cells [s,.int .i64 (P:Int)] 24 none)) (·=h.n):=J.set _ _ _;have EC:=os.ai E λq u U=>by have:=m q u;omega
  obtain⟨hc,iq,qf⟩:=atY (P:Int) EC;simp only[ae,ds,AS,jh,wH,f2,f7,L,C,c5,Nl,Ra,EB,aP,aBT,iR,iG,fq,iQ];rw[bq];refine ar ⟨_,hc,aF.tuple (aA.cons iq (aA.refl _ _)),rfl,(kk.trans E λq u U=>by omega).trans qf λq u U=>by have:=m q U;omega,λp l B U=>?_⟩
  cases U;exact(rd.ai E (by omega)).ai qf (λU=>by have:=m i U;omega)
theorem afd(a b:List Int)(h:I)(aT:a.length<=2^60):Pure mc 16 [.af a.length (ao a),.af b.length (ao b)] h (.bool (decide (a=b))):=by
 refine Pure.val (a8.bool _) ?_;refine bd Tryz.func16 rfl ?_;by_cases N:a.length=b.length;rotate_left
 ·have C:((a.length:Int) !=(b.length:Int))=true:=by simp;omega
  have R:decide (a=b)=false:=by simp only[decide_eq_false_iff_not];rintro rfl;exact N rfl
  simp only[ae,ds,reduceCtorEq,fB,C,aP,aBf,ac];exact ar ⟨by rw[R],J.refl _ _⟩
 have C:((a.length:Int) !=(b.length:Int))=false:=by simp[N]
 simp only[ae,ds,reduceCtorEq,fB,C];refine aS.bI (α:=Nat) (λi f h'=>f 0=.af a.length (ao a)/\f 1=.af b.length (ao b)/\f 5=.int .i64 (i:Nat)/\J h h' none_/\i<=a.length/\a.take i=b.take i) (λi=>a.length-i) 0
  ⟨rfl,rfl,rfl,J.refl _ _,Dy _,rfl⟩ ?_
 rintro i f T ⟨m,D,z,E,hi,F⟩
 refine wpS ?_;by_cases O:i<a.length;rotate_left
 ·have G:=eC (a:=i) (b:=a.length) (by omega)
  rw[ajz (by omega),ajz (by omega)]at F
  simp only[ae,ds,reduceCtorEq,fB,m,z,G,aP,aBf,ac];exact ar ⟨by rw[F];simp,E⟩
 ·have G:=dV (a:=i) (b:=a.length) (by omega)
  have Q:i<b.length:=by omega
  have S:=hR (i:=i) (by omega)
  have s:∃r,gP mc 46 (.af a.length (ao a)) (.int .i64 (i:Int))=some (.at (.int .i64 a[i]::r)):=⟨_,Ab.A1 (V.int .i64) O iS⟩;have u:∃r,gP mc 46 (.af b.length (ao b)) (.int .i64 (i:Int))=some (.at (.int .i64 b[i]::r)):=⟨_,Ab.A1 (V.int .i64) Q iS⟩;obtain⟨W,s⟩:=s;obtain⟨cL,u⟩:=u;have H:a[i]=b[i]->a.take (i+1)=b.take (i+1):=λj=>by rw[azi O,azi Q,F,j]
  have L:¬a[i]=b[i]->decide (a=b)=false:=λj=>by simp only[decide_eq_false_iff_not];rintro rfl;exact j rfl
  generalize a[i]=A at s H L;generalize b[i]=B at u H L;simp only[ae,ds,reduceCtorEq,fB,m,z,G];refine aS.cS none_ [] (.q 0 (.q 1 (.q 2 (.q 3 (.q 4 (.q 5 (.q 6 (.q 7 (.q 8 .done))))))))) ?_;by_cases j:A=B
  ·have M:(A !=B)=false:=by simp[j]
   simp only[ae,bt,ds,reduceCtorEq,aY,m,D,z,s,u,M,S];exact ar ⟨i+1,⟨m,D,rfl,E,by omega,H j⟩,by omega⟩
  ·have M:(A !=B)=true:=by simp[j]
   simp only[ae,bt,ds,reduceCtorEq,aY,m,D,z,s,u,M,aP,aBf,ac];exact ar ⟨by rw[L j],E⟩
theorem afe:∀(m:Nat) (j:List Nat) (a:List bz),(∀b∈j,b<256)->∀l r,jH m j a=.ok (l,r)->∃i,l=a++i/\i.length=m/\(∀v∈i,yv v)/\Sub r j/\((∀v∈i,v.kind<1000)->j=i.flatMap gE++r)
 | 0,j,a,ak,l,r,h=>by
  unfold jH at h;cases h;exact⟨[],by simp,rfl,by simp,Sub.rfl' _,λ_=>rfl⟩
 | m+1,j,a,ak,l,r,h=>by
  unfold jH at h;split at h
  ·cases h
  ·rename_i v A B;obtain⟨ok,s,C⟩:=ae2 ak B;obtain⟨i,D,E,F,G,H⟩:=afe m A (a++[v]) (s.lt ak) l r h;refine⟨v::i,by rw[D];simp,by simp[E],λu q=>?_,G.trans s,λz=>?_⟩
   ·rcases Iz.1 q with rfl|q
    ·exact ok
    ·exact F u q
   ·rw[C (z v (by simp)),H λu q=>z u (by simp[q])]
    simp
theorem aff:∀(l:List bz) (a:List bz) (r:List Nat),(∀v∈l,∀r,pa (gE v++r)=.ok (v,r))->jH l.length (l.flatMap gE++r) a=.ok (a++l,r)
 | [],a,r,h=>by simp[jH]
 | v::l,a,r,h=>by
  rw[axW,azh,axV];unfold jH;rw[h v (by simp)]
  simp only;rw[aff l (a++[v]) r λu i=>h u (by simp[i])]
  simp
theorem at1{a:List Nat}(ak:∀b∈a,b<256){p:Nat}{l:List bz}{r:List Nat}(h:qC a=.ok (p,l,r)):ju l/\p<=1000/\(p<1000->(∀v∈l,v.kind<1000)->a=sw (p:Int) l++r):=by
 unfold qC at h;split at h
 ·cases h
 rename_i ay;obtain⟨q,G⟩:=z7 ak (by omega)
 have j:=Sub.drop a (dec a 0 0).2.1;generalize(dec a 0 0).1=P at *;generalize a.drop (dec a 0 0).2.1=i at *;unfold sC at h;split at h
 ·cases h
 rename_i bc;obtain⟨s,H⟩:=z7 (j.lt ak) (by omega)
 have u:=(Sub.drop i (dec i 0 0).2.1).trans j;generalize(dec i 0 0).1=N at *;generalize i.drop (dec i 0 0).2.1=z at *;split at h
 ·cases h
 rename_i L;unfold sB at h;split at h
 ·cases h
 rename_i M O A;cases h;obtain⟨Q,m,R,B,S,C⟩:=afe _ z [] (u.lt ak) _ _ A;rw[List.nil_append]at m;subst m;refine⟨⟨by omega,B⟩,by omega,λT D=>?_⟩
 have E:min P 1000=P:=by omega
 have F:l.length=N:=by omega
 unfold sw;rw[E,F,ayQ]
 conv=>lhs;rw[q,s,C D]
 simp only[axV]
theorem at2{v:bz}(i:1<=v.kind/\v.kind<=10)(h:ly v=true):v.e=.mk 0 0 []\/dj v.e=true:=by
 unfold ly ii at h;simp only[ajC]at h;have a:=h.2.1;unfold pm at a;split at a
 ·left;simp only[ajC,beq_iff_eq,List.isEmpty_iff]at a;obtain⟨k,j,⟨o,n,q⟩,m⟩:=v;simp only[b6.op,b6.num,b6.aM]at a;obtain⟨rfl,rfl,rfl⟩:=a;rfl
 ·right;simp only[ajC]at a;exact a.1
theorem at3{P:Nat}{l:List bz}(j:ju l)(h:(cg (P:Int) l).2=0):qC (sw (P:Int) l)=.ok (P,l,[]):=by
 obtain⟨m,q,s,i⟩:=Dd h;unfold sw;rw[ayQ,axV];unfold qC;rw[i8 P (by omega)]
 simp only[aAe];rw[if_neg (by simp),azt (by omega)]
 unfold sC;rw[i8 l.length (by omega)]
 simp only[aAe];rw[if_neg (by simp),azt (by omega),if_neg (by omega)]
 unfold sB;have:=aff l [] [] λv a r=>atW (j.2 v a) (i v a).1 (i v a).2.1 (i v a).2.2.1 (at2 (i v a).1 (i v a).2.2.2) r;rw[axX]at this;rw[this];rfl
theorem at4{j:List Nat}{c:Nat}(h:qC j=.error c):c≠0:=by
 have q:∀(m:Nat) (b:List Nat) (a:List bz) (c:Nat),jH m b a=.error c->c≠0:=by
  intro m
  induction m with
  | zero=>intro b a c h;unfold jH at h;cases h
  | succ m ih=>
   intro b a c h;unfold jH at h;split at h
   ·rename_i i;cases h;exact ae4 i
   ·exact ih _ _ _ h
 unfold qC at h;split at h
 ·injection h with h;omega
 unfold sC at h;split at h
 ·injection h with h;omega
 split at h
 ·injection h with h;omega
 unfold sB at h;split at h
 ·rename_i i;cases h;exact q _ _ _ _ i
 ·cases h
def wW(a:List Nat):(Int×List bz)×Int:=match qC a with
 | .error c=>((0,[]),(c:Int))
 | .ok (p,l,r)=>if r.length≠0 then((0,[]),5)else if(cg (p:Int) l).2≠0 then((0,[]),(cg (p:Int) l).2)else(((p:Int),l),0)
def qD(a:List Nat):V:=.tuple [.agg (cD (wW a).1.2 (wW a).1.1),.int .i64 (wW a).2]
theorem at5(a:List Nat):a8 (qD a):=a8.tuple (bb.cons (a8.agg (aeO _ _)) (bb.cons (a8.int _ _) bb.nil))
theorem afg{p:Int}{l:List bz}(a:ju l)(h:(cg p l).2=0):wW (nh p l)=((p,l),0):=by
 obtain⟨i,_,_,j⟩:=Dd h;obtain⟨P,rfl⟩:=Int.eq_ofNat_of_zero_le (show 0<=p by omega)
 unfold nh;rw[if_pos h];unfold wW;rw[at3 a h];simp only[List.length_nil];rw[if_neg (by simp),if_neg (by omega)]
theorem Np(x:V)(a:List Nat)(h:I)(N:jG h)(rd:Rd h x a)(ak:∀b∈a,b<256)(ax:a.length<=2^47):Pure mc 31 [x] h (qD a):=by
 refine Pure.of (at5 a) ?_;refine bd Tryz.func31 rfl ?_;obtain⟨B,O,Q,g0,ox⟩:=b0 h (.cells [V.ag,.int .i64 0] 24 none);have C:bA (some 2) (aR.cells [V.ag,.int .i64 0] 24 none) 0 [V.ag,.int .i64 0]=some (.cells [V.ag,.int .i64 0] 24 none):=rfl;have R:∀(l:List bz) (p:Int),bA (some 2) (aR.cells [V.ag,.int .i64 0] 24 none) 0 [.af l.length (l.flatMap al),.int .i64 p]=some (.cells [.af l.length (l.flatMap al),.int .i64 p] 24 none):=λ_ _=>rfl;have pb:∀(l:List bz) (p:Int),(V.agg (cD l p)).cells=some [.af l.length (l.flatMap al),.int .i64 p]:=λ_ _=>rfl;have ln:∀(l:List bz) (p:Int),V.agg [.af l.length (l.flatMap al),.int .i64 p]=.agg (cD l p):=λ_ _=>rfl;simp only[ae,ds,reduceCtorEq,wG];rw[<-O];clear O;refine cA (L5 x a B (rd.ai Q) (by omega)) λr S ⟨ay,cL,T⟩=>?_
 subst ay;have en:B.n+1<=S.n:=cL.2.1;have g1:=(T.get h.n (by omega) (by simp[none_])).trans g0
 have W:=Q.trans' T;simp only[ae,ds];refine cA (at0 B.n a S (N.1.ai W) cL ak ax) λr u ⟨bc,D,d2⟩=>?_;subst bc;have dd:=D.n;have X:=(D.get h.n (by omega) (by omega)).trans g1
 have Y:J h u none_:=W.trans D λq z U=>by omega
 cases i:qC a with
 | error c=>
  have Z:=at4 i;have m:((c:Int) !=0)=true:=by simp;omega
  have j:qD a=.tuple [.agg (cD [] 0),.int .i64 (c:Nat)]:=by unfold qD wW;rw[i]
  rw[j];have wO:J u (u.push (.cells [.af 0 [],.int .i64 0] 24 none)) none_:=J.push _ _ _;have s:=(wO.get h.n (by omega) (by simp[none_])).trans X
  have Z:(V.agg (cD [] 0)).cells=some [.af 0 [],.int .i64 0]:=rfl;have Xz:bA (some 2) (aR.cells [V.ag,.int .i64 0] 24 none) 0 [.af 0 [],.int .i64 0]=some (.cells [.af 0 [],.int .i64 0] 24 none):=rfl;simp only[Xv];simp only[ae,ds,AS,jh,CI,wG,wH,Z,Xz,m,s,C,aP,aDs,iR,iG,fq,iQ];exact ar ⟨_,JD _ c,(Y.trans' wO).trans (J.set _ h.n _) λq z U=>by omega⟩
 | ok y=>
  obtain⟨p,l,r⟩:=y;have E:=d2 p l r i;obtain⟨F,_,_⟩:=at1 ak i;have z0:((0:Int) !=0)=false:=rfl;obtain⟨iV,jr,G,HR,n3⟩:=b0 u (.cells [.af l.length (l.flatMap al),.int .i64 (p:Int)] 24 none);have s:=(G.get h.n (by omega) (by simp[none_])).trans X
  have H:=dS.ai E G (by simp[none_])
  have A:=Y.trans' G;simp only[Xv];simp only[ae,ds,wG,wH,pb,R];rw[<-jr];clear jr;refine bO (Left iV _ _ r H) ?_;by_cases BA:r.length=0;rotate_left
  ·have m:decide ((0:Int)<(r.length:Int))=true:=decide_eq_true (by omega)
   have j:qD a=.tuple [.agg (cD [] 0),.int .i64 (5:Nat)]:=by unfold qD wW;rw[i];simp only;rw[if_pos BA];rfl
   rw[j];simp only[ae,ds,AS,jh,CI,wG,wH,m,s,C,aP,aDs,iR,iG,fq,iQ];exact ar ⟨_,JD _ 5,A.trans (J.set _ h.n _) λq z U=>by omega⟩
  have m:decide ((0:Int)<(r.length:Int))=false:=decide_eq_false (by omega)
  simp only[ae,ds,AS,jh,m,HR,ln];refine bO (Q7 l p F iV (N.ai A)) ?_;by_cases L:(cg (p:Int) l).2=0
  ·have M:((cg (p:Int) l).2 !=0)=false:=by simpa using L
   have j:qD a=.tuple [.agg (cD l (p:Int)),.int .i64 0]:=by unfold qD wW;rw[i];simp only;rw[if_neg (by omega),if_neg (by omega)]
   rw[j];simp only[ae,ds,AS,jh,wH,sv,M,HR,s,R,aP,aDs,iR,iG,fq,iQ];exact ar ⟨_,aF.refl _ _,A.trans (J.set _ h.n _) λq z U=>by omega⟩
  ·have M:((cg (p:Int) l).2 !=0)=true:=by simpa using L
   have j:qD a=.tuple [.agg (cD [] 0),.int .i64 (cg (p:Int) l).2]:=by unfold qD wW;rw[i];simp only;rw[if_neg (by omega),if_pos L]
   rw[j];simp only[ae,ds,AS,jh,CI,wG,wH,sv,M,s,C,aP,aDs,iR,iG,fq,iQ];exact ar ⟨_,aF.tuple (aA.cons (Pk.aF.agg (aA.cons (aF.il _) (aA.refl _ _))) (aA.refl _ _)),A.trans (J.set _ h.n _) λq z U=>by omega⟩
abbrev Seen:=List (Nat×Int×Int)
def oX(a:Int):V:=.int .i64 a
def wX(h:I)(p:V)(l:Seen)(i j cl:Nat):Prop :=
 p=.ptr i 0/\i<h.n/\j<h.n/\i≠j/\h.get i=.cells [.map j] 210 none/\h.get j=.map (mapOf .i64 oX l) cl/\eg (mapOf .i64 oX l) cl
def leastOf(l:Seen):Int:=if l=[]then -1 else l.foldr (λe m=>min e.2.2 m) 1099511627776
def hl(l:Seen)(v t:Int):Bool×Int:=match eu l v with
 | none=>(false,6)
 | some g=>if t<0\/1099511627776<t then(false,2)else if t<=g then(false,0)else(true,0)
def hE(cl:Nat)(l:Seen)(v t:Int):Seen:=match eu l v with
 | none=>l
 | some g=>if t<0\/1099511627776<t then l else if t<=g then l else fm cl l v t
theorem afk{kk:aOT}{α:Type}{enc:α->V}{cl:Nat}{v:Int}{a:α}:∀{l:List (Nat×Int×α)},(eu l v).isSome->(mapOf kk enc (fm cl l v a)).map (·.1)=(mapOf kk enc l).map (·.1)
 | [],h=>by simp[eu]at h
 | e::l,h=>by
  unfold fm;by_cases i:e.2.1=v
  ·simp[i,mapOf]
  ·have:(eu l v).isSome:=by
    unfold eu at h⊢;rw[az0,show(e.2.1==v)=false by simp[i]]at h
    exact h
   have ih:=afk (kk:=kk) (enc:=enc) (cl:=cl) (a:=a) this;simp only[mapOf,i,if_false,axU]at ih⊢;rw[ih]
theorem at6{es a:List (Nat×V×V)}{cl:Nat}(h:eg es cl)(i:a.map (·.1)=es.map (·.1)):eg a cl:=by
 refine⟨λe j=>?_,by rw[i];exact h.2⟩
 have:e.1∈a.map (·.1):=OF.2 ⟨e,j,rfl⟩;rw[i]at this;obtain⟨m,q,s⟩:=OF.1 this;rw[<-s];exact h.1 m q
theorem XA(h:I)(p:V)(l:Seen)(i j cl:Nat)(A:wX h p l i j cl)(v t:Int) :
  au mc 84 [p,.int .i64 v,.int .i64 t] h (λr h'=>r=.tuple [.bool (hl l v t).1,.int .i64 (hl l v t).2]/\wX h' p (hE cl l v t) i j cl/\J h h' (·=j)):=by
 have M:=A;obtain⟨rfl,hi,E,B,q,C,F⟩:=A;refine bd Tryz.func84 rfl ?_;have m:=lookup_int (P:=mc) (ok:=true) (k:=v) LR LV C;have G:=UC (P:=mc) (k:=v) (a:=t) (v:=.int .i64 t) LR C rfl;cases s:eu l v with
 | none=>
  rw[s]at m;simp only[ae,ds,reduceCtorEq,CE,Ei,CG,q,m,aP,aBU,da];exact ar ⟨by simp[hl, *],by simp[hE, *],J.refl _ _⟩
 | some a=>
  rw[s]at m;have H:oN cl l v=cl:=by simp[oN,s]
  have L:wX (h.set j (.map (mapOf .i64 oX (fm cl l v t)) cl)) (.ptr i 0) (fm cl l v t) i j cl :=
   ⟨rfl,hi,E,B,by rw[n1 B];exact q,aL,at6 F (afk (by simp[s]))⟩
  by_cases u:t<0
  ·simp only[ae,ds,reduceCtorEq,CE,Ei,CG,q,m,oX,u,aP,aBU,da];exact ar ⟨by simp[hl, *],by simp[hE, *],J.refl _ _⟩
  ·by_cases z:1099511627776<t
   ·simp only[ae,ds,reduceCtorEq,CE,Ei,CG,q,m,oX,u,z,aP,aBU,da];exact ar ⟨by simp[hl, *],by simp[hE, *],J.refl _ _⟩
   ·by_cases D:t<=a
    ·simp only[ae,ds,reduceCtorEq,CE,Ei,CG,q,m,oX,u,z,D,aP,aBU,da];exact ar ⟨by simp[hl, *],by simp[hE, *],J.refl _ _⟩
    ·simp only[ae,ds,reduceCtorEq,CE,Ei,CG,q,m,oX,u,z,D,aP,aBU,da,G,H];exact ar ⟨by simp[hl, *],by simp[hE, *],J.set _ _ _⟩
theorem XB{kk:aOT}{α:Type}{enc:α->V}:∀{l:List (Nat×Int×α)} {a b:Nat×Int×α},((mapOf kk enc l).map (·.1)).Nodup->a∈l->b∈l->a.1=b.1->a=b
 | [],a,b,_,h,_,_=>by simp at h
 | e::l,a,b,j,aT,ak,m=>by
  simp only[mapOf,axU,List.nodup_cons]at j;have i:∀c:Nat×Int×α,c∈l->c.1≠e.1:=λc av u=>j.1 (by
   rw[azM];exact OF.2 ⟨c,av,u⟩)
  rcases Iz.1 aT with q|aT<;>rcases Iz.1 ak with s|ak
  ·rw[q,s]
  ·exact absurd (by rw[<-m,q]) (i b ak)
  ·exact absurd (by rw[m,s]) (i a aT)
  ·exact XB (kk:=kk) (enc:=enc) j.2 aT ak m
structure oc(l:Seen)(m:Int):Prop where
 le:m<=1099511627776
 all:∀e∈l,m<=e.2.2
 mem:m=1099511627776\/∃e∈l,m=e.2.2
theorem oc.eq{l:Seen}{a b:Int}(aT:oc l a)(ak:oc l b):a=b:=by
 have key:∀{x y:Int},oc l x->oc l y->x<=y:=λj i=>by
  rcases i.mem with i|⟨e,s,i⟩
  ·rw[i];exact j.le
  ·rw[i];exact j.all e s
 have u:=key aT ak;have z:=key ak aT;omega
theorem at7(l:Seen):oc l (l.foldr (λe m=>min e.2.2 m) 1099511627776):=by
 induction l with
 | nil=>exact⟨az4 _,by simp,.inl rfl⟩
 | cons a l ih=>
  simp only[List.foldr_cons];refine⟨?_,λe i=>?_,?_⟩
  ·have:=ih.le;omega
  ·rcases Iz.1 i with rfl|i
   ·omega
   ·have:=ih.all e i;omega
  ·by_cases j:a.2.2<=l.foldr (λe m=>min e.2.2 m) 1099511627776
   ·exact .inr ⟨a,by simp,by omega⟩
   ·rcases ih.mem with h|⟨e,i,h⟩
    ·exact .inl (by omega)
    ·exact .inr ⟨e,by simp[i],by omega⟩
theorem Nq(h:I)(p:V)(l:Seen)(i j cl:Nat)(Q:wX h p l i j cl) :
  Pure mc 90 [p] h (.int .i64 (leastOf l)):=by
 obtain⟨rfl,hi,R,iL,E,A,a⟩:=Q;have S:=a;refine Pure.val (a8.int _ _) ?_;refine bd Tryz.func90 rfl ?_;have u:=Uu (P:=mc) (h:=h) apS A;have T:=KE (P:=mc) LR A;by_cases z:l=[]
 ·have B:((((mapOf .i64 oX l).length:Nat):Int)==0)=true:=by simp[mapOf,z]
  simp only[ae,IN,ds,reduceCtorEq,CE,Ei,CG,E,u,B,aP,aGb,ac];exact ar ⟨by rw[leastOf,if_pos z],J.refl _ _⟩
 ·have B:((((mapOf .i64 oX l).length:Nat):Int)==0)=false:=by
   have:l.length≠0:=by simpa using z
   simp[mapOf];exact z
  simp only[ae,IN,ds,reduceCtorEq,CE,Ei,CG,E,u,B,T];refine aS.bI (α:=List Nat) (λseen f h'=>h'=h.push (.iter j cl seen cl)/\f 20=.ptr h.n 0/\∃m,f 3=.int .i64 m/\m<=1099511627776/\(∀e∈l,e.1∈seen->m<=e.2.2)/\(m=1099511627776\/∃e∈l,m=e.2.2))
   (λseen=>(nZ (mapOf .i64 oX l) seen).length) [] ⟨rfl,rfl,_,rfl,az4 _,by simp,.inl rfl⟩ ?_
  rintro seen f h' ⟨rfl,C,m,F,W,G,H⟩
  refine wpS ?_;have L:(h.push (.iter j cl seen cl)).get j=.map (mapOf .i64 oX l) cl:=by rw[iP R];exact A
  simp only[ae,C];refine KC fv L a (λX=>?_) λe q=>?_
  ·have Y:∀e∈l,e.1∈seen:=λe q=>by
    apply Classical.byContradiction;intro Z;have:(e.1,V.int .i64 e.2.1,oX e.2.2)∈nZ (mapOf .i64 oX l) seen:=by
     unfold nZ;exact ajA.2 ⟨OF.2 ⟨e,q,rfl⟩,by simp[Z]⟩
    rw[X]at this;simp at this
   simp only[ae,ds,F,aP,aGb,ac];refine ar ⟨?_,J.push _ _ _⟩;rw[leastOf,if_neg z]
   congr 1
   exact oc.eq ⟨W,λe q=>G e q (Y e q),H⟩ (at7 l)
  ·have M:=(ajA.1 q).1;obtain⟨s,N,rfl⟩:=OF.1 M;have O:=KD (h:=(h.push (.iter j cl seen cl)).set h.n (.iter j cl (seen++[s.1]) cl)) (r:=h.n) (e:=(s.1,V.int .i64 s.2.1,oX s.2.2)) aL (by rw[n1 (by omega)];exact L) a M
   simp only[set_push]at O;simp only[ae,ds,C,O,oX,F];refine ar ⟨seen++[s.1],⟨rfl,C,min m s.2.2,rfl,by omega,λe q a=>?_,?_⟩,PL q⟩
   ·rcases ayN.1 a with a|a
    ·have:=G e q a;omega
    ·simp at a;have tF:e=s:=XB S.2 q N (by simpa using a)
     subst tF;omega
   ·by_cases D:m<=s.2.2
    ·rw[Int.min_eq_left D];exact H
    ·rw[Int.min_eq_right (by omega)];exact .inr ⟨s,N,rfl⟩
def mH(k:Nat):List Int->Seen
 | []=>[]
 | z::r=>(k,z,-1)::mH (k+1) r
def rW(a:Int):List Int->Prop
 | []=>True
 | z::r=>a<z/\rW z r
theorem XC(k:Nat)(z:Int):∀(zs:List Int),mH k (zs++[z])=mH k zs++[(k+zs.length,z,-1)]
 | []=>rfl
 | a::zs=>by
  simp only[List.cons_append,mH,XC (k+1) z zs,axW];rw[show k+1+zs.length=k+(zs.length+1)by omega]
theorem afl{lo z:Int}:∀{zs:List Int},rW lo (zs++[z])->rW lo zs/\lo<z/\∀x∈zs,x<z
 | [],h=>⟨trivial,h.1,by simp⟩
 | a::zs,h=>by
  obtain⟨j,m⟩:=h;obtain⟨q,s,u⟩:=afl m;exact⟨⟨j,q⟩,by omega,λx i=>by
   rcases Iz.1 i with rfl|i
   ·exact s
   ·exact u x i⟩
theorem afm{k:Nat}{v:Int}:∀{zs:List Int},eu (mH k zs) v=if v∈zs then some (-1)else none
 | []=>rfl
 | a::zs=>by
  have ih:=afm (k:=k+1) (v:=v) (zs:=zs);unfold eu at ih⊢;simp only[mH,az0];by_cases h:a=v
  ·subst h;simp
  ·have:(a==v)=false:=by simp[h]
   rw[this];simp only;rw[ih];simp[Ne.symm h]
def JE(a:Int):List Int->Int
 | []=>a
 | z::r=>JE z r
theorem afn(i z:Int):∀zs:List Int,JE i (zs++[z])=z
 | []=>rfl
 | a::zs=>afn a z zs
theorem aua{lo:Int}{zs:List Int}(h:rW lo zs){k:Nat}(i:k<zs.length):rW lo (zs.take (k+1))/\JE lo (zs.take k)<zs[k]:=by
 induction zs generalizing lo k with
 | nil=>simp at i
 | cons a zs ih=>
  cases k with
  | zero=>exact⟨⟨h.1,trivial⟩,h.1⟩
  | succ k=>
   obtain⟨j,m⟩:=ih h.2 (k:=k) (by simpa using i)
   exact⟨⟨h.1,by simpa using j⟩,by simpa [JE]using m⟩
theorem take_succ{α:Type}{l:List α}{k:Nat}(a:k<l.length):l.take (k+1)=l.take k++[l[k]]:=by
 rw[List.take_add_one,IA a];rfl
theorem XD(h:I)(zs:List Int)(h1:1<=zs.length)(ad:zs.length<=24)(aT:rW (-1) zs) :
  au mc 74 [.af zs.length (zs.map (.int .i64))] h (λr h'=>∃i j,r=.tuple [.ptr i 0,.int .i64 0]/\wX h' (.ptr i 0) (mH 0 zs) i j zs.length/\h.n<=i/\h.n<=j/\J h h' none_):=by
 refine bd Tryz.func74 rfl ?_;have R:decide ((zs.length:Int)<1)=false:=by simp;omega
 have S:decide (24<(zs.length:Int))=false:=by simp;omega
 simp only[ae,IN,ds,reduceCtorEq,fB,aqb,aqx,R,S];refine aS.bI (α:=Nat) (λk f h'=>k<=zs.length/\f 4=.ptr (h.n+1) 0/\f 5=.int .i64 (JE (-1) (zs.take k))/\f 19=.af zs.length (zs.map (.int .i64))/\f 20=.int .i64 zs.length/\f 21=.int .i64 (k:Nat) /\
  wX h' (.ptr (h.n+1) 0) (mH 0 (zs.take k)) (h.n+1) h.n k/\J h h' none_) (λk=>zs.length-k) 0 ?_ ?_
 ·refine⟨Dy _,rfl,rfl,rfl,rfl,rfl,⟨rfl,?_,?_,by omega,?_,?_,eg.nil _⟩,?_⟩
  ·rw[df,df];omega
  ·rw[df,df];omega
  ·rw[show h.n+1=(h.push (.map [] 0)).n by rfl,fv]
  ·rw[iP (by rw[df];omega),fv];rfl
  ·exact(J.push _ _ _).bp _
 ·rintro k f h' ⟨hk,A,T,u,m,z,W,G⟩
  refine wpS ?_;obtain⟨_,hi,H,B,C,D,E⟩:=W;by_cases s:k<zs.length
  ·have F:decide ((k:Int)<(zs.length:Int))=true:=by simp;omega
   have L:=I6 (P:=mc) (t:=46) (k:=.i64) (i:=(k:Int)) (cs:=zs.map (V.int .i64)) iS (by omega) (by omega:(k:Int)<(zs.length:Nat)) (by simp)
   have X:(zs.map (V.int .i64)).drop ((k:Int).toNat*1)=.int .i64 zs[k]::(zs.map (V.int .i64)).drop (k+1):=by
    rw[ayQ,ajD,azg (by simpa using s)]
    simp
   rw[X]at L;obtain⟨M,Y⟩:=aua aT s;have Z:decide (zs[k]<=JE (-1) (zs.take k))=false:=by simp;omega
   have N:=UC (P:=mc) (h:=h') (k:=zs[k]) (a:=(-1:Int)) (v:=.int .i64 (-1)) LR D rfl;have O:eu (mH 0 (zs.take k)) zs[k]=none:=by
    rw[afm,if_neg];intro e3;rw[take_succ s]at M;have:=(afl M).2.2 _ e3;omega
   have dA:fm k (mH 0 (zs.take k)) zs[k] (-1)=mH 0 (zs.take (k+1)):=by
    have:(mH 0 (zs.take k)).findIdx? (λe=>e.2.1==zs[k])=none:=by
     cases az:(mH 0 (zs.take k)).findIdx? (λe=>e.2.1==zs[k])with
     | none=>rfl
     | some q=>
      obtain⟨e,_,_,Q⟩:=UA az;rw[O]at Q;cases Q
    rw[UB this,take_succ s,XC];simp;omega
   have XE:oN k (mH 0 (zs.take k)) zs[k]=k+1:=by simp[oN,O]
   rw[dA,XE]at N;have cE:aOT.i64.wrap ((k:Int)+1)=((k+1:Nat):Int):=by rw[Go.IntWalk.i64_in _ (by omega)];rfl
   simp only[ae,IN,ds,CE,CG,aY,A,T,u,m,z,F,L,Z,C,N,cE];refine ar ⟨k+1,⟨by omega,A,?_,u,m,rfl,⟨rfl,hi,H,B,by rw[n1 B];exact C,aL,?_⟩,G.kB (BY _) _⟩,by omega⟩
   ·show V.int .i64 zs[k]=_;rw[take_succ s,afn]
   ·have ay:mapOf .i64 oX (mH 0 (zs.take (k+1)))=mapOf .i64 oX (mH 0 (zs.take k))++[(k,.int .i64 zs[k],oX (-1))]:=by
     rw[take_succ s,XC];simp[mapOf];omega
    rw[ay];exact E.snoc _ _
  ·obtain rfl:k=zs.length:=by omega
   have F:decide ((zs.length:Int)<(zs.length:Int))=false:=by simp
   simp only[ae,IN,ds,A,m,z,F,aP,Tryz.results74,da];rw[List.take_length]at D E;exact ar ⟨h.n+1,h.n,by first|rfl|(show V.tuple [f 4,.int .i64 0]=_;rw[A]),⟨rfl,hi,H,B,C,D,E⟩,by omega,BY _,G⟩
open Go.Shelf
def auc:Go.Shelf.Ren:=⟨λ| 189=>151|125=>97|257=>171|128=>131|129=>132|294=>186|295=>187|296=>188|297=>189|298=>190|299=>191|216=>192|300=>193|301=>194|328=>207|329=>160|330=>161|331=>208|332=>209|215=>98|343=>228|n=>n,λ| 28=>46|3=>3|46=>189|0=>0|51=>236|53=>131|4=>4|183=>229|182=>228|131=>233|5=>5|9=>9|218=>270|222=>274|228=>310|229=>82|n=>n,λ| n=>n⟩
theorem afo:Go.Proofs.Lays.n189 mc auc:={
 mixed:=by kernel_rfl
 f125:=Tryz.func97.trans (congrArg some (by kernel_rfl))
 f128:=Tryz.func131.trans (congrArg some (by kernel_rfl))
 f129:=Tryz.func132.trans (congrArg some (by kernel_rfl))
 f189:=Tryz.func151.trans (congrArg some (by kernel_rfl))
 f215:=Tryz.func98.trans (congrArg some (by kernel_rfl))
 f216:=Tryz.func192.trans (congrArg some (by kernel_rfl))
 f257:=Tryz.func171.trans (congrArg some (by kernel_rfl))
 f294:=Tryz.func186.trans (congrArg some (by kernel_rfl))
 f295:=Tryz.func187.trans (congrArg some (by kernel_rfl))
 f296:=Tryz.func188.trans (congrArg some (by kernel_rfl))
 f297:=Tryz.func189.trans (congrArg some (by kernel_rfl))
 f298:=Tryz.func190.trans (congrArg some (by kernel_rfl))
 f299:=Tryz.func191.trans (congrArg some (by kernel_rfl))
 f300:=Tryz.func193.trans (congrArg some (by kernel_rfl))
 f301:=Tryz.func194.trans (congrArg some (by kernel_rfl))
 f328:=Tryz.func207.trans (congrArg some (by kernel_rfl))
 f329:=Tryz.func160.trans (congrArg some (by kernel_rfl))
 f330:=Tryz.func161.trans (congrArg some (by kernel_rfl))
 f331:=Tryz.func208.trans (congrArg some (by kernel_rfl))
 f332:=Tryz.func209.trans (congrArg some (by kernel_rfl))
 f343:=Tryz.func228.trans (congrArg some (by kernel_rfl))
 t0:=Tryz.underlying0
 a0:=Tryz.isAgg0
 z0:=Tryz.sizeOf0
 v0:=Tryz.zeroValue0
 t3:=Tryz.underlying3
 a3:=Tryz.isAgg3
 z3:=Tryz.sizeOf3
 v3:=Tryz.zeroValue3
 t4:=Tryz.underlying4
 a4:=Tryz.isAgg4
 z4:=Tryz.sizeOf4
 v4:=Tryz.zeroValue4
 t5:=Tryz.underlying5
 a5:=Tryz.isAgg5
 z5:=Tryz.sizeOf5
 v5:=Tryz.zeroValue5
 t9:=Tryz.underlying9
 a9:=Tryz.isAgg9
 z9:=Tryz.sizeOf9
 v9:=Tryz.zeroValue9
 t28:=Tryz.underlying46
 a28:=Tryz.isAgg46
 z28:=Tryz.sizeOf46
 v28:=Tryz.zeroValue46
 t46:=Tryz.underlying189
 a46:=Tryz.isAgg189
 z46:=Tryz.sizeOf189
 v46:=Tryz.zeroValue189
 t51:=Tryz.underlying236
 a51:=Tryz.isAgg236
 z51:=Tryz.sizeOf236
 v51:=Tryz.zeroValue236
 t53:=Tryz.underlying131
 a53:=Tryz.isAgg131
 z53:=Tryz.sizeOf131
 v53:=Tryz.zeroValue131
 t131:=Tryz.underlying233
 a131:=Tryz.isAgg233
 z131:=Tryz.sizeOf233
 v131:=Tryz.zeroValue233
 t182:=Tryz.underlying228
 a182:=Tryz.isAgg228
 z182:=Tryz.sizeOf228
 v182:=Tryz.zeroValue228
 t183:=Tryz.underlying229
 a183:=Tryz.isAgg229
 z183:=Tryz.sizeOf229
 v183:=Tryz.zeroValue229
 t218:=Tryz.underlying270
 a218:=Tryz.isAgg270
 z218:=Tryz.sizeOf270
 v218:=Tryz.zeroValue270
 t222:=Tryz.underlying274
 a222:=Tryz.isAgg274
 z222:=Tryz.sizeOf274
 v222:=Tryz.zeroValue274
 t228:=Tryz.underlying310
 a228:=Tryz.isAgg310
 z228:=Tryz.sizeOf310
 v228:=Tryz.zeroValue310
 t229:=Tryz.underlying82
 a229:=Tryz.isAgg82
 z229:=Tryz.sizeOf82
 v229:=Tryz.zeroValue82 }
open Go.Sort Go.RowKit in
theorem slices_Sort_int(hz off cap:Nat)(zs:List Int)(w:World)(hH:Holds (Value.int .i64) w hz off zs.toArray)(hblk:hz<w.heap.size)(bl:zs.length<4611686018427387904) :
  Calls mc 151 #[.slice (some ⟨hz,off,none⟩) zs.length cap] w λe w'=>
   e=.returned (.tuple #[])/\∃n os,w'=grow (putRow (Value.int .i64) (Sort.ahead w n) hz off (zs.mergeSort λx y=>decide (x<=y)).toArray) os:=Any.slices_Sort_int afo hz off cap zs w hH hblk bl
open Go.Sort Go.RowKit in
theorem slices_Sort_int_none(p:Option Addr)(cap:Nat)(w:World) :
  Calls mc 151 #[.slice p 0 cap] w λe w'=>e=.returned (.tuple #[])/\w'=w:=Any.slices_Sort_int_none afo p cap w
theorem aud{h:I}{v:V}{l:List Int}(a:Own h 3 1 v (ao l))(i:l.length<4611686018427387904) :
  au mc 151 [v] h (λr h'=>r=.tuple []/\Own h' 3 1 v (ao (l.mergeSort λx y=>decide (x<=y)))/\J h h' (a7 v)) :=
 aot (λhz off cap zs w hH ak j=>slices_Sort_int hz off cap zs w hH ak j) (λp cap w=>slices_Sort_int_none p cap w) a i
theorem afp:∀{b a:List Int},a.Perm b->a.Pairwise (·<=·)->b.Pairwise (·<·)->a=b
 | [],a,i,_,_=>i.eq_nil
 | y::j,[],i,_,_=>by have:=i.length_eq;simp at this
 | y::j,x::xs,i,aT,ak=>by
  have m:x∈y::j:=i.subset (by simp)
  have q:y∈x::xs:=i.symm.subset (by simp)
  have s:x<=y:=by
   rcases Iz.1 q with h|h
   ·omega
   ·exact(aze.1 aT).1 y h
  have u:y<=x:=by
   rcases Iz.1 m with h|h
   ·omega
   ·have:=(aze.1 ak).1 x h;omega
  obtain rfl:x=y:=by omega
  rw[afp (List.perm_cons x |>.1 i) (aze.1 aT).2 (aze.1 ak).2]
theorem XF:∀{zs:List Int} {lo:Int},rW lo zs->zs.Pairwise (·<·)/\∀x∈zs,lo<x
 | [],lo,_=>⟨azV.nil,by simp⟩
 | z::zs,lo,h=>by
  obtain⟨j,m⟩:=h;obtain⟨q,i⟩:=XF m;refine⟨aze.2 ⟨λx a=>i x a,q⟩,λx a=>?_⟩;rcases Iz.1 a with rfl|a
  ·exact j
  ·have:=i x a;omega
theorem aue{zs i:List Int}{j:Int}(aT:rW j zs)(m:i.Perm zs):(i.mergeSort λx y=>decide (x<=y))=zs:=by
 refine afp ((List.mergeSort_perm _ _).trans m) ?_ (XF aT).1;have:=List.pairwise_mergeSort (le:=λx y:Int=>decide (x<=y)) (by intro a b c s u;simp at *;omega) (by intro a b;simp;omega) i
 exact this.imp λh=>by simpa using h
theorem auf(h:I)(p:V)(l:Seen)(i j cl:Nat)(C:wX h p l i j cl)(zs:List Int)(bS:l.map (·.2.1)=zs)(aT:rW (-1) zs)(ax:zs.length<=24) :
  Pure mc 115 [p] h (.af zs.length (ao zs)):=by
 obtain⟨rfl,hi,aN,iL,mZ,oD,M⟩:=C;have dk:=M;refine Pure.acc (e:=3) (sz:=1) (yM _) (by rw[am,ajD]) (by omega) ?_
 refine bd Tryz.func115 rfl ?_;have nf:=KE (P:=mc) LR oD;simp only[ae,ds,reduceCtorEq,CE,Ei,CG,mZ,nf];refine aS.bI (α:=V×List (Nat×Int×Int)) (λx f h'=>h'.get h.n=.iter j cl (x.2.map (·.1)) cl/\h'.get j=.map (mapOf .i64 oX l) cl/\h.n<h'.n/\f 11=.ptr h.n 0/\f 3=x.1/\Acc h h' 3 1 x.1 (ao (x.2.map (·.2.1)))/\aU x.1≠some h.n/\(∀e∈x.2,e∈l)/\x.2.Nodup)
  (λx=>(nZ (mapOf .i64 oX l) (x.2.map (·.1))).length) (.ag,[]) ⟨fv,by rw[iP aN];exact oD,by rw[df];omega,rfl,rfl,Acc.nil (J.push _ _ _),by simp[aU],by simp,List.nodup_nil⟩ ?_
 rintro⟨v,q⟩ f h' ⟨g1,N,aB,u,E,z,F,D,G⟩
 simp only at g1 E z F D G;refine wpS ?_;have HT:q.length<=l.length:=G.length_le_of_subset D;have x6:l.length=zs.length:=by rw[<-bS,axT]
 simp only[ae,u];refine KC g1 N M (λjz=>?_) λe A=>?_
 ·have dq:∀e∈l,e∈q:=λe A=>by
   apply Classical.byContradiction;intro O;have XG:e.1∉q.map (·.1):=λC=>by
    obtain⟨ek,hr,Q⟩:=OF.1 C;have:ek=e:=XB dk.2 (D ek hr) A Q;exact O (this▸hr)
   have:(e.1,V.int .i64 e.2.1,oX e.2.2)∈nZ (mapOf .i64 oX l) (q.map (·.1)):=by
    unfold nZ;exact ajA.2 ⟨OF.2 ⟨e,A,rfl⟩,by simpa using XG⟩
   rw[jz]at this;simp at this
  have tw:l.Nodup:=by
   have:=dk.2;unfold mapOf at this;rw[azM]at this;exact azV.of_map _ (λa b R S=>R (by rw[S])) this
  have aW:q.Perm l:=(List.perm_ext_iff_of_nodup G tw).2 λe=>⟨D e,dq e⟩;have W:(q.map (·.2.1)).Perm zs:=by rw[<-bS];exact aW.map _
  simp only[ae,ds,E];refine cA (aud z.own (by rw[axT];omega)) λr ad ⟨ay,H,B⟩=>?_
  subst ay;rw[aue aT W]at H;simp only[ae,ds,E,aP,Tryz.results115,ac];exact ar (z.step H B (.inl rfl))
 ·have tB:=(ajA.1 A).1;have Nt:=(ajA.1 A).2;obtain⟨s,u1,rfl⟩:=OF.1 tB;have O:s.1∉q.map (·.1):=by simpa using Nt
  have Df:=KD (h:=h'.set h.n (.iter j cl (q.map (·.1)++[s.1]) cl)) (r:=h.n) (e:=(s.1,V.int .i64 s.2.1,oX s.2.2)) aL (by rw[n1 (by omega)];exact N) M tB
  have c6:J h (h'.set h.n (.iter j cl (q.map (·.1)++[s.1]) cl)) none_:=z.ai.kB (BY _) _;have y0:Acc h (h'.set h.n (.iter j cl (q.map (·.1)++[s.1]) cl)) 3 1 v (ao (q.map (·.2.1))):=⟨z.own.ai (J.set _ _ _) λk hk tv=>F (tv▸hk),c6,z.new⟩;obtain⟨v2,ad,cB,H,B,d2⟩:=I9 (P:=mc) (t:=46) (T:=⟨3,[.int .i64 0],1,8⟩) oQ (by decide) y0.own (xs:=[.int .i64 s.2.1]) rfl rfl (λm C=>by
   have hq:m*1=(ao (q.map (·.2.1))).length+1:=C;rw[am,axT]at hq;show m*8<=lim/\m<=lim;unfold lim;omega)
  have X:∀h,h3 mc 46 1 [(0,.int .i64 s.2.1)] h=some (.bg h.n 0 1 1,h.push (.cells [.int .i64 s.2.1] 3 none)):=λh=>by rw[mD oQ];rfl
  have Y:(h'.set h.n (.iter j cl (q.map (·.1)++[s.1]) cl)).get h.n=.iter j cl (q.map (·.1)++[s.1]) cl:=aL;have Z:(h'.set h.n (.iter j cl (q.map (·.1)++[s.1]) cl)).get j=.map (mapOf .i64 oX l) cl:=by rw[n1 (by omega)];exact N
  have S8:h.n<(h'.set h.n (.iter j cl (q.map (·.1)++[s.1]) cl)).n:=aB;generalize h'.set h.n (.iter j cl (q.map (·.1)++[s.1]) cl)=ht at *;have en:¬a7 v h.n:=λU=>F U;have dd:¬a7 v j:=λU=>by have:=z.new j U;omega
  simp only[ae,ds,u,Df,oX,E,X,cB];refine ar ⟨(v2,q++[s]),⟨?_,?_,?_,u,rfl,?_,?_,?_,?_⟩,?_⟩
  ·rw[B.get h.n S8 en,Y];simp
  ·rw[B.get j (by omega) dd,Z]
  ·exact IS S8 B.n
  ·exact(y0.step H B d2).conv (by simp[ao])
  ·intro U;rcases d2 with d|d
   ·exact F (d▸U)
   ·have:=d h.n U;omega
  ·intro e Q;rcases ayN.1 Q with L|L
   ·exact D e L
   ·simp at L;subst L;exact u1
  ·rw[List.nodup_append];refine⟨G,by simp,λa aT b ak R=>?_⟩
   simp at ak;subst ak;subst R;exact O (OF.2 ⟨a,aT,rfl⟩)
  ·simpa using PL A
def pc(l:List bz)(L:List Nat)(v:Nat):List Int->Option (List Nat)
 | []=>none
 | f::r=>if gD l f≠5/\L.getD v 0≠L.getD f.toNat 0 then some ((L.set v (min (L.getD v 0) (L.getD f.toNat 0))).set f.toNat (min (L.getD v 0) (L.getD f.toNat 0)))else pc l L v r
def pd(l:List bz)(L:List Nat):Nat->List bz->Option (List Nat)
 | _,[]=>none
 | v,x::r=>match pc l L v x.bj with
  | some a=>some a
  | none=>pd l L (v+1) r
def qF(l:List bz):Nat->List Nat->List Nat
 | 0,L=>L
 | k+1,L=>match pd l L 0 l with
  | some a=>qF l k a
  | none=>L
def pe(l:List bz):List Nat:=qF l 600 (ajB l.length)
def Dg(es:List (Nat×Int×Int))(L:List Nat):Prop:=∀k,k<L.length->bQ es (k:Int)=some ((L.getD k 0:Nat):Int)
def Bl(es:List (Nat×Int×Int)):List (Nat×V×V):=dz (V.int .i64) (V.int .i64) es
theorem XH{h:I}{i cl:Nat}{es:List (Nat×Int×Int)}{L:List Nat}(a:Dg es L){k:Nat}(j:k<L.length)(m:h.get i=.map (Bl es) cl):nB mc 204 (.map i) (.int .i64 (k:Int)) false h=some (.int .i64 ((L.getD k 0:Nat):Int)):=by
 have:=Lf (enc:=V.int .i64) (ok:=false) (h8.ofInt Qr) (k:=(k:Int)) Qr Nc m;rw[this,a k j];rfl
theorem GW{h:I}{i cl:Nat}(es:List (Nat×Int×Int))(k x:Int)(a:h.get i=.map (Bl es) cl):vl mc 204 (.map i) (.int .i64 k) (.int .i64 x) h=some (h.set i (.map (Bl (cz cl es k x)) (eY cl es k))) :=
 Lg (enc:=V.int .i64) (h8.ofInt Qr) (k:=k) Qr a rfl
theorem Dg.set{es:List (Nat×Int×Int)}{L:List Nat}(a:Dg es L)(cl k x:Nat):Dg (cz cl es (k:Int) (x:Int)) (L.set k x):=λj i=>by
 rw[List.length_set]at i;rw[yO];by_cases s:j=k
 ·subst s;rw[if_pos rfl,ayO,aAX];simp[i]
 ·rw[if_neg (by omega),a j i,ayO,ayO,aAX,if_neg (by omega)]
theorem afu{l:List bz}{L:List Nat}{v:Nat}:∀{r:List Int} {a:List Nat},pc l L v r=some a->∃f∈r,L.getD v 0≠L.getD f.toNat 0/\a=(L.set v (min (L.getD v 0) (L.getD f.toNat 0))).set f.toNat (min (L.getD v 0) (L.getD f.toNat 0))
 | [],_,h=>by cases h
 | f::r,a,h=>by
  unfold pc at h;split at h
  ·rename_i av;exact⟨f,by simp,av.2,(Option.some.inj h).symm⟩
  ·obtain⟨g,i,j,m⟩:=afu h;exact⟨g,List.mem_cons_of_mem _ i,j,m⟩
theorem XI:∀{L:List Nat} {k:Nat} (x:Nat),k<L.length->(L.set k x).sum+L.getD k 0=L.sum+x
 | [],k,x,h=>by simp at h
 | a::r,0,x,_=>by simp;omega
 | a::r,k+1,x,h=>by
  have:=XI (L:=r) (k:=k) x (by simpa using h)
  simp only[List.set_cons_succ,List.sum_cons,List.getD_cons_succ];omega
theorem afv{L:List Nat}{v f:Nat}(a:v<L.length)(i:f<L.length)(j:v≠f)(m:L.getD v 0≠L.getD f 0):((L.set v (min (L.getD v 0) (L.getD f 0))).set f (min (L.getD v 0) (L.getD f 0))).sum<L.sum:=by
 have q:=XI (L:=L) (min (L.getD v 0) (L.getD f 0)) a;have s:=XI (L:=L.set v (min (L.getD v 0) (L.getD f 0))) (k:=f) (min (L.getD v 0) (L.getD f 0)) (by simpa using i)
 have u:(L.set v (min (L.getD v 0) (L.getD f 0))).getD f 0=L.getD f 0:=by
  rw[ayO,aAX,if_neg j,<-ayO]
 omega
theorem XJ{l:List bz}{L:List Nat}:∀{r:List bz} {v:Nat} {a:List Nat},pd l L v r=some a->∃k x,r[k]?=some x/\pc l L (v+k) x.bj=some a
 | [],_,_,h=>by cases h
 | x::r,v,a,h=>by
  unfold pd at h;split at h
  ·rename_i q;exact⟨0,x,rfl,by rw[Nat.add_zero,q];exact h⟩
  ·obtain⟨k,y,i,j⟩:=XJ h;exact⟨k+1,y,by simpa using i,by rw[show v+(k+1)=v+1+k by omega];exact j⟩
theorem aug(l:List bz)(h:I)(su:l.length<=24)(aJ:∀(v:Nat) (x:bz),l[v]?=some x->∀f∈x.bj,0<=f/\f<(v:Int))(lf:∀x∈l,x.bj.length<2^47) :
  au mc 110 [.af l.length (l.flatMap al)] h (λr h'=>∃m es cl,r=.map m/\h.n<=m/\m<h'.n/\h'.get m=.map (Bl es) cl/\Dg es (pe l)/\(pe l).length=l.length/\J h h' none_):=by
 refine bd Tryz.func110 rfl ?_;simp only[ae];refine aS.DY (α:=Unit) (l:=0) rfl (λ_ f h'=>f 0=.af l.length (l.flatMap al)/\f 3=.map h.n/\J h h' none_/\h.n<h'.n/\∃es cl,h'.get h.n=.map (Bl es) cl/\Dg es (ajB l.length)) (λ_=>0) ?_ ?_ ?_
 ·intro _ f h1 _;omega
 ·rintro _ f h1 ⟨F,G,bx,en,es,cl,D,u⟩
  refine wpS ?_;simp only[ae];refine aS.bI (α:=List Nat×List (Nat×Int×Int)×Nat×Nat) (λx f h'=>f 0=.af l.length (l.flatMap al)/\f 3=.map h.n/\J h h' none_/\h.n<h'.n/\h'.get h.n=.map (Bl x.2.1) x.2.2.1/\Dg x.2.1 x.1/\x.1.length=l.length/\x.1.sum<x.2.2.2/\qF l x.2.2.2 x.1=pe l) (λx=>x.1.sum) (ajB l.length,es,cl,600) ⟨F,G,bx,en,D,u,by simp,?_,rfl⟩ ?_
  ·show(ajB l.length).sum<600;have:∀n:Nat,n<=24->(ajB n).sum<600:=by decide
   exact this _ su
  rintro⟨L,es,cl,k⟩ f ad ⟨F,G,k2,dd,D,u,fF,T,eF⟩
  simp only at D u fF T eF;refine wpS ?_;simp only[ae,pM,F];refine aS.bI (α:=Nat) (λv f h'=>f 0=.af l.length (l.flatMap al)/\f 3=.map h.n/\f 20=.af l.length (l.flatMap al)/\f 21=.int .i64 (l.length:Int)/\f 22=.int .i64 (v:Nat)/\v<=l.length/\J h h' none_/\h.n<h'.n/\h'.get h.n=.map (Bl es) cl/\pd l L 0 l=pd l L v (l.drop v)) (λv=>l.length-v) 0 ⟨F,G,rfl,rfl,rfl,Dy _,k2,dd,D,rfl⟩ ?_
  rintro v g aC ⟨g0,g3,X,H,M,aI,k3,n3,BX,z⟩
  refine wpS ?_;by_cases Y:v<l.length;rotate_left
  ·have N:=eC (a:=v) (b:=l.length) (by omega)
   rw[azz (by omega)]at z
   have uh:qF l k L=L:=by
    obtain⟨E,rfl⟩:∃E,k=E+1:=⟨k-1,by omega⟩
    unfold qF;rw[z];rfl
   simp only[ae,ds,g3,H,M,N,Cy,aP,Tryz.results110,ac];exact ar ⟨h.n,es,cl,rfl,BY _,n3,BX,by rw[<-eF,uh];exact u,by rw[<-eF,uh];exact fF,k3⟩
  have N:=dV (a:=v) (b:=l.length) (by omega)
  have dL:=tR (kk:=.i64) (P:=mc) la Y En;have S9:=aJ v l[v] (IA Y);have zr:=lf l[v] (ayM Y);rw[azg Y]at z
  replace z:pd l L 0 l=match pc l L v l[v].bj with|some kr=>some kr|none=>pd l L (v+1) (l.drop (v+1)):=z
  have bT:=hR (i:=v) (by omega)
  generalize l[v]=A at dL S9 zr z;have jC:∀(q:List V),cJ (some (some 6)) (some (al A++q))=some (.agg (al A)):=λq=>be (la A);have cb:(V.agg (al A)).cells=some (al A):=rfl;have dA:bA (some 6) (aR.cells [.int .i64 0,.ag,.int .i64 0,.int .i64 0,.ag,.int .i64 0] 68 none) 0 (al A)=some (.cells (al A) 68 none):=by
   rw[uR (n:=6) (la A) (C9 A),if_pos (by decide),ss];rfl
  have gM:cO (aR.cells (al A) 68 none) 1=some [.af A.bj.length (ao A.bj),.int .i64 A.e.op,.int .i64 A.e.num,.af A.e.aM.length (A.e.aM.flatMap aH),.int .i64 A.n]:=by rw[ss];rfl
  obtain⟨mF,mr,_,GI,n4⟩:=b0 aC (.cells (al A) 68 none);have HU:mF.get h.n=.map (Bl es) cl:=by rw[mr];exact(iP (by omega)).trans BX
  have cx:J h mF none_:=by rw[mr];exact k3.bp _
  simp only[ae,ds,te,fB,hL,pN,rM,rN,X,H,M,N,dL,jC,cb,dA,<-mr,GI,gM];refine aS.bI (α:=Nat) (λj f h'=>f 0=.af l.length (l.flatMap al)/\f 3=.map h.n/\f 20=.af l.length (l.flatMap al)/\f 21=.int .i64 (l.length:Int)/\f 22=.int .i64 (v:Nat)/\f 5=.int .i64 (v:Nat)/\f 28=.af A.bj.length (ao A.bj)/\f 29=.int .i64 (A.bj.length:Int)/\f 30=.int .i64 (j:Nat)/\j<=A.bj.length/\h'=mF/\pc l L v A.bj=pc l L v (A.bj.drop j)) (λj=>A.bj.length-j) 0 ⟨g0,g3,X,H,M,rfl,rfl,rfl,rfl,Dy _,rfl,rfl⟩ ?_
  rintro j p bM ⟨O,Q,Nu,Nv,HV,JF,Z,W,HW,aN,rfl,s⟩
  refine wpS ?_;by_cases mw:j<A.bj.length;rotate_left
  ·have bu:=eC (a:=j) (b:=A.bj.length) (by omega)
   rw[azz (by omega)]at s
   have aa:pc l L v A.bj=none:=s;rw[aa]at z;simp only[ae,ds,Q,HV,W,HW,bu,bT];exact ar ⟨v+1,⟨O,Q,Nu,Nv,rfl,by omega,cx,by omega,HU,z⟩,by omega⟩
  have bu:=dV (a:=j) (b:=A.bj.length) (by omega)
  have bV:=vq (P:=mc) (kk:=.i64) mw iS;have iI:=hR (i:=j) (by omega)
  have cQ:A.bj[j]∈A.bj:=ayM mw;rw[azg mw]at s;generalize A.bj[j]=B at bV cQ s;obtain⟨kC,rC⟩:=S9 B cQ;obtain⟨q,rfl⟩:∃q:Nat,B=(q:Int):=⟨B.toNat,by omega⟩
  obtain⟨eM,jt,jj⟩:=EP (l:=l) (q:=q) (by omega)
  have Dh:=XH u (k:=v) (by omega) HU
  have Rc:=XH u (k:=q) (by omega) HU
  replace s:pc l L v A.bj=if gD l (q:Int)≠5/\L.getD v 0≠L.getD q 0 then some ((L.set v (min (L.getD v 0) (L.getD q 0))).set q (min (L.getD v 0) (L.getD q 0)))else pc l L v (A.bj.drop (j+1)):=s
  by_cases HX:gD l (q:Int)=5
  ·have c3:(gD l (q:Int) !=5)=false:=by simp[HX]
   rw[if_neg (by simp[HX])]at s
   simp only[ae,ds,reduceCtorEq,hb,aY,O,Z,W,HW,bu,bV,eM,jt,c3,iI];exact ar ⟨j+1,⟨O,Q,Nu,Nv,HV,JF,Z,W,rfl,by omega,rfl,s⟩,by omega⟩
  have c3:(gD l (q:Int) !=5)=true:=by simp[HX]
  by_cases C:L.getD v 0=L.getD q 0
  ·have fb:(((L.getD v 0:Nat):Int) !=((L.getD q 0:Nat):Int))=false:=by rw[C];simp
   rw[if_neg (λU=>U.2 C)]at s;simp only[ae,ds,reduceCtorEq,hb,aY,O,Q,JF,Z,W,HW,bu,bV,eM,jt,c3,Dh,Rc,fb,iI];exact ar ⟨j+1,⟨O,Q,Nu,Nv,HV,JF,Z,W,rfl,by omega,rfl,s⟩,by omega⟩
  have fb:(((L.getD v 0:Nat):Int) !=((L.getD q 0:Nat):Int))=true:=by rw[bne_iff_ne];omega
  rw[if_pos ⟨HX,C⟩]at s;rw[s]at z;have XK:=afv (L:=L) (v:=v) (f:=q) (by omega) (by omega) (by omega) C
  generalize GX:min (L.getD v 0) (L.getD q 0)=low at s z XK;have FW:min ((L.getD v 0:Nat):Int) ((L.getD q 0:Nat):Int)=(low:Int):=by rw[<-GX,Nat.min_def,Int.min_def];split<;>split<;>omega
  have De:=GW es (v:Int) (low:Int) HU;have JC:=GW (h:=bM.set h.n (.map (Bl (cz cl es (v:Int) (low:Int))) (eY cl es (v:Int)))) (cz cl es (v:Int) (low:Int)) (q:Int) (low:Int) aL;simp only[ae,ds,reduceCtorEq,hb,aY,O,Q,HV,JF,Z,W,HW,bu,bV,eM,jt,c3,Dh,Rc,fb,FW,De,JC];obtain⟨E,rfl⟩:∃E,k=E+1:=⟨k-1,by omega⟩
  have ab:qF l E ((L.set v low).set q low)=pe l:=by
   rw[<-eF];show _=match pd l L 0 l with|some kr=>qF l E kr|none=>L
   rw[z]
  refine ar ⟨((L.set v low).set q low,cz (eY cl es (v:Int)) (cz cl es (v:Int) (low:Int)) (q:Int) (low:Int),eY (eY cl es (v:Int)) (cz cl es (v:Int) (low:Int)) (q:Int),E),⟨O,Q,cx.kB (BY _) _,by show h.n<bM.n;omega,aL,(u.set cl v low).set _ q low,by simp[fF],by simp only;omega,ab⟩,by simp only;omega⟩
 ·intro step;refine aS.seq (IY (by kernel_rfl) ?_)
  simp only[ae,ds];refine aS.seq (IY (by kernel_rfl) ?_)
  simp only[ae,ds,reduceCtorEq,pM];refine aS.bI (α:=Nat×List (Nat×Int×Int)×Nat) (λx f h'=>f 0=.af l.length (l.flatMap al)/\f 3=.map h.n/\f 12=.int .i64 (l.length:Int)/\f 13=.int .i64 (x.1:Nat)/\x.1<=l.length/\J h h' none_/\h.n<h'.n/\h'.get h.n=.map (Bl x.2.1) x.2.2/\Dg x.2.1 (ajB x.1)) (λx=>l.length-x.1) (0,[],0) ⟨rfl,rfl,rfl,rfl,Dy _,J.push _ _ _,Nat.lt_succ_self _,fv,λk T=>by simp at T⟩ ?_
  rintro⟨i,es,cl⟩ f h1 ⟨F,G,R,S,hi,bx,en,D,u⟩
  simp only at S hi D u;refine wpS ?_;by_cases Y:i<l.length
  ·have N:=dV (a:=i) (b:=l.length) (by omega)
   have bT:=hR (i:=i) (by omega)
   have De:=GW es (i:Int) (i:Int) D;have HY:Dg (cz cl es (i:Int) (i:Int)) (ajB (i+1)):=λk T=>by
    rw[aEx]at T;rw[yO];have aw:(ajB (i+1)).getD k 0=k:=by rw[ayO,aBB T];rfl
    rw[aw];by_cases qk:k=i
    ·rw[qk,if_pos rfl]
    ·rw[if_neg (by omega),u k (by rw[aEx];omega),ayO,aBB (by omega)]
     rfl
   simp only[ae,ds,G,R,S,N,De,bT];exact ar ⟨(i+1,cz cl es (i:Int) (i:Int),eY cl es (i:Int)),⟨F,G,R,rfl,by simp only;omega,bx.kB (BY _) _,en,aL,HY⟩,by simp only;omega⟩
  ·have N:=eC (a:=i) (b:=l.length) (by omega)
   have rU:i=l.length:=by omega
   rw[rU]at u;simp only[ae,R,S,N];refine aS.seq (.label ?_);exact step () _ _ ⟨F,G,bx,en,es,cl,D,u⟩
theorem Re{L:List Nat}{k j x:Nat}:(L.set k x).getD j 0=if k=j/\j<L.length then x else L.getD j 0:=by
 rw[ayO,aAX];by_cases h:k=j
 ·subst h;by_cases a:k<L.length
  ·simp[a]
  ·simp[a,ayO]
 ·simp[h,ayO]
theorem afy{l:List bz}:∀(k:Nat) (L:List Nat),(∀j,L.getD j 0<=j)->∀j,(qF l k L).getD j 0<=j
 | 0,L,h,j=>h j
 | k+1,L,h,j=>by
  unfold qF;cases i:pd l L 0 l with
  | none=>exact h j
  | some m=>
   refine afy k m (λj=>?_) j;obtain⟨v,x,s,q⟩:=XJ i;obtain⟨f,_,_,e⟩:=afu q;rw[e,Re,Re];have a:=h (0+v);have b:=h f.toNat;split
   ·rename_i U;rw[<-U.1];omega
   ·split
    ·rename_i U;rw[<-U.1];omega
    ·exact h j
theorem afz(l:List bz):∀j,(pe l).getD j 0<=j:=afy _ _ λj=>by
 rw[ayO];by_cases h:j<l.length
 ·rw[aBB h];exact BY _
 ·rw[List.getElem?_eq_none (by simp;omega)];exact Dy _
theorem Own.at'{h:I}{e:TypeId}{v:V}{cs:List V}{i:Nat}(u:Own h e 1 v cs)(hi:aU v=some i){k:Nat}(z:k<cs.length){kk:aOT}{t:TypeId}(A:dC mc t=some 1) :
  gP mc t v (.int kk (k:Int))=some (.ptr i k)/\(∃r,cO (h.get i) k=some (cs[k]::r))/\∀x,x.one=true->∃ob,bA (some 1) (h.get i) k [x]=some ob/\Own (h.set i ob) e 1 v (cs.set k x):=by
 obtain⟨j,B,s,C,D⟩:=KL (P:=mc) (kk:=kk) A u z;rw[hi]at s;obtain rfl:i=j:=by simpa using s
 exact⟨B,C,λx E=>by obtain⟨ob,a,b,_⟩:=D x E;exact⟨ob,a,b⟩⟩
def eJ(R:List Nat):Nat->List Int×Nat
 | 0=>([],0)
 | i+1=>if R.getD i 0=i then((eJ R i).1++[((eJ R i).2:Int)],(eJ R i).2+1)else((eJ R i).1++[(eJ R i).1.getD (R.getD i 0) 0],(eJ R i).2)
theorem Au(R:List Nat):∀i,(eJ R i).1.length=i
 | 0=>rfl
 | i+1=>by unfold eJ;split<;>simp[Au R i]
theorem XL(R:List Nat):∀i,(eJ R i).2<=i
 | 0=>BY _
 | i+1=>by have:=XL R i;unfold eJ;split<;>simp only<;>omega
def gl(p:Int)(l:List bz):List Int:=if(cg p l).2=0 then(eJ (pe l) l.length).1 else []
theorem afA{P:List Int}{i n:Nat}(a:P.length=i)(j:i<n)(x:Int):(P++azr (n-i) 0).set i x=(P++[x])++azr (n-(i+1)) 0:=by
 subst a;rw[List.set_append_right _ _ (BY _),aDu,show n-P.length=(n-(P.length+1))+1 by omega,List.replicate_succ,List.set_cons_zero]
 simp
theorem Rf(l:List bz)(p:Int)(aZ:ju l)(h:I)(aw:jG h):Pure mc 69 [.agg (cD l p)] h (.tuple [.af (gl p l).length (ao (gl p l)),.int .i64 (cg p l).2]):=by
 refine Pure.of (a8.tuple (bb.cons (a8.af (yM _)) (bb.cons (a8.int _ _) bb.nil))) ?_;have av:(V.agg (cD l p)).cells=some [.af l.length (l.flatMap al),.int .i64 p]:=rfl;obtain⟨H,hH,T,W,ib⟩:=b0 h (.cells [.af l.length (l.flatMap al),.int .i64 p] 24 none);have jU:=aw.ai T;refine bd Tryz.func69 rfl ?_;simp only[ae,ds,AS,jh,av,<-hH,W];refine bO (Q7 l p aZ H jU) ?_;by_cases A:(cg p l).2=0;rotate_left
 ·have X:((cg p l).2 !=0)=true:=by simp[A]
  have G:gl p l=[]:=if_neg A;simp only[ae,ds,sv,X,aP,aGg,da];exact ar ⟨_,by rw[G];exact aF.tuple (aA.cons (aF.k7 _) (aA.refl _ _)),T⟩
 have X:((cg p l).2 !=0)=false:=by simp[A]
 obtain⟨_,_,eD,wY,_,dq⟩:=Dc A;have G:gl p l=(eJ (pe l) l.length).1:=if_pos A;simp only[ae,ds,AS,km,kH,sv,X,W];refine cA (aug l H wY (λv x Y f az=>(Xq (dq v x Y)).2.1 f az) (λx Y=>(aZ.2 x Y).2.1)) λr j ⟨m,es,cl,jc,m1,m2,gx,lv,BP,L⟩=>?_;subst jc;have Nw:=afz l;generalize pe l=R at lv BP Nw G;have B0:=(L.get h.n (by omega) (by simp[none_])).trans W
 have uY:AQ mc 46 (.int .i64 (l.length:Int)) (.int .i64 (l.length:Int)) j=some (.bg j.n 0 l.length l.length,j.push (.cells (ao (azr l.length 0)) 3 none)):=by
  rw[PO oQ (BY _) (by simp only;omega) (by omega),ajN]
  simp[ao]
 have a0:Own (j.push (.cells (ao (azr l.length 0)) 3 none)) 3 1 (.bg j.n 0 l.length l.length) (ao (azr l.length 0)):=Own.e4 _ l.length (by rw[am,aBg,ajD]) (by unfold b7;omega)
 obtain⟨ca,bP,Z,_,dd⟩:=b0 j (.cells (ao (azr l.length 0)) 3 none);rw[<-bP]at a0;have pf:=(Z.get h.n (by have:=L.n;omega) (by simp[none_])).trans B0
 have wR:=(Z.get m m2 (by simp[none_])).trans gx
 simp only[ae,ds,AS,km,pM,kH,B0,uY,<-bP,pf];have Wz:=L.n;refine aS.bI (α:=Nat) (λi f h'=>f 6=.map m/\f 7=.bg j.n 0 l.length l.length/\f 8=.int .i64 (((eJ R i).2:Nat):Int)/\f 27=.int .i64 (l.length:Int)/\f 28=.int .i64 (i:Nat)/\i<=l.length/\J ca h' (λq=>q=j.n)/\Own h' 3 1 (.bg j.n 0 l.length l.length) (ao ((eJ R i).1++azr (l.length-i) 0))) (λi=>l.length-i) 0 ⟨rfl,rfl,rfl,rfl,rfl,Dy _,J.refl _ _,a0⟩ ?_
 rintro i f aC ⟨M,B,f8,s,z,hi,N,O⟩
 have BX:=(N.get m (by omega) (by omega)).trans wR
 refine wpS ?_;by_cases aD:i<l.length;rotate_left
 ·have Q:=eC (a:=i) (b:=l.length) (by omega)
  have rU:i=l.length:=by omega
  subst rU;rw[aDu,List.replicate_zero,axX]at O;obtain⟨bn,C,cx⟩:=aF.own O (n:=l.length) (by rw[am,Au,ajD]) (by decide)
  have wZ:J h bn none_:=(((T.trans' L).trans' Z).trans N λq ab e=>by omega).trans cx λq ab e=>by simp[a7,aU]at e;omega
  simp only[ae,ds,B,s,z,Q,aP,aGg,da];refine ar ⟨bn,?_,wZ⟩;rw[G,Au,A];exact aF.tuple (aA.cons C (aA.refl _ _))
 have Q:=dV (a:=i) (b:=l.length) (by omega)
 have bT:=hR (i:=i) (by omega)
 have jj:=XH lv (k:=i) (by omega) BX
 have u:(ao ((eJ R i).1++azr (l.length-i) 0)).length=l.length:=by rw[am,Dx,Au,aBg];omega
 obtain⟨cB,_,fp⟩:=Pk.Own.at' (kk:=.i64) O (i:=j.n) rfl (k:=i) (by rw[u];exact aD) iS
 have aa:=XL R i;by_cases he:R.getD i 0=i
 ·have C:(((R.getD i 0:Nat):Int)==(i:Int))=true:=by rw[he];simp
  have iI:aOT.i64.wrap ((((eJ R i).2:Nat):Int)+1)=(((eJ R i).2+1:Nat):Int):=by rw[Go.IntWalk.i64_in _ (by omega)];omega
  obtain⟨ob,dH,D⟩:=fp (.int .i64 (((eJ R i).2:Nat):Int)) rfl;rw[PX,afA (Au R i) aD]at D;have E:eJ R (i+1)=((eJ R i).1++[((eJ R i).2:Int)],(eJ R i).2+1):=if_pos he;simp only[ae,ds,qU,M,B,f8,s,z,Q,jj,C,cB,dH,bT,iI];exact ar ⟨i+1,⟨M,B,by rw[E];rfl,s,rfl,by omega,N.trans' (J.set _ _ _),by rw[E];exact D⟩,by omega⟩
 ·have C:(((R.getD i 0:Nat):Int)==(i:Int))=false:=by simp only[beq_eq_false_iff_ne,ne_eq];omega
  have ad:=Nw i;have aN:R.getD i 0<i:=by omega
  generalize ta:R.getD i 0=F at *;obtain⟨kC,S,_⟩:=Pk.Own.at' (kk:=.i64) O (i:=j.n) rfl (k:=F) (by rw[u];omega) iS
  have oD:(ao ((eJ R i).1++azr (l.length-i) 0))[F]'(by rw[u];omega)=.int .i64 ((eJ R i).1.getD F 0):=by
   simp only[ao,List.getElem_map];rw[List.getElem_append_left (by rw[Au];exact aN),ayO,IA (by rw[Au];exact aN)]
   rfl
  obtain⟨gU,S⟩:=S;rw[oD]at S;obtain⟨ob,dH,D⟩:=fp (.int .i64 ((eJ R i).1.getD F 0)) rfl;rw[PX,afA (Au R i) aD]at D;have E:eJ R (i+1)=((eJ R i).1++[(eJ R i).1.getD F 0],(eJ R i).2):=by
   show(if R.getD i 0=i then _ else _)=_
   rw[ta,if_neg (by omega)]
  simp only[ae,ds,aY,qU,M,B,s,z,Q,jj,C,kC,S,cB,dH,bT];exact ar ⟨i+1,⟨M,B,by rw[E];exact f8,s,rfl,by omega,N.trans' (J.set _ _ _),by rw[E];exact D⟩,by omega⟩
theorem afB(l:List bz)(p:Int)(i:ju l)(h:I)(j:jG h):Pure mc 49 [.agg (cD l p)] h (.bool ((cg p l).2==0)):=by
 refine Pure.val (a8.bool _) ?_;have av:(V.agg (cD l p)).cells=some [.af l.length (l.flatMap al),.int .i64 p]:=rfl;obtain⟨H,hH,a,m,_⟩:=b0 h (.cells [.af l.length (l.flatMap al),.int .i64 p] 24 none);refine bd Tryz.func49 rfl ?_;simp only[ae,ds,AS,jh,av,<-hH,m];refine bO (Q7 l p i H (j.ai a)) ?_;simp only[ae,ds,sv,aP,Tryz.results49,ac];exact ar ⟨rfl,a⟩
def tk(p:Int)(l:List bz)(key:Int):Int:=if(cg p l).2=0 then(if key.tmod p<0 then key.tmod p+p else key.tmod p)else -1
theorem auh{a p:Int}(i:1<=p):-p<a.tmod p/\a.tmod p<p:=by
 have e:=aGh a (show(0:Int)<p by omega)
 have bc:=aGh (-a) (show(0:Int)<p by omega)
 rw[Int.neg_tmod]at bc;omega
theorem afC(l:List bz)(p key:Int)(z:ju l)(h:I)(A:jG h):Pure mc 26 [.agg (cD l p),.int .i64 key] h (.int .i64 (tk p l key)):=by
 refine Pure.val (a8.int _ _) ?_;have av:(V.agg (cD l p)).cells=some [.af l.length (l.flatMap al),.int .i64 p]:=rfl;obtain⟨H,hH,j,s,_⟩:=b0 h (.cells [.af l.length (l.flatMap al),.int .i64 p] 24 none);refine bd Tryz.func26 rfl ?_;simp only[ae,IN,ds,AS,jh,av,<-hH,s];refine bO (afB l p z H (A.ai j)) ?_;by_cases i:(cg p l).2=0;rotate_left
 ·have m:((cg p l).2==0)=false:=by simp[i]
  simp only[ae,IN,ds,m,aP,aEy,ac];exact ar ⟨by rw[tk,if_neg i],j⟩
 have m:((cg p l).2==0)=true:=by simp[i]
 obtain⟨_,B,_⟩:=Dc i;obtain⟨D,E⟩:=auh (a:=key) B.1;by_cases q:key.tmod p<0
 ·have u:decide (key.tmod p<0)=true:=by simpa using q
  have C:aOT.i64.wrap (key.tmod p+p)=key.tmod p+p:=Go.IntWalk.i64_in _ (by omega)
  simp only[ae,IN,ds,AS,By,yP,aY,m,s,Cr (show p≠0 by omega),u,C,aP,aEy,ac]
  exact ar ⟨by rw[tk,if_pos i,if_pos q],j⟩
 ·have u:decide (key.tmod p<0)=false:=by simpa using q
  simp only[ae,IN,ds,AS,By,yP,aY,m,s,Cr (show p≠0 by omega),u,aP,aEy,ac]
  exact ar ⟨by rw[tk,if_pos i,if_neg q],j⟩
def mx:Int->List Int->Int
 | a,[]=>a
 | a,b::r=>mx (max a b) r
theorem XM(b:Int):∀(a:Int) (r:List Int),mx a (r++[b])=max (mx a r) b
 | a,[]=>rfl
 | a,c::r=>XM b (max a c) r
theorem XN(L:List Int)(a:Int)(r:List Int)(j:L=a::r)(H:L.length<2^40)(h:I):Pure mc 109 [.af L.length (ao L)] h (.int .i64 (mx a r)):=by
 refine Pure.val (a8.int _ _) ?_;have M:0<L.length:=by rw[j];simp
 have N:L.length=r.length+1:=by rw[j];rfl
 refine bd Tryz.func109 rfl ?_;have C:decide ((L.length:Int)<1)=false:=decide_eq_false (by omega)
 have D:(if(0:Int)<(L.length:Int)/\azk 0*1<=(ao L).length then some (V.at (List.drop (azk 0*1) (ao L)))else none)=some (V.at (.int .i64 a::ao r)):=by
  rw[if_pos ⟨by omega,by simp⟩,j];rfl
 simp only[ae,Int.reduceLE,ds,reduceCtorEq,F7,fB,aY,iS,C,D];refine aS.bI (α:=Nat) (λi f h'=>f 0=.af L.length (ao L)/\f 3=.int .i64 (mx a (r.take i))/\f 4=.int .i64 ((i+1:Nat):Int)/\i<=r.length/\h'=h) (λi=>r.length-i) 0 ⟨rfl,rfl,rfl,Dy _,rfl⟩ ?_
 rintro i f O ⟨m,q,z,hi,rfl⟩
 refine wpS ?_;by_cases E:i<r.length
 ·have s:decide (((i+1:Nat):Int)<(L.length:Int))=true:=decide_eq_true (by omega)
  have u:=vq (P:=mc) (kk:=.i64) (l:=L) (k:=i+1) (by omega) iS
  have F:L[i+1]'(by omega)=r[i]:=by subst j;rfl
  have A:r.take (i+1)=r.take i++[r[i]]:=azi E;rw[F]at u;generalize r[i]=B at u A;have G:aOT.i64.wrap (((i+1:Nat):Int)+1)=((i+1+1:Nat):Int):=by rw[Go.IntWalk.i64_in _ (by omega)];omega
  simp only[ae,ds,reduceCtorEq,fB,aY,m,q,z,s,u,G];exact ar ⟨i+1,⟨m,by rw[A,XM];rfl,rfl,by omega,rfl⟩,by omega⟩
 ·have s:decide (((i+1:Nat):Int)<(L.length:Int))=false:=decide_eq_false (by omega)
  rw[ajz (by omega)]at q
  simp only[ae,ds,reduceCtorEq,fB,m,q,z,s,aP,Tryz.results109,ac];exact ar ⟨rfl,J.refl _ _⟩
def y1(p:Int)(l:List bz):Int:=if(cg p l).2=0 then aOT.i64.wrap (aOT.i64.wrap (mx ((gl p l).headD 0) (gl p l).tail+1)*p)else 0
theorem GY{p:Int}{l:List bz}(a:(cg p l).2=0):(gl p l).length=l.length:=by
 unfold gl;rw[if_pos a,Au]
theorem aui(l:List bz)(p:Int)(B:ju l)(h:I)(C:jG h):Pure mc 68 [.agg (cD l p)] h (.int .i64 (y1 p l)):=by
 refine Pure.val (a8.int _ _) ?_;have av:(V.agg (cD l p)).cells=some [.af l.length (l.flatMap al),.int .i64 p]:=rfl;obtain⟨H,hH,j,z,_⟩:=b0 h (.cells [.af l.length (l.flatMap al),.int .i64 p] 24 none);refine bd Tryz.func68 rfl ?_;simp only[ae,ds,AS,jh,av,<-hH,z];refine bO (Rf l p B H (C.ai j)) ?_;by_cases i:(cg p l).2=0;rotate_left
 ·have m:((cg p l).2 !=0)=true:=by simp[i]
  simp only[ae,ds,m,aP,aGi,ac];exact ar ⟨by rw[y1,if_neg i],j⟩
 have m:((cg p l).2 !=0)=false:=by simp[i]
 obtain⟨_,_,E,F,_⟩:=Dc i;have s:=GY i;have A:y1 p l=aOT.i64.wrap (aOT.i64.wrap (mx ((gl p l).headD 0) (gl p l).tail+1)*p):=if_pos i;obtain⟨a,r,u⟩:∃a r,gl p l=a::r:=by
  cases D:gl p l with
  | nil=>rw[D]at s;simp at s;omega
  | cons a r=>exact⟨a,r,rfl⟩
 rw[u]at A;generalize gl p l=L at s u;simp only[ae,ds,m];refine aS.cS none_ [] (.q 0 (.c 1 (.q 2 (.q 3 (.q 4 (.q 5 (.q 6 .done))))))) ?_;simp only[ae,bt,ds];refine fA rfl rfl rfl (λh' G=>XN L a r u (by omega) h') ?_
 simp only[ae,bt,ds,AS,By,yP,aY,z,aP,aGi,ac];exact ar ⟨by rw[A];rfl,j⟩
theorem XO(u:Nat)(a b:Nat)(P:List Int)(part:Int)(i:u<P.length)(h:I)(j:h.get a=.cells [.af P.length (ao P)] 46 none)(m:h.get b=.cells [.int .i64 part] 3 none) :
  Pure mc 72 [.int .i64 (u:Int),.ptr a 0,.ptr b 0] h (.bool (P.getD u 0==part)):=by
 refine Pure.val (a8.bool _) ?_;have s:=vq (P:=mc) (kk:=.i64) i iS;have z:P.getD u 0=P[u]:=by rw[ayO,IA i];rfl
 refine bd Tryz.func72 rfl ?_;simp only[ae];refine aS.cS none_ [] (.q 0 (.q 1 (.q 2 (.q 3 (.q 4 (.q 5 (.q 6 .done))))))) ?_;simp only[ae,bt,ds,reduceCtorEq,aY,hL,j,m,s,aP,Tryz.results72,ac];exact ar ⟨by rw[z],J.refl _ _⟩
theorem auj(m:List Int)(a b:Nat)(P:List Int)(part:Int)(L:∀u∈m,0<=u/\u<P.length)(T:m.length<2^40)(h:I)(M:h.get a=.cells [.af P.length (ao P)] 46 none)(N:h.get b=.cells [.int .i64 part] 3 none) :
  Pure mc 70 [.af m.length (ao m),.func (.func 72) [] [.ptr a 0,.ptr b 0]] h (.bool (m.any λu=>P.getD u.toNat 0==part)):=by
 have O:au mc 111 [.af m.length (ao m),.func (.func 72) [] [.ptr a 0,.ptr b 0]] h (λr h'=>(∃k:Int,r=.int .i64 k/\(decide (0<=k))=m.any λu=>P.getD u.toNat 0==part)/\h'=h):=by
  refine bd Tryz.func111 rfl ?_;simp only[ae,IN,ds,reduceCtorEq,fB];refine aS.bI (α:=Nat) (λj f h'=>f 0=.af m.length (ao m)/\f 1=.func (.func 72) [] [.ptr a 0,.ptr b 0]/\f 7=.int .i64 (m.length:Int)/\f 8=.int .i64 (j:Nat)/\j<=m.length/\h'=h/\(m.any λu=>P.getD u.toNat 0==part)=((m.drop j).any λu=>P.getD u.toNat 0==part)) (λj=>m.length-j) 0 ⟨rfl,rfl,rfl,rfl,Dy _,rfl,rfl⟩ ?_
  rintro j f E ⟨F,G,z,B,W,rfl,s⟩
  refine wpS ?_;by_cases C:j<m.length
  ·have D:=dV (a:=j) (b:=m.length) (by omega)
   rw[azg C,List.any_cons]at s;have Q:=vq (P:=mc) (kk:=.i64) C iS;have X:=L _ (ayM C);generalize m[j]=A at *;obtain⟨q,rfl⟩:∃q:Nat,A=(q:Int):=⟨A.toNat,by omega⟩
   have R:=hR (i:=j) (by omega)
   simp only[ae,ds,reduceCtorEq,aY,F,G,z,B,D,Q];refine bO (XO q a b P part (by omega) E M N) ?_
   rw[ayQ]at s;cases H:(P.getD q 0==part)
   ·simp only[ae,IN,ds,B,R];rw[H,Bool.false_or]at s;exact ar ⟨j+1,⟨F,G,z,rfl,by omega,rfl,s⟩,by omega⟩
   ·simp only[ae,IN,ds,aP,aGj,ac];rw[H,Bool.true_or]at s;exact ar ⟨⟨_,rfl,by rw[s];simp⟩,rfl⟩
  ·have D:=eC (a:=j) (b:=m.length) (by omega)
   rw[azz (by omega)]at s
   simp only[ae,IN,ds,z,B,D,aP,aGj,ac];exact ar ⟨⟨_,rfl,by rw[s];rfl⟩,rfl⟩
 refine bd Tryz.func70 rfl ?_;simp only[ae,ds,reduceCtorEq];refine cA O λr E ⟨⟨k,ay,bc⟩,S⟩=>?_;subst ay S;simp only[ae,ds,aP,Tryz.results70,ac];exact ar ⟨by rw[bc],rfl⟩
def vO(l:List bz)(P:List Int)(part:Int)(v:Nat):Bool:=(gD l (v:Int)==1&&P.getD v 0==part)||(gD l (v:Int)==5&&(hU (v:Int) 0 l).any λu=>P.getD u.toNat 0==part)
def ni(l:List bz)(P:List Int)(part:Int):Nat->List Int
 | 0=>[]
 | i+1=>ni l P part i++(if vO l P part i then [(i:Int)]else [])
theorem Rg(l:List bz)(P:List Int)(part:Int):∀i,(ni l P part i).length<=i
 | 0=>BY _
 | i+1=>by
  have:=Rg l P part i;unfold ni;rw[Dx];split<;>simp<;>omega
def sE(p:Int)(l:List bz)(part:Int):List Int:=ni l (gl p l) part (gl p l).length
theorem afD(l:List bz)(p part:Int)(aZ:ju l)(h:I)(aw:jG h):Pure mc 33 [.agg (cD l p),.int .i64 part] h (.af (sE p l part).length (ao (sE p l part))):=by
 have XP:(gl p l).length<=24/\((gl p l).length=0\/((gl p l).length=l.length/\l.length<=24)):=by
  by_cases X:(cg p l).2=0
  ·obtain⟨_,_,_,wY,_⟩:=Dc X;rw[GY X];exact⟨wY,.inr ⟨rfl,wY⟩⟩
  ·unfold gl;rw[if_neg X];exact⟨by simp,.inl rfl⟩
 have rU:=Rg l (gl p l) part (gl p l).length;refine Pure.acc (e:=3) (sz:=1) (yM _) (by rw[am,ajD]) (by decide) ?_
 have av:(V.agg (cD l p)).cells=some [.af l.length (l.flatMap al),.int .i64 p]:=rfl;obtain⟨H,hH⟩:∃x,x=(h.push (.cells [.af l.length (l.flatMap al),.int .i64 p] 24 none)).push (.cells [.int .i64 part] 3 none):=⟨_,rfl⟩;have gt:H.get h.n=.cells [.af l.length (l.flatMap al),.int .i64 p] 24 none:=by rw[hH];exact yL
 have oB:H.get (h.n+1)=.cells [.int .i64 part] 3 none:=by rw[hH];exact zA
 have bo:J h H none_:=by rw[hH];exact(J.push _ _ _).bp _
 have ib:H.n=h.n+2:=by rw[hH];rfl
 have Y:∀x:Int,(V.int .i64 x).cells=some [.int .i64 x]:=λ_=>rfl;have sS:∀(n:Nat) (x:List V),(V.af n x).cells=some [.af n x]:=λ_ _=>rfl;refine bd Tryz.func33 rfl ?_;simp only[ae,ds,AS,jh,av,Y,<-hH,gt];refine bO (Rf l p aZ H (aw.ai bo)) ?_;unfold sE;generalize gl p l=P at XP rU;obtain⟨Z,bP,k2,yW,dd⟩:=b0 H (.cells [.af P.length (ao P)] 46 none);have pf:=(k2.get h.n (by omega) (by simp[none_])).trans gt
 have MX:=(k2.get (h.n+1) (by omega) (by simp[none_])).trans oB
 simp only[ae,ds,fB,hL,aqF,Gm,sS,<-bP,yW];refine aS.bI (α:=V×Nat) (λx f h'=>f 2=.ptr h.n 0/\f 3=.ptr (h.n+1) 0/\f 5=.ptr H.n 0/\f 7=x.1/\f 15=.af P.length (ao P)/\f 16=.int .i64 (P.length:Int)/\f 17=.int .i64 (x.2:Nat)/\x.2<=P.length/\Acc Z h' 3 1 x.1 (ao (ni l P part x.2))) (λx=>P.length-x.2) (.ag,0) ⟨rfl,rfl,rfl,rfl,rfl,rfl,rfl,Dy _,Acc.nil (J.refl _ _)⟩ ?_
 rintro⟨u,i⟩ f h1 ⟨C,E,G,F,s,q,z,hi,B⟩
 simp only at F z hi B;have R:=(B.ai.get h.n (by omega) (by simp[none_])).trans pf
 have Nx:=(B.ai.get (h.n+1) (by omega) (by simp[none_])).trans MX
 have aa:=(B.ai.get H.n (by omega) (by simp[none_])).trans yW
 refine wpS ?_;by_cases aD:i<P.length;rotate_left
 ·have L:=eC (a:=i) (b:=P.length) (by omega)
  have ab:i=P.length:=by omega
  rw[ab]at B;simp only[ae,ds,F,q,z,L,aP,Tryz.results33,ac];exact ar ⟨B.own,(bo.trans' k2).trans' B.ai,λk hk=>by have:=B.new k hk;omega⟩
 have L:=dV (a:=i) (b:=P.length) (by omega)
 have XQ:i<l.length:=by omega
 have N:=vq (P:=mc) (kk:=.i64) aD iS;have ad:P.getD i 0=P[i]:=by rw[ayO,IA aD];rfl
 rw[<-ad]at N;obtain⟨S,T,jj⟩:=EP XQ;have O:=hR (i:=i) (by omega)
 have ah:=Rg l P part i;have Ta:ni l P part (i+1)=ni l P part i++(if vO l P part i then [(i:Int)]else []):=rfl
 obtain⟨v2,aC,cB,a2⟩:=B.elem (P:=mc) oQ (by decide) (xs:=[.int .i64 (i:Nat)]) rfl rfl (by simp[am,lim];omega) (by simp[am,lim];omega)
 have Q:vO l P part i=true->Acc Z aC 3 1 v2 (ao (ni l P part (i+1))):=λU=>by rw[Ta,U,if_pos rfl,UN];exact a2
 have no:vO l P part i=false->Acc Z h1 3 1 u (ao (ni l P part (i+1))):=λU=>by rw[Ta,U,if_neg (by simp),axX];exact B
 have A:vO l P part i=((gD l (i:Int)==1&&P.getD i 0==part)||(gD l (i:Int)==5&&(hU (i:Int) 0 l).any λu=>P.getD u.toNat 0==part)):=rfl;cases D:(gD l (i:Int)==1)
 ·cases M:(gD l (i:Int)==5)
  ·rw[D,M]at A;simp only[ae,ds,AS,km,hb,kH,aY,C,s,q,z,L,N,R,S,T,D,M,O];exact ar ⟨(u,i+1),⟨C,E,G,F,s,q,rfl,by simp only;omega,no A⟩,by simp only;omega⟩
  ·rw[D,M]at A;simp only[ae,ds,AS,km,hb,kH,jh,aY,C,s,q,z,L,N,R,S,T,D,M];refine bO (aeQ l p (i:Int) aZ (by omega) h1) ?_
   simp only[ae,ds,E,G];refine bO (auj (hU (i:Int) 0 l) H.n (h.n+1) P part (λu hu=>by
    obtain⟨m,x,ay,bc,_⟩:=GP.1 hu;have:=(List.getElem?_eq_some_iff.1 bc).1;omega) (by have:=GQ (v:=(i:Int)) (l:=l) (j:=0);omega) h1 aa Nx) ?_
   cases cc:(hU (i:Int) 0 l).any λu=>P.getD u.toNat 0==part
   ·rw[cc]at A;simp only[ae,ds,z,O];exact ar ⟨(u,i+1),⟨C,E,G,F,s,q,rfl,by simp only;omega,no A⟩,by simp only;omega⟩
   ·rw[cc]at A;simp only[ae,ds,F,z,Ng,cB,O];exact ar ⟨(v2,i+1),⟨C,E,G,rfl,s,q,rfl,by simp only;omega,Q A⟩,by simp only;omega⟩
 ·have M:(gD l (i:Int)==5)=false:=by
   rw[beq_iff_eq]at D;rw[D];rfl
  rw[D,M]at A;cases W:(P.getD i 0==part)
  ·rw[W]at A;simp only[ae,ds,AS,km,hb,kH,aY,C,E,s,q,z,L,N,R,Nx,S,T,D,W,O];exact ar ⟨(u,i+1),⟨C,E,G,F,s,q,rfl,by simp only;omega,no A⟩,by simp only;omega⟩
  ·rw[W]at A;simp only[ae,ds,AS,km,hb,kH,aY,C,E,F,s,q,z,L,N,R,Nx,S,T,D,W,Ng,cB,O];exact ar ⟨(v2,i+1),⟨C,E,G,rfl,s,q,rfl,by simp only;omega,Q A⟩,by simp only;omega⟩
def HZ(i rv j a:Int)(e:b6):V:=if dj e=true then pQ (c2 i rv j a 16 e)else .tuple [.int .i64 0,.int .i64 1]
theorem afI(e:b6)(i rv j a:Int)(h:I)(q:hB h):Pure mc 175 [.agg (aH e),.agg [.int .i64 i,.int .i64 rv,.int .i64 j],.int .i64 a] h (HZ i rv j a e):=by
 have:=acn e i rv j a h q;unfold HZ;cases m:dj e with
 | false=>rw[m]at this;exact this
 | true=>
  rw[m]at this;cases s:c2 i rv j a 16 e<;>(rw[s]at this;exact this)
theorem Ny(h:I)(k v t:Int):h3 mc 25 1 [(0,.agg [.int .i64 k,.int .i64 v,.int .i64 t])] h=some (.bg h.n 0 1 1,h.push (.cells [.int .i64 k,.int .i64 v,.int .i64 t] 45 none)):=by rw[mD El];rfl
def ux(r:Rec):Nat->List Rec
 | 0=>[]
 | i+1=>ux r i++[⟨r.k,mo (r.v+i),r.t⟩]
theorem Nz(r:Rec):∀i,(ux r i).length=i
 | 0=>rfl
 | i+1=>by simp[ux,Nz r i]
theorem No(n:Int)(T:n<=4)(r:Rec)(h:I):Pure mc 210 [.int .i64 n,.agg (aK r)] h (.af n.toNat ((ux r n.toNat).flatMap aK)):=by
 refine Pure.of (a8.af (A4 MA _)) ?_;refine bd Tryz.func210 rfl ?_;simp only[ae,aK];obtain⟨H,hH,M,N,_⟩:=b0 h (.cells [.int .i64 r.k,.int .i64 r.v,.int .i64 r.t] 45 none);have O:h.n<H.n:=by rw[hH,df];omega
 rw[<-hH];refine aS.bI (α:=Nat×V) (λx f h'=>f 0=.int .i64 n/\f 3=.ptr h.n 0/\f 5=x.2/\f 6=.int .i64 (x.1:Nat)/\x.1<=n.toNat/\Acc H h' 45 3 x.2 ((ux r x.1).flatMap aK)) (λx=>n.toNat-x.1) (0,.ag) ⟨rfl,rfl,rfl,rfl,Dy _,Acc.nil (J.refl _ _)⟩ ?_
 rintro⟨i,v⟩ f B ⟨q,C,s,u,hi,j⟩
 simp only at s u hi j;refine wpS ?_;by_cases D:(i:Int)<n;rotate_left
 ·have z:decide ((i:Int)<n)=false:=by simpa using D
  have E:i=n.toNat:=by omega
  obtain⟨F,c,k⟩:=j.cast (n:=n.toNat) (by rw[fJ Ae,Nz,E]) (by decide)
  simp only[ae,ds,reduceCtorEq,q,s,u,z,aP,Tryz.results210,ac];exact ar ⟨F,by rw[E]at c;exact c,M.trans' k⟩
 ·have z:decide ((i:Int)<n)=true:=by simpa using D
  have Q:=(j.ai.get h.n O (by simp[none_])).trans N
  have R:=hR (i:=i) (by omega)
  obtain⟨S,F,A,G⟩:=Acc.zb (P:=mc) El (j.on (J.push B (.cells [.int .i64 r.k,.int .i64 (mo (r.v+i)),.int .i64 r.t] 45 none) _)) (xs:=[.int .i64 r.k,.int .i64 (mo (r.v+i)),.int .i64 r.t]) (by decide) rfl rfl (λm L=>by
   rw[fJ Ae,Nz]at L;have W:m*3=i*3+3:=L;show m*24<=140737488355328/\m<=140737488355328;omega)
  have a:=Ny (B.push (.cells [.int .i64 r.k,.int .i64 (mo (r.v+i)),.int .i64 r.t] 45 none)) r.k (mo (r.v+i)) r.t;unfold mo at A G a;simp only[df]at A a;simp only[ae,ds,AS,By,reduceCtorEq,LF,bR,dM,tg,qT,vz,q,C,s,u,z,Q,a,A,R];exact ar ⟨(i+1,S),⟨q,C,rfl,rfl,by simp only;omega,by simp only[ux,azo,azh,List.flatMap_nil,axX];exact G⟩,by simp only;omega⟩
def kR(a n:Int)(r:Rec):List Rec :=
 if a=2 then [⟨r.k,n,r.t⟩]else if a=5 then [⟨n,r.v,r.t⟩]else if a=3 then(if n=0 then []else [r])
 else if a=4 then ux r (min n 4).toNat else [r]
theorem NA(l:List Rec):a8 (V.af l.length (l.flatMap aK)):=a8.af (A4 MA _)
theorem Rh(h:I)(x:Rec):∃a,aF (.bg h.n 0 1 1) (h.push (.cells (aK x) 45 none)) (.af [x].length ([x].flatMap aK)) a/\J h a none_:=by
 have:=aF.lit (h:=h) (c:=[x].flatMap aK) (e:=45) (n:=1) (sz:=3) rfl (by decide) (by decide)
 simpa using this
theorem auk(a n:Int)(r:Rec)(h:I):Pure mc 195 [.int .i64 a,.int .i64 n,.agg (aK r)] h (.af (kR a n r).length ((kR a n r).flatMap aK)):=by
 refine Pure.of (NA _) ?_;refine bd Tryz.func195 rfl ?_;by_cases s:a=2
 ·have c:(a==2)=true:=by simp[s]
  have j:kR a n r=[⟨r.k,n,r.t⟩]:=by simp[kR,s]
  have i:=Ny (h.push (.cells [.int .i64 r.k,.int .i64 n,.int .i64 r.t] 45 none)) r.k n r.t;simp only[df]at i;simp only[ae,ds,AS,By,reduceCtorEq,LF,dM,qT,aK,c,i,aP,aBh,ac];obtain⟨U,cc,kk⟩:=Rh (h.push (.cells [.int .i64 r.k,.int .i64 n,.int .i64 r.t] 45 none)) ⟨r.k,n,r.t⟩;exact ar ⟨U,by rw[j];exact cc,(J.push _ _ _).trans' kk⟩
 have m:(a==2)=false:=by simp[s]
 by_cases u:a=5
 ·have c:(a==5)=true:=by simp[u]
  have j:kR a n r=[⟨n,r.v,r.t⟩]:=by simp[kR,u]
  have i:=Ny (h.push (.cells [.int .i64 n,.int .i64 r.v,.int .i64 r.t] 45 none)) n r.v r.t;simp only[df]at i;simp only[ae,ds,AS,By,reduceCtorEq,vx,dM,qT,aK,m,c,i,aP,aBh,ac];obtain⟨U,cc,kk⟩:=Rh (h.push (.cells [.int .i64 n,.int .i64 r.v,.int .i64 r.t] 45 none)) ⟨n,r.v,r.t⟩;exact ar ⟨U,by rw[j];exact cc,(J.push _ _ _).trans' kk⟩
 have z:(a==5)=false:=by simp[u]
 have i:=Ny (h.push (.cells [.int .i64 r.k,.int .i64 r.v,.int .i64 r.t] 45 none)) r.k r.v r.t;simp only[df]at i;obtain⟨U,cc,kk⟩:=Rh (h.push (.cells [.int .i64 r.k,.int .i64 r.v,.int .i64 r.t] 45 none)) r;by_cases q:a=3
 ·have c:(a==3)=true:=by simp[q]
  by_cases A:n=0
  ·have C:(n==0)=true:=by simp[A]
   have j:kR a n r=[]:=by simp[kR,q,A]
   simp only[ae,ds,reduceCtorEq,aK,m,z,c,C,aP,aBh,ac];exact ar ⟨_,by rw[j];exact aF.il _,J.push _ _ _⟩
  ·have C:(n==0)=false:=by simp[A]
   have j:kR a n r=[r]:=by simp[kR,q,A]
   simp only[ae,ds,AS,reduceCtorEq,dM,aK,m,z,c,C,i,aP,aBh,ac];exact ar ⟨U,by rw[j];exact cc,(J.push _ _ _).trans' kk⟩
 have D:(a==3)=false:=by simp[q]
 by_cases B:a=4
 ·have c:(a==4)=true:=by simp[B]
  have j:kR a n r=ux r (min n 4).toNat:=by simp[kR,B]
  simp only[ae,ds,AS,reduceCtorEq,dM,aK,m,z,D,c];refine bO (No (min n 4) (by omega) r _) ?_
  simp only[ae,ds,aP,aBh,ac];exact ar ⟨_,by rw[j,Nz];exact aF.refl _ _,J.push _ _ _⟩
 have E:(a==4)=false:=by simp[B]
 have j:kR a n r=[r]:=by simp[kR,s,u,q,B]
 simp only[ae,ds,AS,reduceCtorEq,dM,aK,m,z,D,E,i,aP,aBh,ac];exact ar ⟨U,by rw[j];exact cc,(J.push _ _ _).trans' kk⟩
def flatK(k:Int):Bool:=decide (k=2\/k=3\/k=4\/k=5)
def qj(v:bz)(r:Rec):List Rec×Int :=
 if v.kind=1\/v.kind=10 then([r],0)
 else if v.kind=2\/v.kind=3\/v.kind=4\/v.kind=5 then
  (if dj v.e=true then(match c2 r.k r.v r.t 0 16 v.e with|some n=>(kR v.kind n r,0)|none=>([],10))else([],1))
 else([],1)
def H0(p:List Rec×Int):V:=.tuple [.af p.1.length (p.1.flatMap aK),.int .i64 p.2]
theorem aul(p:List Rec×Int):a8 (H0 p):=a8.tuple (bb.cons (NA _) (bb.cons (a8.int _ _) bb.nil))
theorem Di(h:I)(n:Int):aF (.tuple [.ag,.int .i64 n]) h (H0 ([],n)) h:=aF.tuple (aA.cons (aF.il h) (aA.refl _ _))
theorem aum(v:bz)(r:Rec)(h:I)(Z:hB h):Pure mc 172 [.agg (al v),.agg (aK r)] h (H0 (qj v r)):=by
 refine Pure.of (aul _) ?_;refine bd Tryz.func172 rfl ?_;obtain⟨a,L,e,n⟩:=v;have av:(V.agg (al ⟨a,L,e,n⟩)).cells=some (al ⟨a,L,e,n⟩):=rfl;simp only[ae,ds,hb,aY,aK,av];obtain⟨H,hH⟩:∃x,x=(h.push (.cells (al ⟨a,L,e,n⟩) 68 none)).push (.cells [.int .i64 r.k,.int .i64 r.v,.int .i64 r.t] 45 none):=⟨_,rfl⟩;have S:cO (H.get h.n) 0=some (al ⟨a,L,e,n⟩):=by rw[hH,yL];rfl
 have E:cO (H.get h.n) 2=some (aH e++[.int .i64 n]):=by rw[hH,yL];rfl
 have z:H.get (h.n+1)=.cells [.int .i64 r.k,.int .i64 r.v,.int .i64 r.t] 45 none:=by rw[hH];exact zA
 have B:J h H none_:=by rw[hH];exact(J.push _ _ _).bp _
 have jD:hB H:=Z.ai B;have s:cJ (some none) (some (al ⟨a,L,e,n⟩))=some (.int .i64 a):=rfl;have F:cJ (some (some 3)) (some (aH e++[.int .i64 n]))=some (.agg (aH e)):=be (rO e);rw[<-hH];clear hH av;obtain⟨U,cc,kk⟩:=Rh H r;have N:=Ny H r.k r.v r.t;by_cases O:a=1
 ·have c:(a==1)=true:=by simp[O]
  have i:qj ⟨a,L,e,n⟩ r=([r],0):=by simp[qj,O]
  simp only[ae,ds,AS,dM,z,s,c,N,aP,azO,da];exact ar ⟨U,by rw[i];exact aF.tuple (aA.cons cc (aA.refl _ _)),B.trans' kk⟩
 have C:(a==1)=false:=by simp[O]
 by_cases Q:a=10
 ·have c:(a==10)=true:=by simp[Q]
  have i:qj ⟨a,L,e,n⟩ r=([r],0):=by simp[qj,Q]
  simp only[ae,ds,AS,dM,z,s,C,c,N,aP,azO,da];exact ar ⟨U,by rw[i];exact aF.tuple (aA.cons cc (aA.refl _ _)),B.trans' kk⟩
 have D:(a==10)=false:=by simp[Q]
 by_cases M:a=2\/a=3\/a=4\/a=5;rotate_left
 ·have bu:(a==2)=false:=by simp;intro q;exact M (.inl q)
  have c3:(a==3)=false:=by simp;intro q;exact M (.inr (.inl q))
  have fb:(a==4)=false:=by simp;intro q;exact M (.inr (.inr (.inl q)))
  have c5:(a==5)=false:=by simp;intro q;exact M (.inr (.inr (.inr q)))
  have i:qj ⟨a,L,e,n⟩ r=([],1):=by simp[qj,O,Q];intro q;exact absurd q M
  simp only[ae,ds,s,C,D,bu,c3,fb,c5,aP,azO,da];exact ar ⟨_,by rw[i];exact Di _ _,B⟩
 have i:qj ⟨a,L,e,n⟩ r=(if dj e=true then(match c2 r.k r.v r.t 0 16 e with|some n=>(kR a n r,(0:Int))|none=>([],10))else([],1)):=by
  have:¬(a=1\/a=10):=λq=>by rcases q with q|q;exact O q;exact Q q
  simp only[qj];rw[if_neg this,if_pos M]
 have u:=afI e r.k r.v r.t 0 H jD;have W:((a==2)=true)\/((a==2)=false/\(a==3)=true)\/((a==2)=false/\(a==3)=false/\(a==4)=true)\/((a==2)=false/\(a==3)=false/\(a==4)=false/\(a==5)=true):=by
  rcases M with q|q|q|q<;>subst q<;>decide
 unfold HZ at u;cases X:dj e with
 | false=>
  rw[X]at u i;simp only[Bool.false_eq_true,if_false]at u i;rcases W with j|⟨j,A⟩|⟨j,A,G⟩|⟨j,A,G,R⟩
  ·simp only[ae,ds,AS,rK,dM,gj,z,E,s,F,C,D,j];refine bO u ?_;simp only[ae,aAa,ds,aP,azO,da];exact ar ⟨_,by rw[i];exact Di _ _,B⟩
  ·simp only[ae,ds,AS,rK,dM,gj,z,E,s,F,C,D,j,A];refine bO u ?_;simp only[ae,aAa,ds,aP,azO,da];exact ar ⟨_,by rw[i];exact Di _ _,B⟩
  ·simp only[ae,ds,AS,rK,dM,gj,z,E,s,F,C,D,j,A,G];refine bO u ?_;simp only[ae,aAa,ds,aP,azO,da];exact ar ⟨_,by rw[i];exact Di _ _,B⟩
  ·simp only[ae,ds,AS,rK,dM,gj,z,E,s,F,C,D,j,A,G,R];refine bO u ?_;simp only[ae,aAa,ds,aP,azO,da];exact ar ⟨_,by rw[i];exact Di _ _,B⟩
 | true=>
  rw[X]at u i;simp only[if_true]at u i;cases Y:c2 r.k r.v r.t 0 16 e with
  | none=>
   rw[Y]at u i;rcases W with j|⟨j,A⟩|⟨j,A,G⟩|⟨j,A,G,R⟩
   ·simp only[ae,ds,AS,rK,dM,gj,z,E,s,F,C,D,j];refine bO u ?_;simp only[ae,aAa,ds,pQ,aP,azO,da];exact ar ⟨_,by rw[i];exact Di _ _,B⟩
   ·simp only[ae,ds,AS,rK,dM,gj,z,E,s,F,C,D,j,A];refine bO u ?_;simp only[ae,aAa,ds,pQ,aP,azO,da];exact ar ⟨_,by rw[i];exact Di _ _,B⟩
   ·simp only[ae,ds,AS,rK,dM,gj,z,E,s,F,C,D,j,A,G];refine bO u ?_;simp only[ae,aAa,ds,pQ,aP,azO,da];exact ar ⟨_,by rw[i];exact Di _ _,B⟩
   ·simp only[ae,ds,AS,rK,dM,gj,z,E,s,F,C,D,j,A,G,R];refine bO u ?_;simp only[ae,aAa,ds,pQ,aP,azO,da];exact ar ⟨_,by rw[i];exact Di _ _,B⟩
  | some m=>
   rw[Y]at u i;have T:=auk a m r H;rcases W with j|⟨j,A⟩|⟨j,A,G⟩|⟨j,A,G,R⟩
   ·simp only[ae,ds,AS,rK,dM,gj,z,E,s,F,C,D,j];refine bO u ?_;simp only[ae,ds,AS,hb,aY,dM,pQ,S,z,s];refine bO T ?_;simp only[ae,ds,aP,azO,da];exact ar ⟨_,by rw[i];exact aF.refl _ _,B⟩
   ·simp only[ae,ds,AS,rK,dM,gj,z,E,s,F,C,D,j,A];refine bO u ?_;simp only[ae,ds,AS,hb,aY,dM,pQ,S,z,s];refine bO T ?_;simp only[ae,ds,aP,azO,da];exact ar ⟨_,by rw[i];exact aF.refl _ _,B⟩
   ·simp only[ae,ds,AS,rK,dM,gj,z,E,s,F,C,D,j,A,G];refine bO u ?_;simp only[ae,ds,AS,hb,aY,dM,pQ,S,z,s];refine bO T ?_;simp only[ae,ds,aP,azO,da];exact ar ⟨_,by rw[i];exact aF.refl _ _,B⟩
   ·simp only[ae,ds,AS,rK,dM,gj,z,E,s,F,C,D,j,A,G,R];refine bO u ?_;simp only[ae,ds,AS,hb,aY,dM,pQ,S,z,s];refine bO T ?_;simp only[ae,ds,aP,azO,da];exact ar ⟨_,by rw[i];exact aF.refl _ _,B⟩
structure bw where
 l:List bz
 p:Int
 part:Int
def bw.P(c:bw):List Int:=gl c.p c.l
def bw.ins(c:bw):List Int:=sE c.p c.l c.part
def bw.ee(c:bw)(u:Nat):Option fc:=if c.P[u]?=some c.part then(match c.l[u]? with|some x=>qz x.kind x.n|none=>none)else none
def bw.us(c:bw)(v:Int):List Nat:=((hU v 0 c.l).map azk).filter λu=>c.P.getD u 0==c.part
structure fs where
 ms:Seen
 st:Nat->List an
structure fR where
 outs:List (Int×Rec)
 verts:List Int
 chgs:List an
 deads:List (Int×Rec×Int)
 n:Nat
def fR.none:fR:=⟨[],[],[],[],0⟩
abbrev cd:=fs×fR
def q5(u:Int)(r:Rec)(e:Int)(x:cd):cd:=(x.1,{ x.2 with deads:=x.2.deads++[(u,r,e)] })
def pW(u:Int)(r:Rec)(x:cd):cd:=(x.1,{ x.2 with outs:=x.2.outs++[(u,r)] })
def l9(u:Int)(cs:List an)(x:cd):cd:=(x.1,{ x.2 with verts:=x.2.verts++azr cs.length u,chgs:=x.2.chgs++cs })
def ma(u:Nat)(l:List an)(x:cd):cd:=({ x.1 with st:=λv=>if v=u then l else x.1.st v },x.2)
def du(x:cd):cd:=(x.1,{ x.2 with n:=x.2.n+1 })
def sF(v:bz)(u:Int)(th:Rec->cd->cd)(r:Rec)(x:cd):cd :=
 if(qj v r).2≠0 then q5 u r (qj v r).2 x else(qj v r).1.foldl (λx y=>th y x) x
def w0(K:fc)(v:bz)(u:Nat)(a:Rec->cd->cd)(r:Rec)(x:cd):cd :=
 if Q3 K r (leastOf x.1.ms)then q5 u r 13 x else
 match nR K v.e (x.1.st u) r with
 | .error e=>q5 u r e x
 | .ok N=>a ⟨r.k,N,C5 K (x.1.st u) r.k r.t⟩ (l9 u (um K (x.1.st u) r.k r.t N) (ma u (uo K (x.1.st u) r.k r.t N) x))
def bw.table(c:bw)(v:bz)(key:Int)(m:fs):Int :=
 match c.ee (v.bj.getD 1 0).toNat with
 | some K=>C8 K (m.st (v.bj.getD 1 0).toNat) key
 | none=>0
def m7(c:bw)(v:bz)(u:Int)(a:Rec->cd->cd)(r:Rec)(x:cd):cd :=
 if dj v.e=true then
  (match c2 r.k r.v r.t (c.table v r.k x.1) 16 v.e with
  | some n=>a ⟨r.k,n,r.t⟩ x
  | none=>q5 u r 10 x)
 else q5 u r 1 x
def uy(c:bw)(a:Int->Rec->cd->cd)(f:Int)(u:Nat)(r:Rec)(x:cd):cd :=
 if x.2.n=1000 then q5 u r 3 x else
 match c.l[u]? with
 | none=>du x
 | some v=>
  if v.kind=10\/v.kind=5 then sF v u (pW u) r (du x)
  else if v.kind=2\/v.kind=3\/v.kind=4 then sF v u (a u) r (du x)
  else if v.kind=6\/v.kind=7\/v.kind=8 then
   (match c.ee u with
   | some K=>w0 K v u (a u) r (du x)
   | none=>du x)
  else if v.kind=9 then(if f=v.bj.getD 0 0 then m7 c v u (a u) r (du x)else du x)
  else du x
def tl(c:bw):Nat->Int->Rec->cd->cd
 | 0,_,_,x=>x
 | k+1,v,r,x=>(c.us v).foldl (λx u=>uy c (tl c k) v u r x) x
def dE(c:bw)(u:Nat)(x:cd):cd :=
 match c.ee u with
 | some K=>l9 u (hY K (leastOf x.1.ms) (x.1.st u)) (ma u (iv K (leastOf x.1.ms) (x.1.st u)) x)
 | none=>x
def w1(c:bw)(t:Int):an:=⟨c.part,0,0,t,false⟩
def stepT(c:bw)(m:fs)(v:Int)(r:Rec):cd×Int :=
 if c.ins.contains v=false then((m,fR.none),6)else
 if(hl m.ms v r.t).2≠0 then(q5 v r (hl m.ms v r.t).2 (m,fR.none),0)else
 let a:cd:=({ m with ms:=hE c.ins.length m.ms v r.t },fR.none)
 let i:=if(hl m.ms v r.t).1 then l9 v [w1 c r.t] a else a
 ((ajB c.l.length).foldl (λx u=>dE c u x) (tl c 24 v r i),0)
def fs.new(c:bw):fs:=⟨mH 0 c.ins,λ_=>[]⟩
abbrev cT:=Nat->Nat×Nat
def cP(ow:cT)(id:Nat):Nat->Prop:=λq=>(ow q).1=id/\5<=(ow q).2
def Fr(h:I)(ow:cT):Prop:=∀q,h.n<=q->ow q=(0,0)
structure gF(id:Nat)(h:I)(ow:cT)(h':I)(ow':cT):Prop where
 bD:∀q,q<h.n->ow' q=ow q
 ai:J h h' (cP ow id)
 aX:Fr h' ow'
 w2:True
theorem gF.refl{id:Nat}{h:I}{ow:cT}(f:Fr h ow):gF id h ow h ow:=⟨λ_ _=>rfl,J.refl _ _,f,trivial⟩
theorem gF.trans{id:Nat}{h j s:I}{ow u z:cT}(a:gF id h ow j u)(b:gF id j u s z):gF id h ow s z :=
 ⟨λq i=>(b.bD q (IS i a.ai.n)).trans (a.bD q i),a.ai.trans b.ai λq i A=>by unfold cP at *;rw[<-a.bD q i];exact A,b.aX,trivial⟩
theorem gF.push{id:Nat}{h:I}{ow:cT}(f:Fr h ow){h':I}(k:J h h' none_):gF id h ow h' ow:=⟨λ_ _=>rfl,k.up,λq i=>f q (ajy k.n i),trivial⟩
def dF(ow:cT)(a b:Nat)(t:Nat×Nat):cT:=λq=>if a<=q/\q<b then t else ow q
theorem Av{ow:cT}{a b:Nat}{t:Nat×Nat}{q:Nat}(h:q<a):dF ow a b t q=ow q:=by unfold dF;rw[if_neg (by omega)]
theorem NB{ow:cT}{a b:Nat}{t:Nat×Nat}{q:Nat}(i:a<=q)(j:q<b):dF ow a b t q=t:=by unfold dF;rw[if_pos ⟨i,j⟩]
theorem gF.dF{id:Nat}{h h':I}{ow:cT}{M:Nat->Prop}(f:Fr h ow)(k:J h h' M)(j:∀q,q<h.n->M q->cP ow id q)(t:Nat×Nat):gF id h ow h' (Pk.dF ow h.n h'.n t) :=
 ⟨λq i=>Av i,⟨k.n,λq i s=>k.get q i λU=>s (j q i U),k.glob⟩,λq i=>by
  have:=k.n;unfold Pk.dF;rw[if_neg (by omega)];exact f q (by omega),trivial⟩
def nF(ow:cT)(t:Nat×Nat)(O:List Nat):Prop:=∀q∈O,ow q=t
theorem nF.new{h h':I}{ow:cT}{t:Nat×Nat}{O i:List Nat}(o:nF ow t O)(s:∀q∈O,q<h.n)(u:e8 h O i)(z:∀q∈i,q<h'.n):nF (dF ow h.n h'.n t) t i:=λq j=>by
 rcases u q j with U|U
 ·rw[Av (s q U)];exact o q U
 ·exact NB U (z q j)
theorem nF.bD{h:I}{ow ow':cT}{t:Nat×Nat}{O:List Nat}(o:nF ow t O)(j:∀q∈O,q<h.n)(s:∀q,q<h.n->ow' q=ow q):nF ow' t O:=λq i=>(s q (j q i)).trans (o q i)
def xT(a:Nat):V:=.ptr a 0
structure At where
 lR:Nat
 uz:Nat
 mp:Nat
 es:List (Nat×Int×Nat)
 cl:Nat
def bw.cells(c:bw)(b:At):List V:=cD c.l c.p++[.af c.P.length (ao c.P),.int .i64 c.part,.ptr b.lR 0,.map b.mp]
structure hf(h:I)(ow:cT)(id m:Nat)(b:At)(c:bw)(s:fs):Prop where
 lt:m<h.n
 get:h.get m=.cells (c.cells b) 150 none
 own:ow m=(id,1)
 marks:wX h (.ptr b.lR 0) s.ms b.lR b.uz c.ins.length
 hF:ow b.lR=(id,2)/\ow b.uz=(id,3)
 lS:b.mp<h.n
 map:h.get b.mp=.map (mapOf .i64 xT b.es) b.cl
 nj:ow b.mp=(id,4)
 some:∀u K,c.ee u=some K->∃a O x,eu b.es (u:Int)=Option.some a/\c.l[u]?=Option.some x/\iA h a O K x.e x.n (s.st u)/\nF ow (id,10+u) O/\dj x.e=true
 none:∀u,c.ee u=Option.none->eu b.es (u:Int)=Option.none
section
variable {h h':I} {ow ow':cT} {id i2 m:Nat} {b:At} {c:bw} {s:fs}
theorem hf.ai{M:Nat->Prop}(k:hf h ow id m b c s)(i:J h h' M)(E:∀q,q<h.n->M q->(ow q).1≠id)(j:∀q,q<h.n->ow' q=ow q):hf h' ow' id m b c s:=by
 obtain⟨ay,B,C,G,g1,g2,st⟩:=k.marks;have A:∀q,q<h.n->(ow q).1=id->h'.get q=h.get q:=λq z H=>i.get q z λU=>E q z U H;refine⟨IS k.lt i.n,(A _ k.lt (by rw[k.own])).trans k.get,(j _ k.lt).trans k.own,⟨ay,IS B i.n,IS C i.n,G,(A _ B (by rw[k.hF.1])).trans g1,(A _ C (by rw[k.hF.2])).trans g2,st⟩,
  ⟨(j _ B).trans k.hF.1,(j _ C).trans k.hF.2⟩,IS k.lS i.n,(A _ k.lS (by rw[k.nj])).trans k.map,(j _ k.lS).trans k.nj,λu K L=>?_,k.none⟩
 obtain⟨a,O,x,N,Q,D,F,R⟩:=k.some u K L;exact⟨a,O,x,N,Q,D.ai i λq z U=>E q (D.lt q z) U (by rw[F q z]),F.bD D.lt j,R⟩
theorem hf.ba(k:hf h ow id m b c s)(i:J h h' none_):hf h' ow id m b c s:=k.ai i (λ_ _ U=>by simp[none_]at U) λ_ _=>rfl
theorem hf.part{M:Nat->Prop}(k:hf h ow id m b c s)(i:J h h' M)(F:∀q,q<h.n->M q->∃t,ow q=(id,t)/\5<=t/\t<=9)(j:∀q,q<h.n->ow' q=ow q):hf h' ow' id m b c s:=by
 obtain⟨ay,C,D,L,g1,g2,st⟩:=k.marks;have A:∀q t,q<h.n->ow q=(id,t)->(t<5\/9<t)->h'.get q=h.get q:=λq t z N T=>i.get q z λU=>by
  obtain⟨Q,B,G⟩:=F q z U;rw[N]at B;simp at B;omega
 refine⟨IS k.lt i.n,(A _ _ k.lt k.own (by omega)).trans k.get,(j _ k.lt).trans k.own,⟨ay,IS C i.n,IS D i.n,L,(A _ _ C k.hF.1 (by omega)).trans g1,(A _ _ D k.hF.2 (by omega)).trans g2,st⟩,
  ⟨(j _ C).trans k.hF.1,(j _ D).trans k.hF.2⟩,IS k.lS i.n,(A _ _ k.lS k.nj (by omega)).trans k.map,(j _ k.lS).trans k.nj,λu K R=>?_,k.none⟩
 obtain⟨a,O,x,B,G,E,H,S⟩:=k.some u K R;exact⟨a,O,x,B,G,E.ai i λq z U=>by
  obtain⟨Q,ay,bc⟩:=F q (E.lt q z) U;rw[H q z]at ay;simp at ay;omega,H.bD E.lt j,S⟩
end
end Go.Proofs.YtemdgidnhgcafaaGreatDoor.Pk
