/-
  What functions of the program do, told of abstract states. Conditions: as each theorem says.
-/
import Derived.Test.YtemdgidnhgcafaaGreatDoorNk
open List renaming length_append->Dx,length_map->axT,mem_append->ayN,mem_map->OF,mem_singleton->aAj,length_set->aAP,length_singleton->aBj,getElem?_eq_getElem->IA,append_nil->axX,append_assoc->axV
open Nat renaming zero_le->Dy,lt_of_lt_of_le->IS,reduceEqDiff->ds,reduceAdd->AS,reduceLeDiff->By
open Go.Proofs.Tryz renaming prog->mc,results4->aDB
open Int renaming tmod_eq_emod_of_nonneg->aAQ
set_option linter.unusedVariables false
set_option linter.unusedSimpArgs false
set_option maxHeartbeats 32000000
set_option maxRecDepth 10000
namespace Go.Proofs.YtemdgidnhgcafaaGreatDoor.Pk
open Go Go.Proofs Go.Proofs.YtemdgidnhgcafaaGreatDoor.Ab Go.Proofs.Vw
theorem Zo(l:List bz)(p:Int)(rs:List Rec)(n:Int):sN (toldOf (fV l p rs)).tasks n=⟨n,0,0,[],[],0⟩:=by
 show sN (xg (fV l p rs)) n=_;rw[ajf];unfold bY;rw[(Zg _ (Zm l p rs)).1];rfl
theorem axD(l:List bz)(p:Int)(rs:List Rec)(v q:Int):logAt (toldOf (fV l p rs)).logs (dG p l 1 v q)=[]:=by
 show logAt (x1 (fV l p rs)) _=_;rw[axm,(Zg _ (Zm l p rs)).2,List.map_eq_nil_iff,List.filter_eq_nil_iff];intro x a;obtain⟨av,r,w,B,h⟩:=Zj a;obtain⟨e,i⟩:=Zk h;obtain⟨_,_,C,D,j⟩:=Zl i;obtain⟨E,F,G,_⟩:=Dd av;rw[e];show ¬((dG p l 0 (w:Int) (tk p l (eQ r).k))==dG p l 1 v q)=true;intro U;have U:dG p l 0 (w:Int) (tk p l (eQ r).k)=dG p l 1 v q:=by simpa using U
 have m:0<=dG p l 1 v q:=by omega
 obtain⟨_,_,s,u,z⟩:=Zl m;rw[j,z]at U;have A:p=1\/p=2\/p=3\/p=4\/p=5\/p=6\/p=7\/p=8:=by omega
 rcases A with rfl|rfl|rfl|rfl|rfl|rfl|rfl|rfl<;>omega
theorem axE{l:List bz}{p n:Int}(a:ju l)(h:x2 l p n=0):fM (nx l p n).c/\(nx l p n).c.ins.length<=8:=by
 unfold x2 at h;split at h
 ·omega
 rename_i i;split at h
 ·omega
 split at h
 ·omega
 rename_i j;exact⟨⟨Classical.byContradiction i,a⟩,by show(sE p l (jK p l n).1).length<=8;omega⟩
theorem axF{d:fO}{s:eU}(o:fM d.c)(g:y2 d.c s.m)(v:Int)(r:Rec):(uV d s (stepT d.c s.m v r).1.2).length<=2^24:=by
 have bl:=Yj o g v r;have a:(stepT d.c s.m v r).1.2.outs.length+(stepT d.c s.m v r).1.2.chgs.length+(stepT d.c s.m v r).1.2.deads.length<=3*2^22/\(stepT d.c s.m v r).1.2.chgs.length<=2^22:=by unfold sz at bl;omega
 unfold uV;rw[Dx,Dx,axT,axT,JV (enc:=tp d s) (sz:=2) (λ_=>rfl),List.length_zip];omega
theorem axG(d:fO)(s:eU)(x:fR):∀y∈uV d s x,y.kind=2/\y.task=d.n/\y.cZ=s.ep/\y.hG=s.tx:=by
 intro y a;unfold uV at a;rcases ayN.1 a with a|a
 ·rcases ayN.1 a with a|a
  ·obtain⟨o,_,rfl⟩:=OF.1 a;exact⟨rfl,rfl,rfl,rfl⟩
  ·obtain⟨o,_,a⟩:=List.mem_flatMap.1 a;rcases List.mem_cons.1 a with rfl|a
   ·exact⟨rfl,rfl,rfl,rfl⟩
   ·rw[aAj.1 a];exact⟨rfl,rfl,rfl,rfl⟩
 ·obtain⟨o,_,rfl⟩:=OF.1 a;exact⟨rfl,rfl,rfl,rfl⟩
structure r2(i:Nat)(d:fO)(s:eU):Prop where
 ri:y2 d.c s.m
 offs:s.offs.length=d.c.ins.length
 ob:∀x∈s.offs,0<=x/\x<=(i:Int)
 ord:s.order.length<=i
 ajr:∀x∈s.order,0<=x/\x<4
 kept:s.kept.length<=s.order.length*2^24
 bare:rj s.kept
 ee:∀x∈s.kept,x.kind=2/\x.task=d.n/\x.cZ=0/\x.hG=0
 ep:s.ep=0
 tx:s.tx=0
theorem r2.new{l:List bz}{p:Int}{rs:List Rec}{d:fO}(o:fM d.c):r2 0 d (Bw (toldOf (fV l p rs)) d):=by
 have e:Bw (toldOf (fV l p rs)) d=⟨fs.new d.c,0,0,List.replicate d.c.ins.length 0,[],[]⟩:=by
  unfold Bw;rw[Zo];rfl
 have g:=ajb (toldOf (fV l p rs)) d o;rw[e]at g⊢;exact⟨g,List.length_replicate,λx i=>(by rw[(List.mem_replicate.1 i).2];simp),Nat.le_refl _,λx i=>(by cases i),Dy _,λx i=>(by cases i),λx i=>(by cases i),rfl,rfl⟩
theorem r2.up{i:Nat}{d:fO}{s:eU}(k:r2 i d s):r2 (i+1) d s :=
 { k with ob:=λx j=>by have:=k.ob x j;omega,ord:=by have:=k.ord;omega }
theorem r2.step{i:Nat}{d:fO}{s:eU}(o:fM d.c)(k:r2 i d s){n:Int}(u:0<=n/\n<4)(v a:Int)(aT:0<=a/\a<=(i:Int))(r:Rec):r2 (i+1) d (Dr d s n v a r):=by
 have D:=axF o k.ri v r;have E:=k.kept;have F:=k.ord;refine⟨Yi o k.ri v r,?_,λx j=>?_,?_,λx j=>?_,?_,Zd k.bare (ajc _ _ _),λx j=>?_,k.ep,k.tx⟩
 ·show(s.offs.set n.toNat (a+1)).length=_;rw[aAP];exact k.offs
 ·rcases List.mem_or_eq_of_mem_set (show x∈s.offs.set n.toNat (a+1)from j)with j|rfl
  ·have:=k.ob x j;omega
  ·omega
 ·show(s.order++[n]).length<=_;rw[Dx,aBj];omega
 ·rcases ayN.1 (show x∈s.order++[n]from j)with j|j
  ·exact k.ajr x j
  ·rw[aAj.1 j];exact u
 ·show(s.kept++uV d s (stepT d.c s.m v r).1.2).length<=(s.order++[n]).length*2^24;rw[Dx,Dx,aBj,Nat.add_mul];omega
 ·rcases ayN.1 (show x∈s.kept++uV d s (stepT d.c s.m v r).1.2 from j)with j|j
  ·exact k.ee x j
  ·obtain⟨z,A,B,C⟩:=axG d s _ x j;exact⟨z,A,B.trans k.ep,C.trans k.tx⟩
theorem axH{i:Nat}{d:fO}{s:eU}(k:r2 i d s)(j:uG){n:Int}(B:0<=n) :
  (∃e:Int,pw d s j n=(s,false,e)/\(e=1↔(d.c.ins.length:Int)<=n))\/(∃v a r,pw d s j n=(Dr d s n v a r,true,0)/\n<(d.c.ins.length:Int)/\s.offs[n.toNat]?=some a/\0<=a/\a<=(i:Int)):=by
 unfold pw;by_cases q:(d.c.ins.length:Int)<=n
 ·rw[if_pos (.inr q)];exact .inl ⟨1,rfl,by simp[q]⟩
 rw[if_neg (by omega)]
 have u:n.toNat<s.offs.length:=by rw[k.offs];omega
 have m:s.offs[n.toNat]?=some s.offs[n.toNat]:=IA u;have A:s.offs.getD n.toNat 0=s.offs[n.toNat]:=by rw[List.getD_eq_getElem?_getD,m];rfl
 have ak:=k.ob _ (List.getElem_mem u);rw[A];generalize s.offs[n.toNat]=a at m ak;cases C:(Fo d j (d.c.ins.getD n.toNat 0))[a.toNat]? with
 | none=>exact .inl ⟨0,rfl,by simp;omega⟩
 | some r=>
  simp only[if_neg (show ¬a<0 by omega)]
  by_cases z:256<=s.order.length
  ·rw[if_pos z];exact .inl ⟨3,rfl,by simp;omega⟩
  ·rw[if_neg z];exact .inr ⟨_,a,_,rfl,by omega,m,ak.1,ak.2⟩
def yE(n:Int)(s:nH):Prop:=(bY s n).ep=0/\(bY s n).tx=0/\(bY s n).offs=[]/\(bY s n).ord=[]
theorem axI{n:Int}{s:nH}(h:yE n s){x:bC}(q:x.kind=2/\x.task=n/\x.cZ=0/\x.hG=0)(i:Nat):yE n (mb s x i):=by
 obtain⟨u,z,A,B⟩:=q;unfold mb;split
 ·exact h
 rw[if_neg (by omega),if_neg (by omega),if_neg (by omega)]
 obtain⟨a,j,C,D⟩:=h;rw[z];have e:bY (⟨r1 s.logs (bY s n) x,λm=>if m=n then some (mJ (bY s n) x i)else s.tasks m⟩:nH) n=mJ (bY s n) x i:=by
  unfold bY;simp
 unfold yE;rw[e];unfold mJ;rw[if_neg (by rw[A,B,a,j];simp),if_pos u]
 exact⟨a,j,C,D⟩
theorem axJ{n:Int}{L:List bC}(a:yE n (hM L))(K:List bC):(∀x∈K,x.kind=2/\x.task=n/\x.cZ=0/\x.hG=0)->yE n (hM (L++K)) :=
 Zf (p:=λK=>(∀x∈K,x.kind=2/\x.task=n/\x.cZ=0/\x.hG=0)->yE n (hM (L++K))) (λ_=>by rw[axX];exact a) (λK x ih h=>by
  rw[<-axV,Ff];exact axI (ih λy i=>h y (List.mem_append_left _ i)) (h x (by simp)) _) K
theorem axK{i:Nat}{d:fO}{s:eU}(k:r2 i d s)(q:i<=40)(j:d.c.ins.length<=8)(m:0<=d.n/\d.n<=1048576):lB (eP d s)=true:=by
 rw[E6];have u:=k.ord;refine⟨⟨by show(1:Int)<=3;decide,by show(3:Int)<=6;decide⟩,?_,?_,?_,by show fit 0=true;decide,by show Bo 0=true;decide,?_,λx a=>?_,?_,λx a=>?_,?_⟩
 ·show fit d.n=true;rw[i7];exact m
 ·show fit s.ep=true;rw[k.ep];decide
 ·show fit s.tx=true;rw[k.tx];decide
 ·show s.offs.length<=8;rw[k.offs];exact j
 ·have:=k.ob x a;rw[i7];omega
 ·show s.order.length<=256;omega
 ·have:=k.ajr x a;rw[i7];omega
 ·unfold vR eP;simp
theorem axL{i:Nat}{d:fO}{s:eU}(k:r2 i d s)(hi:i<=40)(A:d.c.ins.length<=8)(B:0<=d.n/\d.n<=1048576)(l:List bz)(p:Int)(rs:List Rec) :
  sN (toldOf (fV l p rs++oY d s)).tasks d.n=if s.order=[]then⟨d.n,0,0,[],[],0⟩else⟨d.n,0,1,s.offs,s.order,0⟩:=by
 show sN (xg (fV l p rs++oY d s)) d.n=_;by_cases h:s.order=[]
 ·have e:oY d s=[]:=if_pos h;rw[if_pos h,e,axX];exact Zo l p rs d.n
 rw[if_neg h,show oY d s=s.kept++[eP d s]from if_neg h,<-axV,ajf,Ff]
 have C:yE d.n (hM (fV l p rs)):=by
  have e:bY (hM (fV l p rs)) d.n=ve:=by
   unfold bY;rw[(Zg _ (Zm l p rs)).1];rfl
  unfold yE;rw[e];exact⟨rfl,rfl,rfl,rfl⟩
 obtain⟨a,q,D,u⟩:=axJ C s.kept k.ee;have E:=axK k hi A B;generalize hM (fV l p rs++s.kept)=S at a q D u;generalize(fV l p rs++s.kept).length=N;have e:bY (mb S (eP d s) N) d.n=⟨(bY S d.n).ep,(bY S d.n).tx+1,s.offs,(bY S d.n).ord++s.order,[]⟩:=by
  unfold mb;rw[if_neg (by rw[E];simp),if_neg (by show ¬(3:Int)=1;decide),if_neg (by show ¬(3:Int)=5;decide),if_neg (by show ¬(3:Int)=6;decide)]
  have e:∀(z:Int->List ei) (j:ks),bY (⟨z,λm=>if m=(eP d s).task then some j else S.tasks m⟩:nH) d.n=j:=λz j=>by
   unfold bY;show((if d.n=d.n then some j else S.tasks d.n)).getD ve=j
   rw[if_pos rfl];rfl
  rw[e];show mJ (bY S d.n) (eP d s) N=_;unfold mJ;rw[if_neg (by show ¬(s.ep≠(bY S d.n).ep\/s.tx≠(bY S d.n).tx);rw[k.ep,k.tx,a,q];simp),if_neg (by show ¬(3:Int)=2;decide),if_pos (show(eP d s).kind=3 from rfl)]
  rfl
 rw[e,a,q,u];rfl
structure yF(h:I)(ow:cT)(r3:Nat)(v:V)(L:List bC)(cq:V)(y9:List Int):Prop where
 ri:h.get r3=.cells (cN (toldOf L)) 34 none
 Ds:r3<h.n
 Zp:ow r3=(0,0)
 bs:jG h
 Zq:pZ h
 aX:Fr h ow
 lo:Own h 48 11 v (L.flatMap br)
 lw:nF ow (0,0) (gr v)
 gT:Own h 3 1 cq (ao y9)
 RP:nF ow (0,0) (gr cq)
 dv:∀q,aU cq=some q->¬aU v=some q
 Zr:∀q,aU cq=some q->q≠r3
section
variable {h h':I} {ow ow':cT} {r3:Nat} {v cq:V} {L:List bC} {y9:List Int}
theorem yF.take(R:yF h ow r3 v L cq y9)(hg:p5 1 h ow h' ow'):yF h' ow' r3 v L cq y9 :=
 ⟨(
  hg.ai.get r3 R.Ds (by rw[R.Zp];simp)).trans R.ri,IS R.Ds hg.ai.n,(hg.bD r3 R.Ds).trans R.Zp,R.bs.ai hg.ai,by unfold pZ;rw[hg.ai.glob];exact R.Zq,hg.aX,
  R.lo.ai hg.ai λq i U=>(by rw[R.lw q (cy.2 i)]at U;simp at U),R.lw.bD (λq i=>R.lo.lt q (cy.1 i)) hg.bD,
  R.gT.ai hg.ai λq i U=>(by rw[R.RP q (cy.2 i)]at U;simp at U),R.RP.bD (λq i=>R.gT.lt q (cy.1 i)) hg.bD,R.dv,R.Zr⟩
theorem yF.app{k:Nat}{w:pj}{d:fO}{s:eU}(R:yF h ow r3 v L cq y9)(E:fP h ow 1 k w d s)(Q:y9.length<=2^36)(x:Int) :
  ∃z j,ki mc 46 46 cq (.bg h.n 0 1 1) (h.push (.cells [.int .i64 x] 3 none))=some (z,j)/\fP j ow 1 k w d s/\yF j ow r3 v L z (y9++[x]):=by
 have D:J h (h.push (.cells [.int .i64 x] 3 none)) none_:=J.push _ _ _;have lo:(ao y9).length=y9.length:=am _;have F:Own (h.push (.cells [V.int .i64 x] 3 none)) 3 1 (.bg h.n 0 1 1) [V.int .i64 x]:=Own.e4 [V.int .i64 x] 1 rfl (by decide)
 have G:=tc (P:=mc) (t:=46) fB F (n:=1) rfl (by decide) rfl
 obtain⟨z,j,H,A,M,B⟩:=sj (P:=mc) (t:=46) (tx:=46) oQ (by decide) (R.gT.ba D) G rfl (λm C=>by
  change m*1=_ at C;rw[lo]at C;simp at C;exact⟨by simp only[lim];omega,by simp only[lim];omega⟩)
 have A:Own j 3 1 z (ao (y9++[x])):=by rw[show ao (y9++[x])=ao y9++[V.int .i64 x]from List.map_append];exact A
 have u:J h j (a7 cq):=D.up.trans' M;have N:=u.n;have O:∀q,a7 cq q->ow q=(0,0):=λq i=>R.RP q (cy.2 i);refine⟨z,j,H,E.ai u (λq _ i=>by rw[O q i];simp) λ_ _=>rfl,⟨(u.get r3 R.Ds λU=>R.Zr r3 U rfl).trans R.ri,IS R.Ds N,R.Zp,R.bs.ai u,by unfold pZ;rw[u.glob];exact R.Zq,λq i=>R.aX q (by omega),
  R.lo.ai u λq i U=>R.dv q U i,R.lw,A,λq i=>?_,λq i U=>?_,λq i=>?_⟩⟩
 ·rcases B with e|e
  ·exact R.RP q (by rw[cy,<-e];exact cy.1 i)
  ·have:=e q (cy.1 i);rw[df]at this;exact R.aX q (by omega)
 ·rcases B with e|e
  ·exact R.dv q (by rw[<-e];exact i) U
  ·have:=e q i;rw[df]at this;have:=R.lo.lt q U;omega
 ·rcases B with e|e
  ·exact R.Zr q (by rw[<-e];exact i)
  ·have:=e q i;rw[df]at this;have:=R.Ds;omega
end
theorem axM(l:List bz)(p:Int)(aZ:ju l)(n:Nat)(aB:n<256)(rs:List Rec)(o4:rs.length<=2^47)(M:List Nat)(h:I)(aw:jG h)(hu:pZ h) :
  au mc 4 [.agg (cD l p),.int .u8 (n:Nat),.af rs.length (rs.flatMap aK),.af M.length (e5 M)] h (λr h'=>r=.bool true):=by
 refine bd Tryz.func4 rfl ?_;have pb:(V.agg (cD l p)).cells=some [.af l.length (l.flatMap al),.int .i64 p]:=rfl;have ln:V.agg [.af l.length (l.flatMap al),.int .i64 p]=.agg (cD l p):=rfl;have Dw:∀xo yo,cV mc .rem 5 xo yo (.int .u8 (n:Int)) (.int .u8 12)=some (.int .u8 ((n % 12:Nat):Int)):=λxo yo=>by
  rw[Cr (by decide),aAQ (by omega)];rfl
 have It:IntKind.i64.wrap ((n % 12:Nat):Int)=((n % 12:Nat):Int):=Go.IntWalk.i64_in _ (by omega)
 obtain⟨q,O⟩:∃q,q=n % 12:=⟨_,rfl⟩;have bg:q<12:=by omega
 rw[<-O]at Dw It;obtain⟨H,hH,bo,gt,ib⟩:=b0 h (.cells [.af l.length (l.flatMap al),.int .i64 p] 24 none);have jU:=aw.ai bo;have Rx:pZ H:=by unfold pZ;rw[bo.glob];exact hu
 simp only[ae,pb,<-hH];clear hH;refine bO (axl H jU Rx) ?_;simp only[ae,ds,AS,jh,gt,ln];refine cA (axy l p aZ H) λr h1 ⟨b,ay,bx⟩=>?_;subst ay;cases b with
 | false=>
  have pC:(!false)=true:=rfl;simp only[ae,ds,pC,aP,aDB,ac];exact ar rfl
 | true=>
 have pC:(!true)=false:=rfl;have B0:=(bx.get h.n (by omega) (by simp[none_])).trans gt
 have t1:=jU.ai bx;have en:=bx.n;simp only[ae,ds,AS,jh,pC,B0,ln];refine cA (axB l p aZ rs o4 h1 t1) λv ad a2=>?_;have pf:=(a2.ai.get h.n (by omega) (by simp[none_])).trans B0
 have t2:=t1.ai a2.ai;have dd:=a2.ai.n;have JC:pZ ad:=by unfold pZ;rw[a2.ai.glob,bx.glob];exact Rx
 have Pd:=ajo l p rs;have az:=ajn l p rs;have Pe:=Za (fV l p rs) (by omega) (λx X=>by
  obtain⟨ay,bc⟩:=Pd x X;unfold vS;rw[ay,bc];exact⟨by decide,by decide⟩) ad a2.own JC
 have Pf:sO (toldOf (fV l p rs)):=ajg _ (by omega)
 have hw:(sN (toldOf (fV l p rs)).tasks (q:Int)).offs=[]:=by rw[Zo]
 have hP:=axD l p rs;have jw:=λo=>@r2.new l p rs (nx l p (q:Int)) o;have Iu:=λi s=>@axL i (nx l p (q:Int)) s;obtain⟨L,fF⟩:∃L,L=fV l p rs:=⟨_,rfl⟩;rw[<-fF]at a2 Pd az Pe Pf hw hP jw;simp only[ae,ds];refine bO Pe ?_;have Fp:(V.agg (cN (toldOf L))).cells=some (cN (toldOf L)):=rfl;have q4:(if 3<=(cN (toldOf L)).length then some (V.agg (List.take 3 (cN (toldOf L))))else none)=some (.agg (cN (toldOf L))):=rfl
 have d0:cO (aR.cells (cN (toldOf L)) 34 none) 0=some (cN (toldOf L)):=rfl;have s6:cJ (some (some 3)) (some (cN (toldOf L)))=some (.agg (cN (toldOf L))):=rfl;have O7:bA (some 3) (aR.cells [V.ag,V.ag,.int .i64 0] 34 none) 0 (cN (toldOf L))=some (.cells (cN (toldOf L)) 34 none):=rfl;obtain⟨ca,bP,k2,Bn,bj⟩:=b0 ad (.cells (cN (toldOf L)) 34 none);have Pg:=(k2.get h.n (by omega) (by simp[none_])).trans pf
 have TR:=t2.ai k2;have aG:pZ ca:=by unfold pZ;rw[k2.glob];exact JC
 simp only[ae,ds,jh,QB,V3,Fp,O7];rw[<-bP];clear bP;simp only[ae,ds,AS,CH,Pg,ln,Dw,lL kG gS,It,Bn,d0,s6];refine cA (aiW 1 l p (q:Int) aZ (toldOf L) Pf ca TR (λ_=>(0,0)) (λ_ _=>rfl) (by decide) (.inl hw) (λv=>hP v _)) λr aC ⟨k3,bh⟩=>?_
 have n3:=k3.n;rcases bh with⟨bH,cW⟩|⟨u1,k,w,hC,cW,c0,yD,TS⟩
 ·subst cW;have nz:(x2 l p (q:Int) !=0)=true:=by simpa using bH
  simp only[ae,ds,nz,aP,aDB,ac];exact ar rfl
 subst cW;obtain⟨o,ko⟩:=axE aZ u1;have gZ:(nx l p (q:Int)).n=(q:Int):=rfl;obtain⟨d,bh⟩:∃d,d=nx l p (q:Int):=⟨_,rfl⟩;rw[<-bh]at c0 o ko gZ jw Iu;clear bh;have ne:=OK k;have z0:((0:Int) !=0)=false:=rfl;have Fv:=(k3.get ad.n (by omega) (by simp[none_])).trans Bn
 have Ho:yF aC hC ad.n v L .ag []:=⟨Fv,by omega,yD _ (by omega),TR.ai k3,by unfold pZ;rw[k3.glob];exact aG,TS,(a2.own.ba k2).ba k3,λq O=>yD q (by have:=a2.own.lt q (cy.1 O);omega),Own.ag _ _ _,λq O=>(by cases cy.1 O),λq O=>(by cases O),λq O=>(by cases O)⟩
 obtain⟨r3,Ph⟩:∃r3,r3=ad.n:=⟨_,rfl⟩;rw[<-Ph]at Ho;simp only[ae,ds,ne];rw[<-Ph];clear Ph Fv Bn Pg pf B0 gt;refine aS.bI (α:=Nat×eU×pj×cT×V) (λy f h'=>f 1=.int .u8 (n:Nat)/\f 3=.af M.length (e5 M)/\f 9=.bool true/\f 10=v/\f 11=.ptr r3 0/\f 12=.ptr k 0/\f 14=y.2.2.2.2/\f 15=.int .i64 (y.1:Nat)/\y.1<=M.length/\y.1<=40/\fP h' y.2.2.2.1 1 k y.2.2.1 d y.2.1/\r2 y.1 d y.2.1/\yF h' y.2.2.2.1 r3 v L y.2.2.2.2 y.2.1.order) (λy=>40-y.1) (0,Bw (toldOf L) d,w,hC,.ag)
  ⟨rfl,rfl,rfl,rfl,rfl,rfl,rfl,rfl,Dy _,Dy _,c0,jw o,Ho⟩ ?_
 clear c0 Ho yD TS k3 n3 w hC
 rintro⟨i,s,w,ow,cq⟩ f bn ⟨f1,Q,f9,A,C,u,B,z,hi,Dv,c0,F,R⟩
 simp only at B z hi Dv c0 F R;refine wpS ?_;have ua:=F.ord;have BT:s.kept.length<=2^34:=by have:=F.kept;omega
 have qx:s.offs.length<=2^20:=by have:=F.offs;omega
 by_cases aD:i<M.length/\i<40
 ·have bf:=dV (a:=i) (b:=M.length) (by omega)
  have bu:decide ((i:Int)<40)=true:=decide_eq_true (by omega)
  have pv:=mQ aD.2 (by omega)
  obtain⟨IU,yJ⟩:∃r,gP mc 26 (.af M.length (e5 M)) (.int .i64 (i:Int))=some (.at (.int .u8 (M[i]:Nat)::r)):=⟨_,Ab.A1 (λn:Nat=>V.int .u8 (n:Int)) aD.1 LU⟩;have Iv:∀(b:Nat) xo yo,cV mc .rem 5 xo yo (.int .u8 (b:Int)) (.int .u8 4)=some (.int .u8 ((b % 4:Nat):Int)):=λb xo yo=>by
   rw[Cr (by decide),aAQ (by omega)];rfl
  generalize M[i]=b at yJ;have Iv:=Iv b;have aq:IntKind.i64.wrap ((b % 4:Nat):Int)=((b % 4:Nat):Int):=Go.IntWalk.i64_in _ (by omega)
  obtain⟨m,hm⟩:∃m,m=b % 4:=⟨_,rfl⟩;have bk:m<4:=by omega
  rw[<-hm]at Iv aq;simp only[ae,ds,qd,Q,u,z,bf,bu];refine bO (OL c0 qx) ?_;have cr:=Y1 o c0 F.ri R.bs R.aX (by decide) (toldOf L) Pf F.offs BT (by omega) (m:Int)
  have Bn:=R.ri;simp only[ae,ds,CH,sn,Q,C,u,z,yJ,Iv,lL kG gS,aq,Bn,d0,s6];rcases axH F (toldOf L) (n:=(m:Int)) (by omega)with⟨e,he,Pj⟩|⟨Lj,a,r,he,ga,aT,yi,Il⟩
  ·rw[he]at cr;refine cA cr λgU Y ⟨jB,rI,eK,uK,Fw⟩=>?_;subst jB;have Zs:=R.take Fw;simp only[ae,ds,u];refine bO (OL uK qx) ?_;obtain⟨zq,dH,b8⟩:∃zq:Bool,(e==1)=zq/\decide ((s.offs.length:Int)<=(m:Int))=zq:=by
    by_cases nJ:(d.c.ins.length:Int)<=(m:Int)
    ·exact⟨true,by simp[Pj.2 nJ],decide_eq_true (by rw[F.offs];exact nJ)⟩
    ·exact⟨false,by simpa using λU=>nJ (Pj.1 U),decide_eq_false (by rw[F.offs];exact nJ)⟩
   have gQ:(zq !=zq)=false:=by cases zq<;>rfl
   have pr:((s.offs.length:Int) !=(s.offs.length:Int))=false:=by simp
   simp only[ae,ds,LB,fB,dH,b8];refine aS.bI (α:=Nat) (λj g qA=>g 1=.int .u8 (n:Nat)/\g 3=.af M.length (e5 M)/\g 9=.bool true/\g 10=v/\g 11=.ptr r3 0/\g 12=.ptr k 0/\g 14=cq/\g 15=.int .i64 (i:Nat)/\g 16=.af s.offs.length (ao s.offs)/\g 17=.int .i64 (m:Nat)/\g 18=.bool false/\g 20=.af s.offs.length (ao s.offs)/\g 21=.int .i64 (j:Nat)/\j<=s.offs.length/\qA=Y) (λj=>s.offs.length-j) 0
    ⟨f1,Q,f9,A,C,u,B,z,rfl,rfl,rfl,rfl,rfl,Dy _,rfl⟩ ?_
   rintro j g qA ⟨f1,Q,f9,A,C,u,B,z,G,Z,S,W,aa,aN,rfl⟩
   refine wpS ?_;by_cases mw:j<s.offs.length;rotate_left
   ·have Fy:=eC (a:=j) (b:=s.offs.length) (by omega)
    simp only[ae,ds,reduceCtorEq,fB,A,u,z,G,aa,Fy,pv];exact ar ⟨(i+1,s,rI,eK,cq),⟨f1,Q,f9,A,C,u,B,rfl,aD.1,aD.2,uK,F.up,Zs⟩,by simp only;omega⟩
   have Fy:=dV (a:=j) (b:=s.offs.length) (by omega)
   have Bv:=mQ mw (by have:=F.offs;omega)
   obtain⟨n9,dL⟩:∃r,gP mc 46 (.af s.offs.length (ao s.offs)) (.int .i64 (j:Int))=some (.at (.int .i64 s.offs[j]::r)):=⟨_,Ab.A1 (V.int .i64) mw iS⟩;have ax:∀x:Int,(x !=x)=false:=λx=>by simp
   generalize s.offs[j]=Zt at dL;simp only[ae,ds,fB,aY,G,S,W,aa,Fy,dL,Bv];exact ar ⟨j+1,⟨f1,Q,f9,A,C,u,B,z,G,Z,S,W,rfl,mw,rfl⟩,by omega⟩
  ·rw[he]at cr;refine cA cr λgU Y ⟨jB,rI,eK,uK,Fw⟩=>?_;subst jB;have Zs:=R.take Fw;have aT:s.offs[m]?=some a:=aT;have Zu:=F.step o (n:=(m:Int)) ⟨by omega,by omega⟩ Lj a ⟨yi,Il⟩ r
   have lu:=OL uK (show(s.offs.set m (a+1)).length<=2^20 by rw[aAP];exact qx)
   have lu:Pure mc 17 [.ptr k 0] Y (.af s.offs.length (ao (s.offs.set m (a+1)))):=by
    have:=lu;rw[show(Dr d s (m:Int) Lj a r).offs=s.offs.set m (a+1)from rfl,aAP]at this
    exact this
   simp only[ae,ds,u];refine bO lu ?_;obtain⟨TT,dh,Dj,Iw,aI⟩:=Zs.app uK (by omega) (m:Int)
   have cB:=aiF Y (m:Int);have dH:((0:Int)==1)=false:=rfl;have b8:decide ((s.offs.length:Int)<=(m:Int))=false:=decide_eq_false (by have:=F.offs;omega)
   have gQ:(false !=false)=false:=rfl;have pr:((s.offs.length:Int) !=(s.offs.length:Int))=false:=by simp
   simp only[ae,ds,LB,fB,B,cB,Dj,dH,b8];refine aS.bI (α:=Nat) (λj g qA=>g 1=.int .u8 (n:Nat)/\g 3=.af M.length (e5 M)/\g 9=.bool true/\g 10=v/\g 11=.ptr r3 0/\g 12=.ptr k 0/\g 14=TT/\g 15=.int .i64 (i:Nat)/\g 16=.af s.offs.length (ao s.offs)/\g 17=.int .i64 (m:Nat)/\g 18=.bool true/\g 20=.af s.offs.length (ao (s.offs.set m (a+1)))/\g 21=.int .i64 (j:Nat)/\j<=s.offs.length/\qA=dh) (λj=>s.offs.length-j) 0
    ⟨f1,Q,f9,A,C,u,rfl,z,rfl,rfl,rfl,rfl,rfl,Dy _,rfl⟩ ?_
   rintro j g qA ⟨f1,Q,f9,A,C,u,B,z,G,Z,S,W,aa,aN,rfl⟩
   refine wpS ?_;by_cases mw:j<s.offs.length;rotate_left
   ·have Fy:=eC (a:=j) (b:=s.offs.length) (by omega)
    simp only[ae,ds,reduceCtorEq,fB,A,u,z,G,aa,Fy,pv];exact ar ⟨(i+1,_,rI,eK,TT),⟨f1,Q,f9,A,C,u,B,rfl,aD.1,aD.2,Iw,Zu,aI⟩,by simp only;omega⟩
   have Fy:=dV (a:=j) (b:=s.offs.length) (by omega)
   have Bv:=mQ mw (by have:=F.offs;omega)
   obtain⟨n9,dL⟩:∃r,gP mc 46 (.af s.offs.length (ao s.offs)) (.int .i64 (j:Int))=some (.at (.int .i64 s.offs[j]::r)):=⟨_,Ab.A1 (V.int .i64) mw iS⟩;have Zv:j<(s.offs.set m (a+1)).length:=by rw[aAP];exact mw
   obtain⟨cL,bV⟩:∃r,gP mc 46 (.af s.offs.length (ao (s.offs.set m (a+1)))) (.int .i64 (j:Int))=some (.at (.int .i64 (s.offs.set m (a+1))[j]::r)):=by
    have:=Ab.A1 (P:=mc) (V.int .i64) Zv (kk:=.i64) iS;rw[aAP]at this;exact⟨_,this⟩
   by_cases Pl:j=m
   ·have vZ:((j:Int)==(m:Int))=true:=by simp[Pl]
    have ay:(s.offs.set m (a+1))[j]=a+1:=by subst Pl;simp
    have fk:s.offs[j]=a:=by subst Pl;rw[IA mw]at aT;exact Option.some.inj aT
    rw[ay]at bV;rw[fk]at dL;have Y3:IntKind.i64.wrap (a+1)=a+1:=Go.IntWalk.i64_in _ (by omega)
    have ax:((a+1) !=(a+1))=false:=by simp
    simp only[ae,ds,fB,aY,G,Z,S,W,aa,Fy,dL,bV,vZ,Y3,Bv];exact ar ⟨j+1,⟨f1,Q,f9,A,C,u,B,z,G,Z,S,W,rfl,mw,rfl⟩,by omega⟩
   ·have vZ:((j:Int)==(m:Int))=false:=by simp;omega
    have ay:(s.offs.set m (a+1))[j]=s.offs[j]:=List.getElem_set_ne (by omega) _
    rw[ay]at bV;generalize s.offs[j]=Zt at dL bV;have ax:(Zt !=Zt)=false:=by simp
    simp only[ae,ds,fB,aY,G,Z,S,W,aa,Fy,dL,bV,vZ,Bv];exact ar ⟨j+1,⟨f1,Q,f9,A,C,u,B,z,G,Z,S,W,rfl,mw,rfl⟩,by omega⟩
 have cM:s.kept.length<=671088640:=by have:=F.kept;omega
 have ru:(oY d s).length<=671088641:=by
  unfold oY;split
  ·exact Dy _
  ·rw[Dx,aBj];omega
 have bN:=Y7 c0 F.bare qx (by omega) (by omega)
 obtain⟨v5,Y,jB,G2,dQ,yU⟩:=sj (P:=mc) (t:=29) (tx:=29) (T:=⟨48,[.int .i64 0,.int .i64 0,.int .i64 0,.int .i64 0,.int .i64 0,.int .i64 0,.int .i64 0,.int .i64 0,.bool false,.ag,.ag],11,120⟩) CK (by decide) R.lo (I3 (n:=(oY d s).length) A9 (fJ w9 _) (by rw[List.all_flatMap];exact List.all_eq_true.2 λx _=>Y6 x)) (fJ w9 _) (λq O=>by
  change q*11=_ at O;rw[fJ w9,fJ w9]at O;have:q=L.length+(oY d s).length:=by omega
  exact⟨by simp only[lim];omega,by simp only[lim];omega⟩)
 rw[<-List.flatMap_append]at G2;have aJ:∀q,a7 v q->ow q=(0,0):=λq O=>R.lw q (cy.2 O);have uK:fP Y ow 1 k w d s:=c0.ai dQ (λq _ O=>by rw[aJ q O];simp) λ_ _=>rfl
 have aM:pZ Y:=by unfold pZ;rw[dQ.glob];exact R.Zq
 have aV:Own Y 3 1 cq (ao s.order):=R.gT.ai dQ λq O U=>R.dv q O U;have Pm:(L++oY d s).length<=2^30:=by rw[Dx];omega
 have TU:∀x∈L++oY d s,vS x:=λx X=>by
  rcases ayN.1 X with X|X
  ·obtain⟨ay,bc⟩:=Pd x X;unfold vS;rw[ay,bc];exact⟨by decide,by decide⟩
  ·unfold oY at X;split at X
   ·cases X
   ·rcases ayN.1 X with X|X
    ·obtain⟨ay,bc⟩:=F.bare x X;unfold vS;rw[ay,bc];exact⟨by decide,by decide⟩
    ·rw[aAj.1 X];exact⟨by show s.offs.length<=_;omega,by show s.order.length<=_;omega⟩
 have Pn:=Za (L++oY d s) Pm TU Y G2 aM;have Ce:=ah6 (toldOf (L++oY d s)) (ajg _ Pm) (q:Int) Y;have vE:sN (toldOf (L++oY d s)).tasks (q:Int)=if s.order=[]then⟨(q:Int),0,0,[],[],0⟩else⟨(q:Int),0,1,s.offs,s.order,0⟩:=by
  have:=Iu i s F Dv ko (by rw[gZ];omega) l p rs
  rw[gZ,<-fF]at this;exact this
 rw[vE]at Ce;clear vE TU Pm G2;have ud:=OJ R.gT;have TV:s.order=[]->(oY d s).length=0:=λU=>by rw[show oY d s=[]from if_pos U];rfl
 have Po:=λob=>Y7 (uK.ba (J.push Y ob none_)) F.bare qx (by omega) (by omega)
 generalize cN (toldOf (L++oY d s))=D at Pn Ce;generalize(oY d s).length=N at bN jB Po TV;generalize(oY d s).flatMap br=E at bN jB Po;have Ix:(decide ((i:Int)<(M.length:Int))=true/\decide ((i:Int)<40)=false)\/decide ((i:Int)<(M.length:Int))=false:=by
  by_cases h1:i<M.length
  ·exact .inl ⟨decide_eq_true (by omega),decide_eq_false (by omega)⟩
  ·exact .inr (decide_eq_false (by omega))
 by_cases aO:s.order=[]
 ·rw[if_pos aO]at Ce;have jy:((s.order.length:Int)==0)=true:=by rw[aO];rfl
  have aW:((N:Int)==0)=true:=by rw[TV aO];rfl
  have z0:((0:Int)==0)=true:=rfl;have O1:(V.agg (cF ⟨(q:Int),0,0,[],[],0⟩)).cells=some [.int .i64 (q:Int),.int .i64 0,.int .i64 0,.af 0 [],.af 0 [],.int .i64 0]:=rfl;have O2:bA (some 6) (aR.cells [V.int .i64 0,.int .i64 0,.int .i64 0,.ag,.ag,.int .i64 0] 57 none) 0 [.int .i64 (q:Int),.int .i64 0,.int .i64 0,.af 0 [],.af 0 [],.int .i64 0]=some (.cells [.int .i64 (q:Int),.int .i64 0,.int .i64 0,.af 0 [],.af 0 [],.int .i64 0] 57 none):=rfl;obtain⟨uU,Iy,_,Pp,_⟩:=b0 Y (.cells [.int .i64 (q:Int),.int .i64 0,.int .i64 0,.af 0 [],.af 0 [],.int .i64 0] 57 none);have TW:=Po (.cells [.int .i64 (q:Int),.int .i64 0,.int .i64 0,.af 0 [],.af 0 [],.int .i64 0] 57 none);rw[<-Iy]at TW;rcases Ix with⟨bV,eM⟩|bV
  all_goals
   first|simp only[ae,ds,qd,Q,A,u,z,bV,eM]|simp only[ae,ds,qd,Q,A,u,z,bV]
   refine bO bN ?_;simp only[ae,ds,jB];refine bO Pn ?_;simp only[ae,ds,f1,Dw,lL kG gS,It];refine bO Ce ?_;simp only[ae,ds,Eo,Gn,f9,u,B,O1,O2,ud,jy];rw[<-Iy];refine bO TW ?_;simp only[ae,ds,AS,By,Eh,A9,aY,Pp,aW,aP,aDB,ac];exact ar rfl
 ·rw[if_neg aO]at Ce;have jy:((s.order.length:Int)==0)=false:=by
   have:s.order.length≠0:=λU=>aO (List.length_eq_zero_iff.1 U);simpa using this
  have z0:((0:Int)==0)=true:=rfl;have My:((1:Int)==1)=true:=rfl;have O1:(V.agg (cF ⟨(q:Int),0,1,s.offs,s.order,0⟩)).cells=some [.int .i64 (q:Int),.int .i64 0,.int .i64 1,.af s.offs.length (ao s.offs),.af s.order.length (ao s.order),.int .i64 0]:=rfl;have O2:bA (some 6) (aR.cells [V.int .i64 0,.int .i64 0,.int .i64 0,.ag,.ag,.int .i64 0] 57 none) 0 [.int .i64 (q:Int),.int .i64 0,.int .i64 1,.af s.offs.length (ao s.offs),.af s.order.length (ao s.order),.int .i64 0]=some (.cells [.int .i64 (q:Int),.int .i64 0,.int .i64 1,.af s.offs.length (ao s.offs),.af s.order.length (ao s.order),.int .i64 0] 57 none):=rfl;obtain⟨uU,Iy,hD,Pp,_⟩:=b0 Y (.cells [.int .i64 (q:Int),.int .i64 0,.int .i64 1,.af s.offs.length (ao s.offs),.af s.order.length (ao s.order),.int .i64 0] 57 none);have Iw:=uK.ba hD;have TX:=aV.ba hD;have Zw:∀h',(J uU h' none_\/h'=uU)->fP h' ow 1 k w d s:=λh' hk=>by rcases hk with hk|rfl;exact Iw.ba hk;exact Iw
  have Zx:∀h',(J uU h' none_\/h'=uU)->Own h' 3 1 cq (ao s.order):=λh' hk=>by rcases hk with hk|rfl;exact TX.ba hk;exact TX
  have bm:decide (s.order=s.order)=true:=decide_eq_true rfl;have bp:decide (s.offs=s.offs)=true:=decide_eq_true rfl;rcases Ix with⟨bV,eM⟩|bV
  all_goals
   first|simp only[ae,ds,qd,Q,A,u,z,bV,eM]|simp only[ae,ds,qd,Q,A,u,z,bV]
   refine bO bN ?_;simp only[ae,ds,jB];refine bO Pn ?_;simp only[ae,ds,f1,Dw,lL kG gS,It];refine bO Ce ?_;simp only[ae,ds,Eo,Gn,B,O1,O2,ud,jy];rw[<-Iy];refine aS.cS none_ [] (.q 0 (.q 1 (.q 2 (.q 3 (.q 4 (.c 5 (.q 6 (.q 7 (.q 8 (.q 9 (.q 10 (.c 11 (.c 12 (.q 13 (.q 14 (.q 15 (.q 16 (.q 17 (.q 18 (.q 19 (.q 20 (.q 21 (.q 22 (.q 23 (.q 24 .done))))))))))))))))))))))))) ?_;simp only[ae,bt,ds,AS,By,Ql,hL,f9,B,Pp];refine fA rfl rfl rfl (λh' hk=>axC s.order s.order h' (Zx h' hk) (by omega)) ?_
   simp only[ae,bt,ds,AS,By,LH,hL,u,Pp];refine fA rfl rfl rfl (λh' hk=>OL (Zw h' hk) qx) ?_;simp only[bt];refine fA rfl rfl rfl (λh' hk=>afd s.offs s.offs h' (by omega)) ?_
   simp only[ae,bt,ds,AS,By,Eh,abC,aY,Pp,aP,aDB,ac];exact ar rfl
end Go.Proofs.YtemdgidnhgcafaaGreatDoor.Pk
