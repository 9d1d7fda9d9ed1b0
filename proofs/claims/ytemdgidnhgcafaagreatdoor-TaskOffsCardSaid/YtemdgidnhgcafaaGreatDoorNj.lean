/-
  What functions of the program do, told of abstract states. Conditions: as each theorem says.
-/
import Derived.Test.YtemdgidnhgcafaaGreatDoorNi
import Derived.Test.YtemdgidnhgcafaaGreatDoorAcD
import Derived.Test.YtemdgidnhgcafaaGreatDoorNf
import Derived.Test.YtemdgidnhgcafaaGreatDoorNh
open Go.Proofs.Tryz renaming prog->mc,func78->aED,results78->aEE,func79->aEF,results79->aEG,results76->aGC,results47->aGD,results36->aGE,results21->aGF,results25->aAE,results32->aEJ,results81->aBX,results38->aBW,results39->aGJ
open Nat renaming reduceEqDiff->ds,reduceAdd->AS,reduceLeDiff->By,lt_succ_self->az1,le_refl->BY,zero_le->Dy,zero_add->ayP,lt_or_ge->aAy,sub_self->aDu,lt_of_lt_of_le->IS,mul_one->ajD,mul_eq_zero->aAF,le_trans->ajy
open List renaming length_map->axT,mem_filter->ajA,map_append->azp,flatMap_append->azo,map_cons->axU,map_nil->azu,map_map->azM,mem_map->OF,Nodup->aA5,length_nil->ayK,nil_append->azy,findIdx_lt_length->aGB,getElem_of_mem->aEw,getElem_mem->ayM,range->ajB,getD->ayO,getElem?_append_left->aAc,getElem?_append_right->aAd,headD_cons->aGG,tail_cons->aGH,length_cons->axW,drop_eq_getElem_cons->azg,drop_of_length_le->azz,append_nil->axX,length_append->Dx,take->azw,flatMap_cons->azh,take_zero->aAu,take_succ_eq_append_getElem->azi,length_take->TY,take_of_length_le->ajz,length_zip->aBk,append_assoc->axV
open Int renaming reduceNeg->IN,toNat_of_nonneg->aEI,toNat_natCast->ayQ,tmod_eq_emod_of_nonneg->aAQ
open Option renaming map_some->azE
open Go renaming IntKind->aOT
set_option linter.unusedVariables false
set_option linter.unusedSimpArgs false
set_option maxHeartbeats 8000000
set_option maxRecDepth 20000
namespace Go.Proofs.YtemdgidnhgcafaaGreatDoor.Pk
open Go Go.Proofs Go.Proofs.YtemdgidnhgcafaaGreatDoor.Ab Go.Proofs.Vw
theorem awm(h:I)(p:Int×List ei):h3 mc 31 1 [(0,.agg (cj p))] h=some (.bg h.n 0 1 1,h.push (.cells (cj p) 90 none)):=by rw[mD abW];rfl
theorem awn(h:I)(p:og):h3 mc 32 1 [(0,.agg (cF p))] h=some (.bg h.n 0 1 1,h.push (.cells (cF p) 57 none)):=by rw[mD abX];rfl
theorem awo{aG h:I}{j D B ef:Nat}{s:nH}{L T:kW}(w:x0 aG h j D s L B T ef)(fF:L.length<=2^30) :
  au mc 28 [.agg [.map j,.map D]] h (λr h'=>∃z:List (Int×List ei),z.Perm (L.map λe=>(e.2.1,s.logs e.2.1))/\(z.Pairwise λa b=>¬b.1<a.1)/\Acc h h' 90 3 r (z.flatMap cj)):=by
 obtain⟨q,W⟩:∃q,eA mc 71=some q:=by
  obtain⟨gG,E,_⟩:=Yp;exact⟨_,E⟩
 refine bd Tryz.func28 rfl ?_;have av:(V.agg [.map j,.map D]).cells=some [.map j,.map D]:=rfl;have OD:(h.push (.cells [.map j,.map D] 74 none)).get j=.map (ie L) B:=(iP w.Fh).trans w.pz;have nf:=KE W OD;have e2:(L.map (·.1)).Nodup:=by
  have:=w.nU.2;rwa[show(ie L).map (·.1)=L.map (·.1)from aaX L]at this
 have X:=w.Fh;simp only[ae,ds,AS,VC,VN,av,nf];refine aS.bI (α:=kW) (λA f h'=>f 8=.ptr (h.n+1) 0/\h.n+1<h'.n/\h'.get (h.n+1)=.iter j B (A.map (·.1)) B/\Acc h h' 90 3 (f 3) ((A.map λe=>(e.2.1,s.logs e.2.1)).flatMap cj) /\
  aU (f 3)≠some (h.n+1)/\(∀e∈A,e∈L)/\(A.map (·.1)).Nodup) (λA=>(nZ (ie L) (A.map (·.1))).length) []
  ⟨rfl,by simp only[df];omega,by simp[I.push],Acc.nil ((J.push _ _ _).trans' (J.push _ _ _)),(show aU V.ag≠some (h.n+1)by simp[aU]),by simp,by simp⟩ ?_
 rintro A f F ⟨N,dd,qg,u,O,Y,Z⟩
 have gx:F.get j=.map (ie L) B:=(u.ai.get j X (by simp[none_])).trans w.pz
 refine wpS ?_;simp only[ae,N];refine KC qg gx w.nU (λjz=>?_) λe G=>?_
 ·have aW:=aaZ e2 Z Y (aa0 jz);have lh:=aW.length_eq;simp only[ae,ds];refine cA (awj F (f 3) _ u.own (by rw[axT];omega)) λr aC ⟨ay,k3,z,pl,bg,ec⟩=>?_
  subst ay;simp only[ae,ds,aP,Tryz.results28,ac];exact ar ⟨z,pl.trans (aW.map _),bg,ec,u.ai.trans k3 λq W e=>by have:=u.new q e;omega,u.new⟩
 ·obtain⟨x,ah,rfl,wD⟩:=aa1 G;have C:=PL G;obtain⟨n3,vK,HT⟩:=aa2 Z Y ah wD;obtain⟨mL,dU,Fk⟩:=w.has x.2.1 x.2.2 (qQ w.lp ah);obtain⟨xs,i,Q⟩:=x;simp only at C G wD mL dU Fk;generalize hH:F.set (h.n+1) (.iter j B (A.map (·.1)++[xs]) B)=H;have M:Acc h H 90 3 (f 3) ((A.map λe=>(e.2.1,s.logs e.2.1)).flatMap cj):=by rw[<-hH];exact u.set (by omega) O _
  have ib:H.n=F.n:=by rw[<-hH];rfl
  have ji:H.get (h.n+1)=.iter j B (A.map (·.1)++[xs]) B:=by rw[<-hH];exact aL
  have BV:H.get j=.map (ie L) B:=(M.ai.get j X (by simp[none_])).trans w.pz
  have u7:=KD ji BV w.nU (ajA.1 G).1;simp only at u7;have Hf:H.get Q=.cells (cj (i,s.logs i)) 90 none:=(M.ai.get Q Fk (by simp[none_])).trans mL
  have CZ:cO (aR.cells (cj (i,s.logs i)) 90 none) 0=some (cj (i,s.logs i)):=rfl;have hg:(cj (i,s.logs i)).take 3=cj (i,s.logs i):=rfl;have II:=JR (i,s.logs i);have R:=awm H (i,s.logs i);obtain⟨cv,bn,dy,qX,S,d4⟩:=I9 (P:=mc) abW (by decide) M.own (xs:=cj (i,s.logs i)) rfl rfl (λm E=>by
   change m*3=_+3 at E;rw[fJ JR,axT]at E;exact⟨by simp only[lim];omega,by simp only[lim];omega⟩)
  have a4:=M.step qX S d4;have aa:=S.n;simp only[ae,ds,LQ,N,u7,Hf,CZ,hg,II,R,dy];refine ar ⟨A++[(xs,i,Q)],⟨N,by omega,?_,a4.conv ?_,?_,vK,n3⟩,?_⟩
  ·rw[S.get (h.n+1) (by omega) (λU=>O U),ji];simp
  ·rw[azp,azo,axU,azu];simp
  ·intro U;rcases d4 with d|d
   ·exact O (d▸U)
   ·have:=d _ U;omega
  ·rw[azp];exact C
theorem awp{aG h:I}{F i lc z:Nat}{s:nH}{L T:kW}(w:x0 aG h F i s L lc T z)(fF:T.length<=2^30) :
  au mc 29 [.agg [.map F,.map i]] h (λr h'=>∃B:List og,B.Perm (T.map λe=>nv e.2.1 (bY s e.2.1))/\(B.Pairwise λa b=>¬b.t<a.t)/\Acc h h' 57 6 r (B.flatMap cF)):=by
 obtain⟨q,ab⟩:∃q,eA mc 72=some q:=by
  obtain⟨gG,M,_⟩:=Yo;exact⟨_,M⟩
 refine bd Tryz.func29 rfl ?_;have av:(V.agg [.map F,.map i]).cells=some [.map F,.map i]:=rfl;have OD:(h.push (.cells [.map F,.map i] 74 none)).get i=.map (ie T) z:=(iP w.Fi).trans w.gt;have nf:=KE ab OD;have e2:(T.map (·.1)).Nodup:=by
  have:=w.nV.2;rwa[show(ie T).map (·.1)=T.map (·.1)from aaX T]at this
 have aD:=w.Fi;simp only[ae,ds,AS,By,VD,VO,av,nf];refine aS.bI (α:=kW) (λA f h'=>f 9=.ptr (h.n+1) 0/\h.n+1<h'.n/\h'.get (h.n+1)=.iter i z (A.map (·.1)) z/\Acc h h' 57 6 (f 3) ((A.map λe=>nv e.2.1 (bY s e.2.1)).flatMap cF) /\
  aU (f 3)≠some (h.n+1)/\(∀e∈A,e∈T)/\(A.map (·.1)).Nodup) (λA=>(nZ (ie T) (A.map (·.1))).length) []
  ⟨rfl,by simp only[df];omega,by simp[I.push],Acc.nil ((J.push _ _ _).trans' (J.push _ _ _)),(show aU V.ag≠some (h.n+1)by simp[aU]),by simp,by simp⟩ ?_
 rintro A f N ⟨S,dd,qg,u,W,nP,u4⟩
 have gx:N.get i=.map (ie T) z:=(u.ai.get i aD (by simp[none_])).trans w.gt
 refine wpS ?_;simp only[ae,S];refine KC qg gx w.nV (λjz=>?_) λe O=>?_
 ·have aW:=aaZ e2 u4 nP (aa0 jz);have lh:=aW.length_eq;simp only[ae,ds];refine cA (awl N (f 3) _ u.own (by rw[axT];omega)) λr aC ⟨ay,k3,B,pl,bg,ec⟩=>?_
  subst ay;simp only[ae,ds,aP,Tryz.results29,ac];exact ar ⟨B,pl.trans (aW.map _),bg,ec,u.ai.trans k3 λq ab e=>by have:=u.new q e;omega,u.new⟩
 ·obtain⟨x,ah,rfl,wD⟩:=aa1 O;have D:=PL O;obtain⟨n3,vK,HT⟩:=aa2 u4 nP ah wD;obtain⟨j,mL,dU,Fk⟩:=w.kY x.2.1 x.2.2 (qQ w.lq ah);obtain⟨xs,C,Q⟩:=x;simp only at D O wD mL dU Fk;have X:bY s C=j:=by unfold bY;rw[mL];rfl
  generalize hH:N.set (h.n+1) (.iter i z (A.map (·.1)++[xs]) z)=H;have R:Acc h H 57 6 (f 3) ((A.map λe=>nv e.2.1 (bY s e.2.1)).flatMap cF):=by rw[<-hH];exact u.set (by omega) W _
  have ib:H.n=N.n:=by rw[<-hH];rfl
  have ji:H.get (h.n+1)=.iter i z (A.map (·.1)++[xs]) z:=by rw[<-hH];exact aL
  have BV:H.get i=.map (ie T) z:=(R.ai.get i aD (by simp[none_])).trans w.gt
  have u7:=KD ji BV w.nV (ajA.1 O).1;simp only at u7;have Hf:H.get Q=.cells (vV C j) 125 none:=(R.ai.get Q Fk (by simp[none_])).trans dU
  obtain⟨E,bP,k2,yW,aw⟩:=b0 H (.cells (cF (nv C j)) 57 none);have G:=R.on k2;have Y:h3 mc 32 1 [(0,.agg [.int .i64 C,.int .i64 j.ep,.int .i64 j.tx,.af j.offs.length (ao j.offs),.af j.ord.length (ao j.ord),.int .i64 (j.opn.length:Nat)])] E=some (.bg E.n 0 1 1,E.push (.cells (cF (nv C j)) 57 none)):=awn E (nv C j);have gu:H.push (.cells [.int .i64 C,.int .i64 j.ep,.int .i64 j.tx,.af j.offs.length (ao j.offs),.af j.ord.length (ao j.ord),.int .i64 (j.opn.length:Nat)] 57 none)=E:=by rw[bP];rfl
  obtain⟨cv,bn,dy,qX,Z,d4⟩:=I9 (P:=mc) abX (by decide) G.own (xs:=cF (nv C j)) rfl rfl (λm M=>by
   change m*6=_+6 at M;rw[fJ JT,axT]at M;exact⟨by simp only[lim];omega,by simp only[lim];omega⟩)
  have a4:=G.step qX Z d4;have ax:=Z.n;have g1:E.get (h.n+1)=.iter i z (A.map (·.1)++[xs]) z:=(k2.get (h.n+1) (by omega) (by simp[none_])).trans ji
  have az:=R.ai.n;have aa:E.get H.n=.cells [.int .i64 C,.int .i64 j.ep,.int .i64 j.tx,.af j.offs.length (ao j.offs),.af j.ord.length (ao j.ord),.int .i64 (j.opn.length:Nat)] 57 none:=yW;have aq:∀o,(H.push o).get Q=.cells (vV C j) 125 none:=λo=>(iP (by omega)).trans Hf
  simp only[ae,ds,AS,By,A7,Jd,abC,LJ,VI,Jo,Eo,qU,Gn,S,u7,Hf,aq,aa,vV,gu,Y,dy];refine ar ⟨A++[(xs,C,Q)],⟨S,by omega,?_,a4.conv ?_,?_,vK,n3⟩,?_⟩
  ·rw[Z.get (h.n+1) (by omega) (λU=>W U),g1];simp
  ·rw[azp,azo,axU,azu,X];simp
  ·intro U;rcases d4 with d|d
   ·exact W (d▸U)
   ·have:=d _ U;omega
  ·rw[azp];exact D
theorem Hg{l i:List V}{h j:I}(a:aA l h i j):aF (.agg l) h (.agg i) j:=fun ρ B m w E q s=>by
 cases s with
 | agg u z=>
  rename_i xs;obtain⟨ρ1,A,C,D⟩:=a ρ B m w xs.toList q ⟨by simpa using u,by simpa using z⟩
  exact⟨ρ1,A,C,D.j0.agg⟩
theorem ahP{α:Type}{key:α->Int}{l:List α}(j:(l.map key).Nodup)(m:l.Pairwise λa b=>¬key b<key a):l.Pairwise λa b=>key a<key b:=by
 have i:l.Pairwise λa b=>key a≠key b:=List.pairwise_map.1 j;exact(i.and m).imp λ⟨i,q⟩=>by omega
theorem x0.JU{z h:I}{lm ck A B:Nat}{l:List bC}{L T:kW}(w:x0 z h lm ck (hM l) L A T B){out:List (Int×List ei)}(j:out.Perm (L.map λe=>(e.2.1,(hM l).logs e.2.1)))(C:out.Pairwise λa b=>¬b.1<a.1):out=x1 l:=by
 have D:(out.map (·.1)).Nodup:=by
  refine(j.map (·.1)).nodup_iff.2 ?_;rw[azM];exact w.lp
 refine YK (key:=(·.1)) (λp=>?_) (ahP (key:=λp:Int×List ei=>p.1) D C) (He l).ahx;rw[j.mem_iff,(He l).lm,OF]
 constructor
 ·rintro⟨e,i,rfl⟩
  exact⟨rfl,(w.has _ _ (qQ w.lp i)).2.1⟩
 ·rintro⟨s,E⟩
  cases u:bQ L p.1 with
  | none=>exact absurd (w.kX _ u) (s▸E)
  | some b=>
   obtain⟨e,i,bc⟩:=Lm u;refine⟨e,i,?_⟩;rw[bc,<-s]
theorem x0.vW{A h:I}{lm ck B C:Nat}{l:List bC}{L T:kW}(w:x0 A h lm ck (hM l) L B T C){out:List og}(u:out.Perm (T.map λe=>nv e.2.1 (bY (hM l) e.2.1)))(D:out.Pairwise λa b=>¬b.t<a.t):out=xg l:=by
 have E:(out.map (·.t)).Nodup:=by
  refine(u.map (·.t)).nodup_iff.2 ?_;rw[azM];exact w.lq
 refine YK (key:=(·.t)) (λp=>?_) (ahP (key:=λp:og=>p.t) E D) (He l).ahy;rw[u.mem_iff,(He l).ck,OF]
 constructor
 ·rintro⟨e,s,rfl⟩
  obtain⟨j,i,_⟩:=w.kY _ _ (qQ w.lq s);exact⟨j,i,by unfold bY;rw[show(nv e.2.1 ((hM l).tasks e.2.1 |>.getD ve)).t=e.2.1 from rfl,i];rfl⟩
 ·rintro⟨j,i,F⟩
  cases z:bQ T p.t with
  | none=>rw[w.kZ _ z]at i;cases i
  | some b=>
   obtain⟨e,s,bc⟩:=Lm z;refine⟨e,s,?_⟩;rw[bc];unfold bY;rw[i];exact F.symm
theorem x0.len{z h:I}{lm ck A B:Nat}{l:List bC}{L T:kW}(w:x0 z h lm ck (hM l) L A T B):L.length<=l.length/\T.length<=l.length:=by
 have aX:=RE _ l rfl;have i:(L.map (·.2.1)).length<=(l.map (·.log)).length:=aA5.length_le_of_subset w.lp λk s=>by
  obtain⟨e,u,rfl⟩:=OF.1 s;exact aX.oK _ (w.has _ _ (qQ w.lp u)).2.1
 have C:(T.map (·.2.1)).length<=(l.map (·.task)).length:=aA5.length_le_of_subset w.lq λk s=>by
  obtain⟨e,u,rfl⟩:=OF.1 s;obtain⟨j,i,_⟩:=w.kY _ _ (qQ w.lq u);exact(aX.hg _ _ i).1
 simpa using And.intro i C
theorem ahQ:∀rs:List ei,(e9 rs).all (·.one)=true
 | []=>rfl
 | p::rs=>by
  show(kV p.1++e9 rs).all (·.one)=true;rw[List.all_append,ahQ rs];rfl
theorem ahR:∀rs:List ei,(gm rs).all (·.one)=true
 | []=>rfl
 | p::rs=>by
  show((V.bool p.2).one&&(gm rs).all (·.one))=true;rw[ahR rs];rfl
theorem ahS(h:I):h3 mc 25 0 [] h=some (.bg h.n 0 0 0,h.push (.cells [] 45 none)):=by rw[mD El];rfl
theorem ahT(h:I):Acc h (h.push (.cells [] 45 none)) 45 3 (.bg h.n 0 0 0) (e9 []) :=
 ⟨.inr ⟨h.n,0,0,[],none,rfl,az1 _,fv,rfl,rfl,.inl ⟨by simp[b7],BY _,BY _⟩⟩,J.push _ _ _,λk a=>by simp[aU]at a;omega⟩
theorem awq(l:List ei)(C:l.length<=2^40)(h:I):Pure mc 78 [.af l.length (e9 l)] h (.af l.length (e9 l)):=by
 refine Pure.of (a8.af (aht _)) ?_;cases l with
 | nil=>
  refine au.vw ?_ ?_
  ·refine bd aED rfl ?_;have e:=Ln (xo:=.tmp 3) (yo:=.const (.slice none 0 0)) rL;simp only[ae,ds,reduceCtorEq,e,aP,aEE,ac];exact ar ⟨h,aF.k7 h,J.refl _ _⟩
  ·refine bd aED rfl ?_;have e:∀a i,cV mc .eql 25 a i .fk .ag=some (.bool false):=λa i=>Vf rL;obtain⟨D,E,ay,s⟩:=Acc.sk (P:=mc) (tx:=25) El (ahT h) (by decide) (Vh rL) rfl (λm j=>by
    change m*3=_ at j;obtain rfl:m=0:=by simp[e9]at j;omega
    exact⟨by decide,by decide⟩)
   have u:=ahS h;simp only[ae,ds,reduceCtorEq,e,u,ay,aP,aEE,ac];obtain⟨z,A,B⟩:=s.cast (n:=0) rfl (by decide)
   exact ar ⟨z,A,B⟩
 | cons x l=>
  refine bd aED rfl ?_;have e:∀a i,cV mc .eql 25 a i (.af (x::l).length (e9 (x::l))) .ag=some (.bool false):=λa i=>Vg rL (by simp)
  obtain⟨D,E,ay,s⟩:=Acc.sk (P:=mc) (tx:=25) El (ahT h) (by decide) (I3 rL (G8 _) (ahQ (x::l))) (G8 _) (λm j=>by
   change m*3=(e9 []).length+(e9 (x::l)).length at j;rw[G8,G8,ayK]at j;exact⟨by simp only[lim];omega,by simp only[lim];omega⟩)
  have u:=ahS h;generalize(x::l)=q at e ay s C⊢;simp only[ae,ds,reduceCtorEq,e,u,ay,aP,aEE,ac];obtain⟨z,A,B⟩:=s.cast (n:=q.length) (by rw[show e9 []=[]from rfl,azy,G8]) (by decide)
  exact ar ⟨z,A,B⟩
theorem ahU(h:I):h3 mc 88 0 [] h=some (.bg h.n 0 0 0,h.push (.cells [] 4 none)):=by rw[mD Jp];rfl
theorem ahV(h:I):Acc h (h.push (.cells [] 4 none)) 4 1 (.bg h.n 0 0 0) (gm []) :=
 ⟨.inr ⟨h.n,0,0,[],none,rfl,az1 _,fv,rfl,rfl,.inl ⟨by simp[b7],BY _,BY _⟩⟩,J.push _ _ _,λk a=>by simp[aU]at a;omega⟩
theorem awr(l:List ei)(C:l.length<=2^40)(h:I):Pure mc 79 [.af l.length (gm l)] h (.af l.length (gm l)):=by
 refine Pure.of (a8.af (YG _)) ?_;cases l with
 | nil=>
  refine au.vw ?_ ?_
  ·refine bd aEF rfl ?_;have e:=Ln (xo:=.tmp 3) (yo:=.const (.slice none 0 0)) CF;simp only[ae,ds,reduceCtorEq,e,aP,aEG,ac];exact ar ⟨h,aF.k7 h,J.refl _ _⟩
  ·refine bd aEF rfl ?_;have e:∀a i,cV mc .eql 88 a i .fk .ag=some (.bool false):=λa i=>Vf CF;obtain⟨D,E,ay,s⟩:=Acc.sk (P:=mc) (tx:=88) Jp (ahV h) (by decide) (Vh CF) rfl (λm j=>by
    change m*1=_ at j;obtain rfl:m=0:=by simp[gm]at j;omega
    exact⟨by decide,by decide⟩)
   have u:=ahU h;simp only[ae,ds,reduceCtorEq,e,u,ay,aP,aEG,ac];obtain⟨z,A,B⟩:=s.cast (n:=0) rfl (by decide)
   exact ar ⟨z,A,B⟩
 | cons x l=>
  refine bd aEF rfl ?_;have e:∀a i,cV mc .eql 88 a i (.af (x::l).length (gm (x::l))) .ag=some (.bool false):=λa i=>Vg CF (by simp)
  obtain⟨D,E,ay,s⟩:=Acc.sk (P:=mc) (tx:=88) Jp (ahV h) (by decide) (I3 CF (JS _) (ahR (x::l))) (JS _) (λm j=>by
   change m*1=(gm []).length+(gm (x::l)).length at j;rw[JS,JS,ayK]at j;exact⟨by simp only[lim];omega,by simp only[lim];omega⟩)
  have u:=ahU h;generalize(x::l)=q at e ay s C⊢;simp only[ae,ds,reduceCtorEq,e,u,ay,aP,aEG,ac];obtain⟨z,A,B⟩:=s.cast (n:=q.length) (by rw[show gm []=[]from rfl,azy,JS]) (by decide)
  exact ar ⟨z,A,B⟩
theorem ahW{l:List (Int×List ei)}{k:Nat}(a:k<l.length){kk:aOT}:gP mc 31 (.af l.length (l.flatMap cj)) (.int kk (k:Int))=some (.at (cj l[k]++(l.drop (k+1)).flatMap cj)):=tR (enc:=cj) (sz:=3) JR a aqp
theorem aws(x:Int×List ei)(r:List V):cJ (some (some 3)) (some (cj x++r))=some (.agg (cj x)):=be (JR x)
theorem ahX{l:List og}{k:Nat}(a:k<l.length){kk:aOT}:gP mc 32 (.af l.length (l.flatMap cF)) (.int kk (k:Int))=some (.at (cF l[k]++(l.drop (k+1)).flatMap cF)):=tR (enc:=cF) (sz:=6) JT a aqq
theorem ahY(x:og)(r:List V):cJ (some (some 6)) (some (cF x++r))=some (.agg (cF x)):=be (JT x)
theorem awt(c:Int×List ei)(n:Int)(h:I)(i:Nat)(a:i<h.n)(j:h.get i=.cells [.int .i64 n] 3 none):Pure mc 77 [.agg (cj c),.ptr i 0] h (.bool (c.1==n)):=by
 refine Pure.val (a8.bool _) ?_;refine bd Tryz.func77 rfl ?_;have cc:(V.agg (cj c)).cells=some (cj c):=rfl;have m:(h.push (.cells (cj c) 90 none)).get i=.cells [.int .i64 n] 3 none:=(iP a).trans j;have q:cO (aR.cells (cj c) 90 none) 0=some (cj c):=rfl;have s:cJ (some none) (some (cj c))=some (.int .i64 c.1):=rfl;simp only[ae,ds,abD,aY,cc,m,q,s,aP,Tryz.results77,ac];exact ar ⟨rfl,J.push _ _ _⟩
theorem awu(c:og)(n:Int)(h:I)(i:Nat)(a:i<h.n)(j:h.get i=.cells [.int .i64 n] 3 none):Pure mc 48 [.agg (cF c),.ptr i 0] h (.bool (c.t==n)):=by
 refine Pure.val (a8.bool _) ?_;refine bd Tryz.func48 rfl ?_;have cc:(V.agg (cF c)).cells=some (cF c):=rfl;have m:(h.push (.cells (cF c) 57 none)).get i=.cells [.int .i64 n] 3 none:=(iP a).trans j;have q:cO (aR.cells (cF c) 57 none) 0=some (cF c):=rfl;have s:cJ (some none) (some (cF c))=some (.int .i64 c.t):=rfl;simp only[ae,ds,abB,aY,cc,m,q,s,aP,Tryz.results48,ac];exact ar ⟨rfl,J.push _ _ _⟩
def re{α:Type}(p:α->Bool)(l:List α):Int:=if l.findIdx p<l.length then(l.findIdx p:Int)else -1
theorem ahZ{α:Type}{p:α->Bool}{l:List α}{j:Nat}(a:j<l.length)(m:p l[j]=true)(q:∀k (i:k<j),p (l[k]'(by omega))=false):re p l=(j:Int):=by
 have e:l.findIdx p=j:=(List.findIdx_eq a).2 ⟨m,λk i=>q k i⟩;unfold re;rw[e,if_pos a]
theorem ah0{α:Type}{p:α->Bool}{l:List α}(a:∀x∈l,p x=false):re p l=-1:=by
 unfold re;rw[if_neg];rw[aGB]
 rintro⟨x,i,h⟩
 rw[a x i]at h;cases h
theorem YN(l:List (Int×List ei))(O:l.length<=2^30)(n:Int)(h:I)(i:Nat)(hi:i<h.n)(E:h.get i=.cells [.int .i64 n] 3 none) :
  Pure mc 76 [.af l.length (l.flatMap cj),.func (.func 77) [] [.ptr i 0]] h (.int .i64 (re (λc=>c.1==n) l)):=by
 refine Pure.val (a8.int _ _) ?_;refine bd Tryz.func76 rfl ?_;simp only[ae,IN,ds,reduceCtorEq,Qo];refine aS.bI (α:=Nat) (λj f h'=>f 0=.af l.length (l.flatMap cj)/\f 1=.func (.func 77) [] [.ptr i 0]/\f 7=.int .i64 (l.length:Int)/\f 8=.int .i64 (j:Nat)/\j<=l.length/\h'=h/\(∀k (m:k<l.length),k<j->(l[k].1==n)=false)) (λj=>l.length-j) 0 ⟨rfl,rfl,rfl,rfl,Dy _,rfl,λk _ m=>by omega⟩ ?_
 rintro j f F ⟨A,B,q,s,Q,rfl,u⟩
 refine wpS ?_;by_cases C:j<l.length
 ·have z:=dV (a:=j) (b:=l.length) (by omega)
  have G:=ahW (kk:=.i64) C;have H:=aws;have L:=hR (i:=j) (by omega)
  simp only[ae,ds,reduceCtorEq,LQ,A,B,q,s,z,G,H];refine bO (awt l[j] n F i hi E) ?_;cases D:(l[j].1==n)
  ·simp only[ae,IN,ds,s,L];exact ar ⟨j+1,⟨A,B,q,rfl,by omega,rfl,λk m M=>by
    by_cases e:k=j
    ·subst e;exact D
    ·exact u k m (by omega)⟩,by omega⟩
  ·simp only[ae,IN,ds,aP,aGC,ac];exact ar ⟨by rw[ahZ C D (λk m=>u k (by omega) m)],J.refl _ _⟩
 ·have z:=eC (a:=j) (b:=l.length) (by omega)
  simp only[ae,IN,ds,q,s,z,aP,aGC,ac];exact ar ⟨by rw[ah0 λx N=>by obtain⟨k,m,rfl⟩:=aEw N;exact u k m (by omega)],J.refl _ _⟩
theorem YO(l:List og)(O:l.length<=2^30)(n:Int)(h:I)(i:Nat)(hi:i<h.n)(E:h.get i=.cells [.int .i64 n] 3 none) :
  Pure mc 47 [.af l.length (l.flatMap cF),.func (.func 48) [] [.ptr i 0]] h (.int .i64 (re (λc=>c.t==n) l)):=by
 refine Pure.val (a8.int _ _) ?_;refine bd Tryz.func47 rfl ?_;simp only[ae,IN,ds,reduceCtorEq,Qp];refine aS.bI (α:=Nat) (λj f h'=>f 0=.af l.length (l.flatMap cF)/\f 1=.func (.func 48) [] [.ptr i 0]/\f 7=.int .i64 (l.length:Int)/\f 8=.int .i64 (j:Nat)/\j<=l.length/\h'=h/\(∀k (m:k<l.length),k<j->(l[k].t==n)=false)) (λj=>l.length-j) 0 ⟨rfl,rfl,rfl,rfl,Dy _,rfl,λk _ m=>by omega⟩ ?_
 rintro j f F ⟨A,B,q,s,Q,rfl,u⟩
 refine wpS ?_;by_cases C:j<l.length
 ·have z:=dV (a:=j) (b:=l.length) (by omega)
  have G:=ahX (kk:=.i64) C;have H:=ahY;have L:=hR (i:=j) (by omega)
  simp only[ae,ds,reduceCtorEq,Jo,A,B,q,s,z,G,H];refine bO (awu l[j] n F i hi E) ?_;cases D:(l[j].t==n)
  ·simp only[ae,IN,ds,s,L];exact ar ⟨j+1,⟨A,B,q,rfl,by omega,rfl,λk m M=>by
    by_cases e:k=j
    ·subst e;exact D
    ·exact u k m (by omega)⟩,by omega⟩
  ·simp only[ae,IN,ds,aP,aGD,ac];exact ar ⟨by rw[ahZ C D (λk m=>u k (by omega) m)],J.refl _ _⟩
 ·have z:=eC (a:=j) (b:=l.length) (by omega)
  simp only[ae,IN,ds,q,s,z,aP,aGD,ac];exact ar ⟨by rw[ah0 λx N=>by obtain⟨k,m,rfl⟩:=aEw N;exact u k m (by omega)],J.refl _ _⟩
def logAt(l:List (Int×List ei))(n:Int):List ei:=((l.find? λc=>c.1==n).map (·.2)).getD []
def sN(l:List og)(n:Int):og:=(l.find? λc=>c.t==n).getD ⟨n,0,0,[],[],0⟩
theorem ah2{α:Type}{p:α->Bool}{l:List α}:(re p l=-1/\l.find? p=none)\/∃k,∃m:k<l.length,re p l=(k:Int)/\l.find? p=some l[k]:=by
 by_cases h:l.findIdx p<l.length
 ·refine .inr ⟨_,h,by unfold re;rw[if_pos h],?_⟩
  rw[List.find?_eq_some_iff_getElem];exact⟨List.findIdx_getElem,_,h,rfl,λj a=>by have:=List.not_of_lt_findIdx a;simpa using this⟩
 ·refine .inl ⟨by unfold re;rw[if_neg h],?_⟩
  rw[aGB]at h;rw[List.find?_eq_none];exact λx i U=>h ⟨x,i,U⟩
def sO(t:uG):Prop:=t.logs.length<=2^30/\t.tasks.length<=2^30/\(∀p∈t.logs,p.2.length<=2^30)/\∀x∈t.tasks,x.offs.length<=2^30/\x.ord.length<=2^40
theorem ah3(t:uG)(s:sO t)(n:Int)(h:I):Pure mc 36 [.agg (cN t),.int .i64 n] h (.agg (cj (n,logAt t.logs n))):=by
 refine Pure.of (a8.agg (RB _)) ?_;refine bd Tryz.func36 rfl ?_;have X:(V.agg (cN t)).cells=some (cN t):=rfl;obtain⟨H,hH⟩:∃y,y=(((h.push (.cells (cN t) 34 none)).push (.cells [.int .i64 n] 3 none)).push (.cells [.int .i64 0,.ag,.ag] 90 none)).push (.cells [.int .i64 n,.ag,.ag] 90 none):=⟨_,rfl⟩;have L:J h H none_:=by rw[hH];exact(((J.push _ _ _).trans' (J.push _ _ _)).trans' (J.push _ _ _)).trans' (J.push _ _ _)
 have ib:H.n=h.n+4:=by rw[hH];simp only[df]
 have M:H.get h.n=.cells (cN t) 34 none:=by rw[hH,iP (by simp only[df];omega),iP (by simp only[df];omega),iP (by simp only[df];omega)];exact fv
 have Y:H.get (h.n+1)=.cells [.int .i64 n] 3 none:=by rw[hH];simp[I.push]
 have N:H.get (h.n+2)=.cells [.int .i64 0,.ag,.ag] 90 none:=by rw[hH];simp[I.push]
 have O:H.get (h.n+3)=.cells [.int .i64 n,.ag,.ag] 90 none:=by rw[hH];simp[I.push]
 have Z:bA (some 3) (aR.cells [V.int .i64 0,.ag,.ag] 90 none) 0 [.int .i64 n,.ag,.ag]=some (.cells [.int .i64 n,.ag,.ag] 90 none):=rfl;have Q:cO (aR.cells (cN t) 34 none) 0=some (cN t):=rfl;have u:cJ (some none) (some (cN t))=some (.af t.logs.length (t.logs.flatMap cj)):=rfl;simp only[ae,ds,AS,By,VA,aY,VK,abT,LX,Jr,X,Z];rw[<-hH];clear hH;simp only[ae,ds,u];refine bO (YN t.logs s.1 n H (h.n+1) (by omega) Y) ?_
 rcases ah2 (p:=λc:Int×List ei=>c.1==n) (l:=t.logs)with⟨ay,bc⟩|⟨k,R,ay,bc⟩
 ·have z:logAt t.logs n=[]:=by unfold logAt;rw[bc];rfl
  have S:decide (-1 >= (0:Int))=false:=rfl;rw[z];have A:bA (some 3) (aR.cells [V.int .i64 0,.ag,.ag] 90 none) 0 [.int .i64 n,.ag,.ag]=some (.cells [.int .i64 n,.ag,.ag] 90 none):=rfl;simp only[ae,Int.reduceLE,IN,ds,AS,LQ,Jr,ay,O,N,A,aP,aGE,tb,fq];refine ar ⟨_,Hg (aA.cons (aF.refl _ _) (aA.cons (aF.il _) (aA.cons (aF.il _) (aA.refl _ _)))),L.trans (J.set _ _ _) λq B U=>by omega⟩
 ·have z:logAt t.logs n=t.logs[k].2:=by unfold logAt;rw[bc];rfl
  have e3:=s.2.2.1 _ (ayM R);have hll:=s.1;have C:=ahW (kk:=.i64) R;rw[z];generalize t.logs[k]=c at *;obtain⟨T,a⟩:=c;have Hy:a.length<=2^30:=e3;have ex:cj (T,a)=[.int .i64 T,.af a.length (e9 a),.af a.length (gm a)]:=rfl;rw[ex]at C;have S:decide ((k:Int) >= 0)=true:=decide_eq_true (by omega)
  have Oz:bA (some 1) (aR.cells [V.int .i64 n,.ag,.ag] 90 none) 1 [.af a.length (e9 a)]=some (.cells [.int .i64 n,.af a.length (e9 a),.ag] 90 none):=rfl;have EZ:bA (some 1) (aR.cells [V.int .i64 n,.af a.length (e9 a),.ag] 90 none) 2 [.af a.length (gm a)]=some (.cells [.int .i64 n,.af a.length (e9 a),.af a.length (gm a)] 90 none):=rfl;simp only[ae,ds,By,VA,Jk,LL,VK,ay,S,M,Q,u,C];refine bO (awq a (by omega) _) ?_
  obtain⟨i,j⟩:∃y,y=H.set (h.n+3) (.cells [.int .i64 n,.af a.length (e9 a),.ag] 90 none):=⟨_,rfl⟩;have m:J H i (·=h.n+3):=by rw[j];exact J.set _ _ _
  have MI:=(m.get h.n (by omega) (by omega)).trans M
  have D:=(m.get (h.n+2) (by omega) (by omega)).trans N
  have E:i.get (h.n+3)=.cells [.int .i64 n,.af a.length (e9 a),.ag] 90 none:=by rw[j];exact aL
  simp only[ae,ds,VA,Jk,VK,VZ,O,Oz];rw[<-j];clear j;simp only[ae,ds,By,Jl,LP,MI,Q,u,C];refine bO (awr a (by omega) _) ?_
  have W:∀o,J i (i.set (h.n+3) o) (·=h.n+3):=λo=>J.set _ _ _;have F:∀o,(i.set (h.n+3) o).get (h.n+2)=.cells [.int .i64 0,.ag,.ag] 90 none:=λo=>((W o).get (h.n+2) (by have:=m.n;omega) (by omega)).trans D
  have G:bA (some 3) (aR.cells [V.int .i64 0,.ag,.ag] 90 none) 0 [.int .i64 n,.af a.length (e9 a),.af a.length (gm a)]=some (.cells [.int .i64 n,.af a.length (e9 a),.af a.length (gm a)] 90 none):=rfl;simp only[ae,ds,AS,Jl,LQ,V6,Jr,E,EZ,F,G,aP,aGE,tb,fq];refine ar ⟨_,aF.refl _ _,((L.trans m λq B U=>by omega).trans (W _) λq B U=>by omega).trans (J.set _ _ _) λq B U=>by omega⟩
theorem ah6(t:uG)(m:sO t)(n:Int)(h:I):Pure mc 21 [.agg (cN t),.int .i64 n] h (.agg (cF (sN t.tasks n))):=by
 refine Pure.of (a8.agg (YH _)) ?_;refine bd Tryz.func21 rfl ?_;have YP:(V.agg (cN t)).cells=some (cN t):=rfl;obtain⟨H,hH⟩:∃y,y=((h.push (.cells (cN t) 34 none)).push (.cells [.int .i64 n] 3 none)).push (.cells [.int .i64 0,.int .i64 0,.int .i64 0,.ag,.ag,.int .i64 0] 57 none):=⟨_,rfl⟩;have O:J h H none_:=by rw[hH];exact((J.push _ _ _).trans' (J.push _ _ _)).trans' (J.push _ _ _)
 have ib:H.n=h.n+3:=by rw[hH];simp only[df]
 have g0:H.get h.n=.cells (cN t) 34 none:=by rw[hH,iP (by simp only[df];omega),iP (by simp only[df];omega)];exact fv
 have Q:H.get (h.n+1)=.cells [.int .i64 n] 3 none:=by rw[hH];simp[I.push]
 have R:H.get (h.n+2)=.cells [.int .i64 0,.int .i64 0,.int .i64 0,.ag,.ag,.int .i64 0] 57 none:=by rw[hH];simp[I.push]
 have S:cO (aR.cells (cN t) 34 none) 1=some ((cN t).drop 1):=rfl;have T:cJ (some none) (some ((cN t).drop 1))=some (.af t.tasks.length (t.tasks.flatMap cF)):=rfl;simp only[ae,ds,abz,abO,Eo,YP,S,T];rw[<-hH];clear hH;refine bO (YO t.tasks m.2.1 n H (h.n+1) (by omega) Q) ?_
 rcases ah2 (p:=λc:og=>c.t==n) (l:=t.tasks)with⟨ay,bc⟩|⟨k,W,ay,bc⟩
 ·have s:sN t.tasks n=⟨n,0,0,[],[],0⟩:=by unfold sN;rw[bc];rfl
  have X:decide (-1<(0:Int))=true:=rfl;rw[s];have u:bA (some 6) (aR.cells [V.int .i64 0,.int .i64 0,.int .i64 0,.ag,.ag,.int .i64 0] 57 none) 0 [.int .i64 n,.int .i64 0,.int .i64 0,.ag,.ag,.int .i64 0]=some (.cells [.int .i64 n,.int .i64 0,.int .i64 0,.ag,.ag,.int .i64 0] 57 none):=rfl;simp only[ae,Int.reduceLT,IN,ds,AS,By,aY,Jo,abS,Eo,Gn,ay,Q,R,u,aP,aGF,tb,fq];refine ar ⟨_,Hg (aA.cons (aF.refl _ _) (aA.cons (aF.refl _ _) (aA.cons (aF.refl _ _) (aA.cons (aF.il _) (aA.cons (aF.il _) (aA.refl _ _)))))),O.trans (J.set _ _ _) λq z U=>by omega⟩
 ·have s:sN t.tasks n=t.tasks[k]:=by unfold sN;rw[bc];rfl
  have Y:=m.2.2.2 _ (ayM W);have hll:=m.2.1;have bV:=ahX (kk:=.i64) W;rw[s];generalize t.tasks[k]=c at *;have X:decide ((k:Int)<0)=false:=decide_eq_false (by omega)
  have ld:=ahY;have x5:=Y.1;have o1:=Y.2;have cc:(V.agg (cF c)).cells=some (cF c):=rfl;have st:bA (some 6) (aR.cells [V.int .i64 0,.int .i64 0,.int .i64 0,.ag,.ag,.int .i64 0] 57 none) 0 (cF c)=some (.cells (cF c) 57 none):=rfl;have d3:cO (aR.cells (cF c) 57 none) 3=some ((cF c).drop 3):=rfl;have wk:cJ (some none) (some ((cF c).drop 3))=some (.af c.offs.length (ao c.offs)):=rfl;simp only[ae,ds,abz,LH,abO,hL,Jo,Eo,Gn,ay,X,g0,S,T,bV,ld,cc,st,d3,wk];obtain⟨Z,bP,k2,A,dd⟩:=b0 H (.cells (cF c) 57 none);have B:=(k2.get (h.n+2) (by omega) (by simp[none_])).trans R
  have d4:cO (aR.cells (cF c) 57 none) 4=some ((cF c).drop 4):=rfl;have C:cJ (some none) (some ((cF c).drop 4))=some (.af c.ord.length (ao c.ord)):=rfl;have l2:bA (some 1) (aR.cells (cF c) 57 none) 3 [.af c.offs.length (ao c.offs)]=some (.cells (cF c) 57 none):=rfl;have qW:bA (some 1) (aR.cells (cF c) 57 none) 4 [.af c.ord.length (ao c.ord)]=some (.cells (cF c) 57 none):=rfl;have D:bA (some 6) (aR.cells [V.int .i64 0,.int .i64 0,.int .i64 0,.ag,.ag,.int .i64 0] 57 none) 0 (cF c)=some (.cells (cF c) 57 none):=rfl;have hg:(cF c).take 6=cF c:=rfl;have II:=JT c;have E:cO (aR.cells (cF c) 57 none) 0=some (cF c):=rfl;rw[<-bP];clear bP;refine bO (YB c.offs (by omega) _) ?_
  have c6:∀(U:I) o,J U (U.set H.n o) (·=H.n):=λU o=>J.set _ _ _;obtain⟨a,i⟩:∃y,y=Z.set H.n (.cells (cF c) 57 none):=⟨_,rfl⟩;have F:J Z a (·=H.n):=by rw[i];exact J.set _ _ _
  have n3:=F.n;have G:a.get H.n=.cells (cF c) 57 none:=by rw[i];exact aL
  have L:=(F.get (h.n+2) (by omega) (by omega)).trans B
  simp only[ae,ds,LH,Ql,hL,Gm,A,l2,d4,C];rw[<-i];clear i;refine bO (YB c.ord (by omega) _) ?_
  obtain⟨mF,j⟩:∃y,y=a.set H.n (.cells (cF c) 57 none):=⟨_,rfl⟩;have M:J a mF (·=H.n):=by rw[j];exact J.set _ _ _
  have n4:=M.n;have aa:mF.get H.n=.cells (cF c) 57 none:=by rw[j];exact aL
  have N:=(M.get (h.n+2) (by omega) (by omega)).trans L
  simp only[ae,ds,Ql,Jo,Gm,G,qW];rw[<-j];clear j;simp only[ae,ds,Jo,Gn,N,E,hg,II,cc,D,aP,aGF,tb,fq];refine ar ⟨_,aF.refl _ _,?_⟩;exact(((O.trans' k2).trans F λq z U=>by omega).trans M λq z U=>by omega).trans (J.set _ _ _) λq z U=>by omega
open Go Go.Proofs Go.Proofs.YtemdgidnhgcafaaGreatDoor.Ab
def RG(l:List bz)(a b:Nat):Prop:=∃x,l[b]?=some x/\(a:Int)∈x.bj/\gD l (a:Int)≠5
inductive uI(l:List bz):Nat->Nat->Prop
 | refl (a:Nat):uI l a a
 | step {a b c:Nat}:uI l a b->(RG l b c\/RG l c b)->uI l a c
theorem uI.trans{l:List bz}{a b c:Nat}(h:uI l a b)(g:uI l b c):uI l a c:=by
 induction g with
 | refl=>exact h
 | step _ e ih=>exact .step ih e
theorem uI.symm{l:List bz}{a b:Nat}(h:uI l a b):uI l b a:=by
 induction h with
 | refl=>exact .refl _
 | step _ e ih=>exact(uI.step (.refl _) e.symm).trans ih
def OE(l:List bz):Prop:=∀(v:Nat) (x:bz),l[v]?=some x->∀f∈x.bj,0<=f/\f<(v:Int)
theorem ah9{l:List bz}{L:List Nat}{v:Nat}:∀{r:List Int},pc l L v r=none->∀f∈r,gD l f≠5->L.getD v 0=L.getD f.toNat 0
 | [],_,f,a,_=>by simp at a
 | g::r,h,f,a,i=>by
  unfold pc at h;split at h
  ·cases h
  ·rename_i av;rcases List.mem_cons.1 a with rfl|a
   ·exact Classical.byContradiction λe=>av ⟨i,e⟩
   ·exact ah9 h f a i
theorem aia{l:List bz}{L:List Nat}:∀{r:List bz} {v:Nat},pd l L v r=none->∀(k:Nat) (x:bz),r[k]?=some x->pc l L (v+k) x.bj=none
 | [],_,_,k,x,a=>by simp at a
 | y::r,v,h,k,x,a=>by
  unfold pd at h;split at h
  ·cases h
  ·rename_i q;cases k with
   | zero=>simp at a;subst a;exact q
   | succ k=>rw[show v+(k+1)=v+1+k by omega];exact aia h k x (by simpa using a)
theorem aib{l:List bz}{L:List Nat}{v:Nat}:∀{r:List Int} {a:List Nat},pc l L v r=some a->∃f∈r,gD l f≠5/\L.getD v 0≠L.getD f.toNat 0/\a=(L.set v (min (L.getD v 0) (L.getD f.toNat 0))).set f.toNat (min (L.getD v 0) (L.getD f.toNat 0))
 | [],_,h=>by cases h
 | f::r,a,h=>by
  unfold pc at h;split at h
  ·rename_i av;exact⟨f,by simp,av.1,av.2,(Option.some.inj h).symm⟩
  ·obtain⟨g,i,j,m⟩:=aib h;exact⟨g,List.mem_cons_of_mem _ i,j,m⟩
theorem aic{l:List bz}(s:OE l){L j:List Nat}(h:pd l L 0 l=some j):∃v f,f<v/\v<l.length/\RG l f v/\L.getD v 0≠L.getD f 0/\j=(L.set v (min (L.getD v 0) (L.getD f 0))).set f (min (L.getD v 0) (L.getD f 0)):=by
 obtain⟨k,x,i,u⟩:=XJ h;obtain⟨f,m,z,q,e⟩:=aib u;obtain⟨a,b⟩:=s k x i f m;rw[ayP]at q e;refine⟨k,f.toNat,by omega,(List.getElem?_eq_some_iff.1 i).1,⟨x,i,?_,?_⟩,q,e⟩
 ·rw[aEI a];exact m
 ·rw[aEI a];exact z
theorem aid{l:List bz}(i:OE l):∀(k:Nat) (L:List Nat),L.length=l.length->L.sum<k->pd l (qF l k L) 0 l=none/\(qF l k L).length=l.length
 | 0,L,_,h=>by omega
 | k+1,L,j,h=>by
  unfold qF;cases m:pd l L 0 l with
  | none=>exact⟨m,j⟩
  | some q=>
   obtain⟨v,f,a,b,_,c,e⟩:=aic i m;have:=afv (L:=L) (v:=v) (f:=f) (by omega) (by omega) (by omega) c
   rw[<-e]at this;exact aid i k q (by rw[e];simp[j]) (by omega)
theorem aie{l:List bz}(m:OE l):∀(k:Nat) (L:List Nat),L.length=l.length->(∀j,j<l.length->uI l (L.getD j 0) j)->∀j,j<l.length->uI l ((qF l k L).getD j 0) j
 | 0,L,_,h=>h
 | k+1,L,A,h=>by
  unfold qF;cases B:pd l L 0 l with
  | none=>exact h
  | some C=>
   obtain⟨v,f,a,b,q,c,e⟩:=aic m B;refine aie m k C (by rw[e];simp[A]) λj D=>?_
   have s:=h v b;have u:=h f (by omega)
   have z:uI l (min (L.getD v 0) (L.getD f 0)) v/\uI l (min (L.getD v 0) (L.getD f 0)) f:=by
    rcases Nat.le_total (L.getD v 0) (L.getD f 0)with i|i
    ·rw[Nat.min_eq_left i];exact⟨s,s.step (.inr q)⟩
    ·rw[Nat.min_eq_right i];exact⟨u.step (.inl q),u⟩
   rw[e,Re,Re];split
   ·rename_i U;rw[<-U.1];exact z.2
   ·split
    ·rename_i U;rw[<-U.1];exact z.1
    ·exact h j D
structure AJ(l:List bz)(R:List Nat):Prop where
 len:R.length=l.length
 le:∀j,R.getD j 0<=j
 nz:∀j,j<l.length->uI l (R.getD j 0) j
 OG:∀a b,RG l a b->R.getD a 0=R.getD b 0
theorem AJ.same{l:List bz}{R:List Nat}(h:AJ l R){a b:Nat}(c:uI l a b):R.getD a 0=R.getD b 0:=by
 induction c with
 | refl=>rfl
 | step _ e ih=>
          rcases e with e|e
          ·rw[ih];exact h.OG _ _ e
          ·rw[ih];exact(h.OG _ _ e).symm
theorem AJ.root{l:List bz}{R:List Nat}(h:AJ l R){a:Nat}(aT:a<l.length):R.getD (R.getD a 0) 0=R.getD a 0:=h.same (h.nz a aT)
theorem awy{l:List bz}(i:OE l)(m:l.length<=24):AJ l (pe l):=by
 have q:(ajB l.length).sum<600:=by
  have:∀n:Nat,n<=24->(ajB n).sum<600:=by decide
  exact this _ m
 obtain⟨s,u⟩:=aid i 600 (ajB l.length) (by simp) q
 refine⟨u,afz l,aie i _ _ (by simp) λj z=>?_,λa b ⟨x,A,B,C⟩=>?_⟩
 ·rw[ayO,List.getElem?_range z];exact .refl _
 ·have:=ah9 (aia s b x A) (a:Int) B C;rw[ayP,ayQ]at this;exact this.symm
def jJ(R:List Nat)(i:Nat):Nat:=(eJ R i).2
theorem YQ(R:List Nat)(i:Nat):jJ R (i+1)=if R.getD i 0=i then jJ R i+1 else jJ R i:=by
 unfold jJ;show(if R.getD i 0=i then _ else _:List Int×Nat).2=_
 split<;>rfl
theorem aif(R:List Nat){i:Nat}:∀{j:Nat},i<=j->jJ R i<=jJ R j
 | 0,h=>by rw[Nat.le_zero.1 h];exact BY _
 | j+1,h=>by
  rcases aAy j i with a|a
  ·rw[show i=j+1 by omega];exact BY _
  ·have:=aif R (i:=i) a;rw[YQ];split<;>omega
theorem awz{R:List Nat}{r j:Nat}(a:R.getD r 0=r)(h:r<j):jJ R r<jJ R j:=by
 have:=aif R (i:=r+1) (j:=j) h;rw[YQ,if_pos a]at this;omega
theorem YR{l:List bz}{R:List Nat}(a:AJ l R):∀{i:Nat},i<=l.length->∀v,v<i->(eJ R i).1.getD v 0=((jJ R (R.getD v 0):Nat):Int)
 | 0,_,v,h=>by omega
 | i+1,hi,v,h=>by
  have ih:=YR a (i:=i) (by omega)
  have m:=Au R i;unfold eJ;rcases aAy v i with j|j
  ·split
   ·rw[<-ih v j];simp only[ayO];rw[aAc (by omega)]
   ·rw[<-ih v j];simp only[ayO];rw[aAc (by omega)]
  ·have u:v=i:=by omega
   subst u;split
   ·rename_i q;rw[q];simp only[ayO];rw[aAd (by omega),m,aDu]
    rfl
   ·rename_i q;have z:R.getD v 0<v:=by have:=a.le v;omega
    have s:=ih _ z;rw[a.root (by omega)]at s
    show((eJ R v).1++[(eJ R v).1.getD (R.getD v 0) 0]).getD v 0=_;rw[s];simp only[ayO];rw[aAd (by omega),m,aDu]
    rfl
theorem aih(R:List Nat){l:List bz}(j:AJ l R):∀i,i<l.length->mx ((eJ R (i+1)).1.headD 0) (eJ R (i+1)).1.tail=((jJ R (i+1):Nat):Int)-1
 | 0,h=>by
  have z:R.getD 0 0=0:=by have:=j.le 0;omega
  have:eJ R 1=([0],1):=by unfold eJ;rw[if_pos z];rfl
  rw[show(0+1:Nat)=1 from rfl,jJ,this]
  rfl
 | i+1,h=>by
  have ih:=aih R j i (by omega)
  have q:=Au R (i+1);obtain⟨x,A,B⟩:∃x,(eJ R (i+1+1)).1=(eJ R (i+1)).1++[x]/\max (((jJ R (i+1):Nat):Int)-1) x=((jJ R (i+2):Nat):Int)-1:=by
   have D:=YR j (i:=i+1+1) (by omega) (i+1) (by omega)
   have av:=YQ R (i+1);by_cases m:R.getD (i+1) 0=i+1
   ·refine⟨((jJ R (i+1):Nat):Int),by rw[show eJ R (i+1+1)=_ from rfl];unfold eJ;rw[if_pos m];rfl,?_⟩
    rw[if_pos m]at av;rw[show i+2=i+1+1 from rfl,av]
    omega
   ·have s:R.getD (i+1) 0<i+1:=by have:=j.le (i+1);omega
    refine⟨((jJ R (R.getD (i+1) 0):Nat):Int),?_,?_⟩
    ·have C:(eJ R (i+1+1)).1=(eJ R (i+1)).1++[(eJ R (i+1)).1.getD (R.getD (i+1) 0) 0]:=by
      show(if R.getD (i+1) 0=i+1 then _ else _:List Int×Nat).1=_
      rw[if_neg m]
     rw[C,YR j (i:=i+1) (by omega) _ s,j.root (by omega)]
    ·rw[if_neg m]at av;rw[show i+2=i+1+1 from rfl,av]
     have:=awz (j.root (a:=i+1) (by omega)) s
     omega
  rw[A];cases u:(eJ R (i+1)).1 with
  | nil=>rw[u]at q;simp at q
  | cons a r=>
   rw[u]at ih;simp only[aGG,aGH]at ih;simp only[List.cons_append,aGG,aGH];rw[XM,ih,B]
theorem awA{p:Int}{l:List bz}(a:(cg p l).2=0):OE l:=by
 obtain⟨_,_,_,_,_,i⟩:=Dc a;exact λv x j f m=>(Xq (i v x j)).2.1 f m
theorem aii(R:List Nat)(i:Nat):jJ R i<=i:=XL R i
theorem vW{p:Int}{l:List bz}(a:(cg p l).2=0):y1 p l=((jJ (pe l) l.length:Nat):Int)*p:=by
 obtain⟨_,u,z,j,_,_⟩:=Dc a;have m:=awy (awA a) j;have i:=aih (pe l) m (l.length-1) (by omega)
 rw[show l.length-1+1=l.length by omega]at i
 have av:=aii (pe l) l.length;generalize jJ (pe l) l.length=c at i av⊢;have q:gl p l=(eJ (pe l) l.length).1:=if_pos a;rw[y1,if_pos a,q,i];have ay:aOT.i64.wrap ((c:Int)-1+1)=c:=by rw[Go.IntWalk.i64_in _ (by omega)];omega
 rw[ay];have s:p=1\/p=2\/p=3\/p=4\/p=5\/p=6\/p=7\/p=8:=by omega
 refine Go.IntWalk.i64_in _ ?_;rcases s with rfl|rfl|rfl|rfl|rfl|rfl|rfl|rfl<;>omega
def dG(p:Int)(l:List bz)(k v q:Int):Int:=if(cg p l).2=0/\0<=k/\k<=2/\0<=v/\v<l.length/\0<=q/\q<p then(k*(l.length:Int)+v)*p+q else -1
theorem aij{n k v p:Int}(m:0<=k)(k2:k<=2)(a:0<=n/\n<=24)(q:0<=v)(s:v<n)(u:1<=p/\p<=8):0<=k*n/\k*n<=48/\0<=(k*n+v)*p/\(k*n+v)*p<=600/\(0<=k*n*p/\k*n*p<=600)/\(0<=v*p/\v*p<=600):=by
 have i:k=0\/k=1\/k=2:=by omega
 have j:p=1\/p=2\/p=3\/p=4\/p=5\/p=6\/p=7\/p=8:=by omega
 rcases i with rfl|rfl|rfl<;>rcases j with rfl|rfl|rfl|rfl|rfl|rfl|rfl|rfl<;>omega
theorem Dp(l:List bz)(p k v q:Int)(O:ju l)(h:I)(Q:jG h):Pure mc 25 [.agg (cD l p),.int .i64 k,.int .i64 v,.int .i64 q] h (.int .i64 (dG p l k v q)):=by
 refine Pure.val (a8.int _ _) ?_;have av:(V.agg (cD l p)).cells=some [.af l.length (l.flatMap al),.int .i64 p]:=rfl;obtain⟨H,hH,i,z,_⟩:=b0 h (.cells [.af l.length (l.flatMap al),.int .i64 p] 24 none);refine bd Tryz.func25 rfl ?_;simp only[ae,IN,ds,AS,jh,av,<-hH,z];refine bO (afB l p O H (Q.ai i)) ?_;by_cases A:(cg p l).2=0;rotate_left
 ·have j:((cg p l).2==0)=false:=by simp[A]
  have a:dG p l k v q=-1:=if_neg (λU=>A U.1);simp only[ae,IN,ds,j,aP,aAE,ac];exact ar ⟨by rw[a],i⟩
 have j:((cg p l).2==0)=true:=by simp[A]
 by_cases E:k<0
 ·have m:decide (k<0)=true:=by simpa using E
  have a:dG p l k v q=-1:=if_neg (by omega)
  simp only[ae,IN,ds,j,m,aP,aAE,ac];exact ar ⟨by rw[a],i⟩
 have m:decide (k<0)=false:=by simpa using E
 by_cases F:3<=k
 ·have s:decide (3<=k)=true:=by simpa using F
  have a:dG p l k v q=-1:=if_neg (by omega)
  simp only[ae,IN,ds,j,m,s,aP,aAE,ac];exact ar ⟨by rw[a],i⟩
 have s:decide (3<=k)=false:=by simpa using F
 by_cases G:v<0
 ·have u:decide (v<0)=true:=by simpa using G
  have a:dG p l k v q=-1:=if_neg (by omega)
  simp only[ae,IN,ds,j,m,s,u,aP,aAE,ac];exact ar ⟨by rw[a],i⟩
 have u:decide (v<0)=false:=by simpa using G
 by_cases L:(l.length:Int)<=v
 ·have B:decide ((l.length:Int)<=v)=true:=by simpa using L
  have a:dG p l k v q=-1:=if_neg (by omega)
  simp only[ae,IN,ds,AS,km,pM,kH,j,z,m,s,u,B,aP,aAE,ac];exact ar ⟨by rw[a],i⟩
 have B:decide ((l.length:Int)<=v)=false:=by simpa using L
 by_cases M:q<0
 ·have C:decide (q<0)=true:=by simpa using M
  have a:dG p l k v q=-1:=if_neg (by omega)
  simp only[ae,IN,ds,AS,km,pM,kH,j,z,m,s,u,B,C,aP,aAE,ac];exact ar ⟨by rw[a],i⟩
 have C:decide (q<0)=false:=by simpa using M
 by_cases N:p<=q
 ·have D:decide (p<=q)=true:=by simpa using N
  have a:dG p l k v q=-1:=if_neg (by omega)
  simp only[ae,IN,ds,AS,By,km,yP,pM,kH,aY,j,z,m,s,u,B,C,D,aP,aAE,ac];exact ar ⟨by rw[a],i⟩
 have D:decide (p<=q)=false:=by simpa using N
 obtain⟨_,X,_,Y,_⟩:=Dc A;have a:dG p l k v q=(k*(l.length:Int)+v)*p+q:=if_pos ⟨A,by omega,by omega,by omega,by omega,by omega,by omega⟩
 obtain⟨Z,b8,gQ,pr,sI,uA⟩:=aij (n:=(l.length:Int)) (k:=k) (v:=v) (p:=p) (by omega) (by omega) (by omega) (by omega) (by omega) (by omega)
 have R:aOT.i64.wrap (k*(l.length:Int))=k*(l.length:Int):=Go.IntWalk.i64_in _ (by omega)
 have S:aOT.i64.wrap (k*(l.length:Int)+v)=k*(l.length:Int)+v:=Go.IntWalk.i64_in _ (by omega)
 have T:aOT.i64.wrap ((k*(l.length:Int)+v)*p)=(k*(l.length:Int)+v)*p:=Go.IntWalk.i64_in _ (by omega)
 have W:aOT.i64.wrap ((k*(l.length:Int)+v)*p+q)=(k*(l.length:Int)+v)*p+q:=Go.IntWalk.i64_in _ (by omega)
 simp only[ae,IN,ds,AS,By,km,yP,pM,kH,aY,j,z,m,s,u,B,C,D,R,S,T,W,aP,aAE,ac];exact ar ⟨by rw[a],i⟩
def jK(p:Int)(l:List bz)(task:Int):Int×Int:=if 0<=task/\task<y1 p l then(task.tdiv p,task.tmod p)else(-1,-1)
theorem awB{p:Int}{l:List bz}{task:Int}(q:0<=task)(a:task<y1 p l):(cg p l).2=0/\(1<=p/\p<=8)/\y1 p l<=192:=by
 have h:(cg p l).2=0:=Classical.byContradiction λi=>by
  rw[y1,if_neg i]at a;omega
 obtain⟨_,j,s,u,_,_⟩:=Dc h;refine⟨h,j,?_⟩;rw[vW h];have av:=aii (pe l) l.length;generalize jJ (pe l) l.length=c at av⊢;have m:p=1\/p=2\/p=3\/p=4\/p=5\/p=6\/p=7\/p=8:=by omega
 rcases m with rfl|rfl|rfl|rfl|rfl|rfl|rfl|rfl<;>omega
theorem YT(l:List bz)(p task:Int)(B:ju l)(h:I)(C:jG h):Pure mc 32 [.agg (cD l p),.int .i64 task] h (.tuple [.int .i64 (jK p l task).1,.int .i64 (jK p l task).2]):=by
 refine Pure.val (a8.tuple (bb.cons (a8.int _ _) (bb.cons (a8.int _ _) bb.nil))) ?_;have av:(V.agg (cD l p)).cells=some [.af l.length (l.flatMap al),.int .i64 p]:=rfl;obtain⟨H,hH,j,u,_⟩:=b0 h (.cells [.af l.length (l.flatMap al),.int .i64 p] 24 none);have D:=C.ai j;refine bd Tryz.func32 rfl ?_;simp only[ae,IN,ds,av,<-hH];by_cases z:task<0
 ·have m:decide (task<0)=true:=by simpa using z
  have i:jK p l task=(-1,-1):=if_neg (by omega)
  simp only[ae,IN,ds,m,aP,aEJ,da];exact ar ⟨by rw[i],j⟩
 have m:decide (task<0)=false:=by simpa using z
 simp only[ae,ds,AS,jh,m,u];refine bO (aui l p B H D) ?_;by_cases A:y1 p l<=task
 ·have s:decide (y1 p l<=task)=true:=by simpa using A
  have i:jK p l task=(-1,-1):=if_neg (by omega)
  simp only[ae,IN,ds,s,aP,aEJ,da];exact ar ⟨by rw[i],j⟩
 have s:decide (y1 p l<=task)=false:=by simpa using A
 obtain⟨G,L,E⟩:=awB (p:=p) (l:=l) (task:=task) (by omega) (by omega)
 have i:jK p l task=(task.tdiv p,task.tmod p):=if_pos (by omega)
 have F:aOT.i64.wrap (task.tdiv p)=task.tdiv p:=by
  rw[Int.tdiv_eq_ediv_of_nonneg (by omega)]
  have a:=Int.ediv_nonneg (a:=task) (b:=p) (by omega) (by omega)
  have b:=Int.ediv_le_self (a:=task) p (by omega)
  exact Go.IntWalk.i64_in _ (by omega)
 simp only[ae,IN,ds,s];refine aS.cS none_ [] (.q 0 (.q 1 (.q 2 (.q 3 (.q 4 (.q 5 (.q 6 (.q 7 (.q 8 (.q 9 .done)))))))))) ?_;simp only[ae,bt,ds,AS,By,yP,aY,u,ZY (show p≠0 by omega),Cr (show p≠0 by omega),F,aP,aEJ,da]
 exact ar ⟨by rw[i],j⟩
theorem aik(a b:Rec){xo yo:Operand}:cV mc .neq 45 xo yo (.agg (aK a)) (.agg (aK b))=some (.bool (decide (a≠b))):=by
 have h:ha [0,0,0] (aK a) (aK b)=some (decide (a=b)):=by
  simp only[aK,ha,if_true,azE,Option.some.injEq];rw[Bool.eq_iff_iff];simp only[Bool.and_eq_true,beq_iff_eq,decide_eq_true_eq,Bool.and_true]
  constructor
  ·rintro⟨i,j,m⟩;cases a;cases b;simp_all
  ·rintro rfl;simp
 rw[aaB abU h];simp
def y7(c:an):Rec:=⟨c.key,c.to,c.aX⟩
def uJ(c:an):Rec:=⟨c.key,c.val,0⟩
theorem awD(c:an)(h:I):Pure mc 122 [.agg (aQ c)] h (.agg (aK (y7 c))):=by
 refine Pure.val (a8.agg (MA _)) ?_;refine bd Tryz.func122 rfl ?_;simp only[ae,ds,AS,By,Qf,A6,LC,bR,dM,Ek,tg,vz,aQ,aP,Tryz.results122,tb,fq];exact ar ⟨rfl,(J.push _ _ _).bp _⟩
theorem ail(c:an)(h:I):Pure mc 116 [.agg (aQ c)] h (.agg (aK (uJ c))):=by
 refine Pure.val (a8.agg (MA _)) ?_;refine bd Tryz.func116 rfl ?_;simp only[ae,ds,AS,By,Qf,Vu,bR,dM,Ek,tg,vz,aQ,aP,Tryz.results116,tb,fq];exact ar ⟨rfl,(J.push _ _ _).bp _⟩
theorem awE(h:I)(a b:Rec):h3 mc 25 2 [(0,.agg (aK a)),(1,.agg (aK b))] h=some (.bg h.n 0 2 2,h.push (.cells ([a,b].flatMap aK) 45 none)):=by rw[mD El];rfl
theorem awF(h:I)(a b:Bool):h3 mc 88 2 [(0,.bool a),(1,.bool b)] h=some (.bg h.n 0 2 2,h.push (.cells (vp [a,b]) 4 none)):=by rw[mD Jp];rfl
theorem aim{h ak:I}{r:List Rec}{d:List Bool}{i j:Nat}(s:Own ak 45 3 (.bg i 0 2 2) (r.flatMap aK))(ob:Own ak 4 1 (.bg j 0 2 2) (vp d))(u:r.length=2)(z:d.length=2)(B:i≠j)(a:J h ak none_)(C:h.n<=i)(D:h.n<=j) :
  ∃q,aF (.tuple [.bg i 0 2 2,.bg j 0 2 2]) ak (.tuple [.af 2 (r.flatMap aK),.af 2 (vp d)]) q/\J h q none_:=by
 obtain⟨q,c,k⟩:=Acc.P5 (n:=2) (m:=2) ⟨s,a,λk a=>by simp[aU]at a;omega⟩ ⟨ob,a,λk a=>by simp[aU]at a;omega⟩ (λk A q=>by simp[aU]at A q;omega) (by rw[fJ Ae,u]) (by rw[anS,z]) (by omega) (by omega)
 exact⟨q,aF.tuple c,k⟩
theorem awG(c:an)(h:I):Pure mc 92 [.agg (aQ c)] h (.tuple [.af 2 ([y7 c,uJ c].flatMap aK),.af 2 (vp [false,c.del])]):=by
 refine Pure.of (a8.tuple (bb.cons (a8.af (A4 MA _)) (bb.cons (a8.af (anT _)) bb.nil))) ?_;refine bd Tryz.func92 rfl ?_;have s:cJ (some (some 5)) (some (aQ c))=some (.agg (aQ c)):=rfl;have av:(V.agg (aQ c)).cells=some (aQ c):=rfl;have C:∀i,I2 (some 4) (.ptr i 0)=some (.ptr i 4):=λ_=>rfl;have ak:∀h:I,cO ((h.push (.cells (aQ c) 110 none)).get h.n) 4=some [.bool c.del]:=λh=>by rw[fv];rfl
 simp only[ae,av];refine aS.cS none_ [4,7] (.q 0 (.c 1 (.q 2 (.c 3 (.q 5 (.q 6 (.e 4 (.q 8 (.e 7 (.q 9 .done) .stop)) (.e 7 (.e 4 (.q 8 (.q 9 .done)) .stop) .stop)))))))) ?_;have u:cO (aR.cells (aQ c) 110 none) 0=some (aQ c):=rfl;have A:cO (aR.cells (aQ c) 110 none) 4=some [.bool c.del]:=rfl;simp only[ae,bt,ds,ou,u,s];refine fA rfl rfl rfl (λh' _=>awD c h') ?_;simp only[ae,bt,ds,ou,u,s];refine fA rfl rfl rfl (λh' _=>ail c h') ?_;simp only[ae,bt,ds,apD,qR,A,awE,awF,aP,Tryz.results92,da];have B:J h (h.push (.cells (aQ c) 110 none)) none_:=J.push _ _ _;have z:∀a b,J h (((h.push (.cells (aQ c) 110 none)).push a).push b) none_:=λa b=>(B.bp _).bp _;have j:∀(U:I),Own (U.push (.cells ([y7 c,uJ c].flatMap aK) 45 none)) 45 3 (.bg U.n 0 2 2) ([y7 c,uJ c].flatMap aK):=λU=>Own.e4 _ 2 rfl (by decide)
 have m:∀(U:I),Own (U.push (.cells (vp [false,c.del]) 4 none)) 4 1 (.bg U.n 0 2 2) (vp [false,c.del]):=λU=>Own.e4 _ 2 rfl (by decide)
 refine⟨ar ?_,ar ?_⟩
 ·exact aim (h:=h) ((j (h.push (.cells (aQ c) 110 none))).ba (J.push _ _ _)) (m _) rfl rfl (by omega) (z _ _) (by omega) (by omega)
 ·exact aim (h:=h) (j _) ((m (h.push (.cells (aQ c) 110 none))).ba (J.push _ _ _)) rfl rfl (by omega) (z _ _) (by omega) (by omega)
def chgs:List Rec->List Bool->Option (List an)
 | [],[]=>some []
 | a::b::r,d::e::s=>if d=true\/a.k≠b.k\/b.t≠0 then none else(chgs r s).map λl=>⟨a.k,a.t,a.v,b.v,e⟩::l
 | _,_=>none
theorem YU:∀(r:List Rec) (d:List Bool),r.length≠d.length\/r.length % 2=1->chgs r d=none
 | [],[],h=>by simp at h
 | [],d::s,_=>rfl
 | [a],[],_=>rfl
 | [a],[d],_=>rfl
 | [a],d::e::s,_=>rfl
 | a::b::r,[],_=>rfl
 | a::b::r,[d],_=>rfl
 | a::b::r,d::e::s,h=>by
  unfold chgs;split
  ·rfl
  ·rw[YU r s (by simp only[axW]at h;omega)];rfl
def OH(o:Option (List an)):V:=match o with
 | some l=>.tuple [.af l.length (l.flatMap aQ),.int .i64 0]
 | none=>.tuple [.af 0 [],.int .i64 5]
theorem awH(o:Option (List an)):a8 (OH o):=by
 cases o with
 | none=>exact a8.tuple (bb.cons (a8.af bb.nil) (bb.cons (a8.int _ _) bb.nil))
 | some l=>exact a8.tuple (bb.cons (a8.af (A4 CQ _)) (bb.cons (a8.int _ _) bb.nil))
theorem RH{l:List Rec}{k:Nat}(a:k<l.length){kk:aOT}:gP mc 25 (.af l.length (l.flatMap aK)) (.int kk (k:Int))=some (.at (aK l[k]++(l.drop (k+1)).flatMap aK)):=tR Ae a VU
theorem aip{α:Type}{l:List α}{i:Nat}(h:i+1<l.length):l.drop i=l[i]::l[i+1]::l.drop (i+2):=by
 rw[azg (by omega),azg h]
theorem awI(r:List Rec)(d:List Bool)(h:I)(aJ:r.length*24<=2^47)(bh:d.length<=2^47):Pure mc 81 [.af r.length (r.flatMap aK),.af d.length (vp d)] h (OH (chgs r d)):=by
 refine Pure.of (awH _) ?_;refine bd Tryz.func81 rfl ?_;by_cases bH:r.length=d.length;rotate_left
 ·have Q:((r.length:Int) !=(d.length:Int))=true:=by simp;omega
  have s:=YU r d (.inl bH);simp only[ae,ds,reduceCtorEq,rL,CF,Q,aP,aBX,da];exact ar ⟨_,by rw[s];exact yT _ _,J.refl _ _⟩
 have Q:((r.length:Int) !=(d.length:Int))=false:=by simp[bH]
 by_cases YV:r.length % 2=1
 ·have Y:((r.length:Int).tmod 2 !=0)=true:=by rw[aAQ (by omega)];simp;omega
  have s:=YU r d (.inr YV);simp only[ae,ds,reduceCtorEq,rL,CF,Q,Cr (show(2:Int)≠0 by decide),Y,aP,aBX,da]
  exact ar ⟨_,by rw[s];exact yT _ _,J.refl _ _⟩
 have Y:((r.length:Int).tmod 2 !=0)=false:=by rw[aAQ (by omega)];simp;omega
 simp only[ae,ds,reduceCtorEq,rL,CF,Q,Cr (show(2:Int)≠0 by decide),Y]
 refine aS.bI (α:=V×Nat×List an) (λx f h'=>f 0=.af r.length (r.flatMap aK)/\f 1=.af d.length (vp d)/\f 6=x.1/\f 7=.int .i64 (2*x.2.1:Nat)/\Acc h h' 110 5 x.1 (x.2.2.flatMap aQ)/\x.2.2.length=x.2.1/\2*x.2.1<=r.length/\chgs r d=(chgs (r.drop (2*x.2.1)) (d.drop (2*x.2.1))).map (x.2.2++·)) (λx=>r.length-x.2.1) (.ag,0,[])
  ⟨rfl,rfl,rfl,rfl,Acc.nil (J.refl _ _),rfl,Dy _,by simp⟩ ?_
 rintro⟨v,i,j⟩ f F ⟨G,H,L,z,Z,ax,hi,s⟩
 simp only at L z Z ax hi s;refine wpS ?_;by_cases aD:2*i<r.length;rotate_left
 ·have c3:decide (((2*i:Nat):Int)<(r.length:Int))=false:=decide_eq_false (by omega)
  rw[azz (by omega),azz (by omega)]at s
  simp only[chgs,azE,axX]at s;obtain⟨u,c,k⟩:=Z.cast (n:=j.length) (fJ qh j) (by omega)
  simp only[ae,ds,reduceCtorEq,rL,G,L,z,c3,aP,aBX,da];exact ar ⟨u,by rw[s];exact aF.tuple (aA.cons c (aA.refl _ _)),k⟩
 ·have c3:decide (((2*i:Nat):Int)<(r.length:Int))=true:=decide_eq_true (by omega)
  have hP:2*i+1<r.length:=by omega
  have gM:2*i+1<d.length:=by omega
  have cE:aOT.i64.wrap (((2*i:Nat):Int)+1)=((2*i+1:Nat):Int):=by rw[Go.IntWalk.i64_in _ (by omega)];omega
  have bT:aOT.i64.wrap (((2*i:Nat):Int)+2)=((2*(i+1):Nat):Int):=by rw[Go.IntWalk.i64_in _ (by omega)];omega
  have jC:∀(x:Rec) (q:List V),cJ (some (some 3)) (some (aK x++q))=some (.agg (aK x)):=λx q=>be (Ae x);rw[aip hP,aip gM]at s;have dL:=RH (kk:=.i64) (show 2*i<r.length by omega)
  have bV:=RH (kk:=.i64) hP;have N:=UP (P:=mc) (kk:=.i64) (show 2*i<d.length by omega) VV
  have EE:=UP (P:=mc) (kk:=.i64) gM VV;generalize r[2*i]=A at *;generalize r[2*i+1]=B at *;generalize d[2*i]=D at *;generalize d[2*i+1]=E at *;simp only[ae,ds,reduceCtorEq,rL,G,z,c3];refine aS.cut (λM h'=>∃p q,p≠q/\p<h'.n/\q<h'.n/\M 0=.af r.length (r.flatMap aK)/\M 1=.af d.length (vp d)/\M 6=v/\M 7=.int .i64 (2*i:Nat)/\M 8=.ptr p 0/\M 9=.ptr q 0/\h'.get p=.cells (aK A) 45 none/\h'.get q=.cells (aK B) 45 none/\Acc h h' 110 5 v (j.flatMap aQ)) ?_ ?_
  ·refine aS.cS none_ [9,10,11,12] (.q 0 (.q 1 (.q 2 (.q 3 (.q 4 (.q 5 (.q 6 (.q 7 (.q 8 (.e 9 (.e 10 (.e 11 (.a 12 .done) .stop) .stop) (.e 10 (.e 9 (.e 11 (.a 12 .done) .stop) .stop) .stop))))))))))) ?_;have cb:∀x:Rec,(V.agg (aK x)).cells=some (aK x):=λ_=>rfl;have dA:∀(x:Rec),bA (some 3) (aR.cells [.int .i64 0,.int .i64 0,.int .i64 0] 45 none) 0 (aK x)=some (.cells (aK x) 45 none):=λx=>by
    rw[uR (n:=3) (Ae x) (arM x),if_pos (by decide)];rfl
   simp only[ae,bt,ds,reduceCtorEq,dM,tg,vz,G,z,cE,dL,bV,jC,cb,dA];have O:∀a b:aR,Acc h ((F.push a).push b) 110 5 v (j.flatMap aQ):=λa b=>(Z.on (J.push _ _ _)).on (J.push _ _ _);refine⟨ar ⟨rfl,F.n,F.n+1,by omega,by simp only[df];omega,by simp only[df];omega,G,H,L,z,rfl,rfl,yL,zA,O _ _⟩,
    ar ⟨rfl,F.n+1,F.n,by omega,by simp only[df];omega,by simp only[df];omega,G,H,L,z,rfl,rfl,zA,yL,O _ _⟩⟩
  ·rintro f u ⟨p,q,EI,aW,ab,G,H,L,z,f8,f9,oB,Rp,a2⟩
   simp only[ae];refine aS.cS none_ [14,15] (.q 0 (.q 1 (.q 2 (.q 3 (.q 4 (.q 5 (.q 6 (.q 7 (.q 8 (.q 9 (.q 10 (.q 11 (.q 12 (.q 13 (.e 14 (.a 15 .done) .stop))))))))))))))) ?_;simp only[ae,bt,ds,AS,By,vx,LF,td,bR,qR,Bb,oR,qS,H,z,f8,f9,oB,Rp,aK,cE,EE];generalize gu:(aR.cells [.int .i64 A.k,.int .i64 A.t,.int .i64 A.v,.int .i64 B.v,.bool E] 110 none)=X;have B1:(u.push X).get q=.cells (aK B) 45 none:=by rw[iP ab];exact Rp
   have R:(u.push X).get u.n=.cells (aQ ⟨A.k,A.t,A.v,B.v,E⟩) 110 none:=by rw[fv,<-gu];rfl
   have S:Acc h (u.push X) 110 5 v (j.flatMap aQ):=a2.on (J.push _ _ _);have n3:u.n<(u.push X).n:=by rw[df];omega
   generalize u.push X=aC at B1 R S n3⊢;have Rc:cJ (some (some 3)) (some (aK B))=some (.agg (aK B)):=rfl;have lc:cJ (some (some 5)) (some (aQ ⟨A.k,A.t,A.v,B.v,E⟩))=some (.agg (aQ ⟨A.k,A.t,A.v,B.v,E⟩)):=rfl;generalize vB:(⟨A.k,A.t,A.v,B.v,E⟩:an)=C at R lc;have C6:(decide (B≠uJ C)=true)↔(A.k≠B.k\/B.t≠0):=by
    subst vB;rw[decide_eq_true_iff]
    constructor
    ·intro U;by_cases F:A.k=B.k
     ·right;intro u;exact U (by cases B;simp_all[uJ])
     ·exact .inl F
    ·intro U u;rw[u]at U;simp[uJ]at U
   by_cases F6:D=true
   ·subst F6;have uh:chgs r d=none:=by rw[s,chgs,if_pos (.inl rfl)];rfl
    refine aS.cS none_ [] (.q 0 (.q 1 (.q 2 (.q 3 (.q 4 (.q 5 (.q 6 (.c 7 (.q 8 (.q 9 .done)))))))))) ?_;simp only[ae,bt,ds,qR,H,z,N];refine rG rfl rfl ?_;simp only[ae,bt,ds,aP,aBX,da];exact ar ⟨_,by rw[uh];exact yT _ _,S.ai⟩
   ·have aa:D=false:=by simpa using F6
    subst aa;refine aS.cS none_ [] (.q 0 (.q 1 (.q 2 (.q 3 (.q 4 (.q 5 (.q 6 (.c 7 (.q 8 (.q 9 .done)))))))))) ?_;simp only[ae,bt,ds,ou,qR,dM,H,z,f9,N,B1,R,Rc,lc];refine fA rfl rfl rfl (λh' _=>ail C h') ?_;by_cases W:(A.k≠B.k\/B.t≠0)
    ·have ak:=C6.2 W;have uh:chgs r d=none:=by rw[s,chgs,if_pos (.inr W)];rfl
     simp only[ae,bt,ds,aik,ak,aP,aBX,da];exact ar ⟨_,by rw[uh];exact yT _ _,S.ai⟩
    ·have ak:decide (B≠uJ C)=false:=by
      cases bh:decide (B≠uJ C)with
      | false=>rfl
      | true=>exact absurd (C6.1 bh) W
     rw[chgs,if_neg (by simpa using W),vB]at s
     have kd:(j.flatMap aQ).length=j.length*5:=fJ qh j;obtain⟨v4,bn,kp,a4⟩:=S.zb (P:=mc) (t:=52) (T:=⟨110,[.int .i64 0,.int .i64 0,.int .i64 0,.int .i64 0,.bool false],5,40⟩) Em (by decide) (xs:=aQ C) rfl (Ww C) (λm hm=>by
      have hq:m*5=(j.flatMap aQ).length+5:=hm;rw[kd]at hq;show m*40<=lim/\m<=lim;unfold lim;omega)
     simp only[ae,bt,ds,ou,L,z,R,lc,aik,ak,adi,kp,bT];refine ar ⟨(v4,i+1,j++[C]),⟨G,H,rfl,rfl,a4.conv (by simp),by simp only[Dx,axW,ayK];omega,by simp only;omega,?_⟩,by simp only;omega⟩
     rw[s,Option.map_map,show 2*i+2=2*(i+1)by omega]
     simp[Function.comp_def]
def eB(x:bC):List V:=[.int .i64 x.kind,.int .i64 x.task,.int .i64 x.cZ,.int .i64 x.hG,.int .i64 x.log,.int .i64 x.r.k,.int .i64 x.r.v,.int .i64 x.r.t,.bool x.del,.ag,.ag]
theorem Br(r:bC):(eB r).length=11:=rfl
structure fO where
 c:bw
 n:Int
 q:Int
structure eU where
 m:fs
 ep:Int
 tx:Int
 offs:List Int
 kept:List bC
 order:List Int
structure pj where
 m:Nat
 b:At
 cq:V
 vk:V
 vr:V
def hI(w:pj)(d:fO)(s:eU):List V:=[.af d.c.l.length (d.c.l.flatMap al),.int .i64 d.c.p,.int .i64 d.n,.int .i64 d.q,.ptr w.m 0,.af d.c.ins.length (ao d.c.ins),.int .i64 s.ep,.int .i64 s.tx,w.cq,w.vk,w.vr]
structure fP(h:I)(ow:cT)(id k:Nat)(w:pj)(d:fO)(s:eU):Prop where
 lt:k<h.n
 get:h.get k=.cells (hI w d s) 95 none
 own:ow k=(id+1,1)
 eb:hf h ow id w.m w.b d.c s.m
 o:Own h 3 1 w.cq (ao s.offs)
 vX:Own h 48 11 w.vk (s.kept.flatMap eB)
 ro:Own h 3 1 w.vr (ao s.order)
 gT:nF ow (id+1,2) (gr w.cq)
 kk:nF ow (id+1,3) (gr w.vk)
 gU:nF ow (id+1,4) (gr w.vr)
 Fl:w.vk≠.z0
 Hh:w.vr≠.z0
section
variable {h h':I} {ow ow':cT} {id k:Nat} {w:pj} {d:fO} {s:eU}
theorem fP.ai{M:Nat->Prop}(t:fP h ow id k w d s)(j:J h h' M)(u:∀q,q<h.n->M q->(ow q).1≠id/\(ow q).1≠id+1)(z:∀q,q<h.n->ow' q=ow q):fP h' ow' id k w d s :=
 ⟨IS t.lt j.n,(j.get k t.lt λU=>(u k t.lt U).2 (by rw[t.own])).trans t.get,(z _ t.lt).trans t.own,t.eb.ai j (λq i U=>(u q i U).1) z,
  t.o.ai j λq i U=>(u q (t.o.lt q i) U).2 (by rw[t.gT q (cy.2 i)]),t.vX.ai j λq i U=>(u q (t.vX.lt q i) U).2 (by rw[t.kk q (cy.2 i)]),t.ro.ai j λq i U=>(u q (t.ro.lt q i) U).2 (by rw[t.gU q (cy.2 i)]),
  t.gT.bD (λq i=>t.o.lt q (cy.1 i)) z,t.kk.bD (λq i=>t.vX.lt q (cy.1 i)) z,t.gU.bD (λq i=>t.ro.lt q (cy.1 i)) z,t.Fl,t.Hh⟩
theorem fP.ba(t:fP h ow id k w d s)(i:J h h' none_):fP h' ow id k w d s:=t.ai i (λ_ _ U=>by simp[none_]at U) λ_ _=>rfl
end
theorem fP.yy{h:I}{ow:cT}{id k:Nat}{w:pj}{d:fO}{s:eU}(lt:k<h.n)(own:ow k=(id+1,1))(m:hf h ow id w.m w.b d.c s.m)
  (o:Own h 3 1 w.cq (ao s.offs)) (vX:Own h 48 11 w.vk (s.kept.flatMap eB)) (ro:Own h 3 1 w.vr (ao s.order)) (gT:nF ow (id+1,2) (gr w.cq)) (kk:nF ow (id+1,3) (gr w.vk)) (gU:nF ow (id+1,4) (gr w.vr)) (Fl:w.vk≠.z0) (Hh:w.vr≠.z0) :
  fP (h.set k (.cells (hI w d s) 95 none)) ow id k w d s:=by
 have j:J h (h.set k (.cells (hI w d s) 95 none)) (·=k):=J.set _ _ _;refine⟨lt,aL,own,?_,o.ai j λq i U=>?_,vX.ai j λq i U=>?_,ro.ai j λq i U=>?_,gT,kk,gU,Fl,Hh⟩
 ·exact m.ai j (λq i U=>by subst U;rw[own];simp) λ_ _=>rfl
 ·have:=gT q (cy.2 i);rw[U,own]at this;simp at this
 ·have:=kk q (cy.2 i);rw[U,own]at this;simp at this
 ·have:=gU q (cy.2 i);rw[U,own]at this;simp at this
theorem ait{h:I}{e:TypeId}{sz:Nat}{v:V}{cs:List V}(o:Own h e sz v cs)(av:cs≠[]):v≠.z0:=by
 rcases o with⟨_,U⟩|⟨i,a,cap,c,j,rfl,_⟩
 ·exact absurd U av
 ·exact V.noConfusion
theorem awJ{h:I}{v:V}{l:List Int}(o:Own h 3 1 v (ao l))(u:v≠.z0)(B:l.length<=2^40):au mc 38 [v] h (λr h'=>Acc h h' 3 1 r (ao l)):=by
 obtain⟨C,D,ay,z⟩:=Acc.sk (P:=mc) (t:=46) (tx:=46) oQ (YA h) (by decide) (tc (P:=mc) (t:=46) fB (o.ba (J.push _ _ _)) (n:=l.length) (by rw[am,ajD]) (by decide) (KN l)) (by rw[am];exact(ajD _).symm) (λm s=>by
   change m*1=(ao []).length+(ao l).length at s;rw[am,am,ayK]at s;exact⟨by simp only[lim];omega,by simp only[lim];omega⟩)
 have A:=Yz h;refine bd Tryz.func38 rfl ?_;rcases o with⟨rfl|rfl,av⟩|⟨i,q,cap,c,F,rfl,G⟩
 ·have e:∀a j,cV mc .eql 46 a j .ag .ag=some (.bool true):=λa j=>Ln fB;simp only[ae,ds,reduceCtorEq,e,aP,aBW,ac];exact ar (by rw[av];exact Acc.nil (J.refl _ _))
 ·exact absurd rfl u
 ·have e:∀a j,cV mc .eql 46 a j (.bg i 0 q cap) .ag=some (.bool false):=λa j=>Kv fB (.inl rfl) (.inr ⟨rfl,rfl⟩);simp only[ae,ds,reduceCtorEq,e,A,ay,aP,aBW,ac];exact ar (z.conv (by rfl))
theorem awK(h:I):h3 mc 29 0 [] h=some (.bg h.n 0 0 0,h.push (.cells [] 48 none)):=by rw[mD CK];rfl
theorem awL(h:I):Acc h (h.push (.cells [] 48 none)) 48 11 (.bg h.n 0 0 0) (([]:List bC).flatMap eB) :=
 ⟨.inr ⟨h.n,0,0,[],none,rfl,az1 _,fv,rfl,rfl,.inl ⟨by simp[b7],BY _,BY _⟩⟩,J.push _ _ _,λk a=>by simp[aU]at a;omega⟩
theorem YW(r:bC):(eB r).all (·.one)=true:=rfl
theorem awM(l:List bC):(l.flatMap eB).all (·.one)=true:=by
 rw[List.all_flatMap];exact List.all_eq_true.2 λx _=>YW x
theorem OI{h:I}{v:V}{l:List Int}{e:TypeId}(o:Own h e 1 v (ao l)):zm v=some l.length:=by
 obtain⟨n,i,a,_⟩:=aam o (by decide)
 rw[am,ajD]at a;rw[i,a]
theorem Hi{h:I}{v:V}{e t:TypeId}{sz n:Nat}{cs:List V}(o:Own h e sz v cs)(j:Ab.et mc t=some 1)(u:0<sz)(m:cs.length=n*sz)(h':I):dJ mc t v h'=some (.int .i64 (n:Nat)):=by
 rcases o with⟨rfl|rfl,rfl⟩|⟨i,q,cap,c,z,rfl,hi,A,a,B,C⟩
 ·have:n=0:=by
   have s:n*sz=0:=by simpa using m.symm
   rcases aAF.1 s with h|h
   ·exact h
   ·omega
  subst this;exact yK j
 ·have:n=0:=by
   have s:n*sz=0:=by simpa using m.symm
   rcases aAF.1 s with h|h
   ·exact h
   ·omega
  subst this;exact zz j
 ·have:n=q:=Nat.eq_of_mul_eq_mul_right u (m.symm.trans a);subst this;exact zy j
theorem OJ{h:I}{v:V}{e:TypeId}{l:List Int}(o:Own h e 1 v (ao l))(h':I):dJ mc 46 v h'=some (.int .i64 (l.length:Nat)):=Hi o fB (by decide) (by rw[am,ajD]) h'
theorem aiu{h:I}{v:V}{l:List bC}(o:Own h 48 11 v (l.flatMap eB))(u:v≠.z0)(B:l.length<=2^36):au mc 39 [v] h (λr h'=>Acc h h' 48 11 r (l.flatMap eB)):=by
 obtain⟨C,D,ay,z⟩:=Acc.sk (P:=mc) (t:=29) (tx:=29) CK (awL h) (by decide) (tc (P:=mc) (t:=29) A9 (o.ba (J.push _ _ _)) (n:=l.length) (fJ Br l) (by decide) (awM l)) (fJ Br l) (λm s=>by
   change m*11=_ at s;rw[fJ Br,fJ Br,ayK]at s;exact⟨by simp only[lim];omega,by simp only[lim];omega⟩)
 have A:=awK h;refine bd Tryz.func39 rfl ?_;rcases o with⟨rfl|rfl,av⟩|⟨i,q,cap,c,F,rfl,G⟩
 ·have e:∀a j,cV mc .eql 29 a j .ag .ag=some (.bool true):=λa j=>Ln A9;simp only[ae,ds,reduceCtorEq,e,aP,aGJ,ac];exact ar (by rw[av];exact Acc.nil (J.refl _ _))
 ·exact absurd rfl u
 ·have e:∀a j,cV mc .eql 29 a j (.bg i 0 q cap) .ag=some (.bool false):=λa j=>Kv A9 (.inl rfl) (.inr ⟨rfl,rfl⟩);simp only[ae,ds,reduceCtorEq,e,A,ay,aP,aGJ,ac];exact ar (z.conv (by rfl))
theorem OK(k:Nat)(xo yo:Operand):cV mc .eql 36 xo yo (.ptr k 0) .dx=some (.bool false):=Z0 (by kernel_rfl)
section
variable {h h':I} {ow ow':cT} {id k:Nat} {w:pj} {d:fO} {s:eU}
theorem OL(t:fP h ow id k w d s)(N:s.offs.length<=2^20):Pure mc 17 [.ptr k 0] h (.af s.offs.length (ao s.offs)):=by
 have a:=t.o;refine Pure.of (a8.af (yM _)) ?_;obtain⟨O,Q,q,u,z,A,B⟩:=aan (P:=mc) (t:=46) (tx:=46) (k:=.i64) (k':=.i64) (h:=h) oQ (OI a) (λh' C=>by
  obtain⟨m,i,T,D⟩:=aam (a.ba C) (by decide)
  rw[OI a]at i;rw[Option.some.inj i];exact D) (KN _) (by rw[am];exact(ajD _).symm) (by simp only;omega) (by omega)
 have g:=t.get;unfold hI at g;have E:=OJ a;have F:=(A.get k t.lt (by simp[none_])).trans g
 have G:=OK k;refine bd Tryz.func17 rfl ?_;simp only[ae,ds,AS,By,reduceCtorEq,VF,hL,G,g,E,q,F,u,aP,Tryz.results17,ac];obtain⟨H,c,L⟩:=aF.own z (n:=s.offs.length) (by rw[am];exact(ajD _).symm) (by decide)
 exact ar ⟨H,c,B.trans L λj W M=>by simp[a7,aU]at M;omega⟩
end
def Bs(r:Rec):uD:=⟨r.k,r.v,r.t⟩
def sP(d:fO)(s:eU)(k v q:Int)(r:Rec)(a:Bool):bC:=⟨2,d.n,s.ep,s.tx,dG d.c.p d.c.l k v q,Bs r,a,[],[]⟩
def vY(d:fO)(s:eU)(x:bC):eU:={ s with kept:=s.kept++[x] }
theorem YX(h:I)(x:bC):h3 mc 29 1 [(0,.agg (eB x))] h=some (.bg h.n 0 1 1,h.push (.cells (eB x) 48 none)):=by rw[mD CK];rfl
structure ig(id:Nat)(h:I)(ow:cT)(h':I)(ow':cT):Prop where
 ai:J h h' (λq=>(ow q).1=id+1)
 bD:∀q,q<h.n->ow' q=ow q
 aX:Fr h' ow'
theorem ig.refl{id:Nat}{h:I}{ow:cT}(f:Fr h ow):ig id h ow h ow:=⟨J.refl _ _,λ_ _=>rfl,f⟩
theorem ig.trans{id:Nat}{h j s:I}{ow u z:cT}(a:ig id h ow j u)(b:ig id j u s z):ig id h ow s z :=
 ⟨a.ai.trans b.ai λq i A=>by rw[<-a.bD q i];exact A,λq i=>(b.bD q (IS i a.ai.n)).trans (a.bD q i),b.aX⟩
theorem ig.push{id:Nat}{h h':I}{ow:cT}(f:Fr h ow)(k:J h h' none_):ig id h ow h' ow:=⟨k.up,λ_ _=>rfl,λq i=>f q (ajy k.n i)⟩
section
variable {h:I} {ow:cT} {id k:Nat} {w:pj} {d:fO} {s:eU}
theorem awN(t:fP h ow id k w d s)(f:Fr h ow)(D:s.kept.length<=2^36)(x:bC) :
  ∃v i,ki mc 29 29 w.vk (.bg h.n 0 1 1) (h.push (.cells (eB x) 48 none))=some (v,i)/\i.get k=.cells (hI w d s) 95 none/\v.one=true/\v.cells=some [v]/\J h i (λq=>a7 w.vk q) /\
   ∃ow',fP (i.set k (.cells (hI { w with vk:=v } d (vY d s x)) 95 none)) ow' id k { w with vk:=v } d (vY d s x)/\ig id h ow (i.set k (.cells (hI { w with vk:=v } d (vY d s x)) 95 none)) ow':=by
 have B:J h (h.push (.cells (eB x) 48 none)) none_:=J.push _ _ _;obtain⟨v,i,E,m,C,F⟩:=avr (P:=mc) (t:=29) (T:=⟨48,[.int .i64 0,.int .i64 0,.int .i64 0,.int .i64 0,.int .i64 0,.int .i64 0,.int .i64 0,.int .i64 0,.bool false,.ag,.ag],11,120⟩) CK (by decide) (enc:=eB) Br YW A9 (by decide) t.vX D x
 have A:J h i (λq=>(ow q).1=id+1):=B.up.trans C λq a U=>by rw[t.kk q (cy.2 U)]
 have G:=A.n;have u:∀q,q<h.n->dF ow h.n i.n (id+1,3) q=ow q:=λq a=>Av a;have H:¬a7 w.vk k:=λU=>by have:=t.kk k (cy.2 U);rw[t.own]at this;simp at this
 have L:v≠.z0:=ait m (by simp[eB])
 have M:nF (dF ow h.n i.n (id+1,3)) (id+1,3) (gr v):=λq a=>by
  rcases F with e|e
  ·have j:aU w.vk=some q:=by rw[<-e];exact cy.1 a
   rw[Av (t.vX.lt q j)];exact t.kk q (cy.2 j)
  ·have j:=e q (cy.1 a);have i:=m.lt q (cy.1 a);rw[df]at j;exact NB (by omega) i
 have N:∀q,q<h.n->a7 w.vk q->(ow q)=(id+1,3):=λq _ U=>t.kk q (cy.2 U);have z:J h i (a7 w.vk):=B.up.trans' C;have O:Fr i (dF ow h.n i.n (id+1,3)):=λq a=>by unfold dF;rw[if_neg (by omega)];exact f q (by omega)
 refine⟨v,i,E,(z.get k t.lt H).trans t.get,?_,?_,z,dF ow h.n i.n (id+1,3),?_,?_⟩
 ·rcases m with⟨rfl|rfl,_⟩|⟨_,_,_,_,_,rfl,_⟩<;>rfl
 ·rcases m with⟨rfl|rfl,_⟩|⟨_,_,_,_,_,rfl,_⟩<;>rfl
 ·refine fP.yy (w:={ w with vk:=v }) (s:=vY d s x) (IS t.lt G) ((u _ t.lt).trans t.own) (t.eb.ai A (λq a U=>by rw[U];simp) u) (t.o.ai z λq a U=>?_) m (t.ro.ai z λq a U=>?_) (t.gT.bD (λq a=>t.o.lt q (cy.1 a)) u) M (t.gU.bD (λq a=>t.ro.lt q (cy.1 a)) u) L t.Hh
  ·have j:=t.gT q (cy.2 a);rw[t.kk q (cy.2 U)]at j;simp at j
  ·have j:=t.gU q (cy.2 a);rw[t.kk q (cy.2 U)]at j;simp at j
 ·exact⟨A.trans (J.set _ _ _) λq a U=>by rw[U,t.own],u,O⟩
theorem YY(o:fM d.c)(t:fP h ow id k w d s)(O:jG h)(f:Fr h ow){j:Nat}(Q:h.get j=.cells [.ptr k 0] 36 none)(ak:j<h.n)(ob:ow j=(0,0))(R:s.kept.length<=2^36)(u v q:Int)(r:Rec)(i:Bool) :
  au mc 91 [.int .i64 u,.int .i64 v,.int .i64 q,.agg (aK r),.bool i,.ptr j 0] h (λS h'=>S=.tuple []/\∃w' ow',fP h' ow' id k w' d (vY d s (sP d s u v q r i))/\ig id h ow h' ow'):=by
 refine bd Tryz.func91 rfl ?_;have av:(V.agg (aK r)).cells=some (aK r):=rfl;obtain⟨H,hH,A,T,ib⟩:=b0 h (.cells (aK r) 45 none);have F:=t.ba A;have W:Fr H ow:=λq G=>f q (by omega)
 have X:=(A.get j ak (by simp[none_])).trans Q
 have g:=F.get;unfold hI at g;have ln:V.agg [.af d.c.l.length (d.c.l.flatMap al),.int .i64 d.c.p]=.agg (cD d.c.l d.c.p):=rfl;obtain⟨L,ad,B,M,Y,Z,mG,ow',t2,C⟩:=awN F W R (sP d s u v q r i);simp only[ae,av];rw[<-hH];clear hH;have C4:¬a7 w.vk j:=λU=>by have:=t.kk j (cy.2 U);rw[ob]at this;simp at this
 have Wz:¬a7 w.vk k:=λU=>by have:=t.kk k (cy.2 U);rw[t.own]at this;simp at this
 have nr:¬a7 w.vk h.n:=λU=>by have:=t.vX.lt h.n U;omega
 have N:=O.ai A;have D:∀h',(J H h' (λq=>a7 w.vk q)\/h'=H)->jG h':=λh' z=>by rcases z with z|rfl;exact N.ai z;exact N
 refine aS.cS (λq=>a7 w.vk q) [28,29,32] (.q 0 (.q 1 (.q 2 (.q 3 (.q 4 (.q 5 (.q 6 (.q 7 (.q 8 (.q 9 (.q 10 (.q 11 (.q 12 (.q 13 (.q 14 (.q 15 (.q 16 (.q 17 (.q 18 (.q 19 (.q 20 (.q 21 (.q 22 (.q 23 (.c 24 (.q 25 (.q 26 (.q 27 (.e 28 (.e 29 (.q 30 (.q 31 (.a 32 .done))) .stop) .stop))))))))))))))))))))))))))))) ?_;simp only[ae,bt,fo,ds,AS,By,reduceCtorEq,LI,abE,abF,abG,VG,jh,abM,aY,Gi,X,g,C4,Wz];refine fA rfl rfl rfl (λh' z=>Dp d.c.l d.c.p u v q o.ok h' (D h' z)) ?_;have ld:(if 3<=(aK r).length then some (V.agg (azw 3 (aK r)))else none)=some (V.agg [.int .i64 r.k,.int .i64 r.v,.int .i64 r.t]):=rfl
 have E:=YX H (sP d s u v q r i);have J4:bA (some 1) (aR.cells [.af d.c.l.length (d.c.l.flatMap al),.int .i64 d.c.p,.int .i64 d.n,.int .i64 d.q,.ptr w.m 0,.af d.c.ins.length (ao d.c.ins),.int .i64 s.ep,.int .i64 s.tx,w.cq,w.vk,w.vr] 95 none) 9 [L]=some (.cells [.af d.c.l.length (d.c.l.flatMap al),.int .i64 d.c.p,.int .i64 d.n,.int .i64 d.q,.ptr w.m 0,.af d.c.ins.length (ao d.c.ins),.int .i64 s.ep,.int .i64 s.tx,w.cq,L,w.vr] 95 none):=by
  rw[rA Y];rfl
 unfold sP Bs eB at E B;simp only at E B;unfold hI at M;simp only[ae,bt,fo,ds,AS,By,VG,dM,Qt,LW,aqO,T,nr,ld,E,B,M,J4,Z,mG,k6,Tryz.results91,hK];exact ar (show _/\_ from⟨rfl,_,ow',t2,⟨A.up.trans C.ai λq G e=>e,λq G=>C.bD q (by omega),C.aX⟩⟩)
end
def rf(x:cd):Prop:=x.2.verts.length=x.2.chgs.length
theorem RI{α:Type}(f:cd->α->cd):∀(l:List α),(∀a x,rf x->rf (f x a))->∀x,rf x->rf (l.foldl f x)
 | [],_=>λx i=>i
 | a::r,h=>λx i=>RI f r h (f x a) (h a x i)
theorem aiw(u:Int)(cs:List an){x:cd}(i:rf x):rf (l9 u cs x):=by
 unfold rf l9 at *;simp[i]
theorem aix{v:bz}{u:Int}{r:Rec}{th:Rec->cd->cd}(h:∀y x,rf x->rf (th y x)){x:cd}(i:rf x):rf (sF v u th r x):=by
 unfold sF;split
 ·exact i
 ·exact RI (λx y=>th y x) _ h x i
theorem awO{c:bw}{j:Int->Rec->cd->cd}(h:∀u y x,rf x->rf (j u y x))(f:Int)(u:Nat)(r:Rec){x:cd}(i:rf x):rf (uy c j f u r x):=by
 unfold uy;split
 ·exact i
 ·have a:rf (du x):=i;split
  ·exact a
  ·split
   ·exact aix (th:=pW (u:Int)) (λy x i=>by exact i) a
   ·split
    ·exact aix (λy x i=>h u y x i) a
    ·split
     ·split
      ·unfold w0;split
       ·exact a
       ·split
        ·exact a
        ·exact h _ _ _ (aiw _ _ a)
      ·exact a
     ·split
      ·split
       ·unfold m7;split
        ·split
         ·exact h _ _ _ a
         ·exact a
        ·exact a
       ·exact a
      ·exact a
theorem aiy{c:bw}:∀(k:Nat) (v:Int) (r:Rec) (x:cd),rf x->rf (tl c k v r x)
 | 0,v,r=>λx i=>i
 | k+1,v,r=>λx i=>RI (λx u=>uy c (tl c k) v u r x) (c.us v) (λu x i=>awO (λa y x i=>aiy k a y x i) v u r i) x i
theorem PP{c:bw}(u:Nat)(x:cd)(i:rf x):rf (dE c u x):=by
 unfold dE;split
 ·exact aiw _ _ i
 ·exact i
theorem awP{c:bw}(s:fs)(v:Int)(r:Rec):rf (stepT c s v r).1:=by
 unfold stepT;split
 ·rfl
 ·split
  ·rfl
  ·refine RI (λx u=>dE c u x) _ PP _ (aiy 24 v r _ ?_);split<;>rfl
theorem awQ{c:bw}(s:fs){v:Int}(r:Rec)(h:c.ins.contains v=true):(stepT c s v r).2=0:=by
 unfold stepT;rw[if_neg (by rw[h];decide)]
 split<;>rfl
def oh(s:eU)(L:List bC):eU:={ s with kept:=s.kept++L }
theorem awR(s:eU):oh s []=s:=by cases s;simp[oh]
theorem RJ(d:fO)(s:eU)(L:List bC)(x:bC):vY d (oh s L) x=oh s (L++[x]):=by simp[oh,vY]
def partOf(d:fO)(u key:Int):Int:=if gD d.c.l u=5 then tk d.c.p d.c.l key else d.q
def Bu(d:fO)(s:eU)(o:Int×Rec):bC:=sP d s 0 o.1 (partOf d o.1 o.2.k) o.2 false
def tp(d:fO)(s:eU)(p:Int×an):List bC:=[sP d s 1 p.1 d.q (y7 p.2) false,sP d s 1 p.1 d.q (uJ p.2) p.2.del]
def ON(d:fO)(s:eU)(x:Int×Rec×Int):bC:=sP d s 2 x.1 d.q x.2.1 false
def uV(d:fO)(s:eU)(x:fR):List bC:=x.outs.map (Bu d s)++(x.verts.zip x.chgs).flatMap (tp d s)++x.deads.map (ON d s)
theorem JV{α β:Type}{enc:α->List β}{sz:Nat}(h:∀a,(enc a).length=sz):∀l:List α,(l.flatMap enc).length=l.length*sz
 | []=>by simp
 | a::l=>by rw[azh,Dx,h,JV h l,axW,Nat.add_mul];omega
section
variable {h:I} {ow:cT} {id k:Nat} {w:pj} {d:fO} {s:eU}
theorem awS(o:fM d.c)(t:fP h ow id k w d s)(aw:jG h)(f:Fr h ow)(x:fR)(aO:∀p∈x.outs,∃(u:Nat) (v:bz),p.1=(u:Int)/\d.c.l[u]?=some v/\(v.kind=10\/v.kind=5))(aI:x.verts.length=x.chgs.length)
  (My:x.outs.length<=2^22) (z2:x.chgs.length<=2^22) (z3:x.deads.length<=2^22) (ax:s.kept.length<=2^35) :
  au mc 41 [.ptr k 0,.agg (fd x)] h (λgU h'=>gU=.tuple []/\∃w' ow',fP h' ow' id k w' d (oh s (uV d s x))/\ig id h ow h' ow'):=by
 refine bd Tryz.func41 rfl ?_;have av:(V.agg (fd x)).cells=some [.af x.outs.length (x.outs.flatMap iw),.af x.verts.length (ao x.verts),.af x.chgs.length (x.chgs.flatMap aQ),.af x.deads.length (x.deads.flatMap q6)]:=rfl;obtain⟨H,hH⟩:∃y,y=(h.push (.cells [.ptr k 0] 36 none)).push (.cells [.af x.outs.length (x.outs.flatMap iw),.af x.verts.length (ao x.verts),.af x.chgs.length (x.chgs.flatMap aQ),.af x.deads.length (x.deads.flatMap q6)] 101 none):=⟨_,rfl⟩;have bo:J h H none_:=by rw[hH];exact(J.push _ _ _).bp _
 have ib:H.n=h.n+2:=by rw[hH];rfl
 have aJ:H.get h.n=.cells [.ptr k 0] 36 none:=by rw[hH,iP (by rw[df];omega)];exact fv
 have aM:H.get (h.n+1)=.cells [.af x.outs.length (x.outs.flatMap iw),.af x.verts.length (ao x.verts),.af x.chgs.length (x.chgs.flatMap aQ),.af x.deads.length (x.deads.flatMap q6)] 101 none:=by rw[hH];exact fv
 have jU:=t.ba bo;have AA:Fr H ow:=λq ab=>f q (by omega)
 have s5:=aw.ai bo;have ob:ow h.n=(0,0):=f _ (BY _);have aV:ow (h.n+1)=(0,0):=f _ (by omega)
 have EJ:∀{h':I} {ow':cT},ig id H ow h' ow'->h'.get h.n=.cells [.ptr k 0] 36 none:=λbX=>(bX.ai.get h.n (by omega) (by rw[ob];simp)).trans aJ
 have OO:∀{h':I} {ow':cT},ig id H ow h' ow'->h'.get (h.n+1)=.cells [.af x.outs.length (x.outs.flatMap iw),.af x.verts.length (ao x.verts),.af x.chgs.length (x.chgs.flatMap aQ),.af x.deads.length (x.deads.flatMap q6)] 101 none:=λbX=>(bX.ai.get (h.n+1) (by omega) (by rw[aV];simp)).trans aM
 simp only[ae,ds,AS,abk,abJ,abQ,av];rw[<-hH];clear hH;refine aS.bI (α:=Nat×pj×cT) (λy f h'=>f 2=.ptr h.n 0/\f 3=.ptr (h.n+1) 0/\f 4=.func (.func 91) [] [.ptr h.n 0]/\f 18=.af x.outs.length (x.outs.flatMap iw)/\f 19=.int .i64 (x.outs.length:Nat)/\f 20=.int .i64 (y.1:Nat)/\y.1<=x.outs.length /\
   fP h' y.2.2 id k y.2.1 d (oh s ((x.outs.take y.1).map (Bu d s)))/\ig id H ow h' y.2.2) (λy=>x.outs.length-y.1) (0,w,ow)
  ⟨rfl,rfl,rfl,rfl,rfl,rfl,Dy _,by rw[aAu,azu,awR];exact jU,ig.refl AA⟩ ?_
 rintro⟨i,cE,Z⟩ f h1 ⟨E,G,L,aa,X,W,hi,N,A⟩
 simp only at W hi N A;refine wpS ?_;have dH:=EJ A;have bZ:=OO A;have en:=A.ai.n;by_cases O:i<x.outs.length
 ·have Y:=dV (a:=i) (b:=x.outs.length) (by omega)
  have pv:=mQ O (by omega)
  have dL:=tR (P:=mc) (kk:=.i64) Rj O aqr;obtain⟨u,v,YZ,hu,hk⟩:=aO _ (ayM O);have p4:(x.outs.take (i+1)).map (Bu d s)=(x.outs.take i).map (Bu d s)++[Bu d s x.outs[i]]:=by rw[azi O,azp];rfl
  generalize x.outs[i]=q at dL YZ p4;obtain⟨Dq,⟨z,B,C⟩⟩:=q;simp only at YZ;subst YZ;have ld:∀r,cJ (some (some 4)) (some (iw ((u:Int),⟨z,B,C⟩)++r))=some (.agg (iw ((u:Int),⟨z,B,C⟩))):=λr=>be (Rj _);have co:(V.agg (iw ((u:Int),⟨z,B,C⟩))).cells=some [.int .i64 (u:Int),.int .i64 z,.int .i64 B,.int .i64 C]:=rfl;have Ag:bA (some 4) (aR.cells [.int .i64 0,.int .i64 0,.int .i64 0,.int .i64 0] 173 none) 0 [.int .i64 (u:Int),.int .i64 z,.int .i64 B,.int .i64 C]=some (.cells [.int .i64 (u:Int),.int .i64 z,.int .i64 B,.int .i64 C] 173 none):=rfl;have c0:gD d.c.l (u:Int)=v.kind:=by unfold gD;rw[ayQ,hu];rfl
  obtain⟨gU,rH⟩:=JK (kk:=.i64) hu;obtain⟨ca,bP,k2,Q,_⟩:=b0 h1 (.cells [.int .i64 (u:Int),.int .i64 z,.int .i64 B,.int .i64 C] 173 none);have M:ig id H ow ca Z:=A.trans (ig.push A.aX k2);have t2:=N.ba k2;have b8:=EJ M;have a2:=OO M;have g2:=t2.get;unfold hI at g2;have dd:=M.ai.n;have Fm:jG ca:=s5.ai M.ai;have JW:=YY o t2 Fm M.aX b8 (by omega) ((M.bD _ (by omega)).trans ob) (by simp only[oh,Dx,axT,TY];omega) 0 (u:Int)
  have ln:V.agg [.af d.c.l.length (d.c.l.flatMap al),.int .i64 d.c.p]=.agg (cD d.c.l d.c.p):=rfl;have bj:(if 3<=[V.int .i64 z,.int .i64 B,.int .i64 C].length then some (V.agg (azw 3 [V.int .i64 z,.int .i64 B,.int .i64 C]))else none)=some (V.agg (aK ⟨z,B,C⟩)):=rfl
  have Bq:cO (aR.cells [.int .i64 (u:Int),.int .i64 z,.int .i64 B,.int .i64 C] 173 none) 1=some [.int .i64 z,.int .i64 B,.int .i64 C]:=rfl;have bk:I2 (some 0) (.at (al v++gU))=some (.at (al v++gU)):=rfl;simp only[ae,ds,apW,Gi,ab1,aqH,E,aa,X,W,Y,dL,ld,co,Ag];rw[<-bP];clear bP;simp only[ae,ds,AS,By,Qm,aY,b8,g2];refine aS.cS none_ [] (.q 0 (.q 1 (.q 2 (.q 3 (.q 4 (.q 5 (.q 6 (.q 7 (.q 8 (.q 9 (.q 10 .done))))))))))) ?_;have jj:cJ (some none) (some (al v++gU))=some (.int .i64 v.kind):=rfl;by_cases Eb:v.kind=5
  ·have c5:(v.kind==5)=true:=by simpa using Eb
   have ME:partOf d (u:Int) z=tk d.c.p d.c.l z:=by unfold partOf;rw[c0,if_pos Eb]
   simp only[ae,bt,ds,AS,Vx,km,hb,LI,kH,aY,Gi,E,b8,g2,Q,rH,jj,c5];refine aS.cS none_ [] (.q 0 (.q 1 (.q 2 (.q 3 (.q 4 (.q 5 (.q 6 (.c 7 (.q 8 .done))))))))) ?_;simp only[ae,bt,ds,AS,By,Vy,vx,LI,bR,jh,Gi,E,b8,g2,Q];refine fA rfl rfl rfl (λh' hk=>afC d.c.l d.c.p z o.ok h' (by rcases hk with hk|rfl;exact Fm.ai hk;exact Fm)) ?_
   simp only[ae,bt,ds,AS,Vx,Vy,aY,dM,L,Q,Bq];refine cA (JW (tk d.c.p d.c.l z) ⟨z,B,C⟩ false) λr bM ⟨jB,rI,eK,t5,xh⟩=>?_;subst jB;simp only[ae,ds,W,pv];exact ar ⟨(i+1,rI,eK),⟨E,G,L,aa,X,rfl,O,by
    rw[p4,<-RJ d];unfold Bu;simp only[ME];exact t5,M.trans xh⟩,by simp only;omega⟩
  ·have c5:(v.kind==5)=false:=by simpa using Eb
   have ME:partOf d (u:Int) z=d.q:=by unfold partOf;rw[c0,if_neg Eb]
   simp only[ae,bt,ds,AS,By,Vx,Vy,km,hb,LI,kH,aY,Gi,dM,E,L,b8,g2,Q,rH,jj,c5];refine cA (JW (d.q) ⟨z,B,C⟩ false) λr bM ⟨jB,rI,eK,t5,xh⟩=>?_;subst jB;simp only[ae,ds,W,pv];exact ar ⟨(i+1,rI,eK),⟨E,G,L,aa,X,rfl,O,by
    rw[p4,<-RJ d];unfold Bu;simp only[ME];exact t5,M.trans xh⟩,by simp only;omega⟩
 have Y:=eC (a:=i) (b:=x.outs.length) (by omega)
 have Hd:i=x.outs.length:=by omega
 subst Hd;rw[ajz (BY _)]at N;simp only[ae,ds,AS,By,abl,wF,abP,G,X,W,Y,bZ];clear dH en aa X W hi O;refine aS.bI (α:=Nat×pj×cT) (λy f h'=>f 2=.ptr h.n 0/\f 3=.ptr (h.n+1) 0/\f 4=.func (.func 91) [] [.ptr h.n 0]/\f 56=.af x.chgs.length (x.chgs.flatMap aQ)/\f 57=.int .i64 (x.chgs.length:Nat)/\f 58=.int .i64 (y.1:Nat)/\y.1<=x.chgs.length /\
   fP h' y.2.2 id k y.2.1 d (oh s (x.outs.map (Bu d s)++((x.verts.zip x.chgs).take y.1).flatMap (tp d s)))/\ig id H ow h' y.2.2) (λy=>x.chgs.length-y.1) (0,cE,Z)
  ⟨E,G,L,rfl,rfl,rfl,Dy _,by simpa using N,A⟩ ?_
 clear N A bZ E G L
 rintro⟨i,cE,Z⟩ f h1 ⟨E,G,L,T,S,F,hi,N,A⟩
 simp only at F hi N A;refine wpS ?_;have dH:=EJ A;have bZ:=OO A;have en:=A.ai.n;by_cases O:i<x.chgs.length
 ·have Y:=dV (a:=i) (b:=x.chgs.length) (by omega)
  have pv:=mQ O (by omega)
  have dL:=Wx (kk:=.i64) O;have nP:i<x.verts.length:=by omega
  have rH:=QI nP iS;have p4:(x.verts.zip x.chgs).take (i+1)=(x.verts.zip x.chgs).take i++[(x.verts[i],x.chgs[i])]:=by rw[azi (by rw[aBk];omega)];simp
  have aW:(((x.verts.zip x.chgs).take i).flatMap (tp d s)).length<=i*2:=by rw[JV (enc:=tp d s) (sz:=2) (λ_=>rfl),TY];exact Nat.mul_le_mul_right _ (Nat.min_le_left _ _)
  generalize x.verts[i]=rh at rH p4;generalize x.chgs[i]=m at dL p4;have ld:∀r,cJ (some (some 5)) (some (aQ m++r))=some (.agg (aQ m)):=λr=>be (qh m);have co:(V.agg (aQ m)).cells=some (aQ m):=rfl;have Ag:bA (some 5) (aR.cells [.int .i64 0,.int .i64 0,.int .i64 0,.int .i64 0,.bool false] 110 none) 0 (aQ m)=some (.cells (aQ m) 110 none):=rfl;have dc:∀U:I,cO (aR.cells (aQ m) 110 none) 0=some (aQ m):=λ_=>rfl;have bm:cJ (some (some 5)) (some (aQ m))=some (.agg (aQ m)):=rfl;obtain⟨ca,bP,k2,Q,_⟩:=b0 h1 (.cells (aQ m) 110 none);have M:ig id H ow ca Z:=A.trans (ig.push A.aX k2);have t2:=N.ba k2;simp only[ae,ds,ou,oR,qS,T,S,F,Y,dL,ld,co,Ag];rw[<-bP];clear bP;have aZ:(if 5<=(aQ m).length then some (V.agg (azw 5 (aQ m)))else none)=some (.agg (aQ m)):=rfl
  simp only[ae,ds,aZ];refine bO (awG m ca) ?_;simp only[ae,ds,rL];clear Q dH bZ en k2 N A;refine aS.bI (α:=Nat×pj×cT) (λy f h'=>f 2=.ptr h.n 0/\f 3=.ptr (h.n+1) 0/\f 4=.func (.func 91) [] [.ptr h.n 0]/\f 56=.af x.chgs.length (x.chgs.flatMap aQ)/\f 57=.int .i64 (x.chgs.length:Nat)/\f 58=.int .i64 (i:Nat)/\f 8=.int .i64 (i:Nat) /\
    f 11=.af 2 (vp [false,m.del])/\f 68=.af 2 ([y7 m,uJ m].flatMap aK)/\f 69=.int .i64 2/\f 70=.int .i64 (y.1:Nat)/\y.1<=2 /\
    fP h' y.2.2 id k y.2.1 d (oh s ((x.outs.map (Bu d s)++((x.verts.zip x.chgs).take i).flatMap (tp d s))++(tp d s (rh,m)).take y.1))/\ig id H ow h' y.2.2) (λy=>2-y.1) (0,cE,Z)
   ⟨E,G,L,T,S,F,rfl,rfl,rfl,rfl,rfl,Dy _,by rw[aAu,axX];exact t2,M⟩ ?_
  clear t2 M E G L T S F
  rintro⟨j,iI,hC⟩ f aC ⟨E,G,L,T,S,F,f8,az,aB,ah,ad,aN,t3,qI⟩
  simp only at ad aN t3 qI;refine wpS ?_;have gQ:=EJ qI;have a3:=OO qI;have n3:=qI.ai.n;by_cases yw:j<2
  ·have bu:decide ((j:Int)<2)=true:=decide_eq_true (by omega)
   have Bv:=mQ yw (by omega)
   have bV:gP mc 25 (.af 2 ([y7 m,uJ m].flatMap aK)) (.int .i64 (j:Int))=some (.at (aK [y7 m,uJ m][j]++([y7 m,uJ m].drop (j+1)).flatMap aK)):=RH (l:=[y7 m,uJ m]) (kk:=.i64) (k:=j) yw;have EE:=UP (P:=mc) (l:=[false,m.del]) (kk:=.i64) (k:=j) yw VV;rw[show [false,m.del].length=2 from rfl]at EE
   have EA:(tp d s (rh,m)).take (j+1)=(tp d s (rh,m)).take j++[sP d s 1 rh d.q [y7 m,uJ m][j] [false,m.del][j]]:=by
    rw[azi (show j<(tp d s (rh,m)).length from yw)]
    have:j=0\/j=1:=by omega
    rcases this with rfl|rfl<;>rfl
   have bn:((tp d s (rh,m)).take j).length<=2:=by rw[TY];exact Nat.min_le_right _ _
   generalize [y7 m,uJ m][j]=R at bV EA;generalize [false,m.del][j]=D at EE EA;have jC:∀q,cJ (some (some 3)) (some (aK R++q))=some (.agg (aK R)):=λq=>be (Ae R);have Ad:(V.agg (aK R)).cells=some (aK R):=rfl;have OP:bA (some 3) (aR.cells [.int .i64 0,.int .i64 0,.int .i64 0] 45 none) 0 (aK R)=some (.cells (aK R) 45 none):=rfl;have eT:(if 3<=(aK R).length then some (V.agg (azw 3 (aK R)))else none)=some (.agg (aK R)):=rfl
   have bg:cJ (some (some 3)) (some (aK R))=some (.agg (aK R)):=rfl;have Bq:cO (aR.cells (aK R) 45 none) 0=some (aK R):=rfl;obtain⟨mF,mr,cx,bh,_⟩:=b0 aC (.cells (aK R) 45 none);have p3:ig id H ow mF hC:=qI.trans (ig.push qI.aX cx);have t4:=t3.ba cx;have pr:=EJ p3;have a4:=OO p3;have n4:=p3.ai.n;have g4:=t4.get;unfold hI at g4;have JW:=YY o t4 (s5.ai p3.ai) p3.aX pr (by omega) ((p3.bD _ (by omega)).trans ob) (by simp only[oh,Dx,axT];omega) 1 rh d.q R D
   simp only[ae,ds,dM,tg,vz,aB,ah,ad,bu,bV,jC,Ad,OP];rw[<-mr];clear mr;refine aS.xr (λq=>(hC q).1=id+1) [15] (.q 0 (.q 1 (.q 2 (.q 3 (.q 4 (.q 5 (.q 6 (.q 7 (.q 8 (.q 9 (.q 10 (.q 11 (.q 12 (.q 13 (.q 14 (.a 15 .done)))))))))))))))) ?_;simp only[ae,bt,fo,ds,AS,By,Vs,Qm,aY,Gi,qR,dM,hL,E,G,L,f8,az,a4,pr,g4,bh,rH,EE,bg,Bq];refine cA JW λr bM ⟨jB,rI,eK,t5,xh⟩=>?_;subst jB;have kK:=xh.ai;simp only[ae,bt,fo,ds,ad,Bv];exact ar ⟨(j+1,rI,eK),⟨E,G,L,T,S,F,f8,az,aB,ah,rfl,yw,by
    rw[EA,<-axV,<-RJ d];exact t5,p3.trans xh⟩,by simp only;omega⟩
  have bu:decide ((j:Int)<2)=false:=decide_eq_false (by omega)
  have Y0:j=2:=by omega
  subst Y0;simp only[ae,ds,Vt,VP,G,F,ah,ad,bu,pv];exact ar ⟨(i+1,iI,hC),⟨E,G,L,T,S,rfl,O,by
   rw[show(tp d s (rh,m)).take 2=tp d s (rh,m)from rfl]at t3
   rw[p4,azo,<-axV,azh,List.flatMap_nil,axX];exact t3,qI⟩,by simp only;omega⟩
 have Y:=eC (a:=i) (b:=x.chgs.length) (by omega)
 have Hd:i=x.chgs.length:=by omega
 subst Hd;rw[ajz (by rw[aBk];omega)]at N
 simp only[ae,ds,AS,By,Vt,abK,VP,G,S,F,Y,bZ];clear dH en T S F hi O;refine aS.bI (α:=Nat×pj×cT) (λy f h'=>f 2=.ptr h.n 0/\f 3=.ptr (h.n+1) 0/\f 4=.func (.func 91) [] [.ptr h.n 0]/\f 94=.af x.deads.length (x.deads.flatMap q6)/\f 95=.int .i64 (x.deads.length:Nat)/\f 96=.int .i64 (y.1:Nat)/\y.1<=x.deads.length /\
   fP h' y.2.2 id k y.2.1 d (oh s (x.outs.map (Bu d s)++(x.verts.zip x.chgs).flatMap (tp d s)++(x.deads.take y.1).map (ON d s)))/\ig id H ow h' y.2.2) (λy=>x.deads.length-y.1) (0,cE,Z)
  ⟨E,G,L,rfl,rfl,rfl,Dy _,by simpa using N,A⟩ ?_
 clear N A bZ E G L
 rintro⟨i,cE,Z⟩ f h1 ⟨E,G,L,aG,aq,ag,hi,N,A⟩
 simp only at ag hi N A;refine wpS ?_;by_cases O:i<x.deads.length
 ·have Y:=dV (a:=i) (b:=x.deads.length) (by omega)
  have pv:=mQ O (by omega)
  have dL:=tR (P:=mc) (kk:=.i64) Rk O aqs;have p4:(x.deads.take (i+1)).map (ON d s)=(x.deads.take i).map (ON d s)++[ON d s x.deads[i]]:=by rw[azi O,azp];rfl
  generalize x.deads[i]=q at dL p4;obtain⟨Dq,⟨z,B,C⟩,Hk⟩:=q;have ld:∀r,cJ (some (some 5)) (some (q6 (Dq,⟨z,B,C⟩,Hk)++r))=some (.agg (q6 (Dq,⟨z,B,C⟩,Hk))):=λr=>be (Rk _);have co:(V.agg (q6 (Dq,⟨z,B,C⟩,Hk))).cells=some [.int .i64 Dq,.int .i64 z,.int .i64 B,.int .i64 C,.int .i64 Hk]:=rfl;have Ag:bA (some 5) (aR.cells [.int .i64 0,.int .i64 0,.int .i64 0,.int .i64 0,.int .i64 0] 177 none) 0 [.int .i64 Dq,.int .i64 z,.int .i64 B,.int .i64 C,.int .i64 Hk]=some (.cells [.int .i64 Dq,.int .i64 z,.int .i64 B,.int .i64 C,.int .i64 Hk] 177 none):=rfl;obtain⟨ca,bP,k2,Q,_⟩:=b0 h1 (.cells [.int .i64 Dq,.int .i64 z,.int .i64 B,.int .i64 C,.int .i64 Hk] 177 none);have M:ig id H ow ca Z:=A.trans (ig.push A.aX k2);have t2:=N.ba k2;have b8:=EJ M;have g2:=t2.get;unfold hI at g2;have dd:=M.ai.n;have aW:((x.verts.zip x.chgs).flatMap (tp d s)).length<=2^23:=by rw[JV (enc:=tp d s) (sz:=2) (λ_=>rfl),aBk];omega
  have JW:=YY o t2 (s5.ai M.ai) M.aX b8 (by omega) ((M.bD _ (by omega)).trans ob) (by simp only[oh,Dx,axT,TY];omega) 2 Dq d.q ⟨z,B,C⟩ false
  simp only[ae,ds,apX,ab2,aqI,aG,aq,ag,Y,dL,ld,co,Ag];rw[<-bP];clear bP;refine aS.xr (λq=>(Z q).1=id+1) [9] (.q 0 (.q 1 (.q 2 (.q 3 (.q 4 (.q 5 (.q 6 (.q 7 (.q 8 (.a 9 .done)))))))))) ?_;simp only[ae,bt,fo,ds,AS,By,apE,apF,Qm,aY,Gi,dM,E,L,b8,g2,Q];refine cA JW λr bM ⟨jB,rI,eK,t5,xh⟩=>?_;subst jB;have kK:=xh.ai;simp only[ae,bt,fo,ds,ag,pv];exact ar ⟨(i+1,rI,eK),⟨E,G,L,aG,aq,rfl,O,by
   rw[p4,<-axV,<-RJ d];exact t5,M.trans xh⟩,by simp only;omega⟩
 have Y:=eC (a:=i) (b:=x.deads.length) (by omega)
 have Hd:i=x.deads.length:=by omega
 subst Hd;rw[ajz (BY _)]at N;simp only[ae,aq,ag,Y,k6,Tryz.results41,hK];exact ar ⟨rfl,cE,Z,N,⟨bo.up.trans A.ai λq ab e=>e,λq ab=>A.bD q (by omega),A.aX⟩⟩
end
structure p5(id:Nat)(h:I)(ow:cT)(h':I)(ow':cT):Prop where
 ai:J h h' (λq=>(ow q).1=id\/(ow q).1=id+1)
 bD:∀q,q<h.n->ow' q=ow q
 aX:Fr h' ow'
theorem p5.refl{id:Nat}{h:I}{ow:cT}(f:Fr h ow):p5 id h ow h ow:=⟨J.refl _ _,λ_ _=>rfl,f⟩
theorem p5.trans{id:Nat}{h j s:I}{ow u z:cT}(a:p5 id h ow j u)(b:p5 id j u s z):p5 id h ow s z :=
 ⟨a.ai.trans b.ai λq i A=>by rw[<-a.bD q i];exact A,λq i=>(b.bD q (IS i a.ai.n)).trans (a.bD q i),b.aX⟩
theorem p5.push{id:Nat}{h h':I}{ow:cT}(f:Fr h ow)(k:J h h' none_):p5 id h ow h' ow:=⟨k.up,λ_ _=>rfl,λq i=>f q (ajy k.n i)⟩
theorem ig.TD{id:Nat}{h h':I}{ow ow':cT}(a:ig id h ow h' ow'):p5 id h ow h' ow':=⟨a.ai.mono λ_ e=>.inr e,a.bD,a.aX⟩
section
variable {h h':I} {ow ow':cT} {id k:Nat} {w:pj} {d:fO} {s:eU}
theorem fP.RK(t:fP h ow id k w d s)(j:J h h' (λq=>(ow q).1=id))(u:∀q,q<h.n->ow' q=ow q){z:fs}(A:hf h' ow' id w.m w.b d.c z):fP h' ow' id k w d { s with m:=z } :=
 ⟨IS t.lt j.n,(j.get k t.lt (by rw[t.own];simp)).trans t.get,(u _ t.lt).trans t.own,A,
  t.o.ai j (λq i U=>by rw[t.gT q (cy.2 i)]at U;simp at U),t.vX.ai j (λq i U=>by rw[t.kk q (cy.2 i)]at U;simp at U),t.ro.ai j (λq i U=>by rw[t.gU q (cy.2 i)]at U;simp at U),
  t.gT.bD (λq i=>t.o.lt q (cy.1 i)) u,t.kk.bD (λq i=>t.vX.lt q (cy.1 i)) u,t.gU.bD (λq i=>t.ro.lt q (cy.1 i)) u,t.Fl,t.Hh⟩
theorem fP.r4(t:fP h ow id k w d s)(i:J h h' (a7 w.cq)){A:List Int}(o':Own h' 3 1 w.cq (ao A)):fP h' ow id k w d { s with offs:=A }:=by
 have u:∀q,a7 w.cq q->ow q=(id+1,2):=λq U=>t.gT q (cy.2 U);exact⟨IS t.lt i.n,(i.get k t.lt λU=>by have:=u k U;rw[t.own]at this;simp at this).trans t.get,t.own,t.eb.ai i (λq z U=>by rw[u q U];simp) λ_ _=>rfl,
  o',t.vX.ai i (λq z U=>by have j:=t.kk q (cy.2 z);rw[u q U]at j;simp at j),t.ro.ai i (λq z U=>by have j:=t.gU q (cy.2 z);rw[u q U]at j;simp at j),t.gT,t.kk,t.gU,t.Fl,t.Hh⟩
theorem aiF(h:I)(a:Int):h3 mc 46 1 [(0,.int .i64 a)] h=some (.bg h.n 0 1 1,h.push (.cells [.int .i64 a] 3 none)):=by rw[mD oQ];rfl
theorem awV(t:fP h ow id k w d s)(f:Fr h ow)(T:s.order.length<=2^36)(x:Int) :
  ∃v a,ki mc 46 46 w.vr (.bg h.n 0 1 1) (h.push (.cells [.int .i64 x] 3 none))=some (v,a)/\a.get k=.cells (hI w d s) 95 none/\v.one=true/\v.cells=some [v]/\J h a (λq=>a7 w.vr q) /\
   ∃ow',fP (a.set k (.cells (hI { w with vr:=v } d { s with order:=s.order++[x] }) 95 none)) ow' id k { w with vr:=v } d { s with order:=s.order++[x] }/\ig id h ow (a.set k (.cells (hI { w with vr:=v } d { s with order:=s.order++[x] }) 95 none)) ow':=by
 have D:J h (h.push (.cells [.int .i64 x] 3 none)) none_:=J.push _ _ _;have lo:(ao s.order).length=s.order.length:=am _;have F:Own (h.push (.cells [V.int .i64 x] 3 none)) 3 1 (.bg h.n 0 1 1) [V.int .i64 x]:=Own.e4 [V.int .i64 x] 1 rfl (by decide)
 have G:=tc (P:=mc) (t:=46) fB F (n:=1) rfl (by decide) rfl
 obtain⟨v,a,H,u,L,M⟩:=sj (P:=mc) (t:=46) (tx:=46) oQ (by decide) (t.ro.ba D) G rfl (λm C=>by
  change m*1=_ at C;rw[lo]at C;simp at C;exact⟨by simp only[lim];omega,by simp only[lim];omega⟩)
 have u:Own a 3 1 v (ao (s.order++[x])):=by rw[show ao (s.order++[x])=ao s.order++[V.int .i64 x]from azp];exact u
 have z:J h a (a7 w.vr):=D.up.trans' L;have N:=z.n;have A:∀q,q<h.n->dF ow h.n a.n (id+1,4) q=ow q:=λq i=>Av i;have B:∀q,a7 w.vr q->ow q=(id+1,4):=λq U=>t.gU q (cy.2 U);have O:¬a7 w.vr k:=λU=>by have:=B k U;rw[t.own]at this;simp at this
 have E:J h a (λq=>(ow q).1=id+1):=z.mono λq U=>by rw[B q U]
 have Q:v≠.z0:=ait u (by simp[ao])
 have R:nF (dF ow h.n a.n (id+1,4)) (id+1,4) (gr v):=λq i=>by
  rcases M with e|e
  ·have j:aU w.vr=some q:=by rw[<-e];exact cy.1 i
   rw[Av (t.ro.lt q j)];exact B q j
  ·have j:=e q (cy.1 i);have a:=u.lt q (cy.1 i);rw[df]at j;exact NB (by omega) a
 have S:Fr a (dF ow h.n a.n (id+1,4)):=λq i=>by unfold dF;rw[if_neg (by omega)];exact f q (by omega)
 refine⟨v,a,H,(z.get k t.lt O).trans t.get,?_,?_,z,dF ow h.n a.n (id+1,4),?_,?_⟩
 ·rcases u with⟨rfl|rfl,_⟩|⟨_,_,_,_,_,rfl,_⟩<;>rfl
 ·rcases u with⟨rfl|rfl,_⟩|⟨_,_,_,_,_,rfl,_⟩<;>rfl
 ·refine fP.yy (w:={ w with vr:=v }) (s:={ s with order:=s.order++[x] }) (IS t.lt N) ((A _ t.lt).trans t.own) (t.eb.ai E (λq i U=>by rw[U];simp) A) (t.o.ai z λq i U=>?_) (t.vX.ai z λq i U=>?_) u (t.gT.bD (λq i=>t.o.lt q (cy.1 i)) A) (t.kk.bD (λq i=>t.vX.lt q (cy.1 i)) A) R t.Fl Q
  ·have j:=t.gT q (cy.2 i);rw[B q U]at j;simp at j
  ·have j:=t.kk q (cy.2 i);rw[B q U]at j;simp at j
 ·exact⟨E.trans (J.set _ _ _) λq i U=>by rw[U,t.own],A,S⟩
end
end Go.Proofs.YtemdgidnhgcafaaGreatDoor.Pk
