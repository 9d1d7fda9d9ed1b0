/-
  What functions of the program do, told of abstract states. Conditions: as each theorem says.
-/
import Derived.Test.YtemdgidnhgcafaaGreatDoorNh
import Derived.Test.YtemdgidnhgcafaaGreatDoorAcD
import Derived.Shelf.SlSortCmp.WholeK
import Derived.Test.YtemdgidnhgcafaaGreatDoorProg
import Derived.Test.YtemdgidnhgcafaaGreatDoorNd
open Nat renaming lt_of_lt_of_le->IS,reduceEqDiff->ds,reduceAdd->AS,reduceLeDiff->By,le_trans->ajy,le_refl->BY,mul_one->ajD,zero_add->ayP,zero_le->Dy
open Go.Proofs.Tryz renaming prog->mc,results51->aGq,results50->aGr,func53->aGs,results53->aBV,func38->aDy,results38->aBW,func54->aGt,func96->aGu,func97->aBR,func123->aGv,func131->aCp,func132->aBQ,func160->aCq,func161->aCr,underlying0->aCs,isAgg0->aCt,sizeOf0->aCu,zeroValue0->aCv,underlying3->aBd,isAgg3->aCw,sizeOf3->aCx,zeroValue3->aCy,underlying4->aCz,isAgg4->aCA,sizeOf4->aCB,zeroValue4->aCC,underlying5->aCD,isAgg5->aCE,sizeOf5->aCF,zeroValue5->aCG,underlying9->aCH,isAgg9->aCI,sizeOf9->aCJ,zeroValue9->aCK,underlying189->aCL,isAgg189->aCM,sizeOf189->aCN,zeroValue189->aCO,underlying228->aCP,isAgg228->aCQ,sizeOf228->aCR,zeroValue228->aCS,underlying229->aCT,isAgg229->aCU,sizeOf229->aCV,zeroValue229->aCW,underlying233->aCX,isAgg233->aCY,sizeOf233->aCZ,zeroValue233->aC0,underlying236->aC1,isAgg236->aC2,sizeOf236->aC3,zeroValue236->aC4,underlying131->aC5,isAgg131->aC6,sizeOf131->aC7,zeroValue131->aC8,underlying270->aC9,isAgg270->aDa,sizeOf270->aDb,zeroValue270->aDc,underlying274->aDd,isAgg274->aDe,sizeOf274->aDf,zeroValue274->aDg,underlying310->aDh,isAgg310->aDi,sizeOf310->aDj,zeroValue310->aDk,underlying82->aDl,isAgg82->aDm,sizeOf82->aDn,zeroValue82->aDo,func57->aGw,func99->aGx,func133->aGy,results56->aEC,func55->aGz,func58->aGA
open List renaming flatMap_append->azo,length_cons->axW,length_nil->ayK,length_append->Dx,length_eq_zero_iff->aAm,reverse_eq_nil_iff->aEB,reverse_reverse->aDz,reverse_cons->aDA,nodup_cons->azQ,mem_map->OF,mem_cons->Iz,pairwise_cons->aze,Pairwise->azV,map_append->azp,mem_append_left->aAn,map_cons->axU,sum_cons->aDt
open Int renaming reduceNeg->IN
open Bool renaming eq_iff_iff->azm
open Go renaming IntKind->aOT
set_option linter.unusedVariables false
set_option linter.unusedSimpArgs false
set_option maxHeartbeats 4000000
set_option maxRecDepth 20000
namespace Go.Proofs.YtemdgidnhgcafaaGreatDoor.Pk
open Go Go.Proofs Go.Proofs.YtemdgidnhgcafaaGreatDoor.Ab Go.Proofs.Vw
theorem j8.on{s h h':I}{lm ck u z:Nat}{logs:Int->List ei}{tasks:Int->Option ks}{L T:kW}{ow:gN}(w:j8 s h lm ck logs tasks L u T z ow)(k:J h h' none_):j8 s h' lm ck logs tasks L u T z ow where
 ai:=w.ai.trans' k
 bD q bs i:=⟨(w.bD q bs i).1,IS (w.bD q bs i).2 k.n⟩
 hV:=w.hV
 iB:=w.iB
 pz:=(k.get lm (w.bD _ _ w.hV).2 (by simp[none_])).trans w.pz
 gt:=(k.get ck (w.bD _ _ w.iB).2 (by simp[none_])).trans w.gt
 nU:=w.nU
 nV:=w.nV
 lp:=w.lp
 lq:=w.lq
 has q b i:=⟨(w.has q b i).1.on k (λ_ U=>U.elim) (λ_ _ U=>U) λq bs U=>(w.bD q bs U).2,(w.has q b i).2⟩
 kX:=w.kX
 kY t b i:=by
  obtain⟨j,A,B⟩:=w.kY t b i;exact⟨j,A,B.on k (λ_ U=>U.elim) (λ_ _ U=>U) λq bs U=>(w.bD q bs U).2⟩
 kZ:=w.kZ
def ve:ks:=⟨0,0,[],[],[]⟩
def named(tasks:Int->Option ks)(t:Int):Int->Option ks:=λn=>if n=t then some ((tasks t).getD ve)else tasks n
theorem agW{Z h:I}{B s lc C:Nat}{logs:Int->List ei}{tasks:Int->Option ks}{L T:kW}{ow:gN}(t:Int)(w:j8 Z h B s logs tasks L lc T C ow) :
  au mc 51 [.agg [.map B,.map s],.int .i64 t] h (λr h'=>∃b F W ow',r=.ptr b 0/\bQ F t=some b/\j8 Z h' B s logs (named tasks t) L lc F W ow'/\J h h' (λq=>q=s)/\(∀q m,ow' q=some m->ow q=some m\/h.n<=q)):=by
 refine bd Tryz.func51 rfl ?_;obtain⟨H,hH,N,vT,ib⟩:=b0 h (.cells [.map B,.map s] 74 none);have X:=w.on N;have av:(V.agg [.map B,.map s]).cells=some [.map B,.map s]:=rfl;have O:=avM T t X.gt;simp only[ae,ds,AS,By,VD,VO,av];rw[<-hH];clear hH;cases G:bQ T t with
 | some b=>
  rw[G]at O;obtain⟨j,aN,_⟩:=w.kY t b G;have Nt:named tasks t=tasks:=by
   funext n
   unfold named;split
   ·rename_i U;rw[U,aN];rfl
   ·rfl
  simp only[ae,ds,O,aP,aGq,ac];exact ar ⟨b,T,C,ow,rfl,G,by rw[Nt];exact X,N.up,λ_ _ U=>.inl U⟩
 | none=>
  rw[G]at O;have bB:=w.kZ t G;obtain⟨ca,bP,Q,r7,dd⟩:=b0 H (.cells [.int .i64 t,.int .i64 0,.int .i64 0,.ag,.ag,.int .i64 0,.ag] 125 none);have D:=X.on Q;have E7:=(Q.get h.n (by omega) (by simp[none_])).trans vT
  have rS:=Yq T t H.n D.gt;simp only[ae,ds,AS,By,VD,VO,ap3,abS,aqt,Eo,O];rw[<-bP];clear bP;simp only[ae,ds,AS,By,E7,rS,aP,aGq,ac];have E:J ca (ca.set s (.map (ie (cz C T t H.n)) (eY C T t))) (·=s):=J.set _ _ _;have RS:=w.bD _ _ w.iB;have aa:=w.bD _ _ w.hV;have lW:ow H.n=none:=by
   cases a:ow H.n with
   | none=>rfl
   | some m=>have:=(w.bD _ _ a).2;omega
  obtain⟨ow',z⟩:∃g:gN,g=λq=>if q=H.n then some (1,t,0)else ow q:=⟨_,rfl⟩
  have R:∀q m,ow q=some m->ow' q=some m:=λq m a=>by
   rw[z];simp only;rw[if_neg (λU=>by rw[U,lW]at a;cases a)];exact a
  have jw:ow' H.n=some (1,t,0):=by rw[z];simp
  refine ar ⟨H.n,cz C T t H.n,eY C T t,ow',rfl,by rw[yO,if_pos rfl],?_,((N.trans' Q).up).trans E λq a U=>U,λq m a=>by
   rw[z]at a;simp only at a;split at a
   ·exact .inr (by omega)
   ·exact .inl a⟩
  refine⟨(w.ai.trans' (N.trans' Q)).trans E λq a U=>by omega,λq m a=>?_,R _ _ w.hV,R _ _ w.iB,?_,aL,w.nU,eg.cz w.nV t H.n,w.lp,w.lq.set C t H.n,λk b a=>?_,w.kX,λu b a=>?_,λu a=>?_⟩
  ·rw[z]at a;simp only at a;split at a
   ·have:=w.ai.n;rw[kj];omega
   ·have:=w.bD q m a;rw[kj];omega
  ·exact(E.get B (by omega) (λU=>by have S:=w.hV;have Y:=w.iB;rw[U,Y]at S;simp at S)).trans D.pz
  ·refine⟨(D.has k b a).1.on E (λq U i M=>?_) R λq m U=>(D.bD q m U).2,(D.has k b a).2⟩;rw[U,w.iB]at M;simp at M
  ·rw[yO]at a;by_cases A:u=t
   ·rw[if_pos A]at a;injection a with a;subst a;subst A;refine⟨ve,by unfold named;rw[if_pos rfl,bB];rfl,.ag,.ag,.ag,(E.get H.n (by omega) (by omega)).trans r7,.inl ⟨rfl,rfl⟩,Own.ag _ _ _,Own.ag _ _ _,jw,λq U=>by simp[aU]at U,λq U=>by simp[aU]at U⟩
   ·rw[if_neg A]at a;obtain⟨j,S,Y⟩:=D.kY u b a;refine⟨j,by unfold named;rw[if_neg A];exact S,Y.on E (λq U i M=>?_) R λq m U=>(D.bD q m U).2⟩
    rw[U,w.iB]at M;simp at M
  ·rw[yO]at a;by_cases A:u=t
   ·rw[if_pos A]at a;cases a
   ·rw[if_neg A]at a;unfold named;rw[if_neg A];exact w.kZ u a
theorem j8.xa{E h h':I}{lm ck F G:Nat}{logs:Int->List ei}{tasks:Int->Option ks}{L T:kW}{ow ow':gN}(w:j8 E h lm ck logs tasks L F T G ow){t:Int}{b:Nat}{j:ks}{own:Nat->Prop}
  (ak:bQ T t=some b) (k:J h h' own) (B:∀q,own q->∃i,ow q=some (1,t,i)) (D:∀q bs,ow q=some bs->ow' q=some bs) (C:∀q bs,ow' q=some bs->ow q=some bs\/(h.n<=q/\q<h'.n)) (a:nt h' ow' b t j) :
  j8 E h' lm ck logs (λn=>if n=t then some j else tasks n) L F T G ow' where
 ai:=w.ai.trans k λq s U=>by
  obtain⟨i,hi⟩:=B q U;have:=(w.bD _ _ hi).1;omega
 bD q bs s:=by
  rcases C q bs s with U|U
  ·have:=w.bD q bs U;have:=k.n;omega
  ·have:=w.ai.n;omega
 hV:=D _ _ w.hV
 iB:=D _ _ w.iB
 pz:=(k.get lm (w.bD _ _ w.hV).2 (λU=>by obtain⟨i,hi⟩:=B _ U;rw[w.hV]at hi;simp at hi)).trans w.pz
 gt:=(k.get ck (w.bD _ _ w.iB).2 (λU=>by obtain⟨i,hi⟩:=B _ U;rw[w.iB]at hi;simp at hi)).trans w.gt
 nU:=w.nU
 nV:=w.nV
 lp:=w.lp
 lq:=w.lq
 has q c s:=⟨(w.has q c s).1.on k (λp U i z=>by obtain⟨H,hi⟩:=B _ U;rw[hi]at z;simp at z) D λq bs U=>(w.bD q bs U).2,(w.has q c s).2⟩
 kX:=w.kX
 kY u c s:=by
  by_cases A:u=t
  ·subst A;rw[ak]at s;injection s with s;subst s;exact⟨j,by simp,a⟩
  ·obtain⟨M,N,O⟩:=w.kY u c s;exact⟨M,by simp[A,N],O.on k (λp U i z=>by obtain⟨H,hi⟩:=B _ U;rw[hi]at z;simp at z;exact A z.1.symm) D λq bs U=>(w.bD q bs U).2⟩
 kZ u s:=by
  by_cases A:u=t
  ·subst A;rw[ak]at s;cases s
  ·simp[A,w.kZ u s]
def nu(j:ks)(e:Int):ks:=if j.ep<e then { j with ep:=e,opn:=[] }else j
theorem avO{u h:I}{z A B C:Nat}{logs:Int->List ei}{tasks:Int->Option ks}{L T:kW}{ow:gN}(w:j8 u h z A logs tasks L B T C ow){t e:Int}{b:Nat}{j:ks}(ak:bQ T t=some b)(E:tasks t=some j) :
  au mc 52 [.ptr b 0,.int .i64 e] h (λr h'=>r=.tuple []/\j8 u h' z A logs (λn=>if n=t then some (nu j e)else tasks n) L B T C ow/\J h h' (λq=>∃s,ow q=some s)):=by
 obtain⟨G,m,a⟩:=w.kY t b ak;rw[E]at m;injection m with m;subst m;refine(avL h ow b t e j a λq s i=>(w.bD q s i).2).mono λr h' ⟨ay,k,F⟩=>?_;obtain⟨_,_,_,_,_,_,_,D,_⟩:=a;refine⟨ay,?_,k.mono λq i=>⟨(1,t,0),i▸D⟩⟩;exact w.xa ak k (λq i=>⟨0,by rw[i];exact D⟩) (λ_ _ U=>U) (λ_ _ U=>.inl U) F
theorem avP(r:uD):(kV r).all (·.one)=true:=rfl
def e9(rs:List ei):List V:=rs.flatMap λp=>kV p.1
theorem G8(rs:List ei):(e9 rs).length=rs.length*3:=fJ (enc:=λp:ei=>kV p.1) (sz:=3) (λ_=>rfl) rs
theorem Ys{h:I}{s:V}{rs:List ei}(o:Own h 45 3 s (e9 rs))(F:rs.length<=2^40)(p:ei) :
  ∃a h',ki mc 25 25 s (.bg h.n 0 1 1) (h.push (.cells (kV p.1) 45 none))=some (a,h')/\Own h' 45 3 a (e9 (rs++[p]))/\J h h' (a7 s)/\cu h s a:=by
 have j:J h (h.push (.cells (kV p.1) 45 none)) none_:=J.push _ _ _;have z:Own (h.push (.cells (kV p.1) 45 none)) 45 3 (.bg h.n 0 1 1) (kV p.1):=Own.e4 (kV p.1) 1 rfl (by decide)
 have A:=tc (P:=mc) (t:=25) rL z (n:=1) rfl (by decide) (avP p.1)
 obtain⟨a,h',B,C,D,i⟩:=sj (P:=mc) (t:=25) (tx:=25) El (by decide) (o.ba j) A rfl (λm u=>by
  change m*3=_ at u;rw[G8]at u;change m*3=_+3 at u;exact⟨by simp only[lim];omega,by simp only[lim];omega⟩)
 refine⟨a,h',B,?_,(j.up).trans' D,?_⟩
 ·unfold e9;rw[azo];simpa [e9]using C
 ·rcases i with i|i
  ·exact .inl i
  ·exact .inr λq E=>ajy j.n (i q E)
def gm(rs:List ei):List V:=rs.map λp=>V.bool p.2
theorem Yt{h:I}{s:V}{rs:List ei}(o:Own h 4 1 s (gm rs))(F:rs.length<=2^40)(p:ei) :
  ∃a h',ki mc 88 88 s (.bg h.n 0 1 1) (h.push (.cells [.bool p.2] 4 none))=some (a,h')/\Own h' 4 1 a (gm (rs++[p]))/\J h h' (a7 s)/\cu h s a:=by
 have j:J h (h.push (.cells [V.bool p.2] 4 none)) none_:=J.push _ _ _;have z:Own (h.push (.cells [V.bool p.2] 4 none)) 4 1 (.bg h.n 0 1 1) [V.bool p.2]:=Own.e4 [V.bool p.2] 1 rfl (by decide)
 have A:=tc (P:=mc) (t:=88) CF z (n:=1) rfl (by decide) rfl
 obtain⟨a,h',B,C,D,i⟩:=sj (P:=mc) (t:=88) (tx:=88) Jp (by decide) (o.ba j) A rfl (λm u=>by
  change m*1=_ at u;simp only[gm,List.length_map,axW,ayK]at u;exact⟨by simp only[lim];omega,by simp only[lim];omega⟩)
 refine⟨a,h',B,?_,(j.up).trans' D,?_⟩
 ·simpa [gm]using C
 ·rcases i with i|i
  ·exact .inl i
  ·exact .inr λq E=>ajy j.n (i q E)
theorem ag0(h:I)(r:uD):h3 mc 25 1 [(0,.agg [.int .i64 r.k,.int .i64 r.v,.int .i64 r.t])] h=some (.bg h.n 0 1 1,h.push (.cells (kV r) 45 none)):=by rw[mD El];rfl
theorem ag1(h:I)(b:Bool):h3 mc 88 1 [(0,.bool b)] h=some (.bg h.n 0 1 1,h.push (.cells [.bool b] 4 none)):=by rw[mD Jp];rfl
theorem ag2{h:I}{ow:gN}{b:Nat}{k:Int}{rs:List ei}{rv dv:V}(p:ei)(ax:rs.length<=2^40)(g:h.get b=.cells [.int .i64 k,rv,dv] 90 none)(gR:Own h 45 3 rv (e9 rs))(ec:Own h 4 1 dv (gm rs))
  (t0:ow b=some (0,k,0)) (M:∀j,aU rv=some j->ow j=some (0,k,1)) (H:∀j,aU dv=some j->ow j=some (0,k,2)) (C:∀q E,ow q=some E->q<h.n) :
  ∃u s D z ow',ki mc 25 25 rv (.bg h.n 0 1 1) (h.push (.cells (kV p.1) 45 none))=some (u,s)/\s.get b=.cells [.int .i64 k,rv,dv] 90 none/\u.one=true/\u.cells=some [u] /\
   ki mc 88 88 dv (.bg s.n 0 1 1) ((s.set b (.cells [.int .i64 k,u,dv] 90 none)).push (.cells [.bool p.2] 4 none))=some (D,z)/\z.get b=.cells [.int .i64 k,u,dv] 90 none/\D.one=true/\D.cells=some [D] /\
   J h s (λq=>a7 rv q)/\J (s.set b (.cells [.int .i64 k,u,dv] 90 none)) z (λq=>a7 dv q)/\J h s (λq=>∃i,ow q=some (0,k,i))/\J h z (λq=>∃i,ow q=some (0,k,i))/\J h (z.set b (.cells [.int .i64 k,u,D] 90 none)) (λq=>∃i,ow q=some (0,k,i)) /\
   (∀q E,ow q=some E->ow' q=some E)/\(∀q E,ow' q=some E->ow q=some E\/(h.n<=q/\q<z.n))/\pt (z.set b (.cells [.int .i64 k,u,D] 90 none)) ow' b k (rs++[p]):=by
 obtain⟨u,s,ay,W,N,Om⟩:=Ys gR ax p;have v8:=C _ _ t0;have xb:¬a7 rv b:=λU=>by have:=M b U;rw[t0]at this;simp at this
 have X:¬a7 dv b:=λU=>by have:=H b U;rw[t0]at this;simp at this
 have g2:=(N.get b v8 xb).trans g;have dd:=N.n;have Y:Own s 4 1 dv (gm rs):=ec.ai N λj m U=>by have A:=M j U;have s:=H j m;rw[A]at s;simp at s
 obtain⟨F,O⟩:∃y,y=s.set b (.cells [.int .i64 k,u,dv] 90 none):=⟨_,rfl⟩;have Z:J s F (·=b):=by rw[O];exact J.set _ _ _
 have n3:F.n=s.n:=by rw[O];rfl
 have g3:F.get b=.cells [.int .i64 k,u,dv] 90 none:=by rw[O];exact aL
 have aa:=Y.ai Z λj m U=>X (by rw[<-U];exact m)
 have Q:∀j,aU u=some j->j≠b/\(aU rv=some j\/h.n<=j):=λj m=>by
  rcases Om with e|e
  ·exact⟨λU=>xb (by rw[<-U,a7,<-e];exact m),.inl (by rw[<-e];exact m)⟩
  ·have:=e j m;exact⟨by omega,.inr this⟩
 have Ts:=W.ai Z λj m U=>(Q j m).1 U;obtain⟨D,z,hW,S,R,ag⟩:=Yt aa ax p;have n4:=R.n;have g4:=(R.get b (by omega) X).trans g3
 have Tt:=Ts.ai R λj m U=>by
  rcases(Q j m).2 with A|A
  ·have A:=M j A;have s:=H j U;rw[A]at s;simp at s
  ·have:=C _ _ (H j U);omega
 have On:∀j,aU D=some j->j≠b/\(aU dv=some j\/F.n<=j):=λj m=>by
  rcases ag with e|e
  ·exact⟨λU=>X (by rw[<-U,a7,<-e];exact m),.inl (by rw[<-e];exact m)⟩
  ·have:=e j m;exact⟨by omega,.inr this⟩
 have c6:J z (z.set b (.cells [.int .i64 k,u,D] 90 none)) (·=b):=J.set _ _ _;have c4:J h s (λq=>∃i,ow q=some (0,k,i)):=N.mono λq B=>⟨1,M q B⟩;have ez:J h F (λq=>∃i,ow q=some (0,k,i)):=c4.trans Z λq B U=>⟨0,by rw[U];exact t0⟩
 have mq:J h z (λq=>∃i,ow q=some (0,k,i)):=ez.trans R λq B U=>⟨2,H q U⟩;have kK:=mq.trans c6 λq B U=>⟨0,by rw[U];exact t0⟩
 have L:∀j,aU u=some j->aU D=some j->False:=λj A s=>by
  rcases(On j s).2 with F|F
  ·rcases(Q j A).2 with z|z
   ·have a:=M j z;have b:=H j F;rw[a]at b;simp at b
   ·have:=C _ _ (H j F);omega
  ·have:=Ts.lt j A;omega
 obtain⟨ow',G⟩:∃f:gN,f=λq=>if q<h.n then ow q else if aU u=some q then some (0,k,1)else if aU D=some q then some (0,k,2)else ow q:=⟨_,rfl⟩
 have T:∀q E,ow q=some E->ow' q=some E:=λq E B=>by rw[G];simp only;rw[if_pos (C _ _ B)];exact B
 have ah:∀j,aU u=some j->j<z.n:=λj m=>Tt.lt j m;have aq:∀j,aU D=some j->j<z.n:=λj m=>S.lt j m;refine⟨u,s,D,z,ow',ay,g2,?_,?_,by rw[<-O,<-n3];exact hW,g4,?_,?_,N,by rw[<-O];exact R,c4,mq,kK,T,λq E B=>?_,u,D,aL,Tt.ai c6 (λj m U=>(Q j m).1 U),S.ai c6 (λj m U=>(On j m).1 U),T _ _ t0,λj m=>?_,λj m=>?_⟩
 ·rcases W with⟨rfl|rfl,_⟩|⟨_,_,_,_,_,rfl,_⟩<;>rfl
 ·rcases W with⟨rfl|rfl,_⟩|⟨_,_,_,_,_,rfl,_⟩<;>rfl
 ·rcases S with⟨rfl|rfl,_⟩|⟨_,_,_,_,_,rfl,_⟩<;>rfl
 ·rcases S with⟨rfl|rfl,_⟩|⟨_,_,_,_,_,rfl,_⟩<;>rfl
 ·rw[G]at B;simp only at B;split at B
  ·exact .inl B
  ·rename_i A;split at B
   ·rename_i s;exact .inr ⟨by omega,ah _ s⟩
   ·split at B
    ·rename_i F;exact .inr ⟨by omega,aq _ F⟩
    ·exact .inl B
 ·rcases(Q j m).2 with A|A
  ·exact T _ _ (M j A)
  ·rw[G];simp only;rw[if_neg (by omega),if_pos m]
 ·rcases(On j m).2 with A|A
  ·exact T _ _ (H j A)
  ·rw[G];simp only;rw[if_neg (by omega),if_neg (λU=>L j U m),if_pos m]
theorem j8.Oo{E h h':I}{lm ck F G:Nat}{logs:Int->List ei}{tasks:Int->Option ks}{L T:kW}{ow ow':gN}(w:j8 E h lm ck logs tasks L F T G ow){k:Int}{b:Nat}{rs:List ei}{own:Nat->Prop}
  (ak:bQ L k=some b) (s:J h h' own) (B:∀q,own q->∃i,ow q=some (0,k,i)) (D:∀q bs,ow q=some bs->ow' q=some bs) (C:∀q bs,ow' q=some bs->ow q=some bs\/(h.n<=q/\q<h'.n)) (a:pt h' ow' b k rs) (H:rs≠[]) :
  j8 E h' lm ck (λn=>if n=k then rs else logs n) tasks L F T G ow' where
 ai:=w.ai.trans s λq j U=>by
  obtain⟨i,hi⟩:=B q U;have:=(w.bD _ _ hi).1;omega
 bD q bs j:=by
  rcases C q bs j with U|U
  ·have:=w.bD q bs U;have:=s.n;omega
  ·have:=w.ai.n;omega
 hV:=D _ _ w.hV
 iB:=D _ _ w.iB
 pz:=(s.get lm (w.bD _ _ w.hV).2 (λU=>by obtain⟨i,hi⟩:=B _ U;rw[w.hV]at hi;simp at hi)).trans w.pz
 gt:=(s.get ck (w.bD _ _ w.iB).2 (λU=>by obtain⟨i,hi⟩:=B _ U;rw[w.iB]at hi;simp at hi)).trans w.gt
 nU:=w.nU
 nV:=w.nV
 lp:=w.lp
 lq:=w.lq
 has u c j:=by
  by_cases z:u=k
  ·subst z;rw[ak]at j;injection j with j;subst j;simp only[if_true];exact⟨a,H⟩
  ·simp only[z,if_false];exact⟨(w.has u c j).1.on s (λp U i A=>by obtain⟨M,hi⟩:=B _ U;rw[hi]at A;simp at A;exact z A.1.symm) D λq bs U=>(w.bD q bs U).2,(w.has u c j).2⟩
 kX u j:=by
  by_cases z:u=k
  ·subst z;rw[ak]at j;cases j
  ·simp only[z,if_false];exact w.kX u j
 kY u c j:=by
  obtain⟨N,O,Q⟩:=w.kY u c j;exact⟨N,O,Q.on s (λp U i A=>by obtain⟨M,hi⟩:=B _ U;rw[hi]at A;simp at A) D λq bs U=>(w.bD q bs U).2⟩
 kZ:=w.kZ
theorem j8.Oq{M h h':I}{lm ck B N:Nat}{logs:Int->List ei}{tasks:Int->Option ks}{L T:kW}{ow ow':gN}(w:j8 M h lm ck logs tasks L B T N ow){k:Int}{b:Nat}{rs:List ei}{own:Nat->Prop}
  (ak:bQ L k=none) (C:J h h' own) (E:∀q,own q->q=lm\/h.n<=q) (H:h'.get lm=.map (ie (cz B L k b)) (eY B L k)) (F:∀q bs,ow q=some bs->ow' q=some bs) (D:∀q bs,ow' q=some bs->ow q=some bs\/(h.n<=q/\q<h'.n)) (a:pt h' ow' b k rs) (O:rs≠[]) :
  j8 M h' lm ck (λn=>if n=k then rs else logs n) tasks (cz B L k b) (eY B L k) T N ow' where
 ai:=w.ai.trans C λq j U=>by
  have:=(w.bD _ _ w.hV).1;have:=w.ai.n;rcases E q U with s|s<;>omega
 bD q bs j:=by
  rcases D q bs j with U|U
  ·have:=w.bD q bs U;have:=C.n;omega
  ·have:=w.ai.n;omega
 hV:=F _ _ w.hV
 iB:=F _ _ w.iB
 pz:=H
 gt:=(C.get ck (w.bD _ _ w.iB).2 (λU=>by
  rcases E _ U with s|s
  ·have G:=w.hV;rw[<-s,w.iB]at G;simp at G
  ·have:=(w.bD _ _ w.iB).2;omega)).trans w.gt
 nU:=eg.cz w.nU k b
 nV:=w.nV
 lp:=w.lp.set B k b
 lq:=w.lq
 has u c j:=by
  rw[yO]at j;by_cases z:u=k
  ·subst z;rw[if_pos rfl]at j;injection j with j;subst j;simp only[if_true];exact⟨a,O⟩
  ·rw[if_neg z]at j;simp only[z,if_false];exact⟨(w.has u c j).1.on C (λp U i A=>by
    rcases E _ U with s|s
    ·rw[s,w.hV]at A;simp at A
    ·have:=(w.bD _ _ A).2;omega) F λq bs U=>(w.bD q bs U).2,(w.has u c j).2⟩
 kX u j:=by
  rw[yO]at j;by_cases z:u=k
  ·rw[if_pos z]at j;cases j
  ·rw[if_neg z]at j;simp only[z,if_false];exact w.kX u j
 kY u c j:=by
  obtain⟨Q,s,G⟩:=w.kY u c j;exact⟨Q,s,G.on C (λp U i A=>by
   rcases E _ U with s|s
   ·rw[s,w.hV]at A;simp at A
   ·have:=(w.bD _ _ A).2;omega) F λq bs U=>(w.bD q bs U).2⟩
 kZ:=w.kZ
def jI(logs:Int->List ei)(x:bC):Int->List ei:=λn=>if n=x.log then logs x.log++[(x.r,x.del)]else logs n
theorem Ot{aG h:I}{B W F ef:Nat}{logs:Int->List ei}{tasks:Int->Option ks}{L T:kW}{ow:gN}(x:bC)(w:j8 aG h B W logs tasks L F T ef ow)(aa:(logs x.log).length<=2^40) :
  au mc 50 [.agg [.map B,.map W],.agg (br x)] h (λr h'=>r=.tuple []/\∃kr AG ow',j8 aG h' B W (jI logs x) tasks kr AG T ef ow'/\(∀q m,ow q=some m->ow' q=some m)/\J h h' (λq=>q=B\/∃k i,ow q=some (0,k,i))/\(∀q m,ow' q=some m->ow q=some m\/h.n<=q)):=by
 refine bd Tryz.func50 rfl ?_;obtain⟨mE,iy,E9,Ou,B6⟩:=b0 h (.cells [.map B,.map W] 74 none);obtain⟨H,hH,vc,X,_⟩:=b0 mE (.cells (br x) 48 none);have bo:=E9.trans' vc;have vT:=(vc.get h.n (by omega) (by simp[none_])).trans Ou
 have ib:H.n=h.n+2:=by rw[hH,df];omega
 have Y:=w.on bo;have av:(V.agg [.map B,.map W]).cells=some [.map B,.map W]:=rfl;have qE:(V.agg (br x)).cells=some (br x):=rfl;have hd:=avN L x.log Y.pz;have d4:cO (aR.cells (br x) 48 none) 4=some ((br x).drop 4):=rfl;simp only[ae,ds,AS,Ji,VC,aY,VN,av,qE];rw[<-iy,<-hH];clear iy hH;cases Z:bQ L x.log with
 | some b=>
  rw[Z]at hd;obtain⟨⟨rv,C,g,gR,ec,t0,t1,t2⟩,bH⟩:=Y.has x.log b Z;obtain⟨u,z,D,E,ow',Fa,g2,xm,xc,Fb,g4,Dn,xd,N,O,c4,mq,kK,dO,A,G9⟩:=ag2 (x.r,x.del) aa g gR ec t0 t1 t2 (λq m s=>(Y.bD q m s).2);have Q:∀q,h.n<=q->∀m,ow q≠some m:=λq s m he=>by have:=(w.bD _ _ he).2;omega
  have B7:=(c4.get mE.n (by omega) (λ⟨i,U⟩=>Q _ (by omega) _ U)).trans X
  have Ov:=ag0 H x.r;have R:bA (some 1) (aR.cells [V.int .i64 x.log,rv,C] 90 none) 1 [u]=some (.cells [.int .i64 x.log,u,C] 90 none):=by rw[rA xm];rfl
  have S:bA (some 1) (aR.cells [V.int .i64 x.log,u,C] 90 none) 2 [D]=some (.cells [.int .i64 x.log,u,D] 90 none):=by rw[rA Dn];rfl
  simp only at Fa Fb;rw[B6]at X B7;have E7:=(c4.get h.n (by omega) (λ⟨i,U⟩=>Q _ (by omega) _ U)).trans vT
  have Yu:=ag1 (z.set b (.cells [.int .i64 x.log,u,C] 90 none)) x.del;have ai:h.n+1≠b:=λU=>Q (h.n+1) (by omega) _ (by rw[U];exact t0)
  have Ia:(z.set b (.cells [.int .i64 x.log,u,C] 90 none)).get (h.n+1)=.cells (br x) 48 none:=((J.set z b _).get (h.n+1) (by have:=c4.n;omega) ai).trans B7
  simp only[ae,ds,AS,By,br,hd];have f1:a7 rv b=False:=eq_false λU=>by have:=t1 b U;rw[t0]at this;simp at this
  have f2:a7 rv (h.n+1)=False:=eq_false λU=>Q (h.n+1) (by omega) _ (t1 _ U)
  have f3:a7 C b=False:=eq_false λU=>by have:=t2 b U;rw[t0]at this;simp at this
  have f4:a7 C (h.n+1)=False:=eq_false λU=>Q (h.n+1) (by omega) _ (t2 _ U)
  have iC:J H (H.push (.cells (kV x.r) 45 none)) (λq=>a7 rv q):=J.push _ _ _;have hs:J (z.set b (.cells [.int .i64 x.log,u,C] 90 none)) ((z.set b (.cells [.int .i64 x.log,u,C] 90 none)).push (.cells [.bool x.del] 4 none)) (λq=>a7 C q):=J.push _ _ _;refine aS.cS (λq=>a7 rv q) [7,8,11] (.q 0 (.q 1 (.q 2 (.q 3 (.q 4 (.q 5 (.q 6 (.e 7 (.e 8 (.q 9 (.q 10 (.a 11 .done))) .stop) .stop)))))))) ?_;simp only[ae,bt,fo,ds,AS,By,Qj,Jk,LL,dM,VZ,g,X,br,Ov,Fa,g2,R,xc,f1,f2,iC,N];refine aS.cS (λq=>a7 C q) [7,8,11] (.q 0 (.q 1 (.q 2 (.q 3 (.q 4 (.q 5 (.q 6 (.e 7 (.e 8 (.q 9 (.q 10 (.a 11 .done))) .stop) .stop)))))))) ?_;simp only[ae,bt,fo,ds,AS,By,VB,Jl,qR,LP,V6,Ia,br,Yu,Fb,g4,S,xd,f3,f4,hs,O,k6,aGr,hK];refine ar ⟨rfl,L,F,ow',Y.Oo Z kK (λq U=>U) dO A G9 (by simp),dO,(bo.up).trans kK λq s ⟨i,U⟩=>.inr ⟨_,i,U⟩,λq m s=>by
   rcases A q m s with U|U
   ·exact .inl U
   ·exact .inr (by omega)⟩
 | none=>
  rw[Z]at hd;have Yv:=w.kX x.log Z;have Q:∀q,h.n<=q->∀m,ow q≠some m:=λq s m he=>by have:=(w.bD _ _ he).2;omega
  obtain⟨ca,bP,k2,B8,dd⟩:=b0 H (.cells [V.int .i64 x.log,.ag,.ag] 90 none);have E7:=(k2.get h.n (by omega) (by simp[none_])).trans vT
  rw[B6]at X;have B7:=(k2.get (h.n+1) (by omega) (by simp[none_])).trans X
  have rS:=Yr L x.log H.n (Y.on k2).pz;obtain⟨G,jr⟩:∃y,y=ca.set B (.map (ie (cz F L x.log H.n)) (eY F L x.log)):=⟨_,rfl⟩;have aD:=w.bD _ _ w.hV;have k3:J ca G (·=B):=by rw[jr];exact J.set _ _ _
  have n3:G.n=ca.n:=by rw[jr];rfl
  have aq:G.get B=.map (ie (cz F L x.log H.n)) (eY F L x.log):=by rw[jr];exact aL
  have Ib:=(k3.get H.n (by omega) (by omega)).trans B8
  have Ia:=(k3.get (h.n+1) (by omega) (by omega)).trans B7
  have B9:=(k3.get h.n (by omega) (by omega)).trans E7
  obtain⟨eh,Ha⟩:∃f:gN,f=λq=>if q=H.n then some (0,x.log,0)else ow q:=⟨_,rfl⟩
  have Tu:∀q m,ow q=some m->eh q=some m:=λq m s=>by rw[Ha];simp only;rw[if_neg (λU=>Q q (by omega) m s)];exact s
  have nK:∀q m,eh q=some m->ow q=some m\/q=H.n:=λq m s=>by
   rw[Ha]at s;simp only at s;split at s
   ·rename_i U;exact .inr U
   ·exact .inl s
  obtain⟨u,z,D,E,ow',Fa,g2,xm,xc,Fb,g4,Dn,xd,N,O,c4,mq,kK,dO,A,G9⟩:=ag2 (h:=G) (ow:=eh) (b:=H.n) (k:=x.log) (rs:=[]) (rv:=.ag) (dv:=.ag) (x.r,x.del) (by simp) Ib (Own.ag _ _ _) (Own.ag _ _ _) (by rw[Ha];simp) (λj aN=>by simp[aU]at aN) (λj aN=>by simp[aU]at aN) (λq m s=>by
   rcases nK q m s with U|U
   ·have:=(w.bD _ _ U).2;omega
   ·omega)
  simp only at Fa Fb;have c6:J z (z.set H.n (.cells [.int .i64 x.log,u,.ag] 90 none)) (·=H.n):=J.set _ _ _;have ah:J E (E.set H.n (.cells [.int .i64 x.log,u,D] 90 none)) (·=H.n):=J.set _ _ _;have M:∀q,¬a7 .ag q:=λq U=>by simp[a7,aU]at U
  have aI:=N.n;have aw:=(c6.get (h.n+1) (by omega) (by omega)).trans ((N.get (h.n+1) (by omega) (M _)).trans Ia)
  have sJ:J H (E.set H.n (.cells [.int .i64 x.log,u,D] 90 none)) (λq=>q=B\/H.n<=q) :=
   (((((k2.up).trans k3 λq s U=>.inl U).trans N λq s U=>(M _ U).elim).trans c6 λq s U=>.inr (by omega)).trans O λq s U=>(M _ U).elim).trans ah λq s U=>.inr (by omega)
  have ax:(E.set H.n (.cells [.int .i64 x.log,u,D] 90 none)).get B=.map (ie (cz F L x.log H.n)) (eY F L x.log) :=
   (ah.get B (by have:=O.n;have:(z.set H.n (.cells [.int .i64 x.log,u,.ag] 90 none)).n=z.n:=rfl;omega) (by omega)).trans ((O.get B (by have:(z.set H.n (.cells [.int .i64 x.log,u,.ag] 90 none)).n=z.n:=rfl;omega) (M _)).trans ((c6.get B (by omega) (by omega)).trans ((N.get B (by omega) (M _)).trans aq)))
  have Ov:=ag0 G x.r;have Yu:=ag1 (z.set H.n (.cells [.int .i64 x.log,u,.ag] 90 none)) x.del;have R:bA (some 1) (aR.cells [V.int .i64 x.log,.ag,.ag] 90 none) 1 [u]=some (.cells [.int .i64 x.log,u,.ag] 90 none):=by rw[rA xm];rfl
  have S:bA (some 1) (aR.cells [V.int .i64 x.log,u,.ag] 90 none) 2 [D]=some (.cells [.int .i64 x.log,u,D] 90 none):=by rw[rA Dn];rfl
  have f1:∀q,a7 .ag q=False:=λq=>eq_false (M q);have iC:J G (G.push (.cells (kV x.r) 45 none)) (λq=>a7 .ag q):=J.push _ _ _;have hs:J (z.set H.n (.cells [.int .i64 x.log,u,.ag] 90 none)) ((z.set H.n (.cells [.int .i64 x.log,u,.ag] 90 none)).push (.cells [.bool x.del] 4 none)) (λq=>a7 .ag q):=J.push _ _ _;simp only[ae,ds,AS,By,Ji,VC,aY,VN,abT,LX,X,br,hd];rw[<-bP];clear bP;simp only[ae,ds,AS,By,Ji,aY,E7,B7,br,rS];rw[<-jr];clear jr;have az:J G z none_:=N.mono λq U=>(M _ U).elim;have aB:J (z.set H.n (.cells [.int .i64 x.log,u,.ag] 90 none)) E none_:=O.mono λq U=>(M _ U).elim;refine aS.cS none_ [7,8,11] (.q 0 (.q 1 (.q 2 (.q 3 (.q 4 (.q 5 (.q 6 (.e 7 (.e 8 (.q 9 (.q 10 (.a 11 .done))) .stop) .stop)))))))) ?_;simp only[ae,bt,ds,AS,By,Qj,Jk,LL,dM,VZ,Ib,Ia,br,Ov,Fa,g2,R,xc];refine⟨az,?_⟩;refine aS.cS none_ [7,8,11] (.q 0 (.q 1 (.q 2 (.q 3 (.q 4 (.q 5 (.q 6 (.e 7 (.e 8 (.q 9 (.q 10 (.a 11 .done))) .stop) .stop)))))))) ?_;simp only[ae,bt,ds,AS,By,VB,Jl,qR,LP,V6,aw,br,Yu,Fb,g4,S,xd,k6,aGr,hK];refine⟨aB,?_⟩;have aC:=Y.Oq (rs:=logs x.log++[(x.r,x.del)]) Z sJ (λq U=>U) ax (λq m s=>dO _ _ (Tu _ _ s)) (λq m s=>by
   rcases A q m s with U|U
   ·rcases nK q m U with h1|h1
    ·exact .inl h1
    ·have:=sJ.n;have:=O.n;have:(E.set H.n (.cells [.int .i64 x.log,u,D] 90 none)).n=E.n:=rfl;have:(z.set H.n (.cells [.int .i64 x.log,u,.ag] 90 none)).n=z.n:=rfl;exact .inr ⟨by omega,by omega⟩
   ·have:(E.set H.n (.cells [.int .i64 x.log,u,D] 90 none)).n=E.n:=rfl;exact .inr ⟨by omega,by omega⟩) (by rw[Yv];exact G9) (by simp)
  exact ar ⟨rfl,_,_,ow',aC,λq m s=>dO _ _ (Tu _ _ s),(bo.up).trans sJ λq s U=>by
   rcases U with U|U
   ·exact .inl U
   ·omega,λq m s=>by
   rcases A q m s with U|U
   ·rcases nK q m U with h1|h1
    ·exact .inl h1
    ·exact .inr (by omega)
   ·exact .inr (by omega)⟩
def ra(l:List (bC×Nat)):List V:=l.flatMap hp
theorem Yw{h:I}{s:V}{l:List (bC×Nat)}(o:Own h 186 12 s (ra l))(G:l.length<=2^30)(p:bC×Nat) :
  ∃a h',ki mc 123 123 s (.bg h.n 0 1 1) (h.push (.cells (hp p) 186 none))=some (a,h')/\Own h' 186 12 a (ra (l++[p]))/\J h h' (a7 s)/\cu h s a:=by
 have j:J h (h.push (.cells (hp p) 186 none)) none_:=J.push _ _ _;have z:Own (h.push (.cells (hp p) 186 none)) 186 12 (.bg h.n 0 1 1) (hp p):=Own.e4 (hp p) 1 rfl (by decide)
 have A:=tc (P:=mc) (t:=123) LJ z (n:=1) rfl (by decide) rfl
 obtain⟨a,h',B,C,D,i⟩:=sj (P:=mc) (t:=123) (tx:=123) abV (by decide) (o.ba j) A rfl (λm u=>by
  change m*12=_ at u;have:(ra l).length=l.length*12:=fJ (enc:=hp) (sz:=12) Oi l;have L:m*12=l.length*12+12:=by rw[this]at u;exact u
  have E:m=l.length+1:=by omega
  subst E;refine⟨?_,?_⟩
  ·exact ajy (Nat.mul_le_mul_left (l.length+1) (show _<=1024 by decide)) (by simp only[lim];omega)
  ·simp only[lim];omega)
 refine⟨a,h',B,?_,(j.up).trans' D,?_⟩
 ·unfold ra;rw[azo];simpa [ra]using C
 ·rcases i with i|i
  ·exact .inl i
  ·exact .inr λq F=>ajy j.n (i q F)
theorem SW(h:I)(x:bC)(a:Nat):h3 mc 123 1 [(0,.agg (hp (x,a)))] h=some (.bg h.n 0 1 1,h.push (.cells (hp (x,a)) 186 none)):=by rw[mD abV];rfl
theorem avR{h:I}{ow:gN}{b:Nat}{t:Int}{j:ks}(x:bC)(C:Nat)(S:j.opn.length<=2^30){D z A:V}(g:h.get b=.cells [.int .i64 t,.int .i64 j.ep,.int .i64 j.tx,D,z,.int .i64 0,A] 125 none)(T:Oj D j.offs)(W:Own h 3 1 z (ao j.ord))(X:Own h 186 12 A (ra j.opn))
  (t0:ow b=some (1,t,0)) (N:∀q,aU z=some q->ow q=some (1,t,1)) (G:∀q,aU A=some q->ow q=some (1,t,2)) (B:∀q s,ow q=some s->q<h.n) :
  ∃u m ow',ki mc 123 123 A (.bg h.n 0 1 1) (h.push (.cells (hp (x,C)) 186 none))=some (u,m)/\m.get b=.cells [.int .i64 t,.int .i64 j.ep,.int .i64 j.tx,D,z,.int .i64 0,A] 125 none/\u.one=true/\u.cells=some [u]/\J h m (λq=>a7 A q) /\
   J h (m.set b (.cells [.int .i64 t,.int .i64 j.ep,.int .i64 j.tx,D,z,.int .i64 0,u] 125 none)) (λq=>∃i,ow q=some (1,t,i))/\(∀q s,ow q=some s->ow' q=some s)/\(∀q s,ow' q=some s->ow q=some s\/(h.n<=q/\q<m.n)) /\
   nt (m.set b (.cells [.int .i64 t,.int .i64 j.ep,.int .i64 j.tx,D,z,.int .i64 0,u] 125 none)) ow' b t { j with opn:=j.opn++[(x,C)] }:=by
 obtain⟨u,m,ay,H,F,Y⟩:=Yw X S (x,C);have Z:=B _ _ t0;have Q:¬a7 A b:=λU=>by have:=G b U;rw[t0]at this;simp at this
 have uF:∀q,aU z=some q->q≠b:=λq a U=>by have:=N q a;rw[U,t0]at this;simp at this
 have g2:=(F.get b Z Q).trans g;have dd:=F.n;have Ow:=W.ai F λq a U=>by have L:=N q a;have m:=G q U;rw[L]at m;simp at m
 have O:J m (m.set b (.cells [.int .i64 t,.int .i64 j.ep,.int .i64 j.tx,D,z,.int .i64 0,u] 125 none)) (·=b):=J.set _ _ _;have R:∀q,aU u=some q->q≠b/\(aU A=some q\/h.n<=q):=λq a=>by
  rcases Y with e|e
  ·exact⟨λU=>Q (by rw[<-U,a7,<-e];exact a),.inl (by rw[<-e];exact a)⟩
  ·have:=e q a;exact⟨by omega,.inr this⟩
 obtain⟨ow',E⟩:∃f:gN,f=λq=>if q<h.n then ow q else if aU u=some q then some (1,t,2)else ow q:=⟨_,rfl⟩
 have M:∀q s,ow q=some s->ow' q=some s:=λq s a=>by rw[E];simp only;rw[if_pos (B _ _ a)];exact a
 refine⟨u,m,ow',ay,g2,?_,?_,F,(F.mono (o':=λq=>∃i,ow q=some (1,t,i)) λq a=>⟨2,G q a⟩).trans O λq a U=>⟨0,by rw[U];exact t0⟩,M,λq s a=>?_,D,z,u,aL,T,Ow.ai O uF,H.ai O (λq a U=>(R q a).1 U),M _ _ t0,λq a=>M _ _ (N q a),λq a=>?_⟩
 ·rcases H with⟨rfl|rfl,_⟩|⟨_,_,_,_,_,rfl,_⟩<;>rfl
 ·rcases H with⟨rfl|rfl,_⟩|⟨_,_,_,_,_,rfl,_⟩<;>rfl
 ·rw[E]at a;simp only at a;split at a
  ·exact .inl a
  ·split at a
   ·rename_i m;exact .inr ⟨by omega,H.lt _ m⟩
   ·exact .inl a
 ·rcases(R q a).2 with L|L
  ·exact M _ _ (G q L)
  ·rw[E];simp only;rw[if_neg (by omega),if_pos a]
def rb(logs:Int->List ei)(l:List (bC×Nat)):Int->List ei:=l.foldl (λg p=>jI g p.1) logs
def r1(logs:Int->List ei)(j:ks)(x:bC):Int->List ei:=if x.cZ≠j.ep\/x.hG≠j.tx then logs else if x.kind=3 then rb logs j.opn else logs
def mJ(j:ks)(x:bC)(a:Nat):ks :=
 if x.cZ≠j.ep\/x.hG≠j.tx then j
 else if x.kind=2 then { j with opn:=j.opn++[(x,a)] }
 else if x.kind=3 then⟨j.ep,j.tx+1,x.offs,j.ord++x.order,[]⟩
 else { j with tx:=j.tx+1,opn:=[] }
theorem avS{aG h:I}{A B E ef:Nat}{logs:Int->List ei}{tasks:Int->Option ks}{L T:kW}{ow:gN}(x:bC)(m:Nat)(w:j8 aG h A B logs tasks L E T ef ow){t:Int}{b:Nat}{j:ks}(ak:bQ T t=some b)(aN:tasks t=some j)(cn:j.opn.length<=2^30)(aa:-2^62<=j.tx/\j.tx<2^62)(hk:2<=x.kind/\x.kind<=4)(Yx:x.kind=3->x.cZ≠j.ep\/x.hG≠j.tx) :
  au mc 53 [.agg [.map A,.map B],.ptr b 0,.agg (br x),.int .i64 (m:Nat)] h (λr h'=>r=.tuple []/\∃kr AG ow',j8 aG h' A B (r1 logs j x) (λn=>if n=t then some (mJ j x m)else tasks n) kr AG T ef ow'/\J h h' (λq=>q=A\/∃s,ow q=some s)/\(∀q s,ow' q=some s->ow q=some s\/h.n<=q)):=by
 refine bd aGs rfl ?_;obtain⟨mE,iy,E9,_,B6⟩:=b0 h (.cells [.map A,.map B] 74 none);obtain⟨H,hH,vc,_,_⟩:=b0 mE (.cells (br x) 48 none);have F:=E9.trans' vc;have G:H.get (h.n+1)=.cells (br x) 48 none:=by rw[<-B6,hH];exact fv
 have ib:H.n=h.n+2:=by rw[hH,df];omega
 have C:=w.on F;have av:(V.agg [.map A,.map B]).cells=some [.map A,.map B]:=rfl;have qE:(V.agg (br x)).cells=some (br x):=rfl;obtain⟨ja,S,mO,W,M,g,az,gR,ec,D,t1,t2⟩:=C.kY t b ak;rw[aN]at S;injection S with S;subst S;simp only[ae,ds,av,qE];rw[<-iy,<-hH];clear iy hH;refine aS.cS none_ [] (.q 0 (.q 1 (.q 2 (.q 3 (.q 4 (.q 5 (.q 6 (.q 7 (.q 8 (.q 9 (.q 10 (.q 11 (.q 12 (.q 13 (.q 14 (.q 15 (.q 16 (.q 17 .done)))))))))))))))))) ?_;by_cases X:x.cZ=j.ep;rotate_left
 ·have N:(x.cZ !=j.ep)=true:=by simpa using X
  have ay:r1 logs j x=logs:=by unfold r1;rw[if_pos (.inl X)]
  have bc:mJ j x m=j:=by unfold mJ;rw[if_pos (.inl X)]
  have cW:(λn=>if n=t then some j else tasks n)=tasks:=by funext n;split;rename_i U;rw[U,aN];rfl
  simp only[ae,bt,ds,AS,By,A7,Ef,Eg,aY,G,g,br,N,aP,aBV,hK];exact ar ⟨rfl,L,E,ow,by rw[ay,bc,cW];exact C,F.up,λ_ _ U=>.inl U⟩
 have N:(x.cZ !=j.ep)=false:=by simpa using X
 by_cases Y:x.hG=j.tx;rotate_left
 ·have Z:(x.hG !=j.tx)=true:=by simpa using Y
  have ay:r1 logs j x=logs:=by unfold r1;rw[if_pos (.inr Y)]
  have bc:mJ j x m=j:=by unfold mJ;rw[if_pos (.inr Y)]
  have cW:(λn=>if n=t then some j else tasks n)=tasks:=by funext n;split;rename_i U;rw[U,aN];rfl
  simp only[ae,bt,ds,AS,By,A7,Ef,Jh,Eg,Eh,aY,G,g,br,N,Z,aP,aBV,hK];exact ar ⟨rfl,L,E,ow,by rw[ay,bc,cW];exact C,F.up,λ_ _ U=>.inl U⟩
 have Z:(x.hG !=j.tx)=false:=by simpa using Y
 have O:¬(x.cZ≠j.ep\/x.hG≠j.tx):=by omega
 have mn:x.kind≠3:=λU=>O (Yx U);by_cases Q:x.kind=2
 ·have c3:(x.kind==2)=true:=by simpa using Q
  have ay:r1 logs j x=logs:=by unfold r1;rw[if_neg O,if_neg mn]
  have bc:mJ j x m={ j with opn:=j.opn++[(x,m)] }:=by unfold mJ;rw[if_neg O,if_pos Q]
  obtain⟨p1,Q,ow',dy,g2,one,R,xe,wZ,dO,z,PZ⟩:=avR x m cn g az gR ec D t1 t2 (λq s u=>(C.bD q s u).2);have kf:∀q,h.n<=q->∀s,ow q≠some s:=λq u s U=>by have:=(w.bD _ _ U).2;omega
  have f1:a7 M b=False:=eq_false λU=>by have:=t2 b U;rw[D]at this;simp at this
  have f2:a7 M (h.n+1)=False:=eq_false λU=>kf (h.n+1) (by omega) _ (t2 _ U)
  have Yy:h3 mc 123 1 [(0,.agg [.int .i64 x.kind,.int .i64 x.task,.int .i64 x.cZ,.int .i64 x.hG,.int .i64 x.log,.int .i64 x.r.k,.int .i64 x.r.v,.int .i64 x.r.t,.bool x.del,.af x.offs.length (ao x.offs),.af x.order.length (ao x.order),.int .i64 (m:Nat)])] H=some (.bg H.n 0 1 1,H.push (.cells (hp (x,m)) 186 none)):=SW H x m;have st:bA (some 1) (aR.cells [V.int .i64 t,.int .i64 j.ep,.int .i64 j.tx,mO,W,.int .i64 0,M] 125 none) 6 [p1]=some (.cells [.int .i64 t,.int .i64 j.ep,.int .i64 j.tx,mO,W,.int .i64 0,p1] 125 none):=by rw[rA one];rfl
  have bX:J H (H.push (.cells (hp (x,m)) 186 none)) (λq=>a7 M q):=J.push _ _ _;simp only[ae,bt,ds,AS,By,A7,yQ,Ef,Jh,Eg,Eh,aY,G,g,br,N,Z,c3];refine aS.cS (λq=>a7 M q) [8,9,12] (.q 0 (.q 1 (.q 2 (.q 3 (.q 4 (.q 5 (.q 6 (.q 7 (.e 8 (.e 9 (.q 10 (.q 11 (.a 12 .done))) .stop) .stop))))))))) ?_;simp only[ae,bt,fo,ds,AS,By,Jd,VI,Gj,aqa,ab3,QC,G,g,br,Yy,dy,g2,st,R,f1,f2,bX,xe,aP,aBV,hK];exact ar ⟨rfl,L,E,ow',by rw[ay,bc];exact C.xa ak wZ (λq U=>U) dO z PZ,(F.up).trans wZ λq u ⟨i,U⟩=>.inr ⟨_,U⟩,λq s u=>(z q s u).imp id λU=>by omega⟩
 ·have c3:(x.kind==2)=false:=by simpa using Q
  have fb:(x.kind==3)=false:=by simpa using mn
  have ay:r1 logs j x=logs:=by unfold r1;rw[if_neg O,if_neg mn]
  have bc:mJ j x m={ j with tx:=j.tx+1,opn:=[] }:=by unfold mJ;rw[if_neg O,if_neg Q,if_neg mn]
  have cE:aOT.i64.wrap (j.tx+1)=j.tx+1:=Go.IntWalk.i64_in _ (by omega)
  simp only[ae,bt,ds,AS,By,A7,Jd,yQ,Ef,Jh,Eg,Eh,aY,QC,qU,G,g,br,N,Z,c3,fb,cE,k6,aBV,hK];have c6:∀o,J H (H.set b o) (·=b):=λo=>J.set _ _ _;have uF:∀q,aU W=some q->q≠b:=λq u U=>by have:=t1 q u;rw[U,D]at this;simp at this
  exact ar ⟨rfl,L,E,ow,by rw[ay,bc];exact C.xa ak (c6 _) (λq U=>⟨0,by rw[U];exact D⟩) (λ_ _ U=>U) (λ_ _ U=>.inl U) ⟨mO,W,.ag,aL,az,gR.ai (c6 _) uF,Own.ag _ _ _,D,t1,λq u=>by simp[aU]at u⟩,(F.up).trans (c6 _) λq u U=>.inr ⟨(1,t,0),U▸D⟩,λ_ _ U=>.inl U⟩
open Go Go.Proofs Go.Proofs.YtemdgidnhgcafaaGreatDoor.Ab
theorem Yz(h:I):h3 mc 46 0 [] h=some (.bg h.n 0 0 0,h.push (.cells [] 3 none)):=by rw[mD oQ];rfl
theorem YA(h:I):Acc h (h.push (.cells [] 3 none)) 3 1 (.bg h.n 0 0 0) (ao []) :=
 ⟨.inr ⟨h.n,0,0,[],none,rfl,Nat.lt_succ_self _,fv,rfl,rfl,.inl ⟨by simp[b7],BY _,BY _⟩⟩,J.push _ _ _,λk a=>by simp[aU]at a;omega⟩
theorem YB(l:List Int)(C:l.length<=2^40)(h:I):Pure mc 38 [.af l.length (ao l)] h (.af l.length (ao l)):=by
 refine Pure.of (a8.af (yM _)) ?_;cases l with
 | nil=>
  refine au.vw ?_ ?_
  ·refine bd aDy rfl ?_;have e:=Ln (xo:=.tmp 3) (yo:=.const (.slice none 0 0)) fB;simp only[ae,ds,reduceCtorEq,e,aP,aBW,ac];exact ar ⟨h,aF.k7 h,J.refl _ _⟩
  ·refine bd aDy rfl ?_;have e:∀a i,cV mc .eql 46 a i .fk .ag=some (.bool false):=λa i=>Vf fB;obtain⟨D,E,ay,s⟩:=Acc.sk (P:=mc) (tx:=46) oQ (YA h) (by decide) (Vh fB) rfl (λm j=>by
    change m*1=_ at j;simp[ao]at j;subst j;exact⟨by decide,by decide⟩)
   have u:=Yz h;simp only[ae,ds,reduceCtorEq,e,u,ay,aP,aBW,ac];obtain⟨z,A,B⟩:=s.cast (n:=0) rfl (by decide)
   exact ar ⟨z,A,B⟩
 | cons x l=>
  refine bd aDy rfl ?_;have e:∀a i,cV mc .eql 46 a i (.af (x::l).length (ao (x::l))) .ag=some (.bool false):=λa i=>Vg fB (by simp)
  obtain⟨D,E,ay,s⟩:=Acc.sk (P:=mc) (tx:=46) oQ (YA h) (by decide) (I3 fB (by rw[am,ajD]) (KN (x::l))) (by rw[am];exact(ajD _).symm) (λm j=>by
   change m*1=(ao []).length+(ao (x::l)).length at j;rw[am,am,ayK]at j;exact⟨by simp only[lim];omega,by simp only[lim];omega⟩)
  have u:=Yz h;generalize(x::l)=q at e ay s C⊢;simp only[ae,ds,reduceCtorEq,e,u,ay,aP,aBW,ac];obtain⟨z,A,B⟩:=s.cast (n:=q.length) (by rw[show ao []=[]from rfl,List.nil_append,am,ajD]) (by decide)
  exact ar ⟨z,A,B⟩
theorem ahh{h:I}{e t:TypeId}{v:V}{α:Type}{enc:α->List V}{sz:Nat}{l:List α}(z:∀a,(enc a).length=sz)(A:0<sz)(C:dC mc t=some sz)(o:Own h e sz v (l.flatMap enc)){k:Nat}(D:k<l.length){kk:aOT} :
  ∃i q,gP mc t v (.int kk (k:Int))=some (.ptr i (0+k*sz))/\aU v=some i/\cO (h.get i) (0+k*sz)=some (enc l[k]++q):=by
 have m:(l.flatMap enc).length=l.length*sz:=fJ z l;rcases o with⟨_,av⟩|⟨i,j,cap,c,G,rfl,hi,E,s,F,H⟩
 ·rw[av]at m;have:0<l.length*sz:=Nat.mul_pos (by omega) A
  simp at m;omega
 ·have hll:l.length=j:=Nat.eq_of_mul_eq_mul_right A (by rw[<-m,s])
  have B:c=l.flatMap enc++c.drop (j*sz):=by rw[<-F,List.take_append_drop]
  have u:k*sz<=l.length*sz:=Nat.mul_le_mul_right _ (by omega)
  have L:l.length*sz<=c.length:=by rw[B,Dx,m];omega
  refine⟨i,(l.drop (k+1)).flatMap enc++c.drop (j*sz),?_,rfl,?_⟩
  ·rw[d6,C,Ut,if_pos ⟨by omega,by omega⟩,Int.toNat_natCast]
  ·rw[E,Kw,if_pos (by omega),ayP]
   conv=>lhs;rw[B]
   rw[List.drop_append_of_le_length (by rw[m];exact u),yN z,List.drop_eq_getElem_cons D,List.flatMap_cons,List.append_assoc]
theorem avT(logs:Int->List ei)(l:List (bC×Nat))(p:bC×Nat):rb logs (l++[p])=jI (rb logs l) p.1:=by unfold rb;rw[List.foldl_append];rfl
theorem Rz(n:Int):∀(l:List (bC×Nat)) (logs:Int->List ei) (N:Nat),(logs n).length<=N->(rb logs l n).length<=N+l.length
 | [],logs,N,h=>h
 | p::l,logs,N,h=>by
  have a:(jI logs p.1 n).length<=N+1:=by
   unfold jI;split
   ·rename_i U;subst U;simp;omega
   ·omega
  have:=Rz n l (jI logs p.1) (N+1) a;show(rb (jI logs p.1) l n).length<=_;rw[axW];omega
theorem YC{h:I}{s:V}{l:List Int}(o:Own h 3 1 s (ao l))(r:List Int)(A:l.length<=2^40)(B:r.length<=2^40) :
  ∃a h',ki mc 46 46 s (.af r.length (ao r)) h=some (a,h')/\Own h' 3 1 a (ao (l++r))/\J h h' (a7 s)/\cu h s a:=by
 obtain⟨a,h',j,q,u,z⟩:=sj (P:=mc) (t:=46) (tx:=46) oQ (by decide) o (I3 fB (by rw[am,ajD]) (KN r)) (by rw[am];exact(ajD _).symm) (λm i=>by
  change m*1=_ at i;rw[am,am]at i;exact⟨by simp only[lim];omega,by simp only[lim];omega⟩)
 exact⟨a,h',j,by rw[UN];exact q,u,z⟩
theorem avU{aG h:I}{D O lc ef:Nat}{logs:Int->List ei}{tasks:Int->Option ks}{L T:kW}{ow:gN}(x:bC)(S:Nat)(w:j8 aG h D O logs tasks L lc T ef ow){t:Int}{b:Nat}{j:ks}(ak:bQ T t=some b)(aN:tasks t=some j)(cn:j.opn.length<=2^30)(Ox:∀n,(logs n).length<=2^30)(bj:-2^62<=j.tx/\j.tx<2^62)(mn:x.kind=3)(bk:x.offs.length<=8)(ky:x.order.length<=2^30)(vt:j.ord.length<=2^40)(he:x.cZ=j.ep)(ah:x.hG=j.tx) :
  au mc 53 [.agg [.map D,.map O],.ptr b 0,.agg (br x),.int .i64 (S:Nat)] h (λr h'=>r=.tuple []/\∃kr AG ow',j8 aG h' D O (r1 logs j x) (λn=>if n=t then some (mJ j x S)else tasks n) kr AG T ef ow'/\J h h' (λq=>q=D\/∃s,ow q=some s)/\(∀q s,ow' q=some s->ow q=some s\/h.n<=q)):=by
 refine bd aGs rfl ?_;obtain⟨mE,iy,E9,Ou,B6⟩:=b0 h (.cells [.map D,.map O] 74 none);obtain⟨H,hH,vc,_,_⟩:=b0 mE (.cells (br x) 48 none);have bo:=E9.trans' vc;have jV:H.get (h.n+1)=.cells (br x) 48 none:=by rw[<-B6,hH];exact fv
 have vT:=(vc.get h.n (by omega) (by simp[none_])).trans Ou
 have ib:H.n=h.n+2:=by rw[hH,df];omega
 have oe:=w.on bo;have av:(V.agg [.map D,.map O]).cells=some [.map D,.map O]:=rfl;have qE:(V.agg (br x)).cells=some (br x):=rfl;obtain⟨ja,z,mO,B,E,g,az,gR,ec,t0,t1,t2⟩:=oe.kY t b ak;rw[aN]at z;injection z with z;subst z;have bf:(x.cZ !=j.ep)=false:=by simpa using he
 have bu:(x.hG !=j.tx)=false:=by simpa using ah
 have c3:(x.kind==2)=false:=by rw[mn];rfl
 have fb:(x.kind==3)=true:=by rw[mn];rfl
 have ax:dJ mc 123 E H=some (.int .i64 (j.opn.length:Nat)):=by
  have bS:(j.opn.flatMap hp).length=j.opn.length*12:=fJ Oi _;rcases ec with⟨rfl|rfl,iN⟩|⟨i0,aB,cap,jy,ex,rfl,_,_,uN,_,_⟩
  ·rw[iN]at bS;have:j.opn.length=0:=by simp at bS;omega
   rw[this];exact yK LJ
  ·rw[iN]at bS;have:j.opn.length=0:=by simp at bS;omega
   rw[this];exact zz LJ
  ·rw[bS]at uN;obtain rfl:aB=j.opn.length:=by omega
   exact zy LJ
 have kf:∀q,h.n<=q->∀s,ow q≠some s:=λq m s U=>by have:=(w.bD _ _ U).2;omega
 simp only[ae,ds,av,qE];rw[<-iy,<-hH];clear iy hH;refine aS.cS none_ [] (.q 0 (.q 1 (.q 2 (.q 3 (.q 4 (.q 5 (.q 6 (.q 7 (.q 8 (.q 9 (.q 10 (.q 11 (.q 12 (.q 13 (.q 14 (.q 15 (.q 16 (.q 17 .done)))))))))))))))))) ?_;simp only[ae,bt,ds,AS,By,A7,Jd,yQ,Ef,Jh,Eg,Eh,VI,aY,jV,g,br,bf,bu,c3,fb,ax];refine aS.bI (α:=Nat×(kW×Nat×gN)) (λy f h'=>f 1=.ptr b 0/\f 4=.ptr h.n 0/\f 6=.ptr (h.n+1) 0/\f 49=E/\f 50=.int .i64 (j.opn.length:Nat)/\f 51=.int .i64 (y.1:Nat)/\y.1<=j.opn.length /\
   j8 aG h' D O (rb logs (j.opn.take y.1)) tasks y.2.1 y.2.2.1 T ef y.2.2.2/\(∀q s,ow q=some s->y.2.2.2 q=some s)/\(∀q s,y.2.2.2 q=some s->ow q=some s\/H.n<=q) /\
   Own h' 186 12 E (j.opn.flatMap hp)/\Own h' 3 1 B (ao j.ord)/\h'.get b=.cells [.int .i64 t,.int .i64 j.ep,.int .i64 j.tx,mO,B,.int .i64 0,E] 125 none/\h'.get h.n=.cells [.map D,.map O] 74 none/\h'.get (h.n+1)=.cells (br x) 48 none/\H.n<=h'.n/\J H h' (λq=>q=D\/∃s,ow q=some s))
   (λy=>j.opn.length-y.1) (0,L,lc,ow)
  ⟨rfl,rfl,rfl,rfl,rfl,rfl,Dy _,oe,λ_ _ U=>U,λ_ _ U=>.inl U,ec,gR,g,vT,jV,BY _,J.refl _ _⟩ ?_
 rintro⟨i,aI,aJ,G⟩ f z ⟨f1,f4,f6,aq,W,M,hi,cE,jP,xZ,op,gT,r7,gs,ge,wo,Tv⟩
 simp only at M hi cE jP xZ;refine wpS ?_;by_cases aD:i<j.opn.length
 ·have d1:=dV (a:=i) (b:=j.opn.length) (by omega)
  have pv:=hR (i:=i) (by omega)
  obtain⟨YD,aM,ku,_,Bq⟩:=ahh (kk:=.i64) Oi (by decide) VT op aD
  rw[d6,VT]at ku;rw[ayP]at ku Bq;have ku:qM (some 12) none E (i:Int)=some (.ptr YD (i*12)):=ku;have e2:j.opn.take (i+1)=j.opn.take i++[j.opn[i]]:=List.take_succ_eq_append_getElem aD;generalize j.opn[i]=P at *;obtain⟨C,A⟩:=P;have jC:cJ (some (some 12)) (some (hp (C,A)++aM))=some (.agg (hp (C,A))):=be (Oi _);have aO:(V.agg (hp (C,A))).cells=some (hp (C,A)):=rfl;have aV:bA (some 12) (aR.cells [V.int .i64 0,.int .i64 0,.int .i64 0,.int .i64 0,.int .i64 0,.int .i64 0,.int .i64 0,.int .i64 0,.bool false,.ag,.ag,.int .i64 0] 186 none) 0 (hp (C,A))=some (.cells (hp (C,A)) 186 none):=rfl;obtain⟨ca,bP,X,yW,dd⟩:=b0 z (.cells (hp (C,A)) 186 none);have aW:cO (aR.cells (hp (C,A)) 186 none) 0=some (br C++[.int .i64 (A:Nat)]):=rfl;have Yy:cJ (some (some 11)) (some (br C++[V.int .i64 (A:Nat)]))=some (.agg (br C)):=be (w9 C);have w3:=(X.get h.n (by omega) (by simp[none_])).trans gs
  have Hb:(rb logs (j.opn.take i) C.log).length<=2^40:=by
   have z:=Rz C.log (j.opn.take i) logs (2^30) (Ox _);rw[List.length_take]at z;omega
  simp only[ae,ds,apw,apY,Gk,VT,ab3,aqJ,f4,aq,W,M,d1,ku,Bq,jC,aO,aV];rw[<-bP];clear bP;simp only[ae,ds,AS,apH,Gj,w3,yW,aW,Yy];refine cA (Ot C (cE.on X) Hb) λr aC ⟨jc,Oy,Fe,hC,iI,Ob,Q,rn⟩=>?_;subst jc;have Y:∀q,(q=D\/∃k i,G q=some (0,k,i))->∀u i,ow q≠some (1,u,i):=λq m u i U=>by
   rcases m with m|⟨k,i2,m⟩
   ·rw[m,w.hV]at U;simp at U
   ·rw[jP _ _ U]at m;simp at m
  have Ca:=(X.up).trans' Q;have bm:=Q.n;have F:∀q,h.n<=q->q<H.n->¬(q=D\/∃k i,G q=some (0,k,i)):=λq z Z m=>by
   rcases m with m|⟨k,i2,m⟩
   ·have:=(w.bD _ _ w.hV).2;omega
   ·rcases xZ q _ m with U|U
    ·exact kf q z _ U
    ·omega
  have bn:=(oe.bD _ _ t0).2;simp only[ae,ds,M,pv];exact ar ⟨(i+1,Oy,Fe,hC),⟨f1,f4,f6,aq,W,rfl,aD,by simp only[e2,avT];exact iI,λq s m=>Ob _ _ (jP _ _ m),λq s m=>by
   rcases rn q s m with U|U
   ·exact xZ q s U
   ·exact .inr (by omega),op.ai Ca (λq m U=>Y q U _ _ (t2 q m)),gT.ai Ca (λq m U=>Y q U _ _ (t1 q m)),(Ca.get b (by omega) (λU=>Y b U _ _ t0)).trans r7,(Ca.get h.n (by omega) (F _ (by omega) (by omega))).trans gs,(Ca.get (h.n+1) (by omega) (F _ (by omega) (by omega))).trans ge,by omega,Tv.trans Ca λq m U=>by
   rcases U with U|⟨k,i2,U⟩
   ·exact .inl U
   ·rcases xZ q _ U with U|U
    ·exact .inr ⟨_,U⟩
    ·omega⟩,by simp only;omega⟩
 ·obtain rfl:i=j.opn.length:=by omega
  have d1:decide ((j.opn.length:Int)<(j.opn.length:Int))=false:=decide_eq_false (by omega)
  rw[List.take_length]at cE;have Ie:=jP _ _ t0;have Tw:∀q,aU B=some q->G q=some (1,t,1):=λq m=>jP _ _ (t1 q m);have v8:=(cE.bD _ _ Ie).2;have Ig:¬a7 B b:=λU=>by have:=t1 b U;rw[t0]at this;simp at this
  have Tx:¬a7 B (h.n+1):=λU=>kf (h.n+1) (by omega) _ (t1 _ U)
  have J2:h.n+1≠b:=λU=>kf (h.n+1) (by omega) _ (by rw[U];exact t0)
  obtain⟨Z,fx⟩:∃y,y=z.set b (.cells [.int .i64 t,.int .i64 j.ep,.int .i64 j.tx,.af x.offs.length (ao x.offs),B,.int .i64 0,E] 125 none):=⟨_,rfl⟩;have X:J z Z (·=b):=by rw[fx];exact J.set _ _ _
  have dd:Z.n=z.n:=by rw[fx];rfl
  have B8:Z.get b=.cells [.int .i64 t,.int .i64 j.ep,.int .i64 j.tx,.af x.offs.length (ao x.offs),B,.int .i64 0,E] 125 none:=by rw[fx];exact aL
  have Ty:=(X.get (h.n+1) (by omega) J2).trans ge
  have Ow:=gT.ai X λq m U=>Ig (by rw[<-U];exact m)
  obtain⟨N,aC,dy,Ih,Q,G7⟩:=YC Ow x.order vt (by omega)
  have n3:=Q.n;have Ib:=(Q.get b (by omega) Ig).trans B8
  have Tz:=(Q.get (h.n+1) (by omega) Tx).trans Ty
  have one:N.one=true:=by rcases Ih with⟨rfl|rfl,_⟩|⟨_,_,_,_,_,rfl,_⟩<;>rfl
  have aw:N.cells=some [N]:=by rcases Ih with⟨rfl|rfl,_⟩|⟨_,_,_,_,_,rfl,_⟩<;>rfl
  have Oz:bA (some 1) (aR.cells [V.int .i64 t,.int .i64 j.ep,.int .i64 j.tx,mO,B,.int .i64 0,E] 125 none) 3 [.af x.offs.length (ao x.offs)]=some (.cells [.int .i64 t,.int .i64 j.ep,.int .i64 j.tx,.af x.offs.length (ao x.offs),B,.int .i64 0,E] 125 none):=rfl;have EZ:bA (some 1) (aR.cells [V.int .i64 t,.int .i64 j.ep,.int .i64 j.tx,.af x.offs.length (ao x.offs),B,.int .i64 0,E] 125 none) 4 [N]=some (.cells [.int .i64 t,.int .i64 j.ep,.int .i64 j.tx,.af x.offs.length (ao x.offs),N,.int .i64 0,E] 125 none):=by rw[rA one];rfl
  have aX:a7 B b=False:=eq_false Ig;have aZ:a7 B (h.n+1)=False:=eq_false Tx;have ba:aOT.i64.wrap (j.tx+1)=j.tx+1:=Go.IntWalk.i64_in _ (by omega)
  have d9:cO (aR.cells (br x) 48 none) 9=some [.af x.offs.length (ao x.offs),.af x.order.length (ao x.order)]:=rfl;have bg:cO (aR.cells (br x) 48 none) 10=some [.af x.order.length (ao x.order)]:=rfl;have kv:J Z aC (λq=>a7 B q):=Q;have Fc:∀q,aU N=some q->q≠b/\(aU B=some q\/z.n<=q):=λq m=>by
   rcases G7 with e|e
   ·exact⟨λU=>Ig (by rw[<-U,a7,<-e];exact m),.inl (by rw[<-e];exact m)⟩
   ·have:=e q m;exact⟨by omega,.inr (by omega)⟩
  have c6:∀o,J aC (aC.set b o) (·=b):=λo=>J.set _ _ _;have wZ:∀o,J z (aC.set b o) (λq=>∃i,G q=some (1,t,i)):=λo=>((X.mono (o':=λq=>∃i,G q=some (1,t,i)) λq U=>⟨0,by rw[U];exact Ie⟩).trans Q λq m U=>⟨1,Tw q U⟩).trans (c6 o) λq m U=>⟨0,by rw[U];exact Ie⟩
  obtain⟨ow',aa⟩:∃f:gN,f=λq=>if q<z.n then G q else if aU N=some q then some (1,t,1)else G q:=⟨_,rfl⟩
  have dO:∀q s,G q=some s->ow' q=some s:=λq s m=>by rw[aa];simp only;rw[if_pos (cE.bD _ _ m).2];exact m
  have ay:r1 logs j x=rb logs j.opn:=by unfold r1;rw[if_neg (by omega),if_pos mn]
  have bc:mJ j x S=⟨j.ep,j.tx+1,x.offs,j.ord++x.order,[]⟩:=by unfold mJ;rw[if_neg (by omega),if_neg (by omega),if_pos mn]
  simp only[ae,ds,LG,hL,f1,f6,W,M,d1,ge,d9];refine bO (YB x.offs (by omega) z) ?_
  simp only[ae,ds,A7,LH,Gm,r7,Oz];rw[<-fx];clear fx;refine aS.cS (λq=>a7 B q) [8,12] (.q 0 (.q 1 (.q 2 (.q 3 (.q 4 (.q 5 (.q 6 (.q 7 (.e 8 (.q 9 (.q 10 (.q 11 (.a 12 .done)))) .stop))))))))) ?_;simp only[ae,bt,fo,ds,AS,By,A7,Jd,Qk,Eh,Ql,aY,hL,QC,qU,Gm,f1,f6,B8,Ty,bg,dy,Ib,aw,EZ,aX,aZ,kv,ba,k6,aBV,hK];have R:∀q s,ow' q=some s->G q=some s\/(z.n<=q/\q<aC.n):=λq s m=>by
   rw[aa]at m;simp only at m;split at m
   ·exact .inl m
   ·split at m
    ·rename_i Z;exact .inr ⟨by omega,Ih.lt _ Z⟩
    ·exact .inl m
  have bh:∀q,aU N=some q->ow' q=some (1,t,1):=λq m=>by
   rcases(Fc q m).2 with z|z
   ·exact dO _ _ (Tw q z)
   ·rw[aa];simp only;rw[if_neg (by omega),if_pos m]
  refine ar ⟨rfl,aI,aJ,ow',?_,(bo.up).trans (Tv.trans (wZ _) λq m ⟨i,U⟩=>?_) λq m U=>U,λq s m=>?_⟩;rotate_left
  ·rcases xZ q _ U with U|U
   ·exact .inr ⟨_,U⟩
   ·omega
  ·rcases R q s m with U|U
   ·rcases xZ q _ U with U|U
    ·exact .inl U
    ·exact .inr (by omega)
   ·exact .inr (by omega)
  rw[ay,bc];exact cE.xa ak (wZ _) (λq U=>U) dO R ⟨_,N,.ag,aL,.inr rfl,Ih.ai (c6 _) (λq m=>(Fc q m).1),Own.ag _ _ _,dO _ _ Ie,bh,λq m=>by simp[aU]at m⟩
structure nH where
 logs:Int->List ei
 tasks:Int->Option ks
def OA:nH:=⟨λ_=>[],λ_=>none⟩
def bY(s:nH)(t:Int):ks:=(s.tasks t).getD ve
def mb(s:nH)(x:bC)(i:Nat):nH :=
 if lB x=false then s
 else if x.kind=1 then { s with logs:=jI s.logs x }
 else if x.kind=5 then { s with tasks:=λn=>if n=x.task then some (nu (bY s x.task) x.cZ)else s.tasks n }
 else if x.kind=6 then s
 else⟨r1 s.logs (bY s x.task) x,λn=>if n=x.task then some (mJ (bY s x.task) x i)else s.tasks n⟩
def vU:nH->Nat->List bC->nH
 | s,_,[]=>s
 | s,i,x::r=>vU (mb s x i) (i+1) r
theorem ahq:∀(a b:List bC) (s:nH) (i:Nat),vU s i (a++b)=vU (vU s i a) (i+a.length) b
 | [],b,s,i=>rfl
 | x::a,b,s,i=>by
  rw[List.cons_append,vU,vU,ahq a b,axW,show i+1+a.length=i+(a.length+1)by omega]
def hM(l:List bC):nH:=vU OA 0 l
theorem Ff(l:List bC)(x:bC):hM (l++[x])=mb (hM l) x l.length:=by
 unfold hM;rw[ahq,ayP];rfl
structure Fg(N:Nat)(s:nH):Prop where
 oK:∀n,(s.logs n).length<=N*N
 op:∀t j,s.tasks t=some j->j.opn.length<=N
 tx:∀t j,s.tasks t=some j->0<=j.tx/\j.tx<=N
 ord:∀t j,s.tasks t=some j->j.ord.length<=256*N
theorem FS{N:Nat}{s:nH}(b:Fg N s)(t:Int):(bY s t).opn.length<=N/\(0<=(bY s t).tx/\(bY s t).tx<=N)/\(bY s t).ord.length<=256*N:=by
 unfold bY;cases h:s.tasks t with
 | none=>exact⟨Dy _,⟨Int.le_refl _,by show(0:Int)<=N;omega⟩,Dy _⟩
 | some j=>exact⟨b.op t j h,b.tx t j h,b.ord t j h⟩
theorem avY{N:Nat}{s:nH}(b:Fg N s)(x:bC)(i:Nat):Fg (N+1) (mb s x i):=by
 have u:(N+1)*(N+1)=N*N+(N+N)+1:=by rw[Nat.add_mul,Nat.mul_add];omega
 obtain⟨z,A,B⟩:=FS b x.task;have a:Fg (N+1) s:=⟨λn=>by have:=b.oK n;omega,λt j h=>by have:=b.op t j h;omega,λt j h=>by have:=b.tx t j h;omega,λt j h=>by have:=b.ord t j h;omega⟩
 unfold mb;split
 ·exact a
 rename_i m;split
 ·refine⟨λn=>?_,a.op,a.tx,a.ord⟩;show(jI s.logs x n).length<=_;unfold jI;split
  ·rw[Dx];have:=b.oK x.log;simp;omega
  ·exact a.oK n
 split
 ·refine⟨a.oK,λt j h=>?_,λt j h=>?_,λt j h=>?_⟩<;>simp only at h<;>split at h
  ·injection h with h;subst h;unfold nu;split
   ·exact Dy _
   ·omega
  ·exact a.op t j h
  ·injection h with h;subst h;unfold nu;split
   ·exact⟨by show(0:Int)<=(bY s x.task).tx;omega,by show(bY s x.task).tx<=_;omega⟩
   ·omega
  ·exact a.tx t j h
  ·injection h with h;subst h;unfold nu;split
   ·show(bY s x.task).ord.length<=_;omega
   ·omega
  ·exact a.ord t j h
 split
 ·exact a
 have q:lB x=true:=by simpa using m
 have C:=((E6 x).1 q).2.2.2.2.2.2.2.2.1;refine⟨λn=>?_,λt j h=>?_,λt j h=>?_,λt j h=>?_⟩
 ·show(r1 s.logs _ x n).length<=_;unfold r1;split
  ·exact a.oK n
  split
  ·have:=Rz n (bY s x.task).opn s.logs (N*N) (b.oK n);omega
  ·exact a.oK n
 all_goals
  simp only at h;split at h
 ·injection h with h;subst h;unfold mJ;split
  ·omega
  split
  ·simp only[Dx,axW,ayK];omega
  split<;>exact Dy _
 ·exact a.op t j h
 ·injection h with h;subst h;unfold mJ;split
  ·omega
  split
  ·simp only;omega
  split<;>simp only<;>omega
 ·exact a.tx t j h
 ·injection h with h;subst h;unfold mJ;split
  ·omega
  split
  ·simp only;omega
  split
  ·simp only[Dx];omega
  ·simp only;omega
 ·exact a.ord t j h
theorem YE:∀(n:Nat) (l:List bC),l.length=n->Fg n (hM l)
 | 0,l,h=>by
  rw[aAm.1 h];exact⟨λ_=>Dy _,(by intro t j h;cases h),(by intro t j h;cases h),(by intro t j h;cases h)⟩
 | n+1,l,h=>by
  obtain⟨a,x,rfl⟩:∃a x,l=a++[x]:=by
   cases i:l.reverse with
   | nil=>rw[aEB]at i;rw[i]at h;simp at h
   | cons x a=>exact⟨a.reverse,x,by rw[<-aDz l,i,aDA]⟩
  rw[Ff];exact avY (YE n a (by rw[Dx]at h;simp at h;exact h)) x _
def cj(p:Int×List ei):List V:=[.int .i64 p.1,.af p.2.length (e9 p.2),.af p.2.length (gm p.2)]
def vV(t:Int)(j:ks):List V:=[.int .i64 t,.int .i64 j.ep,.int .i64 j.tx,.af j.offs.length (ao j.offs),.af j.ord.length (ao j.ord),.int .i64 0,.af j.opn.length (ra j.opn)]
theorem JR(p:Int×List ei):(cj p).length=3:=rfl
theorem JS(rs:List ei):(gm rs).length=rs.length*1:=by simp[gm]
theorem avZ(l:List (bC×Nat)):(ra l).length=l.length*12:=fJ Oi l
theorem TA{v j:V}{h i:I}(a:aF v h j i):aA [v] h [j] i:=aA.cons a (aA.refl [] i)
theorem av0{h:I}{ow:gN}{b:Nat}{k:Int}{rs:List ei}(a:pt h ow b k rs)(m:∀q F,ow q=some F->q<h.n) :
  ∃h',(∀r,aF r h r h')/\J h h' (λq=>∃i,ow q=some (0,k,i))/\h'.get b=.cells (cj (k,rs)) 90 none:=by
 obtain⟨C,D,g,G,H,s,z,A⟩:=a;obtain⟨Y,L,u⟩:=aF.own (cs:=e9 rs) G (n:=rs.length) (G8 rs) (by decide)
 have N:=H.ai u λj O U=>by have a:=z j U;have b:=A j O;rw[a]at b;simp at b
 obtain⟨B,Q,E⟩:=aF.own (cs:=gm rs) N (n:=rs.length) (JS rs) (by decide)
 have ak:=m _ _ s;have R:¬a7 C b:=λU=>by have:=z b U;rw[s]at this;simp at this
 have S:¬a7 D b:=λU=>by have:=A b U;rw[s]at this;simp at this
 have T:B.get b=_:=(E.get b (by have:=u.n;omega) S).trans ((u.get b ak R).trans g)
 have W:aA [.int .i64 k,C,D] h [.int .i64 k,.af rs.length (e9 rs),.af rs.length (gm rs)] B:=aA.cons (aF.refl _ _) (aA.cons L (TA Q));refine⟨B.set b (.cells (cj (k,rs)) 90 none),λr=>aF.uO g W T rfl r,?_,aL⟩;exact((u.mono (o':=λq=>∃i,ow q=some (0,k,i)) λq U=>⟨1,z q U⟩).trans E λq X U=>⟨2,A q U⟩).trans (J.set _ _ _) λq X U=>⟨0,by rw[U];exact s⟩
theorem av1{h:I}{ow:gN}{b:Nat}{t:Int}{j:ks}(a:nt h ow b t j)(m:∀q G,ow q=some G->q<h.n) :
  ∃h',(∀r,aF r h r h')/\J h h' (λq=>∃i,ow q=some (1,t,i))/\h'.get b=.cells (vV t j) 125 none:=by
 obtain⟨C,D,E,g,H,L,M,s,z,A⟩:=a;obtain⟨h1,N,u⟩:=aF.own L (n:=j.ord.length) (by rw[am,ajD]) (by decide)
 have O:=M.ai u λq Q U=>by have a:=z q U;have b:=A q Q;rw[a]at b;simp at b
 obtain⟨B,R,F⟩:=aF.own (cs:=ra j.opn) O (n:=j.opn.length) (avZ j.opn) (by decide)
 have ak:=m _ _ s;have S:¬a7 D b:=λU=>by have:=z b U;rw[s]at this;simp at this
 have T:¬a7 E b:=λU=>by have:=A b U;rw[s]at this;simp at this
 have W:B.get b=_:=(F.get b (by have:=u.n;omega) T).trans ((u.get b ak S).trans g)
 have X:aF C h (.af j.offs.length (ao j.offs)) h:=by
  rcases H with⟨rfl,e⟩|rfl
  ·rw[e];exact aF.il h
  ·exact aF.refl _ h
 have Y:aA [.int .i64 t,.int .i64 j.ep,.int .i64 j.tx,C,D, .int .i64 0,E] h [.int .i64 t,.int .i64 j.ep,.int .i64 j.tx,.af j.offs.length (ao j.offs),.af j.ord.length (ao j.ord),.int .i64 0,.af j.opn.length (ra j.opn)] B:=aA.cons (aF.refl _ _) (aA.cons (aF.refl _ _) (aA.cons (aF.refl _ _) (aA.cons X (aA.cons N (aA.cons (aF.refl _ _) (TA R))))));refine⟨B.set b (.cells (vV t j) 125 none),λr=>aF.uO g Y W rfl r,?_,aL⟩;exact((u.mono (o':=λq=>∃i,ow q=some (1,t,i)) λq U=>⟨1,z q U⟩).trans F λq Z U=>⟨2,A q U⟩).trans (J.set _ _ _) λq Z U=>⟨0,by rw[U];exact s⟩
theorem ahr{ow:gN}{logs:Int->List ei}:∀(j:kW) (h:I),c1 j->(∀e∈j,pt h ow e.2.2 e.2.1 (logs e.2.1))->(∀q m,ow q=some m->q<h.n) ->
  ∃h',(∀r,aF r h r h')/\J h h' (λq=>∃e∈j,∃i,ow q=some (0,e.2.1,i))/\∀e∈j,h'.get e.2.2=.cells (cj (e.2.1,logs e.2.1)) 90 none
 | [],h,_,_,_=>⟨h,λr=>aF.refl r h,J.refl _ _,by simp⟩
 | e::j,h,L,aT,u=>by
  have B:=azQ.1 L;have C:∀x∈j,x.2.1≠e.2.1:=λx a U=>B.1 (OF.2 ⟨x,a,U⟩);have D:=aT e (by simp)
  have s:=D;obtain⟨_,_,_,_,_,s,_⟩:=s;obtain⟨E,M,z,N⟩:=av0 D u;have F:∀q m,ow q=some m->q<E.n:=λq m G=>IS (u q m G) z.n;obtain⟨O,Q,H,R⟩:=ahr j E B.2 (λx a=>(aT x (by simp[a])).on z (λq ⟨i,U⟩ T A=>by rw[U]at A;simp at A;exact C x a A.1.symm) (λ_ _ U=>U) u) F
  refine⟨O,λr=>(M r).trans (Q r),(z.mono (o':=λq=>∃x∈e::j,∃i,ow q=some (0,x.2.1,i)) λq ⟨i,U⟩=>⟨e,by simp,i,U⟩).trans H λq G ⟨x,a,i,U⟩=>⟨x,by simp[a],i,U⟩,λx a=>?_⟩
  rcases Iz.1 a with rfl|a
  ·rw[H.get _ (F _ _ s) (λ⟨y,S,i,U⟩=>by rw[s]at U;simp at U;exact C y S U.1.symm)]
   exact N
  ·exact R x a
theorem ahs{ow:gN}{jobs:Int->ks}:∀(j:kW) (h:I),c1 j->(∀e∈j,nt h ow e.2.2 e.2.1 (jobs e.2.1))->(∀q m,ow q=some m->q<h.n) ->
  ∃h',(∀r,aF r h r h')/\J h h' (λq=>∃e∈j,∃i,ow q=some (1,e.2.1,i))/\∀e∈j,h'.get e.2.2=.cells (vV e.2.1 (jobs e.2.1)) 125 none
 | [],h,_,_,_=>⟨h,λr=>aF.refl r h,J.refl _ _,by simp⟩
 | e::j,h,L,aT,u=>by
  have B:=azQ.1 L;have C:∀x∈j,x.2.1≠e.2.1:=λx a U=>B.1 (OF.2 ⟨x,a,U⟩);have D:=aT e (by simp)
  have s:=D;obtain⟨_,_,_,_,_,_,_,s,_⟩:=s;obtain⟨E,M,z,N⟩:=av1 D u;have F:∀q m,ow q=some m->q<E.n:=λq m G=>IS (u q m G) z.n;obtain⟨O,Q,H,R⟩:=ahs j E B.2 (λx a=>(aT x (by simp[a])).on z (λq ⟨i,U⟩ T A=>by rw[U]at A;simp at A;exact C x a A.1.symm) (λ_ _ U=>U) u) F
  refine⟨O,λr=>(M r).trans (Q r),(z.mono (o':=λq=>∃x∈e::j,∃i,ow q=some (1,x.2.1,i)) λq ⟨i,U⟩=>⟨e,by simp,i,U⟩).trans H λq G ⟨x,a,i,U⟩=>⟨x,by simp[a],i,U⟩,λx a=>?_⟩
  rcases Iz.1 a with rfl|a
  ·rw[H.get _ (F _ _ s) (λ⟨y,S,i,U⟩=>by rw[s]at U;simp at U;exact C y S U.1.symm)]
   exact N
  ·exact R x a
structure x0(aG h:I)(lm ck:Nat)(s:nH)(L:kW)(lc:Nat)(T:kW)(ef:Nat):Prop where
 ai:J aG h none_
 Fh:lm<h.n
 Fi:ck<h.n
 pz:h.get lm=.map (ie L) lc
 gt:h.get ck=.map (ie T) ef
 nU:eg (ie L) lc
 nV:eg (ie T) ef
 lp:c1 L
 lq:c1 T
 has:∀k b,bQ L k=some b->h.get b=.cells (cj (k,s.logs k)) 90 none/\s.logs k≠[]/\b<h.n
 kX:∀k,bQ L k=none->s.logs k=[]
 kY:∀t b,bQ T t=some b->∃j,s.tasks t=some j/\h.get b=.cells (vV t j) 125 none/\b<h.n
 kZ:∀t,bQ T t=none->s.tasks t=none
theorem x0.on{u h h':I}{lm ck z A:Nat}{s:nH}{L T:kW}(w:x0 u h lm ck s L z T A)(k:J h h' none_):x0 u h' lm ck s L z T A where
 ai:=w.ai.trans' k
 Fh:=IS w.Fh k.n
 Fi:=IS w.Fi k.n
 pz:=(k.get lm w.Fh (by simp[none_])).trans w.pz
 gt:=(k.get ck w.Fi (by simp[none_])).trans w.gt
 nU:=w.nU
 nV:=w.nV
 lp:=w.lp
 lq:=w.lq
 has q b i:=⟨(k.get b (w.has q b i).2.2 (by simp[none_])).trans (w.has q b i).1,(w.has q b i).2.1,IS (w.has q b i).2.2 k.n⟩
 kX:=w.kX
 kY t b i:=by
  obtain⟨j,C,D,B⟩:=w.kY t b i;exact⟨j,C,(k.get b B (by simp[none_])).trans D,IS B k.n⟩
 kZ:=w.kZ
theorem j8.freeze{H h:I}{lm ck M N:Nat}{s:nH}{L T:kW}{ow:gN}(w:j8 H h lm ck s.logs s.tasks L M T N ow):∃h',(∀r,aF r h r h')/\x0 H h' lm ck s L M T N:=by
 have u:∀q bs,ow q=some bs->q<h.n:=λq bs C=>(w.bD q bs C).2;obtain⟨A,S,E,g1⟩:=ahr (logs:=s.logs) L h w.lp (λe z=>(w.has _ _ (qQ w.lp z)).1) u;have W:∀e∈T,nt h ow e.2.2 e.2.1 (bY s e.2.1):=λe z=>by
  obtain⟨j,A,B⟩:=w.kY _ _ (qQ w.lq z);unfold bY;rw[A];exact B
 have O:∀q bs,ow q=some bs->q<A.n:=λq bs C=>IS (u q bs C) E.n;obtain⟨B,X,F,g2⟩:=ahs (jobs:=bY s) T A w.lq (λe z=>(W e z).on E (λq ⟨x,G,i,U⟩ i2 R=>by rw[U]at R;simp at R) (λ_ _ U=>U) u) O
 have kk:J h B (λq=>∃a k i,ow q=some (a,k,i)/\a<2):=(E.mono (o':=λq=>∃a k i,ow q=some (a,k,i)/\a<2) λq ⟨x,G,i,U⟩=>⟨0,_,i,U,by decide⟩).trans F λq C ⟨x,G,i,U⟩=>⟨1,_,i,U,by decide⟩
 have en:=E.n;have dd:=F.n;refine⟨B,λr=>(S r).trans (X r),w.ai.trans kk (λq C ⟨a,k,i,U,_⟩=>by have:=(w.bD _ _ U).1;omega),by have:=u _ _ w.hV;omega,by have:=u _ _ w.iB;omega,
  (kk.get lm (u _ _ w.hV) (λ⟨a,k,i,U,B⟩=>by rw[w.hV]at U;simp at U;omega)).trans w.pz,(kk.get ck (u _ _ w.iB) (λ⟨a,k,i,U,B⟩=>by rw[w.iB]at U;simp at U;omega)).trans w.gt,
  w.nU,w.nV,w.lp,w.lq,λk b ak=>?_,w.kX,λt b ak=>?_,w.kZ⟩
 ·obtain⟨e,z,bc⟩:=Lm ak;obtain⟨Y,Z,wi⟩:=e;simp only[Prod.mk.injEq]at bc;obtain⟨rfl,rfl⟩:=bc;obtain⟨⟨_,_,_,_,_,D,_⟩,bH⟩:=w.has _ _ ak;exact⟨(F.get _ (O _ _ D) (λ⟨x,G,i,U⟩=>by rw[D]at U;simp at U)).trans (g1 _ z),bH,by have:=u _ _ D;omega⟩
 ·obtain⟨e,z,bc⟩:=Lm ak;obtain⟨Y,Z,wi⟩:=e;simp only[Prod.mk.injEq]at bc;obtain⟨rfl,rfl⟩:=bc;obtain⟨j,A,a⟩:=w.kY _ _ ak;obtain⟨_,_,_,_,_,_,_,D,_⟩:=a;refine⟨j,A,?_,by have:=u _ _ D;omega⟩
  have:=g2 _ z;simp only[bY,A,Option.getD_some]at this;exact this
structure og where
 t:Int
 ep:Int
 tx:Int
 offs:List Int
 ord:List Int
 opn:Nat
 deriving DecidableEq
structure uG where
 logs:List (Int×List ei)
 tasks:List og
 looked:Nat
def cF(x:og):List V:=[.int .i64 x.t,.int .i64 x.ep,.int .i64 x.tx,.af x.offs.length (ao x.offs),.af x.ord.length (ao x.ord),.int .i64 (x.opn:Nat)]
theorem JT(x:og):(cF x).length=6:=rfl
def cN(t:uG):List V:=[.af t.logs.length (t.logs.flatMap cj),.af t.tasks.length (t.tasks.flatMap cF),.int .i64 (t.looked:Nat)]
theorem aht(rs:List ei):bb (e9 rs):=A4 (enc:=λp:ei=>kV p.1) (λp=>avu p.1) rs
theorem YG:∀rs:List ei,bb (gm rs)
 | []=>bb.nil
 | p::rs=>bb.cons (a8.bool _) (YG rs)
theorem RB(p:Int×List ei):bb (cj p):=bb.cons (a8.int _ _) (bb.cons (a8.af (aht _)) (bb.cons (a8.af (YG _)) bb.nil))
theorem YH(x:og):bb (cF x):=bb.cons (a8.int _ _) (bb.cons (a8.int _ _) (bb.cons (a8.int _ _) (bb.cons (a8.af (yM _)) (bb.cons (a8.af (yM _)) (bb.cons (a8.int _ _) bb.nil)))))
theorem av2(t:uG):bb (cN t):=bb.cons (a8.af (A4 RB _)) (bb.cons (a8.af (A4 YH _)) (bb.cons (a8.int _ _) bb.nil))
def nv(t:Int)(j:ks):og:=⟨t,j.ep,j.tx,j.offs,j.ord,j.opn.length⟩
def p2(n:Int):List Int->List Int
 | []=>[n]
 | x::l=>if x=n then x::l else if n<x then n::x::l else x::p2 n l
theorem YI{n a:Int}:∀{l:List Int},a∈p2 n l↔a=n\/a∈l
 | []=>by simp[p2]
 | x::l=>by
  unfold p2;split
  ·rename_i h;subst h;simp
  split
  ·simp
  ·rw[Iz,YI (l:=l),Iz]
   constructor
   ·rintro(h|h|h)<;>simp[h]
   ·rintro(h|h|h)<;>simp[h]
theorem ahu{n:Int}:∀{l:List Int},l.Pairwise (·<·)->(p2 n l).Pairwise (·<·)
 | [],_=>by simp[p2]
 | x::l,h=>by
  have h':=aze.1 h;unfold p2;split
  ·exact h
  rename_i j;split
  ·rename_i i;refine aze.2 ⟨λa aT=>?_,h⟩;rcases Iz.1 aT with rfl|aT
   ·exact i
   ·have:=h'.1 a aT;omega
  ·rename_i i;refine aze.2 ⟨λa aT=>?_,ahu h'.2⟩;rcases YI.1 aT with rfl|aT
   ·omega
   ·exact h'.1 a aT
def OC(l:List Int):List Int:=l.foldl (λa n=>p2 n a) []
theorem YJ:∀(l a:List Int),(∀x,x∈l.foldl (λa n=>p2 n a) a↔x∈a\/x∈l)/\(a.Pairwise (·<·)->(l.foldl (λa n=>p2 n a) a).Pairwise (·<·))
 | [],a=>⟨λx=>by simp,λh=>h⟩
 | y::l,a=>by
  obtain⟨i,j⟩:=YJ l (p2 y a);refine⟨λx=>?_,λh=>j (ahu h)⟩;rw[List.foldl_cons,i,YI,Iz]
  constructor
  ·rintro((h|h)|h)<;>simp[h]
  ·rintro(h|h|h)<;>simp[h]
theorem ahv{l:List Int}{x:Int}:x∈OC l↔x∈l:=by rw[OC,(YJ l []).1];simp
theorem ahw(l:List Int):(OC l).Pairwise (·<·):=(YJ l []).2 azV.nil
structure av3(s:nH)(logs:List (Int×List ei))(tasks:List og):Prop where
 lm:∀p,p∈logs↔p.2=s.logs p.1/\p.2≠[]
 ahx:logs.Pairwise λa b=>a.1<b.1
 ck:∀x,x∈tasks↔∃j,s.tasks x.t=some j/\x=nv x.t j
 ahy:tasks.Pairwise λa b=>a.t<b.t
theorem YK{α:Type}{key:α->Int}:∀{a b:List α},(∀x,x∈a↔x∈b)->a.Pairwise (λx y=>key x<key y)->b.Pairwise (λx y=>key x<key y)->a=b
 | [],[],_,_,_=>rfl
 | [],y::b,h,_,_=>by have:=(h y).2 (by simp);cases this
 | x::a,[],h,_,_=>by have:=(h x).1 (by simp);cases this
 | x::a,y::b,h,aT,ak=>by
  have m:=aze.1 aT;have q:=aze.1 ak;have e:x=y:=by
   rcases Iz.1 ((h x).1 (by simp))with e|i
   ·exact e
   rcases Iz.1 ((h y).2 (by simp))with e|s
   ·exact e.symm
   have:=q.1 x i;have:=m.1 y s;omega
  subst e
  congr 1
  refine YK (λz=>⟨λj=>?_,λj=>?_⟩) m.2 q.2
  ·rcases Iz.1 ((h z).1 (by simp[j]))with rfl|i
   ·have:=m.1 z j;omega
   ·exact i
  ·rcases Iz.1 ((h z).2 (by simp[j]))with rfl|i
   ·have:=q.1 z j;omega
   ·exact i
def x1(l:List bC):List (Int×List ei):=((OC (l.map (·.log))).map λk=>(k,(hM l).logs k)).filter λp=>!p.2.isEmpty
def xg(l:List bC):List og:=(OC (l.map (·.task))).filterMap λt=>((hM l).tasks t).map (nv t)
def toldOf(l:List bC):uG:=⟨x1 l,xg l,l.length⟩
structure RC(l:List bC)(s:nH):Prop where
 oK:∀k,s.logs k≠[]->k∈l.map (·.log)
 hg:∀t j,s.tasks t=some j->t∈l.map (·.task)/\∀p∈j.opn,p.1.log∈l.map (·.log)
theorem ahz{A:Int->Prop}:∀(o:List (bC×Nat)) (f:Int->List ei),(∀p∈o,A p.1.log)->(∀k,f k≠[]->A k)->∀k,rb f o k≠[]->A k
 | [],f,_,a,k,h=>a k h
 | p::o,f,j,a,k,h=>by
  refine ahz o (jI f p.1) (λq m=>j q (by simp[m])) (λk i=>?_) k h
  unfold jI at i;split at i
  ·rename_i e;subst e;exact j p (by simp)
  ·exact a k i
theorem av4{l:List bC}{s:nH}(h:RC l s)(x:bC)(i:Nat):RC (l++[x]) (mb s x i):=by
 have up:∀{k},k∈l.map (·.log)->k∈(l++[x]).map (·.log):=λu=>by rw[azp];exact aAn _ u
 have B:∀{k},k∈l.map (·.task)->k∈(l++[x]).map (·.task):=λu=>by rw[azp];exact aAn _ u
 have z:x.log∈(l++[x]).map (·.log):=by simp
 have C:x.task∈(l++[x]).map (·.task):=by simp
 have a:RC (l++[x]) s:=⟨λk u=>up (h.oK k u),λt j D=>⟨B (h.hg t j D).1,λp m=>up ((h.hg t j D).2 p m)⟩⟩;have A:∀p∈(bY s x.task).opn,p.1.log∈(l++[x]).map (·.log):=λp m=>by
  unfold bY at m;cases q:s.tasks x.task with
  | none=>rw[q]at m;cases m
  | some j=>rw[q]at m;exact(a.hg _ _ q).2 p m
 unfold mb;split
 ·exact a
 split
 ·refine⟨λk u=>?_,a.hg⟩;simp only[jI]at u;split at u
  ·rename_i e;rw[e];exact z
  ·exact a.oK k u
 split
 ·refine⟨a.oK,λt j q=>?_⟩;simp only at q;split at q
  ·rename_i e;subst e;injection q with q;subst q;refine⟨C,λp m=>?_⟩;unfold nu at m;split at m
   ·cases m
   ·exact A p m
  ·exact a.hg t j q
 split
 ·exact a
 refine⟨λk u=>?_,λt j q=>?_⟩
 ·simp only[r1]at u;split at u
  ·exact a.oK k u
  split at u
  ·exact ahz _ _ A a.oK k u
  ·exact a.oK k u
 ·simp only at q;split at q
  ·rename_i e;subst e;injection q with q;subst q;refine⟨C,λp m=>?_⟩;unfold mJ at m;split at m
   ·exact A p m
   split at m
   ·rcases List.mem_append.1 m with m|m
    ·exact A p m
    ·rw[List.mem_singleton.1 m];exact z
   split at m<;>cases m
  ·exact a.hg t j q
theorem RE:∀(n:Nat) (l:List bC),l.length=n->RC l (hM l)
 | 0,l,h=>by
  rw[aAm.1 h];exact⟨λk m=>absurd rfl m,λt j q=>by cases q⟩
 | n+1,l,h=>by
  obtain⟨a,x,rfl⟩:∃a x,l=a++[x]:=by
   cases i:l.reverse with
   | nil=>rw[aEB]at i;rw[i]at h;simp at h
   | cons x a=>exact⟨a.reverse,x,by rw[<-aDz l,i,aDA]⟩
  rw[Ff];exact av4 (RE n a (by rw[Dx]at h;simp at h;exact h)) x _
theorem He(l:List bC):av3 (hM l) (x1 l) (xg l):=by
 have A:=RE _ l rfl;refine⟨λp=>?_,?_,λx=>?_,?_⟩
 ·unfold x1;rw[List.mem_filter,OF]
  constructor
  ·rintro⟨⟨k,z,rfl⟩,m⟩
   exact⟨rfl,by simpa using m⟩
  ·rintro⟨i,m⟩
   refine⟨⟨p.1,ahv.2 (A.oK _ (i▸m)),?_⟩,by simpa using m⟩
   rw[<-i]
 ·unfold x1;refine azV.filter _ (List.pairwise_map.2 ?_);exact ahw _
 ·unfold xg;rw[List.mem_filterMap]
  constructor
  ·rintro⟨t,C,i⟩
   cases q:(hM l).tasks t with
   | none=>rw[q]at i;cases i
   | some j=>
    rw[q]at i;injection i with i;subst i;exact⟨j,q,rfl⟩
  ·rintro⟨j,i,m⟩
   refine⟨x.t,ahv.2 (A.hg _ _ i).1,?_⟩;rw[i];exact congrArg some m.symm
 ·unfold xg;refine azV.filterMap _ (λa b B x s y u=>?_) (ahw _);cases q:(hM l).tasks a with
  | none=>rw[q]at s;cases s
  | some j=>
   cases z:(hM l).tasks b with
   | none=>rw[z]at u;cases u
   | some k=>
    rw[q]at s;rw[z]at u;injection s with s;injection u with u;subst s u;exact B
def uH(n:Int)(K:List Int)(s:nH):Nat:=(s.logs n).length+(K.map λt=>(bY s t).opn.length).sum
theorem av5(s:nH)(x:bC)(i:Nat)(n:Int):((mb s x i).logs n).length+(bY (mb s x i) x.task).opn.length<=(s.logs n).length+(bY s x.task).opn.length+1:=by
 unfold mb;split
 ·omega
 split
 ·have:(jI s.logs x n).length<=(s.logs n).length+1:=by
   unfold jI;split
   ·rename_i e;subst e;simp
   ·omega
  show(jI s.logs x n).length+(bY s x.task).opn.length<=_;omega
 split
 ·show(s.logs n).length+((if x.task=x.task then some (nu (bY s x.task) x.cZ)else s.tasks x.task).getD ve).opn.length<=_
  rw[if_pos rfl];show _+(nu (bY s x.task) x.cZ).opn.length<=_;unfold nu;split
  ·simp only[ayK];omega
  ·omega
 split
 ·omega
 show(r1 s.logs (bY s x.task) x n).length+((if x.task=x.task then some (mJ (bY s x.task) x i)else s.tasks x.task).getD ve).opn.length<=_
 rw[if_pos rfl];show _+(mJ (bY s x.task) x i).opn.length<=_;unfold r1 mJ;split
 ·omega
 ·split
  ·rename_i a;rw[if_neg (by omega)]
   have:=Rz n (bY s x.task).opn s.logs (s.logs n).length (BY _);simp only[ayK];omega
  ·split
   ·simp only[Dx,List.length_singleton];omega
   ·simp only[ayK];omega
theorem av6(s:nH)(x:bC)(i:Nat){u:Int}(a:u≠x.task):(bY (mb s x i) u).opn=(bY s u).opn:=by
 unfold mb;split
 ·rfl
 split
 ·rfl
 split
 ·show((if u=x.task then some (nu (bY s x.task) x.cZ)else s.tasks u).getD ve).opn=_
  rw[if_neg a];rfl
 split
 ·rfl
 show((if u=x.task then some (mJ (bY s x.task) x i)else s.tasks u).getD ve).opn=_
 rw[if_neg a];rfl
theorem av7{s:nH}{N:Nat}(ih:∀n K,K.Nodup->uH n K s<=N)(x:bC)(i:Nat)(n:Int)(K:List Int)(q:K.Nodup):uH n K (mb s x i)<=N+1:=by
 have a:∀j:List Int,(x.task::j).Nodup->uH n (x.task::j) (mb s x i)<=N+1:=λj z=>by
  have m:=ih n _ z;have A:=av5 s x i n;have D:j.map (λt=>(bY (mb s x i) t).opn.length)=j.map λt=>(bY s t).opn.length:=List.map_congr_left λu E=>by
   rw[av6 s x i λe=>(azQ.1 z).1 (e▸E)]
  unfold uH at *;rw[axU,aDt]at *;rw[D];omega
 by_cases B:x.task∈K
 ·have C:=List.perm_cons_erase B;have m:=a _ (C.nodup_iff.1 q);have A:uH n K (mb s x i)=uH n (x.task::K.erase x.task) (mb s x i):=by
   unfold uH;rw[(C.map _).sum_nat]
  rw[A];exact m
 ·have m:=a K (azQ.2 ⟨B,q⟩);unfold uH at *;rw[axU,aDt]at m;omega
theorem ahC:∀(m:Nat) (l:List bC),l.length=m->∀n K,K.Nodup->uH n K (hM l)<=m
 | 0,l,h=>by
  rw[aAm.1 h];intro n K _;unfold uH;show 0+_<=0;have:∀K:List Int,(K.map λt=>(bY (hM []) t).opn.length).sum=0:=λK=>by
   induction K with
   | nil=>rfl
   | cons a K ih=>rw[axU,aDt,ih];rfl
  rw[this];omega
 | m+1,l,h=>by
  obtain⟨a,x,rfl⟩:∃a x,l=a++[x]:=by
   cases i:l.reverse with
   | nil=>rw[aEB]at i;rw[i]at h;simp at h
   | cons x a=>exact⟨a.reverse,x,by rw[<-aDz l,i,aDA]⟩
  rw[Ff];exact av7 (ahC m a (by rw[Dx]at h;simp at h;exact h)) x _
theorem ahD(l:List bC)(n:Int):((hM l).logs n).length<=l.length:=by
 have:=ahC _ l rfl n [] List.nodup_nil;unfold uH at this;simpa using this
theorem ahE{l:List bC}{k:Nat}(a:k<l.length){kk:aOT}:gP mc 29 (.af l.length (l.flatMap br)) (.int kk (k:Int))=some (.at (br l[k]++(l.drop (k+1)).flatMap br)):=tR (enc:=br) (sz:=11) w9 a Qu
theorem av8(x:bC)(r:List V):cJ (some (some 11)) (some (br x++r))=some (.agg (br x)):=be (w9 x)
def Cb(a b:Nat):gN:=λq=>if q=a then some (2,0,0)else if q=b then some (2,0,1)else none
theorem ahF{a b q:Nat}{i:Tag}(h:Cb a b q=some i):q=a\/q=b:=by
 unfold Cb at h;split at h
 ·exact .inl ‹_›
 ·split at h
  ·exact .inr ‹_›
  ·cases h
theorem j8.cast{j h:I}{lm ck u z:Nat}{s i:nH}{L T:kW}{ow:gN}(w:j8 j h lm ck s.logs s.tasks L u T z ow)(e:s=i):j8 j h lm ck i.logs i.tasks L u T z ow:=e▸w
def Fj(h:I)(ow:gN)(q:Nat):Prop:=q=h.n+1\/q=h.n+2\/∃a,ow q=some a
theorem TB(j h:I)(a i:Nat)(k:J j h none_)(A:j.n<=a/\a<h.n)(B:j.n<=i/\i<h.n)(m:a≠i)(s:h.get a=.map [] 0)(u:h.get i=.map [] 0):j8 j h a i OA.logs OA.tasks [] 0 [] 0 (Cb a i) :=
 ⟨k,λq C z=>by rcases ahF z with e|e<;>subst e<;>assumption,by simp[Cb],by simp[Cb,Ne.symm m],s,u,eg.nil 0,eg.nil 0,c1.nil,c1.nil,λ_ _ U=>(by cases U),λ_ _=>rfl,λ_ _ U=>(by cases U),λ_ _=>rfl⟩
theorem j8.RF{A h0' h h':I}{lm ck B C:Nat}{logs:Int->List ei}{tasks:Int->Option ks}{L T:kW}{ow:gN}(w:j8 A h lm ck logs tasks L B T C ow){own:Nat->Prop}(k:J h h' own)(u:∀q,own q->∀bs,ow q≠some bs)(D:J h0' h' none_)(E:h0'.n<=A.n):j8 h0' h' lm ck logs tasks L B T C ow where
 ai:=D
 bD q bs s:=⟨ajy E (w.bD q bs s).1,IS (w.bD q bs s).2 k.n⟩
 hV:=w.hV
 iB:=w.iB
 pz:=(k.get lm (w.bD _ _ w.hV).2 (λU=>u _ U _ w.hV)).trans w.pz
 gt:=(k.get ck (w.bD _ _ w.iB).2 (λU=>u _ U _ w.iB)).trans w.gt
 nU:=w.nU
 nV:=w.nV
 lp:=w.lp
 lq:=w.lq
 has q b s:=⟨(w.has q b s).1.on k (λq U i z=>u q U _ z) (λ_ _ U=>U) λq bs U=>(w.bD q bs U).2,(w.has q b s).2⟩
 kX:=w.kX
 kY t b s:=by
  obtain⟨j,F,G⟩:=w.kY t b s;exact⟨j,F,G.on k (λq U i z=>u q U _ z) (λ_ _ U=>U) λq bs U=>(w.bD q bs U).2⟩
 kZ:=w.kZ
open Go.Shelf
def M2:Go.Shelf.Ren:=⟨λ| 6=>54|15=>97|14=>96|28=>131|29=>132|20=>123|21=>124|22=>125|23=>126|24=>127|25=>128|26=>129|27=>130|46=>159|47=>160|48=>161|49=>162|50=>163|57=>183|n=>n,λ| 22=>31|24=>90|25=>122|3=>3|39=>189|0=>0|53=>236|55=>131|4=>4|46=>229|45=>228|50=>233|5=>5|9=>9|66=>270|70=>274|76=>310|77=>82|n=>n,λ| n=>n⟩
theorem ahG:Go.Proofs.SlLaysF0.n6 mc M2:={
 mixed:=by kernel_rfl
 f6:=⟨Tryz.f54.name,by decide,aGt.trans (congrArg some (by kernel_rfl))⟩
 f14:=⟨Tryz.f96.name,by decide,aGu.trans (congrArg some (by kernel_rfl))⟩
 f15:=aBR.trans (congrArg some (by kernel_rfl))
 f20:=⟨Tryz.f123.name,by decide,aGv.trans (congrArg some (by kernel_rfl))⟩
 f21:=⟨Tryz.f124.name,by decide,Tryz.func124.trans (congrArg some (by kernel_rfl))⟩
 f22:=⟨Tryz.f125.name,by decide,Tryz.func125.trans (congrArg some (by kernel_rfl))⟩
 f23:=⟨Tryz.f126.name,by decide,Tryz.func126.trans (congrArg some (by kernel_rfl))⟩
 f24:=⟨Tryz.f127.name,by decide,Tryz.func127.trans (congrArg some (by kernel_rfl))⟩
 f25:=⟨Tryz.f128.name,by decide,Tryz.func128.trans (congrArg some (by kernel_rfl))⟩
 f26:=⟨Tryz.f129.name,by decide,Tryz.func129.trans (congrArg some (by kernel_rfl))⟩
 f27:=⟨Tryz.f130.name,by decide,Tryz.func130.trans (congrArg some (by kernel_rfl))⟩
 f28:=aCp.trans (congrArg some (by kernel_rfl))
 f29:=aBQ.trans (congrArg some (by kernel_rfl))
 f46:=⟨Tryz.f159.name,by decide,Tryz.func159.trans (congrArg some (by kernel_rfl))⟩
 f47:=aCq.trans (congrArg some (by kernel_rfl))
 f48:=aCr.trans (congrArg some (by kernel_rfl))
 f49:=⟨Tryz.f162.name,by decide,Tryz.func162.trans (congrArg some (by kernel_rfl))⟩
 f50:=⟨Tryz.f163.name,by decide,Tryz.func163.trans (congrArg some (by kernel_rfl))⟩
 f57:=⟨Tryz.f183.name,by decide,Tryz.func183.trans (congrArg some (by kernel_rfl))⟩
 t0:=aCs
 a0:=aCt
 z0:=aCu
 v0:=aCv
 t3:=aBd
 a3:=aCw
 z3:=aCx
 v3:=aCy
 t4:=aCz
 a4:=aCA
 z4:=aCB
 v4:=aCC
 t5:=aCD
 a5:=aCE
 z5:=aCF
 v5:=aCG
 t9:=aCH
 a9:=aCI
 z9:=aCJ
 v9:=aCK
 t22:=Tryz.underlying31
 a22:=Tryz.isAgg31
 z22:=Tryz.sizeOf31
 v22:=Tryz.zeroValue31
 t25:=Tryz.underlying122
 a25:=Tryz.isAgg122
 z25:=Tryz.sizeOf122
 v25:=Tryz.zeroValue122
 t39:=aCL
 a39:=aCM
 z39:=aCN
 v39:=aCO
 t45:=aCP
 a45:=aCQ
 z45:=aCR
 v45:=aCS
 t46:=aCT
 a46:=aCU
 z46:=aCV
 v46:=aCW
 t50:=aCX
 a50:=aCY
 z50:=aCZ
 v50:=aC0
 t53:=aC1
 a53:=aC2
 z53:=aC3
 v53:=aC4
 t55:=aC5
 a55:=aC6
 z55:=aC7
 v55:=aC8
 t66:=aC9
 a66:=aDa
 z66:=aDb
 v66:=aDc
 t70:=aDd
 a70:=aDe
 z70:=aDf
 v70:=aDg
 t76:=aDh
 a76:=aDi
 z76:=aDj
 v76:=aDk
 t77:=aDl
 a77:=aDm
 z77:=aDn
 v77:=aDo }
open Go Go.Proofs Go.Proofs.YtemdgidnhgcafaaGreatDoor.Ab Go.Sort
theorem av9(h:I)(x c:V)(n lim:Int)(q:n<=1)(s:0<=n):Pure mc 123 [x,.int .i64 0,.int .i64 n,c] h (.tuple []):=by
 refine Pure.val (a8.tuple bb.nil) ?_;refine bd aGv rfl ?_;have a:aOT.i64.wrap (0+1)=1:=by decide
 simp only[ae,ds,a];refine aS.bI (α:=Unit) (λ_ f h'=>f 8=.int .i64 1/\f 2=.int .i64 n/\h'=h) (λ_=>0) () ⟨rfl,rfl,rfl⟩ ?_
 rintro _ f h' ⟨i,j,rfl⟩
 refine wpS ?_;have m:decide (1<n)=false:=decide_eq_false (by omega)
 simp only[ae,ds,i,j,m,k6,Tryz.results123,hK];exact ar ⟨rfl,J.refl _ _⟩
theorem awa(h:I)(x c:V)(n l:Int)(a:n<=1)(i:0<=n):Pure mc 96 [x,.int .i64 0,.int .i64 n,.int .i64 l,c] h (.tuple []):=by
 refine Pure.val (a8.tuple bb.nil) ?_;refine bd aGu rfl ?_;simp only[ae];refine aS.bI (α:=Unit) (λ_ f h'=>f 0=x/\f 1=.int .i64 0/\f 2=.int .i64 n/\f 4=c/\h'=h) (λ_=>0) () ⟨rfl,rfl,rfl,rfl,rfl⟩ ?_
 rintro _ f h' ⟨j,m,q,s,rfl⟩
 refine wpS ?_;have u:aOT.i64.wrap (n-0)=n:=by rw[Go.IntWalk.i64_in _ (by omega)];omega
 have z:decide (n<=12)=true:=decide_eq_true (by omega)
 simp only[ae,ds,reduceCtorEq,j,m,q,s,u,z];refine bO (av9 _ x c n 0 a i) ?_;simp only[ae,aP,Tryz.results96,hK];exact ar ⟨rfl,J.refl _ _⟩
theorem awb(h:I)(x c:V)(n:Int)(a:n=0\/n=1)(i:dJ mc 31 x h=some (.int .i64 n)):Pure mc 54 [x,c] h (.tuple []):=by
 refine Pure.val (a8.tuple bb.nil) ?_;refine bd aGt rfl ?_;have j:aOT.u64.wrap n=n:=by rcases a with rfl|rfl<;>decide
 simp only[ae,ds,reduceCtorEq,Ge,gS,i,j];refine bO (GM h n a) ?_;simp only[ae,ds];refine bO (awa h x c n n (by omega) (by omega)) ?_
 simp only[ae,k6,Tryz.results54,hK];exact ar ⟨rfl,J.refl _ _⟩
theorem awc{g:FuncId}{cf:(Int×List ei)->(Int×List ei)->Int}(m:SWO (ltOf cf))(A:∀a b,au mc g [.agg (cj a),.agg (cj b)] xz λr _=>r=.int .i64 (cf a b))
  (B:∀args w,(callFunc g args).run mc w=.ok (.enter g args) w) (h:I) (x:V) (l:List (Int×List ei)) (u:Own h 90 3 x (l.flatMap cj)) (z:l.length<=2^40) :
  au mc 54 [x,.func (.func g) [] []] h λr h'=>r=.tuple []/\J h h' (a7 x)/\∃q:List (Int×List ei),q.Perm l/\(q.Pairwise λa b=>ltOf cf b a=false)/\Own h' 90 3 x (q.flatMap cj):=by
 refine Ve (by decide) JR (λx=>rfl) RB m A
  (λn enc C D cf m hz cap d w av hH ak E=>AnyQ.slices_SortFunc ahG 3 Tryz.isAgg90 Tryz.sizeOf90 enc C D cf m g #[] hz 0 cap d w B av hH ak E) (λF=>?_) u (by omega)
 subst F;have j:dJ mc 31 x h=some (.int .i64 0):=by
  rcases u with⟨rfl|rfl,_⟩|⟨i,s,cap,c,G,rfl,_,_,z,_⟩
  ·exact yK Qo
  ·exact zz Qo
  ·have:s=0:=by simp at z;omega
   subst this;exact zy Qo
 exact awb h x _ 0 (.inl rfl) j
def awd:Go.Shelf.Ren:=⟨λ| 6=>57|15=>97|14=>99|28=>131|29=>132|20=>133|21=>134|22=>135|23=>136|24=>137|25=>138|26=>139|27=>140|46=>164|47=>160|48=>161|49=>165|50=>166|57=>184|n=>n,λ| 22=>32|24=>57|25=>127|3=>3|39=>189|0=>0|53=>236|55=>131|4=>4|46=>229|45=>228|50=>233|5=>5|9=>9|66=>270|70=>274|76=>310|77=>82|n=>n,λ| n=>n⟩
theorem ahH:Go.Proofs.SlLaysF0.n6 mc awd:={
 mixed:=by kernel_rfl
 f6:=⟨Tryz.f57.name,by decide,aGw.trans (congrArg some (by kernel_rfl))⟩
 f14:=⟨Tryz.f99.name,by decide,aGx.trans (congrArg some (by kernel_rfl))⟩
 f15:=aBR.trans (congrArg some (by kernel_rfl))
 f20:=⟨Tryz.f133.name,by decide,aGy.trans (congrArg some (by kernel_rfl))⟩
 f21:=⟨Tryz.f134.name,by decide,Tryz.func134.trans (congrArg some (by kernel_rfl))⟩
 f22:=⟨Tryz.f135.name,by decide,Tryz.func135.trans (congrArg some (by kernel_rfl))⟩
 f23:=⟨Tryz.f136.name,by decide,Tryz.func136.trans (congrArg some (by kernel_rfl))⟩
 f24:=⟨Tryz.f137.name,by decide,Tryz.func137.trans (congrArg some (by kernel_rfl))⟩
 f25:=⟨Tryz.f138.name,by decide,Tryz.func138.trans (congrArg some (by kernel_rfl))⟩
 f26:=⟨Tryz.f139.name,by decide,Tryz.func139.trans (congrArg some (by kernel_rfl))⟩
 f27:=⟨Tryz.f140.name,by decide,Tryz.func140.trans (congrArg some (by kernel_rfl))⟩
 f28:=aCp.trans (congrArg some (by kernel_rfl))
 f29:=aBQ.trans (congrArg some (by kernel_rfl))
 f46:=⟨Tryz.f164.name,by decide,Tryz.func164.trans (congrArg some (by kernel_rfl))⟩
 f47:=aCq.trans (congrArg some (by kernel_rfl))
 f48:=aCr.trans (congrArg some (by kernel_rfl))
 f49:=⟨Tryz.f165.name,by decide,Tryz.func165.trans (congrArg some (by kernel_rfl))⟩
 f50:=⟨Tryz.f166.name,by decide,Tryz.func166.trans (congrArg some (by kernel_rfl))⟩
 f57:=⟨Tryz.f184.name,by decide,Tryz.func184.trans (congrArg some (by kernel_rfl))⟩
 t0:=aCs
 a0:=aCt
 z0:=aCu
 v0:=aCv
 t3:=aBd
 a3:=aCw
 z3:=aCx
 v3:=aCy
 t4:=aCz
 a4:=aCA
 z4:=aCB
 v4:=aCC
 t5:=aCD
 a5:=aCE
 z5:=aCF
 v5:=aCG
 t9:=aCH
 a9:=aCI
 z9:=aCJ
 v9:=aCK
 t22:=Tryz.underlying32
 a22:=Tryz.isAgg32
 z22:=Tryz.sizeOf32
 v22:=Tryz.zeroValue32
 t25:=Tryz.underlying127
 a25:=Tryz.isAgg127
 z25:=Tryz.sizeOf127
 v25:=Tryz.zeroValue127
 t39:=aCL
 a39:=aCM
 z39:=aCN
 v39:=aCO
 t45:=aCP
 a45:=aCQ
 z45:=aCR
 v45:=aCS
 t46:=aCT
 a46:=aCU
 z46:=aCV
 v46:=aCW
 t50:=aCX
 a50:=aCY
 z50:=aCZ
 v50:=aC0
 t53:=aC1
 a53:=aC2
 z53:=aC3
 v53:=aC4
 t55:=aC5
 a55:=aC6
 z55:=aC7
 v55:=aC8
 t66:=aC9
 a66:=aDa
 z66:=aDb
 v66:=aDc
 t70:=aDd
 a70:=aDe
 z70:=aDf
 v70:=aDg
 t76:=aDh
 a76:=aDi
 z76:=aDj
 v76:=aDk
 t77:=aDl
 a77:=aDm
 z77:=aDn
 v77:=aDo }
theorem awe(h:I)(x c:V)(n lim:Int)(q:n<=1)(s:0<=n):Pure mc 133 [x,.int .i64 0,.int .i64 n,c] h (.tuple []):=by
 refine Pure.val (a8.tuple bb.nil) ?_;refine bd aGy rfl ?_;have a:aOT.i64.wrap (0+1)=1:=by decide
 simp only[ae,ds,a];refine aS.bI (α:=Unit) (λ_ f h'=>f 8=.int .i64 1/\f 2=.int .i64 n/\h'=h) (λ_=>0) () ⟨rfl,rfl,rfl⟩ ?_
 rintro _ f h' ⟨i,j,rfl⟩
 refine wpS ?_;have m:decide (1<n)=false:=decide_eq_false (by omega)
 simp only[ae,ds,i,j,m,k6,Tryz.results133,hK];exact ar ⟨rfl,J.refl _ _⟩
theorem awf(h:I)(x c:V)(n l:Int)(a:n<=1)(i:0<=n):Pure mc 99 [x,.int .i64 0,.int .i64 n,.int .i64 l,c] h (.tuple []):=by
 refine Pure.val (a8.tuple bb.nil) ?_;refine bd aGx rfl ?_;simp only[ae];refine aS.bI (α:=Unit) (λ_ f h'=>f 0=x/\f 1=.int .i64 0/\f 2=.int .i64 n/\f 4=c/\h'=h) (λ_=>0) () ⟨rfl,rfl,rfl,rfl,rfl⟩ ?_
 rintro _ f h' ⟨j,m,q,s,rfl⟩
 refine wpS ?_;have u:aOT.i64.wrap (n-0)=n:=by rw[Go.IntWalk.i64_in _ (by omega)];omega
 have z:decide (n<=12)=true:=decide_eq_true (by omega)
 simp only[ae,ds,reduceCtorEq,j,m,q,s,u,z];refine bO (awe _ x c n 0 a i) ?_;simp only[ae,aP,Tryz.results99,hK];exact ar ⟨rfl,J.refl _ _⟩
theorem awg(h:I)(x c:V)(n:Int)(a:n=0\/n=1)(i:dJ mc 32 x h=some (.int .i64 n)):Pure mc 57 [x,c] h (.tuple []):=by
 refine Pure.val (a8.tuple bb.nil) ?_;refine bd aGw rfl ?_;have j:aOT.u64.wrap n=n:=by rcases a with rfl|rfl<;>decide
 simp only[ae,ds,reduceCtorEq,Ge,gS,i,j];refine bO (GM h n a) ?_;simp only[ae,ds];refine bO (awf h x c n n (by omega) (by omega)) ?_
 simp only[ae,k6,Tryz.results57,hK];exact ar ⟨rfl,J.refl _ _⟩
theorem awh{g:FuncId}{cf:og->og->Int}(m:SWO (ltOf cf))(A:∀a b,au mc g [.agg (cF a),.agg (cF b)] xz λr _=>r=.int .i64 (cf a b))
  (B:∀args w,(callFunc g args).run mc w=.ok (.enter g args) w) (h:I) (x:V) (l:List og) (u:Own h 57 6 x (l.flatMap cF)) (z:l.length<=2^40) :
  au mc 57 [x,.func (.func g) [] []] h λr h'=>r=.tuple []/\J h h' (a7 x)/\∃q:List og,q.Perm l/\(q.Pairwise λa b=>ltOf cf b a=false)/\Own h' 57 6 x (q.flatMap cF):=by
 refine Ve (by decide) JT (λx=>rfl) YH m A
  (λn enc C D cf m hz cap d w av hH ak E=>AnyQ.slices_SortFunc ahH 6 Tryz.isAgg57 Tryz.sizeOf57 enc C D cf m g #[] hz 0 cap d w B av hH ak E) (λF=>?_) u (by omega)
 subst F;have j:dJ mc 32 x h=some (.int .i64 0):=by
  rcases u with⟨rfl|rfl,_⟩|⟨i,s,cap,c,G,rfl,_,_,z,_⟩
  ·exact yK Qp
  ·exact zz Qp
  ·have:s=0:=by simp at z;omega
   subst this;exact zy Qp
 exact awg h x _ 0 (.inl rfl) j
def y5(x y:Int):Int:=if x<y then -1 else if y<x then 1 else 0
theorem ahI(h:I)(x:Int):Pure mc 98 [.int .i64 x] h (.bool false):=by
 refine Pure.val (a8.bool _) ?_;refine bd Tryz.func98 rfl ?_;have e:(x !=x)=false:=by simp
 simp only[ae,ds,reduceCtorEq,aP,Tryz.results98,ac];exact ar ⟨rfl,J.refl _ _⟩
theorem ahJ(h:I)(x y:Int):Pure mc 56 [.int .i64 x,.int .i64 y] h (.int .i64 (y5 x y)):=by
 refine Pure.val (a8.int _ _) ?_;refine bd Tryz.func56 rfl ?_;simp only[ae,IN,ds,reduceCtorEq];refine bO (ahI h x) ?_;simp only[ae,IN,ds];refine bO (ahI h y) ?_;by_cases a:x<y
 ·have i:decide (x<y)=true:=decide_eq_true a;simp only[ae,IN,ds,reduceCtorEq,i,aP,aEC,ac];exact ar ⟨by rw[y5,if_pos a],J.refl _ _⟩
 ·have i:decide (x<y)=false:=decide_eq_false a;by_cases j:y<x
  ·have m:decide (y<x)=true:=decide_eq_true j;simp only[ae,IN,ds,reduceCtorEq,i,m,aP,aEC,ac];exact ar ⟨by rw[y5,if_neg a,if_pos j],J.refl _ _⟩
  ·have m:decide (y<x)=false:=decide_eq_false j;simp only[ae,IN,ds,reduceCtorEq,i,m,aP,aEC,ac];exact ar ⟨by rw[y5,if_neg a,if_neg j],J.refl _ _⟩
theorem awi(a b:(Int×List ei))(h:I):Pure mc 55 [.agg (cj a),.agg (cj b)] h (.int .i64 (y5 a.1 b.1)):=by
 refine Pure.val (a8.int _ _) ?_;refine bd aGz rfl ?_;have i:(V.agg (cj a)).cells=some (cj a):=rfl;have j:(V.agg (cj b)).cells=some (cj b):=rfl;have m:cO (aR.cells (cj a) 90 none) 0=some (cj a):=rfl;have q:cO (aR.cells (cj b) 90 none) 0=some (cj b):=rfl;have s:cJ (some none) (some (cj a))=some (.int .i64 a.1):=rfl;have u:cJ (some none) (some (cj b))=some (.int .i64 b.1):=rfl;have z:J h ((h.push (.cells (cj a) 90 none)).push (.cells (cj b) 90 none)) none_:=(J.push _ _ _).trans' (J.push _ _ _);simp only[ae,ds,abD,aY,i,j,m,q,s,u];refine bO (ahJ _ a.1 b.1) ?_;simp only[ae,ds,aP,Tryz.results55,ac];exact ar ⟨rfl,z⟩
theorem awj(h:I)(x:V)(l:List (Int×List ei))(j:Own h 90 3 x (l.flatMap cj))(u:l.length<=2^40) :
  au mc 54 [x,.func (.func 55) [] []] h λr h'=>r=.tuple []/\J h h' (a7 x)/\∃i:List (Int×List ei),i.Perm l/\(i.Pairwise λa b=>¬b.1<a.1)/\Own h' 90 3 x (i.flatMap cj):=by
 have e:∀a b:(Int×List ei),ltOf (λa b:(Int×List ei)=>y5 a.1 b.1) a b=decide (a.1<b.1):=λa b=>by
  unfold ltOf y5;rw[azm];simp only[decide_eq_true_eq];split<;>(try split)<;>omega
 refine(awc (cf:=λa b=>y5 a.1 b.1) ⟨λa=>by rw[e];simp,λa b c m q=>by rw[e]at *;simp at *;omega,λa b c m q=>by rw[e]at *;simp at *;omega⟩
  (λa b=>(awi a b xz).mono λr h' U=>U.1) (enters_of aGz (by kernel_rfl) rfl) h x l j u).mono λr h' ⟨m,q,i,z,A,j⟩=>⟨m,q,i,z,A.imp λ{a b} s=>by rw[e]at s;simpa using s,j⟩
theorem awk(a b:og)(h:I):Pure mc 58 [.agg (cF a),.agg (cF b)] h (.int .i64 (y5 a.t b.t)):=by
 refine Pure.val (a8.int _ _) ?_;refine bd aGA rfl ?_;have i:(V.agg (cF a)).cells=some (cF a):=rfl;have j:(V.agg (cF b)).cells=some (cF b):=rfl;have m:cO (aR.cells (cF a) 57 none) 0=some (cF a):=rfl;have q:cO (aR.cells (cF b) 57 none) 0=some (cF b):=rfl;have s:cJ (some none) (some (cF a))=some (.int .i64 a.t):=rfl;have u:cJ (some none) (some (cF b))=some (.int .i64 b.t):=rfl;have z:J h ((h.push (.cells (cF a) 57 none)).push (.cells (cF b) 57 none)) none_:=(J.push _ _ _).trans' (J.push _ _ _);simp only[ae,ds,abB,aY,i,j,m,q,s,u];refine bO (ahJ _ a.t b.t) ?_;simp only[ae,ds,aP,Tryz.results58,ac];exact ar ⟨rfl,z⟩
theorem awl(h:I)(x:V)(l:List og)(j:Own h 57 6 x (l.flatMap cF))(u:l.length<=2^40) :
  au mc 57 [x,.func (.func 58) [] []] h λr h'=>r=.tuple []/\J h h' (a7 x)/\∃i:List og,i.Perm l/\(i.Pairwise λa b=>¬b.t<a.t)/\Own h' 57 6 x (i.flatMap cF):=by
 have e:∀a b:og,ltOf (λa b:og=>y5 a.t b.t) a b=decide (a.t<b.t):=λa b=>by
  unfold ltOf y5;rw[azm];simp only[decide_eq_true_eq];split<;>(try split)<;>omega
 refine(awh (cf:=λa b=>y5 a.t b.t) ⟨λa=>by rw[e];simp,λa b c m q=>by rw[e]at *;simp at *;omega,λa b c m q=>by rw[e]at *;simp at *;omega⟩
  (λa b=>(awk a b xz).mono λr h' U=>U.1) (enters_of aGA (by kernel_rfl) rfl) h x l j u).mono λr h' ⟨m,q,i,z,A,j⟩=>⟨m,q,i,z,A.imp λ{a b} s=>by rw[e]at s;simpa using s,j⟩
end Go.Proofs.YtemdgidnhgcafaaGreatDoor.Pk
