/-
  What functions of the program do, told of abstract states. Conditions: as each theorem says.
-/
import Derived.Test.YtemdgidnhgcafaaGreatDoorQd
import Derived.Test.YtemdgidnhgcafaaGreatDoorQc
import Derived.Test.YtemdgidnhgcafaaGreatDoorAdD
import Derived.Test.YtemdgidnhgcafaaGreatDoorQb
import Derived.Lib.LaidTab
import Derived.Lib.LaidU8
import Derived.Stop.LaidErr
open Go.IntWalk renaming i64_in->kp
open Go.Proofs.YtemdgidnhgcafaaGreatDoor.Ab.V renaming int->kA,agg->kB
open Option renaming some->eL,none->eN
open Bool renaming true->e6,false->fr
open Go.IntKind renaming i64->gj
open Go.Proofs.Tryz renaming prog->mP
open Nat renaming reduceEqDiff->ds,reduceAdd->AT,reduceLeDiff->By,zero_le->D8,le_refl->BY,zero_add->ayB,lt_of_lt_of_le->IS,le_trans->UN,mul_le_mul_right->ay6,le_succ->aAQ
open List renaming take_succ_eq_append_getElem->ayY,length_take->ajB,getElem_mem->ayz,mem_append->axE,mem_map->OF,mem_flatMap->aAg,mem_cons->IN,mem_singleton->azh,take_append_drop->azL,length_append->D9,take->ay5,map_cons->ajF,map_nil->azd,cons_append->aza,nil_append->aze,find?_eq_none->aBw,mem_of_find?_eq_some->aDC,find?_some->aFb,mem_append_left->aAd,filter_append->az0,map_append->ay1,Nodup->aAy,pairwise_map->azt,length_map->ajD,range->ajC,map_map->azn,all_eq_true->ayy,mem_range->aDD,getElem?_eq_getElem->Jt,append_nil->axA,range_succ->aCH,flatMap_append->ay3,flatMap_cons->ayW,take_of_length_le->ajE,append_assoc->axC,map_eq_nil_iff->aC6,filter_eq_nil_iff->aAe,mem_replicate->aC7,mem_filter->ajA,find?_cons->azC,filter_cons_of_pos->az6,filter_cons_of_neg->azZ,filter_congr->azy,of_mem_zip->aFc,getD_eq_getElem?_getD->aCL,length_set->aBa,length_singleton->az9,getElem_map->aBr
open Bool renaming and_eq_true->are,or_eq_false_iff->azv,not_eq_false'->az1
open Int renaming toNat_natCast->ayw,le_refl->az7,tmod_eq_emod_of_nonneg->az5
open Go renaming IntKind->aPh
set_option linter.unusedVariables false
set_option linter.unusedSimpArgs false
set_option maxHeartbeats 64000000
set_option maxRecDepth 20000
namespace Go.Proofs.YtemdgidnhgcafaaGreatDoor.Pk
open Go Go.Proofs Go.Proofs.YtemdgidnhgcafaaGreatDoor.Ab Go.Proofs.Vw
theorem awz{v:V}(l:List bz)(aB:l.length<=2^30)(he:∀x∈l,pq x)(h:I)(aI:Own h 48 11 v (l.flatMap bo))(hu:qL h) :
  au mP 27 [v] h (λr h'=>∃lm cu L W T eC,r=.agg [.map lm,.map cu]/\yf h h' lm cu (en l) L W T eC):=by
 refine au.cast ?_;have w0:=DZ aI ui (by decide) (ft sZ l);refine a7 Tryz.func27 rfl ?_;simp only[ae,ds,AT,By,reduceCtorEq,al,w0];refine aT.bG (α:=Nat×(lz×Nat×lz×Nat×ho)) (λy f h'=>f 2=.ptr h.n 0/\f 3=.ptr (h.n+3) 0/\f 9=v/\f 10=.int gj (l.length:Nat)/\f 11=.int gj (y.1:Nat)/\y.1<=l.length /\
   h'.get (h.n+3)=.cells [.map (h.n+1),.map (h.n+2)] 74 eN/\h.n+3<h'.n/\(∀m,y.2.2.2.2.2 (h.n+3)≠eL m) /\
   kO (h.push (.cells [.fK,.fK] 74 eN)) h' (h.n+1) (h.n+2) (en (l.take y.1)).logs (en (l.take y.1)).tasks y.2.1 y.2.2.1 y.2.2.2.1 y.2.2.2.2.1 y.2.2.2.2.2)
   (λy=>l.length-y.1) (0,[],0,[],0,CN (h.n+1) (h.n+2)) ⟨rfl,rfl,rfl,rfl,rfl,D8 _,?_,?_,?_,?_⟩ ?_
 .simp[I.push]
 .simp only[dn];omega
 .intro m U;rcases ahc U with e|e<;>omega
 .refine Un _ _ _ _ (((J.push _ _ _).trans' (J.push _ _ _)).trans' (J.push _ _ _)) ⟨BY _,?_⟩ ⟨?_,?_⟩ (by omega) ?_ ?_
  .simp only[dn];omega
  .simp only[dn];omega
  .simp only[dn];omega
  .simp[I.push]
  .simp[I.push]
 rintro⟨i,L,W,T,eC,A⟩ f X ⟨Y,C,Z,z,u,hi,gs,k5,mz,w⟩
 simp only at u hi mz w;refine wpS ?_;have xy:=w.ai;have wK:=xy.n;rw[dn]at wK;by_cases F:i<l.length
 .have d1:=dK i l.length;have l8:=iM i;have EH:=(aI.aY (J.push h (.cells [V.fK,.fK] 74 eN) kR)).aY xy;obtain⟨O4,Y9,b0,_,xu⟩:=Y7 (kk:=.i64) sZ (by decide) EP EH F;rw[Es,EP]at b0;rw[ayB]at b0 xu;have b0:p3 (eL 11) eN v (i:Int)=eL (.ptr O4 (i*11)):=b0;have Q:en (l.take (i+1))=lM (en (l.take i)) l[i] i:=by rw[ayY F,FH,ajB,Nat.min_eq_left (by omega)]
  have Fo:=Za i (l.take i) (by rw[ajB];omega);have PE:∀n,((en (l.take i)).logs n).length<=i:=λn=>by have:=Zh (l.take i) n;rw[ajB]at this;omega
  have pz:=he _ (ayz F);generalize l[i]=x at xu Q pz;generalize en (l.take i)=s at w Q Fo PE;have ld:=avw;have q2:(kB (bo x)).cells=eL (bo x):=rfl;have OR:bD (eL 11) (aP.cells [kA gj 0,.int gj 0,.int gj 0,.int gj 0,.int gj 0,.int gj 0,.int gj 0,.int gj 0,.bool fr,.ah,.ah] 48 eN) 0 (bo x)=eL (.cells (bo x) 48 eN):=rfl;obtain⟨H,hH,bl,ky,hx⟩:=bU X (.cells (bo x) 48 eN);have G:=(bl.get (h.n+3) k5 (by simp[kR])).trans gs;have oJ:=w.on bl;have hZ:qL H:=by unfold qL;rw[bl.glob,xy.glob];exact hu
  have ka:(bo x).take 11=bo x:=rfl;have PF:=sZ x;simp only[ae,ds,al,EP,Z,z,u,d1,b0,xu,ld,q2,OR,ka,PF];rw[<-hH];clear hH;refine bE (agx x H hZ pz) ?_;have FU:∀q m,A q=eL m->q≠h.n+3:=λq m D U=>mz m (U▸D);have af:∀q m,A q=eL m->q≠X.n:=λq m D U=>by have:=(w.bH _ _ D).2;omega
  have d0:cI (aP.cells (bo x) 48 eN) 0=eL (bo x):=rfl;have Uv:cI (aP.cells (bo x) 48 eN) 1=eL ((bo x).drop 1):=rfl;have av:cI (aP.cells (bo x) 48 eN) 2=eL ((bo x).drop 2):=rfl;have qK:cw (eL eN) (eL (bo x))=eL (.int gj x.kind):=rfl;have gp:cw (eL eN) (eL ((bo x).drop 1))=eL (.int gj x.task):=rfl;have gI:cw (eL eN) (eL ((bo x).drop 2))=eL (.int gj x.cN):=rfl;have aG:cw (eL (eL 11)) (eL (bo x))=eL (.agg (bo x)):=rfl;have cL:cI (aP.cells [V.map (h.n+1),.map (h.n+2)] 74 eN) 0=eL [.map (h.n+1),.map (h.n+2)]:=rfl;have PG:cw (eL (eL 2)) (eL [V.map (h.n+1),.map (h.n+2)])=eL (.agg [.map (h.n+1),.map (h.n+2)]):=rfl;cases hm:ha x with
  | false=>
   simp only[ae,ds,reduceCtorEq,al,C,u,l8];exact ar ⟨(i+1,L,W,T,eC,A),⟨Y,C,Z,z,rfl,F,G,by omega,mz,oJ.cast (Q.trans (by unfold lM;rw[gr hm])).symm⟩,by simp only;omega⟩
  | true=>
   have hk:=((B3 x).1 hm).1;have zc:¬ha x=false:=by rw[hm];simp
   by_cases bx:x.kind=1
   .have ba:(x.kind==1)=true:=(by simpa using bx);have HB:(s.logs x.log).length<=2^40:=by
     have:=PE x.log;omega
    simp only[ae,ds,al,C,ky,G,d0,qK,ka,PF,cL,PG,ba];refine cp (O0 x oJ HB) λr aD ⟨E,O5,FG,h6,jn,OL,M,rQ⟩=>?_;subst E;have n3:=M.n;have CL:=(M.get (h.n+3) (by omega) (λU=>by rcases U with U|⟨k,i2,U⟩;omega;exact FU _ _ U rfl)).trans G;simp only[ae,ds,u,l8];exact ar ⟨(i+1,O5,FG,T,eC,h6),⟨Y,C,Z,z,rfl,F,CL,by omega,λm U=>by
     rcases rQ _ _ U with U|U
     .exact FU _ _ U rfl
     .omega,kO.cast (s:=⟨jg s.logs x,s.tasks⟩) jn (Q.trans (by unfold lM;rw[gQ zc,gr bx])).symm⟩,by simp only;omega⟩
   have ba:(x.kind==1)=false:=(by simpa using bx);have Jd:FL h A (h.n+3)=False:=eq_false λU=>by rcases U with U|U|⟨m,U⟩;omega;omega;exact FU _ _ U rfl
   have IK:FL h A X.n=False:=eq_false λU=>by rcases U with U|U|⟨m,U⟩;omega;omega;exact af _ _ U rfl
   by_cases dN:x.kind=5
   .have c5:(x.kind==5)=true:=(by simpa using dN);simp only[ae,ds,al,ky,d0,qK,ba,c5];refine aT.cL (λq=>FL h A q) [3,6] (.q 0 (.q 1 (.q 2 (.q 4 (.q 5 (.e 3 (.a 6 .done) .stop)))))) ?_;simp only[ae,bw,e4,ds,al,C,ky,G,Uv,av,gp,gI,cL,PG,Jd,IK];refine cp (agy x.task oJ) λr B ⟨b,N,R,S,E,an,O,cU,k4⟩=>?_;subst E;have FW:J H B (λq=>FL h A q):=cU.mono λq D=>.inr (.inl D);have c6:=cU.n;simp only[ae,bw,e4,ds,FW];refine cp (avb (e:=x.cN) (j:=bB s x.task) O an (by unfold named;rw[gr rfl];rfl)) λr aD ⟨E,jn,M⟩=>?_;subst E;have PH:J H aD (λq=>FL h A q):=FW.trans M λq D ⟨m,U⟩=>by
     rcases k4 _ _ U with U|U
     .exact .inr (.inr ⟨m,U⟩)
     .omega
    have n3:=M.n;have CL:=(PH.get (h.n+3) (by omega) (by rw[Jd];exact id)).trans G;have cv:(λn=>if n=x.task then eL (n1 (bB s x.task) x.cN)else named s.tasks x.task n)=(λn=>if n=x.task then eL (n1 (bB s x.task) x.cN)else s.tasks n):=by
     funext n
     split
     .rfl
     .rename_i U;unfold named;rw[gQ U]
    rw[cv]at jn;simp only[ae,bw,e4,ds,u,l8];exact ar ⟨(i+1,L,W,N,R,S),⟨Y,C,Z,z,rfl,F,CL,by omega,λm U=>by
      rcases k4 _ _ U with U|U
      .exact FU _ _ U rfl
      .omega,kO.cast (s:=⟨s.logs,λn=>if n=x.task then eL (n1 (bB s x.task) x.cN)else s.tasks n⟩) jn (Q.trans (by unfold lM;rw[gQ zc,gQ bx,gr dN])).symm⟩,by simp only;omega⟩
   have c5:(x.kind==5)=false:=(by simpa using dN);by_cases gv:x.kind=6
   .have bt:(x.kind==2)=false:=(by rw[gv];rfl);have c3:(x.kind==3)=false:=(by rw[gv];rfl);have eb:(x.kind==4)=false:=(by rw[gv];rfl);simp only[ae,ds,al,u,ky,d0,qK,ba,c5,bt,c3,eb,l8];exact ar ⟨(i+1,L,W,T,eC,A),⟨Y,C,Z,z,rfl,F,G,by omega,mz,oJ.cast (Q.trans (by unfold lM;rw[gQ zc,gQ bx,gQ dN,gr gv])).symm⟩,by simp only;omega⟩
   have aH:=agZ Fo x.task;have dq:∀{B:I} {N:lz} {R:Nat} {S:ho} {b:Nat},kO (h.push (.cells [.fK,.fK] 74 eN)) B (h.n+1) (h.n+2) s.logs (named s.tasks x.task) L W N R S->bR N x.task=eL b ->
     au mP 53 [.agg [.map (h.n+1),.map (h.n+2)],.ptr b 0,.agg (bo x),.int gj (i:Nat)] B (λr h'=>r=.tuple []/\∃kZ A3 aa,kO (h.push (.cells [.fK,.fK] 74 eN)) h' (h.n+1) (h.n+2) (lM s x i).logs (lM s x i).tasks kZ A3 N R aa/\J B h' (λq=>q=h.n+1\/∃m,S q=eL m)/\(∀q m,aa q=eL m->S q=eL m\/B.n<=q)):=λ{B N R S b} O an=>by
    have aV:named s.tasks x.task x.task=eL (bB s x.task):=(by unfold named;rw[gr rfl];rfl);have cv:(λn=>if n=x.task then eL (mN (bB s x.task) x i)else named s.tasks x.task n)=(λn=>if n=x.task then eL (mN (bB s x.task) x i)else s.tasks n):=by
     funext n
     split
     .rfl
     .rename_i U;unfold named;rw[gQ U]
    have ay:lM s x i=⟨qu s.logs (bB s x.task) x,λn=>if n=x.task then eL (mN (bB s x.task) x i)else s.tasks n⟩:=(by unfold lM;rw[gQ zc,gQ bx,gQ dN,gQ gv]);rw[ay,<-cv];by_cases aw:x.kind=3->x.cN≠(bB s x.task).ep\/x.gG≠(bB s x.task).tx
    .exact avg x i O an aV (by omega) (by omega) (by omega) aw
    .have aD:x.kind=3:=Classical.byContradiction λU=>aw λh=>absurd h U;have br:¬(x.cN≠(bB s x.task).ep\/x.gG≠(bB s x.task).tx):=λU=>aw λ_=>U;have aA:∀n,(s.logs n).length<=2^30:=λn=>by
      have:=PE n;omega
     exact avi x i O an aV (by omega) aA (by omega) aD (((B3 x).1 hm).2.2.2.2.2.2.1) (by have:=((B3 x).1 hm).2.2.2.2.2.2.2.2.1;omega) (by omega) (by omega) (by omega)
   have Sp:x.kind=2\/x.kind=3\/x.kind=4:=(by omega);rcases Sp with k2|k2|k2
   all_goals
    simp only[ae,Int.reduceBEq,ds,al,ky,d0,qK,k2];refine aT.cL (λq=>FL h A q) [4,7] (.q 0 (.q 1 (.q 2 (.q 3 (.q 5 (.q 6 (.e 4 (.a 7 .done) .stop))))))) ?_;simp only[ae,bw,e4,ds,al,C,ky,G,d0,Uv,gp,ka,PF,cL,PG,Jd,IK];refine cp (agy x.task oJ) λr B ⟨b,N,R,S,E,an,O,cU,k4⟩=>?_;subst E;have FW:J H B (λq=>FL h A q):=cU.mono λq D=>.inr (.inl D);have c6:=cU.n;simp only[ae,bw,e4,ds,FW];refine cp (dq O an) λr aD ⟨E,O5,FG,h6,jn,M,rQ⟩=>?_;subst E;have PH:J H aD (λq=>FL h A q):=FW.trans M λq D U=>by
     rcases U with U|⟨m,U⟩
     .exact .inl U
     .rcases k4 _ _ U with U|U
      .exact .inr (.inr ⟨m,U⟩)
      .omega
    have n3:=M.n;have CL:=(PH.get (h.n+3) (by omega) (by rw[Jd];exact id)).trans G;simp only[ae,bw,e4,ds,u,l8];exact ar ⟨(i+1,O5,FG,N,R,h6),⟨Y,C,Z,z,rfl,F,CL,by omega,λm U=>by
      rcases rQ _ _ U with U|U
      .rcases k4 _ _ U with U|U
       .exact FU _ _ U rfl
       .omega
      .omega,jn.cast Q.symm⟩,by simp only;omega⟩
 .obtain rfl:i=l.length:=by omega
  have d1:decide ((l.length:Int)<(l.length:Int))=false:=hK (by omega);rw[List.take_length]at w;have cL:cI (aP.cells [V.map (h.n+1),.map (h.n+2)] 74 eN) 0=eL [.map (h.n+1),.map (h.n+2)]:=rfl;have PG:cw (eL (eL 2)) (eL [V.map (h.n+1),.map (h.n+2)])=eL (.agg [.map (h.n+1),.map (h.n+2)]):=rfl;have g0:X.get h.n=.cells [.fK,.fK] 74 none:=(xy.get h.n (by rw[dn];omega) (by simp[kR])).trans ac;have la:(kB [V.map (h.n+1),.map (h.n+2)]).cells=eL [V.map (h.n+1),.map (h.n+2)]:=rfl;have aF:bD (eL 2) (aP.cells [V.fK,.fK] 74 eN) 0 [V.map (h.n+1),.map (h.n+2)]=eL (.cells [V.map (h.n+1),.map (h.n+2)] 74 eN):=rfl;simp only[ae,ds,al,Y,C,z,u,d1,gs,g0,cL,PG,la,aF,aJ];have c8:J X (X.set h.n (.cells [V.map (h.n+1),.map (h.n+2)] 74 eN)) (·=h.n):=J.set _ _ _;have O:=w.Sh (h0':=h) c8 (λq U m he=>by have:=(w.bH _ _ he).1;rw[dn]at this;omega) ((((J.push _ _ _).trans' xy).up).trans c8 λq D U=>by omega) (by rw[dn];omega);obtain⟨B,bt,v2⟩:=O.freeze;exact ar ⟨_,B,bt _,_,_,_,_,_,_,rfl,v2⟩
theorem ZI{v:V}(l:List bz)(Y:l.length<=2^30)(Z:∀x∈l,pq x)(h:I)(M:Own h 48 11 v (l.flatMap bo))(hu:qL h):Pure mP 10 [v] h (.agg (ca (toldOf l))):=by
 refine Pure.of (bf.agg (avq _)) ?_;have w0:=DZ M ui (by decide) (ft sZ l);refine a7 Tryz.func10 rfl ?_;simp only[ae,ds,reduceCtorEq,al];obtain⟨np,N,A,g0,nq⟩:=bU h (.cells [.ah,.ah,.int gj 0] 34 eN);rw[<-N];clear N;refine cp (awz l Y Z np (M.aY A) (by unfold qL;rw[A.glob];exact hu)) λr O ⟨s,u,L,lc,T,eC,jc,w⟩=>?_;subst jc;obtain⟨fL,cv⟩:=w.len;have eh:=w.ai.n;have aw:(kB [.map s,.map u]).cells=eL [.map s,.map u]:=rfl;have st:bD (eL 2) (aP.cells [V.fK,.fK] 74 eN) 0 [.map s,.map u]=eL (.cells [.map s,.map u] 74 eN):=rfl;obtain⟨Q,R,B,g1,aa⟩:=bU O (.cells [.map s,.map u] 74 eN);have C:Q.get h.n=_:=((w.ai.trans' B).get h.n (by omega) (by simp[kR])).trans g0;have D:=w.on B;simp only[ae,ds,al,aw,st];rw[<-R];clear R;refine aT.cL kR [1,3,7] (.q 0 (.q 2 (.q 4 (.q 5 (.e 1 (.e 3 (.q 6 (.a 7 .done)) .stop) .stop))))) ?_;simp only[ae,bw,ds,AT,reduceCtorEq,al,g1,w0];refine cp (avN D (by omega)) λdb ad ⟨af,jL,s1,i⟩=>?_;obtain rfl:=D.KH jL s1;have S:=D.on i.ai;have p4:=i.ai;simp only[ae,bw,ds,p4];refine cp (avO S (by omega)) λea z ⟨av,oX,s2,j⟩=>?_;obtain rfl:=S.wm oX s2;have E:J Q z kR:=i.ai.trans' j.ai;have xE:db.one=true:=by rcases i.own with⟨rfl|rfl,_⟩|⟨_,_,_,_,_,rfl,_⟩<;>rfl
 have DV:ea.one=true:=by rcases j.own with⟨rfl|rfl,_⟩|⟨_,_,_,_,_,rfl,_⟩<;>rfl
 have xp:db.cells=eL [db]:=by rcases i.own with⟨rfl|rfl,_⟩|⟨_,_,_,_,_,rfl,_⟩<;>rfl
 have xq:ea.cells=eL [ea]:=by rcases j.own with⟨rfl|rfl,_⟩|⟨_,_,_,_,_,rfl,_⟩<;>rfl
 have XS:bD (eL 3) (aP.cells [V.ah,.ah,.int gj 0] 34 eN) 0 [db,ea,.int gj (l.length:Nat)]=eL (.cells [db,ea,.int gj (l.length:Nat)] 34 eN):=by
  rcases i.own with⟨rfl|rfl,_⟩|⟨_,_,_,_,_,rfl,_⟩<;>rcases j.own with⟨rfl|rfl,_⟩|⟨_,_,_,_,_,rfl,_⟩<;>rfl
 have E5:z.get h.n=.cells [.ah,.ah,.int gj 0] 34 none:=(E.get h.n (by omega) (by simp[kR])).trans C;simp only[ae,bw,ds,AT,By,al,E,E5,XS,xp,xq,aJ];obtain⟨F,W⟩:∃y,y=z.set h.n (.cells [db,ea,.int gj (l.length:Nat)] 34 eN):=⟨_,rfl⟩;have G:J z F (·=h.n):=by rw[W];exact J.set _ _ _
 have sX:J h F kR:=(A.trans' ((w.ai.trans' B).trans' E)).trans (by exact G) λq m U=>by omega
 have Et:=i.ai.n;have hr:Own F 90 3 db ((yg l).flatMap cq):=(i.own.aY j.ai).ai G λq m U=>by have:=i.new q m;omega
 have ec:Own F 57 6 ea ((yh l).flatMap cQ):=j.own.ai G λq m U=>by have:=j.new q m;omega
 obtain⟨ay,ba,X⟩:=aK.own (cs:=(yg l).flatMap cq) hr (n:=(yg l).length) (ft KE _) (by decide);have AP:=ec.ai X λq m U=>by have O:=j.new q m;have ad:=i.own.lt q U;omega
 obtain⟨H,bt,f2⟩:=aK.own (cs:=(yh l).flatMap cQ) AP (n:=(yh l).length) (ft KG _) (by decide);rw[<-W];exact ar ⟨H,HF (aE.cons ba (aE.cons bt (aE.refl _ _))),(sX.trans X λq m U=>by have:=i.new q U;omega).trans f2 λq m U=>by have:=j.new q U;omega⟩
def vv:bz:=⟨1,0,0,0,0,⟨1,5,0⟩,fr,[],[]⟩
def fC:sn:=toldOf [vv]
def d21:fj:=hz e0 1 0
def xz:dQ:=wv fC d21
def t21:dQ:=(oP d21 xz fC 0).1
def Bg:dQ:=(oP d21 t21 fC 0).1
def Je:List bz:=my d21 Bg
theorem n21:sr e0 1 0=0:=by decide
theorem db:(oP d21 xz fC 0).2=(e6,0):=by kernel_rfl
theorem ea:(oP d21 t21 fC 0).2=(fr,0):=by kernel_rfl
theorem jI:Je.length=6:=by kernel_rfl
theorem Du:Je.map (λx=>(x.log,x.kind,x.offs))=[(2,2,[]),(3,2,[]),(3,2,[]),(4,2,[]),(4,2,[]),(0,3,[1])]:=by kernel_rfl
theorem Uw:d21=⟨⟨e0,1,0⟩,0,0⟩:=by
 have:fp 1 e0 0=(0,0):=by decide
 unfold d21 hz;rw[this]
theorem ZJ:pr fC:=by
 refine⟨by decide,by decide,λp i=>?_,λx a=>?_⟩
 .have:∀p∈fC.logs,p.2.length<=2^30:=by decide
  exact this p i
 .have:fC.tasks=[]:=by decide
  rw[this]at a;cases a
theorem aiC(a:sn)(d:fj)(o:et d.c):yd d.c (wv a d).m:=auT o
theorem ZK(v:Int):logAt fC.logs (ct 1 e0 1 v 0)=[]:=by
 have a:fC.logs=[(0,[(⟨1,5,0⟩,fr)])]:=by kernel_rfl
 unfold logAt;rw[a];have i:ct 1 e0 1 v 0≠0:=by
  unfold ct;split
  .rename_i U;have j:(e0.length:Int)=3:=rfl;rw[j]at U⊢;omega
  .decide
 have:((0:Int)==ct 1 e0 1 v 0)=false:=by simpa using λe=>i e.symm
 simp[this]
theorem Sq{a b:List bz}(aW:pt a)(an:pt b):pt (a++b):=λx i=>by
 rcases axE.1 i with h|h
 .exact aW x h
 .exact an x h
theorem ZL(d:fj)(s:dQ)(x:eG):pt (s0 d s x):=by
 unfold s0;refine Sq (Sq (λy a=>?_) (λy a=>?_)) (λy a=>?_)
 .obtain⟨o,_,rfl⟩:=OF.1 a;exact⟨rfl,rfl⟩
 .obtain⟨o,_,a⟩:=aAg.1 a;rcases IN.1 a with rfl|a
  .exact⟨rfl,rfl⟩
  .rw[azh.1 a];exact⟨rfl,rfl⟩
 .obtain⟨o,_,rfl⟩:=OF.1 a;exact⟨rfl,rfl⟩
theorem aiD{H h:I}{v:V}{l:List bz}(an:pt l)(a:Acc H h 48 11 v (l.flatMap eS)) :
  ∃u,(∀r,aK r h r u)/\Acc H u 48 11 v (l.flatMap bo):=by
 have o:=a.own;have s:(l.flatMap bo).length=(l.flatMap eS).length:=by rw[ft B5,ft sZ]
 rcases o with⟨G,U⟩|⟨i,j,cap,c,B,e,hi,z,m,C,D⟩
 .have:=iy List.length U;rw[ft B5]at this;have E:l.length=0:=by rw[List.length_nil]at this;omega
  obtain rfl:=List.length_eq_zero_iff.1 E;exact⟨h,λr=>aK.refl _ _,a⟩
 .subst e;have aw:c=l.flatMap eS++c.drop (j*11):=by rw[<-C,azL]
  have F:aE c h (l.flatMap bo++c.drop (j*11)) h:=by
   have:=ZA h (aE.refl (c.drop (j*11)) h) l an;rwa[<-aw]at this
  have A:(l.flatMap bo++c.drop (j*11)).length=c.length:=by
   rw[D9,s,<-D9,<-aw]
  refine⟨_,λr=>aK.zq z F z A r,.inr ⟨i,j,cap,_,B,rfl,hi,aM,s.trans m,?_,?_⟩,?_,a.new⟩
  .rw[<-m,<-s,List.take_left]
  .rw[A];exact D
  .exact a.ai.trans (J.set _ _ _) λq L U=>by have:=a.new i rfl;subst U;omega
theorem awE(h:I)(ay:iU h)(hu:qL h):Pure mP 7 [] h (.bool e6):=by
 refine Pure.val (bf.bool _) ?_;refine a7 Tryz.func7 rfl ?_;have F:=Zw h vv;unfold eS vv at F;simp only at F;simp only[ae,ds,AT,By,reduceCtorEq,al,F];have hr:Own (h.push (.cells (eS vv) 48 eN)) 48 11 (.bh h.n 0 1 1) (eS vv):=Own.fz _ 1 rfl (by decide);obtain⟨H,hH,bl,_,_⟩:=bU h (.cells (eS vv) 48 eN);rw[<-hH]at hr;unfold eS vv at hH;simp only at hH;rw[<-hH];clear hH F;obtain⟨O,ba,s⟩:=aiD (H:=h) (l:=[vv]) (λy bg=>by rw[azh.1 bg];exact⟨rfl,rfl⟩) ⟨hr,bl,λq B=>by simp[aS]at B;omega⟩;have pB:J h O kR:=s.ai;have zh:qL O:=by unfold qL;rw[pB.glob];exact hu
 refine cp (au.args (aE.cons (ba _) (aE.refl _ _)) (ZI [vv] (by decide) (λx af=>by rw[azh.1 af];exact⟨by decide,by decide⟩) O s.own zh)) λr B ⟨az,bd⟩=>?_;subst az bd;rw[show toldOf [vv]=fC from rfl];have Bd:(kB (ca fC)).cells=eL (ca fC):=rfl;have qK:(if 3<=(ca fC).length then eL (kB (ay5 3 (ca fC)))else eN)=eL (.agg (ca fC)):=rfl;have Q:cI (aP.cells (ca fC) 34 eN) 0=eL (ca fC):=rfl;have R:cw (eL (eL 3)) (eL (ca fC))=eL (.agg (ca fC)):=rfl;obtain⟨bZ,bN,k2,B2,c6⟩:=bU B (.cells (ca fC) 34 eN);have D:=pB.trans' k2;have t2:=ay.ai D;have PI:bD (eL 3) (aP.cells [V.ah,V.ah,.int gj 0] 34 eN) 0 (ca fC)=eL (.cells (ca fC) 34 eN):=rfl;simp only[ae,ds,reduceCtorEq,al,Bd,PI];rw[<-bN];clear bN;have eD:∀q,¬kR q:=λ_ h=>h;refine aT.cL kR [2] (.c 0 (.q 1 (.a 2 (.q 3 (.q 4 (.q 5 (.q 6 (.q 7 .done)))))))) ?_;simp only[e4];refine gh rfl rfl rfl (λh' hk=>awy h') ?_;simp only[ae,bw,e4,ds,reduceCtorEq,al,B2,Q,R,eD];refine cp (ais 1 e0 1 0 aeD fC ZJ bZ t2 (λ_=>(0,0)) (λ_ _=>rfl) (by decide) (.inl (by decide)) (by rw[show fp 1 e0 0=(0,0)by decide];exact ZK)) λr aD ⟨G,a6⟩=>?_;rcases a6 with⟨aF,_⟩|⟨_,k,w,h6,c2,cU,M,f3⟩
 .exact absurd n21 aF
 subst c2;rw[show hz e0 1 0=d21 from rfl,show wv fC d21=xz from rfl]at cU;have n3:=G.n;have FX:=(G.get B.n (by omega) (by simp[kR])).trans B2;have t3:=t2.ai G;have ne:=FO k;have z0:((0:Int) !=0)=false:=rfl;simp only[ae,bw,e4,ds,reduceCtorEq,al,ne,FX,Q,R];have FY:et d21.c:=by rw[Uw];exact OQ
 have g0:yd d21.c xz.m:=aiC fC d21 FY;refine cp (Po FY cU g0 t3 f3 (by decide) fC ZJ (by decide) (by decide) (by decide) 0) λr br ⟨hE,ri,e5,Ux,C⟩=>?_;rw[show oP d21 xz fC 0=(t21,(oP d21 xz fC 0).2)from rfl,db]at hE Ux;subst hE;have t4:=t3.ai C.ai;have S:=(C.ai.get B.n (by omega) (by rw[M _ (by omega)];simp)).trans FX;have aa:e5 B.n=(0,0):=(C.bH _ (by omega)).trans (M _ (by omega));have n4:=C.ai.n;simp only[ae,ds,reduceCtorEq,al,S,Q,R];have g1:yd d21.c t21.m:=by
  rw[show t21.m=(stepT d21.c xz.m 0 ⟨1,5,0⟩).1.1 by kernel_rfl];exact YM FY g0 0 _
 refine cp (Po FY Ux g1 t4 C.aO (by decide) fC ZJ (by kernel_rfl) (by rw[show t21.kept.length=5 by kernel_rfl];decide) (by rw[show t21.order.length=1 by kernel_rfl];decide) 0) λr N ⟨hN,r3,eH,pO,Bi⟩=>?_;rw[show oP d21 t21 fC 0=(Bg,(oP d21 t21 fC 0).2)from rfl,ea]at hN pO;subst hN;simp only[ae,ds,reduceCtorEq];have Zb:Bg.kept=s0 d21 xz (stepT d21.c xz.m 0 ⟨1,5,0⟩).1.2:=by kernel_rfl
 have Sr:pt Bg.kept:=by rw[Zb];exact ZL _ _ _
 refine bE (ii pO Sr (by decide) (by rw[show Bg.kept.length=5 by kernel_rfl];decide) (by rw[show Bg.order.length=1 by kernel_rfl];decide)) ?_;rw[show my d21 Bg=Je from rfl];have T:=jI;have W:=Du;generalize Je=L at T W;rw[T];obtain⟨i,s,u,z,A,j,rfl⟩:∃i s u z A j,L=[i,s,u,z,A,j]:=by
  match L,T with
  | [i,s,u,z,A,j],_=>exact⟨i,s,u,z,A,j,rfl⟩
 simp only[ajF,azd,List.cons.injEq,Prod.mk.injEq]at W;obtain⟨⟨m0,_⟩,_,_,_,_,⟨_,m5,m6⟩,_⟩:=W;have E:hC mP 29 (.ag 6 ([i,s,u,z,A,j].flatMap bo)) (.int gj 0)=eL (.at (bo i++[s,u,z,A,j].flatMap bo)):=ahb (l:=[i,s,u,z,A,j]) (k:=0) (by simp);have Z:hC mP 29 (.ag 6 ([i,s,u,z,A,j].flatMap bo)) (.int gj 5)=eL (.at (bo j++[].flatMap bo)):=ahb (l:=[i,s,u,z,A,j]) (k:=5) (by simp);generalize [i,s,u,z,A,j].flatMap bo=X at E Z⊢;generalize [s,u,z,A,j].flatMap bo=Y at E;have xN:bo i++Y=[.int gj i.kind,.int gj i.task,.int gj i.cN,.int gj i.gG,.int gj 2]++([.int gj i.r.k,.int gj i.r.v,.int gj i.r.t,.bool i.del,.ag i.offs.length (ax i.offs),.ag i.order.length (ax i.order)]++Y):=by rw[<-m0];rfl
 have Kv:bo j++([]:List bz).flatMap bo=[.int gj 3,.int gj j.task,.int gj j.cN,.int gj j.gG,.int gj j.log,.int gj j.r.k,.int gj j.r.v,.int gj j.r.t,.bool j.del,.ag 1 (ax [1]),.ag j.order.length (ax j.order)]:=by
  unfold bo;rw[m5,m6];rfl
 rw[xN]at E;rw[Kv]at Z;simp only[aza,aze]at E;have cY:=NS N 1;have jy:(((6:Nat):Int)==6)=true:=rfl;have bt:((2:Int)==2)=true:=rfl;have c3:((3:Int)==3)=true:=rfl;have mC:((0:Int)==0)=true:=rfl;simp only[ae,ds,AT,By,reduceCtorEq,al,ui,E,Z,cY,jy];have Dv:Own (N.push (.cells (ax [1]) 3 eN)) 3 1 (.bh N.n 0 1 1) (ax [1]):=Own.fz _ 1 rfl (by decide);obtain⟨cX,ja,qI⟩:=aK.own Dv (n:=1) rfl (by decide);have dN:J h N kR:=((D.trans' G).trans C.ai λq B U=>by rw[M q (by have:=D.n;omega)]at U;simp at U).trans Bi.ai λq B U=>by
  rw[C.bH q (by have:=D.n;omega),M q (by have:=D.n;omega)]at U;simp at U
 refine cp (au.args (aE.cons (aK.refl _ _) (aE.cons ja (aE.refl _ _))) (RM [1] [1] cX (by decide))) λr kr ⟨ya,u4⟩=>?_;subst ya u4;simp only[ae,ds,reduceCtorEq,aJ];exact ar ⟨rfl,(dN.trans' (J.push _ _ kR)).trans qI λq B e=>by simp[bb,aS]at e;have:=dN.n;omega⟩
theorem Ss(l:List bz)(n:Int):logAt (yg l) n=(en l).logs n:=by
 have t:=HD l;unfold logAt;cases a:(yg l).find? (λc=>c.1==n)with
 | none=>
  have i:=aBw.1 a;show []=_;refine Classical.byContradiction λU=>?_;have:=(t.lm (n,(en l).logs n)).2 ⟨rfl,λe=>U e.symm⟩;exact i _ this (by simp)
 | some c=>
  have j:=aDC a;have m:c.1=n:=by simpa using aFb a
  show c.2=_;rw[((t.lm c).1 j).1,m]
theorem aiF(l:List bz)(n:Int):qx (yh l) n=mO n (bB (en l) n):=by
 have t:=HD l;unfold qx bB;cases a:(yh l).find? (λc=>c.t==n)with
 | none=>
  have q:=aBw.1 a;cases s:(en l).tasks n with
  | none=>rfl
  | some j=>
   have:=(t.cu (mO n j)).2 ⟨j,s,rfl⟩;exact absurd (by simp[mO]) (q _ this)
 | some c=>
  have u:=aDC a;have z:c.t=n:=by simpa using aFb a
  obtain⟨j,i,m⟩:=(t.cu c).1 u;rw[z]at i m;rw[i];exact m
theorem ZM{α:Type}{p:List α->Prop}(a:p [])(i:∀l x,p l->p (l++[x]))(l:List α):p l:=by
 have:∀r:List α,p r.reverse:=λr=>by
  induction r with
  | nil=>exact a
  | cons x r ih=>rw[List.reverse_cons];exact i _ _ ih
 have:=this l.reverse;rwa[List.reverse_reverse]at this
def Jf(l:List bz):Prop:=∀x∈l,x.kind=1/\ha x=e6
theorem St(l:List bz)(h:Jf l):(∀t,(en l).tasks t=eN)/\∀k,(en l).logs k=(l.filter λx=>x.log==k).map λx=>(x.r,x.del):=by
 revert h
 refine ZM (p:=λl=>Jf l->(∀t,(en l).tasks t=eN)/\∀k,(en l).logs k=(l.filter λx=>x.log==k).map λx=>(x.r,x.del)) (λ_=>⟨λ_=>rfl,λ_=>rfl⟩) (λl x ih h=>?_) l;obtain⟨i,a⟩:=ih λy j=>h y (aAd _ j);obtain⟨m,q⟩:=h x (by simp);rw[FH];unfold lM;rw[gQ (by rw[q];decide),gr m];refine⟨i,λk=>?_⟩;show jg (en l).logs x k=_;unfold jg;rw[az0,ay1];by_cases e:k=x.log
 .subst e;rw[gr rfl,a];simp
 .rw[gQ e,a];have:(x.log==k)=false:=by simpa using λU=>e U.symm
  simp[this]
theorem awF(l:List bz):∀t j,(en l).tasks t=eL j->j.offs.length<=8:=by
 refine ZM (p:=λl=>∀t j,(en l).tasks t=eL j->j.offs.length<=8) (λt j h=>by cases h) (λl x ih t j h=>?_) l;have a:(bB (en l) x.task).offs.length<=8:=by
  unfold bB;cases i:(en l).tasks x.task with
  | none=>exact D8 _
  | some j=>exact ih _ j i
 rw[FH]at h;unfold lM at h;split at h
 .exact ih t j h
 rename_i m;split at h
 .exact ih t j h
 split at h
 .simp only at h;split at h
  .injection h with h;subst h;unfold n1;split<;>exact a
  .exact ih t j h
 split at h
 .exact ih t j h
 simp only at h;split at h
 .injection h with h;subst h;unfold mN;split
  .exact a
  .split
   .exact a
   .split
    .exact((B3 x).1 (by simpa using m)).2.2.2.2.2.2.1
    .exact a
 .exact ih t j h
theorem aiG(l:List bz)(B:l.length<=2^30):pr (toldOf l):=by
 have t:=HD l;have q:=Sg _ l rfl;have s:=Za _ l rfl;refine⟨?_,?_,λp u=>?_,λx z=>?_⟩
 .have a:((yg l).map (·.1)).length<=(l.map (·.log)).length:=aAy.length_le_of_subset (azt.2 (t.ag6.imp λh=>by omega)) λk i=>by
   obtain⟨e,m,rfl⟩:=OF.1 i;have:=(t.lm e).1 m;exact q.oL _ (this.1▸this.2)
  rw[ajD,ajD]at a;show(yg l).length<=_;omega
 .have a:((yh l).map (·.t)).length<=(l.map (·.task)).length:=aAy.length_le_of_subset (azt.2 (t.ag7.imp λh=>by omega)) λk i=>by
   obtain⟨e,m,rfl⟩:=OF.1 i;obtain⟨j,a,_⟩:=(t.cu e).1 m;exact(q.ka _ _ a).1
  rw[ajD,ajD]at a;show(yh l).length<=_;omega
 .rw[((t.lm p).1 u).1];have:=Zh l p.1;omega
 .obtain⟨j,a,A⟩:=(t.cu x).1 z;rw[A];have C:=awF l _ j a;have D:=s.ord _ j a;refine⟨?_,?_⟩
  .show j.offs.length<=_;omega
  .show j.ord.length<=_;omega
theorem FY:et d21.c:=by rw[Uw];exact OQ
structure awG(j:Nat)(s:dQ):Prop where
 j9:yd d21.c s.m
 offs:s.offs=[(j:Int)]
 ord:s.order.length<=j
 kept:s.kept.length<=s.order.length*2^25
theorem awH(m:Nat)(k:Nat)(a:m*11=k*11+11)(i:k<=2^36):m*120<=lim/\m<=lim:=by
 have:m=k+1:=by omega
 subst this;exact⟨by simp only[lim];omega,by simp only[lim];omega⟩
open Go Go.Proofs Go.Proofs.YtemdgidnhgcafaaGreatDoor.Ab
theorem aiH{Q:List V->Prop}:∀{es:List (List V)},(∀x∈es,gO.fa Q (.int .u8) x)->∃a:List Nat,es=(a.map λn:Nat=>[kA .u8 (n:Int)])/\∀b∈a,b<256
 | [],_=>⟨[],rfl,by simp⟩
 | e::es,h=>by
  obtain⟨l,rfl,i⟩:=aiH (es:=es) λx j=>h x (by simp[j]);obtain⟨n,rfl,m⟩:=h e (by simp);simp only[Lit.wf,are,ig]at m;have q:aPh.u8.min=0:=rfl;have s:aPh.u8.max=255:=rfl;refine⟨n.toNat::l,?_,λb an=>?_⟩
  .rw[ajF,Int.toNat_of_nonneg (by omega)]
  .rcases IN.1 an with rfl|an
   .omega
   .exact i b an
theorem awI(a:List Nat):(a.map λn:Nat=>[kA .u8 (n:Int)]).flatten=fN a:=by
 induction a with
 | nil=>rfl
 | cons n i ih=>simp[ih,fN]
def yi:Nat->Option (List V):=λk=>if k=2 then eL gP else if k=1 then eL qj else if k=0 then eL mA else eN
theorem awJ:iU (LX yi):=⟨rfl,rfl⟩
theorem awK:qL (LX yi):=rfl
def qz:List (List Int):=[[0,0,0,0],[0,0,0,7],[1,1,0,0],[1,1,0,0],[1,1,0,0],[1,1,0,0],[1,2,0,0],[1,2,1,1048576],[1,2,1,1048576],[2,2,0,0],[1,0,0,7]]
def Bj:List Int:=qz.flatten
def PJ{H:Type}(r:List Int):DataW H:=.agg (r.map λz=>.lit (.int gj z))
def aiI{H:Type}:DataW H:=.agg (qz.map PJ)
theorem aiJ{α:Type}:∀(n:Nat) (a:List α) (f:Nat->List α),a.length=n*4->(∀i,i<n->(a.drop (i*4)).take 4=f i)->a=((ajC n).map f).flatten
 | 0,a,f,j,h=>by
  have:a=[]:=List.eq_nil_of_length_eq_zero (by simpa using j);subst this;rfl
 | n+1,a,f,j,h=>by
  have m:=h 0 (by omega);simp only[Nat.zero_mul,List.drop_zero]at m;have ih:=aiJ n (a.drop 4) (λi=>f (i+1)) (by rw[List.length_drop];omega) λi q=>by
   have:=h (i+1) (by omega);rw[List.drop_drop,show 4+i*4=(i+1)*4 by omega];exact this
  rw[List.range_succ_eq_map,ajF,List.flatten_cons,azn];show a=f 0++((ajC n).map λi=>f (i+1)).flatten;rw[<-ih,<-m,azL]
def ZN(P:Program)(t:TypeId):Bool:=match P.underlying t with
 | some (.struct a)=>a.size==4&&(ajC 4).all λi=>match a[i]? with
  | some f=>(match P.underlying f.type with|some (.int gj)=>e6|_=>fr)&&(f.offset==i&&P.cellsOf f.type==1)
  | none=>fr
 | _=>fr
theorem awL{P:Program}{t:TypeId}(h:ZN P t=e6):∃j,P.underlying t=eL (.struct j)/\j.size=4/\∀(i:Nat) (f:Field),j[i]?=eL f->P.underlying f.type=eL (.int gj)/\f.offset=i/\P.cellsOf f.type=1:=by
 unfold ZN at h;split at h
 .rename_i j q;simp only[are,beq_iff_eq,ayy,aDD]at h;refine⟨j,q,h.1,λi f m=>?_⟩;have hi:i<4:=by
   have:=(Array.getElem?_eq_some_iff.1 m).1;omega
  have:=h.2 i hi;rw[m]at this;simp only[are,beq_iff_eq]at this;obtain⟨a,b,c⟩:=this;refine⟨?_,b,c⟩;split at a
  .assumption
  .cases a
 .cases h
theorem awM{P:Program}{w:World}{j:Nat}{E:Nat->Bool}{m:Bool}{a:Nat}{t e:TypeId}{s:List Value}{p:List MemPlace}
  (B:P.underlying t=eL (.array 11 e)) (F:ZN P e=e6) (C:P.cellsOf e=4) (G:P.cellsOf t=44)
  (h:DataW.trod (λ_=>()) P w j E m a t s=eL ((aiI:DataW Unit),p)):s=Bj.map λz=>Value.int gj z:=by
 obtain⟨R,H,L,M⟩:=awL F;have u:s.length=44:=by
  cases a with
  | zero=>simp[DataW.trod]at h
  | succ a=>
   simp only[DataW.trod,B]at h;split at h
   .rename_i u;rw[G]at u;exact u
   .cases h
 have N:∀i,i<11->(s.drop (i*4)).take 4=(qz.getD i []).map λz=>Value.int gj z:=by
  intro i hi;obtain⟨O,d,q,A,D⟩:=Lib.array_elem B h i hi;rw[C]at D;have Q:d=PJ (qz.getD i []):=by
   rw[List.getElem?_map]at A;have:qz[i]?=eL (qz.getD i []):=by
    rw[List.getD,Jt (show i<qz.length from hi)];rfl
   rw[this]at A;simpa using A.symm
  subst Q;exact Lib.ints_of_struct H M (by rw[C,L]) D
 have:=aiJ 11 s _ (by omega) N;rw[this];rfl
theorem awN{W : World}(h : laidMet mP [("tidemill/expr.kids", Lib.tabData gj ee), ("tidemill/rec.uses", Lib.tabData gj lL), ("tidemill/topo.needs", aiI)] W) : LY yi W := by
 have m : Lib.TabIs mP W "tidemill/expr.kids" gj ee := Lib.tabIs_of_head (k := gj) (zs := ee) (g := 2) (t := 292) (e := 3) (n := 17) (by kernel_rfl) (by kernel_rfl) (by kernel_rfl) (by kernel_rfl) (by kernel_rfl) (by kernel_rfl) h
 have s : Lib.TabIs mP W "tidemill/rec.uses" gj lL := Lib.tabIs_of_head (k := gj) (zs := lL) (g := 0) (t := 108) (e := 3) (n := 7) (by kernel_rfl) (by kernel_rfl) (by kernel_rfl) (by kernel_rfl) (by kernel_rfl) (by kernel_rfl) (laidMet.tail h)
 have u : Lib.TabIs mP W "tidemill/topo.needs" gj Bj := by
  obtain⟨ps,⟨z,G,A,j,p,q,B,C,D,E,_,_⟩,_⟩:=laidMet.tail (laidMet.tail h);have F : mP.globalNamed "tidemill/topo.needs" = eL 1 := by kernel_rfl
  have i:(mP.globals[1]?).map (·.type)=eL 246:=by kernel_rfl
  obtain rfl:=Option.some.inj (F.symm.trans B);obtain rfl:=Option.some.inj (i.symm.trans C);unfold Lib.TabIs;rw[D,<-awM (e:=245) (by kernel_rfl) (by kernel_rfl) (by kernel_rfl) (by kernel_rfl) E]
 intro k A a;unfold yi at a;split at a
 .rename_i e;subst e;obtain rfl:=Option.some.inj a;exact VR (by kernel_rfl) m
 .split at a
  .rename_i _ e;subst e;obtain rfl:=Option.some.inj a;exact VR (by kernel_rfl) u
  .split at a
   .rename_i _ _ e;subst e;obtain rfl:=Option.some.inj a;exact VR (by kernel_rfl) s
   .cases a
theorem awO{l:List V}(h:gO.fa GI (.cat (.int gj) (.cat (.bh (.int gj)) (.cat (.ext 3) (.cat (.int gj) .unit)))) l):∃v:bC,yH v/\l=ao v:=by
 obtain⟨C,_,rfl,⟨a,rfl,i⟩,D,_,rfl,⟨E,rfl,j,m⟩,F,_,rfl,⟨⟨e,q,rfl⟩,_⟩,s,_,rfl,⟨n,rfl,u⟩,rfl⟩:=h;obtain⟨z,rfl,A⟩:=Ab.abv (k:=.i64) m;refine⟨⟨a,z,e,n⟩,⟨q,by simpa using j,Ab.wf_i64 i,Ab.wf_i64 u,λf B=>Ab.wf_i64 (A f B)⟩,?_⟩;simp only[ao,aod,ajD,axA,aze,aza];rfl
theorem awP{l:List V}(h:gO.fa GI (.cat (.bh (.cat (.int gj) (.cat (.bh (.int gj)) (.cat (.ext 3) (.cat (.int gj) .unit))))) (.cat (.int gj) .unit)) l):∃(t:List bC) (p:Int),jE t/\nb p/\l=cx t p:=by
 obtain⟨E,_,rfl,⟨j,rfl,A,z⟩,F,_,rfl,⟨p,rfl,B⟩,rfl⟩:=h;have:∃i:List bC,(∀v∈i,yH v)/\j.length=i.length/\j.flatten=i.flatMap ao:=by
  clear A
  induction j with
  | nil=>exact⟨[],by simp,rfl,rfl⟩
  | cons a r ih=>
   obtain⟨i,m,q,s⟩:=ih λe C=>z e (by simp[C]);obtain⟨v,D,rfl⟩:=awO (z a (by simp));refine⟨v::i,λx u=>?_,by simp[q],by simp[s]⟩;rcases IN.1 u with rfl|u
   .exact D
   .exact m x u
 obtain⟨i,m,q,s⟩:=this;exact⟨i,p,⟨by omega,m⟩,Ab.wf_i64 B,by rw[q,s];rfl⟩
theorem awQ(l:List bC)(p:Int)(D:jE l)(h:I):au mP 8 [.agg (cx l p)] h (λr h'=>∃b,r=.bool b/\J h h' kR):=by
 have N:∀(l:List bC) (p:Int),(kB (cx l p)).cells=eL [.ag l.length (l.flatMap ao),.int gj p]:=λ_ _=>rfl;refine a7 Tryz.func8 rfl ?_;obtain⟨H,hH,E,A,_⟩:=bU h (.cells [.ag l.length (l.flatMap ao),.int gj p] 24 eN);simp only[ae,N,<-hH];clear hH;refine aT.bG (α:=Nat×Int) (λx f h'=>f 1=.ptr h.n 0/\f 3=.int gj x.2/\f 4=.int gj (x.1:Nat)/\x.1<=l.length/\h'=H) (λx=>l.length-x.1) (0,0) ⟨rfl,rfl,rfl,D8 _,rfl⟩ ?_
 rintro⟨x,n⟩ f h' ⟨q,s,i,O,rfl⟩
 simp only at s i O;have W:=D.1;refine wpS ?_;by_cases u:x<l.length/\n<=3000
 .have j:=dK x l.length;have B:decide (n<=3000)=true:=hO u.2;have Q:=km u.1 (by omega);have F:=(D.2 _ (ayz u.1)).1;have m:hC mP 22 (.ag l.length (l.flatMap ao)) (.int gj (x:Int))=eL (.at (ao l[x]++(l.drop (x+1)).flatMap ao)):=r0 lp u.1 EO;generalize l[x]=v at m F;generalize(l.drop (x+1)).flatMap ao=R at m;obtain⟨G,C,⟨z,em,a⟩,L⟩:=v;have S:ao ⟨G,C,.mk z em a,L⟩=[.int gj G,.ag C.length (ax C),.int gj z,.int gj em,.ag a.length (a.flatMap aN),.int gj L]:=by simp[ao,l0]
  have T:aN (.mk z em a)=[.int gj z,.int gj em,.ag a.length (a.flatMap aN)]:=l0 _ _ _;rw[S]at m;simp only[aza,aze]at m;have M:=LT _ _ h' rfl F;rw[T]at M;simp only[ae,ds,AT,By,al,d6,q,s,i,A,j,B,m];refine bE M ?_;simp only[ae,ds,i,Q];exact ar ⟨(x+1,_),⟨q,rfl,rfl,by simp only;omega,rfl⟩,by simp only;omega⟩
 .by_cases X:x<l.length
  .have j:=dK x l.length;have B:decide (n<=3000)=false:=hK (by omega);simp only[ae,ds,AT,al,d6,q,s,i,A,j,B,aJ];exact ar ⟨_,rfl,E⟩
  .have j:=dY x l.length;simp only[ae,ds,AT,al,d6,q,s,i,A,j,aJ];exact ar ⟨_,rfl,E⟩
def fg(r:Rec):Rec:=if r.t<0\/1099511627776<r.t then⟨r.k,r.v,7⟩else r
def pv(l:List bC)(p:Int)(r:Rec)(v:Nat):List bz:=if gK l (v:Int)=1/\0<=ct p l 0 (v:Int) (rC p l r.k)then [⟨1,0,0,0,ct p l 0 (v:Int) (rC p l r.k),wo r,fr,[],[]⟩]else []
def jH(l:List bC)(p:Int)(n:Nat)(r:Rec):List bz:=(ajC n).flatMap (pv l p (fg r))
def fh(l:List bC)(p:Int)(a:List Rec):List bz:=(a.take 40).flatMap (jH l p l.length)
theorem aiL{l:List bC}{p:Int}(h:(cj p l).2≠0)(r:Rec)(v:Nat):pv l p r v=[]:=by
 unfold pv;rw[gQ]
 rintro⟨_,a⟩
 unfold ct at a;rw[gQ (λU=>h U.1)]at a;omega
theorem awR(l:List bC)(p:Int)(r:Rec)(v:Nat):(pv l p r v).length<=1:=by
 unfold pv;split<;>simp
theorem aiM{l:List bC}{p:Int}{n:Nat}(a:n<=l.length)(r:Rec):(jH l p n r).length<=24:=by
 unfold jH;by_cases h:(cj p l).2=0
 .have i:l.length<=24:=(zg h).2.2.1;have:∀n:Nat,((ajC n).flatMap (pv l p (fg r))).length<=n:=λn=>by
   induction n with
   | zero=>simp
   | succ n ih=>
    rw[aCH,ay3,D9];have:=awR l p (fg r) n;simp only[ayW,List.flatMap_nil,axA];omega
  have:=this n;omega
 .have:(ajC n).flatMap (pv l p (fg r))=[]:=List.flatMap_eq_nil_iff.2 λv _=>aiL h _ v;rw[this];simp
theorem aiN(l:List bC)(p:Int)(i:List Rec):(fh l p i).length<=960:=by
 unfold fh;have:∀q:List Rec,(q.flatMap (jH l p l.length)).length<=q.length*24:=λq=>by
  induction q with
  | nil=>simp
  | cons a q ih=>
   rw[ayW,D9,List.length_cons];have:=aiM (l:=l) (p:=p) (BY l.length) a;omega
 have j:=this (i.take 40);have m:(i.take 40).length<=40:=List.length_take_le _ _;omega
theorem ZP{l:List bC}{p:Int}{i:List Rec}{x:bz}(h:x∈fh l p i):(cj p l).2=0/\∃(r:Rec) (v:Nat),v<l.length/\x∈pv l p (fg r) v:=by
 obtain⟨r,_,j⟩:=aAg.1 h;obtain⟨v,m,a⟩:=aAg.1 j;refine⟨Classical.byContradiction λq=>?_,r,v,aDD.1 m,a⟩;rw[aiL q]at a;cases a
theorem ZQ{l:List bC}{p:Int}{r:Rec}{v:Nat}{x:bz}(h:x∈pv l p r v):x=⟨1,0,0,0,ct p l 0 (v:Int) (rC p l r.k),wo r,fr,[],[]⟩/\0<=ct p l 0 (v:Int) (rC p l r.k):=by
 unfold pv at h;split at h
 .rename_i U;exact⟨azh.1 h,U.2⟩
 .cases h
theorem aiO(l:List bC)(p:Int)(a:List Rec):pt (fh l p a):=λx i=>by
 obtain⟨_,r,v,_,h⟩:=ZP i;rw[(ZQ h).1];exact⟨rfl,rfl⟩
theorem PK{l:List bC}{p k v q:Int}(h:0<=ct p l k v q):(cj p l).2=0/\(0<=k/\k<=2)/\(0<=v/\v<l.length)/\(0<=q/\q<p)/\ct p l k v q=(k*(l.length:Int)+v)*p+q:=by
 unfold ct at *;split at h
 .rename_i U;rw[gr U];exact⟨U.1,by omega,by omega,by omega,rfl⟩
 .omega
theorem KL(l:List bC)(p:Int)(a:List Rec):Jf (fh l p a):=λx i=>by
 obtain⟨aw,r,v,s,h⟩:=ZP i;obtain⟨e,j⟩:=ZQ h;obtain⟨_,_,u,z,A⟩:=PK j;obtain⟨B,C,D,_⟩:=zg aw;have rg:=Zo (n:=(l.length:Int)) (k:=0) (v:=v) (p:=p) (by omega) (by omega) (by omega) (by omega) (by omega) (by omega);have m:AZ (wo (fg r)).t=true:=by
  rw[YO];unfold fg wo;split<;>simp only<;>omega
 have q:fit (ct p l 0 (v:Int) (rC p l (fg r).k))=true:=by rw[xk];omega
 rw[e];refine⟨rfl,?_⟩;unfold ha uJ;simp[m,q];decide
theorem awS(l:List bC)(p:Int)(a1:jE l)(A:List Rec)(mT:A.length<=2^47)(h:I)(ay:iU h) :
  au mP 9 [.agg (cx l p),.ag A.length (A.flatMap aR)] h (λr h'=>Acc h h' 48 11 r ((fh l p A).flatMap eS)):=by
 refine a7 Tryz.func9 rfl ?_;have mo:(kB (cx l p)).cells=eL [.ag l.length (l.flatMap ao),.int gj p]:=rfl;have h9:kB [.ag l.length (l.flatMap ao),.int gj p]=.agg (cx l p):=rfl;obtain⟨H,hH,bl,gt,_⟩:=bU h (.cells [.ag l.length (l.flatMap ao),.int gj p] 24 eN);have aF:h.n<H.n:=by rw[hH,dn];omega
 simp only[ae,mo,<-hH];clear hH;have bs:=ay.ai bl;refine aT.bG (α:=Nat×V) (λy f h'=>f 1=.ag A.length (A.flatMap aR)/\f 2=.ptr h.n 0/\f 5=y.2/\f 6=.int gj (y.1:Nat)/\y.1<=A.length/\y.1<=40/\Acc H h' 48 11 y.2 (((A.take y.1).flatMap (jH l p l.length)).flatMap eS)) (λy=>40-y.1) (0,.ah)
  ⟨rfl,rfl,rfl,rfl,D8 _,D8 _,Acc.nil (J.refl _ _)⟩ ?_
 rintro⟨i,v⟩ f B ⟨F,D,G,E,hi,Bk,W⟩
 simp only at G E hi Bk W;refine wpS ?_;by_cases aC:i<A.length/\i<40;rotate_left
 .have e:(A.take i).flatMap (jH l p l.length)=fh l p A:=by
   unfold fh;by_cases B:i<A.length
   .rw[show i=40 by omega]
   .rw[ajE (by omega),ajE (by omega)]
  rw[e]at W;have a2:Acc h B 48 11 v ((fh l p A).flatMap eS):=⟨W.own,bl.trans' W.ai,λq ab=>by have:=W.new q ab;have:=bl.n;omega⟩;by_cases B:i<A.length
  .have X:=dK i A.length;have N:decide ((i:Int)<40)=false:=hK (by omega);simp only[ae,ds,r4,F,G,E,X,N,aJ];exact ar a2
  .have X:=dY i A.length;simp only[ae,ds,r4,F,G,E,X,aJ];exact ar a2
 have X:=dK i A.length;have N:decide ((i:Int)<40)=true:=hO (by omega);have l8:=km aC.2 (by omega);have eg:=Sk (kk:=.i64) aC.1;have Uz:(A.take (i+1)).flatMap (jH l p l.length)=(A.take i).flatMap (jH l p l.length)++jH l p l.length A[i]:=by rw[ayY aC.1,ay3];simp
 generalize A[i]=r at eg Uz;obtain⟨s,z,a⟩:=r;have iO:∀q,cw (eL (eL 3)) (eL (aR ⟨s,z,a⟩++q))=eL (.agg (aR ⟨s,z,a⟩)):=λq=>j1 (Av _);have vR:(kB (aR ⟨s,z,a⟩)).cells=eL [.int gj s,.int gj z,.int gj a]:=rfl;have Pn:bD (eL 3) (aP.cells [.int gj 0,.int gj 0,.int gj 0] 45 eN) 0 [.int gj s,.int gj z,.int gj a]=eL (.cells [.int gj s,.int gj z,.int gj a] 45 eN):=rfl;have av:a<0\/(¬a<0/\1099511627776<a)\/(¬a<0/\¬1099511627776<a):=by omega
 rcases av with t0|⟨t0,t1⟩|⟨t0,t1⟩
 case' inl=>
  have d0:decide (a<0)=true:=hO t0;have Bl:fg ⟨s,z,a⟩=⟨s,z,7⟩:=by unfold fg;rw[gr (.inl t0)]
  simp only[ae,ds,AT,By,al,r4,F,E,X,N,eg,iO,vR,Pn,d0];obtain⟨M,C⟩:∃y,y=(B.push (.cells [.int gj s,.int gj z,.int gj 7] 45 eN)):=⟨_,rfl⟩;have k2:J B M kR:=by rw[C];exact J.push _ _ _
  have ot:M.get B.n=.cells [.int gj (fg ⟨s,z,a⟩).k,.int gj (fg ⟨s,z,a⟩).v,.int gj (fg ⟨s,z,a⟩).t] 45 none:=by rw[C,Bl];exact ac
  have c6:M.n=B.n+1:=by rw[C];rfl
  rw[<-C];clear C
 case' inr.inl=>
  have d0:decide (a<0)=false:=hK t0;have d1:decide (1099511627776<a)=true:=hO t1;have Bl:fg ⟨s,z,a⟩=⟨s,z,7⟩:=by unfold fg;rw[gr (.inr t1)]
  simp only[ae,ds,AT,By,al,r4,F,E,X,N,eg,iO,vR,Pn,d0,d1];obtain⟨M,C⟩:∃y,y=(B.push (.cells [.int gj s,.int gj z,.int gj 7] 45 eN)):=⟨_,rfl⟩;have k2:J B M kR:=by rw[C];exact J.push _ _ _
  have ot:M.get B.n=.cells [.int gj (fg ⟨s,z,a⟩).k,.int gj (fg ⟨s,z,a⟩).v,.int gj (fg ⟨s,z,a⟩).t] 45 none:=by rw[C,Bl];exact ac
  have c6:M.n=B.n+1:=by rw[C];rfl
  rw[<-C];clear C
 case' inr.inr=>
  have d0:decide (a<0)=false:=hK t0;have d1:decide (1099511627776<a)=false:=hK t1;have Bl:fg ⟨s,z,a⟩=⟨s,z,a⟩:=by unfold fg;rw[gQ (by simp only;omega)]
  simp only[ae,ds,AT,By,al,r4,F,E,X,N,eg,iO,vR,Pn,d0,d1];obtain⟨M,C⟩:∃y,y=(B.push (.cells [.int gj s,.int gj z,.int gj a] 45 eN)):=⟨_,rfl⟩;have k2:J B M kR:=by rw[C];exact J.push _ _ _
  have ot:M.get B.n=.cells [.int gj (fg ⟨s,z,a⟩).k,.int gj (fg ⟨s,z,a⟩).v,.int gj (fg ⟨s,z,a⟩).t] 45 none:=by rw[C,Bl];exact ac
  have c6:M.n=B.n+1:=by rw[C];rfl
  rw[<-C];clear C
 all_goals
  have a2:=W.on k2;refine aT.bG (α:=Nat×V) (λy f h'=>f 1=.ag A.length (A.flatMap aR)/\f 2=.ptr h.n 0/\f 5=y.2/\f 6=.int gj (i:Nat)/\f 7=.ptr B.n 0/\f 8=.int gj (y.1:Nat)/\y.1<=l.length/\Acc H h' 48 11 y.2 (((A.take i).flatMap (jH l p l.length)++jH l p y.1 ⟨s,z,a⟩).flatMap eS)/\h'.get B.n=.cells [.int gj (fg ⟨s,z,a⟩).k,.int gj (fg ⟨s,z,a⟩).v,.int gj (fg ⟨s,z,a⟩).t] 45 eN/\B.n<h'.n/\(∀q,aS y.2=eL q->q≠B.n)) (λy=>l.length-y.1) (0,v)
   ⟨F,D,G,E,rfl,rfl,D8 _,by rw[show jH l p 0 ⟨s,z,a⟩=[]from rfl,axA];exact a2,ot,by omega,λq ab=>by have:=W.own.lt q ab;omega⟩ ?_
  clear a2 ot k2 c6 F D G E
  rintro⟨j,u⟩ f aD ⟨F,D,G,E,f7,Y,aV,O,je,aH,bO⟩
  simp only at G Y aV O bO;refine wpS ?_;have iu:=(O.ai.get h.n aF (by simp[kR])).trans gt;by_cases lr:j<l.length
  .have N:=dK j l.length;have wu:=km lr (by have:=a1.1;omega);obtain⟨x,af⟩:∃x,l[j]?=eL x:=⟨_,Jt lr⟩;obtain⟨fO,qG⟩:=Hr (kk:=.i64) af;have hX:cw (eL eN) (eL (ao x++fO))=eL (.int gj x.kind):=rfl;have cU:gK l (j:Int)=x.kind:=by unfold gK;rw[ayw,af];rfl
   have UA:=bs.ai O.ai;have PL:∀h',(J aD h' kR\/h'=aD)->iU h':=λh' Z=>by rcases Z with Z|rfl;exact UA.ai Z;exact UA
   have qy:jH l p (j+1) ⟨s,z,a⟩=jH l p j ⟨s,z,a⟩++pv l p (fg ⟨s,z,a⟩) j:=(by unfold jH;rw[aCH,ay3];simp);have aa:((A.take i).flatMap (jH l p l.length)++jH l p j ⟨s,z,a⟩).length<=2^30:=by
    rw[D9];have B:=aiM (p:=p) aV ⟨s,z,a⟩;have ad:((A.take i).flatMap (jH l p l.length)).length<=960:=by
     have:=aiN l p (A.take i);unfold fh at this;rwa[ajE (by rw[ajB];omega)]at this
    omega
   have Q:pv l p (fg ⟨s,z,a⟩) j=if gK l (j:Int)=1/\0<=ct p l 0 (j:Int) (rC p l (fg ⟨s,z,a⟩).k)then [⟨1,0,0,0,ct p l 0 (j:Int) (rC p l (fg ⟨s,z,a⟩).k),wo (fg ⟨s,z,a⟩),fr,[],[]⟩]else []:=rfl
   rw[cU]at Q;generalize fg ⟨s,z,a⟩=R at je qy Q⊢;obtain⟨L,fL⟩:∃L,L=(A.take i).flatMap (jH l p l.length)++jH l p j ⟨s,z,a⟩:=⟨_,rfl⟩;rw[<-fL]at O aa;obtain⟨S,PM,PN⟩:=R;simp only[ae,ds,AT,al,d6,D,Y,N,iu];refine aT.cL kR [] (.q 0 (.q 1 (.q 2 (.q 3 (.q 4 (.c 5 (.c 6 (.q 7 .done)))))))) ?_;simp only[ae,bw,ds,AT,al,D,f7,Y,iu,je,h9];refine gh rfl rfl rfl (λh' Z=>afk l p S a1 h' (PL h' Z)) ?_;simp only[bw];refine gh rfl rfl rfl (λh' Z=>DY l p 0 (j:Int) (rC p l S) a1 h' (PL h' Z)) ?_;obtain⟨oL,A5⟩:∃g,g=ct p l 0 (j:Int) (rC p l S):=⟨_,rfl⟩;rw[<-A5]at Q⊢;by_cases hg:x.kind=1
   .have c3:(x.kind==1)=true:=(by simpa using hg);by_cases CC:0<=oL
    .have eb:decide (0<=oL)=true:=hO CC;rw[gr ⟨hg,CC⟩]at Q;have B6:=Zw aD ⟨1,0,0,0,oL,wo ⟨S,PM,PN⟩,fr,[],[]⟩;obtain⟨v4,br,hE,mK,cg,n4⟩:=Gy (P:=mP) (t:=29) (T:=⟨48,[.int gj 0,.int gj 0,.int gj 0,.int gj 0,.int gj 0,.int gj 0,.int gj 0,.int gj 0,.bool fr,.ah,.ah],11,120⟩) Dp (by decide) O.own (xs:=eS ⟨1,0,0,0,oL,wo ⟨S,PM,PN⟩,fr,[],[]⟩) rfl (Zs _) (λm hm=>by
      have hd:m*11=(L.flatMap eS).length+11:=hm;rw[ft B5]at hd;exact awH m _ hd (by omega))
     have a4:=O.step mK cg n4;have OJ:=(cg.get B.n aH λe=>bO _ e rfl).trans je;have aA:=IS aH cg.n;have ZR:∀q,aS v4=eL q->q≠B.n:=λq ab=>by
      rcases n4 with e|e
      .exact bO q (e▸ab)
      .have:=e q ab;omega
     unfold eS wo at B6 hE;simp only at B6 hE;have aB:(if 3<=[kA gj S,.int gj PM,.int gj PN].length then eL (kB (ay5 3 [kA gj S,.int gj PM,.int gj PN]))else eN)=eL (kB [kA gj S,.int gj PM,.int gj PN]):=rfl;simp only[ae,bw,ds,AT,By,al,D,G,f7,Y,iu,je,qG,hX,c3,eb,B6,hE,wu];exact ar ⟨(j+1,v4),⟨F,D,rfl,E,f7,rfl,lr,by
      rw[qy,Q,<-axC,<-fL,ay3];exact a4.conv (by simp[eS]),OJ,aA,ZR⟩,by simp only;omega⟩
    .have eb:decide (0<=oL)=false:=hK CC;rw[gQ (λU=>CC U.2)]at Q;simp only[ae,bw,ds,AT,al,D,Y,iu,qG,hX,c3,eb,wu];exact ar ⟨(j+1,u),⟨F,D,G,E,f7,rfl,lr,by rw[qy,Q,axA,<-fL];exact O,je,aH,bO⟩,by simp only;omega⟩
   .have c3:(x.kind==1)=false:=(by simpa using hg);rw[gQ (λU=>hg U.1)]at Q;simp only[ae,bw,ds,AT,al,D,Y,iu,qG,hX,c3,wu];exact ar ⟨(j+1,u),⟨F,D,G,E,f7,rfl,lr,by rw[qy,Q,axA,<-fL];exact O,je,aH,bO⟩,by simp only;omega⟩
  have N:=dY j l.length;have D1:j=l.length:=by omega
  subst D1;simp only[ae,ds,AT,reduceCtorEq,al,d6,D,G,E,Y,N,iu,l8];exact ar ⟨(i+1,u),⟨F,D,G,rfl,aC.1,aC.2,by rw[Uz];exact O⟩,by simp only;omega⟩
theorem awT(l:List bC)(p:Int)(j:jE l)(i:List Rec)(m:i.length<=2^47)(h:I)(q:iU h) :
  au mP 9 [.agg (cx l p),.ag i.length (i.flatMap aR)] h (λr h'=>Acc h h' 48 11 r ((fh l p i).flatMap bo)) :=
 au.cast ((awS l p j i m h q).mono λr h' a=>by
  obtain⟨s,c,u⟩:=aiD (aiO l p i) a;exact⟨r,s,c r,u⟩)
theorem aiR(l:List bC)(p:Int)(a:List Rec)(n:Int):qx (toldOf (fh l p a)).tasks n=⟨n,0,0,[],[],0⟩:=by
 show qx (yh (fh l p a)) n=_;rw[aiF];unfold bB;rw[(St _ (KL l p a)).1];rfl
theorem aiS(l:List bC)(p:Int)(a:List Rec)(v q:Int):logAt (toldOf (fh l p a)).logs (ct p l 1 v q)=[]:=by
 show logAt (yg (fh l p a)) _=_;rw[Ss,(St _ (KL l p a)).2,aC6,aAe];intro x i;obtain⟨aw,r,w,C,h⟩:=ZP i;obtain⟨e,j⟩:=ZQ h;obtain⟨_,_,D,E,m⟩:=PK j;obtain⟨F,G,H,_⟩:=zg aw;rw[e];show ¬((ct p l 0 (w:Int) (rC p l (fg r).k))==ct p l 1 v q)=e6;intro U;have U:ct p l 0 (w:Int) (rC p l (fg r).k)=ct p l 1 v q:=by simpa using U
 have s:0<=ct p l 1 v q:=by omega
 obtain⟨_,_,u,z,A⟩:=PK s;rw[m,A]at U;have B:p=1\/p=2\/p=3\/p=4\/p=5\/p=6\/p=7\/p=8:=by omega
 rcases B with rfl|rfl|rfl|rfl|rfl|rfl|rfl|rfl<;>omega
theorem awU{l:List bC}{p n:Int}(a:jE l)(h:sr l p n=0):et (hz l p n).c/\(hz l p n).c.ins.length<=8:=by
 unfold sr at h;split at h
 .omega
 rename_i i;split at h
 .omega
 split at h
 .omega
 rename_i j;exact⟨⟨Classical.byContradiction i,a⟩,by show(oG p l (fp p l n).1).length<=8;omega⟩
theorem aiT{d:fj}{s:dQ}(o:et d.c)(g:yd d.c s.m)(v:Int)(r:Rec):(s0 d s (stepT d.c s.m v r).1.2).length<=2^24:=by
 have bq:=agt o g v r;have a:(stepT d.c s.m v r).1.2.outs.length+(stepT d.c s.m v r).1.2.chgs.length+(stepT d.c s.m v r).1.2.deads.length<=3*2^22/\(stepT d.c s.m v r).1.2.chgs.length<=2^22:=by unfold sz at bq;omega
 unfold s0;rw[D9,D9,ajD,ajD,Pl (enc:=so d s) (sz:=2) (λ_=>rfl),List.length_zip];omega
theorem awV(d:fj)(s:dQ)(x:eG):∀y∈s0 d s x,y.kind=2/\y.task=d.n/\y.cN=s.ep/\y.gG=s.tx:=by
 intro y a;unfold s0 at a;rcases axE.1 a with a|a
 .rcases axE.1 a with a|a
  .obtain⟨o,_,rfl⟩:=OF.1 a;exact⟨rfl,rfl,rfl,rfl⟩
  .obtain⟨o,_,a⟩:=aAg.1 a;rcases IN.1 a with rfl|a
   .exact⟨rfl,rfl,rfl,rfl⟩
   .rw[azh.1 a];exact⟨rfl,rfl,rfl,rfl⟩
 .obtain⟨o,_,rfl⟩:=OF.1 a;exact⟨rfl,rfl,rfl,rfl⟩
structure ayq(i:Nat)(d:fj)(s:dQ):Prop where
 j9:yd d.c s.m
 offs:s.offs.length=d.c.ins.length
 ob:∀x∈s.offs,0<=x/\x<=(i:Int)
 ord:s.order.length<=i
 ZS:∀x∈s.order,0<=x/\x<4
 kept:s.kept.length<=s.order.length*2^24
 bare:pt s.kept
 c0:∀x∈s.kept,x.kind=2/\x.task=d.n/\x.cN=0/\x.gG=0
 ep:s.ep=0
 tx:s.tx=0
structure ayr(h:I)(ow:cM)(l9:Nat)(v:V)(L:List bz)(cE:V)(aiU:List Int):Prop where
 j9:h.get l9=.cells (ca (toldOf L)) 34 eN
 A9:l9<h.n
 PO:ow l9=(0,0)
 bs:iU h
 PQ:qL h
 aO:Fr h ow
 lo:Own h 48 11 v (L.flatMap bo)
 lw:nT ow (0,0) (gF v)
 hQ:Own h 3 1 cE (ax aiU)
 ayU:nT ow (0,0) (gF cE)
 dv:∀q,aS cE=eL q->¬aS v=eL q
 Su:∀q,aS cE=eL q->q≠l9
section
variable {h h':I} {ow ow':cM} {l9:Nat} {v cE:V} {L:List bz} {aiU:List Int}
end
def jW(r:Rec):Prop:=0<=r.t/\r.t<=1099511627776
def F0(c:ak):Prop:=0<=c.aO/\c.aO<=1099511627776
structure ss(c:bk)(x:bX):Prop where
 outs:∀o∈x.2.outs,jW o.2
 chgs:∀d∈x.2.chgs,F0 d
 deads:∀d∈x.2.deads,jW d.2.1
 verts:∀v∈x.2.verts,0<=v/\v<(c.l.length:Int)
def n9(c:bk)(F:bX->bX):Prop:=∀x,Inv c x->ss c x->ss c (F x)
theorem Sv{c:bk}{α:Type}{j:Nat}(f:bX->α->bX):∀(l:List α),(∀a∈l,n9 c λx=>f x a)->(∀a∈l,fT c j λx=>f x a)->n9 c λx=>l.foldl f x
 | [],_,_=>λx i q=>q
 | a::r,h,t=>λx i q=>Sv f r (λb an=>h b (by simp[an])) (λb an=>t b (by simp[an])) (f x a) (t a (by simp) x i).inv (h a (by simp) x i q)
theorem HN{c:bk}{u:Int}{r:Rec}(j:jW r)(e:Int):n9 c (pT u r e):=λx i q=>⟨q.outs,q.chgs,λd a=>by
 rcases axE.1 a with a|a
 .exact q.deads d a
 .rw[azh.1 a];exact j,q.verts⟩
theorem awW{c:bk}{u:Int}{r:Rec}(j:jW r):n9 c (nS u r):=λx i q=>⟨λd a=>by
 rcases axE.1 a with a|a
 .exact q.outs d a
 .rw[azh.1 a];exact j,q.chgs,q.deads,q.verts⟩
theorem ZT{c:bk}{x y:bX}(q:ss c x)(h:y.2.outs=x.2.outs/\y.2.chgs=x.2.chgs/\y.2.deads=x.2.deads/\y.2.verts=x.2.verts):ss c y :=
 ⟨by rw[h.1];exact q.outs,by rw[h.2.1];exact q.chgs,by rw[h.2.2.1];exact q.deads,by rw[h.2.2.2];exact q.verts⟩
theorem ZU{c:bk}{u:Nat}(m:u<c.l.length){j:List ak}(aw:∀d∈j,F0 d){x:bX}(q:ss c x):ss c (kL (u:Int) j x) :=
 ⟨q.outs,λd a=>by
  rcases axE.1 a with a|a
  .exact q.chgs d a
  .exact aw d a,q.deads,λv i=>by
  rcases axE.1 i with i|i
  .exact q.verts v i
  .rw[(aC7.1 i).2];omega⟩
theorem aiV{r:Rec}(a:jW r):∀n,∀y∈qm r n,jW y
 | 0,y,h=>by simp[qm]at h
 | n+1,y,h=>by
  unfold qm at h;simp only[axE,IN,List.not_mem_nil,or_false]at h;rcases h with h|h
  .exact aiV a n y h
  .rw[h];exact a
theorem awX{k n:Int}{r:Rec}(a:jW r):∀y∈j8 k n r,jW y:=λy h=>by
 unfold j8 at h;split at h
 .rw[azh.1 h];exact a
 split at h
 .rw[azh.1 h];exact a
 split at h
 .split at h
  .cases h
  .rw[azh.1 h];exact a
 split at h
 .exact aiV a _ y h
 .rw[azh.1 h];exact a
theorem awY{v:bC}{r:Rec}(a:jW r):∀y∈(o6 v r).1,jW y:=λy h=>by
 unfold o6 at h;split at h
 .rw[azh.1 h];exact a
 split at h
 .split at h
  .split at h
   .exact awX a y h
   .cases h
  .cases h
 .cases h
theorem aiW{c:bk}{v:bC}{u:Int}{r:Rec}(m:jW r){th:Rec->bX->bX}(h:∀y,jW y->n9 c (th y))(t:∀y,fT c 24 (th y)):n9 c (qn v u th r):=λx i q=>by
 unfold qn;split
 .exact HN m _ x i q
 .exact Sv (j:=24) (λx y=>th y x) (o6 v r).1 (λa aW=>h a (awY m a aW)) (λa _=>t a) x i q
theorem awZ{K:ej}{e:cd}{l:List ak}{r:Rec}{N:Int}(h:lT K e l r=.ok N):kx r.t=true:=by
 unfold lT at h;split at h
 .cases h
 .rename_i a;simpa using a
theorem KM{K:ej}{x:ak}(an:ff K x=fr):F0 x:=by
 unfold F0;cases K with
 | kv=>
  simp only[ff,azv,hS]at an;omega
 | dy g=>
  simp only[ff,azv,az1,Cw,are,kx,ig]at an;omega
 | eA g=>
  simp only[ff,azv,az1,kx,ig,hS]at an;omega
theorem aw0{K:ej}{l:List ak}(w:dw K l){k t:Int}(v:Int)(a:kx t=e6):∀x∈sL K l k t v,F0 x:=λx h=>by
 cases K with
 | kv=>rw[azh.1 h];exact KM (RA w.g a)
 | dy g=>rw[azh.1 h];exact KM (RA w.g a)
 | eA g=>
  rcases axE.1 (show x∈jD g l k t v from h)with h|h
  .obtain⟨y,i,rfl⟩:=OF.1 h;have i:=(ajA.1 (ajA.1 i).1).1;exact KM (K:=.eA g) (x:=y) (w.ok y i).2
  .rw[azh.1 h];simp only[kx,ig]at a;exact KM (RB (g:=g) (Rs (λx j=>Xt (w.ok x j)) v a.1 (by omega)))
theorem aw1{K:ej}{l:List ak}(w:dw K l){k t N:Int}(a:kx t=e6):jW ⟨k,N,BV K l k t⟩:=by
 simp only[kx,ig]at a;unfold jW;cases K with
 | kv=>show 0<=t/\t<=_;omega
 | dy g=>
  have:=E7 a.1 w.g.1;show 0<=er g t/\er g t<=_;omega
 | eA g=>
  have an:=KM (RB (g:=g) (Rs (g:=g) (λx i=>Xt (w.ok x i)) (k:=k) N a.1 (by omega)));exact an
theorem aw2{c:bk}{K:ej}{v:bC}{u:Nat}(j:c.c0 u=eL K)(B:u<c.l.length){r:Rec}(m:jW r){a:Rec->bX->bX}(h:∀y,jW y->n9 c (a y)):n9 c (tB K v u a r):=λx i q=>by
 unfold tB;split
 .exact HN m _ x i q
 .have w:=i.wf u K j;split
  .exact HN m _ x i q
  .rename_i N s;have z:=awZ s;have C:=Hq (c:=c) (u:=u) (l:=sd K (x.1.st u) r.k r.t N) (λD A=>by rw[j]at A;cases A;exact(Om w s).2) x i;exact h _ (aw1 w z) _ (B0 c u _ _ C.inv).inv (ZU B (aw0 w N z) (ZT q ⟨rfl,rfl,rfl,rfl⟩))
theorem aw3{c:bk}{v:bC}{u:Int}{r:Rec}(j:jW r){a:Rec->bX->bX}(h:∀y,jW y->n9 c (a y)):n9 c (wh c v u a r):=λx i q=>by
 unfold wh;split
 .split
  .refine h _ ?_ x i q;exact j
  .exact HN j _ x i q
 .exact HN j _ x i q
theorem aw4{c:bk}{m:Int->Rec->bX->bX}(h:∀u y,jW y->n9 c (m u y))(t:∀u y,fT c 24 (m u y))(f:Int){u:Nat}(A:u<c.l.length){r:Rec}(z:jW r):n9 c (qo c m f u r):=λx i q=>by
 unfold qo;split
 .exact HN z _ x i q
 .rename_i B;obtain⟨j,_,_⟩:=RX i B;have a:ss c (dC x):=ZT q ⟨rfl,rfl,rfl,rfl⟩;split
  .exact a
  .split
   .exact aiW (th:=nS u) z (λy s=>awW s) (λy=>(Ol c u y).mono (by omega)) _ j a
   .split
    .exact aiW z (λy s=>h u y s) (λy=>t u y) _ j a
    .split
     .split
      .rename_i K C;exact aw2 C A z (λy s=>h u y s) _ j a
      .exact a
     .split
      .split
       .exact aw3 z (λy s=>h u y s) _ j a
       .exact a
      .exact a
theorem aiX{c:bk}(m:c.l.length<=24):∀(k:Nat) (v:Int) (r:Rec),jW r->n9 c (oH c k v r)
 | 0,v,r,_=>λx i q=>q
 | k+1,v,r,s=>Sv (j:=1) (λx u=>qo c (oH c k) v u r x) (c.us v) (λu z=>aw4 (λa y A=>aiX m k a y A) (λa y=>zk m k a y) v (M2 z) s) (λu _=>RY (λa y=>zk m k a y) v u r)
theorem aw5{c:bk}{u:Nat}(j:u<c.l.length):n9 c (λx=>cS c u x):=λx i q=>by
 show ss c (cS c u x);unfold cS;cases m:c.c0 u with
 | none=>exact q
 | some K=>
  refine ZU j (λd a=>?_) (ZT q ⟨rfl,rfl,rfl,rfl⟩);have w:=i.wf u K m;have a:=(NG K _).mem_iff.1 (show d∈AF K _ from a);obtain⟨y,s,rfl⟩:=OF.1 a;exact KM (K:=K) (x:=y) (w.ok y (ajA.1 s).1).2
theorem aw6{c:bk}(o:et c){s:cT}(D:∀u K,c.c0 u=eL K->dw K (s.st u))(v:Int){r:Rec}(E:jW r):ss c (stepT c s v r).1:=by
 have z:∀s:cT,ss c (s,eG.none):=λs=>⟨λo h=>by simp[eG.none]at h,λo h=>by simp[eG.none]at h,λo h=>by simp[eG.none]at h,λo h=>by simp[eG.none]at h⟩;have F:∀s:cT,(∀u K,c.c0 u=eL K->dw K (s.st u))->Inv c (s,eG.none):=λs h=>⟨D8 _,h⟩;cases q:c.ins.contains v
 .have m:stepT c s v r=((s,eG.none),6):=by unfold stepT;rw[gr q]
  rw[m];exact z s
 by_cases G:(dR s.ms v r.t).2≠0
 .have m:stepT c s v r=(pT v r (dR s.ms v r.t).2 (s,eG.none),0):=by unfold stepT;rw[gQ (by rw[q];decide),gr G]
  rw[m];exact HN E _ _ (F s D) (z s)
 obtain⟨u,A,rfl,_⟩:=Sa o q;obtain⟨a,B⟩:∃a:bX,a=({ s with ms:=dJ c.ins.length s.ms u r.t },eG.none):=⟨_,rfl⟩;obtain⟨i,H⟩:∃i:bX,i=(if(dR s.ms u r.t).1=e6 then kL u [l4 c r.t] a else a):=⟨_,rfl⟩;have m:stepT c s u r=((ajC c.l.length).foldl (λx u=>cS c u x) (oH c 24 u r i),0):=by
  unfold stepT;rw[gQ (by rw[q];decide),gQ G,H,B]
 rw[m];have L:Inv c a:=by rw[B];exact F _ D
 have M:ss c a:=by rw[B];exact z _
 have C:Inv c i/\ss c i:=by
  rw[H];split
  .exact⟨(B0 c u [l4 c r.t] a L).inv,ZU A (λd N=>by rw[azh.1 N];exact⟨az7 _,by show(0:Int)<=1099511627776;decide⟩) M⟩
  .exact⟨L,M⟩
 have O:=zk o.len 24 u r i C.1;exact Sv (j:=3000) (λx u=>cS c u x) (ajC c.l.length) (λu A=>aw5 (aDD.1 A)) (λu _=>DR) _ O.inv (aiX o.len 24 u r E i C.1 C.2)
theorem Sw(c:bk):∀(s:cT) (a b:List (Int×ak)),eR c s (a++b)=(eR c s a).bind λm=>eR c m b
 | s,[],b=>rfl
 | s,p::a,b=>by
  simp only[aza,eR];split
  .exact Sw c _ a b
  .rfl
theorem EQ{c:bk}{s j a:cT}{ps:List (Int×ak)}(h:eR c s ps=eL j){k:Nat}(m:k<ps.length)(q:eR c s (ps.take k)=eL a) :
  0<=ps[k].1/\(fB c a ps[k].1.toNat ps[k].2).2=0/\eR c s (ps.take (k+1))=eL (fB c a ps[k].1.toNat ps[k].2).1:=by
 have u:ps=ps.take k++(ps[k]::ps.drop (k+1)):=by rw[<-List.drop_eq_getElem_cons m,azL]
 rw[u,Sw,q]at h;have i:eR c a (ps[k]::ps.drop (k+1))=eL j:=h;unfold eR at i;split at i
 case isFalse=>cases i
 rename_i aw;refine⟨aw.1,aw.2,?_⟩;rw[ayY m,Sw,q];show eR c a [ps[k]]=_;unfold eR;rw[gr aw];rfl
theorem aiY{c:bk}{s:cT}(a:sj c s)(u:Nat)(d:ak):sj c (fB c s u d).1:=by
 unfold fB;split
 .split
  .exact age a u d.val
  .exact a
 .split
  .exact⟨a.1,a.2⟩
  .exact a
theorem ww{a:Nat}{v w t x:Int}(i:v≠w):∀{l:Seen},(cV l v).isSome->(cV l w).isSome->ev a (ev a l v t) w x=ev a (ev a l w x) v t
 | [],h,_=>by simp[cV]at h
 | e::l,q,s=>by
  by_cases j:e.2.1=v
  .have m:¬e.2.1=w:=λU=>i (j.symm.trans U);simp[ev,j,i]
  .by_cases m:e.2.1=w
   .have u:¬w=v:=λU=>i U.symm;simp[ev,m,u]
   .have z:(cV l v).isSome:=(by unfold cV at q⊢;rw[azC,show(e.2.1==v)=fr by simpa using j]at q;exact q);have A:(cV l w).isSome:=(by unfold cV at s⊢;rw[azC,show(e.2.1==w)=fr by simpa using m]at s;exact s);simp only[ev,j,m,iC];rw[ww i z A]
theorem ZV{cl:Nat}{l:Seen}{v w t:Int}(h:w≠v):cV (dJ cl l v t) w=cV l w:=by
 unfold dJ;split
 .rfl
 .split
  .rfl
  .split
   .rfl
   .rw[Sb,gQ h]
theorem ai0{a:Nat}{l:Seen}{v w t x:Int}(h:w≠v):dR (dJ a l v t) w x=dR l w x:=by
 unfold dR;rw[ZV h]
theorem aw7{i:Nat}{l:Seen}{v w t x:Int}(h:v≠w):dJ i (dJ i l v t) w x=dJ i (dJ i l w x) v t:=by
 have az:=ZV (cl:=i) (l:=l) (t:=t) (Ne.symm h);have bd:=ZV (cl:=i) (l:=l) (t:=x) h;have z:∀(l:Seen) (v t:Int),dJ i l v t=match cV l v with|none=>l|some g=>if t<0\/1099511627776<t then l else if t<=g then l else ev i l v t:=λ_ _ _=>rfl
 rw[z (dJ i l v t) w x,z (dJ i l w x) v t,az,bd];unfold dJ;cases q:cV l v with
 | none=>cases A:cV l w<;>simp[q]
 | some a=>
  cases A:cV l w with
  | none=>simp[q]
  | some b=>
   simp only;by_cases j:t<0\/1099511627776<t
   .simp[j]
   .by_cases s:t<=a
    .simp[j,s]
    .by_cases m:x<0\/1099511627776<x
     .simp[m]
     .by_cases u:x<=b
      .simp[m,u]
      .rw[gQ m,gQ u,gQ j,gQ s,gQ j,gQ s,gQ m,gQ u];exact ww h (by rw[q];rfl) (by rw[A];rfl)
theorem HO{c:bk}{s:cT}{u:Nat}{d:ak}(a:c.ins.contains (u:Int)=e6):fB c s u d=if d=l4 c d.val then({ s with ms:=dJ c.ins.length s.ms u d.val },(dR s.ms u d.val).2)else(s,5):=by
 unfold fB;rw[gr a]
theorem Sx{c:bk}{s:cT}{u:Nat}{d:ak}{K:ej}(a:c.ins.contains (u:Int)=fr)(i:c.c0 u=eL K):fB c s u d=(⟨s.ms,nf s.st u (hJ K (s.st u) d).1⟩,(hJ K (s.st u) d).2):=by
 unfold fB;rw[gQ (by rw[a];decide),i];rfl
theorem Sy{c:bk}{s:cT}{u:Nat}{d:ak}(a:c.ins.contains (u:Int)=fr)(i:c.c0 u=eN):(fB c s u d).2=6:=by
 unfold fB;rw[gQ (by rw[a];decide),i]
theorem aw8{st:Nat->List ak}{u w:Nat}(h:u≠w)(a b:List ak):nf (nf st u a) w b=nf (nf st w b) u a:=by
 funext x
 unfold nf;by_cases i:x=w
 .subst i;rw[gr rfl,gQ (Ne.symm h),gr rfl]
 .rw[gQ i,gQ i]
theorem ZW{st:Nat->List ak}{u w:Nat}(h:w≠u)(a:List ak):nf st u a w=st w:=gQ h
theorem aw9{c:bk}{s:cT}{u w:Nat}(z:u≠w){d e:ak}(i:(fB c s u d).2=0)(a:(fB c (fB c s u d).1 w e).2=0) :
  (fB c s w e).2=0/\fB c (fB c s w e).1 u d=((fB c (fB c s u d).1 w e).1,0):=by
 have B:(u:Int)≠(w:Int):=by omega
 cases q:c.ins.contains (u:Int)with
 | true=>
  have G:d=l4 c d.val:=by
   refine Classical.byContradiction λU=>?_;rw[HO q,gQ U]at i;cases i
  have C:∀s,fB c s u d=({ s with ms:=dJ c.ins.length s.ms u d.val },(dR s.ms u d.val).2):=λs=>by rw[HO q,gr G]
  rw[C]at i a;cases j:c.ins.contains (w:Int)with
  | true=>
   have D:e=l4 c e.val:=by
    refine Classical.byContradiction λU=>?_;rw[HO j,gQ U]at a;cases a
   have A:∀s,fB c s w e=({ s with ms:=dJ c.ins.length s.ms w e.val },(dR s.ms w e.val).2):=λs=>by rw[HO j,gr D]
   rw[A]at a;simp only[C,A]at i a⊢;rw[ai0 (Ne.symm B)]at a;refine⟨a,?_⟩;rw[ai0 B,i,aw7 B]
  | false=>
   cases m:c.c0 w with
   | none=>rw[Sy j m]at a;cases a
   | some K=>
    simp only[C,Sx j m]at i a⊢;exact⟨a,by rw[i]⟩
 | false=>
  cases m:c.c0 u with
  | none=>rw[Sy q m]at i;cases i
  | some K=>
   cases j:c.ins.contains (w:Int)with
   | true=>
    have D:e=l4 c e.val:=by
     refine Classical.byContradiction λU=>?_;rw[HO j,gQ U]at a;cases a
    have A:∀s,fB c s w e=({ s with ms:=dJ c.ins.length s.ms w e.val },(dR s.ms w e.val).2):=λs=>by rw[HO j,gr D]
    simp only[A,Sx q m]at i a⊢;exact⟨a,by rw[i]⟩
   | false=>
    cases F:c.c0 w with
    | none=>rw[Sy j F]at a;cases a
    | some H=>
     simp only[Sx q m,Sx j F]at i a⊢;rw[ZW (Ne.symm z)]at a;refine⟨a,?_⟩;rw[ZW z,ZW (Ne.symm z),i,aw8 z]
theorem ZX{c:bk}{s a:cT}{p:Int×ak}{r:List (Int×ak)}(h:eR c s (p::r)=eL a):0<=p.1/\(fB c s p.1.toNat p.2).2=0/\eR c (fB c s p.1.toNat p.2).1 r=eL a:=by
 unfold eR at h;split at h
 .rename_i U;exact⟨U.1,U.2,h⟩
 .cases h
theorem ZY{c:bk}{s:cT}{p:Int×ak}{r:List (Int×ak)}(a:0<=p.1)(i:(fB c s p.1.toNat p.2).2=0):eR c s (p::r)=eR c (fB c s p.1.toNat p.2).1 r:=by
 conv=>lhs;unfold eR
 rw[gr ⟨a,i⟩]
theorem ai1{c:bk}{n:Nat}{p:Int×ak}(A:p.1≠(n:Int))(B:0<=p.1):∀(Q:List (Int×ak)),(∀q∈Q,q.1=(n:Int))->∀s a,(fB c s p.1.toNat p.2).2=0->eR c (fB c s p.1.toNat p.2).1 Q=eL a->∃i,eR c s Q=eL i/\fB c i p.1.toNat p.2=(a,0)
 | [],_,s,a,j,m=>⟨s,rfl,Prod.ext (Option.some.inj m) j⟩
 | q::Q,u,s,a,j,m=>by
  obtain⟨C,D,E⟩:=ZX m;have N:=u q (by simp);have F:p.1.toNat≠q.1.toNat:=by omega
  obtain⟨G,z⟩:=aw9 F j D;obtain⟨i,H,L⟩:=ai1 A B Q (λx M=>u x (by simp[M])) (fB c s q.1.toNat q.2).1 a (by rw[z]) (by rw[z];exact E);exact⟨i,by rw[ZY C G];exact H,L⟩
theorem ai2{c:bk}(n:Nat):∀(P:List (Int×ak)) (s a:cT),eR c s P=eL a->∃i,eR c s (P.filter λp=>decide (p.1=(n:Int)))=eL i/\eR c i (P.filter λp=>decide (p.1≠(n:Int)))=eL a
 | [],s,a,h=>⟨s,rfl,h⟩
 | p::P,s,a,h=>by
  obtain⟨m,u,C⟩:=ZX h;obtain⟨i,z,A⟩:=ai2 n P _ a C;by_cases j:p.1=(n:Int)
  .refine⟨i,?_,?_⟩
   .rw[az6 (by simpa using j),ZY m u];exact z
   .rw[azZ (by simpa using j)];exact A
  .obtain⟨D,E,B⟩:=ai1 j m _ (λq F=>by simpa using(ajA.1 F).2) s i u z;refine⟨D,?_,?_⟩
   .rw[azZ (by simpa using j)];exact E
   .rw[az6 (by simpa using j),ZY m (by rw[B]),B];exact A
theorem ai3{c:bk}{P:List (Int×ak)}{N:Nat}(z:∀p∈P,p.1<(N:Int)):∀(m i:Nat),i+m=N->∀s a,eR c s (P.filter λp=>decide ((i:Int)<=p.1))=eL a ->
  ∃S:Nat->cT,S i=s/\(∀j,i<=j->j<N->eR c (S j) (P.filter λp=>decide (p.1=(j:Int)))=eL (S (j+1)))/\S N=a
 | 0,i,hi,s,a,h=>by
  have e:(P.filter λp=>decide ((i:Int)<=p.1))=[]:=aAe.2 λp B=>by have:=z p B;simp;omega
  rw[e]at h;refine⟨λ_=>s,rfl,λj C A=>by omega,Option.some.inj h⟩
 | m+1,i,hi,s,a,h=>by
  obtain⟨D,q,u⟩:=ai2 i _ s a h;rw[List.filter_filter]at q u;have az:(P.filter λp=>decide (p.1=(i:Int))&&decide ((i:Int)<=p.1))=P.filter λp=>decide (p.1=(i:Int)):=azy λp _=>by
   by_cases U:p.1=(i:Int)
   .simp[U]
   .simp[U]
  have bd:(P.filter λp=>decide (p.1≠(i:Int))&&decide ((i:Int)<=p.1))=P.filter λp=>decide (((i+1:Nat):Int)<=p.1):=azy λp _=>by
   rw[Bool.eq_iff_iff];simp only[are,ig];omega
  rw[az]at q;rw[bd]at u;obtain⟨S,E,F,G⟩:=ai3 z m (i+1) (by omega) D a u;refine⟨λj=>if j<=i then s else S j,gr (BY _),λj C A=>?_,by show(if N<=i then s else S N)=a;rw[gQ (by omega)];exact G⟩;by_cases H:j=i
  .subst H;simp only;rw[gr (BY _),gQ (by omega),E];exact q
  .simp only;rw[gQ (by omega),gQ (by omega)];exact F j (by omega) A
theorem axa{c:bk}{P:List (Int×ak)}{N:Nat}(q:∀p∈P,0<=p.1/\p.1<(N:Int)){s i:cT}(h:eR c s P=eL i) :
  ∃S:Nat->cT,S 0=s/\(∀j,j<N->eR c (S j) (P.filter λp=>decide (p.1=(j:Int)))=eL (S (j+1)))/\S N=i:=by
 have e:(P.filter λp=>decide (((0:Nat):Int)<=p.1))=P:=List.filter_eq_self.2 λp m=>by have:=(q p m).1;simpa using this
 obtain⟨S,a,b,d⟩:=ai3 (c:=c) (λp m=>(q p m).2) N 0 (by omega) s i (by rw[e];exact h);exact⟨S,a,λj u=>b j (D8 _) u,d⟩
def pb(l:List bz)(k:Int):List ed:=(l.filter λx=>x.log==k).map λx=>(x.r,x.del)
theorem SA(a b:List bz)(k:Int):pb (a++b) k=pb a k++pb b k:=by unfold pb;rw[az0,ay1]
theorem PR(x:bz)(b:List bz)(k:Int):pb (x::b) k=(if x.log=k then [(x.r,x.del)]else [])++pb b k:=by
 unfold pb;by_cases h:x.log=k
 .rw[az6 (by simpa using h),gr h];rfl
 .rw[azZ (by simpa using h),gQ h];rfl
theorem ai4:∀(o:List (bz×Nat)) (f:Int->List ed) (k:Int),n2 f o k=f k++pb (o.map (·.1)) k
 | [],f,k=>by simp[n2,pb]
 | p::o,f,k=>by
  show n2 (jg f p.1) o k=_;rw[ai4 o,ajF,PR];unfold jg;by_cases h:k=p.1.log
  .subst h;rw[gr rfl,gr rfl,axC]
  .rw[gQ h,gQ (Ne.symm h)];rfl
theorem axb{S:oK}{n T:Int}{x:bz}(s:ha x=e6)(u:x.kind=2)(z:x.task=n)(A:x.cN=0)(B:x.gG=T)(a:(bB S n).ep=0)(j:(bB S n).tx=T)(i:Nat) :
  (bB (lM S x i) n).ep=0/\(bB (lM S x i) n).tx=T/\(bB (lM S x i) n).offs=(bB S n).offs/\(bB (lM S x i) n).opn.map (·.1)=(bB S n).opn.map (·.1)++[x]/\(lM S x i).logs=S.logs:=by
 unfold lM;rw[gQ (by rw[s];simp),gQ (by omega),gQ (by omega),gQ (by omega),z];have e:bB (⟨qu S.logs (bB S n) x,λm=>if m=n then eL (mN (bB S n) x i)else S.tasks m⟩:oK) n=mN (bB S n) x i:=by unfold bB;simp
 have q:¬(x.cN≠(bB S n).ep\/x.gG≠(bB S n).tx):=by rw[A,B,a,j];simp
 rw[e];unfold mN qu;rw[gQ q,gr u,gQ q,gQ (by omega)];exact⟨a,j,rfl,by simp,rfl⟩
theorem axc{n T:Int}{A:List bz}(a:(bB (en A) n).ep=0)(i:(bB (en A) n).tx=T)(K:List bz):(∀x∈K,ha x=e6/\x.kind=2/\x.task=n/\x.cN=0/\x.gG=T) ->
  (bB (en (A++K)) n).ep=0/\(bB (en (A++K)) n).tx=T/\(bB (en (A++K)) n).offs=(bB (en A) n).offs/\(bB (en (A++K)) n).opn.map (·.1)=(bB (en A) n).opn.map (·.1)++K/\(en (A++K)).logs=(en A).logs :=
 ZM (p:=λK=>(∀x∈K,ha x=e6/\x.kind=2/\x.task=n/\x.cN=0/\x.gG=T) ->
  (bB (en (A++K)) n).ep=0/\(bB (en (A++K)) n).tx=T/\(bB (en (A++K)) n).offs=(bB (en A) n).offs/\(bB (en (A++K)) n).opn.map (·.1)=(bB (en A) n).opn.map (·.1)++K/\(en (A++K)).logs=(en A).logs)
  (λ_=>by rw[axA];exact⟨a,i,rfl,by simp,rfl⟩) (λK x ih h=>by
   obtain⟨j,m,q,s,u⟩:=ih λy z=>h y (aAd _ z);obtain⟨B,C,D,E,F⟩:=h x (by simp);obtain⟨G,H,L,M,N⟩:=axb B C D E F j m (A++K).length;rw[<-axC,FH];exact⟨G,H,L.trans q,by rw[M,s,axC],N.trans u⟩) K
theorem axd{n T:Int}{A K:List bz}{C:bz}(z:(bB (en A) n).ep=0)(B:(bB (en A) n).tx=T)(D:(bB (en A) n).opn=[])(E:∀x∈K,ha x=e6/\x.kind=2/\x.task=n/\x.cN=0/\x.gG=T)
  (F:ha C=e6) (q:C.kind=3) (G:C.task=n) (H:C.cN=0) (L:C.gG=T) :
  (bB (en (A++(K++[C]))) n).ep=0/\(bB (en (A++(K++[C]))) n).tx=T+1/\(bB (en (A++(K++[C]))) n).offs=C.offs/\(bB (en (A++(K++[C]))) n).opn=[]/\∀k,(en (A++(K++[C]))).logs k=(en A).logs k++pb K k:=by
 obtain⟨a,i,M,j,s⟩:=axc z B K E;rw[<-axC,FH];generalize(A++K).length=N;rw[D,azd,aze]at j;rw[<-s];clear s;generalize en (A++K)=S at a i M j;unfold lM;rw[gQ (by rw[F];simp),gQ (by omega),gQ (by omega),gQ (by omega),G];have e:bB (⟨qu S.logs (bB S n) C,λm=>if m=n then eL (mN (bB S n) C N)else S.tasks m⟩:oK) n=mN (bB S n) C N:=by unfold bB;simp
 have u:¬(C.cN≠(bB S n).ep\/C.gG≠(bB S n).tx):=by rw[H,L,a,i];simp
 rw[e];unfold mN qu;rw[gQ u,gQ (by omega),gr q,gQ u,gr q];refine⟨a,by show(bB S n).tx+1=_;rw[i],rfl,rfl,λk=>?_⟩;show n2 S.logs (bB S n).opn k=_;rw[ai4,j]
theorem ai5{l:List bC}{p k v q a i j:Int}(h:ct p l k v q=ct p l a i j)(m:0<=ct p l k v q):k=a/\v=i/\q=j:=by
 obtain⟨aw,E,F,G,e⟩:=PK m;obtain⟨_,H,L,M,s⟩:=PK (h▸m);rw[e,s]at h;obtain⟨N,_,_,_⟩:=zg aw;have u:k*(l.length:Int)+v=a*(l.length:Int)+i/\q=j:=by
  generalize k*(l.length:Int)+v=A at h;generalize a*(l.length:Int)+i=B at h;have z:p=1\/p=2\/p=3\/p=4\/p=5\/p=6\/p=7\/p=8:=by omega
  rcases z with rfl|rfl|rfl|rfl|rfl|rfl|rfl|rfl<;>omega
 have C:k=0\/k=1\/k=2:=by omega
 have D:a=0\/a=1\/a=2:=by omega
 have O:=u.1;rcases C with rfl|rfl|rfl<;>rcases D with rfl|rfl|rfl<;>omega
theorem ZZ{c:bk}(o:et c){k v q:Int}(a:0<=k/\k<=2)(i:0<=v/\v<c.l.length)(j:0<=q/\q<c.p):0<=ct c.p c.l k v q/\ct c.p c.l k v q<=1048576:=by
 obtain⟨m,s,u,_⟩:=zg o.ti;have rg:=Zo (n:=(c.l.length:Int)) (k:=k) (v:=v) (p:=c.p) a.1 a.2 (by omega) i.1 i.2 m;unfold ct;rw[gr ⟨o.ti,a.1,a.2,i.1,i.2,j.1,j.2⟩];omega
def Bm(p:Int×ak):List ed:=[(wo (uN p.2),fr),(wo (qM p.2),p.2.del)]
theorem ai6{d:fj}{s:dQ}(o:et d.c)(a:0<=d.q/\d.q<d.c.p){v:Nat}(j:v<d.c.l.length):∀(Z:List (Int×ak)),pb (Z.flatMap (so d s)) (ct d.c.p d.c.l 1 v d.q)=(Z.filter λp=>decide (p.1=(v:Int))).flatMap Bm
 | []=>rfl
 | z::Z=>by
  have ih:=ai6 (s:=s) o a j Z;have m:=(ZZ o (k:=1) (v:=v) (q:=d.q) (by omega) (by omega) a).1;rw[ayW,SA,ih];by_cases h:z.1=(v:Int)
  .rw[az6 (by simpa using h),ayW]
   congr 1
   unfold so;rw[PR,PR,gr (by show ct d.c.p d.c.l 1 z.1 d.q=_;rw[h]),gr (by show ct d.c.p d.c.l 1 z.1 d.q=_;rw[h])];rfl
  .rw[azZ (by simpa using h)];have i:¬ct d.c.p d.c.l 1 z.1 d.q=ct d.c.p d.c.l 1 v d.q:=λU=>h (ai5 U (by rw[U];exact m)).2.1;unfold so;rw[PR,PR,gQ (show ¬(oN d s 1 z.1 d.q (uN z.2) fr).log=_ from i),gQ (show ¬(oN d s 1 z.1 d.q (qM z.2) z.2.del).log=_ from i)];rfl
theorem ai7{d:fj}(o:et d.c)(a:0<=d.q/\d.q<d.c.p){v:Nat}(u:v<d.c.l.length){k:Int}(i:k≠1){l:List bz}(j:∀x∈l,∃w q,x.log=ct d.c.p d.c.l k w q):pb l (ct d.c.p d.c.l 1 v d.q)=[]:=by
 have m:=(ZZ o (k:=1) (v:=v) (q:=d.q) (by omega) (by omega) a).1;unfold pb;rw[aC6,aAe];intro x s U;obtain⟨w,q,e⟩:=j x s;have U:x.log=ct d.c.p d.c.l 1 v d.q:=by simpa using U
 rw[e]at U;exact i (ai5 U (by rw[U];exact m)).1
theorem axe{d:fj}{s:dQ}(o:et d.c)(a:0<=d.q/\d.q<d.c.p){v:Nat}(i:v<d.c.l.length)(x:eG):pb (s0 d s x) (ct d.c.p d.c.l 1 v d.q)=((x.verts.zip x.chgs).filter λp=>decide (p.1=(v:Int))).flatMap Bm:=by
 unfold s0;rw[SA,SA,ai6 o a i,ai7 o a i (k:=0) (by decide) (λy j=>by
  obtain⟨z,_,rfl⟩:=OF.1 j;exact⟨_,_,rfl⟩),ai7 o a i (k:=2) (by decide) (λy j=>by
  obtain⟨z,_,rfl⟩:=OF.1 j;exact⟨_,_,rfl⟩),aze,axA]
theorem axf{c:bk}(o:et c)(k:Int):0<=rC c.p c.l k/\rC c.p c.l k<c.p:=by
 obtain⟨i,_,_,_⟩:=zg o.ti;have:=afj (a:=k) i.1;unfold rC;rw[gr o.ti];split<;>omega
theorem SB{d:fj}{s:dQ}(o:et d.c)(j:0<=d.n/\d.n<=1048576)(m:s.ep=0)(u:0<=s.tx/\s.tx<=1048576){k v q:Int}(z:0<=k/\k<=2)(A:0<=v/\v<d.c.l.length)(B:0<=q/\q<d.c.p){r:Rec}(C:jW r)(a:Bool):ha (oN d s k v q r a)=true:=by
 have D:=ZZ o z A B;rw[B3];refine⟨⟨by show(1:Int)<=2;decide,by show(2:Int)<=6;decide⟩,?_,?_,?_,?_,?_,D8 _,λx i=>(by cases i),D8 _,λx i=>(by cases i),?_⟩
 .show fit d.n=e6;rw[xk];exact j
 .show fit s.ep=e6;rw[m];decide
 .show fit s.tx=e6;rw[xk];exact u
 .show fit (ct d.c.p d.c.l k v q)=e6;rw[xk];exact D
 .show AZ r.t=e6;rw[YO];exact C
 .unfold uJ oN;simp
theorem axg{d:fj}{s:dQ}(o:et d.c)(j:0<=d.n/\d.n<=1048576)(m:0<=d.q/\d.q<d.c.p)(A:s.ep=0)(B:0<=s.tx/\s.tx<=1048576){x:bX}(D:rH d.c x)(C:ss d.c x):∀y∈s0 d s x.2,ha y=true:=by
 intro y a;unfold s0 at a;rcases axE.1 a with a|a
 .rcases axE.1 a with a|a
  .obtain⟨z,i,rfl⟩:=OF.1 a;obtain⟨u,w,e,E,_⟩:=D.outs z i;have:=(List.getElem?_eq_some_iff.1 E).1;refine SB o j A B (by decide) (by omega) ?_ (C.outs z i) _;unfold partOf;split
   .exact axf o _
   .exact m
  .obtain⟨z,i,a⟩:=aAg.1 a;have F:=C.verts z.1 (aFc i).1;have G:=C.chgs z.2 (aFc i).2;rcases IN.1 a with rfl|a
   .exact SB o j A B (by decide) F m (r:=uN z.2) G _
   .rw[azh.1 a];exact SB o j A B (by decide) F m (r:=qM z.2) ⟨az7 _,by show(0:Int)<=1099511627776;decide⟩ _
 .obtain⟨z,i,rfl⟩:=OF.1 a;obtain⟨_,u,e,E⟩:=D.deads z i;exact SB o j A B (by decide) (by omega) m (C.deads z i) _
theorem axh{l:List bC}{p n:Int}(h:sr l p n=0):0<=(hz l p n).q/\(hz l p n).q<(hz l p n).c.p:=by
 have a:¬(fp p l n).1<0:=by
  unfold sr at h;split at h
  .omega
  split at h
  .omega
  rename_i i;exact i
 show 0<=(fp p l n).2/\(fp p l n).2<p;unfold fp at a⊢;split
 .rename_i U;obtain⟨_,j,_⟩:=ahL U.1 U.2;show 0<=n.tmod p/\n.tmod p<p;rw[az5 U.1];exact⟨Int.emod_nonneg _ (by omega),Int.emod_lt_of_pos _ (by omega)⟩
 .rename_i U;rw[gQ U]at a;exact absurd (by decide:(-1:Int)<0) a
theorem axi{i:Nat}{d:fj}{s:dQ}(z:s.offs.length=d.c.ins.length)(A:∀x∈s.offs,0<=x/\x<=(i:Int))(j:sn){n:Int}(E:0<=n) :
  (∃e:Int,oP d s j n=(s,fr,e))\/(∃a r,oP d s j n=(KJ d s n (d.c.ins.getD n.toNat 0) a (tD r.1),e6,0)/\n<(d.c.ins.length:Int)/\0<=a/\a<=(i:Int)/\r∈CO d j (d.c.ins.getD n.toNat 0)):=by
 unfold oP;by_cases B:(d.c.ins.length:Int)<=n
 .rw[gr (.inr B)];exact .inl ⟨1,rfl⟩
 rw[gQ (by omega)];have m:n.toNat<s.offs.length:=by rw[z];omega
 have q:s.offs[n.toNat]?=eL s.offs[n.toNat]:=Jt m;have C:s.offs.getD n.toNat 0=s.offs[n.toNat]:=by rw[aCL,q];rfl
 have an:=A _ (ayz m);rw[C];generalize s.offs[n.toNat]=a at q an;cases D:(CO d j (d.c.ins.getD n.toNat 0))[a.toNat]? with
 | none=>exact .inl ⟨0,rfl⟩
 | some r=>
  simp only[gQ (show ¬a<0 by omega)];by_cases u:256<=s.order.length
  .rw[gr u];exact .inl ⟨3,rfl⟩
  .rw[gQ u];exact .inr ⟨a,r,rfl,by omega,an.1,an.2,List.mem_of_getElem? D⟩
theorem axj{l:List bC}{p:Int}{a:List Rec}{k:Int}{r:ed}(h:r∈logAt (toldOf (fh l p a)).logs k):jW (tD r.1):=by
 have e:logAt (toldOf (fh l p a)).logs k=_:=Ss (fh l p a) k;rw[e,(St _ (KL l p a)).2]at h;obtain⟨x,i,rfl⟩:=OF.1 h;have j:=(KL l p a x (ajA.1 i).1).2;exact(YO _).1 ((B3 x).1 j).2.2.2.2.2.1
theorem ai8{α β:Type}:∀a:List (α×β),(a.map (·.1)).zip (a.map (·.2))=a
 | []=>rfl
 | p::r=>by rw[ajF,ajF,List.zip_cons_cons,ai8 r]
structure pc(l:List bC)(p:Int)(rs:List Rec)(i:Nat)(d:fj)(s:dQ)(E:List bz)(P:List (Int×ak)):Prop where
 j9:yd d.c s.m
 offs:s.offs.length=d.c.ins.length
 ob:∀x∈s.offs,0<=x/\x<=(i:Int)
 ord:s.order.length<=i
 ZS:∀x∈s.order,0<=x/\x<4
 uO:s.order=[]->s.kept=[]
 len:E.length+s.kept.length<=i*16777217
 bare:pt s.kept
 c0:∀x∈s.kept,ha x=e6/\x.kind=2/\x.task=d.n/\x.cN=0/\x.gG=s.tx
 ep:s.ep=0
 tx:0<=s.tx/\s.tx<=(i:Int)
 em:∀x∈E,ha x=e6/\pq x
 A6:(bB (en (fh l p rs++E)) d.n).ep=0
 iz:(bB (en (fh l p rs++E)) d.n).tx=s.tx
 O8:(bB (en (fh l p rs++E)) d.n).opn=[]
 HC:(bB (en (fh l p rs++E)) d.n).offs=[]\/(bB (en (fh l p rs++E)) d.n).offs.length=d.c.ins.length
 ah9:s.order=[]->Bc (bB (en (fh l p rs++E)) d.n).offs d.c.ins.length=s.offs
 oL:∀v:Nat,v<d.c.l.length->(en (fh l p rs++E)).logs (ct d.c.p d.c.l 1 v d.q)++pb s.kept (ct d.c.p d.c.l 1 v d.q)=(P.filter λp=>decide (p.1=(v:Int))).flatMap Bm
 Z0:eR d.c (cT.new d.c) P=eL s.m
 jG:∀p∈P,0<=p.1/\p.1<(d.c.l.length:Int)
section
variable {l:List bC} {p:Int} {rs:List Rec} {i:Nat} {d:fj} {s:dQ} {E:List bz} {P:List (Int×ak)}
theorem pc.new(o:et d.c)(z:d.c.l=l)(A:d.c.p=p):pc l p rs 0 d (wv (toldOf (fh l p rs)) d) [] []:=by
 have e:wv (toldOf (fh l p rs)) d=⟨cT.new d.c,0,0,List.replicate d.c.ins.length 0,[],[]⟩:=by
  unfold wv;rw[aiR];rfl
 have g:=aiC (toldOf (fh l p rs)) d o;have u:bB (en (fh l p rs++[])) d.n=xl:=by
  rw[axA];unfold bB;rw[(St _ (KL l p rs)).1];rfl
 rw[e]at g⊢;refine⟨g,List.length_replicate,λx j=>(by rw[(aC7.1 j).2];simp),BY _,λx j=>(by cases j),λ_=>rfl,D8 _,λx j=>(by cases j),λx j=>(by cases j),rfl,⟨az7 _,az7 _⟩,λx j=>(by cases j),by rw[u];rfl,by rw[u];rfl,by rw[u];rfl,.inl (by rw[u];rfl),λ_=>by rw[u];rfl,λv B=>?_,rfl,λx j=>(by cases j)⟩;rw[axA,<-Ss];have:=aiS l p rs (v:Int) d.q;rw[<-z,<-A]at this;rw[<-z,<-A];show logAt (toldOf (fh d.c.l d.c.p rs)).logs _++[]=_;rw[this];rfl
theorem pc.up(k:pc l p rs i d s E P):pc l p rs (i+1) d s E P :=
 { k with ob:=λx j=>by have:=k.ob x j;omega,ord:=by have:=k.ord;omega,len:=UN k.len (ay6 _ (aAQ i)),tx:=by have:=k.tx;omega }
theorem pc.step(o:et d.c)(D:0<=d.n/\d.n<=1048576)(A:0<=d.q/\d.q<d.c.p)(hi:i<=41)(k:pc l p rs i d s E P){n:Int}(F:0<=n/\n<4){v:Int}(z:d.c.ins.contains v=e6){a:Int}(aW:0<=a/\a<=(i:Int)){r:Rec}(G:jW r) :
  ∃ps,pc l p rs (i+1) d (KJ d s n v a r) E (P++ps):=by
 obtain⟨u,H,rfl,_⟩:=Sa o z;obtain⟨ps,B,L,M⟩:=auE o k.j9.wf (u:Int) r;have W:=aiT o k.j9 (u:Int) r;have X:=k.len;have Y:=k.ord;have N:=af7 (c:=d.c) s.m (v:=(u:Int)) rfl H r;have C:=aw6 o k.j9.wf (u:Int) G;have O:(stepT d.c s.m u r).1.2.verts.zip (stepT d.c s.m u r).1.2.chgs=ps:=by rw[B,L,ai8]
 refine⟨ps,YM o k.j9 u r,?_,λx j=>?_,?_,λx j=>?_,λU=>?_,?_,Sq k.bare (ZL _ _ _),λx j=>?_,k.ep,⟨k.tx.1,by have:=k.tx.2;show s.tx<=_;omega⟩,k.em,k.A6,k.iz,k.O8,k.HC,λU=>?_,λv z=>?_,?_,λx j=>?_⟩
 .show(s.offs.set n.toNat (a+1)).length=_;rw[aBa];exact k.offs
 .rcases List.mem_or_eq_of_mem_set (show x∈s.offs.set n.toNat (a+1)from j)with j|rfl
  .have:=k.ob x j;omega
  .omega
 .show(s.order++[n]).length<=_;rw[D9,az9];omega
 .rcases axE.1 (show x∈s.order++[n]from j)with j|j
  .exact k.ZS x j
  .rw[azh.1 j];exact F
 .exact absurd (show s.order++[n]=[]from U) (by simp)
 .show E.length+(s.kept++s0 d s (stepT d.c s.m u r).1.2).length<=_;rw[D9];omega
 .rcases axE.1 (show x∈s.kept++s0 d s (stepT d.c s.m u r).1.2 from j)with j|j
  .exact k.c0 x j
  .obtain⟨Q,R,S,T⟩:=awV d s _ x j;exact⟨axg o D A k.ep ⟨k.tx.1,by have:=k.tx.2;omega⟩ N C x j,Q,R,S.trans k.ep,T⟩
 .exact absurd (show s.order++[n]=[]from U) (by simp)
 .show _++pb (s.kept++s0 d s (stepT d.c s.m u r).1.2) _=_;rw[SA,<-axC,k.oL v z,axe o A z,O,az0,ay3]
 .rw[Sw,k.Z0];exact M
 .rcases axE.1 j with j|j
  .exact k.jG x j
  .have:x.1∈(stepT d.c s.m u r).1.2.verts:=by rw[B];exact List.mem_map_of_mem j
   exact C.verts x.1 this
theorem pc.F1(F:0<=d.n/\d.n<=1048576)(G:d.c.ins.length<=8)(hi:i<=41)(k:pc l p rs i d s E P)(H:s.order≠[]):pc l p rs (i+1) d (Zv s) (E++my d s) P:=by
 have e:my d s=s.kept++[fq d s]:=gQ H;have Q:=k.tx;have R:=k.ord;have L:=k.len;have z:aPh.i64.wrap (s.tx+1)=s.tx+1:=kp _ (by omega);have A:ha (fq d s)=true:=by
  rw[B3];refine⟨⟨by show(1:Int)<=3;decide,by show(3:Int)<=6;decide⟩,?_,?_,?_,by show fit 0=e6;decide,by show AZ 0=e6;decide,?_,λx j=>?_,?_,λx j=>?_,?_⟩
  .show fit d.n=e6;rw[xk];exact F
  .show fit s.ep=e6;rw[k.ep];decide
  .show fit s.tx=e6;rw[xk];omega
  .show s.offs.length<=8;rw[k.offs];exact G
  .have:=k.ob x j;rw[xk];omega
  .show s.order.length<=256;omega
  .have:=k.ZS x j;rw[xk];omega
  .unfold uJ fq;simp
 obtain⟨B,C,u,D,M⟩:=axd k.A6 k.iz k.O8 k.c0 A rfl rfl k.ep rfl;rw[<-e,axC]at B C u D;refine⟨k.j9,k.offs,λx j=>by have:=k.ob x j;omega,D8 _,λx j=>(by cases j),λ_=>rfl,?_,λx j=>(by cases j),λx j=>(by cases j),k.ep,?_,λx j=>?_,B,?_,D,?_,λ_=>?_,λv N=>?_,k.Z0,k.jG⟩
 .show(E++my d s).length+0<=_;rw[e,D9,D9,az9];omega
 .show 0<=aPh.i64.wrap (s.tx+1)/\aPh.i64.wrap (s.tx+1)<=_;rw[z];omega
 .rcases axE.1 j with j|j
  .exact k.em x j
  .rw[e]at j;rcases axE.1 j with j|j
   .obtain⟨az,bd⟩:=k.bare x j;exact⟨(k.c0 x j).1,by unfold pq;rw[az,bd];exact⟨by decide,by decide⟩⟩
   .rw[azh.1 j];exact⟨A,by show s.offs.length<=_;rw[k.offs];omega,by show s.order.length<=_;omega⟩
 .show _=aPh.i64.wrap (s.tx+1);rw[z];exact C
 .rw[u];exact .inr k.offs
 .rw[u];show Bc s.offs d.c.ins.length=s.offs;unfold Bc;split
  .rename_i O;have:=k.offs;rw[O]at this⊢;rw[<-this];rfl
  .rfl
 .show _++[]=_;rw[axA,e,<-axC,M];exact k.oL v N
end
theorem ai9:∀a:List ed,ek a=(a.map λp=>tD p.1).flatMap aR
 | []=>rfl
 | p::a=>by
  have ih:=ai9 a;unfold ek at ih⊢;rw[ayW,ih,ajF,ayW];rfl
theorem axk(a:List ed):e2 a=ua (a.map (·.2)):=by unfold e2 ua;rw[azn];rfl
section
variable {h:I} {ow:cM} {id m:Nat} {b:At} {c:bk} {s:cT}
theorem axl(o:et c)(k:fJ h ow id m b c s)(hk:sj c s)(aG:id≠0)(aO:Fr h ow)(ay:iU h)(cJ:sn)(q6:pr cJ)(q:Int){i0 i1 i2:Nat}(nq:i0<h.n)(eh:i1<h.n)(c6:i2<h.n)(g0:h.get i0=.cells (ca cJ) 34 eN)(g1:h.get i1=.cells [.ag c.l.length (c.l.flatMap ao),.int gj c.p] 24 eN)(g2:h.get i2=.cells [.int gj q] 3 eN)
  (aZ:ow i0=(0,0)) (cH:ow i1=(0,0)) (bY:ow i2=(0,0)) (S:Nat->cT) (fl:S 0=s) (cs:Nat->List ak) (rR:∀v:Nat,(logAt cJ.logs (ct c.p c.l 1 v q)).length<=2^40)
  (aw:∀v:Nat,v<c.l.length->chgs ((logAt cJ.logs (ct c.p c.l 1 v q)).map λp=>tD p.1) ((logAt cJ.logs (ct c.p c.l 1 v q)).map (·.2))=eL (cs v)) (a6:∀v:Nat,v<c.l.length->eR c (S v) ((cs v).map λx=>((v:Int),x))=eL (S (v+1))) :
  au mP 37 [.ptr m 0,.agg (cx c.l c.p),.int gj c.part,.func (.func 35) [] [.ptr i0 0,.ptr i1 0,.ptr i2 0]] h (λr h'=>r=.int gj 0/\∃aa,fJ h' aa id m b c (S c.l.length)/\(∀q,q<h.n->aa q=ow q)/\Fr h' aa/\J h h' (λq=>(ow q).1=id)):=by
 refine a7 Tryz.func37 rfl ?_;have mo:(kB (cx c.l c.p)).cells=eL [.ag c.l.length (c.l.flatMap ao),.int gj c.p]:=rfl;have h9:kB [.ag c.l.length (c.l.flatMap ao),.int gj c.p]=.agg (cx c.l c.p):=rfl;have z0:((0:Int) !=0)=false:=rfl;obtain⟨H,hH,bl,gt,hx⟩:=bU h (.cells [.ag c.l.length (c.l.flatMap ao),.int gj c.p] 24 eN);simp only[ae,ds,AT,al,mo,<-hH,gt,h9];clear hH;refine bE (N6 c.l c.p o.ok H (ay.ai bl)) ?_;have IV:(fo c.p c.l).length=c.l.length:=Fm o.ti;have rA:c.l.length<=24:=o.len;have ZD:=KA o;have av:J h H (λq=>(ow q).1=id):=bl.up;simp only[ae,ds,AT,al,d6,gt];refine aT.bG (α:=Nat×cM) (λy f h'=>f 0=.ptr m 0/\f 2=.int gj c.part/\f 3=.func (.func 35) [] [.ptr i0 0,.ptr i1 0,.ptr i2 0]/\f 9=.ag (fo c.p c.l).length (ax (fo c.p c.l))/\f 26=.ag c.l.length (c.l.flatMap ao)/\f 27=.int gj (c.l.length:Nat)/\f 28=.int gj (y.1:Nat)/\y.1<=c.l.length/\sj c (S y.1)/\fJ h' y.2 id m b c (S y.1)/\(∀q,q<h.n->y.2 q=ow q)/\Fr h' y.2/\J h h' (λq=>(ow q).1=id)) (λy=>c.l.length-y.1) (0,ow)
  ⟨rfl,rfl,rfl,rfl,rfl,rfl,rfl,D8 _,by rw[fl];exact hk,by rw[fl];exact k.aY bl,λ_ _=>rfl,λq C=>aO q (by omega),av⟩ ?_
 rintro⟨i,T⟩ f h1 ⟨E,D,M,F,z,u,a,hi,CT,PS,yj,PT,bx⟩
 simp only at a hi CT PS yj PT;refine wpS ?_;by_cases aC:i<c.l.length;rotate_left
 .have ba:=dY i c.l.length;have DW:i=c.l.length:=by omega
  subst DW;simp only[ae,ds,u,a,ba,aJ];exact ar ⟨rfl,T,PS,yj,PT,bx⟩
 have ba:=dK i c.l.length;have l8:=km aC (by omega);have X:=a6 i aC;have AO:=aw i aC;obtain⟨x,af⟩:∃x,c.l[i]?=eL x:=⟨_,Jt aC⟩;obtain⟨fO,qG⟩:=Hr (kk:=.i64) af;have ld:cw (eL (eL 6)) (eL (ao x++fO))=eL (.agg (ao x)):=j1 (lp x);have jP:(kB (ao x)).cells=eL (ao x):=rfl;have Hs:bD (eL 6) (aP.cells [kA gj 0,.ah,.int gj 0,.int gj 0,.ah,.int gj 0] 68 eN) 0 (ao x)=eL (.cells (ao x) 68 eN):=by
  obtain⟨c0,aO,⟨o,q,aQ⟩,n⟩:=x;rfl
 have CU:i<(fo c.p c.l).length:=by omega
 have HM:=My CU kE;have eE:c.ins.contains (i:Int)=fr->((fo c.p c.l)[i]'CU≠c.part\/x.kind=5)->S (i+1)=S i:=λh1 ad=>by
  have bQ:c.c0 i=none:=by
   cases bQ:c.c0 i with
   | none=>rfl
   | some K=>
    obtain⟨y,bg,p4⟩:=YG bQ;rw[af]at bg;obtain rfl:=Option.some.inj bg;have Cl:=YF p4;rcases ad with ad|ad
    .unfold bk.c0 bk.P at bQ;rw[Jt CU,gQ (λe=>ad (Option.some.inj e))]at bQ;cases bQ
    .omega
  cases dh:cs i with
  | nil=>rw[dh]at X;exact(Option.some.inj X).symm
  | cons y ys=>
   rw[dh,ajF]at X;have:=(ZX X).2.1;simp only[ayw]at this;rw[Sy h1 bQ]at this;cases this
 simp only[ae,ds,reduceCtorEq,al,E,z,u,a,ba,qG,ld,jP,Hs];obtain⟨bZ,bN,Ba,B4,_⟩:=bU h1 (.cells (ao x) 68 eN);have N:J h bZ (λq=>(ow q).1=id):=bx.trans Ba λ_ _ e=>e.elim;have F2:=PS.aY Ba;have o2:Fr bZ T:=λq C=>PT q (UN Ba.n C);have y7:cI (aP.cells (ao x) 68 eN) 0=eL (ao x):=rfl;have hX:cw (eL eN) (eL (ao x))=eL (.int gj x.kind):=rfl;rw[<-bN];clear bN;refine bE (Yt o F2 CT) ?_;simp only[ae,ds];refine bE (ls c.ins i (by omega) bZ) ?_;have A8:=ay.ai N;have bP:∀j,ow j=(0,0)->¬(ow j).1=id:=λj aV U=>by rw[aV]at U;exact aG U.symm
 have oS:=aiq o A8 cJ q6 q (i:Int) (show i0<bZ.n from IS nq N.n) (IS eh N.n) (IS c6 N.n) ((N.get i0 nq (bP _ aZ)).trans g0) ((N.get i1 eh (bP _ cH)).trans g1) ((N.get i2 c6 (bP _ bY)).trans g2);have PU:=rR i;obtain⟨Bn,Z1⟩:∃y,y=ct c.p c.l 1 (i:Int) q:=⟨_,rfl⟩;rw[<-Z1]at oS AO PU;obtain⟨A,mT⟩:∃y,y=logAt cJ.logs Bn:=⟨_,rfl⟩;rw[<-mT]at oS AO PU;have Py:(kB (cq (Bn,A))).cells=eL [.int gj Bn,.ag A.length (ek A),.ag A.length (e2 A)]:=rfl;have Pz:bD (eL 3) (aP.cells [kA gj 0,.ah,.ah] 90 eN) 0 [.int gj Bn,.ag A.length (ek A),.ag A.length (e2 A)]=eL (.cells [.int gj Bn,.ag A.length (ek A),.ag A.length (e2 A)] 90 eN):=rfl;obtain⟨L,fL⟩:∃y,y=cs i:=⟨_,rfl⟩;rw[<-fL]at X AO;have aA:L.length<=2^40:=by
  have:=ahR _ _ _ AO;rw[ajD]at this;omega
 have Bb:∀U:I,Pure mP 81 [.ag A.length (ek A),.ag A.length (e2 A)] U (.tuple [.ag L.length (L.flatMap aq),.int gj 0]):=λU=>by
  have:=ahT (A.map λp=>tD p.1) (A.map (·.2)) U (by rw[ajD];omega) (by rw[ajD];omega);rw[AO,ajD,ajD,<-ai9,<-axk]at this;exact this
 obtain⟨PA,b7⟩:∃b,b=c.ins.contains (i:Int):=⟨_,rfl⟩;rw[<-b7];rw[<-b7]at eE;cases PA
 .have jl:(!false)=true:=rfl;by_cases aX:(fo c.p c.l)[i]'CU=c.part;rotate_left
  .have bI:((fo c.p c.l)[i]'CU !=c.part)=true:=(by simpa using aX);have AM:=eE rfl (.inl aX);simp only[ae,ds,reduceCtorEq,al,D,F,a,HM,jl,bI,l8];exact ar ⟨(i+1,T),⟨E,D,M,F,z,u,rfl,aC,by rw[AM];exact CT,by rw[AM];exact F2,yj,o2,N⟩,by simp only;omega⟩
  have bI:((fo c.p c.l)[i]'CU !=c.part)=false:=by simpa using aX
  by_cases bV:x.kind=5
  .have c5:(x.kind==5)=true:=(by simpa using bV);have AM:=eE rfl (.inr bV);simp only[ae,ds,reduceCtorEq,al,D,F,a,HM,B4,y7,hX,jl,bI,c5,l8];exact ar ⟨(i+1,T),⟨E,D,M,F,z,u,rfl,aC,by rw[AM];exact CT,by rw[AM];exact F2,yj,o2,N⟩,by simp only;omega⟩
  have c5:(x.kind==5)=false:=by simpa using bV
  simp only[ae,ds,al,D,M,F,HM,B4,y7,hX,jl,bI,c5];refine bE oS ?_;simp only[ae,ds,AT,By,al,Py,Pz];obtain⟨hb,gW,Y,PV,_⟩:=bU bZ (.cells [.int gj Bn,.ag A.length (ek A),.ag A.length (e2 A)] 90 eN);have k3:=N.trans Y λ_ _ e=>e.elim;have F3:=F2.aY Y;have yO:Fr hb T:=λq C=>o2 q (UN Y.n C);have iS:∀q,q<h.n->T q=ow q:=yj;rw[<-gW];clear gW;refine bE (Bb hb) ?_;simp only[ae,ds,rl];refine aT.bG (α:=Nat×cT×cM) (λy f h'=>f 0=.ptr m 0/\f 2=.int gj c.part/\f 3=.func (.func 35) [] [.ptr i0 0,.ptr i1 0,.ptr i2 0]/\f 9=.ag (fo c.p c.l).length (ax (fo c.p c.l))/\f 11=.int gj (i:Nat)/\f 13=.bool fr/\f 26=.ag c.l.length (c.l.flatMap ao)/\f 27=.int gj (c.l.length:Nat)/\f 28=.int gj (i:Nat)/\f 66=.ag L.length (L.flatMap aq)/\f 67=.int gj (L.length:Nat)/\f 68=.int gj (y.1:Nat)/\y.1<=L.length/\eR c (S i) ((L.map λx=>((i:Int),x)).take y.1)=eL y.2.1/\sj c y.2.1/\fJ h' y.2.2 id m b c y.2.1/\(∀q,q<h.n->y.2.2 q=ow q)/\Fr h' y.2.2/\J h h' (λq=>(ow q).1=id)) (λy=>L.length-y.1) (0,S i,T)
   ⟨E,D,M,F,rfl,rfl,z,u,a,rfl,rfl,rfl,D8 _,rfl,CT,F3,iS,yO,k3⟩ ?_
  clear E D M F z u a F3 yO k3 iS PV Y oS
  rintro⟨j,D2,eT⟩ f aD ⟨E,D,M,F,O,Q,z,u,a,R,G,B,aV,Z,xC,Bo,mK,Bp,cg⟩
  simp only at B aV Z xC Bo mK Bp;refine wpS ?_;by_cases lr:j<L.length;rotate_left
  .have Bq:=dY j L.length;have bM:D2=S (i+1):=by
    rw[ajE (by rw[ajD];omega)]at Z;exact Option.some.inj (Z.symm.trans X)
   subst bM;simp only[ae,ds,reduceCtorEq,a,G,B,Bq,l8];exact ar ⟨(i+1,eT),⟨E,D,M,F,z,u,rfl,aC,xC,Bo,mK,Bp,cg⟩,by simp only;omega⟩
  have Bq:=dK j L.length;have wu:=km lr (by omega);have eg:hC mP 52 (.ag L.length (L.flatMap aq)) (.int gj (j:Int))=eL (.at (aq L[j]++(L.drop (j+1)).flatMap aq)):=r0 jo lr J7;have r1:=EQ X (k:=j) (by rw[ajD];exact lr) Z;rw[aBr]at r1;obtain⟨_,W,vo⟩:=r1;simp only[ayw]at W vo;generalize L[j]=d at eg W vo;have il:∀q,cw (eL (eL 5)) (eL (aq d++q))=eL (.agg (aq d)):=λq=>j1 (jo _);have cc:(kB (aq d)).cells=eL (aq d):=rfl;have Z2:bD (eL 5) (aP.cells [kA gj 0,.int gj 0,.int gj 0,.int gj 0,.bool fr] 110 eN) 0 (aq d)=eL (.cells (aq d) 110 eN):=rfl;obtain⟨lJ,jU,vg,Si,_⟩:=bU aD (.cells (aq d) 110 eN);have EW:cI (aP.cells (aq d) 110 eN) 0=eL (aq d):=rfl;have UB:cw (eL eN) (eL (aq d))=eL (.int gj d.key):=rfl;have UC:(if 5<=(aq d).length then eL (kB (ay5 5 (aq d)))else eN)=eL (.agg (aq d)):=rfl;have PW:cw (eL (eL 5)) (eL (aq d))=eL (.agg (aq d)):=rfl;simp only[ae,ds,reduceCtorEq,al,E,O,Q,R,G,B,Bq,eg,il,cc,Z2];rw[<-jU];clear jU;have PX:=Bo.aY vg;have PY:Fr lJ eT:=λq C=>Bp q (UN vg.n C);simp only[ae,ds,UC];refine cp (OK o PX xC PY aG i d W) λr bV ⟨hN,eH,PZ,Hi,P0,gv⟩=>?_;subst hN;have P1:J h bV (λq=>(ow q).1=id):=(cg.trans vg λ_ _ e=>e.elim).trans gv λq C U=>by rw[mK q C]at U;exact U
  simp only[ae,ds,B,wu];exact ar ⟨(j+1,_,eH),⟨E,D,M,F,O,Q,z,u,a,R,G,rfl,lr,vo,aiY xC i d,PZ,λq C=>(Hi q (by have:=cg.n;have:=vg.n;omega)).trans (mK q C),P0,P1⟩,by simp only;omega⟩
 .have jl:(!true)=false:=rfl;simp only[ae,ds,M,jl];refine bE oS ?_;simp only[ae,ds,AT,By,al,Py,Pz];obtain⟨hb,gW,Y,PV,_⟩:=bU bZ (.cells [.int gj Bn,.ag A.length (ek A),.ag A.length (e2 A)] 90 eN);have k3:=N.trans Y λ_ _ e=>e.elim;have F3:=F2.aY Y;have yO:Fr hb T:=λq C=>o2 q (UN Y.n C);have iS:∀q,q<h.n->T q=ow q:=yj;rw[<-gW];clear gW;refine bE (Bb hb) ?_;simp only[ae,ds,rl];refine aT.bG (α:=Nat×cT×cM) (λy f h'=>f 0=.ptr m 0/\f 2=.int gj c.part/\f 3=.func (.func 35) [] [.ptr i0 0,.ptr i1 0,.ptr i2 0]/\f 9=.ag (fo c.p c.l).length (ax (fo c.p c.l))/\f 11=.int gj (i:Nat)/\f 13=.bool e6/\f 26=.ag c.l.length (c.l.flatMap ao)/\f 27=.int gj (c.l.length:Nat)/\f 28=.int gj (i:Nat)/\f 66=.ag L.length (L.flatMap aq)/\f 67=.int gj (L.length:Nat)/\f 68=.int gj (y.1:Nat)/\y.1<=L.length/\eR c (S i) ((L.map λx=>((i:Int),x)).take y.1)=eL y.2.1/\sj c y.2.1/\fJ h' y.2.2 id m b c y.2.1/\(∀q,q<h.n->y.2.2 q=ow q)/\Fr h' y.2.2/\J h h' (λq=>(ow q).1=id)) (λy=>L.length-y.1) (0,S i,T)
   ⟨E,D,M,F,rfl,rfl,z,u,a,rfl,rfl,rfl,D8 _,rfl,CT,F3,iS,yO,k3⟩ ?_
  clear E D M F z u a F3 yO k3 iS PV Y oS
  rintro⟨j,D2,eT⟩ f aD ⟨E,D,M,F,O,Q,z,u,a,R,G,B,aV,Z,xC,Bo,mK,Bp,cg⟩
  simp only at B aV Z xC Bo mK Bp;refine wpS ?_;by_cases lr:j<L.length;rotate_left
  .have Bq:=dY j L.length;have bM:D2=S (i+1):=by
    rw[ajE (by rw[ajD];omega)]at Z;exact Option.some.inj (Z.symm.trans X)
   subst bM;simp only[ae,ds,reduceCtorEq,a,G,B,Bq,l8];exact ar ⟨(i+1,eT),⟨E,D,M,F,z,u,rfl,aC,xC,Bo,mK,Bp,cg⟩,by simp only;omega⟩
  have Bq:=dK j L.length;have wu:=km lr (by omega);have eg:hC mP 52 (.ag L.length (L.flatMap aq)) (.int gj (j:Int))=eL (.at (aq L[j]++(L.drop (j+1)).flatMap aq)):=r0 jo lr J7;have r1:=EQ X (k:=j) (by rw[ajD];exact lr) Z;rw[aBr]at r1;obtain⟨_,W,vo⟩:=r1;simp only[ayw]at W vo;generalize L[j]=d at eg W vo;have il:∀q,cw (eL (eL 5)) (eL (aq d++q))=eL (.agg (aq d)):=λq=>j1 (jo _);have cc:(kB (aq d)).cells=eL (aq d):=rfl;have Z2:bD (eL 5) (aP.cells [kA gj 0,.int gj 0,.int gj 0,.int gj 0,.bool fr] 110 eN) 0 (aq d)=eL (.cells (aq d) 110 eN):=rfl;obtain⟨lJ,jU,vg,Si,_⟩:=bU aD (.cells (aq d) 110 eN);have EW:cI (aP.cells (aq d) 110 eN) 0=eL (aq d):=rfl;have UB:cw (eL eN) (eL (aq d))=eL (.int gj d.key):=rfl;have UC:(if 5<=(aq d).length then eL (kB (ay5 5 (aq d)))else eN)=eL (.agg (aq d)):=rfl;have PW:cw (eL (eL 5)) (eL (aq d))=eL (.agg (aq d)):=rfl;simp only[ae,ds,al,Q,R,G,B,Bq,eg,il,cc,Z2];rw[<-jU];clear jU;have x5:d.key=c.part:=by
   rw[HO b7.symm]at W;split at W
   .rename_i U;rw[U];rfl
   .cases W
  have iA:(d.key !=c.part)=false:=by simpa using x5
  have PX:=Bo.aY vg;have PY:Fr lJ eT:=λq C=>Bp q (UN vg.n C);simp only[ae,ds,reduceCtorEq,al,E,D,O,Si,EW,UB,PW,iA];refine cp (OK o PX xC PY aG i d W) λr bV ⟨hN,eH,PZ,Hi,P0,gv⟩=>?_;subst hN;have P1:J h bV (λq=>(ow q).1=id):=(cg.trans vg λ_ _ e=>e.elim).trans gv λq C U=>by rw[mK q C]at U;exact U
  simp only[ae,ds,B,wu];exact ar ⟨(j+1,_,eH),⟨E,D,M,F,O,Q,z,u,a,R,G,rfl,lr,vo,aiY xC i d,PZ,λq C=>(Hi q (by have:=cg.n;have:=vg.n;omega)).trans (mK q C),P0,P1⟩,by simp only;omega⟩
end
theorem axn(id:Nat)(l:List bC)(p n:Int)(z:jE l)(i:sn)(q6:pr i)(h:I)(ay:iU h)(B:cM)(f:Fr h B)(aG:id≠0)(Y:(qx i.tasks n).offs=[]\/(qx i.tasks n).offs.length=(oG p l (fp p l n).1).length)
  (j:sr l p n=0) (S:Nat->cT) (fl:S 0=cT.new (hz l p n).c) (cs:Nat->List ak) (rR:∀v:Nat,(logAt i.logs (ct p l 1 v (fp p l n).2)).length<=2^40)
  (aw:∀v:Nat,v<l.length->chgs ((logAt i.logs (ct p l 1 v (fp p l n).2)).map λp=>tD p.1) ((logAt i.logs (ct p l 1 v (fp p l n).2)).map (·.2))=eL (cs v)) (a6:∀v:Nat,v<l.length->eR (hz l p n).c (S v) ((cs v).map λx=>((v:Int),x))=eL (S (v+1))) :
  au mP 11 [.agg (cx l p),.int gj n,.agg (ca i)] h (λr h'=>J h h' (λq=>(B q).1=id)/\∃k w A,r=.tuple [.ptr k 0,.int gj 0]/\eP h' A id k w (hz l p n) { wv i (hz l p n)with m:=S l.length }/\(∀q,q<h.n->A q=B q)/\Fr h' A):=by
 have N:(cj p l).2=0:=Classical.byContradiction λU=>by
  unfold sr at j;rw[gr U]at j;exact U j
 have O:¬(fp p l n).1<0:=λU=>by
  unfold sr at j;rw[gQ (by omega),gr U]at j;cases j
 have Z:¬8<(oG p l (fp p l n).1).length:=λU=>by
  unfold sr at j;rw[gQ (by omega),gQ O,gr U]at j;cases j
 have Cd:kN ⟨l,p,(fp p l n).1⟩=0:=by
  unfold sr at j;rwa[gQ (by omega),gQ O,gQ Z]at j
 have mo:∀(l:List bC) (p:Int),(kB (cx l p)).cells=eL [.ag l.length (l.flatMap ao),.int gj p]:=λ_ _=>rfl;have Q:∀(l:List bC) (p:Int),kB [.ag l.length (l.flatMap ao),.int gj p]=.agg (cx l p):=λ_ _=>rfl;have yK:∀(l:List bC) (p:Int),bD (eL 2) (aP.cells [V.ah,.int gj 0] 24 eN) 0 [.ag l.length (l.flatMap ao),.int gj p]=eL (.cells [.ag l.length (l.flatMap ao),.int gj p] 24 eN):=λ_ _=>rfl;have Bd:(kB (ca i)).cells=eL (ca i):=rfl;refine a7 Tryz.func11 rfl ?_;obtain⟨H,hH⟩:∃x,x=(h.push (.cells [.ag l.length (l.flatMap ao),.int gj p] 24 eN)).push (.cells (ca i) 34 eN):=⟨_,rfl⟩;have gt:H.get h.n=.cells [.ag l.length (l.flatMap ao),.int gj p] 24 none:=by rw[hH,iZ (by rw[dn];omega)];exact ac
 have j9:H.get (h.n+1)=.cells (ca i) 34 none:=by rw[hH];exact ac
 have bl:J h H kR:=by rw[hH];exact(J.push _ _ _).bp _
 have hx:H.n=h.n+2:=by rw[hH];rfl
 have jq:=ay.ai bl;simp only[ae,ds,AT,al,mo,Bd,<-hH,gt,Q];clear hH;refine bE (XM l p z H jq) ?_;unfold DK;have ba:((0:Int) !=0)=false:=rfl;simp only[ae,ds,N];refine bE (Hj _ (l3 p l) H jq (Rd.ag _ _) (YJ z) (by have:=YK (p:=p) z;omega)) ?_;have kI:pI (l3 p l)=.tuple [.agg (cx l p),.int gj 0]:=by unfold pI;rw[XT z N]
 rw[kI];obtain⟨C,bN,k2,nQ,c6⟩:=bU H (.cells [.ag l.length (l.flatMap ao),.int gj p] 24 eN);have t2:=jq.ai k2;have c4:=bl.trans' k2;simp only[ae,ds,AT,al,mo,yK,<-bN,nQ,Q];clear bN;refine bE (Pe l p n z C t2) ?_;obtain⟨ZE,vh⟩:∃x,x=fp p l n:=⟨_,rfl⟩;rw[<-vh]at Y rR aw O Z Cd⊢;obtain⟨u,q⟩:=ZE;simp only at Y rR aw O Z Cd⊢;have yE:hz l p n=⟨⟨l,p,u⟩,n,q⟩:=by unfold hz;rw[<-vh]
 rw[yE]at fl a6;simp only at fl a6;obtain⟨hb,gW,k3,yM,n3⟩:=bU C (.cells [.int gj q] 3 eN);have t3:=t2.ai k3;have ez:=c4.trans' k3;have iu:=(k3.get H.n (by omega) (by simp[kR])).trans nQ;simp only[ae,ds,al];rw[<-gW];clear gW;have CR:=O;have bI:decide (u<0)=false:=hK CR;simp only[ae,ds,AT,al,bI,iu,Q];refine bE (X8 l p u z hb t3) ?_;have kt:=Z;have l1:decide ((8:Int)<(((oG p l u).length:Nat):Int))=false:=hK (by omega);simp only[ae,ds,AT,hI,al,l1,iu,Q];have f3:Fr hb B:=λq s=>f q (by omega);refine cp (agj id ⟨l,p,u⟩ z hb t3 B f3 aG) λr br ⟨D,aa⟩=>?_;have lR:=ez.trans' D;have n4:=D.n;have R:=(D.get H.n (by omega) (by simp[kR])).trans iu;have Be:=(D.get C.n (by omega) (by simp[kR])).trans yM;have uq:=(((k2.trans' k3).trans' D).get (h.n+1) (by omega) (by simp[kR])).trans j9;have t4:=t3.ai D;rcases aa with⟨aF,hE⟩|⟨aF,m1,dL,e5,hE,kH,FP,f4⟩
 .exact absurd Cd aF
 subst hE;have o:et ⟨l,p,u⟩:=⟨N,z⟩;have E:∀q,h.n<=q->q<hb.n->e5 q=(0,0):=λq N ad=>(FP q ad).trans (f q N);have mT:=axl o kH (YD _) aG f4 t4 i q6 q (i0:=h.n+1) (i1:=H.n) (i2:=C.n) (by omega) (by omega) (by omega) uq R Be (E _ (by omega) (by omega)) (E _ (by omega) (by omega)) (E _ (by omega) (by omega)) S fl cs rR aw a6;have eD:∀x:Nat×Nat,x=(0,0)->¬x.1=id:=λx af U=>by rw[af]at U;exact aG U.symm
 simp only[ae,ds,AT,al,R,Q];refine cp mT λfO F ⟨jc,P2,av,Z3,aA,T⟩=>?_;subst jc;have Z4:J h F (λq=>(B q).1=id):=lR.up.trans T λq s U=>by rw[<-FP q (by have:=ez.n;omega)];exact U
 have Uo:=T.n;have R:=(T.get H.n (by omega) (eD _ (E _ (by omega) (by omega)))).trans R;have Be:=(T.get C.n (by omega) (eD _ (E _ (by omega) (by omega)))).trans Be;have uq:=(T.get (h.n+1) (by omega) (eD _ (E _ (by omega) (by omega)))).trans uq;have qK:(if 3<=(ca i).length then eL (kB (ay5 3 (ca i)))else eN)=eL (.agg (ca i)):=rfl;have d0:cI (aP.cells (ca i) 34 eN) 0=eL (ca i):=rfl;have q7:cw (eL (eL 3)) (eL (ca i))=eL (.agg (ca i)):=rfl;simp only[ae,ds,al,uq,d0,q7];refine bE (ahz i q6 n F) ?_;obtain⟨a,FQ⟩:∃x,x=qx i.tasks n:=⟨_,rfl⟩;rw[<-FQ]at Y⊢;have ZF:(kB (cQ a)).cells=eL [.int gj a.t,.int gj a.ep,.int gj a.tx,.ag a.offs.length (ax a.offs),.ag a.ord.length (ax a.ord),.int gj (a.opn:Nat)]:=rfl;have ZG:bD (eL 6) (aP.cells [kA gj 0,.int gj 0,.int gj 0,.ah,.ah,.int gj 0] 57 eN) 0 [.int gj a.t,.int gj a.ep,.int gj a.tx,.ag a.offs.length (ax a.offs),.ag a.ord.length (ax a.ord),.int gj (a.opn:Nat)]=eL (.cells [.int gj a.t,.int gj a.ep,.int gj a.tx,.ag a.offs.length (ax a.offs),.ag a.ord.length (ax a.ord),.int gj (a.opn:Nat)] 57 eN):=rfl;obtain⟨G,im,dN,FR,u5⟩:=bU F (.cells [.int gj a.t,.int gj a.ep,.int gj a.tx,.ag a.offs.length (ax a.offs),.ag a.ord.length (ax a.ord),.int gj (a.opn:Nat)] 57 eN);obtain⟨cX,L,aB,ya,u4,DS,gv,M⟩:=air a.offs (oG p l u).length Y (by omega) G;have PB:=(gv.get F.n (by omega) (by simp[kR])).trans FR;have PC:=(M.get F.n (by omega) (by simp[kR])).trans FR;have FT:=((dN.trans' M).get H.n (by omega) (by simp[kR])).trans R;have PD:=((dN.trans' M).get C.n (by omega) (by simp[kR])).trans Be;have n7:=DS.lt G.n rfl;simp only[ae,ds,hI,al,ZF,ZG];rw[<-im];clear im;simp only[ae,ds,AT,By,al,ya,PB,u4,FT,PD,PC,aJ];obtain⟨W,s3⟩:∃x,x=rI (rI P2 G.n (id+1,2)) L.n (id+1,1):=⟨_,rfl⟩;have cH:W L.n=(id+1,1):=by rw[s3];exact Fy _ _ _
 have bY:W G.n=(id+1,2):=by rw[s3,sl (by omega)];exact Fy _ _ _
 have DT:∀q,q<F.n->W q=P2 q:=λq s=>by rw[s3,sl (by omega),sl (by omega)]
 have ZH:∀X,Fr (L.push X) W:=λX q s=>by rw[dn]at s;rw[s3,sl (by omega),sl (by omega)];exact aA q (by have:=M.n;omega)
 have cv:({ wv i (hz l p n)with m:=S l.length }:dQ)=⟨S l.length,a.ep,a.tx,Bc a.offs (oG p l u).length,[],[]⟩:=by unfold wv;rw[yE,<-FQ];rfl
 have hc:∀X,J L (L.push X) kR:=λX=>J.push _ _ _;refine ar ⟨(Z4.trans (dN.trans' M) λ_ _ e=>e.elim).trans (hc _) λ_ _ e=>e.elim,L.n,⟨m1,dL,.bh G.n 0 (oG p l u).length (oG p l u).length,.ah,.ah⟩,W,rfl,?_,λq s=>(DT q (by omega)).trans ((Z3 q (by omega)).trans (FP q (by omega))),ZH _⟩;rw[cv,yE];exact⟨Nat.lt_succ_self _,ac,cH,av.ai ((dN.trans' M).trans' (hc _)) (λ_ _ U=>by simp[kR]at U) DT,DS.aY (hc _),Own.ah _ _ _,Own.ah _ _ _,(λq s=>by
  have:G.n=q:=Option.some.inj (cD.1 s);rw[<-this];exact bY),(λq s=>by cases cD.1 s),(λq s=>by cases cD.1 s),V.noConfusion,V.noConfusion⟩
theorem axo(a:tk){i j:Operand}:cB mP .eql 45 i j (.agg [.int gj a.k,.int gj a.v,.int gj a.t]) (.agg [.int gj a.k,.int gj a.v,.int gj a.t])=eL (.bool e6):=by
 have h:gl [0,0,0] [.int gj a.k,.int gj a.v,.int gj a.t] [.int gj a.k,.int gj a.v,.int gj a.t]=eL true:=by
  simp[gl]
 rw[aoJ Wf h]
theorem axp(a:bz)(h:I)(aW:pq a):Pure mP 46 [.agg (bo a),.agg (bo a)] h (.bool e6):=by
 refine Pure.val (bf.bool _) ?_;refine a7 Tryz.func46 rfl ?_;have i:(kB (bo a)).cells=eL [.int gj a.kind,.int gj a.task,.int gj a.cN,.int gj a.gG,.int gj a.log,.int gj a.r.k,.int gj a.r.v,.int gj a.r.t,.bool a.del,.ag a.offs.length (ax a.offs),.ag a.order.length (ax a.order)]:=rfl;have q:∀H:I,Pure mP 16 [.ag a.offs.length (ax a.offs),.ag a.offs.length (ax a.offs)] H (.bool e6):=λH=>by
  have:=RM a.offs a.offs H (by have:=aW.1;omega);rwa[hO rfl]at this
 have s:∀H:I,Pure mP 16 [.ag a.order.length (ax a.order),.ag a.order.length (ax a.order)] H (.bool e6):=λH=>by
  have:=RM a.order a.order H (by have:=aW.2;omega);rwa[hO rfl]at this
 have db:∀j m,cB mP .eql 45 j m (.agg [.int gj a.r.k,.int gj a.r.v,.int gj a.r.t]) (.agg [.int gj a.r.k,.int gj a.r.v,.int gj a.r.t])=eL (.bool e6):=λj m=>axo a.r;have u:∀x:Int,(x==x)=true:=λx=>by simp
 have A:∀x:Bool,(x==x)=true:=λx=>by simp
 have z:∀x y:aP,J h ((h.push x).push y) kR:=λx y=>(J.push _ _ _).bp _;simp only[ae,ds,AT,By,al,i,db];refine bE (q _) ?_;simp only[ae,ds,AT,By,al];refine bE (s _) ?_;simp only[ae,ds,aJ];exact ar ⟨by simp,z _ _⟩
theorem axq(a:List bz)(D:∀x∈a,pq x)(H:a.length<=2^40)(h:I):Pure mP 20 [.ag a.length (a.flatMap bo),.ag a.length (a.flatMap bo)] h (.bool e6):=by
 refine Pure.val (bf.bool _) ?_;refine a7 Tryz.func20 rfl ?_;have L:((a.length:Int) !=(a.length:Int))=false:=by simp
 simp only[ae,ds,reduceCtorEq,ui];refine aT.bG (α:=Nat) (λi f h'=>f 0=.ag a.length (a.flatMap bo)/\f 1=.ag a.length (a.flatMap bo)/\f 5=.int gj (i:Nat)/\J h h' kR/\i<=a.length) (λi=>a.length-i) 0
  ⟨rfl,rfl,rfl,J.refl _ _,D8 _⟩ ?_
 rintro i f M ⟨j,z,m,A,hi⟩
 refine wpS ?_;by_cases s:i<a.length;rotate_left
 .have u:=dY i a.length;simp only[ae,ds,reduceCtorEq,ui,j,m,u,aJ];exact ar ⟨rfl,A⟩
 have u:=dK i a.length;have E:=km s (by omega);have B:hC mP 29 (.ag a.length (a.flatMap bo)) (.int gj (i:Int))=eL (.at (bo a[i]++(a.drop (i+1)).flatMap bo)):=r0 sZ s EP;have C:=D _ (ayz s);generalize a[i]=x at B C;have F:∀q,cw (eL (eL 11)) (eL (bo x++q))=eL (.agg (bo x)):=λq=>j1 (sZ _);have G:(!true)=false:=rfl;simp only[ae,ds,reduceCtorEq,ui,j,m,u];refine aT.cL kR [] (.q 0 (.q 1 (.q 2 (.q 3 (.q 4 (.q 5 (.q 6 (.q 7 (.c 8 (.q 9 .done)))))))))) ?_;simp only[ae,bw,ds,reduceCtorEq,al,j,z,m,B,F];refine gh rfl rfl rfl (λh' N=>axp x h' C) ?_;simp only[ae,bw,ds,m,G,E];exact ar ⟨i+1,⟨j,z,rfl,A,s⟩,by omega⟩
structure qA(h:I)(ow:cM)(nv l9:Nat)(l:List bC)(p:Int)(D:List V)(v:V)(M:List bz):Prop where
 gt:h.get nv=.cells [.ag l.length (l.flatMap ao),.int gj p] 24 eN
 HQ:nv<h.n
 Z5:ow nv=(0,0)
 j9:h.get l9=.cells D 34 eN
 A9:l9<h.n
 PO:ow l9=(0,0)
 bs:iU h
 PQ:qL h
 aO:Fr h ow
 lo:Own h 48 11 v (M.flatMap bo)
 lw:nT ow (0,0) (gF v)
 HE:∀q,aS v=eL q->q≠nv
 Su:∀q,aS v=eL q->q≠l9
section
variable {h h':I} {ow ow':cM} {nv l9:Nat} {l:List bC} {p:Int} {D:List V} {v:V} {M:List bz}
theorem qA.Jz(R:qA h ow nv l9 l p D v M){N:Nat->Prop}(k:J h h' N)(j:∀q,q<h.n->N q->ow q≠(0,0))(s:∀q,q<h.n->ow' q=ow q)(f:Fr h' ow'):qA h' ow' nv l9 l p D v M :=
 ⟨(
  k.get nv R.HQ λU=>j nv R.HQ U R.Z5).trans R.gt,IS R.HQ k.n,(s nv R.HQ).trans R.Z5,(k.get l9 R.A9 λU=>j l9 R.A9 U R.PO).trans R.j9,IS R.A9 k.n,(s l9 R.A9).trans R.PO,R.bs.ai k,by unfold qL;rw[k.glob];exact R.PQ,f,
  R.lo.ai k λq i U=>j q (R.lo.lt q i) U (R.lw q (cD.2 i)),R.lw.bH (λq i=>R.lo.lt q (cD.1 i)) s,R.HE,R.Su⟩
theorem qA.take(R:qA h ow nv l9 l p D v M){id:Nat}(i:id≠0)(ka:sq id h ow h' ow'):qA h' ow' nv l9 l p D v M :=
 R.Jz ka.ai (λq _ U e=>by rw[e]at U;simp at U;omega) ka.bH ka.aO
theorem qA.app{k:Nat}{w:mw}{d:fj}{s:dQ}(R:qA h ow nv l9 l p D v M)(E:eP h ow 1 k w d s)(X:List bz)(H:M.length+X.length<=2^36) :
  ∃z u,kd mP 29 29 v (.ag X.length (X.flatMap bo)) h=eL (z,u)/\eP u ow 1 k w d s/\qA u ow nv l9 l p D z (M++X):=by
 obtain⟨z,u,F,B,j,A⟩:=be (P:=mP) (t:=29) (tx:=29) (T:=⟨48,[.int gj 0,.int gj 0,.int gj 0,.int gj 0,.int gj 0,.int gj 0,.int gj 0,.int gj 0,.bool fr,.ah,.ah],11,120⟩) Dp (by decide) R.lo (JQ (n:=X.length) ui (ft sZ _) (by rw[List.all_flatMap];exact ayy.2 λx _=>ZB x)) (ft sZ _) (λq i=>by
  change q*11=_ at i;rw[ft sZ,ft sZ]at i;have:q=M.length+X.length:=by omega
  exact⟨by simp only[lim];omega,by simp only[lim];omega⟩)
 rw[<-ay3]at B;have G:∀q,bb v q->ow q=(0,0):=λq i=>R.lw q (cD.2 i);have C:=j.n;refine⟨z,u,F,E.ai j (λq _ i=>by rw[G q i];simp) λ_ _=>rfl,⟨(j.get nv R.HQ λU=>R.HE nv U rfl).trans R.gt,IS R.HQ C,R.Z5,(j.get l9 R.A9 λU=>R.Su l9 U rfl).trans R.j9,IS R.A9 C,R.PO,R.bs.ai j,by unfold qL;rw[j.glob];exact R.PQ,λq i=>R.aO q (by omega),B,λq i=>?_,λq i=>?_,λq i=>?_⟩⟩
 .rcases A with e|e
  .exact R.lw q (by rw[cD,<-e];exact cD.1 i)
  .exact R.aO q (e q (cD.1 i))
 .rcases A with e|e
  .exact R.HE q (by rw[<-e];exact i)
  .have:=e q i;have:=R.HQ;omega
 .rcases A with e|e
  .exact R.Su q (by rw[<-e];exact i)
  .have:=e q i;have:=R.A9;omega
end
theorem ajf{h:I}{a:cM}{id k:Nat}{w:mw}{d:fj}{s:dQ}(o:et d.c)(t:eP h a id k w d s)(i:sj d.c s.m)(v:Nat):Pure mP 19 [.ptr k 0,.int gj (v:Nat)] h (gU (zl d.c s.m v)):=by
 refine Pure.of (Xz _) ?_;have g:=t.get;unfold hy at g;have j:=FO k;refine a7 Tryz.func19 rfl ?_;simp only[ae,ds,AT,By,reduceCtorEq,al,j,g];refine bE (auk o t.ef i v) ?_;simp only[ae,ds,aJ];exact ar ⟨h,aK.refl _ _,J.refl _ _⟩
theorem ajg:∀Z:List (Int×ak),chgs ((Z.flatMap Bm).map λp=>tD p.1) ((Z.flatMap Bm).map (·.2))=eL (Z.map (·.2))
 | []=>rfl
 | z::Z=>by
  have ih:=ajg Z;rw[ayW,ay1,ay1];show chgs (tD (wo (uN z.2))::tD (wo (qM z.2))::_) (fr::z.2.del::_)=_;unfold chgs;rw[gQ (by simp[tD,wo,uN,qM])];show Option.map _ (chgs ((Z.flatMap Bm).map λp=>tD p.1) ((Z.flatMap Bm).map (·.2)))=_;rw[ih];rfl
theorem axr{Z:List (Int×ak)}{v:Int}(h:∀z∈Z,z.1=v):(Z.map (·.2)).map (λx=>(v,x))=Z:=by
 induction Z with
 | nil=>rfl
 | cons z Z ih=>
  rw[ajF,ajF,ih λy a=>h y (by simp[a]),<-h z (by simp)]
structure wx(i:Nat)(d:fj)(s:dQ):Prop where
 j9:yd d.c s.m
 offs:s.offs.length=d.c.ins.length
 ord:s.order.length<=i
 kept:s.kept.length<=i*2^24
 bare:pt s.kept
theorem wx.take{i:Nat}{d:fj}{s:dQ}(o:et d.c)(k:wx i d s)(j:sn)(n:Int):wx (i+1) d (oP d s j n).1:=by
 have up:wx (i+1) d s:=⟨k.j9,k.offs,by have:=k.ord;omega,UN k.kept (ay6 _ (aAQ i)),k.bare⟩;unfold oP;split
 .exact up
 .split
  .exact up
  .split
   .exact up
   .split
    .exact up
    .rename_i r _ _ _;have u:=aiT o k.j9 (d.c.ins.getD n.toNat 0) (tD r.1);have z:=k.kept;refine⟨YM o k.j9 _ _,?_,?_,?_,Sq k.bare (ZL _ _ _)⟩
     .show(s.offs.set n.toNat (_+1)).length=_;rw[aBa];exact k.offs
     .show(s.order++[n]).length<=_;rw[D9,az9];have:=k.ord;omega
     .show(s.kept++s0 d s (stepT d.c s.m _ (tD r.1)).1.2).length<=_;rw[D9];omega
theorem axs{i:Nat}{d:fj}{s:dQ}(k:wx i d s)(j:d.c.ins.length<=8)(hi:i<=40):∀x∈my d s,pq x:=λx a=>by
 unfold my at a;split at a
 .cases a
 .rcases axE.1 a with a|a
  .obtain⟨az,bd⟩:=k.bare x a;unfold pq;rw[az,bd];exact⟨by decide,by decide⟩
  .rw[azh.1 a];exact⟨by show s.offs.length<=_;rw[k.offs];omega,by show s.order.length<=_;have:=k.ord;omega⟩
theorem SC{d:fj}{s:dQ}:(my d s).length<=s.kept.length+1:=by
 unfold my;split
 .exact D8 _
 .rw[D9,az9];exact BY _
theorem axt(l:List bC)(p:Int)(a1:jE l)(n:Nat)(aF:n<256)(T:List Rec)(mT:T.length<=2^47)(ka:List Nat)(h:I)(ay:iU h)(hu:qL h) :
  au mP 3 [.agg (cx l p),.int .u8 (n:Nat),.ag T.length (T.flatMap aR),.ag ka.length (fN ka)] h (λr h'=>r=.bool e6):=by
 refine a7 Tryz.func3 rfl ?_;have mo:(kB (cx l p)).cells=eL [.ag l.length (l.flatMap ao),.int gj p]:=rfl;have h9:kB [.ag l.length (l.flatMap ao),.int gj p]=.agg (cx l p):=rfl;have HR:∀xo yo,cB mP .rem 5 xo yo (.int .u8 (n:Int)) (.int .u8 12)=eL (.int .u8 ((n % 12:Nat):Int)):=λxo yo=>by
  rw[BE (by decide),az5 (by omega)];rfl
 have P3:aPh.i64.wrap ((n % 12:Nat):Int)=((n % 12:Nat):Int):=kp _ (by omega);obtain⟨q,ab⟩:∃q,q=n % 12:=⟨_,rfl⟩;have cy:q<12:=by omega
 rw[<-ab]at HR P3;obtain⟨H,hH,bl,gt,hx⟩:=bU h (.cells [.ag l.length (l.flatMap ao),.int gj p] 24 eN);have jq:=ay.ai bl;have Sc:qL H:=by unfold qL;rw[bl.glob];exact hu
 simp only[ae,mo,<-hH];clear hH;refine bE (awE H jq Sc) ?_;simp only[ae,ds,AT,al,gt,h9];refine cp (awQ l p a1 H) λr h1 ⟨b,az,bx⟩=>?_;subst az;cases b with
 | false=>
  have p1:(!false)=true:=rfl;simp only[ae,ds,p1,aJ];exact ar rfl
 | true=>
 have p1:(!true)=false:=rfl;have CB:=(bx.get h.n (by omega) (by simp[kR])).trans gt;have t1:=jq.ai bx;have eh:=bx.n;simp only[ae,ds,AT,al,p1,CB,h9];refine cp (awT l p a1 T mT h1 t1) λv ad a2=>?_;have nQ:=(a2.ai.get h.n (by omega) (by simp[kR])).trans CB;have t2:=t1.ai a2.ai;have c6:=a2.ai.n;have Ks:qL ad:=by unfold qL;rw[a2.ai.glob,bx.glob];exact Sc
 have P4:=aiO l p T;have bp:=aiN l p T;have HS:=ZI (fh l p T) (by omega) (λx af=>by
  obtain⟨az,bd⟩:=P4 x af;unfold pq;rw[az,bd];exact⟨by decide,by decide⟩) ad a2.own Ks
 have P5:pr (toldOf (fh l p T)):=aiG _ (by omega);have hw:(qx (toldOf (fh l p T)).tasks (q:Int)).offs=[]:=by rw[aiR]
 have ie:=aiS l p T;have jt:=λo=>@pc.new l p T (hz l p (q:Int)) o rfl rfl;obtain⟨L,fL⟩:∃L,L=fh l p T:=⟨_,rfl⟩;rw[<-fL]at a2 P4 bp HS P5 hw ie jt;simp only[ae,ds];refine bE HS ?_;have Bd:(kB (ca (toldOf L))).cells=eL (ca (toldOf L)):=rfl;have qK:(if 3<=(ca (toldOf L)).length then eL (kB (ay5 3 (ca (toldOf L))))else eN)=eL (.agg (ca (toldOf L))):=rfl;have d0:cI (aP.cells (ca (toldOf L)) 34 eN) 0=eL (ca (toldOf L)):=rfl;have q7:cw (eL (eL 3)) (eL (ca (toldOf L)))=eL (.agg (ca (toldOf L))):=rfl;have PI:bD (eL 3) (aP.cells [V.ah,V.ah,.int gj 0] 34 eN) 0 (ca (toldOf L))=eL (.cells (ca (toldOf L)) 34 eN):=rfl;obtain⟨bZ,bN,k2,B2,cz⟩:=bU ad (.cells (ca (toldOf L)) 34 eN);have HT:=(k2.get h.n (by omega) (by simp[kR])).trans nQ;have UD:=t2.ai k2;have bu:qL bZ:=by unfold qL;rw[k2.glob];exact Ks
 simp only[ae,ds,al,Bd,PI];rw[<-bN];clear bN;simp only[ae,ds,AT,al,HT,h9,HR,mF lZ hP,P3,B2,d0,q7];refine cp (ais 1 l p (q:Int) a1 (toldOf L) P5 bZ UD (λ_=>(0,0)) (λ_ _=>rfl) (by decide) (.inl hw) (λv=>ie v _)) λr aD ⟨k3,a6⟩=>?_;have n3:=k3.n;rcases a6 with⟨bO,c2⟩|⟨s8,k,w,h6,c2,W,xA,UE⟩
 .subst c2;have jl:(sr l p (q:Int) !=0)=true:=by simpa using bO
  simp only[ae,ds,jl,aJ];exact ar rfl
 subst c2;obtain⟨o,kt⟩:=awU a1 s8;have Ip:=axh s8;have gg:(hz l p (q:Int)).n=(q:Int):=rfl;have w6:(hz l p (q:Int)).c.l=l:=rfl;have Ep:(hz l p (q:Int)).c.p=p:=rfl;obtain⟨d,a6⟩:∃d,d=hz l p (q:Int):=⟨_,rfl⟩;rw[<-a6]at W o kt Ip gg w6 Ep jt;have bA:Jf L:=by rw[fL];exact KL l p T
 have ne:=FO k;have z0:((0:Int) !=0)=false:=rfl;have FX:=(k3.get ad.n (by omega) (by simp[kR])).trans B2;have iu:=(k3.get h.n (by omega) (by simp[kR])).trans HT;have HU:qA aD h6 h.n ad.n l p (ca (toldOf L)) v (L++[]):=⟨iu,by omega,xA _ (by omega),FX,by omega,xA _ (by omega),UD.ai k3,by unfold qL;rw[k3.glob];exact bu,UE,by rw[axA];exact(a2.own.aY k2).aY k3,λq ab=>xA q (by have:=a2.own.lt q (cD.1 ab);omega),λq ab=>by have:=a2.new q ab;omega,λq ab=>by have:=a2.own.lt q ab;omega⟩;obtain⟨l9,P6⟩:∃l9,l9=ad.n:=⟨_,rfl⟩;obtain⟨nv,P7⟩:∃nv,nv=h.n:=⟨_,rfl⟩;rw[<-P6,<-P7]at HU;simp only[ae,ds,ne];rw[<-P6,<-P7];clear P6 P7 FX iu B2 HT nQ CB gt;have HV:0<=d.n/\d.n<=1048576:=by rw[gg];omega
 refine aT.V4 (X:=.exit 0) (λf h'=>f 1=.int .u8 (n:Nat)/\f 4=.ptr nv 0/\f 9=.bool e6/\f 12=.ptr k 0/\∃i s w C v E P,f 10=v/\i<=40/\eP h' C 1 k w d s/\pc l p T i d s E P/\qA h' C nv l9 l p (ca (toldOf L)) v (L++E)) ?_ ?_;rotate_left
 .rintro f br ⟨f1,Q,O,u,i,s,w,C,v,E,P,B,Bk,W,A,R⟩
  by_cases aU:s.order=[]
  case' pos=>
   have p8:=A.ord;have qO:=A.len;have pF:s.offs.length<=2^20:=by have:=A.offs;omega
   have UF:(L++E).length<=2^30:=(by rw[D9];omega);have rV:=SC (d:=d) (s:=s);have bM:=ii W A.bare pF (by omega) (by omega);obtain⟨v5,cX,hN,vw,D⟩:=R.app W (my d s) (by omega);rw[axC]at D;have yR:=ii vw A.bare pF (by omega) (by omega);have Jk:s.order=[]->my d s=[]:=λU=>gr U;have Jl:s.order≠[]->0<(my d s).length:=λU=>by
    rw[show my d s=s.kept++[fq d s]from gQ U,D9,az9];omega
   have fW:=Jk aU;have c5:decide ((0:Int)<(((my d s).length:Nat):Int))=false:=hK (by rw[fW];simp);simp only[ae,ds,B,u];refine bE bM ?_;simp only[ae,ds,u,hN];refine bE yR ?_;simp only[ae,ds,ui,c5];rw[fW,axA]at D;have bg:∃(i6:Nat) (G:dQ) (P8:mw) (D3:List bz),i6<=41/\G.order=[]/\eP cX C 1 k P8 d G/\pc l p T i6 d G D3 P/\qA cX C nv l9 l p (ca (toldOf L)) v5 (L++D3):=⟨i,s,w,E,by omega,aU,vw,A,D⟩;clear D vw bM yR hN
  case' neg=>
   have p8:=A.ord;have qO:=A.len;have pF:s.offs.length<=2^20:=by have:=A.offs;omega
   have UF:(L++E).length<=2^30:=(by rw[D9];omega);have rV:=SC (d:=d) (s:=s);have bM:=ii W A.bare pF (by omega) (by omega);obtain⟨v5,bV,hN,pO,B8⟩:=R.app W (my d s) (by omega);rw[axC]at B8;have yR:=ii pO A.bare pF (by omega) (by omega);have Jk:s.order=[]->my d s=[]:=λU=>gr U;have Jl:s.order≠[]->0<(my d s).length:=λU=>by
    rw[show my d s=s.kept++[fq d s]from gQ U,D9,az9];omega
   have c5:decide ((0:Int)<(((my d s).length:Nat):Int))=true:=hO (by have:=Jl aU;omega);simp only[ae,ds,B,u];refine bE bM ?_;simp only[ae,ds,u,hN];refine bE yR ?_;simp only[ae,ds,ui,u,c5];refine cp (ahZ pO) λr cX ⟨ya,vw,gv⟩=>?_;subst ya;have D:=B8.Jz (ow':=C) gv (λq _ U e=>by rw[U,pO.own]at e;simp at e) (λ_ _=>rfl) (λq ab=>B8.aO q (UN gv.n ab));simp only[ae];have bg:∃(i6:Nat) (G:dQ) (P8:mw) (D3:List bz),i6<=41/\G.order=[]/\eP cX C 1 k P8 d G/\pc l p T i6 d G D3 P/\qA cX C nv l9 l p (ca (toldOf L)) v5 (L++D3):=⟨i+1,_,_,E++my d s,by omega,rfl,vw,A.F1 HV kt (by omega) aU,D⟩;clear D vw gv B8 pO bM yR hN
  all_goals
   clear R W A;obtain⟨i6,G,P8,D3,cE,Jm,vw,Z,D⟩:=bg;have P9:(L++D3).length<=2^30:=by have:=Z.len;rw[D9];omega
   have Qa:∀x∈L++D3,ha x=e6/\pq x:=λx af=>by
    rcases axE.1 af with af|af
    .obtain⟨az,bd⟩:=P4 x af;exact⟨(bA x af).2,by unfold pq;rw[az,bd];exact⟨by decide,by decide⟩⟩
    .exact Z.em x af
   have Qb:=Z.A6;have tg:=Z.iz;have Qc:=Z.HC;have lr:=Z.ah9 Jm;have A5:=Z.oL;have yx:=Z.uO Jm;rw[<-fL]at Qb tg Qc lr A5;obtain⟨M,lb⟩:∃M,M=L++D3:=⟨_,rfl⟩;rw[<-lb]at D P9 Qa Qb tg Qc lr A5;have w0:=DZ D.lo ui (by decide) (ft sZ M);refine aT.bG (α:=Nat) (λj g h'=>g 1=.int .u8 (n:Nat)/\g 4=.ptr nv 0/\g 9=.bool e6/\g 10=v5/\g 12=.ptr k 0/\g 15=.int gj (j:Nat)/\j<=M.length/\h'=cX) (λj=>M.length-j) 0 ⟨f1,Q,O,rfl,u,rfl,D8 _,rfl⟩ ?_;clear f1 Q O B u
   rintro j f h' ⟨f1,Q,O,B,u,aZ,aV,bF⟩
   subst h';refine wpS ?_;by_cases D4:j<M.length
   .have Bq:=dK j M.length;have wu:=km D4 (by omega);obtain⟨O4,Y9,b0,_,xu⟩:=Y7 (kk:=.i64) sZ (by decide) EP D.lo D4;rw[Es,EP]at b0;rw[ayB]at b0 xu;have b0:p3 (eL 11) eN v5 (j:Int)=eL (.ptr O4 (j*11)):=b0;have af:=Qa _ (ayz D4);generalize M[j]=x at xu af;have ld:∀q,cw (eL (eL 11)) (eL (bo x++q))=eL (.agg (bo x)):=λq=>j1 (sZ _);have UG:=agx x cX D.PQ af.2;rw[af.1]at UG;have jl:(!true)=false:=rfl;simp only[ae,ds,al,EP,B,aZ,w0,Bq,b0,xu,ld];refine bE UG ?_;simp only[ae,ds,aZ,jl,wu];exact ar ⟨j+1,⟨f1,Q,O,B,u,rfl,D4,rfl⟩,by omega⟩
   have Bq:=dY j M.length;have bI:=ZI M P9 (λx af=>(Qa x af).2) cX D.lo D.PQ;have HW:pr (toldOf M):=aiG M P9;have I8:qx (toldOf M).tasks (q:Int)=mO (q:Int) (bB (en M) (q:Int)):=aiF M (q:Int);have Dy:∀x:Int,logAt (toldOf M).logs x=(en M).logs x:=λx=>Ss M x;simp only[ae,ds,B,aZ,w0,Bq];refine bE bI ?_;obtain⟨xD,Bs⟩:∃y,y=ca (toldOf M):=⟨_,rfl⟩;have Z6:(kB xD).cells=eL xD:=rfl;have pA:xD.length=3:=by rw[Bs];rfl
   have cG:(if 3<=xD.length then eL (kB (ay5 3 xD))else eN)=eL (.agg xD):=(by rw[Bs];rfl);have Qd:cI (aP.cells xD 34 eN) 0=eL xD:=rfl;have HX:cw (eL (eL 3)) (eL xD)=eL (.agg xD):=by rw[Bs];rfl
   have Z7:bD (eL 3) (aP.cells [V.ah,V.ah,.int gj 0] 34 eN) 0 xD=eL (.cells xD 34 eN):=(by rw[Bs];rfl);rw[<-Bs];obtain⟨u7,sm,j3,KN,n7⟩:=bU cX (.cells xD 34 eN);simp only[ae,ds,al,Q,Z6,Z7];rw[<-sm];clear sm;have SD:=D.Jz (ow':=C) j3 (λ_ _ U=>U.elim) (λ_ _=>rfl) (λq ab=>D.aO q (UN j3.n ab));have bQ:=vw.aY j3;have Bt:=D.aO cX.n (BY _);have FT:=SD.gt;obtain⟨S,bS,bT,bW⟩:=axa (N:=d.c.l.length) Z.jG Z.Z0;have bY:d.q=(fp p l (q:Int)).2:=by rw[a6];rfl
   have Z8:d.c.ins=oG p l (fp p l (q:Int)).1:=(by rw[a6];rfl);have HY:=axn 3 l p (q:Int) a1 (toldOf M) HW u7 SD.bs C SD.aO (by decide) (by rw[I8,<-Z8,<-gg];exact Qc) s8 S (by rw[<-a6];exact bS) (λv=>(P.filter λp=>decide (p.1=(v:Int))).map (·.2)) (λv=>by rw[Dy];exact UN (Zh M _) (by omega)) (λv aI=>by
    have h1:=A5 v (by rw[w6];exact aI);rw[yx,show pb [] (ct d.c.p d.c.l 1 v d.q)=[]from rfl,axA,w6,Ep,bY]at h1;rw[Dy,h1];exact ajg _) (λv aI=>by
    rw[<-a6,axr (λz bP=>by simpa using(ajA.1 bP).2)];exact bT v (by rw[w6];exact aI))
   rw[<-Bs,<-a6]at HY;have dq:({ wv (toldOf M) d with m:=S l.length }:dQ)=G:=by
    have az:wv (toldOf M) d=⟨cT.new d.c,(qx (toldOf M).tasks d.n).ep,(qx (toldOf M).tasks d.n).tx,Bc (qx (toldOf M).tasks d.n).offs d.c.ins.length,[],[]⟩:=rfl;rw[az,gg,I8,<-gg];show(⟨S l.length,(bB (en M) d.n).ep,(bB (en M) d.n).tx,Bc (bB (en M) d.n).offs d.c.ins.length,[],[]⟩:dQ)=G;have bd:S l.length=G.m:=by rw[<-w6];exact bW
    rw[bd,Qb,tg,lr,<-Z.ep]
    conv=>lhs;rw[<-yx]
    rw[<-Jm]
   rw[dq]at HY;have UH:=KN;simp only[ae,ds,AT,al,f1,FT,h9,HR,mF lZ hP,P3,UH,Qd,HX];refine cp HY λr b4 ⟨jO,Qe,wu,vt,DP,Bu,Jn,UI⟩=>?_;subst DP;have Jo:=bQ.ai jO (λq ab U=>by rw[U];exact⟨by decide,by decide⟩) Jn;have SE:=SD.Jz jO (λq _ U e=>by rw[e]at U;simp at U) Jn UI;have yS:cX.n<u7.n:=(by omega);have Qf:=(jO.get cX.n yS (by rw[Bt];simp)).trans KN;have HZ:=(Jn cX.n yS).trans Bt;have H0:=IS yS jO.n;have b1:=FO Qe;have Qg:G.offs.length<=2^20:=by have:=Z.offs;omega
   have dec:decide (G.offs=G.offs)=true:=hO rfl;have jl:(!true)=false:=rfl;obtain⟨tn,UJ⟩:∃y,y=cX.n:=⟨_,rfl⟩;simp only[ae,ds,b1];rw[<-UJ]at Qf HZ H0⊢;clear KN UH yS Bt n7 UJ j3 jO Jn UI;refine bE (Zu Bu Qg) ?_;simp only[ae,ds,u];refine bE (Zu Jo Qg) ?_;simp only[ae,ds];refine bE (RM G.offs G.offs b4 (by omega)) ?_;simp only[ae,ds,jl];have UK:=SE.gt;have iG:=Z.j9.aQ;have hll:=a1.1;refine aT.bG (α:=Nat) (λx g h'=>g 4=.ptr nv 0/\g 9=.bool e6/\g 12=.ptr k 0/\g 16=.ptr tn 0/\g 17=.ptr Qe 0/\g 19=.int gj (x:Nat)/\x<=l.length/\h'=b4) (λx=>l.length-x) 0 ⟨Q,O,u,rfl,rfl,rfl,D8 _,rfl⟩ ?_;clear f1 Q O B u aZ
   rintro x f h' ⟨Q,O,u,aA,aa,aB,af,bF⟩
   subst h';refine wpS ?_;by_cases pz:x<l.length
   .have AB:=dK x l.length;have b3:=km pz (by omega);have Ud:=auM Z.j9.wf x;have Ay:Pure mP 18 [gU (zl d.c G.m x),gU (zl d.c G.m x)] b4 (.bool e6):=by
     have:=aqJ (zl d.c G.m x) (zl d.c G.m x) b4 (by omega);rwa[hO rfl]at this
    simp only[ae,ds,AT,al,d6,Q,u,aB,UK,AB];refine bE (ajf o Jo iG x) ?_;simp only[ae,ds,aa,aB];refine bE (ajf o Bu iG x) ?_;simp only[ae,ds];refine bE Ay ?_;simp only[ae,ds,aB,jl,b3];exact ar ⟨x+1,⟨Q,O,u,aA,aa,rfl,pz,rfl⟩,by omega⟩
   have AB:=dY x l.length;simp only[ae,ds,AT,al,d6,Q,aB,UK,AB];have Qh:wx 0 d G:=⟨Z.j9,Z.offs,by rw[Jm];exact BY _,by rw[yx];exact D8 _,Z.bare⟩;refine aT.bG (α:=Nat×dQ×mw×mw×cM) (λy g h'=>g 9=.bool e6/\g 12=.ptr k 0/\g 16=.ptr tn 0/\g 17=.ptr Qe 0/\g 20=.int gj (y.1:Nat)/\y.1<=4/\eP h' y.2.2.2.2 1 k y.2.2.1 d y.2.1/\eP h' y.2.2.2.2 3 Qe y.2.2.2.1 d y.2.1/\wx y.1 d y.2.1/\h'.get tn=.cells xD 34 eN/\tn<h'.n/\y.2.2.2.2 tn=(0,0)/\iU h'/\Fr h' y.2.2.2.2) (λy=>4-y.1) (0,G,P8,wu,vt)
    ⟨O,u,aA,aa,rfl,D8 _,Jo,Bu,Qh,Qf,H0,HZ,SE.bs,SE.aO⟩ ?_
   clear Q O u aA aa aB Jo Bu Qh Qf H0 HZ SE
   rintro⟨z,s,w,wu,C⟩ f hv ⟨O,u,aA,aa,aG,bP,W,Bu,av,KN,yS,Bt,bs,aO⟩
   simp only at aG bP W Bu av Bt aO;refine wpS ?_;by_cases UL:z<4;rotate_left
   .have Z9:decide ((z:Int)<4)=false:=hK (by omega);simp only[ae,ds,O,aG,Z9,aJ];exact ar rfl
   have Z9:decide ((z:Int)<4)=true:=hO (by omega);have b7:=km UL (by omega);have s4:=av.take o (toldOf M) (z:Int);have oi:=av.kept;have p8:=av.ord;have cv:=Po o W av.j9 bs aO (by decide) (toldOf M) HW av.offs (by omega) (by omega) (z:Int);have yJ:=λ(o0:I) (D5:cM) (H2:eP o0 D5 3 Qe wu d s) (D6:iU o0) (b8:Fr o0 D5)=>Po o H2 av.j9 D6 b8 (by decide) (toldOf M) HW av.offs (by omega) (by omega) (z:Int);rw[<-Bs]at cv yJ;obtain⟨Y,oZ⟩:∃Y,Y=oP d s (toldOf M) (z:Int):=⟨_,rfl⟩;rw[<-oZ]at cv yJ s4;obtain⟨s1,dL,az⟩:=Y;simp only at cv yJ s4;have BU:(dL !=dL)=false:=by cases dL<;>rfl
   have Yq:(az !=az)=false:=(by simp);simp only[ae,ds,al,u,aA,aG,Z9,KN,Qd,HX];refine cp cv λr o0 ⟨cb,cf,D5,H2,wy⟩=>?_;subst cb;have SF:=Bu.ai wy.ai (λq ab U=>by omega) wy.bH;have Qi:=(wy.ai.get tn yS (by rw[Bt];simp)).trans KN;have D7:=IS yS wy.ai.n;have Jp:=(wy.bH tn yS).trans Bt;have D6:=bs.ai wy.ai;simp only[ae,ds,al,aA,aa,aG,Qi,Qd,HX];refine cp (yJ o0 D5 SF D6 wy.aO) λr Cr ⟨cg,ch,ck,Jq,wz⟩=>?_;subst cg;have Qj:=H2.ai wz.ai (λq ab U=>by omega) wz.bH;have cl:=(wz.ai.get tn D7 (by rw[Jp];simp)).trans Qi;have SG:=IS D7 wz.ai.n;have SH:=(wz.bH tn D7).trans Jp;have cm:=D6.ai wz.ai;have cH:=s4.kept;have cJ:=s4.ord;have Qk:s1.offs.length<=2^20:=by have:=s4.offs;omega
   have sb:=SC (d:=d) (s:=s1);simp only[ae,ds,al,u];refine bE (ii Qj s4.bare Qk (by omega) (by omega)) ?_;simp only[ae,ds,aa];refine bE (ii Jq s4.bare Qk (by omega) (by omega)) ?_;simp only[ae,ds];refine bE (axq (my d s1) (axs s4 kt (by omega)) (by omega) Cr) ?_;simp only[ae,ds,aG,jl,b7];exact ar ⟨(z+1,s1,cf,ch,ck),⟨O,u,aA,aa,rfl,UL,Qj,Jq,s4,cl,SG,SH,cm,wz.aO⟩,by simp only;omega⟩
 refine aT.bG (α:=Nat×dQ×mw×cM×V×List bz×List (Int×ak)) (λy f h'=>f 1=.int .u8 (n:Nat)/\f 3=.ag ka.length (fN ka)/\f 4=.ptr nv 0/\f 9=.bool e6/\f 10=y.2.2.2.2.1/\f 11=.ptr l9 0/\f 12=.ptr k 0/\f 14=.int gj (y.1:Nat)/\y.1<=ka.length/\y.1<=40/\eP h' y.2.2.2.1 1 k y.2.2.1 d y.2.1/\pc l p T y.1 d y.2.1 y.2.2.2.2.2.1 y.2.2.2.2.2.2/\qA h' y.2.2.2.1 nv l9 l p (ca (toldOf L)) y.2.2.2.2.1 (L++y.2.2.2.2.2.1)) (λy=>40-y.1) (0,wv (toldOf L) d,w,h6,v,[],[])
  ⟨rfl,rfl,rfl,rfl,rfl,rfl,rfl,rfl,D8 _,D8 _,W,jt o,HU⟩ ?_
 clear W HU xA UE k3 n3 w h6 a2 HS jt v
 rintro⟨i,s,w,C,v,E,P⟩ f br ⟨f1,f3,Q,O,B,aX,u,F,hi,Bk,W,A,R⟩
 simp only at B F hi Bk W A R;refine wpS ?_;have p8:=A.ord;have qO:=A.len;have pF:s.offs.length<=2^20:=by have:=A.offs;omega
 have UF:(L++E).length<=2^30:=by rw[D9];omega
 have rV:=SC (d:=d) (s:=s);have bM:=ii W A.bare pF (by omega) (by omega);obtain⟨v5,bV,hN,pO,B8⟩:=R.app W (my d s) (by omega);rw[axC]at B8;have yR:=ii pO A.bare pF (by omega) (by omega);have Jk:s.order=[]->my d s=[]:=λU=>gr U;have Jl:s.order≠[]->0<(my d s).length:=λU=>by
  rw[show my d s=s.kept++[fq d s]from gQ U,D9,az9];omega
 by_cases aC:i<ka.length/\i<40
 .have ba:=dK i ka.length;have bt:decide ((i:Int)<40)=true:=hO (by omega);have l8:=km aC.2 (by omega);obtain⟨JH,vD⟩:∃r,hC mP 26 (.ag ka.length (fN ka)) (.int gj (i:Int))=eL (.at (.int .u8 (ka[i]:Nat)::r)):=⟨_,Ab.JZ (λn:Nat=>kA .u8 (n:Int)) aC.1 Mn⟩;have CW:∀(b:Nat) xo yo,cB mP .rem 5 xo yo (.int .u8 (b:Int)) (.int .u8 5)=eL (.int .u8 ((b % 5:Nat):Int)):=λb xo yo=>by
   rw[BE (by decide),az5 (by omega)];rfl
  have Jr:∀(b:Nat) xo yo,cB mP .rem 5 xo yo (.int .u8 (b:Int)) (.int .u8 4)=eL (.int .u8 ((b % 4:Nat):Int)):=λb xo yo=>by
   rw[BE (by decide),az5 (by omega)];rfl
  generalize ka[i]=b at vD;have CW:=CW b;have Jr:=Jr b;have bm:aPh.i64.wrap ((b % 4:Nat):Int)=((b % 4:Nat):Int):=kp _ (by omega);obtain⟨m,hm⟩:∃m,m=b % 4:=⟨_,rfl⟩;obtain⟨m5,cr⟩:∃m,m=b % 5:=⟨_,rfl⟩;have cK:m<4:=by omega
  rw[<-hm]at Jr bm;rw[<-cr]at CW;by_cases cu:m5=4
  .have eb:((m5:Int)==4)=true:=(by rw[cu];rfl);by_cases aU:s.order=[]
   .have fW:=Jk aU;have c5:decide ((0:Int)<(((my d s).length:Nat):Int))=false:=hK (by rw[fW];simp);simp only[ae,ds,qH,al,f3,B,u,F,ba,bt,vD,CW,eb];refine bE bM ?_;simp only[ae,ds,u,hN];refine bE yR ?_;simp only[ae,ds,ui,F,c5,l8];rw[fW,axA]at B8;exact ar ⟨(i+1,s,w,C,v5,E,P),⟨f1,f3,Q,O,rfl,aX,u,rfl,aC.1,aC.2,pO,A.up,B8⟩,by simp only;omega⟩
   .have c5:decide ((0:Int)<(((my d s).length:Nat):Int))=true:=hO (by have:=Jl aU;omega);simp only[ae,ds,qH,al,f3,B,u,F,ba,bt,vD,CW,eb];refine bE bM ?_;simp only[ae,ds,u,hN];refine bE yR ?_;simp only[ae,ds,ui,u,c5];refine cp (ahZ pO) λr cX ⟨ya,vw,gv⟩=>?_;subst ya;have D:=B8.Jz (ow':=C) gv (λq _ U e=>by rw[U,pO.own]at e;simp at e) (λ_ _=>rfl) (λq ab=>B8.aO q (UN gv.n ab));simp only[ae,ds,F,l8];exact ar ⟨(i+1,_,_,C,v5,E++my d s,P),⟨f1,f3,Q,O,rfl,aX,u,rfl,aC.1,aC.2,vw,A.F1 HV kt (by omega) aU,D⟩,by simp only;omega⟩
  .have eb:((m5:Int)==4)=false:=(by simp;omega);have cv:=Po o W A.j9 R.bs R.aO (by decide) (toldOf L) P5 A.offs (by omega) (by omega) (m:Int);have B2:=R.j9;have eD:¬((C l9).1=1\/(C l9).1=1+1):=by rw[R.PO];simp
   simp only[ae,ds,qH,al,f3,F,ba,bt,vD,CW,eb];refine aT.cL (λq=>(C q).1=1\/(C q).1=1+1) [8] (.q 0 (.q 1 (.q 2 (.q 3 (.q 4 (.q 5 (.q 6 (.q 7 (.a 8 .done))))))))) ?_;simp only[ae,bw,e4,ds,AT,al,f3,aX,u,F,vD,Jr,mF lZ hP,bm,B2,d0,q7,eD];rcases axi A.offs A.ob (toldOf L) (n:=(m:Int)) (by omega)with⟨e,he⟩|⟨a,r,he,gB,yz,Jb,aH⟩
   .rw[he]at cv;refine cp cv λfO bV ⟨hN,r3,eH,pO,Bi⟩=>?_;subst hN;have D:=R.take (by decide) Bi;have lK:J br bV (λq=>(C q).1=1\/(C q).1=1+1):=Bi.ai;simp only[ae,bw,e4,ds,F,l8];exact ar ⟨(i+1,s,r3,eH,v,E,P),⟨f1,f3,Q,O,B,aX,u,rfl,aC.1,aC.2,pO,A.up,D⟩,by simp only;omega⟩
   .rw[he]at cv;refine cp cv λfO bV ⟨hN,r3,eH,pO,Bi⟩=>?_;subst hN;have D:=R.take (by decide) Bi;have lK:J br bV (λq=>(C q).1=1\/(C q).1=1+1):=Bi.ai;have aI:d.c.ins.contains (d.c.ins.getD (m:Int).toNat 0)=true:=by
     have UM:(m:Int).toNat<d.c.ins.length:=(by omega);rw[aCL,Jt UM];exact List.contains_iff_mem.2 (ayz UM)
    have ju:jW (tD r.1):=(by rw[fL]at aH;exact axj aH);obtain⟨ps,A2⟩:=A.step o HV Ip (by omega) (n:=(m:Int)) ⟨by omega,by omega⟩ aI ⟨yz,Jb⟩ ju;simp only[ae,bw,e4,ds,F,l8];exact ar ⟨(i+1,_,r3,eH,v,E,P++ps),⟨f1,f3,Q,O,B,aX,u,rfl,aC.1,aC.2,pO,A2,D⟩,by simp only;omega⟩
 have bn:∀b2:aj,b2 1=.int .u8 (n:Nat)->b2 4=.ptr nv 0->b2 9=.bool e6->b2 12=.ptr k 0->b2 10=v->(b2 1=.int .u8 (n:Nat)/\b2 4=.ptr nv 0/\b2 9=.bool e6/\b2 12=.ptr k 0/\∃i s w C v E P,b2 10=v/\i<=40/\eP br C 1 k w d s/\pc l p T i d s E P/\qA br C nv l9 l p (ca (toldOf L)) v (L++E)):=λb2 a b c e g=>⟨a,b,c,e,i,s,w,C,v,E,P,g,Bk,W,A,R⟩;by_cases cN:i<ka.length
 .have ba:=dK i ka.length;have bt:decide ((i:Int)<40)=false:=hK (by omega);simp only[ae,ds,qH,f3,F,ba,bt];exact ar ⟨rfl,bn _ f1 Q O u B⟩
 .have ba:=dY i ka.length;simp only[ae,ds,qH,f3,F,ba];exact ar ⟨rfl,bn _ f1 Q O u B⟩
end Go.Proofs.YtemdgidnhgcafaaGreatDoor.Pk
