/-
  What functions of the program do, told of abstract states. Conditions: as each theorem says.
-/
import Derived.Test.YtemdgidnhgcafaaGreatDoorNg
import Derived.Test.YtemdgidnhgcafaaGreatDoorNa
import Derived.Test.YtemdgidnhgcafaaGreatDoorAcD
import Derived.Test.YtemdgidnhgcafaaGreatDoorNd
open List renaming mem_cons->Iz,length_map->axT,length_filter_le->azK,mem_append->ayN,range->ajB,range_succ->aDw,foldl_append->aAU,length_nil->ayK,getElem?_eq_getElem->IA,mem_map->OF,getElem?_eq_some_iff->are,cons_append->azv,map_cons->axU,find?_cons->az0,find?->aGm,take_of_length_le->ajz,getElem_mem->ayM,mem_flatMap->aAK,drop_eq_getElem_cons->azg,all_eq_true->ayL,take_succ_eq_append_getElem->azi,all_append->aAI,take_length->azG,append_assoc->axV,mem_singleton->aAj
open Nat renaming le_trans->ajy,lt_of_lt_of_le->IS,reduceEqDiff->ds,reduceAdd->AS,le_refl->BY,reduceLeDiff->By,zero_le->Dy,mul_one->ajD
open Prod renaming fst->aAf
open Go.Proofs.Tryz renaming prog->mc,results40->aDv,results75->aEd,results34->aDx,func42->aGn,results42->aBi,results43->aGo,results15->aAt,results52->aGp,underlying3->aBd
open Int renaming toNat_natCast->ayQ,le_refl->az4,le_trans->aAT
open Option renaming map_some->azE
open Bool renaming eq_iff_iff->azm
open Go renaming IntKind->aOT
set_option linter.unusedVariables false
set_option linter.unusedSimpArgs false
set_option maxHeartbeats 8000000
set_option maxRecDepth 10000
namespace Go.Proofs.YtemdgidnhgcafaaGreatDoor.Pk
open Go Go.Proofs Go.Proofs.YtemdgidnhgcafaaGreatDoor.Ab
theorem Lo{M:Nat->Prop}{bF:Operand->V}{t:TypeId}{x y:Operand}{ok:Bool}:nM M (rF bF (.lookup t x y ok))=xC M (bF x):=rfl
theorem agl{cl:Nat}{k a:Int}:∀{l:Seen} {e:Nat×Int×Int},e∈fm cl l k a->e.2.2=a\/e∈l
 | [],e,h=>by simp[fm]at h;exact .inl (by rw[h])
 | x::r,e,h=>by
  unfold fm at h;split at h
  ·rcases Iz.1 h with h|h
   ·exact .inl (by rw[h])
   ·exact .inr (by simp[h])
  ·rcases Iz.1 h with h|h
   ·exact .inr (by simp[h])
   ·rcases agl h with h|h
    ·exact .inl h
    ·exact .inr (by simp[h])
theorem X8{cl:Nat}{l:Seen}{v t:Int}(h:∀e∈l,-1<=e.2.2/\e.2.2<=1099511627776):∀e∈hE cl l v t,-1<=e.2.2/\e.2.2<=1099511627776:=λe a=>by
 unfold hE at a;split at a
 ·exact h e a
 ·split at a
  ·exact h e a
  ·split at a
   ·exact h e a
   ·rename_i i j;rcases agl a with a|a
    ·omega
    ·exact h e a
theorem agm{l:Seen}(h:∀e∈l,-1<=e.2.2/\e.2.2<=1099511627776):-2^63<=leastOf l/\leastOf l<2^63:=by
 have j:∀(r:Seen),(∀e∈r,-1<=e.2.2/\e.2.2<=1099511627776)->-1<=r.foldr (λe m=>min e.2.2 m) (1099511627776:Int)/\r.foldr (λe m=>min e.2.2 m) (1099511627776:Int)<=1099511627776:=by
  intro r
  induction r with
  | nil=>intro _;simp
  | cons a r ih=>
   intro i;have s:=i a (by simp)
   have u:=ih λe q=>i e (by simp[q])
   simp only[List.foldr_cons];omega
 unfold leastOf;split
 ·omega
 ·have:=j l h;omega
theorem Rt(x:cd):x.2.verts.length+x.2.chgs.length<=sz x:=by unfold sz;omega
theorem agn{K:fc}{l:List an}(w:dX K l)(m:Int):(hY K m l).length<=1024:=by
 have a:(hY K m l).length=((l.filter (yX K m)).map na).length:=(aer K _).length_eq;rw[a,axT];exact ajy (azK _ _) w.len
theorem Ru{h h':I}{ow:cT}{id m:Nat}{b:At}{c:bw}{s:fs}(k:hf h ow id m b c s)(a:J h h' (λq=>cP ow id q)\/h'=h):wX h' (.ptr b.lR 0) s.ms b.lR b.uz c.ins.length:=by
 rcases a with a|rfl
 ·obtain⟨ay,i,j,u,z,A,B⟩:=k.marks;exact⟨ay,IS i a.n,IS j a.n,u,(a.get _ i (λU=>by unfold cP at U;rw[k.hF.1]at U;simp at U)).trans z,(a.get _ j (λU=>by unfold cP at U;rw[k.hF.2]at U;simp at U)).trans A,B⟩
 ·exact k.marks
theorem JL{c:bw}{u:Nat}:ho c 3000 (λx=>dE c u x):=λx i=>by
 show cK c 3000 x (dE c u x);unfold dE;cases m:c.ee u with
 | none=>exact(cK.refl i).mono (by omega)
 | some K=>
  have w:=i.wf u K m;have a:=NJ (c:=c) (u:=u) (l:=iv K (leastOf x.1.ms) (x.1.st u)) (λq j=>by rw[m]at j;cases j;exact w.iv _) x i
  have j:=JI c u (hY K (leastOf x.1.ms) (x.1.st u)) _ a.inv;have s:(hY K (leastOf x.1.ms) (x.1.st u)).length<=1024:=by
   have a:(hY K (leastOf x.1.ms) (x.1.st u)).length=((x.1.st u).filter (yX K (leastOf x.1.ms))).length:=by
    have:=(aer K (((x.1.st u).filter (yX K (leastOf x.1.ms))).map na)).length_eq;rw[axT]at this;exact this
   rw[a];exact ajy (azK _ _) w.len
  exact(a.trans j).mono (by omega)
theorem NX{a b c d:V}(aT:a.one=true)(ak:b.one=true)(av:c.one=true)(i:d.one=true):bA (some 4) (aR.cells [V.ag,V.ag,V.ag,V.ag] 101 none) 0 [a,b,c,d]=some (.cells [a,b,c,d] 101 none):=by
 have e:∀(p:Prop) [Decidable p] (x:Option aR),p->(if p then x else none)=x:=λp _ x j=>if_pos j
 exact e _ (some (.cells (lay [V.ag,V.ag,V.ag,V.ag] 0 [a,b,c,d]) 101 none)) ⟨rfl,by simp[aT,ak,av,i],by decide⟩
theorem X9{h a:I}{ow i:cT}{id st m:Nat}{b:At}{c:bw}{y:cd}{s u z A:V}(D:hn a i id st m b c y)(L:jW a i id st m y.2 s u z A){t0:Nat}(W:h.n<=t0)(j:i t0=(0,0))
  (E:∀q,q<h.n->i q=ow q) (M:J h a (λq=>(ow q).1=id)) (ob:aR) :
  ∃F G,aF (.tuple [.agg [s,u,z,A],.int .i64 0]) (a.set t0 ob) F G/\Steps id m b c h ow (y,0) F G:=by
 have B:J a (a.set t0 ob) (·=t0):=J.set _ _ _;have N:=D.sH B j;have O:jW (a.set t0 ob) i id st m y.2 s u z A:=L.ai B (λq _ U X _ _ e=>by subst U;rw[j]at e;exact D.nS (congrArg aAf e).symm) λ_ _=>rfl
 obtain⟨Q,C,R,S,T⟩:=N.told O;exact⟨_,Q,aF.tuple (aA.cons C (aA.refl _ _)),rfl,i,R,E,T,(M.trans B λq H U=>by omega).trans S λq H U=>by unfold cP at U;rw[E q H]at U;exact U.1⟩
theorem agp{l:List bz}{P:List Int}{part:Int}:∀{i:Nat} {y:Int},y∈ni l P part i->0<=y
 | 0,y,h=>by simp[ni]at h
 | i+1,y,h=>by
  unfold ni at h;rcases ayN.1 h with h|h
  ·exact agp h
  ·split at h
   ·simp at h;omega
   ·simp at h
theorem auQ{c:bw}{v:Int}(h:v∈c.ins):0<=v:=agp h
theorem auR{cl:Nat}{l:Seen}{v t:Int}(h:(hl l v t).2≠0):hE cl l v t=l:=by
 unfold hl at h;unfold hE;cases a:eu l v with
 | none=>rfl
 | some g=>
  rw[a]at h;simp only at h⊢;split
  ·rfl
  ·rename_i i;rw[if_neg i]at h;split at h<;>simp at h
section
variable {id m:Nat} {b:At} {c:bw}
theorem agq(o:fM c){s:fs}{h:I}{ow:cT}(k:hf h ow id m b c s)(hk:Az c s)(sU:∀u K,c.ee u=some K->dX K (s.st u))(f:Fr h ow)(aw:hB h)(aG:id≠0)(v:Int)(r:Rec) :
  au mc 40 [.ptr m 0,.int .i64 v,.agg (aK r)] h (Steps id m b c h ow (stepT c s v r)):=by
 refine au.cast ?_;refine bd Tryz.func40 rfl ?_;obtain⟨H,hH⟩:∃y,y=(h.push (.cells (aK r) 45 none)).push (.cells [.ag,.ag,.ag,.ag] 101 none):=⟨_,rfl⟩;have bo:J h H none_:=by rw[hH];exact(J.push _ _ _).bp _
 have ib:H.n=h.n+2:=by rw[hH];rfl
 have ji:H.get h.n=.cells (aK r) 45 none:=by rw[hH,iP (by rw[df];omega)];exact fv
 have gt:H.get (h.n+1)=.cells [.ag,.ag,.ag,.ag] 101 none:=by rw[hH];exact fv
 have xM:=k.ba bo;have AA:Fr H ow:=λq j=>f q (by omega)
 have ld:cJ (some (some 3)) (some (aK r))=some (.agg (aK r)):=rfl;have d0:cO (.cells (aK r) 45 none) 0=some (aK r):=rfl;simp only[ae,ds,reduceCtorEq,Qx];rw[<-hH];clear hH;refine bO (auO o xM hk v) ?_;cases cQ:c.ins.contains v
 ·have ht:stepT c s v r=((s,fR.none),6):=by unfold stepT;rw[if_pos cQ]
  rw[ht];simp only[ae,ds,AS,LK,ap2,Qx,Jq,gt,aP,aDv,iR,iG,fq,iQ];have c6:J H (H.set (h.n+1) (aR.cells [V.ag,V.ag,V.ag,V.ag] 101 none)) (λq=>q=h.n+1):=J.set _ _ _;have ah:=xM.ai (ow':=ow) c6 (λq _ U=>by subst U;rw[f _ (by omega)];exact λe=>aG e.symm) λ_ _=>rfl
  exact ar ⟨_,_,aF.tuple (aA.cons (aF.agg (aA.cons (aF.il _) (aA.cons (aF.il _) (aA.cons (aF.il _) (aA.cons (aF.il _) (aA.refl [] _)))))) (aA.refl _ _)),rfl,ow,ah,λ_ _=>rfl,λq j=>AA q j,bo.up.trans c6 λq j U=>by omega⟩
 ·obtain⟨ca,bP,k2,_,dd⟩:=b0 H (.cells [.ptr m 0,.ag,.ag,.ag,.ag,.int .i64 0] 163 none);have kk:=hn.start xM AA (aw.ai bo) aG;rw[<-bP]at kk;have H6:∀q,q<H.n->dF ow H.n (H.n+1) (id,5) q=ow q:=λq j=>Av j;have nT:=(k2.get h.n (by omega) (by simp[none_])).trans ji
  have pf:=(k2.get (h.n+1) (by omega) (by simp[none_])).trans gt
  have gx:=kk.eb.get;rw[vP]at gx;have xr:cO (.cells (aK r) 45 none) 2=some [.int .i64 r.t]:=rfl;have m1:(m=b.uz)=False:=eq_false λe=>by have S:=k.own;have X:=k.hF.2;rw[e,X]at S;simp at S
  have m2:(h.n=b.uz)=False:=eq_false λe=>by have S:=k.hF.2;rw[<-e,f _ (BY _)]at S;simp at S
  simp only[ae,ds,AS,By,reduceCtorEq,ap5,aqv];rw[<-bP];clear bP;generalize dF ow H.n (H.n+1) (id,5)=eh at kk H6;refine aS.cS (λq=>q=b.uz) [7] (.q 0 (.q 1 (.q 2 (.q 3 (.q 4 (.q 5 (.q 6 (.a 7 (.q 8 (.q 9 (.q 10 (.q 11 (.q 12 .done))))))))))))) ?_;simp only[ae,bt,fo,ds,AS,By,reduceCtorEq,F9,td,Gf,bR,gx,nT,xr,m1,m2];refine cA (XA ca _ s.ms _ _ _ kk.eb.marks v r.t) λq F ⟨ay,u0,qI⟩=>?_;subst ay;have ez:=kk.NW u0 qI;have rX:J ca F (λq=>q=b.uz):=qI;have n3:=qI.n;have m3:h.n+1≠b.uz:=λe=>by have S:=k.hF.2;rw[<-e,f _ (by omega)]at S;simp at S
  have nn:=(qI.get h.n (by omega) (λU=>m2.mp U)).trans nT
  have kQ:=(qI.get (h.n+1) (by omega) m3).trans pf
  have B3:∀q,q<h.n->eh q=ow q:=λq j=>H6 q (by omega)
  have Ya:eh h.n=(0,0):=(H6 _ (by omega)).trans (f _ (BY _))
  have xV:eh (h.n+1)=(0,0):=(H6 _ (by omega)).trans (f _ (by omega))
  have sJ:J h F (λq=>(ow q).1=id):=(bo.up.trans k2.up λ_ _ U=>U).trans qI λq j U=>by subst U;rw[k.hF.2]
  cases he:((hl s.ms v r.t).2 !=0);rotate_left
  ·have hr:(hl s.ms v r.t).2≠0:=by simpa using he
   have ht:stepT c s v r=(q5 v r (hl s.ms v r.t).2 (s,fR.none),0):=by unfold stepT;rw[if_neg (by rw[cQ];decide),if_pos hr]
   rw[ht];have fF:hE c.ins.length s.ms v r.t=s.ms:=auR hr;rw[fF]at ez;simp only[ae,bt,fo,ds,dM,he,nn,ld,d0];refine cA (G0 ez v r _ (Dy _)) λq T ⟨ay,e1,fL,cx⟩=>?_;subst ay;obtain⟨cq,cG,cY,c7,yA⟩:=cx.pX;have g4:=yA.get;have EY:=(fL.ai.get (h.n+1) (by omega) (λU=>by unfold cP at U;rw[xV]at U;exact aG U.1.symm)).trans kQ
   have EZ:bA (some 4) (aR.cells [V.ag,V.ag,V.ag,V.ag] 101 none) 0 [cq,cG,cY,c7]=some (.cells [cq,cG,cY,c7] 101 none):=NX (w4 yA.o).1 (w4 yA.v).1 (w4 yA.c).1 (w4 yA.d).1;simp only[ae,ds,AS,By,Ed,LK,Jq,g4,EY,EZ,aP,aDv,iR,iG,fq,iQ];exact ar (X9 cx yA (t0:=h.n+1) (by omega) ((fL.bD _ (by omega)).trans xV) (λq j=>(fL.bD q (by omega)).trans (B3 q j)) (sJ.trans fL.ai λq j U=>by unfold cP at U;rw[B3 q j]at U;exact U.1) _)
  ·have hr:¬(hl s.ms v r.t).2≠0:=by simpa using he
   obtain⟨M,oJ⟩:∃M:cd,M=({ s with ms:=hE c.ins.length s.ms v r.t },fR.none):=⟨_,rfl⟩;obtain⟨N,s3⟩:∃N:cd,N=(if(hl s.ms v r.t).1=true then l9 v [w1 c r.t] M else M):=⟨_,rfl⟩
   have ht:stepT c s v r=((ajB c.l.length).foldl (λx u=>dE c u x) (tl c 24 v r N),0):=by
    unfold stepT;rw[if_neg (by rw[cQ];decide),if_neg hr,s3,oJ]
   rw[ht];have i0:Inv c M:=by rw[oJ];exact⟨Dy _,sU⟩
   have z0:sz M=4000000:=by rw[oJ];simp[sz,fR.none]
   have AB:hn F eh id H.n m b c M:=by rw[oJ];exact ez
   have W:cK c 2 M N:=by
    rw[s3];split
    ·exact JI c v [w1 c r.t] M i0
    ·exact(cK.refl i0).mono (by omega)
   have lH:0<=v:=auQ (by simpa using cQ)
   cases zp:(hl s.ms v r.t).1
   ·have gu:N=M:=by rw[s3,zp];rfl
    rw[<-gu]at AB;obtain⟨T,NY⟩:∃T,T=F:=⟨_,rfl⟩;obtain⟨e1,NZ⟩:∃e1,e1=eh:=⟨_,rfl⟩;have cx:hn T e1 id H.n m b c N:=by rw[NY,NZ];exact AB
    have fL:gF id F eh T e1:=by rw[NY,NZ];exact gF.refl AB.aX
    simp only[ae,bt,fo,ds,dM,he,nn,ld,d0];rw[<-NY];refine cA (X6 o 24 v (by have:=o.len;omega) r T e1 N cx W.inv (by have:=W.sz;omega)) λq bM ⟨ay,eK,vb,dQ⟩=>?_
    subst ay;have E0:=dQ.eb.get;rw[vP]at E0;simp only[ae,ds,AS,reduceCtorEq,Je,km,pM,kH,E0];have G4:=fL.trans vb;have Y:=W.trans (JJ o.len 24 v r N W.inv);generalize tl c 24 v r N=D at dQ Y;have su:=o.len;refine aS.bI (α:=Nat×cT) (λy f h'=>f 0=.ptr m 0/\f 6=.ptr (h.n+1) 0/\f 8=.ptr H.n 0/\f 60=.int .i64 (c.l.length:Int)/\f 61=.int .i64 (y.1:Nat)/\y.1<=c.l.length /\
      gF id F eh h' y.2/\hn h' y.2 id H.n m b c ((ajB y.1).foldl (λx u=>dE c u x) D)/\cK c (3000*y.1) D ((ajB y.1).foldl (λx u=>dE c u x) D)) (λy=>c.l.length-y.1) (0,eK)
     ⟨rfl,rfl,rfl,rfl,rfl,Dy _,G4,dQ,cK.refl Y.inv⟩ ?_
    have N0:M.1.ms=hE c.ins.length s.ms v r.t:=by rw[oJ]
    clear s3 oJ ht
    rintro⟨t,G⟩ bU E ⟨f0,f6,Z,C,A,bB,L,z,B⟩
    simp only at A bB L z B;refine wpS ?_;by_cases aD:t<c.l.length
    ·have d1:=dV (a:=t) (b:=c.l.length) (by omega)
     have E1:=mQ aD (by omega)
     have eF:(ajB (t+1)).foldl (λx u=>dE c u x) D=dE c t ((ajB t).foldl (λx u=>dE c u x) D):=by rw[aDw,aAU];rfl
     generalize(ajB t).foldl (λx u=>dE c u x) D=i at eF z B;have AD:=z.eb.get;rw[vP]at AD;have cB:cP G id m=False:=eq_false λU=>by unfold cP at U;rw[z.eb.own]at U;simp at U
     have de:cP G id b.mp=False:=eq_false λU=>by unfold cP at U;rw[z.eb.nj]at U;simp at U
     have jj:=lookup_int (P:=mc) (ok:=false) (k:=(t:Int)) ut Qw z.eb.map;simp only[ae,ds,C,A,d1];cases Q:c.ee t with
     | none=>
      rw[z.eb.none t Q]at jj;have w6:nB mc 148 (.map b.mp) (.int .i64 (t:Int)) false E=some .dx:=jj;refine aS.cS (λq=>cP G id q) [14] (.q 0 (.q 1 (.q 2 (.q 3 (.q 4 (.q 5 (.q 6 (.q 7 (.q 8 (.q 9 (.q 10 (.q 11 (.c 12 (.c 13 (.a 14 .done))))))))))))))) ?_;simp only[ae,bt,fo,ds,AS,By,reduceCtorEq,F9,Ga,Gf,Gg,f0,Z,AD,cB,de,w6,Lo];refine fA rfl rfl rfl (λh' fe=>Nq h' _ _ _ _ _ (Ru z.eb fe)) ?_;simp only[fo];refine fA rfl rfl rfl (λh' fe=>af4 (leastOf i.1.ms) h') ?_;simp only[ae,bt,fo,ds];have yY:=JG z (t:Int) [] (by have S:=Y.sz;have X:=B.sz;have F:=W.sz;have T:=Rt i;simp only[ayK];omega)
      refine cA (au.args (aA.cons (aF.refl _ _) (aA.cons (aF.refl _ _) (aA.cons (aF.il E) (aA.refl [] E)))) yY) λq ko ⟨ay,yB,w7,k8⟩=>?_;subst ay;have N1:J E ko (λq=>cP G id q):=w7.ai;have bN:dE c t i=l9 (t:Int) [] i:=by unfold dE;rw[Q];simp[l9]
      rw[<-bN]at k8;have G5:=B.trans (JL (u:=t) i B.inv);simp only[ae,bt,fo,ds,A,E1];exact ar ⟨(t+1,yB),⟨f0,f6,Z,C,rfl,aD,L.trans w7,by have U:=k8;rw[<-eF]at U;exact U,by have U:cK c (3000*(t+1)) D (dE c t i):=G5.mono (by omega);rw[<-eF]at U;exact U⟩,by simp only;omega⟩
     | some K=>
      obtain⟨a,O,aT,iH,lE,lu,yy⟩:=z.at Q (IA aD);rw[aT]at jj;have w6:nB mc 148 (.map b.mp) (.int .i64 (t:Int)) false E=some (.ptr a 0):=jj;refine aS.cS (λq=>cP G id q) [13,14] (.q 0 (.q 1 (.q 2 (.q 3 (.q 4 (.q 5 (.q 6 (.q 7 (.q 8 (.q 9 (.q 10 (.q 11 (.c 12 (.e 13 (.a 14 .done) .stop)))))))))))))) ?_;simp only[ae,bt,fo,ds,AS,By,reduceCtorEq,F9,Ga,Gf,Gg,f0,Z,AD,cB,de,w6,Lo];refine fA rfl rfl rfl (λh' fe=>Nq h' _ _ _ _ _ (Ru z.eb fe)) ?_;simp only[ae,bt,fo,ds];have G6:-2^63<=leastOf i.1.ms/\leastOf i.1.ms<2^63:=by
       rw[B.ms,Y.ms,N0];exact agm (X8 hk.2)
      refine cA (aeJ iH (leastOf i.1.ms) G6) λq l1 ⟨fQ,JM,G7,E2,N2,Yb⟩=>?_;have N3:J E l1 (λq=>cP G id q):=E2.mono λq j=>by unfold cP;rw[lu q j];exact⟨rfl,by show 5<=10+t;omega⟩
      have cM:(hY K (leastOf i.1.ms) (i.1.st t)).length<=1024:=agn (iH.wf) _;obtain⟨b3,N4,yC⟩:=aF.own JM (n:=(hY K (leastOf i.1.ms) (i.1.st t)).length) (fJ qh _) (by decide)
      have N5:J E b3 (·∈O):=E2.trans yC λq j U=>by have:=(G7 q U).1;omega
      obtain⟨aq,E3,rX⟩:=yy b3 fQ _ N5 N2 (Yb.ai yC λq j U=>(G7 q U).2 j);have Yc:=NJ (c:=c) (u:=t) (l:=iv K (leastOf i.1.ms) (i.1.st t)) (λBk X=>by rw[Q]at X;cases X;exact(B.inv.wf t K Q).iv _) i B.inv
      have yY:=JG rX (t:Int) (hY K (leastOf i.1.ms) (i.1.st t)) (by have S:=Y.sz;have X:=B.sz;have F:=W.sz;have T:=Yc.sz;have bM:=Rt (ma t (iv K (leastOf i.1.ms) (i.1.st t)) i);omega)
      simp only[ae,bt,fo,ds,N3];refine cA (au.args (aA.cons (aF.refl _ _) (aA.cons (aF.refl _ _) (aA.cons N4 (aA.refl [] b3)))) yY) λax ko ⟨ay,yB,w7,k8⟩=>?_;subst ay;have E4:=E3.trans w7;have N1:J E ko (λq=>cP G id q):=E4.ai;have bN:dE c t i=l9 (t:Int) (hY K (leastOf i.1.ms) (i.1.st t)) (ma t (iv K (leastOf i.1.ms) (i.1.st t)) i):=by unfold dE;rw[Q]
      rw[<-bN]at k8;have G5:=B.trans (JL (u:=t) i B.inv);simp only[ae,bt,fo,ds,A,E1];exact ar ⟨(t+1,yB),⟨f0,f6,Z,C,rfl,aD,L.trans E4,by have U:=k8;rw[<-eF]at U;exact U,by have U:cK c (3000*(t+1)) D (dE c t i):=G5.mono (by omega);rw[<-eF]at U;exact U⟩,by simp only;omega⟩
    ·have d1:=eC (a:=t) (b:=c.l.length) (by omega)
     obtain rfl:t=c.l.length:=by omega
     obtain⟨cq,cG,cY,c7,R⟩:=z.pX;have g6:=R.get;have N6:=(L.ai.get (h.n+1) (by omega) (λU=>by unfold cP at U;rw[xV]at U;exact aG U.1.symm)).trans kQ
     have N7:bA (some 4) (aR.cells [V.ag,V.ag,V.ag,V.ag] 101 none) 0 [cq,cG,cY,c7]=some (.cells [cq,cG,cY,c7] 101 none):=NX (w4 R.o).1 (w4 R.v).1 (w4 R.c).1 (w4 R.d).1;simp only[ae,ds,AS,By,Ed,LK,Jq,f6,Z,C,A,d1,g6,N6,N7,aP,aDv,iR,iG,fq,iQ];exact ar (X9 z R (t0:=h.n+1) (by omega) ((L.bD _ (by omega)).trans xV) (λq j=>(L.bD q (by omega)).trans (B3 q j)) (sJ.trans L.ai λq j U=>by unfold cP at U;rw[B3 q j]at U;exact U.1) _)
   ·have gu:N=l9 v [w1 c r.t] M:=by rw[s3,zp];rfl
    have aJ:cO (.cells (aK r) 45 none) 2=some [.int .i64 r.t]:=rfl;have BX:=AB.eb.get;rw[vP]at BX;simp only[ae,bt,fo,ds,reduceCtorEq,td,bR,he,nn,xr];refine bO (auP AB.eb r.t) ?_;simp only[ae,ds,MB];obtain⟨az,N8,aa,_,_⟩:=b0 F (.cells (aQ (w1 c r.t)) 110 none);have aB:Own az 110 5 (.bg F.n 0 1 1) (aQ (w1 c r.t)):=by rw[N8];exact Own.e4 _ 1 rfl (by decide)
    rw[<-N8];clear N8;obtain⟨b3,N4,yC⟩:=aF.own aB (n:=1) rfl (by decide)
    have To:=(AB.ba aa).sH (yC.mono λq j=>by simpa [a7,aU,eq_comm]using j) (AB.aX F.n (BY _))
    have yY:=JG To v [w1 c r.t] (by rw[oJ];simp[fR.none])
    have pK:kF [w1 c r.t]=.af 1 (aQ (w1 c r.t)):=by simp[kF]
    rw[pK]at yY;refine cA (au.args (aA.cons (aF.refl _ _) (aA.cons (aF.refl _ _) (aA.cons N4 (aA.refl [] b3)))) yY) λq T ⟨ay,e1,Yd,cx⟩=>?_;subst ay;rw[<-gu]at cx;have E3:gF id F eh b3 eh:=⟨λ_ _=>rfl,aa.up.trans yC (λq j U=>by simp[a7,aU]at U;omega),To.aX,trivial⟩
    have fL:=E3.trans Yd;have N9:=(fL.ai.get h.n (by omega) (λU=>by unfold cP at U;rw[Ya]at U;exact aG U.1.symm)).trans nn
    simp only[ae,ds,dM,N9,ld,d0];refine cA (X6 o 24 v (by have:=o.len;omega) r T e1 N cx W.inv (by have:=W.sz;omega)) λq bM ⟨ay,eK,vb,dQ⟩=>?_
    subst ay;have E0:=dQ.eb.get;rw[vP]at E0;simp only[ae,ds,AS,reduceCtorEq,Je,km,pM,kH,E0];have G4:=fL.trans vb;have Y:=W.trans (JJ o.len 24 v r N W.inv);generalize tl c 24 v r N=D at dQ Y;have su:=o.len;refine aS.bI (α:=Nat×cT) (λy f h'=>f 0=.ptr m 0/\f 6=.ptr (h.n+1) 0/\f 8=.ptr H.n 0/\f 60=.int .i64 (c.l.length:Int)/\f 61=.int .i64 (y.1:Nat)/\y.1<=c.l.length /\
      gF id F eh h' y.2/\hn h' y.2 id H.n m b c ((ajB y.1).foldl (λx u=>dE c u x) D)/\cK c (3000*y.1) D ((ajB y.1).foldl (λx u=>dE c u x) D)) (λy=>c.l.length-y.1) (0,eK)
     ⟨rfl,rfl,rfl,rfl,rfl,Dy _,G4,dQ,cK.refl Y.inv⟩ ?_
    have N0:M.1.ms=hE c.ins.length s.ms v r.t:=by rw[oJ]
    clear s3 oJ ht
    rintro⟨t,G⟩ bU E ⟨f0,f6,Z,C,A,bB,L,z,B⟩
    simp only at A bB L z B;refine wpS ?_;by_cases aD:t<c.l.length
    ·have d1:=dV (a:=t) (b:=c.l.length) (by omega)
     have E1:=mQ aD (by omega)
     have eF:(ajB (t+1)).foldl (λx u=>dE c u x) D=dE c t ((ajB t).foldl (λx u=>dE c u x) D):=by rw[aDw,aAU];rfl
     generalize(ajB t).foldl (λx u=>dE c u x) D=i at eF z B;have AD:=z.eb.get;rw[vP]at AD;have cB:cP G id m=False:=eq_false λU=>by unfold cP at U;rw[z.eb.own]at U;simp at U
     have de:cP G id b.mp=False:=eq_false λU=>by unfold cP at U;rw[z.eb.nj]at U;simp at U
     have jj:=lookup_int (P:=mc) (ok:=false) (k:=(t:Int)) ut Qw z.eb.map;simp only[ae,ds,C,A,d1];cases Q:c.ee t with
     | none=>
      rw[z.eb.none t Q]at jj;have w6:nB mc 148 (.map b.mp) (.int .i64 (t:Int)) false E=some .dx:=jj;refine aS.cS (λq=>cP G id q) [14] (.q 0 (.q 1 (.q 2 (.q 3 (.q 4 (.q 5 (.q 6 (.q 7 (.q 8 (.q 9 (.q 10 (.q 11 (.c 12 (.c 13 (.a 14 .done))))))))))))))) ?_;simp only[ae,bt,fo,ds,AS,By,reduceCtorEq,F9,Ga,Gf,Gg,f0,Z,AD,cB,de,w6,Lo];refine fA rfl rfl rfl (λh' fe=>Nq h' _ _ _ _ _ (Ru z.eb fe)) ?_;simp only[fo];refine fA rfl rfl rfl (λh' fe=>af4 (leastOf i.1.ms) h') ?_;simp only[ae,bt,fo,ds];have yY:=JG z (t:Int) [] (by have S:=Y.sz;have X:=B.sz;have F:=W.sz;have T:=Rt i;simp only[ayK];omega)
      refine cA (au.args (aA.cons (aF.refl _ _) (aA.cons (aF.refl _ _) (aA.cons (aF.il E) (aA.refl [] E)))) yY) λq ko ⟨ay,yB,w7,k8⟩=>?_;subst ay;have N1:J E ko (λq=>cP G id q):=w7.ai;have bN:dE c t i=l9 (t:Int) [] i:=by unfold dE;rw[Q];simp[l9]
      rw[<-bN]at k8;have G5:=B.trans (JL (u:=t) i B.inv);simp only[ae,bt,fo,ds,A,E1];exact ar ⟨(t+1,yB),⟨f0,f6,Z,C,rfl,aD,L.trans w7,by have U:=k8;rw[<-eF]at U;exact U,by have U:cK c (3000*(t+1)) D (dE c t i):=G5.mono (by omega);rw[<-eF]at U;exact U⟩,by simp only;omega⟩
     | some K=>
      obtain⟨a,O,aT,iH,lE,lu,yy⟩:=z.at Q (IA aD);rw[aT]at jj;have w6:nB mc 148 (.map b.mp) (.int .i64 (t:Int)) false E=some (.ptr a 0):=jj;refine aS.cS (λq=>cP G id q) [13,14] (.q 0 (.q 1 (.q 2 (.q 3 (.q 4 (.q 5 (.q 6 (.q 7 (.q 8 (.q 9 (.q 10 (.q 11 (.c 12 (.e 13 (.a 14 .done) .stop)))))))))))))) ?_;simp only[ae,bt,fo,ds,AS,By,reduceCtorEq,F9,Ga,Gf,Gg,f0,Z,AD,cB,de,w6,Lo];refine fA rfl rfl rfl (λh' fe=>Nq h' _ _ _ _ _ (Ru z.eb fe)) ?_;simp only[ae,bt,fo,ds];have G6:-2^63<=leastOf i.1.ms/\leastOf i.1.ms<2^63:=by
       rw[B.ms,Y.ms,N0];exact agm (X8 hk.2)
      refine cA (aeJ iH (leastOf i.1.ms) G6) λq l1 ⟨fQ,JM,G7,E2,N2,Yb⟩=>?_;have N3:J E l1 (λq=>cP G id q):=E2.mono λq j=>by unfold cP;rw[lu q j];exact⟨rfl,by show 5<=10+t;omega⟩
      have cM:(hY K (leastOf i.1.ms) (i.1.st t)).length<=1024:=agn (iH.wf) _;obtain⟨b3,N4,yC⟩:=aF.own JM (n:=(hY K (leastOf i.1.ms) (i.1.st t)).length) (fJ qh _) (by decide)
      have N5:J E b3 (·∈O):=E2.trans yC λq j U=>by have:=(G7 q U).1;omega
      obtain⟨aq,E3,rX⟩:=yy b3 fQ _ N5 N2 (Yb.ai yC λq j U=>(G7 q U).2 j);have Yc:=NJ (c:=c) (u:=t) (l:=iv K (leastOf i.1.ms) (i.1.st t)) (λBk X=>by rw[Q]at X;cases X;exact(B.inv.wf t K Q).iv _) i B.inv
      have yY:=JG rX (t:Int) (hY K (leastOf i.1.ms) (i.1.st t)) (by have S:=Y.sz;have X:=B.sz;have F:=W.sz;have T:=Yc.sz;have bM:=Rt (ma t (iv K (leastOf i.1.ms) (i.1.st t)) i);omega)
      simp only[ae,bt,fo,ds,N3];refine cA (au.args (aA.cons (aF.refl _ _) (aA.cons (aF.refl _ _) (aA.cons N4 (aA.refl [] b3)))) yY) λax ko ⟨ay,yB,w7,k8⟩=>?_;subst ay;have E4:=E3.trans w7;have N1:J E ko (λq=>cP G id q):=E4.ai;have bN:dE c t i=l9 (t:Int) (hY K (leastOf i.1.ms) (i.1.st t)) (ma t (iv K (leastOf i.1.ms) (i.1.st t)) i):=by unfold dE;rw[Q]
      rw[<-bN]at k8;have G5:=B.trans (JL (u:=t) i B.inv);simp only[ae,bt,fo,ds,A,E1];exact ar ⟨(t+1,yB),⟨f0,f6,Z,C,rfl,aD,L.trans E4,by have U:=k8;rw[<-eF]at U;exact U,by have U:cK c (3000*(t+1)) D (dE c t i):=G5.mono (by omega);rw[<-eF]at U;exact U⟩,by simp only;omega⟩
    ·have d1:=eC (a:=t) (b:=c.l.length) (by omega)
     obtain rfl:t=c.l.length:=by omega
     obtain⟨cq,cG,cY,c7,R⟩:=z.pX;have g6:=R.get;have N6:=(L.ai.get (h.n+1) (by omega) (λU=>by unfold cP at U;rw[xV]at U;exact aG U.1.symm)).trans kQ
     have N7:bA (some 4) (aR.cells [V.ag,V.ag,V.ag,V.ag] 101 none) 0 [cq,cG,cY,c7]=some (.cells [cq,cG,cY,c7] 101 none):=NX (w4 R.o).1 (w4 R.v).1 (w4 R.c).1 (w4 R.d).1;simp only[ae,ds,AS,By,Ed,LK,Jq,f6,Z,C,A,d1,g6,N6,N7,aP,aDv,iR,iG,fq,iQ];exact ar (X9 z R (t0:=h.n+1) (by omega) ((L.bD _ (by omega)).trans xV) (λq j=>(L.bD q (by omega)).trans (B3 q j)) (sJ.trans L.ai λq j U=>by unfold cP at U;rw[B3 q j]at U;exact U.1) _)
end
end Go.Proofs.YtemdgidnhgcafaaGreatDoor.Pk
namespace Go.Proofs.YtemdgidnhgcafaaGreatDoor.Pk
open Go Go.Proofs Go.Proofs.YtemdgidnhgcafaaGreatDoor.Ab
section
variable {id m:Nat} {b:At} {c:bw} {h:I} {ow:cT} {s:fs}
end
end Go.Proofs.YtemdgidnhgcafaaGreatDoor.Pk
namespace Go.Proofs.YtemdgidnhgcafaaGreatDoor.Pk
open Go Go.Proofs Go.Proofs.YtemdgidnhgcafaaGreatDoor.Ab
section
variable {id m:Nat} {b:At} {c:bw}
end
end Go.Proofs.YtemdgidnhgcafaaGreatDoor.Pk
namespace Go.Proofs.YtemdgidnhgcafaaGreatDoor.Pk
open Go Go.Proofs Go.Proofs.YtemdgidnhgcafaaGreatDoor.Ab
theorem auW(x:bz)(q:x.kind≠6/\x.kind≠7/\x.kind≠8)(h:I):au mc 113 [.agg (al x)] h (λr h'=>(∃w,r=.tuple [w,.int .i64 1])/\J h h' none_):=by
 refine bd Tryz.func113 rfl ?_;obtain⟨a,i,⟨o,m,j⟩,n⟩:=x;have s:al ⟨a,i,.mk o m j,n⟩=[.int .i64 a,.af i.length (ao i),.int .i64 o,.int .i64 m,.af j.length (j.flatMap aH),.int .i64 n]:=by simp[al,l3]
 rw[s];have u:(a==6)=false:=by simpa using q.1
 have z:(a==7)=false:=by simpa using q.2.1
 have A:(a==8)=false:=by simpa using q.2.2
 have B:J h (h.push (.cells [.int .i64 a,.af i.length (ao i),.int .i64 o,.int .i64 m,.af j.length (j.flatMap aH),.int .i64 n] 68 none)) none_:=J.push _ _ _;simp only[ae,ds,AS,hb,aY,u,z,A,aP,Tryz.results113,da];exact ar ⟨⟨_,rfl⟩,B⟩
theorem auX(x:bz)(z:x.kind≠6/\x.kind≠7/\x.kind≠8)(A:hT x.e)(h:I)(B:hB h):au mc 75 [.agg (al x)] h (λr h'=>r=.tuple [.dx,.int .i64 1]/\J h h' none_):=by
 refine bd Tryz.func75 rfl ?_;obtain⟨j,i,⟨o,m,a⟩,n⟩:=x;have C:al ⟨j,i,.mk o m a,n⟩=[.int .i64 j,.af i.length (ao i),.int .i64 o,.int .i64 m,.af a.length (a.flatMap aH),.int .i64 n]:=by simp[al,l3]
 have D:aH (.mk o m a)=[.int .i64 o,.int .i64 m,.af a.length (a.flatMap aH)]:=l3 _ _ _;obtain⟨H,hH,q,E,_⟩:=b0 h (.cells [.int .i64 j,.af i.length (ao i),.int .i64 o,.int .i64 m,.af a.length (a.flatMap aH),.int .i64 n] 68 none);have F:Pure mc 63 [.agg [.int .i64 o,.int .i64 m,.af a.length (a.flatMap aH)]] H (ub (.mk o m a)):=by rw[<-D];exact y6 _ A H (B.ai q)
 have u:=auW ⟨j,i,.mk o m a,n⟩ z H;rw[C]at u⊢;simp only[ae,ds,AS,By,rK,gj];rw[<-hH];clear hH;refine bO F ?_;unfold ub;cases L:dj (.mk o m a)
 ·simp only[ae,Int.reduceBNe,ds,aP,aEd,da];exact ar ⟨rfl,q⟩
 ·simp only[ae,ds,AS,pN,E];refine cA u λr M ⟨⟨w,ay⟩,G⟩=>?_;subst ay;have s:((1:Int) !=0)=true:=rfl;simp only[ae,ds,s,aP,aEd,da];exact ar ⟨rfl,q.trans' G⟩
end Go.Proofs.YtemdgidnhgcafaaGreatDoor.Pk
namespace Go.Proofs.YtemdgidnhgcafaaGreatDoor.Pk
open Go Go.Proofs Go.Proofs.YtemdgidnhgcafaaGreatDoor.Ab
theorem auY(h:I):Pure mc 74 [.af ([]:List Int).length (ao [])] h (.tuple [.dx,.int .i64 1]):=by
 refine bd Tryz.func74 rfl ?_;have a:decide (((([]:List Int).length:Nat):Int)<1)=true:=rfl;simp only[ae,Int.reduceNeg,ds,reduceCtorEq,fB];exact ar ⟨rfl,rfl⟩
theorem agv(c:bw):Az c (fs.new c):=by
 have j:∀(zs:List Int) (k:Nat),(mH k zs).map (·.2.1)=zs/\∀e∈mH k zs,e.2.2=-1:=by
  intro zs
  induction zs with
  | nil=>intro k;exact⟨rfl,by simp[mH]⟩
  | cons z r ih=>
   intro k;obtain⟨a,b⟩:=ih (k+1);refine⟨by simp[mH,a],λe i=>?_⟩
   rcases Iz.1 (show e∈(k,z,(-1:Int))::mH (k+1) r from i)with i|i
   ·rw[i]
   ·exact b e i
 obtain⟨a,b⟩:=j c.ins 0;exact⟨a,λe i=>by have:=b e i;omega⟩
theorem auZ(c:bw)(o:fM c):∀u K,c.ee u=some K->dX K ((fs.new c).st u):=λu K a=>by
 refine dX.nil ?_;unfold bw.ee at a;split at a
 ·split at a
  ·unfold qz at a;split at a
   ·cases a;trivial
   ·split at a
    ·split at a
     ·rename_i h;cases a;exact h
     ·cases a
    ·split at a
     ·split at a
      ·rename_i h;cases a;exact h
      ·cases a
     ·cases a
  ·cases a
 ·cases a
end Go.Proofs.YtemdgidnhgcafaaGreatDoor.Pk
namespace Go.Proofs.YtemdgidnhgcafaaGreatDoor.Pk
open Go Go.Proofs Go.Proofs.YtemdgidnhgcafaaGreatDoor.Ab
structure sK(c:bw)(x:cd):Prop where
 outs:∀o∈x.2.outs,∃(u:Nat) (v:bz),o.1=(u:Int)/\c.l[u]?=some v/\(v.kind=10\/v.kind=5)
 deads:∀d∈x.2.deads,d.2.2≠0/\∃u:Nat,d.1=(u:Int)/\u<c.l.length
def w8(c:bw)(F:cd->cd):Prop:=∀x,sK c x->sK c (F x)
theorem i4{c:bw}{u:Nat}(j:u<c.l.length)(r:Rec){e:Int}(m:e≠0):w8 c (q5 (u:Int) r e):=λx i=>⟨i.outs,λd a=>by
 rcases ayN.1 (show d∈x.2.deads++[((u:Int),r,e)]from a)with a|a
 ·exact i.deads d a
 ·simp at a;subst a;exact⟨m,u,rfl,j⟩⟩
theorem LE{c:bw}{u:Nat}{v:bz}(j:c.l[u]?=some v)(m:v.kind=10\/v.kind=5)(r:Rec):w8 c (pW (u:Int) r):=λx i=>⟨λd a=>by
 rcases ayN.1 (show d∈x.2.outs++[((u:Int),r)]from a)with a|a
 ·exact i.outs d a
 ·simp at a;subst a;exact⟨u,v,rfl,j,m⟩,i.deads⟩
theorem Rv{c:bw}{x y:cd}(i:sK c x)(a:y.2.outs=x.2.outs)(j:y.2.deads=x.2.deads):sK c y:=⟨by rw[a];exact i.outs,by rw[j];exact i.deads⟩
theorem Rw{c:bw}{α:Type}(f:cd->α->cd):∀(l:List α),(∀a∈l,w8 c λx=>f x a)->w8 c λx=>l.foldl f x
 | [],_=>λx i=>i
 | a::r,h=>λx i=>Rw f r (λb ak=>h b (by simp[ak])) (f x a) (h a (by simp) x i)
theorem v6{c:bw}{v:bz}{u:Nat}(j:u<c.l.length){r:Rec}{th:Rec->cd->cd}(h:∀y,w8 c (th y)):w8 c (sF v u th r):=λx i=>by
 unfold sF;split
 ·rename_i m;exact i4 j r m x i
 ·exact Rw (λx y=>th y x) (qj v r).1 (λa _=>h a) x i
theorem au0{c:bw}{K:fc}{v:bz}{u:Nat}(j:u<c.l.length){r:Rec}{a:Rec->cd->cd}(h:∀y,w8 c (a y)):w8 c (w0 K v u a r):=λx i=>by
 unfold w0;split
 ·exact i4 j r (by decide) x i
 ·split
  ·rename_i m;exact i4 j r (af1 m) x i
  ·exact h _ _ (Rv i rfl rfl)
theorem au1{c:bw}{v:bz}{u:Nat}(j:u<c.l.length){r:Rec}{a:Rec->cd->cd}(h:∀y,w8 c (a y)):w8 c (m7 c v u a r):=λx i=>by
 unfold m7;split
 ·split
  ·exact h _ x i
  ·exact i4 j r (by decide) x i
 ·exact i4 j r (by decide) x i
theorem au2{c:bw}{j:Int->Rec->cd->cd}(h:∀u y,w8 c (j u y))(f:Int){u:Nat}(m:u<c.l.length)(r:Rec):w8 c (uy c j f u r):=λx i=>by
 unfold uy;split
 ·exact i4 m r (by decide) x i
 ·have a:sK c (du x):=Rv i rfl rfl;split
  ·exact a
  ·rename_i v q;split
   ·rename_i s;exact v6 m (λy=>LE q s y) _ a
   ·split
    ·exact v6 m (λy=>h u y) _ a
    ·split
     ·split
      ·exact au0 m (λy=>h u y) _ a
      ·exact a
     ·split
      ·split
       ·exact au1 m (λy=>h u y) _ a
       ·exact a
      ·exact a
theorem au3{c:bw}{v:Int}{u:Nat}(h:u∈c.us v):u<c.l.length:=by
 unfold bw.us at h;obtain⟨q,a,e⟩:=OF.1 (List.mem_filter.1 h).1;obtain⟨j,w,bc,i,_⟩:=GP.1 a;have:=(are.1 i).1;omega
theorem agw{c:bw}:∀(k:Nat) (v:Int) (r:Rec),w8 c (tl c k v r)
 | 0,v,r=>λx i=>i
 | k+1,v,r=>λx i=>Rw (λx u=>uy c (tl c k) v u r x) (c.us v) (λu j=>au2 (λa y=>agw k a y) v (au3 j) r) x i
theorem au4{c:bw}{u:Nat}:w8 c (λx=>dE c u x):=λx i=>by
 show sK c (dE c u x);unfold dE;split
 ·exact Rv i rfl rfl
 ·exact i
theorem au5{c:bw}(s:fs){v:Int}{u:Nat}(j:v=(u:Int))(m:u<c.l.length)(r:Rec):sK c (stepT c s v r).1:=by
 have i:∀s:fs,sK c (s,fR.none):=λs=>⟨λo h=>by simp[fR.none]at h,λo h=>by simp[fR.none]at h⟩
 unfold stepT;split
 ·exact i s
 ·split
  ·rename_i q;subst j;exact i4 m r q _ (i s)
  ·refine Rw (λx u=>dE c u x) _ (λa _=>au4) _ (agw 24 v r _ ?_);split
   ·exact Rv (i s) rfl rfl
   ·exact i _
end Go.Proofs.YtemdgidnhgcafaaGreatDoor.Pk
namespace Go.Proofs.YtemdgidnhgcafaaGreatDoor.Pk
open Go Go.Proofs Go.Proofs.YtemdgidnhgcafaaGreatDoor.Ab
def agx(st:Nat->List an)(u:Nat)(l:List an):Nat->List an:=λw=>if w=u then l else st w
def qK(c:bw):(Nat->List an)->List (Int×an)->Option (Nat->List an)
 | st,[]=>some st
 | st,p::r=>match c.ee p.1.toNat with
  | some K=>if 0<=p.1/\(u9 K (st p.1.toNat) p.2).2=0 then qK c (agx st p.1.toNat (u9 K (st p.1.toNat) p.2).1) r else none
  | none=>none
theorem agy(c:bw):∀(st:Nat->List an) (a b:List (Int×an)),qK c st (a++b)=(qK c st a).bind λs=>qK c s b
 | st,[],b=>rfl
 | st,p::a,b=>by
  simp only[azv,qK];split
  ·split
   ·exact agy c _ a b
   ·rfl
  ·rfl
def uQ(c:bw)(x y:cd):Prop:=∃a:List (Int×an),y.2.verts=x.2.verts++a.map (·.1)/\y.2.chgs=x.2.chgs++a.map (·.2)/\qK c x.1.st a=some y.1.st
theorem uQ.same{c:bw}{x y:cd}(i:y.2.verts=x.2.verts)(j:y.2.chgs=x.2.chgs)(s:y.1.st=x.1.st):uQ c x y:=⟨[],by simp[i],by simp[j],by rw[s];rfl⟩
theorem uQ.trans{c:bw}{x y z:cd}(a:uQ c x y)(b:uQ c y z):uQ c x z:=by
 obtain⟨p,i,j,s⟩:=a;obtain⟨q,u,A,B⟩:=b;exact⟨p++q,by rw[u,i];simp,by rw[A,j];simp,by rw[agy,s];exact B⟩
end Go.Proofs.YtemdgidnhgcafaaGreatDoor.Pk
namespace Go.Proofs.YtemdgidnhgcafaaGreatDoor.Pk
open Go Go.Proofs Go.Proofs.YtemdgidnhgcafaaGreatDoor.Ab
end Go.Proofs.YtemdgidnhgcafaaGreatDoor.Pk
namespace Go.Proofs.YtemdgidnhgcafaaGreatDoor.Pk
open Go Go.Proofs Go.Proofs.YtemdgidnhgcafaaGreatDoor.Ab
theorem agz{l:List bz}{P:List Int}{part:Int}{y:Int}:∀{i:Nat},y∈ni l P part i->∃u,u<i/\y=(u:Int)/\vO l P part u=true
 | 0,h=>by simp[ni]at h
 | i+1,h=>by
  unfold ni at h;rcases ayN.1 h with h|h
  ·obtain⟨u,m,a,j⟩:=agz h;exact⟨u,by omega,a,j⟩
  ·split at h
   ·rename_i hi;simp at h;exact⟨i,by omega,h,hi⟩
   ·simp at h
theorem au6{c:bw}(o:fM c){y:Int}(h:c.ins.contains y=true):∃u:Nat,u<c.l.length/\y=(u:Int)/\vO c.l c.P c.part u=true:=by
 obtain⟨u,j,a,i⟩:=agz (List.contains_iff_mem.1 h);exact⟨u,by have:=GY o.Ay;omega,a,i⟩
theorem au7{k n:Int}{K:fc}(h:qz k n=some K):k=6\/k=7\/k=8:=by
 unfold qz at h;split at h
 ·omega
 ·split at h
  ·omega
  ·split at h
   ·omega
   ·cases h
theorem au8{c:bw}{u:Nat}{K:fc}(h:c.ee u=some K):∃x,c.l[u]?=some x/\qz x.kind x.n=some K:=by
 unfold bw.ee at h;split at h
 ·split at h
  ·rename_i x a;exact⟨x,a,h⟩
  ·cases h
 ·cases h
theorem au9{c:bw}{s:fs}(a:Az c s)(v t:Int):Az c { s with ms:=hE c.ins.length s.ms v t }:=by
 refine⟨Eq.trans ?_ a.1,X8 a.2⟩;show(hE c.ins.length s.ms v t).map (·.2.1)=s.ms.map (·.2.1);unfold hE;cases j:eu s.ms v with
 | none=>rfl
 | some g=>
  simp only;split
  ·rfl
  ·split
   ·rfl
   ·generalize c.ins.length=m;have i:∀l:Seen,(eu l v).isSome->(fm m l v t).map (·.2.1)=l.map (·.2.1):=by
     intro l
     induction l with
     | nil=>intro h;simp[eu]at h
     | cons e r ih=>
      intro h;unfold fm;by_cases a:e.2.1=v
      ·rw[if_pos a];simp[a]
      ·rw[if_neg a,axU,axU,ih];unfold eu at h⊢;rw[az0,show(e.2.1==v)=false by simpa using a]at h
       exact h
    exact i _ (by rw[j];rfl)
theorem agA{c:bw}(o:fM c){s:fs}(F:∀u K,c.ee u=some K->dX K (s.st u))(v:Int)(r:Rec) :
  (stepT c s v r).1.1.ms=s.ms\/(stepT c s v r).1.1.ms=hE c.ins.length s.ms v r.t:=by
 cases q:c.ins.contains v
 ·have i:stepT c s v r=((s,fR.none),6):=by unfold stepT;rw[if_pos q]
  rw[i];exact .inl rfl
 by_cases A:(hl s.ms v r.t).2≠0
 ·have i:stepT c s v r=(q5 v r (hl s.ms v r.t).2 (s,fR.none),0):=by unfold stepT;rw[if_neg (by rw[q];decide),if_pos A]
  rw[i];exact .inl rfl
 obtain⟨a,z⟩:∃a:cd,a=({ s with ms:=hE c.ins.length s.ms v r.t },fR.none):=⟨_,rfl⟩;obtain⟨m,B⟩:∃m:cd,m=(if(hl s.ms v r.t).1=true then l9 v [w1 c r.t] a else a):=⟨_,rfl⟩
 have i:stepT c s v r=((ajB c.l.length).foldl (λx u=>dE c u x) (tl c 24 v r m),0):=by
  unfold stepT;rw[if_neg (by rw[q];decide),if_neg A,B,z]
 rw[i];have C:Inv c a:=by rw[z];exact⟨Dy _,F⟩
 have D:cK c 2 a m:=by
  rw[B];split
  ·exact JI c v [w1 c r.t] a C
  ·exact(cK.refl C).mono (by omega)
 have E:=JJ o.len 24 v r m D.inv;have G:=NK (c:=c) (j:=3000) (λx u=>dE c u x) (ajB c.l.length) (λu _=>JL) _ E.inv;refine .inr (G.ms.trans (E.ms.trans (D.ms.trans ?_)));rw[z]
theorem Ye{c:bw}(o:fM c){s:fs}(z:Az c s)(q:∀u K,c.ee u=some K->dX K (s.st u))(v:Int)(r:Rec) :
  Az c (stepT c s v r).1.1/\(∀u K,c.ee u=some K->dX K ((stepT c s v r).1.1.st u))/\sz (stepT c s v r).1<=2^22:=by
 have L:Az c (stepT c s v r).1.1:=by
  rcases agA o q v r with h|h
  ·exact⟨by rw[h];exact z.1,by rw[h];exact z.2⟩
  ·have:=au9 z v r.t;exact⟨by rw[h];exact this.1,by rw[h];exact this.2⟩
 refine⟨L,?_⟩;cases A:c.ins.contains v
 ·have m:stepT c s v r=((s,fR.none),6):=by unfold stepT;rw[if_pos A]
  rw[m];exact⟨q,by simp[sz,fR.none]⟩
 by_cases C:(hl s.ms v r.t).2≠0
 ·have m:stepT c s v r=(q5 v r (hl s.ms v r.t).2 (s,fR.none),0):=by unfold stepT;rw[if_neg (by rw[A];decide),if_pos C]
  rw[m];exact⟨q,by simp[sz,fR.none,q5]⟩
 obtain⟨a,B⟩:∃a:cd,a=({ s with ms:=hE c.ins.length s.ms v r.t },fR.none):=⟨_,rfl⟩;obtain⟨i,D⟩:∃i:cd,i=(if(hl s.ms v r.t).1=true then l9 v [w1 c r.t] a else a):=⟨_,rfl⟩
 have m:stepT c s v r=((ajB c.l.length).foldl (λx u=>dE c u x) (tl c 24 v r i),0):=by
  unfold stepT;rw[if_neg (by rw[A];decide),if_neg C,D,B]
 rw[m];have E:Inv c a:=by rw[B];exact⟨Dy _,q⟩
 have O:sz a=4000000:=by rw[B];simp[sz,fR.none]
 have F:cK c 2 a i:=by
  rw[D];split
  ·exact JI c v [w1 c r.t] a E
  ·exact(cK.refl E).mono (by omega)
 have G:=JJ o.len 24 v r i F.inv;have H:=NK (c:=c) (j:=3000) (λx u=>dE c u x) (ajB c.l.length) (λu _=>JL) _ G.inv;refine⟨H.inv.wf,?_⟩;have ay:=F.sz;have bc:=G.sz;have M:sz ((ajB c.l.length).foldl (λx u=>dE c u x) (tl c 24 v r i))<=sz (tl c 24 v r i)+3000*(ajB c.l.length).length:=H.sz;have:=o.len;rw[List.length_range]at M;have:3000*c.l.length<=3000*24:=Nat.mul_le_mul_left _ this;show sz ((ajB c.l.length).foldl (λx u=>dE c u x) (tl c 24 v r i))<=2^22;omega
end Go.Proofs.YtemdgidnhgcafaaGreatDoor.Pk
namespace Go.Proofs.YtemdgidnhgcafaaGreatDoor.Pk
open Go Go.Proofs Go.Proofs.YtemdgidnhgcafaaGreatDoor.Ab
def jd(f:Int->Int)(L:Seen):Seen:=L.map λe=>(e.1,e.2.1,f e.2.1)
theorem ava{f g:Int->Int}{L:Seen}(h:∀z∈L.map (·.2.1),f z=g z):jd f L=jd g L:=by
 unfold jd;refine List.map_congr_left λe a=>?_;rw[h _ (OF.2 ⟨e,a,rfl⟩)]
theorem agB(f:Int->Int)(v:Int):∀L:Seen,eu (jd f L) v=if v∈L.map (·.2.1)then some (f v)else none
 | []=>rfl
 | e::L=>by
  have ih:=agB f v L;unfold eu at ih⊢;rw[jd,axU,az0];by_cases h:e.2.1=v
  ·subst h;simp
  ·have j:(e.2.1==v)=false:=by simpa using h
   have m:¬v=e.2.1:=λU=>h U.symm;show((match e.2.1==v with|true=>some (e.1,e.2.1,f e.2.1)|false=>aGm (λe=>e.2.1==v) (jd f L)).map (λe:Nat×Int×Int=>e.2.2))=_
   rw[j];show(aGm (λe=>e.2.1==v) (jd f L)).map (λe:Nat×Int×Int=>e.2.2)=_;rw[ih];have i:v∈(e::L).map (λx:Nat×Int×Int=>x.2.1)↔v∈L.map (λx:Nat×Int×Int=>x.2.1):=by
    rw[axU,Iz];exact⟨λU=>U.resolve_left m,.inr⟩
   by_cases a:v∈L.map (λx:Nat×Int×Int=>x.2.1)
   ·rw[if_pos a,if_pos (i.2 a)]
   ·rw[if_neg a,if_neg λU=>a (i.1 U)]
theorem agC(cl:Nat)(f:Int->Int)(v t:Int):∀L:Seen,v∈L.map (·.2.1)->(L.map (·.2.1)).Nodup->fm cl (jd f L) v t=jd (λz=>if z=v then t else f z) L
 | [],h,_=>by simp at h
 | e::L,h,i=>by
  rw[axU,List.nodup_cons]at i;show fm cl ((e.1,e.2.1,f e.2.1)::jd f L) v t=(e.1,e.2.1,if e.2.1=v then t else f e.2.1)::jd (λz=>if z=v then t else f z) L
  unfold fm;by_cases a:e.2.1=v
  ·rw[if_pos a,if_pos a];have:jd f L=jd (λz=>if z=v then t else f z) L:=ava λz j=>by
    rw[if_neg];intro U;subst U;exact i.1 (a▸j)
   rw[<-this];show(e.1,v,t)::jd f L=(e.1,e.2.1,t)::jd f L;rw[a]
  ·rw[if_neg a,if_neg a];rw[agC cl f v t L (by
    rw[axU]at h;rcases Iz.1 h with h|h
    ·exact absurd h.symm a
    ·exact h) i.2]
theorem avb(cl:Nat)(f:Int->Int)(v t:Int){L:Seen}(i:(L.map (·.2.1)).Nodup):∃g,hE cl (jd f L) v t=jd g L:=by
 unfold hE;rw[agB];by_cases a:v∈L.map (·.2.1)
 ·rw[if_pos a];simp only;split
  ·exact⟨f,rfl⟩
  ·split
   ·exact⟨f,rfl⟩
   ·exact⟨_,agC cl f v t L a i⟩
 ·rw[if_neg a];exact⟨f,rfl⟩
theorem Yf:∀(zs:List Int) (k:Nat),(mH k zs).map (·.2.1)=zs/\jd (λ_=>-1) (mH k zs)=mH k zs
 | [],k=>⟨rfl,rfl⟩
 | z::r,k=>by
  obtain⟨a,b⟩:=Yf r (k+1);refine⟨?_,?_⟩
  ·show z::(mH (k+1) r).map (·.2.1)=z::r;rw[a]
  ·show(k,z,(-1:Int))::jd (λ_=>-1) (mH (k+1) r)=(k,z,-1)::mH (k+1) r;rw[b]
def Lq(c:bw):Seen:=mH 0 c.ins
theorem avc(c:bw):(Lq c).map (·.2.1)=c.ins:=(Yf c.ins 0).1
theorem avd(c:bw):c.ins.Nodup:=(XF (X7 c)).1.imp λh=>by omega
theorem ave(c:bw):((Lq c).map (·.2.1)).Nodup:=by rw[avc];exact avd c
def H7(c:bw)(s:fs):Prop:=∃f,s.ms=jd f (Lq c)
theorem avf(c:bw):H7 c (fs.new c):=⟨λ_=>-1,(Yf c.ins 0).2.symm⟩
theorem avg{c:bw}(o:fM c){s:fs}(i:H7 c s)(j:∀u K,c.ee u=some K->dX K (s.st u))(v:Int)(r:Rec):H7 c (stepT c s v r).1.1:=by
 obtain⟨f,a⟩:=i;rcases agA o j v r with h|h
 ·exact⟨f,by rw[h,a]⟩
 ·rw[a]at h;obtain⟨g,m⟩:=avb c.ins.length f v r.t (ave c);exact⟨g,by rw[h,m]⟩
end Go.Proofs.YtemdgidnhgcafaaGreatDoor.Pk
namespace Go.Proofs.YtemdgidnhgcafaaGreatDoor.Pk
open Go Go.Proofs Go.Proofs.YtemdgidnhgcafaaGreatDoor.Ab
theorem avh:∀(s:Nat) (e:b6) (h:I),e0 e=s->hT e->Pure mc 24 [.agg (aH e)] h (.int .i64 (aOT.i64.wrap (e0 e:Nat))):=by
 intro s
 induction s using Nat.strongRecOn with
 | _ s ih=>
 intro e h Q E;obtain⟨o,n,j⟩:=e;refine Pure.val (a8.int _ _) ?_;have m:=E.len;simp only[b6.aM]at m;refine bd Tryz.func24 rfl ?_;have av:(V.agg (aH (.mk o n j))).cells=some (aH (.mk o n j)):=rfl;have F:cO (aR.cells (aH (.mk o n j)) 66 none) 2=some [.af j.length (j.flatMap aH)]:=by rw[l3];rfl
 simp only[ae,av];refine aS.bI (α:=Nat) (λi f h'=>f 1=.ptr h.n 0/\f 4=.int .i64 (i:Nat)/\f 3=.int .i64 (aOT.i64.wrap ((ff (j.take i)+1:Nat):Int))/\i<=j.length/\h'=h.push (.cells (aH (.mk o n j)) 66 none)) (λi=>j.length-i) 0 ⟨rfl,rfl,rfl,Dy _,rfl⟩ ?_
 rintro i f h' ⟨u,z,B,hi,rfl⟩
 refine wpS ?_;by_cases C:i<j.length;rotate_left
 ·have D:=eC (a:=i) (b:=j.length) (by omega)
  rw[ajz (by omega)]at B
  simp only[ae,ds,rJ,zT,tf,u,z,B,F,D,aP,Tryz.results24,ac];exact ar ⟨by simp[e0],J.push _ _ _⟩
 ·have D:=dV (a:=i) (b:=j.length) (by omega)
  have H:=LZ (kk:=.i64) C;have bl:=acp C;have G:j[i]∈(b6.mk o n j).aM:=ayM C;have R:=Wa _ G;have L:=E.Er _ G;generalize j[i]=A at *;have M:∀(q:List V),cJ (some (some 3)) (some (aH A++q))=some (.agg (aH A)):=λq=>be (rO A);have N:=hR (i:=i) (by omega)
  have O:aOT.i64.wrap (aOT.i64.wrap ((ff (j.take i)+1:Nat):Int)+aOT.i64.wrap ((e0 A:Nat):Int))=aOT.i64.wrap ((ff (j.take (i+1))+1:Nat):Int):=by rw[wrap_add,bl];congr 1;omega
  simp only[ae,ds,rJ,zT,tf,gj,u,z,B,F,D,H,M];refine bO (ih (e0 A) (by omega) A _ rfl L) ?_
  simp only[ae,ds,z,N,O];exact ar ⟨i+1,⟨u,rfl,rfl,by omega,rfl⟩,by omega⟩
end Go.Proofs.YtemdgidnhgcafaaGreatDoor.Pk
namespace Go.Proofs.YtemdgidnhgcafaaGreatDoor.Pk
open Go Go.Proofs Go.Proofs.YtemdgidnhgcafaaGreatDoor.Ab
end Go.Proofs.YtemdgidnhgcafaaGreatDoor.Pk
namespace Go.Proofs.YtemdgidnhgcafaaGreatDoor.Pk
open Go Go.Proofs Go.Proofs.YtemdgidnhgcafaaGreatDoor.Ab
theorem Yg{α:Type}{cl:Nat}{k:Int}{a:α}:∀{l:List (Nat×Int×α)} {z:Int},eu (fm cl l k a) z=if z=k then some a else eu l z
 | [],z=>by
  unfold fm eu;rw[az0];by_cases h:z=k
  ·subst h;simp
  ·rw[if_neg h];have:(k==z)=false:=by simpa using λe=>h e.symm
   simp[this]
 | e::r,z=>by
  have ih:=Yg (cl:=cl) (k:=k) (a:=a) (l:=r) (z:=z);unfold fm;by_cases j:e.2.1=k
  ·rw[if_pos j];unfold eu;rw[az0,az0];by_cases h:z=k
   ·subst h;simp
   ·rw[if_neg h];have q:(k==z)=false:=by simpa using λe=>h e.symm
    have i:(e.2.1==z)=false:=by rw[j];exact q
    simp only[q,i]
  ·rw[if_neg j];unfold eu at ih⊢;rw[az0,az0];by_cases i:e.2.1=z
   ·have m:(e.2.1==z)=true:=by simpa using i
    have s:z≠k:=λU=>j (i.trans U);simp[m,s]
   ·have m:(e.2.1==z)=false:=by simpa using i
    simp only[m];exact ih
structure lA(h:I)(ow:cT)(id m:Nat)(b:At)(c:bw)(n:Nat):Prop where
 lt:m<h.n
 get:h.get m=.cells (c.cells b) 150 none
 own:ow m=(id,1)
 marks:wX h (.ptr b.lR 0) (mH 0 c.ins) b.lR b.uz c.ins.length
 hF:ow b.lR=(id,2)/\ow b.uz=(id,3)
 lS:b.mp<h.n
 map:h.get b.mp=.map (mapOf .i64 xT b.es) b.cl
 nj:ow b.mp=(id,4)
 some:∀u K,u<n->c.ee u=some K->∃a O x,eu b.es (u:Int)=Option.some a/\c.l[u]?=some x/\iA h a O K x.e x.n []/\nF ow (id,10+u) O/\dj x.e=true
 none:∀u,(n<=u\/c.ee u=Option.none)->eu b.es (u:Int)=Option.none
section
variable {h h':I} {ow ow':cT} {id m n:Nat} {b:At} {c:bw}
theorem lA.ai{M:Nat->Prop}(k:lA h ow id m b c n)(i:J h h' M)(D:∀q,q<h.n->M q->(ow q).1≠id)(j:∀q,q<h.n->ow' q=ow q):lA h' ow' id m b c n:=by
 obtain⟨ay,A,B,F,g1,g2,st⟩:=k.marks;have z:∀q,q<h.n->(ow q).1=id->h'.get q=h.get q:=λq s G=>i.get q s λU=>D q s U G;refine⟨IS k.lt i.n,(z _ k.lt (by rw[k.own])).trans k.get,(j _ k.lt).trans k.own,⟨ay,IS A i.n,IS B i.n,F,(z _ A (by rw[k.hF.1])).trans g1,(z _ B (by rw[k.hF.2])).trans g2,st⟩,
  ⟨(j _ A).trans k.hF.1,(j _ B).trans k.hF.2⟩,IS k.lS i.n,(z _ k.lS (by rw[k.nj])).trans k.map,(j _ k.lS).trans k.nj,λu K H L=>?_,k.none⟩
 obtain⟨a,O,x,N,Q,C,E,R⟩:=k.some u K H L;exact⟨a,O,x,N,Q,C.ai i λq s U=>D q (C.lt q s) U (by rw[E q s]),E.bD C.lt j,R⟩
theorem lA.ba(k:lA h ow id m b c n)(i:J h h' none_):lA h' ow id m b c n:=k.ai i (λ_ _ U=>by simp[none_]at U) λ_ _=>rfl
theorem lA.skip(k:lA h ow id m b c n)(s:c.ee n=Option.none):lA h ow id m b c (n+1) :=
 ⟨k.lt,k.get,k.own,k.marks,k.hF,k.lS,k.map,k.nj,λu K j i=>by
  by_cases e:u=n
  ·subst e;rw[s]at i;cases i
  ·exact k.some u K (by omega) i,λu j=>k.none u (j.imp (λh=>by omega) λh=>h)⟩
theorem lA.put(k:lA h ow id m b c n)(f:Fr h ow){K:fc}(B:c.ee n=Option.some K){x:bz}(Q:c.l[n]?=Option.some x)(R:dj x.e=true){a:Nat}{O:List Nat}(S:J h h' none_)(T:∀q∈O,h.n<=q)(C:iA h' a O K x.e x.n []) :
  lA (h'.set b.mp (.map (mapOf .i64 xT (fm b.cl b.es (n:Int) a)) (oN b.cl b.es (n:Int)))) (dF ow h.n h'.n (id,10+n)) id m ⟨b.lR,b.uz,b.mp,fm b.cl b.es (n:Int) a,oN b.cl b.es (n:Int)⟩ c (n+1):=by
 have W:∀q,q<h.n->dF ow h.n h'.n (id,10+n) q=ow q:=λq i=>Av i;have kk:=k.ai (ow':=dF ow h.n h'.n (id,10+n)) S (λ_ _ U=>by simp[none_]at U) W
 have lS:=k.lS;have aM:J h' (h'.set b.mp (.map (mapOf .i64 xT (fm b.cl b.es (n:Int) a)) (oN b.cl b.es (n:Int)))) (·=b.mp):=J.set _ _ _;obtain⟨ay,D,E,X,g1,g2,st⟩:=kk.marks;have z:∀q t,q<h'.n->dF ow h.n h'.n (id,10+n) q=(id,t)->t≠4->(h'.set b.mp (.map (mapOf .i64 xT (fm b.cl b.es (n:Int) a)) (oN b.cl b.es (n:Int)))).get q=h'.get q:=λq t i F bB=>aM.get q i λU=>by
  rw[U,kk.nj]at F;simp at F;omega
 refine⟨kk.lt,(z _ _ kk.lt kk.own (by omega)).trans kk.get,kk.own,⟨ay,D,E,X,(z _ _ D kk.hF.1 (by omega)).trans g1,(z _ _ E kk.hF.2 (by omega)).trans g2,st⟩,kk.hF,kk.lS,aL,kk.nj,λu Y j A=>?_,λu j=>?_⟩
 ·show ∃G H L,eu (fm b.cl b.es (n:Int) a) (u:Int)=_/\_;rw[Yg];by_cases e:u=n
  ·subst e;rw[B]at A;cases A;rw[if_pos rfl];have M:nF (dF ow h.n h'.n (id,10+u)) (id,10+u) O:=λq i=>NB (T q i) (C.lt q i);exact⟨a,O,x,rfl,Q,C.ai aM λq i U=>by have s:=M q i;rw[U,kk.nj]at s;simp at s;omega,M,R⟩
  ·rw[if_neg (by omega)]
   obtain⟨G,H,L,s,Z,aC,N,bM⟩:=kk.some u Y (by omega) A
   exact⟨G,H,L,s,Z,aC.ai aM λq i U=>by have s:=N q i;rw[U,kk.nj]at s;simp at s;omega,N,bM⟩
 ·show eu (fm b.cl b.es (n:Int) a) (u:Int)=_;rw[Yg,if_neg (by
   intro e;have e:u=n:=by omega
   subst e;rcases j with j|j
   ·omega
   ·rw[B]at j;cases j)]
  exact k.none u (j.imp (λh=>by omega) λh=>h)
theorem lA.done(k:lA h ow id m b c n)(z:c.l.length<=n):hf h ow id m b c (fs.new c) :=
 ⟨k.lt,k.get,k.own,k.marks,k.hF,k.lS,k.map,k.nj,λu K i=>by
  obtain⟨x,j,_⟩:=au8 i;have:=(are.1 j).1;exact k.some u K (by omega) i,λu s=>k.none u (.inr s)⟩
end
def kU(c:bw):Int:=if(cg c.p c.l).2≠0 then(cg c.p c.l).2 else if c.P.contains c.part=false then 1 else if c.ins=[]then 1 else 0
def Made(id:Nat)(c:bw)(h:I)(ow:cT):V->I->Prop:=λr h'=>J h h' none_ /\
 ((kU c≠0/\r=.tuple [.dx,.int .i64 (kU c)])\/(kU c=0/\∃m b a,r=.tuple [.ptr m 0,.int .i64 0]/\hf h' a id m b c (fs.new c)/\(∀q,q<h.n->a q=ow q)/\Fr h' a))
end Go.Proofs.YtemdgidnhgcafaaGreatDoor.Pk
namespace Go.Proofs.YtemdgidnhgcafaaGreatDoor.Pk
open Go Go.Proofs Go.Proofs.YtemdgidnhgcafaaGreatDoor.Ab
theorem avi{e:b6}(a:hT e):∀b∈j4 e,b<256:=by
 unfold j4;split
 ·exact Wy e
 ·simp
theorem avj{v:bz}(a:yv v):∀b∈gE v,b<256:=λb ak=>by
 unfold gE zZ Bd at ak;simp only[ayN,aAK]at ak;rcases ak with((ak|ak|⟨n,_,ak⟩)|ak)|ak|ak
 ·exact Bc _ _ (BY _) b ak
 ·exact Bc _ _ (BY _) b ak
 ·exact Bc _ _ (BY _) b ak
 ·exact Bc _ _ (BY _) b ak
 ·exact Bc _ _ (BY _) b ak
 ·exact avi a.1 b ak
theorem agD{p:Int}{l:List bz}(a:ju l):∀b∈nh p l,b<256:=λb ak=>by
 unfold nh at ak;split at ak
 ·unfold sw at ak;simp only[ayN,aAK]at ak;rcases ak with(ak|ak)|⟨v,i,ak⟩
  ·exact Bc _ _ (BY _) b ak
  ·exact Bc _ _ (BY _) b ak
  ·exact avj (a.2 v i) b ak
 ·cases ak
theorem agE{p:Int}{l:List bz}(j:ju l):(nh p l).length<=2^40:=by
 unfold nh;split
 ·rename_i m;obtain⟨q,s,u,i⟩:=Dd m;have z:=aeU (l:=l) λv a=>aeT (j.2 v a) (i v a).1 (i v a).2.1;have A:=(rR p.toNat (by omega)).2
  have B:=(rR l.length (by omega)).2
  unfold sw;simp only[List.length_append];omega
 ·simp
def uC(ow:cT)(q:Nat)(t:Nat×Nat):cT:=λx=>if x=q then t else ow x
theorem JN(ow:cT)(q:Nat)(t:Nat×Nat):uC ow q t q=t:=if_pos rfl
theorem vQ{ow:cT}{q x:Nat}{t:Nat×Nat}(h:x≠q):uC ow q t x=ow x:=if_neg h
theorem avk{c:bw}(h:(cg c.p c.l).2=0)(a:c.P.contains c.part=false):kU c=1:=by unfold kU;rw[if_neg (by rw[h];decide),if_pos a]
theorem avl{c:bw}(h:(cg c.p c.l).2=0)(a:c.P.contains c.part=true)(i:c.ins=[]):kU c=1:=by unfold kU;rw[if_neg (by rw[h];decide),if_neg (by rw[a];decide),if_pos i]
theorem avm{c:bw}(h:(cg c.p c.l).2=0)(a:c.P.contains c.part=true)(i:c.ins≠[]):kU c=0:=by unfold kU;rw[if_neg (by rw[h];decide),if_neg (by rw[a];decide),if_neg i]
theorem avn(id:Nat)(c:bw)(E:ju c.l)(h:I)(aw:jG h)(ow:cT)(f:Fr h ow)(aG:id≠0) :
  au mc 34 [.agg (cD c.l c.p),.int .i64 c.part] h (Made id c h ow):=by
 obtain⟨l,p,part⟩:=c;simp only at E⊢;have pb:∀(l:List bz) (p:Int),(V.agg (cD l p)).cells=some [.af l.length (l.flatMap al),.int .i64 p]:=λ_ _=>rfl;have ln:∀(l:List bz) (p:Int),V.agg [.af l.length (l.flatMap al),.int .i64 p]=.agg (cD l p):=λ_ _=>rfl;have BW:∀(l:List bz) (p:Int),bA (some 2) (aR.cells [V.ag,.int .i64 0] 24 none) 0 [.af l.length (l.flatMap al),.int .i64 p]=some (.cells [.af l.length (l.flatMap al),.int .i64 p] 24 none):=λ_ _=>rfl;refine bd Tryz.func34 rfl ?_;obtain⟨H,hH,bo,gt,ib⟩:=b0 h (.cells [.af l.length (l.flatMap al),.int .i64 p] 24 none);have jU:=aw.ai bo;simp only[ae,ds,AS,jh,pb,<-hH,gt,ln];refine bO (aeV l p E H jU) ?_;unfold ET;by_cases z:(cg p l).2=0;rotate_left
 ·have bf:((cg p l).2 !=0)=true:=by simpa using z
  have D:kU ⟨l,p,part⟩=(cg p l).2:=by unfold kU;rw[if_pos z]
  simp only[ae,ds,bf,aP,aDx,da];exact ar ⟨bo,.inl ⟨by rw[D];exact z,by rw[D]⟩⟩
 have bf:((0:Int) !=0)=false:=rfl;have o:fM ⟨l,p,part⟩:=⟨z,E⟩;simp only[ae,ds,z];refine bO (Np _ (nh p l) H jU (Rd.af _ _) (agD E) (by have:=agE (p:=p) E;omega)) ?_
 have kM:qD (nh p l)=.tuple [.agg (cD l p),.int .i64 0]:=by unfold qD;rw[afg E z]
 rw[kM];obtain⟨ca,bP,k2,pf,dd⟩:=b0 H (.cells [.af l.length (l.flatMap al),.int .i64 p] 24 none);have t2:=jU.ai k2;have c4:=bo.trans' k2;simp only[ae,ds,AS,jh,wG,wH,pb,BW,<-bP,pf,ln];refine bO (Rf l p E ca t2) ?_;have NM:(gl p l).length=l.length:=GY z;have su:l.length<=24:=o.len;rw[z];simp only[ae,ds];refine bO (Q9 (gl p l) part (by omega) ca) ?_
 cases zP:(gl p l).contains part
 ·have D:kU ⟨l,p,part⟩=1:=avk (c:=⟨l,p,part⟩) z zP;simp only[ae,ds,aP,aDx,da];exact ar ⟨c4,.inl ⟨by rw[D];decide,by rw[D]⟩⟩
 simp only[ae,ds,AS,jh,pf,ln];refine bO (afD l p part E ca t2) ?_;simp only[ae,ds];by_cases hi:sE p l part=[]
 ·have D:kU ⟨l,p,part⟩=1:=avl (c:=⟨l,p,part⟩) z zP hi;rw[hi];refine bO (auY ca) ?_;have bu:((1:Int) !=0)=true:=rfl;simp only[ae,ds,bu,aP,aDx,da];exact ar ⟨c4,.inl ⟨by rw[D];decide,by rw[D]⟩⟩
 have D:kU ⟨l,p,part⟩=0:=avm (c:=⟨l,p,part⟩) z zP hi;refine cA (XD ca (sE p l part) (by cases ah:sE p l part with|nil=>exact absurd ah hi|cons a r=>simp) (NV o) (X7 ⟨l,p,part⟩)) λr s ⟨i,j,cW,u0,Ob,aO,k3⟩=>?_
 subst cW;have ez:=c4.trans' k3;have kQ:=(k3.get H.n (by omega) (by simp[none_])).trans pf
 have n3:=k3.n;have aV:∀(n:Nat) (x:List V),(V.af n x).cells=some [.af n x]:=λ_ _=>rfl;have Yh:=u0;obtain⟨_,iY,oG,ph,qg,Be,aq⟩:=Yh;obtain⟨F,Y⟩:∃x,x=(s.push (.map [] 0)).push (.cells [.af l.length (l.flatMap al),.int .i64 p,.af (gl p l).length (ao (gl p l)),.int .i64 part,.ptr i 0,.map s.n] 150 none):=⟨_,rfl⟩;have dQ:J s F none_:=by rw[Y];exact(J.push _ _ _).bp _
 have yU:F.n=s.n+2:=by rw[Y];rfl
 have aa:F.get (s.n+1)=.cells [.af l.length (l.flatMap al),.int .i64 p,.af (gl p l).length (ao (gl p l)),.int .i64 part,.ptr i 0,.map s.n] 150 none:=by rw[Y];exact zA
 have yW:F.get s.n=.map [] 0:=by rw[Y];exact yL
 have Tp:=(dQ.get H.n (by omega) (by simp[none_])).trans kQ
 have kK:=ez.trans' dQ;simp only[ae,ds,AS,By,km,kH,jh,ap4,aqu,kQ,ln,pb];rw[<-Y];simp only[ae,ds,AS,pM,Tp];clear Y;obtain⟨G,Z⟩:∃x,x=uC (uC (uC (uC ow i (id,2)) j (id,3)) s.n (id,4)) (s.n+1) (id,1):=⟨_,rfl⟩;have cE:G (s.n+1)=(id,1):=by rw[Z];exact JN _ _ _
 have wA:G s.n=(id,4):=by rw[Z,vQ (by omega)];exact JN _ _ _
 have iI:G j=(id,3):=by rw[Z,vQ (by omega),vQ (by omega)];exact JN _ _ _
 have bT:G i=(id,2):=by rw[Z,vQ (by omega),vQ (by omega),vQ ph];exact JN _ _ _
 have JO:∀q,q≠i->q≠j->q≠s.n->q≠s.n+1->G q=ow q:=λq z ad s bn=>by rw[Z,vQ bn,vQ s,vQ ad,vQ z]
 clear Z;have f5:Fr F G:=λq R=>(JO q (by omega) (by omega) (by omega) (by omega)).trans (f q (by omega))
 have B4:∀q,q<h.n->G q=ow q:=λq R=>JO q (by omega) (by omega) (by omega) (by omega)
 have Oc:lA F G id (s.n+1) ⟨i,j,s.n,[],0⟩ ⟨l,p,part⟩ 0 :=
  ⟨by omega,aa,cE,⟨rfl,by show i<F.n;omega,by show j<F.n;omega,ph,(dQ.get i iY (by simp[none_])).trans qg,(dQ.get j oG (by simp[none_])).trans Be,aq⟩,⟨bT,iI⟩,by show s.n<F.n;omega,yW,wA,λu K hu=>absurd hu (Nat.not_lt_zero _),λu _=>rfl⟩
 obtain⟨m,hm⟩:∃m,m=s.n+1:=⟨_,rfl⟩;rw[<-hm]at Oc⊢;have ax:(gl p l)=(bw.mk l p part).P:=rfl;refine aS.bI (α:=Nat×cT×At) (λx S h'=>S 1=.int .i64 part/\S 10=.af (gl p l).length (ao (gl p l))/\S 13=.ptr m 0/\S 58=.af l.length (l.flatMap al)/\S 59=.int .i64 (l.length:Int)/\S 60=.int .i64 (x.1:Nat)/\x.1<=l.length /\
   lA h' x.2.1 id m x.2.2 ⟨l,p,part⟩ x.1/\Fr h' x.2.1/\J h h' none_/\(∀q,q<h.n->x.2.1 q=ow q)/\x.2.2.mp=s.n) (λx=>l.length-x.1) (0,G,⟨i,j,s.n,[],0⟩)
  ⟨rfl,rfl,rfl,rfl,rfl,rfl,Dy _,Oc,f5,kK,B4,rfl⟩ ?_
 clear Oc f5 B4 JO cE bT iI wA aa yW Tp qg Be u0 kQ pf gt;have zN:h.n<=s.n:=by omega
 rintro⟨x,T,b⟩ S dh ⟨f1,L,A,M,C,B,ah,uh,f6,HS,E5,yk⟩
 simp only at B ah uh f6 E5 yk;refine wpS ?_;by_cases aD:x<l.length;rotate_left
 ·have d1:=eC (a:=x) (b:=l.length) (by omega)
  simp only[ae,ds,A,C,B,d1,aP,aDx,da];exact ar ⟨HS,.inr ⟨D,m,b,T,rfl,uh.done (by show l.length<=x;omega),E5,f6⟩⟩
 have d1:=dV (a:=x) (b:=l.length) (by omega)
 have hw:=mQ aD (by omega)
 have Od:x<(gl p l).length:=by omega
 have dL:gP mc 22 (.af l.length (l.flatMap al)) (.int .i64 (x:Int))=some (.at (al l[x]++(l.drop (x+1)).flatMap al)):=tR la aD En;have bV:=vq (P:=mc) (kk:=.i64) Od iS;have az:(gl p l)[x]?=some (gl p l)[x]:=IA Od;have yf:l[x]?=some l[x]:=IA aD;have B5:=(E.2 _ (ayM aD)).1;have Tq:=o.gH (u:=x) yf;have N:(bw.mk l p part).ee x=if(gl p l)[x]=part then qz l[x].kind l[x].n else none:=by
  unfold bw.ee;rw[<-ax,az];simp only[Option.some.injEq,yf]
 generalize(gl p l)[x]=sL at bV N;generalize l[x]=v at dL B5 Tq N yf;have jC:∀(q:List V),cJ (some (some 6)) (some (al v++q))=some (.agg (al v)):=λq=>be (la v);have aB:cJ (some (some 6)) (some (al v))=some (.agg (al v)):=by have:=jC [];rwa[List.append_nil]at this
 have aI:(V.agg (al v)).cells=some (al v):=rfl;have aJ:bA (some 6) (aR.cells [V.int .i64 0,.ag,.int .i64 0,.int .i64 0,.ag,.int .i64 0] 68 none) 0 (al v)=some (.cells (al v) 68 none):=by
  rw[uR (n:=6) (la _) (C9 _),if_pos (by decide),ss];rfl
 obtain⟨xW,vd,oa,g7,n7⟩:=b0 dh (.cells (al v) 68 none);have aM:cO (.cells (al v) 68 none) 0=some (al v):=by simp[Kw,la]
 have W:=uh.ba oa;have f7:Fr xW T:=λq R=>f6 q (by omega)
 have sX:=HS.trans' oa;simp only[ae,ds,aY,pN,rM,rN,f1,L,M,C,B,d1,dL,bV,jC,aI,aJ];rw[<-vd];clear vd;by_cases aW:sL=part;rotate_left
 ·have c5:(sL !=part)=true:=by simpa using aW
  rw[if_neg aW]at N;simp only[ae,ds,reduceCtorEq,A,B,c5,hw];exact ar ⟨(x+1,T,b),⟨f1,L,A,M,C,rfl,by simp only;omega,W.skip N,f7,sX,E5,yk⟩,by simp only;omega⟩
 have c5:(sL !=part)=false:=by simpa using aW
 rw[if_pos aW]at N;simp only[ae,ds,pN,c5,g7,aM,aB];by_cases Oe:v.kind=6\/v.kind=7\/v.kind=8
 ·obtain⟨⟨K,ct⟩,Of⟩:=af8 Tq.2.2 Oe;rw[ct]at N;refine cA (att v ct Of B5 xW (aw.1.ai sX)) λr X ⟨a,O,G3,Q,lu,iH⟩=>?_;subst G3;have put:=W.put f7 N yf Of Q lu iH;have Tr:=(Q.get m W.lt (by simp[none_])).trans W.get
  have qE:(bw.mk l p part).cells b=[.af l.length (l.flatMap al),.int .i64 p,.af (gl p l).length (ao (gl p l)),.int .i64 part,.ptr b.lR 0,.map b.mp]:=rfl;rw[qE]at Tr;have aN:=(Q.get b.mp W.lS (by simp[none_])).trans W.map
  have up:=UC (P:=mc) (k:=(x:Int)) (a:=a) (v:=.ptr a 0) ut aN rfl;have jy:((0:Int)==0)=true:=rfl;simp only[ae,ds,AS,By,Ga,Gg,A,B,Tr,up,hw];have cz:J X (X.set b.mp (.map (mapOf .i64 xT (fm b.cl b.es (x:Int) a)) (oN b.cl b.es (x:Int)))) (·=b.mp):=J.set _ _ _;have n8:=Q.n;exact ar ⟨(x+1,dF T xW.n X.n (id,10+x),⟨b.lR,b.uz,b.mp,fm b.cl b.es (x:Int) a,oN b.cl b.es (x:Int)⟩),⟨f1,L,A,M,C,rfl,by simp only;omega,put,λq R=>by
   have dK:X.n<=q:=R;show dF T xW.n X.n (id,10+x) q=_;unfold dF;rw[if_neg (by omega)];exact f7 q (by omega),(sX.trans' Q).trans cz λq R e=>by omega,λq R=>by
   have:=sX.n;show dF T xW.n X.n (id,10+x) q=_;rw[Av (by omega)];exact E5 q R,yk⟩,by simp only;omega⟩
 ·refine cA (auX v (by omega) B5 xW (aw.1.ai sX)) λr X ⟨G3,Q⟩=>?_
  subst G3;have tv:qz v.kind v.n=none:=by
   cases U:qz v.kind v.n with
   | none=>rfl
   | some K=>have:=au7 U;omega
  rw[tv]at N;have jy:((1:Int)==0)=false:=rfl;simp only[ae,ds,B,jy,hw];exact ar ⟨(x+1,T,b),⟨f1,L,A,M,C,rfl,by simp only;omega,(W.ba Q).skip N,λq R=>f7 q (by have:=Q.n;omega),sX.trans' Q,E5,yk⟩,by simp only;omega⟩
end Go.Proofs.YtemdgidnhgcafaaGreatDoor.Pk
namespace Go.Proofs.YtemdgidnhgcafaaGreatDoor.Pk
open Go Go.Proofs Go.Proofs.YtemdgidnhgcafaaGreatDoor.Ab
structure ay1 where
 v:Int
 r:Rec
 d:Bool
 c:an
structure y2(c:bw)(s:fs):Prop where
 aM:Az c s
 wf:∀u K,c.ee u=some K->dX K (s.st u)
 agN:H7 c s
theorem avp{c:bw}(o:fM c):y2 c (fs.new c):=⟨agv c,auZ c o,avf c⟩
theorem Yi{c:bw}(o:fM c){s:fs}(g:y2 c s)(v:Int)(r:Rec):y2 c (stepT c s v r).1.1 :=
 ⟨(Ye o g.aM g.wf v r).1,(Ye o g.aM g.wf v r).2.1,avg o g.agN g.wf v r⟩
theorem Yj{c:bw}(o:fM c){s:fs}(g:y2 c s)(v:Int)(r:Rec):sz (stepT c s v r).1<=2^22:=(Ye o g.aM g.wf v r).2.2
end Go.Proofs.YtemdgidnhgcafaaGreatDoor.Pk
namespace Go.Proofs.YtemdgidnhgcafaaGreatDoor.Pk
open Go Go.Proofs Go.Proofs.YtemdgidnhgcafaaGreatDoor.Ab
def agO:bw:=⟨eI,1,0⟩
theorem avq:(cg 1 eI).2=0:=by decide
theorem Og:fM agO:=⟨avq,aeR⟩
end Go.Proofs.YtemdgidnhgcafaaGreatDoor.Pk
namespace Go.Proofs.YtemdgidnhgcafaaGreatDoor.Pk
open Go Go.Proofs Go.Proofs.YtemdgidnhgcafaaGreatDoor.Ab
end Go.Proofs.YtemdgidnhgcafaaGreatDoor.Pk
namespace Go.Proofs.YtemdgidnhgcafaaGreatDoor.Pk
open Go Go.Proofs Go.Proofs.YtemdgidnhgcafaaGreatDoor.Ab
def fd(x:fR):List V:=[.af x.outs.length (x.outs.flatMap iw),.af x.verts.length (ao x.verts),kF x.chgs,.af x.deads.length (x.deads.flatMap q6)]
theorem avr{P:Program}{t:TypeId}{T:lM}(z:gp P t=some T)(q:0<T.sz){α:Type}{enc:α->List V}(i:∀a,(enc a).length=T.sz)(A:∀a,(enc a).all (·.one)=true)(B:Ab.et P t=some 1)(ak:T.aq<=1024)
  {h:I} {s:V} {cs:List α} (o:Own h T.e T.sz s (cs.flatMap enc)) (L:cs.length<=2^36) (c:α) :
  ∃j h',ki P t t s (.bg h.n 0 1 1) (h.push (.cells (enc c) T.e none))=some (j,h')/\Own h' T.e T.sz j ((cs++[c]).flatMap enc)/\J (h.push (.cells (enc c) T.e none)) h' (a7 s)/\cu (h.push (.cells (enc c) T.e none)) s j:=by
 have k:J h (h.push (.cells (enc c) T.e none)) none_:=J.push _ _ _;have C:Own (h.push (.cells (enc c) T.e none)) T.e T.sz (.bg h.n 0 1 1) (enc c):=Own.e4 _ 1 (by rw[i];omega) (by decide)
 have D:=tc (P:=P) (t:=t) B C (n:=1) (by rw[i];omega) q (A c)
 obtain⟨j,h',E,F,G,H⟩:=sj (P:=P) (t:=t) (tx:=t) z q (o.ba k) D (by rw[i];omega) (λm u=>by
  rw[fJ i,i]at u;have:m=cs.length+1:=Nat.eq_of_mul_eq_mul_right q (by rw[u,Nat.add_mul];omega)
  subst this;have N:(cs.length+1)*T.aq<=(2^36+1)*1024:=Nat.mul_le_mul (by omega) ak
  exact⟨by simp only[lim];omega,by simp only[lim];omega⟩)
 refine⟨j,h',E,?_,G,H⟩;rw[List.flatMap_append];simpa using F
structure AF(id m:Nat)(b:At)(c:bw)(h:I)(ow:cT)(s:fs)(x:fR)(t:Nat)(H:I)(ow':cT):Prop where
 eb:hf H ow' id m b c s
 get:H.get t=.cells (fd x) 101 none
 lt:t<H.n
 new:h.n<=t
 own:ow' t=(0,0)
 ai:J h H (λq=>(ow q).1=id)
 bD:∀q,q<h.n->ow' q=ow q
 aX:Fr H ow'
section
variable {id m:Nat} {b:At} {c:bw} {h bM:I} {ow eK:cT} {s:fs} {x:fR}
theorem AF.push(k:hf bM eK id m b c s)(u:∀q,q<h.n->eK q=ow q)(f:Fr bM eK)(j:J h bM (λq=>(ow q).1=id)):AF id m b c h ow s x bM.n (bM.push (.cells (fd x) 101 none)) eK:=by
 have i:J bM (bM.push (.cells (fd x) 101 none)) none_:=J.push _ _ _;exact⟨k.ba i,fv,by rw[df];omega,j.n,f _ (BY _),j.trans i λ_ _ e=>e.elim,u,λq z=>f q (ajy i.n z)⟩
theorem AF.set{ob:aR}(B:id≠0)(aX:Fr h ow)(k:hf bM eK id m b c s)(j:∀q,q<(h.push ob).n->eK q=ow q)(f:Fr bM eK)(u:J (h.push ob) bM (λq=>(ow q).1=id)):AF id m b c h ow s x h.n (bM.set h.n (.cells (fd x) 101 none)) eK:=by
 have C:J h (h.push ob) none_:=J.push _ _ _;have D:=u.n;rw[df]at D;have z:J bM (bM.set h.n (.cells (fd x) 101 none)) (·=h.n):=J.set _ _ _;have A:eK h.n=(0,0):=(j _ (by rw[df];omega)).trans (aX _ (BY _))
 exact⟨k.ai z (λq _ e=>by subst e;rw[A];exact λe=>B e.symm) λ_ _=>rfl,aL,by show h.n<bM.n;omega,BY _,A,((C.up.trans u λq _ e=>e).trans z λq i e=>by omega),λq i=>j q (by rw[df];omega),λq i=>f q i⟩
end
theorem Own.apart{h:I}{e bc:TypeId}{sz q:Nat}{v:V}{cs c:List V}{x:Option Nat}(o:Own h e sz v cs)(g:h.get q=.cells c bc x)(j:e≠bc):¬a7 v q:=λU=>by
 rcases o with⟨rfl|rfl,_⟩|⟨i,len,cap,u,z,rfl,hi,s,_⟩
 ·cases U
 ·cases U
 ·obtain rfl:i=q:=Option.some.inj U;rw[s]at g;injection g with g1 g2;exact j g2
end Go.Proofs.YtemdgidnhgcafaaGreatDoor.Pk
namespace Go.Proofs.YtemdgidnhgcafaaGreatDoor.Pk
open Go Go.Proofs Go.Proofs.YtemdgidnhgcafaaGreatDoor.Ab
theorem Yk{i n:Nat}(h:i<n)(a:n<=2^62):aOT.i64.wrap ((i:Int)+1)=((i+1:Nat):Int):=by rw[Go.IntWalk.i64_in _ (by omega)];rfl
theorem avs{l:List Int}{k:Nat}(a:k<l.length):(ao l).drop (k*1)=.int .i64 l[k]::ao (l.drop (k+1)):=by
 rw[ajD];unfold ao;rw[<-List.map_drop,azg a];rfl
theorem avt{l:List Int}{k:Nat}(a:k<l.length){t:TypeId}(i:dC mc t=some 1):gP mc t (.af l.length (ao l)) (.int .i64 (k:Int))=some (.at (.int .i64 l[k]::ao (l.drop (k+1)))):=by
 rw[I6 i (by omega) (by omega) (by rw[am];omega),ayQ,avs a]
structure uD where
 k:Int
 v:Int
 t:Int
 deriving DecidableEq
structure bC where
 kind:Int
 task:Int
 cZ:Int
 hG:Int
 log:Int
 r:uD
 del:Bool
 offs:List Int
 order:List Int
 deriving DecidableEq
def kV(r:uD):List V:=[.int .i64 r.k,.int .i64 r.v,.int .i64 r.t]
def br(x:bC):List V:=[.int .i64 x.kind,.int .i64 x.task,.int .i64 x.cZ,.int .i64 x.hG,.int .i64 x.log,.int .i64 x.r.k,.int .i64 x.r.v,.int .i64 x.r.t,.bool x.del,.af x.offs.length (ao x.offs),.af x.order.length (ao x.order)]
theorem w9(r:bC):(br r).length=11:=rfl
theorem avu(r:uD):bb (kV r):=bb.cons (a8.int _ _) (bb.cons (a8.int _ _) (bb.cons (a8.int _ _) bb.nil))
theorem avv(r:bC):bb (br r):=bb.cons (a8.int _ _) (bb.cons (a8.int _ _) (bb.cons (a8.int _ _) (bb.cons (a8.int _ _) (bb.cons (a8.int _ _) (bb.cons (a8.int _ _) (bb.cons (a8.int _ _) (bb.cons (a8.int _ _) (bb.cons (a8.bool _) (bb.cons (a8.af (yM _)) (bb.cons (a8.af (yM _)) bb.nil))))))))))
def Dl:uD:=⟨0,0,0⟩
def fit(n:Int):Bool:=decide (0<=n)&&decide (n<=1048576)
def Bo(t:Int):Bool:=decide (0<=t)&&decide (t<=1099511627776)
def vR(x:bC):Bool :=
 (decide (2<=x.kind/\x.kind<=5)||(x.task==0&&x.cZ==0))&&(decide (2<=x.kind/\x.kind<=4)||x.hG==0)&&(decide (x.kind<=2)||(x.log==0&&decide (x.r=Dl))) &&
  (decide (x.kind=2)||!x.del)&&(decide (x.kind=3)||(x.offs.length==0&&x.order.length==0))
def lB(x:bC):Bool :=
 decide (1<=x.kind)&&decide (x.kind<=6)&&fit x.task&&fit x.cZ&&fit x.hG&&fit x.log&&Bo x.r.t&&decide (x.offs.length<=8)&&x.offs.all fit&&decide (x.order.length<=256)&&x.order.all fit&&vR x
theorem E6(x:bC):lB x=true↔(1<=x.kind/\x.kind<=6)/\fit x.task=true/\fit x.cZ=true/\fit x.hG=true/\fit x.log=true/\Bo x.r.t=true/\x.offs.length<=8/\(∀n∈x.offs,fit n=true)/\x.order.length<=256/\(∀n∈x.order,fit n=true)/\vR x=true:=by
 simp only[lB,Bool.and_eq_true,decide_eq_true_eq,ayL,and_assoc]
theorem i7(n:Int):fit n=true↔0<=n/\n<=1048576:=by simp[fit]
theorem avw(n:Int):Bo n=true↔0<=n/\n<=1099511627776:=by simp[Bo]
theorem avx:F3 mc 179=some (8,2,true):=by kernel_rfl
theorem agP(l:List Int)(h:I)(G:l.length<=2^47):Pure mc 42 [.af l.length (ao l)] h (.bool (l.all fit)):=by
 refine bd aGn rfl ?_;simp only[ae,ds,reduceCtorEq,fB];refine aS.bI (α:=Nat) (λi f h'=>h'=h/\f 5=.af l.length (ao l)/\f 6=.int .i64 l.length/\f 7=.int .i64 (i:Nat)/\i<=l.length/\(l.take i).all fit=true) (λi=>l.length-i) 0
  ⟨rfl,rfl,rfl,rfl,Dy _,rfl⟩ ?_
 rintro i f h' ⟨rfl,u,j,z,hi,aT⟩
 refine wpS ?_;by_cases m:i<l.length
 ·have q:=dV (a:=i) (b:=l.length) (by omega)
  have A:=avt (l:=l) m iS;have C:l.all fit=true->fit l[i]=true:=λU=>ayL.1 U _ (ayM m);by_cases B:l[i]<0
  ·have s:l.all fit=false:=by
    cases U:l.all fit with
    | false=>rfl
    | true=>have:=(i7 _).1 (C U);omega
   simp only[ae,ds,aY,u,j,z,q,A,B,aP,aBi,ac];exact ar ⟨by rw[s],rfl⟩
  by_cases D:1048576<l[i]
  ·have s:l.all fit=false:=by
    cases U:l.all fit with
    | false=>rfl
    | true=>have:=(i7 _).1 (C U);omega
   simp only[ae,ds,aY,u,j,z,q,A,B,D,aP,aBi,ac];exact ar ⟨by rw[s],rfl⟩
  ·have E:fit l[i]=true:=(i7 _).2 (by omega)
   have F:=Yk m (by omega)
   simp only[ae,ds,aY,u,j,z,q,A,B,D,F];refine ar ⟨i+1,⟨rfl,u,j,rfl,m,?_⟩,by omega⟩
   rw[azi m,aAI,aT];simp[E]
 ·have q:=eC (a:=i) (b:=l.length) (by omega)
  have s:l.all fit=true:=by rw[show i=l.length by omega,azG]at aT;exact aT
  simp only[ae,ds,j,z,q,aP,aBi,ac];exact ar ⟨by rw[s],rfl⟩
theorem avy(t:Int)(h:I):Pure mc 43 [.int .i64 t] h (.bool (Bo t)):=by
 refine bd Tryz.func43 rfl ?_;by_cases a:0<=t
 ·simp only[ae,ds,reduceCtorEq,a,aP,aGo,ac];exact ar ⟨by simp[Bo,a],rfl⟩
 ·simp only[ae,ds,reduceCtorEq,a,aP,aGo,ac];exact ar ⟨by simp[Bo,a],rfl⟩
end Go.Proofs.YtemdgidnhgcafaaGreatDoor.Pk
namespace Go.Proofs.YtemdgidnhgcafaaGreatDoor.Pk
open Go Go.Proofs Go.Proofs.YtemdgidnhgcafaaGreatDoor.Ab
def JP(l:List Bool):List (Bool×Int):=[(l.getD 0 false,1),(l.getD 1 false,2),(l.getD 2 false,4),(l.getD 3 false,8),(l.getD 4 false,16),(l.getD 5 false,32),(l.getD 6 false,64),(l.getD 7 false,128)]
def uE(l:List (Bool×Int)):Int:=l.foldl (λa p=>if p.1 then wm .i64 a p.2 else a) 0
def Yl(l:List (Bool×Int)):List V:=l.flatMap λp=>[.bool p.1,.int .i64 p.2]
def JQ(x:bC):List Bool:=[decide (x.task≠0),decide (x.cZ≠0),decide (x.hG≠0),decide (x.log≠0),decide (x.r≠Dl),x.del,decide (0<x.offs.length),decide (0<x.order.length)]
def lb:List Int:=[0,24,63,199,7,3,0]
def lX:List V:=lb.map (.int .i64)
def pZ(h:I):Prop:=h.glob 0=some lX
theorem avz(k v t:Int){xo yo:Operand}:cV mc .neq 45 xo yo (.agg [.int .i64 k,.int .i64 v,.int .i64 t]) (.agg [.int .i64 0,.int .i64 0,.int .i64 0])=some (.bool (decide ((⟨k,v,t⟩:uD)≠Dl))):=by
 have h:ha [0,0,0] [.int .i64 k,.int .i64 v,.int .i64 t] [.int .i64 0,.int .i64 0,.int .i64 0]=some (decide ((⟨k,v,t⟩:uD)=Dl)):=by
  simp only[ha,if_true,azE,Option.some.injEq];rw[azm];simp[Dl]
 rw[aaB abU h];simp
theorem Nm(x:bC)(h:I):Pure mc 44 [.agg (br x)] h (.int .i64 (uE (JP (JQ x)))):=by
 refine Pure.val (a8.int _ _) ?_;refine bd Tryz.func44 rfl ?_;have av:(V.agg (br x)).cells=some (br x):=rfl;simp only[ae,av];obtain⟨H,hH,L,M,_⟩:=b0 h (.cells (br x) 48 none);rw[<-hH];refine aS.cS none_ [] (.q 0 (.q 1 (.q 2 (.q 3 (.q 4 (.q 5 (.q 6 (.q 7 (.q 8 (.q 9 (.q 10 (.q 11 (.q 12 (.q 13 (.q 14 (.q 15 (.q 16 (.q 17 (.q 18 (.q 19 (.q 20 (.q 21 (.q 22 (.q 23 (.q 24 (.q 25 (.q 26 (.q 27 (.q 28 (.q 29 (.q 30 (.q 31 (.q 32 (.q 33 (.q 34 (.q 35 .done)))))))))))))))))))))))))))))))))))) ?_;have ay:∀a:Int,(a !=0)=decide (a≠0):=λa=>by rw[azm];simp
 have bc:∀l:List Int,decide ((0:Int)<(l.length:Int))=decide (0<l.length):=λl=>by rw[azm];simp
 simp only[ae,bt,ds,AS,By,Nat.reduceMul,Qi,Ef,Jh,Ji,Qj,VB,LG,Qk,fB,aY,qR,dM,hL,ap8,ap9,Ek,VW,aqw,tg,M,br,avz,ay,bc];refine aS.bI (α:=Nat) (λi f h'=>J H h' none_/\f 40=.agg (Yl (JP (JQ x)))/\f 41=.int .i64 (i:Nat)/\f 3=.int .i64 (uE ((JP (JQ x)).take i))/\i<=8) (λi=>8-i) 0
  ⟨J.refl _ _,rfl,rfl,rfl,Dy _⟩ ?_
 rintro i f h' ⟨z,j,m,s,hi⟩
 refine wpS ?_;generalize N:JP (JQ x)=F at j s⊢;have D:F.length=8:=by rw[<-N];rfl
 by_cases A:i<8
 ·have u:decide ((i:Int)<8)=true:=by simp;omega
  have E:i<F.length:=by omega
  have G:=Yk A (by omega)
  have B:FK mc 179 (.agg (Yl F)) (.int .i64 (i:Int))=some (.agg [.bool F[i].1,.int .i64 F[i].2]):=by
   rw[aoG avx];simp only[Lc,ayQ,if_true];rw[if_pos ⟨by omega,by omega⟩,Yl,yN (sz:=2) (λ_=>rfl),azg E]
   rfl
  have C:uE (F.take (i+1))=if F[i].1 then wm .i64 (uE (F.take i)) F[i].2 else uE (F.take i):=by
   rw[azi E,uE,aAU];rfl
  generalize F[i]=p at B C;obtain⟨b,n⟩:=p;cases b
  ·simp only[ae,ds,AS,abo,qR,VW,IT,j,m,u,B,G];refine ar ⟨i+1,⟨z.bp _,j,rfl,?_,A⟩,by omega⟩
   rw[C];exact s
  ·simp only[ae,ds,AS,By,abo,apG,aY,qR,VW,IT,j,m,s,u,B,G];refine ar ⟨i+1,⟨z.bp _,j,rfl,?_,A⟩,by omega⟩
   rw[C];rfl
 ·have u:decide ((i:Int)<8)=false:=by simp;omega
  simp only[ae,ds,m,s,u,aP,Tryz.results44,ac];refine ar ⟨?_,L.trans' z⟩;rw[ajz (by omega)]
def agQ:Nat->List Bool->Bool:=λk l=>
 (decide (2<=k/\k<=5)||(!l.getD 0 false&&!l.getD 1 false))&&(decide (2<=k/\k<=4)||!l.getD 2 false)&&(decide (k<=2)||(!l.getD 3 false&&!l.getD 4 false)) &&
  (decide (k=2)||!l.getD 5 false)&&(decide (k=3)||(!l.getD 6 false&&!l.getD 7 false))
theorem avA:∀k∈[1,2,3,4,5,6],∀a b c d e f g i:Bool,(I0 .i64 (uE (JP [a,b,c,d,e,f,g,i])) (lb.getD k 0)==0)=agQ k [a,b,c,d,e,f,g,i]:=by
 decide +kernel
theorem avB(x:bC){k:Nat}(i:x.kind=(k:Int))(C:1<=k)(D:k<=6):(I0 .i64 (uE (JP (JQ x))) (lb.getD k 0)==0)=vR x:=by
 rw[JQ,avA k (by simp;omega)]
 have j:∀a:Int,(!decide (a≠0))=(a==0):=λa=>by rw[azm];simp
 have m:∀l:List Int,(!decide (0<l.length))=(l.length==0):=λl=>by rw[azm];simp
 have q:(!decide (x.r≠Dl))=decide (x.r=Dl):=by rw[azm];simp
 have s:decide (2<=(k:Int)/\(k:Int)<=5)=decide (2<=k/\k<=5):=decide_eq_decide.2 (by omega)
 have u:decide (2<=(k:Int)/\(k:Int)<=4)=decide (2<=k/\k<=4):=decide_eq_decide.2 (by omega)
 have z:decide ((k:Int)<=2)=decide (k<=2):=decide_eq_decide.2 (by omega)
 have A:decide ((k:Int)=2)=decide (k=2):=decide_eq_decide.2 (by omega)
 have B:decide ((k:Int)=3)=decide (k=3):=decide_eq_decide.2 (by omega)
 unfold agQ vR;rw[i,s,u,z,A,B];simp only[List.getD_cons_zero,List.getD_cons_succ,j,m,q]
end Go.Proofs.YtemdgidnhgcafaaGreatDoor.Pk
namespace Go.Proofs.YtemdgidnhgcafaaGreatDoor.Pk
open Go Go.Proofs Go.Proofs.YtemdgidnhgcafaaGreatDoor.Ab
theorem avC(h:I)(a b c d:Int):h3 mc 46 4 [(0,.int .i64 a),(1,.int .i64 b),(2,.int .i64 c),(3,.int .i64 d)] h=some (.bg h.n 0 4 4,h.push (.cells (ao [a,b,c,d]) 3 none)):=by rw[mD oQ];rfl
theorem avD(j:Nat)(l:List Int)(h:I)(S:l.length<=2^47)(L:h.get j=.cells (ao l) 3 none)(M:j<h.n):Pure mc 42 [.bg j 0 l.length l.length] h (.bool (l.all fit)):=by
 have N:Own h 3 1 (.bg j 0 l.length l.length) (ao l):=.inr ⟨j,l.length,l.length,ao l,none,rfl,M,L,by rw[am,ajD],by rw[ajD,ajz (by rw[am];exact BY _)],.inl ⟨by unfold b7;omega,by rw[am];omega,BY _⟩⟩
 refine bd aGn rfl ?_;simp only[ae,ds,reduceCtorEq,fB];refine aS.bI (α:=Nat) (λi f h'=>h'=h/\f 5=.bg j 0 l.length l.length/\f 6=.int .i64 l.length/\f 7=.int .i64 (i:Nat)/\i<=l.length/\(l.take i).all fit=true) (λi=>l.length-i) 0
  ⟨rfl,rfl,rfl,rfl,Dy _,rfl⟩ ?_
 rintro i f h' ⟨rfl,A,s,B,hi,aT⟩
 refine wpS ?_;by_cases m:i<l.length
 ·have u:=dV (a:=i) (b:=l.length) (by omega)
  obtain⟨q,D,F,⟨r,C⟩,_⟩:=KL (P:=mc) (kk:=.i64) iS N (k:=i) (by rw[am];exact m)
  simp only[aU,Option.some.injEq]at F;subst F;have O:(ao l)[i]'(by rw[am];exact m)=.int .i64 l[i]:=by simp[ao]
  rw[O]at C;have G:l.all fit=true->fit l[i]=true:=λU=>ayL.1 U _ (ayM m);by_cases E:l[i]<0
  ·have z:l.all fit=false:=by
    cases U:l.all fit with
    | false=>rfl
    | true=>have:=(i7 _).1 (G U);omega
   simp only[ae,ds,aY,A,s,B,u,D,C,E,aP,aBi,ac];exact ar ⟨by rw[z],rfl⟩
  by_cases H:1048576<l[i]
  ·have z:l.all fit=false:=by
    cases U:l.all fit with
    | false=>rfl
    | true=>have:=(i7 _).1 (G U);omega
   simp only[ae,ds,aY,A,s,B,u,D,C,E,H,aP,aBi,ac];exact ar ⟨by rw[z],rfl⟩
  ·have Q:fit l[i]=true:=(i7 _).2 (by omega)
   have R:=Yk m (by omega)
   simp only[ae,ds,aY,A,s,B,u,D,C,E,H,R];refine ar ⟨i+1,⟨rfl,A,s,rfl,m,?_⟩,by omega⟩
   rw[azi m,aAI,aT];simp[Q]
 ·have u:=eC (a:=i) (b:=l.length) (by omega)
  have z:l.all fit=true:=by rw[show i=l.length by omega,azG]at aT;exact aT
  simp only[ae,ds,s,B,u,aP,aBi,ac];exact ar ⟨by rw[z],rfl⟩
def vS(x:bC):Prop:=x.offs.length<=2^47/\x.order.length<=2^47
theorem avE(x:bC)(h:I)(N:pZ h)(i:vS x):Pure mc 15 [.agg (br x)] h (.bool (lB x)):=by
 refine Pure.val (a8.bool _) ?_;refine bd Tryz.func15 rfl ?_;have av:(V.agg (br x)).cells=some (br x):=rfl;by_cases A:x.kind<1
 ·have s:lB x=false:=by cases U:lB x with|false=>rfl|true=>have:=((E6 x).1 U).1;omega
  simp only[ae,ds,AS,yQ,aY,br,A,aP,aAt,ac];exact ar ⟨by rw[s],J.push _ _ _⟩
 by_cases C:6<x.kind
 ·have s:lB x=false:=by cases U:lB x with|false=>rfl|true=>have:=((E6 x).1 U).1;omega
  simp only[ae,ds,AS,yQ,aY,br,A,C,aP,aAt,ac];exact ar ⟨by rw[s],J.push _ _ _⟩
 simp only[ae,ds,AS,yQ,aY,br,A,C];obtain⟨H,hH,D,_,ib⟩:=b0 h (.cells (br x) 48 none);have E:H.get h.n=.cells [.int .i64 x.kind,.int .i64 x.task,.int .i64 x.cZ,.int .i64 x.hG,.int .i64 x.log,.int .i64 x.r.k,.int .i64 x.r.v,.int .i64 x.r.t,.bool x.del,.af x.offs.length (ao x.offs),.af x.order.length (ao x.order)] 48 none:=by rw[hH];exact fv
 have O:H.glob 0=some lX:=by rw[D.glob];exact N
 unfold br at hH;rw[<-hH];clear hH;obtain⟨k,F,Q,R⟩:∃k:Nat,x.kind=(k:Int)/\1<=k/\k<=6:=⟨x.kind.toNat,by omega,by omega,by omega⟩
 generalize ay:[x.task,x.cZ,x.hG,x.log].all fit=B;generalize bc:Bo x.r.t=G;have s:lB x=(B&&G&&decide (x.offs.length<=8)&&x.offs.all fit&&decide (x.order.length<=256)&&x.order.all fit&&vR x):=by
  have S:decide (1<=x.kind)=true:=decide_eq_true (by omega)
  have T:decide (x.kind<=6)=true:=decide_eq_true (by omega)
  simp only[lB,S,T,<-ay,<-bc,List.all_cons,List.all_nil,Bool.true_and,Bool.and_true,Bool.and_assoc]
 have u:decide ((x.offs.length:Int)<=8)=decide (x.offs.length<=8):=decide_eq_decide.2 (by omega)
 have z:decide ((x.order.length:Int)<=256)=decide (x.order.length<=256):=decide_eq_decide.2 (by omega)
 rw[s];have W:∀h':I,(h'=H.push (.cells (ao [x.task,x.cZ,x.hG,x.log]) 3 none))->Pure mc 42 [.bg H.n 0 4 4] h' (.bool B):=λh' U=>by
  rw[<-ay,U];exact avD H.n [x.task,x.cZ,x.hG,x.log] _ (by simp) fv (by rw[df];omega)
 refine aS.cS none_ [8,9] (.q 0 (.q 1 (.q 2 (.q 3 (.q 4 (.q 5 (.q 6 (.q 7 (.e 8 (.a 9 (.q 10 (.q 11 (.q 12 (.q 13 (.c 14 (.q 15 (.q 16 (.q 17 (.q 18 (.q 19 (.q 20 (.q 21 (.q 22 (.q 23 (.q 24 (.c 25 (.q 26 (.q 27 (.q 28 (.q 29 (.q 30 (.q 31 (.q 32 (.q 33 (.q 34 (.q 35 (.c 36 (.q 37 (.q 38 (.q 39 (.c 40 (.q 41 (.q 42 (.q 43 (.q 44 (.q 45 (.q 46 (.q 47 (.q 48 .done)))))))))))))))))))))))))))))))))))))))) .stop))))))))) ?_;have j:∀o,(H.push o).get h.n=.cells [.int .i64 x.kind,.int .i64 x.task,.int .i64 x.cZ,.int .i64 x.hG,.int .i64 x.log,.int .i64 x.r.k,.int .i64 x.r.v,.int .i64 x.r.t,.bool x.del,.af x.offs.length (ao x.offs),.af x.order.length (ao x.order)] 48 none:=λo=>by rw[iP (by omega)];exact E
 have X:∀(f:aj) (a:aR),aj.eval f (H.push a) (.global 0)=.at lX:=λf a=>Ks (by rw[FT];exact O)
 have m:∀o,J h (H.push o) none_:=λo=>D.bp o;simp only[ae,bt,ds,AS,By,Qi,Ef,Jh,Ji,aY,E,avC];refine bO (W _ rfl) ?_;cases B
 ·simp only[ae,bt,ds];refine rG rfl rfl ?_;simp only[ae,bt,ds];refine rG rfl rfl ?_;simp only[ae,bt,ds];refine rG rfl rfl ?_;simp only[ae,bt,ds];refine rG rfl rfl ?_;simp only[ae,bt,ds,aP,aAt,ac];exact ar ⟨rfl,m _⟩
 simp only[ae,bt,ds,AS,By,td,Qj,bR,j];refine fA rfl rfl rfl (λh' _=>avy x.r.t h') ?_;rw[bc];cases G
 ·simp only[ae,bt,ds];refine rG rfl rfl ?_;simp only[ae,bt,ds];refine rG rfl rfl ?_;simp only[ae,bt,ds];refine rG rfl rfl ?_;simp only[ae,bt,ds,aP,aAt,ac];exact ar ⟨rfl,m _⟩
 by_cases L:x.offs.length<=8;rotate_left
 ·have u:decide ((x.offs.length:Int)<=8)=false:=decide_eq_false (by omega)
  simp only[ae,bt,ds,AS,By,LG,fB,hL,j,u];refine rG rfl rfl ?_;simp only[ae,bt,ds];refine rG rfl rfl ?_;simp only[ae,bt,ds];refine rG rfl rfl ?_;simp only[ae,bt,ds,aP,aAt,ac];exact ar ⟨by simp[L],m _⟩
 have u:decide ((x.offs.length:Int)<=8)=true:=decide_eq_true (by omega)
 simp only[ae,bt,ds,AS,By,LG,fB,hL,j,u];refine fA rfl rfl rfl (λh' _=>agP x.offs h' i.1) ?_;generalize x.offs.all fit=Y;cases Y
 ·simp only[ae,bt,ds];refine rG rfl rfl ?_;simp only[ae,bt,ds];refine rG rfl rfl ?_;simp only[ae,bt,ds,aP,aAt,ac];exact ar ⟨by simp,m _⟩
 by_cases M:x.order.length<=256;rotate_left
 ·have z:decide ((x.order.length:Int)<=256)=false:=decide_eq_false (by omega)
  simp only[ae,bt,ds,AS,By,Qk,fB,hL,j,z];refine rG rfl rfl ?_;simp only[ae,bt,ds];refine rG rfl rfl ?_;simp only[ae,bt,ds,aP,aAt,ac];exact ar ⟨by simp[M],m _⟩
 have z:decide ((x.order.length:Int)<=256)=true:=decide_eq_true (by omega)
 simp only[ae,bt,ds,AS,By,Qk,fB,hL,j,z];refine fA rfl rfl rfl (λh' _=>agP x.order h' i.2) ?_;generalize x.order.all fit=Z;cases Z
 ·simp only[ae,bt,ds];refine rG rfl rfl ?_;simp only[ae,bt,ds,aP,aAt,ac];exact ar ⟨by simp,m _⟩
 have fZ:(if(0:Int)<=x.kind/\x.kind<((7:Nat):Int)/\(x.kind.toNat*1)<=lX.length then some (V.at (lX.drop (x.kind.toNat*1)))else none)=some (.at (.int .i64 (lb.getD k 0)::lX.drop (k+1))):=by
  rw[F,if_pos ⟨by omega,by omega,by simp[lX,lb];omega⟩]
  have:lX.drop ((k:Int).toNat*1)=.int .i64 (lb.getD k 0)::lX.drop (k+1):=by
   rw[ayQ,ajD,azg (by simp[lX,lb];omega)]
   simp[lX,List.getD,IA (show k<lb.length by simp[lb];omega)]
  rw[this]
 simp only[ae,bt,ds,AS,Gj,j];refine fA rfl rfl rfl (λh' _=>Nm x h') ?_;simp only[ae,bt,ds,AS,apv,yQ,aY,aqn,j,X,fZ,avB x F Q R,aP,aAt,ac];exact ar ⟨by simp[L,M],m _⟩
end Go.Proofs.YtemdgidnhgcafaaGreatDoor.Pk
namespace Go.Proofs.Vw
variable {E R:Type}
structure p0(R:Type) where
 kind:Nat
 task:Int
 ep:Int
 tx:Int
 log:Int
 xX:R
 offs:List Int
 ord:List Int
structure nq(R:Type) where
 ep:Int
 tx:Int
 offs:List Int
 ord:List Int
 opn:List (p0 R×Nat)
def Ym:nq R:=⟨0,0,[],[],[]⟩
structure ns(R:Type) where
 logs:Int->List R
 tasks:Int->Option (nq R)
def Dm:ns R:=⟨λ_=>[],λ_=>none⟩
def q9(f:Int->List R)(x:p0 R):Int->List R:=λn=>if n=x.log then f n++[x.xX]else f n
def sr(f:Int->List R)(l:List (p0 R×Nat)):Int->List R:=l.foldl (λg p=>q9 g p.1) f
def lV(s:ns R)(t:Int):nq R:=(s.tasks t).getD Ym
def lC(s:ns R)(t:Int)(j:nq R):ns R:={ s with tasks:=λn=>if n=t then some j else s.tasks n }
def Ry(j:nq R)(ep:Int):nq R:=if j.ep<ep then { j with ep:=ep,opn:=[] }else j
def step(s:ns R)(x:p0 R)(i:Nat):ns R :=
 if x.kind=1 then { s with logs:=q9 s.logs x }
 else if x.kind=5 then lC s x.task (Ry (lV s x.task) x.ep)
 else if 2<=x.kind/\x.kind<=4 then
  (if x.ep≠(lV s x.task).ep\/x.tx≠(lV s x.task).tx then lC s x.task (lV s x.task)
  else if x.kind=2 then lC s x.task { lV s x.task with opn:=(lV s x.task).opn++[(x,i)] }
  else if x.kind=3 then
   { logs:=sr s.logs (lV s x.task).opn,tasks:=(lC s x.task ⟨(lV s x.task).ep,(lV s x.task).tx+1,x.offs,(lV s x.task).ord++x.ord,[]⟩).tasks }
  else lC s x.task { lV s x.task with tx:=(lV s x.task).tx+1,opn:=[] })
 else s
def run:ns R->Nat->List (p0 R)->ns R
 | s,_,[]=>s
 | s,i,x::r=>run (step s x i) (i+1) r
theorem agR:∀(a b:List (p0 R)) (s:ns R) (i:Nat),run s i (a++b)=run (run s i a) (i+a.length) b
 | [],b,s,i=>rfl
 | x::a,b,s,i=>by
  rw[azv,run,run,agR a b,List.length_cons,show i+1+a.length=i+(a.length+1)by omega]
theorem avF(f:Int->List R):∀(l:List (p0 R×Nat)) (n:Int),∃m,sr f l n=f n++m:=by
 intro l
 induction l generalizing f with
 | nil=>exact λn=>⟨[],by simp[sr]⟩
 | cons p l ih=>
  intro n;obtain⟨m,a⟩:=ih (q9 f p.1) n;refine⟨(if n=p.1.log then [p.1.xX]else [])++m,?_⟩
  show sr (q9 f p.1) l n=_;rw[a];unfold q9;split<;>simp
def r0(a b:nq R):Prop:=a.ep<=b.ep/\a.tx<=b.tx/\∃m,b.ord=a.ord++m
def s4(a b:ns R):Prop:=(∀n,∃m,b.logs n=a.logs n++m)/\(∀t,r0 (lV a t) (lV b t))/\∀t,(a.tasks t).isSome=true->(b.tasks t).isSome=true
theorem r0.refl(a:nq R):r0 a a:=⟨az4 _,az4 _,[],by simp⟩
theorem r0.trans{a b c:nq R}(x:r0 a b)(y:r0 b c):r0 a c:=by
 obtain⟨i,j,m,s⟩:=x;obtain⟨u,z,k,A⟩:=y;exact⟨aAT i u,aAT j z,m++k,by rw[A,s,axV]⟩
theorem s4.refl(a:ns R):s4 a a:=⟨λn=>⟨[],by simp⟩,λt=>r0.refl _,λt h=>h⟩
theorem s4.trans{a b c:ns R}(x:s4 a b)(y:s4 b c):s4 a c :=
 ⟨λn=>by obtain⟨m,i⟩:=x.1 n;obtain⟨k,j⟩:=y.1 n;exact⟨m++k,by rw[j,i,axV]⟩,λt=>(x.2.1 t).trans (y.2.1 t),λt h=>y.2.2 t (x.2.2 t h)⟩
theorem avG(s:ns R)(t:Int)(j:nq R)(u:Int):lV (lC s t j) u=if u=t then j else lV s u:=by
 unfold lV lC;by_cases h:u=t<;>simp[h]
theorem Oh{s:ns R}{t:Int}{j:nq R}(h:r0 (lV s t) j):s4 s (lC s t j):=by
 refine⟨λn=>⟨[],by simp[lC]⟩,λu=>?_,λu a=>?_⟩
 ·rw[avG];split
  ·rename_i i;rw[i];exact h
  ·exact r0.refl _
 ·unfold lC;simp only;split
  ·rfl
  ·exact a
theorem avH(s:ns R)(x:p0 R)(i:Nat):s4 s (step s x i):=by
 unfold step;split
 ·refine⟨λn=>?_,λt=>r0.refl _,λt h=>h⟩;simp only[q9];split
  ·exact⟨[x.xX],rfl⟩
  ·exact⟨[],by simp⟩
 split
 ·refine Oh ?_;unfold Ry;split
  ·rename_i h;exact⟨Int.le_of_lt h,az4 _,[],by simp⟩
  ·exact r0.refl _
 split
 ·split
  ·exact Oh (r0.refl _)
  split
  ·exact Oh ⟨az4 _,az4 _,[],by simp⟩
  split
  ·refine⟨λn=>avF _ _ n,λt=>?_,λt h=>?_⟩
   ·have:=(Oh (s:=s) (t:=x.task) (j:=⟨(lV s x.task).ep,(lV s x.task).tx+1,x.offs,(lV s x.task).ord++x.ord,[]⟩) ⟨az4 _,by simp only;omega,x.ord,rfl⟩).2.1 t
    exact this
   ·simp only[lC];split
    ·rfl
    ·exact h
  ·exact Oh ⟨az4 _,by simp only;omega,[],by simp⟩
 ·exact s4.refl _
theorem agS:∀(l:List (p0 R)) (s:ns R) (i:Nat),s4 s (run s i l)
 | [],s,i=>s4.refl s
 | x::l,s,i=>(avH s x i).trans (agS l _ _)
theorem ay2(a b:List (p0 R)):s4 (run Dm 0 a) (run Dm 0 (a++b)):=by
 rw[agR];exact agS _ _ _
end Go.Proofs.Vw
namespace Go.Proofs.Vw
variable {R:Type}
def xY(j:nq R)(x:p0 R)(i:Nat):nq R×List (p0 R×Nat) :=
 if x.kind=5 then(Ry j x.ep,[])
 else if x.ep≠j.ep\/x.tx≠j.tx then(j,[])
 else if x.kind=2 then({ j with opn:=j.opn++[(x,i)] },[])
 else if x.kind=3 then(⟨j.ep,j.tx+1,x.offs,j.ord++x.ord,[]⟩,j.opn)
 else({ j with tx:=j.tx+1,opn:=[] },[])
def sM:nq R->Nat->List (p0 R)->nq R×List (p0 R×Nat)
 | j,_,[]=>(j,[])
 | j,i,x::r=>((sM (xY j x i).1 (i+1) r).1,(xY j x i).2++(sM (xY j x i).1 (i+1) r).2)
def Bp(l:List (p0 R×Nat))(n:Int):List R:=(l.filter λp=>p.1.log==n).map λp=>p.1.xX
theorem agT:∀(l:List (p0 R×Nat)) (f:Int->List R) (n:Int),sr f l n=f n++Bp l n
 | [],f,n=>by simp[sr,Bp]
 | p::l,f,n=>by
  show sr (q9 f p.1) l n=_;rw[agT l];unfold q9 Bp;by_cases h:n=p.1.log
  ·rw[if_pos h,List.filter_cons_of_pos (by simp[h])];simp
  ·rw[if_neg h,List.filter_cons_of_neg (by simp;omega)]
theorem agU(s:ns R)(x:p0 R)(i:Nat)(a:2<=x.kind/\x.kind<=5) :
  (step s x i).tasks=(lC s x.task (xY (lV s x.task) x i).1).tasks/\∀n,(step s x i).logs n=s.logs n++Bp (xY (lV s x.task) x i).2 n:=by
 unfold step xY;rw[if_neg (by omega)]
 split
 ·exact⟨rfl,λn=>by simp[lC,Bp]⟩
 ·rw[if_pos (by omega)]
  split
  ·exact⟨rfl,λn=>by simp[lC,Bp]⟩
  ·split
   ·exact⟨rfl,λn=>by simp[lC,Bp]⟩
   ·split
    ·exact⟨rfl,λn=>agT _ _ _⟩
    ·exact⟨rfl,λn=>by simp[lC,Bp]⟩
theorem avI(s:ns R)(x:p0 R)(i:Nat)(a:2<=x.kind/\x.kind<=5)(u:Int):(step s x i).tasks u=if u=x.task then some (xY (lV s x.task) x i).1 else s.tasks u:=by
 rw[(agU s x i a).1];rfl
def H8(a b:nq R):Prop:=a.ep=b.ep/\a.tx=b.tx/\a.offs=b.offs/\a.ord=b.ord/\a.opn.map aAf=b.opn.map aAf
theorem H8.refl(a:nq R):H8 a a:=⟨rfl,rfl,rfl,rfl,rfl⟩
theorem agV(Q:p0 R->Prop):∀(l:List (p0 R)) (j:nq R) (i:Nat),(∀p∈j.opn,Q p.1)->(∀x∈l,x.kind=2->Q x)->(∀p∈(sM j i l).2,Q p.1)/\∀p∈(sM j i l).1.opn,Q p.1
 | [],j,i,m,_=>⟨(λp a=>by cases a),m⟩
 | x::l,j,i,m,q=>by
  have s:(∀p∈(xY j x i).2,Q p.1)/\∀p∈(xY j x i).1.opn,Q p.1:=by
   unfold xY Ry;split
   ·refine⟨λp a=>(by cases a),?_⟩
    split
    ·exact λp a=>by cases a
    ·exact m
   split
   ·exact⟨λp a=>(by cases a),m⟩
   split
   ·rename_i u;refine⟨λp a=>(by cases a),λp a=>?_⟩
    rcases ayN.1 a with a|a
    ·exact m p a
    ·rw[aAj.1 a];exact q x (by simp) u
   split
   ·exact⟨m,λp a=>by cases a⟩
   ·exact⟨λp a=>(by cases a),λp a=>by cases a⟩
  obtain⟨z,A⟩:=agV Q l (xY j x i).1 (i+1) s.2 λy B=>q y (by simp[B])
  rw[sM];refine⟨λp a=>?_,A⟩;rcases ayN.1 a with a|a
  ·exact s.1 p a
  ·exact z p a
theorem avJ{l:List (p0 R×Nat)}{n:Int}(h:∀p∈l,p.1.log≠n):Bp l n=[]:=by
 unfold Bp;rw[List.filter_eq_nil_iff.2 (λp a=>by simpa using h p a)]
 rfl
theorem avK(S:Int->Prop):∀(l:List (p0 R)) (s:ns R) (i:Nat),(∀x∈l,x.kind≠1->¬S x.log)->(∀t,∀p∈(lV s t).opn,¬S p.1.log) ->
  ∀n,S n->(run s i l).logs n=s.logs n++(l.filter λx=>x.kind==1&&x.log==n).map (·.xX)
 | [],s,i,_,_,n,_=>by simp[run]
 | x::l,s,i,A,q,n,B=>by
  have a:(step s x i).logs n=s.logs n++([x].filter λx=>x.kind==1&&x.log==n).map (·.xX)/\∀t,∀p∈(lV (step s x i) t).opn,¬S p.1.log:=by
   by_cases a:x.kind=1
   ·unfold step;rw[if_pos a];refine⟨?_,q⟩;show q9 s.logs x n=_;unfold q9;by_cases j:n=x.log
    ·rw[if_pos j];simp[a,j]
    ·rw[if_neg j];simp[a,Ne.symm j]
   ·have C:=A x (by simp) a
    by_cases j:2<=x.kind/\x.kind<=5
    ·have D:=agU s x i j;have u:=agV (λy=>¬S y.log) [x] (lV s x.task) i (q x.task) (λy z _=>by rw[aAj.1 z];exact C)
     have ay:(sM (lV s x.task) i [x]).2=(xY (lV s x.task) x i).2:=by simp[sM]
     have bc:(sM (lV s x.task) i [x]).1=(xY (lV s x.task) x i).1:=by simp[sM]
     rw[ay,bc]at u;refine⟨?_,λt p m=>?_⟩
     ·rw[D.2,avJ λp m U=>u.1 p m (by rw[U];exact B)]
      simp[a]
     ·unfold lV at m;rw[avI s x i j]at m;split at m
      ·exact u.2 p m
      ·exact q t p m
    ·have:step s x i=s:=by unfold step;rw[if_neg a,if_neg (by omega),if_neg (by omega)]
     rw[this];exact⟨by simp[a],q⟩
  rw[run,avK S l _ _ (λy z=>A y (by simp[z])) a.2 n B,a.1,axV,<-List.map_append,<-List.filter_append]
  rfl
end Go.Proofs.Vw
namespace Go.Proofs.YtemdgidnhgcafaaGreatDoor.Pk
open Go Go.Proofs Go.Proofs.YtemdgidnhgcafaaGreatDoor.Ab Go.Proofs.Vw
abbrev ei:=uD×Bool
def Yn(x:bC):p0 ei:=⟨x.kind.toNat,x.task,x.cZ,x.hG,x.log,(x.r,x.del),x.offs,x.order⟩
def hp(p:bC×Nat):List V:=br p.1++[.int .i64 (p.2:Nat)]
theorem Oi(p:bC×Nat):(hp p).length=12:=rfl
abbrev Tag:=Nat×Int×Nat
abbrev gN:=Nat->Option Tag
abbrev kW:=List (Nat×Int×Nat)
def ie(m:kW):List (Nat×V×V):=dz (V.int .i64) (λb:Nat=>V.ptr b 0) m
def pt(h:I)(ow:gN)(b:Nat)(k:Int)(rs:List ei):Prop:=∃a i,h.get b=.cells [.int .i64 k,a,i] 90 none /\
 Own h 45 3 a (rs.flatMap λp=>kV p.1)/\Own h 4 1 i (rs.map λp=>V.bool p.2)/\ow b=some (0,k,0)/\(∀j,aU a=some j->ow j=some (0,k,1))/\(∀j,aU i=some j->ow j=some (0,k,2))
structure ks where
 ep:Int
 tx:Int
 offs:List Int
 ord:List Int
 opn:List (bC×Nat)
def ks.m(j:ks):nq ei:=⟨j.ep,j.tx,j.offs,j.ord,j.opn.map λp=>(Yn p.1,p.2)⟩
def Oj(v:V)(l:List Int):Prop:=(v=.ag/\l=[])\/v=.af l.length (ao l)
def nt(h:I)(ow:gN)(b:Nat)(t:Int)(j:ks):Prop:=∃m a i,h.get b=.cells [.int .i64 t,.int .i64 j.ep,.int .i64 j.tx,m,a,.int .i64 0,i] 125 none/\Oj m j.offs /\
 Own h 3 1 a (ao j.ord)/\Own h 186 12 i (j.opn.flatMap hp)/\ow b=some (1,t,0)/\(∀q,aU a=some q->ow q=some (1,t,1))/\(∀q,aU i=some q->ow q=some (1,t,2))
theorem pt.on{h h':I}{ow ow':gN}{b:Nat}{k:Int}{rs:List ei}(a:pt h ow b k rs){own:Nat->Prop}(u:J h h' own)(z:∀q,own q->∀i,ow q≠some (0,k,i))(A:∀q bs,ow q=some bs->ow' q=some bs)(ak:∀q bs,ow q=some bs->q<h.n):pt h' ow' b k rs:=by
 obtain⟨F,dv,G,H,L,B,C,D⟩:=a;exact⟨F,dv,(u.get b (ak _ _ B) (λU=>z _ U _ B)).trans G,H.ai u (λj s U=>z _ U _ (C j s)),L.ai u (λj s U=>z _ U _ (D j s)),A _ _ B,λj s=>A _ _ (C j s),λj s=>A _ _ (D j s)⟩
theorem nt.on{h h':I}{ow ow':gN}{b:Nat}{t:Int}{j:ks}(a:nt h ow b t j){own:Nat->Prop}(u:J h h' own)(z:∀q,own q->∀i,ow q≠some (1,t,i))(A:∀q bs,ow q=some bs->ow' q=some bs)(ak:∀q bs,ow q=some bs->q<h.n):nt h' ow' b t j:=by
 obtain⟨F,G,H,L,M,N,O,B,C,D⟩:=a;exact⟨F,G,H,(u.get b (ak _ _ B) (λU=>z _ U _ B)).trans L,M,N.ai u (λj s U=>z _ U _ (C j s)),O.ai u (λj s U=>z _ U _ (D j s)),A _ _ B,λj s=>A _ _ (C j s),λj s=>A _ _ (D j s)⟩
structure j8(aG h:I)(lm ck:Nat)(logs:Int->List ei)(tasks:Int->Option ks)(L:kW)(lc:Nat)(T:kW)(ef:Nat)(ow:gN):Prop where
 ai:J aG h none_
 bD:∀q bs,ow q=some bs->aG.n<=q/\q<h.n
 hV:ow lm=some (2,0,0)
 iB:ow ck=some (2,0,1)
 pz:h.get lm=.map (ie L) lc
 gt:h.get ck=.map (ie T) ef
 nU:eg (ie L) lc
 nV:eg (ie T) ef
 lp:c1 L
 lq:c1 T
 has:∀k b,bQ L k=some b->pt h ow b k (logs k)/\logs k≠[]
 kX:∀k,bQ L k=none->logs k=[]
 kY:∀t b,bQ T t=some b->∃j,tasks t=some j/\nt h ow b t j
 kZ:∀t,bQ T t=none->tasks t=none
theorem avL(h:I)(ow:gN)(b:Nat)(t e:Int)(j:ks)(a:nt h ow b t j)(ak:∀q G,ow q=some G->q<h.n) :
  au mc 52 [.ptr b 0,.int .i64 e] h (λr h'=>r=.tuple []/\J h h' (·=b)/\nt h' ow b t (if j.ep<e then { j with ep:=e,opn:=[] }else j)):=by
 obtain⟨A,B,L,g,C,D,M,m,s,N⟩:=a;refine bd Tryz.func52 rfl ?_;by_cases i:j.ep<e
 ·have u:decide (j.ep<e)=true:=decide_eq_true i;rw[if_pos i];simp only[ae,ds,AS,By,reduceCtorEq,A7,Jd,Eg,aY,QC,qU,g,u,k6,aGp,hK];have F:∀o,J h (h.set b o) (·=b):=λo=>J.set _ _ _;refine ar ⟨rfl,F _,A,B,.ag,aL,C,D.ai (F _) (λq z U=>?_),Own.ag _ _ _,m,s,λq z=>by simp[aU]at z⟩
  have:=s q z;rw[U,m]at this;simp at this
 ·have u:decide (j.ep<e)=false:=decide_eq_false i;rw[if_neg i];simp only[ae,ds,AS,By,reduceCtorEq,A7,Eg,aY,g,u,k6,aGp,hK];exact ar ⟨rfl,J.refl _ _,A,B,L,g,C,D,M,m,s,N⟩
theorem Yo:∃j,eA mc 72=some (3,j,.int .i64)/\mz mc j=some (.pointer none):=by
 have h:(eA mc 72).map (λq=>(q.1,q.2.1))=some (3,115):=by kernel_rfl
 have m:mc.underlying 3=some (.int .i64):=aBd;cases i:eA mc 72 with
 | none=>rw[i]at h;cases h
 | some q=>
  rw[i]at h;obtain⟨a,b,d⟩:=q;simp only[azE,Option.some.injEq,Prod.mk.injEq]at h;obtain⟨rfl,rfl⟩:=h;have:=(ip i).2;rw[m]at this;cases this;exact⟨_,rfl,by kernel_rfl⟩
theorem Yp:∃j,eA mc 71=some (3,j,.int .i64)/\mz mc j=some (.pointer none):=by
 have h:(eA mc 71).map (λq=>(q.1,q.2.1))=some (3,119):=by kernel_rfl
 have m:mc.underlying 3=some (.int .i64):=aBd;cases i:eA mc 71 with
 | none=>rw[i]at h;cases h
 | some q=>
  rw[i]at h;obtain⟨a,b,d⟩:=q;simp only[azE,Option.some.injEq,Prod.mk.injEq]at h;obtain⟨rfl,rfl⟩:=h;have:=(ip i).2;rw[m]at this;cases this;exact⟨_,rfl,by kernel_rfl⟩
theorem avM{h:I}{i cl:Nat}(m:kW)(k:Int)(j:h.get i=.map (ie m) cl):nB mc 72 (.map i) (.int .i64 k) true h=some (match bQ m k with|some b=>.tuple [.ptr b 0,.bool true]|none=>.tuple [.dx,.bool false]):=by
 obtain⟨s,a,q⟩:=Yo;have:=Lf (enc:=λb:Nat=>V.ptr b 0) (ok:=true) (h8.ofInt a) (k:=k) a q j;rw[this];cases bQ m k<;>simp[fC,gy]
theorem Yq{h:I}{i cl:Nat}(m:kW)(k:Int)(b:Nat)(j:h.get i=.map (ie m) cl):vl mc 72 (.map i) (.int .i64 k) (.ptr b 0) h=some (h.set i (.map (ie (cz cl m k b)) (eY cl m k))):=by
 obtain⟨q,a,_⟩:=Yo;exact Lg (enc:=λb:Nat=>V.ptr b 0) (h8.ofInt a) (k:=k) a j rfl
theorem avN{h:I}{i cl:Nat}(m:kW)(k:Int)(j:h.get i=.map (ie m) cl):nB mc 71 (.map i) (.int .i64 k) true h=some (match bQ m k with|some b=>.tuple [.ptr b 0,.bool true]|none=>.tuple [.dx,.bool false]):=by
 obtain⟨s,a,q⟩:=Yp;have:=Lf (enc:=λb:Nat=>V.ptr b 0) (ok:=true) (h8.ofInt a) (k:=k) a q j;rw[this];cases bQ m k<;>simp[fC,gy]
theorem Yr{h:I}{i cl:Nat}(m:kW)(k:Int)(b:Nat)(j:h.get i=.map (ie m) cl):vl mc 71 (.map i) (.int .i64 k) (.ptr b 0) h=some (h.set i (.map (ie (cz cl m k b)) (eY cl m k))):=by
 obtain⟨q,a,_⟩:=Yp;exact Lg (enc:=λb:Nat=>V.ptr b 0) (h8.ofInt a) (k:=k) a j rfl
end Go.Proofs.YtemdgidnhgcafaaGreatDoor.Pk
