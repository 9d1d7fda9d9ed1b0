/-
  What functions of the program do, told of abstract states. Conditions: as each theorem says.
-/
import Derived.Test.YtemdgidnhgcafaaGreatDoorNj
import Derived.Test.YtemdgidnhgcafaaGreatDoorNf
import Derived.Test.YtemdgidnhgcafaaGreatDoorAcD
import Derived.Test.YtemdgidnhgcafaaGreatDoorNe
import Derived.Lib.LaidTab
import Derived.Lib.LaidU8
import Derived.Stop.LaidErr
import Derived.Test.YtemdgidnhgcafaaGreatDoorNh
open Go.Proofs.Tryz renaming prog->mc,results14->aBl,results12->aEM,results11->aBY,results8->aGM,results9->aGN,results16->aBf
open Nat renaming reduceEqDiff->ds,reduceAdd->AS,reduceLeDiff->By,le_refl->BY,lt_of_lt_of_le->IS,mul_one->ajD,add_mul->axY,zero_le->Dy
open Int renaming eq_ofNat_of_zero_le->aBS,toNat_natCast->ayQ,reduceLT->aEH
open List renaming getD_eq_getElem?_getD->aEK,getElem?_eq_getElem->IA,getElem_mem->ayM,take->azw,mem_of_find?_eq_some->aEL,length_append->Dx,length_map->axT,length_zip->aBk,flatMap_cons->azh,append_assoc->axV,length_eq_zero_iff->aAm,flatMap_append->azo,flatMap_nil->aA6,append_nil->axX,length_singleton->aBj,replicate->azr,take_of_length_le->ajz,take_succ_eq_append_getElem->azi,length_take->TY,mem_map->OF,mem_flatMap->aAK,mem_cons->Iz,mem_singleton->aAj,take_append_drop->azU,map_cons->axU,cons_append->azv,nil_append->azy,find?_eq_none->aCb,find?_some->aGK,Nodup->aA5,pairwise_map->azW,range->ajB,mem_range->aGL,range_succ->aDw
open Bool renaming and_eq_true->ajC
open Go renaming IntKind->aOT
set_option linter.unusedVariables false
set_option linter.unusedSimpArgs false
set_option maxHeartbeats 16000000
set_option maxRecDepth 20000
namespace Go.Proofs.YtemdgidnhgcafaaGreatDoor.Pk
open Go Go.Proofs Go.Proofs.YtemdgidnhgcafaaGreatDoor.Ab Go.Proofs.Vw
def RL(r:uD):Rec:=⟨r.k,r.v,r.t⟩
def Fo(d:fO)(a:uG)(v:Int):List ei:=logAt a.logs (dG d.c.p d.c.l 0 v d.q)
def Dr(d:fO)(s:eU)(i v a:Int)(r:Rec):eU :=
 { s with m:=(stepT d.c s.m v r).1.1,offs:=s.offs.set i.toNat (a+1),order:=s.order++[i],kept:=s.kept++uV d s (stepT d.c s.m v r).1.2 }
def pw(d:fO)(s:eU)(a:uG)(i:Int):eU×Bool×Int :=
 if i<0\/(d.c.ins.length:Int)<=i then(s,false,1)else
 match(Fo d a (d.c.ins.getD i.toNat 0))[(s.offs.getD i.toNat 0).toNat]? with
 | none=>(s,false,0)
 | some r=>if s.offs.getD i.toNat 0<0 then(s,false,0)else if 256<=s.order.length then(s,false,3)else(Dr d s i (d.c.ins.getD i.toNat 0) (s.offs.getD i.toNat 0) (RL r.1),true,0)
theorem UO{l:List Int}{k:Nat}(a:k<(ao l).length):(ao l)[k]=.int .i64 (l[k]'(by rwa[am]at a)):=by simp[ao]
theorem PX(l:List Int)(k:Nat)(x:Int):(ao l).set k (.int .i64 x)=ao (l.set k x):=by unfold ao;rw[List.map_set]
theorem awW{l:List ei}{k:Nat}(a:k<l.length){kk:aOT}:gP mc 25 (.af l.length (e9 l)) (.int kk (k:Int))=some (.at (aK (RL l[k].1)++e9 (l.drop (k+1)))):=tR (enc:=λp:ei=>kV p.1) (λ_=>rfl) a VU
section
variable {h h':I} {ow ow':cT} {id k:Nat} {w:pj} {d:fO} {s:eU}
theorem Y1(o:fM d.c)(t:fP h ow id k w d s)(S:y2 d.c s.m)(aw:jG h)(aX:Fr h ow)(aG:id≠0)(j:uG)(xi:sO j)(bq:s.offs.length=d.c.ins.length)(ax:s.kept.length<=2^34)(ua:s.order.length<=256)(i:Int) :
  au mc 14 [.ptr k 0,.agg (cN j),.int .i64 i] h (λr h'=>r=.tuple [.bool (pw d s j i).2.1,.int .i64 (pw d s j i).2.2]/\∃w' ow',fP h' ow' id k w' d (pw d s j i).1/\p5 id h ow h' ow'):=by
 refine bd Tryz.func14 rfl ?_;have av:(V.agg (cN j)).cells=some (cN j):=rfl;obtain⟨H,hH,bo,aa,ib⟩:=b0 h (.cells (cN j) 34 none);have z:=t.ba bo;have AA:Fr H ow:=λq ab=>aX q (by omega)
 have T:=aw.ai bo;have O:p5 id h ow H ow:=p5.push aX bo;have g:=z.get;unfold hI at g;have ne:=OK k;have bs:=NV o;simp only[ae,ds,reduceCtorEq,apU,av];rw[<-hH];clear hH;by_cases i0:i<0
 ·have jy:decide (i<0)=true:=decide_eq_true i0;have e:pw d s j i=(s,false,1):=by unfold pw;rw[if_pos (.inl i0)]
  simp only[ae,ds,jy,aP,aBl,da];exact ar ⟨by rw[e],w,ow,by rw[e];exact z,O⟩
 have jy:decide (i<0)=false:=decide_eq_false i0;by_cases i1:(d.c.ins.length:Int)<=i
 ·have bf:decide ((d.c.ins.length:Int)<=i)=true:=decide_eq_true i1;have e:pw d s j i=(s,false,1):=by unfold pw;rw[if_pos (.inr i1)]
  simp only[ae,ds,AS,By,reduceCtorEq,VE,fB,hL,jy,g,bf,aP,aBl,da];exact ar ⟨by rw[e],w,ow,by rw[e];exact z,O⟩
 have bf:decide ((d.c.ins.length:Int)<=i)=false:=decide_eq_false i1;obtain⟨n,rfl⟩:=aBS (show 0<=i by omega)
 have aB:n<d.c.ins.length:=by omega
 have eR:n<s.offs.length:=by omega
 have u:pw d s j n=(match(Fo d j d.c.ins[n])[(s.offs[n]).toNat]? with
  | none=>(s,false,0)
  | some r=>if s.offs[n]<0 then(s,false,0)else if 256<=s.order.length then(s,false,3)else(Dr d s n d.c.ins[n] s.offs[n] (RL r.1),true,0)):=by
  unfold pw;rw[if_neg (by omega),ayQ,aEK,aEK,IA aB,IA eR]
  rfl
 have cQ:d.c.ins.contains d.c.ins[n]=true:=List.contains_iff_mem.2 (ayM aB);have W:=QI aB iS;obtain⟨io,cB,de,⟨qr,fp⟩,_⟩:=KL (P:=mc) (kk:=.i64) iS z.o (k:=n) (by rw[am];exact eR)
 rw[UO]at fp;obtain⟨B,sZ⟩:∃x,x=d.c.ins[n]:=⟨_,rfl⟩;obtain⟨G,Il⟩:∃x,x=s.offs[n]:=⟨_,rfl⟩;rw[<-sZ]at W u cQ;rw[<-Il]at fp u;simp only[ae,ds,AS,By,reduceCtorEq,VE,fB,hL,jy,g,bf];refine aS.cS none_ [] (.q 0 (.q 1 (.q 2 (.q 3 (.q 4 (.q 5 (.q 6 (.q 7 (.q 8 (.q 9 (.q 10 (.q 11 (.q 12 (.q 13 (.q 14 (.q 15 .done)))))))))))))))) ?_;simp only[ae,bt,ds,AS,By,reduceCtorEq,VE,VF,aY,hL,g,W,cB,fp];refine aS.cS none_ [] (.q 0 (.q 1 (.q 2 (.q 3 (.q 4 (.q 5 (.q 6 (.q 7 (.q 8 (.q 9 (.c 10 (.c 11 (.q 12 (.q 13 .done)))))))))))))) ?_;have q4:(if 3<=(cN j).length then some (V.agg (azw 3 (cN j)))else none)=some (.agg (cN j)):=rfl
 have d0:cO (aR.cells (cN j) 34 none) 0=some (cN j):=rfl;have s6:cJ (some (some 3)) (some (cN j))=some (.agg (cN j)):=rfl;simp only[ae,bt,ds,AS,By,reduceCtorEq,LI,Qm,jh,aY,CH,g,aa,d0,s6];refine fA rfl rfl rfl (λh' hk=>Dp d.c.l d.c.p 0 B d.q o.ok h' (by rcases hk with hk|rfl;exact T.ai hk;exact T)) ?_
 simp only[bt];refine fA rfl rfl rfl (λh' hk=>ah3 j xi (dG d.c.p d.c.l 0 B d.q) h') ?_;obtain⟨C,o4⟩:∃x,x=Fo d j B:=⟨_,rfl⟩;have Y2:logAt j.logs (dG d.c.p d.c.l 0 B d.q)=C:=o4.symm;have Hy:C.length<=2^30:=by
  rw[o4];unfold Fo logAt;cases az:j.logs.find? (λc=>c.1==dG d.c.p d.c.l 0 B d.q)with
  | none=>simp
  | some c=>exact xi.2.2.1 c (aEL az)
 rw[<-o4]at u;have ad:∀q,(cj (q,C))[1]?=some (.af C.length (e9 C)):=λ_=>rfl;simp only[ae,bt,ds,aqm,Y2,ad];by_cases a0:G<0
 ·have X:decide (G<0)=true:=decide_eq_true a0;have e:pw d s j n=(s,false,0):=by
   rw[u];split
   ·rfl
   ·rw[if_pos a0]
  simp only[ae,ds,X,aP,aBl,da];exact ar ⟨by rw[e],w,ow,by rw[e];exact z,O⟩
 have X:decide (G<0)=false:=decide_eq_false a0;by_cases bZ:(C.length:Int)<=G
 ·have pC:decide ((C.length:Int)<=G)=true:=decide_eq_true bZ;have e:pw d s j n=(s,false,0):=by rw[u,List.getElem?_eq_none (by omega)]
  simp only[ae,ds,rL,X,pC,aP,aBl,da];exact ar ⟨by rw[e],w,ow,by rw[e];exact z,O⟩
 have pC:decide ((C.length:Int)<=G)=false:=decide_eq_false bZ;obtain⟨a,aT⟩:=aBS (show 0<=G by omega)
 have tu:a<C.length:=by omega
 rw[aT]at X pC u fp;rw[ayQ,IA tu]at u;simp only[if_neg (show ¬((a:Int)<0)by omega)]at u
 have lo:=OJ z.ro;simp only[ae,ds,AS,By,reduceCtorEq,Jm,rL,hL,aT,X,pC,g,lo];by_cases or:256<=s.order.length
 ·have cc:decide ((256:Int)<=(s.order.length:Int))=true:=decide_eq_true (by omega)
  have e:pw d s j n=(s,false,3):=by rw[u,if_pos or]
  simp only[ae,ds,cc,aP,aBl,da];exact ar ⟨by rw[e],w,ow,by rw[e];exact z,O⟩
 have cc:decide ((256:Int)<=(s.order.length:Int))=false:=decide_eq_false (by omega)
 rw[if_neg or]at u;have Z:=awW (kk:=.i64) tu;obtain⟨R,eF⟩:∃R,R=RL C[a].1:=⟨_,rfl⟩;rw[<-eF]at u Z;have Ov:∀q,cJ (some (some 3)) (some (aK R++q))=some (.agg (aK R)):=λq=>be (Ae R);obtain⟨Y,L⟩:∃Y,Y=stepT d.c s.m B R:=⟨_,rfl⟩;have TE:Y.2=0:=by rw[L];exact awQ s.m R cQ
 simp only[ae,cc];refine aS.cut (λbU uU=>bU 0=.ptr k 0/\bU 2=.int .i64 (n:Int) /\
   ∃E D,bU 11=.ptr E 0/\bU 12=.int .i64 0/\AF id w.m w.b d.c H ow Y.1.1 Y.1.2 E uU D) ?_ ?_
 ·refine aS.cS (λq=>(ow q).1=id) [9,13,14] (.q 0 (.q 1 (.q 2 (.q 3 (.q 4 (.q 5 (.q 6 (.q 7 (.q 8 (.e 9 (.q 10 (.q 11 (.q 12 (.e 13 (.e 14 (.q 15 .done) .stop) .stop)))) (.e 13 (.e 9 (.q 10 (.q 11 (.q 12 (.e 14 (.q 15 .done) .stop)))) .stop) .stop))))))))))) ?_;have mk:¬(ow k).1=id:=by rw[t.own];simp
  have pg:(if 3<=(aK R).length then some (V.agg (azw 3 (aK R)))else none)=some (.agg (aK R)):=rfl
  simp only[ae,bt,fo,ds,AS,By,reduceCtorEq,apM,dM,zU,Qx,g,Z,Ov,mk];refine⟨?_,?_⟩
  ·have dk:=agq o z.eb S.aM S.wf AA T.1 aG B R;rw[<-L]at dk;refine cA dk λr F ⟨jB,D,OQ,B4,f5,M⟩=>?_;subst jB;have Hm:(Rs Y.1.2).cells=some (fd Y.1.2):=rfl;have OR:bA (some 4) (aR.cells [V.ag,V.ag,V.ag,V.ag] 101 none) 0 (fd Y.1.2)=some (.cells (fd Y.1.2) 101 none):=NX rfl rfl rfl rfl;have rX:J H F (λq=>(ow q).1=id):=M;have A:=AF.push (x:=Y.1.2) OQ B4 f5 M;have ah:J H (F.push (.cells [V.ag,V.ag,V.ag,V.ag] 101 none)) (λq=>(ow q).1=id):=M.trans (J.push _ _ none_) λ_ _ e=>e.elim;have OS:J H (F.push (.cells (fd Y.1.2) 101 none)) (λq=>(ow q).1=id):=A.ai;simp only[ae,bt,fo,ds,Qx,Jq,rX,ah,OS,Hm,OR,TE];exact ar ⟨rfl,rfl,rfl,F.n,D,rfl,rfl,A⟩
  ·have OT:J H (H.push (.cells [.ag,.ag,.ag,.ag] 101 none)) none_:=J.push _ _ _;have bu:(H.push (.cells [.ag,.ag,.ag,.ag] 101 none)).n=H.n+1:=rfl;have dk:=agq o (z.eb.ba OT) S.aM S.wf (λq ab=>AA q (by omega)) (T.ai OT).1 aG B R
   rw[<-L]at dk;refine cA dk λr F ⟨jB,D,OQ,B4,f5,M⟩=>?_;subst jB;have Hm:(Rs Y.1.2).cells=some (fd Y.1.2):=rfl;have OR:bA (some 4) (aR.cells [V.ag,V.ag,V.ag,V.ag] 101 none) 0 (fd Y.1.2)=some (.cells (fd Y.1.2) 101 none):=NX rfl rfl rfl rfl;have rX:J H F (λq=>(ow q).1=id):=OT.up.trans M λ_ _ e=>e;have Ra:F.get H.n=.cells [V.ag,V.ag,V.ag,V.ag] 101 none:=(M.get H.n (by omega) (by rw[AA _ (BY _)];exact λe=>aG e.symm)).trans fv
   have A:=AF.set (x:=Y.1.2) aG AA OQ B4 f5 M;have OS:J H (F.set H.n (.cells (fd Y.1.2) 101 none)) (λq=>(ow q).1=id):=A.ai;simp only[ae,bt,fo,ds,Jq,rX,OS,Hm,OR,Ra,TE];exact ar ⟨rfl,rfl,rfl,H.n,D,rfl,rfl,A⟩
 ·rintro f uU ⟨f0,f2,E,D,aq,aC,A⟩
  have t6:=z.RK A.ai A.bD A.eb;have g6:=t6.get;unfold hI at g6;have aD:jG uU:=T.ai A.ai;have aI:p5 id h ow uU D:=O.trans ⟨A.ai.mono λ_ e=>.inl e,A.bD,A.aX⟩;obtain⟨aJ,kC,rC,⟨bB,xS⟩,aN⟩:=KL (P:=mc) (kk:=.i64) iS t6.o (k:=n) (by rw[am];exact eR)
  rw[UO]at xS;have JX:s.offs[n]=(a:Int):=Il.symm.trans aT;simp only[JX]at xS;have Y3:aOT.i64.wrap ((a:Int)+1)=(a:Int)+1:=Go.IntWalk.i64_in _ (by omega)
  obtain⟨ob,s1,gR,N⟩:=aN (.int .i64 ((a:Int)+1)) rfl;rw[PX]at gR;have z0:((0:Int) !=0)=false:=rfl;obtain⟨xW,vd⟩:∃y,y=uU.set aJ ob:=⟨_,rfl⟩;rw[<-vd]at gR N;have t7:=t6.r4 N gR;have g7:=t7.get;unfold hI at g7;have aO:∀q,a7 w.cq q->D q=(id+1,2):=λq U=>t6.gT q (cy.2 U);have TF:p5 id h ow xW D:=aI.trans ⟨N.mono λq U=>.inr (by rw[aO q U]),λ_ _=>rfl,λq ab=>A.aX q (by have:=N.n;omega)⟩
  have GI:=(N.get E A.lt λU=>by have:=aO E U;rw[A.own]at this;simp at this).trans A.get
  simp only[ae,ds,AS,By,reduceCtorEq,VF,Jm,aY,hL,qU,f0,f2,aC,g6,kC,xS,Y3,s1];rw[<-vd];clear vd;simp only[ae,ds,AS,By,f2,g7];obtain⟨OU,aV,dy,g8,v1,v2,k8,yB,t8,Q⟩:=awV t7 TF.aX (by simp only;omega) (n:Int)
  have aW:=aiF xW (n:Int);unfold hI at g8;have J4:bA (some 1) (aR.cells [.af d.c.l.length (d.c.l.flatMap al),.int .i64 d.c.p,.int .i64 d.n,.int .i64 d.q,.ptr w.m 0,.af d.c.ins.length (ao d.c.ins),.int .i64 s.ep,.int .i64 s.tx,w.cq,w.vk,w.vr] 95 none) 10 [OU]=some (.cells [.af d.c.l.length (d.c.l.flatMap al),.int .i64 d.c.p,.int .i64 d.n,.int .i64 d.q,.ptr w.m 0,.af d.c.ins.length (ao d.c.ins),.int .i64 s.ep,.int .i64 s.tx,w.cq,w.vk,OU] 95 none):=by
   rw[rA v1];rfl
  have Tj:(if 4<=(fd Y.1.2).length then some (V.agg (azw 4 (fd Y.1.2)))else none)=some (.agg (fd Y.1.2)):=rfl
  have xr:cO (aR.cells (fd Y.1.2) 101 none) 0=some (fd Y.1.2):=rfl;have Y4:cJ (some (some 4)) (some (fd Y.1.2))=some (.agg (fd Y.1.2)):=rfl;have OV:=TF.trans Q.TD;have aZ:D E=(0,0):=A.own;have Im:=(Q.ai.get E (IS A.lt N.n) (by rw[aZ];simp)).trans GI
  have OW:jG _:=(aD.ai N).ai Q.ai;obtain⟨bG,bg,bh,_⟩:=au6 o cQ;have l5:sK d.c Y.1:=by rw[L];exact au5 s.m bh bg R
  have bl:sz Y.1<=2^22:=by rw[L];exact Yj o S B R
  have bj:Y.1.2.verts.length=Y.1.2.chgs.length:=by have:=awP (c:=d.c) s.m B R;rw[<-L]at this;exact this
  have xv:Y.1.2.outs.length<=2^22/\Y.1.2.chgs.length<=2^22/\Y.1.2.deads.length<=2^22:=by unfold sz at bl;omega
  have qm:(uV d s Y.1.2).length<=2^25:=by
   unfold uV;rw[Dx,Dx,axT,axT,JV (enc:=tp d s) (sz:=2) (λ_=>rfl),aBk];omega
  obtain⟨Mq,uc⟩:∃y,y=aV.set k (.cells (hI { w with vr:=OU } d { s with m:=Y.1.1,offs:=s.offs.set n ((a:Int)+1),order:=s.order++[(n:Int)] }) 95 none):=⟨_,rfl⟩;simp only at t8 Q Im OW OV;rw[<-uc]at t8 Q Im OW OV;unfold hI at uc;simp only at uc;have BT:=awS o t8 OW Q.aX Y.1.2 l5.outs bj xv.1 xv.2.1 xv.2.2 (by simp only;omega)
  have bH:cO (Mq.get E) 0=some (fd Y.1.2):=by rw[Im];rfl
  simp only[ae,ds,reduceCtorEq,Jm,LK,Gm,f0,aq,aW,dy,g8,J4,v2];rw[<-uc];clear uc;simp only[ae,ds,Im,xr,Y4];refine cA BT λr hc ⟨bk,bm,bn,t9,bp⟩=>?_;subst bk;have e:pw d s j n=(Dr d s n B (a:Int) R,true,0):=u;simp only[ae,ds,aP,aBl,da];exact ar ⟨by rw[e],bm,bn,by rw[e];unfold Dr;rw[<-L];exact t9,OV.trans bp.TD⟩
end
def eP(d:fO)(s:eU):bC:=⟨3,d.n,s.ep,s.tx,0,Dl,false,s.offs,s.order⟩
def oY(d:fO)(s:eU):List bC:=if s.order=[]then []else s.kept++[eP d s]
def rj(l:List bC):Prop:=∀x∈l,x.offs=[]/\x.order=[]
theorem Y5(h:I){i j:List V}(m:aA i h j h):∀l:List bC,rj l->aA (l.flatMap eB++i) h (l.flatMap br++j) h
 | [],_=>m
 | x::l,ak=>by
  obtain⟨ay,bc⟩:=ak x (by simp)
  have ih:=Y5 h m l λy q=>ak y (by simp[q])
  obtain⟨a,b,c,e,g,⟨cL,dB,jf⟩,s,u,z⟩:=x;simp only at ay bc;subst ay bc;rw[azh,azh,axV,axV];exact aA.cons (aF.refl _ _) (aA.cons (aF.refl _ _) (aA.cons (aF.refl _ _) (aA.cons (aF.refl _ _) (aA.cons (aF.refl _ _) (aA.cons (aF.refl _ _) (aA.cons (aF.refl _ _) (aA.cons (aF.refl _ _) (aA.cons (aF.refl _ _) (aA.cons (aF.il _) (aA.cons (aF.il _) ih))))))))))
theorem Y6(r:bC):(br r).all (·.one)=true:=rfl
theorem aw3(l:List bC):bb (l.flatMap br):=A4 avv _
theorem aw4(h:I)(x:bC):h3 mc 29 1 [(0,.agg (br x))] h=some (.bg h.n 0 1 1,h.push (.cells (br x) 48 none)):=by rw[mD CK];rfl
section
variable {h:I} {ow:cT} {id k:Nat} {w:pj} {d:fO} {s:eU}
theorem aw5{h:I}{v:V}{l:List Int}(o:Own h 3 1 v (ao l))(a:v≠.z0)(i:l.length<=2^40):Pure mc 38 [v] h (.af l.length (ao l)) :=
 Pure.acc (yM _) (by rw[am];exact(ajD _).symm) (by decide) (awJ o a i)
theorem Y7(t:fP h ow id k w d s)(ak:rj s.kept)(qx:s.offs.length<=2^20)(ax:s.kept.length<=2^35)(ua:s.order.length<=2^20):Pure mc 12 [.ptr k 0] h (.af (oY d s).length ((oY d s).flatMap br)):=by
 refine Pure.of (a8.af (aw3 _)) ?_;have g:=t.get;unfold hI at g;have X:=OK k;have lo:=OJ t.ro;refine bd Tryz.func12 rfl ?_;by_cases D:s.order=[]
 ·have G:((s.order.length:Int)==0)=true:=by rw[D];rfl
  have e:oY d s=[]:=if_pos D;simp only[ae,ds,AS,By,reduceCtorEq,Jm,hL,X,g,lo,G,aP,aEM,ac];rw[e];exact ar ⟨h,aF.k7 h,J.refl _ _⟩
 have G:((s.order.length:Int)==0)=false:=by
  have:s.order.length≠0:=λU=>D (aAm.1 U);simpa using this
 have e:oY d s=s.kept++[eP d s]:=if_neg D;rw[e];simp only[ae,ds,AS,By,reduceCtorEq,Jm,hL,X,g,lo,G];refine aS.cS none_ [20,21] (.q 0 (.q 1 (.q 2 (.q 3 (.q 4 (.q 5 (.q 6 (.q 7 (.q 8 (.q 9 (.q 10 (.q 11 (.q 12 (.c 13 (.q 14 (.q 15 (.q 16 (.q 17 (.c 18 (.q 19 (.e 20 (.a 21 .done) .stop))))))))))))))))))))) ?_;simp only[ae,bt,ds,AS,By,reduceCtorEq,abE,abF,abG,aY,g];have Y:∀h',(J h h' none_\/h'=h)->fP h' ow id k w d s:=λh' z=>by rcases z with z|rfl;exact t.ba z;exact t
 refine fA rfl rfl rfl (λh' z=>OL (Y h' z) qx) ?_;simp only[ae,bt,ds,AS,By,reduceCtorEq,Jm,hL,g];refine fA rfl rfl rfl (λh' z=>aw5 (Y h' z).ro t.Hh (by omega)) ?_
 have aa:(V.agg (br (eP d s))).cells=some (br (eP d s)):=rfl;simp only[ae,bt,ds,AS,By,Qt,LW,Ok];obtain⟨H,hH,L,Z,ib⟩:=b0 h (.cells (br (eP d s)) 48 none);unfold br eP Dl at hH;simp only at hH;rw[<-hH];clear hH;have M:=t.ba L;have g2:=M.get;unfold hI at g2;have pg:(if 11<=(br (eP d s)).length then some (V.agg (azw 11 (br (eP d s))))else none)=some (.agg (br (eP d s))):=rfl
 have Y8:cJ (some (some 11)) (some (br (eP d s)))=some (.agg (br (eP d s))):=rfl;have X3:cO (aR.cells (br (eP d s)) 48 none) 0=some (br (eP d s)):=rfl;have Bt:=λU=>aw4 U (eP d s);have ah:∀(a b:I),J a b none_->J a b none_:=λ_ _ h=>h;have B:∀{E j:I} {v:V},J h E none_->Acc E j 48 11 v (s.kept.flatMap eB++br (eP d s))->∃F,aF v j (.af (s.kept++[eP d s]).length ((s.kept++[eP d s]).flatMap br)) F/\J h F none_:=λ{E j v} kq a=>by
  have cM:aA (s.kept.flatMap eB++br (eP d s)) j ((s.kept++[eP d s]).flatMap br) j:=by
   rw[azo,azh,aA6,axX];exact Y5 j (aA.refl _ _) s.kept ak
  have u:(s.kept.flatMap eB++br (eP d s)).length=(s.kept++[eP d s]).length*11:=by rw[Dx,fJ Br,w9,Dx,aBj,axY]
  rcases a.own with⟨_,U⟩|⟨i,N,cap,c,ex,rfl,hi,aw,O,bW,dt⟩
  ·exact absurd U (by simp[br])
  ·have el:N=(s.kept++[eP d s]).length:=Nat.eq_of_mul_eq_mul_right (show 0<11 by decide) (O.symm.trans u)
   obtain⟨F,c3,Q⟩:=aF.kF a.own cM (J.refl j none_) (by simp[none_]) (by rw[u,fJ w9])
   rw[<-el];have:=a.new i rfl;have:=kq.n;exact⟨F,c3,(kq.trans' a.ai).trans Q λq E e=>by omega⟩
 refine aS.cS none_ [4,6,7] (.q 0 (.q 1 (.q 2 (.q 3 (.q 5 (.e 4 (.e 6 (.a 7 (.q 8 .done)) .stop) (.e 6 (.e 4 (.a 7 (.q 8 .done)) .stop) .stop))))))) ?_;have eR:∀q,¬none_ q:=λ_ h=>h;simp only[ae,bt,fo,ds,AS,By,reduceCtorEq,VG,abM,Gj,g2,Z,Y8,X3,Bt,eR];have OX:∀m,m*11=(s.kept.flatMap eB).length+11->m*120<=lim/\m<=lim:=λm hm=>by
  rw[fJ Br]at hm;have:m=s.kept.length+1:=by omega
  subst this;exact⟨by simp only[lim];omega,by simp only[lim];omega⟩
 refine⟨?_,?_⟩
 ·refine cA (aiu M.vX t.Fl (by omega)) λr j C=>?_
  have A:=C.ai;obtain⟨v4,bn,R,S⟩:=C.zb (P:=mc) (t:=29) (T:=⟨48,[.int .i64 0,.int .i64 0,.int .i64 0,.int .i64 0,.int .i64 0,.int .i64 0,.int .i64 0,.int .i64 0,.bool false,.ag,.ag],11,120⟩) CK (by decide) (xs:=br (eP d s)) rfl (Y6 _) OX
  have B7:=(A.get h.n (by omega) (by simp[none_])).trans Z
  have OY:J H (j.push (.cells (br (eP d s)) 48 none)) none_:=A.trans' (J.push _ _ _);simp only[ae,bt,fo,ds,Bt,A,OY,R,aP,aEM,ac];exact ar (B L S)
 ·have W:J H (H.push (.cells (br (eP d s)) 48 none)) none_:=J.push _ _ _;refine cA (aiu (M.ba W).vX t.Fl (by omega)) λr j C=>?_
  have A:=C.ai;have Q:=W.trans' A;have gA:Own j 48 11 (.bg H.n 0 1 1) (br (eP d s)):=(Own.e4 (h:=H) (br (eP d s)) 1 rfl (by decide)).ba A
  have c8:=tc (P:=mc) (t:=29) A9 gA (n:=1) rfl (by decide) (Y6 _)
  obtain⟨v4,bn,R,S⟩:=C.sk (P:=mc) (t:=29) (tx:=29) (T:=⟨48,[.int .i64 0,.int .i64 0,.int .i64 0,.int .i64 0,.int .i64 0,.int .i64 0,.int .i64 0,.int .i64 0,.bool false,.ag,.ag],11,120⟩) CK (by decide) c8 rfl OX
  simp only[ae,bt,fo,ds,Q,R,aP,aEM,ac];exact ar (B (L.trans' W) S)
end
section
variable {h:I} {ow:cT} {id m:Nat} {b:At} {c:bw} {s:fs}
theorem aw6(o:fM c)(E:jG h)(i:uG)(F:sO i)(q v:Int){i0 i1 i2:Nat}(G:i0<h.n)(L:i1<h.n)(M:i2<h.n)(A:h.get i0=.cells (cN i) 34 none)(B:h.get i1=.cells [.af c.l.length (c.l.flatMap al),.int .i64 c.p] 24 none)(C:h.get i2=.cells [.int .i64 q] 3 none) :
  Pure mc 35 [.int .i64 v,.ptr i0 0,.ptr i1 0,.ptr i2 0] h (.agg (cj (dG c.p c.l 1 v q,logAt i.logs (dG c.p c.l 1 v q)))):=by
 refine Pure.of (a8.agg (RB _)) ?_;refine bd Tryz.func35 rfl ?_;have N:cO (aR.cells (cN i) 34 none) 0=some (cN i):=rfl;have X:(if 3<=(cN i).length then some (V.agg (azw 3 (cN i)))else none)=some (.agg (cN i)):=rfl
 have O:cJ (some (some 3)) (some (cN i))=some (.agg (cN i)):=rfl;simp only[ae,LX];obtain⟨H,hH,z,Q,_⟩:=b0 h (.cells [.int .i64 0,.ag,.ag] 90 none);have A:=(z.get i0 G (by simp[none_])).trans A
 have B:=(z.get i1 L (by simp[none_])).trans B
 have C:=(z.get i2 M (by simp[none_])).trans C
 have D:=E.ai z;rw[<-hH];clear hH;have R:∀h',(J H h' none_\/h'=H)->jG h':=λh' u=>by rcases u with u|rfl;exact D.ai u;exact D
 refine aS.cS none_ [6] (.q 0 (.q 1 (.q 2 (.q 3 (.c 4 (.c 5 (.a 6 .done))))))) ?_;simp only[ae,bt,ds,AS,reduceCtorEq,jh,aY,CH,A,B,C,N,O];refine fA rfl rfl rfl (λh' u=>Dp c.l c.p 1 v q o.ok h' (R h' u)) ?_;simp only[bt];refine fA rfl rfl rfl (λh' u=>ah3 i F (dG c.p c.l 1 v q) h') ?_;obtain⟨j,S⟩:∃x,x=logAt i.logs (dG c.p c.l 1 v q):=⟨_,rfl⟩;have cc:∀q,(V.agg (cj (q,j))).cells=some (cj (q,j)):=λ_=>rfl;have T:∀q,bA (some 3) (aR.cells [V.int .i64 0,.ag,.ag] 90 none) 0 (cj (q,j))=some (.cells (cj (q,j)) 90 none):=λ_=>rfl;have W:∀q,(if 3<=(cj (q,j)).length then some (V.agg (azw 3 (cj (q,j))))else none)=some (.agg (cj (q,j))):=λ_=>rfl
 rw[<-S];simp only[ae,bt,ds,LQ,Jr,Q,cc,T,W,aP,Tryz.results35,tb,fq];exact ar ⟨_,aF.refl _ _,z.trans (J.set _ _ _) λq Y U=>by omega⟩
theorem aw7(o:fM c)(k:hf h ow id m b c s)(hk:Az c s)(aw:jG h)(Q:uG)(xi:sO Q)(q:Int){i0 i1 i2:Nat}(ox:i0<h.n)(en:i1<h.n)(dd:i2<h.n)(g0:h.get i0=.cells (cN Q) 34 none)(g1:h.get i1=.cells [.af c.l.length (c.l.flatMap al),.int .i64 c.p] 24 none)(g2:h.get i2=.cells [.int .i64 q] 3 none)
  (he:∀v,logAt Q.logs (dG c.p c.l 1 v q)=[]) :
  Pure mc 37 [.ptr m 0,.agg (cD c.l c.p),.int .i64 c.part,.func (.func 35) [] [.ptr i0 0,.ptr i1 0,.ptr i2 0]] h (.int .i64 0):=by
 refine Pure.val (a8.int _ _) ?_;refine bd Tryz.func37 rfl ?_;have pb:(V.agg (cD c.l c.p)).cells=some [.af c.l.length (c.l.flatMap al),.int .i64 c.p]:=rfl;have ln:V.agg [.af c.l.length (c.l.flatMap al),.int .i64 c.p]=.agg (cD c.l c.p):=rfl;obtain⟨H,hH,bo,gt,ib⟩:=b0 h (.cells [.af c.l.length (c.l.flatMap al),.int .i64 c.p] 24 none);simp only[ae,ds,AS,jh,pb,<-hH,gt,ln];clear hH;refine bO (Rf c.l c.p o.ok H (aw.ai bo)) ?_;have NM:(gl c.p c.l).length=c.l.length:=GY o.Ay;have su:c.l.length<=24:=o.len;have aa:=NV o;simp only[ae,ds,AS,km,pM,kH,gt];refine aS.bI (α:=Nat) (λy f h'=>f 0=.ptr m 0/\f 2=.int .i64 c.part/\f 3=.func (.func 35) [] [.ptr i0 0,.ptr i1 0,.ptr i2 0]/\f 9=.af (gl c.p c.l).length (ao (gl c.p c.l))/\f 26=.af c.l.length (c.l.flatMap al)/\f 27=.int .i64 (c.l.length:Nat)/\f 28=.int .i64 (y:Nat)/\y<=c.l.length/\J h h' none_) (λy=>c.l.length-y) 0
  ⟨rfl,rfl,rfl,rfl,rfl,rfl,rfl,Dy _,bo⟩ ?_
 rintro i f h1 ⟨E,A,C,B,z,j,u,hi,bx⟩
 refine wpS ?_;by_cases L:i<c.l.length;rotate_left
 ·have T:=eC (a:=i) (b:=c.l.length) (by omega)
  simp only[ae,ds,j,u,T,aP,Tryz.results37,ac];exact ar ⟨rfl,bx⟩
 have T:=dV (a:=i) (b:=c.l.length) (by omega)
 have R:=mQ L (by omega)
 obtain⟨x,ah⟩:∃x,c.l[i]?=some x:=⟨_,IA L⟩;obtain⟨gU,rH⟩:=JK (kk:=.i64) ah;have ld:cJ (some (some 6)) (some (al x++gU))=some (.agg (al x)):=be (la x);have C2:(V.agg (al x)).cells=some (al x):=rfl;have NL:bA (some 6) (aR.cells [V.int .i64 0,.ag,.int .i64 0,.int .i64 0,.ag,.int .i64 0] 68 none) 0 (al x)=some (.cells (al x) 68 none):=by
  obtain⟨ee,aX,⟨o,q,aM⟩,n⟩:=x;rfl
 have W:=QI (show i<(gl c.p c.l).length by omega) iS
 have lh:((gl c.p c.l).length:Int)=(c.l.length:Int):=by rw[NM]
 simp only[ae,ds,reduceCtorEq,pN,rM,rN,E,z,j,u,T,rH,ld,C2,NL];obtain⟨ca,bP,OY,Hf,_⟩:=b0 h1 (.cells (al x) 68 none);have D:=bx.trans' OY;have CD:cO (aR.cells (al x) 68 none) 0=some (al x):=rfl;have jj:cJ (some none) (some (al x))=some (.int .i64 x.kind):=rfl;rw[<-bP];clear bP;refine bO (agi o (k.ba D) hk) ?_;simp only[ae,ds];refine bO (Q9 c.ins i (by omega) ca) ?_
 have Fm:=aw.ai D;have X:=aw6 o Fm Q xi q (i:Int) (show i0<ca.n from IS ox D.n) (IS en D.n) (IS dd D.n) ((D.get i0 ox (by simp[none_])).trans g0) ((D.get i1 en (by simp[none_])).trans g1) ((D.get i2 dd (by simp[none_])).trans g2)
 rw[he (i:Int)]at X;have M:∀q,(V.agg (cj (q,[]))).cells=some [.int .i64 q,.af 0 [],.af 0 []]:=λ_=>rfl;have N:∀q,bA (some 3) (aR.cells [V.int .i64 0,.ag,.ag] 90 none) 0 [.int .i64 q,.af 0 [],.af 0 []]=some (.cells [.int .i64 q,.af 0 [],.af 0 []] 90 none):=λ_=>rfl;have OZ:∀{U:I},Pure mc 81 [.af 0 [],.af 0 []] U (.tuple [.af 0 [],.int .i64 0]):=λ{U}=>awI [] [] U (by decide) (by decide)
 obtain⟨Y,cQ⟩:∃b,b=c.ins.contains (i:Int):=⟨_,rfl⟩;rw[<-cQ];cases Y
 ·have O:(!false)=true:=rfl;by_cases aW:(gl c.p c.l)[i]'(by omega)=c.part
  rotate_left
  ·have S:((gl c.p c.l)[i]'(by omega) !=c.part)=true:=by simpa using aW
   simp only[ae,ds,reduceCtorEq,aY,A,B,u,W,O,S,R];exact ar ⟨i+1,⟨E,A,C,B,z,j,rfl,L,D⟩,by omega⟩
  have S:((gl c.p c.l)[i]'(by omega) !=c.part)=false:=by simpa using aW
  by_cases bM:x.kind=5
  ·have Z:(x.kind==5)=true:=by simpa using bM
   simp only[ae,ds,reduceCtorEq,hb,aY,A,B,u,W,Hf,CD,jj,O,S,Z,R];exact ar ⟨i+1,⟨E,A,C,B,z,j,rfl,L,D⟩,by omega⟩
  have Z:(x.kind==5)=false:=by simpa using bM
  simp only[ae,ds,hb,aY,A,C,B,W,Hf,CD,jj,O,S,Z];refine bO X ?_;simp only[ae,ds,AS,By,Jk,Jl,LL,LP,LX,Jr,M,N];refine bO OZ ?_;simp only[ae,ds,wF];refine aS.bI (α:=Nat) (λy f h'=>f 0=.ptr m 0/\f 2=.int .i64 c.part/\f 3=.func (.func 35) [] [.ptr i0 0,.ptr i1 0,.ptr i2 0]/\f 9=.af (gl c.p c.l).length (ao (gl c.p c.l))/\f 26=.af c.l.length (c.l.flatMap al)/\f 27=.int .i64 (c.l.length:Nat)/\f 28=.int .i64 (i:Nat)/\f 67=.int .i64 0/\f 68=.int .i64 0/\J h h' none_) (λy=>y) 0
   ⟨E,A,C,B,z,j,u,rfl,rfl,D.trans' (J.push _ _ _)⟩ ?_
  clear E A C B z j u
  rintro y f aC ⟨E,A,C,B,z,j,u,F,G,k3⟩
  refine wpS ?_;have jy:decide ((0:Int)<0)=false:=rfl;simp only[ae,aEH,ds,reduceCtorEq,u,F,G,R];exact ar ⟨i+1,⟨E,A,C,B,z,j,rfl,L,k3⟩,by omega⟩
 ·have O:(!true)=false:=rfl;simp only[ae,ds,C,O];refine bO X ?_;simp only[ae,ds,AS,By,Jk,Jl,LL,LP,LX,Jr,M,N];refine bO OZ ?_;simp only[ae,ds,wF];refine aS.bI (α:=Nat) (λy f h'=>f 0=.ptr m 0/\f 2=.int .i64 c.part/\f 3=.func (.func 35) [] [.ptr i0 0,.ptr i1 0,.ptr i2 0]/\f 9=.af (gl c.p c.l).length (ao (gl c.p c.l))/\f 26=.af c.l.length (c.l.flatMap al)/\f 27=.int .i64 (c.l.length:Nat)/\f 28=.int .i64 (i:Nat)/\f 67=.int .i64 0/\f 68=.int .i64 0/\J h h' none_) (λy=>y) 0
   ⟨E,A,C,B,z,j,u,rfl,rfl,D.trans' (J.push _ _ _)⟩ ?_
  clear E A C B z j u
  rintro y f aC ⟨E,A,C,B,z,j,u,F,G,k3⟩
  refine wpS ?_;have jy:decide ((0:Int)<0)=false:=rfl;simp only[ae,aEH,ds,reduceCtorEq,u,F,G,R];exact ar ⟨i+1,⟨E,A,C,B,z,j,rfl,L,k3⟩,by omega⟩
end
def x2(l:List bz)(p n:Int):Int:=if(cg p l).2≠0 then(cg p l).2 else if(jK p l n).1<0 then 1 else if 8<(sE p l (jK p l n).1).length then 2 else kU ⟨l,p,(jK p l n).1⟩
def nx(l:List bz)(p n:Int):fO:=⟨⟨l,p,(jK p l n).1⟩,n,(jK p l n).2⟩
def O0(a:List Int)(n:Nat):List Int:=if a=[]then azr n 0 else a
def Bw(a:uG)(d:fO):eU:=⟨fs.new d.c,(sN a.tasks d.n).ep,(sN a.tasks d.n).tx,O0 (sN a.tasks d.n).offs d.c.ins.length,[],[]⟩
theorem aw9(a:List Int)(n:Nat)(u:a=[]\/a.length=n)(A:n<=24)(h:I) :
  ∃i j v,AQ mc 46 (.int .i64 (n:Int)) (.int .i64 (n:Int)) h=some (.bg h.n 0 n n,i)/\xq mc 46 (.bg h.n 0 n n) (.af a.length (ao a)) i=some (v,j)/\Own j 3 1 (.bg h.n 0 n n) (ao (O0 a n))/\J h i none_/\J h j none_:=by
 by_cases m:a=[]
 ·subst m;have ay:=PO (P:=mc) (t:=46) (k:=.i64) (k':=.i64) (h:=h) oQ (BY n) (by simp only;omega) (by omega)
  have q:J h (h.push (.cells (made [V.int .i64 0] n) 3 none)) none_:=J.push _ _ _;have z:made [V.int .i64 0] n=ao (azr n 0):=by
   unfold ao;rw[List.map_replicate];clear ay q A u
   induction n with
   | zero=>rfl
   | succ n ih=>simp[made,List.replicate_succ]at ih⊢
  refine⟨_,h.push (.cells (made [V.int .i64 0] n) 3 none),.int .i64 0,ay,?_,?_,q,q⟩
  ·obtain⟨C,Q,bl,R,S,_⟩:=uS (P:=mc) oQ;unfold xq;have D:∀n,Nat.min 0 n=0:=λn=>Nat.zero_min n;have E:∀U,vh 1 0 (V.af 0 []) U=some []:=λ_=>rfl;have s:zm (V.af 0 [])=some 0:=rfl;simp only[C,bl,show(V.af ([]:List Int).length (ao []))=V.af 0 []from rfl,s,D,E,if_true]
  ·rw[show O0 [] n=azr n 0 from if_pos rfl,<-z]
   have:=Own.e4 (h:=h) (e:=3) (sz:=1) (made [V.int .i64 0] n) n (by rw[z,am,List.length_replicate,ajD]) (by unfold b7;omega)
   exact this
 ·have F:a.length=n:=u.resolve_left m;subst F;obtain⟨i,j,G,H,L,M,N⟩:=aan (P:=mc) (t:=46) (tx:=46) (k:=.i64) (k':=.i64) (h:=h) (src:=.af a.length (ao a)) (n:=a.length) (cs:=ao a) oQ rfl (λh' _=>by
   show(if a.length<=a.length/\a.length*1<=(ao a).length then some ((ao a).take (a.length*1))else none)=_
   rw[if_pos ⟨BY _,by rw[am,ajD];exact BY _⟩,ajz (by rw[am,ajD];exact BY _)]) (KN _) (by rw[am];exact(ajD _).symm) (by simp only;omega) (by omega)
  exact⟨i,j,_,G,H,by rw[show O0 a a.length=a from if_neg m];exact L,M,N⟩
def axb(id:Nat)(l:List bz)(p n:Int)(i:uG)(h:I)(ow:cT):V->I->Prop:=λr h'=>J h h' none_ /\
 ((x2 l p n≠0/\r=.tuple [.dx,.int .i64 (x2 l p n)])\/(x2 l p n=0/\∃k w a,r=.tuple [.ptr k 0,.int .i64 0]/\fP h' a id k w (nx l p n) (Bw i (nx l p n))/\(∀q,q<h.n->a q=ow q)/\Fr h' a))
theorem aiW(id:Nat)(l:List bz)(p n:Int)(u:ju l)(i:uG)(xi:sO i)(h:I)(aw:jG h)(ow:cT)(f:Fr h ow)(aG:id≠0)(O:(sN i.tasks n).offs=[]\/(sN i.tasks n).offs.length=(sE p l (jK p l n).1).length)
  (X:∀v,logAt i.logs (dG p l 1 v (jK p l n).2)=[]) :
  au mc 11 [.agg (cD l p),.int .i64 n,.agg (cN i)] h (axb id l p n i h ow):=by
 have pb:∀(l:List bz) (p:Int),(V.agg (cD l p)).cells=some [.af l.length (l.flatMap al),.int .i64 p]:=λ_ _=>rfl;have F:∀(l:List bz) (p:Int),V.agg [.af l.length (l.flatMap al),.int .i64 p]=.agg (cD l p):=λ_ _=>rfl;have BW:∀(l:List bz) (p:Int),bA (some 2) (aR.cells [V.ag,.int .i64 0] 24 none) 0 [.af l.length (l.flatMap al),.int .i64 p]=some (.cells [.af l.length (l.flatMap al),.int .i64 p] 24 none):=λ_ _=>rfl;have Fp:(V.agg (cN i)).cells=some (cN i):=rfl;refine bd Tryz.func11 rfl ?_;obtain⟨H,hH⟩:∃x,x=(h.push (.cells [.af l.length (l.flatMap al),.int .i64 p] 24 none)).push (.cells (cN i) 34 none):=⟨_,rfl⟩;have gt:H.get h.n=.cells [.af l.length (l.flatMap al),.int .i64 p] 24 none:=by rw[hH,iP (by rw[df];omega)];exact fv
 have ri:H.get (h.n+1)=.cells (cN i) 34 none:=by rw[hH];exact fv
 have Y:J h H none_:=by rw[hH];exact(J.push _ _ _).bp _
 have ib:H.n=h.n+2:=by rw[hH];rfl
 have Z:=aw.ai Y;simp only[ae,ds,AS,jh,pb,Fp,<-hH,gt,F];clear hH;refine bO (aeV l p u H Z) ?_;unfold ET;by_cases A:(cg p l).2=0;rotate_left
 ·have bf:((cg p l).2 !=0)=true:=by simpa using A
  have z:x2 l p n=(cg p l).2:=by unfold x2;rw[if_pos A]
  simp only[ae,ds,bf,aP,aBY,da];exact ar ⟨Y,.inl ⟨by rw[z];exact A,by rw[z]⟩⟩
 have bf:((0:Int) !=0)=false:=rfl;have s:x2 l p n=if(jK p l n).1<0 then 1 else if 8<(sE p l (jK p l n).1).length then 2 else kU ⟨l,p,(jK p l n).1⟩:=by unfold x2;rw[if_neg (by omega)]
 simp only[ae,ds,A];refine bO (Np _ (nh p l) H Z (Rd.af _ _) (agD u) (by have:=agE (p:=p) u;omega)) ?_
 have kM:qD (nh p l)=.tuple [.agg (cD l p),.int .i64 0]:=by unfold qD;rw[afg u A]
 rw[kM];obtain⟨G,bP,k2,pf,dd⟩:=b0 H (.cells [.af l.length (l.flatMap al),.int .i64 p] 24 none);have t2:=Z.ai k2;have c4:=Y.trans' k2;simp only[ae,ds,AS,jh,wG,wH,pb,BW,<-bP,pf,F];clear bP;refine bO (YT l p n u G t2) ?_;obtain⟨aa,EI⟩:∃x,x=jK p l n:=⟨_,rfl⟩;rw[<-EI]at s O X⊢;obtain⟨j,q⟩:=aa;simp only at s O X⊢;have HK:nx l p n=⟨⟨l,p,j⟩,n,q⟩:=by unfold nx;rw[<-EI]
 obtain⟨iV,jr,Q,B1,n3⟩:=b0 G (.cells [.int .i64 q] 3 none);have t3:=t2.ai Q;have ez:=c4.trans' Q;have kQ:=(Q.get H.n (by omega) (by simp[none_])).trans pf
 simp only[ae,ds,VY,qU];rw[<-jr];clear jr;by_cases R:j<0
 ·have bG:decide (j<0)=true:=decide_eq_true R;have z:x2 l p n=1:=by rw[s,if_pos R]
  simp only[ae,ds,bG,aP,aBY,da];exact ar ⟨ez,.inl ⟨by rw[z];decide,by rw[z]⟩⟩
 have bG:decide (j<0)=false:=decide_eq_false R;rw[if_neg R]at s;simp only[ae,ds,AS,jh,bG,kQ,F];refine bO (afD l p j u iV t3) ?_;by_cases ko:8<(sE p l j).length
 ·have l4:decide ((8:Int)<(((sE p l j).length:Nat):Int))=true:=decide_eq_true (by omega)
  have z:x2 l p n=2:=by rw[s,if_pos ko]
  simp only[ae,ds,fB,l4,aP,aBY,da];exact ar ⟨ez,.inl ⟨by rw[z];decide,by rw[z]⟩⟩
 have l4:decide ((8:Int)<(((sE p l j).length:Nat):Int))=false:=decide_eq_false (by omega)
 rw[if_neg ko]at s;simp only[ae,ds,AS,fB,jh,l4,kQ,F];have f3:Fr iV ow:=λq m=>f q (by omega)
 refine cA (avn id ⟨l,p,j⟩ u iV t3 ow f3 aG) λr L ⟨B,bh⟩=>?_;have mq:=ez.trans' B;have n4:=B.n;have EY:=(B.get H.n (by omega) (by simp[none_])).trans kQ
 have TH:=(B.get G.n (by omega) (by simp[none_])).trans B1
 have BO:=(((k2.trans' Q).trans' B).get (h.n+1) (by omega) (by simp[none_])).trans ri
 have t4:=t3.ai B;rcases bh with⟨S,hW⟩|⟨S,m1,dH,e1,hW,j5,ad,f4⟩
 ·subst hW;have nz:(kU ⟨l,p,j⟩ !=0)=true:=by simpa using S
  simp only[ae,ds,nz,aP,aBY,da];exact ar ⟨mq,.inl ⟨by rw[s];exact S,by rw[s]⟩⟩
 subst hW;have o:fM ⟨l,p,j⟩:=⟨A,u⟩;have o4:=aw7 o j5 (agv _) t4 i xi q (i0:=h.n+1) (i1:=H.n) (i2:=G.n) (by omega) (by omega) (by omega) BO EY TH X
 simp only[ae,ds,AS,jh,EY,F];refine bO o4 ?_;have q4:(if 3<=(cN i).length then some (V.agg (azw 3 (cN i)))else none)=some (.agg (cN i)):=rfl
 have d0:cO (aR.cells (cN i) 34 none) 0=some (cN i):=rfl;have s6:cJ (some (some 3)) (some (cN i))=some (.agg (cN i)):=rfl;simp only[ae,ds,CH,BO,d0,s6];refine bO (ah6 i xi n L) ?_;obtain⟨a,TI⟩:∃x,x=sN i.tasks n:=⟨_,rfl⟩;rw[<-TI]at O⊢;have O1:(V.agg (cF a)).cells=some [.int .i64 a.t,.int .i64 a.ep,.int .i64 a.tx,.af a.offs.length (ao a.offs),.af a.ord.length (ao a.ord),.int .i64 (a.opn:Nat)]:=rfl;have O2:bA (some 6) (aR.cells [V.int .i64 0,.int .i64 0,.int .i64 0,.ag,.ag,.int .i64 0] 57 none) 0 [.int .i64 a.t,.int .i64 a.ep,.int .i64 a.tx,.af a.offs.length (ao a.offs),.af a.ord.length (ao a.ord),.int .i64 (a.opn:Nat)]=some (.cells [.int .i64 a.t,.int .i64 a.ep,.int .i64 a.tx,.af a.offs.length (ao a.offs),.af a.ord.length (ao a.ord),.int .i64 (a.opn:Nat)] 57 none):=rfl;obtain⟨C,iX,T,TJ,yU⟩:=b0 L (.cells [.int .i64 a.t,.int .i64 a.ep,.int .i64 a.tx,.af a.offs.length (ao a.offs),.af a.ord.length (ao a.ord),.int .i64 (a.opn:Nat)] 57 none);obtain⟨dh,D,aD,Dj,wK,JM,hD,E⟩:=aw9 a.offs (sE p l j).length O (by omega) C
 have ah:=(hD.get L.n (by omega) (by simp[none_])).trans TJ
 have aq:=(E.get L.n (by omega) (by simp[none_])).trans TJ
 have ax:=((T.trans' E).get H.n (by omega) (by simp[none_])).trans EY
 have az:=((T.trans' E).get G.n (by omega) (by simp[none_])).trans TH
 have n7:=JM.lt C.n rfl;simp only[ae,ds,fB,Eo,Gn,O1,O2];rw[<-iX];clear iX;simp only[ae,ds,AS,By,Eg,Eh,LH,jh,aY,hL,aql,aqG,Dj,ah,wK,ax,az,aq,aP,aBY,da];obtain⟨M,W⟩:∃x,x=uC (uC e1 C.n (id+1,2)) D.n (id+1,1):=⟨_,rfl⟩;have cE:M D.n=(id+1,1):=by rw[W];exact JN _ _ _
 have bT:M C.n=(id+1,2):=by rw[W,vQ (by omega)];exact JN _ _ _
 have JO:∀q,q<L.n->M q=e1 q:=λq m=>by rw[W,vQ (by omega),vQ (by omega)]
 have aC:∀N,Fr (D.push N) M:=λN q m=>by rw[df]at m;rw[W,vQ (by omega),vQ (by omega)];exact f4 q (by have:=E.n;omega)
 have cr:Bw i (nx l p n)=⟨fs.new ⟨l,p,j⟩,a.ep,a.tx,O0 a.offs (sE p l j).length,[],[]⟩:=by unfold Bw;rw[HK,<-TI];rfl
 have hx:∀N,J D (D.push N) none_:=λN=>J.push _ _ _;refine ar ⟨(mq.trans' (T.trans' E)).trans' (hx _),.inr ⟨by rw[s];exact S,D.n,⟨m1,dH,.bg C.n 0 (sE p l j).length (sE p l j).length,.ag,.ag⟩,M,rfl,?_,λq m=>(JO q (by omega)).trans (ad q (by omega)),aC _⟩⟩
 rw[cr,HK];exact⟨Nat.lt_succ_self _,fv,cE,j5.ai ((T.trans' E).trans' (hx _)) (λ_ _ U=>by simp[none_]at U) JO,JM.ba (hx _),Own.ag _ _ _,Own.ag _ _ _,(λq m=>by
  have:C.n=q:=Option.some.inj (cy.1 m);rw[<-this];exact bT),(λq m=>by cases cy.1 m),(λq m=>by cases cy.1 m),V.noConfusion,V.noConfusion⟩
theorem axe(h:I):au mc 23 [] h (λr h'=>∃F,r=.agg [.bg F 0 3 3,.int .i64 1]/\h.n<=F/\F<h'.n/\h'.get F=.cells (eI.flatMap al) 68 none/\J h h' none_):=by
 refine au.cast ?_;refine bd Tryz.func23 rfl ?_;obtain⟨G,L,M,N,O,Q,R⟩:=atL h (.cells [.ag,.int .i64 0] 24 none) (.cells [.int .i64 5,.int .i64 0,.ag,.int .i64 3,.int .i64 0,.ag] 66 none) (.cells [.int .i64 6,.int .i64 0,.bg (h.n+1) 0 2 2] 66 none) (.cells [.int .i64 0] 3 none) (.cells [.int .i64 1] 3 none) (.cells [.int .i64 1,.ag,.int .i64 0,.int .i64 0,.ag,.int .i64 0,.int .i64 6,.bg (h.n+1+1+1) 0 1 1,.int .i64 6,.int .i64 0,.bg (h.n+1) 0 2 2,.int .i64 0,.int .i64 10,.bg (h.n+1+1+1+1) 0 1 1,.int .i64 0,.int .i64 0,.ag,.int .i64 0] 68 none);simp only[ae,ds,AS,By,reduceCtorEq,gj,CI,yR,Gl,wG,qe,rM,wH,oS,atJ,Ng,atK];generalize(((((h.push (.cells [.ag,.int .i64 0] 24 none)).push (.cells [.int .i64 5,.int .i64 0,.ag,.int .i64 3,.int .i64 0,.ag] 66 none)).push (.cells [.int .i64 6,.int .i64 0,.bg (h.n+1) 0 2 2] 66 none)).push (.cells [.int .i64 0] 3 none)).push (.cells [.int .i64 1] 3 none)).push (.cells [.int .i64 1,.ag,.int .i64 0,.int .i64 0,.ag,.int .i64 0,.int .i64 6,.bg (h.n+1+1+1) 0 1 1,.int .i64 6,.int .i64 0,.bg (h.n+1) 0 2 2,.int .i64 0,.int .i64 10,.bg (h.n+1+1+1+1) 0 1 1,.int .i64 0,.int .i64 0,.ag,.int .i64 0] 68 none)=H at G L M N O Q R⊢;simp only[ae,AS,reduceCtorEq,jh,L,tb,aP,Tryz.results23,tb,fq];obtain⟨m,s⟩:∃x,x=H.set h.n (.cells [.bg (h.n+1+1+1+1+1) 0 3 3,.int .i64 1] 24 none):=⟨_,rfl⟩;have a:J H m (·=h.n):=by rw[s];exact J.set _ _ _
 have n7:m.n=h.n+6:=by rw[s];exact G
 have u:=(a.get (h.n+1) (by omega) (by omega)).trans M
 have z:=(a.get (h.n+3) (by omega) (by omega)).trans N
 have A:=(a.get (h.n+4) (by omega) (by omega)).trans O
 have S:=(a.get (h.n+5) (by omega) (by omega)).trans Q
 obtain⟨X,Y,i⟩:=aF.own (Db (e:=3) (sz:=1) (n:=1) (by omega) z rfl (by simp[b7])) (n:=1) rfl (by decide)
 have dd:=i.n;have Z:=(i.get (h.n+1) (by omega) (by simp[a7,aU])).trans u
 obtain⟨aC,c3,j⟩:=aF.kF (es:=[b6.mk 5 0 [],b6.mk 3 0 []].flatMap aH) (Db (h:=X) (e:=66) (sz:=3) (n:=2) (by omega) Z rfl (by simp[b7])) (aA.cons (aF.refl _ _) (aA.cons (aF.refl _ _) (aA.cons (aF.k7 _) (aA.cons (aF.refl _ _) (aA.cons (aF.refl _ _) (aA.cons (aF.k7 _) (aA.refl _ _))))))) (J.refl _ none_) (λh=>h) rfl
 have n3:=j.n;have Tz:=(j.get (h.n+4) (by omega) (by omega)).trans ((i.get (h.n+4) (by omega) (by simp[a7,aU])).trans A)
 obtain⟨B,fb,C⟩:=aF.own (Db (h:=aC) (e:=3) (sz:=1) (n:=1) (by omega) Tz rfl (by simp[b7])) (n:=1) rfl (by decide)
 have n4:=C.n;have D:=(C.get (h.n+5) (by omega) (by simp[a7,aU])).trans ((j.get (h.n+5) (by omega) (by omega)).trans ((i.get (h.n+5) (by omega) (by simp[a7,aU])).trans S))
 have T:eI.flatMap al=[.int .i64 1,.af 0 [],.int .i64 0,.int .i64 0,.af 0 [],.int .i64 0,.int .i64 6,.af 1 [.int .i64 0],.int .i64 6,.int .i64 0,.af 2 ([b6.mk 5 0 [],b6.mk 3 0 []].flatMap aH),.int .i64 0,.int .i64 10,.af 1 [.int .i64 1],.int .i64 0,.int .i64 0,.af 0 [],.int .i64 0]:=by
  simp[eI,Nh,al,l3,ao]
 have cM:aA [.int .i64 1,.ag,.int .i64 0,.int .i64 0,.ag,.int .i64 0,.int .i64 6,.bg (h.n+3) 0 1 1,.int .i64 6,.int .i64 0,.bg (h.n+1) 0 2 2,.int .i64 0,.int .i64 10,.bg (h.n+4) 0 1 1,.int .i64 0,.int .i64 0,.ag,.int .i64 0] m (eI.flatMap al) B:=by
  rw[T];exact aA.cons (aF.refl (.int .i64 1) _) (aA.cons (aF.k7 _) (aA.cons (aF.refl (.int .i64 0) _) (aA.cons (aF.refl (.int .i64 0) _) (aA.cons (aF.k7 _) (aA.cons (aF.refl (.int .i64 0) _) (aA.cons (aF.refl (.int .i64 6) _) (aA.cons Y (aA.cons (aF.refl (.int .i64 6) _) (aA.cons (aF.refl (.int .i64 0) _) (aA.cons c3 (aA.cons (aF.refl (.int .i64 0) _) (aA.cons (aF.refl (.int .i64 10) _) (aA.cons fb (aA.cons (aF.refl (.int .i64 0) _) (aA.cons (aF.refl (.int .i64 0) _) (aA.cons (aF.k7 _) (aA.cons (aF.refl (.int .i64 0) _) (aA.refl [] _))))))))))))))))))
 have QS:J h (B.set (h.n+5) (.cells (eI.flatMap al) 68 none)) none_:=by
  refine J.kB (J.trans (J.trans (J.trans (J.trans R a λq E e=>by omega) i λq E e=>?_) j λq E e=>by omega) C λq E e=>?_) (by omega) _
  ·simp[a7,aU]at e;omega
  ·simp[a7,aU]at e;omega
 have W:=aF.uO S cM D (by rw[T];rfl) (.agg [.bg (h.n+5) 0 3 3,.int .i64 1])
 rw[s]at W;refine ar ⟨_,_,W,h.n+5,rfl,by omega,by show h.n+5<B.n;omega,aL,QS⟩
theorem axf(h:I):Pure mc 23 [] h (.agg (cD eI 1)):=by
 refine Pure.of (a8.agg (aeO eI 1)) ((axe h).mono λr A ⟨F,ay,i,a,j,m⟩=>?_);subst ay;obtain⟨s,u,z⟩:=aF.own (Db (e:=68) (sz:=6) (n:=3) a j (by rw[fJ la];rfl) (by simp[b7])) (n:=3) (by rw[fJ la];rfl) (by decide)
 exact⟨s,Pk.aF.agg (aA.cons u (aA.refl _ _)),m.trans z λq B e=>by simp[a7,aU]at e;omega⟩
theorem axg{v:V}(l:List bC)(ax:l.length<=2^30)(he:∀x∈l,vS x)(h:I)(aI:Own h 48 11 v (l.flatMap br))(hu:pZ h) :
  au mc 27 [v] h (λr h'=>∃lm ck L W T ef,r=.agg [.map lm,.map ck]/\x0 h h' lm ck (hM l) L W T ef):=by
 refine au.cast ?_;have ud:=Hi aI A9 (by decide) (fJ w9 l)
 refine bd Tryz.func27 rfl ?_;simp only[ae,ds,AS,By,reduceCtorEq,aqk,ab5,V5,ud];refine aS.bI (α:=Nat×(kW×Nat×kW×Nat×gN)) (λy f h'=>f 2=.ptr h.n 0/\f 3=.ptr (h.n+3) 0/\f 9=v/\f 10=.int .i64 (l.length:Nat)/\f 11=.int .i64 (y.1:Nat)/\y.1<=l.length /\
   h'.get (h.n+3)=.cells [.map (h.n+1),.map (h.n+2)] 74 none/\h.n+3<h'.n/\(∀m,y.2.2.2.2.2 (h.n+3)≠some m) /\
   j8 (h.push (.cells [.fj,.fj] 74 none)) h' (h.n+1) (h.n+2) (hM (l.take y.1)).logs (hM (l.take y.1)).tasks y.2.1 y.2.2.1 y.2.2.2.1 y.2.2.2.2.1 y.2.2.2.2.2)
   (λy=>l.length-y.1) (0,[],0,[],0,Cb (h.n+1) (h.n+2)) ⟨rfl,rfl,rfl,rfl,rfl,Dy _,?_,?_,?_,?_⟩ ?_
 ·simp[I.push]
 ·simp only[df];omega
 ·intro m U;rcases ahF U with e|e<;>omega
 ·refine TB _ _ _ _ (((J.push _ _ _).trans' (J.push _ _ _)).trans' (J.push _ _ _)) ⟨BY _,?_⟩ ⟨?_,?_⟩ (by omega) ?_ ?_
  ·simp only[df];omega
  ·simp only[df];omega
  ·simp only[df];omega
  ·simp[I.push]
  ·simp[I.push]
 rintro⟨i,L,W,T,ef,A⟩ f X ⟨Y,C,Z,z,u,hi,gs,kz,lW,w⟩
 simp only at u hi lW w;refine wpS ?_;have xk:=w.ai;have wo:=xk.n;rw[df]at wo;by_cases F:i<l.length
 ·have d1:=dV (a:=i) (b:=l.length) (by omega)
  have pv:=hR (i:=i) (by omega)
  have D7:=(aI.ba (J.push h (.cells [V.fj,.fj] 74 none) none_)).ba xk;obtain⟨YD,aG,bV,_,Bq⟩:=ahh (kk:=.i64) w9 (by decide) Qu D7 F
  rw[d6,Qu]at bV;rw[Nat.zero_add]at bV Bq;have bV:qM (some 11) none v (i:Int)=some (.ptr YD (i*11)):=bV;have Q:hM (l.take (i+1))=mb (hM (l.take i)) l[i] i:=by rw[azi F,Ff,TY,Nat.min_eq_left (by omega)]
  have EW:=YE i (l.take i) (by rw[TY];omega)
  have O3:∀n,((hM (l.take i)).logs n).length<=i:=λn=>by have:=ahD (l.take i) n;rw[TY]at this;omega
  have ot:=he _ (ayM F);generalize l[i]=x at Bq Q ot;generalize hM (l.take i)=s at w Q EW O3;have ld:=av8;have qE:(V.agg (br x)).cells=some (br x):=rfl;have Dm:bA (some 11) (aR.cells [V.int .i64 0,.int .i64 0,.int .i64 0,.int .i64 0,.int .i64 0,.int .i64 0,.int .i64 0,.int .i64 0,.bool false,.ag,.ag] 48 none) 0 (br x)=some (.cells (br x) 48 none):=rfl;obtain⟨H,hH,bo,jV,ib⟩:=b0 X (.cells (br x) 48 none);have G:=(bo.get (h.n+3) kz (by simp[none_])).trans gs
  have oe:=w.on bo;have h2:pZ H:=by unfold pZ;rw[bo.glob,xk.glob];exact hu
  have hg:(br x).take 11=br x:=rfl;have O4:=w9 x;simp only[ae,ds,apy,Gj,Qu,LW,Ok,Z,z,u,d1,bV,Bq,ld,qE,Dm,hg,O4];rw[<-hH];clear hH;refine bO (avE x H h2 ot) ?_;have Fs:∀q m,A q=some m->q≠h.n+3:=λq m D U=>lW m (U▸D);have ah:∀q m,A q=some m->q≠X.n:=λq m D U=>by have:=(w.bD _ _ D).2;omega
  have d0:cO (aR.cells (br x) 48 none) 0=some (br x):=rfl;have TL:cO (aR.cells (br x) 48 none) 1=some ((br x).drop 1):=rfl;have aq:cO (aR.cells (br x) 48 none) 2=some ((br x).drop 2):=rfl;have q4:cJ (some none) (some (br x))=some (.int .i64 x.kind):=rfl;have eD:cJ (some none) (some ((br x).drop 1))=some (.int .i64 x.task):=rfl;have dw:cJ (some none) (some ((br x).drop 2))=some (.int .i64 x.cZ):=rfl;have aJ:cJ (some (some 11)) (some (br x))=some (.agg (br x)):=rfl;have cS:cO (aR.cells [V.map (h.n+1),.map (h.n+2)] 74 none) 0=some [.map (h.n+1),.map (h.n+2)]:=rfl;have O5:cJ (some (some 2)) (some [V.map (h.n+1),.map (h.n+2)])=some (.agg [.map (h.n+1),.map (h.n+2)]):=rfl;cases hm:lB x with
  | false=>
   simp only[ae,ds,reduceCtorEq,Gk,C,u,pv];exact ar ⟨(i+1,L,W,T,ef,A),⟨Y,C,Z,z,rfl,F,G,by omega,lW,oe.cast (Q.trans (by unfold mb;rw[if_pos hm])).symm⟩,by simp only;omega⟩
  | true=>
   have hk:=((E6 x).1 hm).1;have yV:¬lB x=false:=by rw[hm];simp
   by_cases bx:x.kind=1
   ·have bf:(x.kind==1)=true:=by simpa using bx
    have Hb:(s.logs x.log).length<=2^40:=by
     have:=O3 x.log;omega
    simp only[ae,ds,yQ,aY,Gj,Gk,C,jV,G,d0,q4,hg,O4,cS,O5,bf];refine cA (Ot x oe Hb) λr aC ⟨E,Oy,Fe,hC,iI,Ob,M,rn⟩=>?_;subst E;have n3:=M.n;have B9:=(M.get (h.n+3) (by omega) (λU=>by rcases U with U|⟨k,i2,U⟩;omega;exact Fs _ _ U rfl)).trans G
    simp only[ae,ds,u,pv];exact ar ⟨(i+1,Oy,Fe,T,ef,hC),⟨Y,C,Z,z,rfl,F,B9,by omega,λm U=>by
     rcases rn _ _ U with U|U
     ·exact Fs _ _ U rfl
     ·omega,j8.cast (s:=⟨jI s.logs x,s.tasks⟩) iI (Q.trans (by unfold mb;rw[if_neg yV,if_pos bx])).symm⟩,by simp only;omega⟩
   have bf:(x.kind==1)=false:=by simpa using bx
   have Ip:Fj h A (h.n+3)=False:=eq_false λU=>by rcases U with U|U|⟨m,U⟩;omega;omega;exact Fs _ _ U rfl
   have HY:Fj h A X.n=False:=eq_false λU=>by rcases U with U|U|⟨m,U⟩;omega;omega;exact ah _ _ U rfl
   by_cases dQ:x.kind=5
   ·have c5:(x.kind==5)=true:=by simpa using dQ
    simp only[ae,ds,yQ,aY,jV,d0,q4,bf,c5];refine aS.cS (λq=>Fj h A q) [3,6] (.q 0 (.q 1 (.q 2 (.q 4 (.q 5 (.e 3 (.a 6 .done) .stop)))))) ?_;simp only[ae,bt,fo,ds,Qi,Ef,aY,Gk,C,jV,G,TL,aq,eD,dw,cS,O5,Ip,HY];refine cA (agW x.task oe) λr B ⟨b,N,R,S,E,ak,O,c0,ky⟩=>?_;subst E;have Fu:J H B (λq=>Fj h A q):=c0.mono λq D=>.inr (.inl D);have dd:=c0.n;simp only[ae,bt,fo,ds,Fu];refine cA (avO (e:=x.cZ) (j:=bY s x.task) O ak (by unfold named;rw[if_pos rfl];rfl)) λr aC ⟨E,iI,M⟩=>?_
    subst E;have O6:J H aC (λq=>Fj h A q):=Fu.trans M λq D ⟨m,U⟩=>by
     rcases ky _ _ U with U|U
     ·exact .inr (.inr ⟨m,U⟩)
     ·omega
    have n3:=M.n;have B9:=(O6.get (h.n+3) (by omega) (by rw[Ip];exact id)).trans G
    have cr:(λn=>if n=x.task then some (nu (bY s x.task) x.cZ)else named s.tasks x.task n)=(λn=>if n=x.task then some (nu (bY s x.task) x.cZ)else s.tasks n):=by
     funext n
     split
     ·rfl
     ·rename_i U;unfold named;rw[if_neg U]
    rw[cr]at iI;simp only[ae,bt,fo,ds,u,pv];exact ar ⟨(i+1,L,W,N,R,S),⟨Y,C,Z,z,rfl,F,B9,by omega,λm U=>by
      rcases ky _ _ U with U|U
      ·exact Fs _ _ U rfl
      ·omega,j8.cast (s:=⟨s.logs,λn=>if n=x.task then some (nu (bY s x.task) x.cZ)else s.tasks n⟩) iI (Q.trans (by unfold mb;rw[if_neg yV,if_neg bx,if_pos dQ])).symm⟩,by simp only;omega⟩
   have c5:(x.kind==5)=false:=by simpa using dQ
   by_cases hD:x.kind=6
   ·have bu:(x.kind==2)=false:=by rw[hD];rfl
    have c3:(x.kind==3)=false:=by rw[hD];rfl
    have fb:(x.kind==4)=false:=by rw[hD];rfl
    simp only[ae,ds,yQ,aY,u,jV,d0,q4,bf,c5,bu,c3,fb,pv];exact ar ⟨(i+1,L,W,T,ef,A),⟨Y,C,Z,z,rfl,F,G,by omega,lW,oe.cast (Q.trans (by unfold mb;rw[if_neg yV,if_neg bx,if_neg dQ,if_pos hD])).symm⟩,by simp only;omega⟩
   have aM:=FS EW x.task;have dk:∀{B:I} {N:kW} {R:Nat} {S:gN} {b:Nat},j8 (h.push (.cells [.fj,.fj] 74 none)) B (h.n+1) (h.n+2) s.logs (named s.tasks x.task) L W N R S->bQ N x.task=some b ->
     au mc 53 [.agg [.map (h.n+1),.map (h.n+2)],.ptr b 0,.agg (br x),.int .i64 (i:Nat)] B (λr h'=>r=.tuple []/\∃kr AG aa,j8 (h.push (.cells [.fj,.fj] 74 none)) h' (h.n+1) (h.n+2) (mb s x i).logs (mb s x i).tasks kr AG N R aa/\J B h' (λq=>q=h.n+1\/∃m,S q=some m)/\(∀q m,aa q=some m->S q=some m\/B.n<=q)):=λ{B N R S b} O ak=>by
    have aN:named s.tasks x.task x.task=some (bY s x.task):=by unfold named;rw[if_pos rfl];rfl
    have cr:(λn=>if n=x.task then some (mJ (bY s x.task) x i)else named s.tasks x.task n)=(λn=>if n=x.task then some (mJ (bY s x.task) x i)else s.tasks n):=by
     funext n
     split
     ·rfl
     ·rename_i U;unfold named;rw[if_neg U]
    have aw:mb s x i=⟨r1 s.logs (bY s x.task) x,λn=>if n=x.task then some (mJ (bY s x.task) x i)else s.tasks n⟩:=by unfold mb;rw[if_neg yV,if_neg bx,if_neg dQ,if_neg hD]
    rw[aw,<-cr];by_cases av:x.kind=3->x.cZ≠(bY s x.task).ep\/x.hG≠(bY s x.task).tx
    ·exact avS x i O ak aN (by omega) (by omega) (by omega) av
    ·have aC:x.kind=3:=Classical.byContradiction λU=>av λh=>absurd h U;have bn:¬(x.cZ≠(bY s x.task).ep\/x.hG≠(bY s x.task).tx):=λU=>av λ_=>U;have az:∀n,(s.logs n).length<=2^30:=λn=>by
      have:=O3 n;omega
     exact avU x i O ak aN (by omega) az (by omega) aC (((E6 x).1 hm).2.2.2.2.2.2.1) (by have:=((E6 x).1 hm).2.2.2.2.2.2.2.2.1;omega) (by omega) (by omega) (by omega)
   have RM:x.kind=2\/x.kind=3\/x.kind=4:=by omega
   rcases RM with k2|k2|k2
   all_goals
    simp only[ae,Int.reduceBEq,ds,yQ,aY,jV,d0,q4,k2];refine aS.cS (λq=>Fj h A q) [4,7] (.q 0 (.q 1 (.q 2 (.q 3 (.q 5 (.q 6 (.e 4 (.a 7 .done) .stop))))))) ?_;simp only[ae,bt,fo,ds,Qi,aY,Gj,Gk,C,jV,G,d0,TL,eD,hg,O4,cS,O5,Ip,HY];refine cA (agW x.task oe) λr B ⟨b,N,R,S,E,ak,O,c0,ky⟩=>?_;subst E;have Fu:J H B (λq=>Fj h A q):=c0.mono λq D=>.inr (.inl D);have dd:=c0.n;simp only[ae,bt,fo,ds,Fu];refine cA (dk O ak) λr aC ⟨E,Oy,Fe,hC,iI,M,rn⟩=>?_;subst E;have O6:J H aC (λq=>Fj h A q):=Fu.trans M λq D U=>by
     rcases U with U|⟨m,U⟩
     ·exact .inl U
     ·rcases ky _ _ U with U|U
      ·exact .inr (.inr ⟨m,U⟩)
      ·omega
    have n3:=M.n;have B9:=(O6.get (h.n+3) (by omega) (by rw[Ip];exact id)).trans G
    simp only[ae,bt,fo,ds,u,pv];exact ar ⟨(i+1,Oy,Fe,N,R,hC),⟨Y,C,Z,z,rfl,F,B9,by omega,λm U=>by
      rcases rn _ _ U with U|U
      ·rcases ky _ _ U with U|U
       ·exact Fs _ _ U rfl
       ·omega
      ·omega,iI.cast Q.symm⟩,by simp only;omega⟩
 ·obtain rfl:i=l.length:=by omega
  have d1:decide ((l.length:Int)<(l.length:Int))=false:=decide_eq_false (by omega)
  rw[List.take_length]at w;have cS:cO (aR.cells [V.map (h.n+1),.map (h.n+2)] 74 none) 0=some [.map (h.n+1),.map (h.n+2)]:=rfl;have O5:cJ (some (some 2)) (some [V.map (h.n+1),.map (h.n+2)])=some (.agg [.map (h.n+1),.map (h.n+2)]):=rfl;have g0:X.get h.n=.cells [.fj,.fj] 74 none:=(xk.get h.n (by rw[df];omega) (by simp[none_])).trans fv
  have qp:(V.agg [V.map (h.n+1),.map (h.n+2)]).cells=some [V.map (h.n+1),.map (h.n+2)]:=rfl;have aB:bA (some 2) (aR.cells [V.fj,.fj] 74 none) 0 [V.map (h.n+1),.map (h.n+2)]=some (.cells [V.map (h.n+1),.map (h.n+2)] 74 none):=rfl;simp only[ae,ds,Gk,V5,Y,C,z,u,d1,gs,g0,cS,O5,qp,aB,aP,Tryz.results27,tb,fq];have c6:J X (X.set h.n (.cells [V.map (h.n+1),.map (h.n+2)] 74 none)) (·=h.n):=J.set _ _ _;have O:=w.RF (h0':=h) c6 (λq U m he=>by have:=(w.bD _ _ he).1;rw[df]at this;omega) ((((J.push _ _ _).trans' xk).up).trans c6 λq D U=>by omega) (by rw[df];omega)
  obtain⟨B,bu,v2⟩:=O.freeze;exact ar ⟨_,B,bu _,_,_,_,_,_,_,rfl,v2⟩
theorem Za{v:V}(l:List bC)(Y:l.length<=2^30)(Z:∀x∈l,vS x)(h:I)(M:Own h 48 11 v (l.flatMap br))(hu:pZ h):Pure mc 10 [v] h (.agg (cN (toldOf l))):=by
 refine Pure.of (a8.agg (av2 _)) ?_;have ud:=Hi M A9 (by decide) (fJ w9 l)
 refine bd Tryz.func10 rfl ?_;simp only[ae,ds,reduceCtorEq,QB];obtain⟨mE,N,A,g0,ox⟩:=b0 h (.cells [.ag,.ag,.int .i64 0] 34 none);rw[<-N];clear N;refine cA (axg l Y Z mE (M.ba A) (by unfold pZ;rw[A.glob];exact hu)) λr O ⟨s,u,L,lc,T,ef,jc,w⟩=>?_
 subst jc;obtain⟨fF,cr⟩:=w.len;have en:=w.ai.n;have av:(V.agg [.map s,.map u]).cells=some [.map s,.map u]:=rfl;have st:bA (some 2) (aR.cells [V.fj,.fj] 74 none) 0 [.map s,.map u]=some (.cells [.map s,.map u] 74 none):=rfl;obtain⟨Q,R,B,g1,aa⟩:=b0 O (.cells [.map s,.map u] 74 none);have C:Q.get h.n=_:=((w.ai.trans' B).get h.n (by omega) (by simp[none_])).trans g0
 have D:=w.on B;simp only[ae,ds,ab5,V5,av,st];rw[<-R];clear R;refine aS.cS none_ [1,3,7] (.q 0 (.q 2 (.q 4 (.q 5 (.e 1 (.e 3 (.q 6 (.a 7 .done)) .stop) .stop))))) ?_;simp only[ae,bt,ds,AS,reduceCtorEq,Gk,g1,ud];refine cA (awo D (by omega)) λcL ad ⟨ah,kC,s1,i⟩=>?_
 obtain rfl:=D.JU kC s1;have S:=D.on i.ai;have rB:=i.ai;simp only[ae,bt,ds,rB];refine cA (awp S (by omega)) λdB z ⟨aq,rC,s2,j⟩=>?_
 obtain rfl:=S.vW rC s2;have E:J Q z none_:=i.ai.trans' j.ai;have xm:cL.one=true:=by rcases i.own with⟨rfl|rfl,_⟩|⟨_,_,_,_,_,rfl,_⟩<;>rfl
 have Dn:dB.one=true:=by rcases j.own with⟨rfl|rfl,_⟩|⟨_,_,_,_,_,rfl,_⟩<;>rfl
 have xc:cL.cells=some [cL]:=by rcases i.own with⟨rfl|rfl,_⟩|⟨_,_,_,_,_,rfl,_⟩<;>rfl
 have xd:dB.cells=some [dB]:=by rcases j.own with⟨rfl|rfl,_⟩|⟨_,_,_,_,_,rfl,_⟩<;>rfl
 have Xx:bA (some 3) (aR.cells [V.ag,.ag,.int .i64 0] 34 none) 0 [cL,dB,.int .i64 (l.length:Nat)]=some (.cells [cL,dB,.int .i64 (l.length:Nat)] 34 none):=by
  rcases i.own with⟨rfl|rfl,_⟩|⟨_,_,_,_,_,rfl,_⟩<;>rcases j.own with⟨rfl|rfl,_⟩|⟨_,_,_,_,_,rfl,_⟩<;>rfl
 have Mz:z.get h.n=.cells [.ag,.ag,.int .i64 0] 34 none:=(E.get h.n (by omega) (by simp[none_])).trans C
 simp only[ae,bt,ds,AS,By,CH,aqi,QB,V3,E,Mz,Xx,xc,xd,aP,Tryz.results10,tb,fq];obtain⟨F,W⟩:∃y,y=z.set h.n (.cells [cL,dB,.int .i64 (l.length:Nat)] 34 none):=⟨_,rfl⟩;have G:J z F (·=h.n):=by rw[W];exact J.set _ _ _
 have sJ:J h F none_:=(A.trans' ((w.ai.trans' B).trans' E)).trans (by exact G) λq m U=>by omega
 have DS:=i.ai.n;have gR:Own F 90 3 cL ((x1 l).flatMap cj):=(i.own.ba j.ai).ai G λq m U=>by have:=i.new q m;omega
 have ec:Own F 57 6 dB ((xg l).flatMap cF):=j.own.ai G λq m U=>by have:=j.new q m;omega
 obtain⟨aw,bf,X⟩:=aF.own (cs:=(x1 l).flatMap cj) gR (n:=(x1 l).length) (fJ JR _) (by decide)
 have Aw:=ec.ai X λq m U=>by have O:=j.new q m;have ad:=i.own.lt q U;omega
 obtain⟨H,bu,f2⟩:=aF.own (cs:=(xg l).flatMap cF) Aw (n:=(xg l).length) (fJ JT _) (by decide)
 rw[<-W];exact ar ⟨H,Hg (aA.cons bf (aA.cons bu (aA.refl _ _))),(sJ.trans X λq m U=>by have:=i.new q U;omega).trans f2 λq m U=>by have:=j.new q U;omega⟩
def vf:bC:=⟨1,0,0,0,0,⟨1,5,0⟩,false,[],[]⟩
def fa:uG:=toldOf [vf]
def d21:fO:=nx eI 1 0
def xl:eU:=Bw fa d21
def t21:eU:=(pw d21 xl fa 0).1
def AL:eU:=(pw d21 t21 fa 0).1
def Iq:List bC:=oY d21 AL
theorem n21:x2 eI 1 0=0:=by decide
theorem cL:(pw d21 xl fa 0).2=(true,0):=by kernel_rfl
theorem dB:(pw d21 t21 fa 0).2=(false,0):=by kernel_rfl
theorem jf:Iq.length=6:=by kernel_rfl
theorem CO:Iq.map (λx=>(x.log,x.kind,x.offs))=[(2,2,[]),(3,2,[]),(3,2,[]),(4,2,[]),(4,2,[]),(0,3,[1])]:=by kernel_rfl
theorem TM:d21=⟨⟨eI,1,0⟩,0,0⟩:=by
 have:jK 1 eI 0=(0,0):=by decide
 unfold d21 nx;rw[this]
theorem Zb:sO fa:=by
 refine⟨by decide,by decide,λp i=>?_,λx a=>?_⟩
 ·have:∀p∈fa.logs,p.2.length<=2^30:=by decide
  exact this p i
 ·have:fa.tasks=[]:=by decide
  rw[this]at a;cases a
theorem ajb(a:uG)(d:fO)(o:fM d.c):y2 d.c (Bw a d).m:=avp o
theorem Zc(v:Int):logAt fa.logs (dG 1 eI 1 v 0)=[]:=by
 have a:fa.logs=[(0,[(⟨1,5,0⟩,false)])]:=by kernel_rfl
 unfold logAt;rw[a];have i:dG 1 eI 1 v 0≠0:=by
  unfold dG;split
  ·rename_i U;have j:(eI.length:Int)=3:=rfl;rw[j]at U⊢;omega
  ·decide
 have:((0:Int)==dG 1 eI 1 v 0)=false:=by simpa using λe=>i e.symm
 simp[this]
theorem Zd{a b:List bC}(aT:rj a)(ak:rj b):rj (a++b):=λx i=>by
 rcases List.mem_append.1 i with h|h
 ·exact aT x h
 ·exact ak x h
theorem ajc(d:fO)(s:eU)(x:fR):rj (uV d s x):=by
 unfold uV;refine Zd (Zd (λy a=>?_) (λy a=>?_)) (λy a=>?_)
 ·obtain⟨o,_,rfl⟩:=OF.1 a;exact⟨rfl,rfl⟩
 ·obtain⟨o,_,a⟩:=aAK.1 a;rcases Iz.1 a with rfl|a
  ·exact⟨rfl,rfl⟩
  ·rw[aAj.1 a];exact⟨rfl,rfl⟩
 ·obtain⟨o,_,rfl⟩:=OF.1 a;exact⟨rfl,rfl⟩
theorem ajd{H h:I}{v:V}{l:List bC}(ak:rj l)(a:Acc H h 48 11 v (l.flatMap eB)) :
  ∃u,(∀r,aF r h r u)/\Acc H u 48 11 v (l.flatMap br):=by
 have o:=a.own;have s:(l.flatMap br).length=(l.flatMap eB).length:=by rw[fJ Br,fJ w9]
 rcases o with⟨G,U⟩|⟨i,j,cap,c,B,e,hi,z,m,C,D⟩
 ·have:=congrArg List.length U;rw[fJ Br]at this;have E:l.length=0:=by rw[List.length_nil]at this;omega
  obtain rfl:=aAm.1 E;exact⟨h,λr=>aF.refl _ _,a⟩
 ·subst e;have av:c=l.flatMap eB++c.drop (j*11):=by rw[<-C,azU]
  have F:aA c h (l.flatMap br++c.drop (j*11)) h:=by
   have:=Y5 h (aA.refl (c.drop (j*11)) h) l ak;rwa[<-av]at this
  have A:(l.flatMap br++c.drop (j*11)).length=c.length:=by
   rw[Dx,s,<-Dx,<-av]
  refine⟨_,λr=>aF.uO z F z A r,.inr ⟨i,j,cap,_,B,rfl,hi,aL,s.trans m,?_,?_⟩,?_,a.new⟩
  ·rw[<-m,<-s,List.take_left]
  ·rw[A];exact D
  ·exact a.ai.trans (J.set _ _ _) λq L U=>by have:=a.new i rfl;subst U;omega
theorem axl(h:I)(aw:jG h)(hu:pZ h):Pure mc 7 [] h (.bool true):=by
 refine Pure.val (a8.bool _) ?_;refine bd Tryz.func7 rfl ?_;have F:=YX h vf;unfold eB vf at F;simp only at F;simp only[ae,ds,AS,By,reduceCtorEq,Ek,Qt,tg,LW,F];have gR:Own (h.push (.cells (eB vf) 48 none)) 48 11 (.bg h.n 0 1 1) (eB vf):=Own.e4 _ 1 rfl (by decide)
 obtain⟨H,hH,bo,_,_⟩:=b0 h (.cells (eB vf) 48 none);rw[<-hH]at gR;unfold eB vf at hH;simp only at hH;rw[<-hH];clear hH F;obtain⟨O,bf,s⟩:=ajd (H:=h) (l:=[vf]) (λy bk=>by rw[aAj.1 bk];exact⟨rfl,rfl⟩) ⟨gR,bo,λq B=>by simp[aU]at B;omega⟩
 have o6:J h O none_:=s.ai;have De:pZ O:=by unfold pZ;rw[o6.glob];exact hu
 refine cA (au.args (aA.cons (bf _) (aA.refl _ _)) (Za [vf] (by decide) (λx ah=>by rw[aAj.1 ah];exact⟨by decide,by decide⟩) O s.own De)) λr B ⟨ay,bc⟩=>?_
 subst ay bc;rw[show toldOf [vf]=fa from rfl]
 have Fp:(V.agg (cN fa)).cells=some (cN fa):=rfl;have q4:(if 3<=(cN fa).length then some (V.agg (azw 3 (cN fa)))else none)=some (.agg (cN fa)):=rfl
 have Q:cO (aR.cells (cN fa) 34 none) 0=some (cN fa):=rfl;have R:cJ (some (some 3)) (some (cN fa))=some (.agg (cN fa)):=rfl;obtain⟨ca,bP,k2,Bn,dd⟩:=b0 B (.cells (cN fa) 34 none);have D:=o6.trans' k2;have t2:=aw.ai D;have O7:bA (some 3) (aR.cells [V.ag,V.ag,.int .i64 0] 34 none) 0 (cN fa)=some (.cells (cN fa) 34 none):=rfl;simp only[ae,ds,reduceCtorEq,QB,V3,Fp,O7];rw[<-bP];clear bP;have eR:∀q,¬none_ q:=λ_ h=>h;refine aS.cS none_ [2] (.c 0 (.q 1 (.a 2 (.q 3 (.q 4 (.q 5 (.q 6 (.q 7 .done)))))))) ?_;simp only[fo];refine fA rfl rfl rfl (λh' hk=>axf h') ?_;simp only[ae,bt,fo,ds,reduceCtorEq,CH,Bn,Q,R,eR];refine cA (aiW 1 eI 1 0 aeR fa Zb ca t2 (λ_=>(0,0)) (λ_ _=>rfl) (by decide) (.inl (by decide)) (by rw[show jK 1 eI 0=(0,0)by decide];exact Zc)) λr aC ⟨G,bh⟩=>?_
 rcases bh with⟨aB,_⟩|⟨_,k,w,hC,cW,c0,M,f3⟩
 ·exact absurd n21 aB
 subst cW;rw[show nx eI 1 0=d21 from rfl,show Bw fa d21=xl from rfl]at c0
 have n3:=G.n;have Fv:=(G.get B.n (by omega) (by simp[none_])).trans Bn
 have t3:=t2.ai G;have ne:=OK k;have z0:((0:Int) !=0)=false:=rfl;simp only[ae,bt,fo,ds,reduceCtorEq,CH,ne,Fv,Q,R];have AM:fM d21.c:=by rw[TM];exact Og
 have g0:y2 d21.c xl.m:=ajb fa d21 AM;refine cA (Y1 AM c0 g0 t3 f3 (by decide) fa Zb (by decide) (by decide) (by decide) 0) λr bn ⟨hW,wA,e1,TN,C⟩=>?_
 rw[show pw d21 xl fa 0=(t21,(pw d21 xl fa 0).2)from rfl,cL]at hW TN
 subst hW;have t4:=t3.ai C.ai;have S:=(C.ai.get B.n (by omega) (by rw[M _ (by omega)];simp)).trans Fv
 have aa:e1 B.n=(0,0):=(C.bD _ (by omega)).trans (M _ (by omega))
 have n4:=C.ai.n;simp only[ae,ds,reduceCtorEq,CH,S,Q,R];have g1:y2 d21.c t21.m:=by
  rw[show t21.m=(stepT d21.c xl.m 0 ⟨1,5,0⟩).1.1 by kernel_rfl]
  exact Yi AM g0 0 _
 refine cA (Y1 AM TN g1 t4 C.aX (by decide) fa Zb (by kernel_rfl) (by rw[show t21.kept.length=5 by kernel_rfl];decide) (by rw[show t21.order.length=1 by kernel_rfl];decide) 0) λr N ⟨jB,rI,eK,uK,Fw⟩=>?_
 rw[show pw d21 t21 fa 0=(AL,(pw d21 t21 fa 0).2)from rfl,dB]at jB uK
 subst jB;simp only[ae,ds,reduceCtorEq];have YF:AL.kept=uV d21 xl (stepT d21.c xl.m 0 ⟨1,5,0⟩).1.2:=by kernel_rfl
 have RN:rj AL.kept:=by rw[YF];exact ajc _ _ _
 refine bO (Y7 uK RN (by decide) (by rw[show AL.kept.length=5 by kernel_rfl];decide) (by rw[show AL.order.length=1 by kernel_rfl];decide)) ?_
 rw[show oY d21 AL=Iq from rfl]
 have T:=jf;have W:=CO;generalize Iq=L at T W;rw[T];obtain⟨i,s,u,z,A,j,rfl⟩:∃i s u z A j,L=[i,s,u,z,A,j]:=by
  match L,T with
  | [i,s,u,z,A,j],_=>exact⟨i,s,u,z,A,j,rfl⟩
 simp only[axU,List.map_nil,List.cons.injEq,Prod.mk.injEq]at W;obtain⟨⟨m0,_⟩,_,_,_,_,⟨_,m5,m6⟩,_⟩:=W;have E:gP mc 29 (.af 6 ([i,s,u,z,A,j].flatMap br)) (.int .i64 0)=some (.at (br i++[s,u,z,A,j].flatMap br)):=ahE (l:=[i,s,u,z,A,j]) (k:=0) (by simp)
 have Z:gP mc 29 (.af 6 ([i,s,u,z,A,j].flatMap br)) (.int .i64 5)=some (.at (br j++[].flatMap br)):=ahE (l:=[i,s,u,z,A,j]) (k:=5) (by simp)
 generalize [i,s,u,z,A,j].flatMap br=X at E Z⊢;generalize [s,u,z,A,j].flatMap br=Y at E;have xy:br i++Y=[.int .i64 i.kind,.int .i64 i.task,.int .i64 i.cZ,.int .i64 i.hG,.int .i64 2]++([.int .i64 i.r.k,.int .i64 i.r.v,.int .i64 i.r.t,.bool i.del,.af i.offs.length (ao i.offs),.af i.order.length (ao i.order)]++Y):=by rw[<-m0];rfl
 have JF:br j++([]:List bC).flatMap br=[.int .i64 3,.int .i64 j.task,.int .i64 j.cZ,.int .i64 j.hG,.int .i64 j.log,.int .i64 j.r.k,.int .i64 j.r.v,.int .i64 j.r.t,.bool j.del,.af 1 (ao [1]),.af j.order.length (ao j.order)]:=by
  unfold br;rw[m5,m6];rfl
 rw[xy]at E;rw[JF]at Z;simp only[azv,azy]at E;have cB:=Ng N 1;have iT:(((6:Nat):Int)==6)=true:=rfl;have bu:((2:Int)==2)=true:=rfl;have c3:((3:Int)==3)=true:=rfl;have jy:((0:Int)==0)=true:=rfl;simp only[ae,ds,AS,By,reduceCtorEq,yQ,Ji,LG,A9,aY,hL,E,Z,cB,iT];have CP:Own (N.push (.cells (ao [1]) 3 none)) 3 1 (.bg N.n 0 1 1) (ao [1]):=Own.e4 _ 1 rfl (by decide)
 obtain⟨dh,iq,qf⟩:=aF.own CP (n:=1) rfl (by decide)
 have dQ:J h N none_:=((D.trans' G).trans C.ai λq B U=>by rw[M q (by have:=D.n;omega)]at U;simp at U).trans Fw.ai λq B U=>by
  rw[C.bD q (by have:=D.n;omega),M q (by have:=D.n;omega)]at U;simp at U
 refine cA (au.args (aA.cons (aF.refl _ _) (aA.cons iq (aA.refl _ _))) (afd [1] [1] dh (by decide))) λr l1 ⟨Dj,wK⟩=>?_
 subst Dj wK;simp only[ae,ds,reduceCtorEq,aP,Tryz.results7,ac];exact ar ⟨rfl,(dQ.trans' (J.push _ _ none_)).trans qf λq B e=>by simp[a7,aU]at e;have:=dQ.n;omega⟩
theorem axm(l:List bC)(n:Int):logAt (x1 l) n=(hM l).logs n:=by
 have t:=He l;unfold logAt;cases a:(x1 l).find? (λc=>c.1==n)with
 | none=>
  have i:=aCb.1 a;show []=_;refine Classical.byContradiction λU=>?_;have:=(t.lm (n,(hM l).logs n)).2 ⟨rfl,λe=>U e.symm⟩;exact i _ this (by simp)
 | some c=>
  have j:=aEL a;have m:c.1=n:=by simpa using aGK a
  show c.2=_;rw[((t.lm c).1 j).1,m]
theorem ajf(l:List bC)(n:Int):sN (xg l) n=nv n (bY (hM l) n):=by
 have t:=He l;unfold sN bY;cases a:(xg l).find? (λc=>c.t==n)with
 | none=>
  have q:=aCb.1 a;cases s:(hM l).tasks n with
  | none=>rfl
  | some j=>
   have:=(t.ck (nv n j)).2 ⟨j,s,rfl⟩;exact absurd (by simp[nv]) (q _ this)
 | some c=>
  have u:=aEL a;have z:c.t=n:=by simpa using aGK a
  obtain⟨j,i,m⟩:=(t.ck c).1 u;rw[z]at i m;rw[i];exact m
theorem Zf{α:Type}{p:List α->Prop}(a:p [])(i:∀l x,p l->p (l++[x]))(l:List α):p l:=by
 have:∀r:List α,p r.reverse:=λr=>by
  induction r with
  | nil=>exact a
  | cons x r ih=>rw[List.reverse_cons];exact i _ _ ih
 have:=this l.reverse;rwa[List.reverse_reverse]at this
def O8(l:List bC):Prop:=∀x∈l,x.kind=1/\lB x=true
theorem Zg(l:List bC)(h:O8 l):(∀t,(hM l).tasks t=none)/\∀k,(hM l).logs k=(l.filter λx=>x.log==k).map λx=>(x.r,x.del):=by
 revert h
 refine Zf (p:=λl=>O8 l->(∀t,(hM l).tasks t=none)/\∀k,(hM l).logs k=(l.filter λx=>x.log==k).map λx=>(x.r,x.del)) (λ_=>⟨λ_=>rfl,λ_=>rfl⟩) (λl x ih h=>?_) l;obtain⟨i,a⟩:=ih λy j=>h y (List.mem_append_left _ j);obtain⟨m,q⟩:=h x (by simp)
 rw[Ff];unfold mb;rw[if_neg (by rw[q];decide),if_pos m]
 refine⟨i,λk=>?_⟩;show jI (hM l).logs x k=_;unfold jI;rw[List.filter_append,List.map_append];by_cases e:k=x.log
 ·subst e;rw[if_pos rfl,a];simp
 ·rw[if_neg e,a];have:(x.log==k)=false:=by simpa using λU=>e U.symm
  simp[this]
theorem axn(l:List bC):∀t j,(hM l).tasks t=some j->j.offs.length<=8:=by
 refine Zf (p:=λl=>∀t j,(hM l).tasks t=some j->j.offs.length<=8) (λt j h=>by cases h) (λl x ih t j h=>?_) l
 have a:(bY (hM l) x.task).offs.length<=8:=by
  unfold bY;cases i:(hM l).tasks x.task with
  | none=>exact Dy _
  | some j=>exact ih _ j i
 rw[Ff]at h;unfold mb at h;split at h
 ·exact ih t j h
 rename_i m;split at h
 ·exact ih t j h
 split at h
 ·simp only at h;split at h
  ·injection h with h;subst h;unfold nu;split<;>exact a
  ·exact ih t j h
 split at h
 ·exact ih t j h
 simp only at h;split at h
 ·injection h with h;subst h;unfold mJ;split
  ·exact a
  ·split
   ·exact a
   ·split
    ·exact((E6 x).1 (by simpa using m)).2.2.2.2.2.2.1
    ·exact a
 ·exact ih t j h
theorem ajg(l:List bC)(B:l.length<=2^30):sO (toldOf l):=by
 have t:=He l;have q:=RE _ l rfl;have s:=YE _ l rfl;refine⟨?_,?_,λp u=>?_,λx z=>?_⟩
 ·have a:((x1 l).map (·.1)).length<=(l.map (·.log)).length:=aA5.length_le_of_subset (azW.2 (t.ahx.imp λh=>by omega)) λk i=>by
   obtain⟨e,m,rfl⟩:=OF.1 i;have:=(t.lm e).1 m;exact q.oK _ (this.1▸this.2)
  rw[axT,axT]at a;show(x1 l).length<=_;omega
 ·have a:((xg l).map (·.t)).length<=(l.map (·.task)).length:=aA5.length_le_of_subset (azW.2 (t.ahy.imp λh=>by omega)) λk i=>by
   obtain⟨e,m,rfl⟩:=OF.1 i;obtain⟨j,a,_⟩:=(t.ck e).1 m;exact(q.hg _ _ a).1
  rw[axT,axT]at a;show(xg l).length<=_;omega
 ·rw[((t.lm p).1 u).1];have:=ahD l p.1;omega
 ·obtain⟨j,a,A⟩:=(t.ck x).1 z;rw[A];have C:=axn l _ j a;have D:=s.ord _ j a;refine⟨?_,?_⟩
  ·show j.offs.length<=_;omega
  ·show j.ord.length<=_;omega
theorem AM:fM d21.c:=by rw[TM];exact Og
theorem axo{d:fO}{s:eU}(o:fM d.c)(g:y2 d.c s.m)(v:Int)(r:Rec):(uV d s (stepT d.c s.m v r).1.2).length<=2^25:=by
 have bl:=Yj o g v r;have a:(stepT d.c s.m v r).1.2.outs.length<=2^22/\(stepT d.c s.m v r).1.2.chgs.length<=2^22/\(stepT d.c s.m v r).1.2.deads.length<=2^22:=by unfold sz at bl;omega
 unfold uV;rw[Dx,Dx,axT,axT,JV (enc:=tp d s) (sz:=2) (λ_=>rfl),aBk];omega
structure Hn(j:Nat)(s:eU):Prop where
 ri:y2 d21.c s.m
 offs:s.offs=[(j:Int)]
 ord:s.order.length<=j
 kept:s.kept.length<=s.order.length*2^25
theorem Hn.step{j:Nat}{s:eU}(k:Hn j s)(r:Rec):Hn (j+1) (Dr d21 s 0 0 (j:Int) r)/\(Dr d21 s 0 0 (j:Int) r).order.length=s.order.length+1:=by
 have i:=axo AM k.ri 0 r;refine⟨⟨Yi AM k.ri 0 r,?_,?_,?_⟩,?_⟩
 ·show s.offs.set (0:Int).toNat ((j:Int)+1)=_;rw[k.offs];rfl
 ·show(s.order++[(0:Int)]).length<=_;rw[Dx];have:=k.ord;simp;omega
 ·show(s.kept++uV d21 s (stepT d21.c s.m 0 r).1.2).length<=(s.order++[(0:Int)]).length*2^25;rw[Dx,Dx,aBj,axY];have:=k.kept;omega
 ·show(s.order++[(0:Int)]).length=_;rw[Dx];rfl
theorem axp(m:Nat)(k:Nat)(a:m*11=k*11+11)(i:k<=2^36):m*120<=lim/\m<=lim:=by
 have:m=k+1:=by omega
 subst this;exact⟨by simp only[lim];omega,by simp only[lim];omega⟩
open Go Go.Proofs Go.Proofs.YtemdgidnhgcafaaGreatDoor.Ab
theorem ajh:∀{es:List (List V)},(∀x∈es,j1.h7 (.int .u8) x)->∃a:List Nat,es=(a.map λn:Nat=>[V.int .u8 (n:Int)])/\∀b∈a,b<256
 | [],_=>⟨[],rfl,by simp⟩
 | e::es,h=>by
  obtain⟨l,rfl,i⟩:=ajh (es:=es) λx j=>h x (by simp[j])
  obtain⟨n,rfl,m⟩:=h e (by simp)
  simp only[Lit.wf,ajC,decide_eq_true_eq]at m;have q:aOT.u8.min=0:=rfl;have s:aOT.u8.max=255:=rfl;refine⟨n.toNat::l,?_,λb ak=>?_⟩
  ·rw[axU,Int.toNat_of_nonneg (by omega)]
  ·rcases Iz.1 ak with rfl|ak
   ·omega
   ·exact i b ak
theorem axq(a:List Nat):(a.map λn:Nat=>[V.int .u8 (n:Int)]).flatten=e5 a:=by
 induction a with
 | nil=>rfl
 | cons n i ih=>simp[ih,e5]
def x3:Nat->Option (List V):=λk=>if k=2 then some gv else if k=1 then some pU else if k=0 then some lX else none
theorem axr:jG (K9 x3):=⟨rfl,rfl⟩
theorem axs:pZ (K9 x3):=rfl
def p6:List (List Int):=[[0,0,0,0],[0,0,0,7],[1,1,0,0],[1,1,0,0],[1,1,0,0],[1,1,0,0],[1,2,0,0],[1,2,1,1048576],[1,2,1,1048576],[2,2,0,0],[1,0,0,7]]
def AO:List Int:=p6.flatten
def O9{H:Type}(r:List Int):DataW H:=.agg (r.map λz=>.lit (.int .i64 z))
def aji{H:Type}:DataW H:=.agg (p6.map O9)
theorem ajj{α:Type}:∀(n:Nat) (cs:List α) (f:Nat->List α),cs.length=n*4->(∀i,i<n->(cs.drop (i*4)).take 4=f i)->cs=((ajB n).map f).flatten
 | 0,cs,f,a,h=>by
  have:cs=[]:=List.eq_nil_of_length_eq_zero (by simpa using a)
  subst this;rfl
 | n+1,cs,f,a,h=>by
  have j:=h 0 (by omega)
  simp only[Nat.zero_mul,List.drop_zero]at j;have ih:=ajj n (cs.drop 4) (λi=>f (i+1)) (by rw[List.length_drop];omega) λi m=>by
   have:=h (i+1) (by omega)
   rw[List.drop_drop,show 4+i*4=(i+1)*4 by omega]
   exact this
  rw[List.range_succ_eq_map,axU,List.flatten_cons,List.map_map];show cs=f 0++((ajB n).map λi=>f (i+1)).flatten;rw[<-ih,<-j,azU]
def Zh(P:Program)(t:TypeId):Bool:=match P.underlying t with
 | some (.struct a)=>a.size==4&&(ajB 4).all λi=>match a[i]? with
  | some f=>(match P.underlying f.type with|some (.int .i64)=>true|_=>false)&&(f.offset==i&&P.cellsOf f.type==1)
  | none=>false
 | _=>false
theorem axt{P:Program}{t:TypeId}(h:Zh P t=true):∃j,P.underlying t=some (.struct j)/\j.size=4/\∀(i:Nat) (f:Field),j[i]?=some f->P.underlying f.type=some (.int .i64)/\f.offset=i/\P.cellsOf f.type=1:=by
 unfold Zh at h;split at h
 ·rename_i j q;simp only[ajC,beq_iff_eq,List.all_eq_true,aGL]at h;refine⟨j,q,h.1,λi f m=>?_⟩;have hi:i<4:=by
   have:=(Array.getElem?_eq_some_iff.1 m).1;omega
  have:=h.2 i hi;rw[m]at this;simp only[ajC,beq_iff_eq]at this;obtain⟨a,b,c⟩:=this;refine⟨?_,b,c⟩;split at a
  ·assumption
  ·cases a
 ·cases h
theorem axu{P:Program}{w:World}{base:Nat}{C:Nat->Bool}{j:Bool}{a:Nat}{t e:TypeId}{cs:List Value}{p:List MemPlace}
  (u:P.underlying t=some (.array 11 e)) (D:Zh P e=true) (A:P.cellsOf e=4) (E:P.cellsOf t=44)
  (h:DataW.trod (λ_=>()) P w base C j a t cs=some ((aji:DataW Unit),p)):cs=AO.map λz=>Value.int .i64 z:=by
 obtain⟨O,F,G,H⟩:=axt D;have m:cs.length=44:=by
  cases a with
  | zero=>simp[DataW.trod]at h
  | succ a=>
   simp only[DataW.trod,u]at h;split at h
   ·rename_i m;rw[E]at m;exact m
   ·cases h
 have L:∀i,i<11->(cs.drop (i*4)).take 4=(p6.getD i []).map λz=>Value.int .i64 z:=by
  intro i hi;obtain⟨M,d,q,s,B⟩:=Lib.array_elem u h i hi;rw[A]at B;have N:d=O9 (p6.getD i []):=by
   rw[List.getElem?_map]at s;have:p6[i]?=some (p6.getD i []):=by
    rw[List.getD,IA (show i<p6.length from hi)]
    rfl
   rw[this]at s;simpa using s.symm
  subst N;exact Lib.ints_of_struct F H (by rw[A,G]) B
 have:=ajj 11 cs _ (by omega) L
 rw[this];rfl
theorem axv{W : World}(h : laidMet mc [("tidemill/expr.kids", Lib.tabData .i64 dR), ("tidemill/rec.uses", Lib.tabData .i64 lb), ("tidemill/topo.needs", aji)] W) : La x3 W := by
 have m : Lib.TabIs mc W "tidemill/expr.kids" .i64 dR := Lib.tabIs_of_head (k := .i64) (zs := dR) (g := 2) (t := 292) (e := 3) (n := 17) (by kernel_rfl) (by kernel_rfl) (by kernel_rfl) (by kernel_rfl) (by kernel_rfl) (by kernel_rfl) h
 have s : Lib.TabIs mc W "tidemill/rec.uses" .i64 lb := Lib.tabIs_of_head (k := .i64) (zs := lb) (g := 0) (t := 108) (e := 3) (n := 7) (by kernel_rfl) (by kernel_rfl) (by kernel_rfl) (by kernel_rfl) (by kernel_rfl) (by kernel_rfl) (laidMet.tail h)
 have u : Lib.TabIs mc W "tidemill/topo.needs" .i64 AO := by
  obtain⟨ps,⟨z,G,A,j,p,q,B,C,D,E,_,_⟩,_⟩:=laidMet.tail (laidMet.tail h);have F : mc.globalNamed "tidemill/topo.needs" = some 1 := by kernel_rfl
  have i:(mc.globals[1]?).map (·.type)=some 246:=by kernel_rfl
  obtain rfl:=Option.some.inj (F.symm.trans B);obtain rfl:=Option.some.inj (i.symm.trans C);unfold Lib.TabIs;rw[D,<-axu (e:=245) (by kernel_rfl) (by kernel_rfl) (by kernel_rfl) (by kernel_rfl) E]
 intro k A a;unfold x3 at a;split at a
 ·rename_i e;subst e;obtain rfl:=Option.some.inj a;exact U5 (by kernel_rfl) m
 ·split at a
  ·rename_i _ e;subst e;obtain rfl:=Option.some.inj a;exact U5 (by kernel_rfl) u
  ·split at a
   ·rename_i _ _ e;subst e;obtain rfl:=Option.some.inj a;exact U5 (by kernel_rfl) s
   ·cases a
theorem axw{l:List V}(h:ix.hJ L3 (.cat (.int .i64) (.cat (.bg (.int .i64)) (.cat (.ext 3) (.cat (.int .i64) .unit)))) l):∃v:bz,yv v/\l=al v:=by
 obtain⟨C,_,rfl,⟨a,rfl,i⟩,D,_,rfl,⟨E,rfl,j,m⟩,F,_,rfl,⟨⟨e,q,rfl⟩,_⟩,s,_,rfl,⟨n,rfl,u⟩,rfl⟩:=h;obtain⟨z,rfl,A⟩:=Ab.aas (k:=.i64) m;refine⟨⟨a,z,e,n⟩,⟨q,by simpa using j,Ab.wf_i64 i,Ab.wf_i64 u,λf B=>Ab.wf_i64 (A f B)⟩,?_⟩
 simp only[al,anU,axT,axX,azy,azv];rfl
theorem axx{l:List V}(h:ix.hJ L3 (.cat (.bg (.cat (.int .i64) (.cat (.bg (.int .i64)) (.cat (.ext 3) (.cat (.int .i64) .unit))))) (.cat (.int .i64) .unit)) l):∃(t:List bz) (p:Int),ju t/\mu p/\l=cD t p:=by
 obtain⟨E,_,rfl,⟨j,rfl,A,z⟩,F,_,rfl,⟨p,rfl,B⟩,rfl⟩:=h;have:∃i:List bz,(∀v∈i,yv v)/\j.length=i.length/\j.flatten=i.flatMap al:=by
  clear A
  induction j with
  | nil=>exact⟨[],by simp,rfl,rfl⟩
  | cons a r ih=>
   obtain⟨i,m,q,s⟩:=ih λe C=>z e (by simp[C])
   obtain⟨v,D,rfl⟩:=axw (z a (by simp))
   refine⟨v::i,λx u=>?_,by simp[q],by simp[s]⟩
   rcases Iz.1 u with rfl|u
   ·exact D
   ·exact m x u
 obtain⟨i,m,q,s⟩:=this;exact⟨i,p,⟨by omega,m⟩,Ab.wf_i64 B,by rw[q,s];rfl⟩
theorem axy(l:List bz)(p:Int)(E:ju l)(h:I):au mc 8 [.agg (cD l p)] h (λr h'=>∃b,r=.bool b/\J h h' none_):=by
 have O:∀(l:List bz) (p:Int),(V.agg (cD l p)).cells=some [.af l.length (l.flatMap al),.int .i64 p]:=λ_ _=>rfl;refine bd Tryz.func8 rfl ?_;obtain⟨H,hH,F,B,_⟩:=b0 h (.cells [.af l.length (l.flatMap al),.int .i64 p] 24 none);simp only[ae,O,<-hH];clear hH;refine aS.bI (α:=Nat×Int) (λx f h'=>f 1=.ptr h.n 0/\f 3=.int .i64 x.2/\f 4=.int .i64 (x.1:Nat)/\x.1<=l.length/\h'=H) (λx=>l.length-x.1) (0,0) ⟨rfl,rfl,rfl,Dy _,rfl⟩ ?_
 rintro⟨x,n⟩ f h' ⟨s,u,j,Q,rfl⟩
 simp only at u j Q;have X:=E.1;refine wpS ?_;by_cases z:x<l.length/\n<=3000
 ·have m:=dV (a:=x) (b:=l.length) (by omega)
  have C:decide (n<=3000)=true:=decide_eq_true z.2;have R:=mQ z.1 (by omega)
  have G:=(E.2 _ (ayM z.1)).1;have q:gP mc 22 (.af l.length (l.flatMap al)) (.int .i64 (x:Int))=some (.at (al l[x]++(l.drop (x+1)).flatMap al)):=tR la z.1 En;generalize l[x]=v at q G;generalize(l.drop (x+1)).flatMap al=S at q;obtain⟨L,D,⟨A,em,i⟩,M⟩:=v;have T:al ⟨L,D,.mk A em i,M⟩=[.int .i64 L,.af D.length (ao D),.int .i64 A,.int .i64 em,.af i.length (i.flatMap aH),.int .i64 M]:=by simp[al,l3]
  have W:aH (.mk A em i)=[.int .i64 A,.int .i64 em,.af i.length (i.flatMap aH)]:=l3 _ _ _;rw[T]at q;simp only[azv,azy]at q;have N:=avh _ _ h' rfl G;rw[W]at N;simp only[ae,ds,AS,By,km,rK,pM,kH,gj,s,u,j,B,m,C,q];refine bO N ?_;simp only[ae,ds,j,R];exact ar ⟨(x+1,_),⟨s,rfl,rfl,by simp only;omega,rfl⟩,by simp only;omega⟩
 ·by_cases Y:x<l.length
  ·have m:=dV (a:=x) (b:=l.length) (by omega)
   have C:decide (n<=3000)=false:=decide_eq_false (by omega)
   simp only[ae,ds,AS,km,pM,kH,s,u,j,B,m,C,aP,aGM,ac];exact ar ⟨_,rfl,F⟩
  ·have m:=eC (a:=x) (b:=l.length) (by omega)
   simp only[ae,ds,AS,km,pM,kH,s,u,j,B,m,aP,aGM,ac];exact ar ⟨_,rfl,F⟩
def eQ(r:Rec):Rec:=if r.t<0\/1099511627776<r.t then⟨r.k,r.v,7⟩else r
def oZ(l:List bz)(p:Int)(r:Rec)(v:Nat):List bC:=if gD l (v:Int)=1/\0<=dG p l 0 (v:Int) (tk p l r.k)then [⟨1,0,0,0,dG p l 0 (v:Int) (tk p l r.k),Bs r,false,[],[]⟩]else []
def je(l:List bz)(p:Int)(n:Nat)(r:Rec):List bC:=(ajB n).flatMap (oZ l p (eQ r))
def fV(l:List bz)(p:Int)(rs:List Rec):List bC:=(rs.take 40).flatMap (je l p l.length)
theorem ajl{l:List bz}{p:Int}(h:(cg p l).2≠0)(r:Rec)(v:Nat):oZ l p r v=[]:=by
 unfold oZ;rw[if_neg]
 rintro⟨_,a⟩
 unfold dG at a;rw[if_neg (λU=>h U.1)]at a;omega
theorem axz(l:List bz)(p:Int)(r:Rec)(v:Nat):(oZ l p r v).length<=1:=by
 unfold oZ;split<;>simp
theorem ajm{l:List bz}{p:Int}{n:Nat}(a:n<=l.length)(r:Rec):(je l p n r).length<=24:=by
 unfold je;by_cases h:(cg p l).2=0
 ·have i:l.length<=24:=(Dd h).2.2.1;have:∀n:Nat,((ajB n).flatMap (oZ l p (eQ r))).length<=n:=λn=>by
   induction n with
   | zero=>simp
   | succ n ih=>
    rw[aDw,azo,Dx];have:=axz l p (eQ r) n;simp only[azh,aA6,axX];omega
  have:=this n;omega
 ·have:(ajB n).flatMap (oZ l p (eQ r))=[]:=List.flatMap_eq_nil_iff.2 λv _=>ajl h _ v;rw[this];simp
theorem ajn(l:List bz)(p:Int)(rs:List Rec):(fV l p rs).length<=960:=by
 unfold fV;have:∀q:List Rec,(q.flatMap (je l p l.length)).length<=q.length*24:=λq=>by
  induction q with
  | nil=>simp
  | cons a q ih=>
   rw[azh,Dx,List.length_cons];have:=ajm (l:=l) (p:=p) (BY l.length) a;omega
 have i:=this (rs.take 40);have j:(rs.take 40).length<=40:=List.length_take_le _ _;omega
theorem Zj{l:List bz}{p:Int}{rs:List Rec}{x:bC}(h:x∈fV l p rs):(cg p l).2=0/\∃(r:Rec) (v:Nat),v<l.length/\x∈oZ l p (eQ r) v:=by
 obtain⟨r,_,i⟩:=aAK.1 h;obtain⟨v,j,a⟩:=aAK.1 i;refine⟨Classical.byContradiction λm=>?_,r,v,aGL.1 j,a⟩;rw[ajl m]at a;cases a
theorem Zk{l:List bz}{p:Int}{r:Rec}{v:Nat}{x:bC}(h:x∈oZ l p r v):x=⟨1,0,0,0,dG p l 0 (v:Int) (tk p l r.k),Bs r,false,[],[]⟩/\0<=dG p l 0 (v:Int) (tk p l r.k):=by
 unfold oZ at h;split at h
 ·rename_i U;exact⟨aAj.1 h,U.2⟩
 ·cases h
theorem ajo(l:List bz)(p:Int)(rs:List Rec):rj (fV l p rs):=λx a=>by
 obtain⟨_,r,v,_,h⟩:=Zj a;rw[(Zk h).1];exact⟨rfl,rfl⟩
theorem Zl{l:List bz}{p k v q:Int}(h:0<=dG p l k v q):(cg p l).2=0/\(0<=k/\k<=2)/\(0<=v/\v<l.length)/\(0<=q/\q<p)/\dG p l k v q=(k*(l.length:Int)+v)*p+q:=by
 unfold dG at *;split at h
 ·rename_i U;rw[if_pos U];exact⟨U.1,by omega,by omega,by omega,rfl⟩
 ·omega
theorem Zm(l:List bz)(p:Int)(rs:List Rec):O8 (fV l p rs):=λx a=>by
 obtain⟨av,r,v,q,h⟩:=Zj a;obtain⟨e,i⟩:=Zk h;obtain⟨_,_,s,u,z⟩:=Zl i;obtain⟨A,B,C,_⟩:=Dd av;have rg:=aij (n:=(l.length:Int)) (k:=0) (v:=v) (p:=p) (by omega) (by omega) (by omega) (by omega) (by omega) (by omega)
 have j:Bo (Bs (eQ r)).t=true:=by
  rw[avw];unfold eQ Bs;split<;>simp only<;>omega
 have m:fit (dG p l 0 (v:Int) (tk p l (eQ r).k))=true:=by rw[i7];omega
 rw[e];refine⟨rfl,?_⟩;unfold lB vR;simp[j,m];decide
theorem axA(l:List bz)(p:Int)(aZ:ju l)(rs:List Rec)(o4:rs.length<=2^47)(h:I)(aw:jG h) :
  au mc 9 [.agg (cD l p),.af rs.length (rs.flatMap aK)] h (λr h'=>Acc h h' 48 11 r ((fV l p rs).flatMap eB)):=by
 refine bd Tryz.func9 rfl ?_;have pb:(V.agg (cD l p)).cells=some [.af l.length (l.flatMap al),.int .i64 p]:=rfl;have ln:V.agg [.af l.length (l.flatMap al),.int .i64 p]=.agg (cD l p):=rfl;obtain⟨H,hH,bo,gt,_⟩:=b0 h (.cells [.af l.length (l.flatMap al),.int .i64 p] 24 none);have aB:h.n<H.n:=by rw[hH,df];omega
 simp only[ae,pb,<-hH];clear hH;have bs:=aw.ai bo;refine aS.bI (α:=Nat×V) (λy f h'=>f 1=.af rs.length (rs.flatMap aK)/\f 2=.ptr h.n 0/\f 5=y.2/\f 6=.int .i64 (y.1:Nat)/\y.1<=rs.length/\y.1<=40/\Acc H h' 48 11 y.2 (((rs.take y.1).flatMap (je l p l.length)).flatMap eB)) (λy=>40-y.1) (0,.ag)
  ⟨rfl,rfl,rfl,rfl,Dy _,Dy _,Acc.nil (J.refl _ _)⟩ ?_
 rintro⟨i,v⟩ f B ⟨F,D,G,E,hi,Dv,W⟩
 simp only at G E hi Dv W;refine wpS ?_;by_cases aD:i<rs.length/\i<40;rotate_left
 ·have e:(rs.take i).flatMap (je l p l.length)=fV l p rs:=by
   unfold fV;by_cases B:i<rs.length
   ·rw[show i=40 by omega]
   ·rw[ajz (by omega),ajz (by omega)]
  rw[e]at W;have a2:Acc h B 48 11 v ((fV l p rs).flatMap eB):=⟨W.own,bo.trans' W.ai,λq ab=>by have:=W.new q ab;have:=bo.n;omega⟩
  by_cases B:i<rs.length
  ·have X:=dV (a:=i) (b:=rs.length) (by omega)
   have N:decide ((i:Int)<40)=false:=decide_eq_false (by omega)
   simp only[ae,ds,rL,F,G,E,X,N,aP,aGN,ac];exact ar a2
  ·have X:=eC (a:=i) (b:=rs.length) (by omega)
   simp only[ae,ds,rL,F,G,E,X,aP,aGN,ac];exact ar a2
 have X:=dV (a:=i) (b:=rs.length) (by omega)
 have N:decide ((i:Int)<40)=true:=decide_eq_true (by omega)
 have pv:=mQ aD.2 (by omega)
 have dL:=RH (kk:=.i64) aD.1;have TP:(rs.take (i+1)).flatMap (je l p l.length)=(rs.take i).flatMap (je l p l.length)++je l p l.length rs[i]:=by rw[azi aD.1,azo];simp
 generalize rs[i]=r at dL TP;obtain⟨z,A,s⟩:=r;have jC:∀q,cJ (some (some 3)) (some (aK ⟨z,A,s⟩++q))=some (.agg (aK ⟨z,A,s⟩)):=λq=>be (Ae _);have Ad:(V.agg (aK ⟨z,A,s⟩)).cells=some [.int .i64 z,.int .i64 A,.int .i64 s]:=rfl;have OP:bA (some 3) (aR.cells [.int .i64 0,.int .i64 0,.int .i64 0] 45 none) 0 [.int .i64 z,.int .i64 A,.int .i64 s]=some (.cells [.int .i64 z,.int .i64 A,.int .i64 s] 45 none):=rfl;have aq:s<0\/(¬s<0/\1099511627776<s)\/(¬s<0/\¬1099511627776<s):=by omega
 rcases aq with t0|⟨t0,t1⟩|⟨t0,t1⟩
 case' inl=>
  have d0:decide (s<0)=true:=decide_eq_true t0;have AP:eQ ⟨z,A,s⟩=⟨z,A,7⟩:=by unfold eQ;rw[if_pos (.inl t0)]
  simp only[ae,ds,AS,By,td,rL,bR,dM,tg,qT,vz,F,E,X,N,dL,jC,Ad,OP,d0];obtain⟨M,C⟩:∃y,y=(B.push (.cells [.int .i64 z,.int .i64 A,.int .i64 7] 45 none)):=⟨_,rfl⟩;have k2:J B M none_:=by rw[C];exact J.push _ _ _
  have nT:M.get B.n=.cells [.int .i64 (eQ ⟨z,A,s⟩).k,.int .i64 (eQ ⟨z,A,s⟩).v,.int .i64 (eQ ⟨z,A,s⟩).t] 45 none:=by rw[C,AP];exact fv
  have dd:M.n=B.n+1:=by rw[C];rfl
  rw[<-C];clear C
 case' inr.inl=>
  have d0:decide (s<0)=false:=decide_eq_false t0;have d1:decide (1099511627776<s)=true:=decide_eq_true t1;have AP:eQ ⟨z,A,s⟩=⟨z,A,7⟩:=by unfold eQ;rw[if_pos (.inr t1)]
  simp only[ae,ds,AS,By,td,rL,bR,dM,tg,qT,vz,F,E,X,N,dL,jC,Ad,OP,d0,d1];obtain⟨M,C⟩:∃y,y=(B.push (.cells [.int .i64 z,.int .i64 A,.int .i64 7] 45 none)):=⟨_,rfl⟩;have k2:J B M none_:=by rw[C];exact J.push _ _ _
  have nT:M.get B.n=.cells [.int .i64 (eQ ⟨z,A,s⟩).k,.int .i64 (eQ ⟨z,A,s⟩).v,.int .i64 (eQ ⟨z,A,s⟩).t] 45 none:=by rw[C,AP];exact fv
  have dd:M.n=B.n+1:=by rw[C];rfl
  rw[<-C];clear C
 case' inr.inr=>
  have d0:decide (s<0)=false:=decide_eq_false t0;have d1:decide (1099511627776<s)=false:=decide_eq_false t1;have AP:eQ ⟨z,A,s⟩=⟨z,A,s⟩:=by unfold eQ;rw[if_neg (by simp only;omega)]
  simp only[ae,ds,AS,By,td,rL,bR,dM,tg,vz,F,E,X,N,dL,jC,Ad,OP,d0,d1];obtain⟨M,C⟩:∃y,y=(B.push (.cells [.int .i64 z,.int .i64 A,.int .i64 s] 45 none)):=⟨_,rfl⟩;have k2:J B M none_:=by rw[C];exact J.push _ _ _
  have nT:M.get B.n=.cells [.int .i64 (eQ ⟨z,A,s⟩).k,.int .i64 (eQ ⟨z,A,s⟩).v,.int .i64 (eQ ⟨z,A,s⟩).t] 45 none:=by rw[C,AP];exact fv
  have dd:M.n=B.n+1:=by rw[C];rfl
  rw[<-C];clear C
 all_goals
  have a2:=W.on k2;refine aS.bI (α:=Nat×V) (λy f h'=>f 1=.af rs.length (rs.flatMap aK)/\f 2=.ptr h.n 0/\f 5=y.2/\f 6=.int .i64 (i:Nat)/\f 7=.ptr B.n 0/\f 8=.int .i64 (y.1:Nat)/\y.1<=l.length/\Acc H h' 48 11 y.2 (((rs.take i).flatMap (je l p l.length)++je l p y.1 ⟨z,A,s⟩).flatMap eB)/\h'.get B.n=.cells [.int .i64 (eQ ⟨z,A,s⟩).k,.int .i64 (eQ ⟨z,A,s⟩).v,.int .i64 (eQ ⟨z,A,s⟩).t] 45 none/\B.n<h'.n/\(∀q,aU y.2=some q->q≠B.n)) (λy=>l.length-y.1) (0,v)
   ⟨F,D,G,E,rfl,rfl,Dy _,by rw[show je l p 0 ⟨z,A,s⟩=[]from rfl,axX];exact a2,nT,by omega,λq ab=>by have:=W.own.lt q ab;omega⟩ ?_
  clear a2 nT k2 dd F D G E
  rintro⟨j,u⟩ f aC ⟨F,D,G,E,f7,Y,aN,O,ji,aJ,bH⟩
  simp only at G Y aN O bH;refine wpS ?_;have kQ:=(O.ai.get h.n aB (by simp[none_])).trans gt
  by_cases mw:j<l.length
  ·have N:=dV (a:=j) (b:=l.length) (by omega)
   have Bv:=mQ mw (by have:=aZ.1;omega)
   obtain⟨x,ah⟩:∃x,l[j]?=some x:=⟨_,IA mw⟩;obtain⟨gU,rH⟩:=JK (kk:=.i64) ah;have jj:cJ (some none) (some (al x++gU))=some (.int .i64 x.kind):=rfl;have c0:gD l (j:Int)=x.kind:=by unfold gD;rw[ayQ,ah];rfl
   have TQ:=bs.ai O.ai;have Pa:∀h',(J aC h' none_\/h'=aC)->jG h':=λh' Z=>by rcases Z with Z|rfl;exact TQ.ai Z;exact TQ
   have p4:je l p (j+1) ⟨z,A,s⟩=je l p j ⟨z,A,s⟩++oZ l p (eQ ⟨z,A,s⟩) j:=by unfold je;rw[aDw,azo];simp
   have aa:((rs.take i).flatMap (je l p l.length)++je l p j ⟨z,A,s⟩).length<=2^30:=by
    rw[Dx];have B:=ajm (p:=p) aN ⟨z,A,s⟩;have ad:((rs.take i).flatMap (je l p l.length)).length<=960:=by
     have:=ajn l p (rs.take i);unfold fV at this;rwa[ajz (by rw[TY];omega)]at this
    omega
   have Q:oZ l p (eQ ⟨z,A,s⟩) j=if gD l (j:Int)=1/\0<=dG p l 0 (j:Int) (tk p l (eQ ⟨z,A,s⟩).k)then [⟨1,0,0,0,dG p l 0 (j:Int) (tk p l (eQ ⟨z,A,s⟩).k),Bs (eQ ⟨z,A,s⟩),false,[],[]⟩]else []:=rfl
   rw[c0]at Q;generalize eQ ⟨z,A,s⟩=R at ji p4 Q⊢;obtain⟨L,fF⟩:∃L,L=(rs.take i).flatMap (je l p l.length)++je l p j ⟨z,A,s⟩:=⟨_,rfl⟩;rw[<-fF]at O aa;obtain⟨S,Pb,Pc⟩:=R;simp only[ae,ds,AS,km,pM,kH,D,Y,N,kQ];refine aS.cS none_ [] (.q 0 (.q 1 (.q 2 (.q 3 (.q 4 (.c 5 (.c 6 (.q 7 .done)))))))) ?_;simp only[ae,bt,ds,AS,vx,bR,jh,D,f7,Y,kQ,ji,ln];refine fA rfl rfl rfl (λh' Z=>afC l p S aZ h' (Pa h' Z)) ?_;simp only[bt];refine fA rfl rfl rfl (λh' Z=>Dp l p 0 (j:Int) (tk p l S) aZ h' (Pa h' Z)) ?_;obtain⟨oK,Ox⟩:∃g,g=dG p l 0 (j:Int) (tk p l S):=⟨_,rfl⟩;rw[<-Ox]at Q⊢;by_cases gJ:x.kind=1
   ·have c3:(x.kind==1)=true:=by simpa using gJ
    by_cases B2:0<=oK
    ·have fb:decide (0<=oK)=true:=decide_eq_true B2;rw[if_pos ⟨gJ,B2⟩]at Q;have Bt:=YX aC ⟨1,0,0,0,oK,Bs ⟨S,Pb,Pc⟩,false,[],[]⟩;obtain⟨v4,bn,hW,qX,cx,n4⟩:=I9 (P:=mc) (t:=29) (T:=⟨48,[.int .i64 0,.int .i64 0,.int .i64 0,.int .i64 0,.int .i64 0,.int .i64 0,.int .i64 0,.int .i64 0,.bool false,.ag,.ag],11,120⟩) CK (by decide) O.own (xs:=eB ⟨1,0,0,0,oK,Bs ⟨S,Pb,Pc⟩,false,[],[]⟩) rfl (YW _) (λm hm=>by
      have hq:m*11=(L.flatMap eB).length+11:=hm;rw[fJ Br]at hq;exact axp m _ hq (by omega))
     have a4:=O.step qX cx n4;have N9:=(cx.get B.n aJ λe=>bH _ e rfl).trans ji;have ax:=IS aJ cx.n;have Zn:∀q,aU v4=some q->q≠B.n:=λq ab=>by
      rcases n4 with e|e
      ·exact bH q (e▸ab)
      ·have:=e q ab;omega
     unfold eB Bs at Bt hW;simp only at Bt hW;have az:(if 3<=[V.int .i64 S,.int .i64 Pb,.int .i64 Pc].length then some (V.agg (azw 3 [V.int .i64 S,.int .i64 Pb,.int .i64 Pc]))else none)=some (V.agg [V.int .i64 S,.int .i64 Pb,.int .i64 Pc]):=rfl
     simp only[ae,bt,ds,AS,By,km,hb,kH,aY,dM,Qt,LW,D,G,f7,Y,kQ,ji,rH,jj,c3,fb,Bt,hW,Bv];exact ar ⟨(j+1,v4),⟨F,D,rfl,E,f7,rfl,mw,by
      rw[p4,Q,<-axV,<-fF,azo];exact a4.conv (by simp[eB]),N9,ax,Zn⟩,by simp only;omega⟩
    ·have fb:decide (0<=oK)=false:=decide_eq_false B2;rw[if_neg (λU=>B2 U.2)]at Q;simp only[ae,bt,ds,AS,km,hb,kH,aY,D,Y,kQ,rH,jj,c3,fb,Bv];exact ar ⟨(j+1,u),⟨F,D,G,E,f7,rfl,mw,by rw[p4,Q,axX,<-fF];exact O,ji,aJ,bH⟩,by simp only;omega⟩
   ·have c3:(x.kind==1)=false:=by simpa using gJ
    rw[if_neg (λU=>gJ U.1)]at Q;simp only[ae,bt,ds,AS,km,hb,kH,aY,D,Y,kQ,rH,jj,c3,Bv];exact ar ⟨(j+1,u),⟨F,D,G,E,f7,rfl,mw,by rw[p4,Q,axX,<-fF];exact O,ji,aJ,bH⟩,by simp only;omega⟩
  have N:=eC (a:=j) (b:=l.length) (by omega)
  have Y0:j=l.length:=by omega
  subst Y0;simp only[ae,ds,AS,reduceCtorEq,km,pM,kH,D,G,E,Y,N,kQ,pv];exact ar ⟨(i+1,u),⟨F,D,G,rfl,aD.1,aD.2,by rw[TP];exact O⟩,by simp only;omega⟩
theorem axB(l:List bz)(p:Int)(i:ju l)(rs:List Rec)(j:rs.length<=2^47)(h:I)(m:jG h) :
  au mc 9 [.agg (cD l p),.af rs.length (rs.flatMap aK)] h (λr h'=>Acc h h' 48 11 r ((fV l p rs).flatMap br)) :=
 au.cast ((axA l p i rs j h m).mono λr h' a=>by
  obtain⟨q,c,s⟩:=ajd (ajo l p rs) a;exact⟨r,q,c r,s⟩)
theorem axC{v:V}(a b:List Int)(h:I)(Q:Own h 3 1 v (ao b))(aT:a.length<=2^60):Pure mc 16 [.af a.length (ao a),v] h (.bool (decide (a=b))):=by
 refine Pure.val (a8.bool _) ?_;have R:=OJ Q;refine bd Tryz.func16 rfl ?_;by_cases S:a.length=b.length;rotate_left
 ·have E:((a.length:Int) !=(b.length:Int))=true:=by simp;omega
  have Y:decide (a=b)=false:=by simp only[decide_eq_false_iff_not];rintro rfl;exact S rfl
  simp only[ae,ds,reduceCtorEq,fB,R,E,aP,aBf,ac];exact ar ⟨by rw[Y],J.refl _ _⟩
 have E:((a.length:Int) !=(b.length:Int))=false:=by simp[S]
 simp only[ae,ds,reduceCtorEq,fB,R,E];refine aS.bI (α:=Nat) (λi f h'=>f 0=.af a.length (ao a)/\f 1=v/\f 5=.int .i64 (i:Nat)/\J h h' none_/\i<=a.length/\a.take i=b.take i) (λi=>a.length-i) 0
  ⟨rfl,rfl,rfl,J.refl _ _,Dy _,rfl⟩ ?_
 rintro i f h1 ⟨s,F,z,C,hi,G⟩
 refine wpS ?_;by_cases T:i<a.length;rotate_left
 ·have H:=eC (a:=i) (b:=a.length) (by omega)
  rw[ajz (by omega),ajz (by omega)]at G
  simp only[ae,ds,reduceCtorEq,fB,s,z,H,aP,aBf,ac];exact ar ⟨by rw[G];simp,C⟩
 ·have H:=dV (a:=i) (b:=a.length) (by omega)
  have L:i<b.length:=by omega
  have Z:=hR (i:=i) (by omega)
  have u:∃r,gP mc 46 (.af a.length (ao a)) (.int .i64 (i:Int))=some (.at (.int .i64 a[i]::r)):=⟨_,Ab.A1 (V.int .i64) T iS⟩;obtain⟨j,W,_,⟨cL,D⟩,_⟩:=KL (P:=mc) (kk:=.i64) iS (Q.ba C) (k:=i) (by rw[am];exact L)
  have X:(ao b)[i]'(by rw[am];exact L)=.int .i64 b[i]:=by simp[ao]
  rw[X]at D;obtain⟨n9,u⟩:=u;have M:a[i]=b[i]->a.take (i+1)=b.take (i+1):=λm=>by rw[azi T,azi L,G,m]
  have N:¬a[i]=b[i]->decide (a=b)=false:=λm=>by simp only[decide_eq_false_iff_not];rintro rfl;exact m rfl
  generalize a[i]=A at u M N;generalize b[i]=B at D M N X;simp only[ae,ds,reduceCtorEq,fB,s,z,H];refine aS.cS none_ [] (.q 0 (.q 1 (.q 2 (.q 3 (.q 4 (.q 5 (.q 6 (.q 7 (.q 8 .done))))))))) ?_;by_cases m:A=B
  ·have O:(A !=B)=false:=by simp[m]
   simp only[ae,bt,ds,reduceCtorEq,aY,s,F,z,u,W,D,O,Z];exact ar ⟨i+1,⟨s,F,rfl,C,by omega,M m⟩,by omega⟩
  ·have O:(A !=B)=true:=by simp[m]
   simp only[ae,bt,ds,reduceCtorEq,aY,s,F,z,u,W,D,O,aP,aBf,ac];exact ar ⟨by rw[N m],C⟩
end Go.Proofs.YtemdgidnhgcafaaGreatDoor.Pk
