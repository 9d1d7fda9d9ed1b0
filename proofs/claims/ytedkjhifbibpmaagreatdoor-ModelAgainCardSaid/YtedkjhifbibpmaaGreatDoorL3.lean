/-
  What functions of the program do, told of abstract states. Conditions: as each theorem says.
-/
import Derived.Test.YtedkjhifbibpmaaGreatDoorMi
set_option linter.unusedVariables false
set_option linter.unusedSimpArgs false
set_option maxHeartbeats 8000000
set_option maxRecDepth 10000
namespace Go.Proofs.YtedkjhifbibpmaaGreatDoor.Pk
open Go Go.Proofs Go.Proofs.YtedkjhifbibpmaaGreatDoor.Ab
theorem ab8 (c:aZ):∀ (s:bW) (a b:List (Int×ai)),kX c s (a++b)=(kX c s a).bind fun m=>kX c m b
 | s,[],b=>rfl
 | s,p::a,b=>by
  simp only [List.cons_append,kX]
  split
  ·exact ab8 c _ a b
  ·rfl
theorem akK {c:aZ} {s b7 Ha:bW} {ps:List (Int×ai)} (h:kX c s ps=some b7) {k:Nat} (hk:k<ps.length) (ad:kX c s (ps.take k)=some Ha) :
  0≤ps[k].1∧(nA c Ha ps[k].1.toNat ps[k].2).2=0∧kX c s (ps.take (k+1))=some (nA c Ha ps[k].1.toNat ps[k].2).1:=by
 have ae:ps=ps.take k++(ps[k]::ps.drop (k+1)):=by rw [←List.drop_eq_getElem_cons hk,List.take_append_drop]
 rw [ae,ab8,ad] at h
 have aA:kX c Ha (ps[k]::ps.drop (k+1))=some b7:=h
 unfold kX at aA
 split at aA
 case isFalse=>cases aA
 rename_i aF
 refine ⟨aF.1,aF.2,?_⟩
 rw [List.take_succ_eq_append_getElem hk,ab8,ad]
 show kX c Ha [ps[k]]=_
 unfold kX
 rw [if_pos aF]
 rfl
theorem akL {c:aZ} {s:bW} (hk:rb c s) (u:Nat) (d:ai):rb c (nA c s u d).1:=by
 unfold nA
 split
 ·split
  ·exact Y6 hk u d.val
  ·exact hk
 ·split
  ·exact ⟨hk.1,hk.2⟩
  ·exact hk
structure Env (n:Nat) (T M:aV) (h:J) (aJ:cM):Prop where
 gt:h.get n=T
 dI:h.get (n+1)=M
 wt:aJ n=(0,0)
 akM:aJ (n+1)=(0,0)
 lt:n+1<h.n
 ql:lP h
 ay:Fr h aJ
theorem Env.step {n id:Nat} {T M:aV} {h h':J} {aJ ow':cM} (e:Env n T M h aJ) (k:I h h' (fun q=>(aJ q).1=id)) (he:∀ q,q<h.n→ow' q=aJ q) (f:Fr h' ow') (h0:0≠id):Env n T M h' ow' :=
 ⟨(k.get n (by have:=e.lt;omega) (by rw [e.wt];exact h0)).trans e.gt,(k.get (n+1) e.lt (by rw [e.akM];exact h0)).trans e.dI,(he _ (by have:=e.lt;omega)).trans e.wt,(he _ e.lt).trans e.akM,Nat.lt_of_lt_of_le e.lt k.n,e.ql.aj k,f⟩
theorem ash (l:List bu) (p:Int) (ba:kh l) (part:Nat) (aW:part<256) (cO:List w3) (hi:cO.length<2 ^ 47) (more:w3) (h:J) (aB:lP h) :
  ab Tryz.prog 6 [.agg (cQ l p),.int .u8 (part:Nat),.ag cO.length (cO.flatMap lD),.agg (lD more)] h (fun r h'=>r=.bool true):=by
 refine ab.ao (c:=_) Tryz.func6 rfl (by kernel_rfl) (by simp) ?_
 obtain ⟨Ct,⟨mk,DJ,mt⟩,md,⟨G9,Mt,GZ,rv,BA⟩⟩:=more
 simp only [lD,aD,aw,List.cons_append,List.nil_append]
 have nz:∀ (l:List bu) (p:Int),(V.agg (cQ l p)).cells=some [.ag l.length (l.flatMap al),.int .i64 p]:=fun _ _=>rfl
 have mo:∀ (l:List bu) (p:Int),V.agg [.ag l.length (l.flatMap al),.int .i64 p]=.agg (cQ l p):=fun _ _=>rfl
 obtain ⟨H,hH⟩:∃ x,x=(h.push (.cells [.ag l.length (l.flatMap al),.int .i64 p] 56 none)).push (.cells [.int .i64 Ct,.int .i64 mk,.int .i64 DJ,.int .i64 mt,.bool md,.int .i64 G9,.int .i64 Mt,.int .i64 GZ,.int .i64 rv,.bool BA] 59 none):=⟨_,rfl⟩
 have gt:H.get h.n=.cells [.ag l.length (l.flatMap al),.int .i64 p] 56 none:=by rw [hH];exact ve
 have dI:H.get (h.n+1)=.cells [.int .i64 Ct,.int .i64 mk,.int .i64 DJ,.int .i64 mt,.bool md,.int .i64 G9,.int .i64 Mt,.int .i64 GZ,.int .i64 rv,.bool BA] 59 none:=by rw [hH];exact wq
 have bq:I h H none_:=by rw [hH];exact (I.push _ _ _).a8 _
 have h9:H.n=h.n+2:=by rw [hH];rfl
 have s9:=aB.aj bq
 simp only [aa,Nat.reduceEqDiff,nz]
 rw [←hH]
 clear hH
 refine bB Qk (Ql H s9) ?_
 simp only [aa,Nat.reduceEqDiff,Nat.reduceAdd,kp,gt,mo]
 refine bU R4 (R5 l p ba H) fun r h1 ⟨Bt,ar,bo⟩=>?_
 subst ar
 cases Bt
 ·simp only [aa,Nat.reduceEqDiff,aI,Tryz.results6,ac]
  exact au rfl
 obtain ⟨cq,cP,ey⟩:=ab0 part aW
 have ta:=(bo.get h.n (by omega) (by simp [none_])).trans gt
 have zA:=(bo.get (h.n+1) (by omega) (by simp [none_])).trans dI
 have t1:=s9.aj bo
 have eL:=bo.n
 have rm:∀ xo yo,ev Tryz.prog .rem 5 xo yo (.int .u8 (part:Int)) (.int .u8 4)=some (.int .u8 ((part % 4:Nat):Int)):=fun xo yo=>by rw [L8 (by decide),cq]
 obtain ⟨c,aF⟩:∃ c:aZ,c=⟨l,p,((part % 4:Nat):Int)⟩:=⟨_,rfl⟩
 have dk:c.l=l:=by rw [aF]
 have sr:∀ (id:Nat) (H:J) (aJ:cM),lP H→Fr H aJ→id≠0→ab Tryz.prog 26 [.agg (cQ l p),.int .i64 ((part % 4:Nat):Int)] H (Made id c H aJ):=fun id H aJ ql f h0=>by rw [aF];exact Mn id ⟨l,p,_⟩ ba H ql aJ f h0
 simp only [aa,Nat.reduceEqDiff,Nat.reduceAdd,kp,ta,mo,rm,iZ hD fb,ey]
 refine bU CE (sr 1 h1 (fun _=>(0,0)) t1 (fun _ _=>rfl) (by decide)) fun r ae ⟨k2,bb⟩=>?_
 have jL:=(k2.get h.n (by omega) (by simp [none_])).trans ta
 have p5:=(k2.get (h.n+1) (by omega) (by simp [none_])).trans zA
 have t2:=t1.aj k2
 have ef:=k2.n
 by_cases bC:fk c=0
 rotate_left
 ·rcases bb with ⟨aG,aT⟩ | ⟨h0,_⟩
  rotate_left
  ·exact absurd h0 bC
  subst aT
  simp only [aa,Nat.reduceEqDiff,Nat.reduceAdd,kp,jL,mo,rm,iZ hD fb,ey]
  refine bU CE (sr 2 ae (fun _=>(0,0)) t2 (fun _ _=>rfl) (by decide)) fun r aA ⟨k3,bb⟩=>?_
  rcases bb with ⟨aG,cg⟩ | ⟨h0,_⟩
  rotate_left
  ·exact absurd h0 bC
  subst cg
  have lg:=(k3.get h.n (by omega) (by simp [none_])).trans jL
  have t3:=t2.aj k3
  simp only [aa,Nat.reduceEqDiff,Nat.reduceAdd,kp,lg,mo,rm,iZ hD fb,ey]
  refine bU CE (sr 3 aA (fun _=>(0,0)) t3 (fun _ _=>rfl) (by decide)) fun r bk ⟨bY,bb⟩=>?_
  rcases bb with ⟨aG,h8⟩ | ⟨h0,_⟩
  rotate_left
  ·exact absurd h0 bC
  subst h8
  have bd:(fk c !=0)=true:=by simpa using bC
  have bH:(fk c==fk c)=true:=by simp
  simp only [aa,Nat.reduceEqDiff,bd,aI,Tryz.results6,ac]
  exact au rfl
 rcases bb with ⟨aG,_⟩ | ⟨_,m1,dt,ie,aT,Bu,oF,f2⟩
 ·exact absurd bC aG
 subst aT
 simp only [aa,Nat.reduceEqDiff,Nat.reduceAdd,kp,jL,mo,rm,iZ hD fb,ey]
 refine bU CE (sr 2 ae ie t2 f2 (by decide)) fun r aA ⟨k3,bb⟩=>?_
 rcases bb with ⟨aG,_⟩ | ⟨_,m2,b1,jd,cg,Kc,xC,f3⟩
 ·exact absurd bC aG
 subst cg
 have lg:=(k3.get h.n (by omega) (by simp [none_])).trans jL
 have tN:=(k3.get (h.n+1) (by omega) (by simp [none_])).trans p5
 have t3:=t2.aj k3
 have n3:=k3.n
 simp only [aa,Nat.reduceEqDiff,Nat.reduceAdd,kp,lg,mo,rm,iZ hD fb,ey]
 refine bU CE (sr 3 aA jd t3 f3 (by decide)) fun r bk ⟨bY,bb⟩=>?_
 rcases bb with ⟨aG,_⟩ | ⟨_,m3,e9,ea,h8,aab,Kk,f4⟩
 ·exact absurd bC aG
 subst h8
 have n4:=bY.n
 have aac:=(Bu.w4 k3 xC).w4 bY Kk
 have aad:=Kc.w4 bY Kk
 have env:Env h.n (.cells [.ag l.length (l.flatMap al),.int .i64 p] 56 none) (.cells [.int .i64 Ct,.int .i64 mk,.int .i64 DJ,.int .i64 mt,.bool md,.int .i64 G9,.int .i64 Mt,.int .i64 GZ,.int .i64 rv,.bool BA] 59 none) bk ea:=⟨(bY.get h.n (by omega) (by simp [none_])).trans lg,(bY.get (h.n+1) (by omega) (by simp [none_])).trans tN,(Kk _ (by omega)).trans ((xC _ (by omega)).trans (oF _ (by omega))),(Kk _ (by omega)).trans ((xC _ (by omega)).trans (oF _ (by omega))),by omega,t3.aj bY,f4⟩
 have z0:((0:Int) !=0)=false:=rfl
 have ll:fr c:=by
  have yl:(ct p l).2=0:=by
   by_cases ak:(ct p l).2=0
   ·exact ak
   ·exfalso;rw [aF] at bC;unfold fk at bC;rw [if_pos ak] at bC;exact ak bC
  rw [aF];exact ⟨yl,ba⟩
 have ur:l.length≤24:=dk ▸ ll.len
 clear aF
 have g0:=Mo ll
 simp only [aa,Nat.reduceEqDiff,zQ]
 refine aP.bG (α:=Nat×cM) (fun x f h'=>f 2=.ag cO.length (cO.flatMap lD)∧f 4=.ptr h.n 0∧f 7=.ptr (h.n+1) 0∧f 9=.bool true∧f 10=.ptr m1 0∧f 12=.ptr m2 0∧f 14=.ptr m3 0∧f 16=.int .i64 (x.1:Nat)∧x.1≤cO.length∧x.1≤40 ∧
   dA h' x.2 1 m1 dt c (runT c (bW.new c) (cO.take x.1))∧dA h' x.2 2 m2 b1 c (runT c (bW.new c) (cO.take x.1))∧dA h' x.2 3 m3 e9 c (bW.new c)∧Env h.n (.cells [.ag l.length (l.flatMap al),.int .i64 p] 56 none) (.cells [.int .i64 Ct,.int .i64 mk,.int .i64 DJ,.int .i64 mt,.bool md,.int .i64 G9,.int .i64 Mt,.int .i64 GZ,.int .i64 rv,.bool BA] 59 none) h' x.2) (fun x=>40 - x.1) (0,ea)
  ⟨rfl,rfl,rfl,rfl,rfl,rfl,rfl,rfl,Nat.zero_le _,Nat.zero_le _,aac,aad,aab,env⟩ ?_
 clear aac aad aab env Bu Kc bY k3 k2 bo f2 f3 f4 oF xC Kk lg jL ta gt tN p5 zA dI t1 t2 t3 s9 n4 n3 ef eL h9
 rintro ⟨i,aJ⟩ f bk ⟨f2,f4,f7,f9,f10,f12,f14,f16,iL,EA,gk,p8,vg,env⟩
 simp only at f16 iL EA gk p8 vg env
 refine dw (by kernel_rfl) ?_
 by_cases aH:i<cO.length∧i<40
 ·have d1:decide ((i:Int)<((cO.length:Nat):Int))=true:=decide_eq_true (by omega)
  have d2:decide ((i:Int)<40)=true:=decide_eq_true (by omega)
  have hw:=kf aH.2 (by omega)
  have eo:=YZ aH.1
  have gs:=Qm ll g0 (cO.take i)
  have o7:=Y0 (c:=c) (s:=bW.new c) aH.1
  generalize cO[i]=it at eo o7
  generalize (cO.drop (i+1)).flatMap lD=Hr at eo
  obtain ⟨mX,⟨bJ,b5,rt⟩,ab1,⟨fB,cf,ju,gT,mY⟩⟩:=it
  simp only [lD,aD,aw,List.cons_append,List.nil_append] at eo o7
  have ay:=env.ay
  have ql:=env.ql
  simp only [aa,Nat.reduceEqDiff,Mp,f2,f16,d1,d2]
  refine aP.cut (fun f pt=>f 2=.ag cO.length (cO.flatMap lD)∧f 4=.ptr h.n 0∧f 7=.ptr (h.n+1) 0∧f 9=.bool true∧f 10=.ptr m1 0∧f 12=.ptr m2 0∧f 14=.ptr m3 0∧f 16=.int .i64 (i:Nat)∧∃ t et,f 17=.ptr t 0∧qo 1 m1 dt c bk aJ (stepT c (runT c (bW.new c) (cO.take i)) mX ⟨bJ,b5,rt⟩).1.1 (stepT c (runT c (bW.new c) (cO.take i)) mX ⟨bJ,b5,rt⟩).1.2 t pt et) ?_ ?_
  ·refine aP.aY (fun q=>(aJ q).1=1) [11,15,16] (.q 0 (.q 1 (.q 2 (.q 3 (.q 4 (.q 5 (.q 6 (.q 7 (.q 8 (.q 9 (.q 10 (.e 11 (.q 12 (.q 13 (.q 14 (.e 15 (.e 16 (.q 17 .done) .stop) .stop)))) (.e 15 (.e 11 (.q 12 (.q 13 (.q 14 (.e 16 (.q 17 .done) .stop)))) .stop) .stop))))))))))))) (by kernel_rfl) (by kernel_rfl) (by kernel_rfl) ?_
   simp only [aa,bD,fg,Nat.reduceEqDiff,Nat.reduceLeDiff,Kd,Mq,a7,dj,tR,f2,f10,f16,eo]
   refine ⟨?_,?_⟩
   ·obtain ⟨Y,gF⟩:∃ Y,Y=stepT c (runT c (bW.new c) (cO.take i)) mX ⟨bJ,b5,rt⟩:=⟨_,rfl⟩
    have cR:=ym ll gk gs.ax gs.wf ay ql.1 (show (1:Nat)≠0 by decide) mX ⟨bJ,b5,rt⟩
    rw [←gF] at cR
    refine bU xO cR fun r bN ⟨hQ,et,qm,lE,f5,cG⟩=>?_
    subst hQ
    have mZ:(vf Y.1.2).cells=some (be Y.1.2):=rfl
    have qn:bM (some 4) (aV.cells [V.ah,V.ah,V.ah,V.ah] 67 none) 0 (be Y.1.2)=some (.cells (be Y.1.2) 67 none):=vG rfl rfl rfl rfl
    have hE:I bk bN (fun q=>(aJ q).1=1):=cG
    have A:=qo.push (x:=Y.1.2) qm lE f5 cG
    have EC:I bk (bN.push (.cells [V.ah,V.ah,V.ah,V.ah] 67 none)) (fun q=>(aJ q).1=1):=cG.trans (I.push _ _ none_) fun _ _ e=>e.elim
    have uu:I bk (bN.push (.cells (be Y.1.2) 67 none)) (fun q=>(aJ q).1=1):=A.aj
    simp only [aa,bD,fg,Nat.reduceEqDiff,tR,ss,hE,EC,uu,mZ,qn]
    obtain ⟨pt,lF⟩:∃ z,z=bN.push (.cells (be Y.1.2) 67 none):=⟨_,rfl⟩
    rw [←lF] at A⊢
    clear lF
    obtain ⟨t,bw⟩:∃ t,t=bN.n:=⟨_,rfl⟩
    rw [←bw] at A⊢
    have sj:(if 4≤(be Y.1.2).length then some (V.agg (List.take 4 (be Y.1.2))) else none)=some (.agg (be Y.1.2)):=rfl
    clear bw cR
    exact au ⟨rfl,f2,f4,f7,f9,f10,f12,f14,f16,t,et,rfl,by rw [←gF];exact A⟩
   ·obtain ⟨Y,gF⟩:∃ Y,Y=stepT c (runT c (bW.new c) (cO.take i)) mX ⟨bJ,b5,rt⟩:=⟨_,rfl⟩
    have uw:I bk (bk.push (.cells [.ah,.ah,.ah,.ah] 67 none)) none_:=I.push _ _ _
    have Sd:(bk.push (.cells [.ah,.ah,.ah,.ah] 67 none)).n=bk.n+1:=rfl
    have cR:=ym ll (gk.aQ uw) gs.ax gs.wf (fun q af=>ay q (by omega)) (ql.aj uw).1 (show (1:Nat)≠0 by decide) mX ⟨bJ,b5,rt⟩
    rw [←gF] at cR
    refine bU xO cR fun r bN ⟨hQ,et,qm,lE,f5,cG⟩=>?_
    subst hQ
    have mZ:(vf Y.1.2).cells=some (be Y.1.2):=rfl
    have qn:bM (some 4) (aV.cells [V.ah,V.ah,V.ah,V.ah] 67 none) 0 (be Y.1.2)=some (.cells (be Y.1.2) 67 none):=vG rfl rfl rfl rfl
    have hE:I bk bN (fun q=>(aJ q).1=1):=uw.up.trans cG fun _ _ e=>e
    have CF:bN.get bk.n=.cells [V.ah,V.ah,V.ah,V.ah] 67 none:=(cG.get bk.n (by omega) (by rw [ay _ (Nat.le_refl _)];decide)).trans b6
    have A:=qo.set (x:=Y.1.2) (show (1:Nat)≠0 by decide) ay qm lE f5 cG
    have uu:I bk (bN.set bk.n (.cells (be Y.1.2) 67 none)) (fun q=>(aJ q).1=1):=A.aj
    simp only [aa,bD,fg,Nat.reduceEqDiff,ss,hE,uu,mZ,qn,CF]
    obtain ⟨pt,lF⟩:∃ z,z=bN.set bk.n (.cells (be Y.1.2) 67 none):=⟨_,rfl⟩
    rw [←lF] at A⊢
    clear lF
    obtain ⟨t,bw⟩:∃ t,t=bk.n:=⟨_,rfl⟩
    rw [←bw] at A⊢
    have sj:(if 4≤(be Y.1.2).length then some (V.agg (List.take 4 (be Y.1.2))) else none)=some (.agg (be Y.1.2)):=rfl
    clear bw cR
    exact au ⟨rfl,f2,f4,f7,f9,f10,f12,f14,f16,t,et,rfl,by rw [←gF];exact A⟩
  ·rintro f pt ⟨f2,f4,f7,f9,f10,f12,f14,f16,t,et,f17,A⟩
   obtain ⟨ps,ab9,wB,aca⟩:=akN ll gs.wf mX ⟨bJ,b5,rt⟩
   have tv:=Mr ll gs mX ⟨bJ,b5,rt⟩
   obtain ⟨Y,gF⟩:∃ Y,Y=(stepT c (runT c (bW.new c) (cO.take i)) mX ⟨bJ,b5,rt⟩):=⟨_,rfl⟩
   rw [←gF] at A o7 ab9 wB aca tv
   obtain ⟨akB,Sj,akC,akD⟩:=Sf tv
   have q7:pt.get t=.cells [.ag Y.1.2.outs.length (Y.1.2.outs.flatMap dg),.ag (ps.map (·.1)).length (aO (ps.map (·.1))),.ag (ps.map (·.2)).length ((ps.map (·.2)).flatMap aw),.ag Y.1.2.deads.length (Y.1.2.deads.flatMap co)] 67 none:=by
    rw [←ab9,←wB];exact A.get
   have nj:ps.length≤2 ^ 30:=by rw [ab9,List.length_map] at Sj;exact Sj
   have yr:=env.step A.aj A.cH A.ay (by decide)
   have Bx:=A.dq
   have uv:=p8.jv A.aj A.cH (by decide)
   have Hv:=vg.jv A.aj A.cH (by decide)
   have ED:=A.own
   have Hw:=A.lt
   clear A gk p8 vg env ay ql gF
   have mE:((((ps.map (·.1)).length:Nat):Int) !=(((ps.map (·.2)).length:Nat):Int))=false:=by simp
   have ff:(ps.map (·.1)).length=ps.length:=List.length_map _
   have eY:(ps.map (·.2)).length=ps.length:=List.length_map _
   simp only [aa,Nat.reduceEqDiff,Nat.reduceAdd,Nat.reduceLeDiff,Kl,H3,mh,pv,lb,H4,f17,q7,mE]
   obtain ⟨Y7,mW⟩:∃ x,x=V.ag Y.1.2.outs.length (Y.1.2.outs.flatMap dg):=⟨_,rfl⟩
   obtain ⟨Y8,HY⟩:∃ x,x=V.ag Y.1.2.deads.length (Y.1.2.deads.flatMap co):=⟨_,rfl⟩
   rw [←mW,←HY] at q7
   clear mW HY
   refine aP.bG (α:=Nat×cM×bW) (fun x f h'=>f 2=.ag cO.length (cO.flatMap lD)∧f 4=.ptr h.n 0∧f 7=.ptr (h.n+1) 0∧f 9=.bool true∧f 10=.ptr m1 0∧f 12=.ptr m2 0∧f 14=.ptr m3 0∧f 16=.int .i64 (i:Nat)∧f 17=.ptr t 0∧f 19=.int .i64 (x.1:Nat)∧x.1≤ps.length ∧
     h'.get t=.cells [Y7,.ag (ps.map (·.1)).length (aO (ps.map (·.1))),.ag (ps.map (·.2)).length ((ps.map (·.2)).flatMap aw),Y8] 67 none∧x.2.1 t=(0,0)∧t<h'.n ∧
     dA h' x.2.1 1 m1 dt c Y.1.1∧dA h' x.2.1 2 m2 b1 c x.2.2∧dA h' x.2.1 3 m3 e9 c (bW.new c)∧Env h.n (.cells [.ag l.length (l.flatMap al),.int .i64 p] 56 none) (.cells [.int .i64 Ct,.int .i64 mk,.int .i64 DJ,.int .i64 mt,.bool md,.int .i64 G9,.int .i64 Mt,.int .i64 GZ,.int .i64 rv,.bool BA] 59 none) h' x.2.1∧kX c (runT c (bW.new c) (cO.take i)) (ps.take x.1)=some x.2.2∧rb c x.2.2) (fun x=>ps.length - x.1) (0,et,(runT c (bW.new c) (cO.take i)))
    ⟨f2,f4,f7,f9,f10,f12,f14,f16,f17,rfl,Nat.zero_le _,q7,ED,Hw,Bx,uv,Hv,yr,rfl,gs.ax⟩ ?_
   clear f2 f4 f7 f9 f10 f12 f14 f16 f17 q7 ED Hw Bx uv Hv yr
   rintro ⟨k,aJ,Ha⟩ f bk ⟨f2,f4,f7,f9,f10,f12,f14,f16,f17,f19,hk,q7,ED,Hw,gk,p8,vg,env,BB,hK⟩
   simp only at f19 hk ED gk p8 vg env BB hK
   refine dw (by kernel_rfl) ?_
   by_cases eC:k<ps.length
   ·have ar:decide ((k:Int)<(((ps.map (·.2)).length:Nat):Int))=true:=decide_eq_true (by omega)
    have Hu:=kf eC (by omega)
    have rv:=ra (P:=Tryz.prog) (kk:=.i64) (show k<(ps.map (·.1)).length by omega) kr
    have Mu:=oJ (P:=Tryz.prog) (kk:=.i64) ix (show k<(ps.map (·.2)).length by omega) EE
    rw [List.getElem_map] at rv Mu
    obtain ⟨gA,kL,sv⟩:=akK aca eC BB
    generalize ps[k]=asi at rv Mu gA kL sv
    obtain ⟨pu,d⟩:=asi
    simp only at rv Mu gA kL sv
    obtain ⟨u,rfl⟩:=Int.eq_ofNat_of_zero_le gA
    rw [Int.toNat_natCast] at kL sv
    have cR:=Sq ll p8 hK env.ay (show (2:Nat)≠0 by decide) u d kL
    have Sr:∀ r:List V,cX (some (some 5)) (some (aw d++r))=some (.agg (aw d)):=fun r=>lC (ix d)
    simp only [aa,Nat.reduceEqDiff,Nat.reduceAdd,Nat.reduceLeDiff,H3,pv,H4,f17,f19,q7,ar]
    refine aP.aY (fun q=>(aJ q).1=2) [11] (.q 0 (.q 1 (.q 2 (.q 3 (.q 4 (.q 5 (.q 6 (.q 7 (.q 8 (.q 9 (.q 10 (.a 11 (.q 12 .done))))))))))))) (by kernel_rfl) (by kernel_rfl) (by kernel_rfl) ?_
    have akO:((aJ t).1=2)=False:=eq_false (by rw [ED];decide)
    simp only [aa,bD,fg,Nat.reduceEqDiff,Nat.reduceAdd,Nat.reduceLeDiff,Kl,H3,lb,a7,H4,j0,f12,f17,f19,q7,rv,Mu,Sr,akO]
    refine bU acb cR fun r bN ⟨hQ,et,Du,lE,f5,cG⟩=>?_
    subst hQ
    have hE:I bk bN (fun q=>(aJ q).1=2):=cG
    simp only [aa,bD,fg,Nat.reduceEqDiff,f19,Hu]
    exact au ⟨(k+1,et,_),⟨f2,f4,f7,f9,f10,f12,f14,f16,f17,rfl,by simp only;omega,(cG.get t Hw (by rw [ED];decide)).trans q7,(lE _ Hw).trans ED,Nat.lt_of_lt_of_le Hw cG.n,gk.jv cG lE (by decide),Du,vg.jv cG lE (by decide),env.step cG lE f5 (by decide),sv,akL hK u d⟩,by simp only;omega⟩
   ·have ar:decide ((k:Int)<(((ps.map (·.2)).length:Nat):Int))=false:=decide_eq_false (by omega)
    have e2:ps.take k=ps:=List.take_of_length_le (by omega)
    rw [e2] at BB
    have Ss:Ha=Y.1.1:=Option.some.inj (BB.symm.trans aca)
    subst Ss
    rw [←o7] at gk p8
    simp only [aa,Nat.reduceEqDiff,Nat.reduceAdd,Nat.reduceLeDiff,reduceCtorEq,H3,pv,H4,f16,f17,f19,q7,ar,hw]
    exact au ⟨(i+1,aJ),⟨f2,f4,f7,f9,f10,f12,f14,rfl,by simp only;omega,by simp only;omega,gk,p8,vg,env⟩,by simp only;omega⟩
 ·have oK:decide ((i:Int)<((cO.length:Nat):Int))=false∨(decide ((i:Int)<((cO.length:Nat):Int))=true∧decide ((i:Int)<40)=false):=by
   by_cases h1:i<cO.length
   ·exact .inr ⟨decide_eq_true (by omega),decide_eq_false (by omega)⟩
   ·exact .inl (decide_eq_false (by omega))
  have gs:=Qm ll g0 (cO.take i)
  generalize runT c (bW.new c) (cO.take i)=fG at gk p8 gs
  obtain ⟨akP,pf⟩:=gs.Km
  have aae:=asj c akP fG.st
  rcases oK with d1 | ⟨d1,d2⟩
  all_goals
   simp only [aa,Nat.reduceEqDiff,Mp,f2,f16,d1]
   try simp only [aa,d2]
   refine aP.Py (fun f=>f 4=.ptr h.n 0∧f 7=.ptr (h.n+1) 0∧f 9=.bool true∧f 10=.ptr m1 0∧f 12=.ptr m2 0∧f 14=.ptr m3 0∧f 20=.int .i64 0) ⟨f4,f7,f9,f10,f12,f14,rfl⟩ ?_
   clear f2 f4 f7 f9 f10 f12 f14 f16
   rintro f ⟨f4,f7,f9,f10,f12,f14,f20⟩
   refine aP.bG (α:=Nat×cM×bW) (fun x f h'=>f 4=.ptr h.n 0∧f 7=.ptr (h.n+1) 0∧f 9=.bool true∧f 10=.ptr m1 0∧f 12=.ptr m2 0∧f 14=.ptr m3 0∧f 20=.int .i64 (x.1:Nat)∧x.1≤l.length ∧
     dA h' x.2.1 1 m1 dt c fG∧dA h' x.2.1 2 m2 b1 c fG∧dA h' x.2.1 3 m3 e9 c x.2.2∧Env h.n (.cells [.ag l.length (l.flatMap al),.int .i64 p] 56 none) (.cells [.int .i64 Ct,.int .i64 mk,.int .i64 DJ,.int .i64 mt,.bool md,.int .i64 G9,.int .i64 Mt,.int .i64 GZ,.int .i64 rv,.bool BA] 59 none) h' x.2.1∧Dv c x.2.2 (yt c akP fG.st x.1)∧rb c x.2.2) (fun x=>l.length - x.1) (0,aJ,bW.new c)
    ⟨f4,f7,f9,f10,f12,f14,f20,Nat.zero_le _,gk,p8,vg,env,aae,Y9 c⟩ ?_
   clear gk p8 vg env f4 f7 f9 f10 f12 f14 f20 aae
   rintro ⟨v,aJ,acd⟩ f bk ⟨f4,f7,f9,f10,f12,f14,f20,aN,gk,p8,vg,env,heq,hK⟩
   simp only at f20 aN gk p8 vg env heq hK
   have gt:=env.gt
   refine dw (by kernel_rfl) ?_
   by_cases Dk:v<l.length
   ·have ar:decide ((v:Int)<((l.length:Nat):Int))=true:=decide_eq_true (by omega)
    have akQ:=kf Dk (by omega)
    simp only [aa,Nat.reduceEqDiff,Nat.reduceAdd,jH,d9,ji,f4,f10,f20,gt,ar]
    refine bB Za (ace ll gk gs.ax v) ?_
    obtain ⟨b7,eg,acf⟩:=asl pf gs.ax gs.wf v heq
    have hll:=akR (c:=c) gs.wf v
    generalize zS c fG v=L at eg hll
    simp only [aa,Nat.reduceEqDiff,eP]
    refine aP.bG (α:=Nat×cM×bW) (fun x f h'=>f 4=.ptr h.n 0∧f 7=.ptr (h.n+1) 0∧f 9=.bool true∧f 10=.ptr m1 0∧f 12=.ptr m2 0∧f 14=.ptr m3 0∧f 20=.int .i64 (v:Nat)∧f 21=.ag L.length (L.flatMap aw)∧f 22=.int .i64 (x.1:Nat)∧x.1≤L.length ∧
      dA h' x.2.1 1 m1 dt c fG∧dA h' x.2.1 2 m2 b1 c fG∧dA h' x.2.1 3 m3 e9 c x.2.2∧Env h.n (.cells [.ag l.length (l.flatMap al),.int .i64 p] 56 none) (.cells [.int .i64 Ct,.int .i64 mk,.int .i64 DJ,.int .i64 mt,.bool md,.int .i64 G9,.int .i64 Mt,.int .i64 GZ,.int .i64 rv,.bool BA] 59 none) h' x.2.1∧kX c acd ((L.map fun x=>((v:Int),x)).take x.1)=some x.2.2∧rb c x.2.2) (fun x=>L.length - x.1) (0,aJ,acd)
     ⟨f4,f7,f9,f10,f12,f14,f20,rfl,rfl,Nat.zero_le _,gk,p8,vg,env,rfl,hK⟩ ?_
    clear gk p8 vg env f4 f7 f9 f10 f12 f14 f20 hK gt
    rintro ⟨k,aJ,Ha⟩ f bk ⟨f4,f7,f9,f10,f12,f14,f20,f21,f22,hk,gk,p8,vg,env,BB,hK⟩
    simp only at f22 hk gk p8 vg env BB hK
    have lm:(L.map fun x=>((v:Int),x)).length=L.length:=List.length_map _
    refine dw (by kernel_rfl) ?_
    by_cases eC:k<L.length
    ·have aT:decide ((k:Int)<((L.length:Nat):Int))=true:=decide_eq_true (by omega)
     have Hu:=kf eC (by omega)
     have Mu:=oJ (P:=Tryz.prog) (kk:=.i64) ix eC EE
     obtain ⟨gA,kL,sv⟩:=akK eg (show k<(L.map fun x=>((v:Int),x)).length by omega) BB
     rw [List.getElem_map] at gA kL sv
     simp only [Int.toNat_natCast] at gA kL sv
     generalize L[k]=d at Mu kL sv
     have cR:=Sq ll vg hK env.ay (show (3:Nat)≠0 by decide) v d kL
     have Sr:∀ r:List V,cX (some (some 5)) (some (aw d++r))=some (.agg (aw d)):=fun r=>lC (ix d)
     simp only [aa,Nat.reduceEqDiff,pv,j0,f14,f20,f21,f22,aT,Mu,Sr]
     refine bU acb cR fun r bN ⟨hQ,et,Kn,lE,f5,cG⟩=>?_
     subst hQ
     simp only [aa,Nat.reduceEqDiff,f22,Hu]
     exact au ⟨(k+1,et,_),⟨f4,f7,f9,f10,f12,f14,f20,f21,rfl,by simp only;omega,gk.jv cG lE (by decide),p8.jv cG lE (by decide),Kn,env.step cG lE f5 (by decide),sv,akL hK v d⟩,by simp only;omega⟩
    ·have aT:decide ((k:Int)<((L.length:Nat):Int))=false:=decide_eq_false (by omega)
     rw [List.take_of_length_le (by omega)] at BB
     have Ss:Ha=b7:=Option.some.inj (BB.symm.trans eg)
     subst Ss
     simp only [aa,Nat.reduceEqDiff,jH,pv,ji,f4,f10,f12,f20,f21,f22,aT,akQ]
     exact au ⟨(v+1,aJ,Ha),⟨f4,f7,f9,f10,f12,f14,rfl,by simp only;omega,gk,p8,vg,env,acf,hK⟩,by simp only;omega⟩
   ·have ar:decide ((v:Int)<((l.length:Nat):Int))=false:=decide_eq_false (by omega)
    have nB:v=c.l.length:=by rw [dk];omega
    have St:Dv c acd fG:=by
     have ae:=asm ll pf
     rw [←nB] at ae
     exact ⟨heq.1.trans ae.1,fun u K bE=>(heq.2 u K bE).trans (ae.2 u K bE)⟩
    have vg:=vg.eqv St
    clear heq St hK nB
    simp only [aa,Nat.reduceEqDiff,Nat.reduceAdd,jH,d9,ji,f4,f10,f12,f20,gt,ar]
    refine bB NE (ab6 ll gk p8 gs.ax gs.wf l.length ur) ?_
    simp only [aa,Nat.reduceEqDiff,Nat.reduceAdd,jH,d9,ji,f4,f10,f14,gt]
    refine bB NE (ab6 ll gk vg gs.ax gs.wf l.length ur) ?_
    have dI:=env.dI
    simp only [aa,Nat.reduceEqDiff,Nat.reduceAdd,Nat.reduceLeDiff,Kd,Mq,a7,dj,f7,f10,dI]
    obtain ⟨Y,gF⟩:∃ Y,Y=stepT c fG Ct ⟨mk,DJ,mt⟩:=⟨_,rfl⟩
    have tv:sz Y.1≤2 ^ 30:=by rw [gF];exact Mr ll gs Ct ⟨mk,DJ,mt⟩
    obtain ⟨Bz,z2,z3,z4⟩:=Sf tv
    have mZ:(vf Y.1.2).cells=some (be Y.1.2):=rfl
    have qn:bM (some 4) (aV.cells [V.ah,V.ah,V.ah,V.ah] 67 none) 0 (be Y.1.2)=some (.cells (be Y.1.2) 67 none):=vG rfl rfl rfl rfl
    have sj:(if 4≤(be Y.1.2).length then some (V.agg (List.take 4 (be Y.1.2))) else none)=some (.agg (be Y.1.2)):=rfl
    have gm:=ym ll gk gs.ax gs.wf env.ay env.ql.1 (show (1:Nat)≠0 by decide) Ct ⟨mk,DJ,mt⟩
    rw [←gF] at gm
    refine bU xO gm fun r bN ⟨hQ,et,qm,lE,f5,cG⟩=>?_
    subst hQ
    have A:=qo.push (x:=Y.1.2) qm lE f5 cG
    have CI:=env.step A.aj A.cH A.ay (by decide)
    have Du:=p8.jv A.aj A.cH (by decide)
    have Kn:=vg.jv A.aj A.cH (by decide)
    have ux:=CI.dI
    have g1:=A.get
    have c9:=A.own
    have vw:=A.lt
    simp only [aa,Nat.reduceEqDiff,Kd,a7,tR,ss,f7,f12,mZ,qn]
    generalize bN.push (.cells (be Y.1.2) 67 none)=gy at A CI Du Kn ux g1 vw⊢
    generalize bN.n=tb at A g1 c9 vw⊢
    clear A qm cG lE f5 gk p8 vg env gm
    simp only [aa,Nat.reduceEqDiff,Nat.reduceAdd,Nat.reduceLeDiff,Mq,dj,f7,ux]
    have jb:=ym ll Du gs.ax gs.wf CI.ay CI.ql.1 (show (2:Nat)≠0 by decide) Ct ⟨mk,DJ,mt⟩
    rw [←gF] at jb
    refine bU xO jb fun r dd ⟨CH,hL,uv,vx,f6,fY⟩=>?_
    subst CH
    have A:=qo.push (x:=Y.1.2) uv vx f6 fY
    have yr:=CI.step A.aj A.cH A.ay (by decide)
    have Hv:=Kn.jv A.aj A.cH (by decide)
    have rA:=yr.dI
    have g12:=(A.aj.get tb vw (by rw [c9];decide)).trans g1
    have aaf:=(A.cH _ vw).trans c9
    have Mv:=Nat.lt_of_lt_of_le vw A.aj.n
    have g2:=A.get
    have b0:=A.own
    have zB:=A.lt
    simp only [aa,Nat.reduceEqDiff,Kd,a7,tR,ss,f7,f14,mZ,qn]
    generalize dd.push (.cells (be Y.1.2) 67 none)=pt at A yr Hv rA g12 Mv g2 zB⊢
    generalize dd.n=Su at A g2 b0 zB⊢
    clear A uv fY vx f6 jb CI Du Kn ux g1 c9 vw
    simp only [aa,Nat.reduceEqDiff,Nat.reduceAdd,Nat.reduceLeDiff,Mq,dj,f7,rA]
    have qp:=ym ll Hv gs.ax gs.wf yr.ay yr.ql.1 (show (3:Nat)≠0 by decide) Ct ⟨mk,DJ,mt⟩
    rw [←gF] at qp
    refine bU xO qp fun r jG ⟨su,akS,aag,Ko,PA,lQ⟩=>?_
    subst su
    have A:=qo.push (x:=Y.1.2) aag Ko PA lQ
    have g13:=(A.aj.get tb Mv (by rw [aaf];decide)).trans g12
    have g23:=(A.aj.get Su zB (by rw [b0];decide)).trans g2
    have g3:=A.get
    simp only [aa,Nat.reduceEqDiff,yn,tR,ss,mZ,qn]
    generalize jG.push (.cells (be Y.1.2) 67 none)=re at A g13 g23 g3⊢
    generalize jG.n=auk at A g3⊢
    clear A aag lQ Ko PA qp yr Hv rA g12 aaf Mv g2 b0 zB
    simp only [aa,Nat.reduceEqDiff,yn,g13,g23,sj]
    refine bB akT (Y2 Y.1.2 re Bz z2 z3 z4) ?_
    simp only [aa,Nat.reduceEqDiff,yn,g13,g3,sj]
    refine bB akT (Y2 Y.1.2 re Bz z2 z3 z4) ?_
    have aul:(Y.2==Y.2)=true:=by simp
    simp only [aa,Nat.reduceEqDiff,f9,aI,Tryz.results6,ac]
    exact au rfl
end Go.Proofs.YtedkjhifbibpmaaGreatDoor.Pk
