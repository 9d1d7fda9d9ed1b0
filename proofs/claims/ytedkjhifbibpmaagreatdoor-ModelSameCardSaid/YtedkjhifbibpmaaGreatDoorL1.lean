/-
  What functions of the program do, told of abstract states. Conditions: as each theorem says.
-/
import Derived.Test.YtedkjhifbibpmaaGreatDoorMi
set_option linter.unusedVariables false
set_option linter.unusedSimpArgs false
set_option maxHeartbeats 4000000
set_option maxRecDepth 10000
namespace Go.Proofs.YtedkjhifbibpmaaGreatDoor.Pk
open Go Go.Proofs Go.Proofs.YtedkjhifbibpmaaGreatDoor.Ab
theorem asb (l:List bu) (p:Int) (ba:kh l) (part:Nat) (aW:part<256) (cO:List w3) (hi:cO.length<2 ^ 47) (h:J) (aB:lP h) :
  ab Tryz.prog 7 [.agg (cQ l p),.int .u8 (part:Nat),.ag cO.length (cO.flatMap lD)] h (fun r h'=>r=.bool true):=by
 refine ab.ao (c:=_) Tryz.func7 rfl (by kernel_rfl) (by simp) ?_
 have nz:∀ (l:List bu) (p:Int),(V.agg (cQ l p)).cells=some [.ag l.length (l.flatMap al),.int .i64 p]:=fun _ _=>rfl
 have mo:∀ (l:List bu) (p:Int),V.agg [.ag l.length (l.flatMap al),.int .i64 p]=.agg (cQ l p):=fun _ _=>rfl
 obtain ⟨H,hH⟩:∃ x,x=h.push (.cells [.ag l.length (l.flatMap al),.int .i64 p] 56 none):=⟨_,rfl⟩
 have gt:H.get h.n=.cells [.ag l.length (l.flatMap al),.int .i64 p] 56 none:=by rw [hH];exact b6
 have bq:I h H none_:=by rw [hH];exact I.push _ _ _
 have h9:H.n=h.n+1:=by rw [hH];rfl
 have s9:=aB.aj bq
 simp only [aa,nz]
 rw [←hH]
 clear hH
 refine bB Qk (Ql H s9) ?_
 simp only [aa,Nat.reduceEqDiff,Nat.reduceAdd,kp,gt,mo]
 refine bU R4 (R5 l p ba H) fun r h1 ⟨Bt,ar,bo⟩=>?_
 subst ar
 cases Bt
 ·simp only [aa,Nat.reduceEqDiff,aI,Tryz.results7,ac]
  exact au rfl
 obtain ⟨cq,cP,ey⟩:=ab0 part aW
 have ta:=(bo.get h.n (by omega) (by simp [none_])).trans gt
 have t1:=s9.aj bo
 have eL:=bo.n
 have rm:∀ xo yo,ev Tryz.prog .rem 5 xo yo (.int .u8 (part:Int)) (.int .u8 4)=some (.int .u8 ((part % 4:Nat):Int)):=fun xo yo=>by rw [L8 (by decide),cq]
 obtain ⟨c,aF⟩:∃ c:aZ,c=⟨l,p,((part % 4:Nat):Int)⟩:=⟨_,rfl⟩
 have dk:c.l=l:=by rw [aF]
 have sr:∀ (id:Nat) (H:J) (aJ:cM),lP H→Fr H aJ→id≠0→ab Tryz.prog 26 [.agg (cQ l p),.int .i64 ((part % 4:Nat):Int)] H (Made id c H aJ):=fun id H aJ ql f h0=>by rw [aF];exact Mn id ⟨l,p,_⟩ ba H ql aJ f h0
 simp only [aa,Nat.reduceEqDiff,Nat.reduceAdd,kp,ta,mo,rm,iZ hD fb,ey]
 refine bU CE (sr 1 h1 (fun _=>(0,0)) t1 (fun _ _=>rfl) (by decide)) fun r ae ⟨k2,bb⟩=>?_
 have jL:=(k2.get h.n (by omega) (by simp [none_])).trans ta
 have t2:=t1.aj k2
 have ef:=k2.n
 by_cases bC:fk c=0
 rotate_left
 ·rcases bb with ⟨aG,aT⟩ | ⟨h0,_⟩
  rotate_left
  ·exact absurd h0 bC
  subst aT
  simp only [aa,Nat.reduceEqDiff,Nat.reduceAdd,kp,jL,mo,rm,iZ hD fb,ey]
  refine bU CE (sr 2 ae (fun _=>(0,0)) t2 (fun _ _=>rfl) (by decide)) fun r aA ⟨k3,bb⟩=>?_
  rcases bb with ⟨aG,cg⟩ | ⟨h0,_⟩
  rotate_left
  ·exact absurd h0 bC
  subst cg
  have bd:(fk c !=0)=true:=by simpa using bC
  have bH:(fk c==fk c)=true:=by simp
  simp only [aa,Nat.reduceEqDiff,bd,aI,Tryz.results7,ac]
  exact au rfl
 rcases bb with ⟨aG,_⟩ | ⟨_,m1,dt,ie,aT,Bu,oF,f2⟩
 ·exact absurd bC aG
 subst aT
 simp only [aa,Nat.reduceEqDiff,Nat.reduceAdd,kp,jL,mo,rm,iZ hD fb,ey]
 refine bU CE (sr 2 ae ie t2 f2 (by decide)) fun r aA ⟨k3,bb⟩=>?_
 rcases bb with ⟨aG,_⟩ | ⟨_,m2,b1,jd,cg,Kc,xC,f3⟩
 ·exact absurd bC aG
 subst cg
 have Z4:=Bu.w4 k3 xC
 have lg:=(k3.get h.n (by omega) (by simp [none_])).trans jL
 have t3:=t2.aj k3
 have n3:=k3.n
 have wt:jd h.n=(0,0):=(xC _ (by omega)).trans (oF _ (by omega))
 have z0:((0:Int) !=0)=false:=rfl
 have ll:fr c:=by
  have yl:(ct p l).2=0:=by
   by_cases ak:(ct p l).2=0
   ·exact ak
   ·exfalso;rw [aF] at bC;unfold fk at bC;rw [if_pos ak] at bC;exact ak bC
  rw [aF];exact ⟨yl,ba⟩
 have ur:l.length≤24:=dk ▸ ll.len
 clear aF
 have g0:=Mo ll
 simp only [aa,Nat.reduceEqDiff,zQ]
 refine aP.bG (α:=Nat×V×cM) (fun x f h'=>f 2=.ag cO.length (cO.flatMap lD)∧f 3=.ptr h.n 0∧f 7=.bool true∧f 8=.ptr m1 0∧f 10=.ptr m2 0∧f 12=x.2.1∧f 13=.int .i64 (x.1:Nat)∧x.1≤cO.length∧x.1≤40 ∧
   dA h' x.2.2 1 m1 dt c (runT c (bW.new c) (cO.take x.1))∧dA h' x.2.2 2 m2 b1 c (bW.new c)∧Own h' 67 4 x.2.1 ((w5 c (bW.new c) (cO.take x.1)).flatMap be)∧nX x.2.2 (0,0) (ga x.2.1)∧Fr h' x.2.2 ∧
   h'.get h.n=.cells [.ag l.length (l.flatMap al),.int .i64 p] 56 none∧x.2.2 h.n=(0,0)∧h.n<h'.n∧lP h') (fun x=>40 - x.1) (0,.ah,jd)
  ⟨rfl,rfl,rfl,rfl,rfl,rfl,rfl,Nat.zero_le _,Nat.zero_le _,Z4,Kc,Own.ah _ _ _,fun q af=>by simp [ga,aR] at af,f3,lg,wt,by omega,t3⟩ ?_
 clear Z4 Kc Bu k3 k2 bo f3 f2 xC oF lg jL ta gt t1 t2 t3 s9 wt
 rintro ⟨i,v,aJ⟩ f bk ⟨f2,f3,f7,f8,f10,f12,f13,iL,EA,gk,p8,H0,EB,ay,gt,wt,aG,ql⟩
 simp only at f12 f13 iL EA gk p8 H0 EB ay wt
 refine dw (by kernel_rfl) ?_
 by_cases aH:i<cO.length∧i<40
 ·have d1:decide ((i:Int)<((cO.length:Nat):Int))=true:=decide_eq_true (by omega)
  have d2:decide ((i:Int)<40)=true:=decide_eq_true (by omega)
  have hw:=kf aH.2 (by omega)
  have eo:=YZ aH.1
  have gs:=Qm ll g0 (cO.take i)
  have o7:=Y0 (c:=c) (s:=bW.new c) aH.1
  have Pw:=aky (c:=c) (s:=bW.new c) aH.1
  generalize cO[i]=it at eo o7 Pw
  generalize (cO.drop (i+1)).flatMap lD=Hr at eo
  obtain ⟨mX,⟨bJ,b5,rt⟩,ab1,⟨fB,cf,ju,gT,mY⟩⟩:=it
  simp only [lD,aD,aw,List.cons_append,List.nil_append] at eo o7 Pw
  simp only [aa,Nat.reduceEqDiff,Mp,f2,f13,d1,d2]
  refine aP.aY (fun q=>(aJ q).1=1) [11,15,16] (.q 0 (.q 1 (.q 2 (.q 3 (.q 4 (.q 5 (.q 6 (.q 7 (.q 8 (.q 9 (.q 10 (.e 11 (.q 12 (.q 13 (.q 14 (.e 15 (.e 16 (.q 17 .done) .stop) .stop)))) (.e 15 (.e 11 (.q 12 (.q 13 (.q 14 (.e 16 (.q 17 .done) .stop)))) .stop) .stop))))))))))))) (by kernel_rfl) (by kernel_rfl) (by kernel_rfl) ?_
  simp only [aa,bD,fg,Nat.reduceEqDiff,Nat.reduceLeDiff,Kd,Mq,a7,dj,tR,f2,f8,f13,eo]
  refine ⟨?_,?_⟩
  ·obtain ⟨Y,gF⟩:∃ Y,Y=stepT c (runT c (bW.new c) (cO.take i)) mX ⟨bJ,b5,rt⟩:=⟨_,rfl⟩
   have cR:=ym ll gk gs.ax gs.wf ay ql.1 (show (1:Nat)≠0 by decide) mX ⟨bJ,b5,rt⟩
   rw [←gF] at cR
   refine bU xO cR fun r bN ⟨hQ,et,qm,lE,f5,cG⟩=>?_
   subst hQ
   have mZ:(vf Y.1.2).cells=some (be Y.1.2):=rfl
   have qn:bM (some 4) (aV.cells [V.ah,V.ah,V.ah,V.ah] 67 none) 0 (be Y.1.2)=some (.cells (be Y.1.2) 67 none):=vG rfl rfl rfl rfl
   have hE:I bk bN (fun q=>(aJ q).1=1):=cG
   have A:=qo.push (x:=Y.1.2) qm lE f5 cG
   have EC:I bk (bN.push (.cells [V.ah,V.ah,V.ah,V.ah] 67 none)) (fun q=>(aJ q).1=1):=cG.trans (I.push _ _ none_) fun _ _ e=>e.elim
   have uu:I bk (bN.push (.cells (be Y.1.2) 67 none)) (fun q=>(aJ q).1=1):=A.aj
   simp only [aa,bD,fg,Nat.reduceEqDiff,yn,tR,ss,f12,hE,EC,uu,mZ,qn]
   obtain ⟨pt,lF⟩:∃ z,z=bN.push (.cells (be Y.1.2) 67 none):=⟨_,rfl⟩
   rw [←lF] at A⊢
   clear lF
   obtain ⟨t,bw⟩:∃ t,t=bN.n:=⟨_,rfl⟩
   rw [←bw] at A⊢
   have sj:(if 4≤(be Y.1.2).length then some (V.agg (List.take 4 (be Y.1.2))) else none)=some (.agg (be Y.1.2)):=rfl
   clear bw cR
   have Bv:=A.get
   have Ke:=H0.aj A.aj fun q af U=>by have e:=EB q (am.2 af);rw [e] at U;exact absurd U (by decide)
   have R6:=EB.cH (fun q af=>H0.lt q (am.1 af)) A.cH
   obtain ⟨ab2,r8,ei,R7,R8,R9,gx⟩:=akz Ke R6 A.ay (by rw [Qn,List.length_take];omega) Y.1.2
   have uv:=p8.jv A.aj A.cH (by decide)
   have Ds:=A.dq.aj (ow':=et) gx (fun q _ U=>by rw [U.1];decide) fun _ _=>rfl
   have Sa:=uv.aj (ow':=et) gx (fun q _ U=>by rw [U.1];decide) fun _ _=>rfl
   have p4:=(A.aj.get h.n aG (by rw [wt];decide)).trans gt
   have ab3:=A.aj.n
   have Sb:=(gx.get h.n (by omega) (fun U=>Own.apart Ke p4 (by decide) U.2)).trans p4
   have n8:=gx.n
   rw [gF,←o7] at Ds
   rw [gF,←Pw] at R7
   simp only [aa,Nat.reduceEqDiff,f13,sj,Sc,ei,hw]
   exact au ⟨(i+1,ab2,et),⟨f2,f3,f7,f8,f10,rfl,rfl,by simp only;omega,by simp only;omega,Ds,Sa,R7,R8,R9,Sb,(A.cH _ aG).trans wt,by omega,(ql.aj A.aj).aj gx⟩,by simp only;omega⟩
  ·obtain ⟨Y,gF⟩:∃ Y,Y=stepT c (runT c (bW.new c) (cO.take i)) mX ⟨bJ,b5,rt⟩:=⟨_,rfl⟩
   have uw:I bk (bk.push (.cells [.ah,.ah,.ah,.ah] 67 none)) none_:=I.push _ _ _
   have Sd:(bk.push (.cells [.ah,.ah,.ah,.ah] 67 none)).n=bk.n+1:=rfl
   have cR:=ym ll (gk.aQ uw) gs.ax gs.wf (fun q af=>ay q (by omega)) (ql.aj uw).1 (show (1:Nat)≠0 by decide) mX ⟨bJ,b5,rt⟩
   rw [←gF] at cR
   refine bU xO cR fun r bN ⟨hQ,et,qm,lE,f5,cG⟩=>?_
   subst hQ
   have mZ:(vf Y.1.2).cells=some (be Y.1.2):=rfl
   have qn:bM (some 4) (aV.cells [V.ah,V.ah,V.ah,V.ah] 67 none) 0 (be Y.1.2)=some (.cells (be Y.1.2) 67 none):=vG rfl rfl rfl rfl
   have hE:I bk bN (fun q=>(aJ q).1=1):=uw.up.trans cG fun _ _ e=>e
   have CF:bN.get bk.n=.cells [V.ah,V.ah,V.ah,V.ah] 67 none:=(cG.get bk.n (by omega) (by rw [ay _ (Nat.le_refl _)];decide)).trans b6
   have A:=qo.set (x:=Y.1.2) (show (1:Nat)≠0 by decide) ay qm lE f5 cG
   have uu:I bk (bN.set bk.n (.cells (be Y.1.2) 67 none)) (fun q=>(aJ q).1=1):=A.aj
   simp only [aa,bD,fg,Nat.reduceEqDiff,yn,ss,f12,hE,uu,mZ,qn,CF]
   obtain ⟨pt,lF⟩:∃ z,z=bN.set bk.n (.cells (be Y.1.2) 67 none):=⟨_,rfl⟩
   rw [←lF] at A⊢
   clear lF
   obtain ⟨t,bw⟩:∃ t,t=bk.n:=⟨_,rfl⟩
   rw [←bw] at A⊢
   have sj:(if 4≤(be Y.1.2).length then some (V.agg (List.take 4 (be Y.1.2))) else none)=some (.agg (be Y.1.2)):=rfl
   clear bw cR
   have Bv:=A.get
   have Ke:=H0.aj A.aj fun q af U=>by have e:=EB q (am.2 af);rw [e] at U;exact absurd U (by decide)
   have R6:=EB.cH (fun q af=>H0.lt q (am.1 af)) A.cH
   obtain ⟨ab2,r8,ei,R7,R8,R9,gx⟩:=akz Ke R6 A.ay (by rw [Qn,List.length_take];omega) Y.1.2
   have uv:=p8.jv A.aj A.cH (by decide)
   have Ds:=A.dq.aj (ow':=et) gx (fun q _ U=>by rw [U.1];decide) fun _ _=>rfl
   have Sa:=uv.aj (ow':=et) gx (fun q _ U=>by rw [U.1];decide) fun _ _=>rfl
   have p4:=(A.aj.get h.n aG (by rw [wt];decide)).trans gt
   have ab3:=A.aj.n
   have Sb:=(gx.get h.n (by omega) (fun U=>Own.apart Ke p4 (by decide) U.2)).trans p4
   have n8:=gx.n
   rw [gF,←o7] at Ds
   rw [gF,←Pw] at R7
   simp only [aa,Nat.reduceEqDiff,f13,sj,Sc,ei,hw]
   exact au ⟨(i+1,ab2,et),⟨f2,f3,f7,f8,f10,rfl,rfl,by simp only;omega,by simp only;omega,Ds,Sa,R7,R8,R9,Sb,(A.cH _ aG).trans wt,by omega,(ql.aj A.aj).aj gx⟩,by simp only;omega⟩
 ·have oK:decide ((i:Int)<((cO.length:Nat):Int))=false∨(decide ((i:Int)<((cO.length:Nat):Int))=true∧decide ((i:Int)<40)=false):=by
   by_cases h1:i<cO.length
   ·exact .inr ⟨decide_eq_true (by omega),decide_eq_false (by omega)⟩
   ·exact .inl (decide_eq_false (by omega))
  obtain ⟨w6,Bw⟩:∃ x,x=w5 c (bW.new c) (cO.take i):=⟨_,rfl⟩
  have Y1:∀ (j:Nat) (aX:j<i),∃ h:j<w6.length,w6[j]=(stepT c (runT c (bW.new c) (cO.take j)) (cO[j]'(by omega)).v (cO[j]'(by omega)).r).1.2:=fun j aX=>by rw [Bw];exact asc iL aX
  have Se:w6.length=i:=by rw [Bw,Qn,List.length_take];omega
  rw [←Bw] at H0
  obtain ⟨bN,Hs,cG⟩:=aK.own H0 (n:=i) (by rw [iS Qo,Se]) (by decide)
  have Dt:=(cG.get h.n aG (fun U=>Own.apart H0 gt (by decide) U)).trans gt
  have H2:I bk bN (fun q=>aJ q=(0,0)):=cG.mono fun q af=>EB q (am.2 af)
  have qm:=gk.aj (ow':=aJ) H2 (fun q _ U=>by rw [U];decide) fun _ _=>rfl
  have Du:=p8.aj (ow':=aJ) H2 (fun q _ U=>by rw [U];decide) fun _ _=>rfl
  have Z5:Fr bN aJ:=fun q af=>ay q (Nat.le_trans cG.n af)
  have Px:=ql.aj cG
  have Z6:h.n<bN.n:=Nat.lt_of_lt_of_le aG cG.n
  clear Bw gk p8 gt ay ql H2 cG H0 EB aG
  rcases oK with d1 | ⟨d1,d2⟩
  all_goals
   simp only [aa,Nat.reduceEqDiff,Mp,f2,f13,d1]
   try simp only [aa,d2]
   refine aP.Py (fun f=>f 2=.ag cO.length (cO.flatMap lD)∧f 3=.ptr h.n 0∧f 7=.bool true∧f 8=.ptr m1 0∧f 10=.ptr m2 0∧f 12=v∧f 16=.int .i64 0) ⟨f2,f3,f7,f8,f10,f12,rfl⟩ ?_
   clear f2 f3 f7 f8 f10 f12 f13
   rintro f ⟨f2,f3,f7,f8,f10,f12,f16⟩
   refine aP.cast (sR.slot (t:=12) (v:=.ag i (w6.flatMap be)) (by rw [f12];exact Hs)) ?_
   refine aP.bG (α:=Nat×cM) (fun x f h'=>f 2=.ag cO.length (cO.flatMap lD)∧f 3=.ptr h.n 0∧f 7=.bool true∧f 8=.ptr m1 0∧f 10=.ptr m2 0∧f 12=.ag i (w6.flatMap be)∧f 16=.int .i64 (x.1:Nat)∧x.1≤i ∧
     dA h' x.2 1 m1 dt c (runT c (bW.new c) (cO.take i))∧dA h' x.2 2 m2 b1 c (runT c (bW.new c) (cO.take x.1))∧Fr h' x.2 ∧
     h'.get h.n=.cells [.ag l.length (l.flatMap al),.int .i64 p] 56 none∧x.2 h.n=(0,0)∧h.n<h'.n∧lP h') (fun x=>i - x.1) (0,aJ)
    ⟨f2,f3,f7,f8,f10,rfl,f16,Nat.zero_le _,qm,Du,Z5,Dt,wt,Z6,Px⟩ ?_
   clear qm Du Z5 Dt wt Z6 Px Hs f2 f3 f7 f8 f10 f12 f16
   rintro ⟨j,aJ⟩ f bk ⟨f2,f3,f7,f8,f10,f12,f16,aX,gk,p8,ay,gt,wt,aG,ql⟩
   simp only at f16 aX gk p8 ay wt
   refine dw (by kernel_rfl) ?_
   by_cases aH:j<i
   ·have ar:decide ((j:Int)<((i:Nat):Int))=true:=decide_eq_true (by omega)
    have hw:=kf aH (by omega)
    have dJ:j<cO.length:=by omega
    have eo:=YZ dJ
    have gs:=Qm ll g0 (cO.take j)
    have o7:=Y0 (c:=c) (s:=bW.new c) dJ
    obtain ⟨zz,oR⟩:=Y1 j aH
    generalize cO[j]=it at eo o7 oR
    generalize (cO.drop (j+1)).flatMap lD=Hr at eo
    obtain ⟨mX,⟨bJ,b5,rt⟩,ab1,⟨fB,cf,ju,gT,mY⟩⟩:=it
    simp only [lD,aD,aw,List.cons_append,List.nil_append] at eo o7 oR
    simp only [aa,Nat.reduceEqDiff,ab4,f12,f16,ar]
    refine aP.aY (fun q=>(aJ q).1=2) [11,15,16] (.q 0 (.q 1 (.q 2 (.q 3 (.q 4 (.q 5 (.q 6 (.q 7 (.q 8 (.q 9 (.q 10 (.e 11 (.q 12 (.q 13 (.q 14 (.e 15 (.e 16 (.q 17 .done) .stop) .stop)))) (.e 15 (.e 11 (.q 12 (.q 13 (.q 14 (.e 16 (.q 17 .done) .stop)))) .stop) .stop))))))))))))) (by kernel_rfl) (by kernel_rfl) (by kernel_rfl) ?_
    simp only [aa,bD,fg,Nat.reduceEqDiff,Nat.reduceLeDiff,Kd,Mq,a7,dj,tR,f2,f10,f16,eo]
    refine ⟨?_,?_⟩
    ·obtain ⟨Y,gF⟩:∃ Y,Y=stepT c (runT c (bW.new c) (cO.take j)) mX ⟨bJ,b5,rt⟩:=⟨_,rfl⟩
     have cR:=ym ll p8 gs.ax gs.wf ay ql.1 (show (2:Nat)≠0 by decide) mX ⟨bJ,b5,rt⟩
     rw [←gF] at cR
     refine bU xO cR fun r bN ⟨hQ,et,qm,lE,f5,cG⟩=>?_
     subst hQ
     have mZ:(vf Y.1.2).cells=some (be Y.1.2):=rfl
     have qn:bM (some 4) (aV.cells [V.ah,V.ah,V.ah,V.ah] 67 none) 0 (be Y.1.2)=some (.cells (be Y.1.2) 67 none):=vG rfl rfl rfl rfl
     have hE:I bk bN (fun q=>(aJ q).1=2):=cG
     have A:=qo.push (x:=Y.1.2) qm lE f5 cG
     have EC:I bk (bN.push (.cells [V.ah,V.ah,V.ah,V.ah] 67 none)) (fun q=>(aJ q).1=2):=cG.trans (I.push _ _ none_) fun _ _ e=>e.elim
     have uu:I bk (bN.push (.cells (be Y.1.2) 67 none)) (fun q=>(aJ q).1=2):=A.aj
     simp only [aa,bD,fg,Nat.reduceEqDiff,tR,ss,hE,EC,uu,mZ,qn]
     obtain ⟨pt,lF⟩:∃ z,z=bN.push (.cells (be Y.1.2) 67 none):=⟨_,rfl⟩
     rw [←lF] at A⊢
     clear lF
     obtain ⟨t,bw⟩:∃ t,t=bN.n:=⟨_,rfl⟩
     rw [←bw] at A⊢
     have sj:(if 4≤(be Y.1.2).length then some (V.agg (List.take 4 (be Y.1.2))) else none)=some (.agg (be Y.1.2)):=rfl
     clear bw cR
     have Bv:=A.get
     have Bx:=gk.jv A.aj A.cH (by decide)
     have uv:=A.dq
     have p4:=(A.aj.get h.n aG (by rw [wt];decide)).trans gt
     have ab3:=A.aj.n
     rw [gF,←o7] at uv
     have tv:sz Y.1≤2 ^ 30:=by rw [gF];exact Mr ll gs mX ⟨bJ,b5,rt⟩
     obtain ⟨Bz,z2,z3,z4⟩:=Sf tv
     have Sg:w6[j]'zz=Y.1.2:=by rw [gF];exact oR
     have Sh:=oJ (P:=Tryz.prog) (kk:=.i64) Qo zz akA
     rw [Sg,Se] at Sh
     have Ht:∀ r:List V,cX (some (some 4)) (some (be Y.1.2++r))=some (.agg (be Y.1.2)):=fun r=>lC (Qo Y.1.2)
     have ab5:cX (some (some 4)) (some (be Y.1.2))=some (.agg (be Y.1.2)):=rfl
     have Si:da (.cells (be Y.1.2) 67 none) 0=some (be Y.1.2):=rfl
     refine aP.aY none_ [] (.q 0 (.q 1 (.q 2 (.q 3 (.q 4 (.c 5 (.q 6 .done))))))) (by kernel_rfl) (by kernel_rfl) (by kernel_rfl) ?_
     simp only [aa,bD,Nat.reduceEqDiff,yn,f12,f16,Bv,sj,Si,Sh,Ht]
     refine gE rfl rfl rfl (fun h' _=>Y2 Y.1.2 h' Bz z2 z3 z4) ?_
     simp only [aa,bD,Nat.reduceEqDiff,f16,hw]
     exact au ⟨(j+1,et),⟨f2,f3,f7,f8,f10,f12,rfl,by simp only;omega,Bx,uv,A.ay,p4,(A.cH _ aG).trans wt,by omega,ql.aj A.aj⟩,by simp only;omega⟩
    ·obtain ⟨Y,gF⟩:∃ Y,Y=stepT c (runT c (bW.new c) (cO.take j)) mX ⟨bJ,b5,rt⟩:=⟨_,rfl⟩
     have uw:I bk (bk.push (.cells [.ah,.ah,.ah,.ah] 67 none)) none_:=I.push _ _ _
     have Sd:(bk.push (.cells [.ah,.ah,.ah,.ah] 67 none)).n=bk.n+1:=rfl
     have cR:=ym ll (p8.aQ uw) gs.ax gs.wf (fun q af=>ay q (by omega)) (ql.aj uw).1 (show (2:Nat)≠0 by decide) mX ⟨bJ,b5,rt⟩
     rw [←gF] at cR
     refine bU xO cR fun r bN ⟨hQ,et,qm,lE,f5,cG⟩=>?_
     subst hQ
     have mZ:(vf Y.1.2).cells=some (be Y.1.2):=rfl
     have qn:bM (some 4) (aV.cells [V.ah,V.ah,V.ah,V.ah] 67 none) 0 (be Y.1.2)=some (.cells (be Y.1.2) 67 none):=vG rfl rfl rfl rfl
     have hE:I bk bN (fun q=>(aJ q).1=2):=uw.up.trans cG fun _ _ e=>e
     have CF:bN.get bk.n=.cells [V.ah,V.ah,V.ah,V.ah] 67 none:=(cG.get bk.n (by omega) (by rw [ay _ (Nat.le_refl _)];decide)).trans b6
     have A:=qo.set (x:=Y.1.2) (show (2:Nat)≠0 by decide) ay qm lE f5 cG
     have uu:I bk (bN.set bk.n (.cells (be Y.1.2) 67 none)) (fun q=>(aJ q).1=2):=A.aj
     simp only [aa,bD,fg,Nat.reduceEqDiff,ss,hE,uu,mZ,qn,CF]
     obtain ⟨pt,lF⟩:∃ z,z=bN.set bk.n (.cells (be Y.1.2) 67 none):=⟨_,rfl⟩
     rw [←lF] at A⊢
     clear lF
     obtain ⟨t,bw⟩:∃ t,t=bk.n:=⟨_,rfl⟩
     rw [←bw] at A⊢
     have sj:(if 4≤(be Y.1.2).length then some (V.agg (List.take 4 (be Y.1.2))) else none)=some (.agg (be Y.1.2)):=rfl
     clear bw cR
     have Bv:=A.get
     have Bx:=gk.jv A.aj A.cH (by decide)
     have uv:=A.dq
     have p4:=(A.aj.get h.n aG (by rw [wt];decide)).trans gt
     have ab3:=A.aj.n
     rw [gF,←o7] at uv
     have tv:sz Y.1≤2 ^ 30:=by rw [gF];exact Mr ll gs mX ⟨bJ,b5,rt⟩
     obtain ⟨Bz,z2,z3,z4⟩:=Sf tv
     have Sg:w6[j]'zz=Y.1.2:=by rw [gF];exact oR
     have Sh:=oJ (P:=Tryz.prog) (kk:=.i64) Qo zz akA
     rw [Sg,Se] at Sh
     have Ht:∀ r:List V,cX (some (some 4)) (some (be Y.1.2++r))=some (.agg (be Y.1.2)):=fun r=>lC (Qo Y.1.2)
     have ab5:cX (some (some 4)) (some (be Y.1.2))=some (.agg (be Y.1.2)):=rfl
     have Si:da (.cells (be Y.1.2) 67 none) 0=some (be Y.1.2):=rfl
     refine aP.aY none_ [] (.q 0 (.q 1 (.q 2 (.q 3 (.q 4 (.c 5 (.q 6 .done))))))) (by kernel_rfl) (by kernel_rfl) (by kernel_rfl) ?_
     simp only [aa,bD,Nat.reduceEqDiff,yn,f12,f16,Bv,sj,Si,Sh,Ht]
     refine gE rfl rfl rfl (fun h' _=>Y2 Y.1.2 h' Bz z2 z3 z4) ?_
     simp only [aa,bD,Nat.reduceEqDiff,f16,hw]
     exact au ⟨(j+1,et),⟨f2,f3,f7,f8,f10,f12,rfl,by simp only;omega,Bx,uv,A.ay,p4,(A.cH _ aG).trans wt,by omega,ql.aj A.aj⟩,by simp only;omega⟩
   ·have ar:decide ((j:Int)<((i:Nat):Int))=false:=decide_eq_false (by omega)
    have dJ:j=i:=by omega
    subst dJ
    have gs:=Qm ll g0 (cO.take j)
    simp only [aa,Nat.reduceEqDiff,Nat.reduceAdd,jH,d9,ab4,ji,f3,f7,f8,f10,f12,f16,ar,gt]
    refine bB NE (ab6 ll gk p8 gs.ax gs.wf l.length ur) ?_
    simp only [aa,Nat.reduceEqDiff,aI,Tryz.results7,ac]
    exact au rfl
end Go.Proofs.YtedkjhifbibpmaaGreatDoor.Pk
