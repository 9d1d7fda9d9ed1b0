/-
  What functions of the program do, told of abstract states. Conditions: as each theorem says.
-/
import Derived.Test.YtedkjhifbibpmaaGreatDoorMi
set_option linter.unusedVariables false
set_option linter.unusedSimpArgs false
set_option maxHeartbeats 4000000
set_option maxRecDepth 10000
namespace Go.Proofs.YtedkjhifbibpmaaGreatDoor.Pk
open Go Go.Proofs Go.Proofs.YtedkjhifbibpmaaGreatDoor.Ab
theorem asd (l:List bu) (p:Int) (ba:kh l) (part:Nat) (aW:part<256) (cO:List w3) (hi:cO.length<2 ^ 47) (h:J) (aB:lP h) :
  ab Tryz.prog 8 [.agg (cQ l p),.int .u8 (part:Nat),.ag cO.length (cO.flatMap lD)] h (fun r h'=>r=.bool true):=by
 refine ab.ao (c:=_) Tryz.func8 rfl (by kernel_rfl) (by simp) ?_
 have nz:∀ (l:List bu) (p:Int),(V.agg (cQ l p)).cells=some [.ag l.length (l.flatMap al),.int .i64 p]:=fun _ _=>rfl
 have mo:∀ (l:List bu) (p:Int),V.agg [.ag l.length (l.flatMap al),.int .i64 p]=.agg (cQ l p):=fun _ _=>rfl
 obtain ⟨H,hH⟩:∃ x,x=h.push (.cells [.ag l.length (l.flatMap al),.int .i64 p] 56 none):=⟨_,rfl⟩
 have gt:H.get h.n=.cells [.ag l.length (l.flatMap al),.int .i64 p] 56 none:=by rw [hH];exact b6
 have bq:I h H none_:=by rw [hH];exact I.push _ _ _
 have h9:H.n=h.n+1:=by rw [hH];rfl
 have s9:=aB.aj bq
 simp only [aa,nz]
 rw [←hH]
 clear hH
 refine bB Qk (Ql H s9) ?_
 simp only [aa,Nat.reduceEqDiff,Nat.reduceAdd,kp,gt,mo]
 refine bU R4 (R5 l p ba H) fun r h1 ⟨Bt,ar,bo⟩=>?_
 subst ar
 cases Bt
 ·simp only [aa,Nat.reduceEqDiff,aI,Tryz.results8,ac]
  exact au rfl
 obtain ⟨cq,cP,ey⟩:=ab0 part aW
 have ta:=(bo.get h.n (by omega) (by simp [none_])).trans gt
 have t1:=s9.aj bo
 have eL:=bo.n
 have rm:∀ xo yo,ev Tryz.prog .rem 5 xo yo (.int .u8 (part:Int)) (.int .u8 4)=some (.int .u8 ((part % 4:Nat):Int)):=fun xo yo=>by rw [L8 (by decide),cq]
 obtain ⟨c,aF⟩:∃ c:aZ,c=⟨l,p,((part % 4:Nat):Int)⟩:=⟨_,rfl⟩
 have dk:c.l=l:=by rw [aF]
 have sr:∀ (id:Nat) (H:J) (aJ:cM),lP H→Fr H aJ→id≠0→ab Tryz.prog 26 [.agg (cQ l p),.int .i64 ((part % 4:Nat):Int)] H (Made id c H aJ):=fun id H aJ ql f h0=>by rw [aF];exact Mn id ⟨l,p,_⟩ ba H ql aJ f h0
 simp only [aa,Nat.reduceEqDiff,Nat.reduceAdd,kp,ta,mo,rm,iZ hD fb,ey]
 refine bU CE (sr 1 h1 (fun _=>(0,0)) t1 (fun _ _=>rfl) (by decide)) fun r ae ⟨k2,bb⟩=>?_
 have jL:=(k2.get h.n (by omega) (by simp [none_])).trans ta
 have t2:=t1.aj k2
 have ef:=k2.n
 by_cases bC:fk c=0
 rotate_left
 ·rcases bb with ⟨aG,aT⟩ | ⟨h0,_⟩
  rotate_left
  ·exact absurd h0 bC
  subst aT
  have bd:(fk c !=0)=true:=by simpa using bC
  simp only [aa,Nat.reduceEqDiff,bd,aI,Tryz.results8,ac]
  exact au rfl
 rcases bb with ⟨aG,_⟩ | ⟨_,m1,dt,ie,aT,Bu,oF,f2⟩
 ·exact absurd bC aG
 subst aT
 have z0:((0:Int) !=0)=false:=rfl
 have ll:fr c:=by
  have yl:(ct p l).2=0:=by
   by_cases ak:(ct p l).2=0
   ·exact ak
   ·exfalso;rw [aF] at bC;unfold fk at bC;rw [if_pos ak] at bC;exact ak bC
  rw [aF];exact ⟨yl,ba⟩
 have ur:l.length≤24:=dk ▸ ll.len
 clear aF
 have g0:=Mo ll
 have wt:ie h.n=(0,0):=oF _ (by omega)
 simp only [aa,Nat.reduceEqDiff,zQ]
 refine bB Qp (Y3 ll Bu g0.ax) ?_
 have amC:=Kf ll
 simp only [aa,Nat.reduceEqDiff]
 refine aP.bG (α:=Nat×cM) (fun x f h'=>f 2=.ag cO.length (cO.flatMap lD)∧f 3=.ptr h.n 0∧f 7=.bool true∧f 8=.ptr m1 0∧f 10=.ag c.ins.length (aO c.ins)∧f 11=.int .i64 (x.1:Nat)∧x.1≤cO.length∧x.1≤40 ∧
   dA h' x.2 1 m1 dt c (runT c (bW.new c) (cO.take x.1))∧Fr h' x.2 ∧
   h'.get h.n=.cells [.ag l.length (l.flatMap al),.int .i64 p] 56 none∧x.2 h.n=(0,0)∧h.n<h'.n∧lP h') (fun x=>40 - x.1) (0,ie)
  ⟨rfl,rfl,rfl,rfl,rfl,rfl,Nat.zero_le _,Nat.zero_le _,Bu,f2,jL,wt,by omega,t2⟩ ?_
 clear Bu k2 bo f2 oF jL ta gt t1 t2 s9 wt
 rintro ⟨i,aJ⟩ f bk ⟨f2,f3,f7,f8,f10,f11,iL,EA,gk,ay,gt,wt,aG,ql⟩
 simp only at f11 iL EA gk ay wt
 refine dw (by kernel_rfl) ?_
 by_cases aH:i<cO.length∧i<40
 rotate_left
 ·have oK:decide ((i:Int)<((cO.length:Nat):Int))=false∨(decide ((i:Int)<((cO.length:Nat):Int))=true∧decide ((i:Int)<40)=false):=by
   by_cases h1:i<cO.length
   ·exact .inr ⟨decide_eq_true (by omega),decide_eq_false (by omega)⟩
   ·exact .inl (decide_eq_false (by omega))
  rcases oK with d1 | ⟨d1,d2⟩
  ·simp only [aa,Nat.reduceEqDiff,Mp,f2,f7,f11,d1,aI,Tryz.results8,ac]
   exact au rfl
  ·simp only [aa,Nat.reduceEqDiff,Mp,f2,f7,f11,d1,d2,aI,Tryz.results8,ac]
   exact au rfl
 have d1:decide ((i:Int)<((cO.length:Nat):Int))=true:=decide_eq_true (by omega)
 have d2:decide ((i:Int)<40)=true:=decide_eq_true (by omega)
 have hw:=kf aH.2 (by omega)
 have eo:=YZ aH.1
 have gs:=Qm ll g0 (cO.take i)
 have o7:=Y0 (c:=c) (s:=bW.new c) aH.1
 generalize cO[i]=it at eo o7
 generalize (cO.drop (i+1)).flatMap lD=Hr at eo
 obtain ⟨mX,⟨bJ,b5,rt⟩,ab1,⟨fB,cf,ju,gT,mY⟩⟩:=it
 simp only [lD,aD,aw,List.cons_append,List.nil_append] at eo o7
 simp only [aa,Nat.reduceEqDiff,Mp,f2,f11,d1,d2]
 refine aP.cut (fun cx pt=>cx 2=.ag cO.length (cO.flatMap lD)∧cx 3=.ptr h.n 0∧cx 7=.bool true∧cx 8=.ptr m1 0∧cx 10=.ag c.ins.length (aO c.ins)∧cx 11=.int .i64 (i:Nat) ∧
   ∃ t et,cx 12=.ptr t 0∧cx 13=.int .i64 (stepT c (runT c (bW.new c) (cO.take i)) mX ⟨bJ,b5,rt⟩).2∧qo 1 m1 dt c bk aJ (stepT c (runT c (bW.new c) (cO.take i)) mX ⟨bJ,b5,rt⟩).1.1 (stepT c (runT c (bW.new c) (cO.take i)) mX ⟨bJ,b5,rt⟩).1.2 t pt et) ?_ ?_
 ·refine aP.aY (fun q=>(aJ q).1=1) [11,15,16] (.q 0 (.q 1 (.q 2 (.q 3 (.q 4 (.q 5 (.q 6 (.q 7 (.q 8 (.q 9 (.q 10 (.e 11 (.q 12 (.q 13 (.q 14 (.e 15 (.e 16 (.q 17 .done) .stop) .stop)))) (.e 15 (.e 11 (.q 12 (.q 13 (.q 14 (.e 16 (.q 17 .done) .stop)))) .stop) .stop))))))))))))) (by kernel_rfl) (by kernel_rfl) (by kernel_rfl) ?_
  simp only [aa,bD,fg,Nat.reduceEqDiff,Nat.reduceLeDiff,Kd,Mq,a7,dj,tR,f2,f8,f11,eo]
  refine ⟨?_,?_⟩
  ·obtain ⟨Y,gF⟩:∃ Y,Y=stepT c (runT c (bW.new c) (cO.take i)) mX ⟨bJ,b5,rt⟩:=⟨_,rfl⟩
   have cR:=ym ll gk gs.ax gs.wf ay ql.1 (show (1:Nat)≠0 by decide) mX ⟨bJ,b5,rt⟩
   rw [←gF] at cR
   refine bU xO cR fun r bN ⟨hQ,et,qm,lE,f5,cG⟩=>?_
   subst hQ
   have mZ:(vf Y.1.2).cells=some (be Y.1.2):=rfl
   have qn:bM (some 4) (aV.cells [V.ah,V.ah,V.ah,V.ah] 67 none) 0 (be Y.1.2)=some (.cells (be Y.1.2) 67 none):=vG rfl rfl rfl rfl
   have hE:I bk bN (fun q=>(aJ q).1=1):=cG
   have A:=qo.push (x:=Y.1.2) qm lE f5 cG
   have EC:I bk (bN.push (.cells [V.ah,V.ah,V.ah,V.ah] 67 none)) (fun q=>(aJ q).1=1):=cG.trans (I.push _ _ none_) fun _ _ e=>e.elim
   have uu:I bk (bN.push (.cells (be Y.1.2) 67 none)) (fun q=>(aJ q).1=1):=A.aj
   simp only [aa,bD,fg,Nat.reduceEqDiff,tR,ss,hE,EC,uu,mZ,qn]
   obtain ⟨pt,lF⟩:∃ z,z=bN.push (.cells (be Y.1.2) 67 none):=⟨_,rfl⟩
   rw [←lF] at A⊢
   clear lF
   obtain ⟨t,bw⟩:∃ t,t=bN.n:=⟨_,rfl⟩
   rw [←bw] at A⊢
   have sj:(if 4≤(be Y.1.2).length then some (V.agg (List.take 4 (be Y.1.2))) else none)=some (.agg (be Y.1.2)):=rfl
   clear bw cR
   exact au ⟨rfl,f2,f3,f7,f8,f10,f11,t,et,rfl,by rw [←gF];rfl,by rw [←gF];exact A⟩
  ·obtain ⟨Y,gF⟩:∃ Y,Y=stepT c (runT c (bW.new c) (cO.take i)) mX ⟨bJ,b5,rt⟩:=⟨_,rfl⟩
   have uw:I bk (bk.push (.cells [.ah,.ah,.ah,.ah] 67 none)) none_:=I.push _ _ _
   have Sd:(bk.push (.cells [.ah,.ah,.ah,.ah] 67 none)).n=bk.n+1:=rfl
   have cR:=ym ll (gk.aQ uw) gs.ax gs.wf (fun q af=>ay q (by omega)) (ql.aj uw).1 (show (1:Nat)≠0 by decide) mX ⟨bJ,b5,rt⟩
   rw [←gF] at cR
   refine bU xO cR fun r bN ⟨hQ,et,qm,lE,f5,cG⟩=>?_
   subst hQ
   have mZ:(vf Y.1.2).cells=some (be Y.1.2):=rfl
   have qn:bM (some 4) (aV.cells [V.ah,V.ah,V.ah,V.ah] 67 none) 0 (be Y.1.2)=some (.cells (be Y.1.2) 67 none):=vG rfl rfl rfl rfl
   have hE:I bk bN (fun q=>(aJ q).1=1):=uw.up.trans cG fun _ _ e=>e
   have CF:bN.get bk.n=.cells [V.ah,V.ah,V.ah,V.ah] 67 none:=(cG.get bk.n (by omega) (by rw [ay _ (Nat.le_refl _)];decide)).trans b6
   have A:=qo.set (x:=Y.1.2) (show (1:Nat)≠0 by decide) ay qm lE f5 cG
   have uu:I bk (bN.set bk.n (.cells (be Y.1.2) 67 none)) (fun q=>(aJ q).1=1):=A.aj
   simp only [aa,bD,fg,Nat.reduceEqDiff,ss,hE,uu,mZ,qn,CF]
   obtain ⟨pt,lF⟩:∃ z,z=bN.set bk.n (.cells (be Y.1.2) 67 none):=⟨_,rfl⟩
   rw [←lF] at A⊢
   clear lF
   obtain ⟨t,bw⟩:∃ t,t=bk.n:=⟨_,rfl⟩
   rw [←bw] at A⊢
   have sj:(if 4≤(be Y.1.2).length then some (V.agg (List.take 4 (be Y.1.2))) else none)=some (.agg (be Y.1.2)):=rfl
   clear bw cR
   exact au ⟨rfl,f2,f3,f7,f8,f10,f11,t,et,rfl,by rw [←gF];rfl,by rw [←gF];exact A⟩
 ·rintro f pt ⟨f2,f3,f7,f8,f10,f11,t,et,f12,f13,A⟩
  obtain ⟨Y,gF⟩:∃ Y,Y=stepT c (runT c (bW.new c) (cO.take i)) mX ⟨bJ,b5,rt⟩:=⟨_,rfl⟩
  have tv:sz Y.1≤2 ^ 30:=by rw [gF];exact Mr ll gs mX ⟨bJ,b5,rt⟩
  obtain ⟨akB,Sj,akC,akD⟩:=Sf tv
  have jZ:c.ins.contains mX=true→vH c Y.1:=fun U=>by
   obtain ⟨u,hu,e,_⟩:=Sk ll U
   rw [gF]
   exact ase _ e hu ⟨bJ,b5,rt⟩
  have Z7:c.ins.contains mX=false→Y=((runT c (bW.new c) (cO.take i),dS.none),6):=fun U=>by rw [gF];unfold stepT;rw [if_pos U]
  have akE:c.ins.contains mX=true→Y.2=0:=fun U=>by
   rw [gF];unfold stepT;rw [if_neg (by rw [U];decide)]
   split<;>rfl
  rw [←gF] at f13 A o7
  clear gF
  have p4:=(A.aj.get h.n aG (by rw [wt];decide)).trans gt
  have Sl:h.n<pt.n:=Nat.lt_of_lt_of_le aG A.aj.n
  have Bx:=A.dq
  rw [←o7] at Bx
  have Bv:=A.get
  have Pz:=ql.aj A.aj
  have akF:=(A.cH _ aG).trans wt
  have akG:=A.ay
  clear A gk gt ay ql wt o7 aG
  simp only [aa]
  refine aP.bG (α:=Nat) (fun x f h'=>f 2=.ag cO.length (cO.flatMap lD)∧f 3=.ptr h.n 0∧f 7=.bool true∧f 8=.ptr m1 0∧f 10=.ag c.ins.length (aO c.ins)∧f 11=.int .i64 (i:Nat)∧f 12=.ptr t 0∧f 13=.int .i64 Y.2 ∧
    f 14=.bool ((c.ins.take x).contains mX)∧f 15=.int .i64 (x:Nat)∧x≤c.ins.length∧h'=pt) (fun x=>c.ins.length - x) 0
   ⟨f2,f3,f7,f8,f10,f11,f12,f13,rfl,rfl,Nat.zero_le _,rfl⟩ ?_
  clear f2 f3 f7 f8 f10 f11 f12 f13
  rintro k f h' ⟨f2,f3,f7,f8,f10,f11,f12,f13,f14,f15,hk,rfl⟩
  refine dw (by kernel_rfl) ?_
  by_cases eC:k<c.ins.length
  ·have ar:decide ((k:Int)<((c.ins.length:Nat):Int))=true:=decide_eq_true (by omega)
   have Hu:=kf eC (by omega)
   have G9:=ra (P:=Tryz.prog) (kk:=.i64) eC kr
   have tM:(c.ins.take (k+1)).contains mX=((c.ins.take k).contains mX||(c.ins[k]==mX)):=by
    rw [Bool.eq_iff_iff,List.contains_iff_mem,Bool.or_eq_true,List.contains_iff_mem,List.take_succ_eq_append_getElem eC,List.mem_append,List.mem_singleton,beq_iff_eq]
    exact or_congr Iff.rfl eq_comm
   generalize c.ins[k]=y at G9 tM
   simp only [aa,Nat.reduceEqDiff,mh,f10,f15,ar]
   cases Sm:(c.ins.take k).contains mX
   ·rw [Sm] at f14 tM
    rw [Bool.false_or] at tM
    refine aP.aY none_ [] (.q 0 (.q 1 (.q 2 (.q 3 (.q 4 (.q 5 (.q 6 (.q 7 (.q 8 (.q 9 (.q 10 (.q 11 (.q 12 (.q 13 .done)))))))))))))) (by kernel_rfl) (by kernel_rfl) (by kernel_rfl) ?_
    simp only [aa,bD,Nat.reduceEqDiff,Kd,a7,f2,f10,f11,f14,f15,eo,G9,Hu]
    exact au ⟨k+1,⟨f2,f3,f7,f8,f10,f11,f12,f13,by rw [tM];rfl,rfl,eC,rfl⟩,by omega⟩
   ·rw [Sm] at f14 tM
    rw [Bool.true_or] at tM
    refine aP.aY none_ [] (.q 0 (.q 1 (.q 2 (.q 3 (.q 4 (.q 5 (.q 6 (.q 7 (.q 8 (.q 9 (.q 10 (.q 11 (.q 12 (.q 13 .done)))))))))))))) (by kernel_rfl) (by kernel_rfl) (by kernel_rfl) ?_
    simp only [aa,bD,Nat.reduceEqDiff,f14,f15,Hu]
    exact au ⟨k+1,⟨f2,f3,f7,f8,f10,f11,f12,f13,by rw [tM];rfl,rfl,eC,rfl⟩,by omega⟩
  ·have ar:decide ((k:Int)<((c.ins.length:Nat):Int))=false:=decide_eq_false (by omega)
   rw [List.take_of_length_le (by omega)] at f14
   have jY:vH c Y.1:=by
    cases vI:c.ins.contains mX
    ·rw [Z7 vI];exact ⟨fun o h=>by simp [dS.none] at h,fun o h=>by simp [dS.none] at h⟩
    ·exact jZ vI
   have q7:h'.get t=.cells [.ag Y.1.2.outs.length (Y.1.2.outs.flatMap dg),.ag Y.1.2.verts.length (aO Y.1.2.verts),eP Y.1.2.chgs,.ag Y.1.2.deads.length (Y.1.2.deads.flatMap co)] 67 none:=Bv
   have Kg:IntKind.i64.wrap (((0:Nat):Int)+((0:Nat):Int))=0:=rfl
   have Kh:IntKind.i64.wrap ((0:Int)+((0:Nat):Int))=0:=rfl
   have akH:((6:Int)==0)=false:=rfl
   have hM:((0:Int)==0)=true:=rfl
   have oK:(c.ins.contains mX=false∧Y.2=6∧h'.get t=.cells [.ag 0 [],.ag 0 [],.ag 0 [],.ag 0 []] 67 none)∨(c.ins.contains mX=true∧Y.2=0):=by
    cases vI:c.ins.contains mX
    ·have Z8:=Z7 vI
     exact .inl ⟨rfl,by rw [Z8],by rw [q7,Z8];rfl⟩
    ·exact .inr ⟨rfl,akE vI⟩
   rcases oK with ⟨vI,ae,akI⟩ | ⟨vI,ae⟩
   all_goals
    rw [vI] at f14
    rw [ae] at f13
    first
     | simp only [aa,Nat.reduceEqDiff,Nat.reduceAdd,Nat.reduceLeDiff,reduceCtorEq,Sn,yp,H3,DH,mh,pv,ls,CG,H4,yq,DI,f7,f10,f11,f12,f13,f14,f15,ar,akH,akI,Kg,Kh]
     | simp only [aa,Nat.reduceEqDiff,reduceCtorEq,Sn,mh,f7,f10,f11,f13,f14,f15,ar]
    clear ae
    refine aP.Py (fun f=>f 2=.ag cO.length (cO.flatMap lD)∧f 3=.ptr h.n 0∧f 7=.bool true∧f 8=.ptr m1 0∧f 10=.ag c.ins.length (aO c.ins)∧f 11=.int .i64 (i:Nat)∧f 12=.ptr t 0∧f 16=.int .i64 0) ⟨f2,f3,f7,f8,f10,f11,f12,rfl⟩ ?_
    clear f2 f3 f7 f8 f10 f11 f12 f13 f14 f15 hM
    rintro f ⟨f2,f3,f7,f8,f10,f11,f12,f16⟩
    refine aP.bG (α:=Nat) (fun x f si=>f 2=.ag cO.length (cO.flatMap lD)∧f 3=.ptr h.n 0∧f 7=.bool true∧f 8=.ptr m1 0∧f 10=.ag c.ins.length (aO c.ins)∧f 11=.int .i64 (i:Nat)∧f 12=.ptr t 0∧f 16=.int .i64 (x:Nat)∧x≤Y.1.2.outs.length∧si=h') (fun x=>Y.1.2.outs.length - x) 0
     ⟨f2,f3,f7,f8,f10,f11,f12,f16,Nat.zero_le _,rfl⟩ ?_
    clear f2 f3 f7 f8 f10 f11 f12 f16
    rintro k2 f si ⟨f2,f3,f7,f8,f10,f11,f12,f16,q5,rfl⟩
    refine dw (by kernel_rfl) ?_
    by_cases uc:k2<Y.1.2.outs.length
    ·have aT:decide ((k2:Int)<((Y.1.2.outs.length:Nat):Int))=true:=decide_eq_true (by omega)
     have Z9:=kf uc (by omega)
     have xo:=oJ (P:=Tryz.prog) (kk:=.i64) zR uc H5
     obtain ⟨u,fQ,Ms,s7,cV⟩:=jY.outs _ (List.getElem_mem uc)
     generalize Y.1.2.outs[k2]=jI at xo Ms
     obtain ⟨Y4,⟨ok,fs,aui⟩⟩:=jI
     simp only at Ms
     subst Ms
     simp only [dg,aD,List.cons_append,List.nil_append] at xo
     rw [dk] at s7
     have xD:=(List.getElem?_eq_some_iff.1 s7).1
     have cg:decide ((u:Int)<0)=false:=decide_eq_false (by omega)
     have h8:decide (((l.length:Nat):Int)≤(u:Int))=false:=decide_eq_false (by omega)
     obtain ⟨rx,rv⟩:=Ki s7 (kk:=.i64)
     obtain ⟨cB,ay,⟨vJ,em,ax⟩,Kj⟩:=fQ
     have fp:al ⟨cB,ay,.mk vJ em ax,Kj⟩=[.int .i64 cB,.ag ay.length (aO ay),.int .i64 vJ,.int .i64 em,.ag ax.length (ax.flatMap aq),.int .i64 Kj]:=by simp [al,hT]
     rw [fp] at rv
     simp only [List.cons_append,List.nil_append] at rv
     rcases cV with cV | cV
     ·have hQ:(cB !=10)=false:=by simpa using cV
      simp only [aa,Nat.reduceEqDiff,Nat.reduceAdd,fL,jH,yp,Sp,d9,ls,a7,ji,yq,f3,f12,f16,aT,q7,xo,cg,h8,p4,rv,hQ,Z9]
      exact au ⟨k2+1,⟨f2,f3,f7,f8,f10,f11,f12,rfl,uc,rfl⟩,by omega⟩
     ·have hQ:(cB !=10)=true:=by have:cB=5:=cV;rw [this];rfl
      have CH:(cB !=5)=false:=by simpa using cV
      simp only [aa,Nat.reduceEqDiff,Nat.reduceAdd,fL,jH,yp,Sp,d9,ls,a7,ji,yq,f3,f12,f16,aT,q7,xo,cg,h8,p4,rv,hQ,CH,Z9]
      exact au ⟨k2+1,⟨f2,f3,f7,f8,f10,f11,f12,rfl,uc,rfl⟩,by omega⟩
    have aT:decide ((k2:Int)<((Y.1.2.outs.length:Nat):Int))=false:=decide_eq_false (by omega)
    simp only [aa,Nat.reduceEqDiff,Nat.reduceAdd,reduceCtorEq,yp,ls,yq,f7,f11,f12,f16,aT,q7]
    refine aP.Py (fun f=>f 2=.ag cO.length (cO.flatMap lD)∧f 3=.ptr h.n 0∧f 7=.bool true∧f 8=.ptr m1 0∧f 10=.ag c.ins.length (aO c.ins)∧f 11=.int .i64 (i:Nat)∧f 12=.ptr t 0∧f 18=.int .i64 0) ⟨f2,f3,f7,f8,f10,f11,f12,rfl⟩ ?_
    clear f2 f3 f7 f8 f10 f11 f12 f16
    rintro f ⟨f2,f3,f7,f8,f10,f11,f12,f18⟩
    refine aP.bG (α:=Nat) (fun x f aaa=>f 2=.ag cO.length (cO.flatMap lD)∧f 3=.ptr h.n 0∧f 7=.bool true∧f 8=.ptr m1 0∧f 10=.ag c.ins.length (aO c.ins)∧f 11=.int .i64 (i:Nat)∧f 12=.ptr t 0∧f 18=.int .i64 (x:Nat)∧x≤Y.1.2.deads.length∧aaa=si) (fun x=>Y.1.2.deads.length - x) 0
     ⟨f2,f3,f7,f8,f10,f11,f12,f18,Nat.zero_le _,rfl⟩ ?_
    clear f2 f3 f7 f8 f10 f11 f12 f18
    rintro k3 f aaa ⟨f2,f3,f7,f8,f10,f11,f12,f18,vv,rfl⟩
    refine dw (by kernel_rfl) ?_
    by_cases ig:k3<Y.1.2.deads.length
    ·have su:decide ((k3:Int)<((Y.1.2.deads.length:Nat):Int))=true:=decide_eq_true (by omega)
     have akJ:=kf ig (by omega)
     have BA:=oJ (P:=Tryz.prog) (kk:=.i64) H6 ig Y5
     obtain ⟨bZ,u,Ms,xD⟩:=jY.deads _ (List.getElem_mem ig)
     generalize Y.1.2.deads[k3]=k9 at BA Ms bZ
     obtain ⟨Qq,⟨J5,auj,zj⟩,asf⟩:=k9
     simp only at Ms bZ
     subst Ms
     rw [dk] at xD
     simp only [co,aD,List.cons_append,List.nil_append] at BA
     have cg:decide ((u:Int)<0)=false:=decide_eq_false (by omega)
     have h8:decide (((l.length:Nat):Int)≤(u:Int))=false:=decide_eq_false (by omega)
     have w7:(asf==0)=false:=by simpa using bZ
     simp only [aa,Nat.reduceEqDiff,Nat.reduceAdd,Nat.reduceLeDiff,DH,CG,DI,f12,f18,su,q7]
     refine aP.aY none_ [] (.q 0 (.q 1 (.q 2 (.q 3 (.q 4 (.q 5 (.q 6 (.q 7 (.q 8 (.q 9 (.q 10 (.q 11 (.q 12 (.q 13 (.q 14 (.q 15 (.q 16 (.q 17 (.q 18 (.q 19 (.q 20 (.q 21 (.q 22 (.q 23 (.q 24 (.q 25 (.q 26 (.q 27 .done)))))))))))))))))))))))))))) (by kernel_rfl) (by kernel_rfl) (by kernel_rfl) ?_
     simp only [aa,bD,Nat.reduceEqDiff,Nat.reduceAdd,Nat.reduceLeDiff,jH,DH,asg,ab7,d9,a7,H7,ji,DI,f3,f12,f18,q7,BA,w7,cg,h8,p4,akJ]
     exact au ⟨k3+1,⟨f2,f3,f7,f8,f10,f11,f12,rfl,ig,rfl⟩,by omega⟩
    have su:decide ((k3:Int)<((Y.1.2.deads.length:Nat):Int))=false:=decide_eq_false (by omega)
    simp only [aa,Nat.reduceEqDiff,Nat.reduceAdd,Nat.reduceLeDiff,reduceCtorEq,DH,CG,DI,f7,f11,f12,f18,su,q7,hw]
    exact au ⟨(i+1,et),⟨f2,f3,f7,f8,f10,rfl,by simp only;omega,by simp only;omega,Bx,akG,p4,akF,Sl,Pz⟩,by simp only;omega⟩
end Go.Proofs.YtedkjhifbibpmaaGreatDoor.Pk
