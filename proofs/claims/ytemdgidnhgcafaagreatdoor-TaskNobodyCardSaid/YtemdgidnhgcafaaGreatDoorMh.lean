/-
  What functions of the program do, told of abstract states. Conditions: as each theorem says.
-/
import Derived.Test.YtemdgidnhgcafaaGreatDoorMg
import Derived.Test.YtemdgidnhgcafaaGreatDoorAbD
import Derived.Shelf.SlSortCmp.WholeK
import Derived.Test.YtemdgidnhgcafaaGreatDoorProg
import Derived.Test.YtemdgidnhgcafaaGreatDoorMc
open List renaming length_cons->ave,take_succ_eq_append_getElem->avt,length_take->VV,take_length->avT,length_append->IS,length_nil->avi,length_eq_zero_iff->awq,reverse_eq_nil_iff->az4,reverse_reverse->ax8,reverse_cons->ax9,nodup_cons->av5,mem_map->MF,mem_cons->IN,pairwise_cons->avf,Pairwise->avV,map_append->avz,mem_append_left->awP,mem_filter->afP,pairwise_map->awf,map_cons->au9,sum_cons->ax2,length_map->VY,flatMap_append->avH,map_nil->avw,map_map->avU,Nodup->axb,nil_append->avG,getElem_of_mem->ayY
open Go.Proofs.Tryz renaming prog->ds,func54->aBP,func96->aBQ,func97->axY,func123->aBR,func131->ay0,func132->axX,func160->ay1,func161->ay2,underlying0->ay3,isAgg0->ay4,sizeOf0->ay5,zeroValue0->ay6,underlying3->axu,isAgg3->ay7,sizeOf3->ay8,zeroValue3->ay9,underlying4->aza,isAgg4->azb,sizeOf4->azc,zeroValue4->azd,underlying5->aze,isAgg5->azf,sizeOf5->azg,zeroValue5->azh,underlying9->azi,isAgg9->azj,sizeOf9->azk,zeroValue9->azl,underlying189->azm,isAgg189->azn,sizeOf189->azo,zeroValue189->azp,underlying228->azC,isAgg228->azD,sizeOf228->azE,zeroValue228->azF,underlying229->azG,isAgg229->azH,sizeOf229->azI,zeroValue229->azJ,underlying233->azy,isAgg233->azz,sizeOf233->azA,zeroValue233->azB,underlying236->azq,isAgg236->azr,sizeOf236->azs,zeroValue236->azt,underlying131->azu,isAgg131->azv,sizeOf131->azw,zeroValue131->azx,underlying270->azK,isAgg270->azL,sizeOf270->azM,zeroValue270->azN,underlying274->azO,isAgg274->azP,sizeOf274->azQ,zeroValue274->azR,underlying310->azS,isAgg310->azT,sizeOf310->azU,zeroValue310->azV,underlying82->azW,isAgg82->azX,sizeOf82->azY,zeroValue82->azZ,func57->aBS,func99->aBT,func133->aBU,results56->az6,func55->aBV,func58->aBW,func78->az7,results78->az8,func79->az9,results79->aAa,results76->aBY,results47->aBZ
open Nat renaming mul_one->VU,reduceEqDiff->vt,reduceAdd->AS,reduceLeDiff->By,zero_le->Dc,le_refl->BY,zero_add->avm,lt_of_lt_of_le->MC,lt_succ_self->awc
open Int renaming reduceNeg->MD
open Bool renaming eq_iff_iff->avv
set_option linter.unusedVariables false
set_option linter.unusedSimpArgs false
set_option maxHeartbeats 4000000
set_option maxRecDepth 20000
namespace Go.Proofs.YtemdgidnhgcafaaGreatDoor.Pk
open Go Go.Proofs Go.Proofs.YtemdgidnhgcafaaGreatDoor.Ab Go.Proofs.Vw
theorem arQ (logs:Int→List dM) (l:List (bC×Nat)) (p:bC×Nat):pK logs (l++[p])=iD (pK logs l) p.1:=by unfold pK;rw [List.foldl_append];rfl
theorem OV (n:Int):∀ (l:List (bC×Nat)) (logs:Int→List dM) (N:Nat),(logs n).length≤N→(pK logs l n).length≤N+l.length
 | [],logs,N,h=>h
 | p::l,logs,N,h=>by
  have h1:(iD logs p.1 n).length≤N+1:=by
   unfold iD;split
   ·rename_i U;subst U;simp;omega
   ·omega
  have:=OV n l (iD logs p.1) (N+1) h1;show (pK (iD logs p.1) l n).length≤_;rw [ave];omega
theorem Vf {h:I} {s:V} {l:List Int} (o:Own h 3 1 s (ar l)) (r:List Int) (aw:l.length≤2 ^ 40) (aL:r.length≤2 ^ 40) :
  ∃ cJ h',kO ds 46 46 s (.ah r.length (ar r)) h=some (cJ,h')∧Own h' 3 1 cJ (ar (l++r))∧J h h' (a6 s)∧dm h s cJ:=by
 obtain ⟨cJ,h',fh,hq,my,gW⟩:=vI (P:=ds) (t:=46) (tx:=46) oU (by decide) o (Ia gy (by rw [gi,VU]) (It r)) (by rw [gi];exact (VU _).symm) (fun m hm=>by
  change m * 1=_ at hm;rw [gi,gi] at hm;exact ⟨by simp only [lim];omega,by simp only [lim];omega⟩)
 exact ⟨cJ,h',fh,by rw [RO];exact hq,my,gW⟩
theorem arR {aK h:I} {lm b3 lc dJ:Nat} {logs:Int→List dM} {tasks:Int→Option jW} {L T:jV} {ow:gd} (x:bC) (at_:Nat) (w:jh aK h lm b3 logs tasks L lc T dJ ow) {t:Int} {b:Nat} {j:jW} (al:bZ T t=some b) (aV:tasks t=some j) (ca:j.opn.length≤2 ^ 30) (adD:∀ n,(logs n).length≤2 ^ 30) (adC:-2 ^ 62≤j.tx∧j.tx<2 ^ 62) (k5:x.kind=3) (aus:x.offs.length≤8) (iH:x.order.length≤2 ^ 30) (pw:j.ord.length≤2 ^ 40) (he:x.de=j.ep) (aj:x.iu=j.tx) :
  af ds 53 [.agg [.map lm,.map b3],.ptr b 0,.agg (bh x),.int .i64 (at_:Nat)] h (fun r h'=>r=.tuple []∧∃ jw yF ow',jh aK h' lm b3 (qR logs j x) (fun n=>if n=t then some (nA j x at_) else tasks n) jw yF T dJ ow'∧J h h' (fun q=>q=lm∨∃ bl,ow q=some bl)∧(∀ q bl,ow' q=some bl→ow q=some bl∨h.n≤q)):=by
 refine af.au (c:=_) Tryz.func53 rfl (by kernel_rfl) (by simp) ?_
 obtain ⟨eQ,dx⟩:∃ y,y=h.push (.cells [.map lm,.map b3] 74 none):=⟨_,rfl⟩;have CR:J h eQ none_:=by rw [dx];exact J.push _ _ _
 have zV:eQ.n=h.n+1:=by rw [dx];rfl
 have LI:eQ.get h.n=.cells [.map lm,.map b3] 74 none:=by rw [dx];exact ck
 obtain ⟨H,hH⟩:∃ y,y=eQ.push (.cells (bh x) 48 none):=⟨_,rfl⟩;have tu:J eQ H none_:=by rw [hH];exact J.push _ _ _
 have bw:=CR.trans' tu;have iR:H.get (h.n+1)=.cells (bh x) 48 none:=by rw [←zV,hH];exact ck
 have uc:=(tu.get h.n (by omega) (by simp [none_])).trans LI
 have ju:H.n=h.n+2:=by rw [hH,dq];omega
 have mD:=w.on bw;have ay:(V.agg [.map lm,.map b3]).cells=some [.map lm,.map b3]:=rfl;have pd:(V.agg (bh x)).cells=some (bh x):=rfl;obtain ⟨jc,h1,mo,h0,jg,g,av,gT,dZ,t0,t1,t2⟩:=mD.jY t b al;rw [aV] at h1;injection h1 with h1;subst h1;have bb:(x.de !=j.ep)=false:=by simpa using he
 have bt:(x.iu !=j.tx)=false:=by simpa using aj
 have c3:(x.kind==2)=false:=by rw [k5];rfl
 have eP:(x.kind==3)=true:=by rw [k5];rfl
 have adE:dS ds 123 jg H=some (.int .i64 (j.opn.length:Nat)):=by
  have bR:(j.opn.flatMap gl).length=j.opn.length * 12:=gM Lz _;rcases dZ with ⟨rfl | rfl,kt⟩ | ⟨i0,len,cap,mm,ex,rfl,_,_,Ao,_,_⟩
  ·rw [kt] at bR;have:j.opn.length=0:=by simp at bR;omega
   rw [this];exact xC Jl
  ·rw [kt] at bR;have:j.opn.length=0:=by simp at bR;omega
   rw [this];exact y1 Jl
  ·rw [bR] at Ao;obtain rfl:len=j.opn.length:=by omega
   exact y0 Jl
 have jF:∀ q,h.n≤q→∀ bl,ow q≠some bl:=fun q ab bl U=>by have:=(w.bx _ _ U).2;omega
 simp only [ae,vt,ay,pd];rw [←dx,←hH];clear dx hH;refine aZ.bB none_ [] (.q 0 (.q 1 (.q 2 (.q 3 (.q 4 (.q 5 (.q 6 (.q 7 (.q 8 (.q 9 (.q 10 (.q 11 (.q 12 (.q 13 (.q 14 (.q 15 (.q 16 (.q 17 .done)))))))))))))))))) (by kernel_rfl) (by kernel_rfl) (by kernel_rfl) ?_
 simp only [ae,bM,vt,AS,By,y9,GC,wZ,B5,GG,B6,GI,SQ,aW,iR,g,bh,bb,bt,c3,eP,adE];refine aZ.bQ (α:=Nat×(jV×Nat×gd)) (fun y f h'=>f 1=.ptr b 0∧f 4=.ptr h.n 0∧f 6=.ptr (h.n+1) 0∧f 49=jg∧f 50=.int .i64 (j.opn.length:Nat)∧f 51=.int .i64 (y.1:Nat)∧y.1≤j.opn.length ∧
   jh aK h' lm b3 (pK logs (j.opn.take y.1)) tasks y.2.1 y.2.2.1 T dJ y.2.2.2∧(∀ q bl,ow q=some bl→y.2.2.2 q=some bl)∧(∀ q bl,y.2.2.2 q=some bl→ow q=some bl∨H.n≤q) ∧
   Own h' 186 12 jg (j.opn.flatMap gl)∧Own h' 3 1 h0 (ar j.ord)∧h'.get b=.cells [.int .i64 t,.int .i64 j.ep,.int .i64 j.tx,mo,h0,.int .i64 0,jg] 125 none∧h'.get h.n=.cells [.map lm,.map b3] 74 none∧h'.get (h.n+1)=.cells (bh x) 48 none∧H.n≤h'.n∧J H h' (fun q=>q=lm∨∃ bl,ow q=some bl))
   (fun y=>j.opn.length - y.1) (0,L,lc,ow)
  ⟨rfl,rfl,rfl,rfl,rfl,rfl,Dc _,mD,fun _ _ U=>U,fun _ _ U=>.inl U,dZ,gT,g,uc,iR,BY _,J.refl _ _⟩ ?_
 rintro ⟨i,arS,adF,fc⟩ f h1 ⟨f1,f4,f6,f49,f50,f51,hi,cV,iL,wg,op,hZ,qk,gs,ge,wA,QM⟩
 simp only at f51 hi cV iL wg;refine ee (by kernel_rfl) ?_
 by_cases aM:i<j.opn.length
 ·have d1:decide ((i:Int)<((j.opn.length:Nat):Int))=true:=decide_eq_true (by omega)
  have oL:IntKind.i64.wrap (((i:Nat):Int)+1)=((i+1:Nat):Int):=by rw [Go.IntWalk.i64_in _ (by omega)];omega
  obtain ⟨arT,arU,jy,_,Hm⟩:=arP (kk:=.i64) Lz (by decide) S2 op aM
  rw [Gr,S2] at jy;rw [avm] at jy Hm;have jy:qo (some 12) none jg (i:Int)=some (.ptr arT (i * 12)):=jy;have fr:j.opn.take (i+1)=j.opn.take i++[j.opn[i]]:=avt aM;generalize j.opn[i]=P at *;obtain ⟨qd,pat⟩:=P;have kg:cO (some (some 12)) (some (gl (qd,pat)++arU))=some (.agg (gl (qd,pat))):=lz (Lz _);have adG:(V.agg (gl (qd,pat))).cells=some (gl (qd,pat)):=rfl;have adH:bF (some 12) (aO.cells [V.int .i64 0,.int .i64 0,.int .i64 0,.int .i64 0,.int .i64 0,.int .i64 0,.int .i64 0,.int .i64 0,.bool false,.ag,.ag,.int .i64 0] 186 none) 0 (gl (qd,pat))=some (.cells (gl (qd,pat)) 186 none):=rfl;obtain ⟨bK,bs⟩:∃ y,y=h1.push (.cells (gl (qd,pat)) 186 none):=⟨_,rfl⟩;have ba:J h1 bK none_:=by rw [bs];exact J.push _ _ _
  have dy:bK.n=h1.n+1:=by rw [bs];rfl
  have Bd:bK.get h1.n=.cells (gl (qd,pat)) 186 none:=by rw [bs];exact ck
  have arV:cP (aO.cells (gl (qd,pat)) 186 none) 0=some (bh qd++[.int .i64 (pat:Nat)]):=rfl;have Vb:cO (some (some 11)) (some (bh qd++[V.int .i64 (pat:Nat)]))=some (.agg (bh qd)):=lz (EE qd);have u4:=(ba.get h.n (by omega) (by simp [none_])).trans gs
  have EJ:(pK logs (j.opn.take i) qd.log).length≤2 ^ 40:=by
   have h1:=OV qd.log (j.opn.take i) logs (2 ^ 30) (adD _);rw [VV] at h1;omega
  simp only [ae,vt,alr,amS,DW,S2,Y6,anx,f4,f49,f50,f51,d1,jy,Hm,kg,adG,adH];rw [←bs];clear bs;simp only [ae,vt,AS,amE,DV,u4,Bd,arV,Vb];refine cB Yi (LH qd (cV.on ba) EJ) fun r aD ⟨ia,LL,CV,ib,j7,Lr,b2,pR⟩=>?_;subst ia;have tag:∀ q,(q=lm∨∃ k i,fc q=some (0,k,i))→∀ u i,ow q≠some (1,u,i):=fun q ab u i U=>by
   rcases ab with ab | ⟨k,i2,ab⟩
   ·rw [ab,w.hb] at U;simp at U
   ·rw [iL _ _ U] at ab;simp at ab
  have zZ:=(ba.up).trans' b2;have aut:=b2.n;have nfree:∀ q,h.n≤q→q<H.n→¬(q=lm∨∃ k i,fc q=some (0,k,i)):=fun q h1 ad ab=>by
   rcases ab with ab | ⟨k,i2,ab⟩
   ·have:=(w.bx _ _ w.hb).2;omega
   ·rcases wg q _ ab with U | U
    ·exact jF q h1 _ U
    ·omega
  have auu:=(mD.bx _ _ t0).2;simp only [ae,vt,f51,oL];exact ax ⟨(i+1,LL,CV,ib),⟨f1,f4,f6,f49,f50,rfl,aM,by simp only [fr,arQ];exact j7,fun q bl ab=>Lr _ _ (iL _ _ ab),fun q bl ab=>by
   rcases pR q bl ab with U | U
   ·exact wg q bl U
   ·exact .inr (by omega),op.ai zZ (fun q ab U=>tag q U _ _ (t2 q ab)),hZ.ai zZ (fun q ab U=>tag q U _ _ (t1 q ab)),(zZ.get b (by omega) (fun U=>tag b U _ _ t0)).trans qk,(zZ.get h.n (by omega) (nfree _ (by omega) (by omega))).trans gs,(zZ.get (h.n+1) (by omega) (nfree _ (by omega) (by omega))).trans ge,by omega,QM.trans zZ fun q ab U=>by
   rcases U with U | ⟨k,i2,U⟩
   ·exact .inl U
   ·rcases wg q _ U with U | U
    ·exact .inr ⟨_,U⟩
    ·omega⟩,by simp only;omega⟩
 ·obtain rfl:i=j.opn.length:=by omega
  have d1:decide (((j.opn.length:Nat):Int)<((j.opn.length:Nat):Int))=false:=decide_eq_false (by omega)
  rw [avT] at cV;have FP:=iL _ _ t0;have QN:∀ q,a8 h0=some q→fc q=some (1,t,1):=fun q ab=>iL _ _ (t1 q ab);have uk:=(cV.bx _ _ FP).2;have FQ:¬a6 h0 b:=fun U=>by have:=t1 b U;rw [t0] at this;simp at this
  have QO:¬a6 h0 (h.n+1):=fun U=>jF (h.n+1) (by omega) _ (t1 _ U)
  have HB:h.n+1≠b:=fun U=>jF (h.n+1) (by omega) _ (by rw [U];exact t0)
  obtain ⟨ad,eR⟩:∃ y,y=h1.set b (.cells [.int .i64 t,.int .i64 j.ep,.int .i64 j.tx,.ah x.offs.length (ar x.offs),h0,.int .i64 0,jg] 125 none):=⟨_,rfl⟩;have ba:J h1 ad (·=b):=by rw [eR];exact J.set _ _ _
  have dy:ad.n=h1.n:=by rw [eR];rfl
  have zX:ad.get b=.cells [.int .i64 t,.int .i64 j.ep,.int .i64 j.tx,.ah x.offs.length (ar x.offs),h0,.int .i64 0,jg] 125 none:=by rw [eR];exact aT
  have QP:=(ba.get (h.n+1) (by omega) HB).trans ge
  have LK:=hZ.ai ba fun q ab U=>FQ (by rw [←U];exact ab)
  obtain ⟨vi,aD,fh,FR,b2,EB⟩:=Vf LK x.order pw (by omega)
  have n3:=b2.n;have FN:=(b2.get b (by omega) FQ).trans zX
  have QQ:=(b2.get (h.n+1) (by omega) QO).trans QP
  have one:vi.one=true:=by rcases FR with ⟨rfl | rfl,_⟩ | ⟨_,_,_,_,_,rfl,_⟩<;>rfl
  have cell:vi.cells=some [vi]:=by rcases FR with ⟨rfl | rfl,_⟩ | ⟨_,_,_,_,_,rfl,_⟩<;>rfl
  have LM:bF (some 1) (aO.cells [V.int .i64 t,.int .i64 j.ep,.int .i64 j.tx,mo,h0,.int .i64 0,jg] 125 none) 3 [.ah x.offs.length (ar x.offs)]=some (.cells [.int .i64 t,.int .i64 j.ep,.int .i64 j.tx,.ah x.offs.length (ar x.offs),h0,.int .i64 0,jg] 125 none):=rfl;have CI:bF (some 1) (aO.cells [V.int .i64 t,.int .i64 j.ep,.int .i64 j.tx,.ah x.offs.length (ar x.offs),h0,.int .i64 0,jg] 125 none) 4 [vi]=some (.cells [.int .i64 t,.int .i64 j.ep,.int .i64 j.tx,.ah x.offs.length (ar x.offs),vi,.int .i64 0,jg] 125 none):=by rw [rU one];rfl
  have adI:a6 h0 b=False:=eq_false FQ;have adJ:a6 h0 (h.n+1)=False:=eq_false QO;have adK:IntKind.i64.wrap (j.tx+1)=j.tx+1:=Go.IntWalk.i64_in _ (by omega)
  have d9:cP (aO.cells (bh x) 48 none) 9=some [.ah x.offs.length (ar x.offs),.ah x.order.length (ar x.order)]:=rfl;have d10:cP (aO.cells (bh x) 48 none) 10=some [.ah x.order.length (ar x.order)]:=rfl;have kv:J ad aD (fun q=>a6 h0 q):=b2;have CU:∀ q,a8 vi=some q→q≠b∧(a8 h0=some q∨h1.n≤q):=fun q ab=>by
   rcases EB with e | e
   ·exact ⟨fun U=>FQ (by rw [←U,a6,←e];exact ab),.inl (by rw [←e];exact ab)⟩
   ·have:=e q ab;exact ⟨by omega,.inr (by omega)⟩
  have cY:∀ o,J aD (aD.set b o) (·=b):=fun o=>J.set _ _ _;have u0:∀ o,J h1 (aD.set b o) (fun q=>∃ i,fc q=some (1,t,i)):=fun o=>((ba.mono (o':=fun q=>∃ i,fc q=some (1,t,i)) fun q U=>⟨0,by rw [U];exact FP⟩).trans b2 fun q ab U=>⟨1,QN q U⟩).trans (cY o) fun q ab U=>⟨0,by rw [U];exact FP⟩
  obtain ⟨ow',how⟩:∃ f:gd,f=fun q=>if q<h1.n then fc q else if a8 vi=some q then some (1,t,1) else fc q:=⟨_,rfl⟩
  have dw:∀ q bl,fc q=some bl→ow' q=some bl:=fun q bl ab=>by rw [how];simp only;rw [if_pos (cV.bx _ _ ab).2];exact ab
  have aC:qR logs j x=pK logs j.opn:=by unfold qR;rw [if_neg (by omega),if_pos k5]
  have bd:nA j x at_=⟨j.ep,j.tx+1,x.offs,j.ord++x.order,[]⟩:=by unfold nA;rw [if_neg (by omega),if_neg (by omega),if_pos k5]
  simp only [ae,vt,Ji,hz,f1,f6,f50,f51,d1,ge,d9];refine bW Sy (Ve x.offs (by omega) h1) ?_
  simp only [ae,vt,y9,NP,Cc,qk,LM];rw [←eR];clear eR;refine aZ.bB (fun q=>a6 h0 q) [8,12] (.q 0 (.q 1 (.q 2 (.q 3 (.q 4 (.q 5 (.q 6 (.q 7 (.e 8 (.q 9 (.q 10 (.q 11 (.a 12 .done)))) .stop))))))))) (by kernel_rfl) (by kernel_rfl) (by kernel_rfl) ?_
  simp only [ae,bM,eH,vt,AS,By,y9,GC,NO,GI,SJ,aW,hz,N1,oo,Cc,f1,f6,zX,QP,d10,fh,FN,cell,CI,adI,adJ,kv,adK,kQ,Tryz.results53,hK];have hold:∀ q bl,ow' q=some bl→fc q=some bl∨(h1.n≤q∧q<aD.n):=fun q bl ab=>by
   rw [how] at ab;simp only at ab;split at ab
   ·exact .inl ab
   ·split at ab
    ·rename_i ad;exact .inr ⟨by omega,FR.lt _ ad⟩
    ·exact .inl ab
  have arW:∀ q,a8 vi=some q→ow' q=some (1,t,1):=fun q ab=>by
   rcases (CU q ab).2 with h1 | h1
   ·exact dw _ _ (QN q h1)
   ·rw [how];simp only;rw [if_neg (by omega),if_pos ab]
  refine ax ⟨rfl,arS,adF,ow',?_,(bw.up).trans (QM.trans (u0 _) fun q ab ⟨i,U⟩=>?_) fun q ab U=>U,fun q bl ab=>?_⟩;rotate_left
  ·rcases wg q _ U with U | U
   ·exact .inr ⟨_,U⟩
   ·omega
  ·rcases hold q bl ab with U | U
   ·rcases wg q _ U with U | U
    ·exact .inl U
    ·exact .inr (by omega)
   ·exact .inr (by omega)
  rw [aC,bd];exact cV.vd al (u0 _) (fun q U=>U) dw hold ⟨_,vi,.ag,aT,.inr rfl,FR.ai (cY _) (fun q ab=>(CU q ab).1),Own.ag _ _ _,dw _ _ FP,arW,fun q ab=>by simp [a8] at ab⟩
structure n1 where
 logs:Int→List dM
 tasks:Int→Option jW
def LN:n1:=⟨fun _=>[],fun _=>none⟩
def cn (s:n1) (t:Int):jW:=(s.tasks t).getD wQ
def mE (s:n1) (x:bC) (i:Nat):n1 :=
 if ko x=false then s
 else if x.kind=1 then { s with logs:=iD s.logs x }
 else if x.kind=5 then { s with tasks:=fun n=>if n=x.task then some (lS (cn s x.task) x.de) else s.tasks n }
 else if x.kind=6 then s
 else ⟨qR s.logs (cn s x.task) x,fun n=>if n=x.task then some (nA (cn s x.task) x i) else s.tasks n⟩
def ud:n1→Nat→List bC→n1
 | s,_,[]=>s
 | s,i,x::r=>ud (mE s x i) (i+1) r
theorem adL:∀ (a b:List bC) (s:n1) (i:Nat),ud s i (a++b)=ud (ud s i a) (i+a.length) b
 | [],b,s,i=>rfl
 | x::a,b,s,i=>by
  rw [List.cons_append,ud,ud,adL a b,ave,show i+1+a.length=i+(a.length+1) by omega]
def ik (l:List bC):n1:=ud LN 0 l
theorem Hn (l:List bC) (x:bC):ik (l++[x])=mE (ik l) x l.length:=by
 unfold ik;rw [adL,avm];rfl
structure CW (N:Nat) (s:n1):Prop where
 sD:∀ n,(s.logs n).length≤N * N
 op:∀ t j,s.tasks t=some j→j.opn.length≤N
 tx:∀ t j,s.tasks t=some j→0≤j.tx∧j.tx≤N
 ord:∀ t j,s.tasks t=some j→j.ord.length≤256 * N
theorem adM {N:Nat} {s:n1} (b:CW N s) (t:Int):(cn s t).opn.length≤N∧(0≤(cn s t).tx∧(cn s t).tx≤N)∧(cn s t).ord.length≤256 * N:=by
 unfold cn;cases h:s.tasks t with
 | none=>exact ⟨Dc _,⟨Int.le_refl _,by show (0:Int)≤N;omega⟩,Dc _⟩
 | some j=>exact ⟨b.op t j h,b.tx t j h,b.ord t j h⟩
theorem arX {N:Nat} {s:n1} (b:CW N s) (x:bC) (i:Nat):CW (N+1) (mE s x i):=by
 have tS:(N+1) * (N+1)=N * N+(N+N)+1:=by rw [Nat.add_mul,Nat.mul_add];omega
 obtain ⟨auT,jc,auU⟩:=adM b x.task;have same:CW (N+1) s:=⟨fun n=>by have:=b.sD n;omega,fun t j h=>by have:=b.op t j h;omega,fun t j h=>by have:=b.tx t j h;omega,fun t j h=>by have:=b.ord t j h;omega⟩
 unfold mE;split
 ·exact same
 rename_i hm;split
 ·refine ⟨fun n=>?_,same.op,same.tx,same.ord⟩;show (iD s.logs x n).length≤_;unfold iD;split
  ·rw [IS];have:=b.sD x.log;simp;omega
  ·exact same.sD n
 split
 ·refine ⟨same.sD,fun t j h=>?_,fun t j h=>?_,fun t j h=>?_⟩<;>simp only at h<;>split at h
  ·injection h with h;subst h;unfold lS;split
   ·exact Dc _
   ·omega
  ·exact same.op t j h
  ·injection h with h;subst h;unfold lS;split
   ·exact ⟨by show (0:Int)≤(cn s x.task).tx;omega,by show (cn s x.task).tx≤_;omega⟩
   ·omega
  ·exact same.tx t j h
  ·injection h with h;subst h;unfold lS;split
   ·show (cn s x.task).ord.length≤_;omega
   ·omega
  ·exact same.ord t j h
 split
 ·exact same
 have gF:ko x=true:=by simpa using hm
 have aN:=((EG x).1 gF).2.2.2.2.2.2.2.2.1;refine ⟨fun n=>?_,fun t j h=>?_,fun t j h=>?_,fun t j h=>?_⟩
 ·show (qR s.logs _ x n).length≤_;unfold qR;split
  ·exact same.sD n
  split
  ·have:=OV n (cn s x.task).opn s.logs (N * N) (b.sD n);omega
  ·exact same.sD n
 all_goals
  simp only at h;split at h
 ·injection h with h;subst h;unfold nA;split
  ·omega
  split
  ·simp only [IS,ave,avi];omega
  split<;>exact Dc _
 ·exact same.op t j h
 ·injection h with h;subst h;unfold nA;split
  ·omega
  split
  ·simp only;omega
  split<;>simp only<;>omega
 ·exact same.tx t j h
 ·injection h with h;subst h;unfold nA;split
  ·omega
  split
  ·simp only;omega
  split
  ·simp only [IS];omega
  ·simp only;omega
 ·exact same.ord t j h
theorem Vg:∀ (n:Nat) (l:List bC),l.length=n→CW n (ik l)
 | 0,l,h=>by
  rw [awq.1 h];exact ⟨fun _=>Dc _,(by intro t j h;cases h),(by intro t j h;cases h),(by intro t j h;cases h)⟩
 | n+1,l,h=>by
  obtain ⟨a,x,rfl⟩:∃ a x,l=a++[x]:=by
   cases aw:l.reverse with
   | nil=>rw [az4] at aw;rw [aw] at h;simp at h
   | cons x a=>exact ⟨a.reverse,x,by rw [←ax8 l,aw,ax9]⟩
  rw [Hn];exact arX (Vg n a (by rw [IS] at h;simp at h;exact h)) x _
def b6 (p:Int×List dM):List V:=[.int .i64 p.1,.ah p.2.length (eF p.2),.ah p.2.length (fD p.2)]
def ue (t:Int) (j:jW):List V:=[.int .i64 t,.int .i64 j.ep,.int .i64 j.tx,.ah j.offs.length (ar j.offs),.ah j.ord.length (ar j.ord),.int .i64 0,.ah j.opn.length (pJ j.opn)]
theorem Ho (p:Int×List dM):(b6 p).length=3:=rfl
theorem Hp (rs:List dM):(fD rs).length=rs.length * 1:=by simp [fD]
theorem arY (l:List (bC×Nat)):(pJ l).length=l.length * 12:=gM Lz l
theorem QR {v v2:V} {h ad:I} (a:aA v h v2 ad):aq [v] h [v2] ad:=aq.cons a (aq.refl [] ad)
theorem arZ {h:I} {ow:gd} {b:Nat} {k:Int} {rs:List dM} (a:n0 h ow b k rs) (hold:∀ q bl,ow q=some bl→q<h.n) :
  ∃ h',(∀ r,aA r h r h')∧J h h' (fun q=>∃ i,ow q=some (0,k,i))∧h'.get b=.cells (b6 (k,rs)) 90 none:=by
 obtain ⟨rv,dv,g,gT,dZ,t0,t1,t2⟩:=a;obtain ⟨h1,bb,bJ⟩:=aA.own (cs:=eF rs) gT (n:=rs.length) (i5 rs) (by decide)
 have yu:=dZ.ai bJ fun j aV U=>by have a:=t1 j U;have b:=t2 j aV;rw [a] at b;simp at b
 obtain ⟨ad,bt,ba⟩:=aA.own (cs:=fD rs) yu (n:=rs.length) (Hp rs) (by decide)
 have al:=hold _ _ t0;have ve:¬a6 rv b:=fun U=>by have:=t1 b U;rw [t0] at this;simp at this
 have sC:¬a6 dv b:=fun U=>by have:=t2 b U;rw [t0] at this;simp at this
 have g2:ad.get b=_:=(ba.get b (by have:=bJ.n;omega) sC).trans ((bJ.get b al ve).trans g)
 have cI:aq [.int .i64 k,rv,dv] h [.int .i64 k,.ah rs.length (eF rs),.ah rs.length (fD rs)] ad:=aq.cons (aA.refl _ _) (aq.cons bb (QR bt));refine ⟨ad.set b (.cells (b6 (k,rs)) 90 none),fun r=>aA.uG g cI g2 rfl r,?_,aT⟩;exact ((bJ.mono (o':=fun q=>∃ i,ow q=some (0,k,i)) fun q U=>⟨1,t1 q U⟩).trans ba fun q ab U=>⟨2,t2 q U⟩).trans (J.set _ _ _) fun q ab U=>⟨0,by rw [U];exact t0⟩
theorem ar0 {h:I} {ow:gd} {b:Nat} {t:Int} {j:jW} (a:lR h ow b t j) (hold:∀ q bl,ow q=some bl→q<h.n) :
  ∃ h',(∀ r,aA r h r h')∧J h h' (fun q=>∃ i,ow q=some (1,t,i))∧h'.get b=.cells (ue t j) 125 none:=by
 obtain ⟨mo,h0,jg,g,av,gT,dZ,t0,t1,t2⟩:=a;obtain ⟨h1,bb,bJ⟩:=aA.own gT (n:=j.ord.length) (by rw [gi,VU]) (by decide)
 have yu:=dZ.ai bJ fun q aV U=>by have a:=t1 q U;have b:=t2 q aV;rw [a] at b;simp at b
 obtain ⟨ad,bt,ba⟩:=aA.own (cs:=pJ j.opn) yu (n:=j.opn.length) (arY j.opn) (by decide)
 have al:=hold _ _ t0;have ve:¬a6 h0 b:=fun U=>by have:=t1 b U;rw [t0] at this;simp at this
 have sC:¬a6 jg b:=fun U=>by have:=t2 b U;rw [t0] at this;simp at this
 have g2:ad.get b=_:=(ba.get b (by have:=bJ.n;omega) sC).trans ((bJ.get b al ve).trans g)
 have cf:aA mo h (.ah j.offs.length (ar j.offs)) h:=by
  rcases av with ⟨rfl,e⟩ | rfl
  ·rw [e];exact aA.hL h
  ·exact aA.refl _ h
 have cI:aq [.int .i64 t,.int .i64 j.ep,.int .i64 j.tx,mo,h0, .int .i64 0,jg] h [.int .i64 t,.int .i64 j.ep,.int .i64 j.tx,.ah j.offs.length (ar j.offs),.ah j.ord.length (ar j.ord),.int .i64 0,.ah j.opn.length (pJ j.opn)] ad:=aq.cons (aA.refl _ _) (aq.cons (aA.refl _ _) (aq.cons (aA.refl _ _) (aq.cons cf (aq.cons bb (aq.cons (aA.refl _ _) (QR bt))))));refine ⟨ad.set b (.cells (ue t j) 125 none),fun r=>aA.uG g cI g2 rfl r,?_,aT⟩;exact ((bJ.mono (o':=fun q=>∃ i,ow q=some (1,t,i)) fun q U=>⟨1,t1 q U⟩).trans ba fun q ab U=>⟨2,t2 q U⟩).trans (J.set _ _ _) fun q ab U=>⟨0,by rw [U];exact t0⟩
theorem adN {ow:gd} {logs:Int→List dM}:∀ (aQ:jV) (h:I),dt aQ→(∀ e ∈ aQ,n0 h ow e.2.2 e.2.1 (logs e.2.1))→(∀ q bl,ow q=some bl→q<h.n) →
  ∃ h',(∀ r,aA r h r h')∧J h h' (fun q=>∃ e ∈ aQ,∃ i,ow q=some (0,e.2.1,i))∧∀ e ∈ aQ,h'.get e.2.2=.cells (b6 (e.2.1,logs e.2.1)) 90 none
 | [],h,_,_,_=>⟨h,fun r=>aA.refl r h,J.refl _ _,by simp⟩
 | e::aQ,h,aG,aP,aN=>by
  have mL:=av5.1 aG;have bI:∀ x ∈ aQ,x.2.1≠e.2.1:=fun x aj U=>mL.1 (MF.2 ⟨x,aj,U⟩);have LO:=aP e (by simp)
  have t0:=LO;obtain ⟨_,_,_,_,_,t0,_⟩:=t0;obtain ⟨h1,bb,bJ,g1⟩:=arZ LO aN;have l4:∀ q bl,ow q=some bl→q<h1.n:=fun q bl ab=>MC (aN q bl ab) bJ.n;obtain ⟨ad,bt,ba,g2⟩:=adN aQ h1 mL.2 (fun x aj=>(aP x (by simp [aj])).on bJ (fun q ⟨i,U⟩ i2 he=>by rw [U] at he;simp at he;exact bI x aj he.1.symm) (fun _ _ U=>U) aN) l4
  refine ⟨ad,fun r=>(bb r).trans (bt r),(bJ.mono (o':=fun q=>∃ x ∈ e::aQ,∃ i,ow q=some (0,x.2.1,i)) fun q ⟨i,U⟩=>⟨e,by simp,i,U⟩).trans ba fun q ab ⟨x,aj,i,U⟩=>⟨x,by simp [aj],i,U⟩,fun x aj=>?_⟩
  rcases IN.1 aj with rfl | aj
  ·rw [ba.get _ (l4 _ _ t0) (fun ⟨y,bp,i,U⟩=>by rw [t0] at U;simp at U;exact bI y bp U.1.symm)]
   exact g1
  ·exact g2 x aj
theorem adO {ow:gd} {jobs:Int→jW}:∀ (aQ:jV) (h:I),dt aQ→(∀ e ∈ aQ,lR h ow e.2.2 e.2.1 (jobs e.2.1))→(∀ q bl,ow q=some bl→q<h.n) →
  ∃ h',(∀ r,aA r h r h')∧J h h' (fun q=>∃ e ∈ aQ,∃ i,ow q=some (1,e.2.1,i))∧∀ e ∈ aQ,h'.get e.2.2=.cells (ue e.2.1 (jobs e.2.1)) 125 none
 | [],h,_,_,_=>⟨h,fun r=>aA.refl r h,J.refl _ _,by simp⟩
 | e::aQ,h,aG,aP,aN=>by
  have mL:=av5.1 aG;have bI:∀ x ∈ aQ,x.2.1≠e.2.1:=fun x aj U=>mL.1 (MF.2 ⟨x,aj,U⟩);have LO:=aP e (by simp)
  have t0:=LO;obtain ⟨_,_,_,_,_,_,_,t0,_⟩:=t0;obtain ⟨h1,bb,bJ,g1⟩:=ar0 LO aN;have l4:∀ q bl,ow q=some bl→q<h1.n:=fun q bl ab=>MC (aN q bl ab) bJ.n;obtain ⟨ad,bt,ba,g2⟩:=adO aQ h1 mL.2 (fun x aj=>(aP x (by simp [aj])).on bJ (fun q ⟨i,U⟩ i2 he=>by rw [U] at he;simp at he;exact bI x aj he.1.symm) (fun _ _ U=>U) aN) l4
  refine ⟨ad,fun r=>(bb r).trans (bt r),(bJ.mono (o':=fun q=>∃ x ∈ e::aQ,∃ i,ow q=some (1,x.2.1,i)) fun q ⟨i,U⟩=>⟨e,by simp,i,U⟩).trans ba fun q ab ⟨x,aj,i,U⟩=>⟨x,by simp [aj],i,U⟩,fun x aj=>?_⟩
  rcases IN.1 aj with rfl | aj
  ·rw [ba.get _ (l4 _ _ t0) (fun ⟨y,bp,i,U⟩=>by rw [t0] at U;simp at U;exact bI y bp U.1.symm)]
   exact g1
  ·exact g2 x aj
structure wh (aK h:I) (lm b3:Nat) (s:n1) (L:jV) (lc:Nat) (T:jV) (dJ:Nat):Prop where
 ai:J aK h none_
 CX:lm<h.n
 CY:b3<h.n
 n5:h.get lm=.map (hD L) lc
 gt:h.get b3=.map (hD T) dJ
 mh:eA (hD L) lc
 mi:eA (hD T) dJ
 kc:dt L
 kd:dt T
 has:∀ k b,bZ L k=some b→h.get b=.cells (b6 (k,s.logs k)) 90 none∧s.logs k≠[]∧b<h.n
 jX:∀ k,bZ L k=none→s.logs k=[]
 jY:∀ t b,bZ T t=some b→∃ j,s.tasks t=some j∧h.get b=.cells (ue t j) 125 none∧b<h.n
 jZ:∀ t,bZ T t=none→s.tasks t=none
theorem wh.on {aK h h':I} {lm b3 lc dJ:Nat} {s:n1} {L T:jV} (w:wh aK h lm b3 s L lc T dJ) (k:J h h' none_):wh aK h' lm b3 s L lc T dJ where
 ai:=w.ai.trans' k
 CX:=MC w.CX k.n
 CY:=MC w.CY k.n
 n5:=(k.get lm w.CX (by simp [none_])).trans w.n5
 gt:=(k.get b3 w.CY (by simp [none_])).trans w.gt
 mh:=w.mh
 mi:=w.mi
 kc:=w.kc
 kd:=w.kd
 has q b ab:=⟨(k.get b (w.has q b ab).2.2 (by simp [none_])).trans (w.has q b ab).1,(w.has q b ab).2.1,MC (w.has q b ab).2.2 k.n⟩
 jX:=w.jX
 jY t b ab:=by
  obtain ⟨j,h1,ad,aD⟩:=w.jY t b ab;exact ⟨j,h1,(k.get b aD (by simp [none_])).trans ad,MC aD k.n⟩
 jZ:=w.jZ
theorem jh.freeze {aK h:I} {lm b3 lc dJ:Nat} {s:n1} {L T:jV} {ow:gd} (w:jh aK h lm b3 s.logs s.tasks L lc T dJ ow):∃ h',(∀ r,aA r h r h')∧wh aK h' lm b3 s L lc T dJ:=by
 have hold:∀ q bl,ow q=some bl→q<h.n:=fun q bl ab=>(w.bx q bl ab).2;obtain ⟨h1,bb,bJ,g1⟩:=adN (logs:=s.logs) L h w.kc (fun e he=>(w.has _ _ (px w.kc he)).1) hold;have aV:∀ e ∈ T,lR h ow e.2.2 e.2.1 (cn s e.2.1):=fun e he=>by
  obtain ⟨j,h1,ad⟩:=w.jY _ _ (px w.kd he);unfold cn;rw [h1];exact ad
 have FT:∀ q bl,ow q=some bl→q<h1.n:=fun q bl ab=>MC (hold q bl ab) bJ.n;obtain ⟨ad,bt,ba,g2⟩:=adO (jobs:=cn s) T h1 w.kd (fun e he=>(aV e he).on bJ (fun q ⟨x,aj,i,U⟩ i2 aD=>by rw [U] at aD;simp at aD) (fun _ _ U=>U) hold) FT
 have kk:J h ad (fun q=>∃ a k i,ow q=some (a,k,i)∧a<2):=(bJ.mono (o':=fun q=>∃ a k i,ow q=some (a,k,i)∧a<2) fun q ⟨x,aj,i,U⟩=>⟨0,_,i,U,by decide⟩).trans ba fun q ab ⟨x,aj,i,U⟩=>⟨1,_,i,U,by decide⟩
 have fv:=bJ.n;have dy:=ba.n;refine ⟨ad,fun r=>(bb r).trans (bt r),w.ai.trans kk (fun q ab ⟨a,k,i,U,_⟩=>by have:=(w.bx _ _ U).1;omega),by have:=hold _ _ w.hb;omega,by have:=hold _ _ w.hT;omega,
  (kk.get lm (hold _ _ w.hb) (fun ⟨a,k,i,U,ad⟩=>by rw [w.hb] at U;simp at U;omega)).trans w.n5,(kk.get b3 (hold _ _ w.hT) (fun ⟨a,k,i,U,ad⟩=>by rw [w.hT] at U;simp at U;omega)).trans w.gt,
  w.mh,w.mi,w.kc,w.kd,fun k b al=>?_,w.jX,fun t b al=>?_,w.jZ⟩
 ·obtain ⟨e,he,bd⟩:=IZ al;obtain ⟨Bk,Vh,yV⟩:=e;simp only [Prod.mk.injEq] at bd;obtain ⟨rfl,rfl⟩:=bd;obtain ⟨⟨_,_,_,_,_,t0,_⟩,bI⟩:=w.has _ _ al;exact ⟨(ba.get _ (FT _ _ t0) (fun ⟨x,aj,i,U⟩=>by rw [t0] at U;simp at U)).trans (g1 _ he),bI,by have:=hold _ _ t0;omega⟩
 ·obtain ⟨e,he,bd⟩:=IZ al;obtain ⟨Bk,Vh,yV⟩:=e;simp only [Prod.mk.injEq] at bd;obtain ⟨rfl,rfl⟩:=bd;obtain ⟨j,h1,a⟩:=w.jY _ _ al;obtain ⟨_,_,_,_,_,_,_,t0,_⟩:=a;refine ⟨j,h1,?_,by have:=hold _ _ t0;omega⟩
  have:=g2 _ he;simp only [cn,h1,Option.getD_some] at this;exact this
structure mF where
 t:Int
 ep:Int
 tx:Int
 offs:List Int
 ord:List Int
 opn:Nat
 deriving DecidableEq
structure sE where
 logs:List (Int×List dM)
 tasks:List mF
 looked:Nat
def ct (x:mF):List V:=[.int .i64 x.t,.int .i64 x.ep,.int .i64 x.tx,.ah x.offs.length (ar x.offs),.ah x.ord.length (ar x.ord),.int .i64 (x.opn:Nat)]
theorem Hq (x:mF):(ct x).length=6:=rfl
def cu (t:sE):List V:=[.ah t.logs.length (t.logs.flatMap b6),.ah t.tasks.length (t.tasks.flatMap ct),.int .i64 (t.looked:Nat)]
theorem adP (rs:List dM):a1 (eF rs):=AA (enc:=fun p:dM=>jU p.1) (fun p=>arn p.1) rs
theorem Vi:∀ rs:List dM,a1 (fD rs)
 | []=>a1.nil
 | p::rs=>a1.cons (a7.bool _) (Vi rs)
theorem OW (p:Int×List dM):a1 (b6 p):=a1.cons (a7.int _ _) (a1.cons (a7.ah (adP _)) (a1.cons (a7.ah (Vi _)) a1.nil))
theorem Vj (x:mF):a1 (ct x):=a1.cons (a7.int _ _) (a1.cons (a7.int _ _) (a1.cons (a7.int _ _) (a1.cons (a7.ah (wV _)) (a1.cons (a7.ah (wV _)) (a1.cons (a7.int _ _) a1.nil)))))
theorem ar1 (t:sE):a1 (cu t):=a1.cons (a7.ah (AA OW _)) (a1.cons (a7.ah (AA Vj _)) (a1.cons (a7.int _ _) a1.nil))
def kY (t:Int) (j:jW):mF:=⟨t,j.ep,j.tx,j.offs,j.ord,j.opn.length⟩
def oM (n:Int):List Int→List Int
 | []=>[n]
 | x::l=>if x=n then x::l else if n<x then n::x::l else x::oM n l
theorem Vk {n a:Int}:∀ {l:List Int},a ∈ oM n l↔a=n∨a ∈ l
 | []=>by simp [oM]
 | x::l=>by
  unfold oM;split
  ·rename_i h;subst h;simp
  split
  ·simp
  ·rw [IN,Vk (l:=l),IN]
   constructor
   ·rintro (h | h | h)<;>simp [h]
   ·rintro (h | h | h)<;>simp [h]
theorem adQ {n:Int}:∀ {l:List Int},l.Pairwise (·<·)→(oM n l).Pairwise (·<·)
 | [],_=>by simp [oM]
 | x::l,h=>by
  have h':=avf.1 h;unfold oM;split
  ·exact h
  rename_i h1;split
  ·rename_i ad;refine avf.2 ⟨fun a aP=>?_,h⟩;rcases IN.1 aP with rfl | aP
   ·exact ad
   ·have:=h'.1 a aP;omega
  ·rename_i ad;refine avf.2 ⟨fun a aP=>?_,adQ h'.2⟩;rcases Vk.1 aP with rfl | aP
   ·omega
   ·exact h'.1 a aP
def LP (l:List Int):List Int:=l.foldl (fun a n=>oM n a) []
theorem Vl:∀ (l a:List Int),(∀ x,x ∈ l.foldl (fun a n=>oM n a) a↔x ∈ a∨x ∈ l)∧(a.Pairwise (·<·)→(l.foldl (fun a n=>oM n a) a).Pairwise (·<·))
 | [],a=>⟨fun x=>by simp,fun h=>h⟩
 | y::l,a=>by
  obtain ⟨h1,ad⟩:=Vl l (oM y a);refine ⟨fun x=>?_,fun h=>ad (adQ h)⟩;rw [List.foldl_cons,h1,Vk,IN]
  constructor
  ·rintro ((h | h) | h)<;>simp [h]
  ·rintro (h | h | h)<;>simp [h]
theorem adR {l:List Int} {x:Int}:x ∈ LP l↔x ∈ l:=by rw [LP,(Vl l []).1];simp
theorem adS (l:List Int):(LP l).Pairwise (·<·):=(Vl l []).2 avV.nil
structure ar2 (s:n1) (logs:List (Int×List dM)) (tasks:List mF):Prop where
 lm:∀ p,p ∈ logs↔p.2=s.logs p.1∧p.2≠[]
 adT:logs.Pairwise fun a b=>a.1<b.1
 b3:∀ x,x ∈ tasks↔∃ j,s.tasks x.t=some j∧x=kY x.t j
 adU:tasks.Pairwise fun a b=>a.t<b.t
theorem Vm {α:Type} {key:α→Int}:∀ {a b:List α},(∀ x,x ∈ a↔x ∈ b)→a.Pairwise (fun x y=>key x<key y)→b.Pairwise (fun x y=>key x<key y)→a=b
 | [],[],_,_,_=>rfl
 | [],y::b,h,_,_=>by have:=(h y).2 (by simp);cases this
 | x::a,[],h,_,_=>by have:=(h x).1 (by simp);cases this
 | x::a,y::b,h,aP,al=>by
  have oj:=avf.1 aP;have iJ:=avf.1 al;have e:x=y:=by
   rcases IN.1 ((h x).1 (by simp)) with e | h1
   ·exact e
   rcases IN.1 ((h y).2 (by simp)) with e | ad
   ·exact e.symm
   have:=iJ.1 x h1;have:=oj.1 y ad;omega
  subst e
  congr 1
  refine Vm (fun z=>⟨fun bR=>?_,fun bR=>?_⟩) oj.2 iJ.2
  ·rcases IN.1 ((h z).1 (by simp [bR])) with rfl | h1
   ·have:=oj.1 z bR;omega
   ·exact h1
  ·rcases IN.1 ((h z).2 (by simp [bR])) with rfl | h1
   ·have:=iJ.1 z bR;omega
   ·exact h1
def wi (l:List bC):List (Int×List dM):=((LP (l.map (·.log))).map fun k=>(k,(ik l).logs k)).filter fun p=>!p.2.isEmpty
def wj (l:List bC):List mF:=(LP (l.map (·.task))).filterMap fun t=>((ik l).tasks t).map (kY t)
def toldOf (l:List bC):sE:=⟨wi l,wj l,l.length⟩
structure OX (l:List bC) (s:n1):Prop where
 sD:∀ k,s.logs k≠[]→k ∈ l.map (·.log)
 qg:∀ t j,s.tasks t=some j→t ∈ l.map (·.task)∧∀ p ∈ j.opn,p.1.log ∈ l.map (·.log)
theorem adV {A:Int→Prop}:∀ (o:List (bC×Nat)) (f:Int→List dM),(∀ p ∈ o,A p.1.log)→(∀ k,f k≠[]→A k)→∀ k,pK f o k≠[]→A k
 | [],f,_,av,k,h=>av k h
 | p::o,f,aN,av,k,h=>by
  refine adV o (iD f p.1) (fun q ab=>aN q (by simp [ab])) (fun k hk=>?_) k h
  unfold iD at hk;split at hk
  ·rename_i e;subst e;exact aN p (by simp)
  ·exact av k hk
theorem ar3 {l:List bC} {s:n1} (h:OX l s) (x:bC) (i:Nat):OX (l++[x]) (mE s x i):=by
 have up:∀ {k},k ∈ l.map (·.log)→k ∈ (l++[x]).map (·.log):=fun hk=>by rw [avz];exact awP _ hk
 have adW:∀ {k},k ∈ l.map (·.task)→k ∈ (l++[x]).map (·.task):=fun hk=>by rw [avz];exact awP _ hk
 have adX:x.log ∈ (l++[x]).map (·.log):=by simp
 have HI:x.task ∈ (l++[x]).map (·.task):=by simp
 have same:OX (l++[x]) s:=⟨fun k hk=>up (h.sD k hk),fun t j bE=>⟨adW (h.qg t j bE).1,fun p aU=>up ((h.qg t j bE).2 p aU)⟩⟩;have OY:∀ p ∈ (cn s x.task).opn,p.1.log ∈ (l++[x]).map (·.log):=fun p aU=>by
  unfold cn at aU;cases aV:s.tasks x.task with
  | none=>rw [aV] at aU;cases aU
  | some j=>rw [aV] at aU;exact (same.qg _ _ aV).2 p aU
 unfold mE;split
 ·exact same
 split
 ·refine ⟨fun k hk=>?_,same.qg⟩;simp only [iD] at hk;split at hk
  ·rename_i e;rw [e];exact adX
  ·exact same.sD k hk
 split
 ·refine ⟨same.sD,fun t j aV=>?_⟩;simp only at aV;split at aV
  ·rename_i e;subst e;injection aV with aV;subst aV;refine ⟨HI,fun p aU=>?_⟩;unfold lS at aU;split at aU
   ·cases aU
   ·exact OY p aU
  ·exact same.qg t j aV
 split
 ·exact same
 refine ⟨fun k hk=>?_,fun t j aV=>?_⟩
 ·simp only [qR] at hk;split at hk
  ·exact same.sD k hk
  split at hk
  ·exact adV _ _ OY same.sD k hk
  ·exact same.sD k hk
 ·simp only at aV;split at aV
  ·rename_i e;subst e;injection aV with aV;subst aV;refine ⟨HI,fun p aU=>?_⟩;unfold nA at aU;split at aU
   ·exact OY p aU
   split at aU
   ·rcases List.mem_append.1 aU with aU | aU
    ·exact OY p aU
    ·rw [List.mem_singleton.1 aU];exact adX
   split at aU<;>cases aU
  ·exact same.qg t j aV
theorem OZ:∀ (n:Nat) (l:List bC),l.length=n→OX l (ik l)
 | 0,l,h=>by
  rw [awq.1 h];exact ⟨fun k hk=>absurd rfl hk,fun t j aV=>by cases aV⟩
 | n+1,l,h=>by
  obtain ⟨a,x,rfl⟩:∃ a x,l=a++[x]:=by
   cases aw:l.reverse with
   | nil=>rw [az4] at aw;rw [aw] at h;simp at h
   | cons x a=>exact ⟨a.reverse,x,by rw [←ax8 l,aw,ax9]⟩
  rw [Hn];exact ar3 (OZ n a (by rw [IS] at h;simp at h;exact h)) x _
theorem EK (l:List bC):ar2 (ik l) (wi l) (wj l):=by
 have bg:=OZ _ l rfl;refine ⟨fun p=>?_,?_,fun x=>?_,?_⟩
 ·unfold wi;rw [afP,MF]
  constructor
  ·rintro ⟨⟨k,hk,rfl⟩,ad⟩
   exact ⟨rfl,by simpa using ad⟩
  ·rintro ⟨h1,ad⟩
   refine ⟨⟨p.1,adR.2 (bg.sD _ (h1 ▸ ad)),?_⟩,by simpa using ad⟩
   rw [←h1]
 ·unfold wi;refine avV.filter _ (awf.2 ?_);exact adS _
 ·unfold wj;rw [List.mem_filterMap]
  constructor
  ·rintro ⟨t,bE,h1⟩
   cases aV:(ik l).tasks t with
   | none=>rw [aV] at h1;cases h1
   | some j=>
    rw [aV] at h1;injection h1 with h1;subst h1;exact ⟨j,aV,rfl⟩
  ·rintro ⟨j,h1,ad⟩
   refine ⟨x.t,adR.2 (bg.qg _ _ h1).1,?_⟩;rw [h1];exact congrArg some ad.symm
 ·unfold wj;refine avV.filterMap _ (fun a b ky x aj y bp=>?_) (adS _);cases aV:(ik l).tasks a with
  | none=>rw [aV] at aj;cases aj
  | some j=>
   cases hk:(ik l).tasks b with
   | none=>rw [hk] at bp;cases bp
   | some k=>
    rw [aV] at aj;rw [hk] at bp;injection aj with aj;injection bp with bp;subst aj bp;exact ky
def sF (n:Int) (K:List Int) (s:n1):Nat:=(s.logs n).length+(K.map fun t=>(cn s t).opn.length).sum
theorem ar4 (s:n1) (x:bC) (i:Nat) (n:Int):((mE s x i).logs n).length+(cn (mE s x i) x.task).opn.length≤(s.logs n).length+(cn s x.task).opn.length+1:=by
 unfold mE;split
 ·omega
 split
 ·have:(iD s.logs x n).length≤(s.logs n).length+1:=by
   unfold iD;split
   ·rename_i e;subst e;simp
   ·omega
  show (iD s.logs x n).length+(cn s x.task).opn.length≤_;omega
 split
 ·show (s.logs n).length+((if x.task=x.task then some (lS (cn s x.task) x.de) else s.tasks x.task).getD wQ).opn.length≤_
  rw [if_pos rfl];show _+(lS (cn s x.task) x.de).opn.length≤_;unfold lS;split
  ·simp only [avi];omega
  ·omega
 split
 ·omega
 show (qR s.logs (cn s x.task) x n).length+((if x.task=x.task then some (nA (cn s x.task) x i) else s.tasks x.task).getD wQ).opn.length≤_
 rw [if_pos rfl];show _+(nA (cn s x.task) x i).opn.length≤_;unfold qR nA;split
 ·omega
 ·split
  ·rename_i aD;rw [if_neg (by omega)]
   have:=OV n (cn s x.task).opn s.logs (s.logs n).length (BY _);simp only [avi];omega
  ·split
   ·simp only [IS,List.length_singleton];omega
   ·simp only [avi];omega
theorem ar5 (s:n1) (x:bC) (i:Nat) {u:Int} (hu:u≠x.task):(cn (mE s x i) u).opn=(cn s u).opn:=by
 unfold mE;split
 ·rfl
 split
 ·rfl
 split
 ·show ((if u=x.task then some (lS (cn s x.task) x.de) else s.tasks u).getD wQ).opn=_
  rw [if_neg hu];rfl
 split
 ·rfl
 show ((if u=x.task then some (nA (cn s x.task) x i) else s.tasks u).getD wQ).opn=_
 rw [if_neg hu];rfl
theorem ar6 {s:n1} {N:Nat} (ih:∀ n K,K.Nodup→sF n K s≤N) (x:bC) (i:Nat) (n:Int) (K:List Int) (cq:K.Nodup):sF n K (mE s x i)≤N+1:=by
 have main:∀ ux:List Int,(x.task::ux).Nodup→sF n (x.task::ux) (mE s x i)≤N+1:=fun ux aG=>by
  have h1:=ih n _ aG;have ad:=ar4 s x i n;have aD:ux.map (fun t=>(cn (mE s x i) t).opn.length)=ux.map fun t=>(cn s t).opn.length:=List.map_congr_left fun u hu=>by
   rw [ar5 s x i fun e=>(av5.1 aG).1 (e ▸ hu)]
  unfold sF at *;rw [au9,ax2] at *;rw [aD];omega
 by_cases hm:x.task ∈ K
 ·have aU:=List.perm_cons_erase hm;have h1:=main _ (aU.nodup_iff.1 cq);have ad:sF n K (mE s x i)=sF n (x.task::K.erase x.task) (mE s x i):=by
   unfold sF;rw [(aU.map _).sum_nat]
  rw [ad];exact h1
 ·have h1:=main K (av5.2 ⟨hm,cq⟩);unfold sF at *;rw [au9,ax2] at h1;omega
theorem adY:∀ (m:Nat) (l:List bC),l.length=m→∀ n K,K.Nodup→sF n K (ik l)≤m
 | 0,l,h=>by
  rw [awq.1 h];intro n K _;unfold sF;show 0+_≤0;have:∀ K:List Int,(K.map fun t=>(cn (ik []) t).opn.length).sum=0:=fun K=>by
   induction K with
   | nil=>rfl
   | cons a K ih=>rw [au9,ax2,ih];rfl
  rw [this];omega
 | m+1,l,h=>by
  obtain ⟨a,x,rfl⟩:∃ a x,l=a++[x]:=by
   cases aw:l.reverse with
   | nil=>rw [az4] at aw;rw [aw] at h;simp at h
   | cons x a=>exact ⟨a.reverse,x,by rw [←ax8 l,aw,ax9]⟩
  rw [Hn];exact ar6 (adY m a (by rw [IS] at h;simp at h;exact h)) x _
theorem adZ (l:List bC) (n:Int):((ik l).logs n).length≤l.length:=by
 have:=adY _ l rfl n [] List.nodup_nil;unfold sF at this;simpa using this
theorem Vn {l:List bC} {k:Nat} (hk:k<l.length) {kk:IntKind}:hG ds 29 (.ah l.length (l.flatMap bh)) (.int kk (k:Int))=some (.at (bh l[k]++(l.drop (k+1)).flatMap bh)):=sX (enc:=bh) (sz:=11) EE hk anf
theorem ar7 (x:bC) (r:List V):cO (some (some 11)) (some (bh x++r))=some (.agg (bh x)):=lz (EE x)
def z1 (a b:Nat):gd:=fun q=>if q=a then some (2,0,0) else if q=b then some (2,0,1) else none
theorem ad0 {a b q:Nat} {bl:Tag} (h:z1 a b q=some bl):q=a∨q=b:=by
 unfold z1 at h;split at h
 ·exact .inl ‹_›
 ·split at h
  ·exact .inr ‹_›
  ·cases h
theorem jh.cast {aK h:I} {lm b3 lc dJ:Nat} {s cJ:n1} {L T:jV} {ow:gd} (w:jh aK h lm b3 s.logs s.tasks L lc T dJ ow) (e:s=cJ):jh aK h lm b3 cJ.logs cJ.tasks L lc T dJ ow:=e ▸ w
def CZ (h:I) (ow:gd) (q:Nat):Prop:=q=h.n+1∨q=h.n+2∨∃ bl,ow q=some bl
theorem LQ (aK h:I) (lm b3:Nat) (k:J aK h none_) (h1:aK.n≤lm∧lm<h.n) (ad:aK.n≤b3∧b3<h.n) (bI:lm≠b3) (n5:h.get lm=.map [] 0) (gt:h.get b3=.map [] 0):jh aK h lm b3 LN.logs LN.tasks [] 0 [] 0 (z1 lm b3) :=
 ⟨k,fun q bl ab=>by rcases ad0 ab with e | e<;>subst e<;>assumption,by simp [z1],by simp [z1,Ne.symm bI],n5,gt,eA.nil 0,eA.nil 0,dt.nil,dt.nil,fun _ _ U=>(by cases U),fun _ _=>rfl,fun _ _ U=>(by cases U),fun _ _=>rfl⟩
theorem jh.O0 {aK h0' h h':I} {lm b3 lc dJ:Nat} {logs:Int→List dM} {tasks:Int→Option jW} {L T:jV} {ow:gd} (w:jh aK h lm b3 logs tasks L lc T dJ ow) {own:Nat→Prop} (k:J h h' own) (aG:∀ q,own q→∀ bl,ow q≠some bl) (gz:J h0' h' none_) (Et:h0'.n≤aK.n):jh h0' h' lm b3 logs tasks L lc T dJ ow where
 ai:=gz
 bx q bl ab:=⟨Nat.le_trans Et (w.bx q bl ab).1,MC (w.bx q bl ab).2 k.n⟩
 hb:=w.hb
 hT:=w.hT
 n5:=(k.get lm (w.bx _ _ w.hb).2 (fun U=>aG _ U _ w.hb)).trans w.n5
 gt:=(k.get b3 (w.bx _ _ w.hT).2 (fun U=>aG _ U _ w.hT)).trans w.gt
 mh:=w.mh
 mi:=w.mi
 kc:=w.kc
 kd:=w.kd
 has q b ab:=⟨(w.has q b ab).1.on k (fun q U i he=>aG q U _ he) (fun _ _ U=>U) fun q bl U=>(w.bx q bl U).2,(w.has q b ab).2⟩
 jX:=w.jX
 jY t b ab:=by
  obtain ⟨j,h1,ad⟩:=w.jY t b ab;exact ⟨j,h1,ad.on k (fun q U i he=>aG q U _ he) (fun _ _ U=>U) fun q bl U=>(w.bx q bl U).2⟩
 jZ:=w.jZ
theorem ar8 (l:List bC) (aw:l.length≤2 ^ 30) (he:∀ x ∈ l,Bh x) (h:I) (hu:vc h) :
  af ds 27 [.ah l.length (l.flatMap bh)] h (fun r h'=>∃ lm b3 L lc T dJ,r=.agg [.map lm,.map b3]∧wh h h' lm b3 (ik l) L lc T dJ):=by
 refine af.cast ?_;refine af.au (c:=_) Tryz.func27 rfl (by kernel_rfl) (by simp) ?_
 simp only [ae,vt,AS,By,reduceCtorEq,AH,am9,Y8,Td];refine aZ.bQ (α:=Nat×(jV×Nat×jV×Nat×gd)) (fun y f h'=>f 2=.ptr h.n 0∧f 3=.ptr (h.n+3) 0∧f 9=.ah l.length (l.flatMap bh)∧f 10=.int .i64 (l.length:Nat)∧f 11=.int .i64 (y.1:Nat)∧y.1≤l.length ∧
   h'.get (h.n+3)=.cells [.map (h.n+1),.map (h.n+2)] 74 none∧h.n+3<h'.n∧(∀ bl,y.2.2.2.2.2 (h.n+3)≠some bl) ∧
   jh (h.push (.cells [.ff,.ff] 74 none)) h' (h.n+1) (h.n+2) (ik (l.take y.1)).logs (ik (l.take y.1)).tasks y.2.1 y.2.2.1 y.2.2.2.1 y.2.2.2.2.1 y.2.2.2.2.2)
   (fun y=>l.length - y.1) (0,[],0,[],0,z1 (h.n+1) (h.n+2)) ⟨rfl,rfl,rfl,rfl,rfl,Dc _,?_,?_,?_,?_⟩ ?_
 ·simp [I.push]
 ·simp only [dq];omega
 ·intro bl U;rcases ad0 U with e | e<;>omega
 ·refine LQ _ _ _ _ (((J.push _ _ _).trans' (J.push _ _ _)).trans' (J.push _ _ _)) ⟨BY _,?_⟩ ⟨?_,?_⟩ (by omega) ?_ ?_
  ·simp only [dq];omega
  ·simp only [dq];omega
  ·simp only [dq];omega
  ·simp [I.push]
  ·simp [I.push]
 rintro ⟨i,L,lc,T,dJ,ow⟩ f h1 ⟨f2,f3,f9,f10,f11,hi,gs,j2,kH,w⟩
 simp only at f11 hi kH w;refine ee (by kernel_rfl) ?_
 have xe:=w.ai;have wA:=xe.n;rw [dq] at wA;by_cases aM:i<l.length
 ·have d1:decide ((i:Int)<((l.length:Nat):Int))=true:=decide_eq_true (by omega)
  have oL:IntKind.i64.wrap (((i:Nat):Int)+1)=((i+1:Nat):Int):=by rw [Go.IntWalk.i64_in _ (by omega)];omega
  have cy:=Vn (l:=l) (kk:=.i64) aM;have fr:ik (l.take (i+1))=mE (ik (l.take i)) l[i] i:=by rw [avt aM,Hn,VV,Nat.min_eq_left (by omega)]
  have CE:=Vg i (l.take i) (by rw [VV];omega)
  have LR:∀ n,((ik (l.take i)).logs n).length≤i:=fun n=>by have:=adZ (l.take i) n;rw [VV] at this;omega
  have uA:=he _ (List.getElem_mem aM);generalize l[i]=x at cy fr uA;generalize ik (l.take i)=s at w fr CE LR;have ld:=ar7;have pd:(V.agg (bh x)).cells=some (bh x):=rfl;have Bi:bF (some 11) (aO.cells [V.int .i64 0,.int .i64 0,.int .i64 0,.int .i64 0,.int .i64 0,.int .i64 0,.int .i64 0,.int .i64 0,.bool false,.ag,.ag] 48 none) 0 (bh x)=some (.cells (bh x) 48 none):=rfl;obtain ⟨H,hH⟩:∃ y,y=h1.push (.cells (bh x) 48 none):=⟨_,rfl⟩;have bw:J h1 H none_:=by rw [hH];exact J.push _ _ _
  have ju:H.n=h1.n+1:=by rw [hH];rfl
  have iR:H.get h1.n=.cells (bh x) 48 none:=by rw [hH];exact ck
  have uc:=(bw.get (h.n+3) j2 (by simp [none_])).trans gs
  have mD:=w.on bw;have k2:vc H:=by unfold vc;rw [bw.glob,xe.glob];exact hu
  have qg:(bh x).take 11=bh x:=rfl;have LS:=EE x;simp only [ae,vt,DV,Jw,Zc,f9,f10,f11,d1,cy,ld,pd,Bi,qg,LS];rw [←hH];clear hH;refine bW alJ (ary x H k2 uA) ?_;have C0:∀ q bl,ow q=some bl→q≠h.n+3:=fun q bl ab U=>kH bl (U ▸ ab);have ad1:∀ q bl,ow q=some bl→q≠h1.n:=fun q bl ab U=>by have:=(w.bx _ _ ab).2;omega
  have d0:cP (aO.cells (bh x) 48 none) 0=some (bh x):=rfl;have QS:cP (aO.cells (bh x) 48 none) 1=some ((bh x).drop 1):=rfl;have ad2:cP (aO.cells (bh x) 48 none) 2=some ((bh x).drop 2):=rfl;have pD:cO (some none) (some (bh x))=some (.int .i64 x.kind):=rfl;have hc:cO (some none) (some ((bh x).drop 1))=some (.int .i64 x.task):=rfl;have ez:cO (some none) (some ((bh x).drop 2))=some (.int .i64 x.de):=rfl;have auV:cO (some (some 11)) (some (bh x))=some (.agg (bh x)):=rfl;have LU:cP (aO.cells [V.map (h.n+1),.map (h.n+2)] 74 none) 0=some [.map (h.n+1),.map (h.n+2)]:=rfl;have LV:cO (some (some 2)) (some [V.map (h.n+1),.map (h.n+2)])=some (.agg [.map (h.n+1),.map (h.n+2)]):=rfl;cases hm:ko x with
  | false=>
   simp only [ae,vt,reduceCtorEq,DW,f3,f11,oL];exact ax ⟨(i+1,L,lc,T,dJ,ow),⟨f2,f3,f9,f10,rfl,aM,uc,by omega,kH,mD.cast (fr.trans (by unfold mE;rw [if_pos hm])).symm⟩,by simp only;omega⟩
  | true=>
   have hk:=((EG x).1 hm).1;have O1:¬ko x=false:=by rw [hm];simp
   by_cases bJ:x.kind=1
   ·have bb:(x.kind==1)=true:=by simpa using bJ
    have EJ:(s.logs x.log).length≤2 ^ 40:=by
     have:=LR x.log;omega
    simp only [ae,vt,wZ,aW,DV,DW,f3,iR,uc,d0,pD,qg,LS,LU,LV,bb];refine cB Yi (LH x mD EJ) fun r aD ⟨ia,LL,CV,ib,j7,Lr,b2,pR⟩=>?_;subst ia;have n3:=b2.n;have zY:=(b2.get (h.n+3) (by omega) (fun U=>by rcases U with U | ⟨k,i2,U⟩;omega;exact C0 _ _ U rfl)).trans uc
    simp only [ae,vt,f11,oL];exact ax ⟨(i+1,LL,CV,T,dJ,ib),⟨f2,f3,f9,f10,rfl,aM,zY,by omega,fun bl U=>by
     rcases pR _ _ U with U | U
     ·exact C0 _ _ U rfl
     ·omega,jh.cast (s:=⟨iD s.logs x,s.tasks⟩) j7 (fr.trans (by unfold mE;rw [if_neg O1,if_pos bJ])).symm⟩,by simp only;omega⟩
   have bb:(x.kind==1)=false:=by simpa using bJ
   have FU:CZ h ow (h.n+3)=False:=eq_false fun U=>by rcases U with U | U | ⟨bl,U⟩;omega;omega;exact C0 _ _ U rfl
   have FA:CZ h ow h1.n=False:=eq_false fun U=>by rcases U with U | U | ⟨bl,U⟩;omega;omega;exact ad1 _ _ U rfl
   by_cases dW:x.kind=5
   ·have c5:(x.kind==5)=true:=by simpa using dW
    simp only [ae,vt,wZ,aW,iR,d0,pD,bb,c5];refine aZ.bB (fun q=>CZ h ow q) [3,6] (.q 0 (.q 1 (.q 2 (.q 4 (.q 5 (.e 3 (.a 6 .done) .stop)))))) (by kernel_rfl) (by kernel_rfl) (by kernel_rfl) ?_
    simp only [ae,bM,eH,vt,NM,B5,aW,DW,f3,iR,uc,QS,ad2,hc,ez,LU,LV,FU,FA];refine cB Yj (adi x.task mD) fun r ad ⟨b,C1,yH,fc,ia,al,bS,c4,iH⟩=>?_;subst ia;have C2:J H ad (fun q=>CZ h ow q):=c4.mono fun q ab=>.inr (.inl ab);have dy:=c4.n;simp only [ae,bM,eH,vt,C2];refine cB amc (arJ (e:=x.de) (j:=cn s x.task) bS al (by unfold named;rw [if_pos rfl];rfl)) fun r aD ⟨ia,j7,b2⟩=>?_
    subst ia;have LW:J H aD (fun q=>CZ h ow q):=C2.trans b2 fun q ab ⟨bl,U⟩=>by
     rcases iH _ _ U with U | U
     ·exact .inr (.inr ⟨bl,U⟩)
     ·omega
    have n3:=b2.n;have zY:=(LW.get (h.n+3) (by omega) (by rw [FU];exact id)).trans uc
    have cd:(fun n=>if n=x.task then some (lS (cn s x.task) x.de) else named s.tasks x.task n)=(fun n=>if n=x.task then some (lS (cn s x.task) x.de) else s.tasks n):=by
     funext n
     split
     ·rfl
     ·rename_i U;unfold named;rw [if_neg U]
    rw [cd] at j7;simp only [ae,bM,eH,vt,f11,oL];exact ax ⟨(i+1,L,lc,C1,yH,fc),⟨f2,f3,f9,f10,rfl,aM,zY,by omega,fun bl U=>by
      rcases iH _ _ U with U | U
      ·exact C0 _ _ U rfl
      ·omega,jh.cast (s:=⟨s.logs,fun n=>if n=x.task then some (lS (cn s x.task) x.de) else s.tasks n⟩) j7 (fr.trans (by unfold mE;rw [if_neg O1,if_neg bJ,if_pos dW])).symm⟩,by simp only;omega⟩
   have c5:(x.kind==5)=false:=by simpa using dW
   by_cases fV:x.kind=6
   ·have bt:(x.kind==2)=false:=by rw [fV];rfl
    have c3:(x.kind==3)=false:=by rw [fV];rfl
    have eP:(x.kind==4)=false:=by rw [fV];rfl
    simp only [ae,vt,wZ,aW,f11,iR,d0,pD,bb,c5,bt,c3,eP,oL];exact ax ⟨(i+1,L,lc,T,dJ,ow),⟨f2,f3,f9,f10,rfl,aM,uc,by omega,kH,mD.cast (fr.trans (by unfold mE;rw [if_neg O1,if_neg bJ,if_neg dW,if_pos fV])).symm⟩,by simp only;omega⟩
   have auW:=adM CE x.task;have c2:∀ {ad:I} {C1:jV} {yH:Nat} {fc:gd} {b:Nat},jh (h.push (.cells [.ff,.ff] 74 none)) ad (h.n+1) (h.n+2) s.logs (named s.tasks x.task) L lc C1 yH fc→bZ C1 x.task=some b →
     af ds 53 [.agg [.map (h.n+1),.map (h.n+2)],.ptr b 0,.agg (bh x),.int .i64 (i:Nat)] ad (fun r h'=>r=.tuple []∧∃ jw yF ow',jh (h.push (.cells [.ff,.ff] 74 none)) h' (h.n+1) (h.n+2) (mE s x i).logs (mE s x i).tasks jw yF C1 yH ow'∧J ad h' (fun q=>q=h.n+1∨∃ bl,fc q=some bl)∧(∀ q bl,ow' q=some bl→fc q=some bl∨ad.n≤q)):=fun {ad C1 yH fc b} bS al=>by
    have aV:named s.tasks x.task x.task=some (cn s x.task):=by unfold named;rw [if_pos rfl];rfl
    have cd:(fun n=>if n=x.task then some (nA (cn s x.task) x i) else named s.tasks x.task n)=(fun n=>if n=x.task then some (nA (cn s x.task) x i) else s.tasks n):=by
     funext n
     split
     ·rfl
     ·rename_i U;unfold named;rw [if_neg U]
    have ar9:mE s x i=⟨qR s.logs (cn s x.task) x,fun n=>if n=x.task then some (nA (cn s x.task) x i) else s.tasks n⟩:=by unfold mE;rw [if_neg O1,if_neg bJ,if_neg dW,if_neg fV]
    rw [ar9,←cd];by_cases ay:x.kind=3→x.de≠(cn s x.task).ep∨x.iu≠(cn s x.task).tx
    ·exact arO x i bS al aV (by omega) (by omega) (by omega) ay
    ·have aD:x.kind=3:=Classical.byContradiction fun U=>ay fun h=>absurd h U;have bn:¬(x.de≠(cn s x.task).ep∨x.iu≠(cn s x.task).tx):=fun U=>ay fun _=>U;have ad3:∀ n,(s.logs n).length≤2 ^ 30:=fun n=>by
      have:=LR n;omega
     exact arR x i bS al aV (by omega) ad3 (by omega) aD (((EG x).1 hm).2.2.2.2.2.2.1) (by have:=((EG x).1 hm).2.2.2.2.2.2.2.2.1;omega) (by omega) (by omega) (by omega)
   have O2:x.kind=2∨x.kind=3∨x.kind=4:=by omega
   rcases O2 with ba | ba | ba
   all_goals
    simp only [ae,Int.reduceBEq,vt,wZ,aW,iR,d0,pD,ba];refine aZ.bB (fun q=>CZ h ow q) [4,7] (.q 0 (.q 1 (.q 2 (.q 3 (.q 5 (.q 6 (.e 4 (.a 7 .done) .stop))))))) (by kernel_rfl) (by kernel_rfl) (by kernel_rfl) ?_
    simp only [ae,bM,eH,vt,NM,aW,DV,DW,f3,iR,uc,d0,QS,hc,qg,LS,LU,LV,FU,FA];refine cB Yj (adi x.task mD) fun r ad ⟨b,C1,yH,fc,ia,al,bS,c4,iH⟩=>?_;subst ia;have C2:J H ad (fun q=>CZ h ow q):=c4.mono fun q ab=>.inr (.inl ab);have dy:=c4.n;simp only [ae,bM,eH,vt,C2];refine cB amd (c2 bS al) fun r aD ⟨ia,LL,CV,ib,j7,b2,pR⟩=>?_;subst ia;have LW:J H aD (fun q=>CZ h ow q):=C2.trans b2 fun q ab U=>by
     rcases U with U | ⟨bl,U⟩
     ·exact .inl U
     ·rcases iH _ _ U with U | U
      ·exact .inr (.inr ⟨bl,U⟩)
      ·omega
    have n3:=b2.n;have zY:=(LW.get (h.n+3) (by omega) (by rw [FU];exact id)).trans uc
    simp only [ae,bM,eH,vt,f11,oL];exact ax ⟨(i+1,LL,CV,C1,yH,ib),⟨f2,f3,f9,f10,rfl,aM,zY,by omega,fun bl U=>by
      rcases pR _ _ U with U | U
      ·rcases iH _ _ U with U | U
       ·exact C0 _ _ U rfl
       ·omega
      ·omega,j7.cast fr.symm⟩,by simp only;omega⟩
 ·obtain rfl:i=l.length:=by omega
  have d1:decide (((l.length:Nat):Int)<((l.length:Nat):Int))=false:=decide_eq_false (by omega)
  rw [avT] at w;have LU:cP (aO.cells [V.map (h.n+1),.map (h.n+2)] 74 none) 0=some [.map (h.n+1),.map (h.n+2)]:=rfl;have LV:cO (some (some 2)) (some [V.map (h.n+1),.map (h.n+2)])=some (.agg [.map (h.n+1),.map (h.n+2)]):=rfl;have g0:h1.get h.n=.cells [.ff,.ff] 74 none:=(xe.get h.n (by rw [dq];omega) (by simp [none_])).trans ck
  have tg:(V.agg [V.map (h.n+1),.map (h.n+2)]).cells=some [V.map (h.n+1),.map (h.n+2)]:=rfl;have st2:bF (some 2) (aO.cells [V.ff,.ff] 74 none) 0 [V.map (h.n+1),.map (h.n+2)]=some (.cells [V.map (h.n+1),.map (h.n+2)] 74 none):=rfl;simp only [ae,vt,DW,Td,f2,f3,f10,f11,d1,gs,g0,LU,LV,tg,st2,aS,Tryz.results27,vH,fB];have cY:J h1 (h1.set h.n (.cells [V.map (h.n+1),.map (h.n+2)] 74 none)) (·=h.n):=J.set _ _ _;have bS:=w.O0 (h0':=h) cY (fun q U bl he=>by have:=(w.bx _ _ he).1;rw [dq] at this;omega) ((((J.push _ _ _).trans' xe).up).trans cY fun q ab U=>by omega) (by rw [dq];omega)
  obtain ⟨ad,bt,v2⟩:=bS.freeze;exact ax ⟨_,ad,bt _,_,_,_,_,_,_,rfl,v2⟩
open Go.Shelf
def asa:Go.Shelf.Ren:=⟨fun | 6=>54 | 15=>97 | 14=>96 | 28=>131 | 29=>132 | 20=>123 | 21=>124 | 22=>125 | 23=>126 | 24=>127 | 25=>128 | 26=>129 | 27=>130 | 46=>159 | 47=>160 | 48=>161 | 49=>162 | 50=>163 | 57=>183 | n=>n,fun | 22=>31 | 24=>90 | 25=>122 | 3=>3 | 39=>189 | 0=>0 | 53=>236 | 55=>131 | 4=>4 | 46=>229 | 45=>228 | 50=>233 | 5=>5 | 9=>9 | 66=>270 | 70=>274 | 76=>310 | 77=>82 | n=>n,fun | n=>n⟩
theorem ad4:Go.Proofs.SlLaysF0.n6 ds asa:={
 mixed:=by kernel_rfl
 f6:=⟨Tryz.f54.name,by decide,aBP.trans (congrArg some (by kernel_rfl))⟩
 f14:=⟨Tryz.f96.name,by decide,aBQ.trans (congrArg some (by kernel_rfl))⟩
 f15:=axY.trans (congrArg some (by kernel_rfl))
 f20:=⟨Tryz.f123.name,by decide,aBR.trans (congrArg some (by kernel_rfl))⟩
 f21:=⟨Tryz.f124.name,by decide,Tryz.func124.trans (congrArg some (by kernel_rfl))⟩
 f22:=⟨Tryz.f125.name,by decide,Tryz.func125.trans (congrArg some (by kernel_rfl))⟩
 f23:=⟨Tryz.f126.name,by decide,Tryz.func126.trans (congrArg some (by kernel_rfl))⟩
 f24:=⟨Tryz.f127.name,by decide,Tryz.func127.trans (congrArg some (by kernel_rfl))⟩
 f25:=⟨Tryz.f128.name,by decide,Tryz.func128.trans (congrArg some (by kernel_rfl))⟩
 f26:=⟨Tryz.f129.name,by decide,Tryz.func129.trans (congrArg some (by kernel_rfl))⟩
 f27:=⟨Tryz.f130.name,by decide,Tryz.func130.trans (congrArg some (by kernel_rfl))⟩
 f28:=ay0.trans (congrArg some (by kernel_rfl))
 f29:=axX.trans (congrArg some (by kernel_rfl))
 f46:=⟨Tryz.f159.name,by decide,Tryz.func159.trans (congrArg some (by kernel_rfl))⟩
 f47:=ay1.trans (congrArg some (by kernel_rfl))
 f48:=ay2.trans (congrArg some (by kernel_rfl))
 f49:=⟨Tryz.f162.name,by decide,Tryz.func162.trans (congrArg some (by kernel_rfl))⟩
 f50:=⟨Tryz.f163.name,by decide,Tryz.func163.trans (congrArg some (by kernel_rfl))⟩
 f57:=⟨Tryz.f183.name,by decide,Tryz.func183.trans (congrArg some (by kernel_rfl))⟩
 t0:=ay3
 a0:=ay4
 z0:=ay5
 v0:=ay6
 t3:=axu
 a3:=ay7
 z3:=ay8
 v3:=ay9
 t4:=aza
 a4:=azb
 z4:=azc
 v4:=azd
 t5:=aze
 a5:=azf
 z5:=azg
 v5:=azh
 t9:=azi
 a9:=azj
 z9:=azk
 v9:=azl
 t22:=Tryz.underlying31
 a22:=Tryz.isAgg31
 z22:=Tryz.sizeOf31
 v22:=Tryz.zeroValue31
 t25:=Tryz.underlying122
 a25:=Tryz.isAgg122
 z25:=Tryz.sizeOf122
 v25:=Tryz.zeroValue122
 t39:=azm
 a39:=azn
 z39:=azo
 v39:=azp
 t45:=azC
 a45:=azD
 z45:=azE
 v45:=azF
 t46:=azG
 a46:=azH
 z46:=azI
 v46:=azJ
 t50:=azy
 a50:=azz
 z50:=azA
 v50:=azB
 t53:=azq
 a53:=azr
 z53:=azs
 v53:=azt
 t55:=azu
 a55:=azv
 z55:=azw
 v55:=azx
 t66:=azK
 a66:=azL
 z66:=azM
 v66:=azN
 t70:=azO
 a70:=azP
 z70:=azQ
 v70:=azR
 t76:=azS
 a76:=azT
 z76:=azU
 v76:=azV
 t77:=azW
 a77:=azX
 z77:=azY
 v77:=azZ }
open Go Go.Proofs Go.Proofs.YtemdgidnhgcafaaGreatDoor.Ab Go.Sort
theorem asb (h:I) (x c:V) (n lim:Int) (aG:n≤1) (aK:0≤n):Pure ds 123 [x,.int .i64 0,.int .i64 n,c] h (.tuple []):=by
 refine Pure.val (a7.tuple a1.nil) ?_;refine af.au (c:=_) aBR rfl (by kernel_rfl) (by simp) ?_
 have bR:IntKind.i64.wrap (0+1)=1:=by decide
 simp only [ae,vt,bR];refine aZ.bQ (α:=Unit) (fun _ f h'=>f 8=.int .i64 1∧f 2=.int .i64 n∧h'=h) (fun _=>0) () ⟨rfl,rfl,rfl⟩ ?_
 rintro _ f h' ⟨f8,f2,rfl⟩
 refine ee (by kernel_rfl) ?_
 have d1:decide (1<n)=false:=decide_eq_false (by omega)
 simp only [ae,vt,f8,f2,d1,kQ,Tryz.results123,hK];exact ax ⟨rfl,J.refl _ _⟩
theorem asc (h:I) (x c:V) (n l:Int) (aG:n≤1) (aK:0≤n):Pure ds 96 [x,.int .i64 0,.int .i64 n,.int .i64 l,c] h (.tuple []):=by
 refine Pure.val (a7.tuple a1.nil) ?_;refine af.au (c:=_) aBQ rfl (by kernel_rfl) (by simp) ?_
 simp only [ae];refine aZ.bQ (α:=Unit) (fun _ f h'=>f 0=x∧f 1=.int .i64 0∧f 2=.int .i64 n∧f 4=c∧h'=h) (fun _=>0) () ⟨rfl,rfl,rfl,rfl,rfl⟩ ?_
 rintro _ f h' ⟨f0,f1,f2,f4,rfl⟩
 refine ee (by kernel_rfl) ?_
 have hw:IntKind.i64.wrap (n - 0)=n:=by rw [Go.IntWalk.i64_in _ (by omega)];omega
 have d1:decide (n≤12)=true:=decide_eq_true (by omega)
 simp only [ae,vt,reduceCtorEq,f0,f1,f2,f4,hw,d1];refine bW alD (asb _ x c n 0 aG aK) ?_;simp only [ae,aS,Tryz.results96,hK];exact ax ⟨rfl,J.refl _ _⟩
theorem asd (h:I) (x c:V) (n:Int) (aG:n=0∨n=1) (aw:dS ds 31 x h=some (.int .i64 n)):Pure ds 54 [x,c] h (.tuple []):=by
 refine Pure.val (a7.tuple a1.nil) ?_;refine af.au (c:=_) aBP rfl (by kernel_rfl) (by simp) ?_
 have hw:IntKind.u64.wrap n=n:=by rcases aG with rfl | rfl<;>decide
 simp only [ae,vt,reduceCtorEq,wn,iA,aw,hw];refine bW Ys (Kn h n aG) ?_;simp only [ae,vt];refine bW amv (asc h x c n n (by omega) (by omega)) ?_
 simp only [ae,kQ,Tryz.results54,hK];exact ax ⟨rfl,J.refl _ _⟩
theorem ase {g:FuncId} {cf:(Int×List dM)→(Int×List dM)→Int} (lB:SWO (ltOf cf)) (tI:∀ a b,af ds g [.agg (b6 a),.agg (b6 b)] xE fun r _=>r=.int .i64 (cf a b))
  (Vo:∀ args w,(callFunc g args).run ds w=.ok (.enter g args) w) (h:I) (x:V) (l:List (Int×List dM)) (aN:Own h 90 3 x (l.flatMap b6)) (aw:l.length≤2 ^ 40) :
  af ds 54 [x,.func (.func g) [] []] h fun r h'=>r=.tuple []∧J h h' (a6 x)∧∃ bU:List (Int×List dM),bU.Perm l∧(bU.Pairwise fun a b=>ltOf cf b a=false)∧Own h' 90 3 x (bU.flatMap b6):=by
 refine Xy (by decide) Ho (fun x=>rfl) OW lB tI
  (fun n enc hk h1 cf lB hs cap d w ay hH al aa=>AnyQ.slices_SortFunc ad4 3 Tryz.isAgg90 Tryz.sizeOf90 enc hk h1 cf lB g #[] hs 0 cap d w Vo ay hH al aa) (fun aG=>?_) aN (by omega)
 subst aG;have hlen:dS ds 31 x h=some (.int .i64 0):=by
  rcases aN with ⟨rfl | rfl,_⟩ | ⟨i,len,cap,c,ex,rfl,_,_,aw,_⟩
  ·exact xC NS
  ·exact y1 NS
  ·have:len=0:=by simp at aw;omega
   subst this;exact y0 NS
 exact asd h x _ 0 (.inl rfl) hlen
def asf:Go.Shelf.Ren:=⟨fun | 6=>57 | 15=>97 | 14=>99 | 28=>131 | 29=>132 | 20=>133 | 21=>134 | 22=>135 | 23=>136 | 24=>137 | 25=>138 | 26=>139 | 27=>140 | 46=>164 | 47=>160 | 48=>161 | 49=>165 | 50=>166 | 57=>184 | n=>n,fun | 22=>32 | 24=>57 | 25=>127 | 3=>3 | 39=>189 | 0=>0 | 53=>236 | 55=>131 | 4=>4 | 46=>229 | 45=>228 | 50=>233 | 5=>5 | 9=>9 | 66=>270 | 70=>274 | 76=>310 | 77=>82 | n=>n,fun | n=>n⟩
theorem ad5:Go.Proofs.SlLaysF0.n6 ds asf:={
 mixed:=by kernel_rfl
 f6:=⟨Tryz.f57.name,by decide,aBS.trans (congrArg some (by kernel_rfl))⟩
 f14:=⟨Tryz.f99.name,by decide,aBT.trans (congrArg some (by kernel_rfl))⟩
 f15:=axY.trans (congrArg some (by kernel_rfl))
 f20:=⟨Tryz.f133.name,by decide,aBU.trans (congrArg some (by kernel_rfl))⟩
 f21:=⟨Tryz.f134.name,by decide,Tryz.func134.trans (congrArg some (by kernel_rfl))⟩
 f22:=⟨Tryz.f135.name,by decide,Tryz.func135.trans (congrArg some (by kernel_rfl))⟩
 f23:=⟨Tryz.f136.name,by decide,Tryz.func136.trans (congrArg some (by kernel_rfl))⟩
 f24:=⟨Tryz.f137.name,by decide,Tryz.func137.trans (congrArg some (by kernel_rfl))⟩
 f25:=⟨Tryz.f138.name,by decide,Tryz.func138.trans (congrArg some (by kernel_rfl))⟩
 f26:=⟨Tryz.f139.name,by decide,Tryz.func139.trans (congrArg some (by kernel_rfl))⟩
 f27:=⟨Tryz.f140.name,by decide,Tryz.func140.trans (congrArg some (by kernel_rfl))⟩
 f28:=ay0.trans (congrArg some (by kernel_rfl))
 f29:=axX.trans (congrArg some (by kernel_rfl))
 f46:=⟨Tryz.f164.name,by decide,Tryz.func164.trans (congrArg some (by kernel_rfl))⟩
 f47:=ay1.trans (congrArg some (by kernel_rfl))
 f48:=ay2.trans (congrArg some (by kernel_rfl))
 f49:=⟨Tryz.f165.name,by decide,Tryz.func165.trans (congrArg some (by kernel_rfl))⟩
 f50:=⟨Tryz.f166.name,by decide,Tryz.func166.trans (congrArg some (by kernel_rfl))⟩
 f57:=⟨Tryz.f184.name,by decide,Tryz.func184.trans (congrArg some (by kernel_rfl))⟩
 t0:=ay3
 a0:=ay4
 z0:=ay5
 v0:=ay6
 t3:=axu
 a3:=ay7
 z3:=ay8
 v3:=ay9
 t4:=aza
 a4:=azb
 z4:=azc
 v4:=azd
 t5:=aze
 a5:=azf
 z5:=azg
 v5:=azh
 t9:=azi
 a9:=azj
 z9:=azk
 v9:=azl
 t22:=Tryz.underlying32
 a22:=Tryz.isAgg32
 z22:=Tryz.sizeOf32
 v22:=Tryz.zeroValue32
 t25:=Tryz.underlying127
 a25:=Tryz.isAgg127
 z25:=Tryz.sizeOf127
 v25:=Tryz.zeroValue127
 t39:=azm
 a39:=azn
 z39:=azo
 v39:=azp
 t45:=azC
 a45:=azD
 z45:=azE
 v45:=azF
 t46:=azG
 a46:=azH
 z46:=azI
 v46:=azJ
 t50:=azy
 a50:=azz
 z50:=azA
 v50:=azB
 t53:=azq
 a53:=azr
 z53:=azs
 v53:=azt
 t55:=azu
 a55:=azv
 z55:=azw
 v55:=azx
 t66:=azK
 a66:=azL
 z66:=azM
 v66:=azN
 t70:=azO
 a70:=azP
 z70:=azQ
 v70:=azR
 t76:=azS
 a76:=azT
 z76:=azU
 v76:=azV
 t77:=azW
 a77:=azX
 z77:=azY
 v77:=azZ }
theorem asg (h:I) (x c:V) (n lim:Int) (aG:n≤1) (aK:0≤n):Pure ds 133 [x,.int .i64 0,.int .i64 n,c] h (.tuple []):=by
 refine Pure.val (a7.tuple a1.nil) ?_;refine af.au (c:=_) aBU rfl (by kernel_rfl) (by simp) ?_
 have bR:IntKind.i64.wrap (0+1)=1:=by decide
 simp only [ae,vt,bR];refine aZ.bQ (α:=Unit) (fun _ f h'=>f 8=.int .i64 1∧f 2=.int .i64 n∧h'=h) (fun _=>0) () ⟨rfl,rfl,rfl⟩ ?_
 rintro _ f h' ⟨f8,f2,rfl⟩
 refine ee (by kernel_rfl) ?_
 have d1:decide (1<n)=false:=decide_eq_false (by omega)
 simp only [ae,vt,f8,f2,d1,kQ,Tryz.results133,hK];exact ax ⟨rfl,J.refl _ _⟩
theorem ash (h:I) (x c:V) (n l:Int) (aG:n≤1) (aK:0≤n):Pure ds 99 [x,.int .i64 0,.int .i64 n,.int .i64 l,c] h (.tuple []):=by
 refine Pure.val (a7.tuple a1.nil) ?_;refine af.au (c:=_) aBT rfl (by kernel_rfl) (by simp) ?_
 simp only [ae];refine aZ.bQ (α:=Unit) (fun _ f h'=>f 0=x∧f 1=.int .i64 0∧f 2=.int .i64 n∧f 4=c∧h'=h) (fun _=>0) () ⟨rfl,rfl,rfl,rfl,rfl⟩ ?_
 rintro _ f h' ⟨f0,f1,f2,f4,rfl⟩
 refine ee (by kernel_rfl) ?_
 have hw:IntKind.i64.wrap (n - 0)=n:=by rw [Go.IntWalk.i64_in _ (by omega)];omega
 have d1:decide (n≤12)=true:=decide_eq_true (by omega)
 simp only [ae,vt,reduceCtorEq,f0,f1,f2,f4,hw,d1];refine bW alF (asg _ x c n 0 aG aK) ?_;simp only [ae,aS,Tryz.results99,hK];exact ax ⟨rfl,J.refl _ _⟩
theorem asi (h:I) (x c:V) (n:Int) (aG:n=0∨n=1) (aw:dS ds 32 x h=some (.int .i64 n)):Pure ds 57 [x,c] h (.tuple []):=by
 refine Pure.val (a7.tuple a1.nil) ?_;refine af.au (c:=_) aBS rfl (by kernel_rfl) (by simp) ?_
 have hw:IntKind.u64.wrap n=n:=by rcases aG with rfl | rfl<;>decide
 simp only [ae,vt,reduceCtorEq,wn,iA,aw,hw];refine bW Ys (Kn h n aG) ?_;simp only [ae,vt];refine bW amw (ash h x c n n (by omega) (by omega)) ?_
 simp only [ae,kQ,Tryz.results57,hK];exact ax ⟨rfl,J.refl _ _⟩
theorem asj {g:FuncId} {cf:mF→mF→Int} (lB:SWO (ltOf cf)) (tI:∀ a b,af ds g [.agg (ct a),.agg (ct b)] xE fun r _=>r=.int .i64 (cf a b))
  (Vo:∀ args w,(callFunc g args).run ds w=.ok (.enter g args) w) (h:I) (x:V) (l:List mF) (aN:Own h 57 6 x (l.flatMap ct)) (aw:l.length≤2 ^ 40) :
  af ds 57 [x,.func (.func g) [] []] h fun r h'=>r=.tuple []∧J h h' (a6 x)∧∃ bU:List mF,bU.Perm l∧(bU.Pairwise fun a b=>ltOf cf b a=false)∧Own h' 57 6 x (bU.flatMap ct):=by
 refine Xy (by decide) Hq (fun x=>rfl) Vj lB tI
  (fun n enc hk h1 cf lB hs cap d w ay hH al aa=>AnyQ.slices_SortFunc ad5 6 Tryz.isAgg57 Tryz.sizeOf57 enc hk h1 cf lB g #[] hs 0 cap d w Vo ay hH al aa) (fun aG=>?_) aN (by omega)
 subst aG;have hlen:dS ds 32 x h=some (.int .i64 0):=by
  rcases aN with ⟨rfl | rfl,_⟩ | ⟨i,len,cap,c,ex,rfl,_,_,aw,_⟩
  ·exact xC NT
  ·exact y1 NT
  ·have:len=0:=by simp at aw;omega
   subst this;exact y0 NT
 exact asi h x _ 0 (.inl rfl) hlen
def w6 (x y:Int):Int:=if x<y then -1 else if y<x then 1 else 0
theorem ad6 (h:I) (x:Int):Pure ds 98 [.int .i64 x] h (.bool false):=by
 refine Pure.val (a7.bool _) ?_;refine af.au (c:=_) Tryz.func98 rfl (by kernel_rfl) (by simp) ?_
 have e:(x !=x)=false:=by simp
 simp only [ae,vt,reduceCtorEq,aS,Tryz.results98,ac];exact ax ⟨rfl,J.refl _ _⟩
theorem ad7 (h:I) (x y:Int):Pure ds 56 [.int .i64 x,.int .i64 y] h (.int .i64 (w6 x y)):=by
 refine Pure.val (a7.int _ _) ?_;refine af.au (c:=_) Tryz.func56 rfl (by kernel_rfl) (by simp) ?_
 simp only [ae,MD,vt,reduceCtorEq];refine bW Yt (ad6 h x) ?_;simp only [ae,MD,vt];refine bW Yt (ad6 h y) ?_;by_cases h1:x<y
 ·have d1:decide (x<y)=true:=decide_eq_true h1;simp only [ae,MD,vt,reduceCtorEq,d1,aS,az6,ac];exact ax ⟨by rw [w6,if_pos h1],J.refl _ _⟩
 ·have d1:decide (x<y)=false:=decide_eq_false h1;by_cases ad:y<x
  ·have d2:decide (y<x)=true:=decide_eq_true ad;simp only [ae,MD,vt,reduceCtorEq,d1,d2,aS,az6,ac];exact ax ⟨by rw [w6,if_neg h1,if_pos ad],J.refl _ _⟩
  ·have d2:decide (y<x)=false:=decide_eq_false ad;simp only [ae,MD,vt,reduceCtorEq,d1,d2,aS,az6,ac];exact ax ⟨by rw [w6,if_neg h1,if_neg ad],J.refl _ _⟩
theorem asl (a b:(Int×List dM)) (h:I):Pure ds 55 [.agg (b6 a),.agg (b6 b)] h (.int .i64 (w6 a.1 b.1)):=by
 refine Pure.val (a7.int _ _) ?_;refine af.au (c:=_) aBV rfl (by kernel_rfl) (by simp) ?_
 have kN:(V.agg (b6 a)).cells=some (b6 a):=rfl;have rK:(V.agg (b6 b)).cells=some (b6 b):=rfl;have Vp:cP (aO.cells (b6 a) 90 none) 0=some (b6 a):=rfl;have Vq:cP (aO.cells (b6 b) 90 none) 0=some (b6 b):=rfl;have EH:cO (some none) (some (b6 a))=some (.int .i64 a.1):=rfl;have EJ:cO (some none) (some (b6 b))=some (.int .i64 b.1):=rfl;have ba:J h ((h.push (.cells (b6 a) 90 none)).push (.cells (b6 b) 90 none)) none_:=(J.push _ _ _).trans' (J.push _ _ _);simp only [ae,vt,YI,aW,kN,rK,Vp,Vq,EH,EJ];refine bW Yk (ad7 _ a.1 b.1) ?_;simp only [ae,vt,aS,Tryz.results55,ac];exact ax ⟨rfl,ba⟩
theorem asm (h:I) (x:V) (l:List (Int×List dM)) (aN:Own h 90 3 x (l.flatMap b6)) (aw:l.length≤2 ^ 40) :
  af ds 54 [x,.func (.func 55) [] []] h fun r h'=>r=.tuple []∧J h h' (a6 x)∧∃ bU:List (Int×List dM),bU.Perm l∧(bU.Pairwise fun a b=>¬b.1<a.1)∧Own h' 90 3 x (bU.flatMap b6):=by
 have e:∀ a b:(Int×List dM),ltOf (fun a b:(Int×List dM)=>w6 a.1 b.1) a b=decide (a.1<b.1):=fun a b=>by
  unfold ltOf w6;rw [avv];simp only [decide_eq_true_eq];split<;>(try split)<;>omega
 refine (ase (cf:=fun a b=>w6 a.1 b.1) ⟨fun a=>by rw [e];simp,fun a b c h1 ad=>by rw [e] at *;simp at *;omega,fun a b c h1 ad=>by rw [e] at *;simp at *;omega⟩
  (fun a b=>(asl a b xE).mono fun r h' U=>U.1) (enters_of aBV (by kernel_rfl) rfl) h x l aN aw).mono fun r h' ⟨h1,ad,bU,aU,aa,aN⟩=>⟨h1,ad,bU,aU,aa.imp fun {a b} ky=>by rw [e] at ky;simpa using ky,aN⟩
theorem asn (a b:mF) (h:I):Pure ds 58 [.agg (ct a),.agg (ct b)] h (.int .i64 (w6 a.t b.t)):=by
 refine Pure.val (a7.int _ _) ?_;refine af.au (c:=_) aBW rfl (by kernel_rfl) (by simp) ?_
 have kN:(V.agg (ct a)).cells=some (ct a):=rfl;have rK:(V.agg (ct b)).cells=some (ct b):=rfl;have Vp:cP (aO.cells (ct a) 57 none) 0=some (ct a):=rfl;have Vq:cP (aO.cells (ct b) 57 none) 0=some (ct b):=rfl;have EH:cO (some none) (some (ct a))=some (.int .i64 a.t):=rfl;have EJ:cO (some none) (some (ct b))=some (.int .i64 b.t):=rfl;have ba:J h ((h.push (.cells (ct a) 57 none)).push (.cells (ct b) 57 none)) none_:=(J.push _ _ _).trans' (J.push _ _ _);simp only [ae,vt,YH,aW,kN,rK,Vp,Vq,EH,EJ];refine bW Yk (ad7 _ a.t b.t) ?_;simp only [ae,vt,aS,Tryz.results58,ac];exact ax ⟨rfl,ba⟩
theorem aso (h:I) (x:V) (l:List mF) (aN:Own h 57 6 x (l.flatMap ct)) (aw:l.length≤2 ^ 40) :
  af ds 57 [x,.func (.func 58) [] []] h fun r h'=>r=.tuple []∧J h h' (a6 x)∧∃ bU:List mF,bU.Perm l∧(bU.Pairwise fun a b=>¬b.t<a.t)∧Own h' 57 6 x (bU.flatMap ct):=by
 have e:∀ a b:mF,ltOf (fun a b:mF=>w6 a.t b.t) a b=decide (a.t<b.t):=fun a b=>by
  unfold ltOf w6;rw [avv];simp only [decide_eq_true_eq];split<;>(try split)<;>omega
 refine (asj (cf:=fun a b=>w6 a.t b.t) ⟨fun a=>by rw [e];simp,fun a b c h1 ad=>by rw [e] at *;simp at *;omega,fun a b c h1 ad=>by rw [e] at *;simp at *;omega⟩
  (fun a b=>(asn a b xE).mono fun r h' U=>U.1) (enters_of aBW (by kernel_rfl) rfl) h x l aN aw).mono fun r h' ⟨h1,ad,bU,aU,aa,aN⟩=>⟨h1,ad,bU,aU,aa.imp fun {a b} ky=>by rw [e] at ky;simpa using ky,aN⟩
theorem asp (h:I) (p:Int×List dM):ie ds 31 1 [(0,.agg (b6 p))] h=some (.bj h.n 0 1 1,h.push (.cells (b6 p) 90 none)):=by rw [lY YY];rfl
theorem asq (h:I) (p:mF):ie ds 32 1 [(0,.agg (ct p))] h=some (.bj h.n 0 1 1,h.push (.cells (ct p) 57 none)):=by rw [lY YZ];rfl
theorem asr {aK h:I} {lm b3 lc dJ:Nat} {s:n1} {L T:jV} (w:wh aK h lm b3 s L lc T dJ) (gH:L.length≤2 ^ 30) :
  af ds 28 [.agg [.map lm,.map b3]] h (fun r h'=>∃ out:List (Int×List dM),out.Perm (L.map fun e=>(e.2.1,s.logs e.2.1))∧(out.Pairwise fun a b=>¬b.1<a.1)∧Acc h h' 90 3 r (out.flatMap b6)):=by
 obtain ⟨q,ab⟩:∃ q,eL ds 71=some q:=by
  obtain ⟨h3,hm,_⟩:=U2;exact ⟨_,hm⟩
 refine af.au (c:=_) Tryz.func28 rfl (by kernel_rfl) (by simp) ?_
 have ay:(V.agg [.map lm,.map b3]).cells=some [.map lm,.map b3]:=rfl;have LX:(h.push (.cells [.map lm,.map b3] 74 none)).get lm=.map (hD L) lc:=(lx w.CX).trans w.n5;have mY:=M7 ab LX;have fr:(L.map (·.1)).Nodup:=by
  have:=w.mh.2;rwa [show (hD L).map (·.1)=L.map (·.1) from XC L] at this
 have aM:=w.CX;simp only [ae,vt,AS,SK,SX,ay,mY];refine aZ.bQ (α:=jV) (fun cR f h'=>f 8=.ptr (h.n+1) 0∧h.n+1<h'.n∧h'.get (h.n+1)=.iter lm lc (cR.map (·.1)) lc∧Acc h h' 90 3 (f 3) ((cR.map fun e=>(e.2.1,s.logs e.2.1)).flatMap b6) ∧
  a8 (f 3)≠some (h.n+1)∧(∀ e ∈ cR,e ∈ L)∧(cR.map (·.1)).Nodup) (fun cR=>(nk (hD L) (cR.map (·.1))).length) []
  ⟨rfl,by simp only [dq];omega,by simp [I.push],Acc.nil ((J.push _ _ _).trans' (J.push _ _ _)),(show a8 V.ag≠some (h.n+1) by simp [a8]),by simp,by simp⟩ ?_
 rintro cR f ad ⟨f8,dy,Cq,acc,ga,oi,xU⟩
 have hh:ad.get lm=.map (hD L) lc:=(acc.ai.get lm aM (by simp [none_])).trans w.n5
 refine ee (by kernel_rfl) ?_
 simp only [ae,f8];refine M4 Cq hh w.mh (fun j3=>?_) fun e he=>?_
 ·have aU:=XE fr xU oi (XF j3);have ll:=aU.length_eq;simp only [ae,vt];refine cB ame (asm ad (f 3) _ acc.own (by rw [VY];omega)) fun r aD ⟨aC,b2,out,pl,bj,dZ⟩=>?_
  subst aC;simp only [ae,vt,aS,Tryz.results28,ac];exact ax ⟨out,pl.trans (aU.map _),bj,dZ,acc.ai.trans b2 fun q ab e=>by have:=acc.new q e;omega,acc.new⟩
 ·obtain ⟨x,aj,rfl,xV⟩:=XG he;have less:=M6 he;obtain ⟨n3,EL,Fv⟩:=XH xU oi aj xV;obtain ⟨ln,dC,C3⟩:=w.has x.2.1 x.2.2 (px w.kc aj);obtain ⟨xs,lg,Al⟩:=x;simp only at less he xV ln dC C3;generalize hH:ad.set (h.n+1) (.iter lm lc (cR.map (·.1)++[xs]) lc)=H;have w4:Acc h H 90 3 (f 3) ((cR.map fun e=>(e.2.1,s.logs e.2.1)).flatMap b6):=by rw [←hH];exact acc.set (by omega) ga _
  have ju:H.n=ad.n:=by rw [←hH];rfl
  have lL:H.get (h.n+1)=.iter lm lc (cR.map (·.1)++[xs]) lc:=by rw [←hH];exact aT
  have zN:H.get lm=.map (hD L) lc:=(w4.ai.get lm aM (by simp [none_])).trans w.n5
  have wR:=M5 lL zN w.mh (afP.1 he).1;simp only at wR;have EM:H.get Al=.cells (b6 (lg,s.logs lg)) 90 none:=(w4.ai.get Al C3 (by simp [none_])).trans ln
  have ass:cP (aO.cells (b6 (lg,s.logs lg)) 90 none) 0=some (b6 (lg,s.logs lg)):=rfl;have qg:(b6 (lg,s.logs lg)).take 3=b6 (lg,s.logs lg):=rfl;have Ga:=Ho (lg,s.logs lg);have lit:=asp H (lg,s.logs lg);obtain ⟨cJ,bn,fh,Cv,oN,d4⟩:=Np (P:=ds) YY (by decide) w4.own (xs:=b6 (lg,s.logs lg)) rfl rfl (fun m hm=>by
   change m * 3=_+3 at hm;rw [gM Ho,VY] at hm;exact ⟨by simp only [lim];omega,by simp only [lim];omega⟩)
  have a4:=w4.step Cv oN d4;have ad8:=oN.n;simp only [ae,vt,Jr,f8,wR,EM,ass,qg,Ga,lit,fh];refine ax ⟨cR++[(xs,lg,Al)],⟨f8,by omega,?_,a4.conv ?_,?_,EL,n3⟩,?_⟩
  ·rw [oN.get (h.n+1) (by omega) (fun U=>ga U),lL];simp
  ·rw [avz,avH,au9,avw];simp
  ·intro U;rcases d4 with d | d
   ·exact ga (d ▸ U)
   ·have:=d _ U;omega
  ·rw [avz];exact less
theorem ast {aK h:I} {lm b3 lc dJ:Nat} {s:n1} {L T:jV} (w:wh aK h lm b3 s L lc T dJ) (gH:T.length≤2 ^ 30) :
  af ds 29 [.agg [.map lm,.map b3]] h (fun r h'=>∃ out:List mF,out.Perm (T.map fun e=>kY e.2.1 (cn s e.2.1))∧(out.Pairwise fun a b=>¬b.t<a.t)∧Acc h h' 57 6 r (out.flatMap ct)):=by
 obtain ⟨q,ab⟩:∃ q,eL ds 72=some q:=by
  obtain ⟨h3,hm,_⟩:=U1;exact ⟨_,hm⟩
 refine af.au (c:=_) Tryz.func29 rfl (by kernel_rfl) (by simp) ?_
 have ay:(V.agg [.map lm,.map b3]).cells=some [.map lm,.map b3]:=rfl;have LX:(h.push (.cells [.map lm,.map b3] 74 none)).get b3=.map (hD T) dJ:=(lx w.CY).trans w.gt;have mY:=M7 ab LX;have fr:(T.map (·.1)).Nodup:=by
  have:=w.mi.2;rwa [show (hD T).map (·.1)=T.map (·.1) from XC T] at this
 have aM:=w.CY;simp only [ae,vt,AS,By,SL,SY,ay,mY];refine aZ.bQ (α:=jV) (fun cR f h'=>f 9=.ptr (h.n+1) 0∧h.n+1<h'.n∧h'.get (h.n+1)=.iter b3 dJ (cR.map (·.1)) dJ∧Acc h h' 57 6 (f 3) ((cR.map fun e=>kY e.2.1 (cn s e.2.1)).flatMap ct) ∧
  a8 (f 3)≠some (h.n+1)∧(∀ e ∈ cR,e ∈ T)∧(cR.map (·.1)).Nodup) (fun cR=>(nk (hD T) (cR.map (·.1))).length) []
  ⟨rfl,by simp only [dq];omega,by simp [I.push],Acc.nil ((J.push _ _ _).trans' (J.push _ _ _)),(show a8 V.ag≠some (h.n+1) by simp [a8]),by simp,by simp⟩ ?_
 rintro cR f ad ⟨f9,dy,Cq,acc,ga,oi,xU⟩
 have hh:ad.get b3=.map (hD T) dJ:=(acc.ai.get b3 aM (by simp [none_])).trans w.gt
 refine ee (by kernel_rfl) ?_
 simp only [ae,f9];refine M4 Cq hh w.mi (fun j3=>?_) fun e he=>?_
 ·have aU:=XE fr xU oi (XF j3);have ll:=aU.length_eq;simp only [ae,vt];refine cB amf (aso ad (f 3) _ acc.own (by rw [VY];omega)) fun r aD ⟨aC,b2,out,pl,bj,dZ⟩=>?_
  subst aC;simp only [ae,vt,aS,Tryz.results29,ac];exact ax ⟨out,pl.trans (aU.map _),bj,dZ,acc.ai.trans b2 fun q ab e=>by have:=acc.new q e;omega,acc.new⟩
 ·obtain ⟨x,aj,rfl,xV⟩:=XG he;have less:=M6 he;obtain ⟨n3,EL,Fv⟩:=XH xU oi aj xV;obtain ⟨j,ln,dC,C3⟩:=w.jY x.2.1 x.2.2 (px w.kd aj);obtain ⟨xs,lg,Al⟩:=x;simp only at less he xV ln dC C3;have ad9:cn s lg=j:=by unfold cn;rw [ln];rfl
  generalize hH:ad.set (h.n+1) (.iter b3 dJ (cR.map (·.1)++[xs]) dJ)=H;have w4:Acc h H 57 6 (f 3) ((cR.map fun e=>kY e.2.1 (cn s e.2.1)).flatMap ct):=by rw [←hH];exact acc.set (by omega) ga _
  have ju:H.n=ad.n:=by rw [←hH];rfl
  have lL:H.get (h.n+1)=.iter b3 dJ (cR.map (·.1)++[xs]) dJ:=by rw [←hH];exact aT
  have zN:H.get b3=.map (hD T) dJ:=(w4.ai.get b3 aM (by simp [none_])).trans w.gt
  have wR:=M5 lL zN w.mi (afP.1 he).1;simp only at wR;have EM:H.get Al=.cells (ue lg j) 125 none:=(w4.ai.get Al C3 (by simp [none_])).trans dC
  obtain ⟨bK,bs⟩:∃ y,y=H.push (.cells (ct (kY lg j)) 57 none):=⟨_,rfl⟩;have ba:J H bK none_:=by rw [bs];exact J.push _ _ _
  have aea:=w4.on ba;have auX:bK.n=H.n+1:=by rw [bs];rfl
  have Bd:bK.get H.n=.cells (ct (kY lg j)) 57 none:=by rw [bs];exact ck
  have lit:ie ds 32 1 [(0,.agg [.int .i64 lg,.int .i64 j.ep,.int .i64 j.tx,.ah j.offs.length (ar j.offs),.ah j.ord.length (ar j.ord),.int .i64 (j.opn.length:Nat)])] bK=some (.bj bK.n 0 1 1,bK.push (.cells (ct (kY lg j)) 57 none)):=asq bK (kY lg j);have fT:H.push (.cells [.int .i64 lg,.int .i64 j.ep,.int .i64 j.tx,.ah j.offs.length (ar j.offs),.ah j.ord.length (ar j.ord),.int .i64 (j.opn.length:Nat)] 57 none)=bK:=by rw [bs];rfl
  obtain ⟨cJ,bn,fh,Cv,oN,d4⟩:=Np (P:=ds) YZ (by decide) aea.own (xs:=ct (kY lg j)) rfl rfl (fun m hm=>by
   change m * 6=_+6 at hm;rw [gM Hq,VY] at hm;exact ⟨by simp only [lim];omega,by simp only [lim];omega⟩)
  have a4:=aea.step Cv oN d4;have ad8:=oN.n;have g1:bK.get (h.n+1)=.iter b3 dJ (cR.map (·.1)++[xs]) dJ:=(ba.get (h.n+1) (by omega) (by simp [none_])).trans lL
  have auY:=w4.ai.n;have aeb:bK.get H.n=.cells [.int .i64 lg,.int .i64 j.ep,.int .i64 j.tx,.ah j.offs.length (ar j.offs),.ah j.ord.length (ar j.ord),.int .i64 (j.opn.length:Nat)] 57 none:=Bd;have aec:∀ o,(H.push o).get Al=.cells (ue lg j) 125 none:=fun o=>(lx (by omega)).trans EM
  simp only [ae,vt,AS,By,y9,GC,amI,Jl,SQ,GO,GQ,oo,Jy,f9,wR,EM,aec,aeb,ue,fT,lit,fh];refine ax ⟨cR++[(xs,lg,Al)],⟨f9,by omega,?_,a4.conv ?_,?_,EL,n3⟩,?_⟩
  ·rw [oN.get (h.n+1) (by omega) (fun U=>ga U),g1];simp
  ·rw [avz,avH,au9,avw,ad9];simp
  ·intro U;rcases d4 with d | d
   ·exact ga (d ▸ U)
   ·have:=d _ U;omega
  ·rw [avz];exact less
theorem EN {l ez:List V} {h ad:I} (a:aq l h ez ad):aA (.agg l) h (.agg ez) ad:=fun ρ B aJ w c0 hw aH=>by
 cases aH with
 | agg aa aj=>
  rename_i xs;obtain ⟨ρ1,hc,cV,v1⟩:=a ρ B aJ w xs.toList hw ⟨by simpa using aa,by simpa using aj⟩
  exact ⟨ρ1,hc,cV,v1.jz.agg⟩
theorem aed {α:Type} {key:α→Int} {l:List α} (aG:(l.map key).Nodup) (aa:l.Pairwise fun a b=>¬key b<key a):l.Pairwise fun a b=>key a<key b:=by
 have h1:l.Pairwise fun a b=>key a≠key b:=awf.1 aG;exact (h1.and aa).imp fun ⟨h1,ad⟩=>by omega
theorem wh.Hr {aK h:I} {lm b3 lc dJ:Nat} {l:List bC} {L T:jV} (w:wh aK h lm b3 (ik l) L lc T dJ) {out:List (Int×List dM)} (aU:out.Perm (L.map fun e=>(e.2.1,(ik l).logs e.2.1))) (aa:out.Pairwise fun a b=>¬b.1<a.1):out=wi l:=by
 have aG:(out.map (·.1)).Nodup:=by
  refine (aU.map (·.1)).nodup_iff.2 ?_;rw [avU];exact w.kc
 refine Vm (key:=(·.1)) (fun p=>?_) (aed (key:=fun p:Int×List dM=>p.1) aG aa) (EK l).adT;rw [aU.mem_iff,(EK l).lm,MF]
 constructor
 ·rintro ⟨e,he,rfl⟩
  exact ⟨rfl,(w.has _ _ (px w.kc he)).2.1⟩
 ·rintro ⟨h1,ad⟩
  cases hk:bZ L p.1 with
  | none=>exact absurd (w.jX _ hk) (h1 ▸ ad)
  | some b=>
   obtain ⟨e,he,bd⟩:=IZ hk;refine ⟨e,he,?_⟩;rw [bd,←h1]
theorem wh.uf {aK h:I} {lm b3 lc dJ:Nat} {l:List bC} {L T:jV} (w:wh aK h lm b3 (ik l) L lc T dJ) {out:List mF} (aU:out.Perm (T.map fun e=>kY e.2.1 (cn (ik l) e.2.1))) (aa:out.Pairwise fun a b=>¬b.t<a.t):out=wj l:=by
 have aG:(out.map (·.t)).Nodup:=by
  refine (aU.map (·.t)).nodup_iff.2 ?_;rw [avU];exact w.kd
 refine Vm (key:=(·.t)) (fun p=>?_) (aed (key:=fun p:mF=>p.t) aG aa) (EK l).adU;rw [aU.mem_iff,(EK l).b3,MF]
 constructor
 ·rintro ⟨e,he,rfl⟩
  obtain ⟨j,h1,_⟩:=w.jY _ _ (px w.kd he);exact ⟨j,h1,by unfold cn;rw [show (kY e.2.1 ((ik l).tasks e.2.1 |>.getD wQ)).t=e.2.1 from rfl,h1];rfl⟩
 ·rintro ⟨j,h1,ad⟩
  cases hk:bZ T p.t with
  | none=>rw [w.jZ _ hk] at h1;cases h1
  | some b=>
   obtain ⟨e,he,bd⟩:=IZ hk;refine ⟨e,he,?_⟩;rw [bd];unfold cn;rw [h1];exact ad.symm
theorem wh.len {aK h:I} {lm b3 lc dJ:Nat} {l:List bC} {L T:jV} (w:wh aK h lm b3 (ik l) L lc T dJ):L.length≤l.length∧T.length≤l.length:=by
 have bg:=OZ _ l rfl;have h1:(L.map (·.2.1)).length≤(l.map (·.log)).length:=axb.length_le_of_subset w.kc fun k hk=>by
  obtain ⟨e,he,rfl⟩:=MF.1 hk;exact bg.sD _ (w.has _ _ (px w.kc he)).2.1
 have ad:(T.map (·.2.1)).length≤(l.map (·.task)).length:=axb.length_le_of_subset w.kd fun k hk=>by
  obtain ⟨e,he,rfl⟩:=MF.1 hk;obtain ⟨j,h1,_⟩:=w.jY _ _ (px w.kd he);exact (bg.qg _ _ h1).1
 simpa using And.intro h1 ad
theorem aee (l:List bC) (aw:l.length≤2 ^ 30) (he:∀ x ∈ l,Bh x) (h:I) (hu:vc h):Pure ds 10 [.ah l.length (l.flatMap bh)] h (.agg (cu (toldOf l))):=by
 refine Pure.of (a7.agg (ar1 _)) ?_;refine af.au (c:=_) Tryz.func10 rfl (by kernel_rfl) (by simp) ?_
 simp only [ae,vt,reduceCtorEq,Jv];obtain ⟨eQ,dx⟩:∃ y,y=h.push (.cells [.ag,.ag,.int .i64 0] 34 none):=⟨_,rfl⟩;have gz:J h eQ none_:=by rw [dx];exact J.push _ _ _
 have g0:eQ.get h.n=.cells [.ag,.ag,.int .i64 0] 34 none:=by rw [dx];exact ck
 have ot:eQ.n=h.n+1:=by rw [dx];rfl
 rw [←dx];clear dx;refine cB al2 (ar8 l aw he eQ (by unfold vc;rw [gz.glob];exact hu)) fun r h1 ⟨lm,b3,L,lc,T,dJ,ia,w⟩=>?_
 subst ia;obtain ⟨gH,cd⟩:=w.len;have fv:=w.ai.n;have ay:(V.agg [.map lm,.map b3]).cells=some [.map lm,.map b3]:=rfl;have st:bF (some 2) (aO.cells [V.ff,.ff] 74 none) 0 [.map lm,.map b3]=some (.cells [.map lm,.map b3] 74 none):=rfl;obtain ⟨H1,hC⟩:∃ y,y=h1.push (.cells [.map lm,.map b3] 74 none):=⟨_,rfl⟩;have bJ:J h1 H1 none_:=by rw [hC];exact J.push _ _ _
 have g1:H1.get h1.n=.cells [.map lm,.map b3] 74 none:=by rw [hC];exact ck
 have auv:H1.n=h1.n+1:=by rw [hC];rfl
 have aef:H1.get h.n=_:=((w.ai.trans' bJ).get h.n (by omega) (by simp [none_])).trans g0
 have cV:=w.on bJ;simp only [ae,vt,Y8,Td,ay,st];rw [←hC];clear hC;refine aZ.bB none_ [1,3,7] (.q 0 (.q 2 (.q 4 (.q 5 (.e 1 (.e 3 (.q 6 (.a 7 .done)) .stop) .stop))))) (by kernel_rfl) (by kernel_rfl) (by kernel_rfl) ?_
 simp only [ae,bM,vt,AS,reduceCtorEq,AH,DW,g1];refine cB al3 (asr cV (by omega)) fun cZ ad ⟨asu,pr,s1,cb⟩=>?_
 obtain rfl:=cV.Hr pr s1;have bS:=cV.on cb.ai;have rV:=cb.ai;simp only [ae,bM,vt,rV];refine cB al4 (ast bS (by omega)) fun dI aD ⟨asv,sS,s2,a2⟩=>?_
 obtain rfl:=bS.uf sS s2;have k5:J H1 aD none_:=cb.ai.trans' a2.ai;have vu:cZ.one=true:=by rcases cb.own with ⟨rfl | rfl,_⟩ | ⟨_,_,_,_,_,rfl,_⟩<;>rfl
 have Bj:dI.one=true:=by rcases a2.own with ⟨rfl | rfl,_⟩ | ⟨_,_,_,_,_,rfl,_⟩<;>rfl
 have vf:cZ.cells=some [cZ]:=by rcases cb.own with ⟨rfl | rfl,_⟩ | ⟨_,_,_,_,_,rfl,_⟩<;>rfl
 have vg:dI.cells=some [dI]:=by rcases a2.own with ⟨rfl | rfl,_⟩ | ⟨_,_,_,_,_,rfl,_⟩<;>rfl
 have Ub:bF (some 3) (aO.cells [V.ag,.ag,.int .i64 0] 34 none) 0 [cZ,dI,.int .i64 (l.length:Nat)]=some (.cells [cZ,dI,.int .i64 (l.length:Nat)] 34 none):=by
  rcases cb.own with ⟨rfl | rfl,_⟩ | ⟨_,_,_,_,_,rfl,_⟩<;>rcases a2.own with ⟨rfl | rfl,_⟩ | ⟨_,_,_,_,_,rfl,_⟩<;>rfl
 have J7:aD.get h.n=.cells [.ag,.ag,.int .i64 0] 34 none:=(k5.get h.n (by omega) (by simp [none_])).trans aef
 simp only [ae,bM,vt,AS,By,vO,YU,Jv,Tb,k5,J7,Ub,vf,vg,aS,Tryz.results10,vH,fB];obtain ⟨F,hW⟩:∃ y,y=aD.set h.n (.cells [cZ,dI,.int .i64 (l.length:Nat)] 34 none):=⟨_,rfl⟩;have u0:J aD F (·=h.n):=by rw [hW];exact J.set _ _ _
 have qO:J h F none_:=(gz.trans' ((w.ai.trans' bJ).trans' k5)).trans (by exact u0) fun q ab U=>by omega
 have BJ:=cb.ai.n;have gT:Own F 90 3 cZ ((wi l).flatMap b6):=(cb.own.br a2.ai).ai u0 fun q ab U=>by have:=cb.new q ab;omega
 have dZ:Own F 57 6 dI ((wj l).flatMap ct):=a2.own.ai u0 fun q ab U=>by have:=a2.new q ab;omega
 obtain ⟨auZ,bb,f1⟩:=aA.own (cs:=(wi l).flatMap b6) gT (n:=(wi l).length) (gM Ho _) (by decide)
 have yu:=dZ.ai f1 fun q ab U=>by have h1:=a2.new q ab;have ad:=cb.own.lt q U;omega
 obtain ⟨asw,bt,f2⟩:=aA.own (cs:=(wj l).flatMap ct) yu (n:=(wj l).length) (gM Hq _) (by decide)
 rw [←hW];exact ax ⟨asw,EN (aq.cons bb (aq.cons bt (aq.refl _ _))),(qO.trans f1 fun q ab U=>by have:=cb.new q U;omega).trans f2 fun q ab U=>by have:=a2.new q U;omega⟩
theorem aeg:∀ rs:List dM,(eF rs).all (·.one)=true
 | []=>rfl
 | p::rs=>by
  show (jU p.1++eF rs).all (·.one)=true;rw [List.all_append,aeg rs];rfl
theorem aeh:∀ rs:List dM,(fD rs).all (·.one)=true
 | []=>rfl
 | p::rs=>by
  show ((V.bool p.2).one&&(fD rs).all (·.one))=true;rw [aeh rs];rfl
theorem aei (h:I):ie ds 25 0 [] h=some (.bj h.n 0 0 0,h.push (.cells [] 45 none)):=by rw [lY B9];rfl
theorem aej (h:I):Acc h (h.push (.cells [] 45 none)) 45 3 (.bj h.n 0 0 0) (eF []) :=
 ⟨.inr ⟨h.n,0,0,[],none,rfl,awc _,ck,rfl,rfl,.inl ⟨by simp [cj],BY _,BY _⟩⟩,J.push _ _ _,fun k hk=>by simp [a8] at hk;omega⟩
theorem asx (l:List dM) (aw:l.length≤2 ^ 40) (h:I):Pure ds 78 [.ah l.length (eF l)] h (.ah l.length (eF l)):=by
 refine Pure.of (a7.ah (adP _)) ?_;cases l with
 | nil=>
  refine af.tL ?_ ?_
  ·refine af.au (c:=_) az7 rfl (by kernel_rfl) (by simp) ?_
   have e:=I0 (xo:=.tmp 3) (yo:=.const (.slice none 0 0)) tM;simp only [ae,vt,reduceCtorEq,e,aS,az8,ac];exact ax ⟨h,aA.kI h,J.refl _ _⟩
  ·refine af.au (c:=_) az7 rfl (by kernel_rfl) (by simp) ?_
   have e:∀ xo yo,cH ds .eql 25 xo yo .e6 .ag=some (.bool false):=fun xo yo=>Sd tM;obtain ⟨v1,h1,aC,cb⟩:=Acc.qs (P:=ds) (tx:=25) B9 (aej h) (by decide) (Sf tM) rfl (fun m hm=>by
    change m * 3=_ at hm;obtain rfl:m=0:=by simp [eF] at hm;omega
    exact ⟨by decide,by decide⟩)
   have mJ:=aei h;simp only [ae,vt,reduceCtorEq,e,mJ,aC,aS,az8,ac];obtain ⟨ad,bt,ba⟩:=cb.cast (n:=0) rfl (by decide)
   exact ax ⟨ad,bt,ba⟩
 | cons x l=>
  refine af.au (c:=_) az7 rfl (by kernel_rfl) (by simp) ?_
  have e:∀ xo yo,cH ds .eql 25 xo yo (.ah (x::l).length (eF (x::l))) .ag=some (.bool false):=fun xo yo=>Se tM (by simp)
  obtain ⟨v1,h1,aC,cb⟩:=Acc.qs (P:=ds) (tx:=25) B9 (aej h) (by decide) (Ia tM (i5 _) (aeg (x::l))) (i5 _) (fun m hm=>by
   change m * 3=(eF []).length+(eF (x::l)).length at hm;rw [i5,i5,avi] at hm;exact ⟨by simp only [lim];omega,by simp only [lim];omega⟩)
  have mJ:=aei h;generalize (x::l)=q at e aC cb aw⊢;simp only [ae,vt,reduceCtorEq,e,mJ,aC,aS,az8,ac];obtain ⟨ad,bt,ba⟩:=cb.cast (n:=q.length) (by rw [show eF []=[] from rfl,avG,i5]) (by decide)
  exact ax ⟨ad,bt,ba⟩
theorem aek (h:I):ie ds 88 0 [] h=some (.bj h.n 0 0 0,h.push (.cells [] 4 none)):=by rw [lY GP];rfl
theorem ael (h:I):Acc h (h.push (.cells [] 4 none)) 4 1 (.bj h.n 0 0 0) (fD []) :=
 ⟨.inr ⟨h.n,0,0,[],none,rfl,awc _,ck,rfl,rfl,.inl ⟨by simp [cj],BY _,BY _⟩⟩,J.push _ _ _,fun k hk=>by simp [a8] at hk;omega⟩
theorem asy (l:List dM) (aw:l.length≤2 ^ 40) (h:I):Pure ds 79 [.ah l.length (fD l)] h (.ah l.length (fD l)):=by
 refine Pure.of (a7.ah (Vi _)) ?_;cases l with
 | nil=>
  refine af.tL ?_ ?_
  ·refine af.au (c:=_) az9 rfl (by kernel_rfl) (by simp) ?_
   have e:=I0 (xo:=.tmp 3) (yo:=.const (.slice none 0 0)) AK;simp only [ae,vt,reduceCtorEq,e,aS,aAa,ac];exact ax ⟨h,aA.kI h,J.refl _ _⟩
  ·refine af.au (c:=_) az9 rfl (by kernel_rfl) (by simp) ?_
   have e:∀ xo yo,cH ds .eql 88 xo yo .e6 .ag=some (.bool false):=fun xo yo=>Sd AK;obtain ⟨v1,h1,aC,cb⟩:=Acc.qs (P:=ds) (tx:=88) GP (ael h) (by decide) (Sf AK) rfl (fun m hm=>by
    change m * 1=_ at hm;obtain rfl:m=0:=by simp [fD] at hm;omega
    exact ⟨by decide,by decide⟩)
   have mJ:=aek h;simp only [ae,vt,reduceCtorEq,e,mJ,aC,aS,aAa,ac];obtain ⟨ad,bt,ba⟩:=cb.cast (n:=0) rfl (by decide)
   exact ax ⟨ad,bt,ba⟩
 | cons x l=>
  refine af.au (c:=_) az9 rfl (by kernel_rfl) (by simp) ?_
  have e:∀ xo yo,cH ds .eql 88 xo yo (.ah (x::l).length (fD (x::l))) .ag=some (.bool false):=fun xo yo=>Se AK (by simp)
  obtain ⟨v1,h1,aC,cb⟩:=Acc.qs (P:=ds) (tx:=88) GP (ael h) (by decide) (Ia AK (Hp _) (aeh (x::l))) (Hp _) (fun m hm=>by
   change m * 1=(fD []).length+(fD (x::l)).length at hm;rw [Hp,Hp,avi] at hm;exact ⟨by simp only [lim];omega,by simp only [lim];omega⟩)
  have mJ:=aek h;generalize (x::l)=q at e aC cb aw⊢;simp only [ae,vt,reduceCtorEq,e,mJ,aC,aS,aAa,ac];obtain ⟨ad,bt,ba⟩:=cb.cast (n:=q.length) (by rw [show fD []=[] from rfl,avG,Hp]) (by decide)
  exact ax ⟨ad,bt,ba⟩
theorem aem {l:List (Int×List dM)} {k:Nat} (hk:k<l.length) {kk:IntKind}:hG ds 31 (.ah l.length (l.flatMap b6)) (.int kk (k:Int))=some (.at (b6 l[k]++(l.drop (k+1)).flatMap b6)):=sX (enc:=b6) (sz:=3) Ho hk ang
theorem asz (x:Int×List dM) (r:List V):cO (some (some 3)) (some (b6 x++r))=some (.agg (b6 x)):=lz (Ho x)
theorem aen {l:List mF} {k:Nat} (hk:k<l.length) {kk:IntKind}:hG ds 32 (.ah l.length (l.flatMap ct)) (.int kk (k:Int))=some (.at (ct l[k]++(l.drop (k+1)).flatMap ct)):=sX (enc:=ct) (sz:=6) Hq hk anh
theorem LE (x:mF) (r:List V):cO (some (some 6)) (some (ct x++r))=some (.agg (ct x)):=lz (Hq x)
theorem asA (c:Int×List dM) (n:Int) (h:I) (i:Nat) (hi:i<h.n) (az:h.get i=.cells [.int .i64 n] 3 none):Pure ds 77 [.agg (b6 c),.ptr i 0] h (.bool (c.1==n)):=by
 refine Pure.val (a7.bool _) ?_;refine af.au (c:=_) Tryz.func77 rfl (by kernel_rfl) (by simp) ?_
 have cc:(V.agg (b6 c)).cells=some (b6 c):=rfl;have g0:(h.push (.cells (b6 c) 90 none)).get i=.cells [.int .i64 n] 3 none:=(lx hi).trans az;have d0:cP (aO.cells (b6 c) 90 none) 0=some (b6 c):=rfl;have pD:cO (some none) (some (b6 c))=some (.int .i64 c.1):=rfl;simp only [ae,vt,YI,aW,cc,g0,d0,pD,aS,Tryz.results77,ac];exact ax ⟨rfl,J.push _ _ _⟩
theorem asB (c:mF) (n:Int) (h:I) (i:Nat) (hi:i<h.n) (az:h.get i=.cells [.int .i64 n] 3 none):Pure ds 48 [.agg (ct c),.ptr i 0] h (.bool (c.t==n)):=by
 refine Pure.val (a7.bool _) ?_;refine af.au (c:=_) Tryz.func48 rfl (by kernel_rfl) (by simp) ?_
 have cc:(V.agg (ct c)).cells=some (ct c):=rfl;have g0:(h.push (.cells (ct c) 57 none)).get i=.cells [.int .i64 n] 3 none:=(lx hi).trans az;have d0:cP (aO.cells (ct c) 57 none) 0=some (ct c):=rfl;have pD:cO (some none) (some (ct c))=some (.int .i64 c.t):=rfl;simp only [ae,vt,YH,aW,cc,g0,d0,pD,aS,Tryz.results48,ac];exact ax ⟨rfl,J.push _ _ _⟩
def pL {α:Type} (p:α→Bool) (l:List α):Int:=if l.findIdx p<l.length then (l.findIdx p:Int) else -1
theorem aeo {α:Type} {p:α→Bool} {l:List α} {j:Nat} (aV:j<l.length) (aU:p l[j]=true) (eh:∀ k (hk:k<j),p (l[k]'(by omega))=false):pL p l=(j:Int):=by
 have e:l.findIdx p=j:=(List.findIdx_eq aV).2 ⟨aU,fun k hk=>eh k hk⟩;unfold pL;rw [e,if_pos aV]
theorem aep {α:Type} {p:α→Bool} {l:List α} (eh:∀ x ∈ l,p x=false):pL p l=-1:=by
 unfold pL;rw [if_neg];rw [List.findIdx_lt_length]
 rintro ⟨x,aj,h⟩
 rw [eh x aj] at h;cases h
theorem Vr (l:List (Int×List dM)) (aw:l.length≤2 ^ 30) (n:Int) (h:I) (i:Nat) (hi:i<h.n) (az:h.get i=.cells [.int .i64 n] 3 none) :
  Pure ds 76 [.ah l.length (l.flatMap b6),.func (.func 77) [] [.ptr i 0]] h (.int .i64 (pL (fun c=>c.1==n) l)):=by
 refine Pure.val (a7.int _ _) ?_;refine af.au (c:=_) Tryz.func76 rfl (by kernel_rfl) (by simp) ?_
 simp only [ae,MD,vt,reduceCtorEq,NS];refine aZ.bQ (α:=Nat) (fun j f h'=>f 0=.ah l.length (l.flatMap b6)∧f 1=.func (.func 77) [] [.ptr i 0]∧f 7=.int .i64 ((l.length:Nat):Int)∧f 8=.int .i64 (j:Nat)∧j≤l.length∧h'=h∧(∀ k (hk:k<l.length),k<j→(l[k].1==n)=false)) (fun j=>l.length - j) 0 ⟨rfl,rfl,rfl,rfl,Dc _,rfl,fun k _ hk=>by omega⟩ ?_
 rintro j f h1 ⟨f0,f1,f7,f8,aV,rfl,bL⟩
 refine ee (by kernel_rfl) ?_
 by_cases aM:j<l.length
 ·have c5:decide ((j:Int)<((l.length:Nat):Int))=true:=by simp only [decide_eq_true_eq];omega
  have cy:=aem (kk:=.i64) aM;have ld:=asz;have bS:IntKind.i64.wrap (((j:Nat):Int)+1)=((j+1:Nat):Int):=by rw [Go.IntWalk.i64_in _ (by omega)];omega
  simp only [ae,vt,reduceCtorEq,Jr,f0,f1,f7,f8,c5,cy,ld];refine bW amo (asA l[j] n h1 i hi az) ?_;cases h6:(l[j].1==n)
  ·simp only [ae,MD,vt,f8,bS];exact ax ⟨j+1,⟨f0,f1,f7,rfl,by omega,rfl,fun k hk aeq=>by
    by_cases e:k=j
    ·subst e;exact h6
    ·exact bL k hk (by omega)⟩,by omega⟩
  ·simp only [ae,MD,vt,aS,aBY,ac];exact ax ⟨by rw [aeo aM h6 (fun k hk=>bL k (by omega) hk)],J.refl _ _⟩
 ·have c5:decide ((j:Int)<((l.length:Nat):Int))=false:=by simp only [decide_eq_false_iff_not];omega
  simp only [ae,MD,vt,f7,f8,c5,aS,aBY,ac];exact ax ⟨by rw [aep fun x aj=>by obtain ⟨k,hk,rfl⟩:=ayY aj;exact bL k hk (by omega)],J.refl _ _⟩
theorem Vs (l:List mF) (aw:l.length≤2 ^ 30) (n:Int) (h:I) (i:Nat) (hi:i<h.n) (az:h.get i=.cells [.int .i64 n] 3 none) :
  Pure ds 47 [.ah l.length (l.flatMap ct),.func (.func 48) [] [.ptr i 0]] h (.int .i64 (pL (fun c=>c.t==n) l)):=by
 refine Pure.val (a7.int _ _) ?_;refine af.au (c:=_) Tryz.func47 rfl (by kernel_rfl) (by simp) ?_
 simp only [ae,MD,vt,reduceCtorEq,NT];refine aZ.bQ (α:=Nat) (fun j f h'=>f 0=.ah l.length (l.flatMap ct)∧f 1=.func (.func 48) [] [.ptr i 0]∧f 7=.int .i64 ((l.length:Nat):Int)∧f 8=.int .i64 (j:Nat)∧j≤l.length∧h'=h∧(∀ k (hk:k<l.length),k<j→(l[k].t==n)=false)) (fun j=>l.length - j) 0 ⟨rfl,rfl,rfl,rfl,Dc _,rfl,fun k _ hk=>by omega⟩ ?_
 rintro j f h1 ⟨f0,f1,f7,f8,aV,rfl,bL⟩
 refine ee (by kernel_rfl) ?_
 by_cases aM:j<l.length
 ·have c5:decide ((j:Int)<((l.length:Nat):Int))=true:=by simp only [decide_eq_true_eq];omega
  have cy:=aen (kk:=.i64) aM;have ld:=LE;have bS:IntKind.i64.wrap (((j:Nat):Int)+1)=((j+1:Nat):Int):=by rw [Go.IntWalk.i64_in _ (by omega)];omega
  simp only [ae,vt,reduceCtorEq,GO,f0,f1,f7,f8,c5,cy,ld];refine bW amb (asB l[j] n h1 i hi az) ?_;cases h6:(l[j].t==n)
  ·simp only [ae,MD,vt,f8,bS];exact ax ⟨j+1,⟨f0,f1,f7,rfl,by omega,rfl,fun k hk aeq=>by
    by_cases e:k=j
    ·subst e;exact h6
    ·exact bL k hk (by omega)⟩,by omega⟩
  ·simp only [ae,MD,vt,aS,aBZ,ac];exact ax ⟨by rw [aeo aM h6 (fun k hk=>bL k (by omega) hk)],J.refl _ _⟩
 ·have c5:decide ((j:Int)<((l.length:Nat):Int))=false:=by simp only [decide_eq_false_iff_not];omega
  simp only [ae,MD,vt,f7,f8,c5,aS,aBZ,ac];exact ax ⟨by rw [aep fun x aj=>by obtain ⟨k,hk,rfl⟩:=ayY aj;exact bL k hk (by omega)],J.refl _ _⟩
end Go.Proofs.YtemdgidnhgcafaaGreatDoor.Pk
