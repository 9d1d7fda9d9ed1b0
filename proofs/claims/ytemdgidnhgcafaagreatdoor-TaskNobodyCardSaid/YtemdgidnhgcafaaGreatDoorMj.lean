/-
  What functions of the program do, told of abstract states. Conditions: as each theorem says.
-/
import Derived.Test.YtemdgidnhgcafaaGreatDoorMi
import Derived.Test.YtemdgidnhgcafaaGreatDoorMd
import Derived.Test.YtemdgidnhgcafaaGreatDoorAbD
import Derived.Test.YtemdgidnhgcafaaGreatDoorMc
import Derived.Lib.LaidTab
import Derived.Lib.LaidU8
import Derived.Stop.LaidErr
open Go.Proofs.Tryz renaming prog->ds,results11->axA,results6->aCe
open List renaming take->avB,getElem?_eq_getElem->ME,replicate->avr,mem_map->MF,mem_singleton->aw1,map_cons->au9,find?_eq_none->axM,mem_of_find?_eq_some->aAd,find?_some->aCd,map_append->avz,Nodup->axb,pairwise_map->awf,length_map->VY,range->VT,length_append->IS
open Nat renaming reduceEqDiff->vt,reduceAdd->AS,zero_le->Dc,lt_of_lt_of_le->MC,reduceLeDiff->By,le_refl->BY,mul_one->VU
open Int renaming reduceLT->aAb,tmod_eq_emod_of_nonneg->awD
open Bool renaming and_eq_true->VW
set_option linter.unusedVariables false
set_option linter.unusedSimpArgs false
set_option maxHeartbeats 8000000
set_option maxRecDepth 10000
namespace Go.Proofs.YtemdgidnhgcafaaGreatDoor.Pk
open Go Go.Proofs Go.Proofs.YtemdgidnhgcafaaGreatDoor.Ab Go.Proofs.Vw
section
variable {h:I} {ow:cG} {id m:Nat} {b:At} {c:bq} {s:eU}
theorem atn (o:fR c) (az:jf h) (dE:sE) (vm:qS dE) (q v:Int) {i0 i1 i2:Nat} (ot:i0<h.n) (fv:i1<h.n) (dy:i2<h.n) (g0:h.get i0=.cells (cu dE) 34 none) (g1:h.get i1=.cells [.ah c.l.length (c.l.flatMap an),.int .i64 c.p] 24 none) (g2:h.get i2=.cells [.int .i64 q] 3 none) :
  Pure ds 35 [.int .i64 v,.ptr i0 0,.ptr i1 0,.ptr i2 0] h (.agg (b6 (fl c.p c.l 1 v q,logAt dE.logs (fl c.p c.l 1 v q)))):=by
 refine Pure.of (a7.agg (OW _)) ?_;refine af.au (c:=_) Tryz.func35 rfl (by kernel_rfl) (by simp) ?_
 have d0:cP (aO.cells (cu dE) 34 none) 0=some (cu dE):=rfl;have pD:(if 3≤(cu dE).length then some (V.agg (avB 3 (cu dE))) else none)=some (.agg (cu dE)):=rfl
 have nR:cO (some (some 3)) (some (cu dE))=some (.agg (cu dE)):=rfl;simp only [ae,Jx];obtain ⟨H,hH⟩:∃ y,y=h.push (.cells [.int .i64 0,.ag,.ag] 90 none):=⟨_,rfl⟩;have bw:J h H none_:=by rw [hH];exact J.push _ _ _
 have r8:H.get h.n=.cells [.int .i64 0,.ag,.ag] 90 none:=by rw [hH];exact ck
 have g0:=(bw.get i0 ot (by simp [none_])).trans g0
 have g1:=(bw.get i1 fv (by simp [none_])).trans g1
 have g2:=(bw.get i2 dy (by simp [none_])).trans g2
 have jO:=az.ai bw;rw [←hH];clear hH;have bl:∀ h',(J H h' none_∨h'=H)→jf h':=fun h' hk=>by rcases hk with hk | rfl;exact jO.ai hk;exact jO
 refine aZ.bB none_ [6] (.q 0 (.q 1 (.q 2 (.q 3 (.c 4 (.c 5 (.a 6 .done))))))) (by kernel_rfl) (by kernel_rfl) (by kernel_rfl) ?_
 simp only [ae,bM,vt,AS,reduceCtorEq,js,aW,vO,g0,g1,g2,d0,nR];refine j6 rfl rfl rfl (fun h' hk=>EP c.l c.p 1 v q o.ok h' (bl h' hk)) ?_;simp only [bM];refine j6 rfl rfl rfl (fun h' hk=>aes dE vm (fl c.p c.l 1 v q) h') ?_;obtain ⟨rs,rP⟩:∃ x,x=logAt dE.logs (fl c.p c.l 1 v q):=⟨_,rfl⟩;have cc:∀ q,(V.agg (b6 (q,rs))).cells=some (b6 (q,rs)):=fun _=>rfl;have st:∀ q,bF (some 3) (aO.cells [V.int .i64 0,.ag,.ag] 90 none) 0 (b6 (q,rs))=some (.cells (b6 (q,rs)) 90 none):=fun _=>rfl;have lt:∀ q,(if 3≤(b6 (q,rs)).length then some (V.agg (avB 3 (b6 (q,rs)))) else none)=some (.agg (b6 (q,rs))):=fun _=>rfl
 rw [←rP];simp only [ae,bM,vt,Jr,GS,r8,cc,st,lt,aS,Tryz.results35,vH,fB];exact ax ⟨_,aA.refl _ _,bw.trans (J.set _ _ _) fun q ab U=>by omega⟩
theorem ato (o:fR c) (k:gu h ow id m b c s) (hk:yz c s) (az:jf h) (dE:sE) (vm:qS dE) (q:Int) {i0 i1 i2:Nat} (ot:i0<h.n) (fv:i1<h.n) (dy:i2<h.n) (g0:h.get i0=.cells (cu dE) 34 none) (g1:h.get i1=.cells [.ah c.l.length (c.l.flatMap an),.int .i64 c.p] 24 none) (g2:h.get i2=.cells [.int .i64 q] 3 none)
  (he:∀ v,logAt dE.logs (fl c.p c.l 1 v q)=[]) :
  Pure ds 37 [.ptr m 0,.agg (cT c.l c.p),.int .i64 c.part,.func (.func 35) [] [.ptr i0 0,.ptr i1 0,.ptr i2 0]] h (.int .i64 0):=by
 refine Pure.val (a7.int _ _) ?_;refine af.au (c:=_) Tryz.func37 rfl (by kernel_rfl) (by simp) ?_
 have tr:(V.agg (cT c.l c.p)).cells=some [.ah c.l.length (c.l.flatMap an),.int .i64 c.p]:=rfl;have nK:V.agg [.ah c.l.length (c.l.flatMap an),.int .i64 c.p]=.agg (cT c.l c.p):=rfl;obtain ⟨H,hH⟩:∃ y,y=h.push (.cells [.ah c.l.length (c.l.flatMap an),.int .i64 c.p] 24 none):=⟨_,rfl⟩;have bw:J h H none_:=by rw [hH];exact J.push _ _ _
 have gt:H.get h.n=.cells [.ah c.l.length (c.l.flatMap an),.int .i64 c.p] 24 none:=by rw [hH];exact ck
 have ju:H.n=h.n+1:=by rw [hH];rfl
 simp only [ae,vt,AS,js,tr,←hH,gt,nK];clear hH;refine bW NI (OC c.l c.p o.ok H (az.ai bw)) ?_;have K4:(fC c.p c.l).length=c.l.length:=Ev o.yw;have tW:c.l.length≤24:=o.len;have atp:=Ld o;simp only [ae,vt,AS,lZ,rn,mw,gt];refine aZ.bQ (α:=Nat) (fun y f h'=>f 0=.ptr m 0∧f 2=.int .i64 c.part∧f 3=.func (.func 35) [] [.ptr i0 0,.ptr i1 0,.ptr i2 0]∧f 9=.ah (fC c.p c.l).length (ar (fC c.p c.l))∧f 26=.ah c.l.length (c.l.flatMap an)∧f 27=.int .i64 (c.l.length:Nat)∧f 28=.int .i64 (y:Nat)∧y≤c.l.length∧J h h' none_) (fun y=>c.l.length - y) 0
  ⟨rfl,rfl,rfl,rfl,rfl,rfl,rfl,Dc _,bw⟩ ?_
 rintro i f h1 ⟨f0,f2,f3,f9,f26,f27,f28,hi,bJ⟩
 refine ee (by kernel_rfl) ?_
 by_cases aM:i<c.l.length;rotate_left
 ·have bb:decide ((i:Int)<((c.l.length:Nat):Int))=false:=decide_eq_false (by omega)
  simp only [ae,vt,f27,f28,bb,aS,Tryz.results37,ac];exact ax ⟨rfl,bJ⟩
 have bb:decide ((i:Int)<((c.l.length:Nat):Int))=true:=decide_eq_true (by omega)
 have oL:=sU aM (by omega)
 obtain ⟨x,aj⟩:∃ x,c.l[i]?=some x:=⟨_,ME aM⟩;obtain ⟨kV,sW⟩:=K1 (kk:=.i64) aj;have ld:cO (some (some 6)) (some (an x++kV))=some (.agg (an x)):=lz (ki x);have K2:(V.agg (an x)).cells=some (an x):=rfl;have K3:bF (some 6) (aO.cells [V.int .i64 0,.ag,.int .i64 0,.int .i64 0,.ag,.int .i64 0] 68 none) 0 (an x)=some (.cells (an x) 68 none):=by
  obtain ⟨er,bg,⟨o,q,aQ⟩,n⟩:=x;rfl
 have VL:=N7 (show i<(fC c.p c.l).length by omega) jI
 have ll:((fC c.p c.l).length:Int)=(c.l.length:Int):=by rw [K4]
 simp only [ae,vt,reduceCtorEq,om,pZ,p0,f0,f26,f27,f28,bb,sW,ld,K2,K3];obtain ⟨bK,bs⟩:∃ y,y=h1.push (.cells (an x) 68 none):=⟨_,rfl⟩;have Mj:J h1 bK none_:=by rw [bs];exact J.push _ _ _
 have ba:=bJ.trans' Mj;have EM:bK.get h1.n=.cells (an x) 68 none:=by rw [bs];exact ck
 have AE:cP (aO.cells (an x) 68 none) 0=some (an x):=rfl;have jv:cO (some none) (some (an x))=some (.int .i64 x.kind):=rfl;rw [←bs];clear bs;refine bW Yp (acy o (k.br ba) hk) ?_;simp only [ae,vt];refine bW NJ (Ox c.ins i (by omega) bK) ?_
 have C5:=az.ai ba;have Bl:=atn o C5 dE vm q (i:Int) (show i0<bK.n from MC ot ba.n) (MC fv ba.n) (MC dy ba.n) ((ba.get i0 ot (by simp [none_])).trans g0) ((ba.get i1 fv (by simp [none_])).trans g1) ((ba.get i2 dy (by simp [none_])).trans g2)
 rw [he (i:Int)] at Bl;have afg:∀ q,(V.agg (b6 (q,[]))).cells=some [.int .i64 q,.ah 0 [],.ah 0 []]:=fun _=>rfl;have afh:∀ q,bF (some 3) (aO.cells [V.int .i64 0,.ag,.ag] 90 none) 0 [.int .i64 q,.ah 0 [],.ah 0 []]=some (.cells [.int .i64 q,.ah 0 [],.ah 0 []] 90 none):=fun _=>rfl;have Mk:∀ {U:I},Pure ds 81 [.ah 0 [],.ah 0 []] U (.tuple [.ah 0 [],.int .i64 0]):=fun {U}=>asS [] [] U (by decide) (by decide)
 obtain ⟨afi,cU⟩:∃ b,b=c.ins.contains (i:Int):=⟨_,rfl⟩;rw [←cU];cases afi
 ·have lU:(!false)=true:=rfl;by_cases aU:(fC c.p c.l)[i]'(by omega)=c.part
  rotate_left
  ·have bA:((fC c.p c.l)[i]'(by omega) !=c.part)=true:=by simpa using aU
   simp only [ae,vt,reduceCtorEq,aW,f2,f9,f28,VL,lU,bA,oL];exact ax ⟨i+1,⟨f0,f2,f3,f9,f26,f27,rfl,aM,ba⟩,by omega⟩
  have bA:((fC c.p c.l)[i]'(by omega) !=c.part)=false:=by simpa using aU
  by_cases bN:x.kind=5
  ·have c5:(x.kind==5)=true:=by simpa using bN
   simp only [ae,vt,reduceCtorEq,hd,aW,f2,f9,f28,VL,EM,AE,jv,lU,bA,c5,oL];exact ax ⟨i+1,⟨f0,f2,f3,f9,f26,f27,rfl,aM,ba⟩,by omega⟩
  have c5:(x.kind==5)=false:=by simpa using bN
  simp only [ae,vt,hd,aW,f2,f3,f9,VL,EM,AE,jv,lU,bA,c5];refine bW Ye Bl ?_;simp only [ae,vt,AS,By,GK,GL,Jn,Jq,Jx,GS,afg,afh];refine bW Yq Mk ?_;simp only [ae,vt,GM];refine aZ.bQ (α:=Nat) (fun y f h'=>f 0=.ptr m 0∧f 2=.int .i64 c.part∧f 3=.func (.func 35) [] [.ptr i0 0,.ptr i1 0,.ptr i2 0]∧f 9=.ah (fC c.p c.l).length (ar (fC c.p c.l))∧f 26=.ah c.l.length (c.l.flatMap an)∧f 27=.int .i64 (c.l.length:Nat)∧f 28=.int .i64 (i:Nat)∧f 67=.int .i64 0∧f 68=.int .i64 0∧J h h' none_) (fun y=>y) 0
   ⟨f0,f2,f3,f9,f26,f27,f28,rfl,rfl,ba.trans' (J.push _ _ _)⟩ ?_
  clear f0 f2 f3 f9 f26 f27 f28
  rintro y f aD ⟨f0,f2,f3,f9,f26,f27,f28,f67,f68,b2⟩
  refine ee (by kernel_rfl) ?_
  have mm:decide ((0:Int)<0)=false:=rfl;simp only [ae,aAb,vt,reduceCtorEq,f28,f67,f68,oL];exact ax ⟨i+1,⟨f0,f2,f3,f9,f26,f27,rfl,aM,b2⟩,by omega⟩
 ·have lU:(!true)=false:=rfl;simp only [ae,vt,f3,lU];refine bW Ye Bl ?_;simp only [ae,vt,AS,By,GK,GL,Jn,Jq,Jx,GS,afg,afh];refine bW Yq Mk ?_;simp only [ae,vt,GM];refine aZ.bQ (α:=Nat) (fun y f h'=>f 0=.ptr m 0∧f 2=.int .i64 c.part∧f 3=.func (.func 35) [] [.ptr i0 0,.ptr i1 0,.ptr i2 0]∧f 9=.ah (fC c.p c.l).length (ar (fC c.p c.l))∧f 26=.ah c.l.length (c.l.flatMap an)∧f 27=.int .i64 (c.l.length:Nat)∧f 28=.int .i64 (i:Nat)∧f 67=.int .i64 0∧f 68=.int .i64 0∧J h h' none_) (fun y=>y) 0
   ⟨f0,f2,f3,f9,f26,f27,f28,rfl,rfl,ba.trans' (J.push _ _ _)⟩ ?_
  clear f0 f2 f3 f9 f26 f27 f28
  rintro y f aD ⟨f0,f2,f3,f9,f26,f27,f28,f67,f68,b2⟩
  refine ee (by kernel_rfl) ?_
  have mm:decide ((0:Int)<0)=false:=rfl;simp only [ae,aAb,vt,reduceCtorEq,f28,f67,f68,oL];exact ax ⟨i+1,⟨f0,f2,f3,f9,f26,f27,rfl,aM,b2⟩,by omega⟩
end
def zq (l:List bD) (p n:Int):Int:=if (ch p l).2≠0 then (ch p l).2 else if (iF p l n).1<0 then 1 else if 8<(ru p l (iF p l n).1).length then 2 else jT ⟨l,p,(iF p l n).1⟩
def qV (l:List bD) (p n:Int):hE:=⟨⟨l,p,(iF p l n).1⟩,n,(iF p l n).2⟩
def Ml (j0:List Int) (n:Nat):List Int:=if j0=[] then avr n 0 else j0
def Bm (dE:sE) (d:hE):e5:=⟨eU.new d.c,(s5 dE.tasks d.n).ep,(s5 dE.tasks d.n).tx,Ml (s5 dE.tasks d.n).offs d.c.ins.length,[],[]⟩
theorem atq (j0:List Int) (n:Nat) (hw:j0=[]∨j0.length=n) (aG:n≤24) (h:I) :
  ∃ h1 ad v,yR ds 46 (.int .i64 (n:Int)) (.int .i64 (n:Int)) h=some (.bj h.n 0 n n,h1)∧vx ds 46 (.bj h.n 0 n n) (.ah j0.length (ar j0)) h1=some (v,ad)∧Own ad 3 1 (.bj h.n 0 n n) (ar (Ml j0 n))∧J h h1 none_∧J h ad none_:=by
 by_cases aK:j0=[]
 ·subst aK;have aC:=Na (P:=ds) (t:=46) (k:=.i64) (k':=.i64) (h:=h) oU (BY n) (by simp only;omega) (by omega)
  have b9:J h (h.push (.cells (made [V.int .i64 0] n) 3 none)) none_:=J.push _ _ _;have hm:made [V.int .i64 0] n=ar (avr n 0):=by
   unfold ar;rw [List.map_replicate];clear aC b9 aG hw
   induction n with
   | zero=>rfl
   | succ n ih=>simp [made,List.replicate_succ] at ih⊢
  refine ⟨_,h.push (.cells (made [V.int .i64 0] n) 3 none),.int .i64 0,aC,?_,?_,b9,b9⟩
  ·obtain ⟨he,bR,bo,jC,fb,_⟩:=uw (P:=ds) oU;unfold vx;have m0:∀ n,Nat.min 0 n=0:=fun n=>Nat.zero_min n;have f0:∀ U,tA 1 0 (V.ah 0 []) U=some []:=fun _=>rfl;have atr:i4 (V.ah 0 [])=some 0:=rfl;simp only [he,bo,show (V.ah ([]:List Int).length (ar []))=V.ah 0 [] from rfl,atr,m0,f0,if_true]
  ·rw [show Ml [] n=avr n 0 from if_pos rfl,←hm]
   have:=Own.eZ (h:=h) (e:=3) (sz:=1) (made [V.int .i64 0] n) n (by rw [hm,gi,List.length_replicate,VU]) (by unfold cj;omega)
   exact this
 ·have aw:j0.length=n:=hw.resolve_left aK;subst aw;obtain ⟨h1,ad,cX,dT,e8,jt,tO⟩:=WV (P:=ds) (t:=46) (tx:=46) (k:=.i64) (k':=.i64) (h:=h) (src:=.ah j0.length (ar j0)) (n:=j0.length) (cs:=ar j0) oU rfl (fun h' _=>by
   show (if j0.length≤j0.length∧j0.length * 1≤(ar j0).length then some ((ar j0).take (j0.length * 1)) else none)=_
   rw [if_pos ⟨BY _,by rw [gi,VU];exact BY _⟩,List.take_of_length_le (by rw [gi,VU];exact BY _)]) (It _) (by rw [gi];exact (VU _).symm) (by simp only;omega) (by omega)
  exact ⟨h1,ad,_,cX,dT,by rw [show Ml j0 j0.length=j0 from if_neg aK];exact e8,jt,tO⟩
def ats (id:Nat) (l:List bD) (p n:Int) (dE:sE) (h:I) (ow:cG):V→I→Prop:=fun r h'=>J h h' none_ ∧
 ((zq l p n≠0∧r=.tuple [.c8,.int .i64 (zq l p n)])∨(zq l p n=0∧∃ k w ow',r=.tuple [.ptr k 0,.int .i64 0]∧fe h' ow' id k w (qV l p n) (Bm dE (qV l p n))∧(∀ q,q<h.n→ow' q=ow q)∧Fr h' ow'))
theorem afj (id:Nat) (l:List bD) (p n:Int) (aY:k7 l) (FJ:∀ v ∈ l,v.kind≠7∧v.kind≠8) (dE:sE) (vm:qS dE) (h:I) (az:jf h) (ow:cG) (f:Fr h ow) (aK:id≠0) (hw:(s5 dE.tasks n).offs=[]∨(s5 dE.tasks n).offs.length=(ru p l (iF p l n).1).length)
  (he:∀ v,logAt dE.logs (fl p l 1 v (iF p l n).2)=[]) :
  af ds 11 [.agg (cT l p),.int .i64 n,.agg (cu dE)] h (ats id l p n dE h ow):=by
 have tr:∀ (l:List bD) (p:Int),(V.agg (cT l p)).cells=some [.ah l.length (l.flatMap an),.int .i64 p]:=fun _ _=>rfl;have nK:∀ (l:List bD) (p:Int),V.agg [.ah l.length (l.flatMap an),.int .i64 p]=.agg (cT l p):=fun _ _=>rfl;have zO:∀ (l:List bD) (p:Int),bF (some 2) (aO.cells [V.ag,.int .i64 0] 24 none) 0 [.ah l.length (l.flatMap an),.int .i64 p]=some (.cells [.ah l.length (l.flatMap an),.int .i64 p] 24 none):=fun _ _=>rfl;have C9:(V.agg (cu dE)).cells=some (cu dE):=rfl;refine af.au (c:=_) Tryz.func11 rfl (by kernel_rfl) (by simp) ?_
 obtain ⟨H,hH⟩:∃ x,x=(h.push (.cells [.ah l.length (l.flatMap an),.int .i64 p] 24 none)).push (.cells (cu dE) 34 none):=⟨_,rfl⟩;have gt:H.get h.n=.cells [.ah l.length (l.flatMap an),.int .i64 p] 24 none:=by rw [hH,lx (by rw [dq];omega)];exact ck
 have s6:H.get (h.n+1)=.cells (cu dE) 34 none:=by rw [hH];exact ck
 have bw:J h H none_:=by rw [hH];exact (J.push _ _ _).bH _
 have ju:H.n=h.n+2:=by rw [hH];rfl
 have jO:=az.ai bw;simp only [ae,vt,AS,js,tr,C9,←hH,gt,nK];clear hH;refine bW Yb (aa8 l p aY H jO) ?_;unfold CC;by_cases h1:(ch p l).2=0;rotate_left
 ·have bb:((ch p l).2 !=0)=true:=by simpa using h1
  have bL:zq l p n=(ch p l).2:=by unfold zq;rw [if_pos h1]
  simp only [ae,vt,bb,aS,axA,c9];exact ax ⟨bw,.inl ⟨by rw [bL];exact h1,by rw [bL]⟩⟩
 have bb:((0:Int) !=0)=false:=rfl;have vn:zq l p n=if (iF p l n).1<0 then 1 else if 8<(ru p l (iF p l n).1).length then 2 else jT ⟨l,p,(iF p l n).1⟩:=by unfold zq;rw [if_neg (by omega)]
 simp only [ae,vt,h1];refine bW Yc (KD _ (lH p l) H jO (Rd.ah _ _) (acV aY) (by have:=acW (p:=p) aY;omega)) ?_
 have jb:pc (lH p l)=.tuple [.agg (cT l p),.int .i64 0]:=by unfold pc;rw [abu aY h1]
 rw [jb];obtain ⟨bK,bs⟩:∃ x,x=H.push (.cells [.ah l.length (l.flatMap an),.int .i64 p] 24 none):=⟨_,rfl⟩;have p8:bK.get H.n=.cells [.ah l.length (l.flatMap an),.int .i64 p] 24 none:=by rw [bs];exact ck
 have ba:J H bK none_:=by rw [bs];exact J.push _ _ _
 have dy:bK.n=H.n+1:=by rw [bs];rfl
 have t2:=jO.ai ba;have da:=bw.trans' ba;simp only [ae,vt,AS,js,uI,uJ,tr,zO,←bs,p8,nK];clear bs;refine bW al5 (Vx l p n aY bK t2) ?_;obtain ⟨att,Cy⟩:∃ x,x=iF p l n:=⟨_,rfl⟩;rw [←Cy] at vn hw he⊢;obtain ⟨s7,q⟩:=att;simp only at vn hw he⊢;have QY:qV l p n=⟨⟨l,p,s7⟩,n,q⟩:=by unfold qV;rw [←Cy]
 obtain ⟨fj,eS⟩:∃ x,x=bK.push (.cells [.int .i64 q] 3 none):=⟨_,rfl⟩;have zS:fj.get bK.n=.cells [.int .i64 q] 3 none:=by rw [eS];exact ck
 have b2:J bK fj none_:=by rw [eS];exact J.push _ _ _
 have n3:fj.n=bK.n+1:=by rw [eS];rfl
 have t3:=t2.ai b2;have eT:=da.trans' b2;have nO:=(b2.get H.n (by omega) (by simp [none_])).trans p8
 simp only [ae,vt,S8,oo];rw [←eS];clear eS;by_cases FZ:s7<0
 ·have bA:decide (s7<0)=true:=decide_eq_true FZ;have bL:zq l p n=1:=by rw [vn,if_pos FZ]
  simp only [ae,vt,bA,aS,axA,c9];exact ax ⟨eT,.inl ⟨by rw [bL];decide,by rw [bL]⟩⟩
 have bA:decide (s7<0)=false:=decide_eq_false FZ;rw [if_neg FZ] at vn;simp only [ae,vt,AS,js,bA,nO,nK];refine bW Yd (abQ l p s7 aY fj t3) ?_;by_cases kh:8<(ru p l s7).length
 ·have kS:decide ((8:Int)<(((ru p l s7).length:Nat):Int))=true:=decide_eq_true (by omega)
  have bL:zq l p n=2:=by rw [vn,if_pos kh]
  simp only [ae,vt,gy,kS,aS,axA,c9];exact ax ⟨eT,.inl ⟨by rw [bL];decide,by rw [bL]⟩⟩
 have kS:decide ((8:Int)<(((ru p l s7).length:Nat):Int))=false:=decide_eq_false (by omega)
 rw [if_neg kh] at vn;simp only [ae,vt,AS,gy,js,kS,nO,nK];have f3:Fr fj ow:=fun q ab=>f q (by omega)
 refine cB al6 (ard id ⟨l,p,s7⟩ aY FJ fj t3 ow f3 aK) fun r bn ⟨db,bf⟩=>?_;have mc:=eT.trans' db;have n4:=db.n;have CH:=(db.get H.n (by omega) (by simp [none_])).trans nO
 have QZ:=(db.get bK.n (by omega) (by simp [none_])).trans zS
 have zI:=(((ba.trans' b2).trans' db).get (h.n+1) (by omega) (by simp [none_])).trans s6
 have t4:=t3.ai db;rcases bf with ⟨aG,jr⟩ | ⟨aG,m1,dK,eE,jr,my,afk,f4⟩
 ·subst jr;have lU:(jT ⟨l,p,s7⟩ !=0)=true:=by simpa using aG
  simp only [ae,vt,lU,aS,axA,c9];exact ax ⟨mc,.inl ⟨by rw [vn];exact aG,by rw [vn]⟩⟩
 subst jr;have o:fR ⟨l,p,s7⟩:=⟨h1,aY⟩;have rP:=ato o my (GT _) t4 dE vm q (i0:=h.n+1) (i1:=H.n) (i2:=bK.n) (by omega) (by omega) (by omega) zI CH QZ he
 simp only [ae,vt,AS,js,CH,nK];refine bW al7 rP ?_;have pD:(if 3≤(cu dE).length then some (V.agg (avB 3 (cu dE))) else none)=some (.agg (cu dE)):=rfl
 have d0:cP (aO.cells (cu dE) 34 none) 0=some (cu dE):=rfl;have nR:cO (some (some 3)) (some (cu dE))=some (.agg (cu dE)):=rfl;simp only [ae,vt,vO,zI,d0,nR];refine bW alU (asC dE vm n bn) ?_;obtain ⟨hl,Q0⟩:∃ x,x=s5 dE.tasks n:=⟨_,rfl⟩;rw [←Q0] at hw⊢;have atu:(V.agg (ct hl)).cells=some [.int .i64 hl.t,.int .i64 hl.ep,.int .i64 hl.tx,.ah hl.offs.length (ar hl.offs),.ah hl.ord.length (ar hl.ord),.int .i64 (hl.opn:Nat)]:=rfl;have atv:bF (some 6) (aO.cells [V.int .i64 0,.int .i64 0,.int .i64 0,.ag,.ag,.int .i64 0] 57 none) 0 [.int .i64 hl.t,.int .i64 hl.ep,.int .i64 hl.tx,.ah hl.offs.length (ar hl.offs),.ah hl.ord.length (ar hl.ord),.int .i64 (hl.opn:Nat)]=some (.cells [.int .i64 hl.t,.int .i64 hl.ep,.int .i64 hl.tx,.ah hl.offs.length (ar hl.offs),.ah hl.ord.length (ar hl.ord),.int .i64 (hl.opn:Nat)] 57 none):=rfl;obtain ⟨gr,fF⟩:∃ x,x=bn.push (.cells [.int .i64 hl.t,.int .i64 hl.ep,.int .i64 hl.tx,.ah hl.offs.length (ar hl.offs),.ah hl.ord.length (ar hl.ord),.int .i64 (hl.opn:Nat)] 57 none):=⟨_,rfl⟩;have Q1:gr.get bn.n=.cells [.int .i64 hl.t,.int .i64 hl.ep,.int .i64 hl.tx,.ah hl.offs.length (ar hl.offs),.ah hl.ord.length (ar hl.ord),.int .i64 (hl.opn:Nat)] 57 none:=by rw [fF];exact ck
 have dW:J bn gr none_:=by rw [fF];exact J.push _ _ _
 have x7:gr.n=bn.n+1:=by rw [fF];rfl
 obtain ⟨c6,gV,au6,yx,rq,Hg,fV,mz⟩:=atq hl.offs (ru p l s7).length hw (by omega) gr
 have afl:=(fV.get bn.n (by omega) (by simp [none_])).trans Q1
 have afm:=(mz.get bn.n (by omega) (by simp [none_])).trans Q1
 have afn:=((dW.trans' mz).get H.n (by omega) (by simp [none_])).trans CH
 have afo:=((dW.trans' mz).get bK.n (by omega) (by simp [none_])).trans QZ
 have n7:=Hg.lt gr.n rfl;simp only [ae,vt,gy,GQ,Jy,atu,atv];rw [←fF];clear fF;simp only [ae,vt,AS,By,B6,GI,NP,js,aW,hz,ana,anu,yx,afl,rq,afn,afo,afm,aS,axA,c9];obtain ⟨Da,Bn⟩:∃ x,x=sy (sy eE gr.n (id+1,2)) gV.n (id+1,1):=⟨_,rfl⟩;have cV:Da gV.n=(id+1,1):=by rw [Bn];exact Hh _ _ _
 have bS:Da gr.n=(id+1,2):=by rw [Bn,ub (by omega)];exact Hh _ _ _
 have Hi:∀ q,q<bn.n→Da q=eE q:=fun q ab=>by rw [Bn,ub (by omega),ub (by omega)]
 have atw:∀ ob,Fr (gV.push ob) Da:=fun ob q ab=>by rw [dq] at ab;rw [Bn,ub (by omega),ub (by omega)];exact f4 q (by have:=mz.n;omega)
 have cd:Bm dE (qV l p n)=⟨eU.new ⟨l,p,s7⟩,hl.ep,hl.tx,Ml hl.offs (ru p l s7).length,[],[]⟩:=by unfold Bm;rw [QY,←Q0];rfl
 have hj:∀ ob,J gV (gV.push ob) none_:=fun ob=>J.push _ _ _;refine ax ⟨(mc.trans' (dW.trans' mz)).trans' (hj _),.inr ⟨by rw [vn];exact aG,gV.n,⟨m1,dK,.bj gr.n 0 (ru p l s7).length (ru p l s7).length,.ag,.ag⟩,Da,rfl,?_,fun q ab=>(Hi q (by omega)).trans (afk q (by omega)),atw _⟩⟩
 rw [cd,QY];exact ⟨Nat.lt_succ_self _,ck,cV,my.ai ((dW.trans' mz).trans' (hj _)) (fun _ _ U=>by simp [none_] at U) Hi,Hg.br (hj _),Own.ag _ _ _,Own.ag _ _ _,(fun q ab=>by
  have:gr.n=q:=Option.some.inj (am.1 ab);rw [←this];exact bS),(fun q ab=>by cases am.1 ab),(fun q ab=>by cases am.1 ab),V.noConfusion,V.noConfusion⟩
theorem atx (h:I):af ds 23 [] h (fun r h'=>∃ F,r=.agg [.bj F 0 3 3,.int .i64 1]∧h.n≤F∧F<h'.n∧h'.get F=.cells (c7.flatMap an) 68 none∧J h h' none_):=by
 refine af.cast ?_;refine af.au (c:=_) Tryz.func23 rfl (by kernel_rfl) (by simp) ?_
 obtain ⟨n6,mM,qk,s6,ge,gf,fV⟩:=apF h (.cells [.ag,.int .i64 0] 24 none) (.cells [.int .i64 5,.int .i64 0,.ag,.int .i64 3,.int .i64 0,.ag] 66 none) (.cells [.int .i64 6,.int .i64 0,.bj (h.n+1) 0 2 2] 66 none) (.cells [.int .i64 0] 3 none) (.cells [.int .i64 1] 3 none) (.cells [.int .i64 1,.ag,.int .i64 0,.int .i64 0,.ag,.int .i64 0,.int .i64 6,.bj (h.n+1+1+1) 0 1 1,.int .i64 6,.int .i64 0,.bj (h.n+1) 0 2 2,.int .i64 0,.int .i64 10,.bj (h.n+1+1+1+1) 0 1 1,.int .i64 0,.int .i64 0,.ag,.int .i64 0] 68 none);simp only [ae,vt,AS,By,reduceCtorEq,fM,AM,ls,DX,uI,oV,pZ,uJ,nt,apD,En,apE];generalize (((((h.push (.cells [.ag,.int .i64 0] 24 none)).push (.cells [.int .i64 5,.int .i64 0,.ag,.int .i64 3,.int .i64 0,.ag] 66 none)).push (.cells [.int .i64 6,.int .i64 0,.bj (h.n+1) 0 2 2] 66 none)).push (.cells [.int .i64 0] 3 none)).push (.cells [.int .i64 1] 3 none)).push (.cells [.int .i64 1,.ag,.int .i64 0,.int .i64 0,.ag,.int .i64 0,.int .i64 6,.bj (h.n+1+1+1) 0 1 1,.int .i64 6,.int .i64 0,.bj (h.n+1) 0 2 2,.int .i64 0,.int .i64 10,.bj (h.n+1+1+1+1) 0 1 1,.int .i64 0,.int .i64 0,.ag,.int .i64 0] 68 none)=H at n6 mM qk s6 ge gf fV⊢;simp only [ae,AS,reduceCtorEq,js,mM,vH,aS,Tryz.results23,vH,fB];obtain ⟨s4,qe⟩:∃ x,x=H.set h.n (.cells [.bj (h.n+1+1+1+1+1) 0 3 3,.int .i64 1] 24 none):=⟨_,rfl⟩;have mz:J H s4 (·=h.n):=by rw [qe];exact J.set _ _ _
 have n7:s4.n=h.n+6:=by rw [qe];exact n6
 have afp:=(mz.get (h.n+1) (by omega) (by omega)).trans qk
 have afq:=(mz.get (h.n+3) (by omega) (by omega)).trans s6
 have afr:=(mz.get (h.n+4) (by omega) (by omega)).trans ge
 have Q2:=(mz.get (h.n+5) (by omega) (by omega)).trans gf
 obtain ⟨ad,bt,dT⟩:=aA.own (A8 (e:=3) (sz:=1) (n:=1) (by omega) afq rfl (by simp [cj])) (n:=1) rfl (by decide)
 have dy:=dT.n;have zX:=(dT.get (h.n+1) (by omega) (by simp [a6,a8])).trans afp
 obtain ⟨aD,c3,e8⟩:=aA.iz (es:=[b4.mk 5 0 [],b4.mk 3 0 []].flatMap aE) (A8 (h:=ad) (e:=66) (sz:=3) (n:=2) (by omega) zX rfl (by simp [cj])) (aq.cons (aA.refl _ _) (aq.cons (aA.refl _ _) (aq.cons (aA.kI _) (aq.cons (aA.refl _ _) (aq.cons (aA.refl _ _) (aq.cons (aA.kI _) (aq.refl _ _))))))) (J.refl _ none_) (fun h=>h) rfl
 have n3:=e8.n;have QQ:=(e8.get (h.n+4) (by omega) (by omega)).trans ((dT.get (h.n+4) (by omega) (by simp [a6,a8])).trans afr)
 obtain ⟨bn,eP,jt⟩:=aA.own (A8 (h:=aD) (e:=3) (sz:=1) (n:=1) (by omega) QQ rfl (by simp [cj])) (n:=1) rfl (by decide)
 have n4:=jt.n;have afs:=(jt.get (h.n+5) (by omega) (by simp [a6,a8])).trans ((e8.get (h.n+5) (by omega) (by omega)).trans ((dT.get (h.n+5) (by omega) (by simp [a6,a8])).trans Q2))
 have nE:c7.flatMap an=[.int .i64 1,.ah 0 [],.int .i64 0,.int .i64 0,.ah 0 [],.int .i64 0,.int .i64 6,.ah 1 [.int .i64 0],.int .i64 6,.int .i64 0,.ah 2 ([b4.mk 5 0 [],b4.mk 3 0 []].flatMap aE),.int .i64 0,.int .i64 10,.ah 1 [.int .i64 1],.int .i64 0,.int .i64 0,.ah 0 [],.int .i64 0]:=by
  simp [c7,Kv,an,nu,ar]
 have cI:aq [.int .i64 1,.ag,.int .i64 0,.int .i64 0,.ag,.int .i64 0,.int .i64 6,.bj (h.n+3) 0 1 1,.int .i64 6,.int .i64 0,.bj (h.n+1) 0 2 2,.int .i64 0,.int .i64 10,.bj (h.n+4) 0 1 1,.int .i64 0,.int .i64 0,.ag,.int .i64 0] s4 (c7.flatMap an) bn:=by
  rw [nE];exact aq.cons (aA.refl (.int .i64 1) _) (aq.cons (aA.kI _) (aq.cons (aA.refl (.int .i64 0) _) (aq.cons (aA.refl (.int .i64 0) _) (aq.cons (aA.kI _) (aq.cons (aA.refl (.int .i64 0) _) (aq.cons (aA.refl (.int .i64 6) _) (aq.cons bt (aq.cons (aA.refl (.int .i64 6) _) (aq.cons (aA.refl (.int .i64 0) _) (aq.cons c3 (aq.cons (aA.refl (.int .i64 0) _) (aq.cons (aA.refl (.int .i64 10) _) (aq.cons eP (aq.cons (aA.refl (.int .i64 0) _) (aq.cons (aA.refl (.int .i64 0) _) (aq.cons (aA.kI _) (aq.cons (aA.refl (.int .i64 0) _) (aq.refl [] _))))))))))))))))))
 have aty:J h (bn.set (h.n+5) (.cells (c7.flatMap an) 68 none)) none_:=by
  refine J.mO (J.trans (J.trans (J.trans (J.trans fV mz fun q ab e=>by omega) dT fun q ab e=>?_) e8 fun q ab e=>by omega) jt fun q ab e=>?_) (by omega) _
  ·simp [a6,a8] at e;omega
  ·simp [a6,a8] at e;omega
 have kt:=aA.uG Q2 cI afs (by rw [nE];rfl) (.agg [.bj (h.n+5) 0 3 3,.int .i64 1])
 rw [qe] at kt;refine ax ⟨_,_,kt,h.n+5,rfl,by omega,by show h.n+5<bn.n;omega,aT,aty⟩
theorem aft (h:I):Pure ds 23 [] h (.agg (cT c7 1)):=by
 refine Pure.of (a7.agg (aa2 c7 1)) ((atx h).mono fun r h1 ⟨F,aC,auE,afu,Kz,bJ⟩=>?_);subst aC;obtain ⟨jD,rr,oD⟩:=aA.own (A8 (e:=68) (sz:=6) (n:=3) afu Kz (by rw [gM ki];rfl) (by simp [cj])) (n:=3) (by rw [gM ki];rfl) (by decide)
 exact ⟨jD,Pk.aA.agg (aq.cons rr (aq.refl _ _)),bJ.trans oD fun q ab e=>by simp [a6,a8] at e;omega⟩
def vo:bC:=⟨1,0,0,0,0,⟨1,5,0⟩,false,[],[]⟩
def eD:sE:=toldOf [vo]
def d21:hE:=qV c7 1 0
def vp:e5:=Bm eD d21
def t21:e5:=(l2 d21 vp eD 0).1
def yK:e5:=(l2 d21 t21 eD 0).1
def F0:List bC:=Hw d21 yK
theorem n21:zq c7 1 0=0:=by decide
theorem cZ:(l2 d21 vp eD 0).2=(true,0):=by kernel_rfl
theorem dI:(l2 d21 t21 eD 0).2=(false,0):=by kernel_rfl
theorem jB:F0.length=6:=by kernel_rfl
theorem AW:F0.map (fun x=>(x.log,x.kind,x.offs))=[(2,2,[]),(3,2,[]),(3,2,[]),(4,2,[]),(4,2,[]),(0,3,[1])]:=by kernel_rfl
theorem F1:d21=⟨⟨c7,1,0⟩,0,0⟩:=by
 have:iF 1 c7 0=(0,0):=by decide
 unfold d21 qV;rw [this]
theorem VM:qS eD:=by
 refine ⟨by decide,by decide,fun p aU=>?_,fun x aj=>?_⟩
 ·have:∀ p ∈ eD.logs,p.2.length≤2 ^ 30:=by decide
  exact this p aU
 ·have:eD.tasks=[]:=by decide
  rw [this] at aj;cases aj
theorem afv (dE:sE) (d:hE) (o:fR d.c):zl d.c (Bm dE d).m:=arh o
theorem VN (v:Int):logAt eD.logs (fl 1 c7 1 v 0)=[]:=by
 have aw:eD.logs=[(0,[(⟨1,5,0⟩,false)])]:=by kernel_rfl
 unfold logAt;rw [aw];have bI:fl 1 c7 1 v 0≠0:=by
  unfold fl;split
  ·rename_i U;have mP:(c7.length:Int)=3:=rfl;rw [mP] at U⊢;omega
  ·decide
 have:((0:Int)==fl 1 c7 1 v 0)=false:=by simpa using fun e=>bI e.symm
 simp [this]
theorem afw {a b:List bC} (aP:qU a) (al:qU b):qU (a++b):=fun x aj=>by
 rcases List.mem_append.1 aj with h | h
 ·exact aP x h
 ·exact al x h
theorem atz (d:hE) (s:e5) (x:fy):qU (m7 d s x):=by
 unfold m7;refine afw (afw (fun y bp=>?_) (fun y bp=>?_)) (fun y bp=>?_)
 ·obtain ⟨o,_,rfl⟩:=MF.1 bp;exact ⟨rfl,rfl⟩
 ·obtain ⟨o,_,bp⟩:=List.mem_flatMap.1 bp;rcases List.mem_cons.1 bp with rfl | bp
  ·exact ⟨rfl,rfl⟩
  ·rw [aw1.1 bp];exact ⟨rfl,rfl⟩
 ·obtain ⟨o,_,rfl⟩:=MF.1 bp;exact ⟨rfl,rfl⟩
theorem atA {h:I} {i:Nat} {x:bC} (al:x.offs=[]∧x.order=[]) (o:Own h 48 11 (.bj i 0 1 1) (en x)):∃ ad,aA (.bj i 0 1 1) h (.ah 1 ([x].flatMap bh)) ad∧J h ad (·=i):=by
 have cI:aq (en x) h ([x].flatMap bh) h:=by
  have:=O8 h (aq.refl [] h) [x] (fun y bp=>by rw [aw1.1 bp];exact al)
  simpa using this
 exact aA.iz o cI (J.refl h none_) (by simp [none_]) (by simp [bh,en])
theorem afx (h:I) (az:jf h) (hu:vc h):Pure ds 7 [] h (.bool true):=by
 refine Pure.val (a7.bool _) ?_;refine af.au (c:=_) Tryz.func7 rfl (by kernel_rfl) (by simp) ?_
 have dK:=VF h vo;unfold en vo at dK;simp only at dK;simp only [ae,vt,AS,By,reduceCtorEq,AN,NW,s0,Jw,dK];have gT:Own (h.push (.cells (en vo) 48 none)) 48 11 (.bj h.n 0 1 1) (en vo):=Own.eZ _ 1 rfl (by decide)
 obtain ⟨H,hH⟩:∃ x,x=h.push (.cells (en vo) 48 none):=⟨_,rfl⟩;have bw:J h H none_:=by rw [hH];exact J.push _ _ _
 rw [←hH] at gT;unfold en vo at hH;simp only at hH;rw [←hH];clear hH dK;obtain ⟨h1,bb,bJ⟩:=atA ⟨rfl,rfl⟩ gT;have lC:J h h1 none_:=bw.trans bJ fun q ab e=>by omega
 have yl:vc h1:=by unfold vc;rw [lC.glob];exact hu
 refine cB XV (af.args (aq.cons bb (aq.refl _ _)) (aee [vo] (by decide) (fun x aj=>by rw [aw1.1 aj];exact ⟨by decide,by decide⟩) h1 yl)) fun r ab ⟨aC,bd⟩=>?_
 subst aC bd;rw [show toldOf [vo]=eD from rfl]
 have C9:(V.agg (cu eD)).cells=some (cu eD):=rfl;have pD:(if 3≤(cu eD).length then some (V.agg (avB 3 (cu eD))) else none)=some (.agg (cu eD)):=rfl
 have d0:cP (aO.cells (cu eD) 34 none) 0=some (cu eD):=rfl;have nR:cO (some (some 3)) (some (cu eD))=some (.agg (cu eD)):=rfl;obtain ⟨bK,bs⟩:∃ x,x=ab.push (.cells (cu eD) 34 none):=⟨_,rfl⟩;have ba:J ab bK none_:=by rw [bs];exact J.push _ _ _
 have dy:bK.n=ab.n+1:=by rw [bs];rfl
 have ua:bK.get ab.n=.cells (cu eD) 34 none:=by rw [bs];exact ck
 have da:=lC.trans' ba;have t2:=az.ai da;have Mm:bF (some 3) (aO.cells [V.ag,V.ag,.int .i64 0] 34 none) 0 (cu eD)=some (.cells (cu eD) 34 none):=rfl;simp only [ae,vt,reduceCtorEq,Jv,Tb,C9,Mm];rw [←bs];clear bs;have eh:∀ q,¬none_ q:=fun _ h=>h;refine aZ.bB none_ [2] (.c 0 (.q 1 (.a 2 (.q 3 (.q 4 (.q 5 (.q 6 (.q 7 .done)))))))) (by kernel_rfl) (by kernel_rfl) (by kernel_rfl) ?_
 simp only [eH];refine j6 rfl rfl rfl (fun h' hk=>aft h') ?_;simp only [ae,bM,eH,vt,reduceCtorEq,vO,ua,d0,nR,eh];refine cB XX (afj 1 c7 1 0 T2 (by decide) eD VM bK t2 (fun _=>(0,0)) (fun _ _=>rfl) (by decide) (.inl (by decide)) (by rw [show iF 1 c7 0=(0,0) by decide];exact VN)) fun r aD ⟨b2,bf⟩=>?_
 rcases bf with ⟨aG,_⟩ | ⟨_,k,w,ib,ev,c4,yL,f3⟩
 ·exact absurd n21 aG
 subst ev;rw [show qV c7 1 0=d21 from rfl,show Bm eD d21=vp from rfl] at c4
 have n3:=b2.n;have z8:=(b2.get ab.n (by omega) (by simp [none_])).trans ua
 have t3:=t2.ai b2;have ne:=Hs k;have z0:((0:Int) !=0)=false:=rfl;simp only [ae,bM,eH,vt,reduceCtorEq,vO,ne,z8,d0,nR];have sJ:fR d21.c:=by rw [F1];exact Lx
 have g0:zl d21.c vp.m:=afv eD d21 sJ;refine cB B2 (L9 sJ c4 g0 t3 f3 (by decide) eD VM (by decide) (by decide) (by decide) 0) fun r bn ⟨jr,wW,eE,Q3,yM⟩=>?_
 rw [show l2 d21 vp eD 0=(t21,(l2 d21 vp eD 0).2) from rfl,cZ] at jr Q3
 subst jr;have t4:=t3.ai yM.ai;have afy:=(yM.ai.get ab.n (by omega) (by rw [yL _ (by omega)];simp)).trans z8
 have auF:eE ab.n=(0,0):=(yM.bx _ (by omega)).trans (yL _ (by omega))
 have n4:=yM.ai.n;simp only [ae,vt,reduceCtorEq,vO,afy,d0,nR];have g1:zl d21.c t21.m:=by
  rw [show t21.m=(stepT d21.c vp.m 0 ⟨1,5,0⟩).1.1 by kernel_rfl]
  exact ac6 sJ g0 0 _
 refine cB B2 (L9 sJ Q3 g1 t4 yM.bg (by decide) eD VM (by kernel_rfl) (by rw [show t21.kept.length=5 by kernel_rfl];decide) (by rw [show t21.order.length=1 by kernel_rfl];decide) 0) fun r bN ⟨j5,rj,ea,tw,lT⟩=>?_
 rw [show l2 d21 t21 eD 0=(yK,(l2 d21 t21 eD 0).2) from rfl,dI] at j5 tw
 subst j5;simp only [ae,vt,reduceCtorEq];have Vh:yK.kept=m7 d21 vp (stepT d21.c vp.m 0 ⟨1,5,0⟩).1.2:=by kernel_rfl
 have O9:qU yK.kept:=by rw [Vh];exact atz _ _ _
 refine bW X0 (atm tw O9 (by decide) (by rw [show yK.kept.length=5 by kernel_rfl];decide) (by rw [show yK.order.length=1 by kernel_rfl];decide)) ?_
 rw [show Hw d21 yK=F0 from rfl]
 have aw:=jB;have hm:=AW;generalize F0=L at aw hm;rw [aw];obtain ⟨a0,cb,a2,a3,a4,a5,rfl⟩:∃ a0 cb a2 a3 a4 a5,L=[a0,cb,a2,a3,a4,a5]:=by
  match L,aw with
  | [a0,cb,a2,a3,a4,a5],_=>exact ⟨a0,cb,a2,a3,a4,a5,rfl⟩
 simp only [au9,List.map_nil,List.cons.injEq,Prod.mk.injEq] at hm;obtain ⟨⟨m0,_⟩,_,_,_,_,⟨_,m5,m6⟩,_⟩:=hm;have ft:hG ds 29 (.ah 6 ([a0,cb,a2,a3,a4,a5].flatMap bh)) (.int .i64 0)=some (.at (bh a0++[cb,a2,a3,a4,a5].flatMap bh)):=Vn (l:=[a0,cb,a2,a3,a4,a5]) (k:=0) (by simp)
 have VO:hG ds 29 (.ah 6 ([a0,cb,a2,a3,a4,a5].flatMap bh)) (.int .i64 5)=some (.at (bh a5++[].flatMap bh)):=Vn (l:=[a0,cb,a2,a3,a4,a5]) (k:=5) (by simp)
 generalize [a0,cb,a2,a3,a4,a5].flatMap bh=X at ft VO⊢;generalize [cb,a2,a3,a4,a5].flatMap bh=Y at ft;have vD:bh a0++Y=[.int .i64 a0.kind,.int .i64 a0.task,.int .i64 a0.de,.int .i64 a0.iu,.int .i64 2]++([.int .i64 a0.r.k,.int .i64 a0.r.v,.int .i64 a0.r.t,.bool a0.del,.ah a0.offs.length (ar a0.offs),.ah a0.order.length (ar a0.order)]++Y):=by rw [←m0];rfl
 have Ha:bh a5++([]:List bC).flatMap bh=[.int .i64 3,.int .i64 a5.task,.int .i64 a5.de,.int .i64 a5.iu,.int .i64 a5.log,.int .i64 a5.r.k,.int .i64 a5.r.v,.int .i64 a5.r.t,.bool a5.del,.ah 1 (ar [1]),.ah a5.order.length (ar a5.order)]:=by
  unfold bh;rw [m5,m6];rfl
 rw [vD] at ft;rw [Ha] at VO;simp only [List.cons_append,List.nil_append] at ft;have cX:=En bN 1;have h6:(((6:Nat):Int)==6)=true:=rfl;have bt:((2:Int)==2)=true:=rfl;have c3:((3:Int)==3)=true:=rfl;have mm:((0:Int)==0)=true:=rfl;simp only [ae,vt,AS,By,reduceCtorEq,wZ,GH,Ji,AH,aW,hz,ft,VO,cX,h6];have vR:Own (bN.push (.cells (ar [1]) 3 none)) 3 1 (.bj bN.n 0 1 1) (ar [1]):=Own.eZ _ 1 rfl (by decide)
 obtain ⟨c6,gO,nZ⟩:=aA.own vR (n:=1) rfl (by decide)
 have dW:J h bN none_:=((da.trans' b2).trans yM.ai fun q ab U=>by rw [yL q (by have:=da.n;omega)] at U;simp at U).trans lT.ai fun q ab U=>by
  rw [yM.bx q (by have:=da.n;omega),yL q (by have:=da.n;omega)] at U;simp at U
 refine cB Sw (af.args (aq.cons (aA.refl _ _) (aq.cons gO (aq.refl _ _))) (Ud [1] [1] c6 (by decide))) fun r gV ⟨yx,rq⟩=>?_
 subst yx rq;simp only [ae,vt,reduceCtorEq,aS,Tryz.results7,ac];exact ax ⟨rfl,(dW.trans' (J.push _ _ none_)).trans nZ fun q ab e=>by simp [a6,a8] at e;have:=dW.n;omega⟩
theorem atB (h:I):Pure ds 13 [.c8] h (.tuple []):=by
 have ne:=Ht;refine Pure.val (a7.tuple a1.nil) ?_;refine af.au (c:=_) Tryz.func13 rfl (by kernel_rfl) (by simp) ?_
 simp only [ae,vt,ne,aS,Tryz.results13,hK];exact ax ⟨rfl,J.refl _ _⟩
theorem atC (h:I) (i:Int):Pure ds 14 [.c8,.agg [.ag,.ag,.int .i64 0],.int .i64 i] h (.tuple [.bool false,.int .i64 1]):=by
 have ne:=Ht;refine Pure.val (a7.tuple (a1.cons (a7.bool _) (a1.cons (a7.int _ _) a1.nil))) ?_;refine af.au (c:=_) Tryz.func14 rfl (by kernel_rfl) (by simp) ?_
 have ay:(V.agg [.ag,.ag,.int .i64 0]).cells=some [.ag,.ag,.int .i64 0]:=rfl;simp only [ae,vt,reduceCtorEq,ay,ne,aS,Tryz.results14,c9];exact ax ⟨rfl,J.push _ _ _⟩
theorem atD (h:I):Pure ds 12 [.c8] h .ag:=by
 have ne:=Ht;refine Pure.val a7.ag ?_;refine af.au (c:=_) Tryz.func12 rfl (by kernel_rfl) (by simp) ?_
 simp only [ae,vt,reduceCtorEq,ne,aS,Tryz.results12,ac];exact ax ⟨rfl,J.refl _ _⟩
theorem atE (h:I):Pure ds 17 [.c8] h .ag:=by
 have ne:=Ht;refine Pure.val a7.ag ?_;refine af.au (c:=_) Tryz.func17 rfl (by kernel_rfl) (by simp) ?_
 simp only [ae,vt,reduceCtorEq,ne,aS,Tryz.results17,ac];exact ax ⟨rfl,J.refl _ _⟩
theorem atF (h:I):Pure ds 22 [.c8] h .ag:=by
 have ne:=Ht;refine Pure.val a7.ag ?_;refine af.au (c:=_) Tryz.func22 rfl (by kernel_rfl) (by simp) ?_
 simp only [ae,vt,reduceCtorEq,ne,aS,Tryz.results22,ac];exact ax ⟨rfl,J.refl _ _⟩
theorem atG (h:I) (v:Int):Pure ds 19 [.c8,.int .i64 v] h .ag:=by
 have ne:=Ht;refine Pure.val a7.ag ?_;refine af.au (c:=_) Tryz.func19 rfl (by kernel_rfl) (by simp) ?_
 simp only [ae,vt,reduceCtorEq,ne,aS,Tryz.results19,ac];exact ax ⟨rfl,J.refl _ _⟩
theorem atH (i:Int) (h:I) (az:jf h) (hu:vc h):af ds 5 [.int .i64 i] h (fun r h'=>r=.bool true):=by
 refine af.au (c:=_) Tryz.func5 rfl (by kernel_rfl) (by simp) ?_
 simp only [ae];refine bW Jf (afx h az hu) ?_;simp only [ae,vt];refine bW Ss (atB h) ?_;simp only [ae,vt,reduceCtorEq,YU,Jv];refine bW B2 (atC h i) ?_;have J6:((1:Int)==1)=true:=rfl;have z0:((0:Int)==0)=true:=rfl;have auG:(((0:Nat):Int)==0)=true:=rfl;simp only [ae,vt];refine bW X0 (atD h) ?_;simp only [ae,vt,AH];refine bW Sx (atE h) ?_;simp only [ae,vt,gy];refine bW alY (atF h) ?_;simp only [ae,vt,reduceCtorEq,gy];refine bW alQ (atG h i) ?_;simp only [ae,vt,GM,aS,Tryz.results5,ac];exact ax rfl
theorem atI (l:List bC) (n:Int):logAt (wi l) n=(ik l).logs n:=by
 have t:=EK l;unfold logAt;cases av:(wi l).find? (fun c=>c.1==n) with
 | none=>
  have eh:=axM.1 av;show []=_;refine Classical.byContradiction fun U=>?_;have:=(t.lm (n,(ik l).logs n)).2 ⟨rfl,fun e=>U e.symm⟩;exact eh _ this (by simp)
 | some c=>
  have h1:=aAd av;have ad:c.1=n:=by simpa using aCd av
  show c.2=_;rw [((t.lm c).1 h1).1,ad]
theorem atJ (l:List bC) (n:Int):s5 (wj l) n=kY n (cn (ik l) n):=by
 have t:=EK l;unfold s5 cn;cases av:(wj l).find? (fun c=>c.t==n) with
 | none=>
  have eh:=axM.1 av;cases aV:(ik l).tasks n with
  | none=>rfl
  | some j=>
   have:=(t.b3 (kY n j)).2 ⟨j,aV,rfl⟩;exact absurd (by simp [kY]) (eh _ this)
 | some c=>
  have h1:=aAd av;have ad:c.t=n:=by simpa using aCd av
  obtain ⟨j,aD,bn⟩:=(t.b3 c).1 h1;rw [ad] at aD bn;rw [aD];exact bn
theorem afz {α:Type} {p:List α→Prop} (aK:p []) (aa:∀ l x,p l→p (l++[x])) (l:List α):p l:=by
 have:∀ r:List α,p r.reverse:=fun r=>by
  induction r with
  | nil=>exact aK
  | cons x r ih=>rw [List.reverse_cons];exact aa _ _ ih
 have:=this l.reverse;rwa [List.reverse_reverse] at this
def Mn (l:List bC):Prop:=∀ x ∈ l,x.kind=1∧ko x=true
theorem afA (l:List bC) (h:Mn l):(∀ t,(ik l).tasks t=none)∧∀ k,(ik l).logs k=(l.filter fun x=>x.log==k).map fun x=>(x.r,x.del):=by
 revert h
 refine afz (p:=fun l=>Mn l→(∀ t,(ik l).tasks t=none)∧∀ k,(ik l).logs k=(l.filter fun x=>x.log==k).map fun x=>(x.r,x.del)) (fun _=>⟨fun _=>rfl,fun _=>rfl⟩) (fun l x ih h=>?_) l;obtain ⟨h1,ad⟩:=ih fun y bp=>h y (List.mem_append_left _ bp);obtain ⟨bJ,ba⟩:=h x (by simp)
 rw [Hn];unfold mE;rw [if_neg (by rw [ba];decide),if_pos bJ]
 refine ⟨h1,fun k=>?_⟩;show iD (ik l).logs x k=_;unfold iD;rw [List.filter_append,avz];by_cases e:k=x.log
 ·subst e;rw [if_pos rfl,ad];simp
 ·rw [if_neg e,ad];have:(x.log==k)=false:=by simpa using fun U=>e U.symm
  simp [this]
theorem atK (l:List bC):∀ t j,(ik l).tasks t=some j→j.offs.length≤8:=by
 refine afz (p:=fun l=>∀ t j,(ik l).tasks t=some j→j.offs.length≤8) (fun t j h=>by cases h) (fun l x ih t j h=>?_) l
 have F2:(cn (ik l) x.task).offs.length≤8:=by
  unfold cn;cases aV:(ik l).tasks x.task with
  | none=>exact Dc _
  | some j=>exact ih _ j aV
 rw [Hn] at h;unfold mE at h;split at h
 ·exact ih t j h
 rename_i hm;split at h
 ·exact ih t j h
 split at h
 ·simp only at h;split at h
  ·injection h with h;subst h;unfold lS;split<;>exact F2
  ·exact ih t j h
 split at h
 ·exact ih t j h
 simp only at h;split at h
 ·injection h with h;subst h;unfold nA;split
  ·exact F2
  ·split
   ·exact F2
   ·split
    ·exact ((EG x).1 (by simpa using hm)).2.2.2.2.2.2.1
    ·exact F2
 ·exact ih t j h
theorem atL (l:List bC) (aw:l.length≤2 ^ 30):qS (toldOf l):=by
 have t:=EK l;have bg:=OZ _ l rfl;have CE:=Vg _ l rfl;refine ⟨?_,?_,fun p aU=>?_,fun x aj=>?_⟩
 ·have h1:((wi l).map (·.1)).length≤(l.map (·.log)).length:=axb.length_le_of_subset (awf.2 (t.adT.imp fun h=>by omega)) fun k hk=>by
   obtain ⟨e,he,rfl⟩:=MF.1 hk;have:=(t.lm e).1 he;exact bg.sD _ (this.1 ▸ this.2)
  rw [VY,VY] at h1;show (wi l).length≤_;omega
 ·have h1:((wj l).map (·.t)).length≤(l.map (·.task)).length:=axb.length_le_of_subset (awf.2 (t.adU.imp fun h=>by omega)) fun k hk=>by
   obtain ⟨e,he,rfl⟩:=MF.1 hk;obtain ⟨j,h1,_⟩:=(t.b3 e).1 he;exact (bg.qg _ _ h1).1
  rw [VY,VY] at h1;show (wj l).length≤_;omega
 ·rw [((t.lm p).1 aU).1];have:=adZ l p.1;omega
 ·obtain ⟨j,h1,ad⟩:=(t.b3 x).1 aj;rw [ad];have aD:=atK l _ j h1;have bn:=CE.ord _ j h1;refine ⟨?_,?_⟩
  ·show j.offs.length≤_;omega
  ·show j.ord.length≤_;omega
theorem atM {h:I} {v:V} {l:List bC} (al:qU l) (o:Own h 48 11 v (l.flatMap en)):∃ ad,aA v h (.ah l.length (l.flatMap bh)) ad∧J h ad (a6 v):=by
 by_cases aw:l=[]
 ·subst aw;exact aA.own (n:=0) o rfl (by decide)
 ·have o':=o;rcases o with ⟨_,U⟩ | ⟨i,len,cap,c,ex,rfl,hi,az,hle,bY,dp⟩
  ·have:=congrArg List.length U;rw [gM yJ] at this;have aK:l.length=0:=by rw [List.length_nil] at this;omega
   exact absurd (List.length_eq_zero_iff.1 aK) aw
  ·have cI:aq (l.flatMap en) h (l.flatMap bh) h:=by simpa using O8 h (aq.refl [] h) l al
   have el:len=l.length:=Nat.eq_of_mul_eq_mul_right (show 0<11 by decide) (hle.symm.trans (gM yJ l))
   obtain ⟨aD,c3,b2⟩:=aA.iz o' cI (J.refl h none_) (by simp [none_]) (by rw [gM yJ,gM EE])
   rw [←el];exact ⟨aD,c3,b2.mono fun q e=>by rw [e];rfl⟩
def wS (i:Nat):bC:=⟨1,0,0,0,0,⟨((i % 5:Nat):Int),1,0⟩,false,[],[]⟩
def k9 (n:Nat):List bC:=(VT n).map wS
theorem Pa (n:Nat):(k9 n).length=n:=by unfold k9;rw [VY,List.length_range]
theorem atN (n:Nat):k9 (n+1)=k9 n++[wS n]:=by unfold k9;rw [List.range_succ,avz];rfl
theorem afB (n:Nat):qU (k9 n):=fun x aj=>by
 obtain ⟨i,_,rfl⟩:=MF.1 aj;exact ⟨rfl,rfl⟩
theorem atO (i:Nat):ko (wS i)=true:=by
 unfold ko wb wS;simp [fit,EF]
theorem afC (n:Nat):Mn (k9 n):=fun x aj=>by
 obtain ⟨i,_,rfl⟩:=MF.1 aj;exact ⟨rfl,atO i⟩
theorem afD (n:Nat) (k:Int):logAt (toldOf (k9 n)).logs k=if k=0 then (k9 n).map (fun x=>(x.r,x.del)) else []:=by
 show logAt (wi (k9 n)) k=_;rw [atI,(afA _ (afC n)).2];split
 ·rename_i e;subst e;rw [List.filter_eq_self.2 fun x aj=>by
   obtain ⟨i,_,rfl⟩:=MF.1 aj;rfl]
 ·rename_i e;rw [List.filter_eq_nil_iff.2 fun x aj=>by
   obtain ⟨i,_,rfl⟩:=MF.1 aj;show ¬((0:Int)==k)=true;simpa using fun U=>e U.symm]
  rfl
theorem afE (n:Nat) (k:Int):s5 (toldOf (k9 n)).tasks k=⟨k,0,0,[],[],0⟩:=by
 show s5 (wj (k9 n)) k=_;rw [atJ];unfold cn;rw [(afA _ (afC n)).1];rfl
theorem atP (v:Int):fl 1 c7 1 v 0≠0:=by
 unfold fl;split
 ·rename_i U;have mP:(c7.length:Int)=3:=rfl;rw [mP] at U⊢;omega
 ·decide
def fS (n:Nat):sE:=toldOf (k9 n)
theorem atQ (n:Nat):vl d21 (fS n) 0=(k9 n).map (fun x=>(x.r,x.del)):=by
 unfold vl;rw [F1];show logAt (toldOf (k9 n)).logs (fl 1 c7 0 0 0)=_;rw [show fl 1 c7 0 0 0=0 by decide,afD,if_pos rfl]
theorem Mo:d21.c.ins=[0]:=by rw [F1];decide
theorem VP {s:e5} {n j:Nat} (aN:s.offs=[(j:Int)]):(n≤j→l2 d21 s (fS n) 0=(s,false,0))∧(j<n→256≤s.order.length→l2 d21 s (fS n) 0=(s,false,3)) ∧
  (j<n→s.order.length<256→∃ r,l2 d21 s (fS n) 0=(C7 d21 s 0 0 (j:Int) r,true,0)):=by
 have aw:(vl d21 (fS n) 0).length=n:=by rw [atQ,VY,Pa]
 have e:l2 d21 s (fS n) 0=(match (vl d21 (fS n) 0)[j]? with
  | none=>(s,false,0)
  | some r=>if 256≤s.order.length then (s,false,3) else (C7 d21 s 0 0 (j:Int) (L8 r.1),true,0)):=by
  unfold l2;rw [Mo,aN];rw [if_neg (by simp)]
  simp only [show (0:Int).toNat=0 from rfl,List.getD_cons_zero,Int.toNat_natCast]
  cases ab:(vl d21 (fS n) 0)[j]? with
  | none=>rfl
  | some r=>simp only [if_neg (show ¬((j:Int)<0) by omega)]
 rw [e];refine ⟨fun h=>?_,fun h ad=>?_,fun h ad=>?_⟩
 ·rw [List.getElem?_eq_none (by omega)]
 ·rw [ME (by omega)]
  simp only [if_pos ad]
 ·rw [ME (by omega)]
  simp only [if_neg (show ¬256≤s.order.length by omega)]
  exact ⟨_,rfl⟩
theorem sJ:fR d21.c:=by rw [F1];exact Lx
theorem atS {d:hE} {s:e5} (o:fR d.c) (g:zl d.c s.m) (v:Int) (r:Rec):(m7 d s (stepT d.c s.m v r).1.2).length≤2 ^ 25:=by
 have bo:=ac7 o g v r;have ad:(stepT d.c s.m v r).1.2.outs.length≤2 ^ 22∧(stepT d.c s.m v r).1.2.chgs.length≤2 ^ 22∧(stepT d.c s.m v r).1.2.deads.length≤2 ^ 22:=by unfold sz at bo;omega
 unfold m7;rw [IS,IS,VY,VY,L4 (enc:=sI d s) (sz:=2) (fun _=>rfl),List.length_zip];omega
structure yN (j:Nat) (s:e5):Prop where
 s6:zl d21.c s.m
 offs:s.offs=[(j:Int)]
 ord:s.order.length≤j
 kept:s.kept.length≤s.order.length * 2 ^ 25
theorem yN.step {j:Nat} {s:e5} (k:yN j s) (r:Rec):yN (j+1) (C7 d21 s 0 0 (j:Int) r)∧(C7 d21 s 0 0 (j:Int) r).order.length=s.order.length+1:=by
 have hk:=atS sJ k.s6 0 r;refine ⟨⟨ac6 sJ k.s6 0 r,?_,?_,?_⟩,?_⟩
 ·show s.offs.set (0:Int).toNat ((j:Int)+1)=_;rw [k.offs];rfl
 ·show (s.order++[(0:Int)]).length≤_;rw [IS];have:=k.ord;simp;omega
 ·show (s.kept++m7 d21 s (stepT d21.c s.m 0 r).1.2).length≤(s.order++[(0:Int)]).length * 2 ^ 25;rw [IS,IS,List.length_singleton,Nat.add_mul];have:=k.kept;omega
 ·show (s.order++[(0:Int)]).length=_;rw [IS];rfl
theorem atT (m:Nat) (k:Nat) (hm:m * 11=k * 11+11) (hk:k≤2 ^ 36):m * 120≤lim∧m≤lim:=by
 have:m=k+1:=by omega
 subst this;exact ⟨by simp only [lim];omega,by simp only [lim];omega⟩
theorem atU (many:Nat) (hm:many<65536) (h:I) (az:jf h) (hu:vc h):af ds 6 [.int .u16 (many:Nat)] h (fun r h'=>r=.bool true):=by
 refine af.au (c:=_) Tryz.func6 rfl (by kernel_rfl) (by simp) ?_
 have rm:∀ xo yo,cH ds .rem 60 xo yo (.int .u16 (many:Int)) (.int .u16 600)=some (.int .u16 ((many % 600:Nat):Int)):=fun xo yo=>by
  rw [BH (by decide),awD (by omega)];rfl
 have e8:IntKind.i64.wrap ((many % 600:Nat):Int)=((many % 600:Nat):Int):=Go.IntWalk.i64_in _ (by omega)
 obtain ⟨n,aG⟩:∃ n,n=many % 600:=⟨_,rfl⟩;have abn:n<600:=by omega
 rw [←aG] at rm e8;simp only [ae];refine bW Jf (afx h az hu) ?_;simp only [ae,vt,reduceCtorEq,rm,mq amL iA,e8];refine aZ.bQ (α:=Nat×V) (fun y f h'=>f 3=.bool true∧f 4=.int .i64 (n:Nat)∧f 5=y.2∧f 6=.int .i64 (y.1:Nat)∧y.1≤n∧Acc h h' 48 11 y.2 ((k9 y.1).flatMap en)) (fun y=>n - y.1) (0,.ag)
  ⟨rfl,rfl,rfl,rfl,Dc _,Acc.nil (J.refl _ _)⟩ ?_
 rintro ⟨i,v⟩ f h1 ⟨f3,f4,f5,f6,hi,cb⟩
 simp only at f5 f6 hi cb;refine ee (by kernel_rfl) ?_
 by_cases aM:i<n
 ·have bb:decide ((i:Int)<((n:Nat):Int))=true:=decide_eq_true (by omega)
  have oL:=sU aM (by omega)
  have afF:∀ xo yo,cH ds .rem 3 xo yo (.int .i64 (i:Int)) (.int .i64 5)=some (.int .i64 ((i % 5:Nat):Int)):=fun xo yo=>by
   rw [BH (by decide),awD (by omega)];rfl
  have zn:=VF h1 (wS i);obtain ⟨v4,bn,jr,a4⟩:=cb.xb (P:=ds) (t:=29) (T:=⟨48,[.int .i64 0,.int .i64 0,.int .i64 0,.int .i64 0,.int .i64 0,.int .i64 0,.int .i64 0,.int .i64 0,.bool false,.ag,.ag],11,120⟩) Ca (by decide) (xs:=en (wS i)) rfl (VB _) (fun m hm=>by
   have gF:m * 11=((k9 i).flatMap en).length+11:=hm;rw [gM yJ,Pa] at gF;exact atT m i gF (by omega))
  unfold en wS at zn jr;simp only at zn jr;simp only [ae,vt,AS,By,AN,NW,s0,Jw,f4,f5,f6,bb,afF,zn,jr,oL];exact ax ⟨(i+1,v4),⟨f3,f4,rfl,rfl,aM,by
   rw [atN,List.flatMap_append];exact a4.conv (by simp [en,wS])⟩,by simp only;omega⟩
 have bb:decide ((i:Int)<((n:Nat):Int))=false:=decide_eq_false (by omega)
 have Bk:i=n:=by omega
 subst Bk;obtain ⟨aL,Oc,atV⟩:=atM (afB i) cb.own;have lC:J h aL none_:=cb.ai.trans atV fun q ab e=>by have:=cb.new q e;omega
 have yl:vc aL:=by unfold vc;rw [lC.glob];exact hu
 simp only [ae,vt,f4,f5,f6,bb];refine cB XV (af.args (aq.cons Oc (aq.refl _ _)) (aee (k9 i) (by rw [Pa];omega) (fun x aj=>by
  obtain ⟨aC,bd⟩:=afB i x aj;unfold Bh;rw [aC,bd];exact ⟨by decide,by decide⟩) aL yl)) fun r ab ⟨aC,bd⟩=>?_
 subst aC bd;have aY:qS (fS i):=atL (k9 i) (by rw [Pa];omega)
 rw [show toldOf (k9 i)=fS i from rfl]
 have C9:(V.agg (cu (fS i))).cells=some (cu (fS i)):=rfl;have pD:(if 3≤(cu (fS i)).length then some (V.agg (avB 3 (cu (fS i)))) else none)=some (.agg (cu (fS i))):=rfl
 have d0:cP (aO.cells (cu (fS i)) 34 none) 0=some (cu (fS i)):=rfl;have nR:cO (some (some 3)) (some (cu (fS i)))=some (.agg (cu (fS i))):=rfl;obtain ⟨bK,bs⟩:∃ x,x=ab.push (.cells (cu (fS i)) 34 none):=⟨_,rfl⟩;have ba:J ab bK none_:=by rw [bs];exact J.push _ _ _
 have dy:bK.n=ab.n+1:=by rw [bs];rfl
 have ua:bK.get ab.n=.cells (cu (fS i)) 34 none:=by rw [bs];exact ck
 have t2:=az.ai (lC.trans' ba);have Mm:bF (some 3) (aO.cells [V.ag,V.ag,.int .i64 0] 34 none) 0 (cu (fS i))=some (.cells (cu (fS i)) 34 none):=rfl;simp only [ae,vt,Jv,Tb,C9,Mm];rw [←bs];clear bs;have eh:∀ q,¬none_ q:=fun _ h=>h;refine aZ.bB none_ [2] (.c 0 (.q 1 (.a 2 (.q 3 (.q 4 (.q 5 (.q 6 (.q 7 .done)))))))) (by kernel_rfl) (by kernel_rfl) (by kernel_rfl) ?_
 simp only [eH];refine j6 rfl rfl rfl (fun h' hk=>aft h') ?_;simp only [ae,bM,eH,vt,vO,ua,d0,nR,eh];refine cB XX (afj 1 c7 1 0 T2 (by decide) (fS i) aY bK t2 (fun _=>(0,0)) (fun _ _=>rfl) (by decide) (.inl (by unfold fS;rw [afE])) (by
  rw [show iF 1 c7 0=(0,0) by decide]
  intro v;unfold fS;rw [afD,if_neg (atP v)])) fun r aD ⟨b2,bf⟩=>?_
 rcases bf with ⟨aG,_⟩ | ⟨_,k,w,ib,ev,c4,yL,Q4⟩
 ·exact absurd n21 aG
 subst ev;rw [show qV c7 1 0=d21 from rfl] at c4
 have n3:=b2.n;have z8:=(b2.get ab.n (by omega) (by simp [none_])).trans ua
 have t3:=t2.ai b2;have Mp:ib ab.n=(0,0):=yL _ (by omega)
 have ne:=Hs k;have z0:((0:Int) !=0)=false:=rfl;have Br:yN 0 (Bm (fS i) d21):=⟨afv _ _ sJ,by unfold Bm;rw [show s5 (fS i).tasks d21.n=⟨d21.n,0,0,[],[],0⟩ from afE i _,Mo];rfl,BY _,Dc _⟩
 simp only [ae,bM,eH,vt,ne];obtain ⟨ui,Mq⟩:∃ ui,ui=ab.n:=⟨_,rfl⟩;rw [←Mq] at z8 Mp;have Q5:ui<aD.n:=by omega
 refine aZ.bQ (α:=Nat×e5×oO×cG) (fun y f h'=>f 3=.bool true∧f 4=.int .i64 (i:Nat)∧f 7=.ptr ui 0∧f 8=.ptr k 0∧f 10=.int .i64 (y.1:Nat)∧y.1≤i∧y.1≤256∧fe h' y.2.2.2 1 k y.2.2.1 d21 y.2.1∧yN y.1 y.2.1∧y.2.1.order.length=y.1∧h'.get ui=.cells (cu (fS i)) 34 none∧y.2.2.2 ui=(0,0)∧ui<h'.n∧jf h'∧Fr h' y.2.2.2) (fun y=>256 - y.1) (0,Bm (fS i) d21,w,ib)
  ⟨f3,f4,by rw [Mq];rfl,rfl,rfl,Dc _,Dc _,c4,Br,rfl,z8,Mp,Q5,t3,Q4⟩ ?_
 clear c4 Br z8 Mp Q5 t3 Q4 yL b2 n3 f3 f4 f5 f6 ne ua Mq
 rintro ⟨j,s,w,ow⟩ f bn ⟨f3,f4,f7,f8,f10,aV,tq,c4,eb,pw,ua,EV,w9,bl,bg⟩
 simp only at f10 aV tq c4 eb pw EV bg;refine ee (by kernel_rfl) ?_
 have VQ:=VP (n:=i) eb.offs;have cd:=L9 sJ c4 eb.s6 bl bg (by decide) (fS i) aY (by rw [eb.offs,Mo];rfl) (by have:=eb.kept;omega) (by omega) 0
 by_cases aM:j<i∧j<256
 ·have bb:decide ((j:Int)<((i:Nat):Int))=true:=decide_eq_true (by omega)
  have bt:decide ((j:Int)<256)=true:=decide_eq_true (by omega)
  have oL:=sU aM.1 (by omega)
  obtain ⟨nY,e6⟩:=VQ.2.2 aM.1 (by omega)
  rw [e6] at cd;obtain ⟨afG,iH⟩:=eb.step nY;simp only [ae,vt,vO,f4,f7,f8,f10,bb,bt,ua,d0,nR];refine cB B2 cd fun r bN ⟨j5,rj,ea,tw,lT⟩=>?_;subst j5;have lU:(!true)=false:=rfl;simp only [ae,vt,f10,lU,oL];exact ax ⟨(j+1,_,rj,ea),⟨f3,f4,f7,f8,rfl,aM.1,aM.2,tw,afG,by rw [iH,pw],(lT.ai.get ui w9 (by rw [EV];simp)).trans ua,(lT.bx ui w9).trans EV,MC w9 lT.ai.n,bl.ai lT.ai,lT.bg⟩,by simp only;omega⟩
 by_cases D2:256<i
 ·have L7:j=256:=by omega
  have bb:decide ((j:Int)<((i:Nat):Int))=true:=decide_eq_true (by omega)
  have bt:decide ((j:Int)<256)=false:=decide_eq_false (by omega)
  have c3:decide ((256:Int)<((i:Nat):Int))=true:=decide_eq_true (by omega)
  have eP:((3:Int) !=3)=false:=rfl;have c5:decide (((i:Nat):Int)≤256)=false:=decide_eq_false (by omega)
  obtain ⟨Mr⟩:Nonempty (l2 d21 s (fS i) 0=(s,false,3)):=⟨VQ.2.1 (by omega) (by omega)⟩
  rw [Mr] at cd;simp only [ae,vt,vO,f4,f7,f8,f10,bb,bt,ua,d0,nR];refine cB B2 cd fun r bN ⟨j5,rj,ea,tw,lT⟩=>?_;subst j5;have Ms:=(lT.ai.get ui w9 (by rw [EV];simp)).trans ua
  have Mt:=(lT.bx ui w9).trans EV;have Mu:=MC w9 lT.ai.n;have Mv:=bl.ai lT.ai;simp only [ae,vt,f4,f8,c3,c5];refine cB Ss (aeR tw) fun r c6 ⟨yx,Mw,fV⟩=>?_;subst yx;have Mx:=(fV.get ui Mu (fun U=>by have:=tw.own;rw [←U,Mt] at this;simp at this)).trans Ms
  have C8:=Mv.ai fV;have My:Fr c6 ea:=fun q ab=>lT.bg q (by have:=fV.n;omega)
  have vZ:=L9 sJ Mw eb.s6 C8 My (by decide) (fS i) aY (show s.offs.length=_ by rw [eb.offs,Mo];rfl) (Dc _) (Dc _) 0
  have Mz:=VP (s:=O4 s) (n:=i) (j:=j) eb.offs;obtain ⟨dI,yn⟩:=Mz.2.2 (by omega) (show ([]:List Int).length<256 by decide)
  rw [yn] at vZ;simp only [ae,vt,vO,f7,f8,Mx,d0,nR];refine cB B2 vZ fun r gV ⟨rq,atW,afH,MA,FX⟩=>?_;subst rq;have lB:=VE MA (show (s.offs.set (0:Int).toNat ((j:Int)+1)).length≤2 ^ 20 by rw [List.length_set,eb.offs];simp)
  have cX:=En gV (min (i:Int) 257);have Db:(s.offs.set (0:Int).toNat ((j:Int)+1))=[min (i:Int) 257]:=by
   rw [eb.offs];rw [L7,show min (i:Int) 257=257 by omega];rfl
  simp only [ae,vt,Jc,f3,f4,f8,c3];refine bW Sx lB ?_;simp only [ae,vt,f4,cX];have vR:Own (gV.push (.cells (ar [min (i:Int) 257]) 3 none)) 3 1 (.bj gV.n 0 1 1) (ar [min (i:Int) 257]):=Own.eZ _ 1 rfl (by decide)
  obtain ⟨kh,gO,nZ⟩:=aA.own vR (n:=1) rfl (by decide)
  refine cB Sw (af.args (aq.cons (aA.refl _ _) (aq.cons gO (aq.refl _ _))) (Ud ((s.offs.set (0:Int).toNat ((j:Int)+1))) [min (i:Int) 257] kh (by rw [Db];simp))) fun r fU ⟨yy,Mh⟩=>?_
  subst yy Mh;have EW:decide (((s.offs.set (0:Int).toNat ((j:Int)+1)))=[min (i:Int) 257])=true:=decide_eq_true Db;simp only [ae,vt,EW,aS,aCe,ac];exact ax rfl
 ·have L7:j=i:=by omega
  have bb:decide ((j:Int)<((i:Nat):Int))=false:=decide_eq_false (by omega)
  have c3:decide ((256:Int)<((i:Nat):Int))=false:=decide_eq_false (by omega)
  have c5:decide (((i:Nat):Int)≤256)=true:=decide_eq_true (by omega)
  obtain ⟨Mr⟩:Nonempty (l2 d21 s (fS i) 0=(s,false,0)):=⟨VQ.1 (by omega)⟩
  rw [Mr] at cd;simp only [ae,vt,vO,f4,f7,f8,f10,bb,ua,d0,nR];refine cB B2 cd fun r bN ⟨j5,rj,ea,tw,lT⟩=>?_;subst j5;have Ms:=(lT.ai.get ui w9 (by rw [EV];simp)).trans ua
  have Mt:=(lT.bx ui w9).trans EV;have Mu:=MC w9 lT.ai.n;have Mv:=bl.ai lT.ai;simp only [ae,vt,f4,f8,c3,c5];refine cB Ss (aeR tw) fun r c6 ⟨yx,Mw,fV⟩=>?_;subst yx;have Mx:=(fV.get ui Mu (fun U=>by have:=tw.own;rw [←U,Mt] at this;simp at this)).trans Ms
  have C8:=Mv.ai fV;have My:Fr c6 ea:=fun q ab=>lT.bg q (by have:=fV.n;omega)
  have vZ:=L9 sJ Mw eb.s6 C8 My (by decide) (fS i) aY (show s.offs.length=_ by rw [eb.offs,Mo];rfl) (Dc _) (Dc _) 0
  have Mz:=VP (s:=O4 s) (n:=i) (j:=j) eb.offs;have yn:=Mz.1 (by omega)
  rw [yn] at vZ;simp only [ae,vt,vO,f7,f8,Mx,d0,nR];refine cB B2 vZ fun r gV ⟨rq,atW,afH,MA,FX⟩=>?_;subst rq;have lB:=VE MA (show s.offs.length≤2 ^ 20 by rw [eb.offs];simp)
  have cX:=En gV (min (i:Int) 257);have Db:s.offs=[min (i:Int) 257]:=by
   rw [eb.offs];rw [L7,show min (i:Int) 257=(i:Int) by omega]
  simp only [ae,vt,Jc,f3,f4,f8,c3];refine bW Sx lB ?_;simp only [ae,vt,f4,cX];have vR:Own (gV.push (.cells (ar [min (i:Int) 257]) 3 none)) 3 1 (.bj gV.n 0 1 1) (ar [min (i:Int) 257]):=Own.eZ _ 1 rfl (by decide)
  obtain ⟨kh,gO,nZ⟩:=aA.own vR (n:=1) rfl (by decide)
  refine cB Sw (af.args (aq.cons (aA.refl _ _) (aq.cons gO (aq.refl _ _))) (Ud (s.offs) [min (i:Int) 257] kh (by rw [Db];simp))) fun r fU ⟨yy,Mh⟩=>?_
  subst yy Mh;have EW:decide ((s.offs)=[min (i:Int) 257])=true:=decide_eq_true Db;simp only [ae,vt,EW,aS,aCe,ac];exact ax rfl
open Go Go.Proofs Go.Proofs.YtemdgidnhgcafaaGreatDoor.Ab
def sK:Nat→Option (List V):=fun k=>if k=2 then some fG else if k=1 then some oB else if k=0 then some kK else none
theorem afI:jf (Xn sK):=⟨rfl,rfl⟩
theorem afJ:vc (Xn sK):=rfl
def oP:List (List Int):=[[0,0,0,0],[0,0,0,7],[1,1,0,0],[1,1,0,0],[1,1,0,0],[1,1,0,0],[1,2,0,0],[1,2,1,1048576],[1,2,1,1048576],[2,2,0,0],[1,0,0,7]]
def vq:List Int:=oP.flatten
def MB {H:Type} (r:List Int):DataW H:=.agg (r.map fun z=>.lit (.int .i64 z))
def afK {H:Type}:DataW H:=.agg (oP.map MB)
theorem afL {α:Type}:∀ (n:Nat) (cs:List α) (f:Nat→List α),cs.length=n * 4→(∀ i,i<n→(cs.drop (i * 4)).take 4=f i)→cs=((VT n).map f).flatten
 | 0,cs,f,aw,h=>by
  have:cs=[]:=List.eq_nil_of_length_eq_zero (by simpa using aw)
  subst this;rfl
 | n+1,cs,f,aw,h=>by
  have aK:=h 0 (by omega)
  simp only [Nat.zero_mul,List.drop_zero] at aK;have ih:=afL n (cs.drop 4) (fun i=>f (i+1)) (by rw [List.length_drop];omega) fun i hi=>by
   have:=h (i+1) (by omega)
   rw [List.drop_drop,show 4+i * 4=(i+1) * 4 by omega]
   exact this
  rw [List.range_succ_eq_map,au9,List.flatten_cons,List.map_map];show cs=f 0++((VT n).map fun i=>f (i+1)).flatten;rw [←ih,←aK,List.take_append_drop]
def VR (P:Program) (t:TypeId):Bool:=match P.underlying t with
 | some (.struct eb)=>eb.size==4&&(VT 4).all fun i=>match eb[i]? with
  | some f=>(match P.underlying f.type with | some (.int .i64)=>true | _=>false)&&(f.offset==i&&P.cellsOf f.type==1)
  | none=>false
 | _=>false
theorem atX {P:Program} {t:TypeId} (h:VR P t=true):∃ eb,P.underlying t=some (.struct eb)∧eb.size=4∧∀ (i:Nat) (f:Field),eb[i]?=some f→P.underlying f.type=some (.int .i64)∧f.offset=i∧P.cellsOf f.type=1:=by
 unfold VR at h;split at h
 ·rename_i eb hu;simp only [VW,beq_iff_eq,List.all_eq_true,List.mem_range] at h;refine ⟨eb,hu,h.1,fun i f av=>?_⟩;have hi:i<4:=by
   have:=(Array.getElem?_eq_some_iff.1 av).1;omega
  have:=h.2 i hi;rw [av] at this;simp only [VW,beq_iff_eq] at this;obtain ⟨a,b,c⟩:=this;refine ⟨?_,b,c⟩;split at a
  ·assumption
  ·cases a
 ·cases h
theorem ul {P:Program} {w:World} {base:Nat} {sp:Nat→Bool} {held:Bool} {fuel:Nat} {t e:TypeId} {cs:List Value} {p:List MemPlace}
  (bE:P.underlying t=some (.array 11 e)) (aY:VR P e=true) (pd:P.cellsOf e=4) (afM:P.cellsOf t=44)
  (h:DataW.trod (fun _=>()) P w base sp held fuel t cs=some ((afK:DataW Unit),p)):cs=vq.map fun z=>Value.int .i64 z:=by
 obtain ⟨eb,hu,aa,av⟩:=atX aY;have aw:cs.length=44:=by
  cases fuel with
  | zero=>simp [DataW.trod] at h
  | succ fuel=>
   simp only [DataW.trod,bE] at h;split at h
   ·rename_i aw;rw [afM] at aw;exact aw
   ·cases h
 have tK:∀ i,i<11→(cs.drop (i * 4)).take 4=(oP.getD i []).map fun z=>Value.int .i64 z:=by
  intro i hi;obtain ⟨afS,d,q,bf,Q6⟩:=Lib.array_elem bE h i hi;rw [pd] at Q6;have wJ:d=MB (oP.getD i []):=by
   rw [List.getElem?_map] at bf;have:oP[i]?=some (oP.getD i []):=by
    rw [List.getD,ME (show i<oP.length from hi)]
    rfl
   rw [this] at bf;simpa using bf.symm
  subst wJ;exact Lib.ints_of_struct hu av (by rw [pd,aa]) Q6
 have:=afL 11 cs _ (by omega) tK
 rw [this];rfl
theorem afN {W : World} (h : laidMet ds [("tidemill/expr.kids", Lib.tabData .i64 dn), ("tidemill/rec.uses", Lib.tabData .i64 jq), ("tidemill/topo.needs", afK)] W) : IM sK W := by
 have t1 : Lib.TabIs ds W "tidemill/expr.kids" .i64 dn := Lib.tabIs_of_head (k := .i64) (zs := dn) (g := 2) (t := 292) (e := 3) (n := 17) (by kernel_rfl) (by kernel_rfl) (by kernel_rfl) (by kernel_rfl) (by kernel_rfl) (by kernel_rfl) h
 have t3 : Lib.TabIs ds W "tidemill/rec.uses" .i64 jq := Lib.tabIs_of_head (k := .i64) (zs := jq) (g := 0) (t := 108) (e := 3) (n := 7) (by kernel_rfl) (by kernel_rfl) (by kernel_rfl) (by kernel_rfl) (by kernel_rfl) (by kernel_rfl) (laidMet.tail h)
 have t2 : Lib.TabIs ds W "tidemill/topo.needs" .i64 vq := by
  obtain ⟨ps,⟨au7,iW,cs,fuel,p,q,Kb,oc,VS,bf,_,_⟩,_⟩:=laidMet.tail (laidMet.tail h);have az : ds.globalNamed "tidemill/topo.needs" = some 1 := by kernel_rfl
  have afO:(ds.globals[1]?).map (·.type)=some 246:=by kernel_rfl
  obtain rfl:=Option.some.inj (az.symm.trans Kb);obtain rfl:=Option.some.inj (afO.symm.trans oc);unfold Lib.TabIs;rw [VS,←ul (e:=245) (by kernel_rfl) (by kernel_rfl) (by kernel_rfl) (by kernel_rfl) bf]
 intro k cs hk;unfold sK at hk;split at hk
 ·rename_i e;subst e;obtain rfl:=Option.some.inj hk;exact R3 (by kernel_rfl) t1
 ·split at hk
  ·rename_i _ e;subst e;obtain rfl:=Option.some.inj hk;exact R3 (by kernel_rfl) t2
  ·split at hk
   ·rename_i _ _ e;subst e;obtain rfl:=Option.some.inj hk;exact R3 (by kernel_rfl) t3
   ·cases hk
end Go.Proofs.YtemdgidnhgcafaaGreatDoor.Pk
