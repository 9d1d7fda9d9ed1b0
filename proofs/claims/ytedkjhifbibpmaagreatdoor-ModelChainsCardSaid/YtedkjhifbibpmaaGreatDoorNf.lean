/-
  What functions of the program do, told of abstract states. Conditions: as each theorem says.
-/
import Derived.Test.YtedkjhifbibpmaaGreatDoorNe
import Derived.Test.YtedkjhifbibpmaaGreatDoorAcD
import Derived.Shelf.Sort.Plain
import Derived.Shelf.Slices.In.SortNone
import Derived.Test.YtedkjhifbibpmaaGreatDoorProg
set_option linter.unusedVariables false
set_option linter.unusedSimpArgs false
set_option maxHeartbeats 4000000
set_option maxRecDepth 10000
namespace Go.Proofs.YtedkjhifbibpmaaGreatDoor.Pk
open Go Go.Proofs Go.Proofs.YtedkjhifbibpmaaGreatDoor.Ab
def dO (l:List bC) (p:Int):List V:=[.ai l.length (l.flatMap ar),.int .i64 p]
theorem anr (l:List bC) (p:Int):bo (dO l p):=bo.cons (bj.ai (Ku ale _)) (bo.cons (bj.int _ _) bo.nil)
def l4 (l:List bC):Prop:=l.length<2 ^ 47∧∀ v ∈ l,vr v
def rO (q:Int×Int):V:=.tuple [.int .i64 q.1,.int .i64 q.2]
theorem RK (l:List bC) (p:Int) (a1:l4 l) (h:I) (av:pY h):Pure Tryz.prog 123 [.agg (dO l p)] h (rO (c1 p l)):=by
 have pT:bj (rO (c1 p l)):=bj.tuple (bo.cons (bj.int _ _) (bo.cons (bj.int _ _) bo.nil))
 refine Pure.val pT ?_
 have au:(V.agg (dO l p)).cells=some [.ai l.length (l.flatMap ar),.int .i64 p]:=rfl
 obtain ⟨H,hH⟩:∃ x,x=h.push (.cells [.ai l.length (l.flatMap ar),.int .i64 p] 56 none):=⟨_,rfl⟩
 have gt:H.get h.n=.cells [.ai l.length (l.flatMap ar),.int .i64 p] 56 none:=by rw [hH];exact cA
 have bA:J h H none_:=by rw [hH];exact J.push _ _ _
 have j9:H.n=h.n+1:=by rw [hH];rfl
 refine ae.ax (c:=_) Tryz.func123 rfl (by kernel_rfl) (by simp) ?_
 by_cases h1:p<1
 ·have bh:decide (p<1)=true:=by simpa using h1
  have bs:c1 p l=(-1,2):=if_pos (.inl h1)
  simp only [af,Int.reduceNeg,Nat.reduceEqDiff,Nat.reduceAdd,Nat.reduceLeDiff,E5,bn,au,←hH,gt,bh,aU,Tryz.results123,dn]
  exact aF ⟨by rw [bs];rfl,bA⟩
 have bh:decide (p<1)=false:=by simpa using h1
 by_cases aa:8<p
 ·have bD:decide (8<p)=true:=by simpa using aa
  have bs:c1 p l=(-1,2):=if_pos (.inr (.inl aa))
  simp only [af,Int.reduceNeg,Nat.reduceEqDiff,Nat.reduceAdd,Nat.reduceLeDiff,E5,bn,au,←hH,gt,bh,bD,aU,Tryz.results123,dn]
  exact aF ⟨by rw [bs];rfl,bA⟩
 have bD:decide (8<p)=false:=by simpa using aa
 by_cases aC:l.length=0
 ·have c3:(((l.length:Nat):Int)==0)=true:=by simp [aC]
  have bs:c1 p l=(-1,2):=if_pos (.inr (.inr (.inl aC)))
  simp only [af,Int.reduceNeg,Nat.reduceEqDiff,Nat.reduceAdd,Nat.reduceLeDiff,lU,E5,px,bn,kO,au,←hH,gt,bh,bD,c3,aU,Tryz.results123,dn]
  exact aF ⟨by rw [bs];rfl,bA⟩
 have c3:(((l.length:Nat):Int)==0)=false:=by simp only [beq_eq_false_iff_ne,ne_eq];omega
 by_cases bz:24<l.length
 ·have ew:decide ((24:Int)<((l.length:Nat):Int))=true:=by simp only [decide_eq_true_eq];omega
  have bs:c1 p l=(-1,2):=if_pos (.inr (.inr (.inr bz)))
  simp only [af,Int.reduceNeg,Nat.reduceEqDiff,Nat.reduceAdd,Nat.reduceLeDiff,lU,E5,px,bn,kO,au,←hH,gt,bh,bD,c3,ew,aU,Tryz.results123,dn]
  exact aF ⟨by rw [bs];rfl,bA⟩
 have ew:decide ((24:Int)<((l.length:Nat):Int))=false:=by simp only [decide_eq_false_iff_not];omega
 have bs:c1 p l=oc l 0 l:=if_neg (by omega)
 obtain ⟨LC,Bn⟩:∃ x,x=H.push (.map [] 0):=⟨_,rfl⟩
 have NB:LC.get h.n=.cells [.ai l.length (l.flatMap ar),.int .i64 p] 56 none:=by rw [Bn];exact (mc (by omega)).trans gt
 have sW:J h LC none_:=by rw [Bn];exact bA.bg _
 have Zn:LC.get H.n=.map (uT []) 0:=by rw [Bn];exact cA
 have aqk:LC.n=H.n+1:=by rw [Bn];rfl
 simp only [af,Int.reduceNeg,Nat.reduceEqDiff,Nat.reduceAdd,Nat.reduceLeDiff,lU,E5,px,bn,kO,au,←hH,gt,bh,bD,c3,ew,←Bn,NB]
 refine aX.b9 (α:=Nat×rM×Nat) (fun x f h'=>f 1=.ptr h.n 0∧f 4=.map H.n∧f 30=.int .i64 ((l.length:Nat):Int)∧f 31=.int .i64 (x.1:Nat)∧x.1≤l.length∧J h h' none_∧H.n<h'.n∧h'.get h.n=.cells [.ai l.length (l.flatMap ar),.int .i64 p] 56 none∧h'.get H.n=.map (uT x.2.1) x.2.2∧tU (l.take x.1) x.2.1∧oc l 0 l=oc l x.1 (l.drop x.1)) (fun x=>l.length - x.1) (0,[],0) ⟨rfl,rfl,rfl,rfl,Nat.zero_le _,sW,by omega,NB,Zn,tU.nil,rfl⟩ ?_
 rintro ⟨i,es,cl⟩ f h1 ⟨f1,f4,f30,f31,hi,bB,gv,g1,fG,cN,bF⟩
 simp only at f31 hi fG cN bF
 refine am (by kernel_rfl) ?_
 by_cases aN:i<l.length
 ·have c5:decide ((i:Int)<((l.length:Nat):Int))=true:=by simp only [decide_eq_true_eq];omega
  rw [List.drop_eq_getElem_cons aN] at bF
  obtain ⟨NC,IM,_⟩:=a1.2 _ (List.getElem_mem aN)
  have bX:IntKind.i64.wrap (((i:Nat):Int)+1)=((i+1:Nat):Int):=by rw [Go.IntWalk.i64_in _ (by omega)];omega
  simp only [af,Nat.reduceEqDiff,Nat.reduceAdd,lU,kO,f1,f4,f30,f31,c5,g1]
  refine cy ai3 (anq l i H.n cl es aN (by omega) _ rfl NC IM h1 (av.al bB) gv fG cN) fun r aa ⟨aw,k2,mn⟩=>?_
  subst aw
  have k3:J h aa none_:=bB.trans k2 fun k hk tp=>by omega
  have DB:=k2.n
  have g2:=(k2.get h.n (by omega) (by omega)).trans g1
  replace bF:oc l 0 l=if dg l i l[i]=0 then oc l (i+1) (l.drop (i+1)) else ((i:Int),dg l i l[i]):=bF
  by_cases h0:dg l i l[i]=0
  ·have jw:(dg l i l[i] !=0)=false:=by simp [h0]
   obtain ⟨fs,xu,cn,cO⟩:=mn h0
   rw [if_pos h0] at bF
   simp only [af,Int.reduceNeg,Nat.reduceEqDiff,f31,jw,bX]
   exact aF ⟨(i+1,fs,xu),⟨f1,f4,f30,rfl,by simp only;omega,k3,by omega,g2,cn,cO,bF⟩,by simp only;omega⟩
  ·have jw:(dg l i l[i] !=0)=true:=by simp [h0]
   rw [if_neg h0] at bF
   simp only [af,Int.reduceNeg,Nat.reduceEqDiff,jw,aU,Tryz.results123,dn]
   exact aF ⟨by rw [bs,bF];rfl,k3⟩
 ·have c5:decide ((i:Int)<((l.length:Nat):Int))=false:=by simp only [decide_eq_false_iff_not];omega
  rw [List.drop_of_length_le (by omega)] at bF
  simp only [af,Int.reduceNeg,Nat.reduceEqDiff,f30,f31,c5,aU,Tryz.results123,dn]
  exact aF ⟨by rw [bs,bF];rfl,bB⟩
theorem Cf (h:I) (x:Int):kI Tryz.prog 24 1 [(0,.int .i64 x)] h=some (.bc h.n 0 1 1,h.push (.cells [.int .i64 x] 3 none)):=by rw [qA uA];rfl
theorem RL (l:List Int) (x:Int) (az:l.length<2 ^ 47) (h:I):Pure Tryz.prog 68 [.ai l.length (aY l),.int .i64 x] h (.bool (l.contains x)):=by
 have gk:ae Tryz.prog 130 [.ai l.length (aY l),.int .i64 x] h (fun r h'=>(∃ k:Int,r=.int .i64 k∧(decide (0≤k))=l.contains x)∧h'=h):=by
  refine ae.ax (c:=_) Tryz.func130 rfl (by kernel_rfl) (by simp) ?_
  simp only [af,Int.reduceNeg,Nat.reduceEqDiff,reduceCtorEq,qF]
  refine aX.b9 (α:=Nat) (fun j f h'=>f 0=.ai l.length (aY l)∧f 1=.int .i64 x∧f 7=.int .i64 ((l.length:Nat):Int)∧f 8=.int .i64 (j:Nat)∧j≤l.length∧h'=h∧l.contains x=(l.drop j).contains x) (fun j=>l.length - j) 0 ⟨rfl,rfl,rfl,rfl,Nat.zero_le _,rfl,rfl⟩ ?_
  rintro j f h1 ⟨f0,f1,f7,f8,aS,rfl,bF⟩
  refine am (by kernel_rfl) ?_
  by_cases aN:j<l.length
  ·have c5:decide ((j:Int)<((l.length:Nat):Int))=true:=by simp only [decide_eq_true_eq];omega
   rw [List.drop_eq_getElem_cons aN,List.contains_cons] at bF
   have ck:=tk (P:=Tryz.prog) (kk:=.i64) aN mF
   generalize l[j]=A at *
   have bX:IntKind.i64.wrap (((j:Nat):Int)+1)=((j+1:Nat):Int):=by rw [Go.IntWalk.i64_in _ (by omega)];omega
   cases jw:(x==A)
   ·simp only [af,Int.reduceNeg,Nat.reduceEqDiff,reduceCtorEq,bn,f0,f1,f7,f8,c5,ck,jw,bX]
    rw [jw,Bool.false_or] at bF
    exact aF ⟨j+1,⟨f0,f1,f7,rfl,by omega,rfl,bF⟩,by omega⟩
   ·simp only [af,Int.reduceNeg,Nat.reduceEqDiff,reduceCtorEq,bn,f0,f1,f7,f8,c5,ck,jw,aU,Tryz.results130,ac]
    rw [jw,Bool.true_or] at bF
    exact aF ⟨⟨_,rfl,by rw [bF];simp⟩,rfl⟩
  ·have c5:decide ((j:Int)<((l.length:Nat):Int))=false:=by simp only [decide_eq_false_iff_not];omega
   rw [List.drop_of_length_le (by omega)] at bF
   simp only [af,Int.reduceNeg,Nat.reduceEqDiff,f7,f8,c5,aU,Tryz.results130,ac]
   exact aF ⟨⟨_,rfl,by rw [bF];rfl⟩,rfl⟩
 refine ae.ax (c:=_) Tryz.func68 rfl (by kernel_rfl) (by simp) ?_
 simp only [af,Nat.reduceEqDiff,reduceCtorEq]
 refine cy aiR gk fun r h1 ⟨⟨k,aw,aW⟩,cJ⟩=>?_
 subst aw cJ
 simp only [af,Nat.reduceEqDiff,aU,Tryz.results68,ac]
 exact aF ⟨by rw [aW],rfl⟩
theorem Zo (l:List bC) (p v:Int) (a1:l4 l) (az:l.length≤2 ^ 40) (h:I):Pure Tryz.prog 132 [.agg (dO l p),.int .i64 v] h (.ai (gu v 0 l).length (aY (gu v 0 l))):=by
 refine Pure.acc (e:=3) (sz:=1) (Gn _) (by rw [pU,Nat.mul_one]) (by have:=Db (v:=v) (l:=l) (j:=0);omega) ?_
 have au:(V.agg (dO l p)).cells=some [.ai l.length (l.flatMap ar),.int .i64 p]:=rfl
 obtain ⟨H,hH⟩:∃ x,x=h.push (.cells [.ai l.length (l.flatMap ar),.int .i64 p] 56 none):=⟨_,rfl⟩
 have gt:H.get h.n=.cells [.ai l.length (l.flatMap ar),.int .i64 p] 56 none:=by rw [hH];exact cA
 have bA:J h H none_:=by rw [hH];exact J.push _ _ _
 refine ae.ax (c:=_) Tryz.func132 rfl (by kernel_rfl) (by simp) ?_
 simp only [af,Nat.reduceEqDiff,Nat.reduceAdd,lU,px,kO,au,←hH,gt]
 refine aX.b9 (α:=V×Nat) (fun x f h'=>f 1=.int .i64 v∧f 5=x.1∧f 9=.ai l.length (l.flatMap ar)∧f 10=.int .i64 ((l.length:Nat):Int)∧f 11=.int .i64 (x.2:Nat)∧x.2≤l.length∧Acc h h' 3 1 x.1 (aY (gu v 0 (l.take x.2)))) (fun x=>l.length - x.2) (.an,0) ⟨rfl,rfl,rfl,rfl,rfl,Nat.zero_le _,Acc.nil bA⟩ ?_
 rintro ⟨u,i⟩ f h1 ⟨f1,f5,f9,f10,f11,hi,cG⟩
 simp only at f5 f11 hi cG
 refine am (by kernel_rfl) ?_
 by_cases aN:i<l.length
 ·have c5:decide ((i:Int)<((l.length:Nat):Int))=true:=by simp only [decide_eq_true_eq];omega
  obtain ⟨NC,IM,_⟩:=a1.2 _ (List.getElem_mem aN)
  have gn:=qC (kk:=.i64) (P:=Tryz.prog) iA aN xR
  have ia:=Zk v l[i] (l.take i) 0
  rw [←List.take_succ_eq_append_getElem aN,List.length_take,Nat.min_eq_left (by omega),Nat.zero_add] at ia
  generalize l[i]=A at *
  have fC:=p7 A
  have kS:∀ (q:List V),dv (some (some 6)) (some (ar A++q))=some (.agg (ar A)):=fun q=>nN (iA A)
  have b5:(V.agg (ar A)).cells=some (ar A):=rfl
  have db:bR (some 6) (bb.cells [.int .i64 0,.an,.int .i64 0,.int .i64 0,.an,.int .i64 0] 29 none) 0 (ar A)=some (.cells (ar A) 29 none):=by
   rw [sF (n:=6) (iA A) (zJ A),if_pos (by decide),fC];rfl
  have jN:dB (bb.cells (ar A) 29 none) 1=some [.ai A.a8.length (aY A.a8),.int .i64 A.e.op,.int .i64 A.e.num,.ai A.e.aE.length (A.e.aE.flatMap ay),.int .i64 A.n]:=by rw [fC];rfl
  have bX:IntKind.i64.wrap (((i:Nat):Int)+1)=((i+1:Nat):Int):=by rw [Go.IntWalk.i64_in _ (by omega)];omega
  have ap:=cG.on (J.push h1 (.cells (ar A) 29 none) _)
  simp only [af,Nat.reduceEqDiff,qE,mW,nS,nW,pZ,f1,f9,f10,f11,c5,gn,kS,b5,db,jN]
  refine bU Qe (RL A.a8 v IM _) ?_
  cases si:A.a8.contains v
  ·rw [si,if_neg (by simp),List.append_nil] at ia
   simp only [af,Nat.reduceEqDiff,f11,bX]
   exact aF ⟨(u,i+1),⟨f1,f5,f9,f10,rfl,by simp only;omega,by simp only;rw [ia];exact ap⟩,by simp only;omega⟩
  ·rw [si,if_pos rfl] at ia
   obtain ⟨v2,aa,cn,a2⟩:=ap.elem (P:=Tryz.prog) uA (by decide) (xs:=[.int .i64 (i:Nat)]) rfl rfl (by have:=Db (v:=v) (l:=l.take i) (j:=0);simp [pU,lim] at this⊢;omega) (by have:=Db (v:=v) (l:=l.take i) (j:=0);simp [pU,lim] at this⊢;omega)
   simp only [eI] at cn
   simp only [af,Nat.reduceEqDiff,f5,f11,Cf,cn,bX]
   exact aF ⟨(v2,i+1),⟨f1,rfl,f9,f10,rfl,by simp only;omega,by simp only;rw [ia,TW];exact a2⟩,by simp only;omega⟩
 ·have c5:decide ((i:Int)<((l.length:Nat):Int))=false:=by simp only [decide_eq_false_iff_not];omega
  rw [List.take_of_length_le (by omega)] at cG
  simp only [af,Nat.reduceEqDiff,f5,f10,f11,c5,aU,Tryz.results132,ac]
  exact aF cG
theorem ans (h:I) (js gv ei ft:Int):kI Tryz.prog 25 2 [(0,.agg [.int .i64 js,.int .i64 gv,.an]),(1,.agg [.int .i64 ei,.int .i64 ft,.an])] h=some (.bc h.n 0 2 2,h.push (.cells [.int .i64 js,.int .i64 gv,.an,.int .i64 ei,.int .i64 ft,.an] 27 none)):=by rw [qA Ql];rfl
theorem ant (h:I) (i j b:Nat):kI Tryz.prog 54 3 [(0,.agg [.int .i64 1,.an,.int .i64 0,.int .i64 0,.an,.int .i64 0]),(1,.agg [.int .i64 6,.bc i 0 1 1,.int .i64 6,.int .i64 0,.bc b 0 2 2,.int .i64 0]),(2,.agg [.int .i64 10,.bc j 0 1 1,.int .i64 0,.int .i64 0,.an,.int .i64 0])] h=some (.bc h.n 0 3 3,h.push (.cells [.int .i64 1,.an,.int .i64 0,.int .i64 0,.an,.int .i64 0,.int .i64 6,.bc i 0 1 1,.int .i64 6,.int .i64 0,.bc b 0 2 2,.int .i64 0,.int .i64 10,.bc j 0 1 1,.int .i64 0,.int .i64 0,.an,.int .i64 0] 29 none)):=by rw [qA Ce];rfl
def IP:bG:=.mk 6 0 [.mk 5 0 [],.mk 3 0 []]
def jU:List bC:=[⟨1,[],.mk 0 0 [],0⟩,⟨6,[0],IP,0⟩,⟨10,[1],.mk 0 0 [],0⟩]
theorem uC {h:I} {i n:Nat} {cs:List V} {e:TypeId} {sz:Nat} (hi:i<h.n) (av:h.get i=.cells cs e none) (az:cs.length=n * sz) (aG:n<b2):Own h e sz (.bc i 0 n n) cs :=
 .inr ⟨i,n,n,cs,none,rfl,hi,av,az,by rw [←az];exact List.take_length,.inl ⟨aG,by omega,Nat.le_refl _⟩⟩
theorem anu (h:I) (a b c d e f:bb):let H:=(((((h.push a).push b).push c).push d).push e).push f
  H.n=h.n+6∧H.get h.n=a∧H.get (h.n+1)=b∧H.get (h.n+3)=d∧H.get (h.n+4)=e∧H.get (h.n+5)=f∧J h H none_:=by
 intro H
 refine ⟨rfl,?_,?_,?_,?_,?_,(((((J.push _ _ _).bg _).bg _).bg _).bg _).bg _⟩<;>simp only [H,I.push]<;>repeat first | rfl | rw [if_pos trivial] | rw [if_pos rfl] | rw [if_neg (by omega)]
def RM:List bC:=jU++[⟨10,[2],.mk 0 0 [],1⟩]
theorem ri (o n:Int) (aR:-2 ^ 63≤o∧o<2 ^ 63) (aG:-2 ^ 63≤n∧n<2 ^ 63):fP (.mk o n []):=.mk o n [] (by simp) (by simp) aR aG
theorem RN:fP IP:=.mk 6 0 _ (by simp) (by
 intro k hk
 simp at hk
 rcases hk with rfl | rfl
 ·exact ri 5 0 (by omega) (by omega)
 ·exact ri 3 0 (by omega) (by omega)) (by omega) (by omega)
theorem anv:l4 RM:=by
 refine ⟨by decide,?_⟩
 intro v aD
 simp only [RM,jU,List.cons_append,List.nil_append,List.mem_cons,List.not_mem_nil,or_false] at aD
 rcases aD with rfl | rfl | rfl | rfl
 ·exact ⟨ri 0 0 (by omega) (by omega),by decide,by unfold hx;decide,by unfold hx;decide,by intro f aq;simp at aq<;>(subst aq;unfold hx;omega)⟩
 ·exact ⟨RN,by decide,by unfold hx;decide,by unfold hx;decide,by intro f aq;simp at aq<;>(subst aq;unfold hx;omega)⟩
 ·exact ⟨ri 0 0 (by omega) (by omega),by decide,by unfold hx;decide,by unfold hx;decide,by intro f aq;simp at aq<;>(subst aq;unfold hx;omega)⟩
 ·exact ⟨ri 0 0 (by omega) (by omega),by decide,by unfold hx;decide,by unfold hx;decide,by intro f aq;simp at aq<;>(subst aq;unfold hx;omega)⟩
theorem Zp:l4 jU:=⟨by decide,fun v aD=>anv.2 v (by simp only [RM];exact List.mem_append_left _ aD)⟩
theorem aB.trans {a b c:List V} {h h1 aa:I} (x:aB a h b h1) (y:aB b h1 c aa):aB a h c aa:=fun ρ B aK w b0 hw az=>
 let ⟨ρ1,ey,c2,v1⟩:=x ρ B aK w b0 hw az
 let ⟨ρ2,dm,bX,v2⟩:=y ρ1 B aK w b0 c2 v1
 ⟨ρ2,ey.trans dm,bX,v2⟩
theorem Zq {l:List bC} {i:Nat} {v:bC} (h:dg l i v=0):(1≤v.kind∧v.kind≤10)∧(∀ f ∈ v.a8,0≤f∧f<i)∧kb v=true∧Da l i v=false∧(∀ f ∈ v.a8,gN l f≠10):=by
 unfold dg at h
 split at h
 ·cases h
 rename_i h1
 split at h
 ·cases h
 rename_i aa
 split at h
 ·cases h
 rename_i aC
 split at h
 ·cases h
 rename_i bz
 split at h
 ·cases h
 rename_i bY
 refine ⟨by omega,fun f aq=>?_,by simpa using aC,by simpa using bz,fun f aq hk=>?_⟩
 ·have vd:(v.a8.any fun f=>decide (f<0∨(i:Int)≤f))=false:=by simpa using aa
  rw [List.any_eq_false] at vd
  have:=vd f aq
  simp only [decide_eq_true_eq] at this
  omega
 ·exact bY (List.any_eq_true.2 ⟨f,aq,by simp [hk]⟩)
theorem RO {p:Int} {l:List bC} (h:(c1 p l).2=0):c1 p l=(-1,0)∧(1≤p∧p≤8)∧1≤l.length∧l.length≤24∧oc l 0 l=(-1,0)∧∀ k v,l[k]?=some v→dg l k v=0:=by
 unfold c1 at h⊢
 split at h
 ·cases h
 rename_i aG
 rw [if_neg aG]
 obtain ⟨a,b⟩:=RF h
 exact ⟨a,by omega,by omega,by omega,a,fun k v hk=>by simpa using b k v hk⟩
def fI (v:bC):List Nat:=enc v.kind.toNat++w7 v.a8++enc (jM v.n)++x4 (jc v.e)
def p8 (p:Int) (l:List bC):List Nat:=enc p.toNat++enc l.length++l.flatMap fI
def nf (p:Int) (l:List bC):List Nat:=if (c1 p l).2=0 then p8 p l else []
theorem anw:∀ k,k<11→(ky.getD k (0,0,0,0)).1≤2:=by decide
theorem Fv {p:Int} {l:List bC} (h:(c1 p l).2=0):(1≤p∧p≤8)∧1≤l.length∧l.length≤24∧∀ v ∈ l,(1≤v.kind∧v.kind≤10)∧v.a8.length≤2∧(∀ f ∈ v.a8,0≤f∧f<24)∧kb v=true:=by
 unfold c1 at h
 split at h
 ·cases h
 rename_i ak
 refine ⟨by omega,by omega,by omega,fun v aD=>?_⟩
 obtain ⟨i,hi,rfl⟩:=List.getElem_of_mem aD
 have h0:=(RF h).2 i l[i] (List.getElem?_eq_getElem hi)
 rw [Nat.zero_add] at h0
 obtain ⟨bB,k2,k3,_,_⟩:=Zq h0
 refine ⟨bB,?_,fun f aq=>by have:=k2 f aq;omega,k3⟩
 have:=k3
 unfold kb tS at this
 simp only [Bool.and_eq_true,decide_eq_true_eq] at this
 have aa:=anw l[i].kind.toNat (by omega)
 omega
theorem RP {e:bG} (a1:fP e):(jc e).length≤1280:=by
 unfold jc
 split
 ·rename_i hm
  have h1:=QG (et e) e rfl a1
  have aa:=QJ hm
  omega
 ·simp
theorem Zr {l:List Int} (h:∀ n ∈ l,-2 ^ 63≤n∧n<2 ^ 63) (az:l.length≤2):(w7 l).length≤30:=by
 unfold w7
 rw [List.length_append]
 have h1:=Xd h
 have aa:=(pC l.length (by omega)).2
 omega
theorem Zs {v:bC} (a1:vr v) (hk:1≤v.kind∧v.kind≤10) (az:v.a8.length≤2):(fI v).length≤1400:=by
 unfold fI x4
 simp only [List.length_append]
 have h1:=Zr a1.2.2.2.2 az
 have aa:=(pC v.kind.toNat (by omega)).2
 have aC:=(pC (jM v.n) (m8 _ a1.2.2.2.1.1 a1.2.2.2.1.2)).2
 have bz:=RP a1.1
 have bY:=(pC (jc v.e).length (by omega)).2
 omega
theorem Zt {l:List bC} (h:∀ v ∈ l,(fI v).length≤1400):(l.flatMap fI).length≤1400 * l.length:=by
 induction l with
 | nil=>simp
 | cons v l ih=>
  have h1:=h v (by simp)
  have aa:=ih fun u hu=>h u (by simp [hu])
  simp only [List.flatMap_cons,List.length_append,List.length_cons]
  omega
def Dd (p:Int) (l:List bC):V:=.tuple [.ai (nf p l).length (e7 (nf p l)),.int .i64 (c1 p l).2]
theorem anx (p:Int) (l:List bC):bj (Dd p l):=bj.tuple (bo.cons (bj.ai (AW _)) (bo.cons (bj.int _ _) bo.nil))
theorem anz (l:List bC) (p:Int) (a1:l4 l) (h:I) (av:pY h):Pure Tryz.prog 65 [.agg (dO l p)] h (Dd p l):=by
 refine Pure.of (anx p l) ?_
 have au:(V.agg (dO l p)).cells=some [.ai l.length (l.flatMap ar),.int .i64 p]:=rfl
 obtain ⟨H,hH⟩:∃ x,x=h.push (.cells [.ai l.length (l.flatMap ar),.int .i64 p] 56 none):=⟨_,rfl⟩
 have gt:H.get h.n=.cells [.ai l.length (l.flatMap ar),.int .i64 p] 56 none:=by rw [hH];exact cA
 have bA:J h H none_:=by rw [hH];exact J.push _ _ _
 have j9:h.n<H.n:=by rw [hH];exact Nat.lt_succ_self _
 refine ae.ax (c:=_) Tryz.func65 rfl (by kernel_rfl) (by simp) ?_
 simp only [af,Nat.reduceEqDiff,Nat.reduceAdd,nX,au,←hH,gt]
 refine bU P7 (RK l p a1 H (av.al bA)) ?_
 by_cases h0:(c1 p l).2=0
 rotate_left
 ·have bh:((c1 p l).2 !=0)=true:=by simpa using h0
  have ka:Dd p l=.tuple [.ai 0 [],.int .i64 (c1 p l).2]:=by unfold Dd nf;rw [if_neg h0];rfl
  rw [ka]
  simp only [af,Nat.reduceEqDiff,rO,bh,aU,Tryz.results65,dn]
  exact aF ⟨_,aM.tuple (aB.cons (aM.kD _) (aB.refl _ _)),bA⟩
 ·have bh:((c1 p l).2 !=0)=false:=by simpa using h0
  obtain ⟨aZ,ie,gp,dt⟩:=Fv h0
  obtain ⟨P,rfl⟩:=Int.eq_ofNat_of_zero_le (show 0≤p by omega)
  have ka:Dd P l=.tuple [.ai (p8 P l).length (e7 (p8 P l)),.int .i64 0]:=by unfold Dd nf;rw [if_pos h0,h0]
  have De:=HC (n:=P) (by omega)
  have RQ:=HC (n:=l.length) (by omega)
  simp only [af,Nat.reduceEqDiff,Nat.reduceAdd,Nat.reduceLeDiff,E5,bn,rO,bh,gt,lR iB mY,De]
  refine bU KO (Lb .an [] P H (Rd.an _) (by simp) (by omega)) ?_
  simp only [af,Nat.reduceEqDiff,Nat.reduceAdd,lU,px,kO,gt,lR iB mY,RQ]
  have aw:=(pC P (by omega)).2
  have aW:=(pC l.length (by omega)).2
  refine bU KO (Lb _ _ l.length H (Rd.ai _ _) (by omega) (by omega)) ?_
  simp only [af,Nat.reduceEqDiff,Nat.reduceAdd,lU,px,kO,gt]
  have hlen:∀ v ∈ l,(fI v).length≤1400:=fun v aD=>Zs (a1.2 v aD) (dt v aD).1 (dt v aD).2.1
  refine aX.b9 (α:=Nat) (fun i f h'=>f 1=.ptr h.n 0∧f 6=.ai (enc P++enc l.length++(l.take i).flatMap fI).length (e7 (enc P++enc l.length++(l.take i).flatMap fI))∧f 30=.ai l.length (l.flatMap ar)∧f 31=.int .i64 ((l.length:Nat):Int)∧f 32=.int .i64 (i:Nat)∧i≤l.length∧J h h' none_) (fun i=>l.length - i) 0
   ⟨rfl,by simp only [List.take_zero,List.flatMap_nil,List.append_nil];rfl,rfl,rfl,rfl,Nat.zero_le _,bA⟩ ?_
  rintro i f h1 ⟨f1,f6,f30,f31,f32,hi,bB⟩
  refine am (by kernel_rfl) ?_
  by_cases aN:i<l.length
  ·have c5:decide ((i:Int)<((l.length:Nat):Int))=true:=by simp only [decide_eq_true_eq];omega
   have jn:=a1.2 _ (List.getElem_mem aN)
   obtain ⟨wR,CN,aql,_⟩:=dt _ (List.getElem_mem aN)
   have gn:=qC (kk:=.i64) (P:=Tryz.prog) iA aN xR
   have ia:(l.take (i+1)).flatMap fI=(l.take i).flatMap fI++fI l[i]:=ut l fI aN
   have cw:((l.take i).flatMap fI).length≤1400 * 24:=by
    have:=Zt (l:=l.take i) fun v aD=>hlen v (List.mem_of_mem_take aD)
    rw [List.length_take] at this
    have:(l.take i).length≤24:=by rw [List.length_take];omega
    omega
   generalize l[i]=A at *
   have fC:=p7 A
   have kS:∀ (q:List V),dv (some (some 6)) (some (ar A++q))=some (.agg (ar A)):=fun q=>nN (iA A)
   have b5:(V.agg (ar A)).cells=some (ar A):=rfl
   have db:bR (some 6) (bb.cells [.int .i64 0,.an,.int .i64 0,.int .i64 0,.an,.int .i64 0] 29 none) 0 (ar A)=some (.cells (ar A) 29 none):=by
    rw [sF (n:=6) (iA A) (zJ A),if_pos (by decide),fC];rfl
   have fF:dB (bb.cells (ar A) 29 none) 0=some [.int .i64 A.kind,.ai A.a8.length (aY A.a8),.int .i64 A.e.op,.int .i64 A.e.num,.ai A.e.aE.length (A.e.aE.flatMap ay),.int .i64 A.n]:=by rw [fC];rfl
   have jN:dB (bb.cells (ar A) 29 none) 1=some [.ai A.a8.length (aY A.a8),.int .i64 A.e.op,.int .i64 A.e.num,.ai A.e.aE.length (A.e.aE.flatMap ay),.int .i64 A.n]:=by rw [fC];rfl
   have jm:dB (bb.cells (ar A) 29 none) 2=some (ay A.e++[.int .i64 A.n]):=by obtain ⟨k,aJ,⟨o,m,aE⟩,n⟩:=A;rw [fC,jv];rfl
   have tT:dB (bb.cells (ar A) 29 none) 5=some [.int .i64 A.n]:=by rw [fC];rfl
   have bX:IntKind.i64.wrap (((i:Nat):Int)+1)=((i+1:Nat):Int):=by rw [Go.IntWalk.i64_in _ (by omega)];omega
   have anA:IntKind.u64.wrap A.kind=((A.kind.toNat:Nat):Int):=by rw [IntKind.wrap_u64];omega
   have Zu:=QH A.e
   obtain ⟨cs,cS⟩:∃ y,y=enc P++enc l.length++(l.take i).flatMap fI:=⟨_,rfl⟩
   have RR:enc P++enc l.length++(l.take (i+1)).flatMap fI=(((cs++enc A.kind.toNat)++w7 A.a8)++enc (jM A.n))++x4 (jc A.e):=by rw [ia,cS,fI];simp only [List.append_assoc]
   have si:cs.length≤40000:=by rw [cS];simp only [List.length_append];omega
   rw [←cS] at f6
   have g1:=(pC A.kind.toNat (by omega)).2
   have g2:=Zr jn.2.2.2.2 CN
   have g3:=(pC (jM A.n) (m8 _ jn.2.2.2.1.1 jn.2.2.2.1.2)).2
   have g4:=RP jn.1
   have Zv:pY (h1.push (.cells (ar A) 29 none)):=av.al (bB.trans' (J.push _ _ _))
   simp only [af,Nat.reduceEqDiff,hl,nS,bn,nW,pZ,f6,f30,f31,f32,c5,gn,kS,b5,db,fF,lR iB mY,anA]
   refine bU KO (Lb _ _ A.kind.toNat _ (Rd.ai _ _) (by omega) (by omega)) ?_
   simp only [af,Nat.reduceEqDiff,qE,mW,jN]
   refine bU aiN (ane _ _ A.a8 _ (Rd.ai _ _) jn.2.2.2.2 (by rw [List.length_append];omega)) ?_
   simp only [af,Nat.reduceEqDiff,xW,bx,tT]
   refine bU VY (HB _ _ A.n _ (Rd.ai _ _) (by simp only [List.length_append];omega) jn.2.2.2.1.1 jn.2.2.2.1.2) ?_
   simp only [af,Nat.reduceEqDiff,co,fh,jm,Zu]
   refine bU Qd (QK A.e jn.1 _ Zv.1) ?_
   simp only [af,Nat.reduceEqDiff,rz]
   refine bU aiO (anc _ _ _ (jc A.e) _ (Rd.ai _ _) (Rd.ai _ _) (by simp only [List.length_append];omega)) ?_
   simp only [af,Nat.reduceEqDiff,f32,bX]
   exact aF ⟨i+1,⟨f1,by rw [RR];rfl,f30,f31,rfl,by omega,bB.trans' (J.push _ _ _)⟩,by omega⟩
  ·have c5:decide ((i:Int)<((l.length:Nat):Int))=false:=by simp only [decide_eq_false_iff_not];omega
   rw [List.take_of_length_le (by omega)] at f6
   rw [ka]
   simp only [af,Nat.reduceEqDiff,f6,f31,f32,c5,aU,Tryz.results65,dn]
   exact aF ⟨_,aM.refl _ _,bB⟩
theorem Df (i:Nat) (ao:List Nat) (h:I) (aH:du h (.ptr i 0) i ao) (ak:∀ b ∈ ao,b<256) (au:ao.length≤2 ^ 47) :
  ae Tryz.prog 181 [.ptr i 0] h (fun r h'=>r=.tuple [.int .i64 ((min (dec ao 0 0).1 1000:Nat):Int),.int .i64 ((dec ao 0 0).2.2:Nat)]∧du h' (.ptr i 0) i (ao.drop (dec ao 0 0).2.1)∧J h h' (·=i)):=by
 refine ae.ax (c:=_) Tryz.func181 rfl (by kernel_rfl) (by simp) ?_
 simp only [af,Nat.reduceEqDiff,reduceCtorEq]
 refine cy KS (Lc _ i ao h aH ak au) fun r h1 ⟨aw,cg,bB⟩=>?_
 subst aw
 have De:IntKind.i64.wrap (min ((dec ao 0 0).1:Int) 1000)=((min (dec ao 0 0).1 1000:Nat):Int):=by rw [Go.IntWalk.i64_in _ (by omega)];omega
 simp only [af,Nat.reduceEqDiff,lR mY iB,De,aU,Tryz.results181,dn]
 exact aF ⟨rfl,cg,bB⟩
def p9 (k:Nat) (aJ:List Int) (n:Int) (ao:List Nat):Except Nat (bC×List Nat) :=
 if (hn ao).2.2≠0 then .error (hn ao).2.2
 else if (hn ao).1.length=0 then .ok (⟨(k:Int),aJ,.mk 0 0 [],n⟩,(hn ao).2.1)
 else if np (hn ao).1≠0 then .error (np (hn ao).1)
 else .ok (⟨(k:Int),aJ,nZ (hn ao).1,n⟩,(hn ao).2.1)
def qa (k:Nat) (aJ:List Int) (ao:List Nat):Except Nat (bC×List Nat) :=
 if (dec ao 0 0).2.2≠0 then .error (dec ao 0 0).2.2 else p9 k aJ (fQ (dec ao 0 0).1) (ao.drop (dec ao 0 0).2.1)
def qb (k:Nat) (ao:List Nat):Except Nat (bC×List Nat) :=
 if (jb ao 2).2.2≠0 then .error (jb ao 2).2.2 else qa k (jb ao 2).1 (jb ao 2).2.1
def nq (ao:List Nat):Except Nat (bC×List Nat) :=
 if (dec ao 0 0).2.2≠0 then .error (dec ao 0 0).2.2 else qb (min (dec ao 0 0).1 1000) (ao.drop (dec ao 0 0).2.1)
def Dg:bC:=⟨0,[],.mk 0 0 [],0⟩
def RS:Except Nat (bC×List Nat)→V
 | .error c=>.tuple [.agg (ar Dg),.int .i64 (c:Nat)]
 | .ok (v,_)=>.tuple [.agg (ar v),.int .i64 0]
def Sub (a b:List Nat):Prop:=(∀ x ∈ a,x ∈ b)∧a.length≤b.length
theorem Sub.rfl' (a:List Nat):Sub a a:=⟨fun _ h=>h,Nat.le_refl _⟩
theorem Sub.nil (a:List Nat):Sub [] a:=⟨fun _ h=>(by cases h),Nat.zero_le _⟩
theorem Sub.trans {a b c:List Nat} (x:Sub a b) (y:Sub b c):Sub a c:=⟨fun q h=>y.1 q (x.1 q h),Nat.le_trans x.2 y.2⟩
theorem Sub.drop (a:List Nat) (k:Nat):Sub (a.drop k) a:=⟨fun _ h=>List.mem_of_mem_drop h,by rw [List.length_drop];omega⟩
theorem Sub.take (a:List Nat) (k:Nat):Sub (a.take k) a:=⟨fun _ h=>List.mem_of_mem_take h,by rw [List.length_take];omega⟩
theorem Sub.lt {a b:List Nat} (x:Sub a b) (h:∀ q ∈ b,q<256):∀ q ∈ a,q<256:=fun q ad=>h q (x.1 q ad)
theorem Zw:∀ (m:Nat) (r:List Nat) (acc:List Int),Sub (p0 m r acc).2.1 r
 | 0,r,acc=>Sub.rfl' r
 | m+1,r,acc=>by
  unfold p0
  split
  ·exact Sub.nil _
  ·split
   ·exact Sub.nil _
   ·exact (Zw m _ _).trans (Sub.drop _ _)
theorem Zx (ao:List Nat) (m:Int):Sub (jb ao m).2.1 ao:=by
 unfold jb
 split
 ·exact Sub.rfl' _
 ·split
  ·exact Sub.rfl' _
  ·split
   ·exact Sub.rfl' _
   ·exact (Zw _ _ _).trans (Sub.drop _ _)
theorem RT (ao:List Nat):Sub (hn ao).2.1 ao∧Sub (hn ao).1 ao:=by
 unfold hn
 split
 ·exact ⟨Sub.rfl' _,Sub.nil _⟩
 ·split
  ·exact ⟨Sub.rfl' _,Sub.nil _⟩
  ·exact ⟨(Sub.drop _ _).trans (Sub.drop _ _),(Sub.take _ _).trans (Sub.drop _ _)⟩
theorem IQ (h:I) (c:Nat):aM (.tuple [.agg [.int .i64 0,.an,.int .i64 0,.int .i64 0,.an,.int .i64 0],.int .i64 (c:Nat)]) h (.tuple [.agg (ar Dg),.int .i64 (c:Nat)]) h:=by
 refine aM.tuple (aB.cons ?_ (aB.refl _ _))
 rw [p7]
 exact Pk.aM.agg (aB.skip (aB.cons (aM.kN h) (aB.skip (aB.skip (aB.cons (aM.kN h) (aB.refl _ _))))))
theorem anB (h:I) (k:Nat) (aJ:List Int) (n:Int):aM (.tuple [.agg [.int .i64 (k:Int),.ai aJ.length (aY aJ),.int .i64 0,.int .i64 0,.an,.int .i64 n],.int .i64 0]) h (.tuple [.agg (ar ⟨(k:Int),aJ,.mk 0 0 [],n⟩),.int .i64 0]) h:=by
 refine aM.tuple (aB.cons ?_ (aB.refl _ _))
 rw [p7]
 exact Pk.aM.agg (aB.skip (aB.skip (aB.skip (aB.skip (aB.cons (aM.kN h) (aB.refl _ _))))))
theorem anC (i:Nat) (ao:List Nat) (h:I) (av:ga h) (aH:du h (.ptr i 0) i ao) (ak:∀ b ∈ ao,b<256) (au:ao.length≤2 ^ 47) :
  ae Tryz.prog 182 [.ptr i 0] h (fun r h'=>r=RS (nq ao)∧J h h' (·=i)∧∀ v cF,nq ao=.ok (v,cF)→du h' (.ptr i 0) i cF):=by
 refine ae.cast ?_
 refine ae.ax (c:=_) Tryz.func182 rfl (by kernel_rfl) (by simp) ?_
 have ch:=aH.2.1
 obtain ⟨jd,gw⟩:∃ y,y=h.push (.cells [V.int .i64 0,.an,.int .i64 0,.int .i64 0,.an,.int .i64 0] 29 none):=⟨_,rfl⟩
 have eJ:J h jd (·=i):=by rw [gw];exact J.push _ _ _
 have D4:J h jd none_:=by rw [gw];exact J.push _ _ _
 have g0:jd.get h.n=.cells [V.int .i64 0,.an,.int .i64 0,.int .i64 0,.an,.int .i64 0] 29 none:=by rw [gw];exact cA
 have qD:jd.n=h.n+1:=by rw [gw];rfl
 have k9:=du.al aH D4 (by simp [none_])
 have oQ:bR (some 6) (bb.cells [V.int .i64 0,.an,.int .i64 0,.int .i64 0,.an,.int .i64 0] 29 none) 0 [V.int .i64 0,.an,.int .i64 0,.int .i64 0,.an,.int .i64 0]=some (.cells [V.int .i64 0,.an,.int .i64 0,.int .i64 0,.an,.int .i64 0] 29 none):=rfl
 have z0:(((0:Nat):Int) !=0)=false:=rfl
 simp only [af,Nat.reduceEqDiff,reduceCtorEq,nW]
 rw [←gw]
 clear gw
 refine cy Qb (Df i ao jd k9 ak (by omega)) fun r H1 ⟨aw,cg,bB⟩=>?_
 subst aw
 have s1:Sub (ao.drop (dec ao 0 0).2.1) ao:=Sub.drop _ _
 have g1:=(bB.get h.n (by omega) (by omega)).trans g0
 have pD:=eJ.trans' bB
 have gv:=bB.n
 by_cases aw:(dec ao 0 0).2.2=0
 rotate_left
 ·have bh:(((dec ao 0 0).2.2:Int) !=0)=true:=by simp;omega
  have ka:nq ao=.error (dec ao 0 0).2.2:=by unfold nq;rw [if_pos aw]
  simp only [af,Nat.reduceEqDiff,Nat.reduceAdd,nS,li,nW,pZ,bh,g1,oQ,aU,Tryz.results182,hh,gU,fp,hg]
  rw [ka]
  exact aF ⟨_,_,IQ _ _,rfl,pD.trans (J.set _ h.n _) fun q ad ab=>by omega,fun v cF ab=>by cases ab⟩
 have mN:nq ao=qb (min (dec ao 0 0).1 1000) (ao.drop (dec ao 0 0).2.1):=by unfold nq;rw [if_neg (by omega)]
 rw [aw] at *
 rw [mN]
 generalize min (dec ao 0 0).1 1000=K at *
 generalize ao.drop (dec ao 0 0).2.1=ec at *
 clear mN
 simp only [af,Nat.reduceEqDiff,reduceCtorEq,z0]
 refine cy aji (ang _ i ec 2 H1 cg (s1.lt ak) (by have:=s1.2;omega) (.inr (by decide)) (by decide)) fun r bP ⟨aW,cZ,k2⟩=>?_
 subst aW
 have s2:=(Zx ec 2).trans s1
 have g2:=(k2.get h.n (by omega) (by omega)).trans g1
 have dE:=pD.trans' k2
 have ft:=k2.n
 by_cases aW:(jb ec 2).2.2=0
 rotate_left
 ·have bh:(((jb ec 2).2.2:Int) !=0)=true:=by simp;omega
  have ka:qb K ec=.error (jb ec 2).2.2:=by unfold qb;rw [if_pos aW]
  simp only [af,Nat.reduceEqDiff,Nat.reduceAdd,nS,li,nW,pZ,bh,g2,oQ,aU,Tryz.results182,hh,gU,fp,hg]
  rw [ka]
  exact aF ⟨_,_,IQ _ _,rfl,dE.trans (J.set _ h.n _) fun q ad ab=>by omega,fun v cF ab=>by cases ab⟩
 have mN:qb K ec=qa K (jb ec 2).1 (jb ec 2).2.1:=by unfold qb;rw [if_neg (by omega)]
 rw [aW] at *
 rw [mN]
 generalize (jb ec 2).1=aJ at *
 generalize (jb ec 2).2.1=bW at *
 clear mN
 simp only [af,Nat.reduceEqDiff,reduceCtorEq,z0]
 refine cy P8 (CG _ i bW bP cZ (s2.lt ak) (by have:=s2.2;omega)) fun r jy ⟨cJ,gl,k3⟩=>?_
 subst cJ
 have iy:=(Sub.drop bW (dec bW 0 0).2.1).trans s2
 have g3:=(k3.get h.n (by omega) (by omega)).trans g2
 have eD:=dE.trans' k3
 have n3:=k3.n
 by_cases cJ:(dec bW 0 0).2.2=0
 rotate_left
 ·have bh:(((dec bW 0 0).2.2:Int) !=0)=true:=by simp;omega
  have ka:qa K aJ bW=.error (dec bW 0 0).2.2:=by unfold qa;rw [if_pos cJ]
  simp only [af,Nat.reduceEqDiff,Nat.reduceAdd,nS,li,nW,pZ,bh,g3,oQ,aU,Tryz.results182,hh,gU,fp,hg]
  rw [ka]
  exact aF ⟨_,_,IQ _ _,rfl,eD.trans (J.set _ h.n _) fun q ad ab=>by omega,fun v cF ab=>by cases ab⟩
 have mN:qa K aJ bW=p9 K aJ (fQ (dec bW 0 0).1) (bW.drop (dec bW 0 0).2.1):=by unfold qa;rw [if_neg (by omega)]
 rw [cJ] at *
 rw [mN]
 generalize fQ (dec bW 0 0).1=N at *
 generalize bW.drop (dec bW 0 0).2.1=fK at *
 clear mN
 simp only [af,Nat.reduceEqDiff,reduceCtorEq,z0]
 refine cy LT (anf _ i fK jy gl (iy.lt ak) (by have:=iy.2;omega)) fun r h6 ⟨km,CH,cz⟩=>?_
 subst km
 have p1:=(RT fK).2.trans iy
 have g4:=(cz.get h.n (by omega) (by omega)).trans g3
 have qq:=eD.trans' cz
 have n4:=cz.n
 by_cases km:(hn fK).2.2=0
 rotate_left
 ·have bh:(((hn fK).2.2:Int) !=0)=true:=by simp;omega
  have ka:p9 K aJ N fK=.error (hn fK).2.2:=by unfold p9;rw [if_pos km]
  simp only [af,Nat.reduceEqDiff,Nat.reduceAdd,nS,li,nW,pZ,bh,g4,oQ,aU,Tryz.results182,hh,gU,fp,hg]
  rw [ka]
  exact aF ⟨_,_,IQ _ _,rfl,qq.trans (J.set _ h.n _) fun q ad ab=>by omega,fun v cF ab=>by cases ab⟩
 have mN:p9 K aJ N fK=if (hn fK).1.length=0 then .ok (⟨(K:Int),aJ,.mk 0 0 [],N⟩,(hn fK).2.1) else if np (hn fK).1≠0 then .error (np (hn fK).1) else .ok (⟨(K:Int),aJ,nZ (hn fK).1,N⟩,(hn fK).2.1):=by unfold p9;rw [if_neg (by omega)]
 rw [mN]
 clear mN
 rw [km] at *
 have st1:∀ (k:Int) (m:Nat) (x:List V) (n:Int),bR (some 6) (bb.cells [V.int .i64 0,.an,.int .i64 0,.int .i64 0,.an,.int .i64 0] 29 none) 0 [.int .i64 k,.ai m x,.int .i64 0,.int .i64 0,.an,.int .i64 n]=some (.cells [.int .i64 k,.ai m x,.int .i64 0,.int .i64 0,.an,.int .i64 n] 29 none):=fun _ _ _ _=>rfl
 obtain ⟨h5,gG⟩:∃ y,y=h6.push (.cells [V.int .i64 (K:Int),.ai aJ.length (aY aJ),.int .i64 0,.int .i64 0,.an,.int .i64 N] 29 none):=⟨_,rfl⟩
 have eQ:J h6 h5 (·=i):=by rw [gG];exact J.push _ _ _
 have Zy:J h6 h5 none_:=by rw [gG];exact J.push _ _ _
 have IU:h5.get h6.n=.cells [V.int .i64 (K:Int),.ai aJ.length (aY aJ),.int .i64 0,.int .i64 0,.an,.int .i64 N] 29 none:=by rw [gG];exact cA
 have A3:h5.n=h6.n+1:=by rw [gG];rfl
 have g5:=(eQ.get h.n (by omega) (by omega)).trans g4
 have nY:=qq.trans' eQ
 have Ff:=du.al CH Zy (by simp [none_])
 simp only [af,Nat.reduceEqDiff,Nat.reduceAdd,Nat.reduceLeDiff,rp,li,nW,pZ,z0,st1]
 rw [←gG]
 clear gG
 by_cases dk:(hn fK).1.length=0
 ·have bh:decide ((0:Int)<(((hn fK).1.length:Nat):Int))=false:=decide_eq_false (by omega)
  rw [if_pos dk]
  simp only [af,Nat.reduceEqDiff,Nat.reduceAdd,nS,pZ,bh,IU,g5,st1,aU,Tryz.results182,hh,gU,fp,hg]
  have en:J h5 (h5.set h.n (.cells [V.int .i64 (K:Int),.ai aJ.length (aY aJ),.int .i64 0,.int .i64 0,.an,.int .i64 N] 29 none)) (·=h.n):=J.set _ h.n _
  exact aF ⟨_,_,anB _ _ _ _,rfl,nY.trans en fun q ad ab=>by omega,fun v cF ab=>by injection ab with ab;injection ab with h1 aa;subst aa;exact Ff.al en (by omega)⟩
 ·have bh:decide ((0:Int)<(((hn fK).1.length:Nat):Int))=true:=decide_eq_true (by omega)
  simp only [af,Nat.reduceEqDiff,bh]
  refine bU We (M3 _ (hn fK).1 h5 (av.al nY) (Rd.ai _ _) (p1.lt ak) (by have:=p1.2;omega)) ?_
  rw [if_neg dk]
  generalize (hn fK).1=xs at *
  unfold rF
  have ND:=w8 (nZ xs)
  obtain ⟨A,hI⟩:∃ y,y=(⟨(K:Int),aJ,nZ xs,N⟩:bC):=⟨_,rfl⟩
  have NF:bR (some 3) (bb.cells [V.int .i64 (K:Int),.ai aJ.length (aY aJ),.int .i64 0,.int .i64 0,.an,.int .i64 N] 29 none) 2 (ay (nZ xs))=some (.cells (ar A) 29 none):=by
   rw [sF (n:=3) (ot _) (Hu _),if_pos (by simp),hI]
   simp only [ar]
   generalize nZ xs=E
   cases E
   rfl
  have b5:(V.agg (ar A)).cells=some (ar A):=rfl
  have db:bR (some 6) (bb.cells [V.int .i64 0,.an,.int .i64 0,.int .i64 0,.an,.int .i64 0] 29 none) 0 (ar A)=some (.cells (ar A) 29 none):=by
   rw [sF (n:=6) (iA A) (zJ A),if_pos (by decide),p7];rfl
  have fF:dB (bb.cells (ar A) 29 none) 0=some (ar A):=by rw [p7];rfl
  have kX:dv (some (some 6)) (some (ar A))=some (.agg (ar A)):=by rw [p7];rfl
  have apQ:(if 6≤(ar A).length then some (V.agg (List.take 6 (ar A))) else none)=some (.agg (ar A)):=by rw [p7];rfl
  have wR:J h5 (h5.set h6.n (.cells (ar A) 29 none)) (·=h6.n):=J.set _ _ _
  have g6:=(wR.get h.n (by omega) (by omega)).trans g5
  by_cases nI:np xs=0
  ·have bD:((np xs:Int) !=0)=false:=by simp [nI]
   rw [if_neg (by omega)]
   simp only [af,Nat.reduceEqDiff,co,nS,mZ,pZ,ND,IU,NF,bD,fF,kX,g6,b5,db,aU,Tryz.results182,hh,gU,fp,hg]
   have en:J (h5.set h6.n (.cells (ar A) 29 none)) ((h5.set h6.n (.cells (ar A) 29 none)).set h.n (.cells (ar A) 29 none)) (·=h.n):=J.set _ h.n _
   exact aF ⟨_,_,aM.refl _ _,by rw [hI];rfl,(nY.trans wR fun q ad ab=>by omega).trans en fun q ad ab=>by omega,fun v cF ab=>by injection ab with ab;injection ab with h1 aa;subst aa;exact (Ff.al wR (by omega)).al en (by omega)⟩
  ·have bD:((np xs:Int) !=0)=true:=by simp;omega
   rw [if_pos nI]
   simp only [af,Nat.reduceEqDiff,Nat.reduceAdd,co,nS,li,nW,mZ,pZ,ND,IU,NF,bD,g6,oQ,aU,Tryz.results182,hh,gU,fp,hg]
   exact aF ⟨_,_,IQ _ _,rfl,(nY.trans wR fun q ad ab=>by omega).trans (J.set _ h.n _) fun q ad ab=>by omega,fun v cF ab=>by cases ab⟩
def iG:Nat→List Nat→List bC→Except Nat (List bC×List Nat)
 | 0,ao,acc=>.ok (acc,ao)
 | m+1,ao,acc=>match nq ao with
  | .error c=>.error c
  | .ok (v,cF)=>iG m cF (acc++[v])
def qc (p n:Nat) (ao:List Nat):Except Nat (Nat×List bC×List Nat):=match iG n ao [] with
 | .error c=>.error c
 | .ok (l,r)=>.ok (p,l,r)
def qd (p:Nat) (ao:List Nat):Except Nat (Nat×List bC×List Nat) :=
 if (dec ao 0 0).2.2≠0 then .error (dec ao 0 0).2.2 else if 24<min (dec ao 0 0).1 1000 then .error 2 else qc p (min (dec ao 0 0).1 1000) (ao.drop (dec ao 0 0).2.1)
def oR (ao:List Nat):Except Nat (Nat×List bC×List Nat) :=
 if (dec ao 0 0).2.2≠0 then .error (dec ao 0 0).2.2 else qd (min (dec ao 0 0).1 1000) (ao.drop (dec ao 0 0).2.1)
def RU:Except Nat (Nat×List bC×List Nat)→V
 | .error c=>.tuple [.agg (dO [] 0),.int .i64 (c:Nat)]
 | .ok (p,l,_)=>.tuple [.agg (dO l (p:Int)),.int .i64 0]
theorem anD {xs:List Nat} (h:np xs≠0→False) (ag:xs≠[]):∃ e,nn xs=.ok e∧nZ xs=e:=by
 unfold np at h
 unfold nZ
 cases ad:nn xs with
 | ok e=>exact ⟨e,rfl,rfl⟩
 | error c=>rw [ad] at h;exact (h (akU ad)).elim
theorem Zz:∀ (m:Nat) (r:List Nat) (acc:List Int),(∀ b ∈ r,b<256)→(p0 m r acc).2.2=0→∃ l,(p0 m r acc).1=acc++l∧l.length=m∧r=(l.flatMap fun n=>enc (jM n))++(p0 m r acc).2.1∧∀ n ∈ l,-2147483648≤n∧n≤2147483647
 | 0,r,acc,_,_=>⟨[],by simp [p0],rfl,by simp [p0],by simp⟩
 | m+1,r,acc,ak,h=>by
  unfold p0 at h⊢
  split at h
  ·rename_i h1;exact absurd h h1
  ·rename_i h1
   rw [if_neg h1]
   split at h
   ·cases h
   ·rename_i aa
    rw [if_neg aa]
    obtain ⟨aC,bz⟩:=xa ak (by omega)
    obtain ⟨l,cn,cO,fg,ju⟩:=Zz m _ _ (fun b ad=>ak b (List.mem_of_mem_drop ad)) h
    refine ⟨fQ (dec r 0 0).1::l,by rw [cn];simp,by simp [cO],?_,?_⟩
    ·rw [List.flatMap_cons,y6 _ bz,List.append_assoc,←fg];exact aC
    ·intro n aG
     rcases List.mem_cons.1 aG with rfl | aG
     ·omega
     ·exact ju n aG
theorem anE {ao:List Nat} (ak:∀ b ∈ ao,b<256) (h:(jb ao 2).2.2=0):ao=w7 (jb ao 2).1++(jb ao 2).2.1∧(jb ao 2).1.length≤2∧∀ n ∈ (jb ao 2).1,-2147483648≤n∧n≤2147483647:=by
 unfold jb at h⊢
 split at h
 ·rename_i h1;exact absurd h h1
 rename_i h1
 rw [if_neg h1]
 split at h
 ·cases h
 rename_i aa
 rw [if_neg aa]
 split at h
 ·rename_i aC;exact absurd h aC
 rename_i aC
 rw [if_neg aC]
 obtain ⟨bz,bY⟩:=xa ak (by omega)
 obtain ⟨l,cn,cO,fg,ju⟩:=Zz _ _ [] (fun b ad=>ak b (List.mem_of_mem_drop ad)) h
 rw [List.nil_append] at cn
 rw [cn]
 refine ⟨?_,by omega,ju⟩
 unfold w7
 rw [cO,List.append_assoc,←fg]
 exact bz
theorem anF {ao:List Nat} (ak:∀ b ∈ ao,b<256) (h:(hn ao).2.2=0):ao=x4 (hn ao).1++(hn ao).2.1:=by
 unfold hn at h⊢
 split at h
 ·rename_i h1;exact absurd h h1
 rename_i h1
 rw [if_neg h1]
 split at h
 ·cases h
 rename_i aa
 rw [if_neg aa]
 obtain ⟨bz,bY⟩:=xa ak (by omega)
 unfold x4
 simp only
 rw [List.length_take,Nat.min_eq_left (by omega),List.append_assoc,List.take_append_drop]
 exact bz
theorem ZA {ao:List Nat} (ak:∀ b ∈ ao,b<256) {v:bC} {cF:List Nat} (h:nq ao=.ok (v,cF)):vr v∧Sub cF ao∧(v.kind<1000→ao=fI v++cF):=by
 unfold nq at h
 split at h
 ·cases h
 rename_i aw
 obtain ⟨d1,ey⟩:=xa ak (by omega)
 have s1:=Sub.drop ao (dec ao 0 0).2.1
 generalize bQ:(dec ao 0 0).1=K at *
 generalize ao.drop (dec ao 0 0).2.1=ec at *
 unfold qb at h
 split at h
 ·cases h
 rename_i aW
 obtain ⟨d2,dm,cZ⟩:=anE (s1.lt ak) (by omega)
 have s2:=(Zx ec 2).trans s1
 generalize (jb ec 2).1=aJ at *
 generalize (jb ec 2).2.1=bW at *
 unfold qa at h
 split at h
 ·cases h
 rename_i cJ
 obtain ⟨d3,vE⟩:=xa (s2.lt ak) (by omega)
 have iy:=(Sub.drop bW (dec bW 0 0).2.1).trans s2
 have G3:=Xe _ vE
 have z3:=y6 _ vE
 generalize (dec bW 0 0).1=N at *
 generalize bW.drop (dec bW 0 0).2.1=fK at *
 unfold p9 at h
 split at h
 ·cases h
 rename_i km
 have d4:=anF (iy.lt ak) (by omega)
 have p1:=(RT fK).1.trans iy
 have CP:=(RT fK).2.trans iy
 generalize (hn fK).1=xs at *
 generalize (hn fK).2.1=r6 at *
 have sc:∀ f ∈ aJ,hx f:=fun f aq=>by have:=cZ f aq;unfold hx;omega
 split at h
 ·rename_i h0
  injection h with h
  injection h with h1 aa
  subst h1
  subst aa
  have wB:xs=[]:=List.eq_nil_of_length_eq_zero h0
  refine ⟨⟨ri 0 0 (by decide) (by decide),by simp only;omega,by simp only [hx];omega,G3,sc⟩,p1,fun hk=>?_⟩
  simp only at hk
  have IV:min K 1000=K:=by omega
  have xw:jc (.mk 0 0 [])=[]:=by decide
  unfold fI
  simp only
  rw [IV,Int.toNat_natCast,xw,z3]
  subst wB
  conv=>lhs;rw [d1,d2,d3,d4]
  simp only [List.append_assoc]
 ·rename_i h0
  split at h
  ·cases h
  rename_i da
  injection h with h
  injection h with h1 aa
  subst h1
  subst aa
  obtain ⟨e,cn,cO⟩:=anD (xs:=xs) (fun ab=>da ab) (fun ab=>h0 (by rw [ab];rfl))
  obtain ⟨fg,ju,w4⟩:=akV (CP.lt ak) cn
  rw [cO]
  refine ⟨⟨w4,by simp only;omega,by simp only [hx];omega,G3,sc⟩,p1,fun hk=>?_⟩
  simp only at hk
  have IV:min K 1000=K:=by omega
  have xw:jc e=xs:=by unfold jc;rw [if_pos ju,←fg]
  unfold fI
  simp only
  rw [IV,Int.toNat_natCast,xw,z3]
  conv=>lhs;rw [d1,d2,d3,d4]
  simp only [List.append_assoc]
theorem anG {v:bC} (a1:vr v) (hk:1≤v.kind∧v.kind≤10) (az:v.a8.length≤2) (aq:∀ f ∈ v.a8,0≤f∧f<24) (he:v.e=.mk 0 0 []∨cY v.e=true) (r:List Nat):nq (fI v++r)=.ok (v,r):=by
 obtain ⟨kind,aJ,e,n⟩:=v
 simp only at hk az aq he
 obtain ⟨K,rfl⟩:=Int.eq_ofNat_of_zero_le (show 0≤kind by omega)
 have aG:=a1.2.2.2.1
 simp only at aG
 unfold fI
 simp only [Int.toNat_natCast,List.append_assoc]
 unfold nq
 rw [x3 K (by omega)]
 simp only [List.drop_left]
 rw [if_neg (by simp),Nat.min_eq_left (by omega)]
 unfold qb
 have av:∀ q,jb (w7 aJ++q) 2=(aJ,q,0):=fun q=>by
  unfold jb w7
  rw [List.append_assoc,x3 _ (by omega)]
  simp only [List.drop_left]
  rw [if_neg (by simp),if_neg (by omega),Xi q aJ [] (fun f ad=>by have:=aq f ad;omega),if_neg (by simp)]
  simp
 rw [av]
 simp only
 rw [if_neg (by simp)]
 unfold qa
 rw [x3 _ (m8 _ aG.1 aG.2)]
 simp only [List.drop_left]
 rw [if_neg (by simp),QF]
 unfold p9
 have tL:=RP a1.1
 simp only at tL
 rw [akL _ _ (by omega)]
 simp only
 rw [if_neg (by simp)]
 rcases he with rfl | he
 ·have xw:jc (.mk 0 0 [])=[]:=by decide
  rw [xw,List.length_nil,if_pos rfl]
 ·have xw:jc e=cP e:=by unfold jc;rw [if_pos he]
  rw [xw]
  have Bb:=Xz he a1.1
  have bO:(cP e).length≠0:=by
   obtain ⟨o,m,aE⟩:=e
   rw [Fb]
   simp only [List.length_append]
   have:=(pC o.toNat (by have:=a1.1;cases this;omega)).1
   omega
  have nx:np (cP e)=0:=by unfold np;rw [Bb]
  have bF:nZ (cP e)=e:=by unfold nZ;rw [Bb]
  rw [if_neg bO,nx,if_neg (by simp),bF]
theorem anH (h:I) (v:bC):kI Tryz.prog 54 1 [(0,.agg (ar v))] h=some (.bc h.n 0 1 1,h.push (.cells (ar v) 29 none)):=by
 rw [p7,qA Ce];rfl
theorem anI {h:I} {s:V} {cs:List bC} (o:Own h 29 6 s (cs.flatMap ar)) (az:cs.length≤2 ^ 40) (c:bC) :
  ∃ cK h',ma Tryz.prog 54 54 s (.bc h.n 0 1 1) (h.push (.cells (ar c) 29 none))=some (cK,h')∧Own h' 29 6 cK ((cs++[c]).flatMap ar)∧J h h' (bl s)∧bV h s cK:=by
 have b8:J h (h.push (.cells (ar c) 29 none)) none_:=J.push _ _ _
 have hM:Own (h.push (.cells (ar c) 29 none)) 29 6 (.bc h.n 0 1 1) (ar c):=Own.lq (ar c) 1 (iA c) (by decide)
 have dT:=zo (P:=Tryz.prog) (t:=54) px hM (n:=1) (iA c) (by decide) (zJ c)
 obtain ⟨cK,h',fB,mS,rA,iU⟩:=xP (P:=Tryz.prog) (t:=54) (tx:=54) Ce (by decide) (o.ba b8) dT (iA c) (fun m hm=>by
  change m * 6=_ at hm
  rw [j7 iA,iA] at hm
  exact ⟨by simp only [lim];omega,by simp only [lim];omega⟩)
 refine ⟨cK,h',fB,?_,(b8.up).trans' rA,?_⟩
 ·rw [List.flatMap_append]
  simpa using mS
 ·rcases iU with iU | iU
  ·exact .inl iU
  ·exact .inr fun q ad=>Nat.le_trans b8.n (iU q ad)
theorem Fw (h:I) (c:Nat):aM (.tuple [.agg [.an,.int .i64 0],.int .i64 (c:Nat)]) h (.tuple [.agg (dO [] 0),.int .i64 (c:Nat)]) h :=
 aM.tuple (aB.cons (Pk.aM.agg (aB.cons (aM.kN h) (aB.refl _ _))) (aB.refl _ _))
theorem anJ {h:I} {s:V} {l:List bC} (p:Int) (o:Own h 29 6 s (l.flatMap ar)):∃ aa,aM (.agg [s,.int .i64 p]) h (.agg (dO l p)) aa∧J h aa (bl s):=by
 obtain ⟨aa,c,k⟩:=aM.own (n:=l.length) o (j7 iA l) (by decide)
 exact ⟨aa,Pk.aM.agg (aB.cons c (aB.refl _ _)),k⟩
theorem ZB {ao:List Nat} {c:Nat} (h:nq ao=.error c):c≠0:=by
 unfold nq at h
 split at h
 ·injection h with h;omega
 unfold qb at h
 split at h
 ·injection h with h;omega
 unfold qa at h
 split at h
 ·injection h with h;omega
 unfold p9 at h
 split at h
 ·injection h with h;omega
 split at h
 ·cases h
 split at h
 ·injection h with h;omega
 ·cases h
theorem anK {m:Nat} {ao:List Nat} {acc:List bC} {c:Nat} (h:nq ao=.error c):iG (m+1) ao acc=.error c:=by unfold iG;rw [h]
theorem anL (i:Nat) (ao:List Nat) (h:I) (av:ga h) (aH:du h (.ptr i 0) i ao) (ak:∀ b ∈ ao,b<256) (au:ao.length≤2 ^ 47) :
  ae Tryz.prog 128 [.ptr i 0] h (fun r h'=>r=RU (oR ao)∧J h h' (·=i)∧∀ p l cF,oR ao=.ok (p,l,cF)→du h' (.ptr i 0) i cF):=by
 refine ae.cast ?_
 refine ae.ax (c:=_) Tryz.func128 rfl (by kernel_rfl) (by simp) ?_
 have ch:=aH.2.1
 obtain ⟨jd,gw⟩:∃ y,y=h.push (.cells [V.an,.int .i64 0] 56 none):=⟨_,rfl⟩
 have D4:J h jd none_:=by rw [gw];exact J.push _ _ _
 have eJ:J h jd (·=i):=D4.up
 have g0:jd.get h.n=.cells [V.an,.int .i64 0] 56 none:=by rw [gw];exact cA
 have qD:jd.n=h.n+1:=by rw [gw];rfl
 have k9:=du.al aH D4 (by simp [none_])
 have oQ:bR (some 2) (bb.cells [V.an,.int .i64 0] 56 none) 0 [V.an,.int .i64 0]=some (.cells [V.an,.int .i64 0] 56 none):=rfl
 have z0:(((0:Nat):Int) !=0)=false:=rfl
 simp only [af,Nat.reduceEqDiff,reduceCtorEq,tD]
 rw [←gw]
 clear gw
 refine cy Qb (Df i ao jd k9 ak (by omega)) fun r H1 ⟨aw,cg,bB⟩=>?_
 subst aw
 have s1:Sub (ao.drop (dec ao 0 0).2.1) ao:=Sub.drop _ _
 have g1:=(bB.get h.n (by omega) (by omega)).trans g0
 have pD:=eJ.trans' bB
 have gv:=bB.n
 by_cases aw:(dec ao 0 0).2.2=0
 rotate_left
 ·have bh:(((dec ao 0 0).2.2:Int) !=0)=true:=by simp;omega
  have ka:oR ao=.error (dec ao 0 0).2.2:=by unfold oR;rw [if_pos aw]
  simp only [af,Nat.reduceEqDiff,Nat.reduceAdd,nX,xS,tD,tE,bh,g1,oQ,aU,Tryz.results128,hh,gU,fp,hg]
  rw [ka]
  exact aF ⟨_,_,Fw _ _,rfl,pD.trans (J.set _ h.n _) fun q ad ab=>by omega,fun p l cF ab=>by cases ab⟩
 have mN:oR ao=qd (min (dec ao 0 0).1 1000) (ao.drop (dec ao 0 0).2.1):=by unfold oR;rw [if_neg (by omega)]
 rw [aw] at *
 rw [mN]
 generalize min (dec ao 0 0).1 1000=P at *
 generalize ao.drop (dec ao 0 0).2.1=ec at *
 clear mN
 simp only [af,Nat.reduceEqDiff,reduceCtorEq,z0]
 refine cy Qb (Df i ec H1 cg (s1.lt ak) (by have:=s1.2;omega)) fun r bP ⟨aW,cZ,k2⟩=>?_
 subst aW
 have s2:=(Sub.drop ec (dec ec 0 0).2.1).trans s1
 have g2:=(k2.get h.n (by omega) (by omega)).trans g1
 have dE:=pD.trans' k2
 have ft:=k2.n
 by_cases aW:(dec ec 0 0).2.2=0
 rotate_left
 ·have bh:(((dec ec 0 0).2.2:Int) !=0)=true:=by simp;omega
  have ka:qd P ec=.error (dec ec 0 0).2.2:=by unfold qd;rw [if_pos aW]
  simp only [af,Nat.reduceEqDiff,Nat.reduceAdd,nX,xS,tD,tE,bh,g2,oQ,aU,Tryz.results128,hh,gU,fp,hg]
  rw [ka]
  exact aF ⟨_,_,Fw _ _,rfl,dE.trans (J.set _ h.n _) fun q ad ab=>by omega,fun p l cF ab=>by cases ab⟩
 have mN:qd P ec=if 24<min (dec ec 0 0).1 1000 then .error 2 else qc P (min (dec ec 0 0).1 1000) (ec.drop (dec ec 0 0).2.1):=by unfold qd;rw [if_neg (by omega)]
 rw [aW] at *
 rw [mN]
 generalize min (dec ec 0 0).1 1000=N at *
 generalize ec.drop (dec ec 0 0).2.1=bW at *
 clear mN
 by_cases NG:24<N
 ·have bh:decide ((24:Int)<(N:Int))=true:=decide_eq_true (by omega)
  simp only [af,Nat.reduceEqDiff,Nat.reduceAdd,nX,xS,tD,tE,z0,bh,g2,oQ,aU,Tryz.results128,hh,gU,fp,hg]
  rw [if_pos NG]
  exact aF ⟨_,_,Fw _ 2,rfl,dE.trans (J.set _ h.n _) fun q ad ab=>by omega,fun p l cF ab=>by cases ab⟩
 have bh:decide ((24:Int)<(N:Int))=false:=decide_eq_false (by omega)
 rw [if_neg NG]
 have st1:bR (some 2) (bb.cells [V.an,.int .i64 0] 56 none) 0 [V.an,.int .i64 (P:Int)]=some (.cells [V.an,.int .i64 (P:Int)] 56 none):=rfl
 obtain ⟨jy,jO⟩:∃ y,y=bP.push (.cells [V.an,.int .i64 (P:Int)] 56 none):=⟨_,rfl⟩
 have NH:J bP jy none_:=by rw [jO];exact J.push _ _ _
 have k3:J bP jy (·=i):=NH.up
 have D5:jy.get bP.n=.cells [V.an,.int .i64 (P:Int)] 56 none:=by rw [jO];exact cA
 have n3:jy.n=bP.n+1:=by rw [jO];rfl
 have g3:=(k3.get h.n (by omega) (by omega)).trans g2
 have eD:=dE.trans' k3
 have gl:=du.al cZ NH (by simp [none_])
 simp only [af,Nat.reduceEqDiff,Nat.reduceAdd,xS,tD,tE,z0,bh,st1]
 rw [←jO]
 clear jO
 generalize iv:bP.n=F at *
 have RV:Own jy 29 6 .an (([]:List bC).flatMap ar):=.inl ⟨.inl rfl,rfl⟩
 refine aX.b9 (α:=Nat×V×List bC×List Nat) (fun x f h'=>f 0=.ptr i 0∧f 2=.ptr h.n 0∧f 7=.ptr F 0∧f 33=.int .i64 (N:Int)∧f 34=.int .i64 (x.1:Nat)∧x.1≤N∧x.2.2.1.length=x.1∧h'.get h.n=.cells [V.an,.int .i64 0] 56 none∧h'.get F=.cells [x.2.1,.int .i64 (P:Int)] 56 none ∧
   Own h' 29 6 x.2.1 (x.2.2.1.flatMap ar)∧(∀ j,aV x.2.1=some j→F<j)∧du h' (.ptr i 0) i x.2.2.2∧Sub x.2.2.2 ao∧J h h' (·=i)∧F<h'.n∧iG N bW []=iG (N - x.1) x.2.2.2 x.2.2.1) (fun x=>N - x.1) (0,.an,[],bW)
  ⟨rfl,rfl,rfl,rfl,rfl,Nat.zero_le _,rfl,g3,D5,RV,(fun j aS=>by simp [aV] at aS),gl,s2,eD,by omega,rfl⟩ ?_
 rintro ⟨j,s,acc,b⟩ f h1 ⟨f0,f2,f7,f33,f34,aS,jG,ZC,IW,os,ids,rd,Bo,kk,ZD,bF⟩
 simp only at f34 aS jG IW os ids rd Bo bF
 refine am (by kernel_rfl) ?_
 by_cases aN:j<N
 ·have c5:decide ((j:Int)<(N:Int))=true:=decide_eq_true (by omega)
  have bX:IntKind.i64.wrap (((j:Nat):Int)+1)=((j+1:Nat):Int):=by rw [Go.IntWalk.i64_in _ (by omega)];omega
  obtain ⟨hR,A4⟩:∃ hR,N - j=hR+1:=⟨N - j - 1,by omega⟩
  rw [A4] at bF
  simp only [af,Nat.reduceEqDiff,reduceCtorEq,f0,f33,f34,c5]
  refine cy ai4 (anC i b h1 (av.al kk) rd (Bo.lt ak) (by have:=Bo.2;omega)) fun r h6 ⟨km,cz,d4⟩=>?_
  subst km
  have n4:=cz.n
  have NI:=(cz.get h.n (by omega) (by omega)).trans ZC
  have ZE:=(cz.get F ZD (by omega)).trans IW
  have qq:=kk.trans' cz
  have ZF:=os.al cz (fun q ad ab=>by have:=ids q ad;omega)
  cases aD:nq b with
  | error c=>
   rw [anK aD] at bF
   have r7:((c:Int) !=0)=true:=by have:=ZB aD;simp;omega
   have bs:qc P N bW=.error c:=by unfold qc;rw [bF]
   have b5:(V.agg (ar Dg)).cells=some (ar Dg):=rfl
   have db:bR (some 6) (bb.cells [V.int .i64 0,.an,.int .i64 0,.int .i64 0,.an,.int .i64 0] 29 none) 0 (ar Dg)=some (.cells (ar Dg) 29 none):=by
    rw [sF (n:=6) (iA _) (zJ _),if_pos (by decide),p7];rfl
   have tN:J h6 (h6.push (.cells (ar Dg) 29 none)) none_:=J.push _ _ _
   have IX:=(tN.get h.n (by omega) (by simp [none_])).trans NI
   simp only [RS]
   simp only [af,Nat.reduceEqDiff,Nat.reduceAdd,nX,xS,nW,tD,pZ,tE,f2,b5,db,r7,IX,oQ,aU,Tryz.results128,hh,gU,fp,hg]
   rw [bs]
   exact aF ⟨_,_,Fw _ _,rfl,(qq.trans' tN.up).trans (J.set _ h.n _) fun q ad ab=>by omega,fun p l cF ab=>by cases ab⟩
  | ok y=>
   obtain ⟨A,cF⟩:=y
   have ZG:iG N bW []=iG hR cF (acc++[A]):=by rw [bF];conv=>lhs;unfold iG;rw [aD]
   obtain ⟨_,anM,_⟩:=ZA (Bo.lt ak) aD
   have ZH:=d4 A cF aD
   have b5:(V.agg (ar A)).cells=some (ar A):=rfl
   have db:bR (some 6) (bb.cells [V.int .i64 0,.an,.int .i64 0,.int .i64 0,.an,.int .i64 0] 29 none) 0 (ar A)=some (.cells (ar A) 29 none):=by
    rw [sF (n:=6) (iA _) (zJ _),if_pos (by decide),p7];rfl
   have fF:dB (bb.cells (ar A) 29 none) 0=some (ar A):=by rw [p7];rfl
   have kX:dv (some (some 6)) (some (ar A))=some (.agg (ar A)):=by rw [p7];rfl
   obtain ⟨h5,gG⟩:∃ y,y=h6.push (.cells (ar A) 29 none):=⟨_,rfl⟩
   have eQ:J h6 h5 none_:=by rw [gG];exact J.push _ _ _
   have A3:h5.n=h6.n+1:=by rw [gG];rfl
   have uQ:h5.get h6.n=.cells (ar A) 29 none:=by rw [gG];exact cA
   have IX:=(eQ.get h.n (by omega) (by simp [none_])).trans NI
   have NJ:=(eQ.get F (by omega) (by simp [none_])).trans ZE
   obtain ⟨cK,Bp,fB,RW,gV,n6⟩:=anI (ZF.ba eQ) (by omega) A
   have fq:=anH h5 A
   have apR:=gV.n
   have ZI:=(gV.get h.n (by omega) (fun ab=>by have:=ids h.n ab;omega)).trans IX
   have ZJ:=(gV.get F (by omega) (fun ab=>by have:=ids F ab;omega)).trans NJ
   have ly:cK.one=true:=by
    rcases RW with ⟨rfl | rfl,_⟩ | ⟨_,_,_,_,_,rfl,_⟩<;>rfl
   have rD:cK.cells=some [cK]:=by
    rcases RW with ⟨rfl | rfl,_⟩ | ⟨_,_,_,_,_,rfl,_⟩<;>rfl
   have LD:bR (some 1) (bb.cells [s,V.int .i64 (P:Int)] 56 none) 0 [cK]=some (.cells [cK,.int .i64 (P:Int)] 56 none):=by rw [tf ly];rfl
   have rE:∀ q,aV cK=some q→F<q:=fun q ad=>by
    rcases n6 with n6 | n6
    ·exact ids q (by rw [←n6];exact ad)
    ·have:=n6 q ad;omega
   have en:J Bp (Bp.set F (.cells [cK,.int .i64 (P:Int)] 56 none)) (·=F):=J.set _ _ _
   have D6:J h Bp (·=i):=(qq.trans' eQ.up).trans gV fun q ad ab=>by have:=ids q ab;omega
   have ZK:du Bp (.ptr i 0) i cF:=du.al ZH (eQ.up.trans' gV) (fun ab=>by have:=ids i ab;omega)
   simp only [RS]
   simp only [af,Nat.reduceEqDiff,lU,kO,nW,pZ,f7,b5,db]
   rw [←gG]
   clear gG
   simp only [af,Nat.reduceEqDiff,Nat.reduceAdd,lU,nS,KK,f7,f34,NJ,uQ,fF,kX,fq,fB,ZJ,rD,LD,bX]
   exact aF ⟨(j+1,cK,acc++[A],cF),⟨f0,f2,f7,f33,rfl,aN,by simp [jG],(en.get h.n (by omega) (by omega)).trans ZI,aP,RW.al en (fun q ad ab=>by have:=rE q ad;omega),rE,ZK.al en (by omega),anM.trans Bo,D6.trans en fun q ad ab=>by omega,by rw [jt];omega,by rw [show N - (j+1)=hR by omega];exact ZG⟩,by simp only;omega⟩
 ·have c5:decide ((j:Int)<(N:Int))=false:=decide_eq_false (by omega)
  rw [show N - j=0 by omega,iG] at bF
  have bs:qc P N bW=.ok (P,acc,b):=by unfold qc;rw [bF]
  have ly:s.one=true:=by
   rcases os with ⟨rfl | rfl,_⟩ | ⟨_,_,_,_,_,rfl,_⟩<;>rfl
  have A7:bR (some 2) (bb.cells [V.an,.int .i64 0] 56 none) 0 [s,.int .i64 (P:Int)]=some (.cells [s,.int .i64 (P:Int)] 56 none) :=
   (sF (n:=2) (vs:=[s,V.int .i64 (P:Int)]) rfl (by simp only [all_cons,all_nil,J6,ly,Bool.and_self])).trans rfl
  have en:J h1 (h1.set h.n (.cells [s,.int .i64 (P:Int)] 56 none)) (·=h.n):=J.set _ _ _
  have A8:=os.al en fun q ad ab=>by have:=ids q ad;omega
  obtain ⟨gd,hP,pE⟩:=anJ (P:Int) A8
  simp only [af,Nat.reduceEqDiff,Nat.reduceAdd,nX,tE,f2,f7,f33,f34,c5,IW,ZC,A7,aU,Tryz.results128,hh,gU,fp,hg]
  rw [bs]
  refine aF ⟨_,gd,aM.tuple (aB.cons hP (aB.refl _ _)),rfl,(kk.trans en fun q ad ab=>by omega).trans pE fun q ad ab=>by have:=ids q ab;omega,fun p l cF ab=>?_⟩
  cases ab
  exact (rd.al en (by omega)).al pE (fun ab=>by have:=ids i ab;omega)
theorem ZL:∀ (m:Nat) (ao:List Nat) (acc:List bC),(∀ b ∈ ao,b<256)→∀ l r,iG m ao acc=.ok (l,r)→∃ b0,l=acc++b0∧b0.length=m∧(∀ v ∈ b0,vr v)∧Sub r ao∧((∀ v ∈ b0,v.kind<1000)→ao=b0.flatMap fI++r)
 | 0,ao,acc,ak,l,r,h=>by
  unfold iG at h
  cases h
  exact ⟨[],by simp,rfl,by simp,Sub.rfl' _,fun _=>rfl⟩
 | m+1,ao,acc,ak,l,r,h=>by
  unfold iG at h
  split at h
  ·cases h
  ·rename_i v cF aD
   obtain ⟨ok,Bo,tJ⟩:=ZA ak aD
   obtain ⟨b0,cn,cO,fg,ju,w4⟩:=ZL m cF (acc++[v]) (Bo.lt ak) l r h
   refine ⟨v::b0,by rw [cn];simp,by simp [cO],fun u hu=>?_,ju.trans Bo,fun hk=>?_⟩
   ·rcases List.mem_cons.1 hu with rfl | hu
    ·exact ok
    ·exact fg u hu
   ·rw [tJ (hk v (by simp)),w4 fun u hu=>hk u (by simp [hu])]
    simp
theorem ZM:∀ (l:List bC) (acc:List bC) (r:List Nat),(∀ v ∈ l,∀ r,nq (fI v++r)=.ok (v,r))→iG l.length (l.flatMap fI++r) acc=.ok (acc++l,r)
 | [],acc,r,h=>by simp [iG]
 | v::l,acc,r,h=>by
  rw [List.length_cons,List.flatMap_cons,List.append_assoc]
  unfold iG
  rw [h v (by simp)]
  simp only
  rw [ZM l (acc++[v]) r fun u hu=>h u (by simp [hu])]
  simp
theorem anN {ao:List Nat} (ak:∀ b ∈ ao,b<256) {p:Nat} {l:List bC} {r:List Nat} (h:oR ao=.ok (p,l,r)):l4 l∧p≤1000∧(p<1000→(∀ v ∈ l,v.kind<1000)→ao=p8 (p:Int) l++r):=by
 unfold oR at h
 split at h
 ·cases h
 rename_i aw
 obtain ⟨d1,ey⟩:=xa ak (by omega)
 have s1:=Sub.drop ao (dec ao 0 0).2.1
 generalize (dec ao 0 0).1=P at *
 generalize ao.drop (dec ao 0 0).2.1=ec at *
 unfold qd at h
 split at h
 ·cases h
 rename_i aW
 obtain ⟨d2,dm⟩:=xa (s1.lt ak) (by omega)
 have s2:=(Sub.drop ec (dec ec 0 0).2.1).trans s1
 generalize (dec ec 0 0).1=N at *
 generalize ec.drop (dec ec 0 0).2.1=bW at *
 split at h
 ·cases h
 rename_i cJ
 unfold qc at h
 split at h
 ·cases h
 rename_i aqm k9 aD
 cases h
 obtain ⟨b0,cn,cO,fg,ju,w4⟩:=ZL _ bW [] (s2.lt ak) _ _ aD
 rw [List.nil_append] at cn
 subst cn
 refine ⟨⟨by omega,fg⟩,by omega,fun aZ hk=>?_⟩
 have h1:min P 1000=P:=by omega
 have aa:l.length=N:=by omega
 unfold p8
 rw [h1,aa,Int.toNat_natCast]
 conv=>lhs;rw [d1,d2,w4 hk]
 simp only [List.append_assoc]
theorem anO {v:bC} (hk:1≤v.kind∧v.kind≤10) (h:kb v=true):v.e=.mk 0 0 []∨cY v.e=true:=by
 unfold kb tS at h
 simp only [Bool.and_eq_true] at h
 have aa:=h.2.1
 unfold ya at aa
 split at aa
 ·left
  simp only [Bool.and_eq_true,beq_iff_eq,List.isEmpty_iff] at aa
  obtain ⟨k,aJ,⟨o,n,aE⟩,m⟩:=v
  simp only [bG.op,bG.num,bG.aE] at aa
  obtain ⟨rfl,rfl,rfl⟩:=aa
  rfl
 ·right
  simp only [Bool.and_eq_true] at aa
  exact aa.1
theorem anP {P:Nat} {l:List bC} (a1:l4 l) (h:(c1 (P:Int) l).2=0):oR (p8 (P:Int) l)=.ok (P,l,[]):=by
 obtain ⟨aZ,ie,gp,dt⟩:=Fv h
 unfold p8
 rw [Int.toNat_natCast,List.append_assoc]
 unfold oR
 rw [x3 P (by omega)]
 simp only [List.drop_left]
 rw [if_neg (by simp),Nat.min_eq_left (by omega)]
 unfold qd
 rw [x3 l.length (by omega)]
 simp only [List.drop_left]
 rw [if_neg (by simp),Nat.min_eq_left (by omega),if_neg (by omega)]
 unfold qc
 have:=ZM l [] [] fun v aD r=>anG (a1.2 v aD) (dt v aD).1 (dt v aD).2.1 (dt v aD).2.2.1 (anO (dt v aD).1 (dt v aD).2.2.2) r
 rw [List.append_nil] at this
 rw [this]
 rfl
theorem anQ {ao:List Nat} {c:Nat} (h:oR ao=.error c):c≠0:=by
 have l3:∀ (m:Nat) (b:List Nat) (acc:List bC) (c:Nat),iG m b acc=.error c→c≠0:=by
  intro m
  induction m with
  | zero=>intro b acc c h;unfold iG at h;cases h
  | succ m ih=>
   intro b acc c h
   unfold iG at h
   split at h
   ·rename_i aD;cases h;exact ZB aD
   ·exact ih _ _ _ h
 unfold oR at h
 split at h
 ·injection h with h;omega
 unfold qd at h
 split at h
 ·injection h with h;omega
 split at h
 ·injection h with h;omega
 unfold qc at h
 split at h
 ·rename_i aD;cases h;exact l3 _ _ _ _ aD
 ·cases h
def tW (ao:List Nat):(Int×List bC)×Int:=match oR ao with
 | .error c=>((0,[]),(c:Int))
 | .ok (p,l,r)=>if r.length≠0 then ((0,[]),5) else if (c1 (p:Int) l).2≠0 then ((0,[]),(c1 (p:Int) l).2) else (((p:Int),l),0)
def qv (ao:List Nat):V:=.tuple [.agg (dO (tW ao).1.2 (tW ao).1.1),.int .i64 (tW ao).2]
theorem anR (ao:List Nat):bj (qv ao):=bj.tuple (bo.cons (bj.agg (anr _ _)) (bo.cons (bj.int _ _) bo.nil))
theorem anS {p:Int} {l:List bC} (a1:l4 l) (h:(c1 p l).2=0):tW (nf p l)=((p,l),0):=by
 obtain ⟨aZ,_,_,dt⟩:=Fv h
 obtain ⟨P,rfl⟩:=Int.eq_ofNat_of_zero_le (show 0≤p by omega)
 unfold nf
 rw [if_pos h]
 unfold tW
 rw [anP a1 h]
 simp only [List.length_nil]
 rw [if_neg (by simp),if_neg (by omega)]
theorem RX (x:V) (ao:List Nat) (h:I) (av:pY h) (rd:Rd h x ao) (ak:∀ b ∈ ao,b<256) (az:ao.length≤2 ^ 47):Pure Tryz.prog 66 [x] h (qv ao):=by
 refine Pure.of (anR ao) ?_
 refine ae.ax (c:=_) Tryz.func66 rfl (by kernel_rfl) (by simp) ?_
 obtain ⟨jd,gw⟩:∃ y,y=h.push (.cells [V.an,.int .i64 0] 56 none):=⟨_,rfl⟩
 have eJ:J h jd none_:=by rw [gw];exact J.push _ _ _
 have g0:jd.get h.n=.cells [V.an,.int .i64 0] 56 none:=by rw [gw];exact cA
 have qD:jd.n=h.n+1:=by rw [gw];rfl
 have oQ:bR (some 2) (bb.cells [V.an,.int .i64 0] 56 none) 0 [V.an,.int .i64 0]=some (.cells [V.an,.int .i64 0] 56 none):=rfl
 have D7:∀ (l:List bC) (p:Int),bR (some 2) (bb.cells [V.an,.int .i64 0] 56 none) 0 [.ai l.length (l.flatMap ar),.int .i64 p]=some (.cells [.ai l.length (l.flatMap ar),.int .i64 p] 56 none):=fun _ _=>rfl
 have so:∀ (l:List bC) (p:Int),(V.agg (dO l p)).cells=some [.ai l.length (l.flatMap ar),.int .i64 p]:=fun _ _=>rfl
 have vi:∀ (l:List bC) (p:Int),V.agg [.ai l.length (l.flatMap ar),.int .i64 p]=.agg (dO l p):=fun _ _=>rfl
 simp only [af,Nat.reduceEqDiff,reduceCtorEq,tD]
 rw [←gw]
 clear gw
 refine cy VT (Hz x ao jd (rd.al eJ) (by omega)) fun r H1 ⟨aw,cg,bB⟩=>?_
 subst aw
 have gv:jd.n+1≤H1.n:=cg.2.1
 have g1:=(bB.get h.n (by omega) (by simp [none_])).trans g0
 have pD:=eJ.trans' bB
 simp only [af,Nat.reduceEqDiff]
 refine cy aiP (anL jd.n ao H1 (av.1.al pD) cg ak az) fun r bP ⟨aW,k2,d2⟩=>?_
 subst aW
 have ft:=k2.n
 have g2:=(k2.get h.n (by omega) (by omega)).trans g1
 have dE:J h bP none_:=pD.trans k2 fun q ad ab=>by omega
 cases ag:oR ao with
 | error c=>
  have r7:=anQ ag
  have bh:(((c:Nat):Int) !=0)=true:=by simp;omega
  have ka:qv ao=.tuple [.agg (dO [] 0),.int .i64 (c:Nat)]:=by unfold qv tW;rw [ag]
  rw [ka]
  have tN:J bP (bP.push (.cells [.ai 0 [],.int .i64 0] 56 none)) none_:=J.push _ _ _
  have g3:=(tN.get h.n (by omega) (by simp [none_])).trans g2
  have r7:(V.agg (dO [] 0)).cells=some [.ai 0 [],.int .i64 0]:=rfl
  have RY:bR (some 2) (bb.cells [V.an,.int .i64 0] 56 none) 0 [.ai 0 [],.int .i64 0]=some (.cells [.ai 0 [],.int .i64 0] 56 none):=rfl
  simp only [RU]
  simp only [af,Nat.reduceEqDiff,Nat.reduceAdd,nX,xS,tD,tE,r7,RY,bh,g3,oQ,aU,Tryz.results66,hh,gU,fp,hg]
  exact aF ⟨_,Fw _ c,(dE.trans' tN).trans (J.set _ h.n _) fun q ad ab=>by omega⟩
 | ok y=>
  obtain ⟨p,l,r⟩:=y
  have ZN:=d2 p l r ag
  obtain ⟨ZO,_,_⟩:=anN ak ag
  have z0:((0:Int) !=0)=false:=rfl
  obtain ⟨jy,jO⟩:∃ y,y=bP.push (.cells [.ai l.length (l.flatMap ar),.int .i64 (p:Int)] 56 none):=⟨_,rfl⟩
  have k3:J bP jy none_:=by rw [jO];exact J.push _ _ _
  have D5:jy.get bP.n=.cells [.ai l.length (l.flatMap ar),.int .i64 (p:Int)] 56 none:=by rw [jO];exact cA
  have g3:=(k3.get h.n (by omega) (by simp [none_])).trans g2
  have ZP:=du.al ZN k3 (by simp [none_])
  have eD:=dE.trans' k3
  have n3:jy.n=bP.n+1:=by rw [jO];rfl
  simp only [RU]
  simp only [af,Nat.reduceEqDiff,tD,tE,so,D7]
  rw [←jO]
  clear jO
  refine bU VU (Left jy _ _ r ZP) ?_
  by_cases yj:r.length=0
  rotate_left
  ·have bh:decide ((0:Int)<((r.length:Nat):Int))=true:=decide_eq_true (by omega)
   have ka:qv ao=.tuple [.agg (dO [] 0),.int .i64 (5:Nat)]:=by unfold qv tW;rw [ag];simp only;rw [if_pos yj];rfl
   rw [ka]
   simp only [af,Nat.reduceEqDiff,Nat.reduceAdd,nX,xS,tD,tE,bh,g3,oQ,aU,Tryz.results66,hh,gU,fp,hg]
   exact aF ⟨_,Fw _ 5,eD.trans (J.set _ h.n _) fun q ad ab=>by omega⟩
  have bh:decide ((0:Int)<((r.length:Nat):Int))=false:=decide_eq_false (by omega)
  simp only [af,Nat.reduceEqDiff,Nat.reduceAdd,nX,bh,D5,vi]
  refine bU P7 (RK l p ZO jy (av.al eD)) ?_
  by_cases h0:(c1 (p:Int) l).2=0
  ·have bD:((c1 (p:Int) l).2 !=0)=false:=by simpa using h0
   have ka:qv ao=.tuple [.agg (dO l (p:Int)),.int .i64 0]:=by unfold qv tW;rw [ag];simp only;rw [if_neg (by omega),if_neg (by omega)]
   rw [ka]
   simp only [af,Nat.reduceEqDiff,Nat.reduceAdd,nX,tE,rO,bD,D5,g3,D7,aU,Tryz.results66,hh,gU,fp,hg]
   exact aF ⟨_,aM.refl _ _,eD.trans (J.set _ h.n _) fun q ad ab=>by omega⟩
  ·have bD:((c1 (p:Int) l).2 !=0)=true:=by simpa using h0
   have ka:qv ao=.tuple [.agg (dO [] 0),.int .i64 (c1 (p:Int) l).2]:=by unfold qv tW;rw [ag];simp only;rw [if_neg (by omega),if_pos h0]
   rw [ka]
   simp only [af,Nat.reduceEqDiff,Nat.reduceAdd,nX,xS,tD,tE,rO,bD,g3,oQ,aU,Tryz.results66,hh,gU,fp,hg]
   exact aF ⟨_,aM.tuple (aB.cons (Pk.aM.agg (aB.cons (aM.kN _) (aB.refl _ _))) (aB.refl _ _)),eD.trans (J.set _ h.n _) fun q ad ab=>by omega⟩
abbrev Seen:=List (Nat×Int×Int)
def mO (a:Int):V:=.int .i64 a
def s0 (h:I) (p:V) (l:Seen) (i j cl:Nat):Prop :=
 p=.ptr i 0∧i<h.n∧j<h.n∧i≠j∧h.get i=.cells [.map j] 231 none∧h.get j=.map (mapOf .i64 mO l) cl∧eP (mapOf .i64 mO l) cl
def RZ (l:Seen) (v:Int):Int:=(dr l v).getD (-1)
def leastOf (l:Seen):Int:=if l=[] then -1 else l.foldr (fun e m=>min e.2.2 m) 1099511627776
theorem aqn (h:I) (p:V) (l:Seen) (i j cl:Nat) (hm:s0 h p l i j cl) (v:Int) :
  Pure Tryz.prog 79 [p,.int .i64 v] h (.int .i64 (RZ l v)):=by
 obtain ⟨rfl,hi,aS,hp,j4,lH,U⟩:=hm
 refine ae.ax (c:=_) Tryz.func79 rfl (by kernel_rfl) (by simp) ?_
 have gy:=lookup_int (P:=Tryz.prog) (ok:=true) (k:=v) E7 CB lH
 cases av:dr l v with
 | none=>
  rw [av] at gy
  simp only [af,Int.reduceNeg,Nat.reduceEqDiff,reduceCtorEq,wX,xY,wZ,j4,gy,aU,Tryz.results79,ac]
  exact aF ⟨by simp only [RZ,av];rfl,rfl⟩
 | some a=>
  rw [av] at gy
  simp only [af,Int.reduceNeg,Nat.reduceEqDiff,reduceCtorEq,wX,xY,wZ,j4,gy,aU,Tryz.results79,ac,mO]
  exact aF ⟨by simp only [RZ,av];rfl,rfl⟩
def dN (l:Seen) (v t:Int):Bool×Int:=match dr l v with
 | none=>(false,6)
 | some g=>if t<0∨1099511627776<t then (false,2) else if t≤g then (false,0) else (true,0)
def fb (cl:Nat) (l:Seen) (v t:Int):Seen:=match dr l v with
 | none=>l
 | some g=>if t<0∨1099511627776<t then l else if t≤g then l else eN cl l v t
theorem ZQ {kk:IntKind} {α:Type} {enc:α→V} {cl:Nat} {v:Int} {a:α}:∀ {l:List (Nat×Int×α)},(dr l v).isSome→(mapOf kk enc (eN cl l v a)).map (·.1)=(mapOf kk enc l).map (·.1)
 | [],h=>by simp [dr] at h
 | e::l,h=>by
  unfold eN
  by_cases hk:e.2.1=v
  ·simp [hk,mapOf]
  ·have:(dr l v).isSome:=by
    unfold dr at h⊢
    rw [List.find?_cons,show (e.2.1==v)=false by simp [hk]] at h
    exact h
   have ih:=ZQ (kk:=kk) (enc:=enc) (cl:=cl) (a:=a) this
   simp only [mapOf,hk,if_false,List.map_cons] at ih⊢
   rw [ih]
theorem anT {es fs:List (Nat×V×V)} {cl:Nat} (h:eP es cl) (he:fs.map (·.1)=es.map (·.1)):eP fs cl:=by
 refine ⟨fun e hm=>?_,by rw [he];exact h.2⟩
 have:e.1 ∈ fs.map (·.1):=List.mem_map.2 ⟨e,hm,rfl⟩
 rw [he] at this
 obtain ⟨dh,hq,h1⟩:=List.mem_map.1 this
 rw [←h1]
 exact h.1 dh hq
theorem R0 (h:I) (p:V) (l:Seen) (i j cl:Nat) (hm:s0 h p l i j cl) (v t:Int) :
  ae Tryz.prog 72 [p,.int .i64 v,.int .i64 t] h (fun r h'=>r=.tuple [.bool (dN l v t).1,.int .i64 (dN l v t).2]∧s0 h' p (fb cl l v t) i j cl∧J h h' (·=j)):=by
 have hq:=hm
 obtain ⟨rfl,hi,aS,hp,j4,lH,U⟩:=hm
 refine ae.ax (c:=_) Tryz.func72 rfl (by kernel_rfl) (by simp) ?_
 have gy:=lookup_int (P:=Tryz.prog) (ok:=true) (k:=v) E7 CB lH
 have tQ:=OO (P:=Tryz.prog) (k:=v) (a:=t) (v:=.int .i64 t) E7 lH rfl
 cases av:dr l v with
 | none=>
  rw [av] at gy
  simp only [af,Nat.reduceEqDiff,reduceCtorEq,wX,xY,wZ,j4,gy,aU,Tryz.results72,dn]
  exact aF ⟨by simp [dN, *],by simp [fb, *],J.refl _ _⟩
 | some a=>
  rw [av] at gy
  have cw:mU cl l v=cl:=by simp [mU,av]
  have fin:s0 (h.set j (.map (mapOf .i64 mO (eN cl l v t)) cl)) (.ptr i 0) (eN cl l v t) i j cl :=
   ⟨rfl,hi,aS,hp,by rw [kL hp];exact j4,aP,anT U (ZQ (by simp [av]))⟩
  by_cases h0:t<0
  ·simp only [af,Nat.reduceEqDiff,reduceCtorEq,wX,xY,wZ,j4,gy,mO,h0,aU,Tryz.results72,dn]
   exact aF ⟨by simp [dN, *],by simp [fb, *],J.refl _ _⟩
  ·by_cases h1:1099511627776<t
   ·simp only [af,Nat.reduceEqDiff,reduceCtorEq,wX,xY,wZ,j4,gy,mO,h0,h1,aU,Tryz.results72,dn]
    exact aF ⟨by simp [dN, *],by simp [fb, *],J.refl _ _⟩
   ·by_cases aa:t≤a
    ·simp only [af,Nat.reduceEqDiff,reduceCtorEq,wX,xY,wZ,j4,gy,mO,h0,h1,aa,aU,Tryz.results72,dn]
     exact aF ⟨by simp [dN, *],by simp [fb, *],J.refl _ _⟩
    ·simp only [af,Nat.reduceEqDiff,reduceCtorEq,wX,xY,wZ,j4,gy,mO,h0,h1,aa,aU,Tryz.results72,dn,tQ,cw]
     exact aF ⟨by simp [dN, *],by simp [fb, *],J.set _ _ _⟩
theorem R1 {kk:IntKind} {α:Type} {enc:α→V}:∀ {l:List (Nat×Int×α)} {a b:Nat×Int×α},((mapOf kk enc l).map (·.1)).Nodup→a ∈ l→b ∈ l→a.1=b.1→a=b
 | [],a,b,_,h,_,_=>by simp at h
 | e::l,a,b,aG,aO,ak,nP=>by
  simp only [mapOf,List.map_cons,List.nodup_cons] at aG
  have key:∀ c:Nat×Int×α,c ∈ l→c.1≠e.1:=fun c au yL=>aG.1 (by
   rw [List.map_map]
   exact List.mem_map.2 ⟨c,au,yL⟩)
  rcases List.mem_cons.1 aO with fB | aO<;>rcases List.mem_cons.1 ak with Af | ak
  ·rw [fB,Af]
  ·exact absurd (by rw [←nP,fB]) (key b ak)
  ·exact absurd (by rw [nP,Af]) (key a aO)
  ·exact R1 (kk:=kk) (enc:=enc) aG.2 aO ak nP
structure mw (l:Seen) (m:Int):Prop where
 le:m≤1099511627776
 all:∀ e ∈ l,m≤e.2.2
 mem:m=1099511627776∨∃ e ∈ l,m=e.2.2
theorem mw.eq {l:Seen} {a b:Int} (aO:mw l a) (ak:mw l b):a=b:=by
 have key:∀ {x y:Int},mw l x→mw l y→x≤y:=fun ag bd=>by
  rcases bd.mem with bd | ⟨e,he,bd⟩
  ·rw [bd];exact ag.le
  ·rw [bd];exact ag.all e he
 have h1:=key aO ak
 have aa:=key ak aO
 omega
theorem anU (l:Seen):mw l (l.foldr (fun e m=>min e.2.2 m) 1099511627776):=by
 induction l with
 | nil=>exact ⟨Int.le_refl _,by simp,.inl rfl⟩
 | cons a l ih=>
  simp only [List.foldr_cons]
  refine ⟨?_,fun e he=>?_,?_⟩
  ·have:=ih.le;omega
  ·rcases List.mem_cons.1 he with rfl | he
   ·omega
   ·have:=ih.all e he;omega
  ·by_cases hle:a.2.2≤l.foldr (fun e m=>min e.2.2 m) 1099511627776
   ·exact .inr ⟨a,by simp,by omega⟩
   ·rcases ih.mem with h | ⟨e,he,h⟩
    ·exact .inl (by omega)
    ·exact .inr ⟨e,by simp [he],by omega⟩
theorem IY (h:I) (p:V) (l:Seen) (i j cl:Nat) (hm:s0 h p l i j cl) :
  Pure Tryz.prog 77 [p] h (.int .i64 (leastOf l)):=by
 obtain ⟨rfl,hi,aS,hp,j4,lH,U⟩:=hm
 have cR:=U
 refine Pure.val (bj.int _ _) ?_
 refine ae.ax (c:=_) Tryz.func77 rfl (by kernel_rfl) (by simp) ?_
 have hlen:=OG (P:=Tryz.prog) (h:=h) ajK lH
 have n5:=OR (P:=Tryz.prog) E7 lH
 by_cases h0:l=[]
 ·have dk:((((mapOf .i64 mO l).length:Nat):Int)==0)=true:=by simp [mapOf,h0]
  simp only [af,Int.reduceNeg,Nat.reduceEqDiff,reduceCtorEq,wX,xY,wZ,j4,hlen,dk,aU,Tryz.results77,ac]
  exact aF ⟨by rw [leastOf,if_pos h0],J.refl _ _⟩
 ·have dk:((((mapOf .i64 mO l).length:Nat):Int)==0)=false:=by
   have:l.length≠0:=by simpa using h0
   simp [mapOf]
   exact h0
  simp only [af,Int.reduceNeg,Nat.reduceEqDiff,reduceCtorEq,wX,xY,wZ,j4,hlen,dk,n5]
  refine aX.b9 (α:=List Nat) (fun seen f h'=>h'=h.push (.iter j cl seen cl)∧f 20=.ptr h.n 0∧∃ m,f 3=.int .i64 m∧m≤1099511627776∧(∀ e ∈ l,e.1 ∈ seen→m≤e.2.2)∧(m=1099511627776∨∃ e ∈ l,m=e.2.2))
   (fun seen=>(oX (mapOf .i64 mO l) seen).length) [] ⟨rfl,rfl,_,rfl,Int.le_refl _,by simp,.inl rfl⟩ ?_
  rintro seen f h' ⟨rfl,Dh,m,tr,m1,m2,m3⟩
  refine am (by kernel_rfl) ?_
  have IZ:(h.push (.iter j cl seen cl)).get j=.map (mapOf .i64 mO l) cl:=by rw [mc aS];exact lH
  simp only [af,Dh]
  refine OP cA IZ U (fun nt=>?_) fun e he=>?_
  ·have dt:∀ e ∈ l,e.1 ∈ seen:=fun e he=>by
    apply Classical.byContradiction
    intro lZ
    have:(e.1,V.int .i64 e.2.1,mO e.2.2) ∈ oX (mapOf .i64 mO l) seen:=by
     unfold oX
     exact List.mem_filter.2 ⟨List.mem_map.2 ⟨e,he,rfl⟩,by simp [lZ]⟩
    rw [nt] at this
    simp at this
   simp only [af,Nat.reduceEqDiff,tr,aU,Tryz.results77,ac]
   refine aF ⟨?_,J.push _ _ _⟩
   rw [leastOf,if_neg h0]
   congr 1
   exact mw.eq ⟨m1,fun e he=>m2 e he (dt e he),m3⟩ (anU l)
  ·have qV:=(List.mem_filter.1 he).1
   obtain ⟨fi,vb,rfl⟩:=List.mem_map.1 qV
   have zL:=OQ (h:=(h.push (.iter j cl seen cl)).set h.n (.iter j cl (seen++[fi.1]) cl)) (r:=h.n) (e:=(fi.1,V.int .i64 fi.2.1,mO fi.2.2)) aP (by rw [kL (by omega)];exact IZ) U qV
   simp only [set_push] at zL
   simp only [af,Nat.reduceEqDiff,Dh,zL,mO,tr]
   refine aF ⟨seen++[fi.1],⟨rfl,Dh,min m fi.2.2,rfl,by omega,fun e he U=>?_,?_⟩,TN he⟩
   ·rcases List.mem_append.1 U with U | U
    ·have:=m2 e he U;omega
    ·simp at U
     have qZ:e=fi:=R1 cR.2 he vb (by simpa using U)
     subst qZ
     omega
   ·by_cases hle:m≤fi.2.2
    ·rw [Int.min_eq_left hle];exact m3
    ·rw [Int.min_eq_right (by omega)];exact .inr ⟨fi,vb,rfl⟩
def kP (k:Nat):List Int→Seen
 | []=>[]
 | z::r=>(k,z,-1)::kP (k+1) r
def pJ (lo:Int):List Int→Prop
 | []=>True
 | z::r=>lo<z∧pJ z r
theorem R2 (k:Nat) (z:Int):∀ (zs:List Int),kP k (zs++[z])=kP k zs++[(k+zs.length,z,-1)]
 | []=>rfl
 | a::zs=>by
  simp only [List.cons_append,kP,R2 (k+1) z zs,List.length_cons]
  rw [show k+1+zs.length=k+(zs.length+1) by omega]
theorem ZR {lo z:Int}:∀ {zs:List Int},pJ lo (zs++[z])→pJ lo zs∧lo<z∧∀ x ∈ zs,x<z
 | [],h=>⟨trivial,h.1,by simp⟩
 | a::zs,h=>by
  obtain ⟨h1,aa⟩:=h
  obtain ⟨aC,bz,bY⟩:=ZR aa
  exact ⟨⟨h1,aC⟩,by omega,fun x ag=>by
   rcases List.mem_cons.1 ag with rfl | ag
   ·exact bz
   ·exact bY x ag⟩
theorem ZS {k:Nat} {v:Int}:∀ {zs:List Int},dr (kP k zs) v=if v ∈ zs then some (-1) else none
 | []=>rfl
 | a::zs=>by
  have ih:=ZS (k:=k+1) (v:=v) (zs:=zs)
  unfold dr at ih⊢
  simp only [kP,List.find?_cons]
  by_cases h:a=v
  ·subst h;simp
  ·have:(a==v)=false:=by simp [h]
   rw [this]
   simp only
   rw [ih]
   simp [Ne.symm h]
def Fx (lo:Int):List Int→Int
 | []=>lo
 | z::r=>Fx z r
theorem ZT (lo z:Int):∀ zs:List Int,Fx lo (zs++[z])=z
 | []=>rfl
 | a::zs=>ZT a z zs
theorem anV {lo:Int} {zs:List Int} (h:pJ lo zs) {k:Nat} (hk:k<zs.length):pJ lo (zs.take (k+1))∧Fx lo (zs.take k)<zs[k]:=by
 induction zs generalizing lo k with
 | nil=>simp at hk
 | cons a zs ih=>
  cases k with
  | zero=>exact ⟨⟨h.1,trivial⟩,h.1⟩
  | succ k=>
   obtain ⟨h1,aa⟩:=ih h.2 (k:=k) (by simpa using hk)
   exact ⟨⟨h.1,by simpa using h1⟩,by simpa [Fx] using aa⟩
theorem take_succ {α:Type} {l:List α} {k:Nat} (hk:k<l.length):l.take (k+1)=l.take k++[l[k]]:=by
 rw [List.take_add_one,List.getElem?_eq_getElem hk];rfl
theorem R3 (h:I) (zs:List Int) (h1:1≤zs.length) (aa:zs.length≤24) (aO:pJ (-1) zs) :
  ae Tryz.prog 69 [.ai zs.length (zs.map (.int .i64))] h (fun r h'=>∃ i j,r=.tuple [.ptr i 0,.int .i64 0]∧s0 h' (.ptr i 0) (kP 0 zs) i j zs.length∧h.n≤i∧h.n≤j∧J h h' none_):=by
 refine ae.ax (c:=_) Tryz.func69 rfl (by kernel_rfl) (by simp) ?_
 have bh:decide ((zs.length:Int)<1)=false:=by simp;omega
 have bD:decide (24<(zs.length:Int))=false:=by simp;omega
 simp only [af,Int.reduceNeg,Nat.reduceEqDiff,reduceCtorEq,qF,ajU,aj8,bh,bD]
 refine aX.b9 (α:=Nat) (fun k f h'=>k≤zs.length∧f 4=.ptr (h.n+1) 0∧f 5=.int .i64 (Fx (-1) (zs.take k))∧f 19=.ai zs.length (zs.map (.int .i64))∧f 20=.int .i64 zs.length∧f 21=.int .i64 (k:Nat) ∧
  s0 h' (.ptr (h.n+1) 0) (kP 0 (zs.take k)) (h.n+1) h.n k∧J h h' none_) (fun k=>zs.length - k) 0 ?_ ?_
 ·refine ⟨Nat.zero_le _,rfl,rfl,rfl,rfl,rfl,⟨rfl,?_,?_,by omega,?_,?_,eP.nil _⟩,?_⟩
  ·rw [eI,eI];omega
  ·rw [eI,eI];omega
  ·rw [show h.n+1=(h.push (.map [] 0)).n by rfl,cA]
  ·rw [mc (by rw [eI];omega),cA];rfl
  ·exact (J.push _ _ _).bg _
 ·rintro k f h' ⟨hk,f4,f5,f19,f20,f21,hm,b8⟩
  refine am (by kernel_rfl) ?_
  obtain ⟨_,hi,aS,hp,j4,lH,U⟩:=hm
  by_cases aN:k<zs.length
  ·have c3:decide ((k:Int)<(zs.length:Int))=true:=by simp;omega
   have gk:=Gj (P:=Tryz.prog) (t:=24) (k:=.i64) (i:=(k:Int)) (cs:=zs.map (V.int .i64)) mF (by omega) (by omega:(k:Int)<(zs.length:Nat)) (by simp)
   have a7:(zs.map (V.int .i64)).drop ((k:Int).toNat * 1)=.int .i64 zs[k]::(zs.map (V.int .i64)).drop (k+1):=by
    rw [Int.toNat_natCast,Nat.mul_one,List.drop_eq_getElem_cons (by simpa using aN)]
    simp
   rw [a7] at gk
   obtain ⟨I0,anW⟩:=anV aO aN
   have ew:decide (zs[k]≤Fx (-1) (zs.take k))=false:=by simp;omega
   have tQ:=OO (P:=Tryz.prog) (h:=h') (k:=zs[k]) (a:=(-1:Int)) (v:=.int .i64 (-1)) E7 lH rfl
   have uu:dr (kP 0 (zs.take k)) zs[k]=none:=by
    rw [ZS,if_neg]
    intro ej
    rw [take_succ aN] at I0
    have:=(ZR I0).2.2 _ ej
    omega
   have db:eN k (kP 0 (zs.take k)) zs[k] (-1)=kP 0 (zs.take (k+1)):=by
    have:(kP 0 (zs.take k)).findIdx? (fun e=>e.2.1==zs[k])=none:=by
     cases aq:(kP 0 (zs.take k)).findIdx? (fun e=>e.2.1==zs[k]) with
     | none=>rfl
     | some q=>
      obtain ⟨e,_,_,aC⟩:=OM aq
      rw [uu] at aC
      cases aC
    rw [ON this,take_succ aN,R2]
    simp
    omega
   have R4:mU k (kP 0 (zs.take k)) zs[k]=k+1:=by simp [mU,uu]
   rw [db,R4] at tQ
   have c2:IntKind.i64.wrap ((k:Int)+1)=((k+1:Nat):Int):=by rw [Go.IntWalk.i64_in _ (by omega)];rfl
   simp only [af,Int.reduceNeg,Nat.reduceEqDiff,wX,wZ,bn,f4,f5,f19,f20,f21,c3,gk,ew,j4,tQ,c2]
   refine aF ⟨k+1,⟨by omega,f4,?_,f19,f20,rfl,⟨rfl,hi,aS,hp,by rw [kL hp];exact j4,aP,?_⟩,b8.iQ (Nat.le_refl _) _⟩,by omega⟩
   ·show V.int .i64 zs[k]=_
    rw [take_succ aN,ZT]
   ·have aw:mapOf .i64 mO (kP 0 (zs.take (k+1)))=mapOf .i64 mO (kP 0 (zs.take k))++[(k,.int .i64 zs[k],mO (-1))]:=by
     rw [take_succ aN,R2]
     simp [mapOf]
     omega
    rw [aw]
    exact U.snoc _ _
  ·obtain rfl:k=zs.length:=by omega
   have c3:decide ((zs.length:Int)<(zs.length:Int))=false:=by simp
   simp only [af,Int.reduceNeg,Nat.reduceEqDiff,f4,f20,f21,c3,aU,Tryz.results69,dn]
   rw [List.take_length] at lH U
   exact aF ⟨h.n+1,h.n,by first | rfl | (show V.tuple [f 4,.int .i64 0]=_;rw [f4]),⟨rfl,hi,aS,hp,j4,lH,U⟩,by omega,Nat.le_refl _,b8⟩
open Go.Shelf
def anX:Go.Shelf.Ren:=⟨fun | 189=>136 | 125=>190 | 257=>189 | 128=>225 | 129=>226 | 294=>216 | 295=>217 | 296=>218 | 297=>219 | 298=>220 | 299=>221 | 216=>222 | 300=>223 | 301=>224 | 328=>258 | 329=>259 | 330=>260 | 331=>261 | 332=>262 | 215=>193 | 343=>275 | n=>n,fun | 28=>24 | 3=>3 | 46=>312 | 0=>0 | 51=>353 | 53=>221 | 4=>4 | 183=>346 | 182=>345 | 131=>265 | 5=>5 | 9=>9 | 218=>375 | 222=>379 | 228=>388 | 229=>172 | n=>n,fun | n=>n⟩
theorem ZU:Go.Proofs.Lays.n189 Tryz.prog anX:={
 mixed:=by kernel_rfl
 f125:=Tryz.func190.trans (congrArg some (by kernel_rfl))
 f128:=Tryz.func225.trans (congrArg some (by kernel_rfl))
 f129:=Tryz.func226.trans (congrArg some (by kernel_rfl))
 f189:=Tryz.func136.trans (congrArg some (by kernel_rfl))
 f215:=Tryz.func193.trans (congrArg some (by kernel_rfl))
 f216:=Tryz.func222.trans (congrArg some (by kernel_rfl))
 f257:=Tryz.func189.trans (congrArg some (by kernel_rfl))
 f294:=Tryz.func216.trans (congrArg some (by kernel_rfl))
 f295:=Tryz.func217.trans (congrArg some (by kernel_rfl))
 f296:=Tryz.func218.trans (congrArg some (by kernel_rfl))
 f297:=Tryz.func219.trans (congrArg some (by kernel_rfl))
 f298:=Tryz.func220.trans (congrArg some (by kernel_rfl))
 f299:=Tryz.func221.trans (congrArg some (by kernel_rfl))
 f300:=Tryz.func223.trans (congrArg some (by kernel_rfl))
 f301:=Tryz.func224.trans (congrArg some (by kernel_rfl))
 f328:=Tryz.func258.trans (congrArg some (by kernel_rfl))
 f329:=Tryz.func259.trans (congrArg some (by kernel_rfl))
 f330:=Tryz.func260.trans (congrArg some (by kernel_rfl))
 f331:=Tryz.func261.trans (congrArg some (by kernel_rfl))
 f332:=Tryz.func262.trans (congrArg some (by kernel_rfl))
 f343:=Tryz.func275.trans (congrArg some (by kernel_rfl))
 t0:=Tryz.underlying0
 a0:=Tryz.isAgg0
 z0:=Tryz.sizeOf0
 v0:=Tryz.zeroValue0
 t3:=Tryz.underlying3
 a3:=Tryz.isAgg3
 z3:=Tryz.sizeOf3
 v3:=Tryz.zeroValue3
 t4:=Tryz.underlying4
 a4:=Tryz.isAgg4
 z4:=Tryz.sizeOf4
 v4:=Tryz.zeroValue4
 t5:=Tryz.underlying5
 a5:=Tryz.isAgg5
 z5:=Tryz.sizeOf5
 v5:=Tryz.zeroValue5
 t9:=Tryz.underlying9
 a9:=Tryz.isAgg9
 z9:=Tryz.sizeOf9
 v9:=Tryz.zeroValue9
 t28:=Tryz.underlying24
 a28:=Tryz.isAgg24
 z28:=Tryz.sizeOf24
 v28:=Tryz.zeroValue24
 t46:=Tryz.underlying312
 a46:=Tryz.isAgg312
 z46:=Tryz.sizeOf312
 v46:=Tryz.zeroValue312
 t51:=Tryz.underlying353
 a51:=Tryz.isAgg353
 z51:=Tryz.sizeOf353
 v51:=Tryz.zeroValue353
 t53:=Tryz.underlying221
 a53:=Tryz.isAgg221
 z53:=Tryz.sizeOf221
 v53:=Tryz.zeroValue221
 t131:=Tryz.underlying265
 a131:=Tryz.isAgg265
 z131:=Tryz.sizeOf265
 v131:=Tryz.zeroValue265
 t182:=Tryz.underlying345
 a182:=Tryz.isAgg345
 z182:=Tryz.sizeOf345
 v182:=Tryz.zeroValue345
 t183:=Tryz.underlying346
 a183:=Tryz.isAgg346
 z183:=Tryz.sizeOf346
 v183:=Tryz.zeroValue346
 t218:=Tryz.underlying375
 a218:=Tryz.isAgg375
 z218:=Tryz.sizeOf375
 v218:=Tryz.zeroValue375
 t222:=Tryz.underlying379
 a222:=Tryz.isAgg379
 z222:=Tryz.sizeOf379
 v222:=Tryz.zeroValue379
 t228:=Tryz.underlying388
 a228:=Tryz.isAgg388
 z228:=Tryz.sizeOf388
 v228:=Tryz.zeroValue388
 t229:=Tryz.underlying172
 a229:=Tryz.isAgg172
 z229:=Tryz.sizeOf172
 v229:=Tryz.zeroValue172 }
open Go.Sort Go.RowKit in
theorem slices_Sort_int (hL off cap:Nat) (zs:List Int) (w:World) (hH:Holds (Value.int .i64) w hL off zs.toArray) (hblk:hL<w.heap.size) (bf:zs.length<4611686018427387904) :
  Calls Tryz.prog 136 #[.slice (some ⟨hL,off,none⟩) zs.length cap] w fun e w'=>
   e=.returned (.tuple #[])∧∃ n os,w'=grow (putRow (Value.int .i64) (Sort.ahead w n) hL off (zs.mergeSort fun x y=>decide (x≤y)).toArray) os:=Any.slices_Sort_int ZU hL off cap zs w hH hblk bf
open Go.Sort Go.RowKit in
theorem slices_Sort_int_none (p:Option Addr) (cap:Nat) (w:World) :
  Calls Tryz.prog 136 #[.slice p 0 cap] w fun e w'=>e=.returned (.tuple #[])∧w'=w:=Any.slices_Sort_int_none ZU p cap w
theorem anY {h:I} {v:V} {l:List Int} (aR:Own h 3 1 v (aY l)) (az:l.length<4611686018427387904) :
  ae Tryz.prog 136 [v] h (fun r h'=>r=.tuple []∧Own h' 3 1 v (aY (l.mergeSort fun x y=>decide (x≤y)))∧J h h' (bl v)) :=
 agL (fun hL off cap zs w hH ak U=>slices_Sort_int hL off cap zs w hH ak U) (fun p cap w=>slices_Sort_int_none p cap w) aR az
theorem ZV:∀ {b a:List Int},a.Perm b→a.Pairwise (·≤·)→b.Pairwise (·<·)→a=b
 | [],a,aZ,_,_=>aZ.eq_nil
 | y::ao,[],aZ,_,_=>by have:=aZ.length_eq;simp at this
 | y::ao,x::xs,aZ,aO,ak=>by
  have ag:x ∈ y::ao:=aZ.subset (by simp)
  have bd:y ∈ x::xs:=aZ.symm.subset (by simp)
  have h1:x≤y:=by
   rcases List.mem_cons.1 bd with h | h
   ·omega
   ·exact (List.pairwise_cons.1 aO).1 y h
  have aa:y≤x:=by
   rcases List.mem_cons.1 ag with h | h
   ·omega
   ·have:=(List.pairwise_cons.1 ak).1 x h;omega
  obtain rfl:x=y:=by omega
  rw [ZV (List.perm_cons x |>.1 aZ) (List.pairwise_cons.1 aO).2 (List.pairwise_cons.1 ak).2]
theorem R5:∀ {zs:List Int} {lo:Int},pJ lo zs→zs.Pairwise (·<·)∧∀ x ∈ zs,lo<x
 | [],lo,_=>⟨List.Pairwise.nil,by simp⟩
 | z::zs,lo,h=>by
  obtain ⟨h1,aa⟩:=h
  obtain ⟨i1,i2⟩:=R5 aa
  refine ⟨List.pairwise_cons.2 ⟨fun x ag=>i2 x ag,i1⟩,fun x ag=>?_⟩
  rcases List.mem_cons.1 ag with rfl | ag
  ·exact h1
  ·have:=i2 x ag;omega
theorem anZ {zs aE:List Int} {lo:Int} (aO:pJ lo zs) (aZ:aE.Perm zs):(aE.mergeSort fun x y=>decide (x≤y))=zs:=by
 refine ZV ((List.mergeSort_perm _ _).trans aZ) ?_ (R5 aO).1
 have:=List.pairwise_mergeSort (le:=fun x y:Int=>decide (x≤y)) (by intro a b c h1 aa;simp at *;omega) (by intro a b;simp;omega) aE
 exact this.imp fun h=>by simpa using h
theorem an0 (h:I) (p:V) (l:Seen) (i j cl:Nat) (hm:s0 h p l i j cl) (zs:List Int) (bK:l.map (·.2.1)=zs) (aO:pJ (-1) zs) (az:zs.length≤24) :
  Pure Tryz.prog 82 [p] h (.ai zs.length (aY zs)):=by
 obtain ⟨rfl,hi,aS,hp,j4,lH,U⟩:=hm
 have cR:=U
 refine Pure.acc (e:=3) (sz:=1) (Gn _) (by rw [pU,Nat.mul_one]) (by omega) ?_
 refine ae.ax (c:=_) Tryz.func82 rfl (by kernel_rfl) (by simp) ?_
 have n5:=OR (P:=Tryz.prog) E7 lH
 simp only [af,Nat.reduceEqDiff,reduceCtorEq,wX,xY,wZ,j4,n5]
 refine aX.b9 (α:=V×List (Nat×Int×Int)) (fun x f h'=>h'.get h.n=.iter j cl (x.2.map (·.1)) cl∧h'.get j=.map (mapOf .i64 mO l) cl∧h.n<h'.n∧f 11=.ptr h.n 0∧f 3=x.1∧Acc h h' 3 1 x.1 (aY (x.2.map (·.2.1)))∧aV x.1≠some h.n∧(∀ e ∈ x.2,e ∈ l)∧x.2.Nodup)
  (fun x=>(oX (mapOf .i64 mO l) (x.2.map (·.1))).length) (.an,[]) ⟨cA,by rw [mc aS];exact lH,by rw [eI];omega,rfl,rfl,Acc.nil (J.push _ _ _),by simp [aV],by simp,List.nodup_nil⟩ ?_
 rintro ⟨v,cu⟩ f h' ⟨g1,g2,aG,f11,f3,cG,aD,rj,vk⟩
 simp only at g1 f3 cG aD rj vk
 refine am (by kernel_rfl) ?_
 have abO:cu.length≤l.length:=vk.length_le_of_subset rj
 have u5:l.length=zs.length:=by rw [←bK,List.length_map]
 simp only [af,f11]
 refine OP g1 g2 U (fun nt=>?_) fun e he=>?_
 ·have dt:∀ e ∈ l,e ∈ cu:=fun e he=>by
   apply Classical.byContradiction
   intro lZ
   have R6:e.1 ∉ cu.map (·.1):=fun hm=>by
    obtain ⟨dh,gh,qZ⟩:=List.mem_map.1 hm
    have:dh=e:=R1 cR.2 (rj dh gh) he qZ
    exact lZ (this ▸ gh)
   have:(e.1,V.int .i64 e.2.1,mO e.2.2) ∈ oX (mapOf .i64 mO l) (cu.map (·.1)):=by
    unfold oX
    exact List.mem_filter.2 ⟨List.mem_map.2 ⟨e,he,rfl⟩,by simpa using R6⟩
   rw [nt] at this
   simp at this
  have qR:l.Nodup:=by
   have:=cR.2
   unfold mapOf at this
   rw [List.map_map] at this
   exact List.Pairwise.of_map _ (fun a b nP heq=>nP (by rw [heq])) this
  have aZ:cu.Perm l:=(List.perm_ext_iff_of_nodup vk qR).2 fun e=>⟨rj e,dt e⟩
  have ZW:(cu.map (·.2.1)).Perm zs:=by rw [←bK];exact aZ.map _
  simp only [af,Nat.reduceEqDiff,f3]
  refine cy ajr (anY cG.own (by rw [List.length_map];omega)) fun r aa ⟨aw,ei,k2⟩=>?_
  subst aw
  rw [anZ aO ZW] at ei
  simp only [af,Nat.reduceEqDiff,f3,aU,Tryz.results82,ac]
  exact aF (cG.step ei k2 (.inl rfl))
 ·have qV:=(List.mem_filter.1 he).1
  have ZX:=(List.mem_filter.1 he).2
  obtain ⟨fi,vb,rfl⟩:=List.mem_map.1 qV
  have lZ:fi.1 ∉ cu.map (·.1):=by simpa using ZX
  have zL:=OQ (h:=h'.set h.n (.iter j cl (cu.map (·.1)++[fi.1]) cl)) (r:=h.n) (e:=(fi.1,V.int .i64 fi.2.1,mO fi.2.2)) aP (by rw [kL (by omega)];exact g2) U qV
  have en:J h (h'.set h.n (.iter j cl (cu.map (·.1)++[fi.1]) cl)) none_:=cG.al.iQ (Nat.le_refl _) _
  have ZY:Acc h (h'.set h.n (.iter j cl (cu.map (·.1)++[fi.1]) cl)) 3 1 v (aY (cu.map (·.2.1))):=⟨cG.own.al (J.set _ _ _) fun k hk pg=>aD (pg ▸ hk),en,cG.new⟩
  obtain ⟨v2,aa,cn,ei,k2,d2⟩:=Gx (P:=Tryz.prog) (t:=24) (T:=⟨3,[.int .i64 0],1,8⟩) uA (by decide) ZY.own (xs:=[.int .i64 fi.2.1]) rfl rfl (fun m hm=>by
   have hq:m * 1=(aY (cu.map (·.2.1))).length+1:=hm
   rw [pU,List.length_map] at hq
   show m * 8≤lim∧m≤lim
   unfold lim
   omega)
  have Hf:∀ h,kI Tryz.prog 24 1 [(0,.int .i64 fi.2.1)] h=some (.bc h.n 0 1 1,h.push (.cells [.int .i64 fi.2.1] 3 none)):=fun h=>by rw [qA uA];rfl
  have ZZ:(h'.set h.n (.iter j cl (cu.map (·.1)++[fi.1]) cl)).get h.n=.iter j cl (cu.map (·.1)++[fi.1]) cl:=aP
  have Z0:(h'.set h.n (.iter j cl (cu.map (·.1)++[fi.1]) cl)).get j=.map (mapOf .i64 mO l) cl:=by rw [kL (by omega)];exact g2
  have NK:h.n<(h'.set h.n (.iter j cl (cu.map (·.1)++[fi.1]) cl)).n:=aG
  generalize h'.set h.n (.iter j cl (cu.map (·.1)++[fi.1]) cl)=fv at *
  have gv:¬bl v h.n:=fun ab=>aD ab
  have ft:¬bl v j:=fun ab=>by have:=cG.new j ab;omega
  simp only [af,Nat.reduceEqDiff,f11,zL,mO,f3,Hf,cn]
  refine aF ⟨(v2,cu++[fi]),⟨?_,?_,?_,f11,rfl,?_,?_,?_,?_⟩,?_⟩
  ·rw [k2.get h.n NK gv,ZZ];simp
  ·rw [k2.get j (by omega) ft,Z0]
  ·exact Nat.lt_of_lt_of_le NK k2.n
  ·exact (ZY.step ei k2 d2).conv (by simp [aY])
  ·intro ab
   rcases d2 with d | d
   ·exact aD (d ▸ ab)
   ·have:=d h.n ab;omega
  ·intro e qZ
   rcases List.mem_append.1 qZ with h1 | h1
   ·exact rj e h1
   ·simp at h1;subst h1;exact vb
  ·rw [List.nodup_append]
   refine ⟨vk,by simp,fun a aO b ak nP=>?_⟩
   simp at ak
   subst ak
   subst nP
   exact lZ (List.mem_map.2 ⟨a,aO,rfl⟩)
  ·simpa using TN he
def rP (l:List bC) (L:List Nat) (v:Nat):List Int→Option (List Nat)
 | []=>none
 | f::r=>if gN l f≠5∧L.getD v 0≠L.getD f.toNat 0 then some ((L.set v (min (L.getD v 0) (L.getD f.toNat 0))).set f.toNat (min (L.getD v 0) (L.getD f.toNat 0))) else rP l L v r
def sq (l:List bC) (L:List Nat):Nat→List bC→Option (List Nat)
 | _,[]=>none
 | v,x::r=>match rP l L v x.a8 with
  | some rQ=>some rQ
  | none=>sq l L (v+1) r
def tX (l:List bC):Nat→List Nat→List Nat
 | 0,L=>L
 | k+1,L=>match sq l L 0 l with
  | some rQ=>tX l k rQ
  | none=>L
def tA (l:List bC):List Nat:=tX l 600 (List.range l.length)
def zM (es:List (Nat×Int×Int)) (L:List Nat):Prop:=∀ k,k<L.length→b7 es (k:Int)=some ((L.getD k 0:Nat):Int)
def yb (es:List (Nat×Int×Int)):List (Nat×V×V):=dJ (V.int .i64) (V.int .i64) es
theorem R7 {h:I} {i cl:Nat} {es:List (Nat×Int×Int)} {L:List Nat} (hm:zM es L) {k:Nat} (hk:k<L.length) (av:h.get i=.map (yb es) cl):mD Tryz.prog 226 (.map i) (.int .i64 (k:Int)) false h=some (.int .i64 ((L.getD k 0:Nat):Int)):=by
 have:=Pj (enc:=V.int .i64) (ok:=false) (kp.ofInt K1) (k:=(k:Int)) K1 IK av
 rw [this,hm k hk]
 rfl
theorem Di {h:I} {i cl:Nat} (es:List (Nat×Int×Int)) (k x:Int) (av:h.get i=.map (yb es) cl):uk Tryz.prog 226 (.map i) (.int .i64 k) (.int .i64 x) h=some (h.set i (.map (yb (cC cl es k x)) (fT cl es k))) :=
 Pl (enc:=V.int .i64) (kp.ofInt K1) (k:=k) K1 av rfl
theorem zM.set {es:List (Nat×Int×Int)} {L:List Nat} (a:zM es L) (cl k x:Nat):zM (cC cl es (k:Int) (x:Int)) (L.set k x):=fun j aS=>by
 rw [List.length_set] at aS
 rw [B6]
 by_cases he:j=k
 ·subst he
  rw [if_pos rfl,List.getD,List.getElem?_set]
  simp [aS]
 ·rw [if_neg (by omega),a j aS,List.getD,List.getD,List.getElem?_set,if_neg (by omega)]
theorem Z1 {l:List bC} {L:List Nat} {v:Nat}:∀ {r:List Int} {rQ:List Nat},rP l L v r=some rQ→∃ f ∈ r,L.getD v 0≠L.getD f.toNat 0∧rQ=(L.set v (min (L.getD v 0) (L.getD f.toNat 0))).set f.toNat (min (L.getD v 0) (L.getD f.toNat 0))
 | [],_,h=>by cases h
 | f::r,rQ,h=>by
  unfold rP at h
  split at h
  ·rename_i au
   exact ⟨f,by simp,au.2,(Option.some.inj h).symm⟩
  ·obtain ⟨g,av,h1,aa⟩:=Z1 h
   exact ⟨g,List.mem_cons_of_mem _ av,h1,aa⟩
theorem R8:∀ {L:List Nat} {k:Nat} (x:Nat),k<L.length→(L.set k x).sum+L.getD k 0=L.sum+x
 | [],k,x,h=>by simp at h
 | a::r,0,x,_=>by simp;omega
 | a::r,k+1,x,h=>by
  have:=R8 (L:=r) (k:=k) x (by simpa using h)
  simp only [List.set_cons_succ,List.sum_cons,List.getD_cons_succ]
  omega
theorem an1 {L:List Nat} {v f:Nat} (aD:v<L.length) (aq:f<L.length) (bO:v≠f) (a7:L.getD v 0≠L.getD f 0):((L.set v (min (L.getD v 0) (L.getD f 0))).set f (min (L.getD v 0) (L.getD f 0))).sum<L.sum:=by
 have h1:=R8 (L:=L) (min (L.getD v 0) (L.getD f 0)) aD
 have aa:=R8 (L:=L.set v (min (L.getD v 0) (L.getD f 0))) (k:=f) (min (L.getD v 0) (L.getD f 0)) (by simpa using aq)
 have aC:(L.set v (min (L.getD v 0) (L.getD f 0))).getD f 0=L.getD f 0:=by
  rw [List.getD,List.getElem?_set,if_neg bO,←List.getD]
 omega
theorem Z2 {l:List bC} {L:List Nat}:∀ {r:List bC} {v:Nat} {rQ:List Nat},sq l L v r=some rQ→∃ k x,r[k]?=some x∧rP l L (v+k) x.a8=some rQ
 | [],_,_,h=>by cases h
 | x::r,v,rQ,h=>by
  unfold sq at h
  split at h
  ·rename_i q
   exact ⟨0,x,rfl,by rw [Nat.add_zero,q];exact h⟩
  ·obtain ⟨k,y,h1,aa⟩:=Z2 h
   exact ⟨k+1,y,by simpa using h1,by rw [show v+(k+1)=v+1+k by omega];exact aa⟩
theorem an2 (l:List bC) (h:I) (uU:l.length≤24) (aH:∀ (v:Nat) (x:bC),l[v]?=some x→∀ f ∈ x.a8,0≤f∧f<(v:Int)) (j0:∀ x ∈ l,x.a8.length<2 ^ 47) :
  ae Tryz.prog 129 [.ai l.length (l.flatMap ar)] h (fun r h'=>∃ m es cl,r=.map m∧h.n≤m∧m<h'.n∧h'.get m=.map (yb es) cl∧zM es (tA l)∧(tA l).length=l.length∧J h h' none_):=by
 refine ae.ax (c:=_) Tryz.func129 rfl (by kernel_rfl) (by simp) ?_
 simp only [af]
 refine aX.Av (α:=Unit) (l:=0) rfl (fun _ f h'=>f 0=.ai l.length (l.flatMap ar)∧f 3=.map h.n∧J h h' none_∧h.n<h'.n∧∃ es cl,h'.get h.n=.map (yb es) cl∧zM es (List.range l.length)) (fun _=>0) ?_ ?_ ?_
 ·intro _ f h1 _
  omega
 ·rintro _ f h1 ⟨f0,f3,bB,gv,es,cl,fG,j8⟩
  refine am (by kernel_rfl) ?_
  simp only [af]
  refine aX.b9 (α:=List Nat×List (Nat×Int×Int)×Nat×Nat) (fun x f h'=>f 0=.ai l.length (l.flatMap ar)∧f 3=.map h.n∧J h h' none_∧h.n<h'.n∧h'.get h.n=.map (yb x.2.1) x.2.2.1∧zM x.2.1 x.1∧x.1.length=l.length∧x.1.sum<x.2.2.2∧tX l x.2.2.2 x.1=tA l) (fun x=>x.1.sum) (List.range l.length,es,cl,600) ⟨f0,f3,bB,gv,fG,j8,by simp,?_,rfl⟩ ?_
  ·show (List.range l.length).sum<600
   have:∀ n:Nat,n≤24→(List.range n).sum<600:=by decide
   exact this _ uU
  rintro ⟨L,es,cl,k⟩ f aa ⟨f0,f3,k2,ft,fG,j8,hW,hk,eR⟩
  simp only at fG j8 hW hk eR
  refine am (by kernel_rfl) ?_
  simp only [af,px,f0]
  refine aX.b9 (α:=Nat) (fun v f h'=>f 0=.ai l.length (l.flatMap ar)∧f 3=.map h.n∧f 20=.ai l.length (l.flatMap ar)∧f 21=.int .i64 ((l.length:Nat):Int)∧f 22=.int .i64 (v:Nat)∧v≤l.length∧J h h' none_∧h.n<h'.n∧h'.get h.n=.map (yb es) cl∧sq l L 0 l=sq l L v (l.drop v)) (fun v=>l.length - v) 0 ⟨f0,f3,rfl,rfl,rfl,Nat.zero_le _,k2,ft,fG,rfl⟩ ?_
  rintro v g aC ⟨g0,g3,g20,g21,g22,aD,k3,n3,yM,bF⟩
  refine am (by kernel_rfl) ?_
  by_cases aN:v<l.length
  rotate_left
  ·have bh:decide ((v:Int)<((l.length:Nat):Int))=false:=by simp only [decide_eq_false_iff_not];omega
   rw [List.drop_of_length_le (by omega)] at bF
   have lW:tX l k L=L:=by
    obtain ⟨k',rfl⟩:∃ k',k=k'+1:=⟨k - 1,by omega⟩
    unfold tX
    rw [bF]
    rfl
   simp only [af,Nat.reduceEqDiff,g3,g21,g22,bh,zi,aU,Tryz.results129,ac]
   exact aF ⟨h.n,es,cl,rfl,Nat.le_refl _,n3,yM,by rw [←eR,lW];exact j8,by rw [←eR,lW];exact hW,k3⟩
  have bh:decide ((v:Int)<((l.length:Nat):Int))=true:=by simp only [decide_eq_true_eq];omega
  have gn:=qC (kk:=.i64) (P:=Tryz.prog) iA aN xR
  have NL:=aH v l[v] (List.getElem?_eq_getElem aN)
  have wj:=j0 l[v] (List.getElem_mem aN)
  rw [List.drop_eq_getElem_cons aN] at bF
  replace bF:sq l L 0 l=match rP l L v l[v].a8 with | some rQ=>some rQ | none=>sq l L (v+1) (l.drop (v+1)):=bF
  have bX:IntKind.i64.wrap (((v:Nat):Int)+1)=((v+1:Nat):Int):=by rw [Go.IntWalk.i64_in _ (by omega)];omega
  generalize l[v]=A at gn NL wj bF
  have kS:∀ (q:List V),dv (some (some 6)) (some (ar A++q))=some (.agg (ar A)):=fun q=>nN (iA A)
  have b5:(V.agg (ar A)).cells=some (ar A):=rfl
  have db:bR (some 6) (bb.cells [.int .i64 0,.an,.int .i64 0,.int .i64 0,.an,.int .i64 0] 29 none) 0 (ar A)=some (.cells (ar A) 29 none):=by
   rw [sF (n:=6) (iA A) (zJ A),if_pos (by decide),p7];rfl
  have jN:dB (bb.cells (ar A) 29 none) 1=some [.ai A.a8.length (aY A.a8),.int .i64 A.e.op,.int .i64 A.e.num,.ai A.e.aE.length (A.e.aE.flatMap ay),.int .i64 A.n]:=by rw [p7];rfl
  obtain ⟨h6,j3⟩:∃ x,x=aC.push (.cells (ar A) 29 none):=⟨_,rfl⟩
  have uQ:h6.get aC.n=.cells (ar A) 29 none:=by rw [j3];exact cA
  have D8:h6.get h.n=.map (yb es) cl:=by rw [j3];exact (mc (by omega)).trans yM
  have cz:J h h6 none_:=by rw [j3];exact k3.bg _
  have n4:h6.n=aC.n+1:=by rw [j3];rfl
  simp only [af,Nat.reduceEqDiff,qE,qF,mW,nS,nW,pZ,g20,g21,g22,bh,gn,kS,b5,db,←j3,uQ,jN]
  refine aX.b9 (α:=Nat) (fun j f h'=>f 0=.ai l.length (l.flatMap ar)∧f 3=.map h.n∧f 20=.ai l.length (l.flatMap ar)∧f 21=.int .i64 ((l.length:Nat):Int)∧f 22=.int .i64 (v:Nat)∧f 5=.int .i64 (v:Nat)∧f 28=.ai A.a8.length (aY A.a8)∧f 29=.int .i64 ((A.a8.length:Nat):Int)∧f 30=.int .i64 (j:Nat)∧j≤A.a8.length∧h'=h6∧rP l L v A.a8=rP l L v (A.a8.drop j)) (fun j=>A.a8.length - j) 0 ⟨g0,g3,g20,g21,g22,rfl,rfl,rfl,rfl,Nat.zero_le _,rfl,rfl⟩ ?_
  rintro j p bY ⟨wu,Dj,I1,I2,D9,LF,Bq,yN,Ea,aS,rfl,iv⟩
  refine am (by kernel_rfl) ?_
  by_cases I3:j<A.a8.length
  rotate_left
  ·have bD:decide ((j:Int)<((A.a8.length:Nat):Int))=false:=by simp only [decide_eq_false_iff_not];omega
   rw [List.drop_of_length_le (by omega)] at iv
   have Z3:rP l L v A.a8=none:=iv
   rw [Z3] at bF
   simp only [af,Nat.reduceEqDiff,Dj,D9,yN,Ea,bD,bX]
   exact aF ⟨v+1,⟨wu,Dj,I1,I2,rfl,by omega,cz,by omega,D8,bF⟩,by omega⟩
  have bD:decide ((j:Int)<((A.a8.length:Nat):Int))=true:=by simp only [decide_eq_true_eq];omega
  have ck:=tk (P:=Tryz.prog) (kk:=.i64) I3 mF
  have k8:IntKind.i64.wrap (((j:Nat):Int)+1)=((j+1:Nat):Int):=by rw [Go.IntWalk.i64_in _ (by omega)];omega
  have ch:A.a8[j] ∈ A.a8:=List.getElem_mem I3
  rw [List.drop_eq_getElem_cons I3] at iv
  generalize A.a8[j]=B at ck ch iv
  obtain ⟨hZ,oo⟩:=NL B ch
  obtain ⟨q,rfl⟩:∃ q:Nat,B=(q:Int):=⟨B.toNat,by omega⟩
  obtain ⟨dW,ij,la⟩:=jp (l:=l) (q:=q) (by omega)
  have zN:=R7 j8 (k:=v) (by omega) D8
  have Z4:=R7 j8 (k:=q) (by omega) D8
  replace iv:rP l L v A.a8=if gN l (q:Int)≠5∧L.getD v 0≠L.getD q 0 then some ((L.set v (min (L.getD v 0) (L.getD q 0))).set q (min (L.getD v 0) (L.getD q 0))) else rP l L v (A.a8.drop (j+1)):=iv
  by_cases Eb:gN l (q:Int)=5
  ·have c3:(gN l (q:Int) !=5)=false:=by simp [Eb]
   rw [if_neg (by simp [Eb])] at iv
   simp only [af,Nat.reduceEqDiff,reduceCtorEq,hl,bn,wu,Bq,yN,Ea,bD,ck,dW,ij,c3,k8]
   exact aF ⟨j+1,⟨wu,Dj,I1,I2,D9,LF,Bq,yN,rfl,by omega,rfl,iv⟩,by omega⟩
  have c3:(gN l (q:Int) !=5)=true:=by simp [Eb]
  by_cases heq:L.getD v 0=L.getD q 0
  ·have ew:(((L.getD v 0:Nat):Int) !=((L.getD q 0:Nat):Int))=false:=by rw [heq];simp
   rw [if_neg (fun ab=>ab.2 heq)] at iv
   simp only [af,Nat.reduceEqDiff,reduceCtorEq,hl,bn,wu,Dj,LF,Bq,yN,Ea,bD,ck,dW,ij,c3,zN,Z4,ew,k8]
   exact aF ⟨j+1,⟨wu,Dj,I1,I2,D9,LF,Bq,yN,rfl,by omega,rfl,iv⟩,by omega⟩
  have ew:(((L.getD v 0:Nat):Int) !=((L.getD q 0:Nat):Int))=true:=by rw [bne_iff_ne];omega
  rw [if_pos ⟨Eb,heq⟩] at iv
  rw [iv] at bF
  have R9:=an1 (L:=L) (v:=v) (f:=q) (by omega) (by omega) (by omega) heq
  generalize Sa:min (L.getD v 0) (L.getD q 0)=low at iv bF R9
  have BX:min ((L.getD v 0:Nat):Int) ((L.getD q 0:Nat):Int)=((low:Nat):Int):=by rw [←Sa,Nat.min_def,Int.min_def];split<;>split<;>omega
  have De:=Di es (v:Int) (low:Int) D8
  have RQ:=Di (h:=bY.set h.n (.map (yb (cC cl es (v:Int) (low:Int))) (fT cl es (v:Int)))) (cC cl es (v:Int) (low:Int)) (q:Int) (low:Int) aP
  simp only [af,Nat.reduceEqDiff,reduceCtorEq,hl,bn,wu,Dj,D9,LF,Bq,yN,Ea,bD,ck,dW,ij,c3,zN,Z4,ew,BX,De,RQ]
  obtain ⟨k',rfl⟩:∃ k',k=k'+1:=⟨k - 1,by omega⟩
  have Z5:tX l k' ((L.set v low).set q low)=tA l:=by
   rw [←eR]
   show _=match sq l L 0 l with | some rQ=>tX l k' rQ | none=>L
   rw [bF]
  refine aF ⟨((L.set v low).set q low,cC (fT cl es (v:Int)) (cC cl es (v:Int) (low:Int)) (q:Int) (low:Int),fT (fT cl es (v:Int)) (cC cl es (v:Int) (low:Int)) (q:Int),k'),⟨wu,Dj,cz.iQ (Nat.le_refl _) _,by show h.n<bY.n;omega,aP,(j8.set cl v low).set _ q low,by simp [hW],by simp only;omega,Z5⟩,by simp only;omega⟩
 ·intro step
  refine aX.seq (am (by kernel_rfl) ?_)
  simp only [af,Nat.reduceEqDiff]
  refine aX.seq (am (by kernel_rfl) ?_)
  simp only [af,Nat.reduceEqDiff,reduceCtorEq,px]
  refine aX.b9 (α:=Nat×List (Nat×Int×Int)×Nat) (fun x f h'=>f 0=.ai l.length (l.flatMap ar)∧f 3=.map h.n∧f 12=.int .i64 ((l.length:Nat):Int)∧f 13=.int .i64 (x.1:Nat)∧x.1≤l.length∧J h h' none_∧h.n<h'.n∧h'.get h.n=.map (yb x.2.1) x.2.2∧zM x.2.1 (List.range x.1)) (fun x=>l.length - x.1) (0,[],0) ⟨rfl,rfl,rfl,rfl,Nat.zero_le _,J.push _ _ _,Nat.lt_succ_self _,cA,fun k hk=>by simp at hk⟩ ?_
  rintro ⟨i,es,cl⟩ f h1 ⟨f0,f3,f12,f13,hi,bB,gv,fG,j8⟩
  simp only at f13 hi fG j8
  refine am (by kernel_rfl) ?_
  by_cases aN:i<l.length
  ·have bh:decide ((i:Int)<((l.length:Nat):Int))=true:=by simp only [decide_eq_true_eq];omega
   have bX:IntKind.i64.wrap (((i:Nat):Int)+1)=((i+1:Nat):Int):=by rw [Go.IntWalk.i64_in _ (by omega)];omega
   have De:=Di es (i:Int) (i:Int) fG
   have Z6:zM (cC cl es (i:Int) (i:Int)) (List.range (i+1)):=fun k hk=>by
    rw [List.length_range] at hk
    rw [B6]
    have av:(List.range (i+1)).getD k 0=k:=by rw [List.getD,List.getElem?_range hk];rfl
    rw [av]
    by_cases oy:k=i
    ·rw [oy,if_pos rfl]
    ·rw [if_neg (by omega),j8 k (by rw [List.length_range];omega),List.getD,List.getElem?_range (by omega)]
     rfl
   simp only [af,Nat.reduceEqDiff,f3,f12,f13,bh,De,bX]
   exact aF ⟨(i+1,cC cl es (i:Int) (i:Int),fT cl es (i:Int)),⟨f0,f3,f12,rfl,by simp only;omega,bB.iQ (Nat.le_refl _) _,gv,aP,Z6⟩,by simp only;omega⟩
  ·have bh:decide ((i:Int)<((l.length:Nat):Int))=false:=by simp only [decide_eq_false_iff_not];omega
   have kr:i=l.length:=by omega
   rw [kr] at j8
   simp only [af,f12,f13,bh]
   refine aX.seq (.label ?_)
   exact step () _ _ ⟨f0,f3,bB,gv,es,cl,fG,j8⟩
end Go.Proofs.YtedkjhifbibpmaaGreatDoor.Pk
