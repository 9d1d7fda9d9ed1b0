/-
  What functions of the program do, told of abstract states. Conditions: as each theorem says.
-/
import Derived.Test.YtedkjhifbibpmaaGreatDoorNf
import Derived.Test.YtedkjhifbibpmaaGreatDoorAcD
import Derived.Test.YtedkjhifbibpmaaGreatDoorNb
import Derived.Test.YtedkjhifbibpmaaGreatDoorNa
import Derived.Test.YtedkjhifbibpmaaGreatDoorNe
import Derived.Test.YtedkjhifbibpmaaGreatDoorNc
set_option linter.unusedVariables false
set_option linter.unusedSimpArgs false
set_option maxHeartbeats 4000000
set_option maxRecDepth 10000
namespace Go.Proofs.YtedkjhifbibpmaaGreatDoor.Pk
open Go Go.Proofs Go.Proofs.YtedkjhifbibpmaaGreatDoor.Ab
theorem Z7 {L:List Nat} {k j x:Nat}:(L.set k x).getD j 0=if k=j∧j<L.length then x else L.getD j 0:=by
 rw [List.getD,List.getElem?_set]
 by_cases h:k=j
 ·subst h
  by_cases az:k<L.length
  ·simp [az]
  ·simp [az,List.getD]
 ·simp [h,List.getD]
theorem Z8 {l:List bC}:∀ (k:Nat) (L:List Nat),(∀ j,L.getD j 0≤j)→∀ j,(tX l k L).getD j 0≤j
 | 0,L,h,j=>h j
 | k+1,L,h,j=>by
  unfold tX
  cases ad:sq l L 0 l with
  | none=>exact h j
  | some rQ=>
   refine Z8 k rQ (fun j=>?_) j
   obtain ⟨v,x,h1,aa⟩:=Z2 ad
   obtain ⟨f,_,_,e⟩:=Z1 aa
   rw [e,Z7,Z7]
   have a:=h (0+v)
   have b:=h f.toNat
   split
   ·rename_i ab
    rw [←ab.1]
    omega
   ·split
    ·rename_i ab
     rw [←ab.1]
     omega
    ·exact h j
theorem an3 (l:List bC):∀ j,(tA l).getD j 0≤j:=Z8 _ _ fun j=>by
 rw [List.getD]
 by_cases h:j<l.length
 ·rw [List.getElem?_range h];exact Nat.le_refl _
 ·rw [List.getElem?_eq_none (by simp;omega)];exact Nat.zero_le _
theorem Own.at' {h:I} {e:TypeId} {v:V} {cs:List V} {i:Nat} (aR:Own h e 1 v cs) (hi:aV v=some i) {k:Nat} (hk:k<cs.length) {kk:IntKind} {t:TypeId} (U:ek Tryz.prog t=some 1) :
  hA Tryz.prog t v (.int kk (k:Int))=some (.ptr i k)∧(∃ r,dB (h.get i) k=some (cs[k]::r))∧∀ x,x.one=true→∃ ob,bR (some 1) (h.get i) k [x]=some ob∧Own (h.set i ob) e 1 v (cs.set k x):=by
 obtain ⟨j,cn,cO,fg,ju⟩:=af5 (P:=Tryz.prog) (kk:=kk) U aR hk
 rw [hi] at cO
 obtain rfl:i=j:=by simpa using cO
 exact ⟨cn,fg,fun x ag=>by obtain ⟨ob,a,b,_⟩:=ju x ag;exact ⟨ob,a,b⟩⟩
def gE (R:List Nat):Nat→List Int×Nat
 | 0=>([],0)
 | i+1=>if R.getD i 0=i then ((gE R i).1++[((gE R i).2:Int)],(gE R i).2+1) else ((gE R i).1++[(gE R i).1.getD (R.getD i 0) 0],(gE R i).2)
theorem ii (R:List Nat):∀ i,(gE R i).1.length=i
 | 0=>rfl
 | i+1=>by unfold gE;split<;>simp [ii R i]
theorem Z9 (R:List Nat):∀ i,(gE R i).2≤i
 | 0=>Nat.le_refl _
 | i+1=>by have:=Z9 R i;unfold gE;split<;>simp only<;>omega
def iS (p:Int) (l:List bC):List Int:=if (c1 p l).2=0 then (gE (tA l) l.length).1 else []
theorem aaa {P:List Int} {i n:Nat} (lP:P.length=i) (hi:i<n) (x:Int):(P++List.replicate (n - i) 0).set i x=(P++[x])++List.replicate (n - (i+1)) 0:=by
 subst lP
 rw [List.set_append_right _ _ (Nat.le_refl _),Nat.sub_self,show n - P.length=(n - (P.length+1))+1 by omega,List.replicate_succ,List.set_cons_zero]
 simp
theorem aab (l:List bC) (p:Int) (a1:l4 l) (h:I) (av:pY h):Pure Tryz.prog 67 [.agg (dO l p)] h (.tuple [.ai (iS p l).length (aY (iS p l)),.int .i64 (c1 p l).2]):=by
 refine Pure.of (bj.tuple (bo.cons (bj.ai (Gn _)) (bo.cons (bj.int _ _) bo.nil))) ?_
 have au:(V.agg (dO l p)).cells=some [.ai l.length (l.flatMap ar),.int .i64 p]:=rfl
 obtain ⟨H,hH⟩:∃ x,x=h.push (.cells [.ai l.length (l.flatMap ar),.int .i64 p] 56 none):=⟨_,rfl⟩
 have gt:H.get h.n=.cells [.ai l.length (l.flatMap ar),.int .i64 p] 56 none:=by rw [hH];exact cA
 have bA:J h H none_:=by rw [hH];exact J.push _ _ _
 have j9:H.n=h.n+1:=by rw [hH];rfl
 have AN:=av.al bA
 refine ae.ax (c:=_) Tryz.func67 rfl (by kernel_rfl) (by simp) ?_
 simp only [af,Nat.reduceEqDiff,Nat.reduceAdd,nX,au,←hH,gt]
 refine bU P7 (RK l p a1 H AN) ?_
 by_cases h0:(c1 p l).2=0
 rotate_left
 ·have bD:((c1 p l).2 !=0)=true:=by simp [h0]
  have bs:iS p l=[]:=if_neg h0
  simp only [af,Nat.reduceEqDiff,rO,bD,aU,Tryz.results67,dn]
  exact aF ⟨_,by rw [bs];exact aM.tuple (aB.cons (aM.kD _) (aB.refl _ _)),bA⟩
 have bD:((c1 p l).2 !=0)=false:=by simp [h0]
 obtain ⟨_,_,ey,Ec,_,dt⟩:=RO h0
 have bs:iS p l=(gE (tA l) l.length).1:=if_pos h0
 simp only [af,Nat.reduceEqDiff,Nat.reduceAdd,lU,kO,rO,bD,gt]
 refine cy aiQ (an2 l H Ec (fun v x ag f aq=>(Zq (dt v x ag)).2.1 f aq) (fun x ag=>(a1.2 x ag).2.1)) fun r h1 ⟨m,es,cl,mr,m1,m2,fG,j8,yF,bB⟩=>?_
 subst mr
 have I4:=an3 l
 generalize tA l=R at j8 yF I4 bs
 have NM:=(bB.get h.n (by omega) (by simp [none_])).trans gt
 have r8:yY Tryz.prog 24 (.int .i64 ((l.length:Nat):Int)) (.int .i64 ((l.length:Nat):Int)) h1=some (.bc h1.n 0 l.length l.length,h1.push (.cells (aY (List.replicate l.length 0)) 3 none)):=by
  rw [OX uA (Nat.le_refl _) (by simp only;omega) (by omega),S6]
  simp [aY]
 have a0:Own (h1.push (.cells (aY (List.replicate l.length 0)) 3 none)) 3 1 (.bc h1.n 0 l.length l.length) (aY (List.replicate l.length 0)):=Own.lq _ l.length (by rw [pU,List.length_replicate,Nat.mul_one]) (by unfold b2;omega)
 obtain ⟨bP,bE⟩:∃ x,x=h1.push (.cells (aY (List.replicate l.length 0)) 3 none):=⟨_,rfl⟩
 have k2:J h1 bP none_:=by rw [bE];exact J.push _ _ _
 have ft:bP.n=h1.n+1:=by rw [bE];rfl
 rw [←bE] at a0
 have nT:=(k2.get h.n (by have:=bB.n;omega) (by simp [none_])).trans NM
 have tR:=(k2.get m m2 (by simp [none_])).trans fG
 simp only [af,Nat.reduceEqDiff,Nat.reduceAdd,lU,px,kO,NM,r8,←bE,nT]
 have alm:=bB.n
 refine aX.b9 (α:=Nat) (fun i f h'=>f 6=.map m∧f 7=.bc h1.n 0 l.length l.length∧f 8=.int .i64 (((gE R i).2:Nat):Int)∧f 27=.int .i64 ((l.length:Nat):Int)∧f 28=.int .i64 (i:Nat)∧i≤l.length∧J bP h' (fun q=>q=h1.n)∧Own h' 3 1 (.bc h1.n 0 l.length l.length) (aY ((gE R i).1++List.replicate (l.length - i) 0))) (fun i=>l.length - i) 0 ⟨rfl,rfl,rfl,rfl,rfl,Nat.zero_le _,J.refl _ _,a0⟩ ?_
 rintro i f aC ⟨f6,f7,f8,f27,f28,hi,k3,h4⟩
 have yM:=(k3.get m (by omega) (by omega)).trans tR
 refine am (by kernel_rfl) ?_
 by_cases aN:i<l.length
 rotate_left
 ·have c3:decide ((i:Int)<((l.length:Nat):Int))=false:=by simp only [decide_eq_false_iff_not];omega
  have kr:i=l.length:=by omega
  subst kr
  rw [Nat.sub_self,List.replicate_zero,List.append_nil] at h4
  obtain ⟨bz,ew,cz⟩:=aM.own h4 (n:=l.length) (by rw [pU,ii,Nat.mul_one]) (by decide)
  have an4:J h bz none_:=(((bA.trans' bB).trans' k2).trans k3 fun q ad e=>by omega).trans cz fun q ad e=>by simp [bl,aV] at e;omega
  simp only [af,Nat.reduceEqDiff,f7,f27,f28,c3,aU,Tryz.results67,dn]
  refine aF ⟨bz,?_,an4⟩
  rw [bs,ii,h0]
  exact aM.tuple (aB.cons ew (aB.refl _ _))
 have c3:decide ((i:Int)<((l.length:Nat):Int))=true:=by simp only [decide_eq_true_eq];omega
 have bX:IntKind.i64.wrap (((i:Nat):Int)+1)=((i+1:Nat):Int):=by rw [Go.IntWalk.i64_in _ (by omega)];omega
 have la:=R7 j8 (k:=i) (by omega) yM
 have hlen:(aY ((gE R i).1++List.replicate (l.length - i) 0)).length=l.length:=by rw [pU,List.length_append,ii,List.length_replicate];omega
 obtain ⟨cn,_,fg⟩:=Pk.Own.at' (kk:=.i64) h4 (i:=h1.n) rfl (k:=i) (by rw [hlen];exact aN) mF
 have hle:=Z9 R i
 by_cases he:R.getD i 0=i
 ·have ew:(((R.getD i 0:Nat):Int)==((i:Nat):Int))=true:=by rw [he];simp
  have k8:IntKind.i64.wrap ((((gE R i).2:Nat):Int)+1)=(((gE R i).2+1:Nat):Int):=by rw [Go.IntWalk.i64_in _ (by omega)];omega
  obtain ⟨ob,ec,bW⟩:=fg (.int .i64 (((gE R i).2:Nat):Int)) rfl
  rw [O0,aaa (ii R i) aN] at bW
  have aZ:gE R (i+1)=((gE R i).1++[((gE R i).2:Int)],(gE R i).2+1):=if_pos he
  simp only [af,Nat.reduceEqDiff,uz,f6,f7,f8,f27,f28,c3,la,ew,cn,ec,bX,k8]
  exact aF ⟨i+1,⟨f6,f7,by rw [aZ];rfl,f27,rfl,by omega,k3.trans' (J.set _ _ _),by rw [aZ];exact bW⟩,by omega⟩
 ·have ew:(((R.getD i 0:Nat):Int)==((i:Nat):Int))=false:=by simp only [beq_eq_false_iff_ne,ne_eq];omega
  have apS:=I4 i
  have aS:R.getD i 0<i:=by omega
  generalize qB:R.getD i 0=xN at *
  obtain ⟨hZ,oo,_⟩:=Pk.Own.at' (kk:=.i64) h4 (i:=h1.n) rfl (k:=xN) (by rw [hlen];omega) mF
  have lH:(aY ((gE R i).1++List.replicate (l.length - i) 0))[xN]'(by rw [hlen];omega)=.int .i64 ((gE R i).1.getD xN 0):=by
   simp only [aY,List.getElem_map]
   rw [List.getElem_append_left (by rw [ii];exact aS),List.getD,List.getElem?_eq_getElem (by rw [ii];exact aS)]
   rfl
  obtain ⟨ja,oo⟩:=oo
  rw [lH] at oo
  obtain ⟨ob,ec,bW⟩:=fg (.int .i64 ((gE R i).1.getD xN 0)) rfl
  rw [O0,aaa (ii R i) aN] at bW
  have aZ:gE R (i+1)=((gE R i).1++[(gE R i).1.getD xN 0],(gE R i).2):=by
   show (if R.getD i 0=i then _ else _)=_
   rw [qB,if_neg (by omega)]
  simp only [af,Nat.reduceEqDiff,bn,uz,f6,f7,f27,f28,c3,la,ew,hZ,oo,cn,ec,bX]
  exact aF ⟨i+1,⟨f6,f7,by rw [aZ];exact f8,f27,rfl,by omega,k3.trans' (J.set _ _ _),by rw [aZ];exact bW⟩,by omega⟩
def mx:Int→List Int→Int
 | a,[]=>a
 | a,b::r=>mx (max a b) r
theorem I5 {p:Int} {l:List bC} (h0:(c1 p l).2=0):(iS p l).length=l.length:=by
 unfold iS
 rw [if_pos h0,ii]
theorem Sb (u:Nat) (a b:Nat) (P:List Int) (part:Int) (hu:u<P.length) (h:I) (k6:h.get a=.cells [.ai P.length (aY P)] 24 none) (vC:h.get b=.cells [.int .i64 part] 3 none) :
  Pure Tryz.prog 133 [.int .i64 (u:Int),.ptr a 0,.ptr b 0] h (.bool (P.getD u 0==part)):=by
 refine Pure.val (bj.bool _) ?_
 have gn:=tk (P:=Tryz.prog) (kk:=.i64) hu mF
 have av:P.getD u 0=P[u]:=by rw [List.getD,List.getElem?_eq_getElem hu];rfl
 refine ae.ax (c:=_) Tryz.func133 rfl (by kernel_rfl) (by simp) ?_
 simp only [af]
 refine aX.bk none_ [] (.q 0 (.q 1 (.q 2 (.q 3 (.q 4 (.q 5 (.q 6 .done))))))) (by kernel_rfl) (by kernel_rfl) (by kernel_rfl) ?_
 simp only [af,bN,Nat.reduceEqDiff,reduceCtorEq,mW,bn,k6,vC,gn,aU,Tryz.results133,ac]
 exact aF ⟨by rw [av],J.refl _ _⟩
theorem an5 (qe:List Int) (a b:Nat) (P:List Int) (part:Int) (Dk:∀ u ∈ qe,0≤u∧u<P.length) (az:qe.length<2 ^ 40) (h:I) (k6:h.get a=.cells [.ai P.length (aY P)] 24 none) (vC:h.get b=.cells [.int .i64 part] 3 none) :
  Pure Tryz.prog 131 [.ai qe.length (aY qe),.func (.func 133) [] [.ptr a 0,.ptr b 0]] h (.bool (qe.any fun u=>P.getD u.toNat 0==part)):=by
 have gk:ae Tryz.prog 183 [.ai qe.length (aY qe),.func (.func 133) [] [.ptr a 0,.ptr b 0]] h (fun r h'=>(∃ k:Int,r=.int .i64 k∧(decide (0≤k))=qe.any fun u=>P.getD u.toNat 0==part)∧h'=h):=by
  refine ae.ax (c:=_) Tryz.func183 rfl (by kernel_rfl) (by simp) ?_
  simp only [af,Int.reduceNeg,Nat.reduceEqDiff,reduceCtorEq,qF]
  refine aX.b9 (α:=Nat) (fun j f h'=>f 0=.ai qe.length (aY qe)∧f 1=.func (.func 133) [] [.ptr a 0,.ptr b 0]∧f 7=.int .i64 ((qe.length:Nat):Int)∧f 8=.int .i64 (j:Nat)∧j≤qe.length∧h'=h∧(qe.any fun u=>P.getD u.toNat 0==part)=((qe.drop j).any fun u=>P.getD u.toNat 0==part)) (fun j=>qe.length - j) 0 ⟨rfl,rfl,rfl,rfl,Nat.zero_le _,rfl,rfl⟩ ?_
  rintro j f h1 ⟨f0,f1,f7,f8,aS,rfl,bF⟩
  refine am (by kernel_rfl) ?_
  by_cases aN:j<qe.length
  ·have c5:decide ((j:Int)<((qe.length:Nat):Int))=true:=by simp only [decide_eq_true_eq];omega
   rw [List.drop_eq_getElem_cons aN,List.any_cons] at bF
   have ck:=tk (P:=Tryz.prog) (kk:=.i64) aN mF
   have ch:=Dk _ (List.getElem_mem aN)
   generalize qe[j]=A at *
   obtain ⟨q,rfl⟩:∃ q:Nat,A=(q:Int):=⟨A.toNat,by omega⟩
   have bX:IntKind.i64.wrap (((j:Nat):Int)+1)=((j+1:Nat):Int):=by rw [Go.IntWalk.i64_in _ (by omega)];omega
   simp only [af,Nat.reduceEqDiff,reduceCtorEq,bn,f0,f1,f7,f8,c5,ck]
   refine bU aiU (Sb q a b P part (by omega) h1 k6 vC) ?_
   rw [Int.toNat_natCast] at bF
   cases jw:(P.getD q 0==part)
   ·simp only [af,Int.reduceNeg,Nat.reduceEqDiff,f8,bX]
    rw [jw,Bool.false_or] at bF
    exact aF ⟨j+1,⟨f0,f1,f7,rfl,by omega,rfl,bF⟩,by omega⟩
   ·simp only [af,Int.reduceNeg,Nat.reduceEqDiff,aU,Tryz.results183,ac]
    rw [jw,Bool.true_or] at bF
    exact aF ⟨⟨_,rfl,by rw [bF];simp⟩,rfl⟩
  ·have c5:decide ((j:Int)<((qe.length:Nat):Int))=false:=by simp only [decide_eq_false_iff_not];omega
   rw [List.drop_of_length_le (by omega)] at bF
   simp only [af,Int.reduceNeg,Nat.reduceEqDiff,f7,f8,c5,aU,Tryz.results183,ac]
   exact aF ⟨⟨_,rfl,by rw [bF];rfl⟩,rfl⟩
 refine ae.ax (c:=_) Tryz.func131 rfl (by kernel_rfl) (by simp) ?_
 simp only [af,Nat.reduceEqDiff,reduceCtorEq]
 refine cy ai5 gk fun r h1 ⟨⟨k,aw,aW⟩,cJ⟩=>?_
 subst aw cJ
 simp only [af,Nat.reduceEqDiff,aU,Tryz.results131,ac]
 exact aF ⟨by rw [aW],rfl⟩
def rR (l:List bC) (P:List Int) (part:Int) (v:Nat):Bool:=(gN l (v:Int)==1&&P.getD v 0==part)||(gN l (v:Int)==5&&(gu (v:Int) 0 l).any fun u=>P.getD u.toNat 0==part)
def ks (l:List bC) (P:List Int) (part:Int):Nat→List Int
 | 0=>[]
 | i+1=>ks l P part i++(if rR l P part i then [(i:Int)] else [])
theorem LG (l:List bC) (P:List Int) (part:Int):∀ i,(ks l P part i).length≤i
 | 0=>Nat.le_refl _
 | i+1=>by
  have:=LG l P part i
  unfold ks
  rw [List.length_append]
  split<;>simp<;>omega
def Br (p:Int) (l:List bC) (part:Int):List Int:=ks l (iS p l) part (iS p l).length
theorem an6 (l:List bC) (p part:Int) (a1:l4 l) (h:I) (av:pY h):Pure Tryz.prog 70 [.agg (dO l p),.int .i64 part] h (.ai (Br p l part).length (aY (Br p l part))):=by
 have Sc:(iS p l).length≤24∧((iS p l).length=0∨((iS p l).length=l.length∧l.length≤24)):=by
  by_cases h0:(c1 p l).2=0
  ·obtain ⟨_,_,_,Ec,_⟩:=RO h0
   rw [I5 h0]
   exact ⟨Ec,.inr ⟨rfl,Ec⟩⟩
  ·unfold iS
   rw [if_neg h0]
   exact ⟨by simp,.inl rfl⟩
 have kr:=LG l (iS p l) part (iS p l).length
 refine Pure.acc (e:=3) (sz:=1) (Gn _) (by rw [pU,Nat.mul_one]) (by decide) ?_
 have au:(V.agg (dO l p)).cells=some [.ai l.length (l.flatMap ar),.int .i64 p]:=rfl
 obtain ⟨H,hH⟩:∃ x,x=(h.push (.cells [.ai l.length (l.flatMap ar),.int .i64 p] 56 none)).push (.cells [.int .i64 part] 3 none):=⟨_,rfl⟩
 have gt:H.get h.n=.cells [.ai l.length (l.flatMap ar),.int .i64 p] 56 none:=by rw [hH];exact wv
 have mL:H.get (h.n+1)=.cells [.int .i64 part] 3 none:=by rw [hH];exact d9
 have bA:J h H none_:=by rw [hH];exact (J.push _ _ _).bg _
 have j9:H.n=h.n+2:=by rw [hH];rfl
 have aac:∀ x:Int,(V.int .i64 x).cells=some [.int .i64 x]:=fun _=>rfl
 have qk:∀ (n:Nat) (x:List V),(V.ai n x).cells=some [.ai n x]:=fun _ _=>rfl
 refine ae.ax (c:=_) Tryz.func70 rfl (by kernel_rfl) (by simp) ?_
 simp only [af,Nat.reduceEqDiff,Nat.reduceAdd,nX,au,aac,←hH,gt]
 refine bU Wh (aab l p a1 H (av.al bA)) ?_
 unfold Br
 generalize iS p l=P at Sc kr
 obtain ⟨bP,bE⟩:∃ x,x=H.push (.cells [.ai P.length (aY P)] 24 none):=⟨_,rfl⟩
 have Bj:bP.get H.n=.cells [.ai P.length (aY P)] 24 none:=by rw [bE];exact cA
 have k2:J H bP none_:=by rw [bE];exact J.push _ _ _
 have ft:bP.n=H.n+1:=by rw [bE];rfl
 have nT:=(k2.get h.n (by omega) (by simp [none_])).trans gt
 have Iy:=(k2.get (h.n+1) (by omega) (by simp [none_])).trans mL
 simp only [af,Nat.reduceEqDiff,qF,mW,U3,PI,qk,←bE,Bj]
 refine aX.b9 (α:=V×Nat) (fun x f h'=>f 2=.ptr h.n 0∧f 3=.ptr (h.n+1) 0∧f 5=.ptr H.n 0∧f 7=x.1∧f 15=.ai P.length (aY P)∧f 16=.int .i64 ((P.length:Nat):Int)∧f 17=.int .i64 (x.2:Nat)∧x.2≤P.length∧Acc bP h' 3 1 x.1 (aY (ks l P part x.2))) (fun x=>P.length - x.2) (.an,0) ⟨rfl,rfl,rfl,rfl,rfl,rfl,rfl,Nat.zero_le _,Acc.nil (J.refl _ _)⟩ ?_
 rintro ⟨u,i⟩ f h1 ⟨f2,f3,f5,f7,f15,f16,f17,hi,cG⟩
 simp only at f7 f17 hi cG
 have qw:=(cG.al.get h.n (by omega) (by simp [none_])).trans nT
 have I6:=(cG.al.get (h.n+1) (by omega) (by simp [none_])).trans Iy
 have aad:=(cG.al.get H.n (by omega) (by simp [none_])).trans Bj
 refine am (by kernel_rfl) ?_
 by_cases aN:i<P.length
 rotate_left
 ·have c5:decide ((i:Int)<((P.length:Nat):Int))=false:=by simp only [decide_eq_false_iff_not];omega
  have aae:i=P.length:=by omega
  rw [aae] at cG
  simp only [af,Nat.reduceEqDiff,f7,f16,f17,c5,aU,Tryz.results70,ac]
  exact aF ⟨cG.own,(bA.trans' k2).trans' cG.al,fun k hk=>by have:=cG.new k hk;omega⟩
 have c5:decide ((i:Int)<((P.length:Nat):Int))=true:=by simp only [decide_eq_true_eq];omega
 have Sd:i<l.length:=by omega
 have ck:=tk (P:=Tryz.prog) (kk:=.i64) aN mF
 have aaf:P.getD i 0=P[i]:=by rw [List.getD,List.getElem?_eq_getElem aN];rfl
 rw [←aaf] at ck
 obtain ⟨dW,ij,la⟩:=jp Sd
 have bX:IntKind.i64.wrap (((i:Nat):Int)+1)=((i+1:Nat):Int):=by rw [Go.IntWalk.i64_in _ (by omega)];omega
 have hlen:=LG l P part i
 have NN:ks l P part (i+1)=ks l P part i++(if rR l P part i then [(i:Int)] else []):=rfl
 obtain ⟨v2,aC,cn,a2⟩:=cG.elem (P:=Tryz.prog) uA (by decide) (xs:=[.int .i64 (i:Nat)]) rfl rfl (by simp [pU,lim];omega) (by simp [pU,lim];omega)
 have yes:rR l P part i=true→Acc bP aC 3 1 v2 (aY (ks l P part (i+1))):=fun ab=>by rw [NN,ab,if_pos rfl,TW];exact a2
 have no:rR l P part i=false→Acc bP h1 3 1 u (aY (ks l P part (i+1))):=fun ab=>by rw [NN,ab,if_neg (by simp),List.append_nil];exact cG
 have ng:rR l P part i=((gN l (i:Int)==1&&P.getD i 0==part)||(gN l (i:Int)==5&&(gu (i:Int) 0 l).any fun u=>P.getD u.toNat 0==part)):=rfl
 cases bB:(gN l (i:Int)==1)
 ·cases eQ:(gN l (i:Int)==5)
  ·rw [bB,eQ] at ng
   simp only [af,Nat.reduceEqDiff,Nat.reduceAdd,hl,lU,bn,kO,f2,f15,f16,f17,c5,ck,qw,dW,ij,bB,eQ,bX]
   exact aF ⟨(u,i+1),⟨f2,f3,f5,f7,f15,f16,rfl,by simp only;omega,no ng⟩,by simp only;omega⟩
  ·rw [bB,eQ] at ng
   simp only [af,Nat.reduceEqDiff,Nat.reduceAdd,hl,lU,bn,kO,nX,f2,f15,f16,f17,c5,ck,qw,dW,ij,bB,eQ]
   refine bU aiT (Zo l p (i:Int) a1 (by omega) h1) ?_
   simp only [af,Nat.reduceEqDiff,f3,f5]
   refine bU aiS (an5 (gu (i:Int) 0 l) H.n (h.n+1) P part (fun u hu=>by
    obtain ⟨m,x,aw,aW,_⟩:=Ft.1 hu
    have:=(List.getElem?_eq_some_iff.1 aW).1
    omega) (by have:=Db (v:=(i:Int)) (l:=l) (j:=0);omega) h1 aad I6) ?_
   cases cc:(gu (i:Int) 0 l).any fun u=>P.getD u.toNat 0==part
   ·rw [cc] at ng
    simp only [af,Nat.reduceEqDiff,f17,bX]
    exact aF ⟨(u,i+1),⟨f2,f3,f5,f7,f15,f16,rfl,by simp only;omega,no ng⟩,by simp only;omega⟩
   ·rw [cc] at ng
    simp only [af,Nat.reduceEqDiff,f7,f17,Cf,cn,bX]
    exact aF ⟨(v2,i+1),⟨f2,f3,f5,rfl,f15,f16,rfl,by simp only;omega,yes ng⟩,by simp only;omega⟩
 ·have eQ:(gN l (i:Int)==5)=false:=by
   rw [beq_iff_eq] at bB
   rw [bB]
   rfl
  rw [bB,eQ] at ng
  cases b8:(P.getD i 0==part)
  ·rw [b8] at ng
   simp only [af,Nat.reduceEqDiff,Nat.reduceAdd,hl,lU,bn,kO,f2,f3,f15,f16,f17,c5,ck,qw,I6,dW,ij,bB,b8,bX]
   exact aF ⟨(u,i+1),⟨f2,f3,f5,f7,f15,f16,rfl,by simp only;omega,no ng⟩,by simp only;omega⟩
  ·rw [b8] at ng
   simp only [af,Nat.reduceEqDiff,Nat.reduceAdd,hl,lU,bn,kO,f2,f3,f7,f15,f16,f17,c5,ck,qw,I6,dW,ij,bB,b8,Cf,cn,bX]
   exact aF ⟨(v2,i+1),⟨f2,f3,f5,rfl,f15,f16,rfl,by simp only;omega,yes ng⟩,by simp only;omega⟩
def Ed (b6 cT rt acc:Int) (e:bG):V:=if cY e=true then n0 (cE b6 cT rt acc 16 e) else .tuple [.int .i64 0,.int .i64 1]
theorem aag (e:bG) (b6 cT rt acc:Int) (h:I) (av:ga h):Pure Tryz.prog 59 [.agg (ay e),.agg [.int .i64 b6,.int .i64 cT,.int .i64 rt],.int .i64 acc] h (Ed b6 cT rt acc e):=by
 have:=WX e b6 cT rt acc h av
 unfold Ed
 cases hm:cY e with
 | false=>rw [hm] at this;exact this
 | true=>
  rw [hm] at this
  cases aD:cE b6 cT rt acc 16 e<;>(rw [aD] at this;exact this)
theorem ER (h:I) (k v t:Int):kI Tryz.prog 49 1 [(0,.agg [.int .i64 k,.int .i64 v,.int .i64 t])] h=some (.bc h.n 0 1 1,h.push (.cells [.int .i64 k,.int .i64 v,.int .i64 t] 38 none)):=by rw [qA PG];rfl
def rS (r:Rec):Nat→List Rec
 | 0=>[]
 | i+1=>rS r i++[⟨r.k,j2 (r.v+i),r.t⟩]
theorem EO (r:Rec):∀ i,(rS r i).length=i
 | 0=>rfl
 | i+1=>by simp [rS,EO r i]
theorem an7 (n:Int) (aG:n≤4) (r:Rec) (h:I):Pure Tryz.prog 191 [.int .i64 n,.agg (aI r)] h (.ai n.toNat ((rS r n.toNat).flatMap aI)):=by
 refine Pure.of (bj.ai (Ku XN _)) ?_
 refine ae.ax (c:=_) Tryz.func191 rfl (by kernel_rfl) (by simp) ?_
 simp only [af,aI]
 obtain ⟨H,hH⟩:∃ x,x=h.push (.cells [.int .i64 r.k,.int .i64 r.v,.int .i64 r.t] 38 none):=⟨_,rfl⟩
 have g3:H.get h.n=.cells [.int .i64 r.k,.int .i64 r.v,.int .i64 r.t] 38 none:=by rw [hH];exact cA
 have bA:J h H none_:=by rw [hH];exact J.push _ _ _
 have j9:h.n<H.n:=by rw [hH,eI];omega
 rw [←hH]
 refine aX.b9 (α:=Nat×V) (fun x f h'=>f 0=.int .i64 n∧f 3=.ptr h.n 0∧f 5=x.2∧f 6=.int .i64 (x.1:Nat)∧x.1≤n.toNat∧Acc H h' 38 3 x.2 ((rS r x.1).flatMap aI)) (fun x=>n.toNat - x.1) (0,.an) ⟨rfl,rfl,rfl,rfl,Nat.zero_le _,Acc.nil (J.refl _ _)⟩ ?_
 rintro ⟨i,v⟩ f h1 ⟨f0,f3,f5,f6,hi,cG⟩
 simp only at f5 f6 hi cG
 refine am (by kernel_rfl) ?_
 by_cases aN:(i:Int)<n
 rotate_left
 ·have c3:decide ((i:Int)<n)=false:=by simpa using aN
  have ch:i=n.toNat:=by omega
  obtain ⟨aa,c,k⟩:=cG.cast (n:=n.toNat) (by rw [j7 AJ,EO,ch]) (by decide)
  simp only [af,Nat.reduceEqDiff,reduceCtorEq,f0,f5,f6,c3,aU,Tryz.results191,ac]
  exact aF ⟨aa,by rw [ch] at c;exact c,bA.trans' k⟩
 ·have c3:decide ((i:Int)<n)=true:=by simpa using aN
  have g1:=(cG.al.get h.n j9 (by simp [none_])).trans g3
  have bX:IntKind.i64.wrap (((i:Nat):Int)+1)=((i+1:Nat):Int):=by rw [Go.IntWalk.i64_in _ (by omega)];omega
  obtain ⟨v',aa,cn,cO⟩:=Acc.DD (P:=Tryz.prog) PG (cG.on (J.push h1 (.cells [.int .i64 r.k,.int .i64 (j2 (r.v+i)),.int .i64 r.t] 38 none) _)) (xs:=[.int .i64 r.k,.int .i64 (j2 (r.v+i)),.int .i64 r.t]) (by decide) rfl rfl (fun m hm=>by
   rw [j7 AJ,EO] at hm
   have hq:m * 3=i * 3+3:=hm
   show m * 24≤140737488355328∧m≤140737488355328
   omega)
  have lit:=ER (h1.push (.cells [.int .i64 r.k,.int .i64 (j2 (r.v+i)),.int .i64 r.t] 38 none)) r.k (j2 (r.v+i)) r.t
  unfold j2 at cn cO lit
  simp only [eI] at cn lit
  simp only [af,Nat.reduceEqDiff,Nat.reduceAdd,Nat.reduceLeDiff,reduceCtorEq,Hm,bx,dQ,vH,rr,m9,f0,f3,f5,f6,c3,g1,lit,cn,bX]
  exact aF ⟨(i+1,v'),⟨f0,f3,rfl,rfl,by simp only;omega,by simp only [rS,List.flatMap_append,List.flatMap_cons,List.flatMap_nil,List.append_nil];exact cO⟩,by simp only;omega⟩
def hN (kind n:Int) (r:Rec):List Rec :=
 if kind=2 then [⟨r.k,n,r.t⟩] else if kind=5 then [⟨n,r.v,r.t⟩] else if kind=3 then (if n=0 then [] else [r])
 else if kind=4 then rS r (min n 4).toNat else [r]
theorem Cc (l:List Rec):bj (V.ai l.length (l.flatMap aI)):=bj.ai (Ku XN _)
theorem LH (h:I) (x:Rec):∃ aa,aM (.bc h.n 0 1 1) (h.push (.cells (aI x) 38 none)) (.ai [x].length ([x].flatMap aI)) aa∧J h aa none_:=by
 have:=aM.lit (h:=h) (c:=[x].flatMap aI) (e:=38) (n:=1) (sz:=3) rfl (by decide) (by decide)
 simpa using this
theorem an8 (kind n:Int) (r:Rec) (h:I):Pure Tryz.prog 137 [.int .i64 kind,.int .i64 n,.agg (aI r)] h (.ai (hN kind n r).length ((hN kind n r).flatMap aI)):=by
 refine Pure.of (Cc _) ?_
 refine ae.ax (c:=_) Tryz.func137 rfl (by kernel_rfl) (by simp) ?_
 by_cases aa:kind=2
 ·have c:(kind==2)=true:=by simp [aa]
  have bs:hN kind n r=[⟨r.k,n,r.t⟩]:=by simp [hN,aa]
  have lit:=ER (h.push (.cells [.int .i64 r.k,.int .i64 n,.int .i64 r.t] 38 none)) r.k n r.t
  simp only [eI] at lit
  simp only [af,Nat.reduceEqDiff,Nat.reduceAdd,Nat.reduceLeDiff,reduceCtorEq,Hm,dQ,rr,aI,c,lit,aU,Tryz.results137,ac]
  obtain ⟨ab,cc,kk⟩:=LH (h.push (.cells [.int .i64 r.k,.int .i64 n,.int .i64 r.t] 38 none)) ⟨r.k,n,r.t⟩
  exact aF ⟨ab,by rw [bs];exact cc,(J.push _ _ _).trans' kk⟩
 have bD:(kind==2)=false:=by simp [aa]
 by_cases bY:kind=5
 ·have c:(kind==5)=true:=by simp [bY]
  have bs:hN kind n r=[⟨n,r.v,r.t⟩]:=by simp [hN,bY]
  have lit:=ER (h.push (.cells [.int .i64 n,.int .i64 r.v,.int .i64 r.t] 38 none)) n r.v r.t
  simp only [eI] at lit
  simp only [af,Nat.reduceEqDiff,Nat.reduceAdd,Nat.reduceLeDiff,reduceCtorEq,vK,dQ,rr,aI,bD,c,lit,aU,Tryz.results137,ac]
  obtain ⟨ab,cc,kk⟩:=LH (h.push (.cells [.int .i64 n,.int .i64 r.v,.int .i64 r.t] 38 none)) ⟨n,r.v,r.t⟩
  exact aF ⟨ab,by rw [bs];exact cc,(J.push _ _ _).trans' kk⟩
 have c5:(kind==5)=false:=by simp [bY]
 have lit:=ER (h.push (.cells [.int .i64 r.k,.int .i64 r.v,.int .i64 r.t] 38 none)) r.k r.v r.t
 simp only [eI] at lit
 obtain ⟨ab,cc,kk⟩:=LH (h.push (.cells [.int .i64 r.k,.int .i64 r.v,.int .i64 r.t] 38 none)) r
 by_cases aC:kind=3
 ·have c:(kind==3)=true:=by simp [aC]
  by_cases aG:n=0
  ·have ui:(n==0)=true:=by simp [aG]
   have bs:hN kind n r=[]:=by simp [hN,aC,aG]
   simp only [af,Nat.reduceEqDiff,reduceCtorEq,aI,bD,c5,c,ui,aU,Tryz.results137,ac]
   exact aF ⟨_,by rw [bs];exact aM.kN _,J.push _ _ _⟩
  ·have ui:(n==0)=false:=by simp [aG]
   have bs:hN kind n r=[r]:=by simp [hN,aC,aG]
   simp only [af,Nat.reduceEqDiff,Nat.reduceAdd,reduceCtorEq,dQ,aI,bD,c5,c,ui,lit,aU,Tryz.results137,ac]
   exact aF ⟨ab,by rw [bs];exact cc,(J.push _ _ _).trans' kk⟩
 have c3:(kind==3)=false:=by simp [aC]
 by_cases bz:kind=4
 ·have c:(kind==4)=true:=by simp [bz]
  have bs:hN kind n r=rS r (min n 4).toNat:=by simp [hN,bz]
  simp only [af,Nat.reduceEqDiff,Nat.reduceAdd,reduceCtorEq,dQ,aI,bD,c5,c3,c]
  refine bU aja (an7 (min n 4) (by omega) r _) ?_
  simp only [af,Nat.reduceEqDiff,aU,Tryz.results137,ac]
  exact aF ⟨_,by rw [bs,EO];exact aM.refl _ _,J.push _ _ _⟩
 have ew:(kind==4)=false:=by simp [bz]
 have bs:hN kind n r=[r]:=by simp [hN,aa,bY,aC,bz]
 simp only [af,Nat.reduceEqDiff,Nat.reduceAdd,reduceCtorEq,dQ,aI,bD,c5,c3,ew,lit,aU,Tryz.results137,ac]
 exact aF ⟨ab,by rw [bs];exact cc,(J.push _ _ _).trans' kk⟩
def flatK (k:Int):Bool:=decide (k=2∨k=3∨k=4∨k=5)
def gK (v:bC) (r:Rec):List Rec×Int :=
 if v.kind=1∨v.kind=10 then ([r],0)
 else if v.kind=2∨v.kind=3∨v.kind=4∨v.kind=5 then
  (if cY v.e=true then (match cE r.k r.v r.t 0 16 v.e with | some n=>(hN v.kind n r,0) | none=>([],10)) else ([],1))
 else ([],1)
def wP (p:List Rec×Int):V:=.tuple [.ai p.1.length (p.1.flatMap aI),.int .i64 p.2]
theorem an9 (p:List Rec×Int):bj (wP p):=bj.tuple (bo.cons (Cc _) (bo.cons (bj.int _ _) bo.nil))
theorem io (h:I) (n:Int):aM (.tuple [.an,.int .i64 n]) h (wP ([],n)) h:=aM.tuple (aB.cons (aM.kN h) (aB.refl _ _))
theorem UY (v:bC) (r:Rec) (h:I) (av:ga h):Pure Tryz.prog 84 [.agg (ar v),.agg (aI r)] h (wP (gK v r)):=by
 refine Pure.of (an9 _) ?_
 refine ae.ax (c:=_) Tryz.func84 rfl (by kernel_rfl) (by simp) ?_
 obtain ⟨kind,a8,e,n⟩:=v
 have au:(V.agg (ar ⟨kind,a8,e,n⟩)).cells=some (ar ⟨kind,a8,e,n⟩):=rfl
 simp only [af,Nat.reduceEqDiff,hl,bn,aI,au]
 obtain ⟨H,hH⟩:∃ x,x=(h.push (.cells (ar ⟨kind,a8,e,n⟩) 29 none)).push (.cells [.int .i64 r.k,.int .i64 r.v,.int .i64 r.t] 38 none):=⟨_,rfl⟩
 have g2:dB (H.get h.n) 0=some (ar ⟨kind,a8,e,n⟩):=by rw [hH,wv];rfl
 have tC:dB (H.get h.n) 2=some (ay e++[.int .i64 n]):=by rw [hH,wv];rfl
 have g3:H.get (h.n+1)=.cells [.int .i64 r.k,.int .i64 r.v,.int .i64 r.t] 38 none:=by rw [hH];exact d9
 have bA:J h H none_:=by rw [hH];exact (J.push _ _ _).bg _
 have jL:ga H:=av.al bA
 have jV:dv (some none) (some (ar ⟨kind,a8,e,n⟩))=some (.int .i64 kind):=rfl
 have oS:dv (some (some 3)) (some (ay e++[.int .i64 n]))=some (.agg (ay e)):=nN (ot e)
 rw [←hH]
 clear hH au
 obtain ⟨ab,cc,kk⟩:=LH H r
 have lit:=ER H r.k r.v r.t
 by_cases h1:kind=1
 ·have c:(kind==1)=true:=by simp [h1]
  have bs:gK ⟨kind,a8,e,n⟩ r=([r],0):=by simp [gK,h1]
  simp only [af,Nat.reduceEqDiff,Nat.reduceAdd,dQ,g3,jV,c,lit,aU,Tryz.results84,dn]
  exact aF ⟨ab,by rw [bs];exact aM.tuple (aB.cons cc (aB.refl _ _)),bA.trans' kk⟩
 have bh:(kind==1)=false:=by simp [h1]
 by_cases rv:kind=10
 ·have c:(kind==10)=true:=by simp [rv]
  have bs:gK ⟨kind,a8,e,n⟩ r=([r],0):=by simp [gK,rv]
  simp only [af,Nat.reduceEqDiff,Nat.reduceAdd,dQ,g3,jV,bh,c,lit,aU,Tryz.results84,dn]
  exact aF ⟨ab,by rw [bs];exact aM.tuple (aB.cons cc (aB.refl _ _)),bA.trans' kk⟩
 have gF:(kind==10)=false:=by simp [rv]
 by_cases hk:kind=2∨kind=3∨kind=4∨kind=5
 rotate_left
 ·have bD:(kind==2)=false:=by simp;intro q;exact hk (.inl q)
  have c3:(kind==3)=false:=by simp;intro q;exact hk (.inr (.inl q))
  have ew:(kind==4)=false:=by simp;intro q;exact hk (.inr (.inr (.inl q)))
  have c5:(kind==5)=false:=by simp;intro q;exact hk (.inr (.inr (.inr q)))
  have bs:gK ⟨kind,a8,e,n⟩ r=([],1):=by simp [gK,h1,rv];intro q;exact absurd q hk
  simp only [af,Nat.reduceEqDiff,jV,bh,gF,bD,c3,ew,c5,aU,Tryz.results84,dn]
  exact aF ⟨_,by rw [bs];exact io _ _,bA⟩
 have bs:gK ⟨kind,a8,e,n⟩ r=(if cY e=true then (match cE r.k r.v r.t 0 16 e with | some n=>(hN kind n r,(0:Int)) | none=>([],10)) else ([],1)):=by
  have:¬(kind=1∨kind=10):=fun q=>by rcases q with q | q;exact h1 q;exact rv q
  simp only [gK]
  rw [if_neg this,if_pos hk]
 have bF:=aag e r.k r.v r.t 0 H jL
 have cs:((kind==2)=true)∨((kind==2)=false∧(kind==3)=true)∨((kind==2)=false∧(kind==3)=false∧(kind==4)=true)∨((kind==2)=false∧(kind==3)=false∧(kind==4)=false∧(kind==5)=true):=by
  rcases hk with q | q | q | q<;>subst q<;>decide
 unfold Ed at bF
 cases hm:cY e with
 | false=>
  rw [hm] at bF bs
  simp only [Bool.false_eq_true,if_false] at bF bs
  rcases cs with d2 | ⟨d2,d3⟩ | ⟨d2,d3,d4⟩ | ⟨d2,d3,d4,d5⟩
  ·simp only [af,Nat.reduceEqDiff,Nat.reduceAdd,co,fh,dQ,g3,tC,jV,oS,bh,gF,d2]
   refine bU vI bF ?_
   simp only [af,Int.reduceBNe,Nat.reduceEqDiff,aU,Tryz.results84,dn]
   exact aF ⟨_,by rw [bs];exact io _ _,bA⟩
  ·simp only [af,Nat.reduceEqDiff,Nat.reduceAdd,co,fh,dQ,g3,tC,jV,oS,bh,gF,d2,d3]
   refine bU vI bF ?_
   simp only [af,Int.reduceBNe,Nat.reduceEqDiff,aU,Tryz.results84,dn]
   exact aF ⟨_,by rw [bs];exact io _ _,bA⟩
  ·simp only [af,Nat.reduceEqDiff,Nat.reduceAdd,co,fh,dQ,g3,tC,jV,oS,bh,gF,d2,d3,d4]
   refine bU vI bF ?_
   simp only [af,Int.reduceBNe,Nat.reduceEqDiff,aU,Tryz.results84,dn]
   exact aF ⟨_,by rw [bs];exact io _ _,bA⟩
  ·simp only [af,Nat.reduceEqDiff,Nat.reduceAdd,co,fh,dQ,g3,tC,jV,oS,bh,gF,d2,d3,d4,d5]
   refine bU vI bF ?_
   simp only [af,Int.reduceBNe,Nat.reduceEqDiff,aU,Tryz.results84,dn]
   exact aF ⟨_,by rw [bs];exact io _ _,bA⟩
 | true=>
  rw [hm] at bF bs
  simp only [if_true] at bF bs
  cases aD:cE r.k r.v r.t 0 16 e with
  | none=>
   rw [aD] at bF bs
   rcases cs with d2 | ⟨d2,d3⟩ | ⟨d2,d3,d4⟩ | ⟨d2,d3,d4,d5⟩
   ·simp only [af,Nat.reduceEqDiff,Nat.reduceAdd,co,fh,dQ,g3,tC,jV,oS,bh,gF,d2]
    refine bU vI bF ?_
    simp only [af,Int.reduceBNe,Nat.reduceEqDiff,n0,aU,Tryz.results84,dn]
    exact aF ⟨_,by rw [bs];exact io _ _,bA⟩
   ·simp only [af,Nat.reduceEqDiff,Nat.reduceAdd,co,fh,dQ,g3,tC,jV,oS,bh,gF,d2,d3]
    refine bU vI bF ?_
    simp only [af,Int.reduceBNe,Nat.reduceEqDiff,n0,aU,Tryz.results84,dn]
    exact aF ⟨_,by rw [bs];exact io _ _,bA⟩
   ·simp only [af,Nat.reduceEqDiff,Nat.reduceAdd,co,fh,dQ,g3,tC,jV,oS,bh,gF,d2,d3,d4]
    refine bU vI bF ?_
    simp only [af,Int.reduceBNe,Nat.reduceEqDiff,n0,aU,Tryz.results84,dn]
    exact aF ⟨_,by rw [bs];exact io _ _,bA⟩
   ·simp only [af,Nat.reduceEqDiff,Nat.reduceAdd,co,fh,dQ,g3,tC,jV,oS,bh,gF,d2,d3,d4,d5]
    refine bU vI bF ?_
    simp only [af,Int.reduceBNe,Nat.reduceEqDiff,n0,aU,Tryz.results84,dn]
    exact aF ⟨_,by rw [bs];exact io _ _,bA⟩
  | some m=>
   rw [aD] at bF bs
   have eR:=an8 kind m r H
   rcases cs with d2 | ⟨d2,d3⟩ | ⟨d2,d3,d4⟩ | ⟨d2,d3,d4,d5⟩
   ·simp only [af,Nat.reduceEqDiff,Nat.reduceAdd,co,fh,dQ,g3,tC,jV,oS,bh,gF,d2]
    refine bU vI bF ?_
    simp only [af,Nat.reduceEqDiff,Nat.reduceAdd,hl,bn,dQ,n0,g2,g3,jV]
    refine bU KQ eR ?_
    simp only [af,Nat.reduceEqDiff,aU,Tryz.results84,dn]
    exact aF ⟨_,by rw [bs];exact aM.refl _ _,bA⟩
   ·simp only [af,Nat.reduceEqDiff,Nat.reduceAdd,co,fh,dQ,g3,tC,jV,oS,bh,gF,d2,d3]
    refine bU vI bF ?_
    simp only [af,Nat.reduceEqDiff,Nat.reduceAdd,hl,bn,dQ,n0,g2,g3,jV]
    refine bU KQ eR ?_
    simp only [af,Nat.reduceEqDiff,aU,Tryz.results84,dn]
    exact aF ⟨_,by rw [bs];exact aM.refl _ _,bA⟩
   ·simp only [af,Nat.reduceEqDiff,Nat.reduceAdd,co,fh,dQ,g3,tC,jV,oS,bh,gF,d2,d3,d4]
    refine bU vI bF ?_
    simp only [af,Nat.reduceEqDiff,Nat.reduceAdd,hl,bn,dQ,n0,g2,g3,jV]
    refine bU KQ eR ?_
    simp only [af,Nat.reduceEqDiff,aU,Tryz.results84,dn]
    exact aF ⟨_,by rw [bs];exact aM.refl _ _,bA⟩
   ·simp only [af,Nat.reduceEqDiff,Nat.reduceAdd,co,fh,dQ,g3,tC,jV,oS,bh,gF,d2,d3,d4,d5]
    refine bU vI bF ?_
    simp only [af,Nat.reduceEqDiff,Nat.reduceAdd,hl,bn,dQ,n0,g2,g3,jV]
    refine bU KQ eR ?_
    simp only [af,Nat.reduceEqDiff,aU,Tryz.results84,dn]
    exact aF ⟨_,by rw [bs];exact aM.refl _ _,bA⟩
structure bp where
 l:List bC
 p:Int
 part:Int
def bp.P (c:bp):List Int:=iS c.p c.l
def bp.ins (c:bp):List Int:=Br c.p c.l c.part
def bp.dx (c:bp) (u:Nat):Option dR:=if c.P[u]?=some c.part then (match c.l[u]? with | some x=>oP x.kind x.n | none=>none) else none
def bp.us (c:bp) (v:Int):List Nat:=((gu v 0 c.l).map Int.toNat).filter fun u=>c.P.getD u 0==c.part
structure dP where
 ms:Seen
 st:Nat→List aj
structure fE where
 outs:List (Int×Rec)
 verts:List Int
 chgs:List aj
 deads:List (Int×Rec×Int)
 n:Nat
def fE.none:fE:=⟨[],[],[],[],0⟩
abbrev b3:=dP×fE
def pa (u:Int) (r:Rec) (e:Int) (x:b3):b3:=(x.1,{ x.2 with deads:=x.2.deads++[(u,r,e)] })
def pb (u:Int) (r:Rec) (x:b3):b3:=(x.1,{ x.2 with outs:=x.2.outs++[(u,r)] })
def kc (u:Int) (cs:List aj) (x:b3):b3:=(x.1,{ x.2 with verts:=x.2.verts++List.replicate cs.length u,chgs:=x.2.chgs++cs })
def jh (u:Nat) (l:List aj) (x:b3):b3:=({ x.1 with st:=fun v=>if v=u then l else x.1.st v },x.2)
def c6 (x:b3):b3:=(x.1,{ x.2 with n:=x.2.n+1 })
def o4 (v:bC) (u:Int) (th:Rec→b3→b3) (r:Rec) (x:b3):b3 :=
 if (gK v r).2≠0 then pa u r (gK v r).2 x else (gK v r).1.foldl (fun x y=>th y x) x
def uX (K:dR) (v:bC) (u:Nat) (snd:Rec→b3→b3) (r:Rec) (x:b3):b3 :=
 if Ly K r (leastOf x.1.ms) then pa u r 13 x else
 match kZ K v.e (x.1.st u) r with
 | .error e=>pa u r e x
 | .ok N=>snd ⟨r.k,N,zH K (x.1.st u) r.k r.t⟩ (kc u (qJ K (x.1.st u) r.k r.t N) (jh u (p6 K (x.1.st u) r.k r.t N) x))
def bp.table (c:bp) (v:bC) (key:Int) (m:dP):Int :=
 match c.dx (v.a8.getD 1 0).toNat with
 | some K=>zI K (m.st (v.a8.getD 1 0).toNat) key
 | none=>0
def yc (c:bp) (v:bC) (u:Int) (snd:Rec→b3→b3) (r:Rec) (x:b3):b3 :=
 if cY v.e=true then
  (match cE r.k r.v r.t (c.table v r.k x.1) 16 v.e with
  | some n=>snd ⟨r.k,n,r.t⟩ x
  | none=>pa u r 10 x)
 else pa u r 1 x
def r2 (c:bp) (snd:Int→Rec→b3→b3) (f:Int) (u:Nat) (r:Rec) (x:b3):b3 :=
 if x.2.n=1000 then pa u r 3 x else
 match c.l[u]? with
 | none=>c6 x
 | some v=>
  if v.kind=10∨v.kind=5 then o4 v u (pb u) r (c6 x)
  else if v.kind=2∨v.kind=3∨v.kind=4 then o4 v u (snd u) r (c6 x)
  else if v.kind=6∨v.kind=7∨v.kind=8 then
   (match c.dx u with
   | some K=>uX K v u (snd u) r (c6 x)
   | none=>c6 x)
  else if v.kind=9 then (if f=v.a8.getD 0 0 then yc c v u (snd u) r (c6 x) else c6 x)
  else c6 x
def nU (c:bp):Nat→Int→Rec→b3→b3
 | 0,_,_,x=>x
 | k+1,v,r,x=>(c.us v).foldl (fun x u=>r2 c (nU c k) v u r x) x
def cU (c:bp) (u:Nat) (x:b3):b3 :=
 match c.dx u with
 | some K=>kc u (gA K (leastOf x.1.ms) (x.1.st u)) (jh u (gM K (leastOf x.1.ms) (x.1.st u)) x)
 | none=>x
def qf (c:bp) (t:Int):aj:=⟨c.part,0,0,t,false⟩
def stepT (c:bp) (m:dP) (v:Int) (r:Rec):b3×Int :=
 if c.ins.contains v=false then ((m,fE.none),6) else
 if (dN m.ms v r.t).2≠0 then (pa v r (dN m.ms v r.t).2 (m,fE.none),0) else
 let gn:b3:=({ m with ms:=fb c.ins.length m.ms v r.t },fE.none)
 let ck:=if (dN m.ms v r.t).1 then kc v [qf c r.t] gn else gn
 ((List.range c.l.length).foldl (fun x u=>cU c u x) (nU c 24 v r ck),0)
def dP.new (c:bp):dP:=⟨kP 0 c.ins,fun _=>[]⟩
abbrev dK:=Nat→Nat×Nat
def cx (a6:dK) (id:Nat):Nat→Prop:=fun q=>(a6 q).1=id∧5≤(a6 q).2
def Fr (h:I) (a6:dK):Prop:=∀ q,h.n≤q→a6 q=(0,0)
structure fJ (id:Nat) (h:I) (a6:dK) (h':I) (ow':dK):Prop where
 ea:∀ q,q<h.n→ow' q=a6 q
 al:J h h' (cx a6 id)
 aJ:Fr h' ow'
 tY:True
theorem fJ.refl {id:Nat} {h:I} {a6:dK} (f:Fr h a6):fJ id h a6 h a6:=⟨fun _ _=>rfl,J.refl _ _,f,trivial⟩
theorem fJ.trans {id:Nat} {h h1 aa:I} {a6 gI lF:dK} (a:fJ id h a6 h1 gI) (b:fJ id h1 gI aa lF):fJ id h a6 aa lF :=
 ⟨fun q ad=>(b.ea q (Nat.lt_of_lt_of_le ad a.al.n)).trans (a.ea q ad),a.al.trans b.al fun q ad hm=>by unfold cx at *;rw [←a.ea q ad];exact hm,b.aJ,trivial⟩
theorem fJ.push {id:Nat} {h:I} {a6:dK} (f:Fr h a6) {h':I} (k:J h h' none_):fJ id h a6 h' a6:=⟨fun _ _=>rfl,k.up,fun q ad=>f q (Nat.le_trans k.n ad),trivial⟩
def eF (a6:dK) (a b:Nat) (t:Nat×Nat):dK:=fun q=>if a≤q∧q<b then t else a6 q
theorem Dl {a6:dK} {a b:Nat} {t:Nat×Nat} {q:Nat} (h:q<a):eF a6 a b t q=a6 q:=by unfold eF;rw [if_neg (by omega)]
theorem Se {a6:dK} {a b:Nat} {t:Nat×Nat} {q:Nat} (h1:a≤q) (aa:q<b):eF a6 a b t q=t:=by unfold eF;rw [if_pos ⟨h1,aa⟩]
theorem fJ.eF {id:Nat} {h h':I} {a6:dK} {M:Nat→Prop} (f:Fr h a6) (k:J h h' M) (j8:∀ q,q<h.n→M q→cx a6 id q) (t:Nat×Nat):fJ id h a6 h' (Pk.eF a6 h.n h'.n t) :=
 ⟨fun q ad=>Dl ad,⟨k.n,fun q ad hm=>k.get q ad fun ab=>hm (j8 q ad ab),k.glob⟩,fun q ad=>by
  have:=k.n
  unfold Pk.eF;rw [if_neg (by omega)];exact f q (by omega),trivial⟩
def qL (a6:dK) (t:Nat×Nat) (O:List Nat):Prop:=∀ q ∈ O,a6 q=t
theorem qL.new {h h':I} {a6:dK} {t:Nat×Nat} {O ep:List Nat} (o:qL a6 t O) (az:∀ q ∈ O,q<h.n) (nl:dA h O ep) (fO:∀ q ∈ ep,q<h'.n):qL (eF a6 h.n h'.n t) t ep:=fun q ad=>by
 rcases nl q ad with ab | ab
 ·rw [Dl (az q ab)];exact o q ab
 ·exact Se ab (fO q ad)
theorem qL.ea {h:I} {a6 ow':dK} {t:Nat×Nat} {O:List Nat} (o:qL a6 t O) (az:∀ q ∈ O,q<h.n) (he:∀ q,q<h.n→ow' q=a6 q):qL ow' t O:=fun q ad=>(he q (az q ad)).trans (o q ad)
def uY (a:Nat):V:=.ptr a 0
structure At where
 kz:Nat
 rT:Nat
 mp:Nat
 es:List (Nat×Int×Nat)
 cl:Nat
def bp.cells (c:bp) (b:At):List V:=dO c.l c.p++[.ai c.P.length (aY c.P),.int .i64 c.part,.ptr b.kz 0,.map b.mp]
structure hc (h:I) (a6:dK) (id m:Nat) (b:At) (c:bp) (s:dP):Prop where
 lt:m<h.n
 get:h.get m=.cells (c.cells b) 146 none
 own:a6 m=(id,1)
 marks:s0 h (.ptr b.kz 0) s.ms b.kz b.rT c.ins.length
 gB:a6 b.kz=(id,2)∧a6 b.rT=(id,3)
 kA:b.mp<h.n
 map:h.get b.mp=.map (mapOf .i64 uY b.es) b.cl
 lI:a6 b.mp=(id,4)
 some:∀ u K,c.dx u=some K→∃ a O x,dr b.es (u:Int)=Option.some a∧c.l[u]?=Option.some x∧gH h a O K x.e x.n (s.st u)∧qL a6 (id,10+u) O∧cY x.e=true
 none:∀ u,c.dx u=Option.none→dr b.es (u:Int)=Option.none
section
variable {h h':I} {a6 ow':dK} {id i2 m:Nat} {b:At} {c:bp} {s:dP}
theorem hc.al {M:Nat→Prop} (k:hc h a6 id m b c s) (hk:J h h' M) (hm:∀ q,q<h.n→M q→(a6 q).1≠id) (he:∀ q,q<h.n→ow' q=a6 q):hc h' ow' id m b c s:=by
 obtain ⟨aw,hR,mP,ns,g1,g2,st⟩:=k.marks
 have mQ:∀ q,q<h.n→(a6 q).1=id→h'.get q=h.get q:=fun q ad aR=>hk.get q ad fun ab=>hm q ad ab aR
 refine ⟨Nat.lt_of_lt_of_le k.lt hk.n,(mQ _ k.lt (by rw [k.own])).trans k.get,(he _ k.lt).trans k.own,⟨aw,Nat.lt_of_lt_of_le hR hk.n,Nat.lt_of_lt_of_le mP hk.n,ns,(mQ _ hR (by rw [k.gB.1])).trans g1,(mQ _ mP (by rw [k.gB.2])).trans g2,st⟩,
  ⟨(he _ hR).trans k.gB.1,(he _ mP).trans k.gB.2⟩,Nat.lt_of_lt_of_le k.kA hk.n,(mQ _ k.kA (by rw [k.lI])).trans k.map,(he _ k.kA).trans k.lI,fun u K hu=>?_,k.none⟩
 obtain ⟨a,O,x,h1,aa,aC,bz,bY⟩:=k.some u K hu
 exact ⟨a,O,x,h1,aa,aC.al hk fun q ad ab=>hm q (aC.lt q ad) ab (by rw [bz q ad]),bz.ea aC.lt he,bY⟩
theorem hc.ba (k:hc h a6 id m b c s) (hk:J h h' none_):hc h' a6 id m b c s:=k.al hk (fun _ _ ab=>by simp [none_] at ab) fun _ _=>rfl
theorem hc.part {M:Nat→Prop} (k:hc h a6 id m b c s) (hk:J h h' M) (j8:∀ q,q<h.n→M q→∃ t,a6 q=(id,t)∧5≤t∧t≤9) (he:∀ q,q<h.n→ow' q=a6 q):hc h' ow' id m b c s:=by
 obtain ⟨aw,hR,mP,ns,g1,g2,st⟩:=k.marks
 have mQ:∀ q t,q<h.n→a6 q=(id,t)→(t<5∨9<t)→h'.get q=h.get q:=fun q t ad aR bq=>hk.get q ad fun ab=>by
  obtain ⟨t2,h1,aa⟩:=j8 q ad ab
  rw [aR] at h1;simp at h1;omega
 refine ⟨Nat.lt_of_lt_of_le k.lt hk.n,(mQ _ _ k.lt k.own (by omega)).trans k.get,(he _ k.lt).trans k.own,⟨aw,Nat.lt_of_lt_of_le hR hk.n,Nat.lt_of_lt_of_le mP hk.n,ns,(mQ _ _ hR k.gB.1 (by omega)).trans g1,(mQ _ _ mP k.gB.2 (by omega)).trans g2,st⟩,
  ⟨(he _ hR).trans k.gB.1,(he _ mP).trans k.gB.2⟩,Nat.lt_of_lt_of_le k.kA hk.n,(mQ _ _ k.kA k.lI (by omega)).trans k.map,(he _ k.kA).trans k.lI,fun u K hu=>?_,k.none⟩
 obtain ⟨a,O,x,h1,aa,aC,bz,bY⟩:=k.some u K hu
 exact ⟨a,O,x,h1,aa,aC.al hk fun q ad ab=>by
  obtain ⟨t2,aw,aW⟩:=j8 q (aC.lt q ad) ab
  rw [bz q ad] at aw;simp at aw;omega,bz.ea aC.lt he,bY⟩
end
def ik (v:V):List Nat:=(aV v).toList
theorem eA {v:V} {q:Nat}:q ∈ ik v↔aV v=some q:=by
 unfold ik;cases h:aV v<;>simp [eq_comm]
theorem LI {h:I} {v v':V} (d:bV h v v'):dA h (ik v) (ik v'):=fun q ad=>by
 rcases d with d | d
 ·exact .inl (eA.2 (by rw [←d];exact eA.1 ad))
 ·exact .inr (d q (eA.1 ad))
def ee (o:Int×Rec):List V:=.int .i64 o.1::aI o.2
def py (o:Int×Rec×Int):List V:=.int .i64 o.1::(aI o.2.1++[.int .i64 o.2.2])
theorem Cj (o:Int×Rec):(ee o).length=4:=rfl
theorem P1 (o:Int×Rec×Int):(py o).length=5:=rfl
theorem aoa (o:Int×Rec):(ee o).all (·.one)=true:=rfl
theorem aob (o:Int×Rec×Int):(py o).all (·.one)=true:=rfl
structure iW (h:I) (a6:dK) (id s m:Nat) (x:fE) (cL cp cH cM:V):Prop where
 lt:s<h.n
 get:h.get s=.cells [.ptr m 0,cL,cp,cH,cM,.int .i64 (x.n:Nat)] 149 none
 own:a6 s=(id,5)
 o:Own h 79 4 cL (x.outs.flatMap ee)
 v:Own h 3 1 cp (aY x.verts)
 c:Own h 40 5 cH (x.chgs.flatMap aL)
 d:Own h 81 5 cM (x.deads.flatMap py)
 lz:qL a6 (id,6) (ik cL)
 cp:qL a6 (id,7) (ik cp)
 cc:qL a6 (id,8) (ik cH)
 mf:qL a6 (id,9) (ik cM)
section
variable {h h':I} {a6 ow':dK} {id s m:Nat} {x:fE} {cL cp cH cM:V}
theorem iW.al {M:Nat→Prop} (k:iW h a6 id s m x cL cp cH cM) (hk:J h h' M) (hm:∀ q,q<h.n→M q→∀ t,5≤t→t≤9→a6 q≠(id,t)) (he:∀ q,q<h.n→ow' q=a6 q):iW h' ow' id s m x cL cp cH cM:=by
 have k4:∀ {e sz cs v},Own h e sz v cs→∀ q ∈ ik v,q<h.n:=fun o q ad=>o.lt q (eA.1 ad)
 exact ⟨Nat.lt_of_lt_of_le k.lt hk.n,(hk.get _ k.lt fun ab=>hm _ k.lt ab 5 (by omega) (by omega) k.own).trans k.get,(he _ k.lt).trans k.own,
  k.o.al hk fun q ad ab=>hm q (k.o.lt q ad) ab 6 (by omega) (by omega) (k.lz q (eA.2 ad)),
  k.v.al hk fun q ad ab=>hm q (k.v.lt q ad) ab 7 (by omega) (by omega) (k.cp q (eA.2 ad)),
  k.c.al hk fun q ad ab=>hm q (k.c.lt q ad) ab 8 (by omega) (by omega) (k.cc q (eA.2 ad)),
  k.d.al hk fun q ad ab=>hm q (k.d.lt q ad) ab 9 (by omega) (by omega) (k.mf q (eA.2 ad)),
  k.lz.ea (k4 k.o) he,k.cp.ea (k4 k.v) he,k.cc.ea (k4 k.c) he,k.mf.ea (k4 k.d) he⟩
theorem iW.ba (k:iW h a6 id s m x cL cp cH cM) (hk:J h h' none_):iW h' a6 id s m x cL cp cH cM:=k.al hk (fun _ _ ab=>by simp [none_] at ab) fun _ _=>rfl
end
theorem iW.Sf {h h':I} {a6 ow':dK} {id s m:Nat} {x:fE} {cL cp cH cM lJ:V} {l:List (Int×Rec×Int)} (k:iW h a6 id s m x cL cp cH cM) (hk:J h h' (fun q=>q=s∨bl cM q)) (he:∀ q,q<h.n→ow' q=a6 q)
  (g:h'.get s=.cells [.ptr m 0,cL,cp,cH,lJ,.int .i64 (x.n:Nat)] 149 none) (mf:qL ow' (id,9) (ik lJ)) (d:Own h' 81 5 lJ (l.flatMap py)):iW h' ow' id s m { x with deads:=l } cL cp cH lJ:=by
 have k4:∀ {e sz cs v},Own h e sz v cs→∀ q ∈ ik v,q<h.n:=fun o q ad=>o.lt q (eA.1 ad)
 have ap:∀ {q t},a6 q=(id,t)→t≠5→t≠9→¬(q=s∨bl cM q):=fun {q t} aR bY gd ab=>by
  rcases ab with rfl | ab
  ·rw [k.own] at aR;simp at aR;omega
  ·rw [k.mf q (eA.2 ab)] at aR;simp at aR;omega
 exact ⟨Nat.lt_of_lt_of_le k.lt hk.n,g,(he _ k.lt).trans k.own,
  k.o.al hk fun q ad=>ap (k.lz q (eA.2 ad)) (by decide) (by decide),k.v.al hk fun q ad=>ap (k.cp q (eA.2 ad)) (by decide) (by decide),k.c.al hk fun q ad=>ap (k.cc q (eA.2 ad)) (by decide) (by decide),d,
  k.lz.ea (k4 k.o) he,k.cp.ea (k4 k.v) he,k.cc.ea (k4 k.c) he,mf⟩
structure gg (h:I) (a6:dK) (id s m:Nat) (b:At) (c:bp) (x:b3):Prop where
 ev:hc h a6 id m b c x.1
 od:∃ cL cp cH cM,iW h a6 id s m x.2 cL cp cH cM
 aJ:Fr h a6
 tY:ga h
 l7:id≠0
section
variable {h h':I} {a6 ow':dK} {id s m:Nat} {b:At} {c:bp} {x:b3}
theorem gg.ba (k:gg h a6 id s m b c x) (hk:J h h' none_):gg h' a6 id s m b c x:=by
 obtain ⟨cL,cp,cH,cM,U⟩:=k.od
 exact ⟨k.ev.ba hk,⟨cL,cp,cH,cM,U.ba hk⟩,fun q ad=>k.aJ q (Nat.le_trans hk.n ad),k.tY.al hk,k.l7⟩
end
def kd (id s m:Nat) (b:At) (c:bp) (h:I) (a6:dK) (y:b3):V→I→Prop:=fun r h'=>r=.tuple []∧∃ ow',fJ id h a6 h' ow'∧gg h' ow' id s m b c y
theorem Sg (h:I) (o:Int×Rec×Int):kI Tryz.prog 65 1 [(0,.agg (py o))] h=some (.bc h.n 0 1 1,h.push (.cells (py o) 81 none)):=by rw [qA WB];rfl
theorem Sh (h:I) (o:Int×Rec):kI Tryz.prog 64 1 [(0,.agg (ee o))] h=some (.bc h.n 0 1 1,h.push (.cells (ee o) 79 none)):=by rw [qA WA];rfl
theorem LJ {P:Program} {t:TypeId} {T:ln} (cN:hr P t=some T) (dy:0<T.sz) {α:Type} {enc:α→List V} (hlen:∀ a,(enc a).length=T.sz) (b5:∀ a,(enc a).all (·.one)=true) (hk:eH P t=some 1) (U:T.sz * 8=T.ao) (lx:T.sz≤8)
  {h:I} {s:V} {cs:List α} (o:Own h T.e T.sz s (cs.flatMap enc)) (az:cs.length≤2 ^ 40) (c:α) :
  ∃ cK h',ma P t t s (.bc h.n 0 1 1) (h.push (.cells (enc c) T.e none))=some (cK,h')∧Own h' T.e T.sz cK ((cs++[c]).flatMap enc)∧J (h.push (.cells (enc c) T.e none)) h' (bl s)∧bV (h.push (.cells (enc c) T.e none)) s cK:=by
 have k:J h (h.push (.cells (enc c) T.e none)) none_:=J.push _ _ _
 have G7:Own (h.push (.cells (enc c) T.e none)) T.e T.sz (.bc h.n 0 1 1) (enc c):=Own.lq _ 1 (by rw [hlen];omega) (by decide)
 have dT:=zo (P:=P) (t:=t) hk G7 (n:=1) (by rw [hlen];omega) dy (b5 c)
 obtain ⟨cK,h',fB,mS,rA,iU⟩:=xP (P:=P) (t:=t) (tx:=t) cN dy (o.ba k) dT (by rw [hlen];omega) (fun m hm=>by
  rw [j7 hlen,hlen] at hm
  have:m=cs.length+1:=Nat.eq_of_mul_eq_mul_right dy (by rw [hm,Nat.add_mul];omega)
  subst this
  have:T.ao≤64:=by omega
  have aa:(cs.length+1) * T.ao≤(2 ^ 40+1) * 64:=Nat.mul_le_mul (by omega) this
  exact ⟨by simp only [lim];omega,by simp only [lim];omega⟩)
 refine ⟨cK,h',fB,?_,rA,iU⟩
 rw [List.flatMap_append]
 simpa using mS
theorem Dm {h:I} {a6:dK} {id s m:Nat} {b:At} {c:bp} {x:b3} (k:gg h a6 id s m b c x) (u:Int) (r:Rec) (e:Int) (az:x.2.deads.length≤2 ^ 30) :
  ae Tryz.prog 73 [.ptr s 0,.int .i64 u,.agg (aI r),.int .i64 e] h (kd id s m b c h a6 (pa u r e x)):=by
 refine ae.ax (c:=_) Tryz.func73 rfl (by kernel_rfl) (by simp) ?_
 obtain ⟨cL,cp,cH,cM,U⟩:=k.od
 obtain ⟨H,hH⟩:∃ y,y=h.push (.cells (aI r) 38 none):=⟨_,rfl⟩
 have bA:J h H none_:=by rw [hH];exact J.push _ _ _
 have nd:H.get h.n=.cells (aI r) 38 none:=by rw [hH];exact cA
 have j9:H.n=h.n+1:=by rw [hH];rfl
 have kB:=U.ba bA
 have gs:=kB.get
 have ld:dv (some (some 3)) (some (aI r))=some (.agg (aI r)):=rfl
 have d0:dB (.cells (aI r) 38 none) 0=some (aI r):=rfl
 have cc:(V.agg (aI r)).cells=some (aI r):=rfl
 simp only [af]
 rw [←hH]
 clear hH
 have Si:(if (aI r).length=3 then if 5≤(qU [V.int IntKind.i64 u,V.int IntKind.i64 0,V.int IntKind.i64 0,V.int IntKind.i64 0,V.int IntKind.i64 0] 1 (aI r)).length then some ((qU [V.int IntKind.i64 u,V.int IntKind.i64 0,V.int IntKind.i64 0,V.int IntKind.i64 0,V.int IntKind.i64 0] 1 (aI r)).set 4 (V.int IntKind.i64 e)) else none else none)=some (py (u,r,e)):=rfl
 obtain ⟨lJ,aa,q,ei,k2,ft⟩:=LJ (P:=Tryz.prog) (t:=65) WB (by decide) P1 aob Hd (by decide) (by decide) kB.d (cs:=x.2.deads) (Nat.le_trans az (by decide)) (u,r,e)
 have jA:J H (H.push (.cells (py (u,r,e)) 81 none)) none_:=J.push _ _ _
 have qp:=(k2.get s (Nat.lt_of_lt_of_le kB.lt jA.n) (fun ab=>by have:=U.mf s (eA.2 ab);rw [U.own] at this;simp at this)).trans ((jA.get s kB.lt (by simp [none_])).trans gs)
 have f1:bl cM s=False:=eq_false fun ab=>by have:=U.mf s (eA.2 ab);rw [U.own] at this;simp at this
 have f2:bl cM h.n=False:=eq_false fun ab=>by have:=U.d.lt _ ab;omega
 have mu:J H aa (fun x=>bl cM x):=jA.up.trans' k2
 have iD:lJ.one=true:=by
  rcases ei with ⟨rfl | rfl,_⟩ | ⟨_,_,_,_,_,rfl,_⟩<;>rfl
 have gx:lJ.cells=some [lJ]:=by
  rcases ei with ⟨rfl | rfl,_⟩ | ⟨_,_,_,_,_,rfl,_⟩<;>rfl
 have db:bR (some 1) (bb.cells [.ptr m 0,cL,cp,cH,cM,.int .i64 (x.2.n:Nat)] 149 none) 4 [lJ]=some (.cells [.ptr m 0,cL,cp,cH,lJ,.int .i64 (x.2.n:Nat)] 149 none):=by rw [tf iD];rfl
 refine aX.bk (fun x=>bl cM x) [10,11,15] (.q 0 (.q 1 (.q 2 (.q 3 (.q 4 (.q 5 (.q 6 (.q 7 (.q 8 (.q 9 (.e 10 (.e 11 (.q 12 (.q 13 (.q 14 (.a 15 .done)))) .stop) .stop))))))))))) (by kernel_rfl) (by kernel_rfl) (by kernel_rfl) ?_
 simp only [af,bN,h3,Nat.reduceEqDiff,Nat.reduceAdd,Nat.reduceLeDiff,reduceCtorEq,AQ,Hc,dQ,He,Nm,akf,akk,gs,nd,ld,d0,cc,Si,Sg,q,qp,f1,f2,mu,gx,db,om,Tryz.results73,ll]
 have qM:J h (aa.set s (.cells [.ptr m 0,cL,cp,cH,lJ,.int .i64 (x.2.n:Nat)] 149 none)) (fun q=>q=s∨bl cM q) :=
  (bA.up.trans' (mu.mono fun q ad=>.inr ad)).trans' ((J.set _ _ _).mono fun q ad=>.inl ad)
 have n3:(aa.set s (.cells [.ptr m 0,cL,cp,cH,lJ,.int .i64 (x.2.n:Nat)] 149 none)).n=aa.n:=rfl
 have g3:(aa.set s (.cells [.ptr m 0,cL,cp,cH,lJ,.int .i64 (x.2.n:Nat)] 149 none)).get s=.cells [.ptr m 0,cL,cp,cH,lJ,.int .i64 (x.2.n:Nat)] 149 none:=aP
 have h4:Own (aa.set s (.cells [.ptr m 0,cL,cp,cH,lJ,.int .i64 (x.2.n:Nat)] 149 none)) 81 5 lJ ((x.2.deads++[(u,r,e)]).flatMap py):=Own.al ei (J.set _ _ _) fun q ad ab=>by
  subst ab
  rcases ft with d | d
  ·rw [d] at ad;exact f1.mp ad
  ·have h1:(H.push (.cells (py (u,r,e)) 81 none)).n≤q:=d q ad
   have:=kB.lt;have:=jA.n;omega
 have Bs:dA h (ik cM) (ik lJ):=fun q ad=>by
  rcases LI ft q ad with ab | ab
  ·exact .inl ab
  ·exact .inr (by have:=jA.n;have:(H.push (.cells (py (u,r,e)) 81 none)).n≤q:=ab;omega)
 generalize aa.set s (.cells [.ptr m 0,cL,cp,cH,lJ,.int .i64 (x.2.n:Nat)] 149 none)=aC at qM n3 g3 h4⊢
 have j8:∀ q,q<h.n→(q=s∨bl cM q)→∃ t,a6 q=(id,t)∧5≤t∧t≤9:=fun q ad ab=>by
  rcases ab with rfl | ab
  ·exact ⟨5,U.own,by omega,by omega⟩
  ·exact ⟨9,U.mf q (eA.2 ab),by omega,by omega⟩
 have bu:=fJ.eF (id:=id) k.aJ qM (fun q ad ab=>by obtain ⟨t,h1,aa,_⟩:=j8 q ad ab;unfold cx;rw [h1];exact ⟨rfl,aa⟩) (id,9)
 exact aF ⟨rfl,_,bu,k.ev.part qM j8 bu.ea,⟨cL,cp,cH,lJ,U.Sf qM bu.ea g3 (U.mf.new (fun q ad=>U.d.lt q (eA.1 ad)) Bs fun q ad=>h4.lt q (eA.1 ad)) h4⟩,bu.aJ,k.tY.al qM,k.l7⟩
theorem iW.Sj {h h':I} {a6 ow':dK} {id s m:Nat} {x:fE} {cL cp cH cM lK:V} {l:List (Int×Rec)} (k:iW h a6 id s m x cL cp cH cM) (hk:J h h' (fun q=>q=s∨bl cL q)) (he:∀ q,q<h.n→ow' q=a6 q)
  (g:h'.get s=.cells [.ptr m 0,lK,cp,cH,cM,.int .i64 (x.n:Nat)] 149 none) (lz:qL ow' (id,6) (ik lK)) (o:Own h' 79 4 lK (l.flatMap ee)):iW h' ow' id s m { x with outs:=l } lK cp cH cM:=by
 have k4:∀ {e sz cs v},Own h e sz v cs→∀ q ∈ ik v,q<h.n:=fun o q ad=>o.lt q (eA.1 ad)
 have ap:∀ {q t},a6 q=(id,t)→t≠5→t≠6→¬(q=s∨bl cL q):=fun {q t} aR bY gd ab=>by
  rcases ab with rfl | ab
  ·rw [k.own] at aR;simp at aR;omega
  ·rw [k.lz q (eA.2 ab)] at aR;simp at aR;omega
 exact ⟨Nat.lt_of_lt_of_le k.lt hk.n,g,(he _ k.lt).trans k.own,
  o,k.v.al hk fun q ad=>ap (k.cp q (eA.2 ad)) (by decide) (by decide),k.c.al hk fun q ad=>ap (k.cc q (eA.2 ad)) (by decide) (by decide),k.d.al hk fun q ad=>ap (k.mf q (eA.2 ad)) (by decide) (by decide),
  lz,k.cp.ea (k4 k.v) he,k.cc.ea (k4 k.c) he,k.mf.ea (k4 k.d) he⟩
theorem I7 {h:I} {a6:dK} {id s m:Nat} {b:At} {c:bp} {x:b3} (k:gg h a6 id s m b c x) (u:Int) (r:Rec) (az:x.2.outs.length≤2 ^ 30) :
  ae Tryz.prog 186 [.ptr s 0,.int .i64 u,.agg (aI r)] h (kd id s m b c h a6 (pb u r x)):=by
 refine ae.ax (c:=_) Tryz.func186 rfl (by kernel_rfl) (by simp) ?_
 obtain ⟨cL,cp,cH,cM,U⟩:=k.od
 obtain ⟨H,hH⟩:∃ y,y=h.push (.cells (aI r) 38 none):=⟨_,rfl⟩
 have bA:J h H none_:=by rw [hH];exact J.push _ _ _
 have nd:H.get h.n=.cells (aI r) 38 none:=by rw [hH];exact cA
 have j9:H.n=h.n+1:=by rw [hH];rfl
 have kB:=U.ba bA
 have gs:=kB.get
 have ld:dv (some (some 3)) (some (aI r))=some (.agg (aI r)):=rfl
 have d0:dB (.cells (aI r) 38 none) 0=some (aI r):=rfl
 have cc:(V.agg (aI r)).cells=some (aI r):=rfl
 simp only [af]
 rw [←hH]
 clear hH
 have Si:(if (aI r).length=3 then some (qU [V.int IntKind.i64 u,V.int IntKind.i64 0,V.int IntKind.i64 0,V.int IntKind.i64 0] 1 (aI r)) else none)=some (ee (u,r)):=rfl
 obtain ⟨lK,aa,q,ei,k2,ft⟩:=LJ (P:=Tryz.prog) (t:=64) WA (by decide) Cj aoa zu (by decide) (by decide) kB.o (cs:=x.2.outs) (Nat.le_trans az (by decide)) (u,r)
 have jA:J H (H.push (.cells (ee (u,r)) 79 none)) none_:=J.push _ _ _
 have qp:=(k2.get s (Nat.lt_of_lt_of_le kB.lt jA.n) (fun ab=>by have:=U.lz s (eA.2 ab);rw [U.own] at this;simp at this)).trans ((jA.get s kB.lt (by simp [none_])).trans gs)
 have f1:bl cL s=False:=eq_false fun ab=>by have:=U.lz s (eA.2 ab);rw [U.own] at this;simp at this
 have f2:bl cL h.n=False:=eq_false fun ab=>by have:=U.o.lt _ ab;omega
 have mu:J H aa (fun x=>bl cL x):=jA.up.trans' k2
 have iD:lK.one=true:=by
  rcases ei with ⟨rfl | rfl,_⟩ | ⟨_,_,_,_,_,rfl,_⟩<;>rfl
 have gx:lK.cells=some [lK]:=by
  rcases ei with ⟨rfl | rfl,_⟩ | ⟨_,_,_,_,_,rfl,_⟩<;>rfl
 have db:bR (some 1) (bb.cells [.ptr m 0,cL,cp,cH,cM,.int .i64 (x.2.n:Nat)] 149 none) 1 [lK]=some (.cells [.ptr m 0,lK,cp,cH,cM,.int .i64 (x.2.n:Nat)] 149 none):=by rw [tf iD];rfl
 refine aX.bk (fun x=>bl cL x) [9,10,14] (.q 0 (.q 1 (.q 2 (.q 3 (.q 4 (.q 5 (.q 6 (.q 7 (.q 8 (.e 9 (.e 10 (.q 11 (.q 12 (.q 13 (.a 14 .done)))) .stop) .stop)))))))))) (by kernel_rfl) (by kernel_rfl) (by kernel_rfl) ?_
 simp only [af,bN,h3,Nat.reduceEqDiff,Nat.reduceAdd,Nat.reduceLeDiff,reduceCtorEq,AQ,Ch,dQ,Ci,aj0,ake,akj,gs,nd,ld,d0,cc,Si,Sh,q,qp,f1,f2,mu,gx,db,om,Tryz.results186,ll]
 have qM:J h (aa.set s (.cells [.ptr m 0,lK,cp,cH,cM,.int .i64 (x.2.n:Nat)] 149 none)) (fun q=>q=s∨bl cL q) :=
  (bA.up.trans' (mu.mono fun q ad=>.inr ad)).trans' ((J.set _ _ _).mono fun q ad=>.inl ad)
 have n3:(aa.set s (.cells [.ptr m 0,lK,cp,cH,cM,.int .i64 (x.2.n:Nat)] 149 none)).n=aa.n:=rfl
 have g3:(aa.set s (.cells [.ptr m 0,lK,cp,cH,cM,.int .i64 (x.2.n:Nat)] 149 none)).get s=.cells [.ptr m 0,lK,cp,cH,cM,.int .i64 (x.2.n:Nat)] 149 none:=aP
 have h4:Own (aa.set s (.cells [.ptr m 0,lK,cp,cH,cM,.int .i64 (x.2.n:Nat)] 149 none)) 79 4 lK ((x.2.outs++[(u,r)]).flatMap ee):=Own.al ei (J.set _ _ _) fun q ad ab=>by
  subst ab
  rcases ft with d | d
  ·rw [d] at ad;exact f1.mp ad
  ·have h1:(H.push (.cells (ee (u,r)) 79 none)).n≤q:=d q ad
   have:=kB.lt;have:=jA.n;omega
 have Bs:dA h (ik cL) (ik lK):=fun q ad=>by
  rcases LI ft q ad with ab | ab
  ·exact .inl ab
  ·exact .inr (by have:=jA.n;have:(H.push (.cells (ee (u,r)) 79 none)).n≤q:=ab;omega)
 generalize aa.set s (.cells [.ptr m 0,lK,cp,cH,cM,.int .i64 (x.2.n:Nat)] 149 none)=aC at qM n3 g3 h4⊢
 have j8:∀ q,q<h.n→(q=s∨bl cL q)→∃ t,a6 q=(id,t)∧5≤t∧t≤9:=fun q ad ab=>by
  rcases ab with rfl | ab
  ·exact ⟨5,U.own,by omega,by omega⟩
  ·exact ⟨6,U.lz q (eA.2 ab),by omega,by omega⟩
 have bu:=fJ.eF (id:=id) k.aJ qM (fun q ad ab=>by obtain ⟨t,h1,aa,_⟩:=j8 q ad ab;unfold cx;rw [h1];exact ⟨rfl,aa⟩) (id,6)
 exact aF ⟨rfl,_,bu,k.ev.part qM j8 bu.ea,⟨lK,cp,cH,cM,U.Sj qM bu.ea g3 (U.lz.new (fun q ad=>U.o.lt q (eA.1 ad)) Bs fun q ad=>h4.lt q (eA.1 ad)) h4⟩,bu.aJ,k.tY.al qM,k.l7⟩
theorem iW.Sk {h h':I} {a6 ow':dK} {id s m:Nat} {x:fE} {cL cp cH cM iX:V} {l:List Int} (k:iW h a6 id s m x cL cp cH cM) (hk:J h h' (fun q=>q=s∨bl cp q)) (he:∀ q,q<h.n→ow' q=a6 q)
  (g:h'.get s=.cells [.ptr m 0,cL,iX,cH,cM,.int .i64 (x.n:Nat)] 149 none) (I8:qL ow' (id,7) (ik iX)) (Dn:Own h' 3 1 iX (aY l)):iW h' ow' id s m { x with verts:=l } cL iX cH cM:=by
 have k4:∀ {e sz cs v},Own h e sz v cs→∀ q ∈ ik v,q<h.n:=fun o q ad=>o.lt q (eA.1 ad)
 have ap:∀ {q t},a6 q=(id,t)→t≠5→t≠7→¬(q=s∨bl cp q):=fun {q t} aR bY gd ab=>by
  rcases ab with rfl | ab
  ·rw [k.own] at aR;simp at aR;omega
  ·rw [k.cp q (eA.2 ab)] at aR;simp at aR;omega
 exact ⟨Nat.lt_of_lt_of_le k.lt hk.n,g,(he _ k.lt).trans k.own,
  k.o.al hk fun q ad=>ap (k.lz q (eA.2 ad)) (by decide) (by decide),Dn,k.c.al hk fun q ad=>ap (k.cc q (eA.2 ad)) (by decide) (by decide),k.d.al hk fun q ad=>ap (k.mf q (eA.2 ad)) (by decide) (by decide),k.lz.ea (k4 k.o) he,I8,k.cc.ea (k4 k.c) he,k.mf.ea (k4 k.d) he⟩
theorem iW.Sl {h h':I} {a6 ow':dK} {id s m:Nat} {x:fE} {cL cp cH cM oT:V} {l:List aj} (k:iW h a6 id s m x cL cp cH cM) (hk:J h h' (fun q=>q=s∨bl cH q)) (he:∀ q,q<h.n→ow' q=a6 q)
  (g:h'.get s=.cells [.ptr m 0,cL,cp,oT,cM,.int .i64 (x.n:Nat)] 149 none) (I8:qL ow' (id,8) (ik oT)) (Dn:Own h' 40 5 oT (l.flatMap aL)):iW h' ow' id s m { x with chgs:=l } cL cp oT cM:=by
 have k4:∀ {e sz cs v},Own h e sz v cs→∀ q ∈ ik v,q<h.n:=fun o q ad=>o.lt q (eA.1 ad)
 have ap:∀ {q t},a6 q=(id,t)→t≠5→t≠8→¬(q=s∨bl cH q):=fun {q t} aR bY gd ab=>by
  rcases ab with rfl | ab
  ·rw [k.own] at aR;simp at aR;omega
  ·rw [k.cc q (eA.2 ab)] at aR;simp at aR;omega
 exact ⟨Nat.lt_of_lt_of_le k.lt hk.n,g,(he _ k.lt).trans k.own,
  k.o.al hk fun q ad=>ap (k.lz q (eA.2 ad)) (by decide) (by decide),k.v.al hk fun q ad=>ap (k.cp q (eA.2 ad)) (by decide) (by decide),Dn,k.d.al hk fun q ad=>ap (k.mf q (eA.2 ad)) (by decide) (by decide),k.lz.ea (k4 k.o) he,k.cp.ea (k4 k.v) he,I8,k.mf.ea (k4 k.d) he⟩
theorem un (l:List Int):l.flatMap (fun a=>[V.int .i64 a])=aY l:=by
 induction l with
 | nil=>rfl
 | cons a r ih=>rw [List.flatMap_cons,ih];rfl
theorem Sm (h:I) (u:Int):kI Tryz.prog 24 1 [(0,.int .i64 u)] h=some (.bc h.n 0 1 1,h.push (.cells [.int .i64 u] 3 none)):=by rw [qA uA];rfl
theorem tZ {h:I} {e:TypeId} {sz:Nat} {v:V} {cs:List V} (o:Own h e sz v cs):v.one=true∧v.cells=some [v]:=by
 rcases o with ⟨rfl | rfl,_⟩ | ⟨_,_,_,_,_,rfl,_⟩<;>exact ⟨rfl,rfl⟩
theorem aoc (u:Int) (cs:List aj) (c:aj) (x:b3):kc u [c] (kc u cs x)=kc u (cs++[c]) x:=by
 unfold kc
 simp [List.append_assoc,List.replicate_succ']
theorem Fy {h:I} {a6:dK} {id s m:Nat} {b:At} {c:bp} {x:b3} (k:gg h a6 id s m b c x) (u:Int) (cs:List aj) (az:x.2.verts.length+x.2.chgs.length+cs.length≤2 ^ 30) :
  ae Tryz.prog 74 [.ptr s 0,.int .i64 u,hj cs] h (kd id s m b c h a6 (kc u cs x)):=by
 unfold hj
 refine ae.ax (c:=_) Tryz.func74 rfl (by kernel_rfl) (by simp) ?_
 simp only [af,wY]
 refine aX.b9 (α:=Nat×dK) (fun y f h'=>f 0=.ptr s 0∧f 1=.int .i64 u∧f 8=.ai cs.length (cs.flatMap aL)∧f 9=.int .i64 ((cs.length:Nat):Int)∧f 10=.int .i64 (y.1:Nat)∧y.1≤cs.length∧fJ id h a6 h' y.2∧gg h' y.2 id s m b c (kc u (cs.take y.1) x)) (fun y=>cs.length - y.1) (0,a6)
  ⟨rfl,rfl,rfl,rfl,rfl,Nat.zero_le _,fJ.refl k.aJ,by simpa [kc] using k⟩ ?_
 rintro ⟨t,gI⟩ f h1 ⟨f0,f1,f8,f9,f10,bq,bu,kk⟩
 simp only at f10 bq bu kk
 refine am (by kernel_rfl) ?_
 by_cases aN:t<cs.length
 ·have d1:decide ((t:Int)<((cs.length:Nat):Int))=true:=decide_eq_true (by omega)
  have hw:=oq aN (by omega)
  obtain ⟨ja,ck⟩:=Rm (kk:=.i64) aN
  have hW:(x.2.verts++List.replicate (cs.take t).length u).length≤2 ^ 30∧(x.2.chgs++cs.take t).length≤2 ^ 30:=by
   simp only [List.length_append,List.length_replicate,List.length_take];omega
  have cN:kc u (cs.take (t+1)) x=kc u [cs[t]] (kc u (cs.take t) x):=by rw [aoc,List.take_succ_eq_append_getElem aN]
  generalize cs[t]=C at ck cN
  obtain ⟨cL,cp,cH,cM,U⟩:=kk.od
  obtain ⟨X,fC⟩:∃ X,X=kc u (cs.take t) x:=⟨_,rfl⟩
  have GL:X.2.verts.length≤2 ^ 30:=by rw [fC];exact hW.1
  have hv:X.2.chgs.length≤2 ^ 30:=by rw [fC];exact hW.2
  rw [←fC] at kk U cN
  clear fC
  have cc:(V.agg (aL C)).cells=some (aL C):=rfl
  have st:bR (some 5) (bb.cells [V.int .i64 0,V.int .i64 0,V.int .i64 0,V.int .i64 0,V.bool false] 40 none) 0 (aL C)=some (.cells (aL C) 40 none):=rfl
  have ld:dv (some (some 5)) (some (aL C++ja))=some (.agg (aL C)):=nN (lX C)
  obtain ⟨H,hH⟩:∃ y,y=h1.push (.cells (aL C) 40 none):=⟨_,rfl⟩
  have bA:J h1 H none_:=by rw [hH];exact J.push _ _ _
  have nd:H.get h1.n=.cells (aL C) 40 none:=by rw [hH];exact cA
  have j9:H.n=h1.n+1:=by rw [hH];rfl
  have kB:=U.ba bA
  have gs:=kB.get
  simp only [af,Nat.reduceEqDiff,Nat.reduceAdd,reduceCtorEq,AQ,Wu,mW,mH,ml,ow,f0,f8,f9,f10,d1,ck,ld,cc,st]
  rw [←hH]
  clear hH
  have kj:Own H 3 1 cp (X.2.verts.flatMap fun a=>[V.int .i64 a]):=by rw [un];exact kB.v
  obtain ⟨iX,aa,q,ei,k2,ft⟩:=LJ (P:=Tryz.prog) (t:=24) (enc:=fun a:Int=>[V.int .i64 a]) uA (by decide) (fun _=>rfl) (fun _=>rfl) qF (by decide) (by decide) kj (cs:=X.2.verts) (Nat.le_trans GL (by decide)) u
  have jA:J H (H.push (.cells [.int .i64 u] 3 none)) none_:=J.push _ _ _
  have Cd:ma Tryz.prog 24 24 cp (.bc H.n 0 1 1) (H.push (.cells [.int .i64 u] 3 none))=some (iX,aa):=q
  have NO:bl cp s=False:=eq_false fun ab=>by have:=U.cp s (eA.2 ab);rw [U.own] at this;simp at this
  have aah:bl cp h1.n=False:=eq_false fun ab=>by have:=U.v.lt _ ab;omega
  have mu:J H aa (fun x=>bl cp x):=jA.up.trans' k2
  have qp:=(mu.get s kB.lt (fun ab=>NO.mp ab)).trans gs
  have pK:=(mu.get h1.n (by omega) (fun ab=>aah.mp ab)).trans nd
  obtain ⟨iD,gx⟩:=tZ ei
  have db:bR (some 1) (bb.cells [.ptr m 0,cL,cp,cH,cM,.int .i64 (X.2.n:Nat)] 149 none) 2 [iX]=some (.cells [.ptr m 0,cL,iX,cH,cM,.int .i64 (X.2.n:Nat)] 149 none):=by rw [tf iD];rfl
  simp only [af,Nat.reduceEqDiff,Nat.reduceAdd,Nat.reduceLeDiff,AQ,Wu,PI,f1,gs,Sm,Cd,qp,gx,db]
  have qM:J H (aa.set s (.cells [.ptr m 0,cL,iX,cH,cM,.int .i64 (X.2.n:Nat)] 149 none)) (fun q=>q=s∨bl cp q) :=
   (mu.mono fun q ad=>.inr ad).trans' ((J.set _ _ _).mono fun q ad=>.inl ad)
  have bO:h1.n≠s:=by have:=U.lt;omega
  have lL:(aa.set s (.cells [.ptr m 0,cL,iX,cH,cM,.int .i64 (X.2.n:Nat)] 149 none)).get h1.n=.cells (aL C) 40 none:=by rw [kL bO];exact pK
  have g3:(aa.set s (.cells [.ptr m 0,cL,iX,cH,cM,.int .i64 (X.2.n:Nat)] 149 none)).get s=(.cells [.ptr m 0,cL,iX,cH,cM,.int .i64 (X.2.n:Nat)] 149 none):=aP
  have h4:Own (aa.set s (.cells [.ptr m 0,cL,iX,cH,cM,.int .i64 (X.2.n:Nat)] 149 none)) 3 1 iX (aY (X.2.verts++[u])):=by
   have aai:Own aa 3 1 iX (aY (X.2.verts++[u])):=by rw [←un];exact ei
   refine aai.al (J.set _ _ _) fun q ad ab=>?_
   subst ab
   rcases ft with d | d
   ·rw [d] at ad;exact NO.mp ad
   ·have h1:(H.push (.cells [.int .i64 u] 3 none)).n≤q:=d q ad
    have:=kB.lt;have:=jA.n;omega
  have Bs:dA H (ik cp) (ik iX):=fun q ad=>by
   rcases LI ft q ad with ab | ab
   ·exact .inl ab
   ·exact .inr (by have:=jA.n;have:(H.push (.cells [.int .i64 u] 3 none)).n≤q:=ab;omega)
  have n3:(aa.set s (.cells [.ptr m 0,cL,iX,cH,cM,.int .i64 (X.2.n:Nat)] 149 none)).n=aa.n:=rfl
  generalize aa.set s (.cells [.ptr m 0,cL,iX,cH,cM,.int .i64 (X.2.n:Nat)] 149 none)=aC at qM n3 g3 h4 lL⊢
  have hy:=kk.ba bA
  have j8:∀ q,q<H.n→(q=s∨bl cp q)→∃ t,gI q=(id,t)∧5≤t∧t≤9:=fun q ad ab=>by
   rcases ab with rfl | ab
   ·exact ⟨5,U.own,by omega,by omega⟩
   ·exact ⟨7,U.cp q (eA.2 ab),by omega,by omega⟩
  have mR:=fJ.eF (id:=id) hy.aJ qM (fun q ad ab=>by obtain ⟨t,h1,aa,_⟩:=j8 q ad ab;unfold cx;rw [h1];exact ⟨rfl,aa⟩) (id,7)
  have vu:=kB.Sk qM mR.ea g3 (U.cp.new (fun q ad=>kB.v.lt q (eA.1 ad)) Bs fun q ad=>h4.lt q (eA.1 ad)) h4
  have aaj:=hy.ev.part qM j8 mR.ea
  have aak:=hy.tY.al qM
  have pL:=(fJ.push (id:=id) kk.aJ bA).trans mR
  have apT:=qM.n
  have eu:h1.n<aC.n:=by omega
  obtain ⟨oT,bz,CH,sS,cz,n4⟩:=LJ (P:=Tryz.prog) (t:=35) CA (by decide) lX XI wY (by decide) (by decide) vu.c (cs:=X.2.chgs) (Nat.le_trans hv (by decide)) C
  have Sn:J aC (aC.push (.cells (aL C) 40 none)) none_:=J.push _ _ _
  have I9:bl cH s=False:=eq_false fun ab=>by have:=U.cc s (eA.2 ab);rw [U.own] at this;simp at this
  have aal:bl cH h1.n=False:=eq_false fun ab=>by have:=U.c.lt _ ab;omega
  have Sp:J aC bz (fun x=>bl cH x):=Sn.up.trans' cz
  have aam:=(Sp.get s vu.lt (fun ab=>I9.mp ab)).trans g3
  obtain ⟨LK,Ja⟩:=tZ sS
  have LL:bR (some 1) (.cells [.ptr m 0,cL,iX,cH,cM,.int .i64 (X.2.n:Nat)] 149 none) 3 [oT]=some (.cells [.ptr m 0,cL,iX,oT,cM,.int .i64 (X.2.n:Nat)] 149 none):=by rw [tf LK];rfl
  have d0:dB (.cells (aL C) 40 none) 0=some (aL C):=rfl
  have jV:dv (some (some 5)) (some (aL C))=some (.agg (aL C)):=rfl
  refine aX.bk (fun x=>bl cH x) [7,8,12] (.q 0 (.q 1 (.q 2 (.q 3 (.q 4 (.q 5 (.q 6 (.e 7 (.e 8 (.q 9 (.q 10 (.q 11 (.a 12 .done)))) .stop) .stop)))))))) (by kernel_rfl) (by kernel_rfl) (by kernel_rfl) ?_
  simp only [af,bN,h3,Nat.reduceEqDiff,Nat.reduceAdd,Nat.reduceLeDiff,reduceCtorEq,AQ,ajD,ajM,mH,aki,f0,f10,g3,lL,d0,jV,H6,CH,I9,aal,Sp,aam,Ja,LL,hw]
  have Jb:J aC (bz.set s (.cells [.ptr m 0,cL,iX,oT,cM,.int .i64 (X.2.n:Nat)] 149 none)) (fun q=>q=s∨bl cH q) :=
   (Sp.mono fun q ad=>.inr ad).trans' ((J.set _ _ _).mono fun q ad=>.inl ad)
  have g5:(bz.set s (.cells [.ptr m 0,cL,iX,oT,cM,.int .i64 (X.2.n:Nat)] 149 none)).get s=(.cells [.ptr m 0,cL,iX,oT,cM,.int .i64 (X.2.n:Nat)] 149 none):=aP
  have Sq:Own (bz.set s (.cells [.ptr m 0,cL,iX,oT,cM,.int .i64 (X.2.n:Nat)] 149 none)) 40 5 oT ((X.2.chgs++[C]).flatMap aL):=Own.al sS (J.set _ _ _) fun q ad ab=>by
   subst ab
   rcases n4 with d | d
   ·rw [d] at ad;exact I9.mp ad
   ·have h1:(aC.push (.cells (aL C) 40 none)).n≤q:=d q ad
    have:=vu.lt;have:=Sn.n;omega
  have aan:dA aC (ik cH) (ik oT):=fun q ad=>by
   rcases LI n4 q ad with ab | ab
   ·exact .inl ab
   ·exact .inr (by have:=Sn.n;have:(aC.push (.cells (aL C) 40 none)).n≤q:=ab;omega)
  generalize bz.set s (.cells [.ptr m 0,cL,iX,oT,cM,.int .i64 (X.2.n:Nat)] 149 none)=bY at Jb g5 Sq⊢
  have NP:∀ q,q<aC.n→(q=s∨bl cH q)→∃ t,eF gI H.n aC.n (id,7) q=(id,t)∧5≤t∧t≤9:=fun q ad ab=>by
   rcases ab with rfl | ab
   ·exact ⟨5,vu.own,by omega,by omega⟩
   ·exact ⟨8,vu.cc q (eA.2 ab),by omega,by omega⟩
  have sr:=fJ.eF (id:=id) mR.aJ Jb (fun q ad ab=>by obtain ⟨t,h1,aa,_⟩:=NP q ad ab;unfold cx;rw [h1];exact ⟨rfl,aa⟩) (id,8)
  have Jc:=vu.Sl Jb sr.ea g5 (vu.cc.new (fun q ad=>vu.c.lt q (eA.1 ad)) aan fun q ad=>Sq.lt q (eA.1 ad)) Sq
  have aao:=aaj.part Jb NP sr.ea
  have fin:gg bY (eF (eF gI H.n aC.n (id,7)) aC.n bY.n (id,8)) id s m b c (kc u [C] X):=⟨aao,⟨_,_,_,_,Jc⟩,sr.aJ,aak.al Jb,kk.l7⟩
  exact aF ⟨(t+1,_),⟨f0,f1,f8,f9,rfl,aN,bu.trans (pL.trans sr),by rw [cN];exact fin⟩,by simp only;omega⟩
 ·have d1:decide ((t:Int)<((cs.length:Nat):Int))=false:=decide_eq_false (by omega)
  rw [List.take_of_length_le (by omega)] at kk
  simp only [af,f9,f10,d1,om,Tryz.results74,ll]
  exact aF ⟨rfl,gI,bu,kk⟩
def sz (x:b3):Nat:=x.2.outs.length+x.2.verts.length+x.2.chgs.length+x.2.deads.length+4000 * (1000 - x.2.n)
structure Inv (c:bp) (x:b3):Prop where
 n:x.2.n≤1000
 wf:∀ u K,c.dx u=some K→c8 K (x.1.st u)
structure cj (c:bp) (j:Nat) (x y:b3):Prop where
 inv:Inv c y
 sz:sz y≤sz x+j
 ms:y.1.ms=x.1.ms
def fr (c:bp) (j:Nat) (F:b3→b3):Prop:=∀ x,Inv c x→cj c j x (F x)
theorem cj.refl {c:bp} {x:b3} (i:Inv c x):cj c 0 x x:=⟨i,Nat.le_refl _,rfl⟩
theorem cj.trans {c:bp} {j k:Nat} {x y z:b3} (a:cj c j x y) (b:cj c k y z):cj c (j+k) x z:=⟨b.inv,by have:=a.sz;have:=b.sz;omega,b.ms.trans a.ms⟩
theorem cj.mono {c:bp} {j k:Nat} {x y:b3} (a:cj c j x y) (h:j≤k):cj c k x y:=⟨a.inv,by have:=a.sz;omega,a.ms⟩
theorem fr.mono {c:bp} {j k:Nat} {F:b3→b3} (a:fr c j F) (h:j≤k):fr c k F:=fun x i=>(a x i).mono h
theorem Fz (c:bp) (u:Int) (r:Rec) (e:Int):fr c 1 (pa u r e):=fun x i=>⟨⟨i.n,i.wf⟩,by simp only [sz,pa,List.length_append,List.length_cons,List.length_nil];omega,rfl⟩
theorem LM (c:bp) (u:Int) (r:Rec):fr c 1 (pb u r):=fun x i=>⟨⟨i.n,i.wf⟩,by simp only [sz,pb,List.length_append,List.length_cons,List.length_nil];omega,rfl⟩
theorem Bt (c:bp) (u:Int) (cs:List aj):fr c (2 * cs.length) (kc u cs):=fun x i=>⟨⟨i.n,i.wf⟩,by simp only [sz,kc,List.length_append,List.length_replicate];omega,rfl⟩
theorem Sr {c:bp} {x:b3} (i:Inv c x) (h:x.2.n≠1000):Inv c (c6 x)∧sz (c6 x)+4000=sz x∧(c6 x).1=x.1:=by
 have aG:=i.n
 refine ⟨⟨by simp only [c6];omega,i.wf⟩,?_,rfl⟩
 simp only [sz,c6]
 omega
theorem FA {c:bp} {u:Nat} {l:List aj} (az:∀ K,c.dx u=some K→c8 K l):fr c 0 (jh u l):=fun x i=>⟨⟨i.n,fun v K bQ=>by
 simp only [jh]
 split
 ·rename_i e;subst e;exact az K bQ
 ·exact i.wf v K bQ⟩,Nat.le_refl _,rfl⟩
theorem FB {c:bp} {α:Type} {j:Nat} (f:b3→α→b3):∀ (l:List α),(∀ a ∈ l,fr c j fun x=>f x a)→fr c (j * l.length) fun x=>l.foldl f x
 | [],_=>fun x i=>cj.refl i
 | a::r,h=>fun x i=>by
  have h1:=h a (by simp) x i
  have aa:=FB f r (fun b ak=>h b (by simp [ak])) (f x a) h1.inv
  have aC:=h1.trans aa
  exact aC.mono (by rw [List.length_cons,Nat.mul_add];omega)
theorem aap (v:bC) (r:Rec):(gK v r).1.length≤4:=by
 unfold gK
 split
 ·simp
 ·split
  ·split
   ·split
    ·simp only [hN]
     split
     ·simp
     ·split
      ·simp
      ·split
       ·split<;>simp
       ·split
        ·rw [EO];omega
        ·simp
    ·simp
   ·simp
  ·simp
theorem aaq {c:bp} {v:bC} {u:Int} {r:Rec} {th:Rec→b3→b3} (h:∀ y,fr c 24 (th y)):fr c 96 (o4 v u th r):=fun x i=>by
 unfold o4
 split
 ·exact (Fz c u r _ x i).mono (by omega)
 ·have:=aap v r
  exact (FB (j:=24) (fun x y=>th y x) (gK v r).1 (fun a _=>h a) x i).mono (by omega)
theorem aar {K:dR} {l:List aj} (w:c8 K l) (k t v:Int):(qJ K l k t v).length≤1025:=by
 have:=w.len
 cases K with
 | kv=>simp [qJ]
 | de g=>simp [qJ]
 | dZ g=>
  simp only [qJ,iE,List.length_append,List.length_map,List.length_cons,List.length_nil]
  have h1:=List.length_filter_le (lD (e3 g l k t v)) (found g l k t)
  have aa:=Ip g l k t
  omega
theorem LN {K:dR} {e:bG} {l:List aj} {r:Rec} {N:Int} (w:c8 K l) (h:kZ K e l r=.ok N):k0 K e l r=p6 K l r.k r.t N∧c8 K (p6 K l r.k r.t N):=by
 have h1:k0 K e l r=p6 K l r.k r.t N:=by unfold k0;rw [h]
 exact ⟨h1,by rw [←h1];exact am4 w r⟩
theorem aod {c:bp} {K:dR} {v:bC} {u:Nat} {r:Rec} {snd:Rec→b3→b3} (bQ:c.dx u=some K) (h:∀ y,fr c 24 (snd y)):fr c 2100 (uX K v u snd r):=fun x i=>by
 unfold uX
 split
 ·exact (Fz c u r _ x i).mono (by omega)
 ·have w:=i.wf u K bQ
  split
  ·exact (Fz c u r _ x i).mono (by omega)
  ·rename_i N lW
   have h1:=FA (c:=c) (u:=u) (l:=p6 K (x.1.st u) r.k r.t N) (fun xp aa=>by rw [bQ] at aa;cases aa;exact (LN w lW).2) x i
   have aa:=Bt c u (qJ K (x.1.st u) r.k r.t N) _ h1.inv
   have aC:=h ⟨r.k,N,zH K (x.1.st u) r.k r.t⟩ _ aa.inv
   have:=aar w r.k r.t N
   exact ((h1.trans aa).trans aC).mono (by omega)
theorem aoe {c:bp} {v:bC} {u:Int} {r:Rec} {snd:Rec→b3→b3} (h:∀ y,fr c 24 (snd y)):fr c 24 (yc c v u snd r):=fun x i=>by
 unfold yc
 split
 ·split
  ·exact h _ x i
  ·exact (Fz c u r _ x i).mono (by omega)
 ·exact (Fz c u r _ x i).mono (by omega)
theorem Ss {c:bp} {snd:Int→Rec→b3→b3} (h:∀ u y,fr c 24 (snd u y)) (f:Int) (u:Nat) (r:Rec):fr c 1 (r2 c snd f u r):=fun x i=>by
 unfold r2
 split
 ·exact Fz c u r _ x i
 ·rename_i aG
  obtain ⟨j,U,hm⟩:=Sr i aG
  have fin:∀ {y:b3} {k:Nat},k≤4000→cj c k (c6 x) y→cj c 1 x y:=fun hk bq=>⟨bq.inv,by have:=bq.sz;omega,bq.ms.trans (by rw [hm])⟩
  have f0:cj c 1 x (c6 x):=fin (Nat.zero_le _) (cj.refl j)
  split
  ·exact f0
  ·split
   ·exact fin (by omega) (aaq (fun y=>(LM c u y).mono (by omega)) _ j)
   ·split
    ·exact fin (by omega) (aaq (fun y=>h u y) _ j)
    ·split
     ·split
      ·rename_i K bQ;exact fin (by omega) (aod bQ (fun y=>h u y) _ j)
      ·exact f0
     ·split
      ·split
       ·exact fin (by omega) (aoe (fun y=>h u y) _ j)
       ·exact f0
      ·exact f0
theorem aof {c:bp} (az:c.l.length≤24) (v:Int):(c.us v).length≤24:=by
 unfold bp.us
 have h1:=Db (v:=v) (l:=c.l) (j:=0)
 have aa:=List.length_filter_le (fun u=>c.P.getD u 0==c.part) ((gu v 0 c.l).map Int.toNat)
 rw [List.length_map] at aa
 omega
theorem zO {c:bp} (az:c.l.length≤24):∀ (k:Nat) (v:Int) (r:Rec),fr c 24 (nU c k v r)
 | 0,v,r=>fun x i=>(cj.refl i).mono (by omega)
 | k+1,v,r=>fun x i=>by
  have:=aof az v
  exact (FB (j:=1) (fun x u=>r2 c (nU c k) v u r x) (c.us v) (fun u _=>Ss (fun a y=>zO az k a y) v u r) x i).mono (by omega)
theorem s3 (c:bp) (b:At):c.cells b=[.ai c.l.length (c.l.flatMap ar),.int .i64 c.p,.ai c.P.length (aY c.P),.int .i64 c.part,.ptr b.kz 0,.map b.mp]:=rfl
theorem St {l:List bC} {u:Nat} {v:bC} (h:l[u]?=some v) {kk:IntKind}:∃ r,hA Tryz.prog 54 (.ai l.length (l.flatMap ar)) (.int kk (u:Int))=some (.at (ar v++r)) :=
 Kt iA rfl h xR
theorem LO {x:b3} {j:Nat} (h:sz x+j≤2 ^ 30):x.2.deads.length≤2 ^ 30:=by unfold sz at h;omega
theorem aas {x:b3} {j:Nat} (h:sz x+j≤2 ^ 30):x.2.outs.length≤2 ^ 30:=by unfold sz at h;omega
section
variable {id s m:Nat} {b:At} {c:bp}
theorem xx {g:FuncId} (gm:bT Tryz.prog g=true) {th:Rec→b3→b3} {u:Nat} {v:bC} (aD:c.l[u]?=some v)
  (aat:∀ (y:Rec) (h:I) (a6:dK) (x:b3),gg h a6 id s m b c x→Inv c x→sz x+24≤2 ^ 30→ae Tryz.prog g [.ptr s 0,.int .i64 u,.agg (aI y)] h (kd id s m b c h a6 (th y x)))
  (oU:∀ y,fr c 24 (th y)) {h:I} {a6:dK} {x:b3} (k:gg h a6 id s m b c x) (i:Inv c x) (bf:sz x+100≤2 ^ 30) (r:Rec) :
  ae Tryz.prog 185 [.ptr s 0,.int .i64 u,.agg (aI r),.func (.func g) [.ptr s 0] []] h (kd id s m b c h a6 (o4 v u th r x)):=by
 refine ae.ax (c:=_) Tryz.func185 rfl (by kernel_rfl) (by simp) ?_
 obtain ⟨cL,cp,cH,cM,U⟩:=k.od
 obtain ⟨H,hH⟩:∃ y,y=h.push (.cells (aI r) 38 none):=⟨_,rfl⟩
 have bA:J h H none_:=by rw [hH];exact J.push _ _ _
 have nd:H.get h.n=.cells (aI r) 38 none:=by rw [hH];exact cA
 have j9:H.n=h.n+1:=by rw [hH];rfl
 have hy:=k.ba bA
 have gs:=(U.ba bA).get
 have fG:=hy.ev.get
 rw [s3] at fG
 have ld:dv (some (some 3)) (some (aI r))=some (.agg (aI r)):=rfl
 have d0:dB (.cells (aI r) 38 none) 0=some (aI r):=rfl
 have cc:(V.agg (aI r)).cells=some (aI r):=rfl
 obtain ⟨ja,ck⟩:=St (kk:=.i64) aD
 have zN:dv (some (some 6)) (some (ar v++ja))=some (.agg (ar v)):=nN (iA v)
 simp only [af]
 rw [←hH]
 clear hH
 refine aX.bk none_ [] (.q 0 (.q 1 (.q 2 (.q 3 (.q 4 (.q 5 (.q 6 (.q 7 (.q 8 (.q 9 (.q 10 (.q 11 (.c 12 (.q 13 (.q 14 (.q 15 (.q 16 (.q 17 .done)))))))))))))))))) (by kernel_rfl) (by kernel_rfl) (by kernel_rfl) ?_
 simp only [af,bN,Nat.reduceEqDiff,Nat.reduceAdd,reduceCtorEq,E2,Cs,lU,nS,dQ,kO,x0,gs,nd,ld,d0,fG,ck,zN]
 refine ix rfl rfl rfl (fun h' hk=>UY v r h' (hk.elim (fun q=>hy.tY.al q) fun e=>by rw [e];exact hy.tY)) ?_
 unfold wP
 simp only [af,bN,Nat.reduceEqDiff]
 have qg:=LO bf
 cases he:((gK v r).2 !=0)
 rotate_left
 ·have gh:(gK v r).2≠0:=by simpa using he
  simp only [af,Nat.reduceEqDiff,reduceCtorEq,dQ,nd,ld,d0]
  refine cy Cn (Dm hy u r (gK v r).2 qg) fun q aa ⟨aw,lF,bu,k2⟩=>?_
  subst aw
  simp only [af,aU,Tryz.results185,ll]
  exact aF ⟨rfl,lF,(fJ.push k.aJ bA).trans bu,by unfold o4;rw [if_pos gh];exact k2⟩
 have gh:¬(gK v r).2≠0:=by simpa using he
 have hI:o4 v u th r x=(gK v r).1.foldl (fun x y=>th y x) x:=by unfold o4;rw [if_neg gh]
 have nO:=aap v r
 rw [hI]
 generalize (gK v r).1=L at nO
 clear hI he gh U gs fG nd ck zN
 simp only [af,Nat.reduceEqDiff,KI]
 refine aX.b9 (α:=Nat×dK) (fun y f h'=>f 0=.ptr s 0∧f 1=.int .i64 (u:Nat)∧f 3=.func (.func g) [.ptr s 0] []∧f 35=.ai L.length (L.flatMap aI)∧f 36=.int .i64 ((L.length:Nat):Int)∧f 37=.int .i64 (y.1:Nat)∧y.1≤L.length ∧
   fJ id h a6 h' y.2∧gg h' y.2 id s m b c ((L.take y.1).foldl (fun x y=>th y x) x)∧cj c (24 * y.1) x ((L.take y.1).foldl (fun x y=>th y x) x)) (fun y=>L.length - y.1) (0,a6)
  ⟨rfl,rfl,rfl,rfl,rfl,rfl,Nat.zero_le _,fJ.push k.aJ bA,hy,cj.refl i⟩ ?_
 rintro ⟨t,gI⟩ f h1 ⟨f0,f1,f3,f35,f36,f37,bq,bu,kk,ua⟩
 simp only at f37 bq bu kk ua
 refine am (by kernel_rfl) ?_
 by_cases aN:t<L.length
 ·have aw:decide ((t:Int)<((L.length:Nat):Int))=true:=decide_eq_true (by omega)
  have hw:=oq aN (by omega)
  obtain ⟨aau,dW⟩:=anb (kk:=.i64) aN
  have cN:(L.take (t+1)).foldl (fun x y=>th y x) x=th L[t] ((L.take t).foldl (fun x y=>th y x) x):=by rw [List.take_succ_eq_append_getElem aN,List.foldl_append];rfl
  generalize L[t]=Y at dW cN
  have aog:dv (some (some 3)) (some (aI Y++aau))=some (.agg (aI Y)):=nN (AJ Y)
  have aoh:(V.agg (aI Y)).cells=some (aI Y):=rfl
  have aoi:bR (some 3) (bb.cells [V.int .i64 0,V.int .i64 0,V.int .i64 0] 38 none) 0 (aI Y)=some (.cells (aI Y) 38 none):=rfl
  have aav:dB (.cells (aI Y) 38 none) 0=some (aI Y):=rfl
  have jV:dv (some (some 3)) (some (aI Y))=some (.agg (aI Y)):=rfl
  obtain ⟨H1,dY⟩:∃ y,y=h1.push (.cells (aI Y) 38 none):=⟨_,rfl⟩
  have NQ:J h1 H1 none_:=by rw [dY];exact J.push _ _ _
  have KL:H1.get h1.n=.cells (aI Y) 38 none:=by rw [dY];exact cA
  have pD:=kk.ba NQ
  generalize (L.take t).foldl (fun x y=>th y x) x=X at cN kk pD ua
  simp only [af,Nat.reduceEqDiff,dQ,vH,m9,f1,f3,f35,f36,f37,aw,dW,aog,aoh,aoi,aav,jV]
  rw [←dY]
  clear dY
  refine cy gm (aat Y H1 gI X pD ua.inv (by have:=ua.sz;omega)) fun q aa ⟨aw,lF,ub,k2⟩=>?_
  subst aw
  simp only [af,Nat.reduceEqDiff,f37,hw]
  have aaw:=ua.trans (oU Y X ua.inv)
  exact aF ⟨(t+1,lF),⟨f0,f1,f3,f35,f36,rfl,aN,bu.trans ((fJ.push kk.aJ NQ).trans ub),by rw [cN];exact k2,by rw [cN];exact aaw⟩,by simp only;omega⟩
 ·have aw:decide ((t:Int)<((L.length:Nat):Int))=false:=decide_eq_false (by omega)
  rw [List.take_of_length_le (by omega)] at kk
  simp only [af,f36,f37,aw,om,Tryz.results185,ll]
  exact aF ⟨rfl,gI,bu,kk⟩
end
theorem hc.at {h:I} {a6:dK} {id m:Nat} {b:At} {c:bp} {s:dP} (k:hc h a6 id m b c s) {u:Nat} {K:dR} (bQ:c.dx u=Option.some K) {v:bC} (aD:c.l[u]?=Option.some v) :
  ∃ a O,dr b.es (u:Int)=Option.some a∧gH h a O K v.e v.n (s.st u)∧cY v.e=true∧qL a6 (id,10+u) O ∧
   ∀ (h':I) (ep:List Nat) (b0:List aj),J h h' (· ∈ O)→dA h O ep→gH h' a ep K v.e v.n b0→hc h' (eF a6 h.n h'.n (id,10+u)) id m b c { s with st:=fun w=>if w=u then b0 else s.st w }:=by
 obtain ⟨a,O,x,h1,aa,aC,bz,bY⟩:=k.some u K bQ
 rw [aD] at aa
 cases aa
 refine ⟨a,O,h1,aC,bY,bz,fun h' ep b0 b8 nl cK=>?_⟩
 obtain ⟨aw,hR,mP,ns,g1,g2,st⟩:=k.marks
 have mQ:∀ q t,q<h.n→a6 q=(id,t)→t≠10+u→h'.get q=h.get q:=fun q t ad aR bq=>b8.get q ad fun ab=>by rw [bz q ab] at aR;simp at aR;omega
 have he:∀ q,q<h.n→eF a6 h.n h'.n (id,10+u) q=a6 q:=fun q ad=>Dl ad
 refine ⟨Nat.lt_of_lt_of_le k.lt b8.n,(mQ _ _ k.lt k.own (by omega)).trans k.get,(he _ k.lt).trans k.own,⟨aw,Nat.lt_of_lt_of_le hR b8.n,Nat.lt_of_lt_of_le mP b8.n,ns,(mQ _ _ hR k.gB.1 (by omega)).trans g1,(mQ _ _ mP k.gB.2 (by omega)).trans g2,st⟩,
  ⟨(he _ hR).trans k.gB.1,(he _ mP).trans k.gB.2⟩,Nat.lt_of_lt_of_le k.kA b8.n,(mQ _ _ k.kA k.lI (by omega)).trans k.map,(he _ k.kA).trans k.lI,fun w xp hw=>?_,k.none⟩
 by_cases NR:w=u
 ·subst NR
  rw [bQ] at hw
  cases hw
  exact ⟨a,ep,v,h1,aD,by simpa using cK,bz.new aC.lt nl cK.lt,bY⟩
 ·obtain ⟨a2,uS,dW,cn,cO,fg,ju,w4⟩:=k.some w xp hw
  refine ⟨a2,uS,dW,cn,cO,?_,ju.ea fg.lt he,w4⟩
  simp only [if_neg NR]
  exact fg.al b8 fun q ad ab=>by have aw:=ju q ad;rw [bz q ab] at aw;simp at aw;omega
theorem gg.at {h:I} {a6:dK} {id s m:Nat} {b:At} {c:bp} {x:b3} (k:gg h a6 id s m b c x) {u:Nat} {K:dR} (bQ:c.dx u=some K) {v:bC} (aD:c.l[u]?=some v) :
  ∃ a O,dr b.es (u:Int)=some a∧gH h a O K v.e v.n (x.1.st u)∧cY v.e=true∧(∀ q ∈ O,a6 q=(id,10+u)) ∧
   ∀ (h':I) (ep:List Nat) (b0:List aj),J h h' (· ∈ O)→dA h O ep→gH h' a ep K v.e v.n b0→∃ ow',fJ id h a6 h' ow'∧gg h' ow' id s m b c (jh u b0 x):=by
 obtain ⟨a,O,h1,aa,aC,bz,bY⟩:=k.ev.at bQ aD
 refine ⟨a,O,h1,aa,aC,bz,fun h' ep b0 b8 nl cK=>?_⟩
 obtain ⟨cL,cp,cH,cM,U⟩:=k.od
 have bu:=fJ.eF (id:=id) k.aJ b8 (fun q ad ab=>by unfold cx;rw [bz q ab];exact ⟨rfl,by show 5≤10+u;omega⟩) (id,10+u)
 exact ⟨_,bu,bY h' ep b0 b8 nl cK,⟨cL,cp,cH,cM,U.al b8 (fun q ad ab t bY gd e=>by rw [bz q ab] at e;simp at e;omega) bu.ea⟩,bu.aJ,k.tY.al b8,k.l7⟩
theorem fJ.step {id:Nat} {h h1 aa:I} {a6 ow':dK} (f:Fr h a6) (k:J h h1 none_) (e:fJ id h1 a6 aa ow'):fJ id h a6 aa ow':=(fJ.push f k).trans e
theorem aoj {K:dR} {e:bG} {l:List aj} {r:Rec} {c:Int} (h:kZ K e l r=.error c):c≠0:=by
 unfold kZ at h
 split at h
 ·cases h;decide
 ·split at h
  ·cases h;decide
  ·split at h
   ·cases h;decide
   ·cases h
theorem aok {h h':I} {p:V} {l:Seen} {i j cl:Nat} (k:s0 h p l i j cl) (hk:J h h' none_∨h'=h):s0 h' p l i j cl:=by
 rcases hk with hk | rfl
 ·obtain ⟨aw,hR,mP,ns,g1,g2,st⟩:=k
  exact ⟨aw,Nat.lt_of_lt_of_le hR hk.n,Nat.lt_of_lt_of_le mP hk.n,ns,(hk.get _ hR (by simp [none_])).trans g1,(hk.get _ mP (by simp [none_])).trans g2,st⟩
 ·exact k
theorem aax {h h':I} {a:Nat} {O:List Nat} {K:dR} {e:bG} {n:Int} {l:List aj} (s:gH h a O K e n l) (hk:J h h' none_∨h'=h):gH h' a O K e n l:=by
 rcases hk with hk | rfl
 ·exact s.ba hk
 ·exact s
section
variable {id s m:Nat} {b:At} {c:bp}
theorem Su {u:Nat} {v:bC} (aD:c.l[u]?=some v) {K:dR} (bQ:c.dx u=some K) {snd:Rec→b3→b3}
  (my:∀ (y:Rec) (h:I) (a6:dK) (x:b3),gg h a6 id s m b c x→Inv c x→sz x+24≤2 ^ 30→ae Tryz.prog 76 [.ptr s 0,.int .i64 u,.agg (aI y)] h (kd id s m b c h a6 (snd y x)))
  {h:I} {a6:dK} {x:b3} (k:gg h a6 id s m b c x) (i:Inv c x) (bf:sz x+2100≤2 ^ 30) (r:Rec) :
  ae Tryz.prog 187 [.ptr s 0,.int .i64 u,.agg (aI r)] h (kd id s m b c h a6 (uX K v u snd r x)):=by
 refine ae.ax (c:=_) Tryz.func187 rfl (by kernel_rfl) (by simp) ?_
 obtain ⟨cL,cp,cH,cM,U⟩:=k.od
 obtain ⟨H,hH⟩:∃ y,y=h.push (.cells (aI r) 38 none):=⟨_,rfl⟩
 have bA:J h H none_:=by rw [hH];exact J.push _ _ _
 have nd:H.get h.n=.cells (aI r) 38 none:=by rw [hH];exact cA
 have j9:H.n=h.n+1:=by rw [hH];rfl
 have hy:=k.ba bA
 have gs:=(U.ba bA).get
 have fG:=hy.ev.get
 rw [s3] at fG
 have ld:dv (some (some 3)) (some (aI r))=some (.agg (aI r)):=rfl
 have d0:dB (.cells (aI r) 38 none) 0=some (aI r):=rfl
 obtain ⟨a,O,aO,jg,kh,o1,Bu⟩:=hy.at bQ aD
 have la:=lookup_int (P:=Tryz.prog) (ok:=false) (k:=(u:Int)) Hq K6 hy.ev.map
 rw [aO] at la
 have uc:mD Tryz.prog 144 (.map b.mp) (.int .i64 (u:Int)) false H=some (.ptr a 0):=la
 have r8:=hy.ev.marks
 simp only [af,Nat.reduceEqDiff,reduceCtorEq,Cs,x0]
 rw [←hH]
 clear hH
 simp only [af,Nat.reduceEqDiff,Nat.reduceAdd,Nat.reduceLeDiff,Cr,Cy,gs,fG,uc]
 refine aX.bk none_ [] (.q 0 (.q 1 (.q 2 (.q 3 (.q 4 (.q 5 (.q 6 (.q 7 (.q 8 (.c 9 (.c 10 .done))))))))))) (by kernel_rfl) (by kernel_rfl) (by kernel_rfl) ?_
 simp only [af,bN,Nat.reduceEqDiff,Nat.reduceAdd,Nat.reduceLeDiff,reduceCtorEq,Cq,Cs,Cx,dQ,x0,gs,nd,ld,d0,fG]
 refine ix rfl rfl rfl (fun h' hk=>IY h' _ _ _ _ _ (aok r8 hk)) ?_
 simp only [bN]
 refine ix rfl rfl rfl (fun h' hk=>am7 (aax jg hk) r (leastOf x.1.ms)) ?_
 simp only [af,bN,Nat.reduceEqDiff]
 have qg:=LO bf
 cases hW:Ly K r (leastOf x.1.ms)
 rotate_left
 ·simp only [af,Nat.reduceEqDiff,reduceCtorEq,dQ,nd,ld,d0]
  refine cy Cn (Dm hy u r 13 qg) fun q aa ⟨aw,lF,bu,k2⟩=>?_
  subst aw
  simp only [af,aU,Tryz.results187,ll]
  exact aF ⟨rfl,lF,fJ.step k.aJ bA bu,by unfold uX;rw [if_pos hW];exact k2⟩
 have bs:uX K v u snd r x=(match kZ K v.e (x.1.st u) r with
   | .error e=>pa u r e x
   | .ok N=>snd ⟨r.k,N,zH K (x.1.st u) r.k r.t⟩ (kc u (qJ K (x.1.st u) r.k r.t N) (jh u (p6 K (x.1.st u) r.k r.t N) x))):=by
  unfold uX;rw [if_neg (by rw [hW];decide)]<;>cases kZ K v.e (x.1.st u) r<;>rfl
 rw [bs]
 simp only [af,Nat.reduceEqDiff,dQ,nd,ld,d0]
 refine cy ai8 (am6 jg kh hy.tY r) fun q aa ⟨ep,aw,b8,nl,cK⟩=>?_
 subst aw
 obtain ⟨lF,ub,k2⟩:=Bu aa ep _ b8 nl cK
 have apU:H.n=h.n+1:=j9
 have pK:=(b8.get h.n (by omega) (fun ab=>by
  have aw:=o1 _ ab
  have aW:=k.aJ h.n (Nat.le_refl _)
  rw [aW] at aw;simp at aw;exact absurd aw.1.symm k.l7)).trans nd
 have w:=i.wf u K bQ
 cases rG:kZ K v.e (x.1.st u) r with
 | error e=>
  have eR:pI K v.e (x.1.st u) r=p3 e:=by unfold pI;rw [rG]
  have fv:jh u (k0 K v.e (x.1.st u) r) x=x:=by
   have:k0 K v.e (x.1.st u) r=x.1.st u:=by unfold k0;rw [rG]
   rw [this]
   unfold jh
   have:(fun w=>if w=u then x.1.st u else x.1.st w)=x.1.st:=by funext w;split;rename_i e;rw [e];rfl
   rw [this]
  rw [fv] at k2
  have bO:(e !=0)=true:=by
   have:=aoj rG
   simpa using this
  rw [eR]
  unfold p3
  obtain ⟨bP,bE⟩:∃ y,y=aa.push (bb.cells [V.int .i64 0,V.int .i64 0,V.int .i64 0] 38 none):=⟨_,rfl⟩
  have jA:J aa bP none_:=by rw [bE];exact J.push _ _ _
  have lL:=(jA.get h.n (by have:=b8.n;omega) (by simp [none_])).trans pK
  simp only [af,Nat.reduceEqDiff,Nat.reduceAdd,reduceCtorEq,dQ,vH,m9,bO]
  rw [←bE]
  clear bE
  simp only [af,Nat.reduceEqDiff,lL,ld,d0]
  refine cy Cn (Dm (k2.ba jA) u r e qg) fun q aC ⟨aw,l6,mR,k3⟩=>?_
  subst aw
  simp only [af,aU,Tryz.results187,ll]
  exact aF ⟨rfl,l6,fJ.step k.aJ bA (ub.trans (fJ.step k2.aJ jA mR)),k3⟩
 | ok N=>
  have eR:pI K v.e (x.1.st u) r=jn r.k N (zH K (x.1.st u) r.k r.t) (hj (qJ K (x.1.st u) r.k r.t N)):=by unfold pI;rw [rG]
  obtain ⟨fv,aol⟩:=LN w rG
  rw [fv] at k2
  rw [eR]
  unfold jn
  have t1:=FA (c:=c) (u:=u) (l:=p6 K (x.1.st u) r.k r.t N) (fun xp aa=>by rw [bQ] at aa;cases aa;exact aol) x i
  have t2:=Bt c u (qJ K (x.1.st u) r.k r.t N) _ t1.inv
  have cw:=aar w r.k r.t N
  have ak:(jh u (p6 K (x.1.st u) r.k r.t N) x).2.verts.length+(jh u (p6 K (x.1.st u) r.k r.t N) x).2.chgs.length+(qJ K (x.1.st u) r.k r.t N).length≤2 ^ 30:=by
   have:=t1.sz;unfold sz at this bf;omega
  have ki:sz (kc u (qJ K (x.1.st u) r.k r.t N) (jh u (p6 K (x.1.st u) r.k r.t N) x))+24≤2 ^ 30:=by
   have:=t1.sz;have:=t2.sz;omega
  generalize zH K (x.1.st u) r.k r.t=T at *
  obtain ⟨bP,bE⟩:∃ y,y=aa.push (bb.cells [V.int .i64 r.k,V.int .i64 N,V.int .i64 T] 38 none):=⟨_,rfl⟩
  have jA:J aa bP none_:=by rw [bE];exact J.push _ _ _
  have ft:bP.n=aa.n+1:=by rw [bE];rfl
  have aom:bP.get aa.n=bb.cells [V.int .i64 r.k,V.int .i64 N,V.int .i64 T] 38 none:=by rw [bE];exact cA
  simp only [af,Nat.reduceEqDiff,Nat.reduceAdd,reduceCtorEq,vH,m9]
  rw [←bE]
  clear bE
  refine cy E1 (Fy (k2.ba jA) u _ ak) fun q aC ⟨aw,l6,mR,k3⟩=>?_
  subst aw
  have aay:=(mR.al.get aa.n (by omega) (fun ab=>by
   unfold cx at ab
   rw [k2.aJ aa.n (Nat.le_refl _)] at ab
   exact k.l7 ab.1.symm)).trans aom
  simp only [af,Nat.reduceEqDiff,Nat.reduceAdd,reduceCtorEq,dQ,aay]
  refine cy Co (my ⟨r.k,N,T⟩ aC l6 _ k3 t2.inv ki) fun q bz ⟨aw,e4,e5,cz⟩=>?_
  subst aw
  simp only [af,om,Tryz.results187,ll]
  exact aF ⟨rfl,e4,fJ.step k.aJ bA (ub.trans ((fJ.step k2.aJ jA mR).trans e5)),cz⟩
end
theorem aaz (h:I):Pure Tryz.prog 56 [.c9] h (.bool true):=by
 refine ae.ax (c:=_) Tryz.func56 rfl (by kernel_rfl) (by simp) ?_
 simp only [af,Nat.reduceEqDiff,reduceCtorEq,Ww,aU,Tryz.results56,ac]
 exact aF ⟨rfl,rfl⟩
theorem aon (key:Int) (h:I):Pure Tryz.prog 52 [.c9,.int .i64 key] h (.int .i64 0):=by
 refine ae.ax (c:=_) Tryz.func52 rfl (by kernel_rfl) (by simp) ?_
 simp only [af,Nat.reduceEqDiff,reduceCtorEq]
 refine bU Cm (aaz _) ?_
 simp only [af,Nat.reduceEqDiff,aU,Tryz.results52,ac]
 exact aF ⟨rfl,rfl⟩
theorem aaA (m:Int) (h:I):Pure Tryz.prog 18 [.c9,.int .i64 m] h .an:=by
 refine ae.ax (c:=_) Tryz.func18 rfl (by kernel_rfl) (by simp) ?_
 simp only [af,Nat.reduceEqDiff,reduceCtorEq]
 refine bU Cm (aaz _) ?_
 simp only [af,Nat.reduceEqDiff,aU,Tryz.results18,ac]
 exact aF ⟨rfl,rfl⟩
theorem gg.qh {h h':I} {a6:dK} {id s m t:Nat} {b:At} {c:bp} {x:b3} (k:gg h a6 id s m b c x) (hk:J h h' (·=t)) (bq:a6 t=(0,0)):gg h' a6 id s m b c x:=by
 obtain ⟨cL,cp,cH,cM,U⟩:=k.od
 refine ⟨k.ev.al hk (fun q _ ab=>by subst ab;rw [bq];exact fun e=>k.l7 e.symm) fun _ _=>rfl,⟨cL,cp,cH,cM,U.al hk (fun q _ ab t2 _ _ e=>?_) fun _ _=>rfl⟩,fun q ad=>k.aJ q (Nat.le_trans hk.n ad),k.tY.al hk,k.l7⟩
 subst ab
 rw [bq] at e
 exact k.l7 (by simpa using (congrArg Prod.fst e).symm)
section
variable {id s m:Nat} {b:At} {c:bp}
theorem aoo {u:Nat} {v:bC} (aD:c.l[u]?=some v) (aq:v.a8.length=2) (wM:∀ f ∈ v.a8,0≤f) {snd:Rec→b3→b3}
  (my:∀ (y:Rec) (h:I) (a6:dK) (x:b3),gg h a6 id s m b c x→Inv c x→sz x+24≤2 ^ 30→ae Tryz.prog 76 [.ptr s 0,.int .i64 u,.agg (aI y)] h (kd id s m b c h a6 (snd y x)))
  {h:I} {a6:dK} {x:b3} (k:gg h a6 id s m b c x) (i:Inv c x) (bf:sz x+24≤2 ^ 30) (r:Rec) :
  ae Tryz.prog 188 [.ptr s 0,.int .i64 u,.agg (aI r)] h (kd id s m b c h a6 (yc c v u snd r x)):=by
 refine ae.ax (c:=_) Tryz.func188 rfl (by kernel_rfl) (by simp) ?_
 obtain ⟨cL,cp,cH,cM,U⟩:=k.od
 obtain ⟨H,hH⟩:∃ y,y=h.push (.cells (aI r) 38 none):=⟨_,rfl⟩
 have bA:J h H none_:=by rw [hH];exact J.push _ _ _
 have nd:H.get h.n=.cells (aI r) 38 none:=by rw [hH];exact cA
 have j9:H.n=h.n+1:=by rw [hH];rfl
 have hy:=k.ba bA
 have gs:=(U.ba bA).get
 have fG:=hy.ev.get
 rw [s3] at fG
 have ld:dv (some (some 3)) (some (aI r))=some (.agg (aI r)):=rfl
 have d0:dB (.cells (aI r) 38 none) 0=some (aI r):=rfl
 have aaB:dv (some none) (some (aI r))=some (.int .i64 r.k):=rfl
 obtain ⟨ja,ck⟩:=St (kk:=.i64) aD
 have zN:dv (some (some 6)) (some (ar v++ja))=some (.agg (ar v)):=nN (iA v)
 have jz:(V.agg (ar v)).cells=some (ar v):=rfl
 have Sv:bR (some 6) (bb.cells [V.int .i64 0,.an,.int .i64 0,.int .i64 0,.an,.int .i64 0] 29 none) 0 (ar v)=some (.cells (ar v) 29 none):=by
  obtain ⟨dx,aJ,⟨o,q,aE⟩,n⟩:=v
  rfl
 simp only [af,Nat.reduceEqDiff,reduceCtorEq,Cs,x0]
 rw [←hH]
 clear hH
 simp only [af,Nat.reduceEqDiff,Nat.reduceAdd,E2,lU,nS,kO,nW,pZ,gs,fG,ck,zN,jz,Sv]
 obtain ⟨bP,bE⟩:∃ y,y=H.push (.cells (ar v) 29 none):=⟨_,rfl⟩
 have jA:J H bP none_:=by rw [bE];exact J.push _ _ _
 have ft:bP.n=H.n+1:=by rw [bE];rfl
 have o2:bP.get H.n=.cells (ar v) 29 none:=by rw [bE];exact cA
 have dE:=hy.ba jA
 have qp:=(jA.get s (U.ba bA).lt (by simp [none_])).trans gs
 have tR:=dE.ev.get
 rw [s3] at tR
 have pK:=(jA.get h.n (by omega) (by simp [none_])).trans nd
 have LP:dB (.cells (ar v) 29 none) 1=some (.ai v.a8.length (aY v.a8)::(ay v.e++[.int .i64 v.n])):=rfl
 have aop:dB (.cells (ar v) 29 none) 2=some (ay v.e++[.int .i64 v.n]):=rfl
 have Ee:dv (some none) (some (.ai v.a8.length (aY v.a8)::(ay v.e++[.int .i64 v.n])))=some (.ai v.a8.length (aY v.a8)):=rfl
 have oS:dv (some (some 3)) (some (ay v.e++[.int .i64 v.n]))=some (.agg (ay v.e)):=nN (ot v.e)
 have ef:v.a8.getD 1 0=v.a8[1]:=by rw [List.getD,List.getElem?_eq_getElem (by omega)];rfl
 have dW:∃ t,hA Tryz.prog 24 (.ai v.a8.length (aY v.a8)) (.int .i64 1)=some (.at (.int .i64 (v.a8.getD 1 0)::t)):=⟨_,by rw [ef];exact tk (P:=Tryz.prog) (kk:=.i64) (k:=1) (by omega) mF⟩
 obtain ⟨aoq,dW⟩:=dW
 have apV:0≤v.a8.getD 1 0:=by rw [ef];exact wM _ (List.getElem_mem _)
 obtain ⟨w,hw⟩:∃ w:Nat,v.a8.getD 1 0=(w:Int):=⟨(v.a8.getD 1 0).toNat,by omega⟩
 rw [hw] at dW
 have cN:c.table v r.k x.1=(match c.dx w with | some K=>zI K (x.1.st w) r.k | none=>0):=by unfold bp.table;rw [hw];rfl
 have rl:∃ a,mD Tryz.prog 144 (.map b.mp) (.int .i64 (w:Int)) false bP=some a∧∀ h',J bP h' none_∨h'=bP→Pure Tryz.prog 52 [a,.int .i64 r.k] h' (.int .i64 (c.table v r.k x.1)):=by
  have la:=lookup_int (P:=Tryz.prog) (ok:=false) (k:=(w:Int)) Hq K6 dE.ev.map
  cases bQ:c.dx w with
  | none=>
   rw [dE.ev.none w bQ] at la
   refine ⟨.c9,la,fun h' _=>?_⟩
   rw [cN,bQ]
   exact aon r.k h'
  | some K=>
   obtain ⟨a,O,x6,cn,cO,fg,_,_⟩:=dE.ev.some w K bQ
   rw [cn] at la
   refine ⟨.ptr a 0,la,fun h' hk=>?_⟩
   rw [cN,bQ]
   exact am8 (aax fg hk) r.k
 obtain ⟨aqo,la,rl⟩:=rl
 have qB:∀ y,y=yc c v u snd r x→y=(if cY v.e=true then (match cE r.k r.v r.t (c.table v r.k x.1) 16 v.e with | some n=>snd ⟨r.k,n,r.t⟩ x | none=>pa u r 10 x) else pa u r 1 x):=fun y bd=>bd
 obtain ⟨Y,o0⟩:∃ Y,Y=yc c v u snd r x:=⟨_,rfl⟩
 have qB:=qB Y o0
 rw [←o0]
 clear o0
 generalize c.table v r.k x.1=T at cN rl qB
 rw [←bE]
 clear bE
 refine aX.bk none_ [] (.q 0 (.q 1 (.q 2 (.q 3 (.q 4 (.q 5 (.q 6 (.q 7 (.q 8 (.q 9 (.q 10 (.q 11 (.q 12 (.q 13 (.q 14 (.q 15 (.q 16 (.c 17 (.c 18 (.q 19 (.q 20 (.q 21 (.q 22 (.q 23 .done)))))))))))))))))))))))) (by kernel_rfl) (by kernel_rfl) (by kernel_rfl) ?_
 simp only [af,bN,Nat.reduceEqDiff,Nat.reduceAdd,Nat.reduceLeDiff,reduceCtorEq,Cr,Cs,qE,co,vK,Cy,bx,mW,fh,bn,dQ,x0,qp,tR,pK,o2,LP,aop,Ee,oS,dW,la,ld,d0,aaB]
 refine ix rfl rfl rfl (fun h' hk=>rl h' hk) ?_
 simp only [bN]
 refine ix rfl rfl rfl (fun h' hk=>aag v.e r.k r.v r.t T h' (hk.elim (fun q=>dE.tY.al q) fun e=>by rw [e];exact dE.tY)) ?_
 unfold Ed
 have qg:=LO bf
 have NS:fJ id h a6 bP a6:=fJ.step k.aJ bA (fJ.push hy.aJ jA)
 have fail:∀ (e:Int),Y=pa u r e x→e≠0→∀ h',kd id s m b c bP a6 (pa u r e x) (.tuple []) h'→kd id s m b c h a6 Y (.tuple []) h':=fun e bd _ h' ⟨_,l6,mR,k3⟩=>⟨rfl,l6,NS.trans mR,by rw [bd];exact k3⟩
 cases hm:cY v.e with
 | false=>
  rw [hm] at qB
  rw [if_neg (by decide)] at qB⊢
  have ec:((1:Int) !=0)=true:=rfl
  simp only [af,bN,Nat.reduceEqDiff,reduceCtorEq,dQ,pK,ld,d0,ec]
  refine cy Cn (Dm dE u r 1 qg) fun q aC a7=>?_
  obtain ⟨aw,vq⟩:=a7
  subst aw
  simp only [af,aU,Tryz.results188,ll]
  exact aF (fail 1 qB (by decide) aC ⟨rfl,vq⟩)
 | true=>
  rw [hm] at qB
  rw [if_pos rfl] at qB⊢
  cases NT:cE r.k r.v r.t T 16 v.e with
  | none=>
   rw [NT] at qB
   unfold n0
   have ec:((10:Int) !=0)=true:=rfl
   simp only [af,bN,Nat.reduceEqDiff,reduceCtorEq,dQ,pK,ld,d0,ec]
   refine cy Cn (Dm dE u r 10 qg) fun q aC a7=>?_
   obtain ⟨aw,vq⟩:=a7
   subst aw
   simp only [af,aU,Tryz.results188,ll]
   exact aF (fail 10 qB (by decide) aC ⟨rfl,vq⟩)
  | some N=>
   rw [NT] at qB
   unfold n0
   have ec:((0:Int) !=0)=false:=rfl
   have aaC:(if 2≤(aI r).length then some (bb.cells ((aI r).set 1 (V.int IntKind.i64 N)) 38 none) else none)=some (.cells (aI ⟨r.k,N,r.t⟩) 38 none):=rfl
   obtain ⟨h5,gG⟩:∃ y,y=bP.set h.n (.cells (aI ⟨r.k,N,r.t⟩) 38 none):=⟨_,rfl⟩
   have eQ:J bP h5 (·=h.n):=by rw [gG];exact J.set _ _ _
   have g5:h5.get h.n=.cells (aI ⟨r.k,N,r.t⟩) 38 none:=by rw [gG];exact aP
   have nY:=dE.qh eQ (k.aJ h.n (Nat.le_refl _))
   have sr:fJ id h a6 h5 a6:=⟨fun _ _=>rfl,NS.al.trans eQ (fun q ad ab=>by omega),nY.aJ,trivial⟩
   have d5:dB (.cells (aI ⟨r.k,N,r.t⟩) 38 none) 0=some (aI ⟨r.k,N,r.t⟩):=rfl
   have aaD:dv (some (some 3)) (some (aI ⟨r.k,N,r.t⟩))=some (.agg (aI ⟨r.k,N,r.t⟩)):=rfl
   simp only [af,bN,Nat.reduceEqDiff,Nat.reduceAdd,reduceCtorEq,Hm,dQ,rr,pK,aaC,d5,aaD]
   rw [←gG]
   clear gG
   refine cy Co (my ⟨r.k,N,r.t⟩ h5 a6 x nY i bf) fun q bz ⟨aw,e4,e5,cz⟩=>?_
   subst aw
   simp only [af,om,Tryz.results188,ll]
   exact aF ⟨rfl,e4,sr.trans e5,by rw [qB];exact cz⟩
end
structure hO (c:bp):Prop where
 yO:(c1 c.p c.l).2=0
 ok:l4 c.l
theorem hO.len {c:bp} (o:hO c):c.l.length≤24:=(Fv o.yO).2.2.1
theorem hO.dV {c:bp} (o:hO c) {u:Nat} {v:bC} (aD:c.l[u]?=some v):(1≤v.kind∧v.kind≤10)∧(∀ f ∈ v.a8,0≤f)∧kb v=true:=by
 obtain ⟨h1,_,aC,bz⟩:=(Fv o.yO).2.2.2 v (List.mem_of_getElem? aD)
 exact ⟨h1,fun f aq=>(aC f aq).1,bz⟩
theorem aor {v:bC} (h:kb v=true) (hk:v.kind=9):v.a8.length=2:=by
 unfold kb at h
 rw [hk] at h
 have:ky.getD (9:Int).toNat (0,0,0,0)=(2,2,0,0):=by decide
 rw [this] at h
 simp only [tS,Bool.and_eq_true,decide_eq_true_eq] at h
 omega
theorem aaE {v:bC} (h:kb v=true) (hk:v.kind=6∨v.kind=7∨v.kind=8):(∃ K,oP v.kind v.n=some K)∧cY v.e=true:=by
 unfold kb at h
 have G5:ky.getD (6:Int).toNat (0,0,0,0)=(1,2,0,0):=by decide
 have x2:ky.getD (7:Int).toNat (0,0,0,0)=(1,2,1,1048576):=by decide
 have zr:ky.getD (8:Int).toNat (0,0,0,0)=(1,2,1,1048576):=by decide
 rcases hk with hk | hk | hk
 ·rw [hk,G5] at h
  simp [tS,ya] at h
  exact ⟨⟨.kv,by unfold oP;rw [if_pos hk]⟩,h.2.1⟩
 ·rw [hk,x2] at h
  simp [tS,ya] at h
  exact ⟨⟨.de v.n,by unfold oP;rw [if_neg (by omega),if_pos hk,if_pos (by omega)]⟩,h.2.1⟩
 ·rw [hk,zr] at h
  simp [tS,ya] at h
  exact ⟨⟨.dZ v.n,by unfold oP;rw [if_neg (by omega),if_neg (by omega),if_pos hk,if_pos (by omega)]⟩,h.2.1⟩
theorem hO.dx {c:bp} (o:hO c) {u:Nat} {v:bC} (aD:c.l[u]?=some v) (lP:c.P[u]?=some c.part) (hk:v.kind=6∨v.kind=7∨v.kind=8):∃ K,c.dx u=some K:=by
 obtain ⟨⟨K,h1⟩,_⟩:=aaE (o.dV aD).2.2 hk
 exact ⟨K,by unfold bp.dx;rw [if_pos lP,aD];exact h1⟩
theorem gg.inc {h h':I} {a6:dK} {id s m:Nat} {b:At} {c:bp} {x:b3} (k:gg h a6 id s m b c x) {cL cp cH cM:V} (U:iW h a6 id s m x.2 cL cp cH cM) (hk:J h h' (·=s))
  (g:h'.get s=.cells [.ptr m 0,cL,cp,cH,cM,.int .i64 ((x.2.n+1:Nat):Int)] 149 none):fJ id h a6 h' a6∧gg h' a6 id s m b c (c6 x)∧iW h' a6 id s m (c6 x).2 cL cp cH cM:=by
 have ap:∀ {q t},a6 q=(id,t)→t≠5→¬(q=s):=fun {q t} aR bY ab=>by
  subst ab
  rw [U.own] at aR;simp at aR;omega
 have er:iW h' a6 id s m (c6 x).2 cL cp cH cM:=⟨Nat.lt_of_lt_of_le U.lt hk.n,g,U.own,
  U.o.al hk fun q ad=>ap (U.lz q (eA.2 ad)) (by decide),U.v.al hk fun q ad=>ap (U.cp q (eA.2 ad)) (by decide),U.c.al hk fun q ad=>ap (U.cc q (eA.2 ad)) (by decide),U.d.al hk fun q ad=>ap (U.mf q (eA.2 ad)) (by decide),U.lz,U.cp,U.cc,U.mf⟩
 have bI:Fr h' a6:=fun q ad=>k.aJ q (Nat.le_trans hk.n ad)
 have j8:∀ q,q<h.n→q=s→∃ t,a6 q=(id,t)∧5≤t∧t≤9:=fun q ad ab=>by subst ab;exact ⟨5,U.own,by omega,by omega⟩
 exact ⟨⟨fun _ _=>rfl,hk.mono fun q ad=>by subst ad;unfold cx;rw [U.own];exact ⟨rfl,Nat.le_refl _⟩,bI,trivial⟩,⟨k.ev.part hk j8 fun _ _=>rfl,⟨_,_,_,_,er⟩,bI,k.tY.al hk,k.l7⟩,er⟩
end Go.Proofs.YtedkjhifbibpmaaGreatDoor.Pk
