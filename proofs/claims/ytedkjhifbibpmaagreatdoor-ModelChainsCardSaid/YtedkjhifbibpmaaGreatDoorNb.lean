/-
  What functions of the program do, told of abstract states. Conditions: as each theorem says.
-/
import Derived.Test.YtedkjhifbibpmaaGreatDoorNa
import Derived.Test.YtedkjhifbibpmaaGreatDoorAcD
set_option linter.unusedVariables false
set_option linter.unusedSimpArgs false
set_option maxHeartbeats 4000000
set_option maxRecDepth 10000
namespace Go.Proofs.YtedkjhifbibpmaaGreatDoor.Pk
open Go Go.Proofs Go.Proofs.YtedkjhifbibpmaaGreatDoor.Ab
mutual
def cP:bG→List Nat
 | .mk o n l=>enc o.toNat++(if o=1 then enc (jM n) else [])++AY l
def AY:List bG→List Nat
 | []=>[]
 | k::r=>cP k++AY r
end
theorem Xj:∀ l:List bG,AY l=l.flatMap cP
 | []=>by rw [AY];rfl
 | k::r=>by rw [AY,Xj r];rfl
theorem Fb (o n:Int) (l:List bG):cP (.mk o n l)=enc o.toNat++(if o=1 then enc (jM n) else [])++l.flatMap cP:=by rw [cP,Xj]
theorem Xk:∀ a b:List bG,eK (a++b)=eK a+eK b
 | [],b=>by rw [List.nil_append,eK];omega
 | k::a,b=>by rw [List.cons_append,eK,eK,Xk a b];omega
theorem Xl {l:List bG} {i:Nat} (hi:i<l.length):eK (l.take i)+et l[i]≤eK l:=by
 have h1:=WZ hi
 have aa:=Xk (l.take (i+1)) (l.drop (i+1))
 rw [List.take_append_drop] at aa
 omega
theorem Le:∀ l:List bG,(∀ k ∈ l,(cP k).length≤20 * et k)→(l.flatMap cP).length≤20 * eK l
 | [],_=>Nat.zero_le _
 | k::r,h=>by
  have h1:=h k (by simp)
  have aa:=Le r fun x ag=>h x (by simp [ag])
  rw [List.flatMap_cons,List.length_append,eK]
  omega
theorem QG:∀ (s:Nat) (e:bG),et e=s→fP e→(cP e).length≤20 * et e:=by
 intro s
 induction s using Nat.strongRecOn with
 | _ s ih=>
 intro e U a1
 have hk:∀ k ∈ e.aE,(cP k).length≤20 * et k:=fun k hk=>ih (et k) (by have:=Qt k hk;omega) k rfl (a1.AV k hk)
 cases a1 with
 | mk o n l az ab aR aG=>
  have h1:=pC o.toNat (by omega)
  have aa:=pC (jM n) (m8 n aG.1 aG.2)
  have aC:=Le l hk
  rw [Fb,List.length_append,List.length_append,et]
  split
  ·omega
  ·simp only [List.length_nil];omega
theorem w8 (e:bG):(V.agg (ay e)).cells=some (ay e):=rfl
theorem AZ (e:bG):bR (some 3) (bb.cells [V.int .i64 0,V.int .i64 0,V.an] 27 none) 0 (ay e)=some (.cells (ay e) 27 none):=by cases e;rfl
theorem Fc (e:bG):(if 3≤(ay e).length then some (V.agg (List.take 3 (ay e))) else none)=some (.agg (ay e)):=by cases e;rfl
theorem akM (o n:Int) (aE:List bG):dB (bb.cells (ay (.mk o n aE)) 27 none) 0=some [.int .i64 o,.int .i64 n,.ai aE.length (aE.flatMap ay)]:=by rw [jv];rfl
theorem akN (o n:Int) (aE:List bG):dB (bb.cells (ay (.mk o n aE)) 27 none) 1=some [.int .i64 n,.ai aE.length (aE.flatMap ay)]:=by rw [jv];rfl
theorem akO (o n:Int) (aE:List bG):dB (bb.cells (ay (.mk o n aE)) 27 none) 2=some [.ai aE.length (aE.flatMap ay)]:=by rw [jv];rfl
theorem QH (A:bG) (q:List V):dv (some (some 3)) (some (ay A++q))=some (.agg (ay A)):=nN (ot A)
theorem QI:∀ (d:Nat) (e:bG) (h:I) (x:V) (cs:List Nat),tH d e→fP e→Rd h x cs→cs.length+20 * et e≤2 ^ 40→Pure Tryz.prog 105 [x,.agg (ay e)] h (.ai (cs++cP e).length (e7 (cs++cP e)))
 | 0,e,h,x,cs,a7,_,_,_=>a7.zero.elim
 | d+1,e,h,x,cs,a7,a1,rd,ak=>by
  obtain ⟨aq,dw⟩:=a7.fits
  have sP:=a1.AV
  have ib:∀ k ∈ e.aE,(cP k).length≤20 * et k:=fun k hk=>QG _ k rfl (sP k hk)
  obtain ⟨o,n,aE⟩:=e
  obtain ⟨_,qS,ni⟩:=Qs aq
  have aG:-2 ^ 63≤n∧n<2 ^ 63:=by cases a1;assumption
  have hlen:=a1.len
  simp only [bG.aE] at dw sP hlen ib
  obtain ⟨k,rfl⟩:∃ k:Nat,o=k:=⟨o.toNat,by omega⟩
  have bK:=pC (jM n) (m8 n aG.1 aG.2)
  have apJ:=pC k (by omega)
  rw [et] at ak
  refine Pure.val (bj.ai (AW _)) ?_
  obtain ⟨oL,uL⟩:∃ m,m=cs++enc k++(if (k:Int)=1 then enc (jM n) else []):=⟨_,rfl⟩
  have mn:cs++cP (.mk k n aE)=oL++aE.flatMap cP:=by rw [uL,Fb];simp
  have fL:oL.length≤cs.length+20:=by
   rw [uL,List.length_append,List.length_append]
   split
   ·omega
   ·simp only [List.length_nil];omega
  rw [mn]
  refine ae.ax (c:=_) Tryz.func105 rfl (by kernel_rfl) (by simp) ?_
  have au:=w8 (.mk k n aE)
  have fF:=akM k n aE
  have jN:=akN k n aE
  have jm:=akO k n aE
  have uM:IntKind.u64.wrap (k:Int)=(k:Int):=O1 (by omega)
  obtain ⟨H,hH⟩:∃ y,y=h.push (.cells (ay (.mk k n aE)) 27 none):=⟨_,rfl⟩
  have jL:H.get h.n=.cells (ay (.mk k n aE)) 27 none:=by rw [hH];exact cA
  have bA:J h H none_:=by rw [hH];exact J.push _ _ _
  simp only [af,Nat.reduceEqDiff,reduceCtorEq,nv,bn,au,fF,lR iB mY,uM]
  rw [←hH]
  clear hH
  refine bU KO (Lb x cs k H (rd.al bA) (by omega) (by omega)) ?_
  by_cases h1:(k:Int)=1
  ·have bh:((k:Int)==1)=true:=by simpa using h1
   have m1:cs++enc k++enc (jM n)=oL:=by rw [uL,if_pos h1]
   simp only [af,Nat.reduceEqDiff,reduceCtorEq,nv,E3,bx,bn,jL,fF,jN,bh]
   refine bU VY (HB _ (cs++enc k) n H (Rd.ai _ _) (by rw [List.length_append];omega) aG.1 aG.2) ?_
   rw [m1]
   simp only [af,Nat.reduceEqDiff,reduceCtorEq,pz,uF,qG,jL,jm]
   refine aX.b9 (α:=Nat) (fun i f h'=>f 0=.ai (oL++(aE.take i).flatMap cP).length (e7 (oL++(aE.take i).flatMap cP))∧f 20=.ai aE.length (aE.flatMap ay)∧f 21=.int .i64 ((aE.length:Nat):Int)∧f 22=.int .i64 (i:Nat)∧i≤aE.length∧J h h' none_) (fun i=>aE.length - i) 0
    ⟨(show V.ai _ _=_ by simp),rfl,rfl,rfl,Nat.zero_le _,bA⟩ ?_
   rintro i f h1 ⟨f0,f20,f21,f22,hi,bB⟩
   refine am (by kernel_rfl) ?_
   by_cases aN:i<aE.length
   ·have d1:decide ((i:Int)<((aE.length:Nat):Int))=true:=decide_eq_true (by omega)
    have hw:IntKind.i64.wrap (((i:Nat):Int)+1)=((i+1:Nat):Int):=by rw [Go.IntWalk.i64_in _ (by omega)];omega
    have ck:=EV (kk:=.i64) aN
    have bf:=Xl aN
    have j0:=Le (aE.take i) fun k hk=>ib k (List.mem_of_mem_take hk)
    have lv:(aE.take (i+1)).flatMap cP=(aE.take i).flatMap cP++cP aE[i]:=by rw [List.take_succ_eq_append_getElem aN,List.flatMap_append];simp
    have w9:aE[i] ∈ aE:=List.getElem_mem aN
    generalize aE[i]=A at ck bf lv w9
    have HD:=dw A w9
    have ku:=sP A w9
    have kS:=QH A
    have qI:=w8 A
    have st:=AZ A
    have jo:=Fc A
    have dk:(oL++(aE.take i).flatMap cP).length=oL.length+((aE.take i).flatMap cP).length:=List.length_append
    simp only [af,Nat.reduceEqDiff,reduceCtorEq,fh,ov,mZ,f0,f20,f21,f22,d1,ck,kS,qI,st,jo]
    refine bU P3 (QI d A _ _ _ HD ku (Rd.ai _ _) (by omega)) ?_
    rw [List.append_assoc,←lv]
    simp only [af,Nat.reduceEqDiff,reduceCtorEq,f22,hw]
    exact aF ⟨i+1,⟨rfl,f20,f21,rfl,aN,bB.bg _⟩,by omega⟩
   ·have d1:decide ((i:Int)<((aE.length:Nat):Int))=false:=decide_eq_false (by omega)
    rw [List.take_of_length_le (by omega)] at f0
    simp only [af,Nat.reduceEqDiff,reduceCtorEq,f0,f21,f22,d1,aU,Tryz.results105,ac]
    exact aF ⟨rfl,bB⟩
  ·have bh:((k:Int)==1)=false:=by simpa using h1
   have m1:cs++enc k=oL:=by rw [uL,if_neg h1,List.append_nil]
   rw [m1]
   simp only [af,Nat.reduceEqDiff,reduceCtorEq,nv,pz,uF,qG,bn,jL,fF,jm,bh]
   refine aX.b9 (α:=Nat) (fun i f h'=>f 0=.ai (oL++(aE.take i).flatMap cP).length (e7 (oL++(aE.take i).flatMap cP))∧f 20=.ai aE.length (aE.flatMap ay)∧f 21=.int .i64 ((aE.length:Nat):Int)∧f 22=.int .i64 (i:Nat)∧i≤aE.length∧J h h' none_) (fun i=>aE.length - i) 0
    ⟨(show V.ai _ _=_ by simp),rfl,rfl,rfl,Nat.zero_le _,bA⟩ ?_
   rintro i f h1 ⟨f0,f20,f21,f22,hi,bB⟩
   refine am (by kernel_rfl) ?_
   by_cases aN:i<aE.length
   ·have d1:decide ((i:Int)<((aE.length:Nat):Int))=true:=decide_eq_true (by omega)
    have hw:IntKind.i64.wrap (((i:Nat):Int)+1)=((i+1:Nat):Int):=by rw [Go.IntWalk.i64_in _ (by omega)];omega
    have ck:=EV (kk:=.i64) aN
    have bf:=Xl aN
    have j0:=Le (aE.take i) fun k hk=>ib k (List.mem_of_mem_take hk)
    have lv:(aE.take (i+1)).flatMap cP=(aE.take i).flatMap cP++cP aE[i]:=by rw [List.take_succ_eq_append_getElem aN,List.flatMap_append];simp
    have w9:aE[i] ∈ aE:=List.getElem_mem aN
    generalize aE[i]=A at ck bf lv w9
    have HD:=dw A w9
    have ku:=sP A w9
    have kS:=QH A
    have qI:=w8 A
    have st:=AZ A
    have jo:=Fc A
    have dk:(oL++(aE.take i).flatMap cP).length=oL.length+((aE.take i).flatMap cP).length:=List.length_append
    simp only [af,Nat.reduceEqDiff,reduceCtorEq,fh,ov,mZ,f0,f20,f21,f22,d1,ck,kS,qI,st,jo]
    refine bU P3 (QI d A _ _ _ HD ku (Rd.ai _ _) (by omega)) ?_
    rw [List.append_assoc,←lv]
    simp only [af,Nat.reduceEqDiff,reduceCtorEq,f22,hw]
    exact aF ⟨i+1,⟨rfl,f20,f21,rfl,aN,bB.bg _⟩,by omega⟩
   ·have d1:decide ((i:Int)<((aE.length:Nat):Int))=false:=decide_eq_false (by omega)
    rw [List.take_of_length_le (by omega)] at f0
    simp only [af,Nat.reduceEqDiff,reduceCtorEq,f0,f21,f22,d1,aU,Tryz.results105,ac]
    exact aF ⟨rfl,bB⟩
theorem akP {e:bG} (hm:cY e=true):tH 16 e:=by
 unfold cY at hm
 cases au:gW 16 64 e with
 | none=>rw [au] at hm;cases hm
 | some c=>exact ⟨64,c,au⟩
def jc (e:bG):List Nat:=if cY e=true then cP e else []
def rz (e:bG):V:=.tuple [.ai (jc e).length (e7 (jc e)),.int .i64 (if cY e=true then 0 else 1)]
theorem akQ (e:bG):bj (rz e):=bj.tuple (bo.cons (bj.ai (AW _)) (bo.cons (bj.int _ _) bo.nil))
theorem QJ {e:bG} (h:cY e=true):et e≤64:=by
 unfold cY at h
 rw [La] at h
 split at h
 ·rename_i ab;exact ab.2
 ·cases h
theorem QK (e:bG) (a1:fP e) (h:I) (av:ga h):Pure Tryz.prog 53 [.agg (ay e)] h (rz e):=by
 refine Pure.of (akQ e) ?_
 refine ae.ax (c:=_) Tryz.func53 rfl (by kernel_rfl) (by simp) ?_
 have au:=w8 e
 have jo:=Fc e
 have pA:dB (bb.cells (ay e) 27 none) 0=some (ay e):=by cases e;rfl
 have kX:dv (some (some 3)) (some (ay e))=some (.agg (ay e)):=by cases e;rfl
 have ef:∀ a,ga (h.push a):=fun a=>by unfold ga;rw [EC];exact av
 simp only [af,Nat.reduceEqDiff,fh,au,pA,kX]
 refine bU P2 (CD e _ (ef _)) ?_
 unfold rz jc
 cases hm:cY e
 ·simp only [af,Nat.reduceEqDiff,aU,Tryz.results53,dn]
  exact aF ⟨_,aM.tuple (aB.cons (aM.kD _) (aB.refl _ _)),J.push _ _ _⟩
 ·have bf:=QJ hm
  simp only [af,Nat.reduceEqDiff,fh,pA,kX]
  refine bU P3 (QI 16 e _ .an [] (akP hm) a1 (Rd.an _) (by simp only [List.length_nil];omega)) ?_
  simp only [af,Nat.reduceEqDiff,aU,Tryz.results53,dn]
  exact aF ⟨_,aM.refl _ _,J.push _ _ _⟩
abbrev Fe:=Except Nat (bG×List Nat×Nat)
def mI (f:Nat→List Nat→Fe):Nat→Nat→List Nat→Except Nat (List bG×List Nat×Nat)
 | 0,left,ao=>.ok ([],ao,left)
 | m+1,left,ao=>match f left ao with
  | .error e=>.error e
  | .ok (k,gY,hE)=>match mI f m hE gY with
   | .error e=>.error e
   | .ok (aE,r)=>.ok (k::aE,r)
def dz:Nat→Nat→List Nat→Fe
 | 0,_,_=>.error 11
 | d+1,left,ao=>
  if left=0 then .error 11
  else if (dec ao 0 0).2.2≠0 then .error (dec ao 0 0).2.2
  else if (dec ao 0 0).1<1∨16<(dec ao 0 0).1 then .error 5
  else if (dec ao 0 0).1=1 then
   if (dec (ao.drop (dec ao 0 0).2.1) 0 0).2.2≠0 then .error (dec (ao.drop (dec ao 0 0).2.1) 0 0).2.2
   else .ok (.mk 1 (fQ (dec (ao.drop (dec ao 0 0).2.1) 0 0).1) [],(ao.drop (dec ao 0 0).2.1).drop (dec (ao.drop (dec ao 0 0).2.1) 0 0).2.1,left - 1)
  else match mI (dz d) (w3 (dec ao 0 0).1).toNat (left - 1) (ao.drop (dec ao 0 0).2.1) with
   | .error e=>.error e
   | .ok (aE,r)=>.ok (.mk (dec ao 0 0).1 0 aE,r)
theorem y6 (n:Nat) (aG:n<2 ^ 64):jM (fQ n)=n:=by
 unfold jM fQ
 split<;>split<;>omega
theorem xa {ao:List Nat} (ak:∀ b ∈ ao,b<256) (h:(dec ao 0 0).2.2=0):ao=enc (dec ao 0 0).1++ao.drop (dec ao 0 0).2.1∧(dec ao 0 0).1<2 ^ 64:=by
 refine ⟨?_,dec_lt ao 0 0 (by omega) (by decide) ak⟩
 obtain ⟨h1,x,aa,aC,_⟩:=QD ao 0 0 (dec ao 0 0).1 (dec ao 0 0).2.1 ak (Prod.ext rfl (Prod.ext rfl h))
 have ag:x=(dec ao 0 0).1:=by rw [aa];simp
 rw [ag,Nat.sub_zero] at aC
 rw [←aC,List.take_append_drop]
structure MU (d left:Nat) (ao:List Nat) (e:bG) (gY:List Nat) (hE:Nat):Prop where
 tJ:ao=cP e++gY
 sz:hE+et e=left
 deep:qH d e=true
 ok:fP e
theorem Xm {d:Nat} {f:Nat→List Nat→Fe} (aq:∀ left ao,(∀ b ∈ ao,b<256)→∀ e gY hE,f left ao=.ok (e,gY,hE)→MU d left ao e gY hE) :
  ∀ (m left:Nat) (ao:List Nat),(∀ b ∈ ao,b<256)→∀ aE gY hE,mI f m left ao=.ok (aE,gY,hE)→aE.length=m∧ao=aE.flatMap cP++gY∧hE+eK aE=left∧(∀ k ∈ aE,qH d k=true)∧∀ k ∈ aE,fP k
 | 0,left,ao,ak,aE,gY,hE,h=>by
  simp only [mI,Except.ok.injEq,Prod.mk.injEq] at h
  obtain ⟨rfl,rfl,rfl⟩:=h
  exact ⟨rfl,rfl,by simp [eK],by simp,by simp⟩
 | m+1,left,ao,ak,aE,gY,hE,h=>by
  unfold mI at h
  split at h
  ·cases h
  ·rename_i k jq ey hk
   have g:=aq left ao ak k jq ey hk
   have iK:∀ b ∈ jq,b<256:=fun b vm=>ak b (by rw [g.tJ];simp [vm])
   split at h
   ·cases h
   ·rename_i Xn r ib
    obtain ⟨tK,dm⟩:=r
    simp only [Except.ok.injEq,Prod.mk.injEq] at h
    obtain ⟨rfl,rfl,rfl⟩:=h
    obtain ⟨h1,aa,aC,bz,bY⟩:=Xm aq m ey jq iK Xn tK dm ib
    refine ⟨by simp [h1],?_,?_,?_,?_⟩
    ·rw [g.tJ,aa];simp
    ·rw [eK];have:=g.sz;omega
    ·intro x ag
     rcases List.mem_cons.1 ag with rfl | ag
     ·exact g.deep
     ·exact bz x ag
    ·intro x ag
     rcases List.mem_cons.1 ag with rfl | ag
     ·exact g.ok
     ·exact bY x ag
theorem Lf (o:Int):0≤w3 o∧w3 o≤3:=by unfold w3;split<;>(try split)<;>(try split)<;>omega
theorem Lg:∀ (d left:Nat) (ao:List Nat),(∀ b ∈ ao,b<256)→∀ e gY hE,dz d left ao=.ok (e,gY,hE)→MU d left ao e gY hE
 | 0,left,ao,ak,e,gY,hE,h=>by simp [dz] at h
 | d+1,left,ao,ak,e,gY,hE,h=>by
  unfold dz at h
  split at h
  ·cases h
  rename_i az
  split at h
  ·cases h
  rename_i he
  split at h
  ·cases h
  rename_i aH
  obtain ⟨a7,aN⟩:=xa ak (by simpa using he)
  have iK:∀ b ∈ ao.drop (dec ao 0 0).2.1,b<256:=fun b vm=>ak b (List.mem_of_mem_drop vm)
  generalize (dec ao 0 0).1=o at *
  generalize ao.drop (dec ao 0 0).2.1=jq at *
  split at h
  ·rename_i aR
   split at h
   ·cases h
   rename_i sa
   obtain ⟨jm,ir⟩:=xa iK (by simpa using sa)
   simp only [Except.ok.injEq,Prod.mk.injEq] at h
   obtain ⟨rfl,rfl,rfl⟩:=h
   have hu:=Xe _ ir
   refine ⟨?_,by simp only [et,eK];omega,?_,.mk _ _ _ (by simp) (by simp) (by omega) hu⟩
   ·rw [Fb,if_pos rfl,y6 _ ir]
    conv=>lhs;rw [a7,jm,aR]
    simp
   ·simp [qH,lV,dq,bG.aE]
  ·rename_i aR
   split at h
   ·cases h
   rename_i aE r hk
   obtain ⟨tK,dm⟩:=r
   simp only [Except.ok.injEq,Prod.mk.injEq] at h
   obtain ⟨rfl,rfl,rfl⟩:=h
   obtain ⟨h1,aa,aC,bz,bY⟩:=Xm (Lg d) _ _ _ iK aE tK dm hk
   have DH:=Lf (o:Int)
   have fU:=Qu (o:=(o:Int)) (by omega) (by omega)
   refine ⟨?_,by rw [et];omega,?_,.mk _ _ _ (by omega) bY (by omega) (by omega)⟩
   ·rw [Fb,if_neg (by omega)]
    conv=>lhs;rw [a7,aa]
    simp
   ·have eW:lV (.mk (o:Int) 0 aE)=true:=by
     simp only [lV,Bool.and_eq_true,Bool.or_eq_true,decide_eq_true_eq]
     exact ⟨⟨by omega,by omega⟩,by rw [fU];omega,by simp⟩
    rw [qH,eW,Bool.true_and,List.all_eq_true]
    exact bz
theorem Xo {d:Nat} {f:Nat→List Nat→Fe} (r:List Nat):∀ (aE:List bG) (left:Nat),(∀ k ∈ aE,∀ left r,et k≤left→f left (cP k++r)=.ok (k,r,left - et k))→eK aE≤left→mI f aE.length left (aE.flatMap cP++r)=.ok (aE,r,left - eK aE)
 | [],left,_,_=>by simp [mI,eK]
 | k::aE,left,aq,az=>by
  rw [eK] at az
  rw [List.length_cons,mI,List.flatMap_cons,List.append_assoc,aq k (by simp) left _ (by omega)]
  simp only
  rw [Xo (d:=d) r aE (left - et k) (fun x ag=>aq x (by simp [ag])) (by omega)]
  simp only [eK,Nat.sub_sub]
theorem Xp:∀ (d left:Nat) (e:bG) (r:List Nat),qH d e=true→fP e→et e≤left→dz d left (cP e++r)=.ok (e,r,left - et e)
 | 0,left,e,r,a7,_,_=>by simp [qH] at a7
 | d+1,left,e,r,a7,a1,az=>by
  have sP:=a1.AV
  rw [qH,Bool.and_eq_true,List.all_eq_true] at a7
  obtain ⟨aq,hk⟩:=a7
  obtain ⟨o,n,aE⟩:=e
  obtain ⟨h1,aa,aC⟩:=Qs aq
  have aG:-2 ^ 63≤n∧n<2 ^ 63:=by cases a1;assumption
  obtain ⟨o,rfl⟩:∃ k:Nat,o=k:=⟨o.toNat,by omega⟩
  have fU:=Qu (o:=(o:Int)) (by omega) (by omega)
  simp only [bG.aE] at hk sP
  rw [et] at az⊢
  have L5:n=0∨o=1:=by
   simp only [lV,Bool.and_eq_true,Bool.or_eq_true,decide_eq_true_eq] at aq
   omega
  rw [Fb,Int.toNat_natCast]
  unfold dz
  rw [if_neg (by omega)]
  by_cases aR:o=1
  ·subst aR
   have ib:aE=[]:=by
    have:dq.getD (((1:Nat):Int)).toNat 0=0:=by decide
    rw [this] at h1
    exact List.eq_nil_of_length_eq_zero (by omega)
   subst ib
   have aw:enc 1++(if (((1:Nat):Int))=1 then enc (jM n) else [])++([]:List bG).flatMap cP++r=enc 1++(enc (jM n)++r):=by simp
   rw [aw,x3 1 (by decide)]
   simp only [List.drop_left,ne_eq,not_true,if_false]
   rw [if_neg (by omega),x3 (jM n) (m8 n aG.1 aG.2)]
   simp [QF,eK]
  ·have Dx:n=0:=by omega
   subst Dx
   have aw:enc o++(if ((o:Nat):Int)=1 then enc (jM 0) else [])++aE.flatMap cP++r=enc o++(aE.flatMap cP++r):=by rw [if_neg (by omega)];simp
   rw [aw,x3 o (by omega)]
   simp only [List.drop_left,ne_eq,not_true,if_false]
   rw [if_neg (by omega),if_neg aR]
   have hm:(w3 (o:Int)).toNat=aE.length:=by rw [←fU,←h1];simp
   rw [hm,Xo (d:=d) r aE (left - 1) (fun k MV left r hle=>Xp d left k r (hk k MV) (sP k MV) hle) (by omega)]
   simp only [Nat.sub_sub]
   rw [Nat.add_comm]
theorem Xq {f:Nat→List Nat→Fe} (aq:∀ l b c,f l b=.error c→c≠0):∀ (m l:Nat) (b:List Nat) (c:Nat),mI f m l b=.error c→c≠0
 | 0,l,b,c,h=>by simp [mI] at h
 | m+1,l,b,c,h=>by
  unfold mI at h
  split at h
  ·rename_i e he
   cases h
   exact aq _ _ _ he
  ·split at h
   ·rename_i e he
    cases h
    exact Xq aq _ _ _ _ he
   ·cases h
theorem HE:∀ (d l:Nat) (b:List Nat) (c:Nat),dz d l b=.error c→c≠0
 | 0,l,b,c,h=>by simp [dz] at h;omega
 | d+1,l,b,c,h=>by
  unfold dz at h
  split at h
  ·cases h;omega
  split at h
  ·cases h;assumption
  split at h
  ·cases h;omega
  split at h
  ·split at h
   ·cases h;assumption
   ·cases h
  ·split at h
   ·rename_i e he
    cases h
    exact Xq (HE d) _ _ _ _ he
   ·cases h
def fc (h:I) (fy fa:Nat) (ao:List Nat) (begun:Nat):Prop:=fy<h.n∧h.get fy=.cells [.ptr fa 0,.int .i64 (begun:Nat)] 206 none∧du h (.ptr fa 0) fa ao∧fy≠fa
theorem fc.al {h h':I} {fy fa:Nat} {ao:List Nat} {begun:Nat} {own:Nat→Prop} (w:fc h fy fa ao begun) (k:J h h' own) (h1:¬own fy) (aa:¬own fa):fc h' fy fa ao begun :=
 ⟨Nat.lt_of_lt_of_le w.1 k.n,(k.get fy w.1 h1).trans w.2.1,du.al w.2.2.1 k aa,w.2.2.2⟩
def nb (fy fa:Nat):Nat→Prop:=fun q=>q=fy∨q=fa
def sQ:Fe→V
 | .error c=>.tuple [.agg (ay (.mk 0 0 [])),.int .i64 (c:Nat)]
 | .ok (e,_,_)=>.tuple [.agg (ay e),.int .i64 0]
theorem o6 (h:I) (c:Nat):aM (.tuple [.agg [.int .i64 0,.int .i64 0,.an],.int .i64 (c:Nat)]) h (.tuple [.agg (ay (.mk 0 0 [])),.int .i64 (c:Nat)]) h:=aM.tuple (aB.cons (akt 0 0 h) (aB.refl _ _))
theorem Xr (h:I) (e:bG):kI Tryz.prog 25 1 [(0,.agg (ay e))] h=some (.bc h.n 0 1 1,h.push (.cells (ay e) 27 none)):=by cases e;rw [qA Ql];rfl
theorem Xs {h:I} {s:V} {cs:List bG} (o:Own h 27 3 s (cs.flatMap ay)) (az:cs.length≤2 ^ 40) (c:bG) :
  ∃ cK h',ma Tryz.prog 25 25 s (.bc h.n 0 1 1) (h.push (.cells (ay c) 27 none))=some (cK,h')∧Own h' 27 3 cK ((cs++[c]).flatMap ay)∧J h h' (bl s)∧bV h s cK:=by
 have b8:J h (h.push (.cells (ay c) 27 none)) none_:=J.push _ _ _
 have hM:Own (h.push (.cells (ay c) 27 none)) 27 3 (.bc h.n 0 1 1) (ay c):=Own.lq (ay c) 1 (ot c) (by decide)
 have dT:=zo (P:=Tryz.prog) (t:=25) uF hM (n:=1) (ot c) (by decide) (Hu c)
 obtain ⟨cK,h',fB,mS,rA,iU⟩:=xP (P:=Tryz.prog) (t:=25) (tx:=25) Ql (by decide) (o.ba b8) dT (ot c) (fun m hm=>by
  change m * 3=_ at hm
  rw [j7 ot,ot] at hm
  exact ⟨by simp only [lim];omega,by simp only [lim];omega⟩)
 refine ⟨cK,h',fB,?_,(b8.up).trans' rA,?_⟩
 ·rw [List.flatMap_append]
  simpa using mS
 ·rcases iU with iU | iU
  ·exact .inl iU
  ·exact .inr fun q ad=>Nat.le_trans b8.n (iU q ad)
theorem QL:∀ (d left:Nat) (ao:List Nat) (h:I) (fy fa:Nat),d≤16→left≤64→ga h→fc h fy fa ao (64 - left)→(∀ b ∈ ao,b<256)→ao.length≤2 ^ 47 →
  ae Tryz.prog 110 [.ptr fy 0,.int .i64 ((17 - d:Nat):Int)] h (fun r h'=>r=sQ (dz d left ao)∧J h h' (nb fy fa)∧∀ e gY b0,dz d left ao=.ok (e,gY,b0)→fc h' fy fa gY (64 - b0))
 | 0,left,ao,h,fy,fa,_,az,av,a7,ak,tL=>by
  refine ae.cast ?_
  refine ae.ax (c:=_) Tryz.func110 rfl (by kernel_rfl) (by simp) ?_
  have bh:decide ((16:Int)<((17 - 0:Nat):Int))=true:=by decide
  simp only [af,Nat.reduceEqDiff,Nat.reduceAdd,Nat.reduceSub,fh,vL,ov,mZ,bh,aU,Tryz.results110,hh,gU,fp,hg]
  exact aF ⟨_,_,o6 _ 11,rfl,(J.push _ _ _),fun e gY b0 ab=>by cases ab⟩
 | d+1,left,ao,h,fy,fa,akR,az,av,a7,ak,tL=>by
  refine ae.cast ?_
  refine ae.ax (c:=_) Tryz.func110 rfl (by kernel_rfl) (by simp) ?_
  have bh:decide ((16:Int)<((17 - (d+1):Nat):Int))=false:=decide_eq_false (by omega)
  obtain ⟨jd,gw⟩:∃ y,y=h.push (.cells [.int .i64 0,.int .i64 0,.an] 27 none):=⟨_,rfl⟩
  have eJ:J h jd none_:=by rw [gw];exact J.push _ _ _
  have qD:jd.n=h.n+1:=by rw [gw];rfl
  have g0:jd.get h.n=.cells [.int .i64 0,.int .i64 0,.an] 27 none:=by rw [gw];exact cA
  have MW:=fc.al a7 eJ (by simp [none_]) (by simp [none_])
  have Xt:=MW.2.1
  have MX:=a7.1
  have iM:=a7.2.2.1.2.1
  have bO:=a7.2.2.2
  have MY:(h.push (.cells [.int .i64 0,.int .i64 0,.an] 27 none)).get fy=.cells [.ptr fa 0,.int .i64 ((64 - left:Nat):Int)] 206 none:=by rw [←gw];exact Xt
  by_cases dk:left=0
  ·have bD:(((64 - left:Nat):Int)==64)=true:=by simp;omega
   have bs:dz (d+1) left ao=.error 11:=by rw [dz,if_pos dk]
   simp only [af,Nat.reduceEqDiff,Nat.reduceAdd,Nat.reduceLeDiff,reduceCtorEq,Wm,fh,bn,vL,ov,mZ,bh,MY,bD,aU,Tryz.results110,hh,gU,fp,hg]
   exact aF ⟨_,_,o6 _ 11,by rw [bs];rfl,(J.push _ _ _),fun e gY b0 ab=>by rw [bs] at ab;cases ab⟩
  have bD:(((64 - left:Nat):Int)==64)=false:=by simp;omega
  have hw:IntKind.i64.wrap (((64 - left:Nat):Int)+1)=((64 - (left - 1):Nat):Int):=by rw [Go.IntWalk.i64_in _ (by omega)];omega
  obtain ⟨H1,dY⟩:∃ y,y=jd.set fy (.cells [.ptr fa 0,.int .i64 ((64 - (left - 1):Nat):Int)] 206 none):=⟨_,rfl⟩
  have bB:J jd H1 (fun q=>q=fy):=by rw [dY];exact J.set _ _ _
  have gv:H1.n=jd.n:=by rw [dY];rfl
  have Xu:H1.get fy=.cells [.ptr fa 0,.int .i64 ((64 - (left - 1):Nat):Int)] 206 none:=by rw [dY];exact aP
  have g1:=(bB.get h.n (by omega) (by omega)).trans g0
  have cg:du H1 (.ptr fa 0) fa ao:=du.al MW.2.2.1 bB (by omega)
  have pD:J h H1 (nb fy fa):=(eJ.up).trans bB fun q ad ab=>.inl ab
  simp only [af,Nat.reduceEqDiff,Nat.reduceAdd,Nat.reduceLeDiff,reduceCtorEq,Qg,Wm,Qj,bn,ov,uz,bh,MY,bD,hw]
  rw [←gw,←dY]
  clear gw dY
  refine cy KS (Lc (.ptr fa 0) fa ao H1 cg ak (by omega)) fun r aa ⟨aW,cZ,k2⟩=>?_
  subst aW
  have ft:=k2.n
  have HF:=(k2.get fy (by omega) (by omega)).trans Xu
  have g2:=(k2.get h.n (by omega) (by omega)).trans g1
  have dE:J h aa (nb fy fa):=pD.trans k2 fun q ad ab=>.inr ab
  by_cases hQ:(dec ao 0 0).2.2=0
  rotate_left
  ·have c3:((((dec ao 0 0).2.2:Nat):Int) !=0)=true:=by simp;omega
   have bs:dz (d+1) left ao=.error (dec ao 0 0).2.2:=by rw [dz,if_neg dk,if_pos hQ]
   simp only [af,Nat.reduceEqDiff,Nat.reduceAdd,fh,vL,ov,mZ,c3,g2,aU,Tryz.results110,hh,gU,fp,hg]
   exact aF ⟨_,_,o6 _ _,by rw [bs];rfl,dE.trans (J.set _ h.n _) fun q ad ab=>by omega,fun e gY b0 ab=>by rw [bs] at ab;cases ab⟩
  have c3:((((dec ao 0 0).2.2:Nat):Int) !=0)=false:=by simp;omega
  obtain ⟨Mj,akS⟩:=xa ak hQ
  have sj:dz (d+1) left ao=(if (dec ao 0 0).1<1∨16<(dec ao 0 0).1 then .error 5
   else if (dec ao 0 0).1=1 then
    if (dec (ao.drop (dec ao 0 0).2.1) 0 0).2.2≠0 then .error (dec (ao.drop (dec ao 0 0).2.1) 0 0).2.2
    else .ok (.mk 1 (fQ (dec (ao.drop (dec ao 0 0).2.1) 0 0).1) [],(ao.drop (dec ao 0 0).2.1).drop (dec (ao.drop (dec ao 0 0).2.1) 0 0).2.1,left - 1)
   else match mI (dz d) (w3 (dec ao 0 0).1).toNat (left - 1) (ao.drop (dec ao 0 0).2.1) with
    | .error e=>.error e
    | .ok (aE,r)=>.ok (.mk (dec ao 0 0).1 0 aE,r)):=by
   conv=>lhs;unfold dz
   rw [if_neg dk,if_neg (by simpa using hQ)]
   all_goals rfl
  have iK:∀ y ∈ ao.drop (dec ao 0 0).2.1,y<256:=fun y bd=>ak y (List.mem_of_mem_drop bd)
  have ie:(ao.drop (dec ao 0 0).2.1).length≤2 ^ 47:=by rw [List.length_drop];omega
  simp only [af,Nat.reduceEqDiff,c3]
  clear c3 hQ Mj
  generalize ao.drop (dec ao 0 0).2.1=jq at *
  generalize (dec ao 0 0).1=k at *
  by_cases jF:k<1
  ·have ew:decide ((k:Int)<1)=true:=decide_eq_true (by omega)
   have bs:dz (d+1) left ao=.error 5:=by rw [sj,if_pos (.inl jF)]
   simp only [af,Nat.reduceEqDiff,Nat.reduceAdd,fh,vL,ov,mZ,ew,g2,aU,Tryz.results110,hh,gU,fp,hg]
   exact aF ⟨_,_,o6 _ 5,by rw [bs];rfl,dE.trans (J.set _ h.n _) fun q ad ab=>by omega,fun e gY b0 ab=>by rw [bs] at ab;cases ab⟩
  have ew:decide ((k:Int)<1)=false:=decide_eq_false (by omega)
  by_cases q6:16<k
  ·have c5:decide ((16:Int)<(k:Int))=true:=decide_eq_true (by omega)
   have bs:dz (d+1) left ao=.error 5:=by rw [sj,if_pos (.inr q6)]
   simp only [af,Nat.reduceEqDiff,Nat.reduceAdd,fh,vL,ov,mZ,ew,c5,g2,aU,Tryz.results110,hh,gU,fp,hg]
   exact aF ⟨_,_,o6 _ 5,by rw [bs];rfl,dE.trans (J.set _ h.n _) fun q ad ab=>by omega,fun e gY b0 ab=>by rw [bs] at ab;cases ab⟩
  have c5:decide ((16:Int)<(k:Int))=false:=decide_eq_false (by omega)
  rw [if_neg (by omega)] at sj
  have uM:IntKind.i64.wrap (k:Int)=(k:Int):=Go.IntWalk.i64_in _ (by omega)
  have st1:bR (some 3) (bb.cells [V.int .i64 0,V.int .i64 0,V.an] 27 none) 0 [V.int .i64 (k:Int),V.int .i64 0,V.an]=some (.cells [V.int .i64 (k:Int),V.int .i64 0,V.an] 27 none):=rfl
  obtain ⟨gL,HG⟩:∃ y,y=aa.n:=⟨_,rfl⟩
  have HH:h.n<gL:=by omega
  obtain ⟨jy,jO⟩:∃ y,y=aa.push (.cells [V.int .i64 (k:Int),V.int .i64 0,V.an] 27 none):=⟨_,rfl⟩
  have k3:J aa jy none_:=by rw [jO];exact J.push _ _ _
  have n3:jy.n=aa.n+1:=by rw [jO];rfl
  have A0:jy.get gL=.cells [V.int .i64 (k:Int),V.int .i64 0,V.an] 27 none:=by rw [jO,HG];exact cA
  have MZ:=(k3.get h.n (by omega) (by simp [none_])).trans g2
  have HI:=(k3.get fy (by omega) (by simp [none_])).trans HF
  have gl:du jy (.ptr fa 0) fa jq:=du.al cZ k3 (by simp [none_])
  have eD:J h jy (nb fy fa):=dE.trans' k3.up
  have tp:k<17:=by omega
  have gk:(if (0:Int)≤(k:Int)∧(k:Int)<((17:Nat):Int)∧((k:Int).toNat * 1)≤fx.length then some (V.at (fx.drop ((k:Int).toNat * 1))) else none)=some (.at (.int .i64 (dq.getD k 0)::fx.drop (k+1))):=by
   rw [if_pos ⟨by omega,by omega,by simp [fx,dq];omega⟩]
   have:fx.drop ((k:Int).toNat * 1)=.int .i64 (dq.getD k 0)::fx.drop (k+1):=by
    rw [Int.toNat_natCast,Nat.mul_one,List.drop_eq_getElem_cons (by simp [fx,dq];omega)]
    simp [fx,List.getD,List.getElem?_eq_getElem (show k<dq.length by simp [dq];omega)]
   rw [this]
  have fU:=Qu (o:=(k:Int)) (by omega) (by omega)
  rw [Int.toNat_natCast] at fU
  simp only [af,Nat.reduceEqDiff,Nat.reduceAdd,Nat.reduceLeDiff,nv,bn,vL,ov,mZ,ew,c5,lR mY iB,uM,st1]
  rw [←HG,←jO]
  clear jO
  by_cases yC:k=1
  ·have jw:((k:Int)==1)=true:=by simp;omega
   simp only [af,Nat.reduceEqDiff,Nat.reduceAdd,reduceCtorEq,Qg,Qj,jw,HI]
   refine cy P8 (CG (.ptr fa 0) fa jq jy gl iK (by omega)) fun r bz ⟨km,CH,cz⟩=>?_
   subst km
   have n4:=cz.n
   have A1:=(cz.get gL (by omega) (by omega)).trans A0
   have HJ:=(cz.get h.n (by omega) (by omega)).trans MZ
   have HK:=(cz.get fy (by omega) (by omega)).trans HI
   have qq:J h bz (nb fy fa):=eD.trans cz fun q ad ab=>.inr ab
   have apK:J jy bz (fun q=>q=fa):=cz
   obtain ⟨h5,gG⟩:∃ y,y=bz.set gL (.cells [V.int .i64 (k:Int),V.int .i64 (fQ (dec jq 0 0).1),V.an] 27 none):=⟨_,rfl⟩
   have eQ:J bz h5 (fun q=>q=gL):=by rw [gG];exact J.set _ _ _
   have A3:h5.n=bz.n:=by rw [gG];rfl
   have DR:h5.get gL=.cells [V.int .i64 (k:Int),V.int .i64 (fQ (dec jq 0 0).1),V.an] 27 none:=by rw [gG];exact aP
   have DS:=(eQ.get h.n (by omega) (by omega)).trans HJ
   have Xv:=(eQ.get fy (by omega) (by omega)).trans HK
   have Ff:du h5 (.ptr fa 0) fa _:=du.al CH eQ (by omega)
   have nY:J h h5 (nb fy fa):=qq.trans eQ fun q ad ab=>by omega
   simp only [af,h3,Nat.reduceEqDiff,Nat.reduceAdd,Nat.reduceLeDiff,E3,rr,A1]
   rw [←gG]
   clear gG
   by_cases oM:(dec jq 0 0).2.2=0
   rotate_left
   ·have na:((((dec jq 0 0).2.2:Nat):Int) !=0)=true:=by simp;omega
    have bs:dz (d+1) left ao=.error (dec jq 0 0).2.2:=by rw [sj,if_pos yC,if_pos oM]
    simp only [af,Nat.reduceEqDiff,Nat.reduceAdd,fh,vL,ov,mZ,na,DS,aU,Tryz.results110,hh,gU,fp,hg]
    exact aF ⟨_,_,o6 _ _,by rw [bs];rfl,nY.trans (J.set _ h.n _) fun q ad ab=>by omega,fun e gY b0 ab=>by rw [bs] at ab;cases ab⟩
   have na:((((dec jq 0 0).2.2:Nat):Int) !=0)=false:=by simp;omega
   have pk:=(xa iK oM).2
   have ki:∀ y ∈ jq.drop (dec jq 0 0).2.1,y<256:=fun y bd=>iK y (List.mem_of_mem_drop bd)
   have gp:(jq.drop (dec jq 0 0).2.1).length≤2 ^ 47:=by rw [List.length_drop];omega
   rw [if_pos yC,if_neg (by simpa using oM)] at sj
   generalize jq.drop (dec jq 0 0).2.1=tK at *
   generalize fQ (dec jq 0 0).1=n at *
   have M0:w3 (k:Int)=0:=by rw [yC];decide
   obtain ⟨m,hm⟩:∃ m:Nat,m=(w3 (k:Int)).toNat:=⟨_,rfl⟩
   have HL:m=0:=by rw [hm,M0];rfl
   have bs:dz (d+1) left ao=(match mI (dz d) m (left - 1) tK with | .error e=>.error e | .ok (aE,r)=>.ok (.mk (k:Int) n aE,r)):=by rw [sj,HL,yC,mI];rfl
   have HM:dq.getD k 0=((m:Nat):Int):=by rw [fU,M0,HL];rfl
   have HN:fc h5 fy fa tK (64 - (left - 1)):=⟨by omega,Xv,Ff,bO⟩
   have CI:∀ (f:ah),ah.eval f h5 (.global 1)=.at fx:=fun f=>J1 (av.al nY)
   have M1:=DR
   have CJ:gL<h5.n:=by omega
   simp only [af,Nat.reduceEqDiff,nv,bn,na]
   have u6:=Lf (k:Int)
   simp only [af,Nat.reduceEqDiff,Nat.reduceAdd,Hh,bn,Hs,M1,CI,gk,HM]
   refine aX.b9 (α:=Nat×V×List bG×List Nat×Nat) (fun x f h'=>f 0=.ptr fy 0∧f 1=.int .i64 ((17 - (d+1):Nat):Int)∧f 4=.ptr h.n 0∧f 8=.ptr gL 0∧f 69=.int .i64 (m:Nat)∧f 70=.int .i64 (x.1:Nat)∧x.1≤m∧h'.get h.n=.cells [.int .i64 0,.int .i64 0,.an] 27 none∧h'.get gL=.cells [.int .i64 (k:Int),.int .i64 n,x.2.1] 27 none ∧
     Own h' 27 3 x.2.1 (x.2.2.1.flatMap ay)∧(∀ j,aV x.2.1=some j→h.n≤j∧j≠h.n∧j≠gL)∧x.2.2.1.length=x.1∧fc h' fy fa x.2.2.2.1 (64 - x.2.2.2.2)∧x.2.2.2.2≤64∧(∀ y ∈ x.2.2.2.1,y<256)∧x.2.2.2.1.length≤2 ^ 47∧J h h' (nb fy fa)∧gL<h'.n ∧
     mI (dz d) m (left - 1) tK=(match mI (dz d) (m - x.1) x.2.2.2.2 x.2.2.2.1 with | .error e=>.error e | .ok (aE,r)=>.ok (x.2.2.1++aE,r))) (fun x=>m - x.1) (0,.an,[],tK,left - 1)
    ⟨rfl,rfl,rfl,rfl,rfl,rfl,Nat.zero_le _,DS,DR,Own.an _ _ _,by simp [aV],rfl,HN,by simp only;omega,ki,gp,nY,CJ,by simp only [Nat.sub_zero];cases mI (dz d) m (left - 1) tK<;>rfl⟩ ?_
   rintro ⟨i,s,acc,b,l⟩ f da ⟨f0,f1,f4,f8,f69,f70,hi,g4,g8,os,ids,jG,dc,xb,tM,tL,kk,HO,jP⟩
   simp only at f70 hi g8 os ids jG dc xb tM tL jP
   refine am (by kernel_rfl) ?_
   by_cases HP:i<m
   ·have aw:decide ((i:Int)<((m:Nat):Int))=true:=decide_eq_true (by omega)
    have HQ:IntKind.i64.wrap ((i:Int)+1)=((i+1:Nat):Int):=by rw [Go.IntWalk.i64_in _ (by omega)];omega
    have AG:IntKind.i64.wrap (((17 - (d+1):Nat):Int)+1)=((17 - d:Nat):Int):=by rw [Go.IntWalk.i64_in _ (by omega)];omega
    obtain ⟨hR,A4⟩:∃ hR,m - i=hR+1:=⟨m - i - 1,by omega⟩
    rw [A4,mI] at jP
    simp only [af,Nat.reduceEqDiff,reduceCtorEq,f0,f1,f69,f70,aw,AG]
    refine cy P4 (QL d l b da fy fa (by omega) xb (av.al kk) dc tM tL) fun r k7 ⟨x2,mX,d7⟩=>?_
    subst x2
    have MX:=dc.1
    have iM:=dc.2.2.1.2.1
    have CK:fy<h.n:=a7.1
    have CL:fa<h.n:=a7.2.2.1.2.1
    have QM:h.n<gL:=HH
    have A5:=(mX.get h.n (by omega) (by rintro (ab | ab)<;>omega)).trans g4
    have HR:=(mX.get gL HO (by rintro (ab | ab)<;>omega)).trans g8
    have HS:=os.al mX fun j aS ab=>by
     have:=(ids j aS).1
     rcases ab with ab | ab<;>omega
    have qs:J h k7 (nb fy fa):=kk.trans' mX
    have n7:=mX.n
    cases nm:dz d l b with
    | error c=>
     rw [nm] at jP
     have r7:=HE d l b c nm
     have bh:(((c:Nat):Int) !=0)=true:=by simp;omega
     rw [nm] at d7
     simp only at jP
     have rB:dz (d+1) left ao=.error c:=by rw [bs,jP]
     simp only [sQ]
     have qI:=w8 (.mk 0 0 [])
     have qt:=AZ (.mk 0 0 [])
     have tN:J k7 (k7.push (.cells (ay (.mk 0 0 [])) 27 none)) none_:=J.push _ _ _
     have HT:=(tN.get h.n (by omega) (by simp [none_])).trans A5
     simp only [af,Nat.reduceEqDiff,Nat.reduceAdd,fh,vL,ov,mZ,f4,qI,qt,bh,HT,aU,Tryz.results110,hh,gU,fp,hg]
     refine aF ⟨_,_,o6 _ c,by rw [rB];rfl,?_,fun e gY b0 ab=>by rw [rB] at ab;cases ab⟩
     exact ((qs.trans' tN.up).trans (J.set _ h.n _) fun q ad ab=>by omega)
    | ok r=>
     obtain ⟨A,cF,b0⟩:=r
     rw [nm] at jP
     simp only at jP
     have gt:=Lg d l b tM A cF b0 nm
     have HU:=d7 A cF b0 nm
     have CM:∀ y ∈ cF,y<256:=fun y bd=>tM y (by rw [gt.tJ];simp [bd])
     have QN:cF.length≤b.length:=by rw [gt.tJ];simp
     have bf:=gt.sz
     simp only [sQ]
     have qI:=w8 A
     have qt:=AZ A
     have Xw:=Fc A
     obtain ⟨zA,rC⟩:∃ y,y=k7.push (.cells (ay A) 27 none):=⟨_,rfl⟩
     have jx:J k7 zA none_:=by rw [rC];exact J.push _ _ _
     have n8:zA.n=k7.n+1:=by rw [rC];rfl
     have g9:zA.get k7.n=.cells (ay A) 27 none:=by rw [rC];exact cA
     have A6:=(jx.get gL (by omega) (by simp [none_])).trans HR
     have A1:=(jx.get h.n (by omega) (by simp [none_])).trans A5
     have HV:dB (bb.cells (ay A) 27 none) 0=some (ay A):=by cases A;rfl
     have CN:dv (some (some 3)) (some (ay A))=some (.agg (ay A)):=by cases A;rfl
     obtain ⟨cK,gd,fB,CO,pE,xc⟩:=Xs (HS.ba jx) (by omega) A
     have fq:=Xr zA A
     have Xx:∀ j,aV s=some j→j<da.n:=fun j aS=>os.lt j aS
     have HW:=(pE.get gL (by omega) (fun ab=>(ids gL ab).2.2 rfl)).trans A6
     have HX:=(pE.get h.n (by omega) (fun ab=>(ids h.n ab).2.1 rfl)).trans A1
     have ly:cK.one=true:=by
      rcases CO with ⟨rfl | rfl,_⟩ | ⟨_,_,_,_,_,rfl,_⟩<;>rfl
     have rD:cK.cells=some [cK]:=by
      rcases CO with ⟨rfl | rfl,_⟩ | ⟨_,_,_,_,_,rfl,_⟩<;>rfl
     have db:bR (some 1) (bb.cells [V.int .i64 (k:Int),V.int .i64 n,s] 27 none) 2 [cK]=some (.cells [.int .i64 (k:Int),.int .i64 n,cK] 27 none):=by rw [tf ly];rfl
     have z0:((0:Int) !=0)=false:=rfl
     simp only [af,Nat.reduceEqDiff,pz,qG,ov,mZ,f8,qI,qt]
     rw [←rC]
     clear rC
     simp only [af,Nat.reduceEqDiff,Nat.reduceAdd,Nat.reduceLeDiff,pz,fh,WE,f8,f70,A6,g9,HV,CN,fq,fB,HW,rD,db,HQ]
     have en:J gd (gd.set gL (.cells [V.int .i64 (k:Int),V.int .i64 n,cK] 27 none)) (fun q=>q=gL):=J.set _ _ _
     have rE:∀ j,aV cK=some j→h.n≤j∧j≠h.n∧j≠gL:=fun j aS=>by
      rcases xc with xc | xc
      ·exact ids j (by rw [←xc];exact aS)
      ·have:=xc j aS;omega
     have HY:J h gd (nb fy fa):=(qs.trans' jx.up).trans pE fun q ad ab=>by have:=(ids q ab).1;omega
     have HZ:fc gd fy fa cF (64 - b0):=fc.al HU (jx.up.trans' pE) (fun ab=>by have:=(ids fy ab).1;omega) (fun ab=>by have:=(ids fa ab).1;omega)
     have Xy:=pE.n
     refine aF ⟨(i+1,cK,acc++[A],cF,b0),⟨f0,f1,f4,f8,f69,rfl,HP,(kL (by omega)).trans HX,aP,CO.al en (fun j aS ab=>(rE j aS).2.2 ab),rE,by simp [jG],fc.al HZ en (by omega) (by omega),by simp only;omega,CM,by simp only;omega,HY.trans en fun q ad ab=>by omega,by rw [jt];omega,?_⟩,by simp only;omega⟩
     rw [jP,show m - (i+1)=hR by omega]
     cases mI (dz d) hR b0 cF with
     | error e=>rfl
     | ok r=>obtain ⟨aE,r⟩:=r;simp
   ·have aw:decide ((i:Int)<((m:Nat):Int))=false:=decide_eq_false (by omega)
    rw [show m - i=0 by omega,mI] at jP
    simp only [List.append_nil] at jP
    have rB:dz (d+1) left ao=.ok (.mk k n acc,b,l):=by rw [bs,jP]
    have ly:s.one=true:=by
     rcases os with ⟨rfl | rfl,_⟩ | ⟨_,_,_,_,_,rfl,_⟩<;>rfl
    have A7:bR (some 3) (bb.cells [V.int .i64 0,V.int .i64 0,V.an] 27 none) 0 [.int .i64 (k:Int),.int .i64 n,s]=some (.cells [.int .i64 (k:Int),.int .i64 n,s] 27 none):=by
     exact (sF (n:=3) (vs:=[V.int .i64 (k:Int),V.int .i64 n,s]) rfl (by simp only [all_cons,all_nil,J6,ly,Bool.and_self])).trans rfl
    have en:J da (da.set h.n (.cells [V.int .i64 (k:Int),V.int .i64 n,s] 27 none)) (fun q=>q=h.n):=J.set _ _ _
    have A8:=os.al en fun j aS ab=>(ids j aS).2.1 ab
    obtain ⟨gd,hP,pE⟩:=WY (k:Int) n A8
    simp only [af,Nat.reduceEqDiff,Nat.reduceAdd,fh,mZ,f4,f8,f69,f70,aw,g8,g4,A7,aU,Tryz.results110,hh,gU,fp,hg]
    have CK:fy<h.n:=a7.1
    have CL:fa<h.n:=a7.2.2.1.2.1
    refine aF ⟨_,gd,aM.tuple (aB.cons hP (aB.refl _ _)),by rw [rB];rfl,(kk.trans en fun q ad ab=>by omega).trans pE fun q ad ab=>by have:=(ids q ab).1;omega,fun e gY b0 ab=>?_⟩
    rw [rB] at ab
    cases ab
    exact fc.al (fc.al dc en (by omega) (by omega)) pE (fun ab=>by have:=(ids fy ab).1;omega) (fun ab=>by have:=(ids fa ab).1;omega)
  ·have jw:((k:Int)==1)=false:=by simp;omega
   rw [if_neg yC] at sj
   obtain ⟨m,hm⟩:∃ m:Nat,m=(w3 (k:Int)).toNat:=⟨_,rfl⟩
   rw [←hm] at sj
   have pk:=Lf (k:Int)
   obtain ⟨n,aG⟩:∃ n:Int,n=0:=⟨0,rfl⟩
   rw [←aG] at sj A0
   have bs:=sj
   have HM:dq.getD k 0=((m:Nat):Int):=by rw [fU,hm];omega
   have HN:fc jy fy fa jq (64 - (left - 1)):=⟨by omega,HI,gl,bO⟩
   have CI:∀ (f:ah),ah.eval f jy (.global 1)=.at fx:=fun f=>J1 (av.al eD)
   have M1:=A0
   have DS:=MZ
   have DR:=A0
   have nY:=eD
   have CJ:gL<jy.n:=by omega
   have ki:=iK
   have gp:=ie
   simp only [af,Nat.reduceEqDiff,Nat.reduceAdd,Hh,nv,bn,Hs,A0,jw]
   have u6:=Lf (k:Int)
   simp only [af,Nat.reduceEqDiff,bn,CI,gk,HM]
   refine aX.b9 (α:=Nat×V×List bG×List Nat×Nat) (fun x f h'=>f 0=.ptr fy 0∧f 1=.int .i64 ((17 - (d+1):Nat):Int)∧f 4=.ptr h.n 0∧f 8=.ptr gL 0∧f 69=.int .i64 (m:Nat)∧f 70=.int .i64 (x.1:Nat)∧x.1≤m∧h'.get h.n=.cells [.int .i64 0,.int .i64 0,.an] 27 none∧h'.get gL=.cells [.int .i64 (k:Int),.int .i64 n,x.2.1] 27 none ∧
     Own h' 27 3 x.2.1 (x.2.2.1.flatMap ay)∧(∀ j,aV x.2.1=some j→h.n≤j∧j≠h.n∧j≠gL)∧x.2.2.1.length=x.1∧fc h' fy fa x.2.2.2.1 (64 - x.2.2.2.2)∧x.2.2.2.2≤64∧(∀ y ∈ x.2.2.2.1,y<256)∧x.2.2.2.1.length≤2 ^ 47∧J h h' (nb fy fa)∧gL<h'.n ∧
     mI (dz d) m (left - 1) jq=(match mI (dz d) (m - x.1) x.2.2.2.2 x.2.2.2.1 with | .error e=>.error e | .ok (aE,r)=>.ok (x.2.2.1++aE,r))) (fun x=>m - x.1) (0,.an,[],jq,left - 1)
    ⟨rfl,rfl,rfl,rfl,rfl,rfl,Nat.zero_le _,DS,DR,Own.an _ _ _,by simp [aV],rfl,HN,by simp only;omega,ki,gp,nY,CJ,by simp only [Nat.sub_zero];cases mI (dz d) m (left - 1) jq<;>rfl⟩ ?_
   rintro ⟨i,s,acc,b,l⟩ f da ⟨f0,f1,f4,f8,f69,f70,hi,g4,g8,os,ids,jG,dc,xb,tM,tL,kk,HO,jP⟩
   simp only at f70 hi g8 os ids jG dc xb tM tL jP
   refine am (by kernel_rfl) ?_
   by_cases HP:i<m
   ·have aw:decide ((i:Int)<((m:Nat):Int))=true:=decide_eq_true (by omega)
    have HQ:IntKind.i64.wrap ((i:Int)+1)=((i+1:Nat):Int):=by rw [Go.IntWalk.i64_in _ (by omega)];omega
    have AG:IntKind.i64.wrap (((17 - (d+1):Nat):Int)+1)=((17 - d:Nat):Int):=by rw [Go.IntWalk.i64_in _ (by omega)];omega
    obtain ⟨hR,A4⟩:∃ hR,m - i=hR+1:=⟨m - i - 1,by omega⟩
    rw [A4,mI] at jP
    simp only [af,Nat.reduceEqDiff,reduceCtorEq,f0,f1,f69,f70,aw,AG]
    refine cy P4 (QL d l b da fy fa (by omega) xb (av.al kk) dc tM tL) fun r k7 ⟨x2,mX,d7⟩=>?_
    subst x2
    have MX:=dc.1
    have iM:=dc.2.2.1.2.1
    have CK:fy<h.n:=a7.1
    have CL:fa<h.n:=a7.2.2.1.2.1
    have QM:h.n<gL:=HH
    have A5:=(mX.get h.n (by omega) (by rintro (ab | ab)<;>omega)).trans g4
    have HR:=(mX.get gL HO (by rintro (ab | ab)<;>omega)).trans g8
    have HS:=os.al mX fun j aS ab=>by
     have:=(ids j aS).1
     rcases ab with ab | ab<;>omega
    have qs:J h k7 (nb fy fa):=kk.trans' mX
    have n7:=mX.n
    cases nm:dz d l b with
    | error c=>
     rw [nm] at jP
     have r7:=HE d l b c nm
     have bh:(((c:Nat):Int) !=0)=true:=by simp;omega
     rw [nm] at d7
     simp only at jP
     have rB:dz (d+1) left ao=.error c:=by rw [bs,jP]
     simp only [sQ]
     have qI:=w8 (.mk 0 0 [])
     have qt:=AZ (.mk 0 0 [])
     have tN:J k7 (k7.push (.cells (ay (.mk 0 0 [])) 27 none)) none_:=J.push _ _ _
     have HT:=(tN.get h.n (by omega) (by simp [none_])).trans A5
     simp only [af,Nat.reduceEqDiff,Nat.reduceAdd,fh,vL,ov,mZ,f4,qI,qt,bh,HT,aU,Tryz.results110,hh,gU,fp,hg]
     refine aF ⟨_,_,o6 _ c,by rw [rB];rfl,?_,fun e gY b0 ab=>by rw [rB] at ab;cases ab⟩
     exact ((qs.trans' tN.up).trans (J.set _ h.n _) fun q ad ab=>by omega)
    | ok r=>
     obtain ⟨A,cF,b0⟩:=r
     rw [nm] at jP
     simp only at jP
     have gt:=Lg d l b tM A cF b0 nm
     have HU:=d7 A cF b0 nm
     have CM:∀ y ∈ cF,y<256:=fun y bd=>tM y (by rw [gt.tJ];simp [bd])
     have QN:cF.length≤b.length:=by rw [gt.tJ];simp
     have bf:=gt.sz
     simp only [sQ]
     have qI:=w8 A
     have qt:=AZ A
     have Xw:=Fc A
     obtain ⟨zA,rC⟩:∃ y,y=k7.push (.cells (ay A) 27 none):=⟨_,rfl⟩
     have jx:J k7 zA none_:=by rw [rC];exact J.push _ _ _
     have n8:zA.n=k7.n+1:=by rw [rC];rfl
     have g9:zA.get k7.n=.cells (ay A) 27 none:=by rw [rC];exact cA
     have A6:=(jx.get gL (by omega) (by simp [none_])).trans HR
     have A1:=(jx.get h.n (by omega) (by simp [none_])).trans A5
     have HV:dB (bb.cells (ay A) 27 none) 0=some (ay A):=by cases A;rfl
     have CN:dv (some (some 3)) (some (ay A))=some (.agg (ay A)):=by cases A;rfl
     obtain ⟨cK,gd,fB,CO,pE,xc⟩:=Xs (HS.ba jx) (by omega) A
     have fq:=Xr zA A
     have Xx:∀ j,aV s=some j→j<da.n:=fun j aS=>os.lt j aS
     have HW:=(pE.get gL (by omega) (fun ab=>(ids gL ab).2.2 rfl)).trans A6
     have HX:=(pE.get h.n (by omega) (fun ab=>(ids h.n ab).2.1 rfl)).trans A1
     have ly:cK.one=true:=by
      rcases CO with ⟨rfl | rfl,_⟩ | ⟨_,_,_,_,_,rfl,_⟩<;>rfl
     have rD:cK.cells=some [cK]:=by
      rcases CO with ⟨rfl | rfl,_⟩ | ⟨_,_,_,_,_,rfl,_⟩<;>rfl
     have db:bR (some 1) (bb.cells [V.int .i64 (k:Int),V.int .i64 n,s] 27 none) 2 [cK]=some (.cells [.int .i64 (k:Int),.int .i64 n,cK] 27 none):=by rw [tf ly];rfl
     have z0:((0:Int) !=0)=false:=rfl
     simp only [af,Nat.reduceEqDiff,pz,qG,ov,mZ,f8,qI,qt]
     rw [←rC]
     clear rC
     simp only [af,Nat.reduceEqDiff,Nat.reduceAdd,Nat.reduceLeDiff,pz,fh,WE,f8,f70,A6,g9,HV,CN,fq,fB,HW,rD,db,HQ]
     have en:J gd (gd.set gL (.cells [V.int .i64 (k:Int),V.int .i64 n,cK] 27 none)) (fun q=>q=gL):=J.set _ _ _
     have rE:∀ j,aV cK=some j→h.n≤j∧j≠h.n∧j≠gL:=fun j aS=>by
      rcases xc with xc | xc
      ·exact ids j (by rw [←xc];exact aS)
      ·have:=xc j aS;omega
     have HY:J h gd (nb fy fa):=(qs.trans' jx.up).trans pE fun q ad ab=>by have:=(ids q ab).1;omega
     have HZ:fc gd fy fa cF (64 - b0):=fc.al HU (jx.up.trans' pE) (fun ab=>by have:=(ids fy ab).1;omega) (fun ab=>by have:=(ids fa ab).1;omega)
     have Xy:=pE.n
     refine aF ⟨(i+1,cK,acc++[A],cF,b0),⟨f0,f1,f4,f8,f69,rfl,HP,(kL (by omega)).trans HX,aP,CO.al en (fun j aS ab=>(rE j aS).2.2 ab),rE,by simp [jG],fc.al HZ en (by omega) (by omega),by simp only;omega,CM,by simp only;omega,HY.trans en fun q ad ab=>by omega,by rw [jt];omega,?_⟩,by simp only;omega⟩
     rw [jP,show m - (i+1)=hR by omega]
     cases mI (dz d) hR b0 cF with
     | error e=>rfl
     | ok r=>obtain ⟨aE,r⟩:=r;simp
   ·have aw:decide ((i:Int)<((m:Nat):Int))=false:=decide_eq_false (by omega)
    rw [show m - i=0 by omega,mI] at jP
    simp only [List.append_nil] at jP
    have rB:dz (d+1) left ao=.ok (.mk k n acc,b,l):=by rw [bs,jP]
    have ly:s.one=true:=by
     rcases os with ⟨rfl | rfl,_⟩ | ⟨_,_,_,_,_,rfl,_⟩<;>rfl
    have A7:bR (some 3) (bb.cells [V.int .i64 0,V.int .i64 0,V.an] 27 none) 0 [.int .i64 (k:Int),.int .i64 n,s]=some (.cells [.int .i64 (k:Int),.int .i64 n,s] 27 none):=by
     exact (sF (n:=3) (vs:=[V.int .i64 (k:Int),V.int .i64 n,s]) rfl (by simp only [all_cons,all_nil,J6,ly,Bool.and_self])).trans rfl
    have en:J da (da.set h.n (.cells [V.int .i64 (k:Int),V.int .i64 n,s] 27 none)) (fun q=>q=h.n):=J.set _ _ _
    have A8:=os.al en fun j aS ab=>(ids j aS).2.1 ab
    obtain ⟨gd,hP,pE⟩:=WY (k:Int) n A8
    simp only [af,Nat.reduceEqDiff,Nat.reduceAdd,fh,mZ,f4,f8,f69,f70,aw,g8,g4,A7,aU,Tryz.results110,hh,gU,fp,hg]
    have CK:fy<h.n:=a7.1
    have CL:fa<h.n:=a7.2.2.1.2.1
    refine aF ⟨_,gd,aM.tuple (aB.cons hP (aB.refl _ _)),by rw [rB];rfl,(kk.trans en fun q ad ab=>by omega).trans pE fun q ad ab=>by have:=(ids q ab).1;omega,fun e gY b0 ab=>?_⟩
    rw [rB] at ab
    cases ab
    exact fc.al (fc.al dc en (by omega) (by omega)) pE (fun ab=>by have:=(ids fy ab).1;omega) (fun ab=>by have:=(ids fa ab).1;omega)
def nn (ao:List Nat):Except Nat bG:=match dz 16 64 ao with
 | .error c=>.error c
 | .ok (e,r,_)=>if r.length=0 then .ok e else .error 5
def nZ (ao:List Nat):bG:=match nn ao with
 | .error _=>.mk 0 0 []
 | .ok e=>e
def np (ao:List Nat):Nat:=match nn ao with
 | .error c=>c
 | .ok _=>0
def rF (ao:List Nat):V:=.tuple [.agg (ay (nZ ao)),.int .i64 (np ao:Nat)]
theorem akT (ao:List Nat):bj (rF ao):=bj.tuple (bo.cons (bj.agg (Qq _)) (bo.cons (bj.int _ _) bo.nil))
theorem akU {ao:List Nat} {c:Nat} (h:nn ao=.error c):c≠0:=by
 unfold nn at h
 split at h
 ·rename_i e he
  cases h
  exact HE _ _ _ _ he
 ·split at h
  ·cases h
  ·cases h;omega
theorem akV {ao:List Nat} (ak:∀ b ∈ ao,b<256) {e:bG} (h:nn ao=.ok e):ao=cP e∧cY e=true∧fP e:=by
 unfold nn at h
 split at h
 ·cases h
 ·rename_i dh r l av
  split at h
  ·rename_i aH
   cases h
   have g:=Lg 16 64 ao ak _ _ _ av
   have gj:r=[]:=List.eq_nil_of_length_eq_zero aH
   refine ⟨by rw [g.tJ,gj,List.append_nil],?_,g.ok⟩
   have U:=g.sz
   unfold cY
   rw [La,if_pos ⟨g.deep,by omega⟩]
   rfl
  ·cases h
theorem Xz {e:bG} (hm:cY e=true) (a1:fP e):nn (cP e)=.ok e:=by
 have a7:qH 16 e=true∧et e≤64:=by
  unfold cY at hm
  rw [La] at hm
  split at hm
  ·assumption
  ·cases hm
 have:=Xp 16 64 e [] a7.1 a1 a7.2
 rw [List.append_nil] at this
 unfold nn
 rw [this]
 rfl
theorem M3 (x:V) (ao:List Nat) (h:I) (av:ga h) (rd:Rd h x ao) (ak:∀ b ∈ ao,b<256) (az:ao.length≤2 ^ 47):Pure Tryz.prog 55 [x] h (rF ao):=by
 refine Pure.of (akT ao) ?_
 refine ae.ax (c:=_) Tryz.func55 rfl (by kernel_rfl) (by simp) ?_
 obtain ⟨jd,gw⟩:∃ y,y=h.push (.cells [.int .i64 0,.int .i64 0,.an] 27 none):=⟨_,rfl⟩
 have eJ:J h jd none_:=by rw [gw];exact J.push _ _ _
 have g0:jd.get h.n=.cells [.int .i64 0,.int .i64 0,.an] 27 none:=by rw [gw];exact cA
 have qD:jd.n=h.n+1:=by rw [gw];rfl
 simp only [af,Nat.reduceEqDiff,reduceCtorEq,ov]
 rw [←gw]
 clear gw
 refine cy VT (Hz x ao jd (rd.al eJ) (by omega)) fun r H1 ⟨aw,cg,bB⟩=>?_
 subst aw
 have gv:jd.n+1≤H1.n:=cg.2.1
 have g1:=(bB.get h.n (by omega) (by simp [none_])).trans g0
 have XA:bR (some 2) (bb.cells [V.c9,V.int .i64 0] 206 none) 0 [V.ptr jd.n 0,V.int .i64 0]=some (.cells [V.ptr jd.n 0,V.int .i64 0] 206 none):=rfl
 obtain ⟨bP,bE⟩:∃ y,y=H1.push (.cells [V.ptr jd.n 0,V.int .i64 0] 206 none):=⟨_,rfl⟩
 have k2:J H1 bP none_:=by rw [bE];exact J.push _ _ _
 have ft:bP.n=H1.n+1:=by rw [bE];rfl
 have HF:bP.get H1.n=.cells [V.ptr jd.n 0,V.int .i64 0] 206 none:=by rw [bE];exact cA
 have g2:=(k2.get h.n (by omega) (by simp [none_])).trans g1
 have dc:fc bP H1.n jd.n ao (64 - 64):=⟨by omega,HF,du.al cg k2 (by simp [none_]),by omega⟩
 have dE:J h bP none_:=(eJ.trans' bB).trans' k2
 simp only [af,Nat.reduceEqDiff,Nat.reduceAdd,Nat.reduceLeDiff,ajT,aj7,akg,XA]
 rw [←bE]
 clear bE
 refine cy P4 (QL 16 64 ao bP H1.n jd.n (by decide) (by decide) (av.al dE) dc ak az) fun r jy ⟨cJ,k3,d3⟩=>?_
 subst cJ
 have n3:=k3.n
 have g3:=(k3.get h.n (by omega) (by rintro (ab | ab)<;>omega)).trans g2
 have eD:J h jy none_:=dE.trans k3 fun q ad ab=>by rcases ab with ab | ab<;>omega
 cases ag:dz 16 64 ao with
 | error c=>
  have r7:=HE _ _ _ _ ag
  have bh:(((c:Nat):Int) !=0)=true:=by simp;omega
  have bF:nn ao=.error c:=by unfold nn;rw [ag]
  have ka:rF ao=.tuple [.agg (ay (.mk 0 0 [])),.int .i64 (c:Nat)]:=by unfold rF nZ np;rw [bF]
  rw [ka]
  have qI:=w8 (.mk 0 0 [])
  have qt:=AZ (.mk 0 0 [])
  have tN:J jy (jy.push (.cells (ay (.mk 0 0 [])) 27 none)) none_:=J.push _ _ _
  have g4:=(tN.get h.n (by omega) (by simp [none_])).trans g3
  simp only [sQ]
  simp only [af,Nat.reduceEqDiff,Nat.reduceAdd,fh,vL,ov,mZ,qI,qt,bh,g4,aU,Tryz.results55,hh,gU,fp,hg]
  exact aF ⟨_,o6 _ c,(eD.trans' tN).trans (J.set _ h.n _) fun q ad ab=>by omega⟩
 | ok r=>
  obtain ⟨e,cF,b0⟩:=r
  have XB:=d3 e cF b0 ag
  have z0:((0:Int) !=0)=false:=rfl
  have qI:=w8 e
  have qt:=AZ e
  obtain ⟨h6,j3⟩:∃ y,y=jy.push (.cells (ay e) 27 none):=⟨_,rfl⟩
  have cz:J jy h6 none_:=by rw [j3];exact J.push _ _ _
  have HJ:h6.get jy.n=.cells (ay e) 27 none:=by rw [j3];exact cA
  have g4:=(cz.get h.n (by omega) (by simp [none_])).trans g3
  have M4:=fc.al XB cz (by simp [none_]) (by simp [none_])
  have HK:=M4.2.1
  have qq:=eD.trans' cz
  simp only [sQ]
  simp only [af,Nat.reduceEqDiff,Qg,Qj,ov,mZ,qI,qt]
  rw [←j3]
  clear j3
  simp only [af,Nat.reduceEqDiff,Nat.reduceAdd,HK]
  refine bU VU (Left h6 _ _ cF M4.2.2.1) ?_
  by_cases M5:cF.length=0
  ·have bh:decide ((0:Int)<((cF.length:Nat):Int))=false:=decide_eq_false (by omega)
   have bF:nn ao=.ok e:=by unfold nn;rw [ag];simp only;rw [if_pos M5]
   have ka:rF ao=.tuple [.agg (ay e),.int .i64 0]:=by unfold rF nZ np;rw [bF];rfl
   rw [ka]
   have HV:dB (bb.cells (ay e) 27 none) 0=some (ay e):=by cases e;rfl
   have CN:dv (some (some 3)) (some (ay e))=some (.agg (ay e)):=by cases e;rfl
   have jo:=Fc e
   simp only [af,Nat.reduceEqDiff,fh,mZ,bh,HJ,g4,HV,CN,qI,qt,aU,Tryz.results55,hh,gU,fp,hg]
   exact aF ⟨_,aM.refl _ _,qq.trans (J.set _ h.n _) fun q ad ab=>by omega⟩
  ·have bh:decide ((0:Int)<((cF.length:Nat):Int))=true:=decide_eq_true (by omega)
   have bF:nn ao=.error 5:=by unfold nn;rw [ag];simp only;rw [if_neg M5]
   have ka:rF ao=.tuple [.agg (ay (.mk 0 0 [])),.int .i64 (5:Nat)]:=by unfold rF nZ np;rw [bF]
   rw [ka]
   simp only [af,Nat.reduceEqDiff,Nat.reduceAdd,fh,vL,ov,mZ,bh,g4,aU,Tryz.results55,hh,gU,fp,hg]
   exact aF ⟨_,o6 _ 5,qq.trans (J.set _ h.n _) fun q ad ab=>by omega⟩
def n0:Option Int→V
 | some n=>.tuple [.int .i64 n,.int .i64 0]
 | none=>.tuple [.int .i64 0,.int .i64 10]
theorem akW (e:bG) (b6 cT rt acc:Int) (o:Option Int) (hm:cY e=true) (aD:cE b6 cT rt acc 16 e=o) (h:I) (av:ga h) :
  Pure Tryz.prog 59 [.agg (ay e),.agg [.int .i64 b6,.int .i64 cT,.int .i64 rt],.int .i64 acc] h (n0 o):=by
 have:=WX e b6 cT rt acc h av
 rw [hm,aD] at this
 cases o<;>exact this
def jH (v v2:V):Prop:=∀ ρ v',aA ρ v v'→aA ρ v2 v'
def jI (l dm:List V):Prop:=∀ ρ b0,aT ρ l b0→aT ρ dm b0
theorem jH.refl (v:V):jH v v:=fun _ _ h=>h
theorem jI.refl (l:List V):jI l l:=fun _ _ h=>h
theorem jI.cons {v v2:V} {l dm:List V} (a:jH v v2) (b:jI l dm):jI (v::l) (v2::dm):=fun ρ b0 h=>by
 obtain ⟨v',im,rfl,h1,aa⟩:=h.di
 exact aT.cons (a ρ v' h1) (b ρ im aa)
theorem jI.append {a a2 b bW:List V} (aO:jI a a2) (az:a.length=a2.length) (ak:jI b bW):jI (a++b) (a2++bW):=fun ρ b0 h=>by
 have h1:=h.take a.length
 have aa:=h.drop a.length
 rw [List.take_left] at h1
 rw [List.drop_left] at aa
 have:=(aO ρ _ h1).append (ak ρ _ aa)
 rwa [List.take_append_drop] at this
theorem jH.an:jH .an (.ai 0 []):=fun ρ v' h=>by cases h;exact .eU none 0 (by simp)
theorem jH.ai {n:Nat} {cs tt:List V} (h:jI cs tt) (az:cs.length=tt.length):jH (.ai n cs) (.ai n tt):=fun ρ v' aD=>by
 cases aD with
 | ai o n cap ak aG aR ag=>
  rename_i b arr
  have hW:aT ρ cs ((arr.toList.drop o).take cs.length):=by
   refine ⟨by simp;omega,fun k v v' h1 aa=>?_⟩
   rw [List.getElem?_take] at aa
   split at aa
   ·rw [List.getElem?_drop] at aa
    exact ag k v v' h1 (by simpa using aa)
   ·cases aa
  have aa:=h ρ _ hW
  refine .ai o n cap ak aG (by omega) fun k v v' aC bz=>?_
  have hk:k<cs.length:=by rw [az];exact (List.getElem?_eq_some_iff.1 aC).1
  refine aa.2 k v v' aC ?_
  rw [List.getElem?_take,if_pos hk,List.getElem?_drop]
  simpa using bz
 | eU a c aO=>
  have:tt=[]:=List.eq_nil_of_length_eq_zero (by simpa using az.symm)
  subst this
  exact .eU a c aO
theorem jH.cast {v v2:V} (a:jH v v2) (h:I):aM v h v2 h:=fun ρ B aK w cm hw aD=>⟨ρ,Ren.le.refl ρ,hw,a ρ cm aD⟩
theorem akX (n:Nat) (g:FuncId) (cap:List V) (p:Nat→Bool) (h:I) (aG:n<2 ^ 61) (gm:bT Tryz.prog g=true) (aq:∀ i,i<n→Pure Tryz.prog g (.int .i64 (i:Nat)::cap) h (.bool (p i)))
  (r:Nat) (aH:r≤n) (h1:∀ t,t<r→p t=false) (aa:∀ t,r≤t→t<n→p t=true):Pure Tryz.prog 206 [.int .i64 (n:Nat),.func (.func g) [] cap] h (.int .i64 (r:Nat)):=by
 refine ae.ax (c:=_) Tryz.func206 rfl (by kernel_rfl) (by simp) ?_
 simp only [af,Nat.reduceEqDiff,reduceCtorEq]
 refine aX.b9 (α:=Nat×Nat) (fun x f h'=>h'=h∧f 1=.func (.func g) [] cap∧f 5=.int .i64 (x.1:Nat)∧f 6=.int .i64 (x.2:Nat)∧x.1≤r∧r≤x.2∧x.2≤n) (fun x=>x.2 - x.1) (0,n)
  ⟨rfl,rfl,rfl,rfl,Nat.zero_le _,aH,Nat.le_refl _⟩ ?_
 rintro ⟨lo,hi⟩ f h' ⟨rfl,f1,f5,f6,cG,a2,a3⟩
 simp only at f5 f6 cG a2 a3
 refine am (by kernel_rfl) ?_
 by_cases aN:lo<hi
 ·have d1:decide ((lo:Int)<(hi:Int))=true:=decide_eq_true (by omega)
  have c2:IntKind.i64.wrap ((lo:Int)+(hi:Int))=((lo+hi:Nat):Int):=by rw [Go.IntWalk.i64_in _ (by omega)];omega
  have bX:=O1 (n:=lo+hi) (by omega)
  have k8:(((lo+hi:Nat):Int)).fdiv (2 ^ (min (Int.toNat 1) IntKind.u64.bits))=(((lo+hi) / 2:Nat):Int):=by
   rw [show (2:Int) ^ (min (Int.toNat 1) IntKind.u64.bits)=2 from rfl,Int.fdiv_eq_ediv_of_nonneg _ (by omega)];omega
  have wI:=TY (n:=(lo+hi) / 2) (by omega)
  have B8:=oq (i:=(lo+hi) / 2) (n:=n) (by omega) (by omega)
  simp only [af,Nat.reduceEqDiff,f1,f5,f6,d1,c2,lR iB Hn,bX,F6 (show (0:Int)≤1 by decide),k8,lR Hn iB,wI]
  refine bU gm (aq _ (by omega)) ?_
  cases aZ:p ((lo+hi) / 2)
  ·have:¬r≤(lo+hi) / 2:=fun ab=>by have:=aa _ ab (by omega);rw [aZ] at this;cases this
   simp only [af,Nat.reduceEqDiff,B8]
   exact aF ⟨((lo+hi) / 2+1,hi),⟨rfl,f1,rfl,f6,by simp only;omega,a2,a3⟩,by simp only;omega⟩
  ·have:¬(lo+hi) / 2<r:=fun ab=>by have:=h1 _ ab;rw [aZ] at this;cases this
   simp only [af,Nat.reduceEqDiff]
   exact aF ⟨(lo,(lo+hi) / 2),⟨rfl,f1,f5,rfl,cG,by simp only;omega,by simp only;omega⟩,by simp only;omega⟩
 ·have d1:decide ((lo:Int)<(hi:Int))=false:=decide_eq_false (by omega)
  obtain rfl:lo=r:=by omega
  simp only [af,Nat.reduceEqDiff,f5,f6,d1,aU,Tryz.results206,ac]
  exact aF ⟨rfl,rfl⟩
theorem QO {α:Type} (A M X:List α) {a:Nat} (aO:A.length=a):lay (A++M) a X=A++X++M.drop X.length:=by
 unfold lay
 rw [←aO,List.take_left,show A.length+X.length=A.length+X.length from rfl,List.drop_append]
 simp
theorem akY {α:Type} (A M X B:List α) {a x b:Nat} (aO:A.length=a) (ag:X.length=x) (ak:B.length=b) (hm:M.length=x+b):lay (lay (A++M) a X) (a+x) B=A++X++B:=by
 rw [QO A M X aO,QO (A++X) _ B (by simp [aO,ag])]
 rw [List.drop_of_length_le (l:=M.drop X.length) (by simp;omega)]
 simp
theorem akZ {α:Type} (c A B X:List α) {a x b:Nat} (bq:c.take (a+b)=A++B) (aO:A.length=a) (ak:B.length=b) (ag:X.length=x) (az:a+x+b≤c.length) :
  ∃ R,lay (lay c (a+x) B) a X=A++X++(B++R)∧(lay (lay c (a+x) B) a X).length=c.length:=by
 have h1:c.take a=A:=by
  have:=congrArg (List.take a) bq
  rw [List.take_take,Nat.min_eq_left (by omega),←aO,List.take_left] at this
  rw [←aO];exact this
 have ey:(lay c (a+x) B).length=c.length:=pd _ _ _ (by omega)
 refine ⟨c.drop (a+x+b),?_,by rw [pd _ _ _ (by omega),ey]⟩
 have aw:(lay c (a+x) B).take a=A:=by
  unfold lay
  rw [List.append_assoc,List.take_append_of_le_length (by rw [List.length_take];omega),List.take_take,Nat.min_eq_left (by omega),h1]
 have aW:(lay c (a+x) B).drop (a+x)=B++c.drop (a+x+b):=by
  unfold lay
  rw [List.append_assoc,List.drop_append_of_le_length (by rw [List.length_take];omega),List.drop_of_length_le (by rw [List.length_take];omega),ak]
  simp
 generalize lay c (a+x) B=d at aw aW ey
 unfold lay
 rw [aw,ag,aW]
theorem XC:um Tryz.prog 208:=⟨_,Tryz.func208,by kernel_rfl,by kernel_rfl,by kernel_rfl,by kernel_rfl,267,297,2,4,by kernel_rfl,by kernel_rfl,Tryz.underlying267,by kernel_rfl⟩
theorem ak0 (i len cap k j:Nat) (c cs xs:List V) (ex:Option Nat) (h:I) (o:pW h 297 2 i len cap c ex cs) (az:len<2 ^ 40) (hk:k≤len) (aS:h.get j=.cells xs 297 none) (h7:j<h.n) (hp:j≠i)
  (ag:xs.length=2) (b5:xs.all (·.one)=true) (iC:cs.all (·.one)=true):ae Tryz.prog 172 [.bc i 0 len cap,.int .i64 (k:Nat),.bc j 0 1 1] h
   (fun r h'=>Own h' 297 2 r (cs.take (k * 2)++xs++cs.drop (k * 2))∧J h h' (fun q=>q=i)∧bV h (.bc i 0 len cap) r):=by
 refine ae.ax (c:=_) Tryz.func172 rfl (by kernel_rfl) (by simp) ?_
 have lz:=o
 obtain ⟨hi,av,hlen,bJ,hu,fM,iL⟩:=lz
 have bh:((1:Nat):Int)=1:=rfl
 have s1:=xQ (P:=Tryz.prog) (t:=267) (i:=i) (o:=0) (len:=len) (cap:=cap) (k:=.i64) r4 hu hk iL
 have kV:Own h 297 2 (.bc j 0 1 1) xs:=.inr ⟨j,1,1,xs,none,rfl,h7,aS,by rw [ag],by rw [List.take_of_length_le (by omega)],.inl ⟨by unfold b2;omega,by omega,Nat.le_refl _⟩⟩
 have dT:=zo (P:=Tryz.prog) (t:=267) r3 kV (n:=1) (by rw [ag]) (by decide) b5
 by_cases pk:k=len
 ·subst pk
  have d1:((k:Int)==(k:Int))=true:=by simp
  obtain ⟨v',h',fB,mS,rA,iU⟩:=xP (P:=Tryz.prog) (t:=267) (tx:=267) w2 (by decide) o.own dT (by rw [ag];rfl) (fun m hm=>by
   change m * 2=_ at hm
   rw [hlen,ag] at hm
   exact ⟨by simp only [lim];omega,by simp only [lim];omega⟩)
  simp only [af,Int.reduceBEq,Nat.reduceEqDiff,reduceCtorEq,r3,s1,bh,fB,aU,Tryz.results172,ac]
  refine aF ⟨?_,rA.mono fun q ad=>(Option.some.inj ad).symm,iU⟩
  rw [List.take_of_length_le (by omega),List.drop_of_length_le (by omega),List.append_nil]
  exact mS
 have pk:k<len:=by omega
 have d1:((k:Int)==(len:Int))=false:=by simp;omega
 have c2:=oq (i:=len) (n:=len+1) (by omega) (by omega)
 have uM:=oq (i:=k) (n:=len) (by omega) (by omega)
 have au:=Uj (P:=Tryz.prog) (t:=267) (i:=i) (o:=0) (len:=len) w2 hu
 have gX:(cs.take (k * 2)).length=k * 2:=by rw [List.length_take];omega
 have jQ:(cs.drop (k * 2)).length=(len - k) * 2:=by rw [List.length_drop];omega
 have bM:(c.drop (k * 2)).take ((len - k) * 2)=cs.drop (k * 2):=by rw [←bJ,List.drop_take];congr 1;omega
 have tO:((c.drop (k * 2)).take ((len - k) * 2)).all (·.one)=true:=by
  rw [bM,List.all_eq_true]
  exact fun v aD=>List.all_eq_true.1 iC v (List.mem_of_mem_drop aD)
 have l2:(xs.drop 0).take (1 * 2)=xs:=by rw [List.drop_zero,List.take_of_length_le (by omega)]
 by_cases eG:cap<len+1
 ·have d2:decide ((cap:Int)<((len+1:Nat):Int))=true:=decide_eq_true (by omega)
  have s2:=EI (P:=Tryz.prog) (t:=267) (i:=i) (o:=0) (len:=len) (cap:=cap) (k:=.i64) (m:=k) r4 hu (by omega)
  have bX:IntKind.i64.wrap (((len+1:Nat):Int) - (k:Int))=((len+1 - k:Nat):Int):=by rw [Go.IntWalk.i64_in _ (by omega)];omega
  have aw:=Uk (P:=Tryz.prog) (t:=267) (kq:=.i64) (o:=0) (len:=k) (cap:=cap) (n:=len+1 - k) (kn:=.i64) (tn:=3) w2 (by kernel_rfl) (by decide) av (by omega) hu (by omega) (by simp only [lim];omega) (by simp only [lim];omega) (by simp only [];omega)
  simp only [List.drop_zero] at aw
  have lW:k+(len+1 - k)=len+1:=by omega
  rw [lW] at aw
  obtain ⟨H1,dY⟩:∃ y,y=h.push (.cells (c.take (k * 2)++made [V.int .i64 0,V.int .i64 0] (len+1 - k)) 297 (some 2)):=⟨_,rfl⟩
  rw [←dY] at aw
  have g1:H1.get h.n=.cells (c.take (k * 2)++made [V.int .i64 0,V.int .i64 0] (len+1 - k)) 297 (some 2):=by rw [dY];exact cA
  have x5:H1.get j=.cells xs 297 none:=by rw [dY,mc h7];exact aS
  have ny:H1.get i=.cells c 297 ex:=by rw [dY,mc hi];exact av
  have gv:H1.n=h.n+1:=by rw [dY];rfl
  have bB:J h H1 none_:=by rw [dY];exact J.push _ _ _
  have iy:iJ Tryz.prog 267 (.bc h.n 0 (len+1) b2) (some (.int .i64 (k:Int))) none none=some (.bc h.n (0+k * 2) (len+1 - k) (b2+0+k)):=Kx (a:=0) r4 (by omega)
  have p1:iJ Tryz.prog 267 (.bc h.n 0 (len+1) b2) (some (.int .i64 ((k+1:Nat):Int))) none none=some (.bc h.n (0+(k+1) * 2) (len+1 - (k+1)) (b2+0+(k+1))):=Kx (a:=0) r4 (by omega)
  rw [Nat.zero_add,Nat.add_zero] at iy p1
  have tP:c.take (k * 2)=cs.take (k * 2):=by rw [←bJ,List.take_take,Nat.min_eq_left (by omega)]
  have fL:(made [V.int .i64 0,V.int .i64 0] (len+1 - k)).length=(len+1 - k) * 2:=zU _ _
  have aW:=AA (P:=Tryz.prog) (t:=267) (tx:=267) (o:=k * 2) (dl:=len+1 - k) (dc:=b2+k) (p:=0) (n:=1) (d:=1) (m:=1) w2 g1 x5 (by show min 1 (len+1 - k)=1;omega) (by decide) (by simp only [];omega) (by rw [List.length_append,fL,tP,gX];simp only [];omega) (by rw [l2];exact b5)
  rw [l2] at aW
  obtain ⟨bP,bE⟩:∃ y,y=H1.set h.n (.cells (lay (c.take (k * 2)++made [V.int .i64 0,V.int .i64 0] (len+1 - k)) (k * 2) xs) 297 (some 2)):=⟨_,rfl⟩
  rw [←bE] at aW
  have g2:bP.get h.n=.cells (lay (c.take (k * 2)++made [V.int .i64 0,V.int .i64 0] (len+1 - k)) (k * 2) xs) 297 (some 2):=by rw [bE];exact aP
  have vn:bP.get i=.cells c 297 ex:=by rw [bE,kL (by omega)];exact ny
  have dm:(lay (c.take (k * 2)++made [V.int .i64 0,V.int .i64 0] (len+1 - k)) (k * 2) xs).length=(len+1) * 2:=by rw [pd _ _ _ (by rw [List.length_append,fL,tP,gX,ag];omega),List.length_append,fL,tP,gX];omega
  have k2:J h bP none_:=by rw [bE];exact bB.trans (J.set _ _ _) fun q ad ab=>by omega
  have CP:=xQ (P:=Tryz.prog) (t:=267) (i:=i) (o:=0) (len:=len) (cap:=cap) (k:=.i64) (l:=k) r4 hu hk iL
  rw [if_neg (by omega),Nat.zero_add] at CP
  have cJ:=AA (P:=Tryz.prog) (t:=267) (tx:=267) (o:=(k+1) * 2) (dl:=len+1 - (k+1)) (dc:=b2+(k+1)) (p:=k * 2) (n:=len - k) (d:=cap - k) (m:=len - k) w2 g2 vn (by show min (len - k) (len+1 - (k+1))=len - k;omega) (by omega) (by simp only [];omega) (by rw [dm];simp only [];omega) tO
  simp only at cJ
  rw [bM] at cJ
  rw [show (k+1) * 2=k * 2+2 by omega] at p1 cJ
  rw [tP,akY (cs.take (k * 2)) (made [V.int .i64 0,V.int .i64 0] (len+1 - k)) xs (cs.drop (k * 2)) gX ag jQ (by rw [fL];omega)] at cJ
  simp only [af,Int.reduceBEq,Nat.reduceEqDiff,reduceCtorEq,r3,s1,bh,d1,c2,au,d2,s2,bX,aw,iy,aW]
  refine aX.bk none_ [8] (.q 0 (.q 1 (.q 2 (.q 3 (.q 4 (.q 5 (.q 6 (.q 7 (.a 8 .done))))))))) (by kernel_rfl) (by kernel_rfl) (by kernel_rfl) ?_
  simp only [af,bN,Nat.reduceEqDiff,reduceCtorEq,uM,p1,CP,cJ,aU,Tryz.results172,ac]
  refine aF ⟨?_,?_,.inr fun q ad=>?_⟩
  ·refine Own.grown (by rw [jt,bE,jt,gv];omega) aP ?_
   simp only [List.length_append,gX,jQ,ag];omega
  ·exact (k2.trans (J.set _ _ _) fun q ad ab=>by omega).up
  ·simp only [aV,Option.some.injEq] at ad;omega
 ·have d2:decide ((cap:Int)<((len+1:Nat):Int))=false:=decide_eq_false (by omega)
  have lA:len+1≤cap:=by omega
  have s2:=EI (P:=Tryz.prog) (t:=267) (i:=i) (o:=0) (len:=len) (cap:=cap) (k:=.i64) (m:=len+1) r4 hu lA
  have iy:=xQ (P:=Tryz.prog) (t:=267) (i:=i) (o:=0) (len:=len+1) (cap:=cap) (k:=.i64) (l:=k+1) r4 hu (by omega) lA
  rw [if_neg (by omega),Nat.zero_add] at iy
  have p1:=xQ (P:=Tryz.prog) (t:=267) (i:=i) (o:=0) (len:=len+1) (cap:=cap) (k:=.i64) (l:=k) r4 hu (by omega) lA
  rw [if_neg (by omega),Nat.zero_add] at p1
  have xd:tc h [.bc j 0 1 1,.bc i ((k+1) * 2) (len+1 - (k+1)) (cap - (k+1))]=some (.bool false):=by
   cases c with
   | nil=>simp at fM;omega
   | cons mB H0=>simp [tc,aS,av,hp]
  have cw:len * 2+2≤c.length:=by omega
  have aW:=AA (P:=Tryz.prog) (t:=267) (tx:=267) (o:=(k+1) * 2) (dl:=len+1 - (k+1)) (dc:=cap - (k+1)) (p:=k * 2) (n:=len+1 - k) (d:=cap - k) (m:=len - k) w2 av av (by show min (len+1 - k) (len+1 - (k+1))=len - k;omega) (by omega) (by simp only [];omega) (by simp only [];omega) tO
  simp only at aW
  rw [bM] at aW
  obtain ⟨R,eR,yF⟩:=akZ c (cs.take (k * 2)) (cs.drop (k * 2)) xs (a:=k * 2) (x:=2) (b:=(len - k) * 2) (by rw [List.take_append_drop,show k * 2+(len - k) * 2=len * 2 by omega];exact bJ) gX jQ ag (by omega)
  rw [show (k+1) * 2=k * 2+2 by omega] at iy xd aW
  obtain ⟨H1,dY⟩:∃ y,y=h.set i (.cells (lay c (k * 2+2) (cs.drop (k * 2))) 297 ex):=⟨_,rfl⟩
  rw [←dY] at aW
  have g1:H1.get i=.cells (lay c (k * 2+2) (cs.drop (k * 2))) 297 ex:=by rw [dY];exact aP
  have x5:H1.get j=.cells xs 297 none:=by rw [dY,kL hp];exact aS
  have bB:J h H1 (fun q=>q=i):=by rw [dY];exact J.set _ _ _
  have gv:H1.n=h.n:=by rw [dY];rfl
  have ey:(lay c (k * 2+2) (cs.drop (k * 2))).length=c.length:=pd _ _ _ (by rw [jQ];omega)
  have cJ:=AA (P:=Tryz.prog) (t:=267) (tx:=267) (o:=k * 2) (dl:=len+1 - k) (dc:=cap - k) (p:=0) (n:=1) (d:=1) (m:=1) w2 g1 x5 (by show min 1 (len+1 - k)=1;omega) (by decide) (by simp only [];omega) (by rw [ey];simp only [];omega) (by rw [l2];exact b5)
  simp only at cJ
  rw [l2] at cJ
  simp only [af,Int.reduceBEq,Nat.reduceEqDiff,reduceCtorEq,r3,s1,bh,d1,c2,au,d2,s2,uM,iy]
  refine Tw ajO XC xd ?_
  simp only [af,Nat.reduceEqDiff,reduceCtorEq]
  refine aX.bk none_ [8] (.q 0 (.q 1 (.q 2 (.q 3 (.q 4 (.q 5 (.q 6 (.q 7 (.a 8 .done))))))))) (by kernel_rfl) (by kernel_rfl) (by kernel_rfl) ?_
  simp only [af,bN,Nat.reduceEqDiff,reduceCtorEq,uM,iy,p1,aW,cJ,aU,Tryz.results172,ac]
  refine aF ⟨.inr ⟨i,len+1,cap,_,ex,rfl,by rw [jt,gv];exact hi,aP,?_,?_,.inl ⟨hu,by rw [yF];exact fM,lA⟩⟩,bB.trans' (J.set _ _ _),.inl rfl⟩
  ·simp only [List.length_append,gX,jQ,ag];omega
  ·rw [eR,←List.append_assoc]
   exact List.take_left' (by simp only [List.length_append,gX,jQ,ag];omega)
theorem insertC (v:V) (k j:Nat) (cs xs:List V) (h:I) (o:Own h 297 2 v cs) (az:cs.length<2 ^ 40) (hk:k * 2≤cs.length) (aS:h.get j=.cells xs 297 none) (h7:j<h.n) (hp:aV v≠some j)
  (ag:xs.length=2) (b5:xs.all (·.one)=true) (iC:cs.all (·.one)=true):ae Tryz.prog 172 [v,.int .i64 (k:Nat),.bc j 0 1 1] h
   (fun r h'=>Own h' 297 2 r (cs.take (k * 2)++xs++cs.drop (k * 2))∧J h h' (bl v)∧bV h v r):=by
 refine ae.zp o (by decide) (fun aD au=>?_) fun i len cap c ex aa aD ok dj kk aG=>?_
 ·subst au
  obtain rfl:k=0:=by simp at hk;omega
  have kV:Own h 297 2 (.bc j 0 1 1) xs:=.inr ⟨j,1,1,xs,none,rfl,h7,aS,by rw [ag],by rw [List.take_of_length_le (by omega)],.inl ⟨by unfold b2;omega,by omega,Nat.le_refl _⟩⟩
  have dT:=zo (P:=Tryz.prog) (t:=267) r3 kV (n:=1) (by rw [ag]) (by decide) b5
  obtain ⟨v',h',fB,mS,rA,iU⟩:=xP (P:=Tryz.prog) (t:=267) (tx:=267) w2 (by decide) o dT (by rw [ag];rfl) (fun m hm=>by
   change m * 2=_ at hm
   rw [ag] at hm
   simp only [List.length_nil] at hm
   exact ⟨by simp only [lim];omega,by simp only [lim];omega⟩)
  obtain ⟨e,gP,bK⟩:=xM (P:=Tryz.prog) r4
  have bh:((1:Nat):Int)=1:=rfl
  have mB:((0:Nat):Int)=0:=rfl
  have fin:Own h' 297 2 v' (([]:List V).take (0 * 2)++xs++([]:List V).drop (0 * 2))∧J h h' (bl v)∧bV h v v':=⟨by simpa using mS,rA,iU⟩
  rcases aD with rfl | rfl
  ·have s1:iJ Tryz.prog 267 .an (some (.int .i64 0)) none none=some .an:=by unfold iJ;rw [gP];simp only [bK];rfl
   refine ae.ax (c:=_) Tryz.func172 rfl (by kernel_rfl) (by simp) ?_
   simp only [af,Int.reduceBEq,Nat.reduceEqDiff,reduceCtorEq,r3,mB,s1,bh,fB,aU,Tryz.results172,ac]
   exact aF fin
  ·have s1:iJ Tryz.prog 267 .z0 (some (.int .i64 0)) none none=some .z0:=by unfold iJ;rw [gP];simp only [bK];rfl
   refine ae.ax (c:=_) Tryz.func172 rfl (by kernel_rfl) (by simp) ?_
   simp only [af,Int.reduceBEq,Nat.reduceEqDiff,reduceCtorEq,r3,mB,s1,bh,fB,aU,Tryz.results172,ac]
   exact aF fin
 ·have pF:aV v=some i:=by rcases aD with rfl | rfl<;>rfl
  have cB:j≠i:=fun ab=>hp (by rw [pF,ab])
  have hlen:=ok.2.2.1
  refine (ak0 i len cap k j c cs xs ex aa ok (by omega) (by omega) ((kk.get j h7 cB).trans aS) (by omega) cB ag b5 iC).mono fun r h' ⟨o',k',n'⟩=>⟨o',(kk.trans' k').mono fun q ad=>by subst ad;exact pF,?_⟩
  rcases n' with n' | n'
  ·exact .inl (by rw [n',pF];rfl)
  ·exact .inr fun q ad=>by have:=n' q ad;omega
theorem ak1 (i len cap k:Nat) (c cs:List V) (ex:Option Nat) (h:I) (o:pW h 297 2 i len cap c ex cs) (az:len<2 ^ 40) (hk:k<len) (iC:cs.all (·.one)=true) :
  ae Tryz.prog 299 [.bc i 0 len cap,.int .i64 (k:Nat),.int .i64 ((k+1:Nat):Int)] h
   (fun r h'=>Own h' 297 2 r (cs.take (k * 2)++cs.drop ((k+1) * 2))∧J h h' (fun q=>q=i)∧aV r=some i):=by
 refine ae.ax (c:=_) Tryz.func299 rfl (by kernel_rfl) (by simp) ?_
 have lz:=o
 obtain ⟨hi,av,hlen,bJ,hu,fM,iL⟩:=lz
 obtain ⟨dV,sR⟩:=Um (P:=Tryz.prog) (t:=267) (i:=i) (o:=0) (len:=len) (cap:=cap) (k:=.i64) (k2:=.i64) (k3:=.i64) (l:=k) (m:=k+1) (n:=len) r4 hu (by omega) (by omega) iL
 have d1:((k:Int)==((k+1:Nat):Int))=false:=by simp;omega
 have s1:=EI (P:=Tryz.prog) (t:=267) (i:=i) (o:=0) (len:=len) (cap:=cap) (k:=.i64) (m:=k) r4 hu (by omega)
 have s2:=xQ (P:=Tryz.prog) (t:=267) (i:=i) (o:=0) (len:=len) (cap:=cap) (k:=.i64) (l:=k+1) r4 hu (by omega) iL
 have gX:(cs.take (k * 2)).length=k * 2:=by rw [List.length_take];omega
 have jQ:(cs.drop ((k+1) * 2)).length=(len - (k+1)) * 2:=by rw [List.length_drop];omega
 have bM:(c.drop ((k+1) * 2)).take ((len - (k+1)) * 2)=cs.drop ((k+1) * 2):=by rw [←bJ,List.drop_take];congr 1;omega
 have cw:len * 2≤c.length:=by omega
 have zB:∃ b,iJ Tryz.prog 267 (.bc i 0 len cap) (some (.int .i64 ((k+1:Nat):Int))) none none=some b∧fm Tryz.prog 2 267 b h=some (len - (k+1),cs.drop ((k+1) * 2)):=by
  refine ⟨_,s2,?_⟩
  obtain ⟨e,gP,bK⟩:=xM (P:=Tryz.prog) r4
  have b5:(cs.drop ((k+1) * 2)).all (·.one)=true:=List.all_eq_true.2 fun v aD=>List.all_eq_true.1 iC v (List.mem_of_mem_drop aD)
  unfold fm
  simp only [gP]
  by_cases ra:cap=k+1
  ·rw [if_pos ra]
   have dk:len - (k+1)=0:=by omega
   simp only [av,dk,Nat.zero_mul,List.take_zero]
   rw [if_pos ⟨by omega,rfl⟩,List.drop_of_length_le (by omega)]
  ·rw [if_neg ra,Nat.zero_add]
   simp only [av]
   rw [bM,if_pos ⟨by omega,b5⟩]
 obtain ⟨b,ak,dT⟩:=zB
 have jn:pW h 297 2 i k cap c ex (cs.take (k * 2)):=⟨hi,av,gX,by rw [←bJ,List.take_take,Nat.min_eq_left (by omega)],hu,fM,by omega⟩
 obtain ⟨j6,rG,n1,wi⟩:∃ j6,ma Tryz.prog 267 267 (.bc i 0 k cap) b h=some (.bc i 0 (len - 1) cap,h.set i (.cells j6 297 ex))∧j6.length=c.length∧j6.take ((len - 1) * 2)=cs.take (k * 2)++cs.drop ((k+1) * 2):=by
  obtain ⟨he,bK,bf,hG,eX,_⟩:=rZ (P:=Tryz.prog) w2
  unfold ma
  simp only [he,bK,bf,hG,dT,List.length_cons,List.length_nil,if_true,Nat.zero_add,Nat.reduceAdd]
  by_cases dk:len - (k+1)=0
  ·refine ⟨c,?_,rfl,?_⟩
   ·rw [if_pos dk,show len - 1=k by omega,Kb av]
   ·rw [show len - 1=k by omega,jn.2.2.2.1,List.drop_of_length_le (by omega),List.append_nil]
  ·refine ⟨lay c (k * 2) (cs.drop ((k+1) * 2)),?_,pd _ _ _ (by rw [jQ];omega),?_⟩
   ·rw [if_neg dk,if_pos ⟨by simp only [lim];omega,by simp only [lim];omega⟩]
    simp only [av]
    rw [if_pos hu,if_pos (by omega),if_pos (by omega),show k+(len - (k+1))=len - 1 by omega]
   ·rw [JD _ _ _ _ (by rw [jQ];omega) (by omega)]
    have:c.take ((len - 1) * 2)=cs.take (k * 2)++(c.drop (k * 2)).take ((len - 1 - k) * 2):=by
     rw [←jn.2.2.2.1,show (len - 1) * 2=k * 2+(len - 1 - k) * 2 by omega,List.take_add]
    rw [this,QO _ _ _ gX,List.drop_of_length_le (l:=(c.drop (k * 2)).take ((len - 1 - k) * 2)) (by rw [List.length_take,List.length_drop,jQ];omega),List.append_nil]
 obtain ⟨H1,dY⟩:∃ y,y=h.set i (.cells j6 297 ex):=⟨_,rfl⟩
 rw [←dY] at rG
 have g1:H1.get i=.cells j6 297 ex:=by rw [dY];exact aP
 have iy:=Ul (P:=Tryz.prog) (t:=267) (i:=i) (o:=0) (len:=len - 1) (cap:=cap) (k:=.i64) (k2:=.i64) (l:=len - 1) (m:=len) r4 hu (by omega) iL
 rw [if_neg (by omega),Nat.zero_add] at iy
 have tw:xG Tryz.prog 267 (.bc i ((len - 1) * 2) (len - (len - 1)) (cap - (len - 1))) H1=some (H1.set i (.cells (lay j6 ((len - 1) * 2) (made [V.int .i64 0,V.int .i64 0] 1)) 297 ex)):=by
  obtain ⟨he,bK,bf,hG,eX,_⟩:=rZ (P:=Tryz.prog) w2
  unfold xG
  simp only [he,bK,g1]
  rw [show len - (len - 1)=1 by omega,if_neg (by decide),if_pos ⟨rfl,by rw [zU,n1];simp only [List.length_cons,List.length_nil];omega⟩]
 simp only [af,Nat.reduceEqDiff,reduceCtorEq,r3,sR,d1]
 refine aX.bk none_ [6] (.q 0 (.q 1 (.q 2 (.q 3 (.q 4 (.q 5 (.a 6 (.q 7 .done)))))))) (by kernel_rfl) (by kernel_rfl) (by kernel_rfl) ?_
 simp only [af,bN,Nat.reduceEqDiff,reduceCtorEq,r3,s1,ak,rG,iy,tw,aU,Tryz.results299,ac]
 refine aF ⟨.inr ⟨i,len - 1,cap,_,ex,rfl,by rw [jt,dY,jt];exact hi,aP,?_,?_,.inl ⟨hu,?_,by omega⟩⟩,?_,rfl⟩
 ·rw [List.length_append,gX,jQ];omega
 ·have hm:(made [V.int .i64 0,V.int .i64 0] 1).length=2:=rfl
  unfold lay
  rw [List.append_assoc,List.take_append_of_le_length (by rw [List.length_take];omega),List.take_take,Nat.min_self,wi]
 ·rw [pd _ _ _ (by rw [zU,n1];simp only [List.length_cons,List.length_nil];omega),n1];exact fM
 ·rw [dY];exact (J.set _ _ _).trans' (J.set _ _ _)
theorem ak2 (v:V) (k:Nat) (cs:List V) (h:I) (o:Own h 297 2 v cs) (az:cs.length<2 ^ 40) (hk:(k+1) * 2≤cs.length) (iC:cs.all (·.one)=true) :
  ae Tryz.prog 299 [v,.int .i64 (k:Nat),.int .i64 ((k+1:Nat):Int)] h
   (fun r h'=>Own h' 297 2 r (cs.take (k * 2)++cs.drop ((k+1) * 2))∧J h h' (bl v)∧bV h v r):=by
 refine ae.zp o (by decide) (fun aD au=>?_) fun i len cap c ex aa aD ok dj kk aG=>?_
 ·subst au;simp at hk
 ·have pF:aV v=some i:=by rcases aD with rfl | rfl<;>rfl
  have hlen:=ok.2.2.1
  refine (ak1 i len cap k c cs ex aa ok (by omega) (by omega) iC).mono fun r h' ⟨o',k',n'⟩=>⟨o',(kk.trans' k').mono fun q ad=>by subst ad;exact pF,.inl (by rw [n',pF])⟩
abbrev dd:=Int×Int
def hS (l:List dd):Prop:=l.Pairwise fun a b=>a.1<b.1
def look:List dd→Int→Option Int
 | [],_=>none
 | p::r,k=>if p.1=k then some p.2 else look r k
def put:List dd→Int→Int→List dd
 | [],k,v=>[(k,v)]
 | p::r,k,v=>if p.1<k then p::put r k v else if p.1=k then (k,v)::r else (k,v)::p::r
def rm:List dd→Int→List dd
 | [],_=>[]
 | p::r,k=>if p.1=k then r else p::rm r k
def pos:List dd→Int→Nat
 | [],_=>0
 | p::r,k=>if p.1<k then pos r k+1 else 0
def has (l:List dd) (k:Int):Bool:=(look l k).isSome
theorem CQ:∀ (l:List dd) (k:Int),pos l k≤l.length
 | [],_=>Nat.le_refl _
 | p::r,k=>by
  unfold pos
  split
  ·have:=CQ r k;simp only [List.length_cons];omega
  ·exact Nat.zero_le _
theorem XD:∀ (l:List dd) (k:Int) (t:Nat) (p:dd),t<pos l k→l[t]?=some p→p.1<k
 | [],_,t,p,h,_=>by simp [pos] at h
 | q::r,k,t,p,h,aZ=>by
  unfold pos at h
  split at h
  ·cases t with
   | zero=>simp at aZ;subst aZ;assumption
   | succ t=>exact XD r k t p (by omega) (by simpa using aZ)
  ·omega
theorem XE:∀ {l:List dd},hS l→∀ (k:Int) (t:Nat) (p:dd),pos l k≤t→l[t]?=some p→k≤p.1
 | [],_,_,t,p,_,aZ=>by simp at aZ
 | q::r,U,k,t,p,h,aZ=>by
  have er:=List.pairwise_cons.1 U
  unfold pos at h
  split at h
  ·cases t with
   | zero=>omega
   | succ t=>exact XE er.2 k t p (by omega) (by simpa using aZ)
  ·cases t with
   | zero=>simp at aZ;subst aZ;omega
   | succ t=>
    have:=er.1 p (List.mem_of_getElem? (by simpa using aZ))
    omega
theorem CR:∀ {l:List dd} {k:Int},(∀ p ∈ l,k<p.1)→look l k=none
 | [],_,_=>rfl
 | q::r,k,h=>by
  unfold look
  rw [if_neg (by have:=h q (by simp);omega)]
  exact CR fun p aZ=>h p (by simp [aZ])
theorem gZ:∀ {l:List dd},hS l→∀ (k:Int),(has l k=true∧∃ p,l[pos l k]?=some p∧p.1=k∧look l k=some p.2)∨(has l k=false∧look l k=none∧∀ p,l[pos l k]?=some p→k<p.1)
 | [],_,k=>.inr ⟨rfl,rfl,by simp⟩
 | q::r,U,k=>by
  have er:=List.pairwise_cons.1 U
  unfold has pos
  by_cases h1:q.1<k
  ·rw [if_pos h1]
   have:look (q::r) k=look r k:=by rw [look,if_neg (by omega)]
   rw [this]
   simpa [has] using gZ er.2 k
  ·rw [if_neg h1]
   by_cases aa:q.1=k
   ·exact .inl ⟨by simp [look,aa],q,by simp,aa,by simp [look,aa]⟩
   ·have:look (q::r) k=none:=CR fun p aZ=>by
     rcases List.mem_cons.1 aZ with rfl | aZ
     ·omega
     ·have:=er.1 p aZ;omega
    exact .inr ⟨by rw [this];rfl,this,fun p aZ=>by simp at aZ;subst aZ;omega⟩
theorem Lh:∀ {l:List dd},hS l→∀ (k v:Int),has l k=true→put l k v=l.set (pos l k) (k,v)
 | [],_,k,v,h=>by simp [has,look] at h
 | q::r,U,k,v,h=>by
  have er:=List.pairwise_cons.1 U
  unfold put pos
  by_cases h1:q.1<k
  ·rw [if_pos h1,if_pos h1,List.set_cons_succ,Lh er.2 k v]
   have:look (q::r) k=look r k:=by rw [look,if_neg (by omega)]
   rw [has,this] at h
   exact h
  ·rw [if_neg h1,if_neg h1]
   by_cases aa:q.1=k
   ·rw [if_pos aa];rfl
   ·exfalso
    have:look (q::r) k=none:=CR fun p aZ=>by
     rcases List.mem_cons.1 aZ with rfl | aZ
     ·omega
     ·have:=er.1 p aZ;omega
    rw [has,this] at h;cases h
theorem QP:∀ {l:List dd},hS l→∀ (k v:Int),has l k=false→put l k v=l.take (pos l k)++[(k,v)]++l.drop (pos l k)
 | [],_,k,v,h=>rfl
 | q::r,U,k,v,h=>by
  have er:=List.pairwise_cons.1 U
  unfold put pos
  by_cases h1:q.1<k
  ·rw [if_pos h1,if_pos h1,QP er.2 k v]
   ·simp
   ·have:look (q::r) k=look r k:=by rw [look,if_neg (by omega)]
    rw [has,this] at h
    exact h
  ·rw [if_neg h1,if_neg h1]
   by_cases aa:q.1=k
   ·simp [has,look,aa] at h
   ·rw [if_neg aa];simp
theorem QQ:∀ {l:List dd},hS l→∀ (k:Int),has l k=true→rm l k=l.take (pos l k)++l.drop (pos l k+1)
 | [],_,k,h=>by simp [has,look] at h
 | q::r,U,k,h=>by
  have er:=List.pairwise_cons.1 U
  unfold rm pos
  by_cases h1:q.1<k
  ·rw [if_neg (by omega),if_pos h1,QQ er.2 k]
   ·simp
   ·have:look (q::r) k=look r k:=by rw [look,if_neg (by omega)]
    rw [has,this] at h
    exact h
  ·rw [if_neg h1]
   by_cases aa:q.1=k
   ·rw [if_pos aa];simp
   ·exfalso
    have:look (q::r) k=none:=CR fun p aZ=>by
     rcases List.mem_cons.1 aZ with rfl | aZ
     ·omega
     ·have:=er.1 p aZ;omega
    rw [has,this] at h;cases h
theorem XF:∀ {l:List dd} {k v:Int} {p:dd},p ∈ put l k v→p=(k,v)∨p ∈ l
 | [],k,v,p,h=>by simp [put] at h;exact .inl h
 | q::r,k,v,p,h=>by
  unfold put at h
  split at h
  ·rcases List.mem_cons.1 h with rfl | h
   ·exact .inr (by simp)
   ·rcases XF h with h | h
    ·exact .inl h
    ·exact .inr (by simp [h])
  ·split at h
   ·rcases List.mem_cons.1 h with rfl | h
    ·exact .inl rfl
    ·exact .inr (by simp [h])
   ·rcases List.mem_cons.1 h with rfl | h
    ·exact .inl rfl
    ·exact .inr h
theorem XG:∀ {l:List dd} {k:Int} {p:dd},p ∈ rm l k→p ∈ l
 | [],k,p,h=>by simp [rm] at h
 | q::r,k,p,h=>by
  unfold rm at h
  split at h
  ·simp [h]
  ·rcases List.mem_cons.1 h with rfl | h
   ·simp
   ·simp [XG h]
theorem H2:∀ {l:List dd},hS l→∀ (k v:Int),hS (put l k v)
 | [],_,k,v=>by simp [put,hS]
 | q::r,U,k,v=>by
  have er:=List.pairwise_cons.1 U
  unfold put
  split
  ·refine List.pairwise_cons.2 ⟨fun p aZ=>?_,H2 er.2 k v⟩
   rcases XF aZ with rfl | aZ
   ·assumption
   ·exact er.1 p aZ
  ·split
   ·rename_i h1 aa
    exact List.pairwise_cons.2 ⟨fun p aZ=>by have:=er.1 p aZ;simp only;omega,er.2⟩
   ·refine List.pairwise_cons.2 ⟨fun p aZ=>?_,U⟩
    rcases List.mem_cons.1 aZ with rfl | aZ
    ·simp only;omega
    ·have:=er.1 p aZ;simp only;omega
theorem H3:∀ {l:List dd},hS l→∀ (k:Int),hS (rm l k)
 | [],_,k=>by simp [rm,hS]
 | q::r,U,k=>by
  have er:=List.pairwise_cons.1 U
  unfold rm
  split
  ·exact er.2
  ·exact List.pairwise_cons.2 ⟨fun p aZ=>er.1 p (XG aZ),H3 er.2 k⟩
theorem Li:∀ (l:List dd) (k v x:Int),hS l→look (put l k v) x=if x=k then some v else look l x
 | [],k,v,x,_=>by simp only [put,look];by_cases h:k=x<;>simp [h,eq_comm]
 | q::r,k,v,x,U=>by
  have er:=List.pairwise_cons.1 U
  unfold put
  by_cases h1:q.1<k
  ·rw [if_pos h1,look,look,Li r k v x er.2]
   by_cases aa:q.1=x
   ·rw [if_pos aa,if_neg (by omega),if_pos aa]
   ·rw [if_neg aa,if_neg aa]
  ·rw [if_neg h1]
   by_cases aa:q.1=k
   ·rw [if_pos aa,look,look]
    by_cases aC:x=k
    ·simp [aC]
    ·rw [if_neg (by simp only;omega),if_neg aC,if_neg (by omega)]
   ·rw [if_neg aa,look]
    by_cases aC:x=k
    ·simp [aC]
    ·rw [if_neg (by simp only;omega),if_neg aC]
theorem Lj:∀ (l:List dd) (k x:Int),hS l→look (rm l k) x=if x=k then none else look l x
 | [],k,x,_=>by simp [rm,look]
 | q::r,k,x,U=>by
  have er:=List.pairwise_cons.1 U
  unfold rm
  by_cases h1:q.1=k
  ·rw [if_pos h1]
   by_cases aa:x=k
   ·rw [if_pos aa]
    exact CR fun p aZ=>by have:=er.1 p aZ;omega
   ·rw [if_neg aa,look,if_neg (by omega)]
  ·rw [if_neg h1,look,look,Lj r k x er.2]
   by_cases aa:q.1=x
   ·rw [if_pos aa,if_neg (by omega),if_pos aa]
   ·rw [if_neg aa,if_neg aa]
theorem Lk:∀ {l:List dd},hS l→∀ {p:dd},p ∈ l→look l p.1=some p.2
 | [],_,p,h=>by cases h
 | q::r,U,p,h=>by
  have er:=List.pairwise_cons.1 U
  rcases List.mem_cons.1 h with rfl | h
  ·simp [look]
  ·rw [look,if_neg (by have:=er.1 p h;omega)]
   exact Lk er.2 h
theorem Ll:∀ {l:List dd} {k v:Int},look l k=some v→(k,v) ∈ l
 | [],_,_,h=>by cases h
 | q::r,k,v,h=>by
  unfold look at h
  split at h
  ·rename_i ad;have:=Option.some.inj h;subst this;subst ad;simp
  ·simp [Ll h]
theorem XH:∀ {a b:List dd},hS a→hS b→(∀ k,look a k=look b k)→a=b
 | [],[],_,_,_=>rfl
 | [],q::r,_,ak,h=>by have:=h q.1;simp [look] at this
 | q::r,[],aO,_,h=>by have:=h q.1;simp [look] at this
 | p::r,q::s,aO,ak,h=>by
  have nQ:=List.pairwise_cons.1 aO
  have ic:=List.pairwise_cons.1 ak
  have h1:=Ll (l:=q::s) (by rw [←h p.1];exact Lk aO (p:=p) (by simp))
  have aa:=Ll (l:=p::r) (by rw [h q.1];exact Lk ak (p:=q) (by simp))
  have H4:p=q:=by
   rcases List.mem_cons.1 h1 with h1 | h1
   ·exact h1
   ·rcases List.mem_cons.1 aa with aa | aa
    ·exact aa.symm
    ·have:=ic.1 _ h1;have:=nQ.1 _ aa;simp only at *;omega
  subst H4
  congr 1
  refine XH nQ.2 ic.2 fun k=>?_
  by_cases hk:p.1=k
  ·rw [CR fun x ag=>by have:=nQ.1 x ag;omega,CR fun x ag=>by have:=ic.1 x ag;omega]
  ·have:=h k
   rw [look,look,if_neg hk,if_neg hk] at this
   exact this
theorem ak3:∀ {l:List dd},hS l→∀ (k v:Int),(put l k v).length=if has l k=true then l.length else l.length+1:=by
 intro l U k v
 cases h:has l k
 ·rw [QP U k v h]
  have:=CQ l k
  simp
  omega
 ·rw [Lh U k v h];simp
theorem ak4 {l:List dd} (U:hS l) (k:Int) (h:has l k=true):(rm l k).length+1=l.length:=by
 rw [QQ U k h]
 rcases gZ U k with ⟨_,p,aZ,_⟩ | ⟨h',_⟩
 ·have:=(List.getElem?_eq_some_iff.1 aZ).1
  simp
  omega
 ·rw [h] at h';cases h'
theorem ak5 {l:List dd} (U:hS l) (k:Int) (h:has l k=false):rm l k=l:=by
 refine XH (H3 U k) U fun x=>?_
 rw [Lj l k x U]
 split
 ·rename_i ag;subst ag;unfold has at h;cases az:look l x with
  | none=>rfl
  | some y=>rw [az] at h;cases h
 ·rfl
structure aj where
 key:Int
 aJ:Int
 to:Int
 val:Int
 del:Bool
 deriving DecidableEq
def aL (c:aj):List V:=[.int .i64 c.key,.int .i64 c.aJ,.int .i64 c.to,.int .i64 c.val,.bool c.del]
theorem lX (r:aj):(aL r).length=5:=rfl
theorem XI (r:aj):(aL r).all (·.one)=true:=rfl
theorem A9 (r:aj):bo (aL r):=bo.cons (bj.int _ _) (bo.cons (bj.int _ _) (bo.cons (bj.int _ _) (bo.cons (bj.int _ _) (bo.cons (bj.bool _) bo.nil))))
theorem XJ {l:List aj} {k:Nat} (hk:k<l.length) {kk:IntKind}:hA Tryz.prog 35 (.ai l.length (l.flatMap aL)) (.int kk (k:Int))=some (.at (aL l[k]++(l.drop (k+1)).flatMap aL)):=qC lX hk K4
def gi (p:dd):List V:=[.int .i64 p.1,.int .i64 p.2]
theorem xe (p:dd):(gi p).length=2:=rfl
theorem QR (p:dd):(gi p).all (·.one)=true:=rfl
theorem ak6 (l:List dd) (k:Nat) (p:dd) (hk:k<l.length):lay (l.flatMap gi) (k * 2) (gi p)=(l.set k p).flatMap gi:=by
 unfold lay
 rw [zl xe,show k * 2+(gi p).length=(k+1) * 2 by rw [xe];omega,vF xe,List.set_eq_take_append_cons_drop,if_pos hk]
 simp
structure eo (h:I) (i:Nat) (v:V) (room:Int) (l:List dd):Prop where
 lt:i<h.n
 get:h.get i=.cells [.int .i64 room,v] 269 none
 own:Own h 297 2 v (l.flatMap gi)
 ne:aV v≠some i
 hT:hS l
 len:(l.length:Int)≤room
 room:room≤1024
theorem eo.vS {h:I} {i:Nat} {v:V} {room:Int} {l:List dd} (k:eo h i v room l):l.length≤1024:=by have:=k.len;have:=k.room;omega
theorem eo.rows {h:I} {i:Nat} {v:V} {room:Int} {l:List dd} (k:eo h i v room l):(l.flatMap gi).length=l.length * 2:=j7 xe l
theorem eo.al {h h':I} {i:Nat} {v:V} {room:Int} {l:List dd} {own:Nat→Prop} (k:eo h i v room l) (hk:J h h' own) (h1:¬own i) (aa:∀ j,aV v=some j→¬own j):eo h' i v room l :=
 ⟨Nat.lt_of_lt_of_le k.lt hk.n,(hk.get i k.lt h1).trans k.get,k.own.al hk aa,k.ne,k.hT,k.len,k.room⟩
theorem eo.ba {h h':I} {i:Nat} {v:V} {room:Int} {l:List dd} (k:eo h i v room l) (hk:J h h' none_):eo h' i v room l:=k.al hk (by simp [none_]) (by simp [none_])
theorem eo.rH {h h':I} {i:Nat} {v:V} {room:Int} {l:List dd} (k:eo h i v room l):dU Tryz.prog 267 v h'=some (.int .i64 (l.length:Nat)):=by
 have:=k.own.length (by decide) Tryz.prog r3
 rw [k.rows,Nat.mul_div_cancel _ (by decide)] at this
 rw [←this]
 rcases k.own with ⟨rfl | rfl,_⟩ | ⟨j,n,c,_,_,rfl,_⟩
 ·rw [Am r3,Am r3]
 ·rw [BV r3,BV r3]
 ·rw [BU r3,BU r3]
theorem eo.row {h:I} {i:Nat} {v:V} {room:Int} {l:List dd} (k:eo h i v room l) {t:Nat} {p:dd} (aZ:l[t]?=some p) :
  ∃ j k9 cg,(∀ kk,hA Tryz.prog 267 v (.int kk (t:Int))=some (.ptr j (t * 2)))∧aV v=some j∧j<h.n∧dB (h.get j) (t * 2)=some (.int .i64 p.1::.int .i64 p.2::k9)∧dB (h.get j) (t * 2+1)=some (.int .i64 p.2::cg) ∧
   ∀ q:dd,∃ ob,bR (some 2) (h.get j) (t * 2) (gi q)=some ob∧Own (h.set j ob) 297 2 v ((l.set t q).flatMap gi)∧J h (h.set j ob) (bl v):=by
 have bq:=(List.getElem?_eq_some_iff.1 aZ).1
 have a7:((l.flatMap gi).drop (t * 2)).take 2=gi p:=by
  rw [vF xe,show 2=1 * 2 from rfl,zl xe,List.drop_eq_getElem_cons bq,(List.getElem?_eq_some_iff.1 aZ).2]
  simp
 obtain ⟨j,cG,a2,a3,a4,a5⟩:=Ph (P:=Tryz.prog) (t:=267) (kk:=.i64) r4 (by decide) k.own (k:=t) (by rw [k.rows];omega)
 obtain ⟨k9,h0⟩:=a4 h 0 rfl (by decide)
 obtain ⟨cg,h1⟩:=a4 h 1 rfl (by decide)
 rw [a7] at h0 h1
 refine ⟨j,k9,cg,fun kk=>?_,a2,a3,h0,h1,fun q=>?_⟩
 ·obtain ⟨mo,ec,bW,_⟩:=Ph (P:=Tryz.prog) (t:=267) (kk:=kk) r4 (by decide) k.own (k:=t) (by rw [k.rows];omega)
  rw [a2] at bW
  cases bW
  exact ec
 ·obtain ⟨ob,bh,bD,c3⟩:=a5 (gi q) (xe q) (QR q)
  rw [ak6 l t q bq] at bD
  exact ⟨ob,bh,bD,c3⟩
theorem ak7 (h:I) (i a b t:Nat) (v:V) (room key:Int) (l:List dd) (p:dd) (k:eo h i v room l) (aO:h.get a=.cells [.ptr i 0] 194 none) (ak:h.get b=.cells [.int .i64 key] 2 none) (aZ:l[t]?=some p) :
  Pure Tryz.prog 207 [.int .i64 (t:Nat),.ptr a 0,.ptr b 0] h (.bool (decide (key≤p.1))):=by
 refine ae.ax (c:=_) Tryz.func207 rfl (by kernel_rfl) (by simp) ?_
 obtain ⟨j,k9,cg,ck,_,_,dW,_⟩:=k.row aZ
 have av:=k.get
 have ck:=ck .i64
 simp only [af]
 refine aX.bk none_ [] (.q 0 (.q 1 (.q 2 (.q 3 (.q 4 (.q 5 (.q 6 (.q 7 (.q 8 (.q 9 (.q 10 .done))))))))))) (by kernel_rfl) (by kernel_rfl) (by kernel_rfl) ?_
 simp only [af,bN,Nat.reduceEqDiff,Nat.reduceAdd,Nat.reduceLeDiff,reduceCtorEq,uG,KY,Ho,bx,w0,aO,ak,av,ck,dW,aU,Tryz.results207,ac]
 exact aF ⟨rfl,rfl⟩
theorem QS (h:I) (i:Nat) (v:V) (room key:Int) (l:List dd) (k:eo h i v room l) :
  Pure Tryz.prog 168 [.ptr i 0,.int .i64 key] h (.tuple [.int .i64 (pos l key:Nat),.bool (has l key)]):=by
 refine Pure.val (bj.tuple (bo.cons (bj.int _ _) (bo.cons (bj.bool _) bo.nil))) ?_
 refine ae.ax (c:=_) Tryz.func168 rfl (by kernel_rfl) (by simp) ?_
 obtain ⟨H,hH⟩:∃ y,y=(h.push (.cells [.ptr i 0] 194 none)).push (.cells [.int .i64 key] 2 none):=⟨_,rfl⟩
 have g0:H.get h.n=.cells [.ptr i 0] 194 none:=by rw [hH];exact wv
 have g1:H.get (h.n+1)=.cells [.int .i64 key] 2 none:=by rw [hH];exact d9
 have bA:J h H none_:=by rw [hH];exact (J.push _ _ _).bg _
 have kk:=k.ba bA
 have av:=kk.get
 simp only [af,Nat.reduceEqDiff,uG,Qi,Ho,w0]
 rw [←hH]
 clear hH
 have az:=kk.rH (h':=H)
 simp only [af,Nat.reduceEqDiff,Nat.reduceAdd,Nat.reduceLeDiff,av,az]
 refine bU aje (akX l.length _ _ (fun t=>match l[t]? with | some p=>decide (key≤p.1) | none=>true) H (by have:=k.vS;omega) ajf (fun t bq=>?_) (pos l key) (CQ l key) (fun t bq=>?_) (fun t h1 aa=>?_)) ?_
 ·have aZ:l[t]?=some l[t]:=List.getElem?_eq_getElem bq
  rw [aZ]
  exact ak7 H i h.n (h.n+1) t v room key l l[t] kk g0 g1 aZ
 ·cases aZ:l[t]? with
  | none=>have:=CQ l key;rw [List.getElem?_eq_none_iff] at aZ;omega
  | some p=>have:=XD l key t p bq aZ;simp only [decide_eq_false_iff_not];omega
 ·cases aZ:l[t]? with
  | none=>rfl
  | some p=>have:=XE k.hT key t p h1 aZ;simp only [decide_eq_true_eq];exact this
 have CS:=CQ l key
 rcases gZ k.hT key with ⟨aw,p,aW,cJ,km⟩ | ⟨aw,aW,cJ⟩
 ·obtain ⟨j,k9,cg,ck,_,_,dW,_⟩:=kk.row aW
  have ck:=ck .i64
  have aN:=(List.getElem?_eq_some_iff.1 aW).1
  have d1:decide (((pos l key:Nat):Int)<((l.length:Nat):Int))=true:=decide_eq_true (by omega)
  have d2:(p.1==key)=true:=by simp [cJ]
  simp only [af,Nat.reduceEqDiff]
  refine aX.bk none_ [] (.q 0 (.q 1 (.q 2 (.q 3 (.q 4 (.q 5 (.q 6 (.q 7 (.q 8 (.q 9 (.q 10 (.q 11 (.q 12 (.q 13 (.q 14 (.q 15 (.q 16 (.q 17 (.q 18 (.q 19 (.q 20 (.q 21 .done)))))))))))))))))))))) (by kernel_rfl) (by kernel_rfl) (by kernel_rfl) ?_
  simp only [af,bN,Nat.reduceEqDiff,Nat.reduceAdd,Nat.reduceLeDiff,uG,KY,Ho,bx,w0,g0,g1,av,az,d1,ck,dW,d2,aU,Tryz.results168,dn]
  exact aF ⟨by rw [aw],bA⟩
 ·by_cases aN:pos l key<l.length
  ·have aZ:l[pos l key]?=some l[pos l key]:=List.getElem?_eq_getElem aN
   obtain ⟨j,k9,cg,ck,_,_,dW,_⟩:=kk.row aZ
   have ck:=ck .i64
   have d1:decide (((pos l key:Nat):Int)<((l.length:Nat):Int))=true:=decide_eq_true (by omega)
   have d2:(l[pos l key].1==key)=false:=by have:=cJ _ aZ;simp;omega
   simp only [af,Nat.reduceEqDiff]
   refine aX.bk none_ [] (.q 0 (.q 1 (.q 2 (.q 3 (.q 4 (.q 5 (.q 6 (.q 7 (.q 8 (.q 9 (.q 10 (.q 11 (.q 12 (.q 13 (.q 14 (.q 15 (.q 16 (.q 17 (.q 18 (.q 19 (.q 20 (.q 21 .done)))))))))))))))))))))) (by kernel_rfl) (by kernel_rfl) (by kernel_rfl) ?_
   simp only [af,bN,Nat.reduceEqDiff,Nat.reduceAdd,Nat.reduceLeDiff,uG,KY,Ho,bx,w0,g0,g1,av,az,d1,ck,dW,d2,aU,Tryz.results168,dn]
   exact aF ⟨by rw [aw],bA⟩
  ·have d1:decide (((pos l key:Nat):Int)<((l.length:Nat):Int))=false:=decide_eq_false (by omega)
   simp only [af,Nat.reduceEqDiff]
   refine aX.bk none_ [] (.q 0 (.q 1 (.q 2 (.q 3 (.q 4 (.q 5 (.q 6 (.q 7 (.q 8 (.q 9 (.q 10 (.q 11 (.q 12 (.q 13 (.q 14 (.q 15 (.q 16 (.q 17 (.q 18 (.q 19 (.q 20 (.q 21 .done)))))))))))))))))))))) (by kernel_rfl) (by kernel_rfl) (by kernel_rfl) ?_
   simp only [af,bN,Nat.reduceEqDiff,Nat.reduceAdd,Nat.reduceLeDiff,uG,Ho,w0,g0,av,az,d1,aU,Tryz.results168,dn]
   exact aF ⟨by rw [aw],bA⟩
theorem XK (p:dd) (h:I):Pure Tryz.prog 173 [.agg (gi p)] h (.agg (aL ⟨p.1,0,0,p.2,false⟩)):=by
 refine Pure.val (bj.agg (A9 _)) ?_
 refine ae.ax (c:=_) Tryz.func173 rfl (by kernel_rfl) (by simp) ?_
 have au:(V.agg (gi p)).cells=some [.int .i64 p.1,.int .i64 p.2]:=rfl
 simp only [af,Nat.reduceEqDiff,Nat.reduceAdd,Nat.reduceLeDiff,KY,Wr,bx,mH,w1,ml,ow,au,aU,Tryz.results173,zj,fp]
 exact aF ⟨rfl,(J.push _ _ _).bg _⟩
def Lm:aj:=⟨0,0,0,0,false⟩
def full (room:Int) (l:List dd) (k:Int):Bool:=!has l k&&decide (room≤(l.length:Int))
def jR (room:Int) (l:List dd) (k v:Int):List dd:=if full room l k then l else put l k v
def je (room:Int) (l:List dd) (k v:Int):aj:=if full room l k then Lm else ⟨k,0,0,v,false⟩
def mq (room:Int) (l:List dd) (k:Int):Int:=if full room l k then 3 else 0
theorem ak8 {room:Int} {l:List dd} {k:Int} (h:has l k=true):full room l k=false:=by simp [full,h]
theorem IR {room:Int} {l:List dd} {k:Int} (h:has l k=false):full room l k=decide (room≤(l.length:Int)):=by simp [full,h]
def sk (i:Nat) (v:V):Nat→Prop:=fun q=>q=i∨bl v q
theorem ak9 (h:I) (p:dd):kI Tryz.prog 267 1 [(0,.agg (gi p))] h=some (.bc h.n 0 1 1,h.push (.cells (gi p) 297 none)):=J9 w2 rfl rfl (by decide)
theorem XL (h:I) (i:Nat) (v:V) (room key val:Int) (l:List dd) (k:eo h i v room l) :
  ae Tryz.prog 119 [.ptr i 0,.int .i64 key,.int .i64 val] h (fun r h'=>∃ v',r=.tuple [.agg (aL (je room l key val)),.int .i64 (mq room l key)]∧eo h' i v' room (jR room l key val)∧J h h' (sk i v)∧bV h v v'):=by
 refine ae.ax (c:=_) Tryz.func119 rfl (by kernel_rfl) (by simp) ?_
 obtain ⟨H,hH⟩:∃ y,y=(h.push (.cells [.int .i64 0,.int .i64 0,.int .i64 0,.int .i64 0,.bool false] 40 none)).push (.cells [.int .i64 key,.int .i64 val] 297 none):=⟨_,rfl⟩
 have g0:H.get h.n=.cells [.int .i64 0,.int .i64 0,.int .i64 0,.int .i64 0,.bool false] 40 none:=by rw [hH];exact wv
 have g1:H.get (h.n+1)=.cells [.int .i64 key,.int .i64 val] 297 none:=by rw [hH];exact d9
 have bA:J h H none_:=by rw [hH];exact (J.push _ _ _).bg _
 have j9:H.n=h.n+2:=by rw [hH];rfl
 have kk:=k.ba bA
 have av:=kk.get
 have ch:=k.lt
 simp only [af,Nat.reduceEqDiff,Nat.reduceAdd,Nat.reduceLeDiff,reduceCtorEq,ajZ,akc,ml,WH]
 rw [←hH]
 clear hH
 refine bU Qa (QS H i v room key l kk) ?_
 have az:=kk.rH (h':=H)
 rcases gZ k.hT key with ⟨aw,p,aW,cJ,km⟩ | ⟨aw,aW,cJ⟩
 ·have aq:=ak8 (room:=room) aw
  have bh:je room l key val=⟨key,0,0,val,false⟩:=by simp [je,aq]
  have bD:mq room l key=0:=by simp [mq,aq]
  have c3:jR room l key val=l.set (pos l key) (key,val):=by rw [jR,aq];exact Lh k.hT key val aw
  rw [bh,bD,c3]
  obtain ⟨j,k9,cg,ck,dW,x6,_,_,x7⟩:=kk.row aW
  have ck:=ck .i64
  obtain ⟨ob,EN,GX,y3⟩:=x7 (key,val)
  unfold gi at EN
  have hp:j≠i:=fun ab=>kk.ne (by rw [dW,ab])
  have apL:j<h.n:=k.own.lt j dW
  have z0:(H.set j ob).get h.n=_:=(kL (by omega)).trans g0
  have QT:(H.set j ob).get (h.n+1)=_:=(kL (by omega)).trans g1
  simp only [af,Nat.reduceEqDiff,aw]
  refine aX.bk none_ [7] (.q 0 (.q 1 (.q 2 (.q 3 (.q 4 (.q 5 (.q 6 (.a 7 .done)))))))) (by kernel_rfl) (by kernel_rfl) (by kernel_rfl) ?_
  simp only [af,bN,Nat.reduceEqDiff,Nat.reduceAdd,Nat.reduceLeDiff,reduceCtorEq,uG,w0,Qk,WH,g1,av,ck,EN,QT]
  refine bU V1 (XK (key,val) _) ?_
  have fM:(V.agg (aL ⟨key,0,0,val,false⟩)).cells=some [.int .i64 key,.int .i64 0,.int .i64 0,.int .i64 val,.bool false]:=rfl
  simp only [af,Nat.reduceEqDiff,Nat.reduceAdd,mH,ow,z0,fM,aU,Tryz.results119,hh,gU,fp,hg]
  have r5:J (H.set j ob) ((H.set j ob).set h.n (.cells [.int .i64 key,.int .i64 0,.int .i64 0,.int .i64 val,.bool false] 40 none)) (fun q=>q=h.n):=J.set _ _ _
  have kw:J H (H.set j ob) (fun q=>q=j):=J.set _ _ _
  refine aF ⟨v,rfl,⟨by rw [jt,jt];exact kk.lt,?_,GX.al r5 fun q ad=>by rw [dW] at ad;cases ad;omega,k.ne,?_,by rw [List.length_set];exact k.len,k.room⟩,?_,.inl rfl⟩
  ·rw [kL (by omega),kL (by omega)];exact av
  ·rw [←Lh k.hT key val aw];exact H2 k.hT _ _
  ·refine ((bA.up (o:=sk i v)).trans kw fun q ad ab=>.inr ?_).trans r5 fun q ad ab=>by omega
   subst ab;exact dW
 ·have aq:=IR (room:=room) aw
  by_cases vT:room≤(l.length:Int)
  ·have aq:full room l key=true:=by rw [aq];exact decide_eq_true vT
   have bh:je room l key val=Lm:=by simp [je,aq]
   have bD:mq room l key=3:=by simp [mq,aq]
   have c3:jR room l key val=l:=by simp [jR,aq]
   rw [bh,bD,c3]
   have d1:decide (room≤((l.length:Nat):Int))=true:=decide_eq_true vT
   simp only [af,Nat.reduceEqDiff,aw]
   refine aX.bk none_ [] (.q 0 (.q 1 (.q 2 (.q 3 (.q 4 (.q 5 (.q 6 (.q 7 (.q 8 (.q 9 (.q 10 (.q 11 (.q 12 (.q 13 (.q 14 .done))))))))))))))) (by kernel_rfl) (by kernel_rfl) (by kernel_rfl) ?_
   simp only [af,bN,Nat.reduceEqDiff,Nat.reduceAdd,Nat.reduceLeDiff,reduceCtorEq,Wn,uG,Qi,w0,bn,mH,w1,ml,ow,g0,av,az,d1,aU,Tryz.results119,hh,gU,fp,hg]
   have r5:J H (H.set h.n (.cells [.int .i64 0,.int .i64 0,.int .i64 0,.int .i64 0,.bool false] 40 none)) (fun q=>q=h.n):=J.set _ _ _
   refine aF ⟨v,rfl,kk.al r5 (by omega) fun q ad=>by have:=k.own.lt q ad;omega,?_,.inl rfl⟩
   exact (bA.up (o:=sk i v)).trans r5 fun q ad ab=>by omega
  ·have aq:full room l key=false:=by rw [aq];exact decide_eq_false vT
   have bh:je room l key val=⟨key,0,0,val,false⟩:=by simp [je,aq]
   have bD:mq room l key=0:=by simp [mq,aq]
   have c3:jR room l key val=put l key val:=by simp [jR,aq]
   rw [bh,bD,c3]
   have d1:decide (room≤((l.length:Nat):Int))=false:=decide_eq_false vT
   simp only [af,Nat.reduceEqDiff,aw]
   refine aX.bk none_ [] (.q 0 (.q 1 (.q 2 (.q 3 (.q 4 (.q 5 (.q 6 (.q 7 (.q 8 (.q 9 (.q 10 (.q 11 (.q 12 (.q 13 (.q 14 .done))))))))))))))) (by kernel_rfl) (by kernel_rfl) (by kernel_rfl) ?_
   simp only [af,bN,Nat.reduceEqDiff,Nat.reduceAdd,Nat.reduceLeDiff,reduceCtorEq,Wn,uG,Qi,w0,bn,av,az,d1]
   have f1:bl v i=False:=eq_false fun ab=>k.ne ab
   have f2:bl v (h.n+1)=False:=eq_false fun ab=>by have:=k.own.lt _ ab;omega
   obtain ⟨bP,bE⟩:∃ y,y=H.push (.cells (gi (key,val)) 297 none):=⟨_,rfl⟩
   have k2:J H bP none_:=by rw [bE];exact J.push _ _ _
   have ft:bP.n=H.n+1:=by rw [bE];rfl
   have cO:bP.get H.n=.cells (gi (key,val)) 297 none:=by rw [bE];exact cA
   have dE:=kk.ba k2
   have fq:=ak9 H (key,val)
   rw [←bE] at fq
   unfold gi at fq
   refine aX.bk (fun x=>bl v x) [7,8,11] (.q 0 (.q 1 (.q 2 (.q 3 (.q 4 (.q 5 (.q 6 (.e 7 (.e 8 (.q 9 (.q 10 (.a 11 .done))) .stop) .stop)))))))) (by kernel_rfl) (by kernel_rfl) (by kernel_rfl) ?_
   simp only [af,bN,h3,Nat.reduceEqDiff,Nat.reduceAdd,Nat.reduceLeDiff,reduceCtorEq,uG,w0,Qk,g1,av,f1,f2,fq]
   refine ⟨k2.up,?_⟩
   refine cy ai1 (insertC v (pos l key) H.n (l.flatMap gi) (gi (key,val)) bP dE.own (by rw [k.rows];have:=k.vS;omega) (by rw [k.rows];have:=CQ l key;omega) cO (by omega) (fun ab=>by have:=k.own.lt _ ab;omega) rfl rfl (Gy QR l)) fun r aC ⟨h4,k3,d3⟩=>?_
   have mg:(l.flatMap gi).take (pos l key * 2)++gi (key,val)++(l.flatMap gi).drop (pos l key * 2)=(put l key val).flatMap gi:=by
    rw [zl xe,vF xe,QP k.hT key val aw];simp
   rw [mg] at h4
   have sl:=(k3.get i (by omega) (by rw [f1];exact id)).trans dE.get
   have H5:=(k3.get h.n (by omega) (fun ab=>by have:=k.own.lt _ ab;omega)).trans ((k2.get h.n (by omega) (by simp [none_])).trans g0)
   have g13:=(k3.get (h.n+1) (by omega) (by rw [f2];exact id)).trans ((k2.get (h.n+1) (by omega) (by simp [none_])).trans g1)
   have iD:r.one=true:=by
    rcases h4 with ⟨rfl | rfl,_⟩ | ⟨_,_,_,_,_,rfl,_⟩<;>rfl
   have gx:r.cells=some [r]:=by
    rcases h4 with ⟨rfl | rfl,_⟩ | ⟨_,_,_,_,_,rfl,_⟩<;>rfl
   have db:bR (some 1) (bb.cells [V.int .i64 room,v] 269 none) 1 [r]=some (.cells [.int .i64 room,r] 269 none):=by rw [tf iD];rfl
   have Ba:J H aC (fun x=>bl v x):=(k2.up).trans' k3
   have n3:=k3.n
   simp only [af,bN,h3,Nat.reduceEqDiff,uG,Qk,WG,sl,gx,db,Ba]
   obtain ⟨h6,j3⟩:∃ y,y=aC.set i (.cells [V.int .i64 room,r] 269 none):=⟨_,rfl⟩
   have cz:J aC h6 (fun q=>q=i):=by rw [j3];exact J.set _ _ _
   have z0:h6.get h.n=_:=(cz.get h.n (by omega) (by omega)).trans H5
   have QT:h6.get (h.n+1)=_:=(cz.get (h.n+1) (by omega) (by omega)).trans g13
   have ala:h6.get i=.cells [.int .i64 room,r] 269 none:=by rw [j3];exact aP
   have n4:h6.n=aC.n:=by rw [j3];rfl
   have iM:aV r≠some i:=fun ab=>by
    rcases d3 with d3 | d3
    ·rw [d3] at ab;exact k.ne ab
    ·have:=d3 i ab;omega
   have sS:Own h6 297 2 r ((put l key val).flatMap gi):=h4.al cz fun q ad ab=>iM (by rw [ad,ab])
   rw [←j3]
   clear j3
   simp only [af,Nat.reduceEqDiff,Nat.reduceAdd,QT]
   refine bU V1 (XK (key,val) _) ?_
   have fM:(V.agg (aL ⟨key,0,0,val,false⟩)).cells=some [.int .i64 key,.int .i64 0,.int .i64 0,.int .i64 val,.bool false]:=rfl
   simp only [af,Nat.reduceEqDiff,Nat.reduceAdd,mH,ow,z0,fM,aU,Tryz.results119,hh,gU,fp,hg]
   have r5:J h6 (h6.set h.n (.cells [.int .i64 key,.int .i64 0,.int .i64 0,.int .i64 val,.bool false] 40 none)) (fun q=>q=h.n):=J.set _ _ _
   have lg:∀ q,aV r=some q→q≠h.n:=fun q ad ab=>by
    rcases d3 with d3 | d3
    ·rw [d3] at ad;have:=k.own.lt q ad;omega
    ·have:=d3 q ad;omega
   refine aF ⟨r,rfl,⟨by rw [jt];omega,?_,sS.al r5 fun q ad=>lg q ad,iM,H2 k.hT _ _,?_,k.room⟩,?_,?_⟩
   ·rw [kL (by omega)];exact ala
   ·rw [ak3 k.hT,if_neg (by rw [aw];simp)];omega
   ·refine (((bA.up (o:=sk i v)).trans Ba fun q ad ab=>.inr ab).trans cz fun q ad ab=>.inl ab).trans r5 fun q ad ab=>by omega
   ·rcases d3 with d3 | d3
    ·exact .inl d3
    ·exact .inr fun q ad=>by have:=d3 q ad;omega
end Go.Proofs.YtedkjhifbibpmaaGreatDoor.Pk
