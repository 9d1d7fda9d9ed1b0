/-
  What functions of the program do, told of abstract states. Conditions: as each theorem says.
-/
import Derived.Test.YtedkjhifbibpmaaGreatDoorNg
import Derived.Test.YtedkjhifbibpmaaGreatDoorAcD
import Derived.Test.YtedkjhifbibpmaaGreatDoorNa
set_option linter.unusedVariables false
set_option linter.unusedSimpArgs false
set_option maxHeartbeats 8000000
set_option maxRecDepth 10000
namespace Go.Proofs.YtedkjhifbibpmaaGreatDoor.Pk
open Go Go.Proofs Go.Proofs.YtedkjhifbibpmaaGreatDoor.Ab
def eH (c:bp) (snd:Int→Rec→b3→b3) (v:bC) (f:Int) (u:Nat) (r:Rec) (y:b3):b3 :=
 if v.kind=10∨v.kind=5 then o4 v u (pb u) r y
 else if v.kind=2∨v.kind=3∨v.kind=4 then o4 v u (snd u) r y
 else if v.kind=6∨v.kind=7∨v.kind=8 then
  (match c.dx u with
  | some K=>uX K v u (snd u) r y
  | none=>y)
 else if v.kind=9 then (if f=v.a8.getD 0 0 then yc c v u (snd u) r y else y)
 else y
theorem aos {c:bp} {sndT:Int→Rec→b3→b3} {v:bC} {f:Int} {u:Nat} {r:Rec} {x:b3} (aG:¬x.2.n=1000) (aD:c.l[u]?=some v):r2 c sndT f u r x=eH c sndT v f u r (c6 x):=by
 unfold r2 eH
 rw [if_neg aG,aD]
 cases c.dx u<;>rfl
section
variable {id s m:Nat} {b:At} {c:bp}
theorem aot (o:hO c) {sndT:Int→Rec→b3→b3} {f:Int} {u:Nat} {v:bC} (aD:c.l[u]?=some v) (lP:c.P[u]?=some c.part)
  (my:∀ (y:Rec) (h:I) (a6:dK) (x:b3),gg h a6 id s m b c x→Inv c x→sz x+24≤2 ^ 30→ae Tryz.prog 76 [.ptr s 0,.int .i64 u,.agg (aI y)] h (kd id s m b c h a6 (sndT u y x)))
  (oU:∀ y,fr c 24 (sndT u y)) {h:I} {a6:dK} {x:b3} (k:gg h a6 id s m b c x) (i:Inv c x) (bf:sz x+1≤2 ^ 30) (r:Rec) :
  ae Tryz.prog 135 [.ptr s 0,.int .i64 f,.int .i64 u,.agg (aI r)] h (kd id s m b c h a6 (r2 c sndT f u r x)):=by
 refine ae.ax (c:=_) Tryz.func135 rfl (by kernel_rfl) (by simp) ?_
 obtain ⟨cL,cp,cH,cM,U⟩:=k.od
 obtain ⟨H,hH⟩:∃ y,y=h.push (.cells (aI r) 38 none):=⟨_,rfl⟩
 have bA:J h H none_:=by rw [hH];exact J.push _ _ _
 have nd:H.get h.n=.cells (aI r) 38 none:=by rw [hH];exact cA
 have j9:H.n=h.n+1:=by rw [hH];rfl
 have hy:=k.ba bA
 have kB:=U.ba bA
 have gs:=kB.get
 have ld:dv (some (some 3)) (some (aI r))=some (.agg (aI r)):=rfl
 have d0:dB (.cells (aI r) 38 none) 0=some (aI r):=rfl
 simp only [af,Nat.reduceEqDiff,reduceCtorEq,Wl,bn]
 rw [←hH]
 clear hH
 have ch:=i.n
 by_cases aG:x.2.n=1000
 ·have pf:(((x.2.n:Nat):Int)==1000)=true:=by rw [beq_iff_eq];omega
  have KA:r2 c sndT f u r x=pa u r 3 x:=by unfold r2;rw [if_pos aG]
  rw [KA]
  simp only [af,Nat.reduceEqDiff,Nat.reduceAdd,Nat.reduceLeDiff,reduceCtorEq,dQ,gs,pf,nd,ld,d0]
  refine cy Cn (Dm hy u r 3 (LO bf)) fun q aC ⟨aw,l6,mR,k3⟩=>?_
  subst aw
  simp only [af,aU,Tryz.results135,ll]
  exact aF ⟨rfl,l6,fJ.step k.aJ bA mR,k3⟩
 have pf:(((x.2.n:Nat):Int)==1000)=false:=by rw [beq_eq_false_iff_ne];omega
 obtain ⟨zP,L4,HL⟩:=Sr i aG
 have hw:IntKind.i64.wrap (((x.2.n:Nat):Int)+1)=((x.2.n+1:Nat):Int):=by rw [Go.IntWalk.i64_in _ (by omega)];omega
 have aaF:bR (some 1) (bb.cells [.ptr m 0,cL,cp,cH,cM,.int .i64 ((x.2.n:Nat):Int)] 149 none) 5 [.int .i64 ((x.2.n+1:Nat):Int)]=some (.cells [.ptr m 0,cL,cp,cH,cM,.int .i64 ((x.2.n+1:Nat):Int)] 149 none):=rfl
 obtain ⟨bP,bE⟩:∃ y,y=H.set s (.cells [.ptr m 0,cL,cp,cH,cM,.int .i64 ((x.2.n+1:Nat):Int)] 149 none):=⟨_,rfl⟩
 have k2:J H bP (·=s):=by rw [bE];exact J.set _ _ _
 have ft:bP.n=H.n:=by rw [bE];rfl
 have g2:bP.get s=.cells [.ptr m 0,cL,cp,cH,cM,.int .i64 ((x.2.n+1:Nat):Int)] 149 none:=by rw [bE];exact aP
 obtain ⟨ub,dE,ff⟩:=hy.inc kB k2 g2
 have fG:=dE.ev.get
 rw [s3] at fG
 have qi:=U.lt
 have pK:=(k2.get h.n (by omega) (by omega)).trans nd
 obtain ⟨ja,ck⟩:=St (kk:=.i64) aD
 have zN:dv (some (some 6)) (some (ar v++ja))=some (.agg (ar v)):=nN (iA v)
 have jz:(V.agg (ar v)).cells=some (ar v):=rfl
 have Sv:bR (some 6) (bb.cells [V.int .i64 0,.an,.int .i64 0,.int .i64 0,.an,.int .i64 0] 29 none) 0 (ar v)=some (.cells (ar v) 29 none):=by
  obtain ⟨dx,aJ,⟨o,q,aE⟩,n⟩:=v
  rfl
 simp only [af,Nat.reduceEqDiff,Nat.reduceAdd,Nat.reduceLeDiff,reduceCtorEq,E2,Cs,Wl,lU,bn,kO,x0,uz,gs,pf,hw,aaF]
 rw [←bE]
 clear bE
 obtain ⟨jy,jO⟩:∃ y,y=bP.push (.cells (ar v) 29 none):=⟨_,rfl⟩
 have k3:J bP jy none_:=by rw [jO];exact J.push _ _ _
 have n3:jy.n=bP.n+1:=by rw [jO];rfl
 have o2:jy.get bP.n=.cells (ar v) 29 none:=by rw [jO];exact cA
 have eD:=dE.ba k3
 have lL:=(k3.get h.n (by omega) (by simp [none_])).trans pK
 have pL:fJ id h a6 jy a6:=fJ.step k.aJ bA (ub.trans (fJ.push dE.aJ k3))
 have aqp:dB (.cells (ar v) 29 none) 0=some (ar v):=rfl
 have kC:dv (some none) (some (ar v))=some (.int .i64 v.kind):=rfl
 simp only [af,Nat.reduceEqDiff,Nat.reduceAdd,hl,nS,bn,nW,pZ,fG,ck,zN,jz,Sv]
 rw [←jO]
 clear jO
 have bF:=aos (sndT:=sndT) (f:=f) (r:=r) aG aD
 rw [bF]
 have Sw:sz (c6 x)+2100≤2 ^ 30:=by omega
 obtain ⟨aou,wM,Sx⟩:=o.dV aD
 have tp:v.kind=1∨v.kind=2∨v.kind=3∨v.kind=4∨v.kind=5∨v.kind=6∨v.kind=7∨v.kind=8∨v.kind=9∨v.kind=10:=by omega
 rcases tp with dw | dw | dw | dw | dw | dw | dw | dw | dw | dw
 ·
  rw [dw] at kC
  have bW:((1:Int)==2)=false:=rfl
  have fK:((1:Int)==3)=false:=rfl
  have r6:((1:Int)==4)=false:=rfl
  have qN:((1:Int)==5)=false:=rfl
  have ud:((1:Int)==6)=false:=rfl
  have uZ:((1:Int)==7)=false:=rfl
  have gL:((1:Int)==8)=false:=rfl
  have yd:((1:Int)==9)=false:=rfl
  have lM:((1:Int)==10)=false:=rfl
  have bQ:eH c sndT v f u r (c6 x)=c6 x:=by unfold eH;simp [dw]
  rw [bQ]
  simp only [af,Nat.reduceEqDiff,kC,bW,fK,r6,qN,ud,uZ,gL,yd,lM,om,Tryz.results135,ll]
  exact aF ⟨rfl,a6,pL,eD⟩
 ·
  rw [dw] at kC
  have bW:((2:Int)==2)=true:=rfl
  have fK:((2:Int)==3)=false:=rfl
  have r6:((2:Int)==4)=false:=rfl
  have qN:((2:Int)==5)=false:=rfl
  have ud:((2:Int)==6)=false:=rfl
  have uZ:((2:Int)==7)=false:=rfl
  have gL:((2:Int)==8)=false:=rfl
  have yd:((2:Int)==9)=false:=rfl
  have lM:((2:Int)==10)=false:=rfl
  have bQ:eH c sndT v f u r (c6 x)=o4 v u (sndT u) r (c6 x):=by unfold eH;simp [dw]
  rw [bQ]
  simp only [af,Nat.reduceEqDiff,reduceCtorEq,dQ,kC,qN,lM,lL,ld,d0]
  refine cy Hk (xx Co aD (th:=sndT u) my oU eD zP (by omega) r) fun q bz ⟨aw,e4,e5,cz⟩=>?_
  subst aw
  simp only [af,om,Tryz.results135,ll]
  exact aF ⟨rfl,e4,pL.trans e5,cz⟩
 ·
  rw [dw] at kC
  have bW:((3:Int)==2)=false:=rfl
  have fK:((3:Int)==3)=true:=rfl
  have r6:((3:Int)==4)=false:=rfl
  have qN:((3:Int)==5)=false:=rfl
  have ud:((3:Int)==6)=false:=rfl
  have uZ:((3:Int)==7)=false:=rfl
  have gL:((3:Int)==8)=false:=rfl
  have yd:((3:Int)==9)=false:=rfl
  have lM:((3:Int)==10)=false:=rfl
  have bQ:eH c sndT v f u r (c6 x)=o4 v u (sndT u) r (c6 x):=by unfold eH;simp [dw]
  rw [bQ]
  simp only [af,Nat.reduceEqDiff,reduceCtorEq,dQ,kC,bW,qN,lM,lL,ld,d0]
  refine cy Hk (xx Co aD (th:=sndT u) my oU eD zP (by omega) r) fun q bz ⟨aw,e4,e5,cz⟩=>?_
  subst aw
  simp only [af,om,Tryz.results135,ll]
  exact aF ⟨rfl,e4,pL.trans e5,cz⟩
 ·
  rw [dw] at kC
  have bW:((4:Int)==2)=false:=rfl
  have fK:((4:Int)==3)=false:=rfl
  have r6:((4:Int)==4)=true:=rfl
  have qN:((4:Int)==5)=false:=rfl
  have ud:((4:Int)==6)=false:=rfl
  have uZ:((4:Int)==7)=false:=rfl
  have gL:((4:Int)==8)=false:=rfl
  have yd:((4:Int)==9)=false:=rfl
  have lM:((4:Int)==10)=false:=rfl
  have bQ:eH c sndT v f u r (c6 x)=o4 v u (sndT u) r (c6 x):=by unfold eH;simp [dw]
  rw [bQ]
  simp only [af,Nat.reduceEqDiff,reduceCtorEq,dQ,kC,bW,fK,qN,lM,lL,ld,d0]
  refine cy Hk (xx Co aD (th:=sndT u) my oU eD zP (by omega) r) fun q bz ⟨aw,e4,e5,cz⟩=>?_
  subst aw
  simp only [af,om,Tryz.results135,ll]
  exact aF ⟨rfl,e4,pL.trans e5,cz⟩
 ·
  rw [dw] at kC
  have bW:((5:Int)==2)=false:=rfl
  have fK:((5:Int)==3)=false:=rfl
  have r6:((5:Int)==4)=false:=rfl
  have qN:((5:Int)==5)=true:=rfl
  have ud:((5:Int)==6)=false:=rfl
  have uZ:((5:Int)==7)=false:=rfl
  have gL:((5:Int)==8)=false:=rfl
  have yd:((5:Int)==9)=false:=rfl
  have lM:((5:Int)==10)=false:=rfl
  have bQ:eH c sndT v f u r (c6 x)=o4 v u (pb u) r (c6 x):=by unfold eH;simp [dw]
  rw [bQ]
  simp only [af,Nat.reduceEqDiff,reduceCtorEq,dQ,kC,lM,lL,ld,d0]
  refine cy Hk (xx EQ aD (th:=pb u) (fun y h' ow' bS k' BL Et=>I7 k' u y (aas Et)) (fun y=>(LM c u y).mono (by omega)) eD zP (by omega) r) fun q bz ⟨aw,e4,e5,cz⟩=>?_
  subst aw
  simp only [af,om,Tryz.results135,ll]
  exact aF ⟨rfl,e4,pL.trans e5,cz⟩
 ·
  rw [dw] at kC
  have bW:((6:Int)==2)=false:=rfl
  have fK:((6:Int)==3)=false:=rfl
  have r6:((6:Int)==4)=false:=rfl
  have qN:((6:Int)==5)=false:=rfl
  have ud:((6:Int)==6)=true:=rfl
  have uZ:((6:Int)==7)=false:=rfl
  have gL:((6:Int)==8)=false:=rfl
  have yd:((6:Int)==9)=false:=rfl
  have lM:((6:Int)==10)=false:=rfl
  obtain ⟨K,vv⟩:=o.dx aD lP (by omega)
  have bQ:eH c sndT v f u r (c6 x)=uX K v u (sndT u) r (c6 x):=by unfold eH;simp [dw,vv]
  rw [bQ]
  simp only [af,Nat.reduceEqDiff,reduceCtorEq,dQ,kC,bW,fK,r6,qN,lM,lL,ld,d0]
  refine cy Qc (Su aD vv my eD zP Sw r) fun q bz ⟨aw,e4,e5,cz⟩=>?_
  subst aw
  simp only [af,om,Tryz.results135,ll]
  exact aF ⟨rfl,e4,pL.trans e5,cz⟩
 ·
  rw [dw] at kC
  have bW:((7:Int)==2)=false:=rfl
  have fK:((7:Int)==3)=false:=rfl
  have r6:((7:Int)==4)=false:=rfl
  have qN:((7:Int)==5)=false:=rfl
  have ud:((7:Int)==6)=false:=rfl
  have uZ:((7:Int)==7)=true:=rfl
  have gL:((7:Int)==8)=false:=rfl
  have yd:((7:Int)==9)=false:=rfl
  have lM:((7:Int)==10)=false:=rfl
  obtain ⟨K,vv⟩:=o.dx aD lP (by omega)
  have bQ:eH c sndT v f u r (c6 x)=uX K v u (sndT u) r (c6 x):=by unfold eH;simp [dw,vv]
  rw [bQ]
  simp only [af,Nat.reduceEqDiff,reduceCtorEq,dQ,kC,bW,fK,r6,qN,ud,lM,lL,ld,d0]
  refine cy Qc (Su aD vv my eD zP Sw r) fun q bz ⟨aw,e4,e5,cz⟩=>?_
  subst aw
  simp only [af,om,Tryz.results135,ll]
  exact aF ⟨rfl,e4,pL.trans e5,cz⟩
 ·
  rw [dw] at kC
  have bW:((8:Int)==2)=false:=rfl
  have fK:((8:Int)==3)=false:=rfl
  have r6:((8:Int)==4)=false:=rfl
  have qN:((8:Int)==5)=false:=rfl
  have ud:((8:Int)==6)=false:=rfl
  have uZ:((8:Int)==7)=false:=rfl
  have gL:((8:Int)==8)=true:=rfl
  have yd:((8:Int)==9)=false:=rfl
  have lM:((8:Int)==10)=false:=rfl
  obtain ⟨K,vv⟩:=o.dx aD lP (by omega)
  have bQ:eH c sndT v f u r (c6 x)=uX K v u (sndT u) r (c6 x):=by unfold eH;simp [dw,vv]
  rw [bQ]
  simp only [af,Nat.reduceEqDiff,reduceCtorEq,dQ,kC,bW,fK,r6,qN,ud,uZ,lM,lL,ld,d0]
  refine cy Qc (Su aD vv my eD zP Sw r) fun q bz ⟨aw,e4,e5,cz⟩=>?_
  subst aw
  simp only [af,om,Tryz.results135,ll]
  exact aF ⟨rfl,e4,pL.trans e5,cz⟩
 ·
  rw [dw] at kC
  have bW:((9:Int)==2)=false:=rfl
  have fK:((9:Int)==3)=false:=rfl
  have r6:((9:Int)==4)=false:=rfl
  have qN:((9:Int)==5)=false:=rfl
  have ud:((9:Int)==6)=false:=rfl
  have uZ:((9:Int)==7)=false:=rfl
  have gL:((9:Int)==8)=false:=rfl
  have yd:((9:Int)==9)=true:=rfl
  have lM:((9:Int)==10)=false:=rfl
  have j0:=aor Sx dw
  have LP:dB (.cells (ar v) 29 none) 1=some (.ai v.a8.length (aY v.a8)::(ay v.e++[.int .i64 v.n])):=rfl
  have Ee:dv (some none) (some (.ai v.a8.length (aY v.a8)::(ay v.e++[.int .i64 v.n])))=some (.ai v.a8.length (aY v.a8)):=rfl
  have aaG:v.a8.getD 0 0=v.a8[0]:=by rw [List.getD,List.getElem?_eq_getElem (by omega)];rfl
  have dW:∃ t,hA Tryz.prog 24 (.ai v.a8.length (aY v.a8)) (.int .i64 0)=some (.at (.int .i64 (v.a8.getD 0 0)::t)):=⟨_,by rw [aaG];exact tk (P:=Tryz.prog) (kk:=.i64) (k:=0) (by omega) mF⟩
  obtain ⟨aoq,dW⟩:=dW
  cases Ef:(f==v.a8.getD 0 0)
  ·have bO:f≠v.a8.getD 0 0:=by simpa using Ef
   have bQ:eH c sndT v f u r (c6 x)=c6 x:=by unfold eH;simp only [dw];rw [if_neg (by decide),if_neg (by decide),if_neg (by decide),if_pos trivial,if_neg bO]
   rw [bQ]
   simp only [af,Nat.reduceEqDiff,qE,mW,bn,kC,bW,fK,r6,qN,ud,uZ,gL,lM,o2,LP,Ee,dW,Ef,om,Tryz.results135,ll]
   exact aF ⟨rfl,a6,pL,eD⟩
  ·have bO:f=v.a8.getD 0 0:=by simpa using Ef
   have bQ:eH c sndT v f u r (c6 x)=yc c v u (sndT u) r (c6 x):=by unfold eH;simp only [dw];rw [if_neg (by decide),if_neg (by decide),if_neg (by decide),if_pos trivial,if_pos bO]
   rw [bQ]
   simp only [af,Nat.reduceEqDiff,reduceCtorEq,qE,mW,bn,dQ,kC,bW,fK,r6,qN,ud,uZ,gL,lM,o2,LP,Ee,dW,Ef,lL,ld,d0]
   refine cy ai7 (aoo aD j0 wM my eD zP (by omega) r) fun q bz ⟨aw,e4,e5,cz⟩=>?_
   subst aw
   simp only [af,om,Tryz.results135,ll]
   exact aF ⟨rfl,e4,pL.trans e5,cz⟩
 ·
  rw [dw] at kC
  have bW:((10:Int)==2)=false:=rfl
  have fK:((10:Int)==3)=false:=rfl
  have r6:((10:Int)==4)=false:=rfl
  have qN:((10:Int)==5)=false:=rfl
  have ud:((10:Int)==6)=false:=rfl
  have uZ:((10:Int)==7)=false:=rfl
  have gL:((10:Int)==8)=false:=rfl
  have yd:((10:Int)==9)=false:=rfl
  have lM:((10:Int)==10)=true:=rfl
  have bQ:eH c sndT v f u r (c6 x)=o4 v u (pb u) r (c6 x):=by unfold eH;simp [dw]
  rw [bQ]
  simp only [af,Nat.reduceEqDiff,reduceCtorEq,dQ,kC,lL,ld,d0]
  refine cy Hk (xx EQ aD (th:=pb u) (fun y h' ow' bS k' BL Et=>I7 k' u y (aas Et)) (fun y=>(LM c u y).mono (by omega)) eD zP (by omega) r) fun q bz ⟨aw,e4,e5,cz⟩=>?_
  subst aw
  simp only [af,om,Tryz.results135,ll]
  exact aF ⟨rfl,e4,pL.trans e5,cz⟩
end
section
variable {id s m:Nat} {b:At} {c:bp}
theorem aov (v:Int) (h:I):ae Tryz.prog 134 [.ptr m 0,.int .i64 v] h (fun r h'=>r=.func (.func 184) [] [.ptr h.n 0,.ptr (h.n+1) 0]∧h'=(h.push (.cells [.ptr m 0] 61 none)).push (.cells [.int .i64 v] 3 none)):=by
 refine ae.ax (c:=_) Tryz.func134 rfl (by kernel_rfl) (by simp) ?_
 simp only [af,Nat.reduceEqDiff,aU,Tryz.results134,ac]
 exact aF ⟨rfl,rfl⟩
theorem aow {l:List Int} {t:Nat} (bq:t<l.length) {F:b3→Nat→b3} {P:List Int} {part:Int} {x:b3} :
  (((l.take (t+1)).map Int.toNat).filter fun u=>P.getD u 0==part).foldl F x=if P.getD l[t].toNat 0==part then F ((((l.take t).map Int.toNat).filter fun u=>P.getD u 0==part).foldl F x) l[t].toNat else (((l.take t).map Int.toNat).filter fun u=>P.getD u 0==part).foldl F x:=by
 rw [List.take_succ_eq_append_getElem bq,List.map_append,List.filter_append,List.foldl_append]
 cases aZ:(P.getD l[t].toNat 0==part)<;>(simp only [List.map_cons,List.map_nil,List.filter_cons,List.filter_nil,aZ];rfl)
theorem aox (o:hO c) {l:Nat} {v:Int} {bm bv:Nat} {F:b3→Nat→b3} (iv:∀ u,fr c 1 fun x=>F x u) {h:I} {a6:dK} {x:b3} (k:gg h a6 id s m b c x) (i:Inv c x) (bf:sz x+24≤2 ^ 30)
  (NU:h.get bm=.cells [.ptr m 0] 61 none) (aaH:h.get bv=.cells [.int .i64 v] 3 none) (NV:bm<h.n) (apW:bv<h.n) (NW:a6 bm=(0,0)) (apX:a6 bv=(0,0))
  (aH:∀ u:Nat,(u:Int) ∈ gu v 0 c.l→c.P[u]?=some c.part→∀ (h':I) (ow':dK) (X:b3),fJ id h a6 h' ow'→gg h' ow' id s m b c X→Inv c X→sz X+1≤2 ^ 30→kl Tryz.prog l [.int .i64 (u:Int)] h' (fun r aa=>r=.bool true∧∃ lF,fJ id h' ow' aa lF∧gg aa lF id s m b c (F X u))) :
  ae Tryz.prog 184 [.func (.yield l) [] [],.ptr bm 0,.ptr bv 0] h (fun _ aC=>∃ l6,fJ id h a6 aC l6∧gg aC l6 id s m b c ((c.us v).foldl F x)):=by
 have aaI:c.P.length=c.l.length:=I5 o.yO
 have uU:=o.len
 have fG:=k.ev.get
 rw [s3] at fG
 have D2:(gu v 0 c.l).length≤24:=by have:=Db (v:=v) (l:=c.l) (j:=0);omega
 refine ae.ax (c:=_) Tryz.func184 rfl (by kernel_rfl) (by simp) ?_
 simp only [af]
 have aoy:dB (.cells [.ai c.l.length (c.l.flatMap ar),.int .i64 c.p,.ai c.P.length (aY c.P),.int .i64 c.part,.ptr b.kz 0,.map b.mp] 146 none) 0=some [.ai c.l.length (c.l.flatMap ar),.int .i64 c.p,.ai c.P.length (aY c.P),.int .i64 c.part,.ptr b.kz 0,.map b.mp]:=rfl
 have aaJ:dv (some (some 2)) (some [.ai c.l.length (c.l.flatMap ar),.int .i64 c.p,.ai c.P.length (aY c.P),.int .i64 c.part,.ptr b.kz 0,.map b.mp])=some (.agg (dO c.l c.p)):=rfl
 refine aX.bk none_ [] (.q 0 (.q 1 (.q 2 (.q 3 (.q 4 (.c 5 (.q 6 (.q 7 .done)))))))) (by kernel_rfl) (by kernel_rfl) (by kernel_rfl) ?_
 simp only [af,bN,Nat.reduceEqDiff,E2,bn,nX,x0,NU,aaH,fG,aoy,aaJ]
 refine ix rfl rfl rfl (fun h' hk=>Zo c.l c.p v o.ok (by omega) h') ?_
 simp only [af,bN,Nat.reduceEqDiff,qF]
 obtain ⟨qe,Dk⟩:∃ qe,qe=gu v 0 c.l:=⟨_,rfl⟩
 have ej:∀ q ∈ qe,∃ u:Nat,q=(u:Int)∧u<c.l.length∧(u:Int) ∈ gu v 0 c.l:=fun q ad=>by
  rw [Dk] at ad
  obtain ⟨fz,sv,e,aa,_⟩:=Ft.1 ad
  refine ⟨fz,by simpa using e,(List.getElem?_eq_some_iff.1 aa).1,?_⟩
  have:q=(fz:Int):=by simpa using e
  rw [←this];exact ad
 have sf:c.us v=(qe.map Int.toNat).filter fun u=>c.P.getD u 0==c.part:=by rw [Dk];rfl
 rw [sf]
 rw [←Dk] at D2⊢
 have fin:((((qe.take qe.length).map Int.toNat).filter fun u=>c.P.getD u 0==c.part).foldl F x)=((qe.map Int.toNat).filter fun u=>c.P.getD u 0==c.part).foldl F x:=by rw [List.take_length]
 refine aX.b9 (α:=Nat×dK) (fun y f h'=>f 0=.func (.yield l) [] []∧f 1=.ptr bm 0∧f 2=.ptr bv 0∧f 11=.ai qe.length (aY qe)∧f 12=.int .i64 ((qe.length:Nat):Int)∧f 13=.int .i64 (y.1:Nat)∧y.1≤qe.length ∧
   fJ id h a6 h' y.2∧gg h' y.2 id s m b c ((((qe.take y.1).map Int.toNat).filter fun u=>c.P.getD u 0==c.part).foldl F x)∧cj c y.1 x ((((qe.take y.1).map Int.toNat).filter fun u=>c.P.getD u 0==c.part).foldl F x)) (fun y=>qe.length - y.1) (0,a6)
  ⟨rfl,rfl,rfl,rfl,rfl,rfl,Nat.zero_le _,fJ.refl k.aJ,k,cj.refl i⟩ ?_
 rintro ⟨t,gI⟩ f h1 ⟨f0,f1,f2,f11,f12,f13,bq,bu,kk,ua⟩
 simp only at f13 bq bu kk ua
 refine am (by kernel_rfl) ?_
 by_cases aN:t<qe.length
 ·have aw:decide ((t:Int)<((qe.length:Nat):Int))=true:=decide_eq_true (by omega)
  have hw:=oq aN (by omega)
  have dW:=tk (P:=Tryz.prog) (kk:=.i64) aN mF
  have eZ:=aow (F:=F) (P:=c.P) (part:=c.part) (x:=x) aN
  obtain ⟨u,hu,aoz,LQ⟩:=ej _ (List.getElem_mem aN)
  rw [hu] at eZ dW
  rw [Int.toNat_natCast] at eZ
  have NX:c.P.getD u 0=c.P[u]'(by omega):=by rw [List.getD,List.getElem?_eq_getElem (by omega)];rfl
  have x6:=tk (P:=Tryz.prog) (l:=c.P) (kk:=.i64) (k:=u) (by omega) mF
  rw [←NX] at x6
  have Jd:=(bu.al.get bm NV (fun ab=>by unfold cx at ab;rw [NW] at ab;exact k.l7 ab.1.symm)).trans NU
  have Je:=kk.ev.get
  rw [s3] at Je
  generalize (((qe.take t).map Int.toNat).filter fun u=>c.P.getD u 0==c.part).foldl F x=X at eZ kk ua
  simp only [af,Nat.reduceEqDiff,bn,f11,f12,f13,aw,dW]
  have m1:cx gI id bm=False:=eq_false fun ab=>by unfold cx at ab;rw [bu.ea bm NV,NW] at ab;exact k.l7 ab.1.symm
  have m2:cx gI id m=False:=eq_false fun ab=>by unfold cx at ab;rw [kk.ev.own] at ab;simp at ab
  cases aZ:(c.P.getD u 0==c.part)
  ·rw [aZ] at eZ
   have o0:=eZ.trans (if_neg (by decide))
   refine aX.bk (fun q=>cx gI id q) [15] (.q 0 (.q 1 (.q 2 (.q 3 (.q 4 (.q 5 (.q 6 (.q 7 (.q 8 (.q 9 (.q 10 (.q 11 (.q 12 (.q 13 (.q 14 (.a 15 (.q 16 (.q 17 .done)))))))))))))))))) (by kernel_rfl) (by kernel_rfl) (by kernel_rfl) ?_
   simp only [af,bN,h3,Nat.reduceEqDiff,Nat.reduceAdd,Nat.reduceLeDiff,Wk,Qf,mW,bn,x0,f1,f13,Jd,Je,x6,aZ,m1,m2,hw]
   exact aF ⟨(t+1,gI),⟨f0,f1,f2,f11,f12,rfl,aN,bu,by have ab:=kk;rw [←o0] at ab;exact ab,by have ab:=ua.mono (Nat.le_succ t);rw [←o0] at ab;exact ab⟩,by simp only;omega⟩
  ·rw [aZ] at eZ
   have o0:=eZ.trans (if_pos rfl)
   refine aX.bk (fun q=>cx gI id q) [15] (.q 0 (.q 1 (.q 2 (.q 3 (.q 4 (.q 5 (.q 6 (.q 7 (.q 8 (.q 9 (.q 10 (.q 11 (.q 12 (.q 13 (.q 14 (.a 15 (.q 16 (.q 17 .done)))))))))))))))))) (by kernel_rfl) (by kernel_rfl) (by kernel_rfl) ?_
   simp only [af,bN,h3,Nat.reduceEqDiff,Nat.reduceAdd,Nat.reduceLeDiff,reduceCtorEq,Wk,Qf,mW,bn,x0,f0,f1,Jd,Je,x6,aZ,m1,m2]
   have wJ:c.P[u]?=some c.part:=by
    rw [List.getElem?_eq_getElem (by omega),←NX]
    simpa using aZ
   refine aee (aH u LQ wJ h1 gI X bu kk ua.inv (by have:=ua.sz;omega)) fun q aa ⟨aW,lF,ub,k2⟩=>?_
   subst aW
   have mu:J h1 aa (fun q=>cx gI id q):=ub.al
   simp only [af,bN,h3,Nat.reduceEqDiff,f13,hw]
   exact aF ⟨(t+1,lF),⟨f0,f1,f2,f11,f12,rfl,aN,bu.trans ub,by have ab:=k2;rw [←o0] at ab;exact ab,by have ab:cj c (t+1) x (F X u):=ua.trans (iv u X ua.inv);rw [←o0] at ab;exact ab⟩,by simp only;omega⟩
 ·have aw:decide ((t:Int)<((qe.length:Nat):Int))=false:=decide_eq_false (by omega)
  obtain rfl:t=qe.length:=by omega
  rw [fin] at kk
  simp only [af,f12,f13,aw,om,Tryz.results184,ll]
  exact aF ⟨gI,bu,kk⟩
end
section
variable {id s m:Nat} {b:At} {c:bp}
structure aaK (h:I) (s m:Nat) (v:Int) (r:Rec) (f:ah) (h1:I):Prop where
 f3:f 3=.ptr h.n 0
 f4:f 4=.ptr (h.n+1) 0
 f5:f 5=.ptr (h.n+2) 0
 f12:f 12=.func (.func 184) [] [.ptr (h.n+3) 0,.ptr (h.n+4) 0]
 n:h1.n=h.n+5
 al:J h h1 none_
 g0:h1.get h.n=.cells [.ptr s 0] 147 none
 g1:h1.get (h.n+1)=.cells [.int .i64 v] 3 none
 g2:h1.get (h.n+2)=.cells (aI r) 38 none
 g3:h1.get (h.n+3)=.cells [.ptr m 0] 61 none
 g4:h1.get (h.n+4)=.cells [.int .i64 v] 3 none
theorem aaL (o:hO c) {sndT:Int→Rec→b3→b3} {v:Int}
  (my:∀ (u:Nat),(u:Int) ∈ gu v 0 c.l→c.P[u]?=some c.part→∀ (y:Rec) (h:I) (a6:dK) (x:b3),gg h a6 id s m b c x→Inv c x→sz x+24≤2 ^ 30→ae Tryz.prog 76 [.ptr s 0,.int .i64 u,.agg (aI y)] h (kd id s m b c h a6 (sndT u y x)))
  (oU:∀ u y,fr c 24 (sndT u y)) {h:I} {a6:dK} {x:b3} (k:gg h a6 id s m b c x) (i:Inv c x) (bf:sz x+24≤2 ^ 30) (r:Rec) :
  ae Tryz.prog 76 [.ptr s 0,.int .i64 v,.agg (aI r)] h (kd id s m b c h a6 ((c.us v).foldl (fun x u=>r2 c sndT v u r x) x)):=by
 refine ae.iP (g:=12) (p:=13) (gf:=184) Tryz.func76 rfl ai6 (Nat.le_of_ble_eq_true rfl) (K:=aaK h s m v r) (caps:=fun _=>[.ptr (h.n+3) 0,.ptr (h.n+4) 0]) ?_ (fun f h1 bQ=>bQ.f12) ?_
 ·obtain ⟨cL,cp,cH,cM,U⟩:=k.od
  refine am (by kernel_rfl) ?_
  simp only [af,Nat.reduceEqDiff]
  obtain ⟨H,hH⟩:∃ y,y=((h.push (.cells [.ptr s 0] 147 none)).push (.cells [.int .i64 v] 3 none)).push (.cells (aI r) 38 none):=⟨_,rfl⟩
  have j9:H.n=h.n+3:=by rw [hH];rfl
  have bA:J h H none_:=by rw [hH];exact ((J.push _ _ _).bg _).bg _
  have g0:H.get h.n=.cells [.ptr s 0] 147 none:=by
   rw [hH,mc (by rw [eI,eI];omega),mc (by rw [eI];omega),cA]
  have g1:H.get (h.n+1)=.cells [.int .i64 v] 3 none:=by
   rw [hH,mc (by rw [eI,eI];omega)];exact cA
  have g2:H.get (h.n+2)=.cells (aI r) 38 none:=by rw [hH];exact cA
  have gs:=(U.ba bA).get
  rw [←hH]
  clear hH
  change aX _ _ _ (rY.go (rY.fn fun z f h_1=>z=cq.normal∧aaK h s m v r f h_1)) _ _
  refine aX.bk (fun q=>False) [5] (.q 0 (.q 1 (.q 2 (.q 3 (.q 4 (.a 5 .done)))))) (by kernel_rfl) (by kernel_rfl) (by kernel_rfl) ?_
  simp only [af,bN,h3,Nat.reduceEqDiff,Nat.reduceAdd,Cs,Wx,bn,x0,g0,g1,gs]
  refine cy aiV (aov v H) fun q bY ⟨aw,nI⟩=>?_
  subst aw
  have eQ:J H bY none_:=by rw [nI];exact (J.push _ _ _).bg _
  have mu:J H bY (fun _=>False):=eQ.mono fun q ad=>by simp [none_] at ad
  have A3:bY.n=h.n+5:=by rw [nI,eI,eI];omega
  have g3:bY.get (h.n+3)=.cells [.ptr m 0] 61 none:=by
   rw [nI,mc (by rw [eI];omega),←j9];exact cA
  have g4:bY.get (h.n+4)=.cells [.int .i64 v] 3 none:=by
   rw [nI,show h.n+4=(H.push (.cells [.ptr m 0] 61 none)).n by rw [eI];omega];exact cA
  simp only [af,bN]
  exact ⟨rfl,rfl,rfl,by show V.func (.func 184) [] [.ptr H.n 0,.ptr (H.n+1) 0]=_;rw [j9],A3,bA.trans' eQ,(eQ.get _ (by omega) (by simp [none_])).trans g0,(eQ.get _ (by omega) (by simp [none_])).trans g1,(eQ.get _ (by omega) (by simp [none_])).trans g2,g3,g4⟩
 ·intro f h1 bQ l D q aa fN
  have k2:J h1 aa none_:=by rw [fN];exact (J.push _ _ _).bg _
  have gv:=bQ.n
  have ft:aa.n=h1.n+2:=by rw [fN,eI,eI]
  have mL:=(congrArg (fun H=>H.get (h1.n+1)) fN).trans cA
  have aoA:aa.get h1.n=.jB D (fun _=>.deferred (some [])) []:=by rw [fN,mc (by rw [eI];omega)];exact cA
  have NY:J h aa none_:=bQ.al.trans' k2
  have dE:=k.ba NY
  have free:∀ q,h.n≤q→a6 q=(0,0):=fun q ad=>k.aJ q ad
  have Jf:∀ q,q<h1.n→aa.get q=h1.get q:=fun q ad=>k2.get q ad (by simp [none_])
  refine (aox o (l:=l) (v:=v) (bm:=h.n+3) (bv:=h.n+4) (F:=fun X u=>r2 c sndT v u r X) (fun u=>Ss oU v u r) dE i bf ((Jf _ (by omega)).trans bQ.g3) ((Jf _ (by omega)).trans bQ.g4) (by omega) (by omega) (free _ (by omega)) (free _ (by omega)) ?_).mono ?_
  ·intro u hu lP h' ow' X ct k' BL qg
   obtain ⟨fz,w,e,hw,_⟩:=Ft.1 hu
   have Jg:u=fz:=by omega
   subst Jg
   have Eg:∀ q,h.n≤q→q<aa.n→h'.get q=aa.get q:=fun q h1 aa=>ct.al.get q aa fun ab=>by
    unfold cx at ab
    rw [free q h1] at ab
    exact k.l7 ab.1.symm
   have Jh:∀ q,h.n≤q→q<aa.n→ow' q=(0,0):=fun q h1 aa=>(ct.ea q aa).trans (free q h1)
   have Ji:=(Eg (h1.n+1) (by omega) (by omega)).trans mL
   have pf:=((Eg h.n (by omega) (by omega)).trans (Jf _ (by omega))).trans bQ.g0
   have ec:=((Eg (h.n+1) (by omega) (by omega)).trans (Jf _ (by omega))).trans bQ.g1
   have bW:=((Eg (h.n+2) (by omega) (by omega)).trans (Jf _ (by omega))).trans bQ.g2
   have oA:=ct.al.n
   refine kl.of (i:=h1.n+1) (p:=13) (f:=f) (by decide) Ji (fun bI vt=>vt=h'∧bI 3=.ptr h.n 0∧bI 4=.ptr (h.n+1) 0∧bI 5=.ptr (h.n+2) 0∧bI 6=.int .i64 (u:Nat)) ?_ ?_
   ·refine mh.region (by kernel_rfl) ?_
    change @hf _ _ _ (e1.fn _ _) _ _
    simp only [af,Nat.reduceEqDiff]
    exact ⟨Ji,bQ.f3,bQ.f4,bQ.f5,rfl⟩
   ·rintro bI vt ⟨rfl,fg,ju,w4,aoB⟩
    refine mh.block (mh.region (by kernel_rfl) ?_)
    have sR:∀ o,(vt.set (h1.n+1) o).get h.n=.cells [.ptr s 0] 147 none:=fun o=>by rw [kL (by omega)];exact pf
    have s1:∀ o,(vt.set (h1.n+1) o).get (h.n+1)=.cells [.int .i64 v] 3 none:=fun o=>by rw [kL (by omega)];exact ec
    have s2:∀ o,(vt.set (h1.n+1) o).get (h.n+2)=.cells (aI r) 38 none:=fun o=>by rw [kL (by omega)];exact bW
    have ld:dv (some (some 3)) (some (aI r))=some (.agg (aI r)):=rfl
    have d0:dB (.cells (aI r) 38 none) 0=some (aI r):=rfl
    have en:∀ o,gg (vt.set (h1.n+1) o) ow' id s m b c X:=fun o=>k'.qh (J.set _ _ _) (Jh _ (by omega) (by omega))
    change @hf _ _ _ (e1.fn _ _) _ _
    have del:=fun ob=>aot o (f:=v) hw lP (my u hu lP) (oU u) (en ob) BL qg r
    have bO:h1.n+1<aa.n:=by omega
    simp only [af,Nat.reduceEqDiff,Wx,bn,bn,dQ,fg,ju,w4,aoB,sR,s1,s2,ld,d0]
    refine cy aiW (del _) fun cn bz a7=>?_
    obtain ⟨aw,e4,e5,cz⟩:=a7
    subst aw
    simp only [af]
    have aaM:=e5.al.n
    rw [jt] at aaM
    have g4:=(e5.al.get (h1.n+1) (by rw [jt];omega) (fun ab=>by
     unfold cx at ab
     rw [Jh _ (by omega) (by omega)] at ab
     exact k.l7 ab.1.symm)).trans aP
    refine ⟨g4,e4,⟨fun q ad=>e5.ea q (by rw [jt];exact ad),?_,e5.aJ,trivial⟩,cz.qh (J.set _ _ _) ((e5.ea _ (by rw [jt];omega)).trans (Jh _ (by omega) (by omega)))⟩
    refine ⟨by rw [jt];exact aaM,fun j aS hm=>?_,e5.al.glob⟩
    by_cases cB:j=h1.n+1
    ·subst cB
     exact aP.trans Ji.symm
    ·rw [kL cB]
     exact (e5.al.get j (by rw [jt];exact aS) hm).trans (kL cB)
  ·rintro _ aC ⟨l6,mR,k3⟩
   have NZ:∀ q,h.n≤q→q<aa.n→aC.get q=aa.get q:=fun q h1 aa=>mR.al.get q aa fun ab=>by
    unfold cx at ab
    rw [free q h1] at ab
    exact k.l7 ab.1.symm
   have N0:∀ q,h.n≤q→q<aa.n→l6 q=(0,0):=fun q h1 aa=>(mR.ea q aa).trans (free q h1)
   refine ⟨(NZ _ (by omega) (by omega)).trans mL,(NZ _ (by omega) (by omega)).trans aoA,.tuple [],rfl,rfl,l6,?_,?_⟩
   ·have aw:=fJ.step k.aJ NY mR
    have en:J aC ((aC.set (h1.n+1) .dead).set h1.n .dead) (fun q=>q=h1.n+1∨q=h1.n):=((J.set _ _ _).mono fun q ad=>.inl ad).trans' ((J.set _ _ _).mono fun q ad=>.inr ad)
    exact ⟨aw.ea,aw.al.trans en (fun q ad ab=>by omega),aw.aJ,trivial⟩
   ·exact (k3.qh (J.set _ (h1.n+1) _) (N0 _ (by omega) (by omega))).qh (J.set _ h1.n _) (N0 _ (by omega) (by omega))
end
section
variable {id s m:Nat} {b:At} {c:bp}
theorem aaN (o:hO c) {v:Int} {u:Nat} (h:(u:Int) ∈ gu v 0 c.l):v<(u:Int)∧u<c.l.length:=by
 obtain ⟨fz,w,e,hw,aq⟩:=Ft.1 h
 have Jg:u=fz:=by omega
 subst Jg
 have bK:=(RO o.yO).2.2.2.2.2 u w hw
 have aN:=(List.getElem?_eq_some_iff.1 hw).1
 unfold dg at bK
 split at bK
 ·cases bK
 split at bK
 ·cases bK
 rename_i Jj
 simp only [List.any_eq_true,decide_eq_true_eq,not_exists,not_and] at Jj
 have:=Jj v aq
 omega
theorem aoC (c:bp):fr c 24 (fun x=>x):=fun x i=>(cj.refl i).mono (by omega)
theorem Sy (o:hO c):∀ (k:Nat) (v:Int),(c.l.length:Int)≤v+k→∀ (y:Rec) (h:I) (a6:dK) (x:b3),gg h a6 id s m b c x→Inv c x→sz x+24≤2 ^ 30→ae Tryz.prog 76 [.ptr s 0,.int .i64 v,.agg (aI y)] h (kd id s m b c h a6 (nU c k v y x))
 | 0,v,aD,y,h,a6,x,k',i,bf=>by
  have hJ:∀ u:Nat,¬(u:Int) ∈ gu v 0 c.l:=fun u hu=>by have:=aaN o hu;omega
  have sf:c.us v=[]:=by
   unfold bp.us
   have:gu v 0 c.l=[]:=by
    cases Dk:gu v 0 c.l with
    | nil=>rfl
    | cons a r=>
     have aO:a ∈ gu v 0 c.l:=by rw [Dk];simp
     obtain ⟨fz,w,e,_,_⟩:=Ft.1 aO
     rw [Nat.zero_add] at e
     rw [e] at aO
     exact absurd aO (hJ fz)
   rw [this];rfl
  have:=aaL o (sndT:=fun _ _ x=>x) (v:=v) (fun u hu=>absurd hu (hJ u)) (fun _ _=>aoC c) k' i bf y
  rw [sf] at this
  exact this
 | k+1,v,aD,y,h,a6,x,k',i,bf=>
  aaL o (sndT:=nU c k) (v:=v) (fun u hu _ y h a6 x=>Sy o k (u:Int) (by have:=(aaN o hu).1;omega) y h a6 x) (fun u y=>zO o.len k u y) k' i bf y
end
def ye (c:bp) (s:dP):Prop:=s.ms.map (·.2.1)=c.ins∧∀ e ∈ s.ms,-1≤e.2.2∧e.2.2≤1099511627776
theorem aaO {lo z:Int}:∀ {zs:List Int},pJ lo zs→(∀ y ∈ zs,y<z)→lo<z→pJ lo (zs++[z])
 | [],_,_,h=>⟨h,trivial⟩
 | y::r,⟨h1,aa⟩,bK,h=>⟨h1,aaO aa (fun w hw=>bK w (by simp [hw])) (bK y (by simp))⟩
theorem aaP (l:List bC) (P:List Int) (part:Int):∀ i,pJ (-1) (ks l P part i)∧∀ y ∈ ks l P part i,y<(i:Int)
 | 0=>⟨trivial,by simp [ks]⟩
 | i+1=>by
  obtain ⟨h1,aa⟩:=aaP l P part i
  unfold ks
  split
  ·exact ⟨aaO h1 aa (by omega),fun y bd=>by
    rcases List.mem_append.1 bd with bd | bd
    ·have:=aa y bd;omega
    ·simp at bd;omega⟩
  ·rw [List.append_nil]
   exact ⟨h1,fun y bd=>by have:=aa y bd;omega⟩
theorem Sz (c:bp):pJ (-1) c.ins:=(aaP _ _ _ _).1
theorem SA {c:bp} (o:hO c):c.ins.length≤24:=by
 have h1:=LG c.l (iS c.p c.l) c.part (iS c.p c.l).length
 have aa:=I5 o.yO
 have:=o.len
 unfold bp.ins Br
 omega
section
variable {id m:Nat} {b:At} {c:bp} {h:I} {a6:dK} {s:dP}
theorem aoD (o:hO c) (k:hc h a6 id m b c s) (hk:ye c s):Pure Tryz.prog 32 [.ptr m 0] h (.ai c.ins.length (aY c.ins)):=by
 have fG:=k.get
 rw [s3] at fG
 refine ae.ax (c:=_) Tryz.func32 rfl (by kernel_rfl) (by simp) ?_
 simp only [af,Nat.reduceEqDiff,Nat.reduceAdd,Nat.reduceLeDiff,reduceCtorEq,Cq,PW,Cx,fG]
 refine bU ajy (an0 h _ _ _ _ _ k.marks c.ins hk.1 (Sz c) (SA o)) ?_
 simp only [af,Nat.reduceEqDiff,aU,Tryz.results32,ac]
 exact aF ⟨rfl,rfl⟩
theorem FS (o:hO c) (k:hc h a6 id m b c s) (hk:ye c s) (v:Int):Pure Tryz.prog 71 [.ptr m 0,.int .i64 v] h (.bool (c.ins.contains v)):=by
 refine ae.ax (c:=_) Tryz.func71 rfl (by kernel_rfl) (by simp) ?_
 simp only [af,Nat.reduceEqDiff,reduceCtorEq]
 refine bU ajo (aoD o k hk) ?_
 simp only [af,Nat.reduceEqDiff]
 refine bU Qe (RL c.ins v (by have:=SA o;omega) h) ?_
 simp only [af,Nat.reduceEqDiff,aU,Tryz.results71,ac]
 exact aF ⟨rfl,rfl⟩
theorem aoE (k:hc h a6 id m b c s) (t:Int):Pure Tryz.prog 75 [.ptr m 0,.int .i64 t] h (.agg (aL (qf c t))):=by
 refine Pure.val (bj.agg (A9 _)) ?_
 have fG:=k.get
 rw [s3] at fG
 have tR:∀ o,(h.push o).get m=.cells [.ai c.l.length (c.l.flatMap ar),.int .i64 c.p,.ai c.P.length (aY c.P),.int .i64 c.part,.ptr b.kz 0,.map b.mp] 146 none:=fun o=>by rw [mc k.lt];exact fG
 refine ae.ax (c:=_) Tryz.func75 rfl (by kernel_rfl) (by simp) ?_
 simp only [af,Nat.reduceEqDiff,Nat.reduceAdd,Nat.reduceLeDiff,reduceCtorEq,Qf,bn,mH,w1,ml,ow,tR,aU,Tryz.results75,zj,fp]
 exact aF ⟨rfl,J.push _ _ _⟩
end
theorem gg.start {h:I} {a6:dK} {id m:Nat} {b:At} {c:bp} {s:dP} (k:hc h a6 id m b c s) (f:Fr h a6) (av:ga h) (h0:id≠0) :
  gg (h.push (.cells [.ptr m 0,.an,.an,.an,.an,.int .i64 0] 149 none)) (eF a6 h.n (h.n+1) (id,5)) id h.n m b c (s,fE.none):=by
 have b8:J h (h.push (.cells [.ptr m 0,.an,.an,.an,.an,.int .i64 0] 149 none)) none_:=J.push _ _ _
 have he:∀ q,q<h.n→eF a6 h.n (h.n+1) (id,5) q=a6 q:=fun q ad=>Dl ad
 refine ⟨k.al b8 (fun _ _ ab=>by simp [none_] at ab) he,⟨.an,.an,.an,.an,by rw [eI];omega,cA,Se (Nat.le_refl _) (by omega),Own.an _ _ _,Own.an _ _ _,Own.an _ _ _,Own.an _ _ _,?_,?_,?_,?_⟩,fun q ad=>?_,av.al b8,h0⟩
 iterate 4 (intro q ad;simp [ik,aV] at ad)
 rw [eI] at ad
 unfold eF
 rw [if_neg (by omega)]
 exact f q (by omega)
theorem hc.Jk {h h':I} {a6:dK} {id m:Nat} {b:At} {c:bp} {s:dP} {b0:Seen} (k:hc h a6 id m b c s) (hm:s0 h' (.ptr b.kz 0) b0 b.kz b.rT c.ins.length) (hk:J h h' (·=b.rT)):hc h' a6 id m b c { s with ms:=b0 }:=by
 have mt:a6 b.rT=(id,3):=k.gB.2
 have mQ:∀ q t,q<h.n→a6 q=(id,t)→t≠3→h'.get q=h.get q:=fun q t ad aR bq=>hk.get q ad fun ab=>by rw [ab,mt] at aR;simp at aR;omega
 refine ⟨Nat.lt_of_lt_of_le k.lt hk.n,(mQ _ _ k.lt k.own (by omega)).trans k.get,k.own,hm,k.gB,Nat.lt_of_lt_of_le k.kA hk.n,(mQ _ _ k.kA k.lI (by omega)).trans k.map,k.lI,fun u K hu=>?_,k.none⟩
 obtain ⟨a,O,x,h1,aa,aC,bz,bY⟩:=k.some u K hu
 exact ⟨a,O,x,h1,aa,aC.al hk fun q ad ab=>by have aw:=bz q ad;rw [ab,mt] at aw;simp at aw;omega,bz,bY⟩
theorem gg.Jk {h h':I} {a6:dK} {id st m:Nat} {b:At} {c:bp} {x:b3} {b0:Seen} (k:gg h a6 id st m b c x) (hm:s0 h' (.ptr b.kz 0) b0 b.kz b.rT c.ins.length) (hk:J h h' (·=b.rT)):gg h' a6 id st m b c ({ x.1 with ms:=b0 },x.2):=by
 obtain ⟨cL,cp,cH,cM,U⟩:=k.od
 exact ⟨k.ev.Jk hm hk,⟨cL,cp,cH,cM,U.al hk (fun q _ ab t bY gd e=>by subst ab;rw [k.ev.gB.2] at e;simp at e;omega) fun _ _=>rfl⟩,fun q ad=>k.aJ q (Nat.le_trans hk.n ad),k.tY.al hk,k.l7⟩
def G8 (x:fE):V:=.agg [.ai x.outs.length (x.outs.flatMap ee),.ai x.verts.length (aY x.verts),hj x.chgs,.ai x.deads.length (x.deads.flatMap py)]
def Steps (id m:Nat) (b:At) (c:bp) (h:I) (a6:dK) (y:b3×Int):V→I→Prop:=fun q h'=>q=.tuple [G8 y.1.2,.int .i64 y.2]∧∃ ow',hc h' ow' id m b c y.1.1∧(∀ q,q<h.n→ow' q=a6 q)∧Fr h' ow'∧J h h' (fun q=>(a6 q).1=id)
theorem gg.told {h:I} {a6:dK} {id s m:Nat} {b:At} {c:bp} {x:b3} {cL cp cH cM:V} (k:gg h a6 id s m b c x) (U:iW h a6 id s m x.2 cL cp cH cM) :
  ∃ h',aM (.agg [cL,cp,cH,cM]) h (G8 x.2) h'∧hc h' a6 id m b c x.1∧J h h' (cx a6 id)∧Fr h' a6:=by
 obtain ⟨h1,bh,bB⟩:=aM.own U.o (n:=x.2.outs.length) (j7 Cj _) (by decide)
 have v1:=U.v.al bB fun q ad ab=>by have aw:=U.cp q (eA.2 ad);have aW:=U.lz q (eA.2 ab);rw [aw] at aW;simp at aW
 have aaQ:=U.c.al bB fun q ad ab=>by have aw:=U.cc q (eA.2 ad);have aW:=U.lz q (eA.2 ab);rw [aw] at aW;simp at aW
 have d1:=U.d.al bB fun q ad ab=>by have aw:=U.mf q (eA.2 ad);have aW:=U.lz q (eA.2 ab);rw [aw] at aW;simp at aW
 obtain ⟨aa,bD,k2⟩:=aM.own v1 (n:=x.2.verts.length) (by rw [pU,Nat.mul_one]) (by decide)
 have aaR:=aaQ.al k2 fun q ad ab=>by have aw:=U.cc q (eA.2 ad);have aW:=U.cp q (eA.2 ab);rw [aw] at aW;simp at aW
 have d2:=d1.al k2 fun q ad ab=>by have aw:=U.mf q (eA.2 ad);have aW:=U.cp q (eA.2 ab);rw [aw] at aW;simp at aW
 obtain ⟨aC,c3,k3⟩:=aM.own aaR (n:=x.2.chgs.length) (j7 lX _) (by decide)
 have d3:=d2.al k3 fun q ad ab=>by have aw:=U.mf q (eA.2 ad);have aW:=U.cc q (eA.2 ab);rw [aw] at aW;simp at aW
 obtain ⟨bz,ew,cz⟩:=aM.own d3 (n:=x.2.deads.length) (j7 P1 _) (by decide)
 have K:J h bz (fun q=>∃ t,a6 q=(id,t)∧5≤t∧t≤9) :=
  (((bB.mono fun q ad=>⟨6,U.lz q (eA.2 ad),by omega,by omega⟩).trans' (k2.mono fun q ad=>⟨7,U.cp q (eA.2 ad),by omega,by omega⟩)).trans' (k3.mono fun q ad=>⟨8,U.cc q (eA.2 ad),by omega,by omega⟩)).trans' (cz.mono fun q ad=>⟨9,U.mf q (eA.2 ad),by omega,by omega⟩)
 exact ⟨bz,aM.agg (aB.cons bh (aB.cons bD (aB.cons c3 (aB.cons ew (aB.refl [] bz))))),k.ev.part K (fun q _ ab=>ab) fun _ _=>rfl,K.mono fun q ⟨t,h1,aa,_⟩=>by unfold cx;rw [h1];exact ⟨rfl,aa⟩,fun q ad=>k.aJ q (Nat.le_trans K.n ad)⟩
theorem GN {M:Nat→Prop} {bu:Operand→V} {t:TypeId} {x y:Operand} {ok:Bool}:l1 M (pv bu (.lookup t x y ok))=uw M (bu x):=rfl
theorem aaS {cl:Nat} {k a:Int}:∀ {l:Seen} {e:Nat×Int×Int},e ∈ eN cl l k a→e.2.2=a∨e ∈ l
 | [],e,h=>by simp [eN] at h;exact .inl (by rw [h])
 | x::r,e,h=>by
  unfold eN at h
  split at h
  ·rcases List.mem_cons.1 h with h | h
   ·exact .inl (by rw [h])
   ·exact .inr (by simp [h])
  ·rcases List.mem_cons.1 h with h | h
   ·exact .inr (by simp [h])
   ·rcases aaS h with h | h
    ·exact .inl h
    ·exact .inr (by simp [h])
theorem SB {cl:Nat} {l:Seen} {v t:Int} (h:∀ e ∈ l,-1≤e.2.2∧e.2.2≤1099511627776):∀ e ∈ fb cl l v t,-1≤e.2.2∧e.2.2≤1099511627776:=fun e he=>by
 unfold fb at he
 split at he
 ·exact h e he
 ·split at he
  ·exact h e he
  ·split at he
   ·exact h e he
   ·rename_i h1 aa
    rcases aaS he with he | he
    ·omega
    ·exact h e he
theorem aaT {l:Seen} (h:∀ e ∈ l,-1≤e.2.2∧e.2.2≤1099511627776):-2 ^ 63≤leastOf l∧leastOf l<2 ^ 63:=by
 have aq:∀ (r:Seen),(∀ e ∈ r,-1≤e.2.2∧e.2.2≤1099511627776)→-1≤r.foldr (fun e m=>min e.2.2 m) (1099511627776:Int)∧r.foldr (fun e m=>min e.2.2 m) (1099511627776:Int)≤1099511627776:=by
  intro r
  induction r with
  | nil=>intro _;simp
  | cons a r ih=>
   intro aH
   have h1:=aH a (by simp)
   have aa:=ih fun e he=>aH e (by simp [he])
   simp only [List.foldr_cons]
   omega
 unfold leastOf
 split
 ·omega
 ·have:=aq l h;omega
theorem LR (x:b3):x.2.verts.length+x.2.chgs.length≤sz x:=by unfold sz;omega
theorem aaU {K:dR} {l:List aj} (w:c8 K l) (m:Int):(gA K m l).length≤1024:=by
 have h1:(gA K m l).length=((l.filter (xn K m)).map ha).length:=(Rx K _).length_eq
 rw [h1,List.length_map]
 exact Nat.le_trans (List.length_filter_le _ _) w.len
theorem LS {h h':I} {a6:dK} {id m:Nat} {b:At} {c:bp} {s:dP} (k:hc h a6 id m b c s) (hk:J h h' (fun q=>cx a6 id q)∨h'=h):s0 h' (.ptr b.kz 0) s.ms b.kz b.rT c.ins.length:=by
 rcases hk with hk | rfl
 ·obtain ⟨aw,hR,mP,ns,g1,g2,st⟩:=k.marks
  exact ⟨aw,Nat.lt_of_lt_of_le hR hk.n,Nat.lt_of_lt_of_le mP hk.n,ns,(hk.get _ hR (fun ab=>by unfold cx at ab;rw [k.gB.1] at ab;simp at ab)).trans g1,(hk.get _ mP (fun ab=>by unfold cx at ab;rw [k.gB.2] at ab;simp at ab)).trans g2,st⟩
 ·exact k.marks
theorem Bv {c:bp} {u:Nat}:fr c 3000 (fun x=>cU c u x):=fun x i=>by
 show cj c 3000 x (cU c u x)
 unfold cU
 cases bQ:c.dx u with
 | none=>exact (cj.refl i).mono (by omega)
 | some K=>
  have w:=i.wf u K bQ
  have h1:=FA (c:=c) (u:=u) (l:=gM K (leastOf x.1.ms) (x.1.st u)) (fun xp aa=>by rw [bQ] at aa;cases aa;exact w.gM _) x i
  have aa:=Bt c u (gA K (leastOf x.1.ms) (x.1.st u)) _ h1.inv
  have az:(gA K (leastOf x.1.ms) (x.1.st u)).length≤1024:=by
   have h1:(gA K (leastOf x.1.ms) (x.1.st u)).length=((x.1.st u).filter (xn K (leastOf x.1.ms))).length:=by
    have:=(Rx K (((x.1.st u).filter (xn K (leastOf x.1.ms))).map ha)).length_eq
    rw [List.length_map] at this
    exact this
   rw [h1]
   exact Nat.le_trans (List.length_filter_le _ _) w.len
  exact (h1.trans aa).mono (by omega)
theorem EW {a b c d:V} (aO:a.one=true) (ak:b.one=true) (au:c.one=true) (a7:d.one=true):bR (some 4) (bb.cells [V.an,V.an,V.an,V.an] 67 none) 0 [a,b,c,d]=some (.cells [a,b,c,d] 67 none):=by
 have e:∀ (p:Prop) [Decidable p] (x:Option bb),p→(if p then x else none)=x:=fun p _ x aZ=>if_pos aZ
 exact e _ (some (.cells (lay [V.an,V.an,V.an,V.an] 0 [a,b,c,d]) 67 none)) ⟨rfl,by simp [aO,ak,au,a7],by decide⟩
theorem SC {h bz:I} {a6 e4:dK} {id st m:Nat} {b:At} {c:bp} {y:b3} {cL cp cH cM:V} (cz:gg bz e4 id st m b c y) (vw:iW bz e4 id st m y.2 cL cp cH cM) {t0:Nat} (bq:h.n≤t0) (tmp:e4 t0=(0,0))
  (he:∀ q,q<h.n→e4 q=a6 q) (wR:J h bz (fun q=>(a6 q).1=id)) (ob:bb) :
  ∃ v2 aa,aM (.tuple [.agg [cL,cp,cH,cM],.int .i64 0]) (bz.set t0 ob) v2 aa∧Steps id m b c h a6 (y,0) v2 aa:=by
 have en:J bz (bz.set t0 ob) (·=t0):=J.set _ _ _
 have eQ:=cz.qh en tmp
 have Jc:iW (bz.set t0 ob) e4 id st m y.2 cL cp cH cM:=vw.al en (fun q _ ab t2 _ _ e=>by subst ab;rw [tmp] at e;exact cz.l7 (congrArg Prod.fst e).symm) fun _ _=>rfl
 obtain ⟨da,aaV,sW,kk,aJ⟩:=eQ.told Jc
 exact ⟨_,da,aM.tuple (aB.cons aaV (aB.refl _ _)),rfl,e4,sW,he,aJ,(wR.trans en fun q ad ab=>by omega).trans kk fun q ad ab=>by unfold cx at ab;rw [he q ad] at ab;exact ab.1⟩
theorem aaW {l:List bC} {P:List Int} {part:Int}:∀ {i:Nat} {y:Int},y ∈ ks l P part i→0≤y
 | 0,y,h=>by simp [ks] at h
 | i+1,y,h=>by
  unfold ks at h
  rcases List.mem_append.1 h with h | h
  ·exact aaW h
  ·split at h
   ·simp at h;omega
   ·simp at h
theorem aoF {c:bp} {v:Int} (h:v ∈ c.ins):0≤v:=aaW h
theorem aoG {cl:Nat} {l:Seen} {v t:Int} (h:(dN l v t).2≠0):fb cl l v t=l:=by
 unfold dN at h
 unfold fb
 cases av:dr l v with
 | none=>rfl
 | some g=>
  rw [av] at h
  simp only at h⊢
  split
  ·rfl
  ·rename_i h1
   rw [if_neg h1] at h
   split at h<;>simp at h
section
variable {id m:Nat} {b:At} {c:bp}
theorem PV (o:hO c) {s:dP} {h:I} {a6:dK} (k:hc h a6 id m b c s) (hk:ye c s) (oI:∀ u K,c.dx u=some K→c8 K (s.st u)) (f:Fr h a6) (av:ga h) (h0:id≠0) (v:Int) (r:Rec) :
  ae Tryz.prog 27 [.ptr m 0,.int .i64 v,.agg (aI r)] h (Steps id m b c h a6 (stepT c s v r)):=by
 refine ae.cast ?_
 refine ae.ax (c:=_) Tryz.func27 rfl (by kernel_rfl) (by simp) ?_
 obtain ⟨H,hH⟩:∃ y,y=(h.push (.cells (aI r) 38 none)).push (.cells [.an,.an,.an,.an] 67 none):=⟨_,rfl⟩
 have bA:J h H none_:=by rw [hH];exact (J.push _ _ _).bg _
 have j9:H.n=h.n+2:=by rw [hH];rfl
 have nd:H.get h.n=.cells (aI r) 38 none:=by rw [hH,mc (by rw [eI];omega)];exact cA
 have gt:H.get (h.n+1)=.cells [.an,.an,.an,.an] 67 none:=by rw [hH];exact cA
 have sW:=k.ba bA
 have aaX:Fr H a6:=fun q ad=>f q (by omega)
 have ld:dv (some (some 3)) (some (aI r))=some (.agg (aI r)):=rfl
 have d0:dB (.cells (aI r) 38 none) 0=some (aI r):=rfl
 simp only [af,Nat.reduceEqDiff,reduceCtorEq,Ha]
 rw [←hH]
 clear hH
 refine bU Ok (FS o sW hk v) ?_
 cases ch:c.ins.contains v
 ·have fv:stepT c s v r=((s,fE.none),6):=by unfold stepT;rw [if_pos ch]
  rw [fv]
  simp only [af,Nat.reduceEqDiff,Nat.reduceAdd,K0,No,Ha,Cg,gt,aU,Tryz.results27,hh,gU,fp,hg]
  have en:J H (H.set (h.n+1) (bb.cells [V.an,V.an,V.an,V.an] 67 none)) (fun q=>q=h.n+1):=J.set _ _ _
  have aaY:=sW.al (ow':=a6) en (fun q _ ab=>by subst ab;rw [f _ (by omega)];exact fun e=>h0 e.symm) fun _ _=>rfl
  exact aF ⟨_,_,aM.tuple (aB.cons (aM.agg (aB.cons (aM.kN _) (aB.cons (aM.kN _) (aB.cons (aM.kN _) (aB.cons (aM.kN _) (aB.refl [] _)))))) (aB.refl _ _)),rfl,a6,aaY,fun _ _=>rfl,fun q ad=>aaX q ad,bA.up.trans en fun q ad ab=>by omega⟩
 ·obtain ⟨bP,bE⟩:∃ y,y=H.push (.cells [.ptr m 0,.an,.an,.an,.an,.int .i64 0] 149 none):=⟨_,rfl⟩
  have k2:J H bP none_:=by rw [bE];exact J.push _ _ _
  have ft:bP.n=H.n+1:=by rw [bE];rfl
  have kk:=gg.start sW aaX (av.al bA) h0
  rw [←bE] at kk
  have Eh:∀ q,q<H.n→eF a6 H.n (H.n+1) (id,5) q=a6 q:=fun q ad=>Dl ad
  have pK:=(k2.get h.n (by omega) (by simp [none_])).trans nd
  have nT:=(k2.get (h.n+1) (by omega) (by simp [none_])).trans gt
  have fG:=kk.ev.get
  rw [s3] at fG
  have zW:dB (.cells (aI r) 38 none) 2=some [.int .i64 r.t]:=rfl
  have m1:(m=b.rT)=False:=eq_false fun e=>by have h1:=k.own;have aa:=k.gB.2;rw [e,aa] at h1;simp at h1
  have m2:(h.n=b.rT)=False:=eq_false fun e=>by have h1:=k.gB.2;rw [←e,f _ (Nat.le_refl _)] at h1;simp at h1
  simp only [af,Nat.reduceEqDiff,Nat.reduceAdd,Nat.reduceLeDiff,reduceCtorEq,ajS,aj6]
  rw [←bE]
  clear bE
  generalize eF a6 H.n (H.n+1) (id,5)=gI at kk Eh
  refine aX.bk (fun q=>q=b.rT) [7] (.q 0 (.q 1 (.q 2 (.q 3 (.q 4 (.q 5 (.q 6 (.a 7 (.q 8 (.q 9 (.q 10 (.q 11 (.q 12 .done))))))))))))) (by kernel_rfl) (by kernel_rfl) (by kernel_rfl) ?_
  simp only [af,bN,h3,Nat.reduceEqDiff,Nat.reduceAdd,Nat.reduceLeDiff,reduceCtorEq,Cq,rk,Cx,bx,fG,pK,zW,m1,m2]
  refine cy ajw (R0 bP _ s.ms _ _ _ kk.ev.marks v r.t) fun q aC ⟨aw,u6,yP⟩=>?_
  subst aw
  have eD:=kk.Jk u6 yP
  have mu:J bP aC (fun q=>q=b.rT):=yP
  have n3:=yP.n
  have m3:h.n+1≠b.rT:=fun e=>by have h1:=k.gB.2;rw [←e,f _ (by omega)] at h1;simp at h1
  have lL:=(yP.get h.n (by omega) (fun ab=>m2.mp ab)).trans pK
  have qw:=(yP.get (h.n+1) (by omega) m3).trans nT
  have yQ:∀ q,q<h.n→gI q=a6 q:=fun q ad=>Eh q (by omega)
  have SD:gI h.n=(0,0):=(Eh _ (by omega)).trans (f _ (Nat.le_refl _))
  have u0:gI (h.n+1)=(0,0):=(Eh _ (by omega)).trans (f _ (by omega))
  have Dp:J h aC (fun q=>(a6 q).1=id):=(bA.up.trans k2.up fun _ _ ab=>ab).trans yP fun q ad ab=>by subst ab;rw [k.gB.2]
  cases he:((dN s.ms v r.t).2 !=0)
  rotate_left
  ·have gh:(dN s.ms v r.t).2≠0:=by simpa using he
   have fv:stepT c s v r=(pa v r (dN s.ms v r.t).2 (s,fE.none),0):=by unfold stepT;rw [if_neg (by rw [ch];decide),if_pos gh]
   rw [fv]
   have hW:fb c.ins.length s.ms v r.t=s.ms:=aoG gh
   rw [hW] at eD
   simp only [af,bN,h3,Nat.reduceEqDiff,dQ,he,lL,ld,d0]
   refine cy Cn (Dm eD v r _ (Nat.zero_le _)) fun q bz ⟨aw,e4,e5,cz⟩=>?_
   subst aw
   obtain ⟨cL,cp,cH,cM,vw⟩:=cz.od
   have g4:=vw.get
   have aaZ:=(e5.al.get (h.n+1) (by omega) (fun ab=>by unfold cx at ab;rw [u0] at ab;exact h0 ab.1.symm)).trans qw
   have Jl:bR (some 4) (bb.cells [V.an,V.an,V.an,V.an] 67 none) 0 [cL,cp,cH,cM]=some (.cells [cL,cp,cH,cM] 67 none):=EW (tZ vw.o).1 (tZ vw.v).1 (tZ vw.c).1 (tZ vw.d).1
   simp only [af,Nat.reduceEqDiff,Nat.reduceAdd,Nat.reduceLeDiff,AQ,K0,Cg,g4,aaZ,Jl,aU,Tryz.results27,hh,gU,fp,hg]
   exact aF (SC cz vw (t0:=h.n+1) (by omega) ((e5.ea _ (by omega)).trans u0) (fun q ad=>(e5.ea q (by omega)).trans (yQ q ad)) (Dp.trans e5.al fun q ad ab=>by unfold cx at ab;rw [yQ q ad] at ab;exact ab.1) _)
  ·have gh:¬(dN s.ms v r.t).2≠0:=by simpa using he
   obtain ⟨hD,il⟩:∃ hD:b3,hD=({ s with ms:=fb c.ins.length s.ms v r.t },fE.none):=⟨_,rfl⟩
   obtain ⟨hU,k5⟩:∃ hU:b3,hU=(if (dN s.ms v r.t).1=true then kc v [qf c r.t] hD else hD):=⟨_,rfl⟩
   have fv:stepT c s v r=((List.range c.l.length).foldl (fun x u=>cU c u x) (nU c 24 v r hU),0):=by
    unfold stepT
    rw [if_neg (by rw [ch];decide),if_neg gh,k5,il]
   rw [fv]
   have i0:Inv c hD:=by rw [il];exact ⟨Nat.zero_le _,oI⟩
   have z0:sz hD=4000000:=by rw [il];simp [sz,fE.none]
   have xy:gg aC gI id H.n m b c hD:=by rw [il];exact eD
   have t1:cj c 2 hD hU:=by
    rw [k5];split
    ·exact Bt c v [qf c r.t] hD i0
    ·exact (cj.refl i0).mono (by omega)
   have kj:0≤v:=aoF (by simpa using ch)
   cases wh:(dN s.ms v r.t).1
   ·have fC:hU=hD:=by rw [k5,wh];rfl
    rw [←fC] at xy
    obtain ⟨bz,Jm⟩:∃ bz,bz=aC:=⟨_,rfl⟩
    obtain ⟨e4,Jn⟩:∃ e4,e4=gI:=⟨_,rfl⟩
    have cz:gg bz e4 id H.n m b c hU:=by rw [Jm,Jn];exact xy
    have e5:fJ id aC gI bz e4:=by rw [Jm,Jn];exact fJ.refl xy.aJ
    simp only [af,bN,h3,Nat.reduceEqDiff,dQ,he,lL,ld,d0]
    rw [←Jm]
    refine cy Co (Sy o 24 v (by have:=o.len;omega) r bz e4 hU cz t1.inv (by have:=t1.sz;omega)) fun q bY ⟨aw,jr,sr,eQ⟩=>?_
    subst aw
    have Bw:=eQ.ev.get
    rw [s3] at Bw
    simp only [af,Nat.reduceEqDiff,Nat.reduceAdd,reduceCtorEq,E2,lU,px,kO,Bw]
    have Dq:=e5.trans sr
    have t5:=t1.trans (zO o.len 24 v r hU t1.inv)
    generalize nU c 24 v r hU=rU at eQ t5
    have uU:=o.len
    refine aX.b9 (α:=Nat×dK) (fun y f h'=>f 0=.ptr m 0∧f 6=.ptr (h.n+1) 0∧f 8=.ptr H.n 0∧f 60=.int .i64 ((c.l.length:Nat):Int)∧f 61=.int .i64 (y.1:Nat)∧y.1≤c.l.length ∧
      fJ id aC gI h' y.2∧gg h' y.2 id H.n m b c ((List.range y.1).foldl (fun x u=>cU c u x) rU)∧cj c (3000 * y.1) rU ((List.range y.1).foldl (fun x u=>cU c u x) rU)) (fun y=>c.l.length - y.1) (0,jr)
     ⟨rfl,rfl,rfl,rfl,rfl,Nat.zero_le _,Dq,eQ,cj.refl t5.inv⟩ ?_
    have vh:hD.1.ms=fb c.ins.length s.ms v r.t:=by rw [il]
    clear k5 il fv
    rintro ⟨t,jW⟩ bI da ⟨f0,f6,f8,f60,f61,bq,oe,gV,t6⟩
    simp only at f61 bq oe gV t6
    refine am (by kernel_rfl) ?_
    by_cases aN:t<c.l.length
    ·have d1:decide ((t:Int)<((c.l.length:Nat):Int))=true:=decide_eq_true (by omega)
     have Bx:=oq aN (by omega)
     have eR:(List.range (t+1)).foldl (fun x u=>cU c u x) rU=cU c t ((List.range t).foldl (fun x u=>cU c u x) rU):=by rw [List.range_succ,List.foldl_append];rfl
     generalize (List.range t).foldl (fun x u=>cU c u x) rU=e6 at eR gV t6
     have xz:=gV.ev.get
     rw [s3] at xz
     have cn:cx jW id m=False:=eq_false fun ab=>by unfold cx at ab;rw [gV.ev.own] at ab;simp at ab
     have cO:cx jW id b.mp=False:=eq_false fun ab=>by unfold cx at ab;rw [gV.ev.lI] at ab;simp at ab
     have la:=lookup_int (P:=Tryz.prog) (ok:=false) (k:=(t:Int)) Hq K6 gV.ev.map
     simp only [af,Nat.reduceEqDiff,f60,f61,d1]
     cases bQ:c.dx t with
     | none=>
      rw [gV.ev.none t bQ] at la
      have uc:mD Tryz.prog 144 (.map b.mp) (.int .i64 (t:Int)) false da=some .c9:=la
      refine aX.bk (fun q=>cx jW id q) [14] (.q 0 (.q 1 (.q 2 (.q 3 (.q 4 (.q 5 (.q 6 (.q 7 (.q 8 (.q 9 (.q 10 (.q 11 (.c 12 (.c 13 (.a 14 .done))))))))))))))) (by kernel_rfl) (by kernel_rfl) (by kernel_rfl) ?_
      simp only [af,bN,h3,Nat.reduceEqDiff,Nat.reduceAdd,Nat.reduceLeDiff,reduceCtorEq,Cq,Cr,Cx,Cy,f0,f8,xz,cn,cO,uc,GN]
      refine ix rfl rfl rfl (fun h' eB=>IY h' _ _ _ _ _ (LS gV.ev eB)) ?_
      simp only [h3]
      refine ix rfl rfl rfl (fun h' eB=>aaA (leastOf e6.1.ms) h') ?_
      simp only [af,bN,h3,Nat.reduceEqDiff]
      have vO:=Fy gV (t:Int) [] (by have h1:=t5.sz;have aa:=t6.sz;have aC:=t1.sz;have bz:=LR e6;simp only [List.length_nil];omega)
      refine cy E1 (ae.args (aB.cons (aM.refl _ _) (aB.cons (aM.refl _ _) (aB.cons (aM.kN da) (aB.refl [] da)))) vO) fun q lx ⟨aw,vj,ue,jx⟩=>?_
      subst aw
      have Jo:J da lx (fun q=>cx jW id q):=ue.al
      have bF:cU c t e6=kc (t:Int) [] e6:=by unfold cU;rw [bQ];simp [kc]
      rw [←bF] at jx
      have Dr:=t6.trans (Bv (u:=t) e6 t6.inv)
      simp only [af,bN,h3,Nat.reduceEqDiff,f61,Bx]
      exact aF ⟨(t+1,vj),⟨f0,f6,f8,f60,rfl,aN,oe.trans ue,by have ab:=jx;rw [←eR] at ab;exact ab,by have ab:cj c (3000 * (t+1)) rU (cU c t e6):=Dr.mono (by omega);rw [←eR] at ab;exact ab⟩,by simp only;omega⟩
     | some K=>
      obtain ⟨a,O,aO,jg,kh,o1,Bu⟩:=gV.at bQ (List.getElem?_eq_getElem aN)
      rw [aO] at la
      have uc:mD Tryz.prog 144 (.map b.mp) (.int .i64 (t:Int)) false da=some (.ptr a 0):=la
      refine aX.bk (fun q=>cx jW id q) [13,14] (.q 0 (.q 1 (.q 2 (.q 3 (.q 4 (.q 5 (.q 6 (.q 7 (.q 8 (.q 9 (.q 10 (.q 11 (.c 12 (.e 13 (.a 14 .done) .stop)))))))))))))) (by kernel_rfl) (by kernel_rfl) (by kernel_rfl) ?_
      simp only [af,bN,h3,Nat.reduceEqDiff,Nat.reduceAdd,Nat.reduceLeDiff,reduceCtorEq,Cq,Cr,Cx,Cy,f0,f8,xz,cn,cO,uc,GN]
      refine ix rfl rfl rfl (fun h' eB=>IY h' _ _ _ _ _ (LS gV.ev eB)) ?_
      simp only [af,bN,h3,Nat.reduceEqDiff]
      have Ds:-2 ^ 63≤leastOf e6.1.ms∧leastOf e6.1.ms<2 ^ 63:=by
       rw [t6.ms,t5.ms,vh]
       exact aaT (SB hk.2)
      refine cy V4 (Zi jg (leastOf e6.1.ms) Ds) fun q k7 ⟨ep,SE,Ca,Bz,Jp,SF⟩=>?_
      have Jq:J da k7 (fun q=>cx jW id q):=Bz.mono fun q ad=>by unfold cx;rw [o1 q ad];exact ⟨rfl,by show 5≤10+t;omega⟩
      have cw:(gA K (leastOf e6.1.ms) (e6.1.st t)).length≤1024:=aaU (jg.wf) _
      obtain ⟨bM,Jr,vx⟩:=aM.own SE (n:=(gA K (leastOf e6.1.ms) (e6.1.st t)).length) (j7 lX _) (by decide)
      have Js:J da bM (· ∈ O):=Bz.trans vx fun q ad ab=>by have:=(Ca q ab).1;omega
      obtain ⟨aa0,BA,mu⟩:=Bu bM ep _ Js Jp (SF.al vx fun q ad ab=>(Ca q ab).2 ad)
      have SG:=FA (c:=c) (u:=t) (l:=gM K (leastOf e6.1.ms) (e6.1.st t)) (fun xp aa=>by rw [bQ] at aa;cases aa;exact (t6.inv.wf t K bQ).gM _) e6 t6.inv
      have vO:=Fy mu (t:Int) (gA K (leastOf e6.1.ms) (e6.1.st t)) (by have h1:=t5.sz;have aa:=t6.sz;have aC:=t1.sz;have bz:=SG.sz;have bY:=LR (jh t (gM K (leastOf e6.1.ms) (e6.1.st t)) e6);omega)
      simp only [af,bN,h3,Nat.reduceEqDiff,Jq]
      refine cy E1 (ae.args (aB.cons (aM.refl _ _) (aB.cons (aM.refl _ _) (aB.cons Jr (aB.refl [] bM)))) vO) fun aoH lx ⟨aw,vj,ue,jx⟩=>?_
      subst aw
      have BB:=BA.trans ue
      have Jo:J da lx (fun q=>cx jW id q):=BB.al
      have bF:cU c t e6=kc (t:Int) (gA K (leastOf e6.1.ms) (e6.1.st t)) (jh t (gM K (leastOf e6.1.ms) (e6.1.st t)) e6):=by unfold cU;rw [bQ]
      rw [←bF] at jx
      have Dr:=t6.trans (Bv (u:=t) e6 t6.inv)
      simp only [af,bN,h3,Nat.reduceEqDiff,f61,Bx]
      exact aF ⟨(t+1,vj),⟨f0,f6,f8,f60,rfl,aN,oe.trans BB,by have ab:=jx;rw [←eR] at ab;exact ab,by have ab:cj c (3000 * (t+1)) rU (cU c t e6):=Dr.mono (by omega);rw [←eR] at ab;exact ab⟩,by simp only;omega⟩
    ·have d1:decide ((t:Int)<((c.l.length:Nat):Int))=false:=decide_eq_false (by omega)
     obtain rfl:t=c.l.length:=by omega
     obtain ⟨cL,cp,cH,cM,pM⟩:=gV.od
     have g6:=pM.get
     have Jt:=(oe.al.get (h.n+1) (by omega) (fun ab=>by unfold cx at ab;rw [u0] at ab;exact h0 ab.1.symm)).trans qw
     have BC:bR (some 4) (bb.cells [V.an,V.an,V.an,V.an] 67 none) 0 [cL,cp,cH,cM]=some (.cells [cL,cp,cH,cM] 67 none):=EW (tZ pM.o).1 (tZ pM.v).1 (tZ pM.c).1 (tZ pM.d).1
     simp only [af,Nat.reduceEqDiff,Nat.reduceAdd,Nat.reduceLeDiff,AQ,K0,Cg,f6,f8,f60,f61,d1,g6,Jt,BC,aU,Tryz.results27,hh,gU,fp,hg]
     exact aF (SC gV pM (t0:=h.n+1) (by omega) ((oe.ea _ (by omega)).trans u0) (fun q ad=>(oe.ea q (by omega)).trans (yQ q ad)) (Dp.trans oe.al fun q ad ab=>by unfold cx at ab;rw [yQ q ad] at ab;exact ab.1) _)
   ·have fC:hU=kc v [qf c r.t] hD:=by rw [k5,wh];rfl
    have aoI:dB (.cells (aI r) 38 none) 2=some [.int .i64 r.t]:=rfl
    have yM:=xy.ev.get
    rw [s3] at yM
    simp only [af,bN,h3,Nat.reduceEqDiff,reduceCtorEq,rk,bx,he,lL,zW]
    refine bU ajx (aoE xy.ev r.t) ?_
    simp only [af,Nat.reduceEqDiff,H6]
    obtain ⟨aa1,Ei⟩:∃ y,y=aC.push (.cells (aL (qf c r.t)) 40 none):=⟨_,rfl⟩
    have aa2:J aC aa1 none_:=by rw [Ei];exact J.push _ _ _
    have aoJ:Own aa1 40 5 (.bc aC.n 0 1 1) (aL (qf c r.t)):=by rw [Ei];exact Own.lq _ 1 rfl (by decide)
    rw [←Ei]
    clear Ei
    obtain ⟨bM,Jr,vx⟩:=aM.own aoJ (n:=1) rfl (by decide)
    have N1:=(xy.ba aa2).qh (vx.mono fun q ad=>by simpa [bl,aV,eq_comm] using ad) (xy.aJ aC.n (Nat.le_refl _))
    have vO:=Fy N1 v [qf c r.t] (by rw [il];simp [fE.none])
    have mg:hj [qf c r.t]=.ai 1 (aL (qf c r.t)):=by simp [hj]
    rw [mg] at vO
    refine cy E1 (ae.args (aB.cons (aM.refl _ _) (aB.cons (aM.refl _ _) (aB.cons Jr (aB.refl [] bM)))) vO) fun q bz ⟨aw,e4,SH,cz⟩=>?_
    subst aw
    rw [←fC] at cz
    have BA:fJ id aC gI bM gI:=⟨fun _ _=>rfl,aa2.up.trans vx (fun q ad ab=>by simp [bl,aV] at ab;omega),N1.aJ,trivial⟩
    have e5:=BA.trans SH
    have aa3:=(e5.al.get h.n (by omega) (fun ab=>by unfold cx at ab;rw [SD] at ab;exact h0 ab.1.symm)).trans lL
    simp only [af,Nat.reduceEqDiff,dQ,aa3,ld,d0]
    refine cy Co (Sy o 24 v (by have:=o.len;omega) r bz e4 hU cz t1.inv (by have:=t1.sz;omega)) fun q bY ⟨aw,jr,sr,eQ⟩=>?_
    subst aw
    have Bw:=eQ.ev.get
    rw [s3] at Bw
    simp only [af,Nat.reduceEqDiff,Nat.reduceAdd,reduceCtorEq,E2,lU,px,kO,Bw]
    have Dq:=e5.trans sr
    have t5:=t1.trans (zO o.len 24 v r hU t1.inv)
    generalize nU c 24 v r hU=rU at eQ t5
    have uU:=o.len
    refine aX.b9 (α:=Nat×dK) (fun y f h'=>f 0=.ptr m 0∧f 6=.ptr (h.n+1) 0∧f 8=.ptr H.n 0∧f 60=.int .i64 ((c.l.length:Nat):Int)∧f 61=.int .i64 (y.1:Nat)∧y.1≤c.l.length ∧
      fJ id aC gI h' y.2∧gg h' y.2 id H.n m b c ((List.range y.1).foldl (fun x u=>cU c u x) rU)∧cj c (3000 * y.1) rU ((List.range y.1).foldl (fun x u=>cU c u x) rU)) (fun y=>c.l.length - y.1) (0,jr)
     ⟨rfl,rfl,rfl,rfl,rfl,Nat.zero_le _,Dq,eQ,cj.refl t5.inv⟩ ?_
    have vh:hD.1.ms=fb c.ins.length s.ms v r.t:=by rw [il]
    clear k5 il fv
    rintro ⟨t,jW⟩ bI da ⟨f0,f6,f8,f60,f61,bq,oe,gV,t6⟩
    simp only at f61 bq oe gV t6
    refine am (by kernel_rfl) ?_
    by_cases aN:t<c.l.length
    ·have d1:decide ((t:Int)<((c.l.length:Nat):Int))=true:=decide_eq_true (by omega)
     have Bx:=oq aN (by omega)
     have eR:(List.range (t+1)).foldl (fun x u=>cU c u x) rU=cU c t ((List.range t).foldl (fun x u=>cU c u x) rU):=by rw [List.range_succ,List.foldl_append];rfl
     generalize (List.range t).foldl (fun x u=>cU c u x) rU=e6 at eR gV t6
     have xz:=gV.ev.get
     rw [s3] at xz
     have cn:cx jW id m=False:=eq_false fun ab=>by unfold cx at ab;rw [gV.ev.own] at ab;simp at ab
     have cO:cx jW id b.mp=False:=eq_false fun ab=>by unfold cx at ab;rw [gV.ev.lI] at ab;simp at ab
     have la:=lookup_int (P:=Tryz.prog) (ok:=false) (k:=(t:Int)) Hq K6 gV.ev.map
     simp only [af,Nat.reduceEqDiff,f60,f61,d1]
     cases bQ:c.dx t with
     | none=>
      rw [gV.ev.none t bQ] at la
      have uc:mD Tryz.prog 144 (.map b.mp) (.int .i64 (t:Int)) false da=some .c9:=la
      refine aX.bk (fun q=>cx jW id q) [14] (.q 0 (.q 1 (.q 2 (.q 3 (.q 4 (.q 5 (.q 6 (.q 7 (.q 8 (.q 9 (.q 10 (.q 11 (.c 12 (.c 13 (.a 14 .done))))))))))))))) (by kernel_rfl) (by kernel_rfl) (by kernel_rfl) ?_
      simp only [af,bN,h3,Nat.reduceEqDiff,Nat.reduceAdd,Nat.reduceLeDiff,reduceCtorEq,Cq,Cr,Cx,Cy,f0,f8,xz,cn,cO,uc,GN]
      refine ix rfl rfl rfl (fun h' eB=>IY h' _ _ _ _ _ (LS gV.ev eB)) ?_
      simp only [h3]
      refine ix rfl rfl rfl (fun h' eB=>aaA (leastOf e6.1.ms) h') ?_
      simp only [af,bN,h3,Nat.reduceEqDiff]
      have vO:=Fy gV (t:Int) [] (by have h1:=t5.sz;have aa:=t6.sz;have aC:=t1.sz;have bz:=LR e6;simp only [List.length_nil];omega)
      refine cy E1 (ae.args (aB.cons (aM.refl _ _) (aB.cons (aM.refl _ _) (aB.cons (aM.kN da) (aB.refl [] da)))) vO) fun q lx ⟨aw,vj,ue,jx⟩=>?_
      subst aw
      have Jo:J da lx (fun q=>cx jW id q):=ue.al
      have bF:cU c t e6=kc (t:Int) [] e6:=by unfold cU;rw [bQ];simp [kc]
      rw [←bF] at jx
      have Dr:=t6.trans (Bv (u:=t) e6 t6.inv)
      simp only [af,bN,h3,Nat.reduceEqDiff,f61,Bx]
      exact aF ⟨(t+1,vj),⟨f0,f6,f8,f60,rfl,aN,oe.trans ue,by have ab:=jx;rw [←eR] at ab;exact ab,by have ab:cj c (3000 * (t+1)) rU (cU c t e6):=Dr.mono (by omega);rw [←eR] at ab;exact ab⟩,by simp only;omega⟩
     | some K=>
      obtain ⟨a,O,aO,jg,kh,o1,Bu⟩:=gV.at bQ (List.getElem?_eq_getElem aN)
      rw [aO] at la
      have uc:mD Tryz.prog 144 (.map b.mp) (.int .i64 (t:Int)) false da=some (.ptr a 0):=la
      refine aX.bk (fun q=>cx jW id q) [13,14] (.q 0 (.q 1 (.q 2 (.q 3 (.q 4 (.q 5 (.q 6 (.q 7 (.q 8 (.q 9 (.q 10 (.q 11 (.c 12 (.e 13 (.a 14 .done) .stop)))))))))))))) (by kernel_rfl) (by kernel_rfl) (by kernel_rfl) ?_
      simp only [af,bN,h3,Nat.reduceEqDiff,Nat.reduceAdd,Nat.reduceLeDiff,reduceCtorEq,Cq,Cr,Cx,Cy,f0,f8,xz,cn,cO,uc,GN]
      refine ix rfl rfl rfl (fun h' eB=>IY h' _ _ _ _ _ (LS gV.ev eB)) ?_
      simp only [af,bN,h3,Nat.reduceEqDiff]
      have Ds:-2 ^ 63≤leastOf e6.1.ms∧leastOf e6.1.ms<2 ^ 63:=by
       rw [t6.ms,t5.ms,vh]
       exact aaT (SB hk.2)
      refine cy V4 (Zi jg (leastOf e6.1.ms) Ds) fun q k7 ⟨ep,SE,Ca,Bz,Jp,SF⟩=>?_
      have Jq:J da k7 (fun q=>cx jW id q):=Bz.mono fun q ad=>by unfold cx;rw [o1 q ad];exact ⟨rfl,by show 5≤10+t;omega⟩
      have cw:(gA K (leastOf e6.1.ms) (e6.1.st t)).length≤1024:=aaU (jg.wf) _
      obtain ⟨bM,Jr,vx⟩:=aM.own SE (n:=(gA K (leastOf e6.1.ms) (e6.1.st t)).length) (j7 lX _) (by decide)
      have Js:J da bM (· ∈ O):=Bz.trans vx fun q ad ab=>by have:=(Ca q ab).1;omega
      obtain ⟨aa0,BA,mu⟩:=Bu bM ep _ Js Jp (SF.al vx fun q ad ab=>(Ca q ab).2 ad)
      have SG:=FA (c:=c) (u:=t) (l:=gM K (leastOf e6.1.ms) (e6.1.st t)) (fun xp aa=>by rw [bQ] at aa;cases aa;exact (t6.inv.wf t K bQ).gM _) e6 t6.inv
      have vO:=Fy mu (t:Int) (gA K (leastOf e6.1.ms) (e6.1.st t)) (by have h1:=t5.sz;have aa:=t6.sz;have aC:=t1.sz;have bz:=SG.sz;have bY:=LR (jh t (gM K (leastOf e6.1.ms) (e6.1.st t)) e6);omega)
      simp only [af,bN,h3,Nat.reduceEqDiff,Jq]
      refine cy E1 (ae.args (aB.cons (aM.refl _ _) (aB.cons (aM.refl _ _) (aB.cons Jr (aB.refl [] bM)))) vO) fun aoH lx ⟨aw,vj,ue,jx⟩=>?_
      subst aw
      have BB:=BA.trans ue
      have Jo:J da lx (fun q=>cx jW id q):=BB.al
      have bF:cU c t e6=kc (t:Int) (gA K (leastOf e6.1.ms) (e6.1.st t)) (jh t (gM K (leastOf e6.1.ms) (e6.1.st t)) e6):=by unfold cU;rw [bQ]
      rw [←bF] at jx
      have Dr:=t6.trans (Bv (u:=t) e6 t6.inv)
      simp only [af,bN,h3,Nat.reduceEqDiff,f61,Bx]
      exact aF ⟨(t+1,vj),⟨f0,f6,f8,f60,rfl,aN,oe.trans BB,by have ab:=jx;rw [←eR] at ab;exact ab,by have ab:cj c (3000 * (t+1)) rU (cU c t e6):=Dr.mono (by omega);rw [←eR] at ab;exact ab⟩,by simp only;omega⟩
    ·have d1:decide ((t:Int)<((c.l.length:Nat):Int))=false:=decide_eq_false (by omega)
     obtain rfl:t=c.l.length:=by omega
     obtain ⟨cL,cp,cH,cM,pM⟩:=gV.od
     have g6:=pM.get
     have Jt:=(oe.al.get (h.n+1) (by omega) (fun ab=>by unfold cx at ab;rw [u0] at ab;exact h0 ab.1.symm)).trans qw
     have BC:bR (some 4) (bb.cells [V.an,V.an,V.an,V.an] 67 none) 0 [cL,cp,cH,cM]=some (.cells [cL,cp,cH,cM] 67 none):=EW (tZ pM.o).1 (tZ pM.v).1 (tZ pM.c).1 (tZ pM.d).1
     simp only [af,Nat.reduceEqDiff,Nat.reduceAdd,Nat.reduceLeDiff,AQ,K0,Cg,f6,f8,f60,f61,d1,g6,Jt,BC,aU,Tryz.results27,hh,gU,fp,hg]
     exact aF (SC gV pM (t0:=h.n+1) (by omega) ((oe.ea _ (by omega)).trans u0) (fun q ad=>(oe.ea q (by omega)).trans (yQ q ad)) (Dp.trans oe.al fun q ad ab=>by unfold cx at ab;rw [yQ q ad] at ab;exact ab.1) _)
end
section
variable {id m:Nat} {b:At} {c:bp} {h:I} {a6:dK} {s:dP}
end
def yR (c:bp) (s:dP) (u:Nat) (d:aj):dP×Int :=
 if c.ins.contains (u:Int) then (if d=qf c d.val then ({ s with ms:=fb c.ins.length s.ms u d.val },(dN s.ms u d.val).2) else (s,5))
 else match c.dx u with
  | some K=>({ s with st:=fun w=>if w=u then (hb K (s.st u) d).1 else s.st w },(hb K (s.st u) d).2)
  | none=>(s,6)
section
variable {id m:Nat} {b:At} {c:bp}
end
theorem aoK (x:bC) (ag:x.kind≠6∧x.kind≠7∧x.kind≠8) (h:I):ae Tryz.prog 54 [.agg (ar x)] h (fun r h'=>(∃ w,r=.tuple [w,.int .i64 1])∧J h h' none_):=by
 refine ae.ax (c:=_) Tryz.func54 rfl (by kernel_rfl) (by simp) ?_
 obtain ⟨dx,aJ,⟨o,m,aE⟩,n⟩:=x
 have fC:ar ⟨dx,aJ,.mk o m aE,n⟩=[.int .i64 dx,.ai aJ.length (aY aJ),.int .i64 o,.int .i64 m,.ai aE.length (aE.flatMap ay),.int .i64 n]:=by simp [ar,jv]
 rw [fC]
 have G5:(dx==6)=false:=by simpa using ag.1
 have x2:(dx==7)=false:=by simpa using ag.2.1
 have zr:(dx==8)=false:=by simpa using ag.2.2
 have hk:J h (h.push (.cells [.int .i64 dx,.ai aJ.length (aY aJ),.int .i64 o,.int .i64 m,.ai aE.length (aE.flatMap ay),.int .i64 n] 29 none)) none_:=J.push _ _ _
 simp only [af,Nat.reduceEqDiff,Nat.reduceAdd,hl,bn,G5,x2,zr,aU,Tryz.results54,dn]
 exact aF ⟨⟨_,rfl⟩,hk⟩
theorem aoL (x:bC) (ag:x.kind≠6∧x.kind≠7∧x.kind≠8) (a1:fP x.e) (h:I) (av:ga h):ae Tryz.prog 17 [.agg (ar x)] h (fun r h'=>r=.tuple [.c9,.int .i64 1]∧J h h' none_):=by
 refine ae.ax (c:=_) Tryz.func17 rfl (by kernel_rfl) (by simp) ?_
 obtain ⟨dx,aJ,⟨o,m,aE⟩,n⟩:=x
 have fC:ar ⟨dx,aJ,.mk o m aE,n⟩=[.int .i64 dx,.ai aJ.length (aY aJ),.int .i64 o,.int .i64 m,.ai aE.length (aE.flatMap ay),.int .i64 n]:=by simp [ar,jv]
 have bF:ay (.mk o m aE)=[.int .i64 o,.int .i64 m,.ai aE.length (aE.flatMap ay)]:=jv _ _ _
 obtain ⟨H,hH⟩:∃ y,y=h.push (.cells [.int .i64 dx,.ai aJ.length (aY aJ),.int .i64 o,.int .i64 m,.ai aE.length (aE.flatMap ay),.int .i64 n] 29 none):=⟨_,rfl⟩
 have eJ:J h H none_:=by rw [hH];exact J.push _ _ _
 have g0:H.get h.n=.cells [.int .i64 dx,.ai aJ.length (aY aJ),.int .i64 o,.int .i64 m,.ai aE.length (aE.flatMap ay),.int .i64 n] 29 none:=by rw [hH];exact cA
 have ec:Pure Tryz.prog 53 [.agg [.int .i64 o,.int .i64 m,.ai aE.length (aE.flatMap ay)]] H (rz (.mk o m aE)):=by rw [←bF];exact QK _ a1 H (av.al eJ)
 have bW:=aoK ⟨dx,aJ,.mk o m aE,n⟩ ag H
 rw [fC] at bW⊢
 simp only [af,Nat.reduceEqDiff,Nat.reduceAdd,Nat.reduceLeDiff,co,fh]
 rw [←hH]
 clear hH
 refine bU Qd ec ?_
 unfold rz
 cases hm:cY (.mk o m aE)
 ·simp only [af,Int.reduceBNe,Nat.reduceEqDiff,aU,Tryz.results17,dn]
  exact aF ⟨rfl,eJ⟩
 ·simp only [af,Nat.reduceEqDiff,Nat.reduceAdd,nS,g0]
  refine cy Wd bW fun r h1 ⟨⟨w,aw⟩,bB⟩=>?_
  subst aw
  have aa4:((1:Int) !=0)=true:=rfl
  simp only [af,Nat.reduceEqDiff,aa4,aU,Tryz.results17,dn]
  exact aF ⟨rfl,eJ.trans' bB⟩
theorem aoM (h:I):Pure Tryz.prog 69 [.ai ([]:List Int).length (aY [])] h (.tuple [.c9,.int .i64 1]):=by
 refine ae.ax (c:=_) Tryz.func69 rfl (by kernel_rfl) (by simp) ?_
 have bh:decide (((([]:List Int).length:Nat):Int)<1)=true:=rfl
 simp only [af,Int.reduceNeg,Nat.reduceEqDiff,reduceCtorEq,qF]
 exact aF ⟨rfl,rfl⟩
theorem aoN (c:bp):ye c (dP.new c):=by
 have h1:∀ (zs:List Int) (k:Nat),(kP k zs).map (·.2.1)=zs∧∀ e ∈ kP k zs,e.2.2=-1:=by
  intro zs
  induction zs with
  | nil=>intro k;exact ⟨rfl,by simp [kP]⟩
  | cons z r ih=>
   intro k
   obtain ⟨a,b⟩:=ih (k+1)
   refine ⟨by simp [kP,a],fun e he=>?_⟩
   rcases List.mem_cons.1 (show e ∈ (k,z,(-1:Int))::kP (k+1) r from he) with he | he
   ·rw [he]
   ·exact b e he
 obtain ⟨a,b⟩:=h1 c.ins 0
 exact ⟨a,fun e he=>by have:=b e he;omega⟩
theorem aoO (c:bp) (o:hO c):∀ u K,c.dx u=some K→c8 K ((dP.new c).st u):=fun u K bQ=>by
 refine c8.nil ?_
 unfold bp.dx at bQ
 split at bQ
 ·split at bQ
  ·unfold oP at bQ
   split at bQ
   ·cases bQ;trivial
   ·split at bQ
    ·split at bQ
     ·rename_i h;cases bQ;exact h
     ·cases bQ
    ·split at bQ
     ·split at bQ
      ·rename_i h;cases bQ;exact h
      ·cases bQ
     ·cases bQ
  ·cases bQ
 ·cases bQ
def pN (st:Nat→List aj) (u:Nat) (l:List aj):Nat→List aj:=fun w=>if w=u then l else st w
def kH (c:bp):(Nat→List aj)→List (Int×aj)→Option (Nat→List aj)
 | st,[]=>some st
 | st,p::r=>match c.dx p.1.toNat with
  | some K=>if 0≤p.1∧(hb K (st p.1.toNat) p.2).2=0 then kH c (pN st p.1.toNat (hb K (st p.1.toNat) p.2).1) r else none
  | none=>none
theorem aa5 (c:bp):∀ (st:Nat→List aj) (a b:List (Int×aj)),kH c st (a++b)=(kH c st a).bind fun s=>kH c s b
 | st,[],b=>rfl
 | st,p::a,b=>by
  simp only [List.cons_append,kH]
  split
  ·split
   ·exact aa5 c _ a b
   ·rfl
  ·rfl
theorem aoP (st:Nat→List aj) (u:Nat) (a b:List aj):pN (pN st u a) u b=pN st u b:=by
 funext w;unfold pN;split<;>rfl
theorem aoQ (st:Nat→List aj) (u:Nat):pN st u (st u)=st:=by
 funext w;unfold pN;split
 ·rename_i e;rw [e]
 ·rfl
theorem aa6 {c:bp} {u:Nat} {K:dR} (bQ:c.dx u=some K):∀ (cs:List aj) (st:Nat→List aj) (l:List aj),gz K (st u) cs=some l→kH c st (cs.map fun x=>((u:Int),x))=some (pN st u l)
 | [],st,l,h=>by
  have:st u=l:=by simpa [gz] using h
  rw [←this]
  show some st=_
  rw [aoQ]
 | x::r,st,l,h=>by
  have h':(if (hb K (st u) x).2=0 then gz K (hb K (st u) x).1 r else none)=some l:=h
  split at h'
  case isFalse=>cases h'
  rename_i h0
  have aa:gz K (pN st u (hb K (st u) x).1 u) r=some l:=by
   have:pN st u (hb K (st u) x).1 u=(hb K (st u) x).1:=by simp [pN]
   rw [this];exact h'
  have ih:=aa6 bQ r (pN st u (hb K (st u) x).1) l aa
  rw [aoP] at ih
  rw [List.map_cons]
  unfold kH
  simp only [Int.toNat_natCast,bQ]
  rw [if_pos ⟨by omega,h0⟩]
  exact ih
def fe (c:bp) (x y:b3):Prop:=∃ ps:List (Int×aj),y.2.verts=x.2.verts++ps.map (·.1)∧y.2.chgs=x.2.chgs++ps.map (·.2)∧kH c x.1.st ps=some y.1.st
theorem fe.same {c:bp} {x y:b3} (h1:y.2.verts=x.2.verts) (aa:y.2.chgs=x.2.chgs) (aC:y.1.st=x.1.st):fe c x y:=⟨[],by simp [h1],by simp [aa],by rw [aC];rfl⟩
theorem fe.trans {c:bp} {x y z:b3} (a:fe c x y) (b:fe c y z):fe c x z:=by
 obtain ⟨p,cG,a2,a3⟩:=a
 obtain ⟨q,ec,bW,fK⟩:=b
 exact ⟨p++q,by rw [ec,cG];simp,by rw [bW,a2];simp,by rw [aa5,a3];exact fK⟩
theorem aa7 {c:bp} {u:Nat} {K:dR} (bQ:c.dx u=some K) {cs l:List aj} {x:b3} (h:gz K (x.1.st u) cs=some l):fe c x (kc (u:Int) cs (jh u l x)):=by
 refine ⟨cs.map fun y=>((u:Int),y),?_,?_,aa6 bQ cs x.1.st l h⟩
 ·simp only [kc,jh,List.map_map]
  congr 1
  exact (List.eq_replicate_iff.2 ⟨by simp,fun b ak=>by
   obtain ⟨y,_,rfl⟩:=List.mem_map.1 ak
   rfl⟩).symm
 ·simp [kc,jh,Function.comp_def]
def qx (c:bp) (F:b3→b3):Prop:=∀ x,Inv c x→fe c x (F x)
theorem LU {c:bp} {α:Type} {j:Nat} (f:b3→α→b3):∀ (l:List α),(∀ a ∈ l,qx c fun x=>f x a)→(∀ a ∈ l,fr c j fun x=>f x a)→qx c fun x=>l.foldl f x
 | [],_,_=>fun x i=>fe.same rfl rfl rfl
 | a::r,h,t=>fun x i=>(h a (by simp) x i).trans (LU f r (fun b ak=>h b (by simp [ak])) (fun b ak=>t b (by simp [ak])) (f x a) (t a (by simp) x i).inv)
theorem aa8 {c:bp} {v:bC} {u:Int} {r:Rec} {th:Rec→b3→b3} (h:∀ y,qx c (th y)) (t:∀ y,fr c 24 (th y)):qx c (o4 v u th r):=fun x i=>by
 unfold o4
 split
 ·exact fe.same rfl rfl rfl
 ·exact LU (j:=24) (fun x y=>th y x) (gK v r).1 (fun a _=>h a) (fun a _=>t a) x i
theorem aoR {c:bp} {K:dR} {v:bC} {u:Nat} (bQ:c.dx u=some K) {r:Rec} {snd:Rec→b3→b3} (h:∀ y,qx c (snd y)):qx c (uX K v u snd r):=fun x i=>by
 unfold uX
 split
 ·exact fe.same rfl rfl rfl
 ·have w:=i.wf u K bQ
  split
  ·exact fe.same rfl rfl rfl
  ·rename_i N lW
   have aH:=am5 w r lW
   rw [(LN w lW).1] at aH
   have h1:=aa7 bQ aH
   have t1:=FA (c:=c) (u:=u) (l:=p6 K (x.1.st u) r.k r.t N) (fun xp aa=>by rw [bQ] at aa;cases aa;exact (LN w lW).2) x i
   exact h1.trans (h _ _ (Bt c u _ _ t1.inv).inv)
theorem aoS {c:bp} {v:bC} {u:Int} {r:Rec} {snd:Rec→b3→b3} (h:∀ y,qx c (snd y)):qx c (yc c v u snd r):=fun x i=>by
 unfold yc
 split
 ·split
  ·exact h _ x i
  ·exact fe.same rfl rfl rfl
 ·exact fe.same rfl rfl rfl
theorem aoT {c:bp} {snd:Int→Rec→b3→b3} (h:∀ u y,qx c (snd u y)) (t:∀ u y,fr c 24 (snd u y)) (f:Int) (u:Nat) (r:Rec):qx c (r2 c snd f u r):=fun x i=>by
 unfold r2
 split
 ·exact fe.same rfl rfl rfl
 ·rename_i aG
  obtain ⟨j,_,_⟩:=Sr i aG
  have f0:fe c x (c6 x):=fe.same rfl rfl rfl
  split
  ·exact f0
  ·split
   ·exact f0.trans (aa8 (th:=pb u) (fun y x _=>fe.same rfl rfl rfl) (fun y=>(LM c u y).mono (by omega)) _ j)
   ·split
    ·exact f0.trans (aa8 (fun y=>h u y) (fun y=>t u y) _ j)
    ·split
     ·split
      ·rename_i K bQ;exact f0.trans (aoR bQ (fun y=>h u y) _ j)
      ·exact f0
     ·split
      ·split
       ·exact f0.trans (aoS (fun y=>h u y) _ j)
       ·exact f0
      ·exact f0
theorem aa9 {c:bp} (az:c.l.length≤24):∀ (k:Nat) (v:Int) (r:Rec),qx c (nU c k v r)
 | 0,v,r=>fun x i=>fe.same rfl rfl rfl
 | k+1,v,r=>LU (j:=1) (fun x u=>r2 c (nU c k) v u r x) (c.us v) (fun u _=>aoT (fun a y=>aa9 az k a y) (fun a y=>zO az k a y) v u r) (fun u _=>Ss (fun a y=>zO az k a y) v u r)
theorem aoU {c:bp} {u:Nat}:qx c (fun x=>cU c u x):=fun x i=>by
 show fe c x (cU c u x)
 unfold cU
 cases bQ:c.dx u with
 | none=>exact fe.same rfl rfl rfl
 | some K=>exact aa7 bQ ((i.wf u K bQ).Ry _)
def xA (c:bp):dP→List (Int×aj)→Option dP
 | s,[]=>some s
 | s,p::r=>if 0≤p.1∧(yR c s p.1.toNat p.2).2=0 then xA c (yR c s p.1.toNat p.2).1 r else none
theorem SI {l:List bC} {P:List Int} {part:Int} {y:Int}:∀ {i:Nat},y ∈ ks l P part i→∃ u,u<i∧y=(u:Int)∧rR l P part u=true
 | 0,h=>by simp [ks] at h
 | i+1,h=>by
  unfold ks at h
  rcases List.mem_append.1 h with h | h
  ·obtain ⟨u,h1,aa,aC⟩:=SI h
   exact ⟨u,by omega,aa,aC⟩
  ·split at h
   ·rename_i hi
    simp at h
    exact ⟨i,by omega,h,hi⟩
   ·simp at h
theorem aoV {c:bp} (o:hO c) {y:Int} (h:c.ins.contains y=true):∃ u:Nat,u<c.l.length∧y=(u:Int)∧rR c.l c.P c.part u=true:=by
 obtain ⟨u,h1,aa,aC⟩:=SI (List.contains_iff_mem.1 h)
 exact ⟨u,by have:=I5 o.yO;omega,aa,aC⟩
theorem PT {k n:Int} {K:dR} (h:oP k n=some K):k=6∨k=7∨k=8:=by
 unfold oP at h
 split at h
 ·omega
 ·split at h
  ·omega
  ·split at h
   ·omega
   ·cases h
theorem PS {c:bp} {u:Nat} {K:dR} (h:c.dx u=some K):∃ x,c.l[u]?=some x∧oP x.kind x.n=some K:=by
 unfold bp.dx at h
 split at h
 ·split at h
  ·rename_i x ag;exact ⟨x,ag,h⟩
  ·cases h
 ·cases h
theorem aoW {c:bp} {u:Nat} {K:dR} (h:c.dx u=some K):c.ins.contains (u:Int)=false:=by
 cases au:c.ins.contains (u:Int)
 ·rfl
 exfalso
 obtain ⟨w,_,e,hw⟩:=SI (List.contains_iff_mem.1 au)
 have e:u=w:=by omega
 subst e
 obtain ⟨x,ag,hk⟩:=PS h
 have h1:=PT hk
 have aa:gN c.l (u:Int)=x.kind:=by unfold gN;rw [Int.toNat_natCast,ag];rfl
 unfold rR at hw
 rw [aa] at hw
 simp only [Bool.or_eq_true,Bool.and_eq_true,beq_iff_eq] at hw
 omega
theorem aba {c:bp}:∀ (ps:List (Int×aj)) (ms:Seen) (st yS:Nat→List aj),kH c st ps=some yS→xA c ⟨ms,st⟩ ps=some ⟨ms,yS⟩
 | [],ms,st,yS,h=>by
  have:st=yS:=by simpa [kH] using h
  rw [this];rfl
 | p::r,ms,st,yS,h=>by
  unfold kH at h
  split at h
  case h_2=>cases h
  rename_i K bQ
  split at h
  case isFalse=>cases h
  rename_i h0
  have ch:=aoW bQ
  have a7:yR c ⟨ms,st⟩ p.1.toNat p.2=(⟨ms,pN st p.1.toNat (hb K (st p.1.toNat) p.2).1⟩,(hb K (st p.1.toNat) p.2).2):=by
   unfold yR
   rw [if_neg (by rw [ch];decide),bQ]
   rfl
  unfold xA
  rw [a7,if_pos h0]
  exact aba r ms _ yS h
theorem aoX {cl:Nat} {l:Seen} {v t:Int} (h:(dN l v t).1=false):fb cl l v t=l:=by
 unfold dN at h
 unfold fb
 cases av:dr l v with
 | none=>rfl
 | some g=>
  rw [av] at h
  simp only at h⊢
  split
  ·rfl
  ·rename_i h1
   rw [if_neg h1] at h
   split
   ·rfl
   ·rename_i aa
    rw [if_neg aa] at h
    cases h
theorem aqq {c:bp} (o:hO c) {s:dP} (oI:∀ u K,c.dx u=some K→c8 K (s.st u)) (v:Int) (r:Rec) :
  ∃ ps:List (Int×aj),(stepT c s v r).1.2.verts=ps.map (·.1)∧(stepT c s v r).1.2.chgs=ps.map (·.2)∧xA c s ps=some (stepT c s v r).1.1:=by
 cases ch:c.ins.contains v
 ·have fv:stepT c s v r=((s,fE.none),6):=by unfold stepT;rw [if_pos ch]
  rw [fv]
  exact ⟨[],rfl,rfl,rfl⟩
 by_cases he:(dN s.ms v r.t).2≠0
 ·have fv:stepT c s v r=(pa v r (dN s.ms v r.t).2 (s,fE.none),0):=by unfold stepT;rw [if_neg (by rw [ch];decide),if_pos he]
  rw [fv]
  exact ⟨[],rfl,rfl,rfl⟩
 obtain ⟨hD,il⟩:∃ hD:b3,hD=({ s with ms:=fb c.ins.length s.ms v r.t },fE.none):=⟨_,rfl⟩
 obtain ⟨hU,k5⟩:∃ hU:b3,hU=(if (dN s.ms v r.t).1=true then kc v [qf c r.t] hD else hD):=⟨_,rfl⟩
 have fv:stepT c s v r=((List.range c.l.length).foldl (fun x u=>cU c u x) (nU c 24 v r hU),0):=by
  unfold stepT
  rw [if_neg (by rw [ch];decide),if_neg he,k5,il]
 rw [fv]
 have i0:Inv c hD:=by rw [il];exact ⟨Nat.zero_le _,oI⟩
 have t1:cj c 2 hD hU:=by
  rw [k5];split
  ·exact Bt c v [qf c r.t] hD i0
  ·exact (cj.refl i0).mono (by omega)
 have s1:hU.1=hD.1:=by rw [k5];split<;>rfl
 have t2:=zO o.len 24 v r hU t1.inv
 have t3:=FB (c:=c) (j:=3000) (fun x u=>cU c u x) (List.range c.l.length) (fun u _=>Bv) _ t2.inv
 have T:fe c hU ((List.range c.l.length).foldl (fun x u=>cU c u x) (nU c 24 v r hU)):=(aa9 o.len 24 v r hU t1.inv).trans (LU (c:=c) (j:=3000) (fun x u=>cU c u x) (List.range c.l.length) (fun u _=>aoU) (fun u _=>Bv) _ t2.inv)
 have vh:((List.range c.l.length).foldl (fun x u=>cU c u x) (nU c 24 v r hU)).1.ms=hD.1.ms:=t3.ms.trans (t2.ms.trans (by rw [s1]))
 generalize (List.range c.l.length).foldl (fun x u=>cU c u x) (nU c 24 v r hU)=Y at *
 obtain ⟨q,cG,a2,a3⟩:=T
 have o0:Y.1=⟨hD.1.ms,Y.1.st⟩:=by rw [←vh]
 have a4:=aba q hD.1.ms hU.1.st Y.1.st a3
 rw [←o0,s1] at a4
 cases ak:(dN s.ms v r.t).1
 ·rw [ak,if_neg (by decide)] at k5
  subst k5
  refine ⟨q,by rw [cG,il];rfl,by rw [a2,il];rfl,?_⟩
  rw [←a4,il]
  simp only [aoX ak]
 ·rw [ak,if_pos rfl] at k5
  subst k5
  obtain ⟨u,hu,e,_⟩:=aoV o ch
  refine ⟨(v,qf c r.t)::q,by rw [cG,il];rfl,by rw [a2,il];rfl,?_⟩
  have a7:yR c s v.toNat (qf c r.t)=({ s with ms:=fb c.ins.length s.ms v r.t },(dN s.ms v r.t).2):=by
   unfold yR
   rw [e,Int.toNat_natCast,←e,if_pos ch]
   exact if_pos rfl
  unfold xA
  simp only [a7]
  rw [if_pos ⟨by omega,by simpa using he⟩]
  rw [il] at a4
  exact a4
theorem aoY {c:bp} {s:dP} (hk:ye c s) (v t:Int):ye c { s with ms:=fb c.ins.length s.ms v t }:=by
 refine ⟨Eq.trans ?_ hk.1,SB hk.2⟩
 show (fb c.ins.length s.ms v t).map (·.2.1)=s.ms.map (·.2.1)
 unfold fb
 cases av:dr s.ms v with
 | none=>rfl
 | some g=>
  simp only
  split
  ·rfl
  ·split
   ·rfl
   ·generalize c.ins.length=cl
    have key:∀ l:Seen,(dr l v).isSome→(eN cl l v t).map (·.2.1)=l.map (·.2.1):=by
     intro l
     induction l with
     | nil=>intro h;simp [dr] at h
     | cons e r ih=>
      intro h
      unfold eN
      by_cases hk:e.2.1=v
      ·rw [if_pos hk];simp [hk]
      ·rw [if_neg hk,List.map_cons,List.map_cons,ih]
       unfold dr at h⊢
       rw [List.find?_cons,show (e.2.1==v)=false by simpa using hk] at h
       exact h
    exact key _ (by rw [av];rfl)
theorem abb {c:bp} (o:hO c) {s:dP} (oI:∀ u K,c.dx u=some K→c8 K (s.st u)) (v:Int) (r:Rec) :
  (stepT c s v r).1.1.ms=s.ms∨(stepT c s v r).1.1.ms=fb c.ins.length s.ms v r.t:=by
 cases ch:c.ins.contains v
 ·have fv:stepT c s v r=((s,fE.none),6):=by unfold stepT;rw [if_pos ch]
  rw [fv]
  exact .inl rfl
 by_cases he:(dN s.ms v r.t).2≠0
 ·have fv:stepT c s v r=(pa v r (dN s.ms v r.t).2 (s,fE.none),0):=by unfold stepT;rw [if_neg (by rw [ch];decide),if_pos he]
  rw [fv]
  exact .inl rfl
 obtain ⟨hD,il⟩:∃ hD:b3,hD=({ s with ms:=fb c.ins.length s.ms v r.t },fE.none):=⟨_,rfl⟩
 obtain ⟨hU,k5⟩:∃ hU:b3,hU=(if (dN s.ms v r.t).1=true then kc v [qf c r.t] hD else hD):=⟨_,rfl⟩
 have fv:stepT c s v r=((List.range c.l.length).foldl (fun x u=>cU c u x) (nU c 24 v r hU),0):=by
  unfold stepT
  rw [if_neg (by rw [ch];decide),if_neg he,k5,il]
 rw [fv]
 have i0:Inv c hD:=by rw [il];exact ⟨Nat.zero_le _,oI⟩
 have t1:cj c 2 hD hU:=by
  rw [k5];split
  ·exact Bt c v [qf c r.t] hD i0
  ·exact (cj.refl i0).mono (by omega)
 have t2:=zO o.len 24 v r hU t1.inv
 have t3:=FB (c:=c) (j:=3000) (fun x u=>cU c u x) (List.range c.l.length) (fun u _=>Bv) _ t2.inv
 refine .inr (t3.ms.trans (t2.ms.trans (t1.ms.trans ?_)))
 rw [il]
theorem SJ {c:bp} (o:hO c) {s:dP} (hk:ye c s) (oI:∀ u K,c.dx u=some K→c8 K (s.st u)) (v:Int) (r:Rec) :
  ye c (stepT c s v r).1.1∧(∀ u K,c.dx u=some K→c8 K ((stepT c s v r).1.1.st u))∧sz (stepT c s v r).1≤2 ^ 30:=by
 have h1:ye c (stepT c s v r).1.1:=by
  rcases abb o oI v r with h | h
  ·exact ⟨by rw [h];exact hk.1,by rw [h];exact hk.2⟩
  ·have:=aoY hk v r.t
   exact ⟨by rw [h];exact this.1,by rw [h];exact this.2⟩
 refine ⟨h1,?_⟩
 cases ch:c.ins.contains v
 ·have fv:stepT c s v r=((s,fE.none),6):=by unfold stepT;rw [if_pos ch]
  rw [fv]
  exact ⟨oI,by simp [sz,fE.none]⟩
 by_cases he:(dN s.ms v r.t).2≠0
 ·have fv:stepT c s v r=(pa v r (dN s.ms v r.t).2 (s,fE.none),0):=by unfold stepT;rw [if_neg (by rw [ch];decide),if_pos he]
  rw [fv]
  exact ⟨oI,by simp [sz,fE.none,pa]⟩
 obtain ⟨hD,il⟩:∃ hD:b3,hD=({ s with ms:=fb c.ins.length s.ms v r.t },fE.none):=⟨_,rfl⟩
 obtain ⟨hU,k5⟩:∃ hU:b3,hU=(if (dN s.ms v r.t).1=true then kc v [qf c r.t] hD else hD):=⟨_,rfl⟩
 have fv:stepT c s v r=((List.range c.l.length).foldl (fun x u=>cU c u x) (nU c 24 v r hU),0):=by
  unfold stepT
  rw [if_neg (by rw [ch];decide),if_neg he,k5,il]
 rw [fv]
 have i0:Inv c hD:=by rw [il];exact ⟨Nat.zero_le _,oI⟩
 have z0:sz hD=4000000:=by rw [il];simp [sz,fE.none]
 have t1:cj c 2 hD hU:=by
  rw [k5];split
  ·exact Bt c v [qf c r.t] hD i0
  ·exact (cj.refl i0).mono (by omega)
 have t2:=zO o.len 24 v r hU t1.inv
 have t3:=FB (c:=c) (j:=3000) (fun x u=>cU c u x) (List.range c.l.length) (fun u _=>Bv) _ t2.inv
 refine ⟨t3.inv.wf,?_⟩
 have aw:=t1.sz
 have aW:=t2.sz
 have cJ:sz ((List.range c.l.length).foldl (fun x u=>cU c u x) (nU c 24 v r hU))≤sz (nU c 24 v r hU)+3000 * (List.range c.l.length).length:=t3.sz
 have:=o.len
 rw [List.length_range] at cJ
 have:3000 * c.l.length≤3000 * 24:=Nat.mul_le_mul_left _ this
 show sz ((List.range c.l.length).foldl (fun x u=>cU c u x) (nU c 24 v r hU))≤2 ^ 30
 omega
def hV (f:Int→Int) (L:Seen):Seen:=L.map fun e=>(e.1,e.2.1,f e.2.1)
theorem aoZ {f g:Int→Int} {L:Seen} (h:∀ z ∈ L.map (·.2.1),f z=g z):hV f L=hV g L:=by
 unfold hV
 refine List.map_congr_left fun e he=>?_
 rw [h _ (List.mem_map.2 ⟨e,he,rfl⟩)]
theorem abc (f:Int→Int) (v:Int):∀ L:Seen,dr (hV f L) v=if v ∈ L.map (·.2.1) then some (f v) else none
 | []=>rfl
 | e::L=>by
  have ih:=abc f v L
  unfold dr at ih⊢
  rw [hV,List.map_cons,List.find?_cons]
  by_cases h:e.2.1=v
  ·subst h;simp
  ·have h1:(e.2.1==v)=false:=by simpa using h
   have aa:¬v=e.2.1:=fun ab=>h ab.symm
   show ((match e.2.1==v with | true=>some (e.1,e.2.1,f e.2.1) | false=>List.find? (fun e=>e.2.1==v) (hV f L)).map (fun e:Nat×Int×Int=>e.2.2))=_
   rw [h1]
   show (List.find? (fun e=>e.2.1==v) (hV f L)).map (fun e:Nat×Int×Int=>e.2.2)=_
   rw [ih]
   have aC:v ∈ (e::L).map (fun x:Nat×Int×Int=>x.2.1)↔v ∈ L.map (fun x:Nat×Int×Int=>x.2.1):=by
    rw [List.map_cons,List.mem_cons]
    exact ⟨fun ab=>ab.resolve_left aa,.inr⟩
   by_cases bz:v ∈ L.map (fun x:Nat×Int×Int=>x.2.1)
   ·rw [if_pos bz,if_pos (aC.2 bz)]
   ·rw [if_neg bz,if_neg fun ab=>bz (aC.1 ab)]
theorem abd (cl:Nat) (f:Int→Int) (v t:Int):∀ L:Seen,v ∈ L.map (·.2.1)→(L.map (·.2.1)).Nodup→eN cl (hV f L) v t=hV (fun z=>if z=v then t else f z) L
 | [],h,_=>by simp at h
 | e::L,h,aG=>by
  rw [List.map_cons,List.nodup_cons] at aG
  show eN cl ((e.1,e.2.1,f e.2.1)::hV f L) v t=(e.1,e.2.1,if e.2.1=v then t else f e.2.1)::hV (fun z=>if z=v then t else f z) L
  unfold eN
  by_cases he:e.2.1=v
  ·rw [if_pos he,if_pos he]
   have:hV f L=hV (fun z=>if z=v then t else f z) L:=aoZ fun z bK=>by
    rw [if_neg]
    intro ab
    subst ab
    exact aG.1 (he ▸ bK)
   rw [←this]
   show (e.1,v,t)::hV f L=(e.1,e.2.1,t)::hV f L
   rw [he]
  ·rw [if_neg he,if_neg he]
   rw [abd cl f v t L (by
    rw [List.map_cons] at h
    rcases List.mem_cons.1 h with h | h
    ·exact absurd h.symm he
    ·exact h) aG.2]
theorem ao0 (cl:Nat) (f:Int→Int) (v t:Int) {L:Seen} (aG:(L.map (·.2.1)).Nodup):∃ g,fb cl (hV f L) v t=hV g L:=by
 unfold fb
 rw [abc]
 by_cases aD:v ∈ L.map (·.2.1)
 ·rw [if_pos aD]
  simp only
  split
  ·exact ⟨f,rfl⟩
  ·split
   ·exact ⟨f,rfl⟩
   ·exact ⟨_,abd cl f v t L aD aG⟩
 ·rw [if_neg aD]
  exact ⟨f,rfl⟩
theorem SK:∀ (zs:List Int) (k:Nat),(kP k zs).map (·.2.1)=zs∧hV (fun _=>-1) (kP k zs)=kP k zs
 | [],k=>⟨rfl,rfl⟩
 | z::r,k=>by
  obtain ⟨a,b⟩:=SK r (k+1)
  refine ⟨?_,?_⟩
  ·show z::(kP (k+1) r).map (·.2.1)=z::r
   rw [a]
  ·show (k,z,(-1:Int))::hV (fun _=>-1) (kP (k+1) r)=(k,z,-1)::kP (k+1) r
   rw [b]
def GO (c:bp):Seen:=kP 0 c.ins
theorem ao1 (c:bp):(GO c).map (·.2.1)=c.ins:=(SK c.ins 0).1
theorem ao2 (c:bp):c.ins.Nodup:=(R5 (Sz c)).1.imp fun h=>by omega
theorem ao3 (c:bp):((GO c).map (·.2.1)).Nodup:=by rw [ao1];exact ao2 c
def Ej (c:bp) (s:dP):Prop:=∃ f,s.ms=hV f (GO c)
theorem ao4 (c:bp):Ej c (dP.new c):=⟨fun _=>-1,(SK c.ins 0).2.symm⟩
theorem ao5 {c:bp} (o:hO c) {s:dP} (U:Ej c s) (oI:∀ u K,c.dx u=some K→c8 K (s.st u)) (v:Int) (r:Rec):Ej c (stepT c s v r).1.1:=by
 obtain ⟨f,aq⟩:=U
 rcases abb o oI v r with h | h
 ·exact ⟨f,by rw [h,aq]⟩
 ·rw [aq] at h
  obtain ⟨g,av⟩:=ao0 c.ins.length f v r.t (ao3 c)
  exact ⟨g,by rw [h,av]⟩
theorem ao6:∀ (s:Nat) (e:bG) (h:I),et e=s→fP e→Pure Tryz.prog 64 [.agg (ay e)] h (.int .i64 (IntKind.i64.wrap (et e:Nat))):=by
 intro s
 induction s using Nat.strongRecOn with
 | _ s ih=>
 intro e h U a1
 obtain ⟨o,n,aE⟩:=e
 refine Pure.val (bj.int _ _) ?_
 have hlen:=a1.len
 simp only [bG.aE] at hlen
 refine ae.ax (c:=_) Tryz.func64 rfl (by kernel_rfl) (by simp) ?_
 have au:(V.agg (ay (.mk o n aE))).cells=some (ay (.mk o n aE)):=rfl
 have jm:dB (bb.cells (ay (.mk o n aE)) 27 none) 2=some [.ai aE.length (aE.flatMap ay)]:=by rw [jv];rfl
 simp only [af,au]
 refine aX.b9 (α:=Nat) (fun i f h'=>f 1=.ptr h.n 0∧f 4=.int .i64 (i:Nat)∧f 3=.int .i64 (IntKind.i64.wrap ((eK (aE.take i)+1:Nat):Int))∧i≤aE.length∧h'=h.push (.cells (ay (.mk o n aE)) 27 none)) (fun i=>aE.length - i) 0 ⟨rfl,rfl,rfl,Nat.zero_le _,rfl⟩ ?_
 rintro i f h' ⟨f1,f4,f3,hi,rfl⟩
 refine am (by kernel_rfl) ?_
 by_cases aN:i<aE.length
 rotate_left
 ·have c3:decide ((i:Int)<((aE.length:Nat):Int))=false:=by simp only [decide_eq_false_iff_not];omega
  rw [List.take_of_length_le (by omega)] at f3
  simp only [af,Nat.reduceEqDiff,pz,uF,qG,f1,f4,f3,jm,c3,aU,Tryz.results64,ac]
  exact aF ⟨by simp [et],J.push _ _ _⟩
 ·have c3:decide ((i:Int)<((aE.length:Nat):Int))=true:=by simp only [decide_eq_true_eq];omega
  have gn:=EV (kk:=.i64) aN
  have bf:=WZ aN
  have xr:aE[i] ∈ (bG.mk o n aE).aE:=List.getElem_mem aN
  have ir:=Qt _ xr
  have C9:=a1.AV _ xr
  generalize aE[i]=A at *
  have kS:∀ (q:List V),dv (some (some 3)) (some (ay A++q))=some (.agg (ay A)):=fun q=>nN (ot A)
  have bX:IntKind.i64.wrap (((i:Nat):Int)+1)=((i+1:Nat):Int):=by rw [Go.IntWalk.i64_in _ (by omega)];omega
  have k8:IntKind.i64.wrap (IntKind.i64.wrap ((eK (aE.take i)+1:Nat):Int)+IntKind.i64.wrap ((et A:Nat):Int))=IntKind.i64.wrap ((eK (aE.take (i+1))+1:Nat):Int):=by rw [wrap_add,bf];congr 1;omega
  simp only [af,Nat.reduceEqDiff,pz,uF,qG,fh,f1,f4,f3,jm,c3,gn,kS]
  refine bU Wg (ih (et A) (by omega) A _ rfl C9) ?_
  simp only [af,Nat.reduceEqDiff,f4,bX,k8]
  exact aF ⟨i+1,⟨f1,rfl,rfl,by omega,rfl⟩,by omega⟩
theorem ao7 (o:Int×Rec) {xo yo:Operand}:c0 Tryz.prog .neq 79 xo yo (.agg (ee o)) (.agg (ee o))=some (.bool false):=by
 have h:mi [([0],false),([0,0,0],true)] (ee o) (ee o)=some true:=by simp [mi,ee,aI,e2]
 have:=ahF (xo:=xo) (yo:=yo) aj1 h
 simpa using this
theorem aqr (a:List (Int×Rec)) (h:I) (aO:a.length≤2 ^ 60):Pure Tryz.prog 80 [.ai a.length (a.flatMap ee),.ai a.length (a.flatMap ee)] h (.bool true):=by
 refine Pure.val (bj.bool _) ?_
 refine ae.ax (c:=_) Tryz.func80 rfl (by kernel_rfl) (by simp) ?_
 have bh:(((a.length:Nat):Int) !=((a.length:Nat):Int))=false:=by simp
 simp only [af,Nat.reduceEqDiff,reduceCtorEq,zu]
 refine aX.b9 (α:=Nat) (fun i f h'=>f 0=.ai a.length (a.flatMap ee)∧f 1=.ai a.length (a.flatMap ee)∧f 5=.int .i64 (i:Nat)∧J h h' none_∧i≤a.length) (fun i=>a.length - i) 0
  ⟨rfl,rfl,rfl,J.refl _ _,Nat.zero_le _⟩ ?_
 rintro i f h1 ⟨f0,f1,f5,bB,hi⟩
 refine am (by kernel_rfl) ?_
 by_cases aN:i<a.length
 rotate_left
 ·have c3:decide ((i:Int)<((a.length:Nat):Int))=false:=decide_eq_false (by omega)
  simp only [af,Nat.reduceEqDiff,reduceCtorEq,zu,f0,f5,c3,aU,Tryz.results80,ac]
  exact aF ⟨rfl,bB⟩
 ·have c3:decide ((i:Int)<((a.length:Nat):Int))=true:=decide_eq_true (by omega)
  have c2:IntKind.i64.wrap ((i:Int)+1)=((i+1:Nat):Int):=oq aN (by omega)
  have gn:hA Tryz.prog 64 (.ai a.length (a.flatMap ee)) (.int .i64 (i:Int))=some (.at (ee a[i]++(a.drop (i+1)).flatMap ee)):=qC Cj aN KN
  have kS:∀ (x:Int×Rec) (q:List V),dv (some (some 4)) (some (ee x++q))=some (.agg (ee x)):=fun x q=>nN (Cj x)
  simp only [af,Nat.reduceEqDiff,reduceCtorEq,zu,f0,f5,c3]
  generalize a[i]=A at *
  have gv:∀ xo yo,c0 Tryz.prog .neq 79 xo yo (.agg (ee A)) (.agg (ee A))=some (.bool false):=fun xo yo=>ao7 A
  refine aX.bk none_ [] (.q 0 (.q 1 (.q 2 (.q 3 (.q 4 (.q 5 (.q 6 (.q 7 (.q 8 .done))))))))) (by kernel_rfl) (by kernel_rfl) (by kernel_rfl) ?_
  simp only [af,bN,Nat.reduceEqDiff,reduceCtorEq,ajN,f0,f1,f5,gn,gv,kS,c2]
  exact aF ⟨i+1,⟨f0,f1,rfl,bB,by omega⟩,by omega⟩
section
variable {c:bp} {h:I} {a6:dK} {i1 i2 m1 m2:Nat} {ec bW:At} {s:dP}
end
theorem aip (l:List bC) (p:Int) (a1:l4 l) (h:I):ae Tryz.prog 25 [.agg (dO l p)] h (fun r h'=>∃ b,r=.bool b∧J h h' none_):=by
 have so:∀ (l:List bC) (p:Int),(V.agg (dO l p)).cells=some [.ai l.length (l.flatMap ar),.int .i64 p]:=fun _ _=>rfl
 refine ae.ax (c:=_) Tryz.func25 rfl (by kernel_rfl) (by simp) ?_
 obtain ⟨H,hH⟩:∃ x,x=h.push (.cells [.ai l.length (l.flatMap ar),.int .i64 p] 56 none):=⟨_,rfl⟩
 have gt:H.get h.n=.cells [.ai l.length (l.flatMap ar),.int .i64 p] 56 none:=by rw [hH];exact cA
 have bA:J h H none_:=by rw [hH];exact J.push _ _ _
 simp only [af,so,←hH]
 clear hH
 refine aX.b9 (α:=Nat×Int) (fun x f h'=>f 1=.ptr h.n 0∧f 3=.int .i64 x.2∧f 4=.int .i64 (x.1:Nat)∧x.1≤l.length∧h'=H) (fun x=>l.length - x.1) (0,0) ⟨rfl,rfl,rfl,Nat.zero_le _,rfl⟩ ?_
 rintro ⟨x,n⟩ f h' ⟨f1,f3,f4,ag,rfl⟩
 simp only at f3 f4 ag
 have az:=a1.1
 refine am (by kernel_rfl) ?_
 by_cases aN:x<l.length∧n≤3000
 ·have d1:decide ((x:Int)<((l.length:Nat):Int))=true:=decide_eq_true (by omega)
  have d2:decide (n≤3000)=true:=decide_eq_true aN.2
  have hw:=oq aN.1 (by omega)
  have sg:=(a1.2 _ (List.getElem_mem aN.1)).1
  have gn:hA Tryz.prog 54 (.ai l.length (l.flatMap ar)) (.int .i64 (x:Int))=some (.at (ar l[x]++(l.drop (x+1)).flatMap ar)):=qC iA aN.1 xR
  generalize l[x]=v at gn sg
  generalize (l.drop (x+1)).flatMap ar=Vq at gn
  obtain ⟨dx,aJ,⟨uE,em,aE⟩,abe⟩:=v
  have fC:ar ⟨dx,aJ,.mk uE em aE,abe⟩=[.int .i64 dx,.ai aJ.length (aY aJ),.int .i64 uE,.int .i64 em,.ai aE.length (aE.flatMap ay),.int .i64 abe]:=by simp [ar,jv]
  have bF:ay (.mk uE em aE)=[.int .i64 uE,.int .i64 em,.ai aE.length (aE.flatMap ay)]:=jv _ _ _
  rw [fC] at gn
  simp only [List.cons_append,List.nil_append] at gn
  have ec:=ao6 _ _ h' rfl sg
  rw [bF] at ec
  simp only [af,Nat.reduceEqDiff,Nat.reduceAdd,Nat.reduceLeDiff,co,lU,px,fh,kO,f1,f3,f4,gt,d1,d2,gn]
  refine bU Wg ec ?_
  simp only [af,Nat.reduceEqDiff,f4,hw]
  exact aF ⟨(x+1,_),⟨f1,rfl,rfl,by simp only;omega,rfl⟩,by simp only;omega⟩
 ·by_cases h1:x<l.length
  ·have d1:decide ((x:Int)<((l.length:Nat):Int))=true:=decide_eq_true (by omega)
   have d2:decide (n≤3000)=false:=decide_eq_false (by omega)
   simp only [af,Nat.reduceEqDiff,Nat.reduceAdd,lU,px,kO,f1,f3,f4,gt,d1,d2,aU,Tryz.results25,ac]
   exact aF ⟨_,rfl,bA⟩
  ·have d1:decide ((x:Int)<((l.length:Nat):Int))=false:=decide_eq_false (by omega)
   simp only [af,Nat.reduceEqDiff,Nat.reduceAdd,lU,px,kO,f1,f3,f4,gt,d1,aU,Tryz.results25,ac]
   exact aF ⟨_,rfl,bA⟩
theorem SL {α:Type} {cl:Nat} {k:Int} {a:α}:∀ {l:List (Nat×Int×α)} {z:Int},dr (eN cl l k a) z=if z=k then some a else dr l z
 | [],z=>by
  unfold eN dr
  rw [List.find?_cons]
  by_cases h:z=k
  ·subst h;simp
  ·rw [if_neg h]
   have:(k==z)=false:=by simpa using fun e=>h e.symm
   simp [this]
 | e::r,z=>by
  have ih:=SL (cl:=cl) (k:=k) (a:=a) (l:=r) (z:=z)
  unfold eN
  by_cases he:e.2.1=k
  ·rw [if_pos he]
   unfold dr
   rw [List.find?_cons,List.find?_cons]
   by_cases h:z=k
   ·subst h;simp
   ·rw [if_neg h]
    have h1:(k==z)=false:=by simpa using fun e=>h e.symm
    have aa:(e.2.1==z)=false:=by rw [he];exact h1
    simp only [h1,aa]
  ·rw [if_neg he]
   unfold dr at ih⊢
   rw [List.find?_cons,List.find?_cons]
   by_cases aa:e.2.1=z
   ·have aC:(e.2.1==z)=true:=by simpa using aa
    have bz:z≠k:=fun ab=>he (aa.trans ab)
    simp [aC,bz]
   ·have aC:(e.2.1==z)=false:=by simpa using aa
    simp only [aC]
    exact ih
structure kf (h:I) (a6:dK) (id m:Nat) (b:At) (c:bp) (n:Nat):Prop where
 lt:m<h.n
 get:h.get m=.cells (c.cells b) 146 none
 own:a6 m=(id,1)
 marks:s0 h (.ptr b.kz 0) (kP 0 c.ins) b.kz b.rT c.ins.length
 gB:a6 b.kz=(id,2)∧a6 b.rT=(id,3)
 kA:b.mp<h.n
 map:h.get b.mp=.map (mapOf .i64 uY b.es) b.cl
 lI:a6 b.mp=(id,4)
 some:∀ u K,u<n→c.dx u=some K→∃ a O x,dr b.es (u:Int)=Option.some a∧c.l[u]?=some x∧gH h a O K x.e x.n []∧qL a6 (id,10+u) O∧cY x.e=true
 none:∀ u,(n≤u∨c.dx u=Option.none)→dr b.es (u:Int)=Option.none
section
variable {h h':I} {a6 ow':dK} {id m n:Nat} {b:At} {c:bp}
theorem kf.al {M:Nat→Prop} (k:kf h a6 id m b c n) (hk:J h h' M) (hm:∀ q,q<h.n→M q→(a6 q).1≠id) (he:∀ q,q<h.n→ow' q=a6 q):kf h' ow' id m b c n:=by
 obtain ⟨aw,hR,mP,ns,g1,g2,st⟩:=k.marks
 have mQ:∀ q,q<h.n→(a6 q).1=id→h'.get q=h.get q:=fun q ad aR=>hk.get q ad fun ab=>hm q ad ab aR
 refine ⟨Nat.lt_of_lt_of_le k.lt hk.n,(mQ _ k.lt (by rw [k.own])).trans k.get,(he _ k.lt).trans k.own,⟨aw,Nat.lt_of_lt_of_le hR hk.n,Nat.lt_of_lt_of_le mP hk.n,ns,(mQ _ hR (by rw [k.gB.1])).trans g1,(mQ _ mP (by rw [k.gB.2])).trans g2,st⟩,
  ⟨(he _ hR).trans k.gB.1,(he _ mP).trans k.gB.2⟩,Nat.lt_of_lt_of_le k.kA hk.n,(mQ _ k.kA (by rw [k.lI])).trans k.map,(he _ k.kA).trans k.lI,fun u K hu bQ=>?_,k.none⟩
 obtain ⟨a,O,x,h1,aa,aC,bz,bY⟩:=k.some u K hu bQ
 exact ⟨a,O,x,h1,aa,aC.al hk fun q ad ab=>hm q (aC.lt q ad) ab (by rw [bz q ad]),bz.ea aC.lt he,bY⟩
theorem kf.ba (k:kf h a6 id m b c n) (hk:J h h' none_):kf h' a6 id m b c n:=k.al hk (fun _ _ ab=>by simp [none_] at ab) fun _ _=>rfl
theorem kf.skip (k:kf h a6 id m b c n) (aG:c.dx n=Option.none):kf h a6 id m b c (n+1) :=
 ⟨k.lt,k.get,k.own,k.marks,k.gB,k.kA,k.map,k.lI,fun u K hu bQ=>by
  by_cases e:u=n
  ·subst e;rw [aG] at bQ;cases bQ
  ·exact k.some u K (by omega) bQ,fun u hu=>k.none u (hu.imp (fun h=>by omega) fun h=>h)⟩
theorem kf.put (k:kf h a6 id m b c n) (f:Fr h a6) {K:dR} (bQ:c.dx n=Option.some K) {x:bC} (ag:c.l[n]?=Option.some x) (hm:cY x.e=true) {a:Nat} {O:List Nat} (bB:J h h' none_) (o1:∀ q ∈ O,h.n≤q) (jg:gH h' a O K x.e x.n []) :
  kf (h'.set b.mp (.map (mapOf .i64 uY (eN b.cl b.es (n:Int) a)) (mU b.cl b.es (n:Int)))) (eF a6 h.n h'.n (id,10+n)) id m ⟨b.kz,b.rT,b.mp,eN b.cl b.es (n:Int) a,mU b.cl b.es (n:Int)⟩ c (n+1):=by
 have he:∀ q,q<h.n→eF a6 h.n h'.n (id,10+n) q=a6 q:=fun q ad=>Dl ad
 have kk:=k.al (ow':=eF a6 h.n h'.n (id,10+n)) bB (fun _ _ ab=>by simp [none_] at ab) he
 have kA:=k.kA
 have aE:J h' (h'.set b.mp (.map (mapOf .i64 uY (eN b.cl b.es (n:Int) a)) (mU b.cl b.es (n:Int)))) (·=b.mp):=J.set _ _ _
 obtain ⟨aw,hR,mP,ns,g1,g2,st⟩:=kk.marks
 have mQ:∀ q t,q<h'.n→eF a6 h.n h'.n (id,10+n) q=(id,t)→t≠4→(h'.set b.mp (.map (mapOf .i64 uY (eN b.cl b.es (n:Int) a)) (mU b.cl b.es (n:Int)))).get q=h'.get q:=fun q t ad aR bq=>aE.get q ad fun ab=>by
  rw [ab,kk.lI] at aR;simp at aR;omega
 refine ⟨kk.lt,(mQ _ _ kk.lt kk.own (by omega)).trans kk.get,kk.own,⟨aw,hR,mP,ns,(mQ _ _ hR kk.gB.1 (by omega)).trans g1,(mQ _ _ mP kk.gB.2 (by omega)).trans g2,st⟩,kk.gB,kk.kA,aP,kk.lI,fun u xp hu Ju=>?_,fun u hu=>?_⟩
 ·show ∃ a2 uS dW,dr (eN b.cl b.es (n:Int) a) (u:Int)=_∧_
  rw [SL]
  by_cases e:u=n
  ·subst e
   rw [bQ] at Ju
   cases Ju
   rw [if_pos rfl]
   have yv:qL (eF a6 h.n h'.n (id,10+u)) (id,10+u) O:=fun q ad=>Se (o1 q ad) (jg.lt q ad)
   exact ⟨a,O,x,rfl,ag,jg.al aE fun q ad ab=>by have h1:=yv q ad;rw [ab,kk.lI] at h1;simp at h1;omega,yv,hm⟩
  ·rw [if_neg (by omega)]
   obtain ⟨a2,uS,dW,h1,aa,aC,bz,bY⟩:=kk.some u xp (by omega) Ju
   exact ⟨a2,uS,dW,h1,aa,aC.al aE fun q ad ab=>by have h1:=bz q ad;rw [ab,kk.lI] at h1;simp at h1;omega,bz,bY⟩
 ·show dr (eN b.cl b.es (n:Int) a) (u:Int)=_
  rw [SL,if_neg (by
   intro e
   have e:u=n:=by omega
   subst e
   rcases hu with hu | hu
   ·omega
   ·rw [bQ] at hu;cases hu)]
  exact k.none u (hu.imp (fun h=>by omega) fun h=>h)
theorem kf.done (k:kf h a6 id m b c n) (aG:c.l.length≤n):hc h a6 id m b c (dP.new c) :=
 ⟨k.lt,k.get,k.own,k.marks,k.gB,k.kA,k.map,k.lI,fun u K bQ=>by
  obtain ⟨x,ag,_⟩:=PS bQ
  have:=(List.getElem?_eq_some_iff.1 ag).1
  exact k.some u K (by omega) bQ,fun u hu=>k.none u (.inr hu)⟩
end
def iZ (c:bp):Int:=if (c1 c.p c.l).2≠0 then (c1 c.p c.l).2 else if c.P.contains c.part=false then 1 else if c.ins=[] then 1 else 0
def Made (id:Nat) (c:bp) (h:I) (a6:dK):V→I→Prop:=fun r h'=>J h h' none_ ∧
 ((iZ c≠0∧r=.tuple [.c9,.int .i64 (iZ c)])∨(iZ c=0∧∃ m b ow',r=.tuple [.ptr m 0,.int .i64 0]∧hc h' ow' id m b c (dP.new c)∧(∀ q,q<h.n→ow' q=a6 q)∧Fr h' ow'))
end Go.Proofs.YtedkjhifbibpmaaGreatDoor.Pk
