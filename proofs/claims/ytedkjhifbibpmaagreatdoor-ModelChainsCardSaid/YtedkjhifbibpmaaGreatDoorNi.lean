/-
  What functions of the program do, told of abstract states. Conditions: as each theorem says.
-/
import Derived.Test.YtedkjhifbibpmaaGreatDoorNh
import Derived.Test.YtedkjhifbibpmaaGreatDoorAcD
import Derived.Lib.LaidTab
import Derived.Lib.LaidU8
import Derived.Stop.LaidErr
set_option linter.unusedVariables false
set_option linter.unusedSimpArgs false
set_option maxHeartbeats 4000000
set_option maxRecDepth 10000
namespace Go.Proofs.YtedkjhifbibpmaaGreatDoor.Pk
open Go Go.Proofs Go.Proofs.YtedkjhifbibpmaaGreatDoor.Ab
theorem ao8 {e:bG} (a1:fP e):∀ b ∈ jc e,b<256:=by
 unfold jc
 split
 ·exact QV e
 ·simp
theorem ao9 {v:bC} (a1:vr v):∀ b ∈ fI v,b<256:=fun b ak=>by
 unfold fI w7 x4 at ak
 simp only [List.mem_append,List.mem_flatMap] at ak
 rcases ak with ((ak | ak | ⟨n,_,ak⟩) | ak) | ak | ak
 ·exact x1 _ _ (Nat.le_refl _) b ak
 ·exact x1 _ _ (Nat.le_refl _) b ak
 ·exact x1 _ _ (Nat.le_refl _) b ak
 ·exact x1 _ _ (Nat.le_refl _) b ak
 ·exact x1 _ _ (Nat.le_refl _) b ak
 ·exact ao8 a1.1 b ak
theorem apa {p:Int} {l:List bC} (a1:l4 l):∀ b ∈ nf p l,b<256:=fun b ak=>by
 unfold nf at ak
 split at ak
 ·unfold p8 at ak
  simp only [List.mem_append,List.mem_flatMap] at ak
  rcases ak with (ak | ak) | ⟨v,aD,ak⟩
  ·exact x1 _ _ (Nat.le_refl _) b ak
  ·exact x1 _ _ (Nat.le_refl _) b ak
  ·exact ao9 (a1.2 v aD) b ak
 ·cases ak
theorem apb {p:Int} {l:List bC} (a1:l4 l):(nf p l).length≤2 ^ 40:=by
 unfold nf
 split
 ·rename_i h0
  obtain ⟨aZ,ie,gp,dt⟩:=Fv h0
  have h1:=Zt (l:=l) fun v aD=>Zs (a1.2 v aD) (dt v aD).1 (dt v aD).2.1
  have aa:=(pC p.toNat (by omega)).2
  have aC:=(pC l.length (by omega)).2
  unfold p8
  simp only [List.length_append]
  omega
 ·simp
def u1 (a6:dK) (q:Nat) (t:Nat×Nat):dK:=fun x=>if x=q then t else a6 x
theorem LV (a6:dK) (q:Nat) (t:Nat×Nat):u1 a6 q t q=t:=if_pos rfl
theorem yf {a6:dK} {q x:Nat} {t:Nat×Nat} (h:x≠q):u1 a6 q t x=a6 x:=if_neg h
theorem apc {c:bp} (h:(c1 c.p c.l).2=0) (aa:c.P.contains c.part=false):iZ c=1:=by unfold iZ;rw [if_neg (by rw [h];decide),if_pos aa]
theorem apd {c:bp} (h:(c1 c.p c.l).2=0) (aa:c.P.contains c.part=true) (aC:c.ins=[]):iZ c=1:=by unfold iZ;rw [if_neg (by rw [h];decide),if_neg (by rw [aa];decide),if_pos aC]
theorem abf {c:bp} (h:(c1 c.p c.l).2=0) (aa:c.P.contains c.part=true) (aC:c.ins≠[]):iZ c=0:=by unfold iZ;rw [if_neg (by rw [h];decide),if_neg (by rw [aa];decide),if_neg aC]
theorem VA (id:Nat) (c:bp) (a1:l4 c.l) (h:I) (av:pY h) (a6:dK) (f:Fr h a6) (h0:id≠0) :
  ae Tryz.prog 26 [.agg (dO c.l c.p),.int .i64 c.part] h (Made id c h a6):=by
 obtain ⟨l,p,part⟩:=c
 simp only at a1⊢
 have so:∀ (l:List bC) (p:Int),(V.agg (dO l p)).cells=some [.ai l.length (l.flatMap ar),.int .i64 p]:=fun _ _=>rfl
 have vi:∀ (l:List bC) (p:Int),V.agg [.ai l.length (l.flatMap ar),.int .i64 p]=.agg (dO l p):=fun _ _=>rfl
 have D7:∀ (l:List bC) (p:Int),bR (some 2) (bb.cells [V.an,.int .i64 0] 56 none) 0 [.ai l.length (l.flatMap ar),.int .i64 p]=some (.cells [.ai l.length (l.flatMap ar),.int .i64 p] 56 none):=fun _ _=>rfl
 refine ae.ax (c:=_) Tryz.func26 rfl (by kernel_rfl) (by simp) ?_
 obtain ⟨H,hH⟩:∃ x,x=h.push (.cells [.ai l.length (l.flatMap ar),.int .i64 p] 56 none):=⟨_,rfl⟩
 have gt:H.get h.n=.cells [.ai l.length (l.flatMap ar),.int .i64 p] 56 none:=by rw [hH];exact cA
 have bA:J h H none_:=by rw [hH];exact J.push _ _ _
 have j9:H.n=h.n+1:=by rw [hH];rfl
 have AN:=av.al bA
 simp only [af,Nat.reduceEqDiff,Nat.reduceAdd,nX,so,←hH,gt,vi]
 refine bU ajt (anz l p a1 H AN) ?_
 unfold Dd
 by_cases h1:(c1 p l).2=0
 rotate_left
 ·have bh:((c1 p l).2 !=0)=true:=by simpa using h1
  have bF:iZ ⟨l,p,part⟩=(c1 p l).2:=by unfold iZ;rw [if_pos h1]
  simp only [af,Nat.reduceEqDiff,bh,aU,Tryz.results26,dn]
  exact aF ⟨bA,.inl ⟨by rw [bF];exact h1,by rw [bF]⟩⟩
 have bh:((0:Int) !=0)=false:=rfl
 have o:hO ⟨l,p,part⟩:=⟨h1,a1⟩
 simp only [af,Nat.reduceEqDiff,h1]
 refine bU aju (RX _ (nf p l) H AN (Rd.ai _ _) (apa a1) (by have:=apb (p:=p) a1;omega)) ?_
 have ka:qv (nf p l)=.tuple [.agg (dO l p),.int .i64 0]:=by unfold qv;rw [anS a1 h1]
 rw [ka]
 obtain ⟨bP,bE⟩:∃ x,x=H.push (.cells [.ai l.length (l.flatMap ar),.int .i64 p] 56 none):=⟨_,rfl⟩
 have nT:bP.get H.n=.cells [.ai l.length (l.flatMap ar),.int .i64 p] 56 none:=by rw [bE];exact cA
 have k2:J H bP none_:=by rw [bE];exact J.push _ _ _
 have ft:bP.n=H.n+1:=by rw [bE];rfl
 have t2:=AN.al k2
 have dE:=bA.trans' k2
 simp only [af,Nat.reduceEqDiff,Nat.reduceAdd,nX,tD,tE,so,D7,←bE,nT,vi]
 refine bU Wh (aab l p a1 bP t2) ?_
 have aaI:(iS p l).length=l.length:=I5 h1
 have uU:l.length≤24:=o.len
 rw [h1]
 simp only [af,Nat.reduceEqDiff]
 refine bU Qe (RL (iS p l) part (by omega) bP) ?_
 cases wJ:(iS p l).contains part
 ·have bF:iZ ⟨l,p,part⟩=1:=apc (c:=⟨l,p,part⟩) h1 wJ
  simp only [af,Nat.reduceEqDiff,aU,Tryz.results26,dn]
  exact aF ⟨dE,.inl ⟨by rw [bF];decide,by rw [bF]⟩⟩
 simp only [af,Nat.reduceEqDiff,Nat.reduceAdd,nX,nT,vi]
 refine bU ajv (an6 l p part a1 bP t2) ?_
 simp only [af,Nat.reduceEqDiff]
 by_cases hi:Br p l part=[]
 ·have bF:iZ ⟨l,p,part⟩=1:=apd (c:=⟨l,p,part⟩) h1 wJ hi
  rw [hi]
  refine bU Wi (aoM bP) ?_
  have bD:((1:Int) !=0)=true:=rfl
  simp only [af,Nat.reduceEqDiff,bD,aU,Tryz.results26,dn]
  exact aF ⟨dE,.inl ⟨by rw [bF];decide,by rw [bF]⟩⟩
 have bF:iZ ⟨l,p,part⟩=0:=abf (c:=⟨l,p,part⟩) h1 wJ hi
 refine cy Wi (R3 bP (Br p l part) (by cases ag:Br p l part with | nil=>exact absurd ag hi | cons a r=>simp) (SA o) (Sz ⟨l,p,part⟩)) fun r aC ⟨i,j,cJ,u6,apY,apZ,k3⟩=>?_
 subst cJ
 have eD:=dE.trans' k3
 have qw:=(k3.get H.n (by omega) (by simp [none_])).trans nT
 have n3:=k3.n
 have ap0:∀ (n:Nat) (x:List V),(V.ai n x).cells=some [.ai n x]:=fun _ _=>rfl
 have SM:=u6
 obtain ⟨_,hR,mP,ns,ny,x5,abg⟩:=SM
 obtain ⟨h5,gG⟩:∃ x,x=(aC.push (.map [] 0)).push (.cells [.ai l.length (l.flatMap ar),.int .i64 p,.ai (iS p l).length (aY (iS p l)),.int .i64 part,.ptr i 0,.map aC.n] 146 none):=⟨_,rfl⟩
 have eQ:J aC h5 none_:=by rw [gG];exact (J.push _ _ _).bg _
 have A3:h5.n=aC.n+2:=by rw [gG];rfl
 have abh:h5.get (aC.n+1)=.cells [.ai l.length (l.flatMap ar),.int .i64 p,.ai (iS p l).length (aY (iS p l)),.int .i64 part,.ptr i 0,.map aC.n] 146 none:=by rw [gG];exact d9
 have Bj:h5.get aC.n=.map [] 0:=by rw [gG];exact wv
 have N2:=(eQ.get H.n (by omega) (by simp [none_])).trans qw
 have nY:=eD.trans' eQ
 simp only [af,Nat.reduceEqDiff,Nat.reduceAdd,Nat.reduceLeDiff,lU,kO,nX,ajR,aj5,qw,vi,so]
 rw [←gG]
 simp only [af,Nat.reduceEqDiff,Nat.reduceAdd,px,N2]
 clear gG
 obtain ⟨jr,qo⟩:∃ x,x=u1 (u1 (u1 (u1 a6 i (id,2)) j (id,3)) aC.n (id,4)) (aC.n+1) (id,1):=⟨_,rfl⟩
 have c2:jr (aC.n+1)=(id,1):=by rw [qo];exact LV _ _ _
 have wI:jr aC.n=(id,4):=by rw [qo,yf (by omega)];exact LV _ _ _
 have k8:jr j=(id,3):=by rw [qo,yf (by omega),yf (by omega)];exact LV _ _ _
 have bX:jr i=(id,2):=by rw [qo,yf (by omega),yf (by omega),yf ns];exact LV _ _ _
 have SN:∀ q,q≠i→q≠j→q≠aC.n→q≠aC.n+1→jr q=a6 q:=fun q h1 aa aC bz=>by rw [qo,yf bz,yf aC,yf aa,yf h1]
 clear qo
 have f5:Fr h5 jr:=fun q ad=>(SN q (by omega) (by omega) (by omega) (by omega)).trans (f q (by omega))
 have N3:∀ q,q<h.n→jr q=a6 q:=fun q ad=>SN q (by omega) (by omega) (by omega) (by omega)
 have Jv:kf h5 jr id (aC.n+1) ⟨i,j,aC.n,[],0⟩ ⟨l,p,part⟩ 0 :=
  ⟨by omega,abh,c2,⟨rfl,by show i<h5.n;omega,by show j<h5.n;omega,ns,(eQ.get i hR (by simp [none_])).trans ny,(eQ.get j mP (by simp [none_])).trans x5,abg⟩,⟨bX,k8⟩,by show aC.n<h5.n;omega,Bj,wI,fun u K hu=>absurd hu (Nat.not_lt_zero _),fun u _=>rfl⟩
 obtain ⟨m,hm⟩:∃ m,m=aC.n+1:=⟨_,rfl⟩
 rw [←hm] at Jv⊢
 have abi:(iS p l)=(bp.mk l p part).P:=rfl
 refine aX.b9 (α:=Nat×dK×At) (fun x bI h'=>bI 1=.int .i64 part∧bI 10=.ai (iS p l).length (aY (iS p l))∧bI 13=.ptr m 0∧bI 58=.ai l.length (l.flatMap ar)∧bI 59=.int .i64 ((l.length:Nat):Int)∧bI 60=.int .i64 (x.1:Nat)∧x.1≤l.length ∧
   kf h' x.2.1 id m x.2.2 ⟨l,p,part⟩ x.1∧Fr h' x.2.1∧J h h' none_∧(∀ q,q<h.n→x.2.1 q=a6 q)∧x.2.2.mp=aC.n) (fun x=>l.length - x.1) (0,jr,⟨i,j,aC.n,[],0⟩)
  ⟨rfl,rfl,rfl,rfl,rfl,rfl,Nat.zero_le _,Jv,f5,nY,N3,rfl⟩ ?_
 clear Jv f5 N3 SN c2 bX k8 wI abh Bj N2 ny x5 u6 qw nT gt
 have Uf:h.n≤aC.n:=by omega
 rintro ⟨x,jW,b⟩ bI da ⟨f1,f10,f13,f58,f59,f60,ag,lW,f6,D6,BD,vm⟩
 simp only at f60 ag lW f6 BD vm
 refine am (by kernel_rfl) ?_
 by_cases aN:x<l.length
 rotate_left
 ·have d1:decide ((x:Int)<((l.length:Nat):Int))=false:=decide_eq_false (by omega)
  simp only [af,Nat.reduceEqDiff,f13,f59,f60,d1,aU,Tryz.results26,dn]
  exact aF ⟨D6,.inr ⟨bF,m,b,jW,rfl,lW.done (by show l.length≤x;omega),BD,f6⟩⟩
 have d1:decide ((x:Int)<((l.length:Nat):Int))=true:=decide_eq_true (by omega)
 have hw:=oq aN (by omega)
 have Jw:x<(iS p l).length:=by omega
 have gn:hA Tryz.prog 54 (.ai l.length (l.flatMap ar)) (.int .i64 (x:Int))=some (.at (ar l[x]++(l.drop (x+1)).flatMap ar)):=qC iA aN xR
 have ck:=tk (P:=Tryz.prog) (kk:=.i64) Jw mF
 have abj:(iS p l)[x]?=some (iS p l)[x]:=List.getElem?_eq_getElem Jw
 have ve:l[x]?=some l[x]:=List.getElem?_eq_getElem aN
 have sg:=(a1.2 _ (List.getElem_mem aN)).1
 have N4:=o.dV (u:=x) ve
 have dw:(bp.mk l p part).dx x=if (iS p l)[x]=part then oP l[x].kind l[x].n else none:=by
  unfold bp.dx
  rw [←abi,abj]
  simp only [Option.some.injEq,ve]
 generalize (iS p l)[x]=SO at ck dw
 generalize l[x]=v at gn sg N4 dw ve
 have kS:∀ (q:List V),dv (some (some 6)) (some (ar v++q))=some (.agg (ar v)):=fun q=>nN (iA v)
 have wO:dv (some (some 6)) (some (ar v))=some (.agg (ar v)):=by have:=kS [];rwa [List.append_nil] at this
 have abk:(V.agg (ar v)).cells=some (ar v):=rfl
 have abl:bR (some 6) (bb.cells [V.int .i64 0,.an,.int .i64 0,.int .i64 0,.an,.int .i64 0] 29 none) 0 (ar v)=some (.cells (ar v) 29 none):=by
  rw [sF (n:=6) (iA _) (zJ _),if_pos (by decide),p7];rfl
 obtain ⟨u2,uf⟩:∃ y,y=da.push (.cells (ar v) 29 none):=⟨_,rfl⟩
 have mX:J da u2 none_:=by rw [uf];exact J.push _ _ _
 have g7:u2.get da.n=.cells (ar v) 29 none:=by rw [uf];exact cA
 have n7:u2.n=da.n+1:=by rw [uf];rfl
 have PD:dB (.cells (ar v) 29 none) 0=some (ar v):=by simp [F7,iA]
 have xB:=lW.ba mX
 have f7:Fr u2 jW:=fun q ad=>f6 q (by omega)
 have qs:=D6.trans' mX
 simp only [af,Nat.reduceEqDiff,nS,bn,nW,pZ,f1,f10,f58,f59,f60,d1,gn,ck,kS,abk,abl]
 rw [←uf]
 clear uf
 by_cases aZ:SO=part
 rotate_left
 ·have c5:(SO !=part)=true:=by simpa using aZ
  rw [if_neg aZ] at dw
  simp only [af,Nat.reduceEqDiff,reduceCtorEq,f13,f60,c5,hw]
  exact aF ⟨(x+1,jW,b),⟨f1,f10,f13,f58,f59,rfl,by simp only;omega,xB.skip dw,f7,qs,BD,vm⟩,by simp only;omega⟩
 have c5:(SO !=part)=false:=by simpa using aZ
 rw [if_pos aZ] at dw
 simp only [af,Nat.reduceEqDiff,nS,c5,g7,PD,wO]
 by_cases abm:v.kind=6∨v.kind=7∨v.kind=8
 ·obtain ⟨⟨K,bQ⟩,Jx⟩:=aaE N4.2.2 abm
  rw [bQ] at dw
  refine cy V0 (ana v bQ Jx sg u2 (av.1.al qs)) fun r lx ⟨a,O,zr,jx,o1,jg⟩=>?_
  subst zr
  have put:=xB.put f7 dw ve Jx jx o1 jg
  have N5:=(jx.get m xB.lt (by simp [none_])).trans xB.get
  have yL:(bp.mk l p part).cells b=[.ai l.length (l.flatMap ar),.int .i64 p,.ai (iS p l).length (aY (iS p l)),.int .i64 part,.ptr b.kz 0,.map b.mp]:=rfl
  rw [yL] at N5
  have abn:=(jx.get b.mp xB.kA (by simp [none_])).trans xB.map
  have up:=OO (P:=Tryz.prog) (k:=(x:Int)) (a:=a) (v:=.ptr a 0) Hq abn rfl
  have mB:((0:Int)==0)=true:=rfl
  simp only [af,Nat.reduceEqDiff,Nat.reduceAdd,Nat.reduceLeDiff,Cr,Cy,f13,f60,N5,up,hw]
  have cC:J lx (lx.set b.mp (.map (mapOf .i64 uY (eN b.cl b.es (x:Int) a)) (mU b.cl b.es (x:Int)))) (·=b.mp):=J.set _ _ _
  have n8:=jx.n
  exact aF ⟨(x+1,eF jW u2.n lx.n (id,10+x),⟨b.kz,b.rT,b.mp,eN b.cl b.es (x:Int) a,mU b.cl b.es (x:Int)⟩),⟨f1,f10,f13,f58,f59,rfl,by simp only;omega,put,fun q ad=>by
   have dp:lx.n≤q:=ad
   show eF jW u2.n lx.n (id,10+x) q=_
   unfold eF;rw [if_neg (by omega)];exact f7 q (by omega),(qs.trans' jx).trans cC fun q ad e=>by omega,fun q ad=>by
   have:=qs.n
   show eF jW u2.n lx.n (id,10+x) q=_
   rw [Dl (by omega)];exact BD q ad,vm⟩,by simp only;omega⟩
 ·refine cy V0 (aoL v (by omega) sg u2 (av.1.al qs)) fun r lx ⟨zr,jx⟩=>?_
  subst zr
  have pg:oP v.kind v.n=none:=by
   cases ab:oP v.kind v.n with
   | none=>rfl
   | some K=>have:=PT ab;omega
  rw [pg] at dw
  have mB:((1:Int)==0)=false:=rfl
  simp only [af,Nat.reduceEqDiff,f60,mB,hw]
  exact aF ⟨(x+1,jW,b),⟨f1,f10,f13,f58,f59,rfl,by simp only;omega,(xB.ba jx).skip dw,fun q ad=>f7 q (by have:=jx.n;omega),qs.trans' jx,BD,vm⟩,by simp only;omega⟩
structure abo where
 v:Int
 r:Rec
 d:Bool
 c:aj
def abp (x:abo):List V:=.int .i64 x.v::(aI x.r++(.bool x.d::aL x.c))
structure LW (c:bp) (s:dP):Prop where
 aE:ye c s
 wf:∀ u K,c.dx u=some K→c8 K (s.st u)
 abq:Ej c s
theorem VF {c:bp} (o:hO c):LW c (dP.new c):=⟨aoN c,aoO c o,ao4 c⟩
theorem ape {c:bp} (o:hO c) {s:dP} (g:LW c s) (v:Int) (r:Rec):LW c (stepT c s v r).1.1 :=
 ⟨(SJ o g.aE g.wf v r).1,(SJ o g.aE g.wf v r).2.1,ao5 o g.abq g.wf v r⟩
theorem aiq {c:bp} (o:hO c) {s:dP} (g:LW c s) (v:Int) (r:Rec):sz (stepT c s v r).1≤2 ^ 30:=(SJ o g.aE g.wf v r).2.2
theorem apf (h:I):ae Tryz.prog 63 [] h (fun r h'=>∃ F,r=.agg [.bc F 0 3 3,.int .i64 1]∧h.n≤F∧F<h'.n∧h'.get F=.cells (jU.flatMap ar) 29 none∧J h h' none_):=by
 refine ae.cast ?_
 refine ae.ax (c:=_) Tryz.func63 rfl (by kernel_rfl) (by simp) ?_
 obtain ⟨n6,k6,vC,abr,ge,gf,gV⟩:=anu h (.cells [.an,.int .i64 0] 56 none) (.cells [.int .i64 5,.int .i64 0,.an,.int .i64 3,.int .i64 0,.an] 27 none) (.cells [.int .i64 6,.int .i64 0,.bc (h.n+1) 0 2 2] 27 none) (.cells [.int .i64 0] 3 none) (.cells [.int .i64 1] 3 none) (.cells [.int .i64 1,.an,.int .i64 0,.int .i64 0,.an,.int .i64 0,.int .i64 6,.bc (h.n+1+1+1) 0 1 1,.int .i64 6,.int .i64 0,.bc (h.n+1) 0 2 2,.int .i64 0,.int .i64 10,.bc (h.n+1+1+1+1) 0 1 1,.int .i64 0,.int .i64 0,.an,.int .i64 0] 29 none)
 simp only [af,Nat.reduceEqDiff,Nat.reduceAdd,Nat.reduceLeDiff,reduceCtorEq,fh,vL,li,xS,ov,nW,tD,mZ,tE,ans,Cf,ant]
 generalize (((((h.push (.cells [.an,.int .i64 0] 56 none)).push (.cells [.int .i64 5,.int .i64 0,.an,.int .i64 3,.int .i64 0,.an] 27 none)).push (.cells [.int .i64 6,.int .i64 0,.bc (h.n+1) 0 2 2] 27 none)).push (.cells [.int .i64 0] 3 none)).push (.cells [.int .i64 1] 3 none)).push (.cells [.int .i64 1,.an,.int .i64 0,.int .i64 0,.an,.int .i64 0,.int .i64 6,.bc (h.n+1+1+1) 0 1 1,.int .i64 6,.int .i64 0,.bc (h.n+1) 0 2 2,.int .i64 0,.int .i64 10,.bc (h.n+1+1+1+1) 0 1 1,.int .i64 0,.int .i64 0,.an,.int .i64 0] 29 none)=H at n6 k6 vC abr ge gf gV⊢
 simp only [af,Nat.reduceAdd,reduceCtorEq,nX,k6,zj,aU,Tryz.results63,zj,fp]
 obtain ⟨u2,uf⟩:∃ x,x=H.set h.n (.cells [.bc (h.n+1+1+1+1+1) 0 3 3,.int .i64 1] 56 none):=⟨_,rfl⟩
 have mX:J H u2 (·=h.n):=by rw [uf];exact J.set _ _ _
 have n7:u2.n=h.n+6:=by rw [uf];exact n6
 have abt:=(mX.get (h.n+1) (by omega) (by omega)).trans vC
 have abu:=(mX.get (h.n+3) (by omega) (by omega)).trans abr
 have abv:=(mX.get (h.n+4) (by omega) (by omega)).trans ge
 have N6:=(mX.get (h.n+5) (by omega) (by omega)).trans gf
 obtain ⟨aa,bD,cO⟩:=aM.own (uC (e:=3) (sz:=1) (n:=1) (by omega) abu rfl (by simp [b2])) (n:=1) rfl (by decide)
 have ft:=cO.n
 have abw:=(cO.get (h.n+1) (by omega) (by simp [bl,aV])).trans abt
 obtain ⟨aC,c3,fg⟩:=aM.hj (es:=[bG.mk 5 0 [],bG.mk 3 0 []].flatMap ay) (uC (h:=aa) (e:=27) (sz:=3) (n:=2) (by omega) abw rfl (by simp [b2])) (aB.cons (aM.refl _ _) (aB.cons (aM.refl _ _) (aB.cons (aM.kD _) (aB.cons (aM.refl _ _) (aB.cons (aM.refl _ _) (aB.cons (aM.kD _) (aB.refl _ _))))))) (J.refl _ none_) (fun h=>h) rfl
 have n3:=fg.n
 have abx:=(fg.get (h.n+4) (by omega) (by omega)).trans ((cO.get (h.n+4) (by omega) (by simp [bl,aV])).trans abv)
 obtain ⟨bz,ew,ju⟩:=aM.own (uC (h:=aC) (e:=3) (sz:=1) (n:=1) (by omega) abx rfl (by simp [b2])) (n:=1) rfl (by decide)
 have n4:=ju.n
 have aby:=(ju.get (h.n+5) (by omega) (by simp [bl,aV])).trans ((fg.get (h.n+5) (by omega) (by omega)).trans ((cO.get (h.n+5) (by omega) (by simp [bl,aV])).trans N6))
 have nj:jU.flatMap ar=[.int .i64 1,.ai 0 [],.int .i64 0,.int .i64 0,.ai 0 [],.int .i64 0,.int .i64 6,.ai 1 [.int .i64 0],.int .i64 6,.int .i64 0,.ai 2 ([bG.mk 5 0 [],bG.mk 3 0 []].flatMap ay),.int .i64 0,.int .i64 10,.ai 1 [.int .i64 1],.int .i64 0,.int .i64 0,.ai 0 [],.int .i64 0]:=by
  simp [jU,IP,ar,jv,aY]
 have cw:aB [.int .i64 1,.an,.int .i64 0,.int .i64 0,.an,.int .i64 0,.int .i64 6,.bc (h.n+3) 0 1 1,.int .i64 6,.int .i64 0,.bc (h.n+1) 0 2 2,.int .i64 0,.int .i64 10,.bc (h.n+4) 0 1 1,.int .i64 0,.int .i64 0,.an,.int .i64 0] u2 (jU.flatMap ar) bz:=by
  rw [nj]
  exact aB.cons (aM.refl (.int .i64 1) _) (aB.cons (aM.kD _) (aB.cons (aM.refl (.int .i64 0) _) (aB.cons (aM.refl (.int .i64 0) _) (aB.cons (aM.kD _) (aB.cons (aM.refl (.int .i64 0) _) (aB.cons (aM.refl (.int .i64 6) _) (aB.cons bD (aB.cons (aM.refl (.int .i64 6) _) (aB.cons (aM.refl (.int .i64 0) _) (aB.cons c3 (aB.cons (aM.refl (.int .i64 0) _) (aB.cons (aM.refl (.int .i64 10) _) (aB.cons ew (aB.cons (aM.refl (.int .i64 0) _) (aB.cons (aM.refl (.int .i64 0) _) (aB.cons (aM.kD _) (aB.cons (aM.refl (.int .i64 0) _) (aB.refl [] _))))))))))))))))))
 have Ln:J h (bz.set (h.n+5) (.cells (jU.flatMap ar) 29 none)) none_:=by
  refine J.iQ (J.trans (J.trans (J.trans (J.trans gV mX fun q ad e=>by omega) cO fun q ad e=>?_) fg fun q ad e=>by omega) ju fun q ad e=>?_) (by omega) _
  ·simp [bl,aV] at e;omega
  ·simp [bl,aV] at e;omega
 have fM:=aM.vR N6 cw aby (by rw [nj];rfl) (.agg [.bc (h.n+5) 0 3 3,.int .i64 1])
 rw [uf] at fM
 refine aF ⟨_,_,fM,h.n+5,rfl,by omega,by show h.n+5<bz.n;omega,aP,Ln⟩
def ss:bp:=⟨jU,1,0⟩
theorem abz:(c1 1 jU).2=0:=by decide
theorem zQ:hO ss:=⟨abz,Zp⟩
theorem apg:iZ ss=0:=abf (c:=ss) abz (by decide) (by decide)
def su:b3×Int:=stepT ss (dP.new ss) 0 ⟨1,5,0⟩
def z20:b3×Int:=stepT ss su.1.1 0 ⟨1,6,0⟩
theorem aph:su.2=0:=by kernel_rfl
theorem api:su.1.2.outs=[(2,⟨1,5,0⟩)]:=by kernel_rfl
theorem apj:z20.2=0:=by kernel_rfl
theorem apk:z20.1.2.outs=[(2,⟨1,11,0⟩)]:=by kernel_rfl
theorem ain (h:I) (av:pY h):Pure Tryz.prog 24 [] h (.bool true):=by
 refine Pure.val (bj.bool _) ?_
 refine ae.ax (c:=_) Tryz.func24 rfl (by kernel_rfl) (by simp) ?_
 simp only [af]
 refine cy ajs (apf h) fun r h1 ⟨F,aw,ap1,abA,IW,bB⟩=>?_
 subst aw
 simp only [af,reduceCtorEq]
 obtain ⟨hI,qI,wR⟩:=aM.own (uC (e:=29) (sz:=6) (n:=3) abA IW (by rw [j7 iA];rfl) (by simp [b2])) (n:=3) (by rw [j7 iA];rfl) (by decide)
 have Ek:J h hI none_:=bB.trans wR fun q ad e=>by simp [bl,aV] at e;omega
 have abB:=av.al Ek
 have apl:aM (.agg [.bc F 0 3 3,.int .i64 1]) h1 (.agg (dO jU 1)) hI:=Pk.aM.agg (aB.cons qI (aB.refl _ _))
 refine cy VB (ae.args (aB.cons apl (aB.refl _ _)) (VA 1 ss Zp hI abB (fun _=>(0,0)) (fun _ _=>rfl) (by decide))) fun r aa ⟨k2,a7⟩=>?_
 rcases a7 with ⟨aG,_⟩ | ⟨_,m,b,lF,aW,sW,sa,f2⟩
 ·exact absurd apg aG
 subst aW
 have t2:=abB.al k2
 have z0:((0:Int) !=0)=false:=rfl
 simp only [af,Nat.reduceEqDiff,Nat.reduceAdd,Nat.reduceLeDiff,reduceCtorEq,PW,E8,vH]
 have g0:=VF zQ
 refine cy PX (PV zQ sW g0.aE g0.wf f2 t2.1 (by decide) 0 ⟨1,5,0⟩) fun r aC ⟨cJ,l6,N7,abC,f3,k3⟩=>?_
 have g1:=ape zQ g0 0 ⟨1,5,0⟩
 have bd:stepT ss (dP.new ss) 0 ⟨1,5,0⟩=su:=rfl
 rw [bd] at cJ N7 g1
 rw [aph] at cJ
 unfold G8 at cJ
 rw [api] at cJ
 obtain ⟨A2,ku⟩:∃ a,a=V.ai su.1.2.verts.length (aY su.1.2.verts):=⟨_,rfl⟩
 obtain ⟨LX,Jy⟩:∃ a,a=hj su.1.2.chgs:=⟨_,rfl⟩
 obtain ⟨LY,Jz⟩:∃ a,a=V.ai su.1.2.deads.length (su.1.2.deads.flatMap py):=⟨_,rfl⟩
 rw [←ku,←Jy,←Jz] at cJ
 have SP:A2.one=true:=by rw [ku];rfl
 have SQ:LX.one=true:=by rw [Jy];rfl
 have SR:LY.one=true:=by rw [Jz];rfl
 clear ku Jy Jz
 have abD:r=.tuple [.agg [.ai 1 [.int .i64 2,.int .i64 1,.int .i64 5,.int .i64 0],A2,LX,LY],.int .i64 0]:=cJ
 clear cJ
 subst abD
 have so:∀ (a b c d:V),(V.agg [a,b,c,d]).cells=some [a,b,c,d]:=fun _ _ _ _=>rfl
 have Jl:=EW (a:=.ai 1 [.int .i64 2,.int .i64 1,.int .i64 5,.int .i64 0]) rfl SP SQ SR
 obtain ⟨h6,j3⟩:∃ x,x=aC.push (.cells [.ai 1 [.int .i64 2,.int .i64 1,.int .i64 5,.int .i64 0],A2,LX,LY] 67 none):=⟨_,rfl⟩
 have cz:J aC h6 none_:=by rw [j3];exact J.push _ _ _
 have g4:h6.get aC.n=.cells [.ai 1 [.int .i64 2,.int .i64 1,.int .i64 5,.int .i64 0],A2,LX,LY] 67 none:=by rw [j3];exact cA
 have n4:h6.n=aC.n+1:=by rw [j3];rfl
 have n3:=k3.n
 have abE:=N7.ba cz
 have f4:Fr h6 l6:=fun q ad=>f3 q (by omega)
 have t3:=t2.al k3
 have t4:=t3.al cz
 simp only [af,Nat.reduceEqDiff,Nat.reduceAdd,Nat.reduceLeDiff,reduceCtorEq,E8,vH,Ha,Cg,so,Jl]
 rw [←j3]
 clear j3
 refine cy PX (PV zQ abE g1.aE g1.wf f4 t4.1 (by decide) 0 ⟨1,6,0⟩) fun r bY ⟨nI,jr,ap2,_,f5,eQ⟩=>?_
 have bK:stepT ss su.1.1 0 ⟨1,6,0⟩=z20:=rfl
 rw [bK] at nI
 rw [apj] at nI
 unfold G8 at nI
 rw [apk] at nI
 obtain ⟨LZ,j1⟩:∃ a,a=V.ai z20.1.2.verts.length (aY z20.1.2.verts):=⟨_,rfl⟩
 obtain ⟨L0,JA⟩:∃ a,a=hj z20.1.2.chgs:=⟨_,rfl⟩
 obtain ⟨L1,JB⟩:∃ a,a=V.ai z20.1.2.deads.length (z20.1.2.deads.flatMap py):=⟨_,rfl⟩
 rw [←j1,←JA,←JB] at nI
 have SS:LZ.one=true:=by rw [j1];rfl
 have SU:L0.one=true:=by rw [JA];rfl
 have SV:L1.one=true:=by rw [JB];rfl
 clear j1 JA JB
 have abF:r=.tuple [.agg [.ai 1 [.int .i64 2,.int .i64 1,.int .i64 11,.int .i64 0],LZ,L0,L1],.int .i64 0]:=nI
 clear nI
 subst abF
 have A3:=eQ.n
 have abG:=(eQ.get aC.n (by omega) (by rw [f3 _ (Nat.le_refl _)];decide)).trans g4
 have BC:=EW (a:=.ai 1 [.int .i64 2,.int .i64 1,.int .i64 11,.int .i64 0]) rfl SS SU SV
 obtain ⟨Bp,El⟩:∃ x,x=bY.push (.cells [.ai 1 [.int .i64 2,.int .i64 1,.int .i64 11,.int .i64 0],LZ,L0,L1] 67 none):=⟨_,rfl⟩
 have gV:J bY Bp none_:=by rw [El];exact J.push _ _ _
 have g6:Bp.get bY.n=.cells [.ai 1 [.int .i64 2,.int .i64 1,.int .i64 11,.int .i64 0],LZ,L0,L1] 67 none:=by rw [El];exact cA
 have abH:=(gV.get aC.n (by omega) (by simp [none_])).trans abG
 have aqs:((0:Int)==0)=true:=rfl
 have apm:(((1:Nat):Int)==1)=true:=rfl
 have z5:((5:Int)==5)=true:=rfl
 have ap3:((11:Int)==11)=true:=rfl
 have z2:((2:Int)==2)=true:=rfl
 have abI:hA Tryz.prog 64 (.ai 1 [.int .i64 2,.int .i64 1,.int .i64 5,.int .i64 0]) (.int .i64 0)=some (.at [.int .i64 2,.int .i64 1,.int .i64 5,.int .i64 0]):=qC (l:=[((2:Int),(⟨1,5,0⟩:Rec))]) (k:=0) Cj (by decide) KN
 have abJ:hA Tryz.prog 64 (.ai 1 [.int .i64 2,.int .i64 1,.int .i64 11,.int .i64 0]) (.int .i64 0)=some (.at [.int .i64 2,.int .i64 1,.int .i64 11,.int .i64 0]):=qC (l:=[((2:Int),(⟨1,11,0⟩:Rec))]) (k:=0) Cj (by decide) KN
 simp only [af,Nat.reduceEqDiff,reduceCtorEq,Ch,Ci,Ha,Cg,so,BC]
 rw [←El]
 clear El
 simp only [af,Nat.reduceEqDiff,Nat.reduceAdd,Nat.reduceLeDiff,reduceCtorEq,Hm,Ch,ajE,VM,zu,bx,bn,Ci,abH,g6,apm,abI,abJ,aU,Tryz.results24,ac]
 have h2:J h Bp none_:=by
  refine J.trans (J.trans (J.trans (J.trans (Ek.trans' k2) k3 fun q ad e=>?_) cz fun q ad e=>e.elim) eQ fun q ad e=>?_) gV fun q ad e=>e.elim
  ·have:=Ek.n
   rw [sa q (by omega)] at e
   exact absurd (show (0:Nat)=1 from e) (by decide)
  ·have:=Ek.n
   have:=k2.n
   rw [abC q (by omega),sa q (by omega)] at e
   exact absurd (show (0:Nat)=1 from e) (by decide)
 exact aF ⟨rfl,h2⟩
def zt (x:fE):List V:=[.ai x.outs.length (x.outs.flatMap ee),.ai x.verts.length (aY x.verts),hj x.chgs,.ai x.deads.length (x.deads.flatMap py)]
structure AO (id m:Nat) (b:At) (c:bp) (h:I) (a6:dK) (s:dP) (x:fE) (t:Nat) (H:I) (ow':dK):Prop where
 ev:hc H ow' id m b c s
 get:H.get t=.cells (zt x) 67 none
 lt:t<H.n
 new:h.n≤t
 own:ow' t=(0,0)
 al:J h H (fun q=>(a6 q).1=id)
 ea:∀ q,q<h.n→ow' q=a6 q
 aJ:Fr H ow'
section
variable {id m:Nat} {b:At} {c:bp} {h bY:I} {a6 jr:dK} {s:dP} {x:fE}
theorem AO.push (k:hc bY jr id m b c s) (he:∀ q,q<h.n→jr q=a6 q) (f:Fr bY jr) (eQ:J h bY (fun q=>(a6 q).1=id)):AO id m b c h a6 s x bY.n (bY.push (.cells (zt x) 67 none)) jr:=by
 have jA:J bY (bY.push (.cells (zt x) 67 none)) none_:=J.push _ _ _
 exact ⟨k.ba jA,cA,by rw [eI];omega,eQ.n,f _ (Nat.le_refl _),eQ.trans jA fun _ _ e=>e.elim,he,fun q ad=>f q (Nat.le_trans jA.n ad)⟩
theorem AO.set {ob:bb} (h0:id≠0) (aJ:Fr h a6) (k:hc bY jr id m b c s) (he:∀ q,q<(h.push ob).n→jr q=a6 q) (f:Fr bY jr) (eQ:J (h.push ob) bY (fun q=>(a6 q).1=id)):AO id m b c h a6 s x h.n (bY.set h.n (.cells (zt x) 67 none)) jr:=by
 have jA:J h (h.push ob) none_:=J.push _ _ _
 have A3:=eQ.n
 rw [eI] at A3
 have en:J bY (bY.set h.n (.cells (zt x) 67 none)) (·=h.n):=J.set _ _ _
 have aR:jr h.n=(0,0):=(he _ (by rw [eI];omega)).trans (aJ _ (Nat.le_refl _))
 exact ⟨k.al en (fun q _ e=>by subst e;rw [aR];exact fun e=>h0 e.symm) fun _ _=>rfl,aP,by show h.n<bY.n;omega,Nat.le_refl _,aR,((jA.up.trans eQ fun q _ e=>e).trans en fun q ad e=>by omega),fun q ad=>he q (by rw [eI];omega),fun q ad=>f q ad⟩
end
theorem Own.apart {h:I} {e aW:TypeId} {sz q:Nat} {v:V} {cs c:List V} {x:Option Nat} (o:Own h e sz v cs) (g:h.get q=.cells c aW x) (bO:e≠aW):¬bl v q:=fun ab=>by
 rcases o with ⟨rfl | rfl,_⟩ | ⟨i,len,cap,j6,ex,rfl,hi,av,_⟩
 ·cases ab
 ·cases ab
 ·obtain rfl:i=q:=Option.some.inj ab
  rw [av] at g
  injection g with g1 g2
  exact bO g2
def wV:Nat→Option (List V):=fun k=>if k=1 then some fx else if k=2 then some oa else none
theorem aiv:pY (Kw wV):=⟨rfl,rfl⟩
def og:List (List Int):=[[0,0,0,0],[0,0,0,7],[1,1,0,0],[1,1,0,0],[1,1,0,0],[1,1,0,0],[1,2,0,0],[1,2,1,1048576],[1,2,1,1048576],[2,2,0,0],[1,0,0,7]]
def wW:List Int:=og.flatten
def JC {H:Type} (r:List Int):DataW H:=.agg (r.map fun z=>.lit (.int .i64 z))
def abK {H:Type}:DataW H:=.agg (og.map JC)
theorem abL {α:Type}:∀ (n:Nat) (cs:List α) (f:Nat→List α),cs.length=n * 4→(∀ i,i<n→(cs.drop (i * 4)).take 4=f i)→cs=((List.range n).map f).flatten
 | 0,cs,f,az,h=>by
  have:cs=[]:=List.eq_nil_of_length_eq_zero (by simpa using az)
  subst this
  rfl
 | n+1,cs,f,az,h=>by
  have h0:=h 0 (by omega)
  simp only [Nat.zero_mul,List.drop_zero] at h0
  have ih:=abL n (cs.drop 4) (fun i=>f (i+1)) (by rw [List.length_drop];omega) fun i hi=>by
   have:=h (i+1) (by omega)
   rw [List.drop_drop,show 4+i * 4=(i+1) * 4 by omega]
   exact this
  rw [List.range_succ_eq_map,List.map_cons,List.flatten_cons,List.map_map]
  show cs=f 0++((List.range n).map fun i=>f (i+1)).flatten
  rw [←ih,←h0,List.take_append_drop]
def SX (P:Program) (t:TypeId):Bool:=match P.underlying t with
 | some (.struct cr)=>cr.size==4&&(List.range 4).all fun i=>match cr[i]? with
  | some f=>(match P.underlying f.type with | some (.int .i64)=>true | _=>false)&&(f.offset==i&&P.cellsOf f.type==1)
  | none=>false
 | _=>false
theorem apn {P:Program} {t:TypeId} (h:SX P t=true):∃ cr,P.underlying t=some (.struct cr)∧cr.size=4∧∀ (i:Nat) (f:Field),cr[i]?=some f→P.underlying f.type=some (.int .i64)∧f.offset=i∧P.cellsOf f.type=1:=by
 unfold SX at h
 split at h
 ·rename_i cr hu
  simp only [Bool.and_eq_true,beq_iff_eq,List.all_eq_true,List.mem_range] at h
  refine ⟨cr,hu,h.1,fun i f aq=>?_⟩
  have hi:i<4:=by
   have:=(Array.getElem?_eq_some_iff.1 aq).1
   omega
  have:=h.2 i hi
  rw [aq] at this
  simp only [Bool.and_eq_true,beq_iff_eq] at this
  obtain ⟨a,b,c⟩:=this
  refine ⟨?_,b,c⟩
  split at a
  ·assumption
  ·cases a
 ·cases h
theorem apo {P:Program} {w:World} {base:Nat} {sp:Nat→Bool} {held:Bool} {fuel:Nat} {t e:TypeId} {cs:List Value} {p:List MemPlace}
  (bq:P.underlying t=some (.array 11 e)) (a1:SX P e=true) (yL:P.cellsOf e=4) (It:P.cellsOf t=44)
  (h:DataW.trod (fun _=>()) P w base sp held fuel t cs=some ((abK:DataW Unit),p)):cs=wW.map fun z=>Value.int .i64 z:=by
 obtain ⟨cr,hu,U,aq⟩:=apn a1
 have az:cs.length=44:=by
  cases fuel with
  | zero=>simp [DataW.trod] at h
  | succ fuel=>
   simp only [DataW.trod,bq] at h
   split at h
   ·rename_i az
    rw [It] at az
    exact az
   ·cases h
 have mg:∀ i,i<11→(cs.drop (i * 4)).take 4=(og.getD i []).map fun z=>Value.int .i64 z:=by
  intro i hi
  obtain ⟨abP,d,q,a7,N8⟩:=Lib.array_elem bq h i hi
  rw [yL] at N8
  have vq:d=JC (og.getD i []):=by
   rw [List.getElem?_map] at a7
   have:og[i]?=some (og.getD i []):=by
    rw [List.getD,List.getElem?_eq_getElem (show i<og.length from hi)]
    rfl
   rw [this] at a7
   simpa using a7.symm
  subst vq
  exact Lib.ints_of_struct hu aq (by rw [yL,U]) N8
 have:=abL 11 cs _ (by omega) mg
 rw [this]
 rfl
theorem aiy {W : World} (h : laidMet Tryz.prog [("tidemill/expr.kids", Lib.tabData .i64 dq), ("tidemill/topo.needs", abK)] W) : GF wV W := by
 have t1 : Lib.TabIs Tryz.prog W "tidemill/expr.kids" .i64 dq := Lib.tabIs_of_head (k := .i64) (zs := dq) (g := 1) (t := 283) (e := 3) (n := 17) (by kernel_rfl) (by kernel_rfl) (by kernel_rfl) (by kernel_rfl) (by kernel_rfl) (by kernel_rfl) h
 have t2 : Lib.TabIs Tryz.prog W "tidemill/topo.needs" .i64 wW := by
  obtain ⟨ps,⟨aeb,im,cs,fuel,p,q,wS,iO,SY,a7,_,_⟩,_⟩:=laidMet.tail h
  have av : Tryz.prog.globalNamed "tidemill/topo.needs" = some 2 := by kernel_rfl
  have abM:(Tryz.prog.globals[2]?).map (·.type)=some 339:=by kernel_rfl
  obtain rfl:=Option.some.inj (av.symm.trans wS)
  obtain rfl:=Option.some.inj (abM.symm.trans iO)
  unfold Lib.TabIs
  rw [SY,←apo (e:=338) (by kernel_rfl) (by kernel_rfl) (by kernel_rfl) (by kernel_rfl) a7]
 intro k cs hk
 unfold wV at hk
 split at hk
 ·rename_i e
  subst e
  obtain rfl:=Option.some.inj hk
  exact Uh (by kernel_rfl) t1
 ·split at hk
  ·rename_i _ e
   subst e
   obtain rfl:=Option.some.inj hk
   exact Uh (by kernel_rfl) t2
  ·cases hk
theorem M2 {l:List V} (h:gr.fw EX (.cat (.int .i64) (.cat (.bc (.int .i64)) (.cat (.ext 3) (.cat (.int .i64) .unit)))) l):∃ v:bC,vr v∧l=ar v:=by
 obtain ⟨ey,_,rfl,⟨kind,rfl,uM⟩,dm,_,rfl,⟨es,rfl,aG,mE⟩,vE,_,rfl,⟨⟨e,a1,rfl⟩,_⟩,aqt,_,rfl,⟨n,rfl,wn⟩,rfl⟩:=h
 obtain ⟨a8,rfl,hw⟩:=Ab.TZ (k:=.i64) mE
 refine ⟨⟨kind,a8,e,n⟩,⟨a1,by simpa using aG,Ab.wf_i64 uM,Ab.wf_i64 wn,fun f aq=>Ab.wf_i64 (hw f aq)⟩,?_⟩
 simp only [ar,agc,List.length_map,List.append_nil,List.nil_append,List.cons_append]
 rfl
theorem aqu {l:List V} (h:gr.fw EX (.cat (.bc (.cat (.int .i64) (.cat (.bc (.int .i64)) (.cat (.ext 3) (.cat (.int .i64) .unit))))) (.cat (.int .i64) .unit)) l):∃ (t:List bC) (p:Int),l4 t∧hx p∧l=dO t p:=by
 obtain ⟨ey,_,rfl,⟨es,rfl,aG,mE⟩,dm,_,rfl,⟨p,rfl,wp⟩,rfl⟩:=h
 have:∃ vs:List bC,(∀ v ∈ vs,vr v)∧es.length=vs.length∧es.flatten=vs.flatMap ar:=by
  clear aG
  induction es with
  | nil=>exact ⟨[],by simp,rfl,rfl⟩
  | cons a r ih=>
   obtain ⟨vs,h1,aa,aC⟩:=ih fun e he=>mE e (by simp [he])
   obtain ⟨v,aD,rfl⟩:=M2 (mE a (by simp))
   refine ⟨v::vs,fun x ag=>?_,by simp [aa],by simp [aC]⟩
   rcases List.mem_cons.1 ag with rfl | ag
   ·exact aD
   ·exact h1 x ag
 obtain ⟨vs,h1,aa,aC⟩:=this
 exact ⟨vs,p,⟨by omega,h1⟩,Ab.wf_i64 wp,by rw [aa,aC];rfl⟩
theorem aqv {e:List V} (h:iR.gT (.cat (.int .i64) (.cat (.cat (.int .i64) (.cat (.int .i64) (.cat (.int .i64) .unit))) (.cat .bool (.cat (.cat (.int .i64) (.cat (.int .i64) (.cat (.int .i64) (.cat (.int .i64) (.cat .bool .unit))))) .unit)))) e):∃ d:abo,e=abp d:=by
 obtain ⟨_,_,rfl,⟨a,rfl,_⟩,_,_,rfl,⟨_,_,rfl,⟨cg,rfl,_⟩,_,_,rfl,⟨cZ,rfl,_⟩,_,_,rfl,⟨gl,rfl,_⟩,rfl⟩,_,_,rfl,⟨x,rfl⟩,_,_,rfl,⟨_,_,rfl,⟨d,rfl,_⟩,_,_,rfl,⟨e,rfl,_⟩,_,_,rfl,⟨f,rfl,_⟩,_,_,rfl,⟨g,rfl,_⟩,_,_,rfl,⟨y,rfl⟩,rfl⟩,rfl⟩:=h
 exact ⟨⟨a,⟨cg,cZ,gl⟩,x,⟨d,e,f,g,y⟩⟩,rfl⟩
end Go.Proofs.YtedkjhifbibpmaaGreatDoor.Pk
