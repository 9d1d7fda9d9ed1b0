/-
  What functions of the program do, told of abstract states. Conditions: as each theorem says.
-/
import Derived.Test.YtedkjhifbibpmaaGreatDoorNb
import Derived.Test.YtedkjhifbibpmaaGreatDoorNa
import Derived.Test.YtedkjhifbibpmaaGreatDoorAcD
set_option linter.unusedVariables false
set_option linter.unusedSimpArgs false
set_option maxHeartbeats 2000000
set_option maxRecDepth 20000
namespace Go.Proofs.YtedkjhifbibpmaaGreatDoor.Pk
open Go Go.Proofs Go.Proofs.YtedkjhifbibpmaaGreatDoor.Ab
def xf (l:List dd) (k:Int):aj:=if has l k then ⟨k,0,0,0,true⟩ else Lm
def sT (l:List dd) (k:Int):Int:=if has l k then 0 else 6
theorem alb (h:I) (i:Nat) (v:V) (room key:Int) (l:List dd) (k:eo h i v room l) :
  ae Tryz.prog 298 [.ptr i 0,.int .i64 key] h (fun r h'=>∃ v',r=.tuple [.agg (aL (xf l key)),.int .i64 (sT l key)]∧eo h' i v' room (rm l key)∧J h h' (sk i v)∧bV h v v'):=by
 refine ae.ax (c:=_) Tryz.func298 rfl (by kernel_rfl) (by simp) ?_
 obtain ⟨H,hH⟩:∃ y,y=h.push (.cells [.int .i64 0,.int .i64 0,.int .i64 0,.int .i64 0,.bool false] 40 none):=⟨_,rfl⟩
 have g0:H.get h.n=.cells [.int .i64 0,.int .i64 0,.int .i64 0,.int .i64 0,.bool false] 40 none:=by rw [hH];exact cA
 have bA:J h H none_:=by rw [hH];exact J.push _ _ _
 have j9:H.n=h.n+1:=by rw [hH];rfl
 have kk:=k.ba bA
 have av:=kk.get
 have ch:=k.lt
 simp only [af,Nat.reduceEqDiff,reduceCtorEq,ml]
 rw [←hH]
 clear hH
 refine bU Qa (QS H i v room key l kk) ?_
 rcases gZ k.hT key with ⟨aw,p,aW,cJ,km⟩ | ⟨aw,aW,cJ⟩
 rotate_left
 ·have bh:xf l key=Lm:=by simp [xf,aw]
  have bD:sT l key=6:=by simp [sT,aw]
  rw [bh,bD,ak5 k.hT key aw]
  simp only [af,Nat.reduceEqDiff,Nat.reduceAdd,mH,w1,ml,ow,aw,g0,aU,Tryz.results298,hh,gU,fp,hg]
  have r5:J H (H.set h.n (.cells [.int .i64 0,.int .i64 0,.int .i64 0,.int .i64 0,.bool false] 40 none)) (fun q=>q=h.n):=J.set _ _ _
  refine aF ⟨v,rfl,kk.al r5 (by omega) fun q ad=>by have:=k.own.lt q ad;omega,?_,.inl rfl⟩
  exact (bA.up (o:=sk i v)).trans r5 fun q ad ab=>by omega
 have bh:xf l key=⟨key,0,0,0,true⟩:=by simp [xf,aw]
 have bD:sT l key=0:=by simp [sT,aw]
 rw [bh,bD]
 have aN:=(List.getElem?_eq_some_iff.1 aW).1
 have hw:=oq aN (by have:=k.vS;omega)
 simp only [af,Nat.reduceEqDiff,Nat.reduceAdd,Nat.reduceLeDiff,reduceCtorEq,uG,w0,aw,av,hw]
 have CS:=CQ l key
 refine cy ajn (ak2 v (pos l key) (l.flatMap gi) H kk.own (by rw [k.rows];have:=k.vS;omega) (by rw [k.rows];omega) (Gy QR l)) fun r aC ⟨h4,k3,d3⟩=>?_
 have mg:(l.flatMap gi).take (pos l key * 2)++(l.flatMap gi).drop ((pos l key+1) * 2)=(rm l key).flatMap gi:=by
  rw [zl xe,vF xe,QQ k.hT key aw];simp
 rw [mg] at h4
 have sl:=(k3.get i (by omega) (fun ab=>k.ne ab)).trans av
 have H5:=(k3.get h.n (by omega) (fun ab=>by have:=k.own.lt _ ab;omega)).trans g0
 have iD:r.one=true:=by
  rcases h4 with ⟨rfl | rfl,_⟩ | ⟨_,_,_,_,_,rfl,_⟩<;>rfl
 have gx:r.cells=some [r]:=by
  rcases h4 with ⟨rfl | rfl,_⟩ | ⟨_,_,_,_,_,rfl,_⟩<;>rfl
 have db:bR (some 1) (bb.cells [V.int .i64 room,v] 269 none) 1 [r]=some (.cells [.int .i64 room,r] 269 none):=by rw [tf iD];rfl
 have n3:=k3.n
 have z0:(aC.set i (.cells [V.int .i64 room,r] 269 none)).get h.n=_:=(kL (by omega)).trans H5
 simp only [af,Nat.reduceEqDiff,Nat.reduceAdd,Nat.reduceLeDiff,uG,mH,w1,ml,WG,ow,sl,gx,db,z0,aU,Tryz.results298,hh,gU,fp,hg]
 have iM:aV r≠some i:=fun ab=>by
  rcases d3 with d3 | d3
  ·rw [d3] at ab;exact k.ne ab
  ·have:=d3 i ab;omega
 have lg:∀ q,aV r=some q→q≠h.n:=fun q ad ab=>by
  rcases d3 with d3 | d3
  ·rw [d3] at ad;have:=k.own.lt q ad;omega
  ·have:=d3 q ad;omega
 have cz:J aC (aC.set i (.cells [V.int .i64 room,r] 269 none)) (fun q=>q=i):=J.set _ _ _
 have r5:J (aC.set i (.cells [V.int .i64 room,r] 269 none)) ((aC.set i (.cells [V.int .i64 room,r] 269 none)).set h.n (.cells [.int .i64 key,.int .i64 0,.int .i64 0,.int .i64 0,.bool true] 40 none)) (fun q=>q=h.n):=J.set _ _ _
 refine aF ⟨r,rfl,⟨by rw [jt,jt];omega,?_,(h4.al cz fun q ad ab=>iM (by rw [ad,ab])).al r5 fun q ad=>lg q ad,iM,H3 k.hT _,?_,k.room⟩,?_,?_⟩
 ·rw [kL (by omega),aP]
 ·have:=ak4 k.hT key aw;have:=k.len;omega
 ·exact (((bA.up (o:=sk i v)).trans k3 fun q ad ab=>.inr ab).trans cz fun q ad ab=>.inl ab).trans r5 fun q ad ab=>by omega
 ·rcases d3 with d3 | d3
  ·exact .inl d3
  ·exact .inr fun q ad=>by have:=d3 q ad;omega
theorem XM (h:I) (i:Nat) (v:V) (room key:Int) (l:List dd) (k:eo h i v room l) :
  Pure Tryz.prog 116 [.ptr i 0,.int .i64 key] h (.tuple [.int .i64 ((look l key).getD 0),.bool (has l key)]):=by
 refine ae.ax (c:=_) Tryz.func116 rfl (by kernel_rfl) (by simp) ?_
 have av:=k.get
 simp only [af,Nat.reduceEqDiff,reduceCtorEq]
 refine bU Qa (QS h i v room key l k) ?_
 rcases gZ k.hT key with ⟨aw,p,aW,cJ,km⟩ | ⟨aw,aW,cJ⟩
 ·obtain ⟨j,k9,cg,ck,_,_,_,dW,_⟩:=k.row aW
  have ck:=ck .i64
  simp only [af,Nat.reduceEqDiff,Nat.reduceAdd,Nat.reduceLeDiff,reduceCtorEq,uG,Wr,bx,w0,aw,av,ck,dW,aU,Tryz.results116,dn]
  exact aF ⟨by rw [km,aw];rfl,rfl⟩
 ·simp only [af,Nat.reduceEqDiff,aw,aU,Tryz.results116,dn]
  exact aF ⟨by rw [aW,aw];rfl,rfl⟩
theorem alc (h:I) (c:aj):kI Tryz.prog 35 1 [(0,.agg (aL c))] h=some (.bc h.n 0 1 1,h.push (.cells (aL c) 40 none)):=J9 CA rfl rfl (by decide)
def lB (c:aj):Bool:=c.aJ !=0||c.to !=0||(c.del&&c.val !=0)
def sm (room:Int) (l:List dd) (c:aj):List dd:=if lB c then l else if c.del then rm l c.key else jR room l c.key c.val
def xg (room:Int) (l:List dd) (c:aj):Int:=if lB c then 5 else if c.del then sT l c.key else mq room l c.key
theorem bV.later {h H:I} {v v':V} (d:bV H v v') (aG:h.n≤H.n):bV h v v':=by
 rcases d with d | d
 ·exact .inl d
 ·exact .inr fun q ad=>Nat.le_trans aG (d q ad)
theorem QU (h:I) (i:Nat) (v:V) (room:Int) (c:aj) (l:List dd) (k:eo h i v room l) :
  ae Tryz.prog 295 [.ptr i 0,.agg (aL c)] h (fun r h'=>∃ v',r=.int .i64 (xg room l c)∧eo h' i v' room (sm room l c)∧J h h' (sk i v)∧bV h v v'):=by
 refine ae.ax (c:=_) Tryz.func295 rfl (by kernel_rfl) (by simp) ?_
 obtain ⟨ho,cf,kt,jz,p2⟩:=c
 have fM:(V.agg (aL ⟨ho,cf,kt,jz,p2⟩)).cells=some [.int .i64 ho,.int .i64 cf,.int .i64 kt,.int .i64 jz,.bool p2]:=rfl
 have bA:J h (h.push (.cells [.int .i64 ho,.int .i64 cf,.int .i64 kt,.int .i64 jz,.bool p2] 40 none)) none_:=J.push _ _ _
 have kk:=k.ba bA
 have aG:h.n≤(h.push (.cells [.int .i64 ho,.int .i64 cf,.int .i64 kt,.int .i64 jz,.bool p2] 40 none)).n:=bA.n
 have CT:lB ⟨ho,cf,kt,jz,p2⟩=true→∃ v',(V.int .i64 5)=.int .i64 (xg room l ⟨ho,cf,kt,jz,p2⟩)∧eo (h.push (.cells [.int .i64 ho,.int .i64 cf,.int .i64 kt,.int .i64 jz,.bool p2] 40 none)) i v' room (sm room l ⟨ho,cf,kt,jz,p2⟩)∧J h (h.push (.cells [.int .i64 ho,.int .i64 cf,.int .i64 kt,.int .i64 jz,.bool p2] 40 none)) (sk i v)∧bV h v v':=fun ak=>
  ⟨v,by rw [xg,ak];rfl,by rw [sm,ak];exact kk,bA.up,.inl rfl⟩
 cases aq:(cf !=0)
 rotate_left
 ·simp only [af,Nat.reduceEqDiff,Nat.reduceAdd,Nat.reduceLeDiff,ou,bx,fM,aq,aU,Tryz.results295,ac]
  exact aF (CT (by simp [lB,aq]))
 cases bq:(kt !=0)
 rotate_left
 ·simp only [af,Nat.reduceEqDiff,Nat.reduceAdd,Nat.reduceLeDiff,ou,tG,bx,fM,aq,bq,aU,Tryz.results295,ac]
  exact aF (CT (by simp [lB,aq,bq]))
 cases p2
 ·have ak:lB ⟨ho,cf,kt,jz,false⟩=false:=by simp [lB,aq,bq]
  simp only [af,Nat.reduceEqDiff,Nat.reduceAdd,Nat.reduceLeDiff,reduceCtorEq,E4,ou,tG,AR,xX,bx,o5,fM,aq,bq]
  refine cy VW (XL _ i v room ho jz l kk) fun r aa ⟨v',aW,k2,b8,d2⟩=>?_
  subst aW
  simp only [af,Nat.reduceEqDiff,aU,Tryz.results295,ac]
  refine aF ⟨v',by rw [xg,ak];rfl,by rw [sm,ak];exact k2,(bA.up).trans' b8,bV.later d2 aG⟩
 cases aD:(jz !=0)
 rotate_left
 ·simp only [af,Nat.reduceEqDiff,Nat.reduceAdd,Nat.reduceLeDiff,ou,tG,AR,xX,bx,o5,fM,aq,bq,aD,aU,Tryz.results295,ac]
  exact aF (CT (by simp [lB,aq,bq,aD]))
 have ak:lB ⟨ho,cf,kt,jz,true⟩=false:=by simp [lB,aq,bq,aD]
 simp only [af,Nat.reduceEqDiff,Nat.reduceAdd,Nat.reduceLeDiff,reduceCtorEq,E4,ou,tG,AR,xX,bx,o5,fM,aq,bq,aD]
 refine cy ajm (alb _ i v room ho l kk) fun r aa ⟨v',aW,k2,b8,d2⟩=>?_
 subst aW
 simp only [af,Nat.reduceEqDiff,aU,Tryz.results295,ac]
 refine aF ⟨v',by rw [xg,ak];rfl,by rw [sm,ak];exact k2,(bA.up).trans' b8,bV.later d2 aG⟩
theorem ald (h:I) (room:Int) (h1:1≤room) (aa:room≤1024):ae Tryz.prog 106 [.int .i64 room] h (fun r h'=>r=.tuple [.ptr h.n 0,.int .i64 0]∧eo h' h.n .an room []∧J h h' none_):=by
 refine ae.ax (c:=_) Tryz.func106 rfl (by kernel_rfl) (by simp) ?_
 have d1:decide (room<1)=false:=decide_eq_false (by omega)
 have d2:decide (1024<room)=false:=decide_eq_false (by omega)
 simp only [af,Nat.reduceEqDiff,Nat.reduceAdd,Nat.reduceLeDiff,reduceCtorEq,ajV,aj9,d1,d2,aU,Tryz.results106,dn]
 exact aF ⟨rfl,⟨by rw [eI];omega,cA,.inl ⟨.inl rfl,rfl⟩,by simp [aV],List.Pairwise.nil,by simp;omega,aa⟩,J.push _ _ _⟩
structure Rec where
 k:Int
 v:Int
 t:Int
 deriving DecidableEq
def aI (r:Rec):List V:=[.int .i64 r.k,.int .i64 r.v,.int .i64 r.t]
theorem AJ (r:Rec):(aI r).length=3:=rfl
theorem XN (r:Rec):bo (aI r):=bo.cons (bj.int _ _) (bo.cons (bj.int _ _) (bo.cons (bj.int _ _) bo.nil))
structure bC where
 kind:Int
 a8:List Int
 e:bG
 n:Int
def ar (v:bC):List V:=[.int .i64 v.kind,.ai v.a8.length (aY v.a8)]++ay v.e++[.int .i64 v.n]
theorem iA (v:bC):(ar v).length=6:=by simp [ar,ot]
theorem ale (v:bC):bo (ar v) :=
 ((bo.cons (bj.int _ _) (bo.cons (bj.ai (Gn _)) bo.nil)).append (Qq v.e)).append (bo.cons (bj.int _ _) bo.nil)
structure uN (h:I) (a:Nat) (i:Nat) (v:V) (e:bG) (n:Int) (l:List dd):Prop where
 lt:a<h.n
 get:h.get a=.cells (ay e++[.int .i64 n,.iface 194 (.ptr i 0)]) 124 none
 kv:eo h i v 1024 l
 ne:a≠i
 XO:aV v≠some a
theorem alf (x:bC) (ag:x.kind=6) (h:I):ae Tryz.prog 54 [.agg (ar x)] h (fun r h'=>∃ i,r=.tuple [.iface 194 (.ptr i 0),.int .i64 0]∧h.n≤i∧eo h' i .an 1024 []∧J h h' none_):=by
 refine ae.ax (c:=_) Tryz.func54 rfl (by kernel_rfl) (by simp) ?_
 obtain ⟨dx,aJ,⟨o,m,aE⟩,n⟩:=x
 have ag:dx=6:=ag
 subst ag
 have ag:ar ⟨6,aJ,.mk o m aE,n⟩=[.int .i64 6,.ai aJ.length (aY aJ),.int .i64 o,.int .i64 m,.ai aE.length (aE.flatMap ay),.int .i64 n]:=by simp [ar,jv]
 rw [ag]
 have hk:J h (h.push (.cells [.int .i64 6,.ai aJ.length (aY aJ),.int .i64 o,.int .i64 m,.ai aE.length (aE.flatMap ay),.int .i64 n] 29 none)) none_:=J.push _ _ _
 simp only [af,Nat.reduceEqDiff,Nat.reduceAdd,hl,bn]
 refine cy aiG (ald _ 1024 (by decide) (by decide)) fun r h1 ⟨aw,bB,hZ⟩=>?_
 subst aw
 simp only [af,Nat.reduceEqDiff,LE,aU,Tryz.results54,dn]
 exact aF ⟨_,rfl,by omega,bB,hk.trans' hZ⟩
mutual
theorem QV:(e:bG)→∀ b ∈ cP e,b<256
 | .mk o n l=>fun b ak=>by
  rw [cP] at ak
  simp only [List.mem_append] at ak
  rcases ak with (ak | ak) | ak
  ·exact x1 _ _ (Nat.le_refl _) b ak
  ·split at ak
   ·exact x1 _ _ (Nat.le_refl _) b ak
   ·cases ak
  ·exact XP l b ak
theorem XP:(l:List bG)→∀ b ∈ AY l,b<256
 | []=>fun b ak=>by rw [AY] at ak;cases ak
 | k::r=>fun b ak=>by
  rw [AY] at ak
  rcases List.mem_append.1 ak with ak | ak
  ·exact QV k b ak
  ·exact XP r b ak
end
theorem CU (i:Nat):hX Tryz.prog (.iface 194 (.ptr i 0)) 194 true=some (.tuple [.ptr i 0,.bool true]):=by
 unfold hX;rw [Tryz.underlying194];rfl
theorem XQ (t:Int) (h:I):Pure Tryz.prog 58 [.int .i64 t] h (.bool (decide (0≤t∧t≤1099511627776))):=by
 refine ae.ax (c:=_) Tryz.func58 rfl (by kernel_rfl) (by simp) ?_
 by_cases h1:0≤t
 ·have d1:decide (0≤t)=true:=decide_eq_true h1
  by_cases aa:t≤1099511627776
  ·have d2:decide (t≤1099511627776)=true:=decide_eq_true aa
   simp only [af,Nat.reduceEqDiff,reduceCtorEq,d1,d2,aU,Tryz.results58,ac]
   exact aF ⟨by rw [decide_eq_true (⟨h1,aa⟩:0≤t∧t≤1099511627776)],rfl⟩
  ·have d2:decide (t≤1099511627776)=false:=decide_eq_false aa
   simp only [af,Nat.reduceEqDiff,reduceCtorEq,d1,d2,aU,Tryz.results58,ac]
   exact aF ⟨by rw [decide_eq_false (fun q:0≤t∧t≤1099511627776=>aa q.2)],rfl⟩
 ·have d1:decide (0≤t)=false:=decide_eq_false h1
  simp only [af,Nat.reduceEqDiff,reduceCtorEq,d1,aU,Tryz.results58,ac]
  exact aF ⟨by rw [decide_eq_false (fun q:0≤t∧t≤1099511627776=>h1 q.1)],rfl⟩
theorem alg {h:I} {i:Nat} {v:V} {room:Int} {l:List dd} (k:eo h i v room l) (r:Rec):Pure Tryz.prog 60 [.iface 194 (.ptr i 0),.agg (aI r)] h (.int .i64 ((look l r.k).getD 0)):=by
 refine Pure.val (bj.int _ _) ?_
 obtain ⟨b6,cT,rt⟩:=r
 refine ae.ax (c:=_) Tryz.func60 rfl (by kernel_rfl) (by simp) ?_
 unfold aI
 have kk:J h (h.push (.cells [.int .i64 b6,.int .i64 cT,.int .i64 rt] 38 none)) none_:=J.push _ _ _
 simp only [af,Nat.reduceEqDiff,Nat.reduceAdd,reduceCtorEq,vK,bx,CU]
 refine bU VV (XM _ i v room b6 l (k.ba kk)) ?_
 simp only [af,Nat.reduceEqDiff,aU,Tryz.results60,ac]
 exact aF ⟨rfl,kk⟩
theorem alh {h:I} {i:Nat} {v:V} {room:Int} {l:List dd} (k:eo h i v room l) (key:Int):Pure Tryz.prog 103 [.iface 194 (.ptr i 0),.int .i64 key] h (.int .i64 ((look l key).getD 0)):=by
 refine ae.ax (c:=_) Tryz.func103 rfl (by kernel_rfl) (by simp) ?_
 simp only [af,Nat.reduceEqDiff,reduceCtorEq,CU]
 refine bU VV (XM _ i v room key l k) ?_
 simp only [af,Nat.reduceEqDiff,aU,Tryz.results103,ac]
 exact aF ⟨rfl,rfl⟩
theorem H6 (h:I) (c:aj):kI Tryz.prog 35 1 [(0,.agg (aL c))] h=some (.bc h.n 0 1 1,h.push (.cells (aL c) 40 none)):=by rw [qA CA];rfl
theorem ali {h:I} {i:Nat} {v:V} {room:Int} {l:List dd} (k:eo h i v room l) (r:Rec) (n:Int) :
  ae Tryz.prog 61 [.iface 194 (.ptr i 0),.agg (aI r),.int .i64 n] h (fun q h'=>∃ v' j,q=.tuple [.bc j 0 1 1,.int .i64 r.t,.int .i64 (mq room l r.k)]∧eo h' i v' room (jR room l r.k n)∧J h h' (sk i v)∧bV h v v' ∧
   Own h' 40 5 (.bc j 0 1 1) (aL (je room l r.k n))∧h.n≤j∧j≠i∧aV v'≠some j):=by
 obtain ⟨b6,cT,rt⟩:=r
 refine ae.ax (c:=_) Tryz.func61 rfl (by kernel_rfl) (by simp) ?_
 unfold aI
 obtain ⟨H,hH⟩:∃ y,y=h.push (.cells [.int .i64 b6,.int .i64 cT,.int .i64 rt] 38 none):=⟨_,rfl⟩
 have eJ:J h H none_:=by rw [hH];exact J.push _ _ _
 have g0:H.get h.n=.cells [.int .i64 b6,.int .i64 cT,.int .i64 rt] 38 none:=by rw [hH];exact cA
 have qD:H.n=h.n+1:=by rw [hH];rfl
 simp only [af,Nat.reduceEqDiff,Nat.reduceAdd,reduceCtorEq,vK,bx,CU]
 rw [←hH]
 clear hH
 refine cy VW (XL H i v room b6 n l (k.ba eJ)) fun q h1 ⟨v1,aw,bB,hZ,d1⟩=>?_
 subst aw
 have aN:=k.lt
 have g1:=(hZ.get h.n (by omega) (by
  rintro (ab | ab)
  ·omega
  ·have:=k.own.lt _ ab;omega)).trans g0
 have cc:∀ c:aj,(V.agg (aL c)).cells=some (aL c):=fun _=>rfl
 have st:∀ c:aj,bR (some 5) (bb.cells [V.int .i64 0,V.int .i64 0,V.int .i64 0,V.int .i64 0,V.bool false] 40 none) 0 (aL c)=some (.cells (aL c) 40 none):=fun _=>rfl
 obtain ⟨bP,bE⟩:∃ y,y=h1.push (.cells (aL (je room l b6 n)) 40 none):=⟨_,rfl⟩
 have k2:J h1 bP none_:=by rw [bE];exact J.push _ _ _
 have g2:bP.get h1.n=.cells (aL (je room l b6 n)) 40 none:=by rw [bE];exact cA
 have g3:=(k2.get h.n (by have:=hZ.n;omega) (by simp [none_])).trans g1
 have ft:bP.n=h1.n+1:=by rw [bE];rfl
 simp only [af,Nat.reduceEqDiff,ml,ow,cc,st]
 rw [←bE]
 clear bE
 have ey:=H6 bP (je room l b6 n)
 have ld:dv (some (some 5)) (some (aL (je room l b6 n)))=some (.agg (aL (je room l b6 n))):=rfl
 have d0:dB (.cells (aL (je room l b6 n)) 40 none) 0=some (aL (je room l b6 n)):=rfl
 generalize nx:aL (je room l b6 n)=C at *
 refine aX.bk none_ [1] (.q 0 (.q 2 (.q 3 (.q 4 (.e 1 (.q 5 (.q 6 (.q 7 .done))) .stop))))) (by kernel_rfl) (by kernel_rfl) (by kernel_rfl) ?_
 simp only [af,bN,Nat.reduceEqDiff,Nat.reduceAdd,Nat.reduceLeDiff,rk,bx,mH,g2,g3,ey,ld,d0,aU,Tryz.results61,sE]
 have k3:J bP (bP.push (.cells C 40 none)) none_:=J.push _ _ _
 have DA:=hZ.n
 have H7:C.length=5:=by rw [←nx];rfl
 refine aF ⟨v1,bP.n,rfl,(bB.ba k2).ba k3,?_,bV.later d1 (by omega),Own.lq _ 1 H7 (by decide),by omega,by omega,fun ab=>?_⟩
 ·exact ((eJ.up).trans' hZ).trans' ((k2.trans' k3).up)
 ·have:=bB.own.lt _ ab;omega
def lC (t:Int):Bool:=decide (0≤t∧t≤1099511627776)
theorem uN.al {h h':I} {a i:Nat} {v:V} {e:bG} {n:Int} {l:List dd} {own:Nat→Prop} (s:uN h a i v e n l) (hk:J h h' own) (h0:¬own a) (h1:¬own i) (aa:∀ j,aV v=some j→¬own j):uN h' a i v e n l :=
 ⟨Nat.lt_of_lt_of_le s.lt hk.n,(hk.get a s.lt h0).trans s.get,s.kv.al hk h1 aa,s.ne,s.XO⟩
theorem uN.ba {h h':I} {a i:Nat} {v:V} {e:bG} {n:Int} {l:List dd} (s:uN h a i v e n l) (hk:J h h' none_):uN h' a i v e n l:=s.al hk (by simp [none_]) (by simp [none_]) (by simp [none_])
def p3 (c:Int):V:=.tuple [.agg [.int .i64 0,.int .i64 0,.int .i64 0],.an,.int .i64 c]
def jn (k n t:Int) (c:V):V:=.tuple [.agg [.int .i64 k,.int .i64 n,.int .i64 t],c,.int .i64 0]
structure xh (h:I) (a:Nat) (T:TypeId) (i:Nat) (e:bG) (n:Int):Prop where
 lt:a<h.n
 get:h.get a=.cells (ay e++[.int .i64 n,.iface T (.ptr i 0)]) 124 none
theorem xh.al {h h':I} {a i:Nat} {T:TypeId} {e:bG} {n:Int} {own:Nat→Prop} (s:xh h a T i e n) (hk:J h h' own) (h0:¬own a):xh h' a T i e n :=
 ⟨Nat.lt_of_lt_of_le s.lt hk.n,(hk.get a s.lt h0).trans s.get⟩
theorem H8 {h:I} {a i:Nat} {T:TypeId} {e:bG} {n:Int} (s:xh h a T i e n):Pure Tryz.prog 56 [.ptr a 0] h (.bool false):=by
 obtain ⟨o,m,aE⟩:=e
 have g:=s.get
 rw [jv] at g
 refine ae.ax (c:=_) Tryz.func56 rfl (by kernel_rfl) (by simp) ?_
 simp only [List.cons_append,List.nil_append] at g
 simp only [af,Nat.reduceEqDiff,Nat.reduceAdd,Nat.reduceLeDiff,reduceCtorEq,Cp,Ww,Cw,g]
 exact aF ⟨rfl,rfl⟩
theorem alj {h:I} {a i:Nat} {T:TypeId} {e:bG} {n:Int} (s:xh h a T i e n) (hm:cY e=true) (av:ga h) (r:Rec) (acc:Int) (M:Nat→Prop) (XR:¬M a) (H9:∀ q,h.n≤q→¬M q)
  (Q:I→I→Int→V→Int→Int→Prop)
  (DT:∀ h',J h h' none_→lC r.t=true→Pure Tryz.prog 60 [.iface T (.ptr i 0),.agg (aI r)] h' (.int .i64 acc))
  (oZ:∀ h' N,J h h' none_→lC r.t=true→cE r.k r.v r.t acc 16 e=some N→ae Tryz.prog 61 [.iface T (.ptr i 0),.agg (aI r),.int .i64 N] h' (fun q aa=>∃ c t mr,q=.tuple [c,.int .i64 t,.int .i64 mr]∧J h' aa M∧Q h' aa N c t mr)) :
  ae Tryz.prog 19 [.ptr a 0,.agg (aI r)] h (fun q ab=>∃ h1 aa,J h h1 none_∧h1.n=h.n+2∧J aa ab (fun q=>q=h.n+1) ∧
   if lC r.t=false then aa=h1∧q=p3 2 else match cE r.k r.v r.t acc 16 e with
   | none=>aa=h1∧q=p3 10
   | some N=>∃ c t mr,J h1 aa M∧Q h1 aa N c t mr∧q=if mr=0 then jn r.k N t c else p3 mr):=by
 obtain ⟨b6,cT,rt⟩:=r
 obtain ⟨o,m,aE⟩:=e
 have bF:ay (.mk o m aE)=[.int .i64 o,.int .i64 m,.ai aE.length (aE.flatMap ay)]:=jv _ _ _
 refine ae.ax (c:=_) Tryz.func19 rfl (by kernel_rfl) (by simp) ?_
 unfold aI at *
 obtain ⟨H,hH⟩:∃ y,y=(h.push (.cells [.int .i64 b6,.int .i64 cT,.int .i64 rt] 38 none)).push (.cells [.int .i64 0,.int .i64 0,.int .i64 0] 38 none):=⟨_,rfl⟩
 have eJ:J h H none_:=by rw [hH];exact (J.push _ _ _).bg _
 have g0:H.get h.n=.cells [.int .i64 b6,.int .i64 cT,.int .i64 rt] 38 none:=by rw [hH];exact wv
 have g1:H.get (h.n+1)=.cells [.int .i64 0,.int .i64 0,.int .i64 0] 38 none:=by rw [hH];exact d9
 have qD:H.n=h.n+2:=by rw [hH];rfl
 have sR:=s.al eJ (by simp [none_])
 have k6:=sR.get
 rw [bF] at k6
 simp only [List.cons_append,List.nil_append] at k6
 have halt:=s.lt
 have alk:∀ h',ga h'→Pure Tryz.prog 59 [.agg [.int .i64 o,.int .i64 m,.ai aE.length (aE.flatMap ay)],.agg [.int .i64 b6,.int .i64 cT,.int .i64 rt],.int .i64 acc] h' (n0 (cE b6 cT rt acc 16 (.mk o m aE))):=fun h' wS=>by
  have:=akW (.mk o m aE) b6 cT rt acc _ hm rfl h' wS
  rw [bF] at this
  exact this
 simp only at DT oZ
 simp only [af,Nat.reduceEqDiff,reduceCtorEq,vH]
 rw [←hH]
 clear hH
 refine bU Cm (H8 sR) ?_
 simp only [af,Nat.reduceEqDiff,Nat.reduceAdd,Nat.reduceLeDiff,rk,bx,g0]
 refine bU Wf (XQ rt H) ?_
 cases cN:lC rt with
 | false=>
  rw [show decide (0≤rt∧rt≤1099511627776)=false from cN]
  simp only [af,Nat.reduceEqDiff,Nat.reduceAdd,dQ,E8,vH,m9,g1,aU,Tryz.results19,Kl,gU,fp,Kk]
  exact aF ⟨H,H,eJ,qD,J.set _ _ _,by rw [if_pos rfl];exact ⟨rfl,rfl⟩⟩
 | true=>
  rw [show decide (0≤rt∧rt≤1099511627776)=true from cN]
  simp only [af,Nat.reduceEqDiff]
  refine aX.bk none_ [] (.q 0 (.q 1 (.q 2 (.q 3 (.q 4 (.q 5 (.q 6 (.q 7 (.q 8 (.q 9 (.c 10 (.c 11 (.q 12 (.q 13 (.q 14 (.q 15 (.q 16 .done))))))))))))))))) (by kernel_rfl) (by kernel_rfl) (by kernel_rfl) ?_
  simp only [af,bN,Nat.reduceEqDiff,Nat.reduceAdd,Nat.reduceLeDiff,reduceCtorEq,ajz,Cp,Cw,fh,dQ,k6,g0]
  refine ix rfl rfl rfl (fun h' hk=>DT h' (by rcases hk with hk | rfl;exact eJ.trans' hk;exact eJ) cN) ?_
  simp only [bN]
  refine ix rfl rfl rfl (fun h' hk=>alk h' ((av.al eJ).or (av.al eJ) hk)) ?_
  cases aD:cE b6 cT rt acc 16 (.mk o m aE) with
  | none=>
   simp only [af,bN,Int.reduceBNe,Nat.reduceEqDiff,Nat.reduceAdd,dQ,E8,vH,m9,n0,g1,aU,Tryz.results19,Kl,gU,fp,Kk]
   exact aF ⟨H,H,eJ,qD,J.set _ _ _,by rw [if_neg (by decide)];exact ⟨rfl,rfl⟩⟩
  | some N=>
   simp only [af,bN,Nat.reduceEqDiff,n0]
   refine aX.bk (fun x=>M x) [6] (.q 0 (.q 1 (.q 2 (.q 3 (.q 4 (.q 5 (.a 6 (.q 7 (.q 8 (.q 9 (.q 10 (.q 11 (.q 12 (.q 13 .done)))))))))))))) (by kernel_rfl) (by kernel_rfl) (by kernel_rfl) ?_
   have f1:M a=False:=eq_false XR
   have f2:M h.n=False:=eq_false (H9 _ (Nat.le_refl _))
   simp only [af,bN,h3,Nat.reduceEqDiff,Nat.reduceAdd,Nat.reduceLeDiff,reduceCtorEq,Cp,Cw,dQ,k6,g0,f1,f2]
   refine cy ajq (oZ H N eJ cN aD) fun q aa ⟨c,t,mr,aW,b8,cX⟩=>?_
   subst aW
   have alm:=b8.n
   have gc:=b8.get (h.n+1) (by omega) (H9 _ (by omega))
   have vC:=b8.get h.n (by omega) (H9 _ (by omega))
   rw [g0] at vC
   rw [g1] at gc
   simp only [af,bN,h3,Nat.reduceEqDiff]
   by_cases he:mr=0
   ·have ad:(mr !=0)=false:=by simp [he]
    simp only [af,h3,Nat.reduceEqDiff,Nat.reduceAdd,Nat.reduceLeDiff,vK,bx,dQ,E8,vH,m9,gc,vC,ad,aU,Tryz.results19,Kl,gU,fp,Kk]
    exact aF ⟨H,aa,eJ,qD,J.set _ _ _,by rw [if_neg (by decide)];exact ⟨c,t,mr,b8,cX,by rw [if_pos he];rfl⟩⟩
   ·have ad:(mr !=0)=true:=by simp [he]
    simp only [af,h3,Nat.reduceEqDiff,Nat.reduceAdd,dQ,E8,vH,m9,gc,ad,aU,Tryz.results19,Kl,gU,fp,Kk]
    exact aF ⟨H,aa,eJ,qD,J.set _ _ _,by rw [if_neg (by decide)];exact ⟨c,t,mr,b8,cX,by rw [if_neg he];rfl⟩⟩
theorem aln (x:bC) (hm:cY x.e=true) (a1:fP x.e) (h:I) (av:ga h) (T:TypeId) (CV:I→I→Nat→Prop)
  (hk:∀ H,J h H none_→ae Tryz.prog 54 [.agg (ar x)] H (fun r h'=>∃ i,r=.tuple [.iface T (.ptr i 0),.int .i64 0]∧J H h' none_∧CV H h' i)) :
  ae Tryz.prog 17 [.agg (ar x)] h (fun r h'=>∃ a i H h1,r=.tuple [.ptr a 0,.int .i64 0]∧J h H none_∧CV H h1 i∧J h1 h' none_∧J h h' none_∧h.n≤a∧h1.n≤a∧xh h' a T i x.e x.n):=by
 refine ae.ax (c:=_) Tryz.func17 rfl (by kernel_rfl) (by simp) ?_
 obtain ⟨dx,aJ,⟨o,m,aE⟩,n⟩:=x
 have fC:ar ⟨dx,aJ,.mk o m aE,n⟩=[.int .i64 dx,.ai aJ.length (aY aJ),.int .i64 o,.int .i64 m,.ai aE.length (aE.flatMap ay),.int .i64 n]:=by simp [ar,jv]
 have bF:ay (.mk o m aE)=[.int .i64 o,.int .i64 m,.ai aE.length (aE.flatMap ay)]:=jv _ _ _
 obtain ⟨H,hH⟩:∃ y,y=h.push (.cells [.int .i64 dx,.ai aJ.length (aY aJ),.int .i64 o,.int .i64 m,.ai aE.length (aE.flatMap ay),.int .i64 n] 29 none):=⟨_,rfl⟩
 have eJ:J h H none_:=by rw [hH];exact J.push _ _ _
 have g0:H.get h.n=.cells [.int .i64 dx,.ai aJ.length (aY aJ),.int .i64 o,.int .i64 m,.ai aE.length (aE.flatMap ay),.int .i64 n] 29 none:=by rw [hH];exact cA
 have qD:H.n=h.n+1:=by rw [hH];rfl
 have ec:Pure Tryz.prog 53 [.agg [.int .i64 o,.int .i64 m,.ai aE.length (aE.flatMap ay)]] H (rz (.mk o m aE)):=by rw [←bF];exact QK _ a1 H (av.al eJ)
 have hq:cY (.mk o m aE)=true:=hm
 rw [fC]
 simp only [af,Nat.reduceEqDiff,Nat.reduceAdd,Nat.reduceLeDiff,co,fh]
 rw [←hH]
 clear hH
 refine bU Qd ec ?_
 unfold rz jc
 rw [if_pos hq,if_pos hq]
 simp only [af,Nat.reduceEqDiff,Nat.reduceAdd,nS,g0]
 have b8:=hk H eJ
 rw [fC] at b8
 refine cy Wd b8 fun r h1 ⟨i,aw,bB,cX⟩=>?_
 subst aw
 have g1:=(bB.get h.n (by omega) (by simp [none_])).trans g0
 simp only [af,Nat.reduceEqDiff]
 have Bb:=M3 (.ai (cP (.mk o m aE)).length (e7 (cP (.mk o m aE)))) (cP (.mk o m aE)) h1 ((av.al eJ).al bB) (Rd.ai _ _) (QV _) (by have:=QG _ (.mk o m aE) rfl a1;have:=QJ hq;omega)
 have xd:rF (cP (.mk o m aE))=.tuple [.agg (ay (.mk o m aE)),.int .i64 0]:=by unfold rF nZ np;rw [Xz hq a1];rfl
 rw [xd,bF] at Bb
 refine bU We Bb ?_
 have gv:=bB.n
 obtain ⟨bP,bE⟩:∃ y,y=h1.push (.cells [.int .i64 o,.int .i64 m,.ai aE.length (aE.flatMap ay)] 27 none):=⟨_,rfl⟩
 have k2:J h1 bP none_:=by rw [bE];exact J.push _ _ _
 have g2:=(k2.get h.n (by omega) (by simp [none_])).trans g1
 have g3:bP.get h1.n=.cells [.int .i64 o,.int .i64 m,.ai aE.length (aE.flatMap ay)] 27 none:=by rw [bE];exact cA
 have ft:bP.n=h1.n+1:=by rw [bE];rfl
 simp only [af,Nat.reduceEqDiff,Nat.reduceAdd,xW,bx,fh,ov,mZ]
 rw [←bE]
 clear bE
 simp only [af,Nat.reduceEqDiff,Nat.reduceAdd,Nat.reduceLeDiff,ajQ,aj4,g2,aU,Tryz.results17,dn]
 have k3:J bP (bP.push (.cells [.int .i64 o,.int .i64 m,.ai aE.length (aE.flatMap ay),.int .i64 n,.iface T (.ptr i 0)] 124 none)) none_:=J.push _ _ _
 refine aF ⟨_,i,H,h1,rfl,eJ,cX,k2.trans' k3,(eJ.trans' bB).trans' (k2.trans' k3),by omega,by omega,⟨by rw [eI];omega,?_⟩⟩
 rw [bF]
 exact cA
def x8 (k f:Int):V:=.agg [.int .i64 k,.int .i64 f]
theorem alo:B3 Tryz.prog 286=some [0,0]:=by kernel_rfl
theorem alp (e:Bool) (a b:Int):vB Tryz.prog e 286 (x8 a b)=true:=by
 cases e<;>kernel_rfl
theorem zC:∃ d,e9 Tryz.prog 270=some (286,2,d)∧s9 d=false:=by
 have h:(e9 Tryz.prog 270).map (fun q=>(q.1,q.2.1,s9 q.2.2))=some (286,2,false):=by kernel_rfl
 cases hm:e9 Tryz.prog 270 with
 | none=>rw [hm] at h;cases h
 | some q=>
  rw [hm] at h
  obtain ⟨a,b,d⟩:=q
  simp only [Option.map_some,Option.some.injEq,Prod.mk.injEq] at h
  obtain ⟨rfl,rfl,h⟩:=h
  exact ⟨d,rfl,h⟩
theorem GE {d:TypeDesc} (a7:s9 d=false) (a b c e:Int):ta Tryz.prog 286 d (x8 a b) (x8 c e)=some (a==c&&b==e):=by
 have h:e2 [0,0] [.int .i64 a,.int .i64 b] [.int .i64 c,.int .i64 e]=some (a==c&&b==e):=by simp [e2]
 obtain ⟨dV,eC,ag,bd⟩:=EG h
 obtain ⟨h1,_⟩:=Ks alo h ag bd
 unfold ta x8
 simp only [mz,ag,bd,Option.map_some,a7,h1]
 rfl
theorem XS {time size:Int} (h0:0≤time) (h1:1≤size):0≤time.tmod size∧time.tmod size<size∧time.tmod size≤time:=by
 rw [Int.tmod_eq_emod_of_nonneg h0]
 exact ⟨Int.emod_nonneg _ (by omega),Int.emod_lt_of_pos _ (by omega),by
  have aa:=Int.emod_add_mul_ediv time size
  have aC:0≤size * (time / size):=Int.mul_nonneg (by omega) (Int.ediv_nonneg h0 (by omega))
  omega⟩
structure c7 (h:I) (i m:Nat) (room size:Int) (es:List (Nat×V×V)) (cl:Nat):Prop where
 get:h.get i=.cells [.int .i64 room,.int .i64 size,.map m] 272 none
 map:h.get m=.map es cl
 ne:i≠m
 lt:i<h.n
 ox:m<h.n
 s1:1≤size
 s2:size≤1048576
theorem c7.ba {h h':I} {i m cl:Nat} {room size:Int} {es:List (Nat×V×V)} (k:c7 h i m room size es cl) (hk:J h h' none_):c7 h' i m room size es cl :=
 ⟨(hk.get i k.lt (by simp [none_])).trans k.get,(hk.get m k.ox (by simp [none_])).trans k.map,k.ne,Nat.lt_of_lt_of_le k.lt hk.n,Nat.lt_of_lt_of_le k.ox hk.n,k.s1,k.s2⟩
theorem alq (h:I) (room size:Int) (h1:1≤room) (aa:room≤1024) (aC:1≤size) (bz:size≤1048576) :
  ae Tryz.prog 107 [.int .i64 room,.int .i64 size] h (fun r h'=>r=.tuple [.ptr (h.n+1) 0,.int .i64 0]∧c7 h' (h.n+1) h.n room size [] 0∧J h h' none_):=by
 refine ae.ax (c:=_) Tryz.func107 rfl (by kernel_rfl) (by simp) ?_
 have d1:decide (room<1)=false:=decide_eq_false (by omega)
 have d2:decide (1024<room)=false:=decide_eq_false (by omega)
 have d3:decide (size<1)=false:=decide_eq_false (by omega)
 have d4:decide (1048576<size)=false:=decide_eq_false (by omega)
 simp only [af,Nat.reduceEqDiff,Nat.reduceAdd,Nat.reduceLeDiff,reduceCtorEq,ajW,aka,d1,d2,d3,d4,aU,Tryz.results107,dn]
 refine aF ⟨rfl,⟨cA,(mc (by simp only [eI];omega)).trans cA,by omega,by simp only [eI];omega,by simp only [eI];omega,aC,bz⟩,(J.push _ _ _).bg _⟩
theorem Fg (h:I) (i m cl:Nat) (room size:Int) (es:List (Nat×V×V)) (k:c7 h i m room size es cl):Pure Tryz.prog 161 [.ptr i 0] h (.bool false):=by
 refine Pure.val (bj.bool _) ?_
 refine ae.ax (c:=_) Tryz.func161 rfl (by kernel_rfl) (by simp) ?_
 have av:=k.get
 have d1:(size==0)=false:=by have:=k.s1;simp;omega
 simp only [af,Nat.reduceEqDiff,Nat.reduceAdd,Nat.reduceLeDiff,reduceCtorEq,Ct,ajI,bx,av,d1,aU,Tryz.results161,ac]
 exact aF ⟨rfl,J.refl _ _⟩
def Fh (size time:Int):Int:=if time<0∨1099511627776<time then -1 else time - time.tmod size
theorem lw (h:I) (i m cl:Nat) (room size time:Int) (es:List (Nat×V×V)) (k:c7 h i m room size es cl):Pure Tryz.prog 122 [.ptr i 0,.int .i64 time] h (.int .i64 (Fh size time)):=by
 refine Pure.val (bj.int _ _) ?_
 refine ae.ax (c:=_) Tryz.func122 rfl (by kernel_rfl) (by simp) ?_
 have av:=k.get
 simp only [af,Int.reduceNeg,Nat.reduceEqDiff,reduceCtorEq]
 refine bU E0 (Fg h i m cl room size es k) ?_
 by_cases t1:time<0
 ·have d1:decide (time<0)=true:=decide_eq_true t1
  simp only [af,Int.reduceNeg,Nat.reduceEqDiff,d1,aU,Tryz.results122,ac]
  exact aF ⟨by rw [Fh,if_pos (.inl t1)],J.refl _ _⟩
 have d1:decide (time<0)=false:=decide_eq_false t1
 by_cases t2:1099511627776<time
 ·have d2:decide (1099511627776<time)=true:=decide_eq_true t2
  simp only [af,Int.reduceNeg,Nat.reduceEqDiff,d1,d2,aU,Tryz.results122,ac]
  exact aF ⟨by rw [Fh,if_pos (.inr t2)],J.refl _ _⟩
 have d2:decide (1099511627776<time)=false:=decide_eq_false t2
 have aH:∀ xo yo,c0 Tryz.prog .rem 2 xo yo (.int .i64 time) (.int .i64 size)=some (.int .i64 (time.tmod size)):=fun xo yo=>Tx (by have:=k.s1;omega)
 obtain ⟨m0,m1,m2⟩:=XS (time:=time) (size:=size) (by omega) k.s1
 have hw:IntKind.i64.wrap (time - time.tmod size)=time - time.tmod size:=Go.IntWalk.i64_in _ (by omega)
 simp only [af,Int.reduceNeg,Nat.reduceEqDiff,Nat.reduceAdd,Nat.reduceLeDiff,reduceCtorEq,Ct,bx,d1,d2,av,aH,hw,aU,Tryz.results122,ac]
 exact aF ⟨by rw [Fh,if_neg (by omega)],J.refl _ _⟩
theorem XT (k f:Int):(x8 k f).cells=some [.int .i64 k,.int .i64 f]:=rfl
theorem alr (h:I) (i m cl:Nat) (room size key aJ val:Int) (es:List (Nat×V×V)) (k:c7 h i m room size es cl) (h0:0≤aJ) (h1:aJ≤2 ^ 41):Pure Tryz.prog 174 [.ptr i 0,x8 key aJ,.int .i64 val] h (.agg (aL ⟨key,aJ,aJ+size,val,false⟩)):=by
 refine Pure.val (bj.agg (A9 _)) ?_
 refine ae.ax (c:=_) Tryz.func174 rfl (by kernel_rfl) (by simp) ?_
 have av:=k.get
 have Fi:=k.lt
 have j4:∀ A B,((h.push A).push B).get i=.cells [.int .i64 room,.int .i64 size,.map m] 272 none:=fun A B=>(mc (by simp only [eI];omega)).trans ((mc Fi).trans av)
 have hw:IntKind.i64.wrap (aJ+size)=aJ+size:=Go.IntWalk.i64_in _ (by have:=k.s1;have:=k.s2;omega)
 simp only [af,ml,XT]
 refine aX.bk none_ [13] (.q 0 (.q 1 (.q 2 (.q 3 (.q 4 (.q 5 (.q 6 (.q 7 (.q 8 (.q 9 (.q 10 (.q 11 (.q 12 (.a 13 .done)))))))))))))) (by kernel_rfl) (by kernel_rfl) (by kernel_rfl) ?_
 simp only [af,bN,Nat.reduceEqDiff,Nat.reduceAdd,Nat.reduceLeDiff,reduceCtorEq,Ct,Wp,KX,bx,mH,w1,ml,ow,j4,hw,aU,Tryz.results174,zj,fp]
 exact aF ⟨rfl,(J.push _ _ _).bg _⟩
def dF (size time:Int):Int:=time - time.tmod size
theorem Ia {size time:Int} (h0:0≤time) (h1:time≤1099511627776):Fh size time=dF size time:=by rw [Fh,if_neg (by omega)];rfl
theorem CW {size time:Int} (h0:0≤time) (h1:1≤size):0≤dF size time∧dF size time≤time∧time<dF size time+size:=by
 obtain ⟨a,b,c⟩:=XS h0 h1
 unfold dF
 omega
theorem als:∃ q,e9 Tryz.prog 270=some q:=by
 obtain ⟨d,hm,_⟩:=zC
 exact ⟨_,hm⟩
def vo (p:Int×Int):V:=x8 p.1 p.2
abbrev eg:=List (Nat×(Int×Int)×Int)
def hC (l:eg):List (Nat×V×V):=dJ vo (V.int .i64) l
theorem QW {d:TypeDesc} (a7:s9 d=false):kp Tryz.prog 286 d vo where
 eq a b:=by
  rw [show vo a=x8 a.1 a.2 from rfl,show vo b=x8 b.1 b.2 from rfl,GE a7]
  rw [Option.some.injEq,Bool.eq_iff_iff]
  simp only [Bool.and_eq_true,beq_iff_eq,decide_eq_true_eq]
  exact ⟨fun h=>Prod.ext h.1 h.2,fun h=>⟨congrArg Prod.fst h,congrArg Prod.snd h⟩⟩
 ok b a:=alp b a.1 a.2
 bits a:=by
  refine ⟨_,rfl,?_⟩
  simp [Instr.sameBits]
theorem lookW {h:I} {i cl:Nat} (l:eg) (a b:Int) (av:h.get i=.map (hC l) cl):mD Tryz.prog 270 (.map i) (.agg [.int .i64 a,.int .i64 b]) true h=some (.tuple [.int .i64 ((b7 l (a,b)).getD 0),.bool (b7 l (a,b)).isSome]):=by
 obtain ⟨d,hm,a7⟩:=zC
 have:=Pj (enc:=V.int .i64) (ok:=true) (QW a7) (k:=(a,b)) hm CB av
 rw [show (V.agg [.int .i64 a,.int .i64 b])=vo (a,b) from rfl,this]
 cases b7 l (a,b)<;>simp [fj,fX]
theorem QX {h:I} {i cl:Nat} (l:eg) (a b v:Int) (av:h.get i=.map (hC l) cl):uk Tryz.prog 270 (.map i) (.agg [.int .i64 a,.int .i64 b]) (.int .i64 v) h=some (h.set i (.map (hC (cC cl l (a,b) v)) (fT cl l (a,b)))):=by
 obtain ⟨d,hm,a7⟩:=zC
 exact Pl (enc:=V.int .i64) (QW a7) (k:=(a,b)) hm av rfl
theorem Ib {h:I} {i cl:Nat} (l:eg) (a b:Int) (av:h.get i=.map (hC l) cl):ip Tryz.prog 270 (.map i) (.agg [.int .i64 a,.int .i64 b]) h=some (h.set i (.map (hC (fD l (a,b))) cl)):=by
 obtain ⟨d,hm,a7⟩:=zC
 exact aha (enc:=V.int .i64) (QW a7) (k:=(a,b)) hm av
theorem Ic (l:eg):(hC l).length=l.length:=by simp [hC,dJ]
theorem XU (h:I) (i m cl:Nat) (room size key time val:Int) (l:eg) (k:c7 h i m room size (hC l) cl) (aH:(b7 l (key,dF size time)).isSome=true∨(l.length:Int)<room) (h0:0≤time) (h1:time≤1099511627776) :
  ae Tryz.prog 120 [.ptr i 0,.int .i64 key,.int .i64 time,.int .i64 val] h (fun r h'=>r=.tuple [.agg (aL ⟨key,dF size time,dF size time+size,val,false⟩),.int .i64 0]∧c7 h' i m room size (hC (cC cl l (key,dF size time) val)) (fT cl l (key,dF size time))∧J h h' (fun q=>q=m)):=by
 refine ae.ax (c:=_) Tryz.func120 rfl (by kernel_rfl) (by simp) ?_
 have Fi:=k.lt
 have ox:=k.ox
 obtain ⟨f0,f1,f2⟩:=CW h0 k.s1
 have Ie:=Ia (size:=size) h0 h1
 simp only [af,Nat.reduceEqDiff,reduceCtorEq,ml]
 have bB:=k.ba (J.push h (.cells [.int .i64 0,.int .i64 0,.int .i64 0,.int .i64 0,.bool false] 40 none) none_)
 refine bU E0 (Fg _ i m cl room size _ bB) ?_
 simp only [af,Nat.reduceEqDiff,reduceCtorEq]
 refine bU Hi (lw _ i m cl room size time _ bB) ?_
 rw [Ie]
 generalize dF size time=aJ at f0 f1 f2 aH⊢
 have d1:decide (aJ<0)=false:=decide_eq_false (by omega)
 have CX:∀ a b:Int,(V.agg [.int .i64 a,.int .i64 b]).cells=some [.int .i64 a,.int .i64 b]:=fun _ _=>rfl
 simp only [af,Nat.reduceEqDiff,Nat.reduceAdd,Nat.reduceLeDiff,K2,Ht,K8,d1,CX]
 generalize hH:(h.push (.cells [.int .i64 0,.int .i64 0,.int .i64 0,.int .i64 0,.bool false] 40 none)).push (.cells [.int .i64 key,.int .i64 aJ] 286 none)=H
 have bA:J h H none_:=by rw [←hH];exact (J.push _ _ _).bg _
 have kk:c7 H i m room size (hC l) cl:=k.ba bA
 have ny:=kk.get
 have fG:=kk.map
 have g0:H.get h.n=.cells [.int .i64 0,.int .i64 0,.int .i64 0,.int .i64 0,.bool false] 40 none:=by rw [←hH];exact (mc (by simp only [eI];omega)).trans cA
 have g1:H.get (h.n+1)=.cells [.int .i64 key,.int .i64 aJ] 286 none:=by rw [←hH];exact cA
 have j9:H.n=h.n+2:=by rw [←hH];rfl
 have gy:mD Tryz.prog 270 (.map m) (.agg [.int .i64 key,.int .i64 aJ]) true H=some (.tuple [.int .i64 ((b7 l (key,aJ)).getD 0),.bool (b7 l (key,aJ)).isSome]):=lookW l key aJ fG
 have tQ:uk Tryz.prog 270 (.map m) (.agg [.int .i64 key,.int .i64 aJ]) (.int .i64 val) H=some (H.set m (.map (hC (cC cl l (key,aJ) val)) (fT cl l (key,aJ)))):=QX l key aJ val fG
 have qR:dU Tryz.prog 270 (.map m) H=some (.int .i64 (l.length:Nat)):=by rw [OG Wv fG,Ic]
 have vN:dv (some (some 2)) (some [.int .i64 key,.int .i64 aJ])=some (.agg [.int .i64 key,.int .i64 aJ]):=rfl
 refine aX.bk none_ [] (.q 0 (.q 1 (.q 2 (.q 3 (.q 4 (.q 5 (.q 6 (.q 7 (.q 8 (.q 9 (.q 10 .done))))))))))) (by kernel_rfl) (by kernel_rfl) (by kernel_rfl) ?_
 simp only [af,bN,Nat.reduceEqDiff,Nat.reduceAdd,Nat.reduceLeDiff,reduceCtorEq,xV,xZ,Cz,ny,g1,vN,gy]
 generalize b7 l (key,aJ)=o at aH gy
 have au:(o.isSome=true)∨(o.isSome=false∧decide (room≤((l.length:Nat):Int))=false):=by
  cases aR:o.isSome
  ·rw [aR] at aH
   exact .inr ⟨rfl,decide_eq_false (by simp at aH;omega)⟩
  ·exact .inl rfl
 generalize o.isSome=ob at au
 refine aX.bk none_ [] (.q 0 (.q 1 (.q 2 (.q 3 (.q 4 (.q 5 (.q 6 (.q 7 (.q 8 (.q 9 (.q 10 (.q 11 (.q 12 (.q 13 .done)))))))))))))) (by kernel_rfl) (by kernel_rfl) (by kernel_rfl) ?_
 rcases au with q | ⟨q,cO⟩
 all_goals first | simp only [af,bN,Nat.reduceEqDiff,Nat.reduceAdd,Nat.reduceLeDiff,reduceCtorEq,Wo,xV,xZ,bn,ny,qR,q,cO] | simp only [af,bN,Nat.reduceEqDiff,q]
 all_goals
  refine aX.bk none_ [6] (.q 0 (.q 1 (.q 2 (.q 3 (.q 4 (.q 5 (.a 6 .done))))))) (by kernel_rfl) (by kernel_rfl) (by kernel_rfl) ?_
  simp only [af,bN,Nat.reduceEqDiff,Nat.reduceAdd,Nat.reduceLeDiff,reduceCtorEq,xV,xZ,Cz,ny,g1,vN,tQ]
  generalize bE:H.set m (.map (hC (cC cl l (key,aJ) val)) (fT cl l (key,aJ)))=bP
  have en:J H bP (fun q=>q=m):=by rw [←bE];exact J.set _ _ _
  have aqi:bP.n=H.n:=by rw [←bE];rfl
  have vn:=(en.get i kk.lt (by exact k.ne)).trans ny
  have tR:bP.get m=.map (hC (cC cl l (key,aJ) val)) (fT cl l (key,aJ)):=by rw [←bE];exact aP
  have XV:=(en.get h.n (by omega) (by omega)).trans g0
  have g12:=(en.get (h.n+1) (by omega) (by omega)).trans g1
  have dE:c7 bP i m room size (hC (cC cl l (key,aJ) val)) (fT cl l (key,aJ)):=⟨vn,tR,k.ne,by omega,by omega,k.s1,k.s2⟩
  simp only [af,Nat.reduceEqDiff,Nat.reduceAdd,g12,vN]
  refine bU ai2 (alr bP i m _ room size key aJ val _ dE f0 (by omega)) ?_
  have cc:∀ c:aj,(V.agg (aL c)).cells=some (aL c):=fun _=>rfl
  have st:∀ c:aj,bR (some 5) (bb.cells [.int .i64 0,.int .i64 0,.int .i64 0,.int .i64 0,.bool false] 40 none) 0 (aL c)=some (.cells (aL c) 40 none):=fun _=>rfl
  have XW:∀ c:aj,(if 5≤(aL c).length then some (V.agg (List.take 5 (aL c))) else none)=some (.agg (aL c)):=fun _=>rfl
  simp only [af,Nat.reduceEqDiff,mH,ow,XV,cc,st,XW,aU,Tryz.results120,hh,gU,fp,hg]
  have Ln:J bP (bP.set h.n (.cells (aL ⟨key,aJ,aJ+size,val,false⟩) 40 none)) (fun q=>q=h.n):=J.set _ _ _
  refine aF ⟨rfl,⟨(Ln.get i (by omega) (by omega)).trans vn,(Ln.get m (by omega) (by omega)).trans tR,k.ne,by show i<bP.n;omega,by show m<bP.n;omega,k.s1,k.s2⟩,?_⟩
  exact ((bA.up).trans' en).iQ (Nat.le_refl _) _
theorem alu (h:I) (i m cl:Nat) (room size key time val:Int) (l:eg) (k:c7 h i m room size (hC l) cl) (aH:(b7 l (key,dF size time)).isSome=false) (az:room≤(l.length:Int)) (h0:0≤time) (h1:time≤1099511627776) :
  ae Tryz.prog 120 [.ptr i 0,.int .i64 key,.int .i64 time,.int .i64 val] h (fun r h'=>r=.tuple [.agg (aL ⟨0,0,0,0,false⟩),.int .i64 3]∧J h h' none_):=by
 refine ae.ax (c:=_) Tryz.func120 rfl (by kernel_rfl) (by simp) ?_
 have Fi:=k.lt
 have ox:=k.ox
 obtain ⟨f0,f1,f2⟩:=CW h0 k.s1
 have Ie:=Ia (size:=size) h0 h1
 simp only [af,Nat.reduceEqDiff,reduceCtorEq,ml]
 have bB:=k.ba (J.push h (.cells [.int .i64 0,.int .i64 0,.int .i64 0,.int .i64 0,.bool false] 40 none) none_)
 refine bU E0 (Fg _ i m cl room size _ bB) ?_
 simp only [af,Nat.reduceEqDiff,reduceCtorEq]
 refine bU Hi (lw _ i m cl room size time _ bB) ?_
 rw [Ie]
 generalize dF size time=aJ at f0 f1 f2 aH⊢
 have d1:decide (aJ<0)=false:=decide_eq_false (by omega)
 have CX:∀ a b:Int,(V.agg [.int .i64 a,.int .i64 b]).cells=some [.int .i64 a,.int .i64 b]:=fun _ _=>rfl
 simp only [af,Nat.reduceEqDiff,Nat.reduceAdd,Nat.reduceLeDiff,K2,Ht,K8,d1,CX]
 generalize hH:(h.push (.cells [.int .i64 0,.int .i64 0,.int .i64 0,.int .i64 0,.bool false] 40 none)).push (.cells [.int .i64 key,.int .i64 aJ] 286 none)=H
 have bA:J h H none_:=by rw [←hH];exact (J.push _ _ _).bg _
 have kk:c7 H i m room size (hC l) cl:=k.ba bA
 have ny:=kk.get
 have fG:=kk.map
 have g0:H.get h.n=.cells [.int .i64 0,.int .i64 0,.int .i64 0,.int .i64 0,.bool false] 40 none:=by rw [←hH];exact (mc (by simp only [eI];omega)).trans cA
 have g1:H.get (h.n+1)=.cells [.int .i64 key,.int .i64 aJ] 286 none:=by rw [←hH];exact cA
 have j9:H.n=h.n+2:=by rw [←hH];rfl
 have gy:mD Tryz.prog 270 (.map m) (.agg [.int .i64 key,.int .i64 aJ]) true H=some (.tuple [.int .i64 ((b7 l (key,aJ)).getD 0),.bool (b7 l (key,aJ)).isSome]):=lookW l key aJ fG
 have qR:dU Tryz.prog 270 (.map m) H=some (.int .i64 (l.length:Nat)):=by rw [OG Wv fG,Ic]
 have vN:dv (some (some 2)) (some [.int .i64 key,.int .i64 aJ])=some (.agg [.int .i64 key,.int .i64 aJ]):=rfl
 refine aX.bk none_ [] (.q 0 (.q 1 (.q 2 (.q 3 (.q 4 (.q 5 (.q 6 (.q 7 (.q 8 (.q 9 (.q 10 .done))))))))))) (by kernel_rfl) (by kernel_rfl) (by kernel_rfl) ?_
 simp only [af,bN,Nat.reduceEqDiff,Nat.reduceAdd,Nat.reduceLeDiff,reduceCtorEq,xV,xZ,Cz,ny,g1,vN,gy]
 generalize b7 l (key,aJ)=o at aH gy
 generalize o.isSome=ob at aH
 subst aH
 have d2:decide (room≤((l.length:Nat):Int))=true:=decide_eq_true az
 have st:∀ c:aj,bR (some 5) (bb.cells [.int .i64 0,.int .i64 0,.int .i64 0,.int .i64 0,.bool false] 40 none) 0 (aL c)=some (.cells (aL c) 40 none):=fun _=>rfl
 refine aX.bk none_ [] (.q 0 (.q 1 (.q 2 (.q 3 (.q 4 (.q 5 (.q 6 (.q 7 (.q 8 (.q 9 (.q 10 (.q 11 (.q 12 (.q 13 .done)))))))))))))) (by kernel_rfl) (by kernel_rfl) (by kernel_rfl) ?_
 simp only [af,bN,Nat.reduceEqDiff,Nat.reduceAdd,Nat.reduceLeDiff,reduceCtorEq,Wo,xV,xZ,bn,mH,w1,ml,ow,ny,qR,d2,g0,aU,Tryz.results120,hh,gU,fp,hg]
 refine aF ⟨rfl,bA.iQ (Nat.le_refl _) _⟩
theorem Fd (h:I) (i m cl:Nat) (room size key time:Int) (l:eg) (k:c7 h i m room size (hC l) cl) (h0:0≤time) (h1:time≤1099511627776) :
  Pure Tryz.prog 117 [.ptr i 0,.int .i64 key,.int .i64 time] h (.tuple [.int .i64 ((b7 l (key,dF size time)).getD 0),.bool (b7 l (key,dF size time)).isSome]):=by
 refine Pure.val (bj.tuple (bo.cons (bj.int _ _) (bo.cons (bj.bool _) bo.nil))) ?_
 refine ae.ax (c:=_) Tryz.func117 rfl (by kernel_rfl) (by simp) ?_
 have ny:=k.get
 obtain ⟨f0,f1,f2⟩:=CW h0 k.s1
 have Ie:=Ia (size:=size) h0 h1
 simp only [af,Nat.reduceEqDiff,reduceCtorEq]
 refine bU Hi (lw _ i m cl room size time _ k) ?_
 rw [Ie]
 have d1:decide (dF size time<0)=false:=decide_eq_false (by omega)
 have gy:=lookW l key (dF size time) k.map
 simp only [af,Nat.reduceEqDiff,Nat.reduceAdd,Nat.reduceLeDiff,reduceCtorEq,xV,xZ,K2,Ht,d1,ny,gy,aU,Tryz.results117,dn]
 exact aF ⟨rfl,J.refl _ _⟩
def f64 (n:Int):Nat:=FloatKind.nearest .f64 n
theorem alv (neg:Bool) (n:Nat):Ieee.Toward.even.cut neg n 0=n:=by
 have h:(1:Nat) <<< min 0 (n.log2+2)=1:=by rw [Nat.zero_min];rfl
 unfold Ieee.Toward.cut
 simp only [h,Nat.div_one,Nat.mod_one,Nat.mul_zero]
 rfl
theorem alw (n:Nat) (h0:n≠0) (h:n<2 ^ 53):f64 n=(n.log2+1022) * 2 ^ 52+n * 2 ^ (52 - n.log2):=by
 have hW:n.log2<53:=(Nat.log2_lt h0).2 h
 have hu:n<2 ^ (n.log2+1):=(Nat.log2_lt h0).1 (Nat.lt_succ_self _)
 have hk:n * 2 ^ (52 - n.log2)<2 ^ 53:=by
  have:=Nat.mul_lt_mul_of_pos_right hu (Nat.two_pow_pos (52 - n.log2))
  rwa [←Nat.pow_add,show n.log2+1+(52 - n.log2)=53 by omega] at this
 have aw:decide (((n:Nat):Int)<0)=false:=decide_eq_false (by omega)
 unfold f64 FloatKind.nearest FloatKind.encode FloatKind.format Ieee.Format.write Ieee.Format.nearest
 rw [aw]
 simp only [Int.natAbs_natCast,if_neg h0]
 have aW:max (0+((n.log2:Nat):Int) - ((Ieee.double.fractionBits:Nat):Int)) Ieee.double.leastPlace=(n.log2:Int) - 52:=by
  show max (0+((n.log2:Nat):Int) - ((52:Nat):Int)) (-1074)=_
  omega
 rw [aW]
 have cJ:((0:Int) - ((n.log2:Int) - 52)).toNat=52 - n.log2:=by omega
 have km:((n.log2:Int) - 52 - 0).toNat=0:=by omega
 have nI:((n.log2:Int) - 52 - Ieee.double.leastPlace).toNat=n.log2+1022:=by
  show ((n.log2:Int) - 52 - (-1074)).toNat=_
  omega
 rw [cJ,km,nI,alv,Nat.shiftLeft_eq]
 show Ieee.double.word false (min ((n.log2+1022) * 2 ^ 52+n * 2 ^ (52 - n.log2)) (2047 * 2 ^ 52))=_
 rw [Nat.min_eq_left (by omega)]
 rfl
theorem alx (n:Nat) (h:n<2 ^ 53):((FloatKind.f64).decode (f64 n)).toInt .zero=some (n:Int):=by
 by_cases h0:n=0
 ·subst h0;decide
 have hW:n.log2<53:=(Nat.log2_lt h0).2 h
 have hu:n<2 ^ (n.log2+1):=(Nat.log2_lt h0).1 (Nat.lt_succ_self _)
 have az:2 ^ n.log2≤n:=Nat.log2_self_le h0
 have hk:n * 2 ^ (52 - n.log2)<2 ^ 53:=by
  have:=Nat.mul_lt_mul_of_pos_right hu (Nat.two_pow_pos (52 - n.log2))
  rwa [←Nat.pow_add,show n.log2+1+(52 - n.log2)=53 by omega] at this
 have q6:2 ^ 52≤n * 2 ^ (52 - n.log2):=by
  have:=Nat.mul_le_mul_right (2 ^ (52 - n.log2)) az
  rwa [←Nat.pow_add,show n.log2+(52 - n.log2)=52 by omega] at this
 have hw:=alw n h0 h
 have hdiv:n * 2 ^ (52 - n.log2) / 2 ^ (52 - n.log2)=n:=Nat.mul_div_cancel _ (Nat.two_pow_pos _)
 have aly:n * 2 ^ (52 - n.log2) % 2 ^ (52 - n.log2)=0:=Nat.mul_mod_left _ _
 have QY:(n * 2 ^ (52 - n.log2)).log2=52:=by
  refine Nat.le_antisymm ?_ ?_
  ·exact Nat.le_of_lt_succ ((Nat.log2_lt (by omega)).2 hk)
  ·exact (Nat.le_log2 (by omega)).2 q6
 generalize n * 2 ^ (52 - n.log2)=kept at *
 rw [hw]
 have e:(FloatKind.f64).decode ((n.log2+1022) * 2 ^ 52+kept)=.number false kept ((n.log2:Int) - 52):=by
  unfold FloatKind.decode FloatKind.format Ieee.Format.read
  have s:Ieee.double.signWeight=2 ^ 63:=rfl
  have b:Ieee.double.binade=2 ^ 52:=rfl
  have i:Ieee.double.infRung=2047 * 2 ^ 52:=rfl
  have vN:Ieee.double.leastPlace=-1074:=rfl
  simp only [s,b,i,vN]
  have xU:((n.log2+1022) * 2 ^ 52+kept) / 2 ^ 63=0:=by omega
  have cn:((n.log2+1022) * 2 ^ 52+kept) % 2 ^ 63=(n.log2+1022) * 2 ^ 52+kept:=by omega
  have cO:((n.log2+1022) * 2 ^ 52+kept) / 2 ^ 52=n.log2+1023:=by omega
  have fg:((n.log2+1022) * 2 ^ 52+kept) % 2 ^ 52=kept - 2 ^ 52:=by omega
  rw [xU,cn,cO,fg,if_neg (by omega),if_pos (by omega),show 2 ^ 52+(kept - 2 ^ 52)=kept by omega,show (-1074:Int)+((n.log2+1023 - 1:Nat):Int)=(n.log2:Int) - 52 by omega]
  rfl
 rw [e]
 unfold Ieee.Datum.toInt Ieee.Datum.integral Ieee.Toward.cut
 have cJ:((n.log2:Int) - 52).toNat=0:=by omega
 have km:(-((n.log2:Int) - 52)).toNat=52 - n.log2:=by omega
 simp only [cJ,km,Nat.shiftLeft_zero,QY]
 rw [Nat.min_eq_left (by omega),Nat.one_shiftLeft,hdiv]
 simp [Ieee.signed]
theorem alz (n:Int) (h0:0≤n) (h:n≤2 ^ 40):((FloatKind.f64).decode (f64 n)).toInt .zero=some n:=by
 obtain ⟨k,rfl⟩:∃ k:Nat,n=k:=⟨n.toNat,by omega⟩
 exact alx k (by omega)
def eu (a b:aj):Prop:=a.key<b.key∨a.key=b.key∧(a.aJ<b.aJ∨a.aJ=b.aJ∧a.to<b.to)
instance (a b:aj):Decidable (eu a b):=by unfold eu;infer_instance
def e8 (a b:aj):Bool:=decide (a.key=b.key∧a.aJ=b.aJ∧a.to=b.to)
theorem kx {a b:aj}:e8 a b=true↔a.key=b.key∧a.aJ=b.aJ∧a.to=b.to:=by simp [e8]
theorem XX {a b:aj}:e8 a b=false↔¬(a.key=b.key∧a.aJ=b.aJ∧a.to=b.to):=by simp [e8]
theorem Bc {a b:aj} (h:e8 a b=true):¬eu a b:=by have:=kx.1 h;unfold eu;omega
theorem XY {a b c:aj} (h:eu a b) (k:eu b c):eu a c:=by unfold eu at *;omega
theorem alA {a b:aj} (h:eu a b):¬eu b a:=by unfold eu at *;omega
theorem XZ {a b:aj} (h:¬eu a b) (k:¬eu b a):e8 a b=true:=by rw [kx];unfold eu at *;omega
abbrev ez (l:List aj):Prop:=l.Pairwise eu
def low (l:List aj) (x:aj):List aj:=l.filter fun y=>decide (eu y x)
def high (l:List aj) (x:aj):List aj:=l.filter fun y=>!decide (eu y x)
def cV (l:List aj) (x:aj):Nat:=(low l x).length
def df (l:List aj) (x:aj):Bool:=l.any fun y=>e8 y x
def eL (l:List aj) (x:aj):List aj:=l.filter fun y=>!e8 y x
def jS (l:List aj) (x:aj):List aj:=low l x++x::high l x
theorem ez.split:∀ {l:List aj},ez l→∀ x,low l x++high l x=l
 | [],_,x=>rfl
 | a::l,U,x=>by
  have er:=List.pairwise_cons.1 U
  have ih:=ez.split er.2 x
  unfold low high at ih⊢
  by_cases h:eu a x
  ·rw [List.filter_cons_of_pos (by simpa using h),List.filter_cons_of_neg (by simpa using h),List.cons_append,ih]
  ·have aG:∀ b ∈ l,¬eu b x:=fun b ak ic=>h (XY (er.1 b ak) ic)
   rw [List.filter_cons_of_neg (by simpa using h),List.filter_cons_of_pos (by simpa using h),List.filter_eq_nil_iff.2 (by simpa using aG),List.filter_eq_self.2 (by simpa using aG)]
   rfl
theorem ez.take {l:List aj} (h:ez l) (x:aj):l.take (cV l x)=low l x:=by
 have:=congrArg (List.take (low l x).length) (h.split x)
 rw [List.take_left' rfl] at this
 exact this.symm
theorem ez.drop {l:List aj} (h:ez l) (x:aj):l.drop (cV l x)=high l x:=by
 have:=congrArg (List.drop (low l x).length) (h.split x)
 rw [List.drop_left' rfl] at this
 exact this.symm
theorem X0 (l:List aj) (x:aj):cV l x≤l.length:=List.length_filter_le ..
theorem ez.Ig {l:List aj} (h:ez l) {x:aj} {t:Nat} {p:aj} (bq:t<cV l x) (aZ:l[t]?=some p):eu p x:=by
 have:p ∈ l.take (cV l x):=List.mem_of_getElem? (i:=t) (by rw [List.getElem?_take,if_pos bq];exact aZ)
 rw [h.take] at this
 simpa using (List.mem_filter.1 this).2
theorem ez.xi {l:List aj} (h:ez l) {x:aj} {t:Nat} {p:aj} (bq:cV l x≤t) (aZ:l[t]?=some p):¬eu p x:=by
 have:p ∈ l.drop (cV l x):=List.mem_of_getElem? (i:=t - cV l x) (by rw [List.getElem?_drop,show cV l x+(t - cV l x)=t by omega];exact aZ)
 rw [h.drop] at this
 simpa using (List.mem_filter.1 this).2
theorem ez.filter {l:List aj} (h:ez l) (p:aj→Bool):ez (l.filter p):=List.Pairwise.filter p h
theorem ez.uniq {l:List aj} (h:ez l) {a b:aj} (aO:a ∈ l) (ak:b ∈ l) (U:e8 a b=true):a=b:=by
 induction l with
 | nil=>cases aO
 | cons c l ih=>
  have h':=List.pairwise_cons.1 h
  rcases List.mem_cons.1 aO with e | aO
  ·rcases List.mem_cons.1 ak with aW | ak
   ·rw [e,aW]
   ·have h1:=h'.1 b ak
    rw [←e] at h1
    exact absurd h1 (Bc U)
  ·rcases List.mem_cons.1 ak with e | ak
   ·have h1:=h'.1 a aO
    rw [←e] at h1
    exact absurd h1 (Bc (by rw [kx] at *;omega))
   ·exact ih h'.2 aO ak
theorem ez.gZ {l:List aj} (h:ez l) (x:aj):(df l x=true∧∃ p,l[cV l x]?=some p∧e8 p x=true∧p ∈ l)∨(df l x=false∧∀ p,l[cV l x]?=some p→¬eu p x∧e8 p x=false):=by
 cases ab:df l x
 ·refine .inr ⟨rfl,fun p aZ=>⟨h.xi (Nat.le_refl _) aZ,?_⟩⟩
  have:=List.any_eq_false.1 ab p (List.mem_of_getElem? aZ)
  simpa using this
 ·refine .inl ⟨rfl,?_⟩
  obtain ⟨q,ad,U⟩:=List.any_eq_true.1 ab
  have Bd:q ∈ high l x:=List.mem_filter.2 ⟨ad,by simpa using Bc U⟩
  rw [←h.drop] at Bd
  cases a7:l.drop (cV l x) with
  | nil=>rw [a7] at Bd;cases Bd
  | cons p r=>
   have aZ:l[cV l x]?=some p:=by
    have:=congrArg (fun z=>z[0]?) a7
    simpa [List.getElem?_drop] using this
   refine ⟨p,aZ,?_,List.mem_of_getElem? aZ⟩
   have mV:ez (l.drop (cV l x)):=List.Pairwise.sublist (List.drop_sublist ..) h
   rw [a7] at Bd mV
   rcases List.mem_cons.1 Bd with rfl | X1
   ·exact U
   ·have h1:=(List.pairwise_cons.1 mV).1 q X1
    have aa:=h.xi (Nat.le_refl _) aZ
    exact absurd (show eu p x by have:=kx.1 U;unfold eu at *;omega) aa
theorem X2 {l:List aj} {x:aj} (h:x ∈ l):df l x=true:=List.any_eq_true.2 ⟨x,h,kx.2 ⟨rfl,rfl,rfl⟩⟩
theorem alB {l:List aj} {x:aj} (h:df l x=false):eL l x=l:=List.filter_eq_self.2 fun y bd=>by have:=List.any_eq_false.1 h y bd;simpa using this
theorem ez.rm {l:List aj} (h:ez l) {x:aj} (ag:df l x=true):eL l x=l.take (cV l x)++l.drop (cV l x+1):=by
 rcases h.gZ x with ⟨_,p,aZ,U,hm⟩ | ⟨h',_⟩
 rotate_left
 ·rw [ag] at h';cases h'
 have aN:=(List.getElem?_eq_some_iff.1 aZ).1
 have e:l=l.take (cV l x)++p::l.drop (cV l x+1):=by
  have:=List.take_append_drop (cV l x) l
  rw [List.drop_eq_getElem_cons aN,(List.getElem?_eq_some_iff.1 aZ).2] at this
  exact this.symm
 have bO:∀ y,y ∈ l→e8 y x=true→y=p:=fun y bd M6=>h.uniq bd hm (by rw [kx] at *;omega)
 unfold eL
 conv=>lhs;rw [e]
 have vk:=h
 rw [e] at vk
 have aG:=List.pairwise_append.1 vk
 rw [List.filter_append,List.filter_cons_of_neg (by simp [U]),List.filter_eq_self.2,List.filter_eq_self.2]
 ·intro y bd
  cases M6:e8 y x
  ·rfl
  ·have:=(List.pairwise_cons.1 aG.2.1).1 y bd
   exact absurd this (Bc (by rw [kx] at *;omega))
 ·intro y bd
  cases M6:e8 y x
  ·rfl
  ·have:=aG.2.2 y bd p (by simp)
   exact absurd this (Bc (by rw [kx] at *;omega))
theorem ez.ins {l:List aj} (h:ez l) (x:aj):jS l x=l.take (cV l x)++[x]++l.drop (cV l x):=by rw [h.take,h.drop];simp [jS]
theorem Fj {l:List aj} {x y:aj}:y ∈ jS l x↔y=x∨y ∈ l:=by
 unfold jS low high
 rw [List.mem_append,List.mem_cons,List.mem_filter,List.mem_filter]
 by_cases h:eu y x<;>simp [h,or_comm]
theorem ez.yG {l:List aj} (h:ez l) (x:aj):(jS l x).length=l.length+1:=by
 have:=congrArg List.length (h.split x)
 unfold jS
 simp at this⊢
 omega
theorem ez.uO {l:List aj} (h:ez l) {x:aj} (ag:df l x=false):ez (jS l x):=by
 refine List.pairwise_append.2 ⟨h.filter _,List.pairwise_cons.2 ⟨fun y bd=>?_,h.filter _⟩,fun a aO b ak=>?_⟩
 ·have nk:=List.mem_filter.1 bd
  have h1:=List.any_eq_false.1 ag y nk.1
  have aa:¬eu y x:=by simpa using nk.2
  by_cases aC:eu x y
  ·exact aC
  ·exact absurd (XZ aa aC) h1
 ·have nQ:eu a x:=by simpa using (List.mem_filter.1 aO).2
  rcases List.mem_cons.1 ak with rfl | ak
  ·exact nQ
  ·have ic:=List.mem_filter.1 ak
   have h1:=List.any_eq_false.1 ag b ic.1
   have aa:¬eu b x:=by simpa using ic.2
   by_cases aC:eu x b
   ·exact XY nQ aC
   ·exact absurd (XZ aa aC) h1
theorem qr (l:List aj) (x:aj):df (eL l x) x=false:=by
 refine List.any_eq_false.2 fun y bd=>?_
 have:=(List.mem_filter.1 bd).2
 simpa using this
theorem ez.Ih {l:List aj} (h:ez l) {x:aj} (ag:df l x=true):l.set (cV l x) x=jS (eL l x) x:=by
 rcases h.gZ x with ⟨_,p,aZ,U,hm⟩ | ⟨h',_⟩
 rotate_left
 ·rw [ag] at h';cases h'
 have aN:=(List.getElem?_eq_some_iff.1 aZ).1
 have X3:ez (eL l x):=h.filter _
 have dy:low (eL l x) x=low l x:=by
  unfold low eL
  rw [List.filter_filter]
  refine List.filter_congr fun y _=>?_
  by_cases bd:eu y x
  ·have:e8 y x=false:=by
                   cases e:e8 y x;· rfl
                   ·exact absurd bd (Bc e)
   simp [bd,this]
  ·simp [bd]
 have h1:cV (eL l x) x=cV l x:=by unfold cV;rw [dy]
 have hle:(l.take (cV l x)).length=cV l x:=by rw [List.length_take];omega
 rw [List.set_eq_take_append_cons_drop,if_pos aN,X3.ins,h1,h.rm ag,List.take_left' hle,List.drop_left' hle]
 simp
theorem X4 {l:List aj} (h:ez l) {x:aj} (ag:df l x=true):(eL l x).length+1=l.length:=by
 rcases h.gZ x with ⟨_,p,aZ,U,hm⟩ | ⟨h',_⟩
 ·rw [h.rm ag]
  have aN:=(List.getElem?_eq_some_iff.1 aZ).1
  simp
  omega
 ·rw [ag] at h';cases h'
def fR (l cs:List aj):List aj:=l.filter fun y=>cs.all fun x=>!e8 y x
theorem X5 (l:List aj):fR l []=l:=List.filter_eq_self.2 fun _ _=>rfl
theorem alC (l cs:List aj) (x:aj):fR l (cs++[x])=eL (fR l cs) x:=by
 unfold fR eL
 rw [List.filter_filter]
 refine List.filter_congr fun y _=>?_
 rw [List.all_append]
 simp [Bool.and_comm]
theorem X6 {l:List aj} (h:ez l) (p:aj→Bool):fR l (l.filter p)=l.filter fun y=>!p y:=by
 refine List.filter_congr fun y bd=>?_
 cases aZ:p y
 ·refine List.all_eq_true.2 fun x ag=>?_
  have vc:=List.mem_filter.1 ag
  cases e:e8 y x
  ·rfl
  ·have:=h.uniq bd vc.1 e;subst this;rw [aZ] at vc;cases vc.2
 ·refine List.all_eq_false.2 ⟨y,List.mem_filter.2 ⟨bd,aZ⟩,?_⟩
  simp [kx.2 (show y.key=y.key∧y.aJ=y.aJ∧y.to=y.to from ⟨rfl,rfl,rfl⟩)]
theorem alD {l cs:List aj} (h:ez l) {x:aj} (ag:x ∈ l) (aG:x ∉ cs) (U:∀ y ∈ cs,y ∈ l):x ∈ fR l cs:=by
 refine List.mem_filter.2 ⟨ag,List.all_eq_true.2 fun y bd=>?_⟩
 cases e:e8 x y
 ·rfl
 ·exact absurd (h.uniq ag (U y bd) e ▸ bd) aG
theorem ez.fR {l:List aj} (h:ez l) (cs:List aj):ez (fR l cs):=h.filter _
structure ig (c:aj):Prop where
 lo:0≤c.aJ
 le:c.aJ≤c.to
 hi:c.to≤2 ^ 40
 del:c.del=false
def nc (g k t:Int) (x:aj):Bool:=decide (x.key=k∧x.aJ - g≤t∧t≤x.to+g)
theorem d6 {g k t:Int} {x:aj}:nc g k t x=true↔x.key=k∧x.aJ - g≤t∧t≤x.to+g:=by simp [nc]
theorem QZ {g k t:Int} {x y:aj} (h:e8 x y=true):nc g k t x=nc g k t y:=by
 obtain ⟨h1,aa,aC⟩:=kx.1 h
 unfold nc;rw [h1,aa,aC]
def found (g:Int) (l:List aj) (k t:Int):List aj:=l.filter (nc g k t)
def xj (g:Int) (l:List aj) (k t:Int):List aj:=l.filter fun x=>!nc g k t x
def jT (t:Int) (cs:List aj):Int:=cs.foldl (fun a c=>min a c.aJ) t
def j5 (t:Int) (cs:List aj):Int:=cs.foldl (fun a c=>max a c.to) t
theorem alE (t:Int) (cs:List aj) (c:aj):jT t (cs++[c])=min (jT t cs) c.aJ:=by simp [jT]
theorem alF (t:Int) (cs:List aj) (c:aj):j5 t (cs++[c])=max (j5 t cs) c.to:=by simp [j5]
theorem Lo:∀ (cs:List aj) (t:Int),jT t cs≤t∧∀ x ∈ cs,jT t cs≤x.aJ
 | [],t=>⟨Int.le_refl _,by simp⟩
 | c::cs,t=>by
  obtain ⟨h1,aa⟩:=Lo cs (min t c.aJ)
  refine ⟨Int.le_trans h1 (by omega),fun x ag=>?_⟩
  rcases List.mem_cons.1 ag with rfl | ag
  ·exact Int.le_trans h1 (by omega)
  ·exact aa x ag
theorem Q0:∀ (cs:List aj) (t:Int),jT t cs=t∨∃ x ∈ cs,jT t cs=x.aJ
 | [],t=>.inl rfl
 | c::cs,t=>by
  rcases Q0 cs (min t c.aJ) with h | ⟨x,ag,h⟩
  ·by_cases hm:t≤c.aJ
   ·left;rw [Int.min_eq_left hm] at h;show jT (min t c.aJ) cs=t;rw [Int.min_eq_left hm];exact h
   ·right;refine ⟨c,by simp,?_⟩;show jT (min t c.aJ) cs=c.aJ;rw [h];omega
  ·exact .inr ⟨x,by simp [ag],h⟩
theorem Lp:∀ (cs:List aj) (t:Int),t≤j5 t cs∧∀ x ∈ cs,x.to≤j5 t cs
 | [],t=>⟨Int.le_refl _,by simp⟩
 | c::cs,t=>by
  obtain ⟨h1,aa⟩:=Lp cs (max t c.to)
  refine ⟨Int.le_trans (by omega) h1,fun x ag=>?_⟩
  rcases List.mem_cons.1 ag with rfl | ag
  ·exact Int.le_trans (by omega) h1
  ·exact aa x ag
theorem Q1:∀ (cs:List aj) (t:Int),j5 t cs=t∨∃ x ∈ cs,j5 t cs=x.to
 | [],t=>.inl rfl
 | c::cs,t=>by
  rcases Q1 cs (max t c.to) with h | ⟨x,ag,h⟩
  ·by_cases hm:c.to≤t
   ·left;show j5 (max t c.to) cs=t;rw [h];omega
   ·right;refine ⟨c,by simp,?_⟩;show j5 (max t c.to) cs=c.to;rw [h];omega
  ·exact .inr ⟨x,by simp [ag],h⟩
def e3 (g:Int) (l:List aj) (k t v:Int):aj:=⟨k,jT t (found g l k t),j5 t (found g l k t),v,false⟩
def rI (g:Int) (l:List aj) (k t v:Int):List aj:=jS (xj g l k t) (e3 g l k t v)
def ha (x:aj):aj:=⟨x.key,x.aJ,x.to,0,true⟩
def lD (c x:aj):Bool:=decide (x.aJ≠c.aJ)||decide (x.to≠c.to)
def iE (g:Int) (l:List aj) (k t v:Int):List aj:=((found g l k t).filter (lD (e3 g l k t v))).map ha++[e3 g l k t v]
theorem X7 {g:Int} (av:0≤g) (l:List aj) (k t v:Int):nc g k t (e3 g l k t v)=true:=by
 rw [d6]
 have h1:=(Lo (found g l k t) t).1
 have aa:=(Lp (found g l k t) t).1
 exact ⟨rfl,by show jT _ _ - g≤t;omega,by show t≤j5 _ _+g;omega⟩
theorem X8 {g:Int} (av:0≤g) (l:List aj) (k t v:Int):df (xj g l k t) (e3 g l k t v)=false:=by
 refine List.any_eq_false.2 fun y bd U=>?_
 have h1:=(List.mem_filter.1 bd).2
 rw [QZ U,X7 av] at h1
 cases h1
theorem alG {g:Int} (av:0≤g) {l:List aj} (h:ez l) (k t v:Int):ez (rI g l k t v):=(h.filter _).uO (X8 av l k t v)
theorem Q2 {g:Int} {l:List aj} (h:∀ x ∈ l,ig x) {k t:Int} (v:Int) (h0:0≤t) (h1:t≤2 ^ 40):ig (e3 g l k t v):=by
 have aq:∀ x ∈ found g l k t,ig x:=fun x ag=>h x (List.mem_filter.1 ag).1
 refine ⟨?_,?_,?_,rfl⟩
 ·rcases Q0 (found g l k t) t with e | ⟨x,ag,e⟩
  ·show 0≤jT _ _;omega
  ·have:=(aq x ag).lo;show 0≤jT _ _;omega
 ·exact Int.le_trans (Lo _ _).1 (Lp _ _).1
 ·rcases Q1 (found g l k t) t with e | ⟨x,ag,e⟩
  ·show j5 _ _≤_;omega
  ·have:=(aq x ag).hi;show j5 _ _≤_;omega
theorem zD {g:Int} {l:List aj} {k t v:Int} {x:aj}:x ∈ rI g l k t v↔x=e3 g l k t v∨x ∈ l∧nc g k t x=false:=by
 unfold rI
 rw [Fj]
 unfold xj
 rw [List.mem_filter]
 simp
theorem alH {g:Int} {l:List aj} (h:∀ x ∈ l,ig x) {k t:Int} (v:Int) (h0:0≤t) (h1:t≤2 ^ 40):∀ x ∈ rI g l k t v,ig x:=fun x ag=>by
 rcases zD.1 ag with rfl | ag
 ·exact Q2 h v h0 h1
 ·exact h x ag.1
theorem alI (g:Int) (l:List aj) (k t:Int):(found g l k t).length+(xj g l k t).length=l.length:=by
 unfold found xj
 induction l with
 | nil=>rfl
 | cons a l ih=>cases h:nc g k t a<;>simp [h]<;>omega
theorem alJ {g:Int} (av:0≤g) {l:List aj} (h:ez l) (k t v:Int):eL (fR l ((found g l k t).filter (lD (e3 g l k t v)))) (e3 g l k t v)=xj g l k t:=by
 unfold eL fR xj
 rw [List.filter_filter]
 refine List.filter_congr fun y bd=>?_
 cases bq:nc g k t y
 ·have h1:e8 y (e3 g l k t v)=false:=by
   cases e:e8 y (e3 g l k t v)
   ·rfl
   ·rw [QZ e,X7 av] at bq;cases bq
  rw [h1]
  simp only [Bool.not_false,Bool.true_and]
  refine List.all_eq_true.2 fun x ag=>?_
  have vc:=List.mem_filter.1 (List.mem_filter.1 ag).1
  cases e:e8 y x
  ·rfl
  ·rw [QZ e,vc.2] at bq;cases bq
 ·cases e:e8 y (e3 g l k t v)
  ·simp only [Bool.not_false,Bool.not_true,Bool.true_and]
   refine List.all_eq_false.2 ⟨y,List.mem_filter.2 ⟨List.mem_filter.2 ⟨bd,bq⟩,?_⟩,by simp [e8]⟩
   have hk:=(d6.1 bq).1
   have aa:=XX.1 e
   unfold lD
   by_cases aC:y.aJ=(e3 g l k t v).aJ
   ·have:y.to≠(e3 g l k t v).to:=fun bz=>aa ⟨hk,aC,bz⟩
    simp [this]
   ·simp [aC]
  ·simp
structure Good (g:Int) (l:List aj) (P:List (Int×Int)):Prop where
 iV:ez l
 ok:∀ x ∈ l,ig x
 sep:∀ x ∈ l,∀ y ∈ l,x.key=y.key→e8 x y=false→x.to+g<y.aJ∨y.to+g<x.aJ
 aJ:∀ x ∈ l,(x.key,x.aJ) ∈ P
 to:∀ x ∈ l,(x.key,x.to) ∈ P
 X9:∀ k t,(k,t) ∈ P→∃ x ∈ l,x.key=k∧x.aJ≤t∧t≤x.to
 Ii:∀ x ∈ l,∀ t,x.aJ<t→t≤x.to→∃ p,(x.key,p) ∈ P∧t - g≤p∧p<t
theorem Good.nil (g:Int):Good g [] []:=⟨List.Pairwise.nil,by simp,by simp,by simp,by simp,by simp,by simp⟩
theorem Good.put {g:Int} (av:1≤g) {l:List aj} {P:List (Int×Int)} (w:Good g l P) {k t:Int} (v:Int) (h0:0≤t) (h1:t≤2 ^ 40):Good g (rI g l k t v) ((k,t)::P):=by
 obtain ⟨cG,a2⟩:=Lo (found g l k t) t
 obtain ⟨ec,bW⟩:=Lp (found g l k t) t
 have a3:=Q0 (found g l k t) t
 have fK:=Q1 (found g l k t) t
 have iv:∀ x,x ∈ found g l k t↔x ∈ l∧x.key=k∧x.aJ - g≤t∧t≤x.to+g:=fun x=>by unfold found;rw [List.mem_filter,d6]
 have cN:∀ x,nc g k t x=false↔¬(x.key=k∧x.aJ - g≤t∧t≤x.to+g):=fun x=>by rw [←d6];cases nc g k t x<;>simp
 have Ij:∀ x ∈ l,x.key=k→nc g k t x=false→x.to+g<jT t (found g l k t)∨j5 t (found g l k t)+g<x.aJ:=fun x ag apM Ya=>by
  have aG:t<x.aJ - g∨x.to+g<t:=by have:=(cN x).1 Ya;omega
  have yH:=w.ok x ag
  have hle:=yH.le
  rcases aG with aG | aG
  ·right
   rcases fK with e | ⟨y,bd,e⟩
   ·omega
   ·have nk:=(iv y).1 bd
    have bO:e8 y x=false:=by
     cases aW:e8 y x
     ·rfl
     ·have:=kx.1 aW;omega
    have:=w.sep y nk.1 x ag (by omega) bO
    have:=(w.ok y nk.1).le
    omega
  ·left
   rcases a3 with e | ⟨y,bd,e⟩
   ·omega
   ·have nk:=(iv y).1 bd
    have bO:e8 y x=false:=by
     cases aW:e8 y x
     ·rfl
     ·have:=kx.1 aW;omega
    have:=w.sep y nk.1 x ag (by omega) bO
    have:=(w.ok y nk.1).le
    omega
 refine ⟨alG (by omega) w.iV k t v,alH w.ok v h0 h1,fun x ag y bd hk bO=>?_,fun x ag=>?_,fun x ag=>?_,fun k' im aZ=>?_,fun x ag im h1 aa=>?_⟩
 ·rcases zD.1 ag with rfl | ag<;>rcases zD.1 bd with rfl | bd
  ·rw [XX] at bO;exact absurd ⟨rfl,rfl,rfl⟩ bO
  ·have:=Ij y bd.1 hk.symm bd.2
   show j5 _ _+g<y.aJ∨y.to+g<jT _ _
   omega
  ·have:=Ij x ag.1 hk ag.2
   show x.to+g<jT _ _∨j5 _ _+g<x.aJ
   omega
  ·exact w.sep x ag.1 y bd.1 hk bO
 ·rcases zD.1 ag with rfl | ag
  ·rcases a3 with e | ⟨y,bd,e⟩
   ·exact List.mem_cons.2 (.inl (by show (k,jT _ _)=_;rw [e]))
   ·have nk:=(iv y).1 bd
    refine List.mem_cons.2 (.inr ?_)
    show (k,jT _ _) ∈ P
    rw [e,←nk.2.1];exact w.aJ y nk.1
  ·exact List.mem_cons.2 (.inr (w.aJ x ag.1))
 ·rcases zD.1 ag with rfl | ag
  ·rcases fK with e | ⟨y,bd,e⟩
   ·exact List.mem_cons.2 (.inl (by show (k,j5 _ _)=_;rw [e]))
   ·have nk:=(iv y).1 bd
    refine List.mem_cons.2 (.inr ?_)
    show (k,j5 _ _) ∈ P
    rw [e,←nk.2.1];exact w.to y nk.1
  ·exact List.mem_cons.2 (.inr (w.to x ag.1))
 ·rcases List.mem_cons.1 aZ with e | aZ
  ·cases e
   exact ⟨e3 g l k t v,zD.2 (.inl rfl),rfl,cG,ec⟩
  ·obtain ⟨x,ag,aw,aW,cJ⟩:=w.X9 k' im aZ
   cases bq:nc g k t x
   ·exact ⟨x,zD.2 (.inr ⟨ag,bq⟩),aw,aW,cJ⟩
   ·have M7:x ∈ found g l k t:=List.mem_filter.2 ⟨ag,bq⟩
    have:=a2 x M7
    have:=bW x M7
    exact ⟨e3 g l k t v,zD.2 (.inl rfl),by rw [←aw];exact (d6.1 bq).1.symm,by show jT _ _≤im;omega,by show im≤j5 _ _;omega⟩
 ·rcases zD.1 ag with rfl | ag
  ·replace h1:jT t (found g l k t)<im:=h1
   replace aa:im≤j5 t (found g l k t):=aa
   have key:∀ p,(k,p) ∈ P∨p=t→im - g≤p→p<im→∃ p,((e3 g l k t v).key,p) ∈ (k,t)::P∧im - g≤p∧p<im:=fun p aZ aw aW=>by
    refine ⟨p,List.mem_cons.2 ?_,aw,aW⟩
    rcases aZ with aZ | rfl
    ·exact .inr aZ
    ·exact .inl rfl
   by_cases hle:im≤t
   ·rcases a3 with e | ⟨z,bK,e⟩
    ·omega
    ·have xk:=(iv z).1 bK
     by_cases Yb:im≤z.to
     ·obtain ⟨p,aZ,aw,aW⟩:=w.Ii z xk.1 im (by omega) Yb
      rw [xk.2.1] at aZ
      exact key p (.inl aZ) aw aW
     ·have:=w.to z xk.1
      rw [xk.2.1] at this
      exact key z.to (.inl this) (by omega) (by omega)
   ·rcases fK with e | ⟨z,bK,e⟩
    ·omega
    ·have xk:=(iv z).1 bK
     by_cases Yc:z.aJ<im
     ·obtain ⟨p,aZ,aw,aW⟩:=w.Ii z xk.1 im Yc (by omega)
      rw [xk.2.1] at aZ
      exact key p (.inl aZ) aw aW
     ·exact key t (.inr rfl) (by omega) (by omega)
  ·obtain ⟨p,aZ,aw,aW⟩:=w.Ii x ag.1 im h1 aa
   exact ⟨p,List.mem_cons.2 (.inr aZ),aw,aW⟩
theorem ez.rJ:∀ {a b:List aj},ez a→ez b→(∀ x,x ∈ a↔x ∈ b)→a=b
 | [],[],_,_,_=>rfl
 | [],q::r,_,_,h=>by have:=(h q).2 (by simp);cases this
 | q::r,[],_,_,h=>by have:=(h q).1 (by simp);cases this
 | p::r,q::s,aO,ak,h=>by
  have nQ:=List.pairwise_cons.1 aO
  have ic:=List.pairwise_cons.1 ak
  have M8:∀ x:aj,¬eu x x:=fun x=>Bc (kx.2 ⟨rfl,rfl,rfl⟩)
  have H4:p=q:=by
   rcases List.mem_cons.1 ((h p).1 (by simp)) with h1 | h1
   ·exact h1
   ·rcases List.mem_cons.1 ((h q).2 (by simp)) with aa | aa
    ·exact aa.symm
    ·exact absurd (ic.1 p h1) (alA (nQ.1 q aa))
  subst H4
  congr 1
  refine ez.rJ nQ.2 ic.2 fun x=>⟨fun ag=>?_,fun ag=>?_⟩
  ·rcases List.mem_cons.1 ((h x).1 (by simp [ag])) with e | e
   ·subst e;exact absurd (nQ.1 x ag) (M8 x)
   ·exact e
  ·rcases List.mem_cons.1 ((h x).2 (by simp [ag])) with e | e
   ·subst e;exact absurd (ic.1 x ag) (M8 x)
   ·exact e
def br (c:aj):List V:=[.int .i64 c.key,.complex .f64 (f64 c.aJ) (f64 c.to),.int .i64 c.val]
theorem sU (c:aj):(br c).length=3:=rfl
theorem Lq (c:aj):(br c).all (·.one)=true:=rfl
theorem alK (c:aj):bo (br c):=bo.cons (bj.int _ _) (bo.cons (bj.complex _ _ _) (bo.cons (bj.int _ _) bo.nil))
theorem d8 (c:aj):(V.agg (br c)).cells=some [.int .i64 c.key,.complex .f64 (f64 c.aJ) (f64 c.to),.int .i64 c.val]:=rfl
theorem alL (c:aj):(V.agg (aL c)).cells=some [.int .i64 c.key,.int .i64 c.aJ,.int .i64 c.to,.int .i64 c.val,.bool c.del]:=rfl
theorem Yd (n:Int) (h0:0≤n) (h1:n≤2 ^ 40) (h:I):lQ Tryz.prog 328 2 (.float .f64 (f64 n)) h=some (.int .i64 n) :=
 ahn KW uH (alz n h0 h1) (by show -9223372036854775808≤n;omega) (by show n≤9223372036854775807;omega)
theorem CY (c:aj) (au:ig c) (h:I):Pure Tryz.prog 170 [.agg (br c)] h (.int .i64 c.aJ):=by
 refine Pure.val (bj.int _ _) ?_
 refine ae.ax (c:=_) Tryz.func170 rfl (by kernel_rfl) (by simp) ?_
 have cc:=d8 c
 have Q3:=Yd c.aJ au.lo (by have:=au.le;have:=au.hi;omega)
 simp only [af,Nat.reduceEqDiff,Nat.reduceAdd,Nat.reduceLeDiff,ahi,ahl,Wq,Wy,cc,Q3,aU,Tryz.results170,ac]
 exact aF ⟨rfl,(J.push _ _ _)⟩
theorem CZ (c:aj) (au:ig c) (h:I):Pure Tryz.prog 165 [.agg (br c)] h (.int .i64 c.to):=by
 refine Pure.val (bj.int _ _) ?_
 refine ae.ax (c:=_) Tryz.func165 rfl (by kernel_rfl) (by simp) ?_
 have cc:=d8 c
 have Q3:=Yd c.to (by have:=au.lo;have:=au.le;omega) au.hi
 simp only [af,Nat.reduceEqDiff,Nat.reduceAdd,Nat.reduceLeDiff,ahj,ahm,Wq,Wy,cc,Q3,aU,Tryz.results165,ac]
 exact aF ⟨rfl,(J.push _ _ _)⟩
theorem Q4 (c:aj) (au:ig c) (h:I):Pure Tryz.prog 171 [.agg (br c)] h (.agg (aL c)):=by
 refine Pure.val (bj.agg (A9 _)) ?_
 refine ae.ax (c:=_) Tryz.func171 rfl (by kernel_rfl) (by simp) ?_
 have cc:=d8 c
 simp only [af,ml,cc]
 refine aX.bk none_ [9] (.q 0 (.q 1 (.q 2 (.c 3 (.q 4 (.c 5 (.q 6 (.q 7 (.q 8 (.a 9 .done)))))))))) (by kernel_rfl) (by kernel_rfl) (by kernel_rfl) ?_
 simp only [af,bN,Nat.reduceEqDiff,Nat.reduceAdd,Cv,bx,jZ]
 refine ix rfl rfl rfl (fun h' _=>CY c au h') ?_
 simp only [af,bN,Nat.reduceEqDiff,Nat.reduceAdd,jZ]
 refine ix rfl rfl rfl (fun h' _=>CZ c au h') ?_
 simp only [af,bN,Nat.reduceEqDiff,Nat.reduceAdd,Nat.reduceLeDiff,ajA,bx,mH,w1,ml,ow,aU,Tryz.results171,zj,fp]
 have a7:=au.del
 exact aF ⟨by unfold aL;rw [a7],(J.push _ _ _).bg _⟩
theorem Q5 (c:aj) (au:ig c) (h:I):Pure Tryz.prog 166 [.agg (br c)] h (.agg (aL (ha c))):=by
 refine Pure.val (bj.agg (A9 _)) ?_
 refine ae.ax (c:=_) Tryz.func166 rfl (by kernel_rfl) (by simp) ?_
 have cc:=d8 c
 simp only [af,ml,cc]
 refine aX.bk none_ [7] (.q 0 (.q 1 (.q 2 (.c 3 (.q 4 (.c 5 (.q 6 (.a 7 .done)))))))) (by kernel_rfl) (by kernel_rfl) (by kernel_rfl) ?_
 simp only [af,bN,Nat.reduceEqDiff,Nat.reduceAdd,Cv,bx,jZ]
 refine ix rfl rfl rfl (fun h' _=>CY c au h') ?_
 simp only [af,bN,Nat.reduceEqDiff,Nat.reduceAdd,jZ]
 refine ix rfl rfl rfl (fun h' _=>CZ c au h') ?_
 simp only [af,bN,Nat.reduceEqDiff,Nat.reduceAdd,Nat.reduceLeDiff,mH,w1,ml,ow,aU,Tryz.results166,zj,fp]
 exact aF ⟨rfl,(J.push _ _ _).bg _⟩
theorem Lr (c:aj) (h:I):Pure Tryz.prog 175 [.agg (aL c)] h (.agg (br c)):=by
 refine Pure.val (bj.agg (alK _)) ?_
 refine ae.ax (c:=_) Tryz.func175 rfl (by kernel_rfl) (by simp) ?_
 have cc:=alL c
 have i1:lQ Tryz.prog 2 328 (.int .i64 c.aJ)=fun _=>some (.float .f64 (f64 c.aJ)):=funext fun h=>Pq uH KW
 have i2:lQ Tryz.prog 2 328 (.int .i64 c.to)=fun _=>some (.float .f64 (f64 c.to)):=funext fun h=>Pq uH KW
 simp only [af,Nat.reduceEqDiff,Nat.reduceAdd,Nat.reduceLeDiff,ahh,ahk,Pq,aho,ahp,KW,E4,ou,tG,AR,uH,bx,jZ,ajY,E9,CC,cc,aU,Tryz.results175,zj,fp]
 exact aF ⟨rfl,(J.push _ _ _).bg _⟩
def jf (t:Int):Bool:=decide (0≤t)&&decide (t≤1099511627776)
theorem Fk {t:Int}:jf t=true↔0≤t∧t≤2 ^ 40:=by simp [jf]
theorem C0 (t:Int) (h:I):Pure Tryz.prog 169 [.int .i64 t] h (.bool (jf t)):=by
 refine Pure.val (bj.bool _) ?_
 refine ae.ax (c:=_) Tryz.func169 rfl (by kernel_rfl) (by simp) ?_
 cases d1:decide (0≤t)
 ·simp only [af,Nat.reduceEqDiff,reduceCtorEq,d1,aU,Tryz.results169,ac]
  exact aF ⟨by rw [jf,d1];rfl,J.refl _ _⟩
 ·simp only [af,Nat.reduceEqDiff,reduceCtorEq,d1,aU,Tryz.results169,ac]
  exact aF ⟨by rw [jf,d1];rfl,J.refl _ _⟩
theorem Q6 {α:Type} (A M X:List α) {a:Nat} (aO:A.length=a):lay (A++M) a X=A++X++M.drop X.length:=by
 unfold lay
 rw [←aO,List.take_left,show A.length+X.length=A.length+X.length from rfl,List.drop_append]
 simp
theorem alM {α:Type} (A M X B:List α) {a x b:Nat} (aO:A.length=a) (ag:X.length=x) (ak:B.length=b) (hm:M.length=x+b):lay (lay (A++M) a X) (a+x) B=A++X++B:=by
 rw [Q6 A M X aO,Q6 (A++X) _ B (by simp [aO,ag])]
 rw [List.drop_of_length_le (l:=M.drop X.length) (by simp;omega)]
 simp
theorem alN {α:Type} (c A B X:List α) {a x b:Nat} (bq:c.take (a+b)=A++B) (aO:A.length=a) (ak:B.length=b) (ag:X.length=x) (az:a+x+b≤c.length) :
  ∃ R,lay (lay c (a+x) B) a X=A++X++(B++R)∧(lay (lay c (a+x) B) a X).length=c.length:=by
 have h1:c.take a=A:=by
  have:=congrArg (List.take a) bq
  rw [List.take_take,Nat.min_eq_left (by omega),←aO,List.take_left] at this
  rw [←aO];exact this
 have ey:(lay c (a+x) B).length=c.length:=pd _ _ _ (by omega)
 refine ⟨c.drop (a+x+b),?_,by rw [pd _ _ _ (by omega),ey]⟩
 have aw:(lay c (a+x) B).take a=A:=by
  unfold lay
  rw [List.append_assoc,List.take_append_of_le_length (by rw [List.length_take];omega),List.take_take,Nat.min_eq_left (by omega),h1]
 have aW:(lay c (a+x) B).drop (a+x)=B++c.drop (a+x+b):=by
  unfold lay
  rw [List.append_assoc,List.drop_append_of_le_length (by rw [List.length_take];omega),List.drop_of_length_le (by rw [List.length_take];omega),ak]
  simp
 generalize lay c (a+x) B=d at aw aW ey
 unfold lay
 rw [aw,ag,aW]
theorem Q7:um Tryz.prog 255:=⟨_,Tryz.func255,by kernel_rfl,by kernel_rfl,by kernel_rfl,by kernel_rfl,273,292,3,4,by kernel_rfl,by kernel_rfl,Tryz.underlying273,by kernel_rfl⟩
theorem alO (i len cap k j:Nat) (c cs xs:List V) (ex:Option Nat) (h:I) (o:pW h 292 3 i len cap c ex cs) (az:len<2 ^ 40) (hk:k≤len) (aS:h.get j=.cells xs 292 none) (h7:j<h.n) (hp:j≠i)
  (ag:xs.length=3) (b5:xs.all (·.one)=true) (iC:cs.all (·.one)=true):ae Tryz.prog 212 [.bc i 0 len cap,.int .i64 (k:Nat),.bc j 0 1 1] h
   (fun r h'=>Own h' 292 3 r (cs.take (k * 3)++xs++cs.drop (k * 3))∧J h h' (fun q=>q=i)∧bV h (.bc i 0 len cap) r):=by
 refine ae.ax (c:=_) Tryz.func212 rfl (by kernel_rfl) (by simp) ?_
 have lz:=o
 obtain ⟨hi,av,hlen,bJ,hu,fM,iL⟩:=lz
 have bh:((1:Nat):Int)=1:=rfl
 have s1:=xQ (P:=Tryz.prog) (t:=273) (i:=i) (o:=0) (len:=len) (cap:=cap) (k:=.i64) fd hu hk iL
 have kV:Own h 292 3 (.bc j 0 1 1) xs:=.inr ⟨j,1,1,xs,none,rfl,h7,aS,by rw [ag],by rw [List.take_of_length_le (by omega)],.inl ⟨by unfold b2;omega,by omega,Nat.le_refl _⟩⟩
 have dT:=zo (P:=Tryz.prog) (t:=273) rn kV (n:=1) (by rw [ag]) (by decide) b5
 by_cases pk:k=len
 ·subst pk
  have d1:((k:Int)==(k:Int))=true:=by simp
  obtain ⟨v',h',fB,mS,rA,iU⟩:=xP (P:=Tryz.prog) (t:=273) (tx:=273) vM (by decide) o.own dT (by rw [ag];rfl) (fun m hm=>by
   change m * 3=_ at hm
   rw [hlen,ag] at hm
   exact ⟨by simp only [lim];omega,by simp only [lim];omega⟩)
  simp only [af,Int.reduceBEq,Nat.reduceEqDiff,reduceCtorEq,rn,s1,bh,fB,aU,Tryz.results212,ac]
  refine aF ⟨?_,rA.mono fun q ad=>(Option.some.inj ad).symm,iU⟩
  rw [List.take_of_length_le (by omega),List.drop_of_length_le (by omega),List.append_nil]
  exact mS
 have pk:k<len:=by omega
 have d1:((k:Int)==(len:Int))=false:=by simp;omega
 have c2:=oq (i:=len) (n:=len+1) (by omega) (by omega)
 have uM:=oq (i:=k) (n:=len) (by omega) (by omega)
 have au:=Uj (P:=Tryz.prog) (t:=273) (i:=i) (o:=0) (len:=len) vM hu
 have gX:(cs.take (k * 3)).length=k * 3:=by rw [List.length_take];omega
 have jQ:(cs.drop (k * 3)).length=(len - k) * 3:=by rw [List.length_drop];omega
 have bM:(c.drop (k * 3)).take ((len - k) * 3)=cs.drop (k * 3):=by rw [←bJ,List.drop_take];congr 1;omega
 have tO:((c.drop (k * 3)).take ((len - k) * 3)).all (·.one)=true:=by
  rw [bM,List.all_eq_true]
  exact fun v aD=>List.all_eq_true.1 iC v (List.mem_of_mem_drop aD)
 have l2:(xs.drop 0).take (1 * 3)=xs:=by rw [List.drop_zero,List.take_of_length_le (by omega)]
 by_cases eG:cap<len+1
 ·have d2:decide ((cap:Int)<((len+1:Nat):Int))=true:=decide_eq_true (by omega)
  have s2:=EI (P:=Tryz.prog) (t:=273) (i:=i) (o:=0) (len:=len) (cap:=cap) (k:=.i64) (m:=k) fd hu (by omega)
  have bX:IntKind.i64.wrap (((len+1:Nat):Int) - (k:Int))=((len+1 - k:Nat):Int):=by rw [Go.IntWalk.i64_in _ (by omega)];omega
  have aw:=Uk (P:=Tryz.prog) (t:=273) (kq:=.i64) (o:=0) (len:=k) (cap:=cap) (n:=len+1 - k) (kn:=.i64) (tn:=3) vM (by kernel_rfl) (by decide) av (by omega) hu (by omega) (by simp only [lim];omega) (by simp only [lim];omega) (by simp only [];omega)
  simp only [List.drop_zero] at aw
  have lW:k+(len+1 - k)=len+1:=by omega
  rw [lW] at aw
  obtain ⟨H1,dY⟩:∃ y,y=h.push (.cells (c.take (k * 3)++made [V.int .i64 0,V.complex .f64 0 0,V.int .i64 0] (len+1 - k)) 292 (some 3)):=⟨_,rfl⟩
  rw [←dY] at aw
  have g1:H1.get h.n=.cells (c.take (k * 3)++made [V.int .i64 0,V.complex .f64 0 0,V.int .i64 0] (len+1 - k)) 292 (some 3):=by rw [dY];exact cA
  have x5:H1.get j=.cells xs 292 none:=by rw [dY,mc h7];exact aS
  have ny:H1.get i=.cells c 292 ex:=by rw [dY,mc hi];exact av
  have gv:H1.n=h.n+1:=by rw [dY];rfl
  have bB:J h H1 none_:=by rw [dY];exact J.push _ _ _
  have iy:iJ Tryz.prog 273 (.bc h.n 0 (len+1) b2) (some (.int .i64 (k:Int))) none none=some (.bc h.n (0+k * 3) (len+1 - k) (b2+0+k)):=Kx (a:=0) fd (by omega)
  have p1:iJ Tryz.prog 273 (.bc h.n 0 (len+1) b2) (some (.int .i64 ((k+1:Nat):Int))) none none=some (.bc h.n (0+(k+1) * 3) (len+1 - (k+1)) (b2+0+(k+1))):=Kx (a:=0) fd (by omega)
  rw [Nat.zero_add,Nat.add_zero] at iy p1
  have tP:c.take (k * 3)=cs.take (k * 3):=by rw [←bJ,List.take_take,Nat.min_eq_left (by omega)]
  have fL:(made [V.int .i64 0,V.complex .f64 0 0,V.int .i64 0] (len+1 - k)).length=(len+1 - k) * 3:=zU _ _
  have aW:=AA (P:=Tryz.prog) (t:=273) (tx:=273) (o:=k * 3) (dl:=len+1 - k) (dc:=b2+k) (p:=0) (n:=1) (d:=1) (m:=1) vM g1 x5 (by show min 1 (len+1 - k)=1;omega) (by decide) (by simp only [];omega) (by rw [List.length_append,fL,tP,gX];simp only [];omega) (by rw [l2];exact b5)
  rw [l2] at aW
  obtain ⟨bP,bE⟩:∃ y,y=H1.set h.n (.cells (lay (c.take (k * 3)++made [V.int .i64 0,V.complex .f64 0 0,V.int .i64 0] (len+1 - k)) (k * 3) xs) 292 (some 3)):=⟨_,rfl⟩
  rw [←bE] at aW
  have g2:bP.get h.n=.cells (lay (c.take (k * 3)++made [V.int .i64 0,V.complex .f64 0 0,V.int .i64 0] (len+1 - k)) (k * 3) xs) 292 (some 3):=by rw [bE];exact aP
  have vn:bP.get i=.cells c 292 ex:=by rw [bE,kL (by omega)];exact ny
  have dm:(lay (c.take (k * 3)++made [V.int .i64 0,V.complex .f64 0 0,V.int .i64 0] (len+1 - k)) (k * 3) xs).length=(len+1) * 3:=by rw [pd _ _ _ (by rw [List.length_append,fL,tP,gX,ag];omega),List.length_append,fL,tP,gX];omega
  have k2:J h bP none_:=by rw [bE];exact bB.trans (J.set _ _ _) fun q ad ab=>by omega
  have CP:=xQ (P:=Tryz.prog) (t:=273) (i:=i) (o:=0) (len:=len) (cap:=cap) (k:=.i64) (l:=k) fd hu hk iL
  rw [if_neg (by omega),Nat.zero_add] at CP
  have cJ:=AA (P:=Tryz.prog) (t:=273) (tx:=273) (o:=(k+1) * 3) (dl:=len+1 - (k+1)) (dc:=b2+(k+1)) (p:=k * 3) (n:=len - k) (d:=cap - k) (m:=len - k) vM g2 vn (by show min (len - k) (len+1 - (k+1))=len - k;omega) (by omega) (by simp only [];omega) (by rw [dm];simp only [];omega) tO
  simp only at cJ
  rw [bM] at cJ
  rw [show (k+1) * 3=k * 3+3 by omega] at p1 cJ
  rw [tP,alM (cs.take (k * 3)) (made [V.int .i64 0,V.complex .f64 0 0,V.int .i64 0] (len+1 - k)) xs (cs.drop (k * 3)) gX ag jQ (by rw [fL];omega)] at cJ
  simp only [af,Int.reduceBEq,Nat.reduceEqDiff,reduceCtorEq,rn,s1,bh,d1,c2,au,d2,s2,bX,aw,iy,aW]
  refine aX.bk none_ [8] (.q 0 (.q 1 (.q 2 (.q 3 (.q 4 (.q 5 (.q 6 (.q 7 (.a 8 .done))))))))) (by kernel_rfl) (by kernel_rfl) (by kernel_rfl) ?_
  simp only [af,bN,Nat.reduceEqDiff,reduceCtorEq,uM,p1,CP,cJ,aU,Tryz.results212,ac]
  refine aF ⟨?_,?_,.inr fun q ad=>?_⟩
  ·refine Own.grown (by rw [jt,bE,jt,gv];omega) aP ?_
   simp only [List.length_append,gX,jQ,ag];omega
  ·exact (k2.trans (J.set _ _ _) fun q ad ab=>by omega).up
  ·simp only [aV,Option.some.injEq] at ad;omega
 ·have d2:decide ((cap:Int)<((len+1:Nat):Int))=false:=decide_eq_false (by omega)
  have lA:len+1≤cap:=by omega
  have s2:=EI (P:=Tryz.prog) (t:=273) (i:=i) (o:=0) (len:=len) (cap:=cap) (k:=.i64) (m:=len+1) fd hu lA
  have iy:=xQ (P:=Tryz.prog) (t:=273) (i:=i) (o:=0) (len:=len+1) (cap:=cap) (k:=.i64) (l:=k+1) fd hu (by omega) lA
  rw [if_neg (by omega),Nat.zero_add] at iy
  have p1:=xQ (P:=Tryz.prog) (t:=273) (i:=i) (o:=0) (len:=len+1) (cap:=cap) (k:=.i64) (l:=k) fd hu (by omega) lA
  rw [if_neg (by omega),Nat.zero_add] at p1
  have xd:tc h [.bc j 0 1 1,.bc i ((k+1) * 3) (len+1 - (k+1)) (cap - (k+1))]=some (.bool false):=by
   cases c with
   | nil=>simp at fM;omega
   | cons mB H0=>simp [tc,aS,av,hp]
  have cw:len * 3+3≤c.length:=by omega
  have aW:=AA (P:=Tryz.prog) (t:=273) (tx:=273) (o:=(k+1) * 3) (dl:=len+1 - (k+1)) (dc:=cap - (k+1)) (p:=k * 3) (n:=len+1 - k) (d:=cap - k) (m:=len - k) vM av av (by show min (len+1 - k) (len+1 - (k+1))=len - k;omega) (by omega) (by simp only [];omega) (by simp only [];omega) tO
  simp only at aW
  rw [bM] at aW
  obtain ⟨R,eR,yF⟩:=alN c (cs.take (k * 3)) (cs.drop (k * 3)) xs (a:=k * 3) (x:=3) (b:=(len - k) * 3) (by rw [List.take_append_drop,show k * 3+(len - k) * 3=len * 3 by omega];exact bJ) gX jQ ag (by omega)
  rw [show (k+1) * 3=k * 3+3 by omega] at iy xd aW
  obtain ⟨H1,dY⟩:∃ y,y=h.set i (.cells (lay c (k * 3+3) (cs.drop (k * 3))) 292 ex):=⟨_,rfl⟩
  rw [←dY] at aW
  have g1:H1.get i=.cells (lay c (k * 3+3) (cs.drop (k * 3))) 292 ex:=by rw [dY];exact aP
  have x5:H1.get j=.cells xs 292 none:=by rw [dY,kL hp];exact aS
  have bB:J h H1 (fun q=>q=i):=by rw [dY];exact J.set _ _ _
  have gv:H1.n=h.n:=by rw [dY];rfl
  have ey:(lay c (k * 3+3) (cs.drop (k * 3))).length=c.length:=pd _ _ _ (by rw [jQ];omega)
  have cJ:=AA (P:=Tryz.prog) (t:=273) (tx:=273) (o:=k * 3) (dl:=len+1 - k) (dc:=cap - k) (p:=0) (n:=1) (d:=1) (m:=1) vM g1 x5 (by show min 1 (len+1 - k)=1;omega) (by decide) (by simp only [];omega) (by rw [ey];simp only [];omega) (by rw [l2];exact b5)
  simp only at cJ
  rw [l2] at cJ
  simp only [af,Int.reduceBEq,Nat.reduceEqDiff,reduceCtorEq,rn,s1,bh,d1,c2,au,d2,s2,uM,iy]
  refine Tw ajP Q7 xd ?_
  simp only [af,Nat.reduceEqDiff,reduceCtorEq]
  refine aX.bk none_ [8] (.q 0 (.q 1 (.q 2 (.q 3 (.q 4 (.q 5 (.q 6 (.q 7 (.a 8 .done))))))))) (by kernel_rfl) (by kernel_rfl) (by kernel_rfl) ?_
  simp only [af,bN,Nat.reduceEqDiff,reduceCtorEq,uM,iy,p1,aW,cJ,aU,Tryz.results212,ac]
  refine aF ⟨.inr ⟨i,len+1,cap,_,ex,rfl,by rw [jt,gv];exact hi,aP,?_,?_,.inl ⟨hu,by rw [yF];exact fM,lA⟩⟩,bB.trans' (J.set _ _ _),.inl rfl⟩
  ·simp only [List.length_append,gX,jQ,ag];omega
  ·rw [eR,←List.append_assoc]
   exact List.take_left' (by simp only [List.length_append,gX,jQ,ag];omega)
theorem alP (v:V) (k j:Nat) (cs xs:List V) (h:I) (o:Own h 292 3 v cs) (az:cs.length<2 ^ 40) (hk:k * 3≤cs.length) (aS:h.get j=.cells xs 292 none) (h7:j<h.n) (hp:aV v≠some j)
  (ag:xs.length=3) (b5:xs.all (·.one)=true) (iC:cs.all (·.one)=true):ae Tryz.prog 212 [v,.int .i64 (k:Nat),.bc j 0 1 1] h
   (fun r h'=>Own h' 292 3 r (cs.take (k * 3)++xs++cs.drop (k * 3))∧J h h' (bl v)∧bV h v r):=by
 refine ae.zp o (by decide) (fun aD au=>?_) fun i len cap c ex aa aD ok dj kk aG=>?_
 ·subst au
  obtain rfl:k=0:=by simp at hk;omega
  have kV:Own h 292 3 (.bc j 0 1 1) xs:=.inr ⟨j,1,1,xs,none,rfl,h7,aS,by rw [ag],by rw [List.take_of_length_le (by omega)],.inl ⟨by unfold b2;omega,by omega,Nat.le_refl _⟩⟩
  have dT:=zo (P:=Tryz.prog) (t:=273) rn kV (n:=1) (by rw [ag]) (by decide) b5
  obtain ⟨v',h',fB,mS,rA,iU⟩:=xP (P:=Tryz.prog) (t:=273) (tx:=273) vM (by decide) o dT (by rw [ag];rfl) (fun m hm=>by
   change m * 3=_ at hm
   rw [ag] at hm
   simp only [List.length_nil] at hm
   exact ⟨by simp only [lim];omega,by simp only [lim];omega⟩)
  obtain ⟨e,gP,bK⟩:=xM (P:=Tryz.prog) fd
  have bh:((1:Nat):Int)=1:=rfl
  have mB:((0:Nat):Int)=0:=rfl
  have fin:Own h' 292 3 v' (([]:List V).take (0 * 3)++xs++([]:List V).drop (0 * 3))∧J h h' (bl v)∧bV h v v':=⟨by simpa using mS,rA,iU⟩
  rcases aD with rfl | rfl
  ·have s1:iJ Tryz.prog 273 .an (some (.int .i64 0)) none none=some .an:=by unfold iJ;rw [gP];simp only [bK];rfl
   refine ae.ax (c:=_) Tryz.func212 rfl (by kernel_rfl) (by simp) ?_
   simp only [af,Int.reduceBEq,Nat.reduceEqDiff,reduceCtorEq,rn,mB,s1,bh,fB,aU,Tryz.results212,ac]
   exact aF fin
  ·have s1:iJ Tryz.prog 273 .z0 (some (.int .i64 0)) none none=some .z0:=by unfold iJ;rw [gP];simp only [bK];rfl
   refine ae.ax (c:=_) Tryz.func212 rfl (by kernel_rfl) (by simp) ?_
   simp only [af,Int.reduceBEq,Nat.reduceEqDiff,reduceCtorEq,rn,mB,s1,bh,fB,aU,Tryz.results212,ac]
   exact aF fin
 ·have pF:aV v=some i:=by rcases aD with rfl | rfl<;>rfl
  have cB:j≠i:=fun ab=>hp (by rw [pF,ab])
  have hlen:=ok.2.2.1
  refine (alO i len cap k j c cs xs ex aa ok (by omega) (by omega) ((kk.get j h7 cB).trans aS) (by omega) cB ag b5 iC).mono fun r h' ⟨o',k',n'⟩=>⟨o',(kk.trans' k').mono fun q ad=>by subst ad;exact pF,?_⟩
  rcases n' with n' | n'
  ·exact .inl (by rw [n',pF];rfl)
  ·exact .inr fun q ad=>by have:=n' q ad;omega
theorem alQ (i len cap k:Nat) (c cs:List V) (ex:Option Nat) (h:I) (o:pW h 292 3 i len cap c ex cs) (az:len<2 ^ 40) (hk:k<len) (iC:cs.all (·.one)=true) :
  ae Tryz.prog 211 [.bc i 0 len cap,.int .i64 (k:Nat),.int .i64 ((k+1:Nat):Int)] h
   (fun r h'=>Own h' 292 3 r (cs.take (k * 3)++cs.drop ((k+1) * 3))∧J h h' (fun q=>q=i)∧aV r=some i):=by
 refine ae.ax (c:=_) Tryz.func211 rfl (by kernel_rfl) (by simp) ?_
 have lz:=o
 obtain ⟨hi,av,hlen,bJ,hu,fM,iL⟩:=lz
 obtain ⟨dV,sR⟩:=Um (P:=Tryz.prog) (t:=273) (i:=i) (o:=0) (len:=len) (cap:=cap) (k:=.i64) (k2:=.i64) (k3:=.i64) (l:=k) (m:=k+1) (n:=len) fd hu (by omega) (by omega) iL
 have d1:((k:Int)==((k+1:Nat):Int))=false:=by simp;omega
 have s1:=EI (P:=Tryz.prog) (t:=273) (i:=i) (o:=0) (len:=len) (cap:=cap) (k:=.i64) (m:=k) fd hu (by omega)
 have s2:=xQ (P:=Tryz.prog) (t:=273) (i:=i) (o:=0) (len:=len) (cap:=cap) (k:=.i64) (l:=k+1) fd hu (by omega) iL
 have gX:(cs.take (k * 3)).length=k * 3:=by rw [List.length_take];omega
 have jQ:(cs.drop ((k+1) * 3)).length=(len - (k+1)) * 3:=by rw [List.length_drop];omega
 have bM:(c.drop ((k+1) * 3)).take ((len - (k+1)) * 3)=cs.drop ((k+1) * 3):=by rw [←bJ,List.drop_take];congr 1;omega
 have cw:len * 3≤c.length:=by omega
 have zB:∃ b,iJ Tryz.prog 273 (.bc i 0 len cap) (some (.int .i64 ((k+1:Nat):Int))) none none=some b∧fm Tryz.prog 3 273 b h=some (len - (k+1),cs.drop ((k+1) * 3)):=by
  refine ⟨_,s2,?_⟩
  obtain ⟨e,gP,bK⟩:=xM (P:=Tryz.prog) fd
  have b5:(cs.drop ((k+1) * 3)).all (·.one)=true:=List.all_eq_true.2 fun v aD=>List.all_eq_true.1 iC v (List.mem_of_mem_drop aD)
  unfold fm
  simp only [gP]
  by_cases ra:cap=k+1
  ·rw [if_pos ra]
   have dk:len - (k+1)=0:=by omega
   simp only [av,dk,Nat.zero_mul,List.take_zero]
   rw [if_pos ⟨by omega,rfl⟩,List.drop_of_length_le (by omega)]
  ·rw [if_neg ra,Nat.zero_add]
   simp only [av]
   rw [bM,if_pos ⟨by omega,b5⟩]
 obtain ⟨b,ak,dT⟩:=zB
 have jn:pW h 292 3 i k cap c ex (cs.take (k * 3)):=⟨hi,av,gX,by rw [←bJ,List.take_take,Nat.min_eq_left (by omega)],hu,fM,by omega⟩
 obtain ⟨j6,rG,n1,wi⟩:∃ j6,ma Tryz.prog 273 273 (.bc i 0 k cap) b h=some (.bc i 0 (len - 1) cap,h.set i (.cells j6 292 ex))∧j6.length=c.length∧j6.take ((len - 1) * 3)=cs.take (k * 3)++cs.drop ((k+1) * 3):=by
  obtain ⟨he,bK,bf,hG,eX,_⟩:=rZ (P:=Tryz.prog) vM
  unfold ma
  simp only [he,bK,bf,hG,dT,List.length_cons,List.length_nil,if_true,Nat.zero_add,Nat.reduceAdd]
  by_cases dk:len - (k+1)=0
  ·refine ⟨c,?_,rfl,?_⟩
   ·rw [if_pos dk,show len - 1=k by omega,Kb av]
   ·rw [show len - 1=k by omega,jn.2.2.2.1,List.drop_of_length_le (by omega),List.append_nil]
  ·refine ⟨lay c (k * 3) (cs.drop ((k+1) * 3)),?_,pd _ _ _ (by rw [jQ];omega),?_⟩
   ·rw [if_neg dk,if_pos ⟨by simp only [lim];omega,by simp only [lim];omega⟩]
    simp only [av]
    rw [if_pos hu,if_pos (by omega),if_pos (by omega),show k+(len - (k+1))=len - 1 by omega]
   ·rw [JD _ _ _ _ (by rw [jQ];omega) (by omega)]
    have:c.take ((len - 1) * 3)=cs.take (k * 3)++(c.drop (k * 3)).take ((len - 1 - k) * 3):=by
     rw [←jn.2.2.2.1,show (len - 1) * 3=k * 3+(len - 1 - k) * 3 by omega,List.take_add]
    rw [this,Q6 _ _ _ gX,List.drop_of_length_le (l:=(c.drop (k * 3)).take ((len - 1 - k) * 3)) (by rw [List.length_take,List.length_drop,jQ];omega),List.append_nil]
 obtain ⟨H1,dY⟩:∃ y,y=h.set i (.cells j6 292 ex):=⟨_,rfl⟩
 rw [←dY] at rG
 have g1:H1.get i=.cells j6 292 ex:=by rw [dY];exact aP
 have iy:=Ul (P:=Tryz.prog) (t:=273) (i:=i) (o:=0) (len:=len - 1) (cap:=cap) (k:=.i64) (k2:=.i64) (l:=len - 1) (m:=len) fd hu (by omega) iL
 rw [if_neg (by omega),Nat.zero_add] at iy
 have tw:xG Tryz.prog 273 (.bc i ((len - 1) * 3) (len - (len - 1)) (cap - (len - 1))) H1=some (H1.set i (.cells (lay j6 ((len - 1) * 3) (made [V.int .i64 0,V.complex .f64 0 0,V.int .i64 0] 1)) 292 ex)):=by
  obtain ⟨he,bK,bf,hG,eX,_⟩:=rZ (P:=Tryz.prog) vM
  unfold xG
  simp only [he,bK,g1]
  rw [show len - (len - 1)=1 by omega,if_neg (by decide),if_pos ⟨rfl,by rw [zU,n1];simp only [List.length_cons,List.length_nil];omega⟩]
 simp only [af,Nat.reduceEqDiff,reduceCtorEq,rn,sR,d1]
 refine aX.bk none_ [6] (.q 0 (.q 1 (.q 2 (.q 3 (.q 4 (.q 5 (.a 6 (.q 7 .done)))))))) (by kernel_rfl) (by kernel_rfl) (by kernel_rfl) ?_
 simp only [af,bN,Nat.reduceEqDiff,reduceCtorEq,rn,s1,ak,rG,iy,tw,aU,Tryz.results211,ac]
 refine aF ⟨.inr ⟨i,len - 1,cap,_,ex,rfl,by rw [jt,dY,jt];exact hi,aP,?_,?_,.inl ⟨hu,?_,by omega⟩⟩,?_,rfl⟩
 ·rw [List.length_append,gX,jQ];omega
 ·have hm:(made [V.int .i64 0,V.complex .f64 0 0,V.int .i64 0] 1).length=3:=rfl
  unfold lay
  rw [List.append_assoc,List.take_append_of_le_length (by rw [List.length_take];omega),List.take_take,Nat.min_self,wi]
 ·rw [pd _ _ _ (by rw [zU,n1];simp only [List.length_cons,List.length_nil];omega),n1];exact fM
 ·rw [dY];exact (J.set _ _ _).trans' (J.set _ _ _)
theorem alR (v:V) (k:Nat) (cs:List V) (h:I) (o:Own h 292 3 v cs) (az:cs.length<2 ^ 40) (hk:(k+1) * 3≤cs.length) (iC:cs.all (·.one)=true) :
  ae Tryz.prog 211 [v,.int .i64 (k:Nat),.int .i64 ((k+1:Nat):Int)] h
   (fun r h'=>Own h' 292 3 r (cs.take (k * 3)++cs.drop ((k+1) * 3))∧J h h' (bl v)∧bV h v r):=by
 refine ae.zp o (by decide) (fun aD au=>?_) fun i len cap c ex aa aD ok dj kk aG=>?_
 ·subst au;simp at hk
 ·have pF:aV v=some i:=by rcases aD with rfl | rfl<;>rfl
  have hlen:=ok.2.2.1
  refine (alQ i len cap k c cs ex aa ok (by omega) (by omega) iC).mono fun r h' ⟨o',k',n'⟩=>⟨o',(kk.trans' k').mono fun q ad=>by subst ad;exact pF,.inl (by rw [n',pF])⟩
def iF (x y:Int):Int:=if x<y then -1 else if y<x then 1 else 0
theorem Ye (h:I) (x:Int):Pure Tryz.prog 251 [.int .i64 x] h (.bool false):=by
 refine Pure.val (bj.bool _) ?_
 refine ae.ax (c:=_) Tryz.func251 rfl (by kernel_rfl) (by simp) ?_
 have e:(x !=x)=false:=by simp
 simp only [af,Nat.reduceEqDiff,reduceCtorEq,aU,Tryz.results251,ac]
 exact aF ⟨rfl,J.refl _ _⟩
theorem Ik (h:I) (x y:Int):Pure Tryz.prog 203 [.int .i64 x,.int .i64 y] h (.int .i64 (iF x y)):=by
 refine Pure.val (bj.int _ _) ?_
 refine ae.ax (c:=_) Tryz.func203 rfl (by kernel_rfl) (by simp) ?_
 simp only [af,Int.reduceNeg,Nat.reduceEqDiff,reduceCtorEq]
 refine bU Wa (Ye h x) ?_
 simp only [af,Int.reduceNeg,Nat.reduceEqDiff]
 refine bU Wa (Ye h y) ?_
 by_cases h1:x<y
 ·have d1:decide (x<y)=true:=decide_eq_true h1
  simp only [af,Int.reduceNeg,Nat.reduceEqDiff,reduceCtorEq,d1,aU,Tryz.results203,ac]
  exact aF ⟨by rw [iF,if_pos h1],J.refl _ _⟩
 ·have d1:decide (x<y)=false:=decide_eq_false h1
  by_cases aa:y<x
  ·have d2:decide (y<x)=true:=decide_eq_true aa
   simp only [af,Int.reduceNeg,Nat.reduceEqDiff,reduceCtorEq,d1,d2,aU,Tryz.results203,ac]
   exact aF ⟨by rw [iF,if_neg h1,if_pos aa],J.refl _ _⟩
  ·have d2:decide (y<x)=false:=decide_eq_false aa
   simp only [af,Int.reduceNeg,Nat.reduceEqDiff,reduceCtorEq,d1,d2,aU,Tryz.results203,ac]
   exact aF ⟨by rw [iF,if_neg h1,if_neg aa],J.refl _ _⟩
def lE (l:List Int):Int:=match l with | []=>0 | x::r=>if x=0 then lE r else x
theorem Yf (h:I) (l:List Int) (az:l.length≤2 ^ 40):Pure Tryz.prog 202 [.ai l.length (aY l)] h (.int .i64 (lE l)):=by
 refine Pure.val (bj.int _ _) ?_
 refine ae.ax (c:=_) Tryz.func202 rfl (by kernel_rfl) (by simp) ?_
 simp only [af,Nat.reduceEqDiff,reduceCtorEq,qF]
 refine aX.b9 (α:=Nat) (fun x f h'=>h'=h∧f 3=.int .i64 0∧f 6=.ai l.length (aY l)∧f 7=.int .i64 (l.length:Nat)∧f 8=.int .i64 (x:Nat)∧x≤l.length∧lE l=lE (l.drop x)) (fun x=>l.length - x) 0
  ⟨rfl,rfl,rfl,rfl,rfl,Nat.zero_le _,rfl⟩ ?_
 rintro t f h' ⟨rfl,f3,f6,f7,f8,bq,aR⟩
 refine am (by kernel_rfl) ?_
 by_cases aN:t<l.length
 ·have d1:decide ((t:Int)<((l.length:Nat):Int))=true:=decide_eq_true (by omega)
  have hw:IntKind.i64.wrap ((t:Int)+1)=((t+1:Nat):Int):=by rw [Go.IntWalk.i64_in _ (by omega)];omega
  have ck:∃ r,hA Tryz.prog 24 (.ai l.length (aY l)) (.int .i64 (t:Int))=some (.at (.int .i64 l[t]::r)):=⟨_,TX (V.int .i64) aN mF⟩
  obtain ⟨r,ck⟩:=ck
  rw [List.drop_eq_getElem_cons aN,lE] at aR
  generalize l[t]=x at ck aR
  by_cases ag:x=0
  ·have aw:(x !=0)=false:=by simp [ag]
   rw [if_pos ag] at aR
   simp only [af,Nat.reduceEqDiff,bn,f3,f6,f7,f8,d1,ck,aw,hw]
   exact aF ⟨t+1,⟨rfl,f3,f6,f7,rfl,aN,aR⟩,by omega⟩
  ·have aw:(x !=0)=true:=by simp [ag]
   rw [if_neg ag] at aR
   simp only [af,Nat.reduceEqDiff,bn,f3,f6,f7,f8,d1,ck,aw,aU,Tryz.results202,ac]
   exact aF ⟨by rw [aR],J.refl _ _⟩
 ·have d1:decide ((t:Int)<((l.length:Nat):Int))=false:=decide_eq_false (by omega)
  rw [List.drop_of_length_le (by omega)] at aR
  simp only [af,Nat.reduceEqDiff,f3,f7,f8,d1,aU,Tryz.results202,ac]
  exact aF ⟨by rw [aR];rfl,J.refl _ _⟩
def yI (a b:aj):Int:=lE [iF a.key b.key,iF a.aJ b.aJ,iF a.to b.to]
theorem alS (a b:aj):decide (yI a b<0)=decide (eu a b):=by
 refine decide_eq_decide.2 ?_
 unfold yI lE lE lE lE iF eu
 repeat' split
 all_goals omega
theorem alT (a b:aj):(yI a b==0)=e8 a b:=by
 rw [Bool.eq_iff_iff,kx]
 unfold yI lE lE lE lE iF
 simp only [beq_iff_eq]
 repeat' split
 all_goals omega
theorem Yg (a b:aj) (aO:ig a) (ak:ig b) (h:I):Pure Tryz.prog 254 [.agg (br a),.agg (br b)] h (.int .i64 (yI a b)):=by
 refine Pure.val (bj.int _ _) ?_
 refine ae.ax (c:=_) Tryz.func254 rfl (by kernel_rfl) (by simp) ?_
 have qQ:=d8 a
 have JP:=d8 b
 simp only [af,Nat.reduceEqDiff,qQ,JP]
 refine aX.bk none_ [15,16] (.q 0 (.q 1 (.q 2 (.q 3 (.c 4 (.q 5 (.c 6 (.q 7 (.c 8 (.c 9 (.q 10 (.c 11 (.q 12 (.c 13 (.c 14 (.e 15 (.a 16 (.q 17 .done)) .stop)))))))))))))))) (by kernel_rfl) (by kernel_rfl) (by kernel_rfl) ?_
 simp only [af,bN,Nat.reduceEqDiff,Nat.reduceAdd,Cv,bx]
 refine ix rfl rfl rfl (fun h' _=>Ik h' a.key b.key) ?_
 simp only [af,bN,Nat.reduceEqDiff,Nat.reduceAdd,jZ]
 refine ix rfl rfl rfl (fun h' _=>CY a aO h') ?_
 simp only [af,bN,Nat.reduceEqDiff,Nat.reduceAdd,jZ]
 refine ix rfl rfl rfl (fun h' _=>CY b ak h') ?_
 simp only [bN]
 refine ix rfl rfl rfl (fun h' _=>Ik h' a.aJ b.aJ) ?_
 simp only [af,bN,Nat.reduceEqDiff,Nat.reduceAdd,jZ]
 refine ix rfl rfl rfl (fun h' _=>CZ a aO h') ?_
 simp only [af,bN,Nat.reduceEqDiff,Nat.reduceAdd,jZ]
 refine ix rfl rfl rfl (fun h' _=>CZ b ak h') ?_
 simp only [bN]
 refine ix rfl rfl rfl (fun h' _=>Ik h' a.to b.to) ?_
 unfold yI
 generalize iF a.key b.key=x
 generalize iF a.aJ b.aJ=y
 generalize iF a.to b.to=z
 have Q8:∀ H:I,kI Tryz.prog 24 3 [(0,.int .i64 x),(1,.int .i64 y),(2,.int .i64 z)] H=some (.bc H.n 0 3 3,H.push (.cells (aY [x,y,z]) 3 none)):=fun H=>by rw [qA uA];rfl
 obtain ⟨h0,DU⟩:∃ y,y=(h.push (.cells (br a) 292 none)).push (.cells (br b) 292 none):=⟨_,rfl⟩
 have eJ:J h h0 none_:=by rw [DU];exact (J.push _ _ _).bg _
 unfold br at DU
 simp only [af,bN,Nat.reduceEqDiff,Q8]
 rw [←DU]
 obtain ⟨aa,bD,k2⟩:=aM.lit (h:=h0) (c:=aY [x,y,z]) (e:=3) (n:=3) (sz:=1) rfl (by decide) (by decide)
 rw [show h0.n=h.n+1+1 by rw [DU];rfl] at bD
 refine cy V7 (ae.args (aB.cons bD (aB.refl _ _)) (Yf aa [x,y,z] (by simp only [List.length_cons,List.length_nil];omega))) fun r aC ⟨cJ,km⟩=>?_
 subst cJ
 simp only [af,bN,Nat.reduceEqDiff,aU,Tryz.results254,ac]
 refine aF ⟨rfl,?_⟩
 rw [km]
 exact eJ.trans' k2
theorem alU (l:List aj) (k:Nat) (p:aj) (hk:k<l.length):lay (l.flatMap br) (k * 3) (br p)=(l.set k p).flatMap br:=by
 unfold lay
 rw [zl sU,show k * 3+(br p).length=(k+1) * 3 by rw [sU];omega,vF sU,List.set_eq_take_append_cons_drop,if_pos hk]
 simp
theorem xl {h:I} {v:V} {l:List aj} (o:Own h 292 3 v (l.flatMap br)) {t:Nat} {p:aj} (aZ:l[t]?=some p) :
  ∃ j r,hA Tryz.prog 273 v (.int .i64 (t:Int))=some (.ptr j (t * 3))∧aV v=some j∧j<h.n∧dB (h.get j) (t * 3)=some (br p++r) ∧
   ∀ q:aj,∃ ob,bR (some 3) (h.get j) (t * 3) (br q)=some ob∧Own (h.set j ob) 292 3 v ((l.set t q).flatMap br)∧J h (h.set j ob) (bl v):=by
 have bq:=(List.getElem?_eq_some_iff.1 aZ).1
 have aH:(l.flatMap br).length=l.length * 3:=j7 sU l
 have a7:((l.flatMap br).drop (t * 3)).take 3=br p:=by
  rw [vF sU,show 3=1 * 3 from rfl,zl sU,List.drop_eq_getElem_cons bq,(List.getElem?_eq_some_iff.1 aZ).2]
  simp
 obtain ⟨j,cG,a2,a3,a4,a5⟩:=Ph (P:=Tryz.prog) (t:=273) (kk:=.i64) fd (by decide) o (k:=t) (by rw [aH];omega)
 obtain ⟨k9,h0⟩:=a4 h 0 rfl (by decide)
 rw [a7,List.drop_zero,Nat.add_zero] at h0
 refine ⟨j,k9,cG,a2,a3,h0,fun q=>?_⟩
 obtain ⟨ob,bh,bD,c3⟩:=a5 (br q) (sU q) (Lq q)
 rw [alU l t q bq] at bD
 exact ⟨ob,bh,bD,c3⟩
theorem Yh {h h':I} {v:V} {l:List aj} (o:Own h 292 3 v (l.flatMap br)):dU Tryz.prog 273 v h'=some (.int .i64 (l.length:Nat)):=by
 have aH:(l.flatMap br).length=l.length * 3:=j7 sU l
 have:=o.length (by decide) Tryz.prog rn
 rw [aH,Nat.mul_div_cancel _ (by decide)] at this
 rw [←this]
 rcases o with ⟨rfl | rfl,_⟩ | ⟨j,n,c,_,_,rfl,_⟩
 ·rw [Am rn,Am rn]
 ·rw [BV rn,BV rn]
 ·rw [BU rn,BU rn]
theorem Ls (p:aj) (r:List V):dv (some (some 3)) (some (br p++r))=some (.agg (br p)):=nN (sU p)
theorem Q9 (v:V) (l:List aj) (x:aj) (h:I) (o:Own h 292 3 v (l.flatMap br)) (U:ez l) (a1:∀ y ∈ l,ig y) (ag:ig x) (az:l.length<2 ^ 40) :
  Pure Tryz.prog 253 [v,.agg (br x),.func (.func 254) [] []] h (.tuple [.int .i64 (cV l x:Nat),.bool (df l x)]):=by
 refine Pure.val (bj.tuple (bo.cons (bj.int _ _) (bo.cons (bj.bool _) bo.nil))) ?_
 refine ae.ax (c:=_) Tryz.func253 rfl (by kernel_rfl) (by simp) ?_
 obtain ⟨H,hH⟩:∃ y,y=h.push (.cells (br x) 292 none):=⟨_,rfl⟩
 have jL:H.get h.n=.cells (br x) 292 none:=by rw [hH];exact cA
 have bA:J h H none_:=by rw [hH];exact J.push _ _ _
 have Ra:=o.ba bA
 have C1:=d8 x
 have hlen:=Yh (h':=H) Ra
 have xm:dv (some (some 3)) (some (br x))=some (.agg (br x)):=rfl
 have C2:dB (bb.cells (br x) 292 none) 0=some (br x):=rfl
 unfold br at hH
 simp only [af,Nat.reduceEqDiff,reduceCtorEq,C1]
 rw [←hH]
 clear hH
 have CS:=X0 l x
 simp only [af,Nat.reduceEqDiff,hlen]
 refine aX.b9 (α:=Nat×Nat) (fun z f h'=>h'=H∧f 0=v∧f 2=.func (.func 254) [] []∧f 4=.ptr h.n 0∧f 8=.int .i64 (l.length:Nat)∧f 9=.int .i64 (z.1:Nat)∧f 10=.int .i64 (z.2:Nat)∧z.1≤cV l x∧cV l x≤z.2∧z.2≤l.length) (fun z=>z.2 - z.1) (0,l.length)
  ⟨rfl,rfl,rfl,rfl,rfl,rfl,rfl,Nat.zero_le _,CS,Nat.le_refl _⟩ ?_
 rintro ⟨lo,hi⟩ f h' ⟨rfl,f0,f2,f4,f8,f9,f10,cG,a2,a3⟩
 simp only at f9 f10 cG a2 a3
 refine am (by kernel_rfl) ?_
 by_cases aN:lo<hi
 ·have d1:decide ((lo:Int)<(hi:Int))=true:=decide_eq_true (by omega)
  have c2:IntKind.i64.wrap ((lo:Int)+(hi:Int))=((lo+hi:Nat):Int):=by rw [Go.IntWalk.i64_in _ (by omega)];omega
  have bX:=O1 (n:=lo+hi) (by omega)
  have k8:(((lo+hi:Nat):Int)).fdiv (2 ^ (min (Int.toNat 1) IntKind.u64.bits))=(((lo+hi) / 2:Nat):Int):=by
   rw [show (2:Int) ^ (min (Int.toNat 1) IntKind.u64.bits)=2 from rfl,Int.fdiv_eq_ediv_of_nonneg _ (by omega)];omega
  have wI:=TY (n:=(lo+hi) / 2) (by omega)
  have B8:=oq (i:=(lo+hi) / 2) (n:=l.length) (by omega) (by omega)
  have uL:(lo+hi) / 2<l.length:=by omega
  have aZ:l[(lo+hi) / 2]?=some l[(lo+hi) / 2]:=List.getElem?_eq_getElem uL
  generalize l[(lo+hi) / 2]=p at aZ
  obtain ⟨j,r,ck,dW,x6,x7,_⟩:=xl Ra aZ
  have ld:=Ls p r
  have fH:=a1 p (List.mem_of_getElem? aZ)
  simp only [af,Nat.reduceEqDiff,f9,f10,d1,c2,lR iB Hn,bX,F6 (show (0:Int)≤1 by decide),k8,lR Hn iB,wI]
  refine aX.bk none_ [] (.q 0 (.q 1 (.q 2 (.q 3 (.q 4 (.q 5 (.c 6 (.q 7 .done)))))))) (by kernel_rfl) (by kernel_rfl) (by kernel_rfl) ?_
  simp only [af,bN,Nat.reduceEqDiff,reduceCtorEq,jZ,f0,f2,f4,ck,x7,ld,jL,C2,xm]
  refine ix rfl rfl rfl (fun h' _=>Yg p x fH ag h') ?_
  have au:=alS p x
  cases DV:decide (eu p x)
  ·rw [DV] at au
   have aG:¬eu p x:=of_decide_eq_false DV
   have:¬(lo+hi) / 2<cV l x:=fun ab=>aG (U.Ig ab aZ)
   simp only [af,bN,Nat.reduceEqDiff,au]
   exact aF ⟨(lo,(lo+hi) / 2),⟨rfl,f0,f2,f4,f8,f9,rfl,cG,by simp only;omega,by simp only;omega⟩,by simp only;omega⟩
  ·rw [DV] at au
   have aG:eu p x:=of_decide_eq_true DV
   have:¬cV l x≤(lo+hi) / 2:=fun ab=>U.xi ab aZ aG
   simp only [af,bN,Nat.reduceEqDiff,au,B8]
   exact aF ⟨((lo+hi) / 2+1,hi),⟨rfl,f0,f2,f4,f8,rfl,f10,by simp only;omega,a2,a3⟩,by simp only;omega⟩
 ·have d1:decide ((lo:Int)<(hi:Int))=false:=decide_eq_false (by omega)
  obtain rfl:lo=cV l x:=by omega
  by_cases uB:cV l x<l.length
  ·have d2:decide (((cV l x:Nat):Int)<((l.length:Nat):Int))=true:=decide_eq_true (by omega)
   have aZ:l[cV l x]?=some l[cV l x]:=List.getElem?_eq_getElem uB
   generalize l[cV l x]=p at aZ
   obtain ⟨j,r,ck,dW,x6,x7,_⟩:=xl Ra aZ
   have ld:=Ls p r
   have fH:=a1 p (List.mem_of_getElem? aZ)
   have au:=alT p x
   have ab:e8 p x=df l x:=by
    rcases U.gZ x with ⟨aw,q,aW,cJ,_⟩ | ⟨aw,aW⟩
    ·rw [aZ] at aW;cases aW;rw [aw,cJ]
    ·rw [aw];exact (aW p aZ).2
   rw [ab] at au
   simp only [af,Nat.reduceEqDiff,f9,f10,d1]
   refine aX.bk none_ [] (.q 0 (.q 1 (.q 2 (.q 3 (.q 4 (.q 5 (.q 6 (.q 7 (.q 8 (.q 9 (.q 10 (.c 11 (.q 12 (.q 13 (.q 14 (.q 15 .done)))))))))))))))) (by kernel_rfl) (by kernel_rfl) (by kernel_rfl) ?_
   simp only [af,bN,Nat.reduceEqDiff,reduceCtorEq,jZ,f0,f2,f4,f8,f9,d2,ck,x7,ld,jL,C2,xm]
   refine ix rfl rfl rfl (fun h' _=>Yg p x fH ag h') ?_
   simp only [af,bN,Nat.reduceEqDiff,au,aU,Tryz.results253,dn]
   exact aF ⟨rfl,bA⟩
  ·have d2:decide (((cV l x:Nat):Int)<((l.length:Nat):Int))=false:=decide_eq_false (by omega)
   have ab:df l x=false:=by
    rcases U.gZ x with ⟨aw,q,aW,cJ,_⟩ | ⟨aw,aW⟩
    ·have:=(List.getElem?_eq_some_iff.1 aW).1;omega
    ·exact aw
   simp only [af,Nat.reduceEqDiff,f9,f10,d1]
   refine aX.bk none_ [] (.q 0 (.q 1 (.q 2 (.q 3 (.q 4 (.q 5 (.q 6 (.q 7 (.q 8 (.q 9 (.q 10 (.c 11 (.q 12 (.q 13 (.q 14 (.q 15 .done)))))))))))))))) (by kernel_rfl) (by kernel_rfl) (by kernel_rfl) ?_
   simp only [af,bN,Nat.reduceEqDiff,f8,f9,d2]
   refine Kq rfl rfl ?_
   simp only [af,bN,Nat.reduceEqDiff,aU,Tryz.results253,dn]
   exact aF ⟨by rw [ab],bA⟩
end Go.Proofs.YtedkjhifbibpmaaGreatDoor.Pk
