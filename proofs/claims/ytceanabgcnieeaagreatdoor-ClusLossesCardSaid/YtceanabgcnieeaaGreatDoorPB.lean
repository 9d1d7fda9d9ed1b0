/-
  What functions of the program do, told of abstract states. Conditions: as each theorem says.
-/
import Derived.Test.YtceanabgcnieeaaGreatDoorPA
import Derived.Test.YtceanabgcnieeaaGreatDoorAbC
import Derived.Test.YtceanabgcnieeaaGreatDoorAbB
import Derived.Shelf.SlSortCmp.WholeK
import Derived.Test.YtceanabgcnieeaaGreatDoorProg
set_option linter.unusedVariables false
set_option linter.unusedSimpArgs false
set_option maxHeartbeats 4000000
set_option maxRecDepth 20000
namespace Go.Proofs.YtceanabgcnieeaaGreatDoor.Pk
open Go Go.Proofs Go.Proofs.YtceanabgcnieeaaGreatDoor.Ab
def b5 (p:Int×List dn):List V:=[.int .i64 p.1,.an p.2.length (dW p.2),.an p.2.length (eF p.2)]
def pI (t:Int) (j:iu):List V:=[.int .i64 t,.int .i64 j.ep,.int .i64 j.tx,.an j.bA.length (bl j.bA),.an j.ord.length (bl j.ord),.int .i64 0,.an j.opn.length (mh j.opn)]
theorem CF (p:Int×List dn):(b5 p).length=3:=rfl
theorem CG (rs:List dn):(eF rs).length=rs.length * 1:=by simp [eF]
theorem aiJ (l:List (bk×Nat)):(mh l).length=l.length * 12:=kF Ft l
theorem Kk {v v2:V} {h ab:I} (a:aV v h v2 ab):aS [v] h [v2] ab:=aS.cons a (aS.refl [] ab)
theorem aiK {h:I} {ow:eT} {b:Nat} {k:Int} {rs:List dn} (a:lg h ow b k rs) (hold:∀ q a8,ow q=some a8→q<h.n) :
  ∃ U,(∀ r,aV r h r U)∧aa h U (fun q=>∃ i,ow q=some (0,k,i))∧U.get b=.cells (b5 (k,rs)) 46 none:=by
 obtain ⟨rv,dv,g,c0,cw,t0,t1,t2⟩:=a
 obtain ⟨h1,bf,bj⟩:=aV.own (cs:=dW rs) c0 (n:=rs.length) (zQ rs) (by decide)
 have x2:=cw.au bj fun j aC ad=>by have a:=t1 j ad;have b:=t2 j aC;rw [a] at b;simp at b
 obtain ⟨ab,bx,k2⟩:=aV.own (cs:=eF rs) x2 (n:=rs.length) (CG rs) (by decide)
 have ar:=hold _ _ t0
 have nF:¬aW rv b:=fun ad=>by have:=t1 b ad;rw [t0] at this;simp at this
 have oC:¬aW dv b:=fun ad=>by have:=t2 b ad;rw [t0] at this;simp at this
 have g2:ab.get b=_:=(k2.get b (by have:=bj.n;omega) oC).trans ((bj.get b ar nF).trans g)
 have cr:aS [.int .i64 k,rv,dv] h [.int .i64 k,.an rs.length (dW rs),.an rs.length (eF rs)] ab:=aS.cons (aV.refl _ _) (aS.cons bf (Kk bx))
 refine ⟨ab.set b (.cells (b5 (k,rs)) 46 none),fun r=>aV.sk g cr g2 rfl r,?_,e4⟩
 exact ((bj.mono (o':=fun q=>∃ i,ow q=some (0,k,i)) fun q ad=>⟨1,t1 q ad⟩).trans k2 fun q ae ad=>⟨2,t2 q ad⟩).trans (aa.set _ _ _) fun q ae ad=>⟨0,by rw [ad];exact t0⟩
theorem aiL {h:I} {ow:eT} {b:Nat} {t:Int} {j:iu} (a:jC h ow b t j) (hold:∀ q a8,ow q=some a8→q<h.n) :
  ∃ U,(∀ r,aV r h r U)∧aa h U (fun q=>∃ i,ow q=some (1,t,i))∧U.get b=.cells (pI t j) 198 none:=by
 obtain ⟨j6,fr,pv,g,aB,c0,cw,t0,t1,t2⟩:=a
 obtain ⟨h1,bf,bj⟩:=aV.own c0 (n:=j.ord.length) (by rw [l9,Nat.mul_one]) (by decide)
 have x2:=cw.au bj fun q aC ad=>by have a:=t1 q ad;have b:=t2 q aC;rw [a] at b;simp at b
 obtain ⟨ab,bx,k2⟩:=aV.own (cs:=mh j.opn) x2 (n:=j.opn.length) (aiJ j.opn) (by decide)
 have ar:=hold _ _ t0
 have nF:¬aW fr b:=fun ad=>by have:=t1 b ad;rw [t0] at this;simp at this
 have oC:¬aW pv b:=fun ad=>by have:=t2 b ad;rw [t0] at this;simp at this
 have g2:ab.get b=_:=(k2.get b (by have:=bj.n;omega) oC).trans ((bj.get b ar nF).trans g)
 have cf:aV j6 h (.an j.bA.length (bl j.bA)) h:=by
  rcases aB with ⟨rfl,e⟩ | rfl
  ·rw [e];exact aV.s4 h
  ·exact aV.refl _ h
 have cr:aS [.int .i64 t,.int .i64 j.ep,.int .i64 j.tx,j6,fr, .int .i64 0,pv] h [.int .i64 t,.int .i64 j.ep,.int .i64 j.tx,.an j.bA.length (bl j.bA),.an j.ord.length (bl j.ord),.int .i64 0,.an j.opn.length (mh j.opn)] ab:=aS.cons (aV.refl _ _) (aS.cons (aV.refl _ _) (aS.cons (aV.refl _ _) (aS.cons cf (aS.cons bf (aS.cons (aV.refl _ _) (Kk bx))))))
 refine ⟨ab.set b (.cells (pI t j) 198 none),fun r=>aV.sk g cr g2 rfl r,?_,e4⟩
 exact ((bj.mono (o':=fun q=>∃ i,ow q=some (1,t,i)) fun q ad=>⟨1,t1 q ad⟩).trans k2 fun q ae ad=>⟨2,t2 q ad⟩).trans (aa.set _ _ _) fun q ae ad=>⟨0,by rw [ad];exact t0⟩
theorem Ul {ow:eT} {logs:Int→List dn}:∀ (fi:hK) (h:I),dJ fi→(∀ e ∈ fi,lg h ow e.2.2 e.2.1 (logs e.2.1))→(∀ q a8,ow q=some a8→q<h.n) →
  ∃ U,(∀ r,aV r h r U)∧aa h U (fun q=>∃ e ∈ fi,∃ i,ow q=some (0,e.2.1,i))∧∀ e ∈ fi,U.get e.2.2=.cells (b5 (e.2.1,logs e.2.1)) 46 none
 | [],h,_,_,_=>⟨h,fun r=>aV.refl r h,aa.refl _ _,by simp⟩
 | e::fi,h,aJ,aL,av=>by
  have jh:=List.nodup_cons.1 aJ
  have bc:∀ x ∈ fi,x.2.1≠e.2.1:=fun x af ad=>jh.1 (List.mem_map.2 ⟨x,af,ad⟩)
  have FF:=aL e (by simp)
  have t0:=FF
  obtain ⟨_,_,_,_,_,t0,_⟩:=t0
  obtain ⟨h1,bf,bj,g1⟩:=aiK FF av
  have kV:∀ q a8,ow q=some a8→q<h1.n:=fun q a8 ae=>Nat.lt_of_lt_of_le (av q a8 ae) bj.n
  obtain ⟨ab,bx,k2,g2⟩:=Ul fi h1 jh.2 (fun x af=>(aL x (by simp [af])).on bj (fun q ⟨i,ad⟩ i2 he=>by rw [ad] at he;simp at he;exact bc x af he.1.symm) (fun _ _ ad=>ad) av) kV
  refine ⟨ab,fun r=>(bf r).trans (bx r),(bj.mono (o':=fun q=>∃ x ∈ e::fi,∃ i,ow q=some (0,x.2.1,i)) fun q ⟨i,ad⟩=>⟨e,by simp,i,ad⟩).trans k2 fun q ae ⟨x,af,i,ad⟩=>⟨x,by simp [af],i,ad⟩,fun x af=>?_⟩
  rcases List.mem_cons.1 af with rfl | af
  ·rw [k2.get _ (kV _ _ t0) (fun ⟨y,aX,i,ad⟩=>by rw [t0] at ad;simp at ad;exact bc y aX ad.1.symm)]
   exact g1
  ·exact g2 x af
theorem Um {ow:eT} {jobs:Int→iu}:∀ (fi:hK) (h:I),dJ fi→(∀ e ∈ fi,jC h ow e.2.2 e.2.1 (jobs e.2.1))→(∀ q a8,ow q=some a8→q<h.n) →
  ∃ U,(∀ r,aV r h r U)∧aa h U (fun q=>∃ e ∈ fi,∃ i,ow q=some (1,e.2.1,i))∧∀ e ∈ fi,U.get e.2.2=.cells (pI e.2.1 (jobs e.2.1)) 198 none
 | [],h,_,_,_=>⟨h,fun r=>aV.refl r h,aa.refl _ _,by simp⟩
 | e::fi,h,aJ,aL,av=>by
  have jh:=List.nodup_cons.1 aJ
  have bc:∀ x ∈ fi,x.2.1≠e.2.1:=fun x af ad=>jh.1 (List.mem_map.2 ⟨x,af,ad⟩)
  have FF:=aL e (by simp)
  have t0:=FF
  obtain ⟨_,_,_,_,_,_,_,t0,_⟩:=t0
  obtain ⟨h1,bf,bj,g1⟩:=aiL FF av
  have kV:∀ q a8,ow q=some a8→q<h1.n:=fun q a8 ae=>Nat.lt_of_lt_of_le (av q a8 ae) bj.n
  obtain ⟨ab,bx,k2,g2⟩:=Um fi h1 jh.2 (fun x af=>(aL x (by simp [af])).on bj (fun q ⟨i,ad⟩ i2 he=>by rw [ad] at he;simp at he;exact bc x af he.1.symm) (fun _ _ ad=>ad) av) kV
  refine ⟨ab,fun r=>(bf r).trans (bx r),(bj.mono (o':=fun q=>∃ x ∈ e::fi,∃ i,ow q=some (1,x.2.1,i)) fun q ⟨i,ad⟩=>⟨e,by simp,i,ad⟩).trans k2 fun q ae ⟨x,af,i,ad⟩=>⟨x,by simp [af],i,ad⟩,fun x af=>?_⟩
  rcases List.mem_cons.1 af with rfl | af
  ·rw [k2.get _ (kV _ _ t0) (fun ⟨y,aX,i,ad⟩=>by rw [t0] at ad;simp at ad;exact bc y aX ad.1.symm)]
   exact g1
  ·exact g2 x af
structure rl (ay h:I) (lm bY:Nat) (s:ky) (L:hK) (lc:Nat) (T:hK) (c8:Nat):Prop where
 au:aa ay h none_
 x3:lm<h.n
 x4:bY<h.n
 cJ:h.get lm=.map (fW L) lc
 gt:h.get bY=.map (fW T) c8
 j0:dw (fW L) lc
 j1:dw (fW T) c8
 ib:dJ L
 ic:dJ T
 has:∀ k b,bq L k=some b→h.get b=.cells (b5 (k,s.logs k)) 46 none∧s.logs k≠[]∧b<h.n
 hL:∀ k,bq L k=none→s.logs k=[]
 hM:∀ t b,bq T t=some b→∃ j,s.tasks t=some j∧h.get b=.cells (pI t j) 198 none∧b<h.n
 hN:∀ t,bq T t=none→s.tasks t=none
theorem rl.on {ay h U:I} {lm bY lc c8:Nat} {s:ky} {L T:hK} (w:rl ay h lm bY s L lc T c8) (k:aa h U none_):rl ay U lm bY s L lc T c8 where
 au:=w.au.trans' k
 x3:=Nat.lt_of_lt_of_le w.x3 k.n
 x4:=Nat.lt_of_lt_of_le w.x4 k.n
 cJ:=(k.get lm w.x3 (by simp [none_])).trans w.cJ
 gt:=(k.get bY w.x4 (by simp [none_])).trans w.gt
 j0:=w.j0
 j1:=w.j1
 ib:=w.ib
 ic:=w.ic
 has q b ae:=⟨(k.get b (w.has q b ae).2.2 (by simp [none_])).trans (w.has q b ae).1,(w.has q b ae).2.1,Nat.lt_of_lt_of_le (w.has q b ae).2.2 k.n⟩
 hL:=w.hL
 hM t b ae:=by
  obtain ⟨j,h1,ab,aI⟩:=w.hM t b ae
  exact ⟨j,h1,(k.get b aI (by simp [none_])).trans ab,Nat.lt_of_lt_of_le aI k.n⟩
 hN:=w.hN
theorem hp.freeze {ay h:I} {lm bY lc c8:Nat} {s:ky} {L T:hK} {ow:eT} (w:hp ay h lm bY s.logs s.tasks L lc T c8 ow):∃ U,(∀ r,aV r h r U)∧rl ay U lm bY s L lc T c8:=by
 have hold:∀ q a8,ow q=some a8→q<h.n:=fun q a8 ae=>(w.bt q a8 ae).2
 obtain ⟨h1,bf,bj,g1⟩:=Ul (logs:=s.logs) L h w.ib (fun e he=>(w.has _ _ (fL w.ib he)).1) hold
 have aC:∀ e ∈ T,jC h ow e.2.2 e.2.1 (b8 s e.2.1):=fun e he=>by
  obtain ⟨j,h1,ab⟩:=w.hM _ _ (fL w.ic he)
  unfold b8
  rw [h1]
  exact ab
 have Bo:∀ q a8,ow q=some a8→q<h1.n:=fun q a8 ae=>Nat.lt_of_lt_of_le (hold q a8 ae) bj.n
 obtain ⟨ab,bx,k2,g2⟩:=Um (jobs:=b8 s) T h1 w.ic (fun e he=>(aC e he).on bj (fun q ⟨x,af,i,ad⟩ i2 aI=>by rw [ad] at aI;simp at aI) (fun _ _ ad=>ad) hold) Bo
 have kk:aa h ab (fun q=>∃ a k i,ow q=some (a,k,i)∧a<2):=(bj.mono (o':=fun q=>∃ a k i,ow q=some (a,k,i)∧a<2) fun q ⟨x,af,i,ad⟩=>⟨0,_,i,ad,by decide⟩).trans k2 fun q ae ⟨x,af,i,ad⟩=>⟨1,_,i,ad,by decide⟩
 have c9:=bj.n
 have fw:=k2.n
 refine ⟨ab,fun r=>(bf r).trans (bx r),w.au.trans kk (fun q ae ⟨a,k,i,ad,_⟩=>by have:=(w.bt _ _ ad).1;omega),by have:=hold _ _ w.fG;omega,by have:=hold _ _ w.gk;omega,
  (kk.get lm (hold _ _ w.fG) (fun ⟨a,k,i,ad,ab⟩=>by rw [w.fG] at ad;simp at ad;omega)).trans w.cJ,(kk.get bY (hold _ _ w.gk) (fun ⟨a,k,i,ad,ab⟩=>by rw [w.gk] at ad;simp at ad;omega)).trans w.gt,
  w.j0,w.j1,w.ib,w.ic,fun k b ar=>?_,w.hL,fun t b ar=>?_,w.hN⟩
 ·obtain ⟨e,he,a6⟩:=zl ar
  obtain ⟨N5,aiM,Dh⟩:=e
  simp only [Prod.mk.injEq] at a6
  obtain ⟨rfl,rfl⟩:=a6
  obtain ⟨⟨_,_,_,_,_,t0,_⟩,bc⟩:=w.has _ _ ar
  exact ⟨(k2.get _ (Bo _ _ t0) (fun ⟨x,af,i,ad⟩=>by rw [t0] at ad;simp at ad)).trans (g1 _ he),bc,by have:=hold _ _ t0;omega⟩
 ·obtain ⟨e,he,a6⟩:=zl ar
  obtain ⟨N5,aiM,Dh⟩:=e
  simp only [Prod.mk.injEq] at a6
  obtain ⟨rfl,rfl⟩:=a6
  obtain ⟨j,h1,a⟩:=w.hM _ _ ar
  obtain ⟨_,_,_,_,_,_,_,t0,_⟩:=a
  refine ⟨j,h1,?_,by have:=hold _ _ t0;omega⟩
  have:=g2 _ he
  simp only [b8,h1,Option.getD_some] at this
  exact this
structure mM where
 t:Int
 ep:Int
 tx:Int
 bA:List Int
 ord:List Int
 opn:Nat
 deriving DecidableEq
structure FG where
 logs:List (Int×List dn)
 tasks:List mM
 looked:Nat
def eV (x:mM):List V:=[.int .i64 x.t,.int .i64 x.ep,.int .i64 x.tx,.an x.bA.length (bl x.bA),.an x.ord.length (bl x.ord),.int .i64 (x.opn:Nat)]
theorem N6 (x:mM):(eV x).length=6:=rfl
def ig (t:FG):List V:=[.an t.logs.length (t.logs.flatMap b5),.an t.tasks.length (t.tasks.flatMap eV),.int .i64 (t.looked:Nat)]
theorem Un (rs:List dn):aO (dW rs):=Ml (enc:=fun p:dn=>dh p.1) (fun p=>aic p.1) rs
theorem N7:∀ rs:List dn,aO (eF rs)
 | []=>aO.nil
 | p::rs=>aO.cons (bb.bool _) (N7 rs)
theorem N8 (p:Int×List dn):aO (b5 p):=aO.cons (bb.int _ _) (aO.cons (bb.an (Un _)) (aO.cons (bb.an (N7 _)) aO.nil))
theorem Uo (x:mM):aO (eV x):=aO.cons (bb.int _ _) (aO.cons (bb.int _ _) (aO.cons (bb.int _ _) (aO.cons (bb.an (DG _)) (aO.cons (bb.an (DG _)) (aO.cons (bb.int _ _) aO.nil)))))
theorem Up (t:FG):aO (ig t):=aO.cons (bb.an (Ml N8 _)) (aO.cons (bb.an (Ml Uo _)) (aO.cons (bb.int _ _) aO.nil))
def kK (t:Int) (j:iu):mM:=⟨t,j.ep,j.tx,j.bA,j.ord,j.opn.length⟩
def lE (n:Int):List Int→List Int
 | []=>[n]
 | x::l=>if x=n then x::l else if n<x then n::x::l else x::lE n l
theorem N9 {n a:Int}:∀ {l:List Int},a ∈ lE n l↔a=n∨a ∈ l
 | []=>by simp [lE]
 | x::l=>by
  unfold lE
  split
  ·rename_i h;subst h;simp
  split
  ·simp
  ·rw [List.mem_cons,N9 (l:=l),List.mem_cons]
   constructor
   ·rintro (h | h | h)<;>simp [h]
   ·rintro (h | h | h)<;>simp [h]
theorem Uq {n:Int}:∀ {l:List Int},l.Pairwise (·<·)→(lE n l).Pairwise (·<·)
 | [],_=>by simp [lE]
 | x::l,h=>by
  have U:=List.pairwise_cons.1 h
  unfold lE
  split
  ·exact h
  rename_i h1
  split
  ·rename_i ab
   refine List.pairwise_cons.2 ⟨fun a aL=>?_,h⟩
   rcases List.mem_cons.1 aL with rfl | aL
   ·exact ab
   ·have:=U.1 a aL;omega
  ·rename_i ab
   refine List.pairwise_cons.2 ⟨fun a aL=>?_,Uq U.2⟩
   rcases N9.1 aL with rfl | aL
   ·omega
   ·exact U.1 a aL
def FH (l:List Int):List Int:=l.foldl (fun a n=>lE n a) []
theorem pu:∀ (l a:List Int),(∀ x,x ∈ l.foldl (fun a n=>lE n a) a↔x ∈ a∨x ∈ l)∧(a.Pairwise (·<·)→(l.foldl (fun a n=>lE n a) a).Pairwise (·<·))
 | [],a=>⟨fun x=>by simp,fun h=>h⟩
 | y::l,a=>by
  obtain ⟨h1,ab⟩:=pu l (lE y a)
  refine ⟨fun x=>?_,fun h=>ab (Uq h)⟩
  rw [List.foldl_cons,h1,N9,List.mem_cons]
  constructor
  ·rintro ((h | h) | h)<;>simp [h]
  ·rintro (h | h | h)<;>simp [h]
theorem Ur {l:List Int} {x:Int}:x ∈ FH l↔x ∈ l:=by rw [FH,(pu l []).1];simp
theorem Us (l:List Int):(FH l).Pairwise (·<·):=(pu l []).2 List.Pairwise.nil
structure aiN (s:ky) (logs:List (Int×List dn)) (tasks:List mM):Prop where
 lm:∀ p,p ∈ logs↔p.2=s.logs p.1∧p.2≠[]
 Ut:logs.Pairwise fun a b=>a.1<b.1
 bY:∀ x,x ∈ tasks↔∃ j,s.tasks x.t=some j∧x=kK x.t j
 Uu:tasks.Pairwise fun a b=>a.t<b.t
theorem Oa {α:Type} {key:α→Int}:∀ {a b:List α},(∀ x,x ∈ a↔x ∈ b)→a.Pairwise (fun x y=>key x<key y)→b.Pairwise (fun x y=>key x<key y)→a=b
 | [],[],_,_,_=>rfl
 | [],y::b,h,_,_=>by have:=(h y).2 (by simp);cases this
 | x::a,[],h,_,_=>by have:=(h x).1 (by simp);cases this
 | x::a,y::b,h,aL,ar=>by
  have xB:=List.pairwise_cons.1 aL
  have h7:=List.pairwise_cons.1 ar
  have e:x=y:=by
   rcases List.mem_cons.1 ((h x).1 (by simp)) with e | h1
   ·exact e
   rcases List.mem_cons.1 ((h y).2 (by simp)) with e | ab
   ·exact e.symm
   have:=h7.1 x h1
   have:=xB.1 y ab
   omega
  subst e
  congr 1
  refine Oa (fun z=>⟨fun bB=>?_,fun bB=>?_⟩) xB.2 h7.2
  ·rcases List.mem_cons.1 ((h z).1 (by simp [bB])) with rfl | h1
   ·have:=xB.1 z bB;omega
   ·exact h1
  ·rcases List.mem_cons.1 ((h z).2 (by simp [bB])) with rfl | h1
   ·have:=h7.1 z bB;omega
   ·exact h1
def rn (l:List bk):List (Int×List dn):=((FH (l.map (·.log))).map fun k=>(k,(jf l).logs k)).filter fun p=>!p.2.isEmpty
def uz (l:List bk):List mM:=(FH (l.map (·.task))).filterMap fun t=>((jf l).tasks t).map (kK t)
def toldOf (l:List bk):FG:=⟨rn l,uz l,l.length⟩
structure Ja (l:List bk) (s:ky):Prop where
 np:∀ k,s.logs k≠[]→k ∈ l.map (·.log)
 oE:∀ t j,s.tasks t=some j→t ∈ l.map (·.task)∧∀ p ∈ j.opn,p.1.log ∈ l.map (·.log)
theorem Uv {A:Int→Prop}:∀ (o:List (bk×Nat)) (f:Int→List dn),(∀ p ∈ o,A p.1.log)→(∀ k,f k≠[]→A k)→∀ k,mi f o k≠[]→A k
 | [],f,_,aB,k,h=>aB k h
 | p::o,f,av,aB,k,h=>by
  refine Uv o (hO f p.1) (fun q ae=>av q (by simp [ae])) (fun k hk=>?_) k h
  unfold hO at hk
  split at hk
  ·rename_i e;subst e;exact av p (by simp)
  ·exact aB k hk
theorem aiO {l:List bk} {s:ky} (h:Ja l s) (x:bk) (i:Nat):Ja (l++[x]) (jT s x i):=by
 have up:∀ {k},k ∈ l.map (·.log)→k ∈ (l++[x]).map (·.log):=fun hk=>by rw [List.map_append];exact List.mem_append_left _ hk
 have Uw:∀ {k},k ∈ l.map (·.task)→k ∈ (l++[x]).map (·.task):=fun hk=>by rw [List.map_append];exact List.mem_append_left _ hk
 have uA:x.log ∈ (l++[x]).map (·.log):=by simp
 have C9:x.task ∈ (l++[x]).map (·.task):=by simp
 have same:Ja (l++[x]) s:=⟨fun k hk=>up (h.np k hk),fun t j bM=>⟨Uw (h.oE t j bM).1,fun p az=>up ((h.oE t j bM).2 p az)⟩⟩
 have uB:∀ p ∈ (b8 s x.task).opn,p.1.log ∈ (l++[x]).map (·.log):=fun p az=>by
  unfold b8 at az
  cases aC:s.tasks x.task with
  | none=>rw [aC] at az;cases az
  | some j=>rw [aC] at az;exact (same.oE _ _ aC).2 p az
 unfold jT
 split
 ·exact same
 split
 ·refine ⟨fun k hk=>?_,same.oE⟩
  simp only [hO] at hk
  split at hk
  ·rename_i e;rw [e];exact uA
  ·exact same.np k hk
 split
 ·refine ⟨same.np,fun t j aC=>?_⟩
  simp only at aC
  split at aC
  ·rename_i e;subst e
   injection aC with aC;subst aC
   refine ⟨C9,fun p az=>?_⟩
   unfold jD at az
   split at az
   ·cases az
   ·exact uB p az
  ·exact same.oE t j aC
 split
 ·exact same
 refine ⟨fun k hk=>?_,fun t j aC=>?_⟩
 ·simp only [nn] at hk
  split at hk
  ·exact same.np k hk
  split at hk
  ·exact Uv _ _ uB same.np k hk
  ·exact same.np k hk
 ·simp only at aC
  split at aC
  ·rename_i e;subst e
   injection aC with aC;subst aC
   refine ⟨C9,fun p az=>?_⟩
   unfold kJ at az
   split at az
   ·exact uB p az
   split at az
   ·rcases List.mem_append.1 az with az | az
    ·exact uB p az
    ·rw [List.mem_singleton.1 az];exact uA
   split at az<;>cases az
  ·exact same.oE t j aC
theorem Jb:∀ (n:Nat) (l:List bk),l.length=n→Ja l (jf l)
 | 0,l,h=>by
  rw [List.length_eq_zero_iff.1 h]
  exact ⟨fun k hk=>absurd rfl hk,fun t j aC=>by cases aC⟩
 | n+1,l,h=>by
  obtain ⟨a,x,rfl⟩:∃ a x,l=a++[x]:=by
   cases aw:l.reverse with
   | nil=>rw [List.reverse_eq_nil_iff] at aw;rw [aw] at h;simp at h
   | cons x a=>exact ⟨a.reverse,x,by rw [←List.reverse_reverse l,aw,List.reverse_cons]⟩
  rw [FE]
  exact aiO (Jb n a (by rw [List.length_append] at h;simp at h;exact h)) x _
theorem CH (l:List bk):aiN (jf l) (rn l) (uz l):=by
 have j8:=Jb _ l rfl
 refine ⟨fun p=>?_,?_,fun x=>?_,?_⟩
 ·unfold rn
  rw [List.mem_filter,List.mem_map]
  constructor
  ·rintro ⟨⟨k,hk,rfl⟩,ab⟩
   exact ⟨rfl,by simpa using ab⟩
  ·rintro ⟨h1,ab⟩
   refine ⟨⟨p.1,Ur.2 (j8.np _ (h1 ▸ ab)),?_⟩,by simpa using ab⟩
   rw [←h1]
 ·unfold rn
  refine List.Pairwise.filter _ (List.pairwise_map.2 ?_)
  exact Us _
 ·unfold uz
  rw [List.mem_filterMap]
  constructor
  ·rintro ⟨t,bM,h1⟩
   cases aC:(jf l).tasks t with
   | none=>rw [aC] at h1;cases h1
   | some j=>
    rw [aC] at h1
    injection h1 with h1
    subst h1
    exact ⟨j,aC,rfl⟩
  ·rintro ⟨j,h1,ab⟩
   refine ⟨x.t,Ur.2 (j8.oE _ _ h1).1,?_⟩
   rw [h1]
   exact congrArg some ab.symm
 ·unfold uz
  refine List.Pairwise.filterMap _ (fun a b iX x af y aX=>?_) (Us _)
  cases aC:(jf l).tasks a with
  | none=>rw [aC] at af;cases af
  | some j=>
   cases hk:(jf l).tasks b with
   | none=>rw [hk] at aX;cases aX
   | some k=>
    rw [aC] at af
    rw [hk] at aX
    injection af with af
    injection aX with aX
    subst af aX
    exact iX
def oF (n:Int) (K:List Int) (s:ky):Nat:=(s.logs n).length+(K.map fun t=>(b8 s t).opn.length).sum
theorem aiP (s:ky) (x:bk) (i:Nat) (n:Int):((jT s x i).logs n).length+(b8 (jT s x i) x.task).opn.length≤(s.logs n).length+(b8 s x.task).opn.length+1:=by
 unfold jT
 split
 ·omega
 split
 ·have:(hO s.logs x n).length≤(s.logs n).length+1:=by
   unfold hO
   split
   ·rename_i e;subst e;simp
   ·omega
  show (hO s.logs x n).length+(b8 s x.task).opn.length≤_
  omega
 split
 ·show (s.logs n).length+((if x.task=x.task then some (jD (b8 s x.task) x.aF) else s.tasks x.task).getD rT).opn.length≤_
  rw [if_pos rfl]
  show _+(jD (b8 s x.task) x.aF).opn.length≤_
  unfold jD
  split
  ·simp only [List.length_nil];omega
  ·omega
 split
 ·omega
 show (nn s.logs (b8 s x.task) x n).length+((if x.task=x.task then some (kJ (b8 s x.task) x i) else s.tasks x.task).getD rT).opn.length≤_
 rw [if_pos rfl]
 show _+(kJ (b8 s x.task) x i).opn.length≤_
 unfold nn kJ
 split
 ·omega
 ·split
  ·rename_i aI
   rw [if_neg (by omega)]
   have:=I8 n (b8 s x.task).opn s.logs (s.logs n).length (Nat.le_refl _)
   simp only [List.length_nil]
   omega
  ·split
   ·simp only [List.length_append,List.length_singleton];omega
   ·simp only [List.length_nil];omega
theorem aiQ (s:ky) (x:bk) (i:Nat) {u:Int} (hu:u≠x.task):(b8 (jT s x i) u).opn=(b8 s u).opn:=by
 unfold jT
 split
 ·rfl
 split
 ·rfl
 split
 ·show ((if u=x.task then some (jD (b8 s x.task) x.aF) else s.tasks u).getD rT).opn=_
  rw [if_neg hu];rfl
 split
 ·rfl
 show ((if u=x.task then some (kJ (b8 s x.task) x i) else s.tasks u).getD rT).opn=_
 rw [if_neg hu];rfl
theorem aiR {s:ky} {N:Nat} (ih:∀ n K,K.Nodup→oF n K s≤N) (x:bk) (i:Nat) (n:Int) (K:List Int) (r9:K.Nodup):oF n K (jT s x i)≤N+1:=by
 have main:∀ qe:List Int,(x.task::qe).Nodup→oF n (x.task::qe) (jT s x i)≤N+1:=fun qe aJ=>by
  have h1:=ih n _ aJ
  have ab:=aiP s x i n
  have aI:qe.map (fun t=>(b8 (jT s x i) t).opn.length)=qe.map fun t=>(b8 s t).opn.length:=List.map_congr_left fun u hu=>by
   rw [aiQ s x i fun e=>(List.nodup_cons.1 aJ).1 (e ▸ hu)]
  unfold oF at *
  rw [List.map_cons,List.sum_cons] at *
  rw [aI]
  omega
 by_cases hm:x.task ∈ K
 ·have az:=List.perm_cons_erase hm
  have h1:=main _ (az.nodup_iff.1 r9)
  have ab:oF n K (jT s x i)=oF n (x.task::K.erase x.task) (jT s x i):=by
   unfold oF
   rw [(az.map _).sum_nat]
  rw [ab];exact h1
 ·have h1:=main K (List.nodup_cons.2 ⟨hm,r9⟩)
  unfold oF at *
  rw [List.map_cons,List.sum_cons] at h1
  omega
theorem Ux:∀ (m:Nat) (l:List bk),l.length=m→∀ n K,K.Nodup→oF n K (jf l)≤m
 | 0,l,h=>by
  rw [List.length_eq_zero_iff.1 h]
  intro n K _
  unfold oF
  show 0+_≤0
  have:∀ K:List Int,(K.map fun t=>(b8 (jf []) t).opn.length).sum=0:=fun K=>by
   induction K with
   | nil=>rfl
   | cons a K ih=>rw [List.map_cons,List.sum_cons,ih];rfl
  rw [this]
  omega
 | m+1,l,h=>by
  obtain ⟨a,x,rfl⟩:∃ a x,l=a++[x]:=by
   cases aw:l.reverse with
   | nil=>rw [List.reverse_eq_nil_iff] at aw;rw [aw] at h;simp at h
   | cons x a=>exact ⟨a.reverse,x,by rw [←List.reverse_reverse l,aw,List.reverse_cons]⟩
  rw [FE]
  exact aiR (Ux m a (by rw [List.length_append] at h;simp at h;exact h)) x _
theorem aiS (l:List bk) (n:Int):((jf l).logs n).length≤l.length:=by
 have:=Ux _ l rfl n [] List.nodup_nil
 unfold oF at this
 simpa using this
theorem aiT {l:List bk} {k:Nat} (hk:k<l.length) {kk:IntKind}:ik Tryz.prog 88 (.an l.length (l.flatMap aY)) (.int kk (k:Int))=some (.at (aY l[k]++(l.drop (k+1)).flatMap aY)):=xt (enc:=aY) (sz:=11) CC hk ahB
theorem aiU (x:bk) (r:List V):hI (some (some 11)) (some (aY x++r))=some (.agg (aY x)):=HV (CC x)
def u5 (a b:Nat):eT:=fun q=>if q=a then some (2,0,0) else if q=b then some (2,0,1) else none
theorem Uy {a b q:Nat} {a8:Tag} (h:u5 a b q=some a8):q=a∨q=b:=by
 unfold u5 at h
 split at h
 ·exact .inl ‹_›
 ·split at h
  ·exact .inr ‹_›
  ·cases h
theorem hp.cast {ay h:I} {lm bY lc c8:Nat} {s bF:ky} {L T:hK} {ow:eT} (w:hp ay h lm bY s.logs s.tasks L lc T c8 ow) (e:s=bF):hp ay h lm bY bF.logs bF.tasks L lc T c8 ow:=e ▸ w
def x5 (h:I) (ow:eT) (q:Nat):Prop:=q=h.n+1∨q=h.n+2∨∃ a8,ow q=some a8
theorem Kl (ay h:I) (lm bY:Nat) (k:aa ay h none_) (h1:ay.n≤lm∧lm<h.n) (ab:ay.n≤bY∧bY<h.n) (bc:lm≠bY) (cJ:h.get lm=.map [] 0) (gt:h.get bY=.map [] 0):hp ay h lm bY Bn.logs Bn.tasks [] 0 [] 0 (u5 lm bY) :=
 ⟨k,fun q a8 ae=>by rcases Uy ae with e | e<;>subst e<;>assumption,by simp [u5],by simp [u5,Ne.symm bc],cJ,gt,dw.nil 0,dw.nil 0,dJ.nil,dJ.nil,fun _ _ ad=>(by cases ad),fun _ _=>rfl,fun _ _ ad=>(by cases ad),fun _ _=>rfl⟩
theorem hp.Jc {ay h0' h U:I} {lm bY lc c8:Nat} {logs:Int→List dn} {tasks:Int→Option iu} {L T:hK} {ow:eT} (w:hp ay h lm bY logs tasks L lc T c8 ow) {own:Nat→Prop} (k:aa h U own) (aJ:∀ q,own q→∀ a8,ow q≠some a8) (ez:aa h0' U none_) (pE:h0'.n≤ay.n):hp h0' U lm bY logs tasks L lc T c8 ow where
 au:=ez
 bt q a8 ae:=⟨Nat.le_trans pE (w.bt q a8 ae).1,Nat.lt_of_lt_of_le (w.bt q a8 ae).2 k.n⟩
 fG:=w.fG
 gk:=w.gk
 cJ:=(k.get lm (w.bt _ _ w.fG).2 (fun ad=>aJ _ ad _ w.fG)).trans w.cJ
 gt:=(k.get bY (w.bt _ _ w.gk).2 (fun ad=>aJ _ ad _ w.gk)).trans w.gt
 j0:=w.j0
 j1:=w.j1
 ib:=w.ib
 ic:=w.ic
 has q b ae:=⟨(w.has q b ae).1.on k (fun q ad i he=>aJ q ad _ he) (fun _ _ ad=>ad) fun q a8 ad=>(w.bt q a8 ad).2,(w.has q b ae).2⟩
 hL:=w.hL
 hM t b ae:=by
  obtain ⟨j,h1,ab⟩:=w.hM t b ae
  exact ⟨j,h1,ab.on k (fun q ad i he=>aJ q ad _ he) (fun _ _ ad=>ad) fun q a8 ad=>(w.bt q a8 ad).2⟩
 hN:=w.hN
theorem aiV (l:List bk) (aw:l.length≤2 ^ 30) (he:∀ x ∈ l,oA x) (h:I) (hu:qy h) :
  ah Tryz.prog 65 [.an l.length (l.flatMap aY)] h (fun r U=>∃ lm bY L lc T c8,r=.agg [.map lm,.map bY]∧rl h U lm bY (jf l) L lc T c8):=by
 refine ah.cast ?_
 refine ah.aH (c:=_) Tryz.func65 rfl (by kernel_rfl) (by simp) ?_
 simp only [ao,Nat.reduceEqDiff,Nat.reduceAdd,Nat.reduceLeDiff,reduceCtorEq,SX,ahi,Tg,Ny]
 refine aZ.cu (α:=Nat×(hK×Nat×hK×Nat×eT)) (fun y f U=>f 2=.ptr h.n 0∧f 3=.ptr (h.n+3) 0∧f 9=.an l.length (l.flatMap aY)∧f 10=.int .i64 (l.length:Nat)∧f 11=.int .i64 (y.1:Nat)∧y.1≤l.length ∧
   U.get (h.n+3)=.cells [.map (h.n+1),.map (h.n+2)] 134 none∧h.n+3<U.n∧(∀ a8,y.2.2.2.2.2 (h.n+3)≠some a8) ∧
   hp (h.push (.cells [.dk,.dk] 134 none)) U (h.n+1) (h.n+2) (jf (l.take y.1)).logs (jf (l.take y.1)).tasks y.2.1 y.2.2.1 y.2.2.2.1 y.2.2.2.2.1 y.2.2.2.2.2)
   (fun y=>l.length - y.1) (0,[],0,[],0,u5 (h.n+1) (h.n+2)) ⟨rfl,rfl,rfl,rfl,rfl,Nat.zero_le _,?_,?_,?_,?_⟩ ?_
 ·simp [I.push]
 ·simp only [fR];omega
 ·intro a8 ad;rcases Uy ad with e | e<;>omega
 ·refine Kl _ _ _ _ (((aa.push _ _ _).trans' (aa.push _ _ _)).trans' (aa.push _ _ _)) ⟨Nat.le_refl _,?_⟩ ⟨?_,?_⟩ (by omega) ?_ ?_
  ·simp only [fR];omega
  ·simp only [fR];omega
  ·simp only [fR];omega
  ·simp [I.push]
  ·simp [I.push]
 rintro ⟨i,L,lc,T,c8,ow⟩ f h1 ⟨f2,f3,f9,f10,f11,hi,gs,ns,iJ,w⟩
 simp only at f11 hi iJ w
 refine gn (by kernel_rfl) ?_
 have so:=w.au
 have sS:=so.n
 rw [fR] at sS
 by_cases aT:i<l.length
 ·have d1:decide ((i:Int)<((l.length:Nat):Int))=true:=decide_eq_true (by omega)
  have zT:IntKind.i64.wrap (((i:Nat):Int)+1)=((i+1:Nat):Int):=by rw [Go.IntWalk.i64_in _ (by omega)];omega
  have fM:=aiT (l:=l) (kk:=.i64) aT
  have gY:jf (l.take (i+1))=jT (jf (l.take i)) l[i] i:=by rw [List.take_succ_eq_append_getElem aT,FE,List.length_take,Nat.min_eq_left (by omega)]
  have zm:=I9 i (l.take i) (by rw [List.length_take];omega)
  have FI:∀ n,((jf (l.take i)).logs n).length≤i:=fun n=>by have:=aiS (l.take i) n;rw [List.length_take] at this;omega
  have oj:=he _ (List.getElem_mem aT)
  generalize l[i]=x at fM gY oj
  generalize jf (l.take i)=s at w gY zm FI
  have ld:=aiU
  have lZ:(V.agg (aY x)).cells=some (aY x):=rfl
  have Ob:ca (some 11) (aD.cells [V.int .i64 0,.int .i64 0,.int .i64 0,.int .i64 0,.int .i64 0,.int .i64 0,.int .i64 0,.int .i64 0,.bool false,.ag,.ag] 140 none) 0 (aY x)=some (.cells (aY x) 140 none):=rfl
  obtain ⟨H,hH⟩:∃ y,y=h1.push (.cells (aY x) 140 none):=⟨_,rfl⟩
  have c6:aa h1 H none_:=by rw [hH];exact aa.push _ _ _
  have o8:H.n=h1.n+1:=by rw [hH];rfl
  have bR:H.get h1.n=.cells (aY x) 140 none:=by rw [hH];exact c4
  have pH:=(c6.get (h.n+3) ns (by simp [none_])).trans gs
  have fA:=w.on c6
  have n1:qy H:=by unfold qy;rw [c6.glob,so.glob];exact hu
  have oE:(aY x).take 11=aY x:=rfl
  have FJ:=CC x
  simp only [ao,Nat.reduceEqDiff,mf,o6,qw,f9,f10,f11,d1,fM,ld,lZ,Ob,oE,FJ]
  rw [←hH]
  clear hH
  refine cK M8 (NR x H n1 oj) ?_
  have x6:∀ q a8,ow q=some a8→q≠h.n+3:=fun q a8 ae ad=>iJ a8 (ad ▸ ae)
  have Uz:∀ q a8,ow q=some a8→q≠h1.n:=fun q a8 ae ad=>by have:=(w.bt _ _ ae).2;omega
  have d0:cW (aD.cells (aY x) 140 none) 0=some (aY x):=rfl
  have rV:cW (aD.cells (aY x) 140 none) 1=some ((aY x).drop 1):=rfl
  have UA:cW (aD.cells (aY x) 140 none) 2=some ((aY x).drop 2):=rfl
  have lj:hI (some none) (some (aY x))=some (.int .i64 x.kind):=rfl
  have fg:hI (some none) (some ((aY x).drop 1))=some (.int .i64 x.task):=rfl
  have dN:hI (some none) (some ((aY x).drop 2))=some (.int .i64 x.aF):=rfl
  have aoD:hI (some (some 11)) (some (aY x))=some (.agg (aY x)):=rfl
  have zU:cW (aD.cells [V.map (h.n+1),.map (h.n+2)] 134 none) 0=some [.map (h.n+1),.map (h.n+2)]:=rfl
  have FK:hI (some (some 2)) (some [V.map (h.n+1),.map (h.n+2)])=some (.agg [.map (h.n+1),.map (h.n+2)]):=rfl
  cases hm:cy x with
  | false=>
   simp only [ao,Nat.reduceEqDiff,reduceCtorEq,zI,f3,f11,zT]
   exact aR ⟨(i+1,L,lc,T,c8,ow),⟨f2,f3,f9,f10,rfl,aT,pH,by omega,iJ,fA.cast (gY.trans (by unfold jT;rw [if_pos hm])).symm⟩,by simp only;omega⟩
  | true=>
   have hk:=((nT x).1 hm).1
   have x7:¬cy x=false:=by rw [hm];simp
   by_cases bj:x.kind=1
   ·have bf:(x.kind==1)=true:=by simpa using bj
    have wc:(s.logs x.log).length≤2 ^ 40:=by
     have:=FI x.log
     omega
    simp only [ao,Nat.reduceEqDiff,sb,zI,mf,bz,f3,bR,pH,d0,lj,oE,FJ,zU,FK,bf]
    refine cC Sq (Fz x fA wc) fun r aI ⟨nh,FD,x0,iY,jR,AV,b2,kW⟩=>?_
    subst nh
    have n3:=b2.n
    have u4:=(b2.get (h.n+3) (by omega) (fun ad=>by rcases ad with ad | ⟨k,i2,ad⟩;omega;exact x6 _ _ ad rfl)).trans pH
    simp only [ao,Nat.reduceEqDiff,f11,zT]
    exact aR ⟨(i+1,FD,x0,T,c8,iY),⟨f2,f3,f9,f10,rfl,aT,u4,by omega,fun a8 ad=>by
     rcases kW _ _ ad with ad | ad
     ·exact x6 _ _ ad rfl
     ·omega,hp.cast (s:=⟨hO s.logs x,s.tasks⟩) jR (gY.trans (by unfold jT;rw [if_neg x7,if_pos bj])).symm⟩,by simp only;omega⟩
   have bf:(x.kind==1)=false:=by simpa using bj
   have Bp:x5 h ow (h.n+3)=False:=eq_false fun ad=>by rcases ad with ad | ad | ⟨a8,ad⟩;omega;omega;exact x6 _ _ ad rfl
   have Km:x5 h ow h1.n=False:=eq_false fun ad=>by rcases ad with ad | ad | ⟨a8,ad⟩;omega;omega;exact Uz _ _ ad rfl
   by_cases jF:x.kind=5
   ·have c5:(x.kind==5)=true:=by simpa using jF
    simp only [ao,Nat.reduceEqDiff,sb,bz,bR,d0,lj,bf,c5]
    refine aZ.b4 (fun q=>x5 h ow q) [3,6] (.q 0 (.q 1 (.q 2 (.q 4 (.q 5 (.e 3 (.a 6 .done) .stop)))))) (by kernel_rfl) (by kernel_rfl) (by kernel_rfl) ?_
    simp only [ao,b6,gV,Nat.reduceEqDiff,EU,vV,zI,bz,f3,bR,pH,rV,UA,fg,dN,zU,FK,Bp,Km]
    refine cC Sr (TM x.task fA) fun r ab ⟨b,uq,tI,ow2,nh,ar,bV,dm,iz⟩=>?_
    subst nh
    have x8:aa H ab (fun q=>x5 h ow q):=dm.mono fun q ae=>.inr (.inl ae)
    have fw:=dm.n
    simp only [ao,b6,gV,Nat.reduceEqDiff,x8]
    refine cC afA (ais (e:=x.aF) (j:=b8 s x.task) bV ar (by unfold named;rw [if_pos rfl];rfl)) fun r aI ⟨nh,jR,b2⟩=>?_
    subst nh
    have FL:aa H aI (fun q=>x5 h ow q):=x8.trans b2 fun q ae ⟨a8,ad⟩=>by
     rcases iz _ _ ad with ad | ad
     ·exact .inr (.inr ⟨a8,ad⟩)
     ·omega
    have n3:=b2.n
    have u4:=(FL.get (h.n+3) (by omega) (by rw [Bp];exact id)).trans pH
    have cV:(fun n=>if n=x.task then some (jD (b8 s x.task) x.aF) else named s.tasks x.task n)=(fun n=>if n=x.task then some (jD (b8 s x.task) x.aF) else s.tasks n):=by
     funext n
     split
     ·rfl
     ·rename_i ad;unfold named;rw [if_neg ad]
    rw [cV] at jR
    simp only [ao,b6,gV,Nat.reduceEqDiff,f11,zT]
    exact aR ⟨(i+1,L,lc,uq,tI,ow2),⟨f2,f3,f9,f10,rfl,aT,u4,by omega,fun a8 ad=>by
      rcases iz _ _ ad with ad | ad
      ·exact x6 _ _ ad rfl
      ·omega,hp.cast (s:=⟨s.logs,fun n=>if n=x.task then some (jD (b8 s x.task) x.aF) else s.tasks n⟩) jR (gY.trans (by unfold jT;rw [if_neg x7,if_neg bj,if_pos jF])).symm⟩,by simp only;omega⟩
   have c5:(x.kind==5)=false:=by simpa using jF
   by_cases mN:x.kind=6
   ·have bx:(x.kind==2)=false:=by rw [mN];rfl
    have c3:(x.kind==3)=false:=by rw [mN];rfl
    have kl:(x.kind==4)=false:=by rw [mN];rfl
    simp only [ao,Nat.reduceEqDiff,sb,bz,f11,bR,d0,lj,bf,c5,bx,c3,kl,zT]
    exact aR ⟨(i+1,L,lc,T,c8,ow),⟨f2,f3,f9,f10,rfl,aT,pH,by omega,iJ,fA.cast (gY.trans (by unfold jT;rw [if_neg x7,if_neg bj,if_neg jF,if_pos mN])).symm⟩,by simp only;omega⟩
   have aoE:=Uk zm x.task
   have bZ:∀ {ab:I} {uq:hK} {tI:Nat} {ow2:eT} {b:Nat},hp (h.push (.cells [.dk,.dk] 134 none)) ab (h.n+1) (h.n+2) s.logs (named s.tasks x.task) L lc uq tI ow2→bq uq x.task=some b →
     ah Tryz.prog 103 [.agg [.map (h.n+1),.map (h.n+2)],.ptr b 0,.agg (aY x),.int .i64 (i:Nat)] ab (fun r U=>r=.tuple []∧∃ L' tC ow',hp (h.push (.cells [.dk,.dk] 134 none)) U (h.n+1) (h.n+2) (jT s x i).logs (jT s x i).tasks L' tC uq tI ow'∧aa ab U (fun q=>q=h.n+1∨∃ a8,ow2 q=some a8)∧(∀ q a8,ow' q=some a8→ow2 q=some a8∨ab.n≤q)):=fun {ab uq tI ow2 b} bV ar=>by
    have aC:named s.tasks x.task x.task=some (b8 s x.task):=by unfold named;rw [if_pos rfl];rfl
    have cV:(fun n=>if n=x.task then some (kJ (b8 s x.task) x i) else named s.tasks x.task n)=(fun n=>if n=x.task then some (kJ (b8 s x.task) x i) else s.tasks n):=by
     funext n
     split
     ·rfl
     ·rename_i ad;unfold named;rw [if_neg ad]
    have aiW:jT s x i=⟨nn s.logs (b8 s x.task) x,fun n=>if n=x.task then some (kJ (b8 s x.task) x i) else s.tasks n⟩:=by unfold jT;rw [if_neg x7,if_neg bj,if_neg jF,if_neg mN]
    rw [aiW,←cV]
    by_cases al:x.kind=3→x.aF≠(b8 s x.task).ep∨x.fV≠(b8 s x.task).tx
    ·exact aix x i bV ar aC (by omega) (by omega) (by omega) al
    ·have aI:x.kind=3:=Classical.byContradiction fun ad=>al fun h=>absurd h ad
     have h4:¬(x.aF≠(b8 s x.task).ep∨x.fV≠(b8 s x.task).tx):=fun ad=>al fun _=>ad
     have UB:∀ n,(s.logs n).length≤2 ^ 30:=fun n=>by
      have:=FI n
      omega
     exact aiB x i bV ar aC (by omega) UB (by omega) aI (((nT x).1 hm).2.2.2.2.2.2.1) (by have:=((nT x).1 hm).2.2.2.2.2.2.2.2.1;omega) (by omega) (by omega) (by omega)
   have Jd:x.kind=2∨x.kind=3∨x.kind=4:=by omega
   rcases Jd with k2 | k2 | k2
   all_goals
    simp only [ao,Int.reduceBEq,Nat.reduceEqDiff,sb,bz,bR,d0,lj,k2]
    refine aZ.b4 (fun q=>x5 h ow q) [4,7] (.q 0 (.q 1 (.q 2 (.q 3 (.q 5 (.q 6 (.e 4 (.a 7 .done) .stop))))))) (by kernel_rfl) (by kernel_rfl) (by kernel_rfl) ?_
    simp only [ao,b6,gV,Nat.reduceEqDiff,EU,zI,mf,bz,f3,bR,pH,d0,rV,fg,oE,FJ,zU,FK,Bp,Km]
    refine cC Sr (TM x.task fA) fun r ab ⟨b,uq,tI,ow2,nh,ar,bV,dm,iz⟩=>?_
    subst nh
    have x8:aa H ab (fun q=>x5 h ow q):=dm.mono fun q ae=>.inr (.inl ae)
    have fw:=dm.n
    simp only [ao,b6,gV,Nat.reduceEqDiff,x8]
    refine cC afB (bZ bV ar) fun r aI ⟨nh,FD,x0,iY,jR,b2,kW⟩=>?_
    subst nh
    have FL:aa H aI (fun q=>x5 h ow q):=x8.trans b2 fun q ae ad=>by
     rcases ad with ad | ⟨a8,ad⟩
     ·exact .inl ad
     ·rcases iz _ _ ad with ad | ad
      ·exact .inr (.inr ⟨a8,ad⟩)
      ·omega
    have n3:=b2.n
    have u4:=(FL.get (h.n+3) (by omega) (by rw [Bp];exact id)).trans pH
    simp only [ao,b6,gV,Nat.reduceEqDiff,f11,zT]
    exact aR ⟨(i+1,FD,x0,uq,tI,iY),⟨f2,f3,f9,f10,rfl,aT,u4,by omega,fun a8 ad=>by
      rcases kW _ _ ad with ad | ad
      ·rcases iz _ _ ad with ad | ad
       ·exact x6 _ _ ad rfl
       ·omega
      ·omega,jR.cast gY.symm⟩,by simp only;omega⟩
 ·obtain rfl:i=l.length:=by omega
  have d1:decide (((l.length:Nat):Int)<((l.length:Nat):Int))=false:=decide_eq_false (by omega)
  rw [List.take_length] at w
  have zU:cW (aD.cells [V.map (h.n+1),.map (h.n+2)] 134 none) 0=some [.map (h.n+1),.map (h.n+2)]:=rfl
  have FK:hI (some (some 2)) (some [V.map (h.n+1),.map (h.n+2)])=some (.agg [.map (h.n+1),.map (h.n+2)]):=rfl
  have g0:h1.get h.n=.cells [.dk,.dk] 134 none:=(so.get h.n (by rw [fR];omega) (by simp [none_])).trans c4
  have xc:(V.agg [V.map (h.n+1),.map (h.n+2)]).cells=some [V.map (h.n+1),.map (h.n+2)]:=rfl
  have st2:ca (some 2) (aD.cells [V.dk,.dk] 134 none) 0 [V.map (h.n+1),.map (h.n+2)]=some (.cells [V.map (h.n+1),.map (h.n+2)] 134 none):=rfl
  simp only [ao,Nat.reduceEqDiff,zI,Ny,f2,f3,f10,f11,d1,gs,g0,zU,FK,xc,st2,bd,Tryz.results65,xm,jP]
  have dY:aa h1 (h1.set h.n (.cells [V.map (h.n+1),.map (h.n+2)] 134 none)) (·=h.n):=aa.set _ _ _
  have bV:=w.Jc (h0':=h) dY (fun q ad a8 he=>by have:=(w.bt _ _ he).1;rw [fR] at this;omega) ((((aa.push _ _ _).trans' so).up).trans dY fun q ae ad=>by omega) (by rw [fR];omega)
  obtain ⟨ab,bx,v2⟩:=bV.freeze
  exact aR ⟨_,ab,bx _,_,_,_,_,_,_,rfl,v2⟩
theorem aiX (s x:V) (cs xs:List Nat) (h:I) (rd:Rd h s cs) (rx:Rd h x xs) (al:cs.length+xs.length≤2 ^ 45) :
  ah Tryz.prog 49 [s,x] h (fun r U=>Acc h U 5 1 r (bp (cs++kI xs))):=by
 refine ah.aH (c:=_) Tryz.func49 rfl (by kernel_rfl) (by simp) ?_
 have hw:IntKind.i64.wrap (10+(xs.length:Int))=((10+xs.length:Nat):Int):=by rw [Go.IntWalk.i64_in _ (by omega)];omega
 have hu:=zO (n:=xs.length) (by omega)
 simp only [ao,Nat.reduceEqDiff,reduceCtorEq,rx.len h (aa.refl _ _),hw]
 refine cC zA (NO s cs (10+xs.length) h rd (by omega)) fun cq h1 bC=>?_
 simp only [ao,Nat.reduceEqDiff,rx.len h1 bC.au,js gG jS,hu]
 refine cC Co (I6 cq cs xs.length h1 bC (by omega) (by omega)) fun ck ab a2=>?_
 have aw:=(hB xs.length (by omega)).2
 obtain ⟨v,aI,dB,a3⟩:=a2.app (P:=Tryz.prog) (tx:=56) qv (by decide) (rx.src ab a2.au) (by rw [am,Nat.mul_one]) (by simp only [am,List.length_append,lim];omega) (by simp only [am,List.length_append,lim];omega)
 simp only [ao,Nat.reduceEqDiff,dB,bd,Tryz.results49,bT]
 exact aR (a3.conv (by rw [←Fl,List.append_assoc];rfl))
def fB (l:List Nat):List Nat:=[(dC l 0).toNat,(dC l 1).toNat,(dC l 2).toNat,(dC l 3).toNat]
theorem FM (l:List Nat) (i:Nat):((dC l i).toNat:Int)=dC l i:=by
 unfold dC
 rw [IntKind.wrap_u8]
 omega
theorem aiY (l:List Nat) (i:Nat):(dC l i).toNat<256:=by
 unfold dC
 rw [IntKind.wrap_u8]
 omega
theorem aiZ (l:List Nat):tw l=.agg (bp (fB l)):=by
 simp only [tw,fB,bp,List.map_cons,List.map_nil,FM]
def frame (l:List Nat):List Nat:=kI l++fB l
def zV (l:List Nat):V:=if 4096<l.length then .tuple [.ag,.int .i64 2] else .tuple [.an (frame l).length (bp (frame l)),.int .i64 0]
theorem UC (i:Nat):jL Tryz.prog 378 (.ptr i 0) none none none=some (.aj i 0 4 4):=by
 have u:Tryz.prog.underlying 378=some (.array 4 5):=by kernel_rfl
 have z:ap Tryz.prog 5=some 1:=by kernel_rfl
 unfold jL
 simp only [u,z]
 rfl
theorem ai0 {h:I} {i:Nat} {cs:List V} (aE:h.get i=.cells cs 378 none) (aw:cs.length=4) (h1:cs.all (·.one)=true):e3 Tryz.prog 1 56 (.aj i 0 4 4) h=some (4,cs):=by
 have u:Tryz.prog.underlying 56=some (.slice 5):=by kernel_rfl
 unfold e3
 simp only [u,aE,List.drop_zero,Nat.mul_one,Nat.zero_add]
 rw [List.take_of_length_le (by omega),if_pos ⟨by omega,h1⟩]
theorem Frame (l:List Nat) (h:I) (aw:l.length≤2 ^ 40):Pure Tryz.prog 276 [.an l.length (bp l)] h (zV l):=by
 by_cases ir:4096<l.length
 ·have d1:decide ((4096:Int)<(l.length:Nat))=true:=by simp;omega
  refine ah.aH (c:=_) Tryz.func276 rfl (by kernel_rfl) (by simp) ?_
  simp only [ao,Nat.reduceEqDiff,reduceCtorEq,gH,d1,bd,Tryz.results276,ha]
  exact aR ⟨by rw [zV,if_pos ir],rfl⟩
 have d1:decide ((4096:Int)<(l.length:Nat))=false:=by simp;omega
 rw [zV,if_neg ir]
 refine Pure.of (bb.tuple (aO.cons (bb.an (re _)) (aO.cons (bb.int _ _) aO.nil))) ?_
 refine ah.aH (c:=_) Tryz.func276 rfl (by kernel_rfl) (by simp) ?_
 simp only [ao,Nat.reduceEqDiff,reduceCtorEq,gH,d1]
 refine cK agf (sumOf l _ (by omega)) ?_
 rw [aiZ]
 have j7:ca (some 4) (aD.cells [.int .u8 0,.int .u8 0,.int .u8 0,.int .u8 0] 378 none) 0 (bp (fB l))=some (.cells (bp (fB l)) 378 none):=by
  rw [uf (n:=4) rfl (Cx _),if_pos (by decide)];rfl
 simp only [ao,Nat.reduceEqDiff,IZ,To,j7]
 refine aZ.b4 none_ [1,3] (.q 0 (.q 2 (.e 1 (.a 3 (.q 4 (.q 5 .done))) .stop))) (by kernel_rfl) (by kernel_rfl) (by kernel_rfl) ?_
 simp only [ao,b6,Nat.reduceEqDiff,reduceCtorEq,UC]
 refine cC agB (aiX .ag (.an l.length (bp l)) [] l _ (Rd.ag _) (Rd.an _ _) (by simp;omega)) fun r h1 bC=>?_
 have g1:h1.get h.n=.cells (bp (fB l)) 378 none:=(bC.au.get h.n (by rw [fR];omega) (fun h=>h)).trans c4
 have a2:Acc h h1 5 1 r (bp ([]++kI l)):=⟨bC.own,(aa.push _ _ _).trans bC.au fun _ _ h=>h,fun k hk=>by have:=bC.new k hk;rw [fR] at this;omega⟩
 have hle:=(hB l.length (by omega)).2
 obtain ⟨v,aI,dB,a3⟩:=a2.app (P:=Tryz.prog) (tx:=56) qv (by decide) (ai0 g1 rfl (Cx _)) (by rfl) (by simp only [am,List.length_append,lim,kI,fB,List.length_cons,List.length_nil];omega) (by simp only [am,List.length_append,lim,kI,fB,List.length_cons,List.length_nil];omega)
 simp only [ao,b6,Nat.reduceEqDiff,dB,bd,Tryz.results276,ha]
 refine ⟨bC.au,aR ?_⟩
 have a4:=a3.conv (show bp ([]++kI l)++bp (fB l)=bp (frame l) by rw [←Fl];rfl)
 obtain ⟨ab,c,k2⟩:=a4.cast (n:=(frame l).length) (by rw [am,Nat.mul_one]) (by decide)
 exact ⟨ab,aV.tuple (aS.cons c (aS.refl _ _)),k2⟩
theorem ai1 (a0 bC a2 a3 gx hW cZ qT:Int):dg Tryz.prog (Op.equal 378 (.agg #[.int .u8 a0,.int .u8 bC,.int .u8 a2,.int .u8 a3]) (.agg #[.int .u8 gx,.int .u8 hW,.int .u8 cZ,.int .u8 qT])) =
  some ((a0==gx)&&((bC==hW)&&((a2==cZ)&&(a3==qT)))):=by
 have u:Tryz.prog.underlying 378=some (.array 4 5):=by kernel_rfl
 have UD:Tryz.prog.underlying 5=some (.int .u8):=by kernel_rfl
 have z5:dg Tryz.prog (sizeOf 5)=some 1:=by kernel_rfl
 have Je:∀ (cs:Array Value) (o:Nat) (v:Value),cs[o]?=some v→dg Tryz.prog (part 5 cs o)=some v:=fun cs o v aN=>Mk UD rfl aN
 show dg Tryz.prog (Op.equalIn (9999+1) 378 _ _)=_
 unfold Op.equalIn
 simp only [ji,B8 u,Option.bind_some,z5]
 simp only [Std.Legacy.Range.forIn_eq_forIn_range',Std.Legacy.Range.size,List.range',List.forIn_cons,List.forIn_nil]
 have q:∀ a b:Int,dg Tryz.prog (Op.equalIn 9999 5 (.int .u8 a) (.int .u8 b))=some (a==b):=fun a b=>Rf (d:=9998) UD
 have ug:∀ w x y z:Value,dg Tryz.prog (part 5 #[w,x,y,z] 0)=some w:=fun w x y z=>Je _ 0 w rfl
 have k9:∀ w x y z:Value,dg Tryz.prog (part 5 #[w,x,y,z] 1)=some x:=fun w x y z=>Je _ 1 x rfl
 have xd:∀ w x y z:Value,dg Tryz.prog (part 5 #[w,x,y,z] 2)=some y:=fun w x y z=>Je _ 2 y rfl
 have FN:∀ w x y z:Value,dg Tryz.prog (part 5 #[w,x,y,z] 3)=some z:=fun w x y z=>Je _ 3 z rfl
 simp only [Nat.zero_add,Nat.mul_one,Nat.reduceAdd,ji,ug,q,Option.bind_some]
 cases (a0==gx)
 ·rfl
 simp only [Bool.not_true,Bool.false_eq_true,if_false,qo,Option.bind_some,ji,k9,q]
 cases (bC==hW)
 ·rfl
 simp only [Bool.not_true,Bool.false_eq_true,if_false,qo,Option.bind_some,ji,xd,q]
 cases (a2==cZ)
 ·rfl
 simp only [Bool.not_true,Bool.false_eq_true,if_false,qo,Option.bind_some,ji,FN,q]
 cases (a3==qT)<;>rfl
theorem Oc (a0 bC a2 a3 gx hW cZ qT:Int) {xo yo:Operand}:cl Tryz.prog .neq 378 xo yo (.agg [.int .u8 a0,.int .u8 bC,.int .u8 a2,.int .u8 a3]) (.agg [.int .u8 gx,.int .u8 hW,.int .u8 cZ,.int .u8 qT]) =
  some (.bool (!((a0==gx)&&((bC==hW)&&((a2==cZ)&&(a3==qT)))))):=by
 have aE:Tryz.prog.eqGuardType Tryz.prog.depth 378=false:=by kernel_rfl
 have h1:=ai1 a0 bC a2 a3 gx hW cZ qT
 unfold cl
 have ai2:∀ w x y z:Int,lK (.agg [.int .u8 w,.int .u8 x,.int .u8 y,.int .u8 z])=some (.agg #[.int .u8 w,.int .u8 x,.int .u8 y,.int .u8 z]):=fun _ _ _ _=>rfl
 simp only [ai2]
 have ab:dg Tryz.prog (eqGuard .neq 378 xo yo (.agg #[.int .u8 a0,.int .u8 bC,.int .u8 a2,.int .u8 a3]) (.agg #[.int .u8 gx,.int .u8 hW,.int .u8 cZ,.int .u8 qT]))=some ():=by
  simp [eqGuard,ji,Mj,aE,qo]
 rw [ji,ab]
 simp only [Option.bind_some,binOp,ji,h1,qo,Option.map_some]
 rfl
theorem UE (h:I):iA Tryz.prog 56 0 [] h=some (.aj h.n 0 0 0,h.push (.cells [] 5 none)):=by rw [lN qv];rfl
theorem UF (h:I):Acc h (h.push (.cells [] 5 none)) 5 1 (.aj h.n 0 0 0) (bp []) :=
 ⟨.inr ⟨h.n,0,0,[],none,rfl,Nat.lt_succ_self _,c4,rfl,rfl,.inl ⟨by simp [ai],Nat.le_refl _,Nat.le_refl _⟩⟩,aa.push _ _ _,fun k hk=>by simp [aA] at hk;omega⟩
theorem zW (l:List Nat) (aw:l.length≤2 ^ 40) (h:I):Pure Tryz.prog 109 [.an l.length (bp l)] h (.an l.length (bp l)):=by
 refine Pure.of (bb.an (re _)) ?_
 cases l with
 | nil=>
  refine ah.ou ?_ ?_
  ·refine ah.aH (c:=_) Tryz.func109 rfl (by kernel_rfl) (by simp) ?_
   have e:=Ia (xo:=.tmp 3) (yo:=.const (.slice none 0 0)) gH
   simp only [ao,Nat.reduceEqDiff,reduceCtorEq,e,bd,Tryz.results109,bT]
   exact aR ⟨h,aV.la h,aa.refl _ _⟩
  ·refine ah.aH (c:=_) Tryz.func109 rfl (by kernel_rfl) (by simp) ?_
   have e:∀ xo yo,cl Tryz.prog .eql 56 xo yo .gr .ag=some (.bool false):=fun xo yo=>H8 gH
   obtain ⟨v1,h1,aK,bC⟩:=Acc.oo (P:=Tryz.prog) (tx:=56) qv (UF h) (by decide) (Ib gH) rfl (fun m hm=>by
    change m * 1=_ at hm
    simp [bp] at hm
    subst hm;exact ⟨by decide,by decide⟩)
   have gx:=UE h
   simp only [ao,Nat.reduceEqDiff,reduceCtorEq,e,gx,aK,bd,Tryz.results109,bT]
   obtain ⟨ab,bx,k2⟩:=bC.cast (n:=0) rfl (by decide)
   exact aR ⟨ab,bx,k2⟩
 | cons x l=>
  refine ah.aH (c:=_) Tryz.func109 rfl (by kernel_rfl) (by simp) ?_
  have e:∀ xo yo,cl Tryz.prog .eql 56 xo yo (.an (x::l).length (bp (x::l))) .ag=some (.bool false):=fun xo yo=>H9 gH (by simp)
  obtain ⟨v1,h1,aK,bC⟩:=Acc.oo (P:=Tryz.prog) (tx:=56) qv (UF h) (by decide) (yZ gH (by rw [am,Nat.mul_one]) (Cx (x::l))) (by rw [am];exact (Nat.mul_one _).symm) (fun m hm=>by
   change m * 1=(bp []).length+(bp (x::l)).length at hm
   rw [am,am,List.length_nil] at hm
   exact ⟨by simp only [lim];omega,by simp only [lim];omega⟩)
  have gx:=UE h
  generalize (x::l)=q at e aK bC aw⊢
  simp only [ao,Nat.reduceEqDiff,reduceCtorEq,e,gx,aK,bd,Tryz.results109,bT]
  obtain ⟨ab,bx,k2⟩:=bC.cast (n:=q.length) (by rw [show bp []=[] from rfl,List.nil_append,am,Nat.mul_one]) (by decide)
  exact aR ⟨ab,bx,k2⟩
def kL (b:List Nat):List Nat×Nat×Nat :=
 if (dec (b.take 10) 0 0).2.2≠0 then ([],0,(dec (b.take 10) 0 0).2.2)
 else if 4096<(dec (b.take 10) 0 0).1 then ([],0,2)
 else if b.length<(dec (b.take 10) 0 0).2.1+(dec (b.take 10) 0 0).1+4 then ([],0,4)
 else if (b.drop ((dec (b.take 10) 0 0).2.1+(dec (b.take 10) 0 0).1)).take 4=fB ((b.drop (dec (b.take 10) 0 0).2.1).take (dec (b.take 10) 0 0).1) then
  ((b.drop (dec (b.take 10) 0 0).2.1).take (dec (b.take 10) 0 0).1,(dec (b.take 10) 0 0).2.1+(dec (b.take 10) 0 0).1+4,0)
 else ([],0,5)
def tJ (r:List Nat×Nat×Nat):V:=if r.2.2=0 then .tuple [.an r.1.length (bp r.1),.int .i64 (r.2.1:Nat),.int .i64 0] else .tuple [.ag,.int .i64 0,.int .i64 (r.2.2:Nat)]
theorem ai3 (r:List Nat×Nat×Nat):bb (tJ r):=by
 unfold tJ
 split
 ·exact bb.tuple (aO.cons (bb.an (re _)) (aO.cons (bb.int _ _) (aO.cons (bb.int _ _) aO.nil)))
 ·exact bb.tuple (aO.cons bb.ag (aO.cons (bb.int _ _) (aO.cons (bb.int _ _) aO.nil)))
theorem ai4 {h:I} {i n:Nat} {c cs:List V} (aE:h.get i=.cells c 378 none) (al:c.length=4) (aJ:4≤n) (dd:cs.length=n) (h1:cs.all (·.one)=true) :
  p7 Tryz.prog 56 (.aj i 0 4 4) (.an n cs) h=some (.int .i64 4,h.set i (.cells (cs.take 4) 378 none)):=by
 have e:pw Tryz.prog 56=some 5:=by kernel_rfl
 have z:ap Tryz.prog 5=some 1:=by kernel_rfl
 have m:Nat.min n 4=4:=Nat.min_eq_right aJ
 have EO:(cs.take 4).length=4:=by rw [List.length_take];omega
 have ec:(cs.take 4).all (·.one)=true:=List.all_eq_true.2 fun x af=>List.all_eq_true.1 h1 x (List.mem_of_mem_take af)
 have Od:lay c 0 (cs.take 4)=cs.take 4:=by
  unfold lay
  rw [List.drop_of_length_le (by omega)]
  simp
 unfold p7
 simp only [e,z,vt,m,p6,aE,Nat.mul_one]
 rw [if_pos ⟨aJ,by omega⟩]
 simp only
 rw [if_neg (by decide),if_pos ⟨by omega,ec⟩,Od]
 all_goals rfl
theorem UG {k:IntKind} (n:Nat):nZ (.int k (n:Int))=some n:=by
 unfold nZ
 simp
theorem wl (l:List Nat) (k:Nat):(bp l).take k=bp (l.take k):=by unfold bp;rw [List.map_take]
theorem Open (b:List Nat) (h:I) (ar:∀ x ∈ b,x<256) (aw:b.length≤2 ^ 40):Pure Tryz.prog 195 [.an b.length (bp b)] h (tJ (kL b)):=by
 refine Pure.val (ai3 _) ?_
 have FO:∀ x ∈ b.take 10,x<256:=fun x af=>ar x (List.mem_of_mem_take af)
 have ai5:(b.take 10).length≤10:=by rw [List.length_take];omega
 refine ah.aH (c:=_) Tryz.func195 rfl (by kernel_rfl) (by simp) ?_
 have iT:jL Tryz.prog 56 (.an b.length (bp b)) none (some (.int .i64 (min (b.length:Int) 10))) none=some (.an (b.take 10).length (bp (b.take 10))):=by
  have h1:=TH b (min b.length 10) (by omega) (kk:=.i64)
  have ab:b.take (min b.length 10)=b.take 10:=by
   rcases Nat.le_total b.length 10 with hle | hle
   ·rw [Nat.min_eq_left hle,List.take_of_length_le (Nat.le_refl _),List.take_of_length_le hle]
   ·rw [Nat.min_eq_right hle]
  rw [ab] at h1
  rw [←h1]
  congr 4
  omega
 simp only [ao,Nat.reduceEqDiff,reduceCtorEq,gH,iT]
 refine cC M4 (zK (.an (b.take 10).length (bp (b.take 10))) (b.take 10) h (Rd.an _ _) (by omega)) fun cq h1 ⟨aK,qF,bj⟩=>?_
 subst aK
 simp only [ao,Nat.reduceEqDiff]
 refine cC Cn (Cz _ _ (b.take 10) h1 qF FO (by omega)) fun ck ab ⟨a6,x9,k2⟩=>?_
 subst a6
 have b2:aa h ab none_:=bj.trans k2 fun k hk hi=>by omega
 have hu:=I4 (b.take 10) 0 0
 have af:=dec_lt (b.take 10) 0 0 (by omega) (by decide) FO
 unfold kL
 generalize a7:dec (b.take 10) 0 0=D at *
 obtain ⟨n,used,err⟩:=D
 simp only at hu af x9⊢
 by_cases cN:err=0
 case neg=>
  have d1:((err:Int) !=0)=true:=by simp;omega
  simp only [ao,Nat.reduceEqDiff,d1,bd,Tryz.results195,qU]
  rw [if_pos cN]
  exact aR ⟨by simp [tJ,cN],b2⟩
 subst cN
 rw [if_neg (by simp)]
 have d0:(((0:Nat):Int) !=0)=false:=by simp
 by_cases ir:4096<n
 ·have d2:decide ((4096:Int)<(n:Int))=true:=by simp;omega
  simp only [ao,Nat.reduceEqDiff,d0,d2,bd,Tryz.results195,qU]
  rw [if_pos ir]
  exact aR ⟨by simp [tJ],b2⟩
 rw [if_neg ir]
 have d2:decide ((4096:Int)<(n:Int))=false:=by simp;omega
 simp only [ao,Nat.reduceEqDiff,gH,d0,d2]
 refine cK SC (Left _ _ _ _ x9) ?_
 have Kn:IntKind.i64.wrap ((((b.take 10).length:Nat):Int) - ((((b.take 10).drop used).length:Nat):Int))=(used:Int):=by
  rw [List.length_drop,Go.IntWalk.i64_in _ (by omega)];omega
 have kX:IntKind.i64.wrap (n:Int)=(n:Int):=TE (by omega)
 have AX:IntKind.i64.wrap ((used:Int)+(n:Int))=((used+n:Nat):Int):=by rw [Go.IntWalk.i64_in _ (by omega)];omega
 have Ko:IntKind.i64.wrap ((b.length:Int) - ((used+n:Nat):Int))=(b.length:Int) - ((used+n:Nat):Int):=Go.IntWalk.i64_in _ (by omega)
 by_cases uM:b.length<used+n+4
 ·have d3:decide ((b.length:Int) - ((used+n:Nat):Int)<4)=true:=by rw [decide_eq_true_iff];omega
  simp only [ao,Nat.reduceEqDiff,reduceCtorEq,gH,Kn,js jS gG,kX,AX,Ko,d3,bd,Tryz.results195,qU]
  rw [if_pos uM]
  exact aR ⟨by simp [tJ],b2⟩
 rw [if_neg uM]
 have d3:decide ((b.length:Int) - ((used+n:Nat):Int)<4)=false:=by rw [decide_eq_false_iff_not];omega
 simp only [ao,Nat.reduceEqDiff,reduceCtorEq,gH,IZ,Kn,js jS gG,kX,AX,Ko,d3]
 have UH:=I7 b (used+n) (by omega) (kk:=.i64)
 have UI:p7 Tryz.prog 56 (.aj ab.n 0 4 4) (.an (b.drop (used+n)).length (bp (b.drop (used+n)))) (ab.push (.cells [.int .u8 0,.int .u8 0,.int .u8 0,.int .u8 0] 378 none)) =
   some (.int .i64 4,(ab.push (.cells [.int .u8 0,.int .u8 0,.int .u8 0,.int .u8 0] 378 none)).set ab.n (.cells (bp ((b.drop (used+n)).take 4)) 378 none)):=by
  rw [ai4 c4 rfl (by rw [List.length_drop];omega) (am _) (Cx _),wl]
 refine aZ.b4 none_ [4] (.q 0 (.q 1 (.q 2 (.q 3 (.a 4 .done))))) (by kernel_rfl) (by kernel_rfl) (by kernel_rfl) ?_
 simp only [ao,b6,Nat.reduceEqDiff,reduceCtorEq,UC,UH,UI]
 have jj:((b.drop used).take n).length=n:=by rw [List.length_take,List.length_drop];omega
 have Kp:jL Tryz.prog 56 (.an b.length (bp b)) (some (.int .i64 (used:Int))) (some (.int .i64 ((used+n:Nat):Int))) none=some (.an ((b.drop used).take n).length (bp ((b.drop used).take n))):=by
  rw [Md (lo:=some (.int .i64 (used:Int))) (hi:=some (.int .i64 ((used+n:Nat):Int))) (l:=used) (m:=used+n) Cw (UG (k:=.i64) used) (UG (k:=.i64) (used+n)) (by omega) (by omega) (by rw [am,Nat.mul_one])]
  rw [jj]
  unfold bp
  rw [Nat.mul_one,Nat.add_sub_cancel_left,Nat.mul_one,←List.map_drop,←List.map_take]
 have xC:(ab.push (.cells (bp ((b.drop (used+n)).take 4)) 378 none)).get ab.n=.cells (bp ((b.drop (used+n)).take 4)) 378 none:=c4
 have gM:aa h (ab.push (.cells (bp ((b.drop (used+n)).take 4)) 378 none)) none_:=b2.trans (aa.push _ _ _) (fun _ _ h=>h)
 generalize ab.push (.cells (bp ((b.drop (used+n)).take 4)) 378 none)=h4 at xC gM⊢
 generalize ai6:(b.drop used).take n=fX at jj Kp⊢
 generalize Jf:(b.drop (used+n)).take 4=told at xC⊢
 have Kq:told.length=4:=by rw [←Jf,List.length_take,List.length_drop];omega
 obtain ⟨t0,t1,t2,t3,rfl⟩:∃ t0 t1 t2 t3,told=[t0,t1,t2,t3]:=by
  match told,Kq with
  | [t0,t1,t2,t3],_=>exact ⟨t0,t1,t2,t3,rfl⟩
 simp only [ao,Nat.reduceEqDiff,Kp]
 refine aZ.b4 none_ [] (.q 0 (.q 1 (.c 2 (.q 3 .done)))) (by kernel_rfl) (by kernel_rfl) (by kernel_rfl) ?_
 have UJ:cW (.cells (bp [t0,t1,t2,t3]) 378 none) 0=some (bp [t0,t1,t2,t3]):=rfl
 have hy:hI (some (some 4)) (some (bp [t0,t1,t2,t3]))=some (.agg (bp [t0,t1,t2,t3])):=rfl
 simp only [ao,b6,Nat.reduceEqDiff,SZ,xC,UJ,hy]
 refine jQ rfl rfl rfl (fun U _=>sumOf fX U (by omega)) ?_
 have hR:(((t0:Int)==dC fX 0)&&(((t1:Int)==dC fX 1)&&(((t2:Int)==dC fX 2)&&((t3:Int)==dC fX 3))))=decide ([t0,t1,t2,t3]=fB fX):=by
  rw [Bool.eq_iff_iff]
  have gr:=FM fX 0
  have aK:=FM fX 1
  have a6:=FM fX 2
  have dB:=FM fX 3
  simp only [Bool.and_eq_true,beq_iff_eq,decide_eq_true_iff,fB,List.cons.injEq,and_true]
  constructor
  ·rintro ⟨ay,h1,ab,aI⟩
   omega
  ·rintro ⟨ay,h1,ab,aI⟩
   omega
 have FP:∀ xo yo,cl Tryz.prog .neq 378 xo yo (.agg [.int .u8 (t0:Int),.int .u8 (t1:Int),.int .u8 (t2:Int),.int .u8 (t3:Int)]) (.agg [.int .u8 (dC fX 0),.int .u8 (dC fX 1),.int .u8 (dC fX 2),.int .u8 (dC fX 3)])=some (.bool (!decide ([t0,t1,t2,t3]=fB fX))):=fun xo yo=>by rw [Oc,hR]
 have Kr:bp [t0,t1,t2,t3]=[.int .u8 (t0:Int),.int .u8 (t1:Int),.int .u8 (t2:Int),.int .u8 (t3:Int)]:=rfl
 by_cases aU:[t0,t1,t2,t3]=fB fX
 ·have d4:(!decide ([t0,t1,t2,t3]=fB fX))=false:=by simp [aU]
  rw [if_pos aU]
  simp only [ao,b6,Nat.reduceEqDiff,tw,Kr,FP,d4]
  refine cK ET (zW fX (by omega) h4) ?_
  have oq:IntKind.i64.wrap (((used+n:Nat):Int)+4)=((used+n+4:Nat):Int):=by rw [Go.IntWalk.i64_in _ (by omega)];omega
  simp only [ao,Nat.reduceEqDiff,oq,bd,Tryz.results195,qU]
  exact aR ⟨by simp [tJ],gM⟩
 ·have d4:(!decide ([t0,t1,t2,t3]=fB fX))=true:=by simp [aU]
  rw [if_neg aU]
  simp only [ao,b6,Nat.reduceEqDiff,tw,Kr,FP,d4,Nat.reduceEqDiff,bd,Tryz.results195,qU]
  exact aR ⟨by simp [tJ],gM⟩
def gI:Nat→List Nat→List (List Nat)×Nat
 | 0,_=>([],0)
 | k+1,b=>if b=[]∨(kL b).2.2≠0 then ([],0) else ((kL b).1::(gI k (b.drop (kL b).2.1)).1,(kL b).2.1+(gI k (b.drop (kL b).2.1)).2)
def cS (l:List (List Nat)):List V:=l.map fun p=>.an p.length (bp p)
theorem rp (l:List (List Nat)):(cS l).length=l.length:=by simp [cS]
theorem un (a b:List (List Nat)):cS (a++b)=cS a++cS b:=by simp [cS]
theorem UK (b:List Nat) (h:(kL b).2.2=0):4≤(kL b).2.1∧(kL b).2.1≤b.length:=by
 unfold kL at *
 by_cases h1:(dec (b.take 10) 0 0).2.2≠0
 ·rw [if_pos h1] at h
  exact absurd h h1
 rw [if_neg h1] at h⊢
 by_cases ab:4096<(dec (b.take 10) 0 0).1
 ·rw [if_pos ab] at h
  exact absurd h (by decide)
 rw [if_neg ab] at h⊢
 by_cases aI:b.length<(dec (b.take 10) 0 0).2.1+(dec (b.take 10) 0 0).1+4
 ·rw [if_pos aI] at h
  exact absurd h (by decide)
 rw [if_neg aI] at h⊢
 split at h
 ·rename_i h4
  rw [if_pos h4]
  exact ⟨by simp only;omega,by simp only;omega⟩
 ·exact absurd h (by decide)
theorem UL (h:I) (n:Nat) (cs:List V):iA Tryz.prog 113 1 [(0,.an n cs)] h=some (.aj h.n 0 1 1,h.push (.cells [.an n cs] 56 none)):=by
 rw [lN Cu]
 all_goals rfl
theorem Scan (b:List Nat) (h:I) (ar:∀ x ∈ b,x<256) (aw:b.length≤2 ^ 30):ah Tryz.prog 149 [.an b.length (bp b)] h (fun r U=>∃ v,r=.tuple [v,.int .i64 ((gI b.length b).2:Nat)]∧Acc h U 56 1 v (cS (gI b.length b).1)):=by
 refine ah.aH (c:=_) Tryz.func149 rfl (by kernel_rfl) (by simp) ?_
 simp only [ao]
 refine aZ.xw (α:=Unit) (l:=0) rfl (fun _ _ _=>False) (fun _=>0) (fun _ _ _ eM=>eM.elim) (fun _ _ _ eM=>eM.elim) fun _=>?_
 refine gn (by kernel_rfl) ?_
 simp only [ao]
 refine aZ.cu (α:=Nat×List (List Nat)×Nat×V) (fun x f U=>f 0=.an b.length (bp b)∧f 4=x.2.2.2∧f 5=.int .i64 (x.2.2.1:Nat)∧x.2.2.1≤b.length∧x.2.1.length≤x.2.2.1∧b.length - x.2.2.1≤x.1∧Acc h U 56 1 x.2.2.2 (cS x.2.1) ∧
  x.2.1++(gI x.1 (b.drop x.2.2.1)).1=(gI b.length b).1∧x.2.2.1+(gI x.1 (b.drop x.2.2.1)).2=(gI b.length b).2) (fun x=>x.1) (b.length,[],0,.ag)
  ⟨rfl,rfl,rfl,Nat.zero_le _,Nat.le_refl _,Nat.le_refl _,Acc.nil (aa.refl _ _),by simp,by simp⟩ ?_
 rintro ⟨k,acc,at_,v⟩ f h1 ⟨f0,f4,f5,nD,ql,hk,bC,u6,u7⟩
 simp only at f0 f4 f5 nD ql hk bC u6 u7
 refine gn (by kernel_rfl) ?_
 have fin:Acc h h1 56 1 v (cS acc)→(gI k (b.drop at_))=([],0)→∃ v2,V.tuple [v,.int .i64 (at_:Nat)]=.tuple [v2,.int .i64 ((gI b.length b).2:Nat)]∧Acc h h1 56 1 v2 (cS (gI b.length b).1):=fun bC bB=>by
  rw [bB] at u6 u7
  simp only [List.append_nil,Nat.add_zero] at u6 u7
  rw [←u6,←u7]
  exact ⟨v,rfl,bC⟩
 by_cases aT:at_<b.length
 ·have d1:decide ((at_:Int)<((b.length:Nat):Int))=true:=by rw [decide_eq_true_iff];omega
  have iT:=I7 b at_ (by omega) (kk:=.i64)
  obtain ⟨k',rfl⟩:∃ k',k=k'+1:=⟨k - 1,by omega⟩
  have bc:b.drop at_≠[]:=fun ad=>by
   have:=congrArg List.length ad
   rw [List.length_drop,List.length_nil] at this
   omega
  simp only [ao,Nat.reduceEqDiff,reduceCtorEq,gH,f0,f5,d1,iT]
  refine cK af9 (Open (b.drop at_) h1 (fun x af=>ar x (List.mem_of_mem_drop af)) (by rw [List.length_drop];omega)) ?_
  have aU:=UK (b.drop at_)
  have eM:gI (k'+1) (b.drop at_)=if b.drop at_=[]∨(kL (b.drop at_)).2.2≠0 then ([],0) else ((kL (b.drop at_)).1::(gI k' ((b.drop at_).drop (kL (b.drop at_)).2.1)).1,(kL (b.drop at_)).2.1+(gI k' ((b.drop at_).drop (kL (b.drop at_)).2.1)).2):=rfl
  rw [List.length_drop] at aU
  generalize kL (b.drop at_)=O at aU eM⊢
  obtain ⟨fX,len,err⟩:=O
  simp only at aU eM
  by_cases cN:err=0
  ·obtain ⟨sC,anq⟩:=aU cN
   subst cN
   rw [if_neg (by simp [bc]),List.drop_drop] at eM
   have d2:((0:Int) !=0)=false:=rfl
   have hw:IntKind.i64.wrap ((at_:Int)+(len:Int))=((at_+len:Nat):Int):=by rw [Go.IntWalk.i64_in _ (by omega)];omega
   have jY:=UL h1 fX.length (bp fX)
   obtain ⟨v2,ab,a6,a2⟩:=bC.elem (P:=Tryz.prog) Cu (by decide) (xs:=[.an fX.length (bp fX)]) rfl rfl (by simp only [rp,lim];omega) (by simp only [rp,lim];omega)
   have FQ:tJ (fX,len,0)=.tuple [.an fX.length (bp fX),.int .i64 (len:Nat),.int .i64 0]:=rfl
   simp only [ao,FQ,Nat.reduceEqDiff,f4,f5,jY,a6,hw]
   rw [eM] at u6 u7
   refine aR ⟨(k',acc++[fX],at_+len,v2),⟨f0,rfl,rfl,by simp only;omega,by simp only [List.length_append,List.length_cons,List.length_nil];omega,by simp only;omega,?_,?_,?_⟩,by simp only;omega⟩
   ·rw [un];exact a2
   ·rw [←u6];simp [List.append_assoc]
   ·rw [←u7];simp only;omega
  ·have d2:((err:Int) !=0)=true:=by simp;omega
   have FQ:tJ (fX,len,err)=.tuple [.ag,.int .i64 0,.int .i64 (err:Nat)]:=by simp [tJ,cN]
   rw [if_pos (.inr cN)] at eM
   simp only [ao,FQ,Nat.reduceEqDiff,reduceCtorEq,f4,f5,d2]
   exact aR (fin bC eM)
 ·have d1:decide ((at_:Int)<((b.length:Nat):Int))=false:=by rw [decide_eq_false_iff_not];omega
  have bB:gI k (b.drop at_)=([],0):=by
   rw [List.drop_of_length_le (by omega)]
   cases k with
   | zero=>rfl
   | succ k=>simp [gI]
  simp only [ao,Nat.reduceEqDiff,reduceCtorEq,gH,f0,f4,f5,d1]
  exact aR (fin bC bB)
structure cz (h:I) (p:V) (room:Int) (bs:List Int) (safe:Int) (i:Nat) (v:V):Prop where
 p:p=.ptr i 0
 lt:i<h.n
 get:h.get i=.cells [.int .i64 room,v,.int .i64 safe] 152 none
 own:Own h 5 1 v (bs.map (.int .u8))
 ne:aA v≠some i
 len:(bs.length:Int)≤room
 most:room≤1048576
 Jg:0≤safe
 Jh:safe≤bs.length
def nV (i:Nat) (v:V):Nat→Prop:=fun k=>k=i∨aA v=some k
theorem cz.au {h U:I} {p:V} {room safe:Int} {bs:List Int} {i:Nat} {v:V} (d:cz h p room bs safe i v) {own:Nat→Prop} (hk:aa h U own) (bc:∀ k,nV i v k→¬own k):cz U p room bs safe i v :=
 ⟨d.p,Nat.lt_of_lt_of_le d.lt hk.n,(hk.get i d.lt (bc i (.inl rfl))).trans d.get,d.own.au hk fun k hk=>bc k (.inr hk),d.ne,d.len,d.most,d.Jg,d.Jh⟩
theorem cz.cP {h U:I} {p:V} {room safe:Int} {bs:List Int} {i:Nat} {v:V} (d:cz h p room bs safe i v) (hk:aa h U none_):cz U p room bs safe i v:=d.au hk fun _ _ h=>h
theorem UM (l:List Int):(l.map (V.int .u8)).all (·.one)=true:=by
 rw [List.all_eq_true];intro x af
 obtain ⟨n,_,rfl⟩:=List.mem_map.1 af
 rfl
theorem Oe (h:I) (room:Int) (ay:0≤room) (h1:room≤1048576) :
  ah Tryz.prog 50 [.int .i64 room] h (fun r U=>r=.tuple [.ptr h.n 0,.int .i64 0]∧cz U (.ptr h.n 0) room [] 0 h.n .ag∧aa h U none_):=by
 refine ah.aH (c:=_) Tryz.func50 rfl (by kernel_rfl) (by simp) ?_
 have bf:decide (room<0)=false:=by simp;omega
 have bx:decide (1048576<room)=false:=by simp;omega
 simp only [ao,Nat.reduceEqDiff,Nat.reduceAdd,Nat.reduceLeDiff,reduceCtorEq,ahj,ahD,bf,bx,bd,Tryz.results50,ha]
 exact aR ⟨rfl,⟨rfl,by rw [fR];omega,c4,Own.ag _ _ _,by simp [aA],by simpa using ay,h1,Int.le_refl _,by simp⟩,aa.push _ _ _⟩
theorem UN (h:I) (p:V) (room:Int) (bs:List Int) (safe:Int) (i:Nat) (v:V) (d:cz h p room bs safe i v) :
  ah Tryz.prog 175 [p] h (fun r U=>cz U p room bs bs.length i v∧aa h U (nV i v)):=by
 obtain ⟨rfl,hi,aE,av,bc,d1,d2,d3,d4⟩:=d
 refine ah.aH (c:=_) Tryz.func175 rfl (by kernel_rfl) (by simp) ?_
 have hlen:=av.length (by omega) Tryz.prog gH
 have aK:(bs.map (V.int .u8)).length / 1=bs.length:=by simp
 rw [aK] at hlen
 simp only [ao,Nat.reduceEqDiff,Nat.reduceAdd,Nat.reduceLeDiff,reduceCtorEq,zD,SI,xL,lB,kH,aE,hlen,o0,Tryz.results175,lv]
 exact aR ⟨⟨rfl,hi,e4,av.au (aa.set _ _ _) (fun k hk iy=>bc (by rw [hk,iy])),bc,d1,d2,by omega,by simp⟩,(aa.set _ _ _).mono fun k hk=>.inl hk⟩
theorem Eq (bs:List Int):(bs.map (V.int .u8)).length / 1=bs.length:=by simp
theorem cz.cE {h:I} {p:V} {room safe:Int} {bs:List Int} {i:Nat} {v:V} (d:cz h p room bs safe i v):cE Tryz.prog 56 v h=some (.int .i64 bs.length):=by
 have:=d.own.length (by omega) Tryz.prog gH
 rwa [Eq] at this
def mj (h:I) (i:Nat) (v v':V):Prop:=aA v'=aA v∨∀ k,aA v'=some k→h.n≤k
theorem ai7 (h:I) (p:V) (room:Int) (bs:List Int) (safe:Int) (i:Nat) (v:V) (d:cz h p room bs safe i v) (x:V) (ns:List Int)
  (af:e3 Tryz.prog 1 56 x h=some (ns.length,ns.map (.int .u8))) (oj:cE Tryz.prog 56 x h=some (.int .i64 ns.length)) :
  ah Tryz.prog 379 [p,x] h (fun r U=>if (bs.length+ns.length:Int)≤room
   then r=.int .i64 0∧∃ v',cz U p room (bs++ns) safe i v'∧mj h i v v'∧aa h U (nV i v)
   else r=.int .i64 3∧U=h):=by
 have hlen:=d.cE
 obtain ⟨rfl,hi,aE,av,bc,d1,d2,d3,d4⟩:=d
 refine ah.aH (c:=_) Tryz.func379 rfl (by kernel_rfl) (by simp) ?_
 have bK:IntKind.i64.wrap (room - (bs.length:Int))=room - bs.length:=by rw [Go.IntWalk.i64_in _ (by omega)]
 by_cases al:(bs.length+ns.length:Int)≤room
 ·have bf:decide (room - (bs.length:Int)<(ns.length:Int))=false:=by simp;omega
  obtain ⟨v',U,aL,e9,cF,jh⟩:=HE (P:=Tryz.prog) (tx:=56) qv (by decide) av af (by simp) (by simp [lim];omega) (by simp [lim];omega)
  have FR:U.get i=.cells [.int .i64 room,v,.int .i64 safe] 152 none:=(cF.get i hi bc).trans aE
  have sT:aA v'≠some i:=by
   rcases jh with h1 | h1
   ·rw [h1];exact bc
   ·intro ab
    have:=h1 i ab
    omega
  obtain ⟨FT,ec⟩:v'.cells=some [v']∧v'.one=true:=by
   rcases e9 with ⟨rfl | rfl,_⟩ | ⟨i2,DR,qW,bx,UO,rfl,_⟩<;>exact ⟨rfl,rfl⟩
  simp only [ao]
  refine aZ.xi [] (by kernel_rfl) (by kernel_rfl) (by kernel_rfl) ?_
  simp only [ao,QL,QQ,QM,QR,mp,QS,QT,QU,l8,Bool.or_false,List.contains_nil,Nat.reduceEqDiff,Nat.reduceAdd,Nat.reduceLeDiff,reduceCtorEq,SH,zD,xL,bz,lB,vY,aE,hlen,oj,bK,bf,aL,FR,FT,ec,bd,Tryz.results379,bT]
  refine aR ?_
  rw [if_pos al]
  refine ⟨rfl,v',⟨rfl,?_,e4,?_,sT,?_,d2,d3,?_⟩,jh,?_⟩
  ·rw [kE];exact Nat.lt_of_lt_of_le hi cF.n
  ·rw [List.map_append]
   exact e9.au (aa.set _ _ _) fun k hk iy=>sT (by rw [hk,iy])
  ·simp;omega
  ·simp;omega
  ·exact (cF.mono fun k hk=>.inr hk).trans (aa.set _ _ _) fun k _ hk=>.inl hk
 ·have bf:decide (room - (bs.length:Int)<(ns.length:Int))=true:=by simp;omega
  simp only [ao]
  refine aZ.xi [] (by kernel_rfl) (by kernel_rfl) (by kernel_rfl) ?_
  simp only [ao,QL,QQ,QM,QR,mp,QS,QT,QU,l8,Bool.or_false,List.contains_nil,Nat.reduceEqDiff,Nat.reduceAdd,Nat.reduceLeDiff,reduceCtorEq,SH,zD,xL,bz,lB,aE,hlen,oj,bK,bf,bd,Tryz.results379,bT]
  refine aR ?_
  rw [if_neg al]
  exact ⟨rfl,rfl⟩
theorem ai8 (h:I) (p:V) (room:Int) (bs:List Int) (safe:Int) (i:Nat) (v:V) (d:cz h p room bs safe i v) :
  ah Tryz.prog 380 [p] h (fun r U=>r=.aj h.n 0 bs.length bs.length∧Own U 5 1 r (bs.map (.int .u8))∧aa h U none_):=by
 have hlen:=d.cE
 obtain ⟨rfl,hi,aE,av,bc,d1,d2,d3,d4⟩:=d
 refine ah.aH (c:=_) Tryz.func380 rfl (by kernel_rfl) (by simp) ?_
 obtain ⟨n,aK,a6,dB⟩:=QZ av (by omega)
 obtain rfl:n=bs.length:=by simpa using a6.symm
 obtain ⟨h1,ab,c2,eE,jt,o7,xD⟩:=ade (P:=Tryz.prog) (tx:=56) (k:=.i64) (k':=.i64) (h:=h) qv aK (fun U hk=>by
  have e9:=av.cP hk
  obtain ⟨m,f1,f2,f3⟩:=QZ e9 (by omega)
  rw [aK] at f1
  obtain rfl:bs.length=m:=Option.some.inj f1
  exact f3) (UM bs) (by simp) (by simp;omega) (by omega)
 have mE:h1.get i=.cells [.int .i64 room,v,.int .i64 safe] 152 none:=(o7.get i hi (by simp [none_])).trans aE
 simp only [ao,Nat.reduceEqDiff,Nat.reduceAdd,Nat.reduceLeDiff,reduceCtorEq,zD,xL,lB,aE,hlen,c2,mE,eE,bd,Tryz.results380,bT]
 exact aR ⟨rfl,jt,xD⟩
theorem ai9 (h:I) (p:V) (room:Int) (bs:List Int) (safe:Int) (i:Nat) (v:V) (d:cz h p room bs safe i v) :
  Pure Tryz.prog 380 [p] h (.an bs.length (bs.map (.int .u8))):=by
 refine Pure.of (bb.an (aO.map fun _ _=>bb.int _ _)) ((ai8 h p room bs safe i v d).mono fun r U ⟨aK,a6,dB⟩=>?_)
 obtain ⟨ab,c,k⟩:=aV.own a6 (n:=bs.length) (by simp) (by omega)
 refine ⟨ab,c,dB.trans k fun j aC J=>?_⟩
 subst aK
 simp [aW,aA] at J
 omega
theorem we {h:I} {e:TypeId} {sz:Nat} {v:V} {cs:List V} (av:Own h e sz v cs):v.cells=some [v]∧v.one=true:=by
 rcases av with ⟨rfl | rfl,_⟩ | ⟨i2,DR,qW,bx,UO,rfl,_⟩<;>exact ⟨rfl,rfl⟩
theorem aja (h:I) (p:V) (room:Int) (bs:List Int) (safe:Int) (i:Nat) (v:V) (d:cz h p room bs safe i v) (n:Nat) (aJ:n≤bs.length) :
  ah Tryz.prog 174 [p,.int .i64 n] h (fun r U=>∃ v',cz U p room (bs.take n) (min safe n) i v'∧aA v'=aA v∧aa h U (nV i v)):=by
 obtain ⟨rfl,hi,aE,av,bc,d1,d2,d3,d4⟩:=d
 refine ah.aH (c:=_) Tryz.func174 rfl (by kernel_rfl) (by simp) ?_
 obtain ⟨s,h1,c2,eE,⟨cs',jt,o7,xD⟩,Ji⟩:=adb (P:=Tryz.prog) (k:=.i64) qv (by decide) rfl av (n:=n) (by simpa using aJ)
 have mE:h1.get i=.cells [.int .i64 room,v,.int .i64 safe] 152 none:=(Ji.get i hi bc).trans aE
 obtain ⟨v2,k9,xd,FN⟩:=ada (P:=Tryz.prog) (k:=.i64) (k2:=.i64) qv (by decide) xD (n:=n) (by rw [o7];simpa using aJ) (by rw [o7];simp [ai];omega)
 obtain ⟨FU,zX⟩:=we xd
 simp only [ao,Nat.reduceEqDiff,Nat.reduceAdd,Nat.reduceLeDiff,reduceCtorEq,zD,SI,bz,lB,kH,vY,aE,c2,eE,mE,k9,FU,zX,o0,Tryz.results174,lv]
 refine aR ⟨v2,⟨rfl,?_,e4,?_,by rw [FN];exact bc,?_,d2,by omega,?_⟩,FN,?_⟩
 ·rw [kE];exact Nat.lt_of_lt_of_le hi Ji.n
 ·have:=xd
  rw [jt,Nat.mul_one,←List.map_take] at this
  exact this.au (aa.set _ _ _) fun k hk iy=>bc (by rw [←FN,hk,iy])
 ·rw [List.length_take];omega
 ·rw [List.length_take];omega
 ·exact (Ji.mono fun k hk=>.inr hk).trans (aa.set _ _ _) fun k _ hk=>.inl hk
def ajb (turn b:Int):Int:=jr .u8 b (IntKind.u8.wrap (1 * 2 ^ (min turn.toNat IntKind.u8.bits)))
def bQ (turn:Int) (bs:List Int):List Int:=bs.set (bs.length - 1) (ajb turn (bs.getLastD 0))
theorem ajc (h:I) (p:V) (room:Int) (bs:List Int) (safe:Int) (i:Nat) (v:V) (d:cz h p room bs safe i v) (ns:List Int) :
  ah Tryz.prog 379 [p,.an ns.length (ns.map (.int .u8))] h (fun r U=>if (bs.length+ns.length:Int)≤room
   then r=.int .i64 0∧∃ v',cz U p room (bs++ns) safe i v'∧mj h i v v'∧aa h U (nV i v)
   else r=.int .i64 3∧U=h) :=
 ai7 h p room bs safe i v d _ ns (yZ gH (by simp) (UM ns)) (Dt gH)
theorem Of (h:I) (p:V) (room:Int) (bs:List Int) (safe:Int) (i:Nat) (v:V) (d:cz h p room bs safe i v) (n:Int) :
  ah Tryz.prog 381 [p,.int .i64 n] h (fun r U=>if 0≤n∧n≤bs.length
   then r=.int .i64 0∧∃ v',cz U p room (bs.take n.toNat) (min safe n) i v'∧aA v'=aA v∧aa h U (nV i v)
   else r=.int .i64 2∧U=h):=by
 have hlen:=d.cE
 have d0:=d
 obtain ⟨rfl,hi,aE,av,bc,d1,d2,d3,d4⟩:=d
 refine ah.aH (c:=_) Tryz.func381 rfl (by kernel_rfl) (by simp) ?_
 by_cases ay:n<0
 ·have mW:decide (n<0)=true:=by simp [ay]
  simp only [ao,Nat.reduceEqDiff,reduceCtorEq,xL,mW,bd,Tryz.results381,bT]
  refine aR ?_
  rw [if_neg (by omega)]
  exact ⟨rfl,rfl⟩
 ·have mW:decide (n<0)=false:=by simp;omega
  by_cases h1:n≤bs.length
  ·have bf:decide ((bs.length:Int)<n)=false:=by simp;omega
   simp only [ao,Nat.reduceEqDiff,Nat.reduceAdd,Nat.reduceLeDiff,reduceCtorEq,zD,xL,lB,mW,aE,hlen,bf]
   obtain ⟨m,rfl⟩:∃ m:Nat,n=m:=⟨n.toNat,by omega⟩
   refine cC af5 (aja h _ room bs safe i v d0 m (by omega)) fun r h1 ⟨v1,aK,a6,dB⟩=>?_
   simp only [ao,Nat.reduceEqDiff,bd,Tryz.results381,bT]
   refine aR ?_
   rw [if_pos (by omega),Int.toNat_natCast]
   exact ⟨rfl,v1,aK,a6,dB⟩
  ·have bf:decide ((bs.length:Int)<n)=true:=by simp;omega
   simp only [ao,Nat.reduceEqDiff,Nat.reduceAdd,Nat.reduceLeDiff,reduceCtorEq,zD,xL,lB,mW,aE,hlen,bf,bd,Tryz.results381,bT]
   refine aR ?_
   rw [if_neg (by omega)]
   exact ⟨rfl,rfl⟩
theorem ajd : dX Tryz.prog 116 "Bytes" 380 := ⟨fun v w => by kernel_rfl, by kernel_rfl⟩
theorem UP : dX Tryz.prog 116 "Sync" 175 := ⟨fun v w => by kernel_rfl, by kernel_rfl⟩
theorem Og : dX Tryz.prog 116 "Cut" 381 := ⟨fun v w => by kernel_rfl, by kernel_rfl⟩
theorem aje : dX Tryz.prog 116 "Append" 379 := ⟨fun v w => by kernel_rfl, by kernel_rfl⟩
def lF (l:List Nat):List Int:=l.map fun (n:Nat)=>(n:Int)
theorem wg (l:List Nat):(lF l).length=l.length:=by simp [lF]
theorem ajf (l:List Nat) (k:Nat):(lF l).take k=lF (l.take k):=by unfold lF;rw [List.map_take]
theorem ajg (a b:List Nat):lF (a++b)=lF a++lF b:=by simp [lF]
theorem UQ (l:List Nat):(lF l).map (V.int .u8)=bp l:=by unfold lF bp;rw [List.map_map];rfl
theorem UR:∀ (k:Nat) (b:List Nat),(gI k b).2≤b.length
 | 0,b=>Nat.zero_le _
 | k+1,b=>by
  unfold gI
  split
  ·exact Nat.zero_le _
  ·rename_i ad
   have aU:=UK b (by
    rcases Nat.eq_zero_or_pos (kL b).2.2 with ay | ay
    ·exact ay
    ·exact absurd (.inr (by omega)) ad)
   have ih:=UR k (b.drop (kL b).2.1)
   rw [List.length_drop] at ih
   simp only
   omega
theorem ajh (h:I) (i j:Nat) (room:Int) (bs:List Nat) (ar:∀ x ∈ bs,x<256) (safe:Int) (v:V) (d:cz h (.ptr i 0) room (lF bs) safe i v) (aC:j<h.n)
  (uC:h.get j=.cells [.iface 116 (.ptr i 0)] 218 none) (sw:j≠i) (Ks:aA v≠some j) :
  ah Tryz.prog 113 [.ptr j 0] h (fun r U=>∃ pv v',r=.tuple [pv,.int .i64 ((bs.length:Int) - ((gI bs.length bs).2:Nat))] ∧
   cz U (.ptr i 0) room (lF (bs.take (gI bs.length bs).2)) ((gI bs.length bs).2:Nat) i v'∧aA v'=aA v∧Own U 56 1 pv (cS (gI bs.length bs).1)∧(∀ k,aA pv=some k→h.n≤k)∧aa h U (nV i v)):=by
 have lA:bs.length≤1048576:=by have:=d.len;have:=d.most;rw [wg] at *;omega
 have iT:=UR bs.length bs
 have US:=ai9 h (.ptr i 0) room (lF bs) safe i v d
 rw [wg,UQ] at US
 refine ah.aH (c:=_) Tryz.func113 rfl (by kernel_rfl) (by simp) ?_
 simp only [ao,Nat.reduceEqDiff,reduceCtorEq,E1,Fa,uC,Dr ajd]
 refine cK agy US ?_
 simp only [ao,Nat.reduceEqDiff]
 refine cC afU (Scan bs h ar (by omega)) fun cq h1 ⟨pv,aK,bC⟩=>?_
 subst aK
 have Bq:=(bC.au.get j aC (fun h=>h)).trans uC
 have d1:=d.cP bC.au
 generalize gI bs.length bs=S at *
 obtain ⟨l,n⟩:=S
 simp only at iT bC⊢
 simp only [ao,Nat.reduceEqDiff,reduceCtorEq,E1,Fa,Bq,Dr Og]
 refine cC agz (Of h1 _ room (lF bs) safe i v d1 (n:Int)) fun ck ab az=>?_
 rw [wg,if_pos (by omega),Int.toNat_natCast,ajf] at az
 obtain ⟨a6,v2,d2,i2,k2⟩:=az
 have UT:=(k2.get j (Nat.lt_of_lt_of_le aC bC.au.n) (fun ad=>ad.elim (fun q=>sw q) (fun q=>Ks q))).trans Bq
 simp only [ao,Nat.reduceEqDiff,reduceCtorEq,E1,Fa,UT,Dr UP]
 refine cC Sz (UN ab _ room _ _ i v2 d2) fun hh aI ⟨d3,b2⟩=>?_
 have hw:IntKind.i64.wrap ((bs.length:Int) - (n:Int))=(bs.length:Int) - (n:Int):=Go.IntWalk.i64_in _ (by omega)
 simp only [ao,Nat.reduceEqDiff,gH,hw,bd,Tryz.results113,ha]
 rw [wg,List.length_take,Nat.min_eq_left iT] at d3
 have FV:∀ k,aA pv=some k→¬nV i v k:=fun k hk az=>by
  have:=bC.new k hk
  rcases az with az | az
  ·have:=d.lt;omega
  ·have:=d.own.lt k az;omega
 refine aR ⟨pv,v2,rfl,d3,i2,(bC.own.au k2 FV).au b2 ?_,bC.new,?_⟩
 ·rintro k hk (h | h)
  ·exact FV k hk (.inl h)
  ·exact FV k hk (.inr (i2 ▸ h))
 ·exact ((bC.au.mono fun _ h=>False.elim h).trans k2 fun _ _ h=>h).trans b2 fun k _ h=>by
   rcases h with h | h
   ·exact .inl h
   ·exact .inr (i2 ▸ h)
def hc (room:Int) (bs l:List Nat):Int:=if 4096<l.length then 2 else if (bs.length+(frame l).length:Int)≤room then 0 else 3
theorem Oh (h:I) (i j:Nat) (room:Int) (bs:List Nat) (safe:Int) (v:V) (d:cz h (.ptr i 0) room (lF bs) safe i v) (aC:j<h.n)
  (uC:h.get j=.cells [.iface 116 (.ptr i 0)] 218 none) (sw:j≠i) (Ks:aA v≠some j) (l:List Nat) (aw:l.length≤2 ^ 40) :
  ah Tryz.prog 260 [.ptr j 0,.an l.length (bp l)] h (fun r U=>r=.int .i64 (hc room bs l) ∧
   if hc room bs l=0 then ∃ v',cz U (.ptr i 0) room (lF (bs++frame l)) safe i v'∧mj h i v v'∧aa h U (nV i v) else U=h):=by
 refine ah.aH (c:=_) Tryz.func260 rfl (by kernel_rfl) (by simp) ?_
 simp only [ao,Nat.reduceEqDiff]
 refine cK agq (Frame l h aw) ?_
 by_cases ir:4096<l.length
 ·have eM:zV l=.tuple [.ag,.int .i64 2]:=by rw [zV,if_pos ir]
  have c7:hc room bs l=2:=by rw [hc,if_pos ir]
  have d1:((2:Int) !=0)=true:=rfl
  simp only [ao,eM,Nat.reduceEqDiff,d1,bd,Tryz.results260,bT]
  exact aR ⟨by rw [c7],by rw [c7,if_neg (by decide)]⟩
 have eM:zV l=.tuple [.an (frame l).length (bp (frame l)),.int .i64 0]:=by rw [zV,if_neg ir]
 have d1:((0:Int) !=0)=false:=rfl
 have UU:=ajc h (.ptr i 0) room (lF bs) safe i v d (lF (frame l))
 rw [wg,wg,UQ] at UU
 simp only [ao,eM,Nat.reduceEqDiff,reduceCtorEq,E1,Fa,uC,Dr aje]
 refine cC agw UU fun r h1 az=>?_
 by_cases dU:(bs.length+(frame l).length:Int)≤room
 ·have c7:hc room bs l=0:=by rw [hc,if_neg ir,if_pos dU]
  rw [if_pos dU] at az
  obtain ⟨rfl,v1,d2,fw,k2⟩:=az
  simp only [ao,Nat.reduceEqDiff,bd,Tryz.results260,bT]
  refine aR ⟨by rw [c7],?_⟩
  rw [c7,if_pos rfl,ajg]
  exact ⟨v1,d2,fw,k2⟩
 ·have c7:hc room bs l=3:=by rw [hc,if_neg ir,if_neg dU]
  rw [if_neg dU] at az
  obtain ⟨rfl,rfl⟩:=az
  simp only [ao,Nat.reduceEqDiff,bd,Tryz.results260,bT]
  exact aR ⟨by rw [c7],by rw [c7,if_neg (by decide)]⟩
structure gq (h:I) (k j i:Nat) (room:Int) (bs:List Nat) (safe:Int) (v pv:V) (l:List (List Nat)) (bQ:Int):Prop where
 lt:k<h.n
 get:h.get k=.cells [.ptr j 0,pv,.int .i64 bQ] 214 none
 qG:j<h.n
 zY:h.get j=.cells [.iface 116 (.ptr i 0)] 218 none
 oG:cz h (.ptr i 0) room (lF bs) safe i v
 row:Own h 56 1 pv (cS l)
 Jj:k≠j
 CI:k≠i
 CJ:j≠i
 FW:aA v≠some k
 CK:aA v≠some j
 pi:aA pv≠some i
 Jk:aA pv≠some j
 pJ:aA pv≠some k
 ya:∀ x,aA pv=some x→aA v≠some x
def iv (k j i:Nat) (v pv:V):Nat→Prop:=fun x=>x=k∨x=j∨x=i∨aA v=some x∨aA pv=some x
theorem gq.au {h U:I} {k j i:Nat} {room safe bQ:Int} {bs:List Nat} {v pv:V} {l:List (List Nat)} (s:gq h k j i room bs safe v pv l bQ) {own:Nat→Prop} (hk:aa h U own) (bc:∀ x,iv k j i v pv x→¬own x):gq U k j i room bs safe v pv l bQ :=
 ⟨Nat.lt_of_lt_of_le s.lt hk.n,(hk.get k s.lt (bc k (.inl rfl))).trans s.get,Nat.lt_of_lt_of_le s.qG hk.n,(hk.get j s.qG (bc j (.inr (.inl rfl)))).trans s.zY,
  s.oG.au hk (fun x af=>bc x (af.elim (fun q=>.inr (.inr (.inl q))) fun q=>.inr (.inr (.inr (.inl q))))),s.row.au hk (fun x af=>bc x (.inr (.inr (.inr (.inr af))))),s.Jj,s.CI,s.CJ,s.FW,s.CK,s.pi,s.Jk,s.pJ,s.ya⟩
theorem gq.cP {h U:I} {k j i:Nat} {room safe bQ:Int} {bs:List Nat} {v pv:V} {l:List (List Nat)} (s:gq h k j i room bs safe v pv l bQ) (hk:aa h U none_):gq U k j i room bs safe v pv l bQ:=s.au hk fun _ _ h=>h
theorem aji (h:I) (i:Nat) (room:Int) (bs:List Nat) (ar:∀ x ∈ bs,x<256) (safe:Int) (v:V) (d:cz h (.ptr i 0) room (lF bs) safe i v) :
  ah Tryz.prog 79 [.ptr i 0] h (fun r U=>∃ k j v' pv,r=.ptr k 0∧gq U k j i room (bs.take (gI bs.length bs).2) ((gI bs.length bs).2:Nat) v' pv (gI bs.length bs).1 ((bs.length:Int) - ((gI bs.length bs).2:Nat)) ∧
   aA v'=aA v∧h.n≤k∧h.n≤j∧(∀ x,aA pv=some x→h.n≤x)∧aa h U (nV i v)):=by
 have hi:=d.lt
 have jZ:=d.own.lt
 refine ah.aH (c:=_) Tryz.func79 rfl (by kernel_rfl) (by simp) ?_
 simp only [ao,Nat.reduceEqDiff,Nat.reduceAdd,Nat.reduceLeDiff,reduceCtorEq,Nc,ag4,xL,Np,ahm,ahn,ahE,ahF]
 have eu:∀ a b:aD,aa h ((h.push a).push b) none_:=fun a b=>(aa.push _ _ _).trans (aa.push _ _ _) fun _ _ h=>h
 generalize nL:aD.cells [.iface 116 (.ptr i 0)] 218 none=A
 generalize b3:aD.cells [.ptr h.n 0,.ag,.int .i64 0] 214 none=B
 have FX:((h.push A).push B).get h.n=A:=Dy
 have Jl:((h.push A).push B).get (h.n+1)=B:=Dx
 have fw:((h.push A).push B).n=h.n+2:=rfl
 have FY:=eu A B
 generalize (h.push A).push B=ay at FX Jl fw FY⊢
 subst nL b3
 refine cC afF (ajh ay i h.n room bs ar safe v (d.cP FY) (by omega) FX (by omega) (fun ad=>by have:=jZ _ ad;omega)) fun cq h1 ⟨pv,v1,aK,d1,i1,c0,c9,bj⟩=>?_
 subst aK
 have lq:∀ x,h.n≤x→¬nV i v x:=fun x af az=>by
  rcases az with az | az
  ·omega
  ·have:=jZ _ az;omega
 have UW:=(bj.get h.n (by omega) (lq _ (by omega))).trans FX
 have UX:=(bj.get (h.n+1) (by omega) (lq _ (by omega))).trans Jl
 have Kt:=we c0
 simp only [ao,Nat.reduceEqDiff,Nat.reduceAdd,Nat.reduceLeDiff,E0,agR,I0,kH,UX,Kt.1,Kt.2,bd,Tryz.results79,bT]
 have uX:∀ x,aA v1=some x→x<h.n:=fun x af=>jZ x (i1 ▸ af)
 have gY:=(bj.n)
 refine aR ⟨h.n+1,h.n,v1,pv,rfl,⟨by simp only [kE];omega,e4,by simp only [kE];omega,?_,?_,?_,by omega,by omega,by omega,?_,?_,?_,?_,?_,?_⟩,i1,by omega,by omega,fun x af=>by have:=c9 x af;omega,?_⟩
 ·rw [nS (by omega)]
  exact UW
 ·exact d1.au (aa.set _ _ _) fun x af ad=>by
   rcases af with af | af
   ·omega
   ·have:=uX x af;omega
 ·exact c0.au (aa.set _ _ _) fun x af ad=>by have:=c9 x af;omega
 ·intro ad;have:=uX _ ad;omega
 ·intro ad;have:=uX _ ad;omega
 ·intro ad;have:=c9 _ ad;omega
 ·intro ad;have:=c9 _ ad;omega
 ·intro ad;have:=c9 _ ad;omega
 ·intro x af ad;have:=c9 _ af;have:=uX _ ad;omega
 ·exact ((FY.mono fun _ h=>False.elim h).trans bj fun _ _ h=>h).trans (aa.set _ _ _) fun x af ad=>by omega
theorem sLen (h:I) (k j i:Nat) (room safe bQ:Int) (bs:List Nat) (v pv:V) (l:List (List Nat)) (s:gq h k j i room bs safe v pv l bQ) (aw:l.length≤2 ^ 40) :
  Pure Tryz.prog 80 [.ptr k 0] h (.int .i64 (l.length:Nat)):=by
 have g:=s.get
 have hlen:=s.row.length (by decide) Tryz.prog IU
 rw [rp,Nat.div_one] at hlen
 refine ah.aH (c:=_) Tryz.func80 rfl (by kernel_rfl) (by simp) ?_
 simp only [ao,Nat.reduceEqDiff,Nat.reduceAdd,Nat.reduceLeDiff,reduceCtorEq,E0,Nh,xO,g,hlen,bd,Tryz.results80,bT]
 exact aR ⟨rfl,rfl⟩
theorem ajj (h:I) (k j i:Nat) (room safe bQ:Int) (bs:List Nat) (v pv:V) (l:List (List Nat)) (s:gq h k j i room bs safe v pv l bQ) :
  ah Tryz.prog 235 [.ptr k 0] h (fun r U=>gq U k j i room bs (bs.length:Nat) v pv l bQ∧aa h U (nV i v)):=by
 have g:=s.get
 have uC:=s.zY
 refine ah.aH (c:=_) Tryz.func235 rfl (by kernel_rfl) (by simp) ?_
 simp only [ao,Nat.reduceEqDiff,Nat.reduceAdd,reduceCtorEq,Nc,E1,Nh,SV,Np,Fa,g,uC,Dr UP]
 refine cC Sz (UN h _ room _ _ i v s.oG) fun hh aI ⟨d3,b2⟩=>?_
 simp only [ao,o0,Tryz.results235,lv]
 rw [wg] at d3
 have zZ:∀ x,x≠i→aA v≠some x→¬nV i v x:=fun x h1 ab ad=>ad.elim h1 ab
 refine aR ⟨⟨Nat.lt_of_lt_of_le s.lt b2.n,(b2.get k s.lt (zZ k s.CI s.FW)).trans g,Nat.lt_of_lt_of_le s.qG b2.n,(b2.get j s.qG (zZ j s.CJ s.CK)).trans uC,d3,s.row.au b2 (fun x af=>zZ x (fun e=>s.pi (e ▸ af)) (s.ya x af)),s.Jj,s.CI,s.CJ,s.FW,s.CK,s.pi,s.Jk,s.pJ,s.ya⟩,b2⟩
theorem ajk (h:I) (v:V) (aN:v.one=true):e3 Tryz.prog 1 113 (.aj h.n 0 1 1) (h.push (.cells [v] 56 none))=some (1,[v]):=by
 have u:Tryz.prog.underlying 113=some (.slice 56):=by kernel_rfl
 unfold e3
 simp only [u,c4]
 simp [aN]
theorem Oi (h:I) (k j i:Nat) (room safe bQ:Int) (bs:List Nat) (v pv:V) (l:List (List Nat)) (s:gq h k j i room bs safe v pv l bQ) (aw:l.length≤2 ^ 30) (x:List Nat) (af:x.length≤2 ^ 40) :
  ah Tryz.prog 233 [.ptr k 0,.an x.length (bp x)] h (fun r U=>r=.int .i64 (hc room bs x) ∧
   if hc room bs x=0 then ∃ v' bS,gq U k j i room (bs++frame x) safe v' bS (l++[x]) bQ∧mj h i v v'∧(aA bS=aA pv∨∀ y,aA bS=some y→h.n≤y)∧aa h U (iv k j i v pv) else U=h):=by
 have g:=s.get
 have uC:=s.zY
 have aoF:(153:Nat)=153:=rfl
 have zZ:∀ y,y≠i→aA v≠some y→¬nV i v y:=fun y h1 ab ad=>ad.elim h1 ab
 refine ah.aH (c:=_) Tryz.func233 rfl (by kernel_rfl) (by simp) ?_
 simp only [ao,Nat.reduceEqDiff,Nat.reduceAdd,reduceCtorEq,Nc,Nh,SV,Np,g]
 refine cC agn (Oh h i j room bs safe v s.oG s.qG uC s.CJ.symm.symm s.CK x af) fun cq h1 ⟨aK,az⟩=>?_
 subst aK
 by_cases c7:hc room bs x=0
 case neg=>
  have d1:(hc room bs x !=0)=true:=by simp [c7]
  rw [if_neg c7] at az
  subst az
  simp only [ao,Nat.reduceEqDiff,d1,bd,Tryz.results233,bT]
  exact aR ⟨rfl,by rw [if_neg c7]⟩
 rw [if_pos c7] at az
 obtain ⟨v1,d1,c9,bj⟩:=az
 have g1:=(bj.get k s.lt (zZ k s.CI s.FW)).trans g
 have Bq:=(bj.get j s.qG (zZ j s.CJ s.CK)).trans uC
 have c0:Own h1 56 1 pv (cS l):=s.row.au bj (fun y aX=>zZ y (fun e=>s.pi (e ▸ aX)) (s.ya y aX))
 rw [c7]
 simp only [ao,Nat.reduceEqDiff]
 have f1:aW pv k=False:=eq_false s.pJ
 have bf:=we c0
 have cr:[pv].head?=some pv:=rfl
 refine aZ.b4 (fun y=>aW pv y) [7,8,11] (.q 0 (.q 1 (.q 2 (.q 3 (.q 4 (.q 5 (.c 6 (.e 7 (.e 8 (.q 9 (.q 10 (.a 11 .done))) .stop) .stop)))))))) (by kernel_rfl) (by kernel_rfl) (by kernel_rfl) ?_
 have UY:cW (.cells [.ptr j 0,pv,.int .i64 bQ] 214 none) 1=some [pv,.int .i64 bQ]:=rfl
 simp only [ao,b6,gV,Nat.reduceEqDiff,reduceCtorEq,E0,xO,g1,UY,f1]
 refine jQ rfl rfl rfl (fun U _=>zW x (by omega) U) ?_
 obtain ⟨w,aI,dB,kW,b2,n3⟩:=HE (P:=Tryz.prog) (t:=113) (tx:=113) (h:=h1.push (.cells [.an x.length (bp x)] 56 none)) (x:=.aj h1.n 0 1 1) (n:=1) (news:=[.an x.length (bp x)]) Cu (by decide) (c0.cP (aa.push _ _ _)) (ajk h1 _ rfl) rfl (by simp only [rp,lim];simp;omega) (by simp only [rp,lim];simp;omega)
 have UZ:=we kW
 have mL:aa h1 aI (fun y=>aW pv y):=((aa.push _ _ _).mono fun _ h=>False.elim h).trans b2 fun _ _ h=>h
 have U0:=(mL.get k (Nat.lt_of_lt_of_le s.lt bj.n) s.pJ).trans g1
 have U1:=(mL.get j (Nat.lt_of_lt_of_le s.qG bj.n) s.Jk).trans Bq
 have j7:ca (some 1) (aD.cells [.ptr j 0,pv,.int .i64 bQ] 214 none) 1 [w]=some (.cells [.ptr j 0,w,.int .i64 bQ] 214 none):=by rw [nO UZ.2];rfl
 simp only [ao,b6,gV,Nat.reduceEqDiff,E0,I0,UL,dB,UZ.1,U0,j7,bd,Tryz.results233,bT]
 refine ⟨mL,?_⟩
 have C1:=bj.n
 have U2:=mL.n
 have pl:∀ y,aA pv=some y→y<h.n:=s.row.lt
 have ajl:∀ y,aA v1=some y→y<h1.n:=d1.own.lt
 have aoG:=s.lt
 have aoH:=s.qG
 have wid:∀ y,aA w=some y→(aA pv=some y)∨h1.n≤y:=fun y aX=>by
  rcases n3 with n3 | n3
  ·exact .inl (n3 ▸ aX)
  ·have:=n3 y aX;rw [fR] at this;exact .inr (by omega)
 have FZ:∀ y,aA v1=some y→(aA v=some y)∨h.n≤y:=fun y aX=>by
  rcases c9 with c9 | c9
  ·exact .inl (c9 ▸ aX)
  ·exact .inr (c9 y aX)
 have Ku:∀ y,aA v1=some y→aA pv≠some y:=fun y aX az=>by
  rcases FZ y aX with e | e
  ·exact s.ya y az e
  ·have:=pl y az;omega
 have Kv:aA v1≠some k:=fun aX=>(FZ k aX).elim s.FW fun e=>by omega
 have U3:aA v1≠some j:=fun aX=>(FZ j aX).elim s.CK fun e=>by omega
 have aoI:=s.oG.lt
 refine aR ⟨rfl,?_⟩
 rw [if_pos rfl]
 have cm:=aa.set aI k (.cells [.ptr j 0,w,.int .i64 bQ] 214 none)
 refine ⟨v1,w,⟨by rw [kE];omega,e4,by rw [kE];omega,(nS s.Jj.symm).trans U1,?_,?_,s.Jj,s.CI,s.CJ,Kv,U3,?_,?_,?_,?_⟩,c9,?_,?_⟩
 ·refine (d1.au mL fun y aX ad=>?_).au cm fun y aX ad=>?_
  ·rcases aX with aX | aX
   ·subst aX;exact s.pi ad
   ·exact Ku y aX ad
  ·rcases aX with aX | aX
   ·exact s.CI (ad.symm.trans aX)
   ·subst ad;exact Kv aX
 ·rw [un]
  exact kW.au cm fun y aX ad=>by
   subst ad
   rcases wid y aX with e | e
   ·exact s.pJ e
   ·omega
 ·intro aX;rcases wid i aX with e | e
  ·exact s.pi e
  ·omega
 ·intro aX;rcases wid j aX with e | e
  ·exact s.Jk e
  ·omega
 ·intro aX;rcases wid k aX with e | e
  ·exact s.pJ e
  ·omega
 ·intro y aX aN;rcases wid y aX with e | e
  ·exact Ku y aN e
  ·have:=ajl y aN;omega
 ·rcases n3 with n3 | n3
  ·exact .inl n3
  ·exact .inr fun y aX=>by have:=n3 y aX;rw [fR] at this;omega
 ·refine ((bj.mono fun y aX=>?_).trans mL fun y _ aX=>?_).trans cm fun y _ aX=>?_
  ·exact aX.elim (fun e=>.inr (.inr (.inl e))) fun e=>.inr (.inr (.inr (.inl e)))
  ·exact .inr (.inr (.inr (.inr aX)))
  ·exact .inl aX
theorem Oj (h:I) (k j i:Nat) (room safe bQ:Int) (bs:List Nat) (v pv:V) (l:List (List Nat)) (s:gq h k j i room bs safe v pv l bQ) (aw:l.length≤2 ^ 40) (n:Nat) (aJ:n<l.length) (af:l[n].length≤2 ^ 40) :
  Pure Tryz.prog 81 [.ptr k 0,.int .i64 (n:Nat)] h (.tuple [.an l[n].length (bp l[n]),.int .i64 0]):=by
 have g:=s.get
 obtain ⟨q,aK,a6,⟨rest,dB⟩,_⟩:=y2 (P:=Tryz.prog) (t:=113) (kk:=.i64) IY s.row (k:=n) (by rw [rp];exact aJ)
 have lU:(cS l)[n]'(by rw [rp];exact aJ)=.an l[n].length (bp l[n]):=by simp [cS]
 rw [lU] at dB
 have bf:decide ((n:Int)<0)=false:=by simp
 have bx:decide (((l.length:Nat):Int)≤(n:Int))=false:=by rw [decide_eq_false_iff_not];omega
 refine ah.aH (c:=_) Tryz.func81 rfl (by kernel_rfl) (by simp) ?_
 simp only [ao,Nat.reduceEqDiff,reduceCtorEq,bf]
 refine cK SF (sLen h k j i room safe bQ bs v pv l s aw) ?_
 simp only [ao,Nat.reduceEqDiff,Nat.reduceAdd,Nat.reduceLeDiff,reduceCtorEq,E0,xO,lB,bx,g,aK,dB]
 refine cK ET (zW l[n] (by omega) h) ?_
 simp only [ao,Nat.reduceEqDiff,bd,Tryz.results81,ha]
 exact aR ⟨rfl,rfl⟩
structure Act where
 kind:Int
 aF:Int
 at_:Int
 bytes:List Nat
def bI (a:Act):List V:=[.int .i64 a.kind,.int .i64 a.aF,.int .i64 a.at_,.an a.bytes.length (bp a.bytes)]
theorem ajm (a:Act):aO (bI a):=aO.cons (bb.int _ _) (aO.cons (bb.int _ _) (aO.cons (bb.int _ _) (aO.cons (bb.an (re _)) aO.nil)))
def nq (n:Int):Bool:=decide (0≤n)&&decide (n≤1048576)
def lQ (a:Act):Bool:=decide (0≤a.at_)&&decide (a.at_<4096)&&nq a.aF&&decide (a.bytes.length≤2048)
theorem Ol (n:Int) (h:I):Pure Tryz.prog 115 [.int .i64 n] h (.bool (nq n)):=by
 refine ah.aH (c:=_) Tryz.func115 rfl (by kernel_rfl) (by simp) ?_
 by_cases h1:0≤n
 ·simp only [ao,Nat.reduceEqDiff,reduceCtorEq,h1,bd,Tryz.results115,bT]
  exact aR ⟨by simp [nq,h1],rfl⟩
 ·simp only [ao,Nat.reduceEqDiff,reduceCtorEq,h1,bd,Tryz.results115,bT]
  exact aR ⟨by simp [nq,h1],rfl⟩
def dD (bs:List Nat):Nat:=if (dec bs 0 0).2.2≠0∨1048576<(dec bs 0 0).1 then 1048577 else (dec bs 0 0).1
theorem Om (p:V) (i:Nat) (bs:List Nat) (h:I) (aq:ef h p i bs) (ar:∀ b ∈ bs,b<256) (al:bs.length≤2 ^ 47) :
  ah Tryz.prog 114 [p] h (fun r U=>r=.int .i64 (dD bs:Nat)∧ef U p i (bs.drop (dec bs 0 0).2.1)∧aa h U (·=i)):=by
 refine ah.aH (c:=_) Tryz.func114 rfl (by kernel_rfl) (by simp) ?_
 simp only [ao,Nat.reduceEqDiff,reduceCtorEq]
 refine cC Cn (Cz p i bs h aq ar al) fun cq h1 ⟨aK,qF,bj⟩=>?_
 subst aK
 unfold dD
 generalize dec bs 0 0=D at *
 obtain ⟨n,used,err⟩:=D
 simp only at qF⊢
 by_cases cN:err=0
 case neg=>
  have d1:((err:Int) !=0)=true:=by simp;omega
  simp only [ao,Nat.reduceEqDiff,d1,bd,Tryz.results114,bT]
  rw [if_pos (.inl cN)]
  exact aR ⟨rfl,qF,bj⟩
 subst cN
 have d1:(((0:Nat):Int) !=0)=false:=rfl
 by_cases ir:1048576<n
 ·have d2:decide ((1048576:Int)<(n:Int))=true:=by rw [decide_eq_true_iff];omega
  simp only [ao,Nat.reduceEqDiff,d1,d2,bd,Tryz.results114,bT]
  rw [if_pos (.inr ir)]
  exact aR ⟨rfl,qF,bj⟩
 ·have d2:decide ((1048576:Int)<(n:Int))=false:=by rw [decide_eq_false_iff_not];omega
  have hw:IntKind.i64.wrap (n:Int)=(n:Int):=TE (by omega)
  simp only [ao,Nat.reduceEqDiff,d1,d2,js jS gG,hw,bd,Tryz.results114,bT]
  rw [if_neg (by simp;omega)]
  exact aR ⟨rfl,qF,bj⟩
theorem rt (a:Act) (h:I) (aw:a.bytes.length≤2 ^ 50):Pure Tryz.prog 117 [.agg (bI a)] h (.bool (lQ a)):=by
 obtain ⟨kind,aF,at_,bytes⟩:=a
 simp only at aw
 refine Pure.val (bb.bool _) ?_
 refine ah.aH (c:=_) Tryz.func117 rfl (by kernel_rfl) (by simp) ?_
 have h1:cW (.cells [.int .i64 kind,.int .i64 aF,.int .i64 at_,.an bytes.length (bp bytes)] 159 none) 1=some [.int .i64 aF,.int .i64 at_,.an bytes.length (bp bytes)]:=rfl
 have ab:cW (.cells [.int .i64 kind,.int .i64 aF,.int .i64 at_,.an bytes.length (bp bytes)] 159 none) 2=some [.int .i64 at_,.an bytes.length (bp bytes)]:=rfl
 have aI:cW (.cells [.int .i64 kind,.int .i64 aF,.int .i64 at_,.an bytes.length (bp bytes)] 159 none) 3=some [.an bytes.length (bp bytes)]:=rfl
 have hlen:cE Tryz.prog 56 (.an bytes.length (bp bytes)) (h.push (.cells [.int .i64 kind,.int .i64 aF,.int .i64 at_,.an bytes.length (bp bytes)] 159 none))=some (.int .i64 bytes.length):=Dt gH
 by_cases c2:0≤at_
 case neg=>
  simp only [ao,Nat.reduceEqDiff,zF,bz,bI,ab,c2,bd,Tryz.results117,bT]
  exact aR ⟨by simp [lQ,c2],aa.push _ _ _⟩
 by_cases eE:at_<4096
 case neg=>
  simp only [ao,Nat.reduceEqDiff,zF,bz,bI,ab,c2,eE,bd,Tryz.results117,bT]
  exact aR ⟨by simp [lQ,c2,eE],aa.push _ _ _⟩
 simp only [ao,Nat.reduceEqDiff,tp,zF,bz,bI,h1,ab,c2,eE]
 refine cK Ss (Ol aF _) ?_
 cases jt:nq aF
 ·simp only [ao,Nat.reduceEqDiff,bd,Tryz.results117,bT]
  exact aR ⟨by simp [lQ,c2,eE,jt],aa.push _ _ _⟩
 ·have e:decide (((bytes.length:Nat):Int)≤2048)=decide (bytes.length≤2048):=by rw [Bool.eq_iff_iff];simp;omega
  simp only [ao,Nat.reduceEqDiff,IL,gH,lB,aI,e,bd,Tryz.results117,bT]
  exact aR ⟨by simp [lQ,c2,eE,jt],aa.push _ _ _⟩
structure bm where
 at_:Int
 aF:Int
 bytes:List Nat
def aP (c:bm):List V:=[.int .i64 c.at_,.int .i64 c.aF,.an c.bytes.length (bp c.bytes)]
theorem Jm (c:bm):aO (aP c):=aO.cons (bb.int _ _) (aO.cons (bb.int _ _) (aO.cons (bb.an (re _)) aO.nil))
theorem F0 (c:bm) (h:I) (aw:c.bytes.length≤2 ^ 40):Pure Tryz.prog 118 [.agg (aP c)] h (.agg (aP c)):=by
 obtain ⟨at_,aF,bytes⟩:=c
 simp only at aw
 refine Pure.val (bb.agg (Jm _)) ?_
 refine ah.aH (c:=_) Tryz.func118 rfl (by kernel_rfl) (by simp) ?_
 have ay:cW (.cells [.int .i64 at_,.int .i64 aF,.an bytes.length (bp bytes)] 224 none) 0=some [.int .i64 at_,.int .i64 aF,.an bytes.length (bp bytes)]:=rfl
 have ab:cW (.cells [.int .i64 at_,.int .i64 aF,.an bytes.length (bp bytes)] 224 none) 2=some [.an bytes.length (bp bytes)]:=rfl
 simp only [ao,Nat.reduceEqDiff,Cs,lB,rb,aP,ab]
 refine cK ET (zW bytes (by omega) _) ?_
 simp only [ao,Nat.reduceEqDiff,Nat.reduceAdd,Cs,sc,d8,vY,ay,bd,Tryz.results118,xm,jP]
 exact aR ⟨rfl,(aa.push _ _ _).trans (aa.push _ _ _) (fun _ _ h=>h)⟩
def bw (a:Act):List Nat:=if a.kind=2 then enc a.kind.toNat++enc a.aF.toNat else enc a.kind.toNat++enc a.aF.toNat++enc a.at_.toNat++kI a.bytes
theorem ajn (a:Act) (h:I) (aw:a.bytes.length≤2 ^ 40) (hk:0≤a.kind∧a.kind<2 ^ 62) (he:0≤a.aF∧a.aF<2 ^ 62) (aL:0≤a.at_∧a.at_<2 ^ 62) :
  Pure Tryz.prog 234 [.agg (bI a)] h (.an (bw a).length (bp (bw a))):=by
 obtain ⟨kind,aF,at_,bytes⟩:=a
 simp only at aw hk he aL
 obtain ⟨xx,fy⟩:=hk
 obtain ⟨AM,anr⟩:=he
 obtain ⟨ans,AU⟩:=aL
 obtain ⟨kind,rfl⟩:∃ m:Nat,kind=m:=⟨kind.toNat,by omega⟩
 obtain ⟨aF,rfl⟩:∃ m:Nat,aF=m:=⟨aF.toNat,by omega⟩
 obtain ⟨at_,rfl⟩:∃ m:Nat,at_=m:=⟨at_.toNat,by omega⟩
 refine Pure.val (bb.an (re _)) ?_
 have r9:=hB kind (by omega)
 have dH:=hB aF (by omega)
 have nL:=hB at_ (by omega)
 have ajo:=zO (n:=kind) (by omega)
 have ajp:=zO (n:=aF) (by omega)
 have On:=zO (n:=at_) (by omega)
 refine ah.aH (c:=_) Tryz.func234 rfl (by kernel_rfl) (by simp) ?_
 have ay:cW (.cells [.int .i64 (kind:Int),.int .i64 (aF:Int),.int .i64 (at_:Int),.an bytes.length (bp bytes)] 159 none) 0=some [.int .i64 (kind:Int),.int .i64 (aF:Int),.int .i64 (at_:Int),.an bytes.length (bp bytes)]:=rfl
 have h1:cW (.cells [.int .i64 (kind:Int),.int .i64 (aF:Int),.int .i64 (at_:Int),.an bytes.length (bp bytes)] 159 none) 1=some [.int .i64 (aF:Int),.int .i64 (at_:Int),.an bytes.length (bp bytes)]:=rfl
 have ab:cW (.cells [.int .i64 (kind:Int),.int .i64 (aF:Int),.int .i64 (at_:Int),.an bytes.length (bp bytes)] 159 none) 2=some [.int .i64 (at_:Int),.an bytes.length (bp bytes)]:=rfl
 have aI:cW (.cells [.int .i64 (kind:Int),.int .i64 (aF:Int),.int .i64 (at_:Int),.an bytes.length (bp bytes)] 159 none) 3=some [.an bytes.length (bp bytes)]:=rfl
 simp only [ao,bI]
 refine aZ.b4 none_ [] (.q 0 (.q 1 (.q 2 (.c 3 (.q 4 (.q 5 (.q 6 (.c 7 (.q 8 .done))))))))) (by kernel_rfl) (by kernel_rfl) (by kernel_rfl) ?_
 simp only [ao,b6,Nat.reduceEqDiff,zE,bz,ay,js gG jS,ajo]
 refine jQ rfl rfl rfl (fun U _=>Fo .ag [] kind U (Rd.ag _) (by simp) (by omega)) ?_
 simp only [ao,b6,Nat.reduceEqDiff,tp,bz,h1,js gG jS,ajp]
 refine jQ rfl rfl rfl (fun U _=>Fo _ ([]++enc kind) aF U (Rd.an _ _) (by simp;omega) (by omega)) ?_
 simp only [ao,b6,Nat.reduceEqDiff,zE,bz,ay]
 by_cases J:kind=2
 ·have d1:((kind:Int)==2)=true:=by rw [J];rfl
  have c7:bw ⟨(kind:Int),aF,at_,bytes⟩=enc kind++enc aF:=by
   unfold bw
   rw [if_pos (by simp only;omega)]
   simp only [Int.toNat_natCast]
  simp only [ao,Nat.reduceEqDiff,d1,bd,Tryz.results234,bT]
  exact aR ⟨by rw [c7],aa.push _ _ _⟩
 have d1:((kind:Int)==2)=false:=by rw [beq_eq_false_iff_ne];omega
 have c7:bw ⟨(kind:Int),aF,at_,bytes⟩=enc kind++enc aF++enc at_++kI bytes:=by
  unfold bw
  rw [if_neg (by simp only;omega)]
  simp only [Int.toNat_natCast]
 simp only [ao,d1]
 refine aZ.b4 none_ [] (.q 0 (.q 1 (.q 2 (.q 3 (.c 4 (.q 5 (.q 6 (.c 7 (.q 8 .done))))))))) (by kernel_rfl) (by kernel_rfl) (by kernel_rfl) ?_
 simp only [ao,b6,Nat.reduceEqDiff,zF,bz,ab,js gG jS,On]
 refine jQ rfl rfl rfl (fun U _=>Fo _ (enc kind++enc aF) at_ U (Rd.an _ _) (by simp;omega) (by omega)) ?_
 simp only [ao,b6,Nat.reduceEqDiff,IL,lB,aI]
 refine jQ rfl rfl rfl (fun U _=>ah0 _ _ (enc kind++enc aF++enc at_) bytes U (Rd.an _ _) (Rd.an _ _) (by simp;omega)) ?_
 simp only [ao,b6,Nat.reduceEqDiff,bd,Tryz.results234,bT]
 exact aR ⟨by rw [c7],aa.push _ _ _⟩
theorem aV.agg {l dN:List V} {h ab:I} (a:aS l h dN ab):aV (.agg l) h (.agg dN) ab:=fun ρ B aG w r' hw aN=>by
 cases aN with
 | agg J af=>
  obtain ⟨ρ1,fg,bK,v1⟩:=a ρ B aG w _ hw (c1.list ⟨J,af⟩)
  exact ⟨ρ1,fg,bK,v1.ij.agg⟩
def bX (bs:List Nat):List Nat:=bs.drop (dec bs 0 0).2.1
theorem ii (bs:List Nat):(bX bs).length≤bs.length:=by unfold bX;rw [List.length_drop];omega
theorem Oo {bs:List Nat} (ar:∀ b ∈ bs,b<256):∀ b ∈ bX bs,b<256:=fun b af=>ar b (List.mem_of_mem_drop af)
def pK (bs:List Nat):Act×Bool :=
 if dD bs=2 then (⟨2,dD (bX bs),0,[]⟩,nq (dD (bX bs))&&decide (bX (bX bs)=[]))
 else if dD bs=1 then
  (⟨1,dD (bX bs),dD (bX (bX bs)),(mJ (bX (bX (bX bs)))).1⟩,
   decide ((mJ (bX (bX (bX bs)))).2.2=0)&&lQ ⟨1,dD (bX bs),dD (bX (bX bs)),(mJ (bX (bX (bX bs)))).1⟩&&decide ((mJ (bX (bX (bX bs)))).2.1=[]))
 else (⟨0,0,0,[]⟩,false)
theorem ajq (bs:List Nat) (h:I) (ar:∀ b ∈ bs,b<256) (aw:bs.length≤2 ^ 40):Pure Tryz.prog 82 [.an bs.length (bp bs)] h (.tuple [.agg (bI (pK bs).1),.bool (pK bs).2]):=by
 refine Pure.of (bb.tuple (aO.cons (bb.agg (ajm _)) (aO.cons (bb.bool _) aO.nil))) ?_
 refine ah.aH (c:=_) Tryz.func82 rfl (by kernel_rfl) (by simp) ?_
 have qu:∀ (h:I) (k e:Int) (b:Bool),aV (.tuple [.agg [.int .i64 k,.int .i64 e,.int .i64 0,.ag],.bool b]) h (.tuple [.agg (bI ⟨k,e,0,[]⟩),.bool b]) h:=fun h k e b=>
  aV.tuple (aS.cons (aV.agg (aS.cons (aV.refl _ _) (aS.cons (aV.refl _ _) (aS.cons (aV.refl _ _) (aS.cons (aV.la h) (aS.refl _ _)))))) (aS.refl _ _))
 have ez:aa h (h.push (.cells [.int .i64 0,.int .i64 0,.int .i64 0,.ag] 159 none)) none_:=aa.push _ _ _
 have g0:(h.push (.cells [.int .i64 0,.int .i64 0,.int .i64 0,.ag] 159 none)).get h.n=.cells [.int .i64 0,.int .i64 0,.int .i64 0,.ag] 159 none:=c4
 have hZ:(h.push (.cells [.int .i64 0,.int .i64 0,.int .i64 0,.ag] 159 none)).n=h.n+1:=rfl
 simp only [ao,Nat.reduceEqDiff,reduceCtorEq,zJ]
 generalize h.push (.cells [.int .i64 0,.int .i64 0,.int .i64 0,.ag] 159 none)=er at ez g0 hZ⊢
 refine cC M4 (zK _ bs er (Rd.an _ _) (by omega)) fun cq H1 ⟨aK,qF,bj⟩=>?_
 subst aK
 simp only [ao,Nat.reduceEqDiff]
 refine cC MZ (Om _ _ bs H1 qF ar (by omega)) fun ck cA ⟨a6,x9,k2⟩=>?_
 subst a6
 have eC:=Oo ar
 have gz:=ii bs
 change ef cA _ er.n (bX bs) at x9
 have eE:=k2.n
 have c2:=bj.n
 have pa:=qF.2.1
 simp only [ao,Nat.reduceEqDiff,Nat.reduceAdd,Nat.reduceLeDiff,IX,zJ,uy]
 have b2:aa cA (cA.push (.cells [.int .i64 (dD bs:Nat),.int .i64 0,.int .i64 0,.ag] 159 none)) none_:=aa.push _ _ _
 have g3:(cA.push (.cells [.int .i64 (dD bs:Nat),.int .i64 0,.int .i64 0,.ag] 159 none)).get cA.n=.cells [.int .i64 (dD bs:Nat),.int .i64 0,.int .i64 0,.ag] 159 none:=c4
 have jt:(cA.push (.cells [.int .i64 (dD bs:Nat),.int .i64 0,.int .i64 0,.ag] 159 none)).n=cA.n+1:=rfl
 generalize cA.push (.cells [.int .i64 (dD bs:Nat),.int .i64 0,.int .i64 0,.ag] 159 none)=je at b2 g3 jt⊢
 have U4:ef je _ er.n (bX bs):=x9.au b2 (fun h=>h)
 refine cC MZ (Om _ _ (bX bs) je U4 eC (by omega)) fun EM ml ⟨hj,Kw,gM⟩=>?_
 subst hj
 change ef ml _ er.n (bX (bX bs)) at Kw
 have lY:=Oo eC
 have ks:=ii (bX bs)
 have g4:=(gM.get cA.n (by omega) (by omega)).trans g3
 have o7:=gM.n
 simp only [ao,Nat.reduceEqDiff,Nat.reduceAdd,Nat.reduceLeDiff,zE,tp,bz,kH,g4]
 have jF:aa ml (ml.set cA.n (.cells [.int .i64 (dD bs:Nat),.int .i64 (dD (bX bs):Nat),.int .i64 0,.ag] 159 none)) (fun q=>q=cA.n):=aa.set _ _ _
 have g5:(ml.set cA.n (.cells [.int .i64 (dD bs:Nat),.int .i64 (dD (bX bs):Nat),.int .i64 0,.ag] 159 none)).get cA.n=.cells [.int .i64 (dD bs:Nat),.int .i64 (dD (bX bs):Nat),.int .i64 0,.ag] 159 none:=e4
 have ajr:aa h ml none_:=((ez.trans bj fun _ _ h=>h).trans k2 (fun x af ad=>by omega)).trans ((b2.mono fun _ h=>False.elim h).trans gM fun _ _ h=>h) (fun x af ad=>by omega)
 have ajs:=(gM.get h.n (by omega) (by omega)).trans ((b2.get h.n (by omega) (fun h=>h)).trans ((k2.get h.n (by omega) (by omega)).trans ((bj.get h.n (by omega) (fun h=>h)).trans g0)))
 have Br:(ml.set cA.n (.cells [.int .i64 (dD bs:Nat),.int .i64 (dD (bX bs):Nat),.int .i64 0,.ag] 159 none)).get h.n=_:=(jF.get h.n (by omega) (by omega)).trans ajs
 have xD:(ml.set cA.n (.cells [.int .i64 (dD bs:Nat),.int .i64 (dD (bX bs):Nat),.int .i64 0,.ag] 159 none)).n=ml.n:=rfl
 have F1:ef (ml.set cA.n (.cells [.int .i64 (dD bs:Nat),.int .i64 (dD (bX bs):Nat),.int .i64 0,.ag] 159 none)) _ er.n (bX (bX bs)):=Kw.au jF (by omega)
 have Oq:aa h (ml.set cA.n (.cells [.int .i64 (dD bs:Nat),.int .i64 (dD (bX bs):Nat),.int .i64 0,.ag] 159 none)) none_:=ajr.trans jF (fun x af ad=>by omega)
 unfold pK
 generalize hk:dD bs=K at *
 generalize he:dD (bX bs)=E at *
 generalize ml.set cA.n (.cells [.int .i64 (K:Nat),.int .i64 (E:Nat),.int .i64 0,.ag] 159 none)=uD at *
 have d0:cW (.cells [.int .i64 (K:Nat),.int .i64 (E:Nat),.int .i64 0,.ag] 159 none) 0=some [.int .i64 (K:Nat),.int .i64 (E:Nat),.int .i64 0,.ag]:=rfl
 have d1:cW (.cells [.int .i64 (K:Nat),.int .i64 (E:Nat),.int .i64 0,.ag] 159 none) 1=some [.int .i64 (E:Nat),.int .i64 0,.ag]:=rfl
 by_cases ab:K=2
 ·have bf:((K:Int)==2)=true:=by rw [ab];rfl
  rw [if_pos ab]
  simp only [ao,bf]
  refine aZ.b4 (fun q=>q=h.n) [9] (.q 0 (.q 1 (.q 2 (.c 3 (.q 4 (.q 5 (.c 6 (.q 7 (.q 8 (.e 9 (.q 10 .done) .stop)))))))))) (by kernel_rfl) (by kernel_rfl) (by kernel_rfl) ?_
  have f1:(cA.n=h.n)=False:=eq_false (by omega)
  have f2:(er.n=h.n)=False:=eq_false (by omega)
  simp only [ao,b6,gV,Nat.reduceEqDiff,Nat.reduceAdd,tp,o5,bz,g5,d0,d1,f1]
  refine jQ rfl rfl rfl (fun U _=>Ol (E:Int) U) ?_
  have bZ:ca (some 4) (aD.cells [.int .i64 0,.int .i64 0,.int .i64 0,.ag] 159 none) 0 [.int .i64 (K:Nat),.int .i64 (E:Nat),.int .i64 0,.ag]=some (.cells [.int .i64 (K:Nat),.int .i64 (E:Nat),.int .i64 0,.ag] 159 none):=by
   rw [uf (n:=4) rfl rfl,if_pos (by decide)];rfl
  have cr:(V.agg [.int .i64 (K:Nat),.int .i64 (E:Nat),.int .i64 0,.ag]).cells=some [.int .i64 (K:Nat),.int .i64 (E:Nat),.int .i64 0,.ag]:=rfl
  have u9:aa uD (uD.set h.n (.cells [.int .i64 (K:Nat),.int .i64 (E:Nat),.int .i64 0,.ag] 159 none)) (fun q=>q=h.n):=aa.set _ _ _
  have kr:cW (.cells [.int .i64 (K:Nat),.int .i64 (E:Nat),.int .i64 0,.ag] 159 none) 0=some [.int .i64 (K:Nat),.int .i64 (E:Nat),.int .i64 0,.ag]:=rfl
  have hC:aa h (uD.set h.n (.cells [.int .i64 (K:Nat),.int .i64 (E:Nat),.int .i64 0,.ag] 159 none)) none_:=Oq.trans (aa.set _ _ _) (fun x af ad=>by omega)
  subst ab
  have F2:((((bX (bX bs)).length:Nat):Int)==0)=decide (bX (bX bs)=[]):=by
   rw [Bool.eq_iff_iff,beq_iff_eq,decide_eq_true_iff,←List.length_eq_zero_iff]
   omega
  cases hm:nq (E:Int)
  ·simp only [ao,b6,gV,Nat.reduceEqDiff]
   refine na rfl rfl ?_
   simp only [ao,b6,gV,Nat.reduceEqDiff,Nat.reduceAdd,o5,uy,d0,Br,bZ,cr,u9,bd,Tryz.results82,qi,mF,jP,qh]
   exact aR ⟨_,qu _ _ _ _,hC⟩
  ·simp only [ao,b6,gV,Nat.reduceEqDiff]
   refine jQ rfl rfl rfl (fun U hk=>Left U _ _ (bX (bX bs)) (hk.elim (fun hk=>F1.au hk (by omega)) (fun e=>e ▸ F1))) ?_
   simp only [ao,b6,gV,Nat.reduceEqDiff,Nat.reduceAdd,o5,uy,d0,Br,bZ,cr,u9,F2,bd,Tryz.results82,qi,mF,jP,qh]
   exact aR ⟨_,qu _ _ _ _,hC⟩
 rw [if_neg ab]
 have bf:((K:Int)==2)=false:=by rw [beq_eq_false_iff_ne];omega
 by_cases h1:K=1
 case neg=>
  have bx:((K:Int)==1)=false:=by rw [beq_eq_false_iff_ne];omega
  rw [if_neg h1]
  have bZ:ca (some 4) (aD.cells [.int .i64 0,.int .i64 0,.int .i64 0,.ag] 159 none) 0 [.int .i64 0,.int .i64 0,.int .i64 0,.ag]=some (.cells [.int .i64 0,.int .i64 0,.int .i64 0,.ag] 159 none):=by
   rw [uf (n:=4) rfl rfl,if_pos (by decide)];rfl
  have kr:cW (.cells [.int .i64 0,.int .i64 0,.int .i64 0,.ag] 159 none) 0=some [.int .i64 0,.int .i64 0,.int .i64 0,.ag]:=rfl
  have hC:aa h (uD.set h.n (.cells [.int .i64 0,.int .i64 0,.int .i64 0,.ag] 159 none)) none_:=Oq.trans (aa.set _ _ _) (fun x af ad=>by omega)
  simp only [ao,Nat.reduceEqDiff,Nat.reduceAdd,o5,IX,zJ,uy,bf,bx,Br,bZ,kr,bd,Tryz.results82,qi,mF,jP,qh]
  exact aR ⟨_,qu _ _ _ _,hC⟩
 rw [if_pos h1]
 subst h1
 have bx:(((1:Nat):Int)==1)=true:=rfl
 simp only [ao,Nat.reduceEqDiff,bf,bx]
 refine cC MZ (Om _ _ (bX (bX bs)) uD F1 lY (by omega)) fun Eh yb ⟨xJ,Kx,mN⟩=>?_
 subst xJ
 change ef yb _ er.n (bX (bX (bX bs))) at Kx
 have U5:=Oo lY
 have ant:=ii (bX (bX bs))
 generalize bX (bX (bX bs))=R at *
 generalize dD (bX (bX bs))=A at *
 have Ji:=mN.n
 have g6:=(mN.get cA.n (by omega) (by omega)).trans g5
 have U6:=(mN.get h.n (by omega) (by omega)).trans Br
 simp only [ao,Nat.reduceEqDiff,Nat.reduceAdd,Nat.reduceLeDiff,zF,kH,g6]
 have Ot:aa yb (yb.set cA.n (.cells [.int .i64 ((1:Nat):Int),.int .i64 (E:Nat),.int .i64 (A:Nat),.ag] 159 none)) (fun q=>q=cA.n):=aa.set _ _ _
 have g7:(yb.set cA.n (.cells [.int .i64 ((1:Nat):Int),.int .i64 (E:Nat),.int .i64 (A:Nat),.ag] 159 none)).get cA.n=.cells [.int .i64 ((1:Nat):Int),.int .i64 (E:Nat),.int .i64 (A:Nat),.ag] 159 none:=e4
 have U7:=(Ot.get h.n (by omega) (by omega)).trans U6
 have U8:=Kx.au Ot (by omega)
 have ajt:aa h (yb.set cA.n (.cells [.int .i64 ((1:Nat):Int),.int .i64 (E:Nat),.int .i64 (A:Nat),.ag] 159 none)) none_:=(Oq.trans mN (fun x af ad=>by omega)).trans Ot (fun x af ad=>by omega)
 have aoJ:(yb.set cA.n (.cells [.int .i64 ((1:Nat):Int),.int .i64 (E:Nat),.int .i64 (A:Nat),.ag] 159 none)).n=yb.n:=rfl
 generalize yb.set cA.n (.cells [.int .i64 ((1:Nat):Int),.int .i64 (E:Nat),.int .i64 (A:Nat),.ag] 159 none)=aju at *
 refine cC afG (ah8 _ _ R aju U8 U5 (by omega)) fun aoK sd ⟨CL,Ky,z1⟩=>?_
 subst CL
 have kt:(mJ R).1.length≤2 ^ 40:=by
  unfold mJ
  split
  ·simp
  ·split
   ·simp
   ·simp only [List.length_take,List.length_drop];omega
 generalize mJ R=G at *
 obtain ⟨x,rest,bad⟩:=G
 simp only at Ky kt⊢
 have aoL:=z1.n
 have g8:=(z1.get cA.n (by omega) (by omega)).trans g7
 have U9:=(z1.get h.n (by omega) (by omega)).trans U7
 simp only [ao,Nat.reduceEqDiff,Nat.reduceAdd,IL,vY,g8]
 generalize dd:[V.int .i64 ((1:Nat):Int),.int .i64 (E:Nat),.int .i64 (A:Nat),.an x.length (bp x)]=cs
 have tK:cs=bI ⟨1,E,A,x⟩:=dd.symm
 have Ou:aa sd (sd.set cA.n (.cells cs 159 none)) (fun q=>q=cA.n):=aa.set _ _ _
 have g9:(sd.set cA.n (.cells cs 159 none)).get cA.n=.cells cs 159 none:=e4
 have F3:=(Ou.get h.n (by omega) (by omega)).trans U9
 have Kz:=Ky.au Ou (by omega)
 have ajv:aa h (sd.set cA.n (.cells cs 159 none)) none_:=(ajt.trans z1 (fun x af ad=>by omega)).trans Ou (fun x af ad=>by omega)
 have aoM:(sd.set cA.n (.cells cs 159 none)).n=sd.n:=rfl
 generalize sd.set cA.n (.cells cs 159 none)=CM at *
 have hlen:cs.length=4:=by rw [tK];rfl
 have ec:cs.all (·.one)=true:=by rw [tK];rfl
 have bZ:ca (some 4) (aD.cells [.int .i64 0,.int .i64 0,.int .i64 0,.ag] 159 none) 0 cs=some (.cells cs 159 none):=by
  rw [uf (n:=4) hlen ec,if_pos (by decide),tK];rfl
 have cr:(V.agg cs).cells=some cs:=by rw [tK];rfl
 have kr:cW (.cells cs 159 none) 0=some cs:=rfl
 have hy:hI (some (some 4)) (some cs)=some (.agg cs):=by rw [tK];rfl
 have u9:aa CM (CM.set h.n (.cells cs 159 none)) (fun q=>q=h.n):=aa.set _ _ _
 have hC:aa h (CM.set h.n (.cells cs 159 none)) none_:=ajv.trans (aa.set _ _ _) (fun x af ad=>by omega)
 have f1:(cA.n=h.n)=False:=eq_false (by omega)
 have f2:(er.n=h.n)=False:=eq_false (by omega)
 have F2:(((rest.length:Nat):Int)==0)=decide (rest=[]):=by
  rw [Bool.eq_iff_iff,beq_iff_eq,decide_eq_true_iff,←List.length_eq_zero_iff]
  omega
 have rh:∀ b:Bool,aV (.tuple [.agg cs,.bool b]) (CM.set h.n (.cells cs 159 none)) (.tuple [.agg (bI ⟨1,E,A,x⟩),.bool b]) (CM.set h.n (.cells cs 159 none)):=fun b=>by rw [tK];exact aV.refl _ _
 refine aZ.b4 (fun q=>q=h.n) [12] (.q 0 (.q 1 (.q 2 (.q 3 (.q 4 (.c 5 (.q 6 (.q 7 (.q 8 (.c 9 (.q 10 (.q 11 (.e 12 (.q 13 .done) .stop))))))))))))) (by kernel_rfl) (by kernel_rfl) (by kernel_rfl) ?_
 by_cases mg:bad=0
 case neg=>
  have c3:(((bad:Nat):Int)==0)=false:=by rw [beq_eq_false_iff_ne];omega
  simp only [ao,b6,gV,Nat.reduceEqDiff,o5,g9,kr,hy,f1,c3]
  refine na rfl rfl ?_
  simp only [ao,b6,gV,Nat.reduceEqDiff]
  refine na rfl rfl ?_
  simp only [ao,b6,gV,Nat.reduceEqDiff,o5,uy,kr,hy,F3,bZ,cr,u9,bd,Tryz.results82,qi,mF,jP,qh]
  rw [decide_eq_false mg]
  exact aR ⟨_,rh _,hC⟩
 subst mg
 have c3:(((0:Nat):Int)==0)=true:=rfl
 simp only [ao,b6,gV,Nat.reduceEqDiff,o5,g9,kr,hy,f1,c3]
 refine jQ rfl rfl rfl (fun U hk=>by rw [tK];exact rt ⟨1,E,A,x⟩ U (Nat.le_trans kt (by decide))) ?_
 cases hm:lQ ⟨1,E,A,x⟩
 ·simp only [ao,b6,gV,Nat.reduceEqDiff]
  refine na rfl rfl ?_
  simp only [ao,b6,gV,Nat.reduceEqDiff,o5,uy,kr,hy,F3,bZ,cr,u9,bd,Tryz.results82,qi,mF,jP,qh]
  exact aR ⟨_,rh _,hC⟩
 ·simp only [ao,b6,gV,Nat.reduceEqDiff]
  refine jQ rfl rfl rfl (fun U hk=>Left U _ _ rest (hk.elim (fun hk=>Kz.au hk (by omega)) (fun e=>e ▸ Kz))) ?_
  simp only [ao,b6,gV,Nat.reduceEqDiff,o5,uy,kr,hy,F3,bZ,cr,u9,F2,bd,Tryz.results82,qi,mF,jP,qh]
  exact aR ⟨_,rh _,hC⟩
abbrev mO:=List (Nat×Int×bm)
def kM (c:bm):V:=.agg (aP c)
structure lk (h:I) (a m k:Nat) (ep:Int) (es:mO) (a1:Nat):Prop where
 lt:a<h.n
 get:h.get a=.cells [.ptr k 0,.int .i64 ep,.map m] 157 none
 wh:m<h.n
 map:h.get m=.map (cx (V.int .i64) kM es) a1
 ne:a≠m
theorem lk.au {h U:I} {a m k a1:Nat} {ep:Int} {es:mO} (d:lk h a m k ep es a1) {own:Nat→Prop} (hk:aa h U own) (aL:¬own a) (hm:¬own m):lk U a m k ep es a1 :=
 ⟨Nat.lt_of_lt_of_le d.lt hk.n,(hk.get a d.lt aL).trans d.get,Nat.lt_of_lt_of_le d.wh hk.n,(hk.get m d.wh hm).trans d.map,d.ne⟩
theorem Va {h:I} {m a1:Nat} {es:mO} (aE:h.get m=.map (cx (V.int .i64) kM es) a1) (k:Int):nM Tryz.prog 155 (.map m) (.int .i64 k) true h =
  some (match bq es k with | some c=>.tuple [.agg (aP c),.bool true] | none=>.tuple [.agg [.int .i64 0,.int .i64 0,.ag],.bool false]):=by
 have bB:∃ z,jg Tryz.prog 224=some z∧eZ z=.agg [.int .i64 0,.int .i64 0,.ag]:=⟨.agg #[.int .i64 0,.int .i64 0,.slice none 0 0],by kernel_rfl,rfl⟩
 obtain ⟨z,Vb,Vc⟩:=bB
 have:=D4 (enc:=kM) (ok:=true) (fT.ofInt Fe) (k:=k) Fe Vb aE
 rw [this,Vc]
 cases bq es k<;>rfl
theorem ajw {h:I} {m a1:Nat} {es:mO} (aE:h.get m=.map (cx (V.int .i64) kM es) a1) (k:Int) (c:bm):qS Tryz.prog 155 (.map m) (.int .i64 k) (.agg (aP c)) h =
  some (h.set m (.map (cx (V.int .i64) kM (cm a1 es k c)) (e5 a1 es k))) :=
 HX (enc:=kM) (fT.ofInt Fe) (k:=k) Fe aE rfl
def j9 (ep:Int) (es:mO) (a:Act):Bool :=
 if a.kind=2 then decide (ep<a.aF) else decide (ep≤a.aF)&&(match bq es a.at_ with | some c=>decide (c.aF<a.aF) | none=>true)
theorem ajx (h:I) (n m k a1:Nat) (ep:Int) (es:mO) (d:lk h n m k ep es a1) (a:Act):Pure Tryz.prog 83 [.ptr n 0,.agg (bI a)] h (.bool (j9 ep es a)):=by
 obtain ⟨kind,aF,at_,bytes⟩:=a
 refine Pure.val (bb.bool _) ?_
 have ez:aa h (h.push (.cells (bI ⟨kind,aF,at_,bytes⟩) 159 none)) none_:=aa.push _ _ _
 have d0:=d.au ez (fun h=>h) (fun h=>h)
 have g0:(h.push (.cells (bI ⟨kind,aF,at_,bytes⟩) 159 none)).get h.n=.cells (bI ⟨kind,aF,at_,bytes⟩) 159 none:=c4
 have gr:cW (.cells (bI ⟨kind,aF,at_,bytes⟩) 159 none) 0=some [.int .i64 kind,.int .i64 aF,.int .i64 at_,.an bytes.length (bp bytes)]:=rfl
 have aK:cW (.cells (bI ⟨kind,aF,at_,bytes⟩) 159 none) 1=some [.int .i64 aF,.int .i64 at_,.an bytes.length (bp bytes)]:=rfl
 have a6:cW (.cells (bI ⟨kind,aF,at_,bytes⟩) 159 none) 2=some [.int .i64 at_,.an bytes.length (bp bytes)]:=rfl
 have cr:(V.agg (bI ⟨kind,aF,at_,bytes⟩)).cells=some (bI ⟨kind,aF,at_,bytes⟩):=rfl
 refine ah.aH (c:=_) Tryz.func83 rfl (by kernel_rfl) (by simp) ?_
 have lj:hI (some none) (some (bI ⟨kind,aF,at_,bytes⟩))=some (.int .i64 kind):=rfl
 have v0:=d0.get
 have Jn:=d0.map
 have pa:(h.push (.cells (bI ⟨kind,aF,at_,bytes⟩) 159 none)).n=h.n+1:=rfl
 have CN:=d.lt
 have ajy:=d.wh
 by_cases hk:kind=2
 ·have bf:(kind==2)=true:=by rw [hk];rfl
  have eM:j9 ep es ⟨kind,aF,at_,bytes⟩=decide (ep<aF):=by unfold j9;rw [if_pos hk]
  simp only [ao,Nat.reduceEqDiff,zE,bz,cr,lj,bf]
  generalize h.push (.cells (bI ⟨kind,aF,at_,bytes⟩) 159 none)=er at *
  refine aZ.b4 none_ [] (.q 0 (.q 1 (.q 2 (.q 3 (.q 4 (.q 5 (.q 6 (.q 7 .done)))))))) (by kernel_rfl) (by kernel_rfl) (by kernel_rfl) ?_
  simp only [ao,b6,Nat.reduceEqDiff,Nat.reduceAdd,Nat.reduceLeDiff,reduceCtorEq,tn,tp,bz,g0,aK,v0,bd,Tryz.results83,bT]
  exact aR ⟨by rw [eM],ez⟩
 have bf:(kind==2)=false:=by rw [beq_eq_false_iff_ne];exact hk
 have yc:=Va Jn at_
 simp only [ao,Nat.reduceEqDiff,zE,bz,cr,lj,bf]
 generalize h.push (.cells (bI ⟨kind,aF,at_,bytes⟩) 159 none)=er at *
 refine aZ.b4 none_ [10,11] (.q 0 (.q 1 (.q 2 (.q 3 (.q 4 (.q 5 (.q 6 (.q 7 (.q 8 (.q 9 (.e 10 (.e 11 (.q 12 .done) .stop) .stop))))))))))) (by kernel_rfl) (by kernel_rfl) (by kernel_rfl) ?_
 simp only [ao,b6,Nat.reduceEqDiff,Nat.reduceAdd,Nat.reduceLeDiff,reduceCtorEq,EY,zF,E9,bz,g0,a6,v0,yc]
 cases aE:bq es at_ with
 | none=>
  have eM:j9 ep es ⟨kind,aF,at_,bytes⟩=(decide (ep≤aF)&&true):=by unfold j9;rw [if_neg hk];simp only [aE]
  simp only [ao,b6,Nat.reduceEqDiff,Nat.reduceAdd,rb,d8]
  have bj:aa er (er.push (.cells [.int .i64 0,.int .i64 0,.ag] 224 none)) none_:=aa.push _ _ _
  have g1:=(bj.get h.n (by omega) (fun h=>h)).trans g0
  have v1:=(d0.au bj (fun h=>h) (fun h=>h)).get
  have hC:=ez.trans bj fun _ _ h=>h
  generalize er.push (.cells [.int .i64 0,.int .i64 0,.ag] 224 none)=H1 at *
  refine aZ.b4 none_ [] (.q 0 (.q 1 (.q 2 (.q 3 (.q 4 (.q 5 (.q 6 (.q 7 (.q 8 (.q 9 (.q 10 (.q 11 (.q 12 (.q 13 (.q 14 (.q 15 (.q 16 (.q 17 (.q 18 .done))))))))))))))))))) (by kernel_rfl) (by kernel_rfl) (by kernel_rfl) ?_
  by_cases bx:ep≤aF
  ·simp only [ao,b6,Nat.reduceEqDiff,Nat.reduceAdd,Nat.reduceLeDiff,reduceCtorEq,tn,tp,bz,g1,aK,v1,bx,bd,Tryz.results83,bT]
   exact aR ⟨by rw [eM];simp [bx],hC⟩
  ·simp only [ao,b6,Nat.reduceEqDiff,Nat.reduceAdd,Nat.reduceLeDiff,reduceCtorEq,tn,tp,bz,g1,aK,v1,bx,bd,Tryz.results83,bT]
   exact aR ⟨by rw [eM];simp [bx],hC⟩
 | some c=>
  obtain ⟨fv,ce,fQ⟩:=c
  have eM:j9 ep es ⟨kind,aF,at_,bytes⟩=(decide (ep≤aF)&&decide (ce<aF)):=by unfold j9;rw [if_neg hk];simp only [aE]
  have bZ:ca (some 3) (aD.cells [.int .i64 0,.int .i64 0,.ag] 224 none) 0 (aP ⟨fv,ce,fQ⟩)=some (.cells (aP ⟨fv,ce,fQ⟩) 224 none):=by
   rw [uf (n:=3) rfl rfl,if_pos (by decide)];rfl
  have mD:(V.agg (aP ⟨fv,ce,fQ⟩)).cells=some (aP ⟨fv,ce,fQ⟩):=rfl
  simp only [ao,b6,Nat.reduceEqDiff,rb,d8,bZ,mD]
  have bj:aa er (er.push (.cells (aP ⟨fv,ce,fQ⟩) 224 none)) none_:=aa.push _ _ _
  have g1:=(bj.get h.n (by omega) (fun h=>h)).trans g0
  have v1:=(d0.au bj (fun h=>h) (fun h=>h)).get
  have bK:(er.push (.cells (aP ⟨fv,ce,fQ⟩) 224 none)).get er.n=.cells (aP ⟨fv,ce,fQ⟩) 224 none:=c4
  have yd:cW (.cells (aP ⟨fv,ce,fQ⟩) 224 none) 1=some [.int .i64 ce,.an fQ.length (bp fQ)]:=rfl
  have hC:=ez.trans bj fun _ _ h=>h
  generalize er.push (.cells (aP ⟨fv,ce,fQ⟩) 224 none)=H1 at *
  refine aZ.b4 none_ [] (.q 0 (.q 1 (.q 2 (.q 3 (.q 4 (.q 5 (.q 6 (.q 7 (.q 8 (.q 9 (.q 10 (.q 11 (.q 12 (.q 13 (.q 14 (.q 15 (.q 16 (.q 17 (.q 18 .done))))))))))))))))))) (by kernel_rfl) (by kernel_rfl) (by kernel_rfl) ?_
  by_cases bx:ep≤aF
  ·simp only [ao,b6,Nat.reduceEqDiff,Nat.reduceAdd,Nat.reduceLeDiff,reduceCtorEq,tn,tp,E3,bz,g1,aK,v1,bK,yd,bx,bd,Tryz.results83,bT]
   exact aR ⟨by rw [eM];simp [bx],hC⟩
  ·simp only [ao,b6,Nat.reduceEqDiff,Nat.reduceAdd,Nat.reduceLeDiff,reduceCtorEq,tn,tp,bz,g1,aK,v1,bx,bd,Tryz.results83,bT]
   exact aR ⟨by rw [eM];simp [bx],hC⟩
def nt (ep:Int) (a:Act):Int:=if a.kind=2 then a.aF else ep
def mm (a1:Nat) (es:mO) (a:Act):mO:=if a.kind=2 then es else cm a1 es a.at_ ⟨a.at_,a.aF,a.bytes⟩
def pL (a1:Nat) (es:mO) (a:Act):Nat:=if a.kind=2 then a1 else e5 a1 es a.at_
theorem Vd (h:I) (n m k a1:Nat) (ep:Int) (es:mO) (d:lk h n m k ep es a1) (a:Act) (aw:a.bytes.length≤2 ^ 40) :
  ah Tryz.prog 84 [.ptr n 0,.agg (bI a)] h (fun r U=>lk U n m k (nt ep a) (mm a1 es a) (pL a1 es a)∧aa h U (fun q=>q=n∨q=m)):=by
 obtain ⟨kind,aF,at_,bytes⟩:=a
 simp only at aw
 have ez:aa h (h.push (.cells (bI ⟨kind,aF,at_,bytes⟩) 159 none)) none_:=aa.push _ _ _
 have d0:=d.au ez (fun h=>h) (fun h=>h)
 have g0:(h.push (.cells (bI ⟨kind,aF,at_,bytes⟩) 159 none)).get h.n=.cells (bI ⟨kind,aF,at_,bytes⟩) 159 none:=c4
 have aK:cW (.cells (bI ⟨kind,aF,at_,bytes⟩) 159 none) 1=some [.int .i64 aF,.int .i64 at_,.an bytes.length (bp bytes)]:=rfl
 have a6:cW (.cells (bI ⟨kind,aF,at_,bytes⟩) 159 none) 2=some [.int .i64 at_,.an bytes.length (bp bytes)]:=rfl
 have dB:cW (.cells (bI ⟨kind,aF,at_,bytes⟩) 159 none) 3=some [.an bytes.length (bp bytes)]:=rfl
 have cr:(V.agg (bI ⟨kind,aF,at_,bytes⟩)).cells=some (bI ⟨kind,aF,at_,bytes⟩):=rfl
 have lj:hI (some none) (some (bI ⟨kind,aF,at_,bytes⟩))=some (.int .i64 kind):=rfl
 have v0:=d0.get
 have Jn:=d0.map
 have pa:(h.push (.cells (bI ⟨kind,aF,at_,bytes⟩) 159 none)).n=h.n+1:=rfl
 have CN:=d.lt
 have ajy:=d.wh
 refine ah.aH (c:=_) Tryz.func84 rfl (by kernel_rfl) (by simp) ?_
 by_cases hk:kind=2
 ·have bf:(kind==2)=true:=by rw [hk];rfl
  simp only [ao,Nat.reduceEqDiff,Nat.reduceAdd,Nat.reduceLeDiff,reduceCtorEq,tn,zE,tp,bz,kH,cr,lj,bf,g0,aK,v0,bd,Tryz.results84,lv]
  generalize h.push (.cells (bI ⟨kind,aF,at_,bytes⟩) 159 none)=er at *
  refine aR ⟨?_,(ez.mono fun _ h=>False.elim h).trans (aa.set _ _ _) fun x _ af=>.inl af⟩
  have dH:nt ep ⟨kind,aF,at_,bytes⟩=aF:=by unfold nt;rw [if_pos hk]
  have Ov:mm a1 es ⟨kind,aF,at_,bytes⟩=es:=by unfold mm;rw [if_pos hk]
  have r9:pL a1 es ⟨kind,aF,at_,bytes⟩=a1:=by unfold pL;rw [if_pos hk]
  rw [dH,Ov,r9]
  exact ⟨by rw [kE];exact d0.lt,e4,by rw [kE];exact d0.wh,(nS d.ne.symm).trans Jn,d.ne⟩
 have bf:(kind==2)=false:=by rw [beq_eq_false_iff_ne];exact hk
 simp only [ao,Nat.reduceEqDiff,zE,bz,cr,lj,bf]
 generalize h.push (.cells (bI ⟨kind,aF,at_,bytes⟩) 159 none)=er at *
 have xT:=ajw Jn at_ ⟨at_,aF,bytes⟩
 have lZ:∀ v w,V.agg [.int .i64 v,.int .i64 w,.an bytes.length (bp bytes)]=.agg (aP ⟨v,w,bytes⟩):=fun _ _=>rfl
 refine aZ.b4 none_ [14] (.q 0 (.q 1 (.q 2 (.q 3 (.q 4 (.q 5 (.q 6 (.q 7 (.q 8 (.q 9 (.q 10 (.q 11 (.q 12 (.c 13 (.a 14 .done))))))))))))))) (by kernel_rfl) (by kernel_rfl) (by kernel_rfl) ?_
 simp only [ao,b6,Nat.reduceEqDiff,Nat.reduceAdd,Nat.reduceLeDiff,reduceCtorEq,EY,tp,zF,IL,E9,bz,lB,aho,rb,g0,aK,a6,dB,v0]
 refine jQ rfl rfl rfl (fun U _=>F0 ⟨at_,aF,bytes⟩ U aw) ?_
 simp only [ao,b6,Nat.reduceEqDiff,xT,o0,Tryz.results84,lv]
 refine aR ⟨?_,(ez.mono fun _ h=>False.elim h).trans (aa.set _ _ _) fun x _ af=>.inr af⟩
 have dH:nt ep ⟨kind,aF,at_,bytes⟩=ep:=by unfold nt;rw [if_neg hk]
 have Ov:mm a1 es ⟨kind,aF,at_,bytes⟩=cm a1 es at_ ⟨at_,aF,bytes⟩:=by unfold mm;rw [if_neg hk]
 have r9:pL a1 es ⟨kind,aF,at_,bytes⟩=e5 a1 es at_:=by unfold pL;rw [if_neg hk]
 rw [dH,Ov,r9]
 exact ⟨by rw [kE];exact d0.lt,(nS d.ne).trans v0,by rw [kE];exact d0.wh,e4,d.ne⟩
abbrev gP:=Int×mO×Nat
def ka (s:gP) (p:List Nat):gP:=if (pK p).2&&j9 s.1 s.2.1 (pK p).1 then (nt s.1 (pK p).1,mm s.2.2 s.2.1 (pK p).1,pL s.2.2 s.2.1 (pK p).1) else s
def eA (l:List (List Nat)):gP:=l.foldl ka (0,[],0)
theorem ajz {l:List (List Nat)} {i:Nat} (hi:i<l.length):eA (l.take (i+1))=ka (eA (l.take i)) l[i]:=by
 unfold eA
 rw [List.take_succ_eq_append_getElem hi,List.foldl_append]
 all_goals rfl
theorem ajA (b:List Nat) (ar:∀ x ∈ b,x<256):(kL b).1.length≤b.length∧∀ x ∈ (kL b).1,x<256:=by
 unfold kL
 split
 ·exact ⟨Nat.zero_le _,fun x af=>by cases af⟩
 split
 ·exact ⟨Nat.zero_le _,fun x af=>by cases af⟩
 split
 ·exact ⟨Nat.zero_le _,fun x af=>by cases af⟩
 split
 ·refine ⟨?_,fun x af=>ar x (List.mem_of_mem_drop (List.mem_of_mem_take af))⟩
  rw [List.length_take,List.length_drop]
  omega
 ·exact ⟨Nat.zero_le _,fun x af=>by cases af⟩
theorem Ve:∀ (k:Nat) (b:List Nat),(∀ x ∈ b,x<256)→∀ p ∈ (gI k b).1,p.length≤b.length∧∀ x ∈ p,x<256
 | 0,b,ar,p,az=>by cases az
 | k+1,b,ar,p,az=>by
  unfold gI at az
  split at az
  ·cases az
  ·rcases List.mem_cons.1 az with rfl | az
   ·exact ajA b ar
   ·obtain ⟨h1,ab⟩:=Ve k _ (fun x af=>ar x (List.mem_of_mem_drop af)) p az
    rw [List.length_drop] at h1
    exact ⟨by omega,ab⟩
theorem rg:∀ (k:Nat) (b:List Nat),(gI k b).1.length≤k
 | 0,b=>Nat.le_refl _
 | k+1,b=>by
  unfold gI
  split
  ·exact Nat.zero_le _
  ·have:=rg k (b.drop (kL b).2.1)
   simp only [List.length_cons]
   omega
theorem ajB (p:List Nat):(pK p).1.bytes.length≤p.length:=by
 unfold pK
 split
 ·exact Nat.zero_le _
 split
 ·have h1:=ii p
  have ab:=ii (bX p)
  have aI:=ii (bX (bX p))
  simp only
  unfold mJ
  split
  ·exact Nat.zero_le _
  split
  ·exact Nat.zero_le _
  ·simp only [List.length_take,List.length_drop]
   omega
 ·exact Nat.zero_le _
structure IsNode (h:I) (a m k j i:Nat) (room:Int) (bs:List Nat) (safe:Int) (v pv:V) (l:List (List Nat)) (bQ:Int) (s:gP):Prop where
 oH:lk h a m k s.1 s.2.1 s.2.2
 ye:gq h k j i room bs safe v pv l bQ
 lh:¬iv k j i v pv a
 x7:¬iv k j i v pv m
theorem gq.iO {h:I} {k j i:Nat} {room safe bQ:Int} {bs:List Nat} {v pv:V} {l:List (List Nat)} (s:gq h k j i room bs safe v pv l bQ):∀ x,iv k j i v pv x→x<h.n:=fun x af=>by
 rcases af with af | af | af | af | af
 ·rw [af];exact s.lt
 ·rw [af];exact s.qG
 ·rw [af];exact s.oG.lt
 ·exact s.oG.own.lt _ af
 ·exact s.row.lt _ af
theorem ajC (h:I) (i:Nat) (room:Int) (bs:List Nat) (ar:∀ x ∈ bs,x<256) (safe:Int) (v:V) (d:cz h (.ptr i 0) room (lF bs) safe i v) :
  ah Tryz.prog 51 [.ptr i 0] h (fun r U=>∃ a m k j v' pv,r=.ptr a 0∧IsNode U a m k j i room (bs.take (gI bs.length bs).2) ((gI bs.length bs).2:Nat) v' pv (gI bs.length bs).1 ((bs.length:Int) - ((gI bs.length bs).2:Nat)) (eA (gI bs.length bs).1) ∧
   aA v'=aA v∧h.n≤a∧h.n≤m∧h.n≤k∧h.n≤j∧(∀ x,aA pv=some x→h.n≤x)∧aa h U (nV i v)):=by
 have lA:bs.length≤1048576:=by have:=d.len;have:=d.most;rw [wg] at *;omega
 have hi:=d.lt
 have jZ:=d.own.lt
 refine ah.aH (c:=_) Tryz.func51 rfl (by kernel_rfl) (by simp) ?_
 simp only [ao,Nat.reduceEqDiff,reduceCtorEq]
 refine cC M2 (aji h i room bs ar safe v d) fun cq h1 ⟨k,j,v1,pv,aK,s1,i1,hk,aC,az,bj⟩=>?_
 subst aK
 have ew:=Ve bs.length bs ar
 have hll:=rg bs.length bs
 generalize gI bs.length bs=S at *
 obtain ⟨l,n⟩:=S
 simp only at s1 ew hll⊢
 simp only [ao,Nat.reduceEqDiff,Nat.reduceAdd,Nat.reduceLeDiff,IK,IW,ahk,IT]
 have KA:((h1.push (.map [] 0)).push (.cells [.ptr k 0,.int .i64 0,.map h1.n] 157 none)).get h1.n=.map [] 0:=Dy
 have KB:((h1.push (.map [] 0)).push (.cells [.ptr k 0,.int .i64 0,.map h1.n] 157 none)).get (h1.n+1)=.cells [.ptr k 0,.int .i64 0,.map h1.n] 157 none:=Dx
 have eu:aa h1 ((h1.push (.map [] 0)).push (.cells [.ptr k 0,.int .i64 0,.map h1.n] 157 none)) none_:=(aa.push _ _ _).trans (aa.push _ _ _) fun _ _ h=>h
 have pa:((h1.push (.map [] 0)).push (.cells [.ptr k 0,.int .i64 0,.map h1.n] 157 none)).n=h1.n+2:=rfl
 generalize (h1.push (.map [] 0)).push (.cells [.ptr k 0,.int .i64 0,.map h1.n] 157 none)=er at KA KB eu pa⊢
 have s0:=s1.cP eu
 have pl:=s1.iO
 have kh:l.length≤2 ^ 40:=by omega
 refine cK SF (sLen er k j i room _ _ _ v1 pv l s0 kh) ?_
 simp only [ao]
 have C1:=bj.n
 refine aZ.cu (α:=Nat) (fun x f U=>f 3=.ptr (h1.n+1) 0∧f 18=.int .i64 (l.length:Nat)∧f 19=.int .i64 (x:Nat)∧x≤l.length∧lk U (h1.n+1) h1.n k (eA (l.take x)).1 (eA (l.take x)).2.1 (eA (l.take x)).2.2 ∧
  aa er U (fun q=>q=h1.n+1∨q=h1.n)) (fun x=>l.length - x) 0
  ⟨rfl,rfl,rfl,Nat.zero_le _,⟨by omega,KB,by omega,KA,by omega⟩,aa.refl _ _⟩ ?_
 rintro x f U ⟨f3,f18,f19,af,nd,c6⟩
 have uN:∀ q,iv k j i v1 pv q→¬(q=h1.n+1∨q=h1.n):=fun q ae ad=>by have:=pl q ae;omega
 have Ea:=s0.au c6 uN
 refine gn (by kernel_rfl) ?_
 by_cases aT:x<l.length
 ·have d1:decide ((x:Int)<((l.length:Nat):Int))=true:=by rw [decide_eq_true_iff];omega
  have hw:IntKind.i64.wrap ((x:Int)+1)=((x+1:Nat):Int):=by rw [Go.IntWalk.i64_in _ (by omega)];rfl
  obtain ⟨jj,Vf⟩:=ew l[x] (List.getElem_mem aT)
  have cV:=ajz aT
  have Vg:=nd.get
  simp only [ao,Nat.reduceEqDiff,Nat.reduceAdd,IK,IW,f3,f18,f19,d1,Vg]
  refine cK agL (Oj U k j i room _ _ _ v1 pv l Ea kh x aT (by omega)) ?_
  simp only [ao,Nat.reduceEqDiff]
  refine cK agM (ajq l[x] U Vf (by omega)) ?_
  have jG:=ajB l[x]
  unfold ka at cV
  generalize pK l[x]=O at cV jG⊢
  obtain ⟨a,ok⟩:=O
  simp only at cV jG
  generalize eA (l.take x)=S at *
  obtain ⟨ep,es,a1⟩:=S
  simp only at cV nd Vg
  have cr:(V.agg (bI a)).cells=some (bI a):=rfl
  have bZ:ca (some 4) (aD.cells [.int .i64 0,.int .i64 0,.int .i64 0,.ag] 159 none) 0 (bI a)=some (.cells (bI a) 159 none):=by
   rw [uf (n:=4) rfl rfl,if_pos (by decide)];rfl
  have kr:cW (.cells (bI a) 159 none) 0=some (bI a):=rfl
  have hy:hI (some (some 4)) (some (bI a))=some (.agg (bI a)):=rfl
  have k2:aa U (U.push (.cells (bI a) 159 none)) none_:=aa.push _ _ _
  have g2:(U.push (.cells (bI a) 159 none)).get U.n=.cells (bI a) 159 none:=c4
  have tL:=nd.au k2 (fun h=>h) (fun h=>h)
  cases ok
  ·rw [if_neg (by simp)] at cV
   simp only [ao,Nat.reduceEqDiff,zJ,uy,f19,cr,bZ,hw]
   refine aR ⟨x+1,⟨f3,f18,rfl,aT,?_,c6.trans (k2.mono fun _ h=>False.elim h) fun _ _ h=>h⟩,by omega⟩
   rw [cV]
   exact tL
  ·simp only [ao,Nat.reduceEqDiff,o5,zJ,uy,f3,cr,bZ,g2,kr,hy]
   refine cK agN (ajx _ (h1.n+1) h1.n k a1 ep es tL a) ?_
   cases aB:j9 ep es a
   ·rw [aB,if_neg (by simp)] at cV
    simp only [ao,Nat.reduceEqDiff,f19,hw]
    refine aR ⟨x+1,⟨f3,f18,rfl,aT,?_,c6.trans (k2.mono fun _ h=>False.elim h) fun _ _ h=>h⟩,by omega⟩
    rw [cV]
    exact tL
   ·rw [aB,if_pos (show (true&&true)=true from rfl)] at cV
    simp only [ao,Nat.reduceEqDiff,o5,f3,g2,kr,hy]
    refine cC SG (Vd _ (h1.n+1) h1.n k a1 ep es tL a (by omega)) fun hh aI ⟨F4,b2⟩=>?_
    simp only [ao,Nat.reduceEqDiff,f19,hw]
    refine aR ⟨x+1,⟨f3,f18,rfl,aT,?_,(c6.trans (k2.mono fun _ h=>False.elim h) fun _ _ h=>h).trans b2 fun _ _ h=>h⟩,by omega⟩
    rw [cV]
    exact F4
 ·have d1:decide ((x:Int)<((l.length:Nat):Int))=false:=by rw [decide_eq_false_iff_not];omega
  have oj:l.take x=l:=by rw [List.take_of_length_le (by omega)]
  rw [oj] at nd
  simp only [ao,Nat.reduceEqDiff,f3,f18,f19,d1,bd,Tryz.results51,bT]
  refine aR ⟨h1.n+1,h1.n,k,j,v1,pv,rfl,⟨nd,Ea,fun ad=>uN _ ad (.inl rfl),fun ad=>uN _ ad (.inr rfl)⟩,i1,by omega,by omega,hk,aC,az,?_⟩
  exact (bj.trans ((eu.mono fun _ h=>False.elim h)) fun _ _ h=>h).trans c6 fun q ae ad=>by omega
def fl (s:gP) (x:Act):gP:=(nt s.1 x,mm s.2.2 s.2.1 x,pL s.2.2 s.2.1 x)
def lG (a m k j i:Nat) (v pv:V):Nat→Prop:=fun q=>q=a∨q=m∨iv k j i v pv q
theorem IsNode.au {h U:I} {a m k j i:Nat} {room safe bQ:Int} {bs:List Nat} {v pv:V} {l:List (List Nat)} {s:gP} (d:IsNode h a m k j i room bs safe v pv l bQ s) {own:Nat→Prop} (hk:aa h U own) (bc:∀ q,lG a m k j i v pv q→¬own q):IsNode U a m k j i room bs safe v pv l bQ s :=
 ⟨d.oH.au hk (bc a (.inl rfl)) (bc m (.inr (.inl rfl))),d.ye.au hk fun q ae=>bc q (.inr (.inr ae)),d.lh,d.x7⟩
theorem IsNode.cP {h U:I} {a m k j i:Nat} {room safe bQ:Int} {bs:List Nat} {v pv:V} {l:List (List Nat)} {s:gP} (d:IsNode h a m k j i room bs safe v pv l bQ s) (hk:aa h U none_):IsNode U a m k j i room bs safe v pv l bQ s:=d.au hk fun _ _ h=>h
theorem IsNode.iO {h:I} {a m k j i:Nat} {room safe bQ:Int} {bs:List Nat} {v pv:V} {l:List (List Nat)} {s:gP} (d:IsNode h a m k j i room bs safe v pv l bQ s):∀ q,lG a m k j i v pv q→q<h.n:=fun q ae=>by
 rcases ae with ae | ae | ae
 ·rw [ae];exact d.oH.lt
 ·rw [ae];exact d.oH.wh
 ·exact d.ye.iO q ae
def wi (x:Act):Prop:=(0≤x.kind∧x.kind<2 ^ 62)∧(0≤x.aF∧x.aF<2 ^ 62)∧(0≤x.at_∧x.at_<2 ^ 62)∧x.bytes.length≤2048
theorem ajD (x:Act) (av:wi x):(bw x).length≤2 ^ 40:=by
 obtain ⟨h1,ab,aI,h4⟩:=av
 have aK:=hB x.kind.toNat (by omega)
 have a6:=hB x.aF.toNat (by omega)
 have dB:=hB x.at_.toNat (by omega)
 have hj:=hB x.bytes.length (by omega)
 unfold bw kI
 split<;>simp only [List.length_append]<;>omega
theorem F5 (h:I) (a m k j i:Nat) (room safe bQ:Int) (bs:List Nat) (v pv:V) (l:List (List Nat)) (s:gP) (d:IsNode h a m k j i room bs safe v pv l bQ s) (aw:l.length≤2 ^ 30) (x:Act) (av:wi x) :
  ah Tryz.prog 199 [.ptr a 0,.agg (bI x)] h (fun r U=>r=.int .i64 (hc room bs (bw x)) ∧
   if hc room bs (bw x)=0 then ∃ v' bS,IsNode U a m k j i room (bs++frame (bw x)) ((bs++frame (bw x)).length:Nat) v' bS (l++[bw x]) bQ (fl s x)∧mj h i v v'∧(aA bS=aA pv∨∀ y,aA bS=some y→h.n≤y)∧aa h U (lG a m k j i v pv)
   else IsNode U a m k j i room bs safe v pv l bQ s∧aa h U none_):=by
 have ez:aa h (h.push (.cells (bI x) 159 none)) none_:=aa.push _ _ _
 have d0:=d.cP ez
 have g0:(h.push (.cells (bI x) 159 none)).get h.n=.cells (bI x) 159 none:=c4
 have pa:(h.push (.cells (bI x) 159 none)).n=h.n+1:=rfl
 have kr:cW (.cells (bI x) 159 none) 0=some (bI x):=rfl
 have hy:hI (some (some 4)) (some (bI x))=some (.agg (bI x)):=rfl
 have cr:(V.agg (bI x)).cells=some (bI x):=rfl
 have KC:=d.iO
 have jj:=ajD x av
 refine ah.aH (c:=_) Tryz.func199 rfl (by kernel_rfl) (by simp) ?_
 simp only [ao,cr]
 generalize h.push (.cells (bI x) 159 none)=er at *
 have v0:=d0.oH.get
 refine aZ.b4 (fun q=>iv k j i v pv q) [6] (.q 0 (.q 1 (.q 2 (.q 3 (.q 4 (.c 5 (.a 6 (.q 7 .done)))))))) (by kernel_rfl) (by kernel_rfl) (by kernel_rfl) ?_
 have f1:iv k j i v pv a=False:=eq_false d.lh
 have f2:iv k j i v pv h.n=False:=eq_false fun ad=>by have:=KC h.n (.inr (.inr ad));omega
 simp only [ao,b6,gV,Nat.reduceEqDiff,Nat.reduceAdd,reduceCtorEq,IK,IW,o5,v0,g0,kr,hy,f1,f2]
 refine jQ rfl rfl rfl (fun U _=>ajn x U (by have:=av.2.2.2;omega) av.1 av.2.1 av.2.2.1) ?_
 simp only [ao,b6,gV,Nat.reduceEqDiff]
 refine cC agh (Oi er k j i room safe bQ bs v pv l d0.ye aw (bw x) jj) fun cq h1 ⟨aK,az⟩=>?_
 subst aK
 by_cases c7:hc room bs (bw x)=0
 case neg=>
  have bf:(hc room bs (bw x) !=0)=true:=by simp [c7]
  rw [if_neg c7] at az
  subst az
  simp only [ao,b6,gV,Nat.reduceEqDiff,bf,bd,Tryz.results199,bT,Nat.reduceEqDiff]
  refine aR ⟨rfl,?_⟩
  rw [if_neg c7]
  exact ⟨d0,ez⟩
 rw [if_pos c7] at az
 obtain ⟨v1,qH,s1,c9,k9,bj⟩:=az
 have KD:=d0.oH.au bj d.lh d.x7
 have Vh:=KD.get
 have hW:=(bj.get h.n (by omega) (by rw [f2];exact id)).trans g0
 have bf:((0:Int) !=0)=false:=rfl
 have c2:=bj.n
 rw [c7]
 simp only [ao,b6,gV,Nat.reduceEqDiff,Nat.reduceAdd,reduceCtorEq,IK,IW,Vh,Nat.reduceEqDiff,Nat.reduceAdd,reduceCtorEq]
 refine cC agi (ajj h1 k j i room _ bQ _ v1 qH _ s1) fun ck ab ⟨s2,k2⟩=>?_
 have Bs:∀ q,iv k j i v1 qH q→iv k j i v pv q∨er.n≤q:=fun q ae=>by
  rcases ae with ae | ae | ae | ae | ae
  ·exact .inl (.inl ae)
  ·exact .inl (.inr (.inl ae))
  ·exact .inl (.inr (.inr (.inl ae)))
  ·rcases c9 with c9 | c9
   ·exact .inl (.inr (.inr (.inr (.inl (c9 ▸ ae)))))
   ·exact .inr (c9 q ae)
  ·rcases k9 with k9 | k9
   ·exact .inl (.inr (.inr (.inr (.inr (k9 ▸ ae)))))
   ·exact .inr (k9 q ae)
 have F6:¬iv k j i v1 qH a:=fun ad=>(Bs a ad).elim d.lh fun e=>by have:=d.oH.lt;omega
 have F7:¬iv k j i v1 qH m:=fun ad=>(Bs m ad).elim d.x7 fun e=>by have:=d.oH.wh;omega
 have Vi:¬iv k j i v1 qH h.n:=fun ad=>(Bs h.n ad).elim (fun e=>by rw [f2] at e;exact e) fun e=>by omega
 have ip:∀ q,nV i v1 q→iv k j i v1 qH q:=fun q ae=>ae.elim (fun e=>.inr (.inr (.inl e))) fun e=>.inr (.inr (.inr (.inl e)))
 have tL:=KD.au k2 (fun e=>F6 (ip _ e)) (fun e=>F7 (ip _ e))
 have anu:=tL.get
 have cZ:=(k2.get h.n (by omega) (fun e=>Vi (ip _ e))).trans hW
 simp only [ao,Nat.reduceEqDiff,reduceCtorEq,o5,cZ,kr,hy]
 refine cC SG (Vd ab a m k _ _ _ tL x (by have:=av.2.2.2;omega)) fun hh aI ⟨F4,b2⟩=>?_
 have h0:=s2.au b2 fun q ae ad=>by
  rcases ad with ad | ad
  ·subst ad;exact F6 ae
  ·subst ad;exact F7 ae
 simp only [ao,Nat.reduceEqDiff,bd,Tryz.results199,bT]
 refine aR ⟨rfl,?_⟩
 rw [if_pos rfl]
 refine ⟨v1,qH,⟨F4,h0,F6,F7⟩,?_,?_,?_⟩
 ·rcases c9 with c9 | c9
  ·exact .inl c9
  ·exact .inr fun q ae=>by have:=c9 q ae;omega
 ·rcases k9 with k9 | k9
  ·exact .inl k9
  ·exact .inr fun q ae=>by have:=k9 q ae;omega
 ·refine (((ez.mono fun _ h=>False.elim h).trans bj fun q _ ae=>.inr (.inr ae)).trans k2 fun q aT ae=>?_).trans b2 fun q _ ae=>?_
  ·rcases Bs q (ip q ae) with e | e
   ·exact .inr (.inr e)
   ·omega
  ·exact ae.elim .inl fun e=>.inr (.inl e)
theorem Vj (l:List Nat):(tv l).toList=l.map fun n=>UInt8.ofNat n:=by
 rw [ByteArray.toList_eq,tv,strOfNums_data,List.map_map]
 all_goals rfl
theorem ajE {a b:List Nat} (aL:∀ n ∈ a,n<256) (ar:∀ n ∈ b,n<256):((tv a).toList==(tv b).toList)=decide (a=b):=by
 rw [Vj,Vj,Bool.eq_iff_iff]
 simp only [beq_iff_eq,decide_eq_true_eq]
 refine ⟨fun h=>?_,fun h=>by rw [h]⟩
 have ab:=congrArg (List.map UInt8.toNat) h
 rw [List.map_map,List.map_map] at ab
 have e:∀ l:List Nat,(∀ n ∈ l,n<256)→l.map (UInt8.toNat ∘ fun n=>UInt8.ofNat n)=l:=fun l aw=>by
  conv=>rhs;rw [←List.map_id l]
  refine List.map_congr_left fun n aJ=>?_
  have:=aw n aJ
  simp
  omega
 rw [e a aL,e b ar] at ab
 exact ab
theorem ajF (x y:List Nat) (h:I) (af:∀ n ∈ x,n<256) (aX:∀ n ∈ y,n<256):Pure Tryz.prog 202 [.an x.length (bp x),.an y.length (bp y)] h (.bool (decide (x=y))):=by
 refine ah.aH (c:=_) Tryz.func202 rfl (by kernel_rfl) (by simp) ?_
 have e:=ajE af aX
 simp only [ao,Nat.reduceEqDiff,reduceCtorEq,ah2,e,bd,Tryz.results202,bT]
 exact aR ⟨rfl,rfl⟩
def gl (s:gP) (ep at_:Int) (b:List Nat):Option Int :=
 if lQ ⟨1,ep,at_,b⟩=false then some 2 else if ep<s.1 then some 7 else
 match bq s.2.1 at_ with
 | some c=>if ep≤c.aF then (if c.aF=ep∧c.bytes=b then some 0 else some 12) else none
 | none=>none
theorem ajG (h:I) (a m k j i:Nat) (room safe bQ:Int) (bs:List Nat) (v pv:V) (l:List (List Nat)) (s:gP) (d:IsNode h a m k j i room bs safe v pv l bQ s) (aw:l.length≤2 ^ 30)
  (ep at_:Int) (b:List Nat) (ar:∀ n ∈ b,n<256) (lA:b.length≤2 ^ 50) (al:∀ c,bq s.2.1 at_=some c→∀ n ∈ c.bytes,n<256) :
  ah Tryz.prog 164 [.ptr a 0,.int .i64 ep,.int .i64 at_,.an b.length (bp b)] h (fun r U=>match gl s ep at_ b with
   | some e=>r=.int .i64 e∧IsNode U a m k j i room bs safe v pv l bQ s∧aa h U none_
   | none=>r=.int .i64 (hc room bs (bw ⟨1,ep,at_,b⟩)) ∧
    if hc room bs (bw ⟨1,ep,at_,b⟩)=0 then ∃ v' bS,IsNode U a m k j i room (bs++frame (bw ⟨1,ep,at_,b⟩)) ((bs++frame (bw ⟨1,ep,at_,b⟩)).length:Nat) v' bS (l++[bw ⟨1,ep,at_,b⟩]) bQ (fl s ⟨1,ep,at_,b⟩)∧mj h i v v'∧(aA bS=aA pv∨∀ y,aA bS=some y→h.n≤y)∧aa h U (lG a m k j i v pv)
    else IsNode U a m k j i room bs safe v pv l bQ s∧aa h U none_):=by
 have ez:aa h (h.push (.cells (bI ⟨1,ep,at_,b⟩) 159 none)) none_:=aa.push _ _ _
 have d0:=d.cP ez
 have g0:(h.push (.cells (bI ⟨1,ep,at_,b⟩) 159 none)).get h.n=.cells (bI ⟨1,ep,at_,b⟩) 159 none:=c4
 have pa:(h.push (.cells (bI ⟨1,ep,at_,b⟩) 159 none)).n=h.n+1:=rfl
 have kr:cW (.cells (bI ⟨1,ep,at_,b⟩) 159 none) 0=some (bI ⟨1,ep,at_,b⟩):=rfl
 have hy:hI (some (some 4)) (some (bI ⟨1,ep,at_,b⟩))=some (.agg (bI ⟨1,ep,at_,b⟩)):=rfl
 have Vk:[V.int .i64 1,.int .i64 ep,.int .i64 at_,.an b.length (bp b)]=bI ⟨1,ep,at_,b⟩:=rfl
 have cr:(V.agg (bI ⟨1,ep,at_,b⟩)).cells=some (bI ⟨1,ep,at_,b⟩):=rfl
 have bZ:ca (some 4) (aD.cells [.int .i64 0,.int .i64 0,.int .i64 0,.ag] 159 none) 0 (bI ⟨1,ep,at_,b⟩)=some (.cells (bI ⟨1,ep,at_,b⟩) 159 none):=by
  rw [uf (n:=4) rfl rfl,if_pos (by decide)];rfl
 have v0:=d0.oH.get
 refine ah.aH (c:=_) Tryz.func164 rfl (by kernel_rfl) (by simp) ?_
 simp only [ao,Nat.reduceEqDiff,Nat.reduceAdd,Nat.reduceLeDiff,reduceCtorEq,SU,o5,IX,zJ,uy,Vk,cr,bZ,g0,kr,hy]
 refine cK afH (rt ⟨1,ep,at_,b⟩ _ lA) ?_
 generalize h.push (.cells (bI ⟨1,ep,at_,b⟩) 159 none)=er at *
 cases hm:lQ ⟨1,ep,at_,b⟩
 ·have gb:gl s ep at_ b=some 2:=by unfold gl;rw [if_pos hm]
  simp only [ao,Nat.reduceEqDiff,bd,Tryz.results164,bT]
  rw [gb]
  exact aR ⟨rfl,d0,ez⟩
 have aU:wi ⟨1,ep,at_,b⟩:=by
  have fE:=hm
  unfold lQ nq at fE
  simp only [Bool.and_eq_true,decide_eq_true_eq] at fE
  obtain ⟨⟨⟨m1,m2⟩,m3,m4⟩,m5⟩:=fE
  exact ⟨by simp only;omega,by simp only;omega,by simp only;omega,m5⟩
 by_cases aT:ep<s.1
 ·have gb:gl s ep at_ b=some 7:=by unfold gl;rw [if_neg (by rw [hm];decide),if_pos aT]
  simp only [ao,Nat.reduceEqDiff,Nat.reduceAdd,Nat.reduceLeDiff,reduceCtorEq,tn,bz,v0,aT,bd,Tryz.results164,bT]
  rw [gb]
  exact aR ⟨rfl,d0,ez⟩
 have yc:=Va d0.oH.map at_
 have KC:=d.iO
 have fin:∀ (H1 U:I),aa h H1 none_→(if hc room bs (bw ⟨1,ep,at_,b⟩)=0 then ∃ v' bS,IsNode U a m k j i room (bs++frame (bw ⟨1,ep,at_,b⟩)) ((bs++frame (bw ⟨1,ep,at_,b⟩)).length:Nat) v' bS (l++[bw ⟨1,ep,at_,b⟩]) bQ (fl s ⟨1,ep,at_,b⟩)∧mj H1 i v v'∧(aA bS=aA pv∨∀ y,aA bS=some y→H1.n≤y)∧aa H1 U (lG a m k j i v pv)
   else IsNode U a m k j i room bs safe v pv l bQ s∧aa H1 U none_) →
   (if hc room bs (bw ⟨1,ep,at_,b⟩)=0 then ∃ v' bS,IsNode U a m k j i room (bs++frame (bw ⟨1,ep,at_,b⟩)) ((bs++frame (bw ⟨1,ep,at_,b⟩)).length:Nat) v' bS (l++[bw ⟨1,ep,at_,b⟩]) bQ (fl s ⟨1,ep,at_,b⟩)∧mj h i v v'∧(aA bS=aA pv∨∀ y,aA bS=some y→h.n≤y)∧aa h U (lG a m k j i v pv)
    else IsNode U a m k j i room bs safe v pv l bQ s∧aa h U none_):=fun H1 U Ow az=>by
  have aoN:=Ow.n
  by_cases c7:hc room bs (bw ⟨1,ep,at_,b⟩)=0
  ·rw [if_pos c7] at az⊢
   obtain ⟨v',bS,c9,fw,n3,n4⟩:=az
   refine ⟨v',bS,c9,?_,?_,(Ow.mono fun _ h=>False.elim h).trans n4 fun _ _ h=>h⟩
   ·exact fw.elim .inl fun e=>.inr fun q ae=>by have:=e q ae;omega
   ·exact n3.elim .inl fun e=>.inr fun q ae=>by have:=e q ae;omega
  ·rw [if_neg c7] at az⊢
   exact ⟨az.1,Ow.trans az.2 fun _ _ h=>h⟩
 cases aE:bq s.2.1 at_ with
 | none=>
  have gb:gl s ep at_ b=none:=by unfold gl;rw [if_neg (by rw [hm];decide),if_neg aT,aE]
  rw [aE] at yc
  simp only [ao,Nat.reduceEqDiff,Nat.reduceAdd,Nat.reduceLeDiff,reduceCtorEq,tn,EY,E9,o5,bz,rb,d8,v0,aT,yc]
  have bj:aa er (er.push (.cells [.int .i64 0,.int .i64 0,.ag] 224 none)) none_:=aa.push _ _ _
  have g1:=(bj.get h.n (by omega) (fun h=>h)).trans g0
  have d1:=d0.cP bj
  generalize er.push (.cells [.int .i64 0,.int .i64 0,.ag] 224 none)=H1 at *
  simp only [ao,Nat.reduceEqDiff,g1,kr,hy]
  refine cC M3 (F5 H1 a m k j i room safe bQ bs v pv l s d1 aw ⟨1,ep,at_,b⟩ aU) fun r U ⟨e,az⟩=>?_
  subst e
  simp only [ao,Nat.reduceEqDiff,bd,Tryz.results164,bT]
  rw [gb]
  exact aR ⟨rfl,fin H1 U (ez.trans bj fun _ _ h=>h) az⟩
 | some c=>
  obtain ⟨fv,ce,fQ⟩:=c
  have AY:=al _ aE
  rw [aE] at yc
  have wj:ca (some 3) (aD.cells [.int .i64 0,.int .i64 0,.ag] 224 none) 0 (aP ⟨fv,ce,fQ⟩)=some (.cells (aP ⟨fv,ce,fQ⟩) 224 none):=by
   rw [uf (n:=3) rfl rfl,if_pos (by decide)];rfl
  have mD:(V.agg (aP ⟨fv,ce,fQ⟩)).cells=some (aP ⟨fv,ce,fQ⟩):=rfl
  have yd:cW (.cells (aP ⟨fv,ce,fQ⟩) 224 none) 1=some [.int .i64 ce,.an fQ.length (bp fQ)]:=rfl
  have Vl:cW (.cells (aP ⟨fv,ce,fQ⟩) 224 none) 2=some [.an fQ.length (bp fQ)]:=rfl
  have jM:(aP ⟨fv,ce,fQ⟩).length=3:=rfl
  have k9:List.drop 1 (aP ⟨fv,ce,fQ⟩)=[.int .i64 ce,.an fQ.length (bp fQ)]:=rfl
  simp only [ao,Nat.reduceEqDiff,Nat.reduceAdd,Nat.reduceLeDiff,reduceCtorEq,tn,EY,E3,E9,bz,rb,d8,v0,aT,yc,wj,mD,yd]
  have bj:aa er (er.push (.cells (aP ⟨fv,ce,fQ⟩) 224 none)) none_:=aa.push _ _ _
  have g1:=(bj.get h.n (by omega) (fun h=>h)).trans g0
  have bK:(er.push (.cells (aP ⟨fv,ce,fQ⟩) 224 none)).get er.n=.cells (aP ⟨fv,ce,fQ⟩) 224 none:=c4
  have d1:=d0.cP bj
  have hC:=ez.trans bj fun _ _ h=>h
  generalize er.push (.cells (aP ⟨fv,ce,fQ⟩) 224 none)=H1 at *
  by_cases km:ep≤ce
  ·by_cases heq:ce=ep
   ·have kl:(ce==ep)=true:=by rw [heq];simp
    simp only [ao,Nat.reduceEqDiff,E3,Cs,bz,lB,bK,yd,Vl,km,kl]
    refine cK agc (ajF fQ b H1 AY ar) ?_
    by_cases kg:fQ=b
    ·have gb:gl s ep at_ b=some 0:=by unfold gl;rw [if_neg (by rw [hm];decide),if_neg aT,aE];simp only;rw [if_pos km,if_pos ⟨heq,kg⟩]
     simp only [ao,Nat.reduceEqDiff,kg,bd,Tryz.results164,bT]
     rw [gb]
     exact aR ⟨rfl,d1,hC⟩
    ·have gb:gl s ep at_ b=some 12:=by unfold gl;rw [if_neg (by rw [hm];decide),if_neg aT,aE];simp only;rw [if_pos km,if_neg fun e=>kg e.2]
     have a7:decide (fQ=b)=false:=decide_eq_false kg
     simp only [ao,Nat.reduceEqDiff,a7,bd,Tryz.results164,bT]
     rw [gb]
     exact aR ⟨rfl,d1,hC⟩
   ·have kl:(ce==ep)=false:=by rw [beq_eq_false_iff_ne];exact heq
    have gb:gl s ep at_ b=some 12:=by unfold gl;rw [if_neg (by rw [hm];decide),if_neg aT,aE];simp only;rw [if_pos km,if_neg fun e=>heq e.1]
    simp only [ao,Nat.reduceEqDiff,E3,bz,bK,yd,km,kl,bd,Tryz.results164,bT]
    rw [gb]
    exact aR ⟨rfl,d1,hC⟩
  ·have gb:gl s ep at_ b=none:=by unfold gl;rw [if_neg (by rw [hm];decide),if_neg aT,aE];simp only;rw [if_neg km]
   simp only [ao,Nat.reduceEqDiff,reduceCtorEq,o5,km,g1,kr,hy]
   refine cC M3 (F5 H1 a m k j i room safe bQ bs v pv l s d1 aw ⟨1,ep,at_,b⟩ aU) fun r U ⟨e,az⟩=>?_
   subst e
   simp only [ao,Nat.reduceEqDiff,bd,Tryz.results164,bT]
   rw [gb]
   exact aR ⟨rfl,fin H1 U hC az⟩
structure jH (s:gP):Prop where
 st:dw (cx (V.int .i64) kM s.2.1) s.2.2
 nd:dJ s.2.1
 nW:∀ e ∈ s.2.1,e.2.2.bytes.length≤2048∧(∀ n ∈ e.2.2.bytes,n<256)∧0≤e.2.1∧e.2.1<4096∧e.2.2.at_=e.2.1
theorem se (c:bm):(aP c).length=3:=rfl
open Go Go.Proofs Go.Proofs.YtceanabgcnieeaaGreatDoor.Ab Go.Sort
theorem then_eq {K:fq} {x:Option V} {v:V} {d:Option Tmp} {f:ak} {h:I} (e:x=some v) (g:@jq (some v) d K f h):@jq x d K f h:=e ▸ g
theorem ajH (h:I) (n:Int) (aJ:n=0∨n=1):Pure Tryz.prog 185 [.int .u64 n] h (.int .i64 n):=by
 refine Pure.val (bb.int _ _) ?_
 refine ah.aH (c:=_) Tryz.func185 rfl (by kernel_rfl) (by simp) ?_
 have Vm:IntKind.u8.wrap 0=0:=by decide
 have Vn:IntKind.u8.wrap 1=1:=by decide
 have bK:IntKind.i64.wrap 1=1:=by decide
 have aG:IntKind.i64.wrap 0=0:=by decide
 have bV:IntKind.i64.wrap (0+0)=0:=by decide
 have jR:IntKind.i64.wrap (0+1)=1:=by decide
 rcases aJ with rfl | rfl
 ·simp only [ao,Int.reduceLE,Nat.reduceEqDiff,reduceCtorEq,jS,iq,Vm]
  refine then_eq (v:=.int .u8 0) (by kernel_rfl) ?_
  simp only [ao,Nat.reduceEqDiff,gG,iq,aG,bV,bd,Tryz.results185,bT]
  exact aR ⟨rfl,aa.refl _ _⟩
 ·simp only [ao,Int.reduceLE,Nat.reduceEqDiff,reduceCtorEq,jS,iq,Vn]
  refine then_eq (v:=.int .u8 1) (by kernel_rfl) ?_
  simp only [ao,Nat.reduceEqDiff,gG,iq,bK,jR,bd,Tryz.results185,bT]
  exact aR ⟨rfl,aa.refl _ _⟩
theorem pM (h:I) (n:Int) (aJ:n=0∨n=1):Pure Tryz.prog 143 [.int .u64 n] h (.int .i64 n):=by
 refine Pure.val (bb.int _ _) ?_
 refine ah.aH (c:=_) Tryz.func143 rfl (by kernel_rfl) (by simp) ?_
 have hw:IntKind.u64.wrap n=n:=by rcases aJ with rfl | rfl<;>decide
 simp only [ao,Nat.reduceEqDiff,reduceCtorEq]
 refine cK af7 (ajH h n aJ) ?_
 simp only [ao,Nat.reduceEqDiff,bd,Tryz.results143,bT]
 exact aR ⟨rfl,aa.refl _ _⟩
open Go.Shelf
def ajI:Go.Shelf.Ren:=⟨fun | 6=>104 | 15=>143 | 14=>142 | 28=>184 | 29=>185 | 20=>176 | 21=>177 | 22=>178 | 23=>179 | 24=>180 | 25=>181 | 26=>182 | 27=>183 | 46=>222 | 47=>223 | 48=>224 | 49=>225 | 50=>226 | 57=>257 | n=>n,fun | 22=>40 | 24=>46 | 25=>195 | 3=>3 | 39=>125 | 0=>0 | 53=>170 | 55=>106 | 4=>4 | 46=>310 | 45=>309 | 50=>210 | 5=>5 | 9=>9 | 66=>370 | 70=>374 | 76=>411 | 77=>286 | n=>n,fun | n=>n⟩
theorem Vo:Go.Proofs.SlLaysF0.n6 Tryz.prog ajI:={
 mixed:=by kernel_rfl
 f6:=⟨Tryz.f104.name,by decide,Tryz.func104.trans (congrArg some (by kernel_rfl))⟩
 f14:=⟨Tryz.f142.name,by decide,Tryz.func142.trans (congrArg some (by kernel_rfl))⟩
 f15:=Tryz.func143.trans (congrArg some (by kernel_rfl))
 f20:=⟨Tryz.f176.name,by decide,Tryz.func176.trans (congrArg some (by kernel_rfl))⟩
 f21:=⟨Tryz.f177.name,by decide,Tryz.func177.trans (congrArg some (by kernel_rfl))⟩
 f22:=⟨Tryz.f178.name,by decide,Tryz.func178.trans (congrArg some (by kernel_rfl))⟩
 f23:=⟨Tryz.f179.name,by decide,Tryz.func179.trans (congrArg some (by kernel_rfl))⟩
 f24:=⟨Tryz.f180.name,by decide,Tryz.func180.trans (congrArg some (by kernel_rfl))⟩
 f25:=⟨Tryz.f181.name,by decide,Tryz.func181.trans (congrArg some (by kernel_rfl))⟩
 f26:=⟨Tryz.f182.name,by decide,Tryz.func182.trans (congrArg some (by kernel_rfl))⟩
 f27:=⟨Tryz.f183.name,by decide,Tryz.func183.trans (congrArg some (by kernel_rfl))⟩
 f28:=Tryz.func184.trans (congrArg some (by kernel_rfl))
 f29:=Tryz.func185.trans (congrArg some (by kernel_rfl))
 f46:=⟨Tryz.f222.name,by decide,Tryz.func222.trans (congrArg some (by kernel_rfl))⟩
 f47:=Tryz.func223.trans (congrArg some (by kernel_rfl))
 f48:=Tryz.func224.trans (congrArg some (by kernel_rfl))
 f49:=⟨Tryz.f225.name,by decide,Tryz.func225.trans (congrArg some (by kernel_rfl))⟩
 f50:=⟨Tryz.f226.name,by decide,Tryz.func226.trans (congrArg some (by kernel_rfl))⟩
 f57:=⟨Tryz.f257.name,by decide,Tryz.func257.trans (congrArg some (by kernel_rfl))⟩
 t0:=Tryz.underlying0
 a0:=Tryz.isAgg0
 z0:=Tryz.sizeOf0
 v0:=Tryz.zeroValue0
 t3:=Tryz.underlying3
 a3:=Tryz.isAgg3
 z3:=Tryz.sizeOf3
 v3:=Tryz.zeroValue3
 t4:=Tryz.underlying4
 a4:=Tryz.isAgg4
 z4:=Tryz.sizeOf4
 v4:=Tryz.zeroValue4
 t5:=Tryz.underlying5
 a5:=Tryz.isAgg5
 z5:=Tryz.sizeOf5
 v5:=Tryz.zeroValue5
 t9:=Tryz.underlying9
 a9:=Tryz.isAgg9
 z9:=Tryz.sizeOf9
 v9:=Tryz.zeroValue9
 t22:=Tryz.underlying40
 a22:=Tryz.isAgg40
 z22:=Tryz.sizeOf40
 v22:=Tryz.zeroValue40
 t25:=Tryz.underlying195
 a25:=Tryz.isAgg195
 z25:=Tryz.sizeOf195
 v25:=Tryz.zeroValue195
 t39:=Tryz.underlying125
 a39:=Tryz.isAgg125
 z39:=Tryz.sizeOf125
 v39:=Tryz.zeroValue125
 t45:=Tryz.underlying309
 a45:=Tryz.isAgg309
 z45:=Tryz.sizeOf309
 v45:=Tryz.zeroValue309
 t46:=Tryz.underlying310
 a46:=Tryz.isAgg310
 z46:=Tryz.sizeOf310
 v46:=Tryz.zeroValue310
 t50:=Tryz.underlying210
 a50:=Tryz.isAgg210
 z50:=Tryz.sizeOf210
 v50:=Tryz.zeroValue210
 t53:=Tryz.underlying170
 a53:=Tryz.isAgg170
 z53:=Tryz.sizeOf170
 v53:=Tryz.zeroValue170
 t55:=Tryz.underlying106
 a55:=Tryz.isAgg106
 z55:=Tryz.sizeOf106
 v55:=Tryz.zeroValue106
 t66:=Tryz.underlying370
 a66:=Tryz.isAgg370
 z66:=Tryz.sizeOf370
 v66:=Tryz.zeroValue370
 t70:=Tryz.underlying374
 a70:=Tryz.isAgg374
 z70:=Tryz.sizeOf374
 v70:=Tryz.zeroValue374
 t76:=Tryz.underlying411
 a76:=Tryz.isAgg411
 z76:=Tryz.sizeOf411
 v76:=Tryz.zeroValue411
 t77:=Tryz.underlying286
 a77:=Tryz.isAgg286
 z77:=Tryz.sizeOf286
 v77:=Tryz.zeroValue286 }
theorem ajJ (h:I) (x c:V) (n lim:Int) (aJ:n≤1) (ay:0≤n):Pure Tryz.prog 176 [x,.int .i64 0,.int .i64 n,c] h (.tuple []):=by
 refine Pure.val (bb.tuple aO.nil) ?_
 refine ah.aH (c:=_) Tryz.func176 rfl (by kernel_rfl) (by simp) ?_
 have bB:IntKind.i64.wrap (0+1)=1:=by decide
 simp only [ao,Nat.reduceEqDiff,bB]
 refine aZ.cu (α:=Unit) (fun _ f U=>f 8=.int .i64 1∧f 2=.int .i64 n∧U=h) (fun _=>0) () ⟨rfl,rfl,rfl⟩ ?_
 rintro _ f U ⟨f8,f2,rfl⟩
 refine gn (by kernel_rfl) ?_
 have d1:decide (1<n)=false:=decide_eq_false (by omega)
 simp only [ao,Nat.reduceEqDiff,f8,f2,d1,o0,Tryz.results176,lv]
 exact aR ⟨rfl,aa.refl _ _⟩
theorem ajK (h:I) (x c:V) (n l:Int) (aJ:n≤1) (ay:0≤n):Pure Tryz.prog 142 [x,.int .i64 0,.int .i64 n,.int .i64 l,c] h (.tuple []):=by
 refine Pure.val (bb.tuple aO.nil) ?_
 refine ah.aH (c:=_) Tryz.func142 rfl (by kernel_rfl) (by simp) ?_
 simp only [ao]
 refine aZ.cu (α:=Unit) (fun _ f U=>f 0=x∧f 1=.int .i64 0∧f 2=.int .i64 n∧f 4=c∧U=h) (fun _=>0) () ⟨rfl,rfl,rfl,rfl,rfl⟩ ?_
 rintro _ f U ⟨f0,f1,f2,f4,rfl⟩
 refine gn (by kernel_rfl) ?_
 have hw:IntKind.i64.wrap (n - 0)=n:=by rw [Go.IntWalk.i64_in _ (by omega)];omega
 have d1:decide (n≤12)=true:=decide_eq_true (by omega)
 simp only [ao,Nat.reduceEqDiff,reduceCtorEq,f0,f1,f2,f4,hw,d1]
 refine cK af6 (ajJ _ x c n 0 aJ ay) ?_
 simp only [ao,bd,Tryz.results142,lv]
 exact aR ⟨rfl,aa.refl _ _⟩
theorem ajL (h:I) (x c:V) (n:Int) (aJ:n=0∨n=1) (aw:cE Tryz.prog 40 x h=some (.int .i64 n)):Pure Tryz.prog 104 [x,c] h (.tuple []):=by
 refine Pure.val (bb.tuple aO.nil) ?_
 refine ah.aH (c:=_) Tryz.func104 rfl (by kernel_rfl) (by simp) ?_
 have hw:IntKind.u64.wrap n=n:=by rcases aJ with rfl | rfl<;>decide
 simp only [ao,Nat.reduceEqDiff,reduceCtorEq,Nf,gG,aw,hw]
 refine cK M1 (pM h n aJ) ?_
 simp only [ao,Nat.reduceEqDiff]
 refine cK afR (ajK h x c n n (by omega) (by omega)) ?_
 simp only [ao,o0,Tryz.results104,lv]
 exact aR ⟨rfl,aa.refl _ _⟩
theorem ajM {g:FuncId} {cf:(Int×List dn)→(Int×List dn)→Int} (nc:SWO (ltOf cf)) (nb:∀ a b,ah Tryz.prog g [.agg (b5 a),.agg (b5 b)] qX fun r _=>r=.int .i64 (cf a b))
  (F8:∀ args w,(callFunc g args).run Tryz.prog w=.ok (.enter g args) w) (h:I) (x:V) (l:List (Int×List dn)) (av:Own h 46 3 x (l.flatMap b5)) (aw:l.length≤2 ^ 40) :
  ah Tryz.prog 104 [x,.func (.func g) [] []] h fun r U=>r=.tuple []∧aa h U (aW x)∧∃ b7:List (Int×List dn),b7.Perm l∧(b7.Pairwise fun a b=>ltOf cf b a=false)∧Own U 46 3 x (b7.flatMap b5):=by
 refine Mx (by decide) CF (fun x=>rfl) N8 nc nb
  (fun n enc hk h1 cf nc kp cap d w al hH ar J=>AnyQ.slices_SortFunc Vo 3 Tryz.isAgg46 Tryz.sizeOf46 enc hk h1 cf nc g #[] kp 0 cap d w F8 al hH ar J) (fun aJ=>?_) av (by omega)
 subst aJ
 have hlen:cE Tryz.prog 40 x h=some (.int .i64 0):=by
  rcases av with ⟨rfl | rfl,_⟩ | ⟨i,len,cap,c,ex,rfl,_,_,aw,_⟩
  ·exact B2 IV
  ·exact Du IV
  ·have:len=0:=by simp at aw;omega
   subst this
   exact B1 IV
 exact ajL h x _ 0 (.inl rfl) hlen
def ajN:Go.Shelf.Ren:=⟨fun | 6=>107 | 15=>143 | 14=>145 | 28=>184 | 29=>185 | 20=>186 | 21=>187 | 22=>188 | 23=>189 | 24=>190 | 25=>191 | 26=>192 | 27=>193 | 46=>227 | 47=>223 | 48=>224 | 49=>228 | 50=>229 | 57=>258 | n=>n,fun | 22=>41 | 24=>52 | 25=>200 | 3=>3 | 39=>125 | 0=>0 | 53=>170 | 55=>106 | 4=>4 | 46=>310 | 45=>309 | 50=>210 | 5=>5 | 9=>9 | 66=>370 | 70=>374 | 76=>411 | 77=>286 | n=>n,fun | n=>n⟩
theorem Vp:Go.Proofs.SlLaysF0.n6 Tryz.prog ajN:={
 mixed:=by kernel_rfl
 f6:=⟨Tryz.f107.name,by decide,Tryz.func107.trans (congrArg some (by kernel_rfl))⟩
 f14:=⟨Tryz.f145.name,by decide,Tryz.func145.trans (congrArg some (by kernel_rfl))⟩
 f15:=Tryz.func143.trans (congrArg some (by kernel_rfl))
 f20:=⟨Tryz.f186.name,by decide,Tryz.func186.trans (congrArg some (by kernel_rfl))⟩
 f21:=⟨Tryz.f187.name,by decide,Tryz.func187.trans (congrArg some (by kernel_rfl))⟩
 f22:=⟨Tryz.f188.name,by decide,Tryz.func188.trans (congrArg some (by kernel_rfl))⟩
 f23:=⟨Tryz.f189.name,by decide,Tryz.func189.trans (congrArg some (by kernel_rfl))⟩
 f24:=⟨Tryz.f190.name,by decide,Tryz.func190.trans (congrArg some (by kernel_rfl))⟩
 f25:=⟨Tryz.f191.name,by decide,Tryz.func191.trans (congrArg some (by kernel_rfl))⟩
 f26:=⟨Tryz.f192.name,by decide,Tryz.func192.trans (congrArg some (by kernel_rfl))⟩
 f27:=⟨Tryz.f193.name,by decide,Tryz.func193.trans (congrArg some (by kernel_rfl))⟩
 f28:=Tryz.func184.trans (congrArg some (by kernel_rfl))
 f29:=Tryz.func185.trans (congrArg some (by kernel_rfl))
 f46:=⟨Tryz.f227.name,by decide,Tryz.func227.trans (congrArg some (by kernel_rfl))⟩
 f47:=Tryz.func223.trans (congrArg some (by kernel_rfl))
 f48:=Tryz.func224.trans (congrArg some (by kernel_rfl))
 f49:=⟨Tryz.f228.name,by decide,Tryz.func228.trans (congrArg some (by kernel_rfl))⟩
 f50:=⟨Tryz.f229.name,by decide,Tryz.func229.trans (congrArg some (by kernel_rfl))⟩
 f57:=⟨Tryz.f258.name,by decide,Tryz.func258.trans (congrArg some (by kernel_rfl))⟩
 t0:=Tryz.underlying0
 a0:=Tryz.isAgg0
 z0:=Tryz.sizeOf0
 v0:=Tryz.zeroValue0
 t3:=Tryz.underlying3
 a3:=Tryz.isAgg3
 z3:=Tryz.sizeOf3
 v3:=Tryz.zeroValue3
 t4:=Tryz.underlying4
 a4:=Tryz.isAgg4
 z4:=Tryz.sizeOf4
 v4:=Tryz.zeroValue4
 t5:=Tryz.underlying5
 a5:=Tryz.isAgg5
 z5:=Tryz.sizeOf5
 v5:=Tryz.zeroValue5
 t9:=Tryz.underlying9
 a9:=Tryz.isAgg9
 z9:=Tryz.sizeOf9
 v9:=Tryz.zeroValue9
 t22:=Tryz.underlying41
 a22:=Tryz.isAgg41
 z22:=Tryz.sizeOf41
 v22:=Tryz.zeroValue41
 t25:=Tryz.underlying200
 a25:=Tryz.isAgg200
 z25:=Tryz.sizeOf200
 v25:=Tryz.zeroValue200
 t39:=Tryz.underlying125
 a39:=Tryz.isAgg125
 z39:=Tryz.sizeOf125
 v39:=Tryz.zeroValue125
 t45:=Tryz.underlying309
 a45:=Tryz.isAgg309
 z45:=Tryz.sizeOf309
 v45:=Tryz.zeroValue309
 t46:=Tryz.underlying310
 a46:=Tryz.isAgg310
 z46:=Tryz.sizeOf310
 v46:=Tryz.zeroValue310
 t50:=Tryz.underlying210
 a50:=Tryz.isAgg210
 z50:=Tryz.sizeOf210
 v50:=Tryz.zeroValue210
 t53:=Tryz.underlying170
 a53:=Tryz.isAgg170
 z53:=Tryz.sizeOf170
 v53:=Tryz.zeroValue170
 t55:=Tryz.underlying106
 a55:=Tryz.isAgg106
 z55:=Tryz.sizeOf106
 v55:=Tryz.zeroValue106
 t66:=Tryz.underlying370
 a66:=Tryz.isAgg370
 z66:=Tryz.sizeOf370
 v66:=Tryz.zeroValue370
 t70:=Tryz.underlying374
 a70:=Tryz.isAgg374
 z70:=Tryz.sizeOf374
 v70:=Tryz.zeroValue374
 t76:=Tryz.underlying411
 a76:=Tryz.isAgg411
 z76:=Tryz.sizeOf411
 v76:=Tryz.zeroValue411
 t77:=Tryz.underlying286
 a77:=Tryz.isAgg286
 z77:=Tryz.sizeOf286
 v77:=Tryz.zeroValue286 }
theorem ajO (h:I) (x c:V) (n lim:Int) (aJ:n≤1) (ay:0≤n):Pure Tryz.prog 186 [x,.int .i64 0,.int .i64 n,c] h (.tuple []):=by
 refine Pure.val (bb.tuple aO.nil) ?_
 refine ah.aH (c:=_) Tryz.func186 rfl (by kernel_rfl) (by simp) ?_
 have bB:IntKind.i64.wrap (0+1)=1:=by decide
 simp only [ao,Nat.reduceEqDiff,bB]
 refine aZ.cu (α:=Unit) (fun _ f U=>f 8=.int .i64 1∧f 2=.int .i64 n∧U=h) (fun _=>0) () ⟨rfl,rfl,rfl⟩ ?_
 rintro _ f U ⟨f8,f2,rfl⟩
 refine gn (by kernel_rfl) ?_
 have d1:decide (1<n)=false:=decide_eq_false (by omega)
 simp only [ao,Nat.reduceEqDiff,f8,f2,d1,o0,Tryz.results186,lv]
 exact aR ⟨rfl,aa.refl _ _⟩
theorem ajP (h:I) (x c:V) (n l:Int) (aJ:n≤1) (ay:0≤n):Pure Tryz.prog 145 [x,.int .i64 0,.int .i64 n,.int .i64 l,c] h (.tuple []):=by
 refine Pure.val (bb.tuple aO.nil) ?_
 refine ah.aH (c:=_) Tryz.func145 rfl (by kernel_rfl) (by simp) ?_
 simp only [ao]
 refine aZ.cu (α:=Unit) (fun _ f U=>f 0=x∧f 1=.int .i64 0∧f 2=.int .i64 n∧f 4=c∧U=h) (fun _=>0) () ⟨rfl,rfl,rfl,rfl,rfl⟩ ?_
 rintro _ f U ⟨f0,f1,f2,f4,rfl⟩
 refine gn (by kernel_rfl) ?_
 have hw:IntKind.i64.wrap (n - 0)=n:=by rw [Go.IntWalk.i64_in _ (by omega)];omega
 have d1:decide (n≤12)=true:=decide_eq_true (by omega)
 simp only [ao,Nat.reduceEqDiff,reduceCtorEq,f0,f1,f2,f4,hw,d1]
 refine cK af8 (ajO _ x c n 0 aJ ay) ?_
 simp only [ao,bd,Tryz.results145,lv]
 exact aR ⟨rfl,aa.refl _ _⟩
theorem ajQ (h:I) (x c:V) (n:Int) (aJ:n=0∨n=1) (aw:cE Tryz.prog 41 x h=some (.int .i64 n)):Pure Tryz.prog 107 [x,c] h (.tuple []):=by
 refine Pure.val (bb.tuple aO.nil) ?_
 refine ah.aH (c:=_) Tryz.func107 rfl (by kernel_rfl) (by simp) ?_
 have hw:IntKind.u64.wrap n=n:=by rcases aJ with rfl | rfl<;>decide
 simp only [ao,Nat.reduceEqDiff,reduceCtorEq,Nf,gG,aw,hw]
 refine cK M1 (pM h n aJ) ?_
 simp only [ao,Nat.reduceEqDiff]
 refine cK afS (ajP h x c n n (by omega) (by omega)) ?_
 simp only [ao,o0,Tryz.results107,lv]
 exact aR ⟨rfl,aa.refl _ _⟩
theorem ajR {g:FuncId} {cf:mM→mM→Int} (nc:SWO (ltOf cf)) (nb:∀ a b,ah Tryz.prog g [.agg (eV a),.agg (eV b)] qX fun r _=>r=.int .i64 (cf a b))
  (F8:∀ args w,(callFunc g args).run Tryz.prog w=.ok (.enter g args) w) (h:I) (x:V) (l:List mM) (av:Own h 52 6 x (l.flatMap eV)) (aw:l.length≤2 ^ 40) :
  ah Tryz.prog 107 [x,.func (.func g) [] []] h fun r U=>r=.tuple []∧aa h U (aW x)∧∃ b7:List mM,b7.Perm l∧(b7.Pairwise fun a b=>ltOf cf b a=false)∧Own U 52 6 x (b7.flatMap eV):=by
 refine Mx (by decide) N6 (fun x=>rfl) Uo nc nb
  (fun n enc hk h1 cf nc kp cap d w al hH ar J=>AnyQ.slices_SortFunc Vp 6 Tryz.isAgg52 Tryz.sizeOf52 enc hk h1 cf nc g #[] kp 0 cap d w F8 al hH ar J) (fun aJ=>?_) av (by omega)
 subst aJ
 have hlen:cE Tryz.prog 41 x h=some (.int .i64 0):=by
  rcases av with ⟨rfl | rfl,_⟩ | ⟨i,len,cap,c,ex,rfl,_,_,aw,_⟩
  ·exact B2 Nj
  ·exact Du Nj
  ·have:len=0:=by simp at aw;omega
   subst this
   exact B1 Nj
 exact ajQ h x _ 0 (.inl rfl) hlen
def sf (x y:Int):Int:=if x<y then -1 else if y<x then 1 else 0
theorem Vq (h:I) (x:Int):Pure Tryz.prog 144 [.int .i64 x] h (.bool false):=by
 refine Pure.val (bb.bool _) ?_
 refine ah.aH (c:=_) Tryz.func144 rfl (by kernel_rfl) (by simp) ?_
 have e:(x !=x)=false:=by simp
 simp only [ao,Nat.reduceEqDiff,reduceCtorEq,bd,Tryz.results144,bT]
 exact aR ⟨rfl,aa.refl _ _⟩
theorem Vr (h:I) (x y:Int):Pure Tryz.prog 106 [.int .i64 x,.int .i64 y] h (.int .i64 (sf x y)):=by
 refine Pure.val (bb.int _ _) ?_
 refine ah.aH (c:=_) Tryz.func106 rfl (by kernel_rfl) (by simp) ?_
 simp only [ao,Int.reduceNeg,Nat.reduceEqDiff,reduceCtorEq]
 refine cK IH (Vq h x) ?_
 simp only [ao,Int.reduceNeg,Nat.reduceEqDiff]
 refine cK IH (Vq h y) ?_
 by_cases h1:x<y
 ·have d1:decide (x<y)=true:=decide_eq_true h1
  simp only [ao,Int.reduceNeg,Nat.reduceEqDiff,reduceCtorEq,d1,bd,Tryz.results106,bT]
  exact aR ⟨by rw [sf,if_pos h1],aa.refl _ _⟩
 ·have d1:decide (x<y)=false:=decide_eq_false h1
  by_cases ab:y<x
  ·have d2:decide (y<x)=true:=decide_eq_true ab
   simp only [ao,Int.reduceNeg,Nat.reduceEqDiff,reduceCtorEq,d1,d2,bd,Tryz.results106,bT]
   exact aR ⟨by rw [sf,if_neg h1,if_pos ab],aa.refl _ _⟩
  ·have d2:decide (y<x)=false:=decide_eq_false ab
   simp only [ao,Int.reduceNeg,Nat.reduceEqDiff,reduceCtorEq,d1,d2,bd,Tryz.results106,bT]
   exact aR ⟨by rw [sf,if_neg h1,if_neg ab],aa.refl _ _⟩
theorem ajS (a b:(Int×List dn)) (h:I):Pure Tryz.prog 105 [.agg (b5 a),.agg (b5 b)] h (.int .i64 (sf a.1 b.1)):=by
 refine Pure.val (bb.int _ _) ?_
 refine ah.aH (c:=_) Tryz.func105 rfl (by kernel_rfl) (by simp) ?_
 have fv:(V.agg (b5 a)).cells=some (b5 a):=rfl
 have fQ:(V.agg (b5 b)).cells=some (b5 b):=rfl
 have F9:cW (aD.cells (b5 a) 46 none) 0=some (b5 a):=rfl
 have Ga:cW (aD.cells (b5 b) 46 none) 0=some (b5 b):=rfl
 have tk:hI (some none) (some (b5 a))=some (.int .i64 a.1):=rfl
 have wc:hI (some none) (some (b5 b))=some (.int .i64 b.1):=rfl
 have k2:aa h ((h.push (.cells (b5 a) 46 none)).push (.cells (b5 b) 46 none)) none_:=(aa.push _ _ _).trans' (aa.push _ _ _)
 simp only [ao,Nat.reduceEqDiff,SQ,bz,fv,fQ,F9,Ga,tk,wc]
 refine cK IG (Vr _ a.1 b.1) ?_
 simp only [ao,Nat.reduceEqDiff,bd,Tryz.results105,bT]
 exact aR ⟨rfl,k2⟩
theorem ajT (h:I) (x:V) (l:List (Int×List dn)) (av:Own h 46 3 x (l.flatMap b5)) (aw:l.length≤2 ^ 40) :
  ah Tryz.prog 104 [x,.func (.func 105) [] []] h fun r U=>r=.tuple []∧aa h U (aW x)∧∃ b7:List (Int×List dn),b7.Perm l∧(b7.Pairwise fun a b=>¬b.1<a.1)∧Own U 46 3 x (b7.flatMap b5):=by
 have e:∀ a b:(Int×List dn),ltOf (fun a b:(Int×List dn)=>sf a.1 b.1) a b=decide (a.1<b.1):=fun a b=>by
  unfold ltOf sf
  rw [Bool.eq_iff_iff]
  simp only [decide_eq_true_eq]
  split<;>(try split)<;>omega
 refine (ajM (cf:=fun a b=>sf a.1 b.1) ⟨fun a=>by rw [e];simp,fun a b c h1 ab=>by rw [e] at *;simp at *;omega,fun a b c h1 ab=>by rw [e] at *;simp at *;omega⟩
  (fun a b=>(ajS a b qX).mono fun r U ad=>ad.1) (enters_of Tryz.func105 (by kernel_rfl) rfl) h x l av aw).mono fun r U ⟨h1,ab,b7,az,J,av⟩=>⟨h1,ab,b7,az,J.imp fun {a b} iX=>by rw [e] at iX;simpa using iX,av⟩
theorem ajU (a b:mM) (h:I):Pure Tryz.prog 108 [.agg (eV a),.agg (eV b)] h (.int .i64 (sf a.t b.t)):=by
 refine Pure.val (bb.int _ _) ?_
 refine ah.aH (c:=_) Tryz.func108 rfl (by kernel_rfl) (by simp) ?_
 have fv:(V.agg (eV a)).cells=some (eV a):=rfl
 have fQ:(V.agg (eV b)).cells=some (eV b):=rfl
 have F9:cW (aD.cells (eV a) 52 none) 0=some (eV a):=rfl
 have Ga:cW (aD.cells (eV b) 52 none) 0=some (eV b):=rfl
 have tk:hI (some none) (some (eV a))=some (.int .i64 a.t):=rfl
 have wc:hI (some none) (some (eV b))=some (.int .i64 b.t):=rfl
 have k2:aa h ((h.push (.cells (eV a) 52 none)).push (.cells (eV b) 52 none)) none_:=(aa.push _ _ _).trans' (aa.push _ _ _)
 simp only [ao,Nat.reduceEqDiff,agX,bz,fv,fQ,F9,Ga,tk,wc]
 refine cK IG (Vr _ a.t b.t) ?_
 simp only [ao,Nat.reduceEqDiff,bd,Tryz.results108,bT]
 exact aR ⟨rfl,k2⟩
theorem ajV (h:I) (x:V) (l:List mM) (av:Own h 52 6 x (l.flatMap eV)) (aw:l.length≤2 ^ 40) :
  ah Tryz.prog 107 [x,.func (.func 108) [] []] h fun r U=>r=.tuple []∧aa h U (aW x)∧∃ b7:List mM,b7.Perm l∧(b7.Pairwise fun a b=>¬b.t<a.t)∧Own U 52 6 x (b7.flatMap eV):=by
 have e:∀ a b:mM,ltOf (fun a b:mM=>sf a.t b.t) a b=decide (a.t<b.t):=fun a b=>by
  unfold ltOf sf
  rw [Bool.eq_iff_iff]
  simp only [decide_eq_true_eq]
  split<;>(try split)<;>omega
 refine (ajR (cf:=fun a b=>sf a.t b.t) ⟨fun a=>by rw [e];simp,fun a b c h1 ab=>by rw [e] at *;simp at *;omega,fun a b c h1 ab=>by rw [e] at *;simp at *;omega⟩
  (fun a b=>(ajU a b qX).mono fun r U ad=>ad.1) (enters_of Tryz.func108 (by kernel_rfl) rfl) h x l av aw).mono fun r U ⟨h1,ab,b7,az,J,av⟩=>⟨h1,ab,b7,az,J.imp fun {a b} iX=>by rw [e] at iX;simpa using iX,av⟩
end Go.Proofs.YtceanabgcnieeaaGreatDoor.Pk
