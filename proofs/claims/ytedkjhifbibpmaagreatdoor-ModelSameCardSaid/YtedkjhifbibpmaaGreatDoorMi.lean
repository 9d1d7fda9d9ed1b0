/-
  What functions of the program do, told of abstract states. Conditions: as each theorem says.
-/
import Derived.Test.YtedkjhifbibpmaaGreatDoorMh
import Derived.Test.YtedkjhifbibpmaaGreatDoorMa
import Derived.Test.YtedkjhifbibpmaaGreatDoorAbD
import Derived.Lib.LaidTab
import Derived.Lib.LaidU8
import Derived.Stop.LaidErr
set_option linter.unusedVariables false
set_option linter.unusedSimpArgs false
set_option maxHeartbeats 4000000
set_option maxRecDepth 10000
namespace Go.Proofs.YtedkjhifbibpmaaGreatDoor.Pk
open Go Go.Proofs Go.Proofs.YtedkjhifbibpmaaGreatDoor.Ab
def kX (c:aZ):bW→List (Int×ai)→Option bW
 | s,[]=>some s
 | s,p::r=>if 0≤p.1∧(nA c s p.1.toNat p.2).2=0 then kX c (nA c s p.1.toNat p.2).1 r else none
theorem O5 {l:List bu} {P:List Int} {part:Int} {y:Int}:∀ {i:Nat},y ∈ jw l P part i→∃ u,u<i∧y=(u:Int)∧pR l P part u=true
 | 0,h=>by simp [jw] at h
 | i+1,h=>by
  unfold jw at h
  rcases List.mem_append.1 h with h | h
  ·obtain ⟨u,h1,ae,aA⟩:=O5 h
   exact ⟨u,by omega,ae,aA⟩
  ·split at h
   ·rename_i hi
    simp at h
    exact ⟨i,by omega,h,hi⟩
   ·simp at h
theorem Sk {c:aZ} (o:fr c) {y:Int} (h:c.ins.contains y=true):∃ u:Nat,u<c.l.length∧y=(u:Int)∧pR c.l c.P c.part u=true:=by
 obtain ⟨u,h1,ae,aA⟩:=O5 (List.contains_iff_mem.1 h)
 exact ⟨u,by have:=Gm o.wP;omega,ae,aA⟩
theorem Qy {k n:Int} {K:df} (h:mO k n=some K):k=6∨k=7∨k=8:=by
 unfold mO at h
 split at h
 ·omega
 ·split at h
  ·omega
  ·split at h
   ·omega
   ·cases h
theorem Mx {c:aZ} {u:Nat} {K:df} (h:c.cB u=some K):∃ x,c.l[u]?=some x∧mO x.kind x.n=some K:=by
 unfold aZ.cB at h
 split at h
 ·split at h
  ·rename_i x ak;exact ⟨x,ak,h⟩
  ·cases h
 ·cases h
theorem ZA {c:aZ} {u:Nat} {K:df} (h:c.cB u=some K):c.ins.contains (u:Int)=false:=by
 cases aF:c.ins.contains (u:Int)
 ·rfl
 exfalso
 obtain ⟨w,_,e,hw⟩:=O5 (List.contains_iff_mem.1 aF)
 have e:u=w:=by omega
 subst e
 obtain ⟨x,ak,hk⟩:=Mx h
 have h1:=Qy hk
 have ae:fE c.l (u:Int)=x.kind:=by unfold fE;rw [Int.toNat_natCast,ak];rfl
 unfold pR at hw
 rw [ae] at hw
 simp only [Bool.or_eq_true,Bool.and_eq_true,beq_iff_eq] at hw
 omega
theorem QN {c:aZ}:∀ (ps:List (Int×ai)) (ms:Seen) (st wR:Nat→List ai),lY c st ps=some wR→kX c ⟨ms,st⟩ ps=some ⟨ms,wR⟩
 | [],ms,st,wR,h=>by
  have:st=wR:=by simpa [lY] using h
  rw [this];rfl
 | p::r,ms,st,wR,h=>by
  unfold lY at h
  split at h
  case h_2=>cases h
  rename_i K bE
  split at h
  case isFalse=>cases h
  rename_i h0
  have bS:=ZA bE
  have bb:nA c ⟨ms,st⟩ p.1.toNat p.2=(⟨ms,nn st p.1.toNat (fy K (st p.1.toNat) p.2).1⟩,(fy K (st p.1.toNat) p.2).2):=by
   unfold nA
   rw [if_neg (by rw [bS];decide),bE]
   rfl
  unfold kX
  rw [bb,if_pos h0]
  exact QN r ms _ wR h
theorem ail {cl:Nat} {l:Seen} {v t:Int} (h:(dh l v t).1=false):dX cl l v t=l:=by
 unfold dh at h
 unfold dX
 cases aB:db l v with
 | none=>rfl
 | some g=>
  rw [aB] at h
  simp only at h⊢
  split
  ·rfl
  ·rename_i h1
   rw [if_neg h1] at h
   split
   ·rfl
   ·rename_i ae
    rw [if_neg ae] at h
    cases h
theorem akN {c:aZ} (o:fr c) {s:bW} (l1:∀ u K,c.cB u=some K→cz K (s.st u)) (v:Int) (r:Rec) :
  ∃ ps:List (Int×ai),(stepT c s v r).1.2.verts=ps.map (·.1)∧(stepT c s v r).1.2.chgs=ps.map (·.2)∧kX c s ps=some (stepT c s v r).1.1:=by
 cases bS:c.ins.contains v
 ·have fT:stepT c s v r=((s,dS.none),6):=by unfold stepT;rw [if_pos bS]
  rw [fT]
  exact ⟨[],rfl,rfl,rfl⟩
 by_cases he:(dh s.ms v r.t).2≠0
 ·have fT:stepT c s v r=(mS v r (dh s.ms v r.t).2 (s,dS.none),0):=by unfold stepT;rw [if_neg (by rw [bS];decide),if_pos he]
  rw [fT]
  exact ⟨[],rfl,rfl,rfl⟩
 obtain ⟨gi,gH⟩:∃ gi:bL,gi=({ s with ms:=dX c.ins.length s.ms v r.t },dS.none):=⟨_,rfl⟩
 obtain ⟨gv,jD⟩:∃ gv:bL,gv=(if (dh s.ms v r.t).1=true then iF v [lU c r.t] gi else gi):=⟨_,rfl⟩
 have fT:stepT c s v r=((List.range c.l.length).foldl (fun x u=>cn c u x) (mj c 24 v r gv),0):=by
  unfold stepT
  rw [if_neg (by rw [bS];decide),if_neg he,jD,gH]
 rw [fT]
 have i0:Inv c gi:=by rw [gH];exact ⟨Nat.zero_le _,l1⟩
 have t1:bT c 2 gi gv:=by
  rw [jD];split
  ·exact y5 c v [lU c r.t] gi i0
  ·exact (bT.refl i0).mono (by omega)
 have s1:gv.1=gi.1:=by rw [jD];split<;>rfl
 have t2:=xu o.len 24 v r gv t1.inv
 have t3:=Dg (c:=c) (j:=3000) (fun x u=>cn c u x) (List.range c.l.length) (fun u _=>y7) _ t2.inv
 have T:eW c gv ((List.range c.l.length).foldl (fun x u=>cn c u x) (mj c 24 v r gv)):=(Xx o.len 24 v r gv t1.inv).trans (Jf (c:=c) (j:=3000) (fun x u=>cn c u x) (List.range c.l.length) (fun u _=>aik) (fun u _=>y7) _ t2.inv)
 have td:((List.range c.l.length).foldl (fun x u=>cn c u x) (mj c 24 v r gv)).1.ms=gi.1.ms:=t3.ms.trans (t2.ms.trans (by rw [s1]))
 generalize (List.range c.l.length).foldl (fun x u=>cn c u x) (mj c 24 v r gv)=Y at *
 obtain ⟨q,cw,a2,a3⟩:=T
 have gF:Y.1=⟨gi.1.ms,Y.1.st⟩:=by rw [←td]
 have a4:=QN q gi.1.ms gv.1.st Y.1.st a3
 rw [←gF,s1] at a4
 cases av:(dh s.ms v r.t).1
 ·rw [av,if_neg (by decide)] at jD
  subst jD
  refine ⟨q,by rw [cw,gH];rfl,by rw [a2,gH];rfl,?_⟩
  rw [←a4,gH]
  simp only [ail av]
 ·rw [av,if_pos rfl] at jD
  subst jD
  obtain ⟨u,hu,e,_⟩:=Sk o bS
  refine ⟨(v,lU c r.t)::q,by rw [cw,gH];rfl,by rw [a2,gH];rfl,?_⟩
  have bb:nA c s v.toNat (lU c r.t)=({ s with ms:=dX c.ins.length s.ms v r.t },(dh s.ms v r.t).2):=by
   unfold nA
   rw [e,Int.toNat_natCast,←e,if_pos bS]
   exact if_pos rfl
  unfold kX
  simp only [bb]
  rw [if_pos ⟨by omega,by simpa using he⟩]
  rw [gH] at a4
  exact a4
theorem Y6 {c:aZ} {s:bW} (hk:rb c s) (v t:Int):rb c { s with ms:=dX c.ins.length s.ms v t }:=by
 refine ⟨Eq.trans ?_ hk.1,OX hk.2⟩
 show (dX c.ins.length s.ms v t).map (·.2.1)=s.ms.map (·.2.1)
 unfold dX
 cases aB:db s.ms v with
 | none=>rfl
 | some g=>
  simp only
  split
  ·rfl
  ·split
   ·rfl
   ·generalize c.ins.length=cl
    have key:∀ l:Seen,(db l v).isSome→(eB cl l v t).map (·.2.1)=l.map (·.2.1):=by
     intro l
     induction l with
     | nil=>intro h;simp [db] at h
     | cons e r ih=>
      intro h
      unfold eB
      by_cases hk:e.2.1=v
      ·rw [if_pos hk];simp [hk]
      ·rw [if_neg hk,List.map_cons,List.map_cons,ih]
       unfold db at h⊢
       rw [List.find?_cons,show (e.2.1==v)=false by simpa using hk] at h
       exact h
    exact key _ (by rw [aB];rfl)
theorem Xy {c:aZ} (o:fr c) {s:bW} (l1:∀ u K,c.cB u=some K→cz K (s.st u)) (v:Int) (r:Rec) :
  (stepT c s v r).1.1.ms=s.ms∨(stepT c s v r).1.1.ms=dX c.ins.length s.ms v r.t:=by
 cases bS:c.ins.contains v
 ·have fT:stepT c s v r=((s,dS.none),6):=by unfold stepT;rw [if_pos bS]
  rw [fT]
  exact .inl rfl
 by_cases he:(dh s.ms v r.t).2≠0
 ·have fT:stepT c s v r=(mS v r (dh s.ms v r.t).2 (s,dS.none),0):=by unfold stepT;rw [if_neg (by rw [bS];decide),if_pos he]
  rw [fT]
  exact .inl rfl
 obtain ⟨gi,gH⟩:∃ gi:bL,gi=({ s with ms:=dX c.ins.length s.ms v r.t },dS.none):=⟨_,rfl⟩
 obtain ⟨gv,jD⟩:∃ gv:bL,gv=(if (dh s.ms v r.t).1=true then iF v [lU c r.t] gi else gi):=⟨_,rfl⟩
 have fT:stepT c s v r=((List.range c.l.length).foldl (fun x u=>cn c u x) (mj c 24 v r gv),0):=by
  unfold stepT
  rw [if_neg (by rw [bS];decide),if_neg he,jD,gH]
 rw [fT]
 have i0:Inv c gi:=by rw [gH];exact ⟨Nat.zero_le _,l1⟩
 have t1:bT c 2 gi gv:=by
  rw [jD];split
  ·exact y5 c v [lU c r.t] gi i0
  ·exact (bT.refl i0).mono (by omega)
 have t2:=xu o.len 24 v r gv t1.inv
 have t3:=Dg (c:=c) (j:=3000) (fun x u=>cn c u x) (List.range c.l.length) (fun u _=>y7) _ t2.inv
 refine .inr (t3.ms.trans (t2.ms.trans (t1.ms.trans ?_)))
 rw [gH]
theorem O6 {c:aZ} (o:fr c) {s:bW} (hk:rb c s) (l1:∀ u K,c.cB u=some K→cz K (s.st u)) (v:Int) (r:Rec) :
  rb c (stepT c s v r).1.1∧(∀ u K,c.cB u=some K→cz K ((stepT c s v r).1.1.st u))∧sz (stepT c s v r).1≤2 ^ 30:=by
 have h1:rb c (stepT c s v r).1.1:=by
  rcases Xy o l1 v r with h | h
  ·exact ⟨by rw [h];exact hk.1,by rw [h];exact hk.2⟩
  ·have:=Y6 hk v r.t
   exact ⟨by rw [h];exact this.1,by rw [h];exact this.2⟩
 refine ⟨h1,?_⟩
 cases bS:c.ins.contains v
 ·have fT:stepT c s v r=((s,dS.none),6):=by unfold stepT;rw [if_pos bS]
  rw [fT]
  exact ⟨l1,by simp [sz,dS.none]⟩
 by_cases he:(dh s.ms v r.t).2≠0
 ·have fT:stepT c s v r=(mS v r (dh s.ms v r.t).2 (s,dS.none),0):=by unfold stepT;rw [if_neg (by rw [bS];decide),if_pos he]
  rw [fT]
  exact ⟨l1,by simp [sz,dS.none,mS]⟩
 obtain ⟨gi,gH⟩:∃ gi:bL,gi=({ s with ms:=dX c.ins.length s.ms v r.t },dS.none):=⟨_,rfl⟩
 obtain ⟨gv,jD⟩:∃ gv:bL,gv=(if (dh s.ms v r.t).1=true then iF v [lU c r.t] gi else gi):=⟨_,rfl⟩
 have fT:stepT c s v r=((List.range c.l.length).foldl (fun x u=>cn c u x) (mj c 24 v r gv),0):=by
  unfold stepT
  rw [if_neg (by rw [bS];decide),if_neg he,jD,gH]
 rw [fT]
 have i0:Inv c gi:=by rw [gH];exact ⟨Nat.zero_le _,l1⟩
 have z0:sz gi=4000000:=by rw [gH];simp [sz,dS.none]
 have t1:bT c 2 gi gv:=by
  rw [jD];split
  ·exact y5 c v [lU c r.t] gi i0
  ·exact (bT.refl i0).mono (by omega)
 have t2:=xu o.len 24 v r gv t1.inv
 have t3:=Dg (c:=c) (j:=3000) (fun x u=>cn c u x) (List.range c.l.length) (fun u _=>y7) _ t2.inv
 refine ⟨t3.inv.wf,?_⟩
 have ar:=t1.sz
 have aT:=t2.sz
 have cg:sz ((List.range c.l.length).foldl (fun x u=>cn c u x) (mj c 24 v r gv))≤sz (mj c 24 v r gv)+3000 * (List.range c.l.length).length:=t3.sz
 have:=o.len
 rw [List.length_range] at cg
 have:3000 * c.l.length≤3000 * 24:=Nat.mul_le_mul_left _ this
 show sz ((List.range c.l.length).foldl (fun x u=>cn c u x) (mj c 24 v r gv))≤2 ^ 30
 omega
def fe (f:Int→Int) (L:Seen):Seen:=L.map fun e=>(e.1,e.2.1,f e.2.1)
theorem LN {f g:Int→Int} {L:Seen} (h:∀ z ∈ L.map (·.2.1),f z=g z):fe f L=fe g L:=by
 unfold fe
 refine List.map_congr_left fun e he=>?_
 rw [h _ (List.mem_map.2 ⟨e,he,rfl⟩)]
theorem O7 (f:Int→Int) (v:Int):∀ L:Seen,db (fe f L) v=if v ∈ L.map (·.2.1) then some (f v) else none
 | []=>rfl
 | e::L=>by
  have ih:=O7 f v L
  unfold db at ih⊢
  rw [fe,List.map_cons,List.find?_cons]
  by_cases h:e.2.1=v
  ·subst h;simp
  ·have h1:(e.2.1==v)=false:=by simpa using h
   have ae:¬v=e.2.1:=fun U=>h U.symm
   show ((match e.2.1==v with | true=>some (e.1,e.2.1,f e.2.1) | false=>List.find? (fun e=>e.2.1==v) (fe f L)).map (fun e:Nat×Int×Int=>e.2.2))=_
   rw [h1]
   show (List.find? (fun e=>e.2.1==v) (fe f L)).map (fun e:Nat×Int×Int=>e.2.2)=_
   rw [ih]
   have aA:v ∈ (e::L).map (fun x:Nat×Int×Int=>x.2.1)↔v ∈ L.map (fun x:Nat×Int×Int=>x.2.1):=by
    rw [List.map_cons,List.mem_cons]
    exact ⟨fun U=>U.resolve_left ae,.inr⟩
   by_cases bk:v ∈ L.map (fun x:Nat×Int×Int=>x.2.1)
   ·rw [if_pos bk,if_pos (aA.2 bk)]
   ·rw [if_neg bk,if_neg fun U=>bk (aA.1 U)]
theorem QO (cl:Nat) (f:Int→Int) (v t:Int):∀ L:Seen,v ∈ L.map (·.2.1)→(L.map (·.2.1)).Nodup→eB cl (fe f L) v t=fe (fun z=>if z=v then t else f z) L
 | [],h,_=>by simp at h
 | e::L,h,aG=>by
  rw [List.map_cons,List.nodup_cons] at aG
  show eB cl ((e.1,e.2.1,f e.2.1)::fe f L) v t=(e.1,e.2.1,if e.2.1=v then t else f e.2.1)::fe (fun z=>if z=v then t else f z) L
  unfold eB
  by_cases he:e.2.1=v
  ·rw [if_pos he,if_pos he]
   have:fe f L=fe (fun z=>if z=v then t else f z) L:=LN fun z b4=>by
    rw [if_neg]
    intro U
    subst U
    exact aG.1 (he ▸ b4)
   rw [←this]
   show (e.1,v,t)::fe f L=(e.1,e.2.1,t)::fe f L
   rw [he]
  ·rw [if_neg he,if_neg he]
   rw [QO cl f v t L (by
    rw [List.map_cons] at h
    rcases List.mem_cons.1 h with h | h
    ·exact absurd h.symm he
    ·exact h) aG.2]
theorem aim (cl:Nat) (f:Int→Int) (v t:Int) {L:Seen} (aG:(L.map (·.2.1)).Nodup):∃ g,dX cl (fe f L) v t=fe g L:=by
 unfold dX
 rw [O7]
 by_cases aN:v ∈ L.map (·.2.1)
 ·rw [if_pos aN]
  simp only
  split
  ·exact ⟨f,rfl⟩
  ·split
   ·exact ⟨f,rfl⟩
   ·exact ⟨_,QO cl f v t L aN aG⟩
 ·rw [if_neg aN]
  exact ⟨f,rfl⟩
theorem Jg:∀ (zs:List Int) (k:Nat),(jx k zs).map (·.2.1)=zs∧fe (fun _=>-1) (jx k zs)=jx k zs
 | [],k=>⟨rfl,rfl⟩
 | z::r,k=>by
  obtain ⟨a,b⟩:=Jg r (k+1)
  refine ⟨?_,?_⟩
  ·show z::(jx (k+1) r).map (·.2.1)=z::r
   rw [a]
  ·show (k,z,(-1:Int))::fe (fun _=>-1) (jx (k+1) r)=(k,z,-1)::jx (k+1) r
   rw [b]
def w2 (c:aZ):Seen:=jx 0 c.ins
theorem QP (c:aZ):(w2 c).map (·.2.1)=c.ins:=(Jg c.ins 0).1
theorem ain (c:aZ):c.ins.Nodup:=(m9 (LK c)).1.imp fun h=>by omega
theorem ZB (c:aZ):((w2 c).map (·.2.1)).Nodup:=by rw [QP];exact ain c
def Cm (c:aZ) (s:bW):Prop:=∃ f,s.ms=fe f (w2 c)
theorem aio (c:aZ):Cm c (bW.new c):=⟨fun _=>-1,(Jg c.ins 0).2.symm⟩
theorem aip {c:aZ} (o:fr c) {s:bW} (ad:Cm c s) (l1:∀ u K,c.cB u=some K→cz K (s.st u)) (v:Int) (r:Rec):Cm c (stepT c s v r).1.1:=by
 obtain ⟨f,aC⟩:=ad
 rcases Xy o l1 v r with h | h
 ·exact ⟨f,by rw [h,aC]⟩
 ·rw [aC] at h
  obtain ⟨g,aB⟩:=aim c.ins.length f v r.t (ZB c)
  exact ⟨g,by rw [h,aB]⟩
def Dv (c:aZ) (s b7:bW):Prop:=s.ms=b7.ms∧∀ u K,c.cB u=some K→s.st u=b7.st u
def yt (c:aZ) (f:Int→Int) (st:Nat→List ai) (n:Nat):bW:=⟨fe (fun z=>if z<(n:Int) then f z else -1) (w2 c),fun u=>if u<n then st u else []⟩
theorem aiq (c:aZ) (f:Int→Int) (st:Nat→List ai) (n:Nat):(yt c f st (n+1)).ms=fe (fun z=>if z<((n+1:Nat):Int) then f z else -1) (w2 c):=rfl
theorem asj (c:aZ) (f:Int→Int) (st:Nat→List ai):Dv c (bW.new c) (yt c f st 0):=by
 refine ⟨?_,fun u K _=>by simp [bW.new,yt]⟩
 show w2 c=fe (fun z=>if z<((0:Nat):Int) then f z else -1) (w2 c)
 refine ((Jg c.ins 0).2.symm).trans (LN fun z b4=>?_)
 have BT:z ∈ c.ins:=by rw [←(Jg c.ins 0).1];exact b4
 have:=(m9 (LK c)).2 z BT
 show (-1:Int)=if z<((0:Nat):Int) then f z else -1
 rw [if_neg (by omega)]
theorem asm {c:aZ} (o:fr c) {f:Int→Int} {s:bW} (aC:s.ms=fe f (w2 c)):Dv c (yt c f s.st c.l.length) s:=by
 refine ⟨?_,fun u K bE=>?_⟩
 ·rw [aC]
  show fe (fun z=>if z<(c.l.length:Int) then f z else -1) (w2 c)=_
  refine LN fun z b4=>?_
  rw [QP] at b4
  obtain ⟨u,hu,e,_⟩:=Sk o (List.contains_iff_mem.2 b4)
  show (if z<(c.l.length:Int) then f z else -1)=f z
  rw [if_pos (by omega)]
 ·obtain ⟨x,ak,_⟩:=Mx bE
  have:=(List.getElem?_eq_some_iff.1 ak).1
  show (if u<c.l.length then s.st u else [])=s.st u
  rw [if_pos this]
theorem asl {c:aZ} {a:bW} {f:Int→Int} (aC:a.ms=fe f (w2 c)) (gk:rb c a) (atD:∀ u K,c.cB u=some K→cz K (a.st u)) (n:Nat) {s:bW} (ad:Dv c s (yt c f a.st n)) :
  ∃ b7,kX c s ((zS c a n).map fun x=>((n:Int),x))=some b7∧Dv c b7 (yt c f a.st (n+1)):=by
 obtain ⟨h1,ae⟩:=ad
 have h1:s.ms=fe (fun z=>if z<(n:Int) then f z else -1) (w2 c):=h1
 have stx:∀ u K,c.cB u=some K→u≠n→s.st u=(yt c f a.st (n+1)).st u:=fun u K bE aG=>by
  rw [ae u K bE]
  show (if u<n then a.st u else [])=if u<n+1 then a.st u else []
  by_cases hu:u<n
  ·rw [if_pos hu,if_pos (by omega)]
  ·rw [if_neg hu,if_neg (by omega)]
 cases bS:c.ins.contains (n:Int)
 ·have tL:∀ z ∈ (w2 c).map (·.2.1),z≠(n:Int):=fun z b4 U=>by
   rw [QP] at b4
   subst U
   rw [List.contains_iff_mem.2 b4] at bS
   cases bS
  have td:s.ms=(yt c f a.st (n+1)).ms:=by
   rw [h1,aiq]
   refine LN fun z b4=>?_
   have:=tL z b4
   by_cases hu:z<(n:Int)
   ·rw [if_pos hu,if_pos (by omega)]
   ·rw [if_neg hu,if_neg (by omega)]
  have gw:zS c a n=(match c.cB n with | some K=>K6 K (a.st n) | none=>[]):=by unfold zS;rw [if_neg (by rw [bS];decide)];rfl
  rw [gw]
  cases bE:c.cB n with
  | none=>exact ⟨s,rfl,td,fun u K wS=>stx u K wS fun U=>by rw [U,bE] at wS;cases wS⟩
  | some K=>
   have aM:=(atD n K bE).lists
   have gz:s.st n=[]:=by rw [ae n K bE];show (if n<n then a.st n else [])=[];rw [if_neg (by omega)]
   rw [←gz] at aM
   have aU:=QM bE (K6 K (a.st n)) s.st (a.st n) aM
   have bb:=QN _ s.ms s.st _ aU
   refine ⟨⟨s.ms,nn s.st n (a.st n)⟩,bb,td,fun u uY wS=>?_⟩
   by_cases hu:u=n
   ·subst hu
    show (if u=u then a.st u else s.st u)=if u<u+1 then a.st u else []
    rw [if_pos rfl,if_pos (by omega)]
   ·show (if u=n then a.st n else s.st u)=_
    rw [if_neg hu]
    exact stx u uY wS hu
 ·have gh:(n:Int) ∈ (w2 c).map (·.2.1):=by rw [QP];exact List.contains_iff_mem.1 bS
  have amo:vW a.ms n=f n:=by unfold vW;rw [aC,O7,if_pos gh];rfl
  have lh:-1≤f n∧f n≤1099511627776:=by
   obtain ⟨e,he,aT⟩:=List.mem_map.1 gh
   have:=gk.2 (e.1,e.2.1,f e.2.1) (by rw [aC];exact List.mem_map.2 ⟨e,he,rfl⟩)
   rw [←aT]
   exact this
  have gw:zS c a n=if 0≤f n then [lU c (f n)] else []:=by unfold zS;rw [if_pos bS,amo]
  rw [gw]
  have cR:∀ u K,c.cB u=some K→s.st u=(yt c f a.st (n+1)).st u:=fun u K bE=>stx u K bE fun U=>by
   have:=ZA bE
   rw [U,bS] at this
   cases this
  by_cases h0:0≤f n
  ·rw [if_pos h0]
   have aB:db s.ms (n:Int)=some (-1):=by rw [h1,O7,if_pos gh,if_neg (by omega)]
   have e1:(dh s.ms n (f n)).2=0:=by
    unfold dh;rw [aB];simp only
    rw [if_neg (by omega),if_neg (by omega)]
   have fT:dX c.ins.length s.ms n (f n)=(yt c f a.st (n+1)).ms:=by
    unfold dX;rw [aB];simp only
    rw [if_neg (by omega),if_neg (by omega),h1,QO _ _ _ _ _ gh (ZB c),aiq]
    refine LN fun z b4=>?_
    by_cases PE:z=(n:Int)
    ·subst PE
     rw [if_pos rfl,if_pos (by omega)]
    ·rw [if_neg PE]
     by_cases hu:z<(n:Int)
     ·rw [if_pos hu,if_pos (by omega)]
     ·rw [if_neg hu,if_neg (by omega)]
   have bb:nA c s n (lU c (f n))=({ s with ms:=dX c.ins.length s.ms n (f n) },(dh s.ms n (f n)).2):=by
    unfold nA
    rw [if_pos bS]
    exact if_pos rfl
   refine ⟨{ s with ms:=dX c.ins.length s.ms n (f n) },?_,fT,cR⟩
   simp only [List.map_cons,List.map_nil,kX,Int.toNat_natCast,bb]
   rw [if_pos ⟨by omega,e1⟩]
  ·rw [if_neg h0]
   refine ⟨s,rfl,?_,cR⟩
   rw [h1,aiq]
   refine LN fun z b4=>?_
   by_cases PE:z=(n:Int)
   ·subst PE
    rw [if_neg (by omega),if_pos (by omega)]
    omega
   ·by_cases hu:z<(n:Int)
    ·rw [if_pos hu,if_pos (by omega)]
    ·rw [if_neg hu,if_neg (by omega)]
theorem dA.eqv {h:J} {aJ:cM} {id m:Nat} {b:At} {c:aZ} {s b7:bW} (k:dA h aJ id m b c s) (e:Dv c s b7):dA h aJ id m b c b7 :=
 ⟨k.lt,k.get,k.own,by rw [←e.1];exact k.marks,k.e3,k.iM,k.map,k.jN,fun u K bE=>by
  have:=k.some u K bE
  rw [e.2 u K bE] at this
  exact this,k.none⟩
theorem air:∀ (s:Nat) (e:bF) (h:J),dF e=s→fa e→Pure Tryz.prog 64 [.agg (aq e)] h (.int .i64 (IntKind.i64.wrap (dF e:Nat))):=by
 intro s
 induction s using Nat.strongRecOn with
 | _ s ih=>
 intro e h ad ba
 obtain ⟨o,n,ax⟩:=e
 refine Pure.val (bh.int _ _) ?_
 have hlen:=ba.len
 simp only [bF.ax] at hlen
 refine ab.ao (c:=_) Tryz.func64 rfl (by kernel_rfl) (by simp) ?_
 have aF:(V.agg (aq (.mk o n ax))).cells=some (aq (.mk o n ax)):=rfl
 have hS:da (aV.cells (aq (.mk o n ax)) 27 none) 2=some [.ag ax.length (ax.flatMap aq)]:=by rw [hT];rfl
 simp only [aa,aF]
 refine aP.bG (α:=Nat) (fun i f h'=>f 1=.ptr h.n 0∧f 4=.int .i64 (i:Nat)∧f 3=.int .i64 (IntKind.i64.wrap ((dO (ax.take i)+1:Nat):Int))∧i≤ax.length∧h'=h.push (.cells (aq (.mk o n ax)) 27 none)) (fun i=>ax.length - i) 0 ⟨rfl,rfl,rfl,Nat.zero_le _,rfl⟩ ?_
 rintro i f h' ⟨f1,f4,f3,hi,rfl⟩
 refine dw (by kernel_rfl) ?_
 by_cases aH:i<ax.length
 rotate_left
 ·have c3:decide ((i:Int)<((ax.length:Nat):Int))=false:=by simp only [decide_eq_false_iff_not];omega
  rw [List.take_of_length_le (by omega)] at f3
  simp only [aa,Nat.reduceEqDiff,nE,tw,oV,f1,f4,f3,hS,c3,aI,Tryz.results64,ac]
  exact au ⟨by simp [dF],I.push _ _ _⟩
 ·have c3:decide ((i:Int)<((ax.length:Nat):Int))=true:=by simp only [decide_eq_true_eq];omega
  have eo:=DM (kk:=.i64) aH
  have bz:=TH aH
  have u0:ax[i] ∈ (bF.mk o n ax).ax:=List.getElem_mem aH
  have hC:=MV _ u0
  have AG:=ba.yA _ u0
  generalize ax[i]=A at *
  have ib:∀ (q:List V),cX (some (some 3)) (some (aq A++q))=some (.agg (aq A)):=fun q=>lC (na A)
  have b0:IntKind.i64.wrap (((i:Nat):Int)+1)=((i+1:Nat):Int):=by rw [Go.IntWalk.i64_in _ (by omega)];omega
  have la:IntKind.i64.wrap (IntKind.i64.wrap ((dO (ax.take i)+1:Nat):Int)+IntKind.i64.wrap ((dF A:Nat):Int))=IntKind.i64.wrap ((dO (ax.take (i+1))+1:Nat):Int):=by rw [wrap_add,bz];congr 1;omega
  simp only [aa,Nat.reduceEqDiff,nE,tw,oV,eG,f1,f4,f3,hS,c3,eo,ib]
  refine bB S5 (ih (dF A) (by omega) A _ rfl AG) ?_
  simp only [aa,Nat.reduceEqDiff,f4,b0,la]
  exact au ⟨i+1,⟨f1,rfl,rfl,by omega,rfl⟩,by omega⟩
theorem ais (o:Int×Rec) {xo yo:Operand}:ev Tryz.prog .neq 79 xo yo (.agg (dg o)) (.agg (dg o))=some (.bool false):=by
 have h:pr [([0],false),([0,0,0],true)] (dg o) (dg o)=some true:=by simp [pr,dg,aD,hv]
 have:=abZ (xo:=xo) (yo:=yo) adP h
 simpa using this
theorem amp (a:List (Int×Rec)) (h:J) (a6:a.length≤2 ^ 60):Pure Tryz.prog 80 [.ag a.length (a.flatMap dg),.ag a.length (a.flatMap dg)] h (.bool true):=by
 refine Pure.val (bh.bool _) ?_
 refine ab.ao (c:=_) Tryz.func80 rfl (by kernel_rfl) (by simp) ?_
 have bd:(((a.length:Nat):Int) !=((a.length:Nat):Int))=false:=by simp
 simp only [aa,Nat.reduceEqDiff,reduceCtorEq,ls]
 refine aP.bG (α:=Nat) (fun i f h'=>f 0=.ag a.length (a.flatMap dg)∧f 1=.ag a.length (a.flatMap dg)∧f 5=.int .i64 (i:Nat)∧I h h' none_∧i≤a.length) (fun i=>a.length - i) 0
  ⟨rfl,rfl,rfl,I.refl _ _,Nat.zero_le _⟩ ?_
 rintro i f h1 ⟨f0,f1,f5,bo,hi⟩
 refine dw (by kernel_rfl) ?_
 by_cases aH:i<a.length
 rotate_left
 ·have c3:decide ((i:Int)<((a.length:Nat):Int))=false:=decide_eq_false (by omega)
  simp only [aa,Nat.reduceEqDiff,reduceCtorEq,ls,f0,f5,c3,aI,Tryz.results80,ac]
  exact au ⟨rfl,bo⟩
 ·have c3:decide ((i:Int)<((a.length:Nat):Int))=true:=decide_eq_true (by omega)
  have c9:IntKind.i64.wrap ((i:Int)+1)=((i+1:Nat):Int):=kf aH (by omega)
  have eo:ir Tryz.prog 64 (.ag a.length (a.flatMap dg)) (.int .i64 (i:Int))=some (.at (dg a[i]++(a.drop (i+1)).flatMap dg)):=oJ zR aH H5
  have ib:∀ (x:Int×Rec) (q:List V),cX (some (some 4)) (some (dg x++q))=some (.agg (dg x)):=fun x q=>lC (zR x)
  simp only [aa,Nat.reduceEqDiff,reduceCtorEq,ls,f0,f5,c3]
  generalize a[i]=A at *
  have eL:∀ xo yo,ev Tryz.prog .neq 79 xo yo (.agg (dg A)) (.agg (dg A))=some (.bool false):=fun xo yo=>ais A
  refine aP.aY none_ [] (.q 0 (.q 1 (.q 2 (.q 3 (.q 4 (.q 5 (.q 6 (.q 7 (.q 8 .done))))))))) (by kernel_rfl) (by kernel_rfl) (by kernel_rfl) ?_
  simp only [aa,bD,Nat.reduceEqDiff,reduceCtorEq,adA,f0,f1,f5,eo,eL,ib,c9]
  exact au ⟨i+1,⟨f0,f1,rfl,bo,by omega⟩,by omega⟩
theorem atE (o:Int×Rec×Int) {xo yo:Operand}:ev Tryz.prog .neq 81 xo yo (.agg (co o)) (.agg (co o))=some (.bool false):=by
 have h:pr [([0],false),([0,0,0],true),([0],false)] (co o) (co o)=some true:=by simp [pr,co,aD,hv]
 have:=abZ (xo:=xo) (yo:=yo) as6 h
 simpa using this
theorem atF (a:List (Int×Rec×Int)) (h:J) (a6:a.length≤2 ^ 60):Pure Tryz.prog 81 [.ag a.length (a.flatMap co),.ag a.length (a.flatMap co)] h (.bool true):=by
 refine Pure.val (bh.bool _) ?_
 refine ab.ao (c:=_) Tryz.func81 rfl (by kernel_rfl) (by simp) ?_
 have bd:(((a.length:Nat):Int) !=((a.length:Nat):Int))=false:=by simp
 simp only [aa,Nat.reduceEqDiff,reduceCtorEq,CG]
 refine aP.bG (α:=Nat) (fun i f h'=>f 0=.ag a.length (a.flatMap co)∧f 1=.ag a.length (a.flatMap co)∧f 5=.int .i64 (i:Nat)∧I h h' none_∧i≤a.length) (fun i=>a.length - i) 0
  ⟨rfl,rfl,rfl,I.refl _ _,Nat.zero_le _⟩ ?_
 rintro i f h1 ⟨f0,f1,f5,bo,hi⟩
 refine dw (by kernel_rfl) ?_
 by_cases aH:i<a.length
 rotate_left
 ·have c3:decide ((i:Int)<((a.length:Nat):Int))=false:=decide_eq_false (by omega)
  simp only [aa,Nat.reduceEqDiff,reduceCtorEq,CG,f0,f5,c3,aI,Tryz.results81,ac]
  exact au ⟨rfl,bo⟩
 ·have c3:decide ((i:Int)<((a.length:Nat):Int))=true:=decide_eq_true (by omega)
  have c9:IntKind.i64.wrap ((i:Int)+1)=((i+1:Nat):Int):=kf aH (by omega)
  have eo:ir Tryz.prog 65 (.ag a.length (a.flatMap co)) (.int .i64 (i:Int))=some (.at (co a[i]++(a.drop (i+1)).flatMap co)):=oJ H6 aH Y5
  have ib:∀ (x:Int×Rec×Int) (q:List V),cX (some (some 5)) (some (co x++q))=some (.agg (co x)):=fun x q=>lC (H6 x)
  simp only [aa,Nat.reduceEqDiff,reduceCtorEq,CG,f0,f5,c3]
  generalize a[i]=A at *
  have eL:∀ xo yo,ev Tryz.prog .neq 81 xo yo (.agg (co A)) (.agg (co A))=some (.bool false):=fun xo yo=>atE A
  refine aP.aY none_ [] (.q 0 (.q 1 (.q 2 (.q 3 (.q 4 (.q 5 (.q 6 (.q 7 (.q 8 .done))))))))) (by kernel_rfl) (by kernel_rfl) (by kernel_rfl) ?_
  simp only [aa,bD,Nat.reduceEqDiff,reduceCtorEq,as5,f0,f1,f5,eo,eL,ib,c9]
  exact au ⟨i+1,⟨f0,f1,rfl,bo,by omega⟩,by omega⟩
theorem atG (x:dS):(vf x).cells=some [.ag x.outs.length (x.outs.flatMap dg),.ag x.verts.length (aO x.verts),eP x.chgs,.ag x.deads.length (x.deads.flatMap co)]:=rfl
theorem Sf {x:bL} (h:sz x≤2 ^ 30):x.2.outs.length≤2 ^ 30∧x.2.verts.length≤2 ^ 30∧x.2.chgs.length≤2 ^ 30∧x.2.deads.length≤2 ^ 30:=by unfold sz at h;omega
theorem Y2 (x:dS) (h:J) (ff:x.outs.length≤2 ^ 30) (eY:x.verts.length≤2 ^ 30) (wX:x.chgs.length≤2 ^ 30) (amq:x.deads.length≤2 ^ 30):Pure Tryz.prog 31 [vf x,vf x] h (.bool true):=by
 refine Pure.val (bh.bool _) ?_
 refine ab.ao (c:=_) Tryz.func31 rfl (by kernel_rfl) (by simp) ?_
 obtain ⟨H,hH⟩:∃ y,y=(h.push (.cells [.ag x.outs.length (x.outs.flatMap dg),.ag x.verts.length (aO x.verts),eP x.chgs,.ag x.deads.length (x.deads.flatMap co)] 67 none)).push (.cells [.ag x.outs.length (x.outs.flatMap dg),.ag x.verts.length (aO x.verts),eP x.chgs,.ag x.deads.length (x.deads.flatMap co)] 67 none):=⟨_,rfl⟩
 have bq:I h H none_:=by rw [hH];exact (I.push _ _ _).a8 _
 have g0:H.get h.n=.cells [.ag x.outs.length (x.outs.flatMap dg),.ag x.verts.length (aO x.verts),eP x.chgs,.ag x.deads.length (x.deads.flatMap co)] 67 none:=by rw [hH];exact ve
 have g1:H.get (h.n+1)=.cells [.ag x.outs.length (x.outs.flatMap dg),.ag x.verts.length (aO x.verts),eP x.chgs,.ag x.deads.length (x.deads.flatMap co)] 67 none:=by rw [hH];exact wq
 simp only [aa,Nat.reduceEqDiff,Nat.reduceAdd,yp,yq,atG]
 rw [←hH]
 clear hH
 have amr:eP x.chgs=.ag x.chgs.length (x.chgs.flatMap aw):=rfl
 rw [amr] at g0 g1
 refine bB as3 (amp x.outs H (by omega)) ?_
 simp only [aa,Nat.reduceEqDiff,Nat.reduceAdd,Nat.reduceLeDiff,Kl,lb,g0,g1]
 refine bB as0 (ats x.verts x.verts H (by omega)) ?_
 simp only [aa,Nat.reduceEqDiff,Nat.reduceAdd,Nat.reduceLeDiff,H3,H4,g0,g1]
 refine bB alQ (alU x.chgs x.chgs H (by omega)) ?_
 simp only [aa,Nat.reduceEqDiff,Nat.reduceAdd,Nat.reduceLeDiff,DH,DI,g0,g1]
 refine bB as4 (atF x.deads H (by omega)) ?_
 simp only [aa,Nat.reduceEqDiff,aI,Tryz.results31,ac]
 exact au ⟨rfl,bq⟩
section
variable {c:aZ} {h:J} {aJ:cM} {i1 i2 m1 m2:Nat} {dt b1:At} {s:bW}
theorem akR {c:aZ} {s:bW} (l1:∀ u K,c.cB u=some K→cz K (s.st u)) (u:Nat):(zS c s u).length≤1024:=by
 unfold zS
 split
 ·split<;>simp
 ·split
  ·rename_i K bE
   have:=(m7 K (s.st u)).length_eq
   unfold K6
   rw [this]
   exact (l1 u K bE).len
  ·simp
theorem ab6 (o:fr c) (bo:dA h aJ i1 m1 dt c s) (k2:dA h aJ i2 m2 b1 c s) (hk:rb c s) (l1:∀ u K,c.cB u=some K→cz K (s.st u)) (n:Nat) (aG:n≤24) :
  Pure Tryz.prog 30 [.ptr m1 0,.ptr m2 0,.int .i64 (n:Nat)] h (.bool true):=by
 refine ab.ao (c:=_) Tryz.func30 rfl (by kernel_rfl) (by simp) ?_
 simp only [aa]
 refine aP.bG (α:=Nat) (fun x f h'=>f 0=.ptr m1 0∧f 1=.ptr m2 0∧f 2=.int .i64 (n:Nat)∧f 7=.int .i64 (x:Nat)∧x≤n∧h'=h) (fun x=>n - x) 0 ⟨rfl,rfl,rfl,rfl,Nat.zero_le _,rfl⟩ ?_
 rintro x f h' ⟨f0,f1,f2,f7,ak,rfl⟩
 refine dw (by kernel_rfl) ?_
 by_cases aH:x<n
 ·have d1:decide ((x:Int)<(n:Int))=true:=decide_eq_true (by omega)
  have hw:=kf aH (by omega)
  simp only [aa,Nat.reduceEqDiff,reduceCtorEq,f0,f2,f7,d1]
  refine bB Za (ace o bo hk x) ?_
  simp only [aa,Nat.reduceEqDiff,f1,f7]
  refine bB Za (ace o k2 hk x) ?_
  simp only [aa,Nat.reduceEqDiff]
  refine bB alQ (alU (zS c s x) (zS c s x) h' (by have:=akR l1 x;omega)) ?_
  simp only [aa,Nat.reduceEqDiff,f7,hw]
  exact au ⟨x+1,⟨f0,f1,f2,rfl,by omega,rfl⟩,by omega⟩
 ·have d1:decide ((x:Int)<(n:Int))=false:=decide_eq_false (by omega)
  simp only [aa,Nat.reduceEqDiff,reduceCtorEq,f0,f2,f7,d1]
  refine bB adf (amj bo) ?_
  simp only [aa,Nat.reduceEqDiff,f1]
  refine bB adf (amj k2) ?_
  simp only [aa,Nat.reduceEqDiff,aI,Tryz.results30,ac]
  exact au ⟨rfl,rfl⟩
end
theorem R5 (l:List bu) (p:Int) (ba:kh l) (h:J):ab Tryz.prog 25 [.agg (cQ l p)] h (fun r h'=>∃ b,r=.bool b∧I h h' none_):=by
 have nz:∀ (l:List bu) (p:Int),(V.agg (cQ l p)).cells=some [.ag l.length (l.flatMap al),.int .i64 p]:=fun _ _=>rfl
 refine ab.ao (c:=_) Tryz.func25 rfl (by kernel_rfl) (by simp) ?_
 obtain ⟨H,hH⟩:∃ x,x=h.push (.cells [.ag l.length (l.flatMap al),.int .i64 p] 56 none):=⟨_,rfl⟩
 have gt:H.get h.n=.cells [.ag l.length (l.flatMap al),.int .i64 p] 56 none:=by rw [hH];exact b6
 have bq:I h H none_:=by rw [hH];exact I.push _ _ _
 simp only [aa,nz,←hH]
 clear hH
 refine aP.bG (α:=Nat×Int) (fun x f h'=>f 1=.ptr h.n 0∧f 3=.int .i64 x.2∧f 4=.int .i64 (x.1:Nat)∧x.1≤l.length∧h'=H) (fun x=>l.length - x.1) (0,0) ⟨rfl,rfl,rfl,Nat.zero_le _,rfl⟩ ?_
 rintro ⟨x,n⟩ f h' ⟨f1,f3,f4,ak,rfl⟩
 simp only at f3 f4 ak
 have aM:=ba.1
 refine dw (by kernel_rfl) ?_
 by_cases aH:x<l.length∧n≤3000
 ·have d1:decide ((x:Int)<((l.length:Nat):Int))=true:=decide_eq_true (by omega)
  have d2:decide (n≤3000)=true:=decide_eq_true aH.2
  have hw:=kf aH.1 (by omega)
  have tf:=(ba.2 _ (List.getElem_mem aH.1)).1
  have eo:ir Tryz.prog 54 (.ag l.length (l.flatMap al)) (.int .i64 (x:Int))=some (.at (al l[x]++(l.drop (x+1)).flatMap al)):=oJ hF aH.1 w8
  generalize l[x]=v at eo tf
  generalize (l.drop (x+1)).flatMap al=Hr at eo
  obtain ⟨cB,ay,⟨vJ,em,ax⟩,Kj⟩:=v
  have fp:al ⟨cB,ay,.mk vJ em ax,Kj⟩=[.int .i64 cB,.ag ay.length (aO ay),.int .i64 vJ,.int .i64 em,.ag ax.length (ax.flatMap aq),.int .i64 Kj]:=by simp [al,hT]
  have bC:aq (.mk vJ em ax)=[.int .i64 vJ,.int .i64 em,.ag ax.length (ax.flatMap aq)]:=hT _ _ _
  rw [fp] at eo
  simp only [List.cons_append,List.nil_append] at eo
  have dt:=air _ _ h' rfl tf
  rw [bC] at dt
  simp only [aa,Nat.reduceEqDiff,Nat.reduceAdd,Nat.reduceLeDiff,nF,jH,d9,eG,ji,f1,f3,f4,gt,d1,d2,eo]
  refine bB S5 dt ?_
  simp only [aa,Nat.reduceEqDiff,f4,hw]
  exact au ⟨(x+1,_),⟨f1,rfl,rfl,by simp only;omega,rfl⟩,by simp only;omega⟩
 ·by_cases h1:x<l.length
  ·have d1:decide ((x:Int)<((l.length:Nat):Int))=true:=decide_eq_true (by omega)
   have d2:decide (n≤3000)=false:=decide_eq_false (by omega)
   simp only [aa,Nat.reduceEqDiff,Nat.reduceAdd,jH,d9,ji,f1,f3,f4,gt,d1,d2,aI,Tryz.results25,ac]
   exact au ⟨_,rfl,bq⟩
  ·have d1:decide ((x:Int)<((l.length:Nat):Int))=false:=decide_eq_false (by omega)
   simp only [aa,Nat.reduceEqDiff,Nat.reduceAdd,jH,d9,ji,f1,f3,f4,gt,d1,aI,Tryz.results25,ac]
   exact au ⟨_,rfl,bq⟩
theorem O8 {α:Type} {cl:Nat} {k:Int} {a:α}:∀ {l:List (Nat×Int×α)} {z:Int},db (eB cl l k a) z=if z=k then some a else db l z
 | [],z=>by
  unfold eB db
  rw [List.find?_cons]
  by_cases h:z=k
  ·subst h;simp
  ·rw [if_neg h]
   have:(k==z)=false:=by simpa using fun e=>h e.symm
   simp [this]
 | e::r,z=>by
  have ih:=O8 (cl:=cl) (k:=k) (a:=a) (l:=r) (z:=z)
  unfold eB
  by_cases he:e.2.1=k
  ·rw [if_pos he]
   unfold db
   rw [List.find?_cons,List.find?_cons]
   by_cases h:z=k
   ·subst h;simp
   ·rw [if_neg h]
    have h1:(k==z)=false:=by simpa using fun e=>h e.symm
    have ae:(e.2.1==z)=false:=by rw [he];exact h1
    simp only [h1,ae]
  ·rw [if_neg he]
   unfold db at ih⊢
   rw [List.find?_cons,List.find?_cons]
   by_cases ae:e.2.1=z
   ·have aA:(e.2.1==z)=true:=by simpa using ae
    have bk:z≠k:=fun U=>he (ae.trans U)
    simp [aA,bk]
   ·have aA:(e.2.1==z)=false:=by simpa using ae
    simp only [aA]
    exact ih
structure iI (h:J) (aJ:cM) (id m:Nat) (b:At) (c:aZ) (n:Nat):Prop where
 lt:m<h.n
 get:h.get m=.cells (c.cells b) 146 none
 own:aJ m=(id,1)
 marks:q2 h (.ptr b.iW 0) (jx 0 c.ins) b.iW b.oz c.ins.length
 e3:aJ b.iW=(id,2)∧aJ b.oz=(id,3)
 iM:b.mp<h.n
 map:h.get b.mp=.map (mapOf .i64 sN b.es) b.cl
 jN:aJ b.mp=(id,4)
 some:∀ u K,u<n→c.cB u=some K→∃ a O x,db b.es (u:Int)=Option.some a∧c.l[u]?=some x∧fz h a O K x.e x.n []∧nX aJ (id,10+u) O∧cv x.e=true
 none:∀ u,(n≤u∨c.cB u=Option.none)→db b.es (u:Int)=Option.none
section
variable {h h':J} {aJ ow':cM} {id m n:Nat} {b:At} {c:aZ}
theorem iI.aj {M:Nat→Prop} (k:iI h aJ id m b c n) (hk:I h h' M) (hm:∀ q,q<h.n→M q→(aJ q).1≠id) (he:∀ q,q<h.n→ow' q=aJ q):iI h' ow' id m b c n:=by
 obtain ⟨ar,gq,k5,lK,g1,g2,st⟩:=k.marks
 have k6:∀ q,q<h.n→(aJ q).1=id→h'.get q=h.get q:=fun q af bc=>hk.get q af fun U=>hm q af U bc
 refine ⟨Nat.lt_of_lt_of_le k.lt hk.n,(k6 _ k.lt (by rw [k.own])).trans k.get,(he _ k.lt).trans k.own,⟨ar,Nat.lt_of_lt_of_le gq hk.n,Nat.lt_of_lt_of_le k5 hk.n,lK,(k6 _ gq (by rw [k.e3.1])).trans g1,(k6 _ k5 (by rw [k.e3.2])).trans g2,st⟩,
  ⟨(he _ gq).trans k.e3.1,(he _ k5).trans k.e3.2⟩,Nat.lt_of_lt_of_le k.iM hk.n,(k6 _ k.iM (by rw [k.jN])).trans k.map,(he _ k.iM).trans k.jN,fun u K hu bE=>?_,k.none⟩
 obtain ⟨a,O,x,h1,ae,aA,bk,bN⟩:=k.some u K hu bE
 exact ⟨a,O,x,h1,ae,aA.aj hk fun q af U=>hm q (aA.lt q af) U (by rw [bk q af]),bk.cH aA.lt he,bN⟩
theorem iI.aQ (k:iI h aJ id m b c n) (hk:I h h' none_):iI h' aJ id m b c n:=k.aj hk (fun _ _ U=>by simp [none_] at U) fun _ _=>rfl
theorem iI.skip (k:iI h aJ id m b c n) (aG:c.cB n=Option.none):iI h aJ id m b c (n+1) :=
 ⟨k.lt,k.get,k.own,k.marks,k.e3,k.iM,k.map,k.jN,fun u K hu bE=>by
  by_cases e:u=n
  ·subst e;rw [aG] at bE;cases bE
  ·exact k.some u K (by omega) bE,fun u hu=>k.none u (hu.imp (fun h=>by omega) fun h=>h)⟩
theorem iI.put (k:iI h aJ id m b c n) (f:Fr h aJ) {K:df} (bE:c.cB n=Option.some K) {x:bu} (ak:c.l[n]?=Option.some x) (hm:cv x.e=true) {a:Nat} {O:List Nat} (bo:I h h' none_) (mW:∀ q ∈ O,h.n≤q) (fG:fz h' a O K x.e x.n []) :
  iI (h'.set b.mp (.map (mapOf .i64 sN (eB b.cl b.es (n:Int) a)) (mu b.cl b.es (n:Int)))) (dH aJ h.n h'.n (id,10+n)) id m ⟨b.iW,b.oz,b.mp,eB b.cl b.es (n:Int) a,mu b.cl b.es (n:Int)⟩ c (n+1):=by
 have he:∀ q,q<h.n→dH aJ h.n h'.n (id,10+n) q=aJ q:=fun q af=>zr af
 have kk:=k.aj (ow':=dH aJ h.n h'.n (id,10+n)) bo (fun _ _ U=>by simp [none_] at U) he
 have iM:=k.iM
 have ax:I h' (h'.set b.mp (.map (mapOf .i64 sN (eB b.cl b.es (n:Int) a)) (mu b.cl b.es (n:Int)))) (·=b.mp):=I.set _ _ _
 obtain ⟨ar,gq,k5,lK,g1,g2,st⟩:=kk.marks
 have k6:∀ q t,q<h'.n→dH aJ h.n h'.n (id,10+n) q=(id,t)→t≠4→(h'.set b.mp (.map (mapOf .i64 sN (eB b.cl b.es (n:Int) a)) (mu b.cl b.es (n:Int)))).get q=h'.get q:=fun q t af bc bw=>ax.get q af fun U=>by
  rw [U,kk.jN] at bc;simp at bc;omega
 refine ⟨kk.lt,(k6 _ _ kk.lt kk.own (by omega)).trans kk.get,kk.own,⟨ar,gq,k5,lK,(k6 _ _ gq kk.e3.1 (by omega)).trans g1,(k6 _ _ k5 kk.e3.2 (by omega)).trans g2,st⟩,kk.e3,kk.iM,aL,kk.jN,fun u uY hu wS=>?_,fun u hu=>?_⟩
 ·show ∃ a2 xU dn,db (eB b.cl b.es (n:Int) a) (u:Int)=_∧_
  rw [O8]
  by_cases e:u=n
  ·subst e
   rw [bE] at wS
   cases wS
   rw [if_pos rfl]
   have yj:nX (dH aJ h.n h'.n (id,10+u)) (id,10+u) O:=fun q af=>pm (mW q af) (fG.lt q af)
   exact ⟨a,O,x,rfl,ak,fG.aj ax fun q af U=>by have h1:=yj q af;rw [U,kk.jN] at h1;simp at h1;omega,yj,hm⟩
  ·rw [if_neg (by omega)]
   obtain ⟨a2,xU,dn,h1,ae,aA,bk,bN⟩:=kk.some u uY (by omega) wS
   exact ⟨a2,xU,dn,h1,ae,aA.aj ax fun q af U=>by have h1:=bk q af;rw [U,kk.jN] at h1;simp at h1;omega,bk,bN⟩
 ·show db (eB b.cl b.es (n:Int) a) (u:Int)=_
  rw [O8,if_neg (by
   intro e
   have e:u=n:=by omega
   subst e
   rcases hu with hu | hu
   ·omega
   ·rw [bE] at hu;cases hu)]
  exact k.none u (hu.imp (fun h=>by omega) fun h=>h)
theorem iI.done (k:iI h aJ id m b c n) (aG:c.l.length≤n):dA h aJ id m b c (bW.new c) :=
 ⟨k.lt,k.get,k.own,k.marks,k.e3,k.iM,k.map,k.jN,fun u K bE=>by
  obtain ⟨x,ak,_⟩:=Mx bE
  have:=(List.getElem?_eq_some_iff.1 ak).1
  exact k.some u K (by omega) bE,fun u hu=>k.none u (.inr hu)⟩
end
def fk (c:aZ):Int:=if (ct c.p c.l).2≠0 then (ct c.p c.l).2 else if c.P.contains c.part=false then 1 else if c.ins=[] then 1 else 0
def Made (id:Nat) (c:aZ) (h:J) (aJ:cM):V→J→Prop:=fun r h'=>I h h' none_ ∧
 ((fk c≠0∧r=.tuple [.cZ,.int .i64 (fk c)])∨(fk c=0∧∃ m b ow',r=.tuple [.ptr m 0,.int .i64 0]∧dA h' ow' id m b c (bW.new c)∧(∀ q,q<h.n→ow' q=aJ q)∧Fr h' ow'))
theorem ait {e:bF} (ba:fa e):∀ b ∈ hj e,b<256:=by
 unfold hj
 split
 ·exact Ns e
 ·simp
theorem aiu {v:bu} (ba:tp v):∀ b ∈ eR v,b<256:=fun b av=>by
 unfold eR uJ vQ at av
 simp only [List.mem_append,List.mem_flatMap] at av
 rcases av with ((av | av | ⟨n,_,av⟩) | av) | av | av
 ·exact ip _ _ (Nat.le_refl _) b av
 ·exact ip _ _ (Nat.le_refl _) b av
 ·exact ip _ _ (Nat.le_refl _) b av
 ·exact ip _ _ (Nat.le_refl _) b av
 ·exact ip _ _ (Nat.le_refl _) b av
 ·exact ait ba.1 b av
theorem aiv {p:Int} {l:List bu} (ba:kh l):∀ b ∈ lv p l,b<256:=fun b av=>by
 unfold lv at av
 split at av
 ·unfold oq at av
  simp only [List.mem_append,List.mem_flatMap] at av
  rcases av with (av | av) | ⟨v,aN,av⟩
  ·exact ip _ _ (Nat.le_refl _) b av
  ·exact ip _ _ (Nat.le_refl _) b av
  ·exact aiu (ba.2 v aN) b av
 ·cases av
theorem aiw {p:Int} {l:List bu} (ba:kh l):(lv p l).length≤2 ^ 40:=by
 unfold lv
 split
 ·rename_i h0
  obtain ⟨aW,lf,jr,dx⟩:=Da h0
  have h1:=VV (l:=l) fun v aN=>VU (ba.2 v aN) (dx v aN).1 (dx v aN).2.1
  have ae:=(nI p.toNat (by omega)).2
  have aA:=(nI l.length (by omega)).2
  unfold oq
  simp only [List.length_append]
  omega
 ·simp
def sQ (aJ:cM) (q:Nat) (t:Nat×Nat):cM:=fun x=>if x=q then t else aJ x
theorem Jh (aJ:cM) (q:Nat) (t:Nat×Nat):sQ aJ q t q=t:=if_pos rfl
theorem fd {aJ:cM} {q x:Nat} {t:Nat×Nat} (h:x≠q):sQ aJ q t x=aJ x:=if_neg h
theorem IR {c:aZ} (h:(ct c.p c.l).2=0) (ae:c.P.contains c.part=false):fk c=1:=by unfold fk;rw [if_neg (by rw [h];decide),if_pos ae]
theorem aix {c:aZ} (h:(ct c.p c.l).2=0) (ae:c.P.contains c.part=true) (aA:c.ins=[]):fk c=1:=by unfold fk;rw [if_neg (by rw [h];decide),if_neg (by rw [ae];decide),if_pos aA]
theorem Xz {c:aZ} (h:(ct c.p c.l).2=0) (ae:c.P.contains c.part=true) (aA:c.ins≠[]):fk c=0:=by unfold fk;rw [if_neg (by rw [h];decide),if_neg (by rw [ae];decide),if_neg aA]
theorem Mn (id:Nat) (c:aZ) (ba:kh c.l) (h:J) (aB:lP h) (aJ:cM) (f:Fr h aJ) (h0:id≠0) :
  ab Tryz.prog 26 [.agg (cQ c.l c.p),.int .i64 c.part] h (Made id c h aJ):=by
 obtain ⟨l,p,part⟩:=c
 simp only at ba⊢
 have nz:∀ (l:List bu) (p:Int),(V.agg (cQ l p)).cells=some [.ag l.length (l.flatMap al),.int .i64 p]:=fun _ _=>rfl
 have mo:∀ (l:List bu) (p:Int),V.agg [.ag l.length (l.flatMap al),.int .i64 p]=.agg (cQ l p):=fun _ _=>rfl
 have Ca:∀ (l:List bu) (p:Int),bM (some 2) (aV.cells [V.ah,.int .i64 0] 56 none) 0 [.ag l.length (l.flatMap al),.int .i64 p]=some (.cells [.ag l.length (l.flatMap al),.int .i64 p] 56 none):=fun _ _=>rfl
 refine ab.ao (c:=_) Tryz.func26 rfl (by kernel_rfl) (by simp) ?_
 obtain ⟨H,hH⟩:∃ x,x=h.push (.cells [.ag l.length (l.flatMap al),.int .i64 p] 56 none):=⟨_,rfl⟩
 have gt:H.get h.n=.cells [.ag l.length (l.flatMap al),.int .i64 p] 56 none:=by rw [hH];exact b6
 have bq:I h H none_:=by rw [hH];exact I.push _ _ _
 have h9:H.n=h.n+1:=by rw [hH];rfl
 have s9:=aB.aj bq
 simp only [aa,Nat.reduceEqDiff,Nat.reduceAdd,kp,nz,←hH,gt,mo]
 refine bB adk (ag7 l p ba H s9) ?_
 unfold AL
 by_cases h1:(ct p l).2=0
 rotate_left
 ·have bd:((ct p l).2 !=0)=true:=by simpa using h1
  have bC:fk ⟨l,p,part⟩=(ct p l).2:=by unfold fk;rw [if_pos h1]
  simp only [aa,Nat.reduceEqDiff,bd,aI,Tryz.results26,cW]
  exact au ⟨bq,.inl ⟨by rw [bC];exact h1,by rw [bC]⟩⟩
 have bd:((0:Int) !=0)=false:=rfl
 have o:fr ⟨l,p,part⟩:=⟨h1,ba⟩
 simp only [aa,Nat.reduceEqDiff,h1]
 refine bB adl (On _ (lv p l) H s9 (Rd.ag _ _) (aiv ba) (by have:=aiw (p:=p) ba;omega)) ?_
 have hI:oO (lv p l)=.tuple [.agg (cQ l p),.int .i64 0]:=by unfold oO;rw [ahp ba h1]
 rw [hI]
 obtain ⟨bI,bA⟩:∃ x,x=H.push (.cells [.ag l.length (l.flatMap al),.int .i64 p] 56 none):=⟨_,rfl⟩
 have jL:bI.get H.n=.cells [.ag l.length (l.flatMap al),.int .i64 p] 56 none:=by rw [bA];exact b6
 have k2:I H bI none_:=by rw [bA];exact I.push _ _ _
 have ef:bI.n=H.n+1:=by rw [bA];rfl
 have t2:=s9.aj k2
 have c6:=bq.trans' k2
 simp only [aa,Nat.reduceEqDiff,Nat.reduceAdd,kp,r9,sa,nz,Ca,←bA,jL,mo]
 refine bB S6 (WB l p ba bI t2) ?_
 have W8:(hz p l).length=l.length:=Gm h1
 have sK:l.length≤24:=o.len
 rw [h1]
 simp only [aa,Nat.reduceEqDiff]
 refine bB Kr (Lm (hz p l) part (by omega) bI) ?_
 cases wy:(hz p l).contains part
 ·have bC:fk ⟨l,p,part⟩=1:=IR (c:=⟨l,p,part⟩) h1 wy
  simp only [aa,Nat.reduceEqDiff,aI,Tryz.results26,cW]
  exact au ⟨c6,.inl ⟨by rw [bC];decide,by rw [bC]⟩⟩
 simp only [aa,Nat.reduceEqDiff,Nat.reduceAdd,kp,jL,mo]
 refine bB adm (ahC l p part ba bI t2) ?_
 simp only [aa,Nat.reduceEqDiff]
 by_cases hi:y1 p l part=[]
 ·have bC:fk ⟨l,p,part⟩=1:=aix (c:=⟨l,p,part⟩) h1 wy hi
  rw [hi]
  refine bB S7 (aic bI) ?_
  have bH:((1:Int) !=0)=true:=rfl
  simp only [aa,Nat.reduceEqDiff,bH,aI,Tryz.results26,cW]
  exact au ⟨c6,.inl ⟨by rw [bC];decide,by rw [bC]⟩⟩
 have bC:fk ⟨l,p,part⟩=0:=Xz (c:=⟨l,p,part⟩) h1 wy hi
 refine bU S7 (Ou bI (y1 p l part) (by cases ak:y1 p l part with | nil=>exact absurd ak hi | cons a r=>simp) (Kf o) (LK ⟨l,p,part⟩)) fun r aA ⟨i,j,cg,sW,ams,amt,k3⟩=>?_
 subst cg
 have dL:=c6.trans' k3
 have lg:=(k3.get H.n (by omega) (by simp [none_])).trans jL
 have n3:=k3.n
 have amu:∀ (n:Nat) (x:List V),(V.ag n x).cells=some [.ag n x]:=fun _ _=>rfl
 have O9:=sW
 obtain ⟨_,gq,k5,lK,lu,vR,XA⟩:=O9
 obtain ⟨gy,fx⟩:∃ x,x=(aA.push (.map [] 0)).push (.cells [.ag l.length (l.flatMap al),.int .i64 p,.ag (hz p l).length (aO (hz p l)),.int .i64 part,.ptr i 0,.map aA.n] 146 none):=⟨_,rfl⟩
 have cG:I aA gy none_:=by rw [fx];exact (I.push _ _ _).a8 _
 have Ag:gy.n=aA.n+2:=by rw [fx];rfl
 have XB:gy.get (aA.n+1)=.cells [.ag l.length (l.flatMap al),.int .i64 p,.ag (hz p l).length (aO (hz p l)),.int .i64 part,.ptr i 0,.map aA.n] 146 none:=by rw [fx];exact wq
 have wL:gy.get aA.n=.map [] 0:=by rw [fx];exact ve
 have Dt:=(cG.get H.n (by omega) (by simp [none_])).trans lg
 have l3:=dL.trans' cG
 simp only [aa,Nat.reduceEqDiff,Nat.reduceAdd,Nat.reduceLeDiff,jH,ji,kp,adE,adT,lg,mo,nz]
 rw [←fx]
 simp only [aa,Nat.reduceEqDiff,Nat.reduceAdd,d9,Dt]
 clear fx
 obtain ⟨et,rz⟩:∃ x,x=sQ (sQ (sQ (sQ aJ i (id,2)) j (id,3)) aA.n (id,4)) (aA.n+1) (id,1):=⟨_,rfl⟩
 have c9:et (aA.n+1)=(id,1):=by rw [rz];exact Jh _ _ _
 have xN:et aA.n=(id,4):=by rw [rz,fd (by omega)];exact Jh _ _ _
 have la:et j=(id,3):=by rw [rz,fd (by omega),fd (by omega)];exact Jh _ _ _
 have b0:et i=(id,2):=by rw [rz,fd (by omega),fd (by omega),fd lK];exact Jh _ _ _
 have Pa:∀ q,q≠i→q≠j→q≠aA.n→q≠aA.n+1→et q=aJ q:=fun q h1 ae aA bk=>by rw [rz,fd bk,fd aA,fd ae,fd h1]
 clear rz
 have f5:Fr gy et:=fun q af=>(Pa q (by omega) (by omega) (by omega) (by omega)).trans (f q (by omega))
 have lE:∀ q,q<h.n→et q=aJ q:=fun q af=>Pa q (by omega) (by omega) (by omega) (by omega)
 have GJ:iI gy et id (aA.n+1) ⟨i,j,aA.n,[],0⟩ ⟨l,p,part⟩ 0 :=
  ⟨by omega,XB,c9,⟨rfl,by show i<gy.n;omega,by show j<gy.n;omega,lK,(cG.get i gq (by simp [none_])).trans lu,(cG.get j k5 (by simp [none_])).trans vR,XA⟩,⟨b0,la⟩,by show aA.n<gy.n;omega,wL,xN,fun u K hu=>absurd hu (Nat.not_lt_zero _),fun u _=>rfl⟩
 obtain ⟨m,hm⟩:∃ m,m=aA.n+1:=⟨_,rfl⟩
 rw [←hm] at GJ⊢
 have XC:(hz p l)=(aZ.mk l p part).P:=rfl
 refine aP.bG (α:=Nat×cM×At) (fun x cx h'=>cx 1=.int .i64 part∧cx 10=.ag (hz p l).length (aO (hz p l))∧cx 13=.ptr m 0∧cx 58=.ag l.length (l.flatMap al)∧cx 59=.int .i64 ((l.length:Nat):Int)∧cx 60=.int .i64 (x.1:Nat)∧x.1≤l.length ∧
   iI h' x.2.1 id m x.2.2 ⟨l,p,part⟩ x.1∧Fr h' x.2.1∧I h h' none_∧(∀ q,q<h.n→x.2.1 q=aJ q)∧x.2.2.mp=aA.n) (fun x=>l.length - x.1) (0,et,⟨i,j,aA.n,[],0⟩)
  ⟨rfl,rfl,rfl,rfl,rfl,rfl,Nat.zero_le _,GJ,f5,l3,lE,rfl⟩ ?_
 clear GJ f5 lE Pa c9 b0 la xN XB wL Dt lu vR sW lg jL gt
 have ZV:h.n≤aA.n:=by omega
 rintro ⟨x,hL,b⟩ cx dd ⟨f1,f10,f13,f58,f59,f60,ak,kl,f6,B9,vx,tj⟩
 simp only at f60 ak kl f6 vx tj
 refine dw (by kernel_rfl) ?_
 by_cases aH:x<l.length
 rotate_left
 ·have d1:decide ((x:Int)<((l.length:Nat):Int))=false:=decide_eq_false (by omega)
  simp only [aa,Nat.reduceEqDiff,f13,f59,f60,d1,aI,Tryz.results26,cW]
  exact au ⟨B9,.inr ⟨bC,m,b,hL,rfl,kl.done (by show l.length≤x;omega),vx,f6⟩⟩
 have d1:decide ((x:Int)<((l.length:Nat):Int))=true:=decide_eq_true (by omega)
 have hw:=kf aH (by omega)
 have GK:x<(hz p l).length:=by omega
 have eo:ir Tryz.prog 54 (.ag l.length (l.flatMap al)) (.int .i64 (x:Int))=some (.at (al l[x]++(l.drop (x+1)).flatMap al)):=oJ hF aH w8
 have bR:=ra (P:=Tryz.prog) (kk:=.i64) GK kr
 have XD:(hz p l)[x]?=some (hz p l)[x]:=List.getElem?_eq_getElem GK
 have s7:l[x]?=some l[x]:=List.getElem?_eq_getElem aH
 have tf:=(ba.2 _ (List.getElem_mem aH)).1
 have LO:=o.fQ (u:=x) s7
 have cV:(aZ.mk l p part).cB x=if (hz p l)[x]=part then mO l[x].kind l[x].n else none:=by
  unfold aZ.cB
  rw [←XC,XD]
  simp only [Option.some.injEq,s7]
 generalize (hz p l)[x]=Pb at bR cV
 generalize l[x]=v at eo tf LO cV s7
 have ib:∀ (q:List V),cX (some (some 6)) (some (al v++q))=some (.agg (al v)):=fun q=>lC (hF v)
 have BC:cX (some (some 6)) (some (al v))=some (.agg (al v)):=by have:=ib [];rwa [List.append_nil] at this
 have XE:(V.agg (al v)).cells=some (al v):=rfl
 have XF:bM (some 6) (aV.cells [V.int .i64 0,.ah,.int .i64 0,.int .i64 0,.ah,.int .i64 0] 29 none) 0 (al v)=some (.cells (al v) 29 none):=by
  rw [rl (n:=6) (hF _) (xl _),if_pos (by decide),oo];rfl
 obtain ⟨re,r1⟩:∃ y,y=dd.push (.cells (al v) 29 none):=⟨_,rfl⟩
 have lQ:I dd re none_:=by rw [r1];exact I.push _ _ _
 have g7:re.get dd.n=.cells (al v) 29 none:=by rw [r1];exact b6
 have n7:re.n=dd.n+1:=by rw [r1];rfl
 have R3:da (.cells (al v) 29 none) 0=some (al v):=by simp [P0,hF]
 have u9:=kl.aQ lQ
 have f7:Fr re hL:=fun q af=>f6 q (by omega)
 have oM:=B9.trans' lQ
 simp only [aa,Nat.reduceEqDiff,mi,a7,nb,oc,f1,f10,f58,f59,f60,d1,eo,bR,ib,XE,XF]
 rw [←r1]
 clear r1
 by_cases aW:Pb=part
 rotate_left
 ·have c5:(Pb !=part)=true:=by simpa using aW
  rw [if_neg aW] at cV
  simp only [aa,Nat.reduceEqDiff,reduceCtorEq,f13,f60,c5,hw]
  exact au ⟨(x+1,hL,b),⟨f1,f10,f13,f58,f59,rfl,by simp only;omega,u9.skip cV,f7,oM,vx,tj⟩,by simp only;omega⟩
 have c5:(Pb !=part)=false:=by simpa using aW
 rw [if_pos aW] at cV
 simp only [aa,Nat.reduceEqDiff,mi,c5,g7,R3,BC]
 by_cases XG:v.kind=6∨v.kind=7∨v.kind=8
 ·obtain ⟨⟨K,bE⟩,GL⟩:=W4 LO.2.2 XG
  rw [bE] at cV
  refine bU SN (agL v bE GL tf re (aB.1.aj oM)) fun r kC ⟨a,O,w7,gx,mW,fG⟩=>?_
  subst w7
  have put:=u9.put f7 cV s7 GL gx mW fG
  have LP:=(gx.get m u9.lt (by simp [none_])).trans u9.get
  have wM:(aZ.mk l p part).cells b=[.ag l.length (l.flatMap al),.int .i64 p,.ag (hz p l).length (aO (hz p l)),.int .i64 part,.ptr b.iW 0,.map b.mp]:=rfl
  rw [wM] at LP
  have XH:=(gx.get b.mp u9.iM (by simp [none_])).trans u9.map
  have up:=P4 (P:=Tryz.prog) (k:=(x:Int)) (a:=a) (v:=.ptr a 0) DO XH rfl
  have mE:((0:Int)==0)=true:=rfl
  simp only [aa,Nat.reduceEqDiff,Nat.reduceAdd,Nat.reduceLeDiff,yw,yy,f13,f60,LP,up,hw]
  have cT:I kC (kC.set b.mp (.map (mapOf .i64 sN (eB b.cl b.es (x:Int) a)) (mu b.cl b.es (x:Int)))) (·=b.mp):=I.set _ _ _
  have n8:=gx.n
  exact au ⟨(x+1,dH hL re.n kC.n (id,10+x),⟨b.iW,b.oz,b.mp,eB b.cl b.es (x:Int) a,mu b.cl b.es (x:Int)⟩),⟨f1,f10,f13,f58,f59,rfl,by simp only;omega,put,fun q af=>by
   have fi:kC.n≤q:=af
   show dH hL re.n kC.n (id,10+x) q=_
   unfold dH;rw [if_neg (by omega)];exact f7 q (by omega),(oM.trans' gx).trans cT fun q af e=>by omega,fun q af=>by
   have:=oM.n
   show dH hL re.n kC.n (id,10+x) q=_
   rw [zr (by omega)];exact vx q af,tj⟩,by simp only;omega⟩
 ·refine bU SN (aib v (by omega) tf re (aB.1.aj oM)) fun r kC ⟨w7,gx⟩=>?_
  subst w7
  have qd:mO v.kind v.n=none:=by
   cases U:mO v.kind v.n with
   | none=>rfl
   | some K=>have:=Qy U;omega
  rw [qd] at cV
  have mE:((1:Int)==0)=false:=rfl
  simp only [aa,Nat.reduceEqDiff,f60,mE,hw]
  exact au ⟨(x+1,hL,b),⟨f1,f10,f13,f58,f59,rfl,by simp only;omega,(u9.aQ gx).skip cV,fun q af=>f7 q (by have:=gx.n;omega),oM.trans' gx,vx,tj⟩,by simp only;omega⟩
structure w3 where
 v:Int
 r:Rec
 d:Bool
 c:ai
def lD (x:w3):List V:=.int .i64 x.v::(aD x.r++(.bool x.d::aw x.c))
theorem atH (x:w3):(lD x).length=10:=rfl
structure Cn (c:aZ) (s:bW):Prop where
 ax:rb c s
 wf:∀ u K,c.cB u=some K→cz K (s.st u)
 Km:Cm c s
theorem Mo {c:aZ} (o:fr c):Cn c (bW.new c):=⟨Y9 c,aid c o,aio c⟩
theorem ZC {c:aZ} (o:fr c) {s:bW} (g:Cn c s) (v:Int) (r:Rec):Cn c (stepT c s v r).1.1 :=
 ⟨(O6 o g.ax g.wf v r).1,(O6 o g.ax g.wf v r).2.1,aip o g.Km g.wf v r⟩
theorem Mr {c:aZ} (o:fr c) {s:bW} (g:Cn c s) (v:Int) (r:Rec):sz (stepT c s v r).1≤2 ^ 30:=(O6 o g.ax g.wf v r).2.2
def runT (c:aZ) (s:bW) (l:List w3):bW:=l.foldl (fun s x=>(stepT c s x.v x.r).1.1) s
theorem Y0 {c:aZ} {s:bW} {l:List w3} {i:Nat} (hi:i<l.length):runT c s (l.take (i+1))=(stepT c (runT c s (l.take i)) l[i].v l[i].r).1.1:=by
 unfold runT
 rw [List.take_succ_eq_append_getElem hi,List.foldl_append]
 rfl
theorem Qm {c:aZ} (o:fr c) {s:bW} (g:Cn c s) (l:List w3):Cn c (runT c s l):=by
 unfold runT
 induction l generalizing s with
 | nil=>exact g
 | cons x r ih=>exact ih (ZC o g x.v x.r)
theorem Cn.eqv {c:aZ} {s b7:bW} (g:Cn c s) (e:Dv c s b7):Cn c b7 :=
 ⟨⟨by rw [←e.1];exact g.ax.1,by rw [←e.1];exact g.ax.2⟩,fun u K bE=>by rw [←e.2 u K bE];exact g.wf u K bE,by obtain ⟨f,aC⟩:=g.Km;exact ⟨f,by rw [←e.1];exact aC⟩⟩
theorem aiy (h:J):ab Tryz.prog 63 [] h (fun r h'=>∃ F,r=.agg [.bp F 0 3 3,.int .i64 1]∧h.n≤F∧F<h'.n∧h'.get F=.cells (h6.flatMap al) 29 none∧I h h' none_):=by
 refine ab.cast ?_
 refine ab.ao (c:=_) Tryz.func63 rfl (by kernel_rfl) (by simp) ?_
 obtain ⟨n6,jm,vc,Je,ge,gf,fY⟩:=ag3 h (.cells [.ah,.int .i64 0] 56 none) (.cells [.int .i64 5,.int .i64 0,.ah,.int .i64 3,.int .i64 0,.ah] 27 none) (.cells [.int .i64 6,.int .i64 0,.bp (h.n+1) 0 2 2] 27 none) (.cells [.int .i64 0] 3 none) (.cells [.int .i64 1] 3 none) (.cells [.int .i64 1,.ah,.int .i64 0,.int .i64 0,.ah,.int .i64 0,.int .i64 6,.bp (h.n+1+1+1) 0 1 1,.int .i64 6,.int .i64 0,.bp (h.n+1) 0 2 2,.int .i64 0,.int .i64 10,.bp (h.n+1+1+1+1) 0 1 1,.int .i64 0,.int .i64 0,.ah,.int .i64 0] 29 none)
 simp only [aa,Nat.reduceEqDiff,Nat.reduceAdd,Nat.reduceLeDiff,reduceCtorEq,eG,tB,xa,wD,my,nb,r9,lp,sa,ag1,DN,ag2]
 generalize (((((h.push (.cells [.ah,.int .i64 0] 56 none)).push (.cells [.int .i64 5,.int .i64 0,.ah,.int .i64 3,.int .i64 0,.ah] 27 none)).push (.cells [.int .i64 6,.int .i64 0,.bp (h.n+1) 0 2 2] 27 none)).push (.cells [.int .i64 0] 3 none)).push (.cells [.int .i64 1] 3 none)).push (.cells [.int .i64 1,.ah,.int .i64 0,.int .i64 0,.ah,.int .i64 0,.int .i64 6,.bp (h.n+1+1+1) 0 1 1,.int .i64 6,.int .i64 0,.bp (h.n+1) 0 2 2,.int .i64 0,.int .i64 10,.bp (h.n+1+1+1+1) 0 1 1,.int .i64 0,.int .i64 0,.ah,.int .i64 0] 29 none)=H at n6 jm vc Je ge gf fY⊢
 simp only [aa,Nat.reduceAdd,reduceCtorEq,kp,jm,xM,aI,Tryz.results63,xM,eI]
 obtain ⟨re,r1⟩:∃ x,x=H.set h.n (.cells [.bp (h.n+1+1+1+1+1) 0 3 3,.int .i64 1] 56 none):=⟨_,rfl⟩
 have lQ:I H re (·=h.n):=by rw [r1];exact I.set _ _ _
 have n7:re.n=h.n+6:=by rw [r1];exact n6
 have XI:=(lQ.get (h.n+1) (by omega) (by omega)).trans vc
 have XJ:=(lQ.get (h.n+3) (by omega) (by omega)).trans Je
 have XK:=(lQ.get (h.n+4) (by omega) (by omega)).trans ge
 have LQ:=(lQ.get (h.n+5) (by omega) (by omega)).trans gf
 obtain ⟨ae,bH,cP⟩:=aK.own (uB (e:=3) (sz:=1) (n:=1) (by omega) XJ rfl (by simp [cN])) (n:=1) rfl (by decide)
 have ef:=cP.n
 have XL:=(cP.get (h.n+1) (by omega) (by simp [bn,aR])).trans XI
 obtain ⟨aA,c3,ey⟩:=aK.eP (es:=[bF.mk 5 0 [],bF.mk 3 0 []].flatMap aq) (uB (h:=ae) (e:=27) (sz:=3) (n:=2) (by omega) XL rfl (by simp [cN])) (az.cons (aK.refl _ _) (az.cons (aK.refl _ _) (az.cons (aK.kN _) (az.cons (aK.refl _ _) (az.cons (aK.refl _ _) (az.cons (aK.kN _) (az.refl _ _))))))) (I.refl _ none_) (fun h=>h) rfl
 have n3:=ey.n
 have XM:=(ey.get (h.n+4) (by omega) (by omega)).trans ((cP.get (h.n+4) (by omega) (by simp [bn,aR])).trans XK)
 obtain ⟨bk,dU,iD⟩:=aK.own (uB (h:=aA) (e:=3) (sz:=1) (n:=1) (by omega) XM rfl (by simp [cN])) (n:=1) rfl (by decide)
 have n4:=iD.n
 have XN:=(iD.get (h.n+5) (by omega) (by simp [bn,aR])).trans ((ey.get (h.n+5) (by omega) (by omega)).trans ((cP.get (h.n+5) (by omega) (by simp [bn,aR])).trans LQ))
 have qh:h6.flatMap al=[.int .i64 1,.ag 0 [],.int .i64 0,.int .i64 0,.ag 0 [],.int .i64 0,.int .i64 6,.ag 1 [.int .i64 0],.int .i64 6,.int .i64 0,.ag 2 ([bF.mk 5 0 [],bF.mk 3 0 []].flatMap aq),.int .i64 0,.int .i64 10,.ag 1 [.int .i64 1],.int .i64 0,.int .i64 0,.ag 0 [],.int .i64 0]:=by
  simp [h6,Gb,al,hT,aO]
 have dk:az [.int .i64 1,.ah,.int .i64 0,.int .i64 0,.ah,.int .i64 0,.int .i64 6,.bp (h.n+3) 0 1 1,.int .i64 6,.int .i64 0,.bp (h.n+1) 0 2 2,.int .i64 0,.int .i64 10,.bp (h.n+4) 0 1 1,.int .i64 0,.int .i64 0,.ah,.int .i64 0] re (h6.flatMap al) bk:=by
  rw [qh]
  exact az.cons (aK.refl (.int .i64 1) _) (az.cons (aK.kN _) (az.cons (aK.refl (.int .i64 0) _) (az.cons (aK.refl (.int .i64 0) _) (az.cons (aK.kN _) (az.cons (aK.refl (.int .i64 0) _) (az.cons (aK.refl (.int .i64 6) _) (az.cons bH (az.cons (aK.refl (.int .i64 6) _) (az.cons (aK.refl (.int .i64 0) _) (az.cons c3 (az.cons (aK.refl (.int .i64 0) _) (az.cons (aK.refl (.int .i64 10) _) (az.cons dU (az.cons (aK.refl (.int .i64 0) _) (az.cons (aK.refl (.int .i64 0) _) (az.cons (aK.kN _) (az.cons (aK.refl (.int .i64 0) _) (az.refl [] _))))))))))))))))))
 have IE:I h (bk.set (h.n+5) (.cells (h6.flatMap al) 29 none)) none_:=by
  refine I.iQ (I.trans (I.trans (I.trans (I.trans fY lQ fun q af e=>by omega) cP fun q af e=>?_) ey fun q af e=>by omega) iD fun q af e=>?_) (by omega) _
  ·simp [bn,aR] at e;omega
  ·simp [bn,aR] at e;omega
 have fj:=aK.Bs LQ dk XN (by rw [qh];rfl) (.agg [.bp (h.n+5) 0 3 3,.int .i64 1])
 rw [r1] at fj
 refine au ⟨_,_,fj,h.n+5,rfl,by omega,by show h.n+5<bk.n;omega,aL,IE⟩
def qB:aZ:=⟨h6,1,0⟩
theorem XO:(ct 1 h6).2=0:=by decide
theorem xw:fr qB:=⟨XO,VR⟩
theorem aiz:fk qB=0:=Xz (c:=qB) XO (by decide) (by decide)
def qC:bL×Int:=stepT qB (bW.new qB) 0 ⟨1,5,0⟩
def z20:bL×Int:=stepT qB qC.1.1 0 ⟨1,6,0⟩
theorem aiA:qC.2=0:=by kernel_rfl
theorem aiB:qC.1.2.outs=[(2,⟨1,5,0⟩)]:=by kernel_rfl
theorem aiC:z20.2=0:=by kernel_rfl
theorem aiD:z20.1.2.outs=[(2,⟨1,11,0⟩)]:=by kernel_rfl
theorem Ql (h:J) (aB:lP h):Pure Tryz.prog 24 [] h (.bool true):=by
 refine Pure.val (bh.bool _) ?_
 refine ab.ao (c:=_) Tryz.func24 rfl (by kernel_rfl) (by simp) ?_
 simp only [aa]
 refine bU adj (aiy h) fun r h1 ⟨F,ar,amv,XP,Gf,bo⟩=>?_
 subst ar
 simp only [aa,reduceCtorEq]
 obtain ⟨gj,oY,vL⟩:=aK.own (uB (e:=29) (sz:=6) (n:=3) XP Gf (by rw [iS hF];rfl) (by simp [cN])) (n:=3) (by rw [iS hF];rfl) (by decide)
 have Co:I h gj none_:=bo.trans vL fun q af e=>by simp [bn,aR] at e;omega
 have XQ:=aB.aj Co
 have aiE:aK (.agg [.bp F 0 3 3,.int .i64 1]) h1 (.agg (cQ h6 1)) gj:=Pk.aK.agg (az.cons oY (az.refl _ _))
 refine bU CE (ab.args (az.cons aiE (az.refl _ _)) (Mn 1 qB VR gj XQ (fun _=>(0,0)) (fun _ _=>rfl) (by decide))) fun r ae ⟨k2,bb⟩=>?_
 rcases bb with ⟨aG,_⟩ | ⟨_,m,b,ie,aT,nO,oF,f2⟩
 ·exact absurd aiz aG
 subst aT
 have t2:=XQ.aj k2
 have z0:((0:Int) !=0)=false:=rfl
 simp only [aa,Nat.reduceEqDiff,Nat.reduceAdd,Nat.reduceLeDiff,reduceCtorEq,zQ,CU,tS]
 have g0:=Mo xw
 refine bU xO (ym xw nO g0.ax g0.wf f2 t2.1 (by decide) 0 ⟨1,5,0⟩) fun r aA ⟨cg,jd,LR,xC,f3,k3⟩=>?_
 have g1:=ZC xw g0 0 ⟨1,5,0⟩
 have bs:stepT qB (bW.new qB) 0 ⟨1,5,0⟩=qC:=rfl
 rw [bs] at cg LR g1
 rw [aiA] at cg
 unfold vf at cg
 rw [aiB] at cg
 obtain ⟨A2,jy⟩:∃ a,a=V.ag qC.1.2.verts.length (aO qC.1.2.verts):=⟨_,rfl⟩
 obtain ⟨Ji,GM⟩:∃ a,a=eP qC.1.2.chgs:=⟨_,rfl⟩
 obtain ⟨Jj,GN⟩:∃ a,a=V.ag qC.1.2.deads.length (qC.1.2.deads.flatMap co):=⟨_,rfl⟩
 rw [←jy,←GM,←GN] at cg
 have Pc:A2.one=true:=by rw [jy];rfl
 have Pd:Ji.one=true:=by rw [GM];rfl
 have Pe:Jj.one=true:=by rw [GN];rfl
 clear jy GM GN
 have XR:r=.tuple [.agg [.ag 1 [.int .i64 2,.int .i64 1,.int .i64 5,.int .i64 0],A2,Ji,Jj],.int .i64 0]:=cg
 clear cg
 subst XR
 have nz:∀ (a b c d:V),(V.agg [a,b,c,d]).cells=some [a,b,c,d]:=fun _ _ _ _=>rfl
 have GB:=vG (a:=.ag 1 [.int .i64 2,.int .i64 1,.int .i64 5,.int .i64 0]) rfl Pc Pd Pe
 obtain ⟨gC,iy⟩:∃ x,x=aA.push (.cells [.ag 1 [.int .i64 2,.int .i64 1,.int .i64 5,.int .i64 0],A2,Ji,Jj] 67 none):=⟨_,rfl⟩
 have bY:I aA gC none_:=by rw [iy];exact I.push _ _ _
 have g4:gC.get aA.n=.cells [.ag 1 [.int .i64 2,.int .i64 1,.int .i64 5,.int .i64 0],A2,Ji,Jj] 67 none:=by rw [iy];exact b6
 have n4:gC.n=aA.n+1:=by rw [iy];rfl
 have n3:=k3.n
 have XS:=LR.aQ bY
 have f4:Fr gC jd:=fun q af=>f3 q (by omega)
 have t3:=t2.aj k3
 have t4:=t3.aj bY
 simp only [aa,Nat.reduceEqDiff,Nat.reduceAdd,Nat.reduceLeDiff,reduceCtorEq,CU,tS,tR,ss,nz,GB]
 rw [←iy]
 clear iy
 refine bU xO (ym xw XS g1.ax g1.wf f4 t4.1 (by decide) 0 ⟨1,6,0⟩) fun r bN ⟨hQ,et,amw,_,f5,cG⟩=>?_
 have b4:stepT qB qC.1.1 0 ⟨1,6,0⟩=z20:=rfl
 rw [b4] at hQ
 rw [aiC] at hQ
 unfold vf at hQ
 rw [aiD] at hQ
 obtain ⟨Jk,kV⟩:∃ a,a=V.ag z20.1.2.verts.length (aO z20.1.2.verts):=⟨_,rfl⟩
 obtain ⟨Jl,GO⟩:∃ a,a=eP z20.1.2.chgs:=⟨_,rfl⟩
 obtain ⟨Jm,GP⟩:∃ a,a=V.ag z20.1.2.deads.length (z20.1.2.deads.flatMap co):=⟨_,rfl⟩
 rw [←kV,←GO,←GP] at hQ
 have Pf:Jk.one=true:=by rw [kV];rfl
 have Pg:Jl.one=true:=by rw [GO];rfl
 have Ph:Jm.one=true:=by rw [GP];rfl
 clear kV GO GP
 have XT:r=.tuple [.agg [.ag 1 [.int .i64 2,.int .i64 1,.int .i64 11,.int .i64 0],Jk,Jl,Jm],.int .i64 0]:=hQ
 clear hQ
 subst XT
 have Ag:=cG.n
 have XU:=(cG.get aA.n (by omega) (by rw [f3 _ (Nat.le_refl _)];decide)).trans g4
 have zc:=vG (a:=.ag 1 [.int .i64 2,.int .i64 1,.int .i64 11,.int .i64 0]) rfl Pf Pg Ph
 obtain ⟨pt,lF⟩:∃ x,x=bN.push (.cells [.ag 1 [.int .i64 2,.int .i64 1,.int .i64 11,.int .i64 0],Jk,Jl,Jm] 67 none):=⟨_,rfl⟩
 have fY:I bN pt none_:=by rw [lF];exact I.push _ _ _
 have g6:pt.get bN.n=.cells [.ag 1 [.int .i64 2,.int .i64 1,.int .i64 11,.int .i64 0],Jk,Jl,Jm] 67 none:=by rw [lF];exact b6
 have XV:=(fY.get aA.n (by omega) (by simp [none_])).trans XU
 have atI:((0:Int)==0)=true:=rfl
 have aiF:(((1:Nat):Int)==1)=true:=rfl
 have z5:((5:Int)==5)=true:=rfl
 have amx:((11:Int)==11)=true:=rfl
 have z2:((2:Int)==2)=true:=rfl
 have XW:ir Tryz.prog 64 (.ag 1 [.int .i64 2,.int .i64 1,.int .i64 5,.int .i64 0]) (.int .i64 0)=some (.at [.int .i64 2,.int .i64 1,.int .i64 5,.int .i64 0]):=oJ (l:=[((2:Int),(⟨1,5,0⟩:Rec))]) (k:=0) zR (by decide) H5
 have XX:ir Tryz.prog 64 (.ag 1 [.int .i64 2,.int .i64 1,.int .i64 11,.int .i64 0]) (.int .i64 0)=some (.at [.int .i64 2,.int .i64 1,.int .i64 11,.int .i64 0]):=oJ (l:=[((2:Int),(⟨1,11,0⟩:Rec))]) (k:=0) zR (by decide) H5
 simp only [aa,Nat.reduceEqDiff,reduceCtorEq,yp,yq,tR,ss,nz,zc]
 rw [←lF]
 clear lF
 simp only [aa,Nat.reduceEqDiff,Nat.reduceAdd,Nat.reduceLeDiff,reduceCtorEq,EO,yp,Sp,Ze,ls,br,a7,yq,XV,g6,aiF,XW,XX,aI,Tryz.results24,ac]
 have np:I h pt none_:=by
  refine I.trans (I.trans (I.trans (I.trans (Co.trans' k2) k3 fun q af e=>?_) bY fun q af e=>e.elim) cG fun q af e=>?_) fY fun q af e=>e.elim
  ·have:=Co.n
   rw [oF q (by omega)] at e
   exact absurd (show (0:Nat)=1 from e) (by decide)
  ·have:=Co.n
   have:=k2.n
   rw [xC q (by omega),oF q (by omega)] at e
   exact absurd (show (0:Nat)=1 from e) (by decide)
 exact au ⟨rfl,np⟩
theorem amy (h:J):Pure Tryz.prog 32 [.cZ] h .ah:=by
 refine ab.ao (c:=_) Tryz.func32 rfl (by kernel_rfl) (by simp) ?_
 simp only [aa,Nat.reduceEqDiff,reduceCtorEq,zQ,aI,Tryz.results32,ac]
 exact au ⟨rfl,rfl⟩
theorem aiG (v:Int) (h:J):Pure Tryz.prog 71 [.cZ,.int .i64 v] h (.bool false):=by
 refine ab.ao (c:=_) Tryz.func71 rfl (by kernel_rfl) (by simp) ?_
 simp only [aa,Nat.reduceEqDiff,reduceCtorEq]
 refine bB Qp (amy h) ?_
 simp only [aa,Nat.reduceEqDiff]
 refine bU Kr (ab.args (az.cons (aK.iR _) (az.cons (aK.refl _ _) (az.refl _ _))) (Lm [] v (by decide) h)) fun r h1 ⟨ar,aT⟩=>?_
 subst ar aT
 simp only [aa,Nat.reduceEqDiff,aI,Tryz.results71,ac]
 exact au ⟨rfl,rfl⟩
theorem atJ (h:J):Pure Tryz.prog 33 [.cZ] h (.int .i64 (-1)):=by
 refine ab.ao (c:=_) Tryz.func33 rfl (by kernel_rfl) (by simp) ?_
 simp only [aa,Int.reduceNeg,Nat.reduceEqDiff,reduceCtorEq,zQ,aI,Tryz.results33,ac]
 exact au ⟨rfl,rfl⟩
theorem amz (v:Int) (h:J):Pure Tryz.prog 78 [.cZ,.int .i64 v] h .cZ:=by
 refine ab.ao (c:=_) Tryz.func78 rfl (by kernel_rfl) (by simp) ?_
 simp only [aa,Nat.reduceEqDiff,reduceCtorEq,zQ,aI,Tryz.results78,ac]
 exact au ⟨rfl,rfl⟩
theorem atK (v:Int) (h:J):Pure Tryz.prog 29 [.cZ,.int .i64 v] h .ah:=by
 refine ab.ao (c:=_) Tryz.func29 rfl (by kernel_rfl) (by simp) ?_
 simp only [aa,Nat.reduceEqDiff,reduceCtorEq]
 refine bB Ks (aiG v h) ?_
 simp only [aa,Nat.reduceEqDiff,reduceCtorEq]
 refine bB Zk (amz v h) ?_
 simp only [aa,Nat.reduceEqDiff]
 refine bB ac7 (amf h) ?_
 simp only [aa,Nat.reduceEqDiff,aI,Tryz.results29,ac]
 exact au ⟨rfl,rfl⟩
theorem atL (v:Int) (d:ai) (h:J):Pure Tryz.prog 28 [.cZ,.int .i64 v,.agg (aw d)] h (.int .i64 6):=by
 refine Pure.val (bh.int _ _) ?_
 refine ab.ao (c:=_) Tryz.func28 rfl (by kernel_rfl) (by simp) ?_
 obtain ⟨J5,aun,auo,Qq,k9⟩:=d
 simp only [aw]
 simp only [aa,Nat.reduceEqDiff,reduceCtorEq]
 refine bB Ks (aiG v _) ?_
 simp only [aa,Nat.reduceEqDiff,reduceCtorEq]
 refine bB Zk (amz v _) ?_
 simp only [aa,Nat.reduceEqDiff,ML,aI,Tryz.results28,ac]
 exact au ⟨rfl,I.push _ _ _⟩
theorem atM (v:Int) (r:Rec) (h:J):Pure Tryz.prog 27 [.cZ,.int .i64 v,.agg (aD r)] h (.tuple [.agg [.ah,.ah,.ah,.ah],.int .i64 6]):=by
 refine Pure.val (bh.tuple (bl.cons (bh.agg (bl.cons bh.ah (bl.cons bh.ah (bl.cons bh.ah (bl.cons bh.ah bl.nil))))) (bl.cons (bh.int _ _) bl.nil))) ?_
 refine ab.ao (c:=_) Tryz.func27 rfl (by kernel_rfl) (by simp) ?_
 obtain ⟨bJ,b5,rt⟩:=r
 simp only [aD]
 simp only [aa,Nat.reduceEqDiff,reduceCtorEq,tR]
 refine bB Ks (aiG v _) ?_
 simp only [aa,Nat.reduceEqDiff,Nat.reduceAdd,yn,Zl,tR,ss,aI,Tryz.results27,fW,fJ,eI,fV]
 exact au ⟨rfl,(I.push h _ none_).a8 _⟩
theorem atN (v:Int) (r:Rec) (h:J) (aB:lP h):ab Tryz.prog 9 [.int .i64 v,.agg (aD r)] h (fun r h'=>r=.bool true):=by
 refine ab.ao (c:=_) Tryz.func9 rfl (by kernel_rfl) (by simp) ?_
 obtain ⟨bJ,b5,rt⟩:=r
 simp only [aD]
 obtain ⟨H,hH⟩:∃ x,x=h.push (.cells [.int .i64 bJ,.int .i64 b5,.int .i64 rt] 38 none):=⟨_,rfl⟩
 have bq:I h H none_:=by rw [hH];exact I.push _ _ _
 have g0:H.get h.n=.cells [.int .i64 bJ,.int .i64 b5,.int .i64 rt] 38 none:=by rw [hH];exact b6
 simp only [aa,Int.reduceNeg]
 rw [←hH]
 clear hH
 refine bB Qk (Ql H (aB.aj bq)) ?_
 simp only [aa,Int.reduceNeg,Nat.reduceEqDiff,Nat.reduceAdd,reduceCtorEq,dj,g0]
 refine bB xO (atM v ⟨bJ,b5,rt⟩ H) ?_
 have aup:((6:Int)==6)=true:=rfl
 have z0:((0:Int)==0)=true:=rfl
 have at6:(((0:Nat):Int)==0)=true:=rfl
 have auq:((-1:Int)==-1)=true:=rfl
 simp only [aa,Int.reduceNeg,Nat.reduceEqDiff,Nat.reduceAdd,reduceCtorEq,yp,ls,yq,tU,ks,tR,ss]
 refine bB acb (atL v ⟨0,0,0,0,false⟩ _) ?_
 simp only [aa,Int.reduceNeg,Nat.reduceEqDiff,reduceCtorEq]
 refine bB Za (atK v _) ?_
 simp only [aa,Int.reduceNeg,Nat.reduceEqDiff,pv]
 refine bB adf (atJ _) ?_
 simp only [aa,Int.reduceNeg,Nat.reduceEqDiff]
 refine bB Qp (amy _) ?_
 simp only [aa,Int.reduceNeg,Nat.reduceEqDiff,mh,aI,Tryz.results9,ac]
 exact au rfl
def be (x:dS):List V:=[.ag x.outs.length (x.outs.flatMap dg),.ag x.verts.length (aO x.verts),eP x.chgs,.ag x.deads.length (x.deads.flatMap co)]
theorem Qo (x:dS):(be x).length=4:=rfl
theorem atO (x:dS):(be x).all (·.one)=true:=rfl
def w5 (c:aZ):bW→List w3→List dS
 | _,[]=>[]
 | s,x::r=>(stepT c s x.v x.r).1.2::w5 c (stepT c s x.v x.r).1.1 r
theorem aiH (c:aZ):∀ (s:bW) (a b:List w3),w5 c s (a++b)=w5 c s a++w5 c (runT c s a) b
 | s,[],b=>rfl
 | s,x::a,b=>by
  show _::w5 c _ (a++b)=_
  rw [aiH c _ a b]
  rfl
theorem Qn (c:aZ):∀ (s:bW) (a:List w3),(w5 c s a).length=a.length
 | s,[]=>rfl
 | s,x::a=>by
  show (w5 c _ a).length+1=a.length+1
  rw [Qn c _ a]
theorem aky {c:aZ} {s:bW} {l:List w3} {i:Nat} (hi:i<l.length):w5 c s (l.take (i+1))=w5 c s (l.take i)++[(stepT c (runT c s (l.take i)) l[i].v l[i].r).1.2]:=by
 rw [List.take_succ_eq_append_getElem hi,aiH]
 rfl
theorem asc {c:aZ} {s:bW} {l:List w3} {n j:Nat} (aG:n≤l.length) (aX:j<n):∃ (h:j<(w5 c s (l.take n)).length),(w5 c s (l.take n))[j]=(stepT c (runT c s (l.take j)) (l[j]'(by omega)).v (l[j]'(by omega)).r).1.2:=by
 have hlen:(w5 c s (l.take n)).length=n:=by rw [Qn,List.length_take];omega
 refine ⟨by omega,?_⟩
 have ae:l.take n=l.take (j+1)++(l.drop (j+1)).take (n - (j+1)):=by
  rw [←List.take_add]
  congr 1
  omega
 have aA:w5 c s (l.take n)=w5 c s (l.take j)++([(stepT c (runT c s (l.take j)) (l[j]'(by omega)).v (l[j]'(by omega)).r).1.2]++w5 c (runT c s (l.take (j+1))) ((l.drop (j+1)).take (n - (j+1)))):=by
  rw [ae,aiH,aky (show j<l.length by omega),List.append_assoc]
 have bk:(w5 c s (l.take j)).length=j:=by rw [Qn,List.length_take];omega
 have bN:(w5 c s (l.take n))[j]?=some (stepT c (runT c s (l.take j)) (l[j]'(by omega)).v (l[j]'(by omega)).r).1.2:=by
  rw [aA,List.getElem?_append_right (by omega),bk,Nat.sub_self]
  rfl
 exact (List.getElem?_eq_some_iff.1 bN).2
theorem atP {P:Program} {t:TypeId} {T:qi} (cS:jq P t=some T) (eH:0<T.sz) {α:Type} {enc:α→List V} (hlen:∀ a,(enc a).length=T.sz) (b3:∀ a,(enc a).all (·.one)=true) (hk:Ab.eF P t=some 1) (av:T.an≤1024)
  {h:J} {s:V} {cs:List α} (o:Own h T.e T.sz s (cs.flatMap enc)) (aM:cs.length≤2 ^ 36) (c:α) :
  ∃ b7 h',n2 P t t s (.bp h.n 0 1 1) (h.push (.cells (enc c) T.e none))=some (b7,h')∧Own h' T.e T.sz b7 ((cs++[c]).flatMap enc)∧I (h.push (.cells (enc c) T.e none)) h' (bn s)∧bQ (h.push (.cells (enc c) T.e none)) s b7:=by
 have k:I h (h.push (.cells (enc c) T.e none)) none_:=I.push _ _ _
 have ll:Own (h.push (.cells (enc c) T.e none)) T.e T.sz (.bp h.n 0 1 1) (enc c):=Own.js _ 1 (by rw [hlen];omega) (by decide)
 have eh:=w1 (P:=P) (t:=t) hk ll (n:=1) (by rw [hlen];omega) eH (b3 c)
 obtain ⟨b7,h',ei,k8,gk,gB⟩:=wv (P:=P) (t:=t) (tx:=t) cS eH (o.aQ k) eh (by rw [hlen];omega) (fun m hm=>by
  rw [iS hlen,hlen] at hm
  have:m=cs.length+1:=Nat.eq_of_mul_eq_mul_right eH (by rw [hm,Nat.add_mul];omega)
  subst this
  have ae:(cs.length+1) * T.an≤(2 ^ 36+1) * 1024:=Nat.mul_le_mul (by omega) av
  exact ⟨by simp only [lim];omega,by simp only [lim];omega⟩)
 refine ⟨b7,h',ei,?_,gk,gB⟩
 rw [List.flatMap_append]
 simpa using k8
theorem YZ {cO:List w3} {i:Nat} (hi:i<cO.length):ir Tryz.prog 57 (.ag cO.length (cO.flatMap lD)) (.int .i64 (i:Int))=some (.at (lD cO[i]++(cO.drop (i+1)).flatMap lD)):=oJ atH hi as8
theorem ab0 (n:Nat) (aG:n<256):(n:Int).tmod 4=((n % 4:Nat):Int)∧IntKind.u8.wrap ((n % 4:Nat):Int)=((n % 4:Nat):Int)∧IntKind.i64.wrap ((n % 4:Nat):Int)=((n % 4:Nat):Int):=by
 refine ⟨by rw [Int.tmod_eq_emod_of_nonneg (by omega)];rfl,?_,Go.IntWalk.i64_in _ (by omega)⟩
 rw [IntKind.wrap_u8]
 omega
theorem dA.w4 {h h':J} {aJ ow':cM} {id m:Nat} {b:At} {c:aZ} {s:bW} (k:dA h aJ id m b c s) (hk:I h h' none_) (he:∀ q,q<h.n→ow' q=aJ q):dA h' ow' id m b c s:=k.aj hk (fun _ _ U=>by simp [none_] at U) he
theorem dA.jv {h h':J} {aJ ow':cM} {id i2 m:Nat} {b:At} {c:aZ} {s:bW} (k:dA h aJ id m b c s) (hk:I h h' (fun q=>(aJ q).1=i2)) (he:∀ q,q<h.n→ow' q=aJ q) (hi:i2≠id):dA h' ow' id m b c s:=k.aj hk (fun q _ U=>by rw [U];exact hi) he
theorem Sc (H:J) (x:dS):lk Tryz.prog 75 1 [(0,.agg (be x))] H=some (.bp H.n 0 1 1,H.push (.cells (be x) 67 none)):=by rw [p0 alR];rfl
theorem akz {H:J} {aJ:cM} {v:V} {cs:List dS} (o:Own H 67 4 v (cs.flatMap be)) (d:nX aJ (0,0) (ga v)) (f:Fr H aJ) (aM:cs.length≤2 ^ 36) (x:dS) :
  ∃ v' r8,n2 Tryz.prog 75 75 v (.bp H.n 0 1 1) (H.push (.cells (be x) 67 none))=some (v',r8)∧Own r8 67 4 v' ((cs++[x]).flatMap be)∧nX aJ (0,0) (ga v')∧Fr r8 aJ∧I H r8 (fun q=>aJ q=(0,0)∧bn v q):=by
 obtain ⟨v',r8,ei,k8,gk,gB⟩:=atP (P:=Tryz.prog) (t:=75) alR (by decide) Qo atO ab4 (by decide) o aM x
 have hp:I H (H.push (.cells (be x) 67 none)) none_:=I.push _ _ _
 refine ⟨v',r8,ei,k8,fun q af=>?_,fun q af=>f q (Nat.le_trans (Nat.le_trans hp.n gk.n) af),(hp.up.trans' gk).mono fun q af=>⟨d q (am.2 af),af⟩⟩
 rcases gB with e | e
 ·exact d q (by rw [am,←e];exact am.1 af)
 ·exact f q (Nat.le_trans hp.n (e q (am.1 af)))
structure qo (id m:Nat) (b:At) (c:aZ) (h:J) (aJ:cM) (s:bW) (x:dS) (t:Nat) (H:J) (ow':cM):Prop where
 dq:dA H ow' id m b c s
 get:H.get t=.cells (be x) 67 none
 lt:t<H.n
 new:h.n≤t
 own:ow' t=(0,0)
 aj:I h H (fun q=>(aJ q).1=id)
 cH:∀ q,q<h.n→ow' q=aJ q
 ay:Fr H ow'
section
variable {id m:Nat} {b:At} {c:aZ} {h bN:J} {aJ et:cM} {s:bW} {x:dS}
theorem qo.push (k:dA bN et id m b c s) (he:∀ q,q<h.n→et q=aJ q) (f:Fr bN et) (cG:I h bN (fun q=>(aJ q).1=id)):qo id m b c h aJ s x bN.n (bN.push (.cells (be x) 67 none)) et:=by
 have hp:I bN (bN.push (.cells (be x) 67 none)) none_:=I.push _ _ _
 exact ⟨k.aQ hp,b6,by rw [eA];omega,cG.n,f _ (Nat.le_refl _),cG.trans hp fun _ _ e=>e.elim,he,fun q af=>f q (Nat.le_trans hp.n af)⟩
theorem qo.set {ob:aV} (h0:id≠0) (ay:Fr h aJ) (k:dA bN et id m b c s) (he:∀ q,q<(h.push ob).n→et q=aJ q) (f:Fr bN et) (cG:I (h.push ob) bN (fun q=>(aJ q).1=id)):qo id m b c h aJ s x h.n (bN.set h.n (.cells (be x) 67 none)) et:=by
 have hp:I h (h.push ob) none_:=I.push _ _ _
 have Ag:=cG.n
 rw [eA] at Ag
 have dV:I bN (bN.set h.n (.cells (be x) 67 none)) (·=h.n):=I.set _ _ _
 have bc:et h.n=(0,0):=(he _ (by rw [eA];omega)).trans (ay _ (Nat.le_refl _))
 exact ⟨k.aj dV (fun q _ e=>by subst e;rw [bc];exact fun e=>h0 e.symm) fun _ _=>rfl,aL,by show h.n<bN.n;omega,Nat.le_refl _,bc,((hp.up.trans cG fun q _ e=>e).trans dV fun q af e=>by omega),fun q af=>he q (by rw [eA];omega),fun q af=>f q af⟩
end
theorem Own.apart {h:J} {e aT:TypeId} {sz q:Nat} {v:V} {cs c:List V} {x:Option Nat} (o:Own h e sz v cs) (g:h.get q=.cells c aT x) (bZ:e≠aT):¬bn v q:=fun U=>by
 rcases o with ⟨rfl | rfl,_⟩ | ⟨i,len,cap,lL,ex,rfl,hi,aB,_⟩
 ·cases U
 ·cases U
 ·obtain rfl:i=q:=Option.some.inj U
  rw [aB] at g
  injection g with g1 g2
  exact bZ g2
theorem aP.Py {P:Program} {n:Nat} {c:Code} {Q:ed→aE→J→Prop} {f:aE} {h:J} (R:aE→Prop) (e1:R f) (hk:∀ cx,R cx→aP P n c Q cx h):aP P n c Q f h:=hk f e1
def pW:Nat→Option (List V):=fun k=>if k=1 then some eM else if k=2 then some l9 else none
theorem QQ:lP (t8 pW):=⟨rfl,rfl⟩
def me:List (List Int):=[[0,0,0,0],[0,0,0,7],[1,1,0,0],[1,1,0,0],[1,1,0,0],[1,1,0,0],[1,2,0,0],[1,2,1,1048576],[1,2,1,1048576],[2,2,0,0],[1,0,0,7]]
def qD:List Int:=me.flatten
def GQ {H:Type} (r:List Int):DataW H:=.agg (r.map fun z=>.lit (.int .i64 z))
def XY {H:Type}:DataW H:=.agg (me.map GQ)
theorem XZ {α:Type}:∀ (n:Nat) (cs:List α) (f:Nat→List α),cs.length=n * 4→(∀ i,i<n→(cs.drop (i * 4)).take 4=f i)→cs=((List.range n).map f).flatten
 | 0,cs,f,aM,h=>by
  have:cs=[]:=List.eq_nil_of_length_eq_zero (by simpa using aM)
  subst this
  rfl
 | n+1,cs,f,aM,h=>by
  have h0:=h 0 (by omega)
  simp only [Nat.zero_mul,List.drop_zero] at h0
  have ih:=XZ n (cs.drop 4) (fun i=>f (i+1)) (by rw [List.length_drop];omega) fun i hi=>by
   have:=h (i+1) (by omega)
   rw [List.drop_drop,show 4+i * 4=(i+1) * 4 by omega]
   exact this
  rw [List.range_succ_eq_map,List.map_cons,List.flatten_cons,List.map_map]
  show cs=f 0++((List.range n).map fun i=>f (i+1)).flatten
  rw [←ih,←h0,List.take_append_drop]
def Pj (P:Program) (t:TypeId):Bool:=match P.underlying t with
 | some (.struct dT)=>dT.size==4&&(List.range 4).all fun i=>match dT[i]? with
  | some f=>(match P.underlying f.type with | some (.int .i64)=>true | _=>false)&&(f.offset==i&&P.cellsOf f.type==1)
  | none=>false
 | _=>false
theorem aiI {P:Program} {t:TypeId} (h:Pj P t=true):∃ dT,P.underlying t=some (.struct dT)∧dT.size=4∧∀ (i:Nat) (f:Field),dT[i]?=some f→P.underlying f.type=some (.int .i64)∧f.offset=i∧P.cellsOf f.type=1:=by
 unfold Pj at h
 split at h
 ·rename_i dT hu
  simp only [Bool.and_eq_true,beq_iff_eq,List.all_eq_true,List.mem_range] at h
  refine ⟨dT,hu,h.1,fun i f aC=>?_⟩
  have hi:i<4:=by
   have:=(Array.getElem?_eq_some_iff.1 aC).1
   omega
  have:=h.2 i hi
  rw [aC] at this
  simp only [Bool.and_eq_true,beq_iff_eq] at this
  obtain ⟨a,b,c⟩:=this
  refine ⟨?_,b,c⟩
  split at a
  ·assumption
  ·cases a
 ·cases h
theorem aiJ {P:Program} {w:World} {base:Nat} {sp:Nat→Bool} {held:Bool} {fuel:Nat} {t e:TypeId} {cs:List Value} {p:List MemPlace}
  (bw:P.underlying t=some (.array 11 e)) (ba:Pj P e=true) (wM:P.cellsOf e=4) (FN:P.cellsOf t=44)
  (h:DataW.trod (fun _=>()) P w base sp held fuel t cs=some ((XY:DataW Unit),p)):cs=qD.map fun z=>Value.int .i64 z:=by
 obtain ⟨dT,hu,ad,aC⟩:=aiI ba
 have aM:cs.length=44:=by
  cases fuel with
  | zero=>simp [DataW.trod] at h
  | succ fuel=>
   simp only [DataW.trod,bw] at h
   split at h
   ·rename_i aM
    rw [FN] at aM
    exact aM
   ·cases h
 have kB:∀ i,i<11→(cs.drop (i * 4)).take 4=(me.getD i []).map fun z=>Value.int .i64 z:=by
  intro i hi
  obtain ⟨ZD,d,q,bb,LS⟩:=Lib.array_elem bw h i hi
  rw [wM] at LS
  have tm:d=GQ (me.getD i []):=by
   rw [List.getElem?_map] at bb
   have:me[i]?=some (me.getD i []):=by
    rw [List.getD,List.getElem?_eq_getElem (show i<me.length from hi)]
    rfl
   rw [this] at bb
   simpa using bb.symm
  subst tm
  exact Lib.ints_of_struct hu aC (by rw [wM,ad]) LS
 have:=XZ 11 cs _ (by omega) kB
 rw [this]
 rfl
theorem QR {W : World} (h : laidMet Tryz.prog [("tidemill/expr.kids", Lib.tabData .i64 cJ), ("tidemill/topo.needs", XY)] W) : Bo pW W := by
 have t1 : Lib.TabIs Tryz.prog W "tidemill/expr.kids" .i64 cJ := Lib.tabIs_of_head (k := .i64) (zs := cJ) (g := 1) (t := 283) (e := 3) (n := 17) (by kernel_rfl) (by kernel_rfl) (by kernel_rfl) (by kernel_rfl) (by kernel_rfl) (by kernel_rfl) h
 have t2 : Lib.TabIs Tryz.prog W "tidemill/topo.needs" .i64 qD := by
  obtain ⟨ps,⟨aje,nV,cs,fuel,p,q,yu,hO,Pl,bb,_,_⟩,_⟩:=laidMet.tail h
  have aB : Tryz.prog.globalNamed "tidemill/topo.needs" = some 2 := by kernel_rfl
  have X0:(Tryz.prog.globals[2]?).map (·.type)=some 339:=by kernel_rfl
  obtain rfl:=Option.some.inj (aB.symm.trans yu)
  obtain rfl:=Option.some.inj (X0.symm.trans hO)
  unfold Lib.TabIs
  rw [Pl,←aiJ (e:=338) (by kernel_rfl) (by kernel_rfl) (by kernel_rfl) (by kernel_rfl) bb]
 intro k cs hk
 unfold pW at hk
 split at hk
 ·rename_i e
  subst e
  obtain rfl:=Option.some.inj hk
  exact YO (by kernel_rfl) t1
 ·split at hk
  ·rename_i _ e
   subst e
   obtain rfl:=Option.some.inj hk
   exact YO (by kernel_rfl) t2
  ·cases hk
theorem aiK {l:List V} (h:ko.il BF (.cat (.int .i64) (.cat (.bp (.int .i64)) (.cat (.ext 3) (.cat (.int .i64) .unit)))) l):∃ v:bu,tp v∧l=al v:=by
 obtain ⟨ff,_,rfl,⟨kind,rfl,sD⟩,eY,_,rfl,⟨es,rfl,aG,oI⟩,wX,_,rfl,⟨⟨e,ba,rfl⟩,_⟩,amq,_,rfl,⟨n,rfl,wn⟩,rfl⟩:=h
 obtain ⟨aS,rfl,hw⟩:=Ab.abk (k:=.i64) oI
 refine ⟨⟨kind,aS,e,n⟩,⟨ba,by simpa using aG,Ab.wf_i64 sD,Ab.wf_i64 wn,fun f aC=>Ab.wf_i64 (hw f aC)⟩,?_⟩
 simp only [al,ajH,List.length_map,List.append_nil,List.nil_append,List.cons_append]
 rfl
theorem ZE {l:List V} (h:ko.il BF (.cat (.bp (.cat (.int .i64) (.cat (.bp (.int .i64)) (.cat (.ext 3) (.cat (.int .i64) .unit))))) (.cat (.int .i64) .unit)) l):∃ (t:List bu) (p:Int),kh t∧hy p∧l=cQ t p:=by
 obtain ⟨ff,_,rfl,⟨es,rfl,aG,oI⟩,eY,_,rfl,⟨p,rfl,wp⟩,rfl⟩:=h
 have:∃ vs:List bu,(∀ v ∈ vs,tp v)∧es.length=vs.length∧es.flatten=vs.flatMap al:=by
  clear aG
  induction es with
  | nil=>exact ⟨[],by simp,rfl,rfl⟩
  | cons a r ih=>
   obtain ⟨vs,h1,ae,aA⟩:=ih fun e he=>oI e (by simp [he])
   obtain ⟨v,aN,rfl⟩:=aiK (oI a (by simp))
   refine ⟨v::vs,fun x ak=>?_,by simp [ae],by simp [aA]⟩
   rcases List.mem_cons.1 ak with rfl | ak
   ·exact aN
   ·exact h1 x ak
 obtain ⟨vs,h1,ae,aA⟩:=this
 exact ⟨vs,p,⟨by omega,h1⟩,Ab.wf_i64 wp,by rw [ae,aA];rfl⟩
theorem X1 {e:List V} (h:mg.iK (.cat (.int .i64) (.cat (.cat (.int .i64) (.cat (.int .i64) (.cat (.int .i64) .unit))) (.cat .bool (.cat (.cat (.int .i64) (.cat (.int .i64) (.cat (.int .i64) (.cat (.int .i64) (.cat .bool .unit))))) .unit)))) e):∃ d:w3,e=lD d:=by
 obtain ⟨_,_,rfl,⟨a,rfl,_⟩,_,_,rfl,⟨_,_,rfl,⟨cA,rfl,_⟩,_,_,rfl,⟨eb,rfl,_⟩,_,_,rfl,⟨jk,rfl,_⟩,rfl⟩,_,_,rfl,⟨x,rfl⟩,_,_,rfl,⟨_,_,rfl,⟨d,rfl,_⟩,_,_,rfl,⟨e,rfl,_⟩,_,_,rfl,⟨f,rfl,_⟩,_,_,rfl,⟨g,rfl,_⟩,_,_,rfl,⟨y,rfl⟩,rfl⟩,rfl⟩:=h
 exact ⟨⟨a,⟨cA,eb,jk⟩,x,⟨d,e,f,g,y⟩⟩,rfl⟩
end Go.Proofs.YtedkjhifbibpmaaGreatDoor.Pk
