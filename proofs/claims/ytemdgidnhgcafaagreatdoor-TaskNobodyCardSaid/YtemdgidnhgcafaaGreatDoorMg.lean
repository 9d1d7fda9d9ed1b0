/-
  What functions of the program do, told of abstract states. Conditions: as each theorem says.
-/
import Derived.Test.YtemdgidnhgcafaaGreatDoorMf
import Derived.Test.YtemdgidnhgcafaaGreatDoorMa
import Derived.Test.YtemdgidnhgcafaaGreatDoorAbD
import Derived.Test.YtemdgidnhgcafaaGreatDoorMc
open List renaming map_cons->au9,find?_cons->avX,find?->aBH,mem_cons->IN,mem_append->avs,mem_flatMap->axK,length_append->IS,getElem?_eq_getElem->ME,getElem_mem->avb,flatMap_append->avH,drop_eq_getElem_cons->avk,all_eq_true->avh,take_succ_eq_append_getElem->avt,all_append->awR,take_length->avT,take_of_length_le->are,length_cons->ave,append_assoc->au8,mem_singleton->aw1,length_nil->avi
open Nat renaming lt_of_lt_of_le->MC,le_refl->BY,reduceEqDiff->vt,reduceAdd->AS,reduceLeDiff->By,zero_le->Dc,eq_of_mul_eq_mul_right->awk,le_trans->OF,mul_one->VU
open Go.Proofs.Tryz renaming prog->ds,results34->ax6,func42->aBI,results42->aw0,results43->aBJ,results15->awo,results52->aBL,underlying3->axu,results51->aBM,results50->aBN,results53->axw,func38->ax7,results38->axx
open Int renaming toNat_natCast->avc,le_refl->av1,le_trans->awF
open Option renaming map_some->avI
open Bool renaming eq_iff_iff->avv
set_option linter.unusedVariables false
set_option linter.unusedSimpArgs false
set_option maxHeartbeats 4000000
set_option maxRecDepth 10000
namespace Go.Proofs.YtemdgidnhgcafaaGreatDoor.Pk
open Go Go.Proofs Go.Proofs.YtemdgidnhgcafaaGreatDoor.Ab
def ic (f:Int→Int) (L:Seen):Seen:=L.map fun e=>(e.1,e.2.1,f e.2.1)
theorem aq1 {f g:Int→Int} {L:Seen} (h:∀ z ∈ L.map (·.2.1),f z=g z):ic f L=ic g L:=by
 unfold ic;refine List.map_congr_left fun e he=>?_;rw [h _ (List.mem_map.2 ⟨e,he,rfl⟩)]
theorem acT (f:Int→Int) (v:Int):∀ L:Seen,dU (ic f L) v=if v ∈ L.map (·.2.1) then some (f v) else none
 | []=>rfl
 | e::L=>by
  have ih:=acT f v L;unfold dU at ih⊢;rw [ic,au9,avX];by_cases h:e.2.1=v
  ·subst h;simp
  ·have h1:(e.2.1==v)=false:=by simpa using h
   have ad:¬v=e.2.1:=fun U=>h U.symm;show ((match e.2.1==v with | true=>some (e.1,e.2.1,f e.2.1) | false=>aBH (fun e=>e.2.1==v) (ic f L)).map (fun e:Nat×Int×Int=>e.2.2))=_
   rw [h1];show (aBH (fun e=>e.2.1==v) (ic f L)).map (fun e:Nat×Int×Int=>e.2.2)=_;rw [ih];have aD:v ∈ (e::L).map (fun x:Nat×Int×Int=>x.2.1)↔v ∈ L.map (fun x:Nat×Int×Int=>x.2.1):=by
    rw [au9,IN];exact ⟨fun U=>U.resolve_left ad,.inr⟩
   by_cases bn:v ∈ L.map (fun x:Nat×Int×Int=>x.2.1)
   ·rw [if_pos bn,if_pos (aD.2 bn)]
   ·rw [if_neg bn,if_neg fun U=>bn (aD.1 U)]
theorem acU (cl:Nat) (f:Int→Int) (v t:Int):∀ L:Seen,v ∈ L.map (·.2.1)→(L.map (·.2.1)).Nodup→eM cl (ic f L) v t=ic (fun z=>if z=v then t else f z) L
 | [],h,_=>by simp at h
 | e::L,h,aG=>by
  rw [au9,List.nodup_cons] at aG;show eM cl ((e.1,e.2.1,f e.2.1)::ic f L) v t=(e.1,e.2.1,if e.2.1=v then t else f e.2.1)::ic (fun z=>if z=v then t else f z) L
  unfold eM;by_cases he:e.2.1=v
  ·rw [if_pos he,if_pos he];have:ic f L=ic (fun z=>if z=v then t else f z) L:=aq1 fun z bR=>by
    rw [if_neg];intro U;subst U;exact aG.1 (he ▸ bR)
   rw [←this];show (e.1,v,t)::ic f L=(e.1,e.2.1,t)::ic f L;rw [he]
  ·rw [if_neg he,if_neg he];rw [acU cl f v t L (by
    rw [au9] at h;rcases IN.1 h with h | h
    ·exact absurd h.symm he
    ·exact h) aG.2]
theorem aq2 (cl:Nat) (f:Int→Int) (v t:Int) {L:Seen} (aG:(L.map (·.2.1)).Nodup):∃ g,gP cl (ic f L) v t=ic g L:=by
 unfold gP;rw [acT];by_cases aH:v ∈ L.map (·.2.1)
 ·rw [if_pos aH];simp only;split
  ·exact ⟨f,rfl⟩
  ·split
   ·exact ⟨f,rfl⟩
   ·exact ⟨_,acU cl f v t L aH aG⟩
 ·rw [if_neg aH];exact ⟨f,rfl⟩
theorem li:∀ (zs:List Int) (k:Nat),(lb k zs).map (·.2.1)=zs∧ic (fun _=>-1) (lb k zs)=lb k zs
 | [],k=>⟨rfl,rfl⟩
 | z::r,k=>by
  obtain ⟨a,b⟩:=li r (k+1);refine ⟨?_,?_⟩
  ·show z::(lb (k+1) r).map (·.2.1)=z::r;rw [a]
  ·show (k,z,(-1:Int))::ic (fun _=>-1) (lb (k+1) r)=(k,z,-1)::lb (k+1) r;rw [b]
def I3 (c:bq):Seen:=lb 0 c.ins
theorem aq3 (c:bq):(I3 c).map (·.2.1)=c.ins:=(li c.ins 0).1
theorem aq4 (c:bq):c.ins.Nodup:=(Uk (UM c)).1.imp fun h=>by omega
theorem aq5 (c:bq):((I3 c).map (·.2.1)).Nodup:=by rw [aq3];exact aq4 c
def FI (c:bq) (s:eU):Prop:=∃ f,s.ms=ic f (I3 c)
theorem aq6 (c:bq):FI c (eU.new c):=⟨fun _=>-1,(li c.ins 0).2.symm⟩
theorem aq7 {c:bq} (o:fR c) {s:eU} (aa:FI c s) (q1:∀ u K,c.er u=some K→dP K (s.st u)) (v:Int) (r:Rec):FI c (stepT c s v r).1.1:=by
 obtain ⟨f,av⟩:=aa;rcases acS o q1 v r with h | h
 ·exact ⟨f,by rw [h,av]⟩
 ·rw [av] at h;obtain ⟨g,az⟩:=aq2 c.ins.length f v r.t (aq5 c);exact ⟨g,by rw [h,az]⟩
end Go.Proofs.YtemdgidnhgcafaaGreatDoor.Pk
namespace Go.Proofs.YtemdgidnhgcafaaGreatDoor.Pk
open Go Go.Proofs Go.Proofs.YtemdgidnhgcafaaGreatDoor.Ab
end Go.Proofs.YtemdgidnhgcafaaGreatDoor.Pk
namespace Go.Proofs.YtemdgidnhgcafaaGreatDoor.Pk
open Go Go.Proofs Go.Proofs.YtemdgidnhgcafaaGreatDoor.Ab
end Go.Proofs.YtemdgidnhgcafaaGreatDoor.Pk
namespace Go.Proofs.YtemdgidnhgcafaaGreatDoor.Pk
open Go Go.Proofs Go.Proofs.YtemdgidnhgcafaaGreatDoor.Ab
theorem UU {α:Type} {cl:Nat} {k:Int} {a:α}:∀ {l:List (Nat×Int×α)} {z:Int},dU (eM cl l k a) z=if z=k then some a else dU l z
 | [],z=>by
  unfold eM dU;rw [avX];by_cases h:z=k
  ·subst h;simp
  ·rw [if_neg h];have:(k==z)=false:=by simpa using fun e=>h e.symm
   simp [this]
 | e::r,z=>by
  have ih:=UU (cl:=cl) (k:=k) (a:=a) (l:=r) (z:=z);unfold eM;by_cases he:e.2.1=k
  ·rw [if_pos he];unfold dU;rw [avX,avX];by_cases h:z=k
   ·subst h;simp
   ·rw [if_neg h];have h1:(k==z)=false:=by simpa using fun e=>h e.symm
    have ad:(e.2.1==z)=false:=by rw [he];exact h1
    simp only [h1,ad]
  ·rw [if_neg he];unfold dU at ih⊢;rw [avX,avX];by_cases ad:e.2.1=z
   ·have aD:(e.2.1==z)=true:=by simpa using ad
    have bn:z≠k:=fun U=>he (ad.trans U);simp [aD,bn]
   ·have aD:(e.2.1==z)=false:=by simpa using ad
    simp only [aD];exact ih
structure km (h:I) (ow:cG) (id m:Nat) (b:At) (c:bq) (n:Nat):Prop where
 lt:m<h.n
 get:h.get m=.cells (c.cells b) 150 none
 own:ow m=(id,1)
 marks:d8 h (.ptr b.kC 0) (lb 0 c.ins) b.kC b.sv c.ins.length
 gQ:ow b.kC=(id,2)∧ow b.sv=(id,3)
 kD:b.mp<h.n
 map:h.get b.mp=.map (mapOf .i64 v7 b.es) b.cl
 lJ:ow b.mp=(id,4)
 some:∀ u K,u<n→c.er u=some K→∃ a O x,dU b.es (u:Int)=Option.some a∧c.l[u]?=some x∧hS h a O K x.e x.n []∧nc ow (id,10+u) O∧c1 x.e=true
 none:∀ u,(n≤u∨c.er u=Option.none)→dU b.es (u:Int)=Option.none
section
variable {h h':I} {ow ow':cG} {id m n:Nat} {b:At} {c:bq}
theorem km.ai {M:Nat→Prop} (k:km h ow id m b c n) (hk:J h h' M) (hm:∀ q,q<h.n→M q→(ow q).1≠id) (he:∀ q,q<h.n→ow' q=ow q):km h' ow' id m b c n:=by
 obtain ⟨aC,h9,nd,nQ,g1,g2,st⟩:=k.marks;have nf:∀ q,q<h.n→(ow q).1=id→h'.get q=h.get q:=fun q ab aN=>hk.get q ab fun U=>hm q ab U aN;refine ⟨MC k.lt hk.n,(nf _ k.lt (by rw [k.own])).trans k.get,(he _ k.lt).trans k.own,⟨aC,MC h9 hk.n,MC nd hk.n,nQ,(nf _ h9 (by rw [k.gQ.1])).trans g1,(nf _ nd (by rw [k.gQ.2])).trans g2,st⟩,
  ⟨(he _ h9).trans k.gQ.1,(he _ nd).trans k.gQ.2⟩,MC k.kD hk.n,(nf _ k.kD (by rw [k.lJ])).trans k.map,(he _ k.kD).trans k.lJ,fun u K hu cq=>?_,k.none⟩
 obtain ⟨a,O,x,h1,ad,aD,bn,bN⟩:=k.some u K hu cq;exact ⟨a,O,x,h1,ad,aD.ai hk fun q ab U=>hm q (aD.lt q ab) U (by rw [bn q ab]),bn.bx aD.lt he,bN⟩
theorem km.br (k:km h ow id m b c n) (hk:J h h' none_):km h' ow id m b c n:=k.ai hk (fun _ _ U=>by simp [none_] at U) fun _ _=>rfl
theorem km.skip (k:km h ow id m b c n) (aG:c.er n=Option.none):km h ow id m b c (n+1) :=
 ⟨k.lt,k.get,k.own,k.marks,k.gQ,k.kD,k.map,k.lJ,fun u K hu cq=>by
  by_cases e:u=n
  ·subst e;rw [aG] at cq;cases cq
  ·exact k.some u K (by omega) cq,fun u hu=>k.none u (hu.imp (fun h=>by omega) fun h=>h)⟩
theorem km.put (k:km h ow id m b c n) (f:Fr h ow) {K:eI} (cq:c.er n=Option.some K) {x:bD} (aj:c.l[n]?=Option.some x) (hm:c1 x.e=true) {a:Nat} {O:List Nat} (bJ:J h h' none_) (lB:∀ q ∈ O,h.n≤q) (hX:hS h' a O K x.e x.n []) :
  km (h'.set b.mp (.map (mapOf .i64 v7 (eM b.cl b.es (n:Int) a)) (nq b.cl b.es (n:Int)))) (dj ow h.n h'.n (id,10+n)) id m ⟨b.kC,b.sv,b.mp,eM b.cl b.es (n:Int) a,nq b.cl b.es (n:Int)⟩ c (n+1):=by
 have he:∀ q,q<h.n→dj ow h.n h'.n (id,10+n) q=ow q:=fun q ab=>yt ab;have kk:=k.ai (ow':=dj ow h.n h'.n (id,10+n)) bJ (fun _ _ U=>by simp [none_] at U) he
 have kD:=k.kD;have aQ:J h' (h'.set b.mp (.map (mapOf .i64 v7 (eM b.cl b.es (n:Int) a)) (nq b.cl b.es (n:Int)))) (·=b.mp):=J.set _ _ _;obtain ⟨aC,h9,nd,nQ,g1,g2,st⟩:=kk.marks;have nf:∀ q t,q<h'.n→dj ow h.n h'.n (id,10+n) q=(id,t)→t≠4→(h'.set b.mp (.map (mapOf .i64 v7 (eM b.cl b.es (n:Int) a)) (nq b.cl b.es (n:Int)))).get q=h'.get q:=fun q t ab aN bE=>aQ.get q ab fun U=>by
  rw [U,kk.lJ] at aN;simp at aN;omega
 refine ⟨kk.lt,(nf _ _ kk.lt kk.own (by omega)).trans kk.get,kk.own,⟨aC,h9,nd,nQ,(nf _ _ h9 kk.gQ.1 (by omega)).trans g1,(nf _ _ nd kk.gQ.2 (by omega)).trans g2,st⟩,kk.gQ,kk.kD,aT,kk.lJ,fun u zh hu Lq=>?_,fun u hu=>?_⟩
 ·show ∃ a2 vV eN,dU (eM b.cl b.es (n:Int) a) (u:Int)=_∧_;rw [UU];by_cases e:u=n
  ·subst e;rw [cq] at Lq;cases Lq;rw [if_pos rfl];have zE:nc (dj ow h.n h'.n (id,10+u)) (id,10+u) O:=fun q ab=>KS (lB q ab) (hX.lt q ab);exact ⟨a,O,x,rfl,aj,hX.ai aQ fun q ab U=>by have h1:=zE q ab;rw [U,kk.lJ] at h1;simp at h1;omega,zE,hm⟩
  ·rw [if_neg (by omega)]
   obtain ⟨a2,vV,eN,h1,ad,aD,bn,bN⟩:=kk.some u zh (by omega) Lq
   exact ⟨a2,vV,eN,h1,ad,aD.ai aQ fun q ab U=>by have h1:=bn q ab;rw [U,kk.lJ] at h1;simp at h1;omega,bn,bN⟩
 ·show dU (eM b.cl b.es (n:Int) a) (u:Int)=_;rw [UU,if_neg (by
   intro e;have e:u=n:=by omega
   subst e;rcases hu with hu | hu
   ·omega
   ·rw [cq] at hu;cases hu)]
  exact k.none u (hu.imp (fun h=>by omega) fun h=>h)
theorem km.done (k:km h ow id m b c n) (aG:c.l.length≤n):gu h ow id m b c (eU.new c) :=
 ⟨k.lt,k.get,k.own,k.marks,k.gQ,k.kD,k.map,k.lJ,fun u K cq=>by
  obtain ⟨x,aj,_⟩:=aqZ cq;have:=(List.getElem?_eq_some_iff.1 aj).1;exact k.some u K (by omega) cq,fun u hu=>k.none u (.inr hu)⟩
end
def jT (c:bq):Int:=if (ch c.p c.l).2≠0 then (ch c.p c.l).2 else if c.P.contains c.part=false then 1 else if c.ins=[] then 1 else 0
def Made (id:Nat) (c:bq) (h:I) (ow:cG):V→I→Prop:=fun r h'=>J h h' none_ ∧
 ((jT c≠0∧r=.tuple [.c8,.int .i64 (jT c)])∨(jT c=0∧∃ m b ow',r=.tuple [.ptr m 0,.int .i64 0]∧gu h' ow' id m b c (eU.new c)∧(∀ q,q<h.n→ow' q=ow q)∧Fr h' ow'))
end Go.Proofs.YtemdgidnhgcafaaGreatDoor.Pk
namespace Go.Proofs.YtemdgidnhgcafaaGreatDoor.Pk
open Go Go.Proofs Go.Proofs.YtemdgidnhgcafaaGreatDoor.Ab
theorem aq8 {e:b4} (aY:h7 e):∀ b ∈ ja e,b<256:=by
 unfold ja;split
 ·exact TG e
 ·simp
theorem aq9 {v:bD} (aY:zM v):∀ b ∈ fP v,b<256:=fun b al=>by
 unfold fP x4 ze at al;simp only [avs,axK] at al;rcases al with ((al | al | ⟨n,_,al⟩) | al) | al | al
 ·exact zc _ _ (BY _) b al
 ·exact zc _ _ (BY _) b al
 ·exact zc _ _ (BY _) b al
 ·exact zc _ _ (BY _) b al
 ·exact zc _ _ (BY _) b al
 ·exact aq8 aY.1 b al
theorem acV {p:Int} {l:List bD} (aY:k7 l):∀ b ∈ lH p l,b<256:=fun b al=>by
 unfold lH at al;split at al
 ·unfold qD at al;simp only [avs,axK] at al;rcases al with (al | al) | ⟨v,aH,al⟩
  ·exact zc _ _ (BY _) b al
  ·exact zc _ _ (BY _) b al
  ·exact aq9 (aY.2 v aH) b al
 ·cases al
theorem acW {p:Int} {l:List bD} (aY:k7 l):(lH p l).length≤2 ^ 40:=by
 unfold lH;split
 ·rename_i aK;obtain ⟨aU,h5,ht,dr⟩:=G7 aK;have h1:=aa7 (l:=l) fun v aH=>aa6 (aY.2 v aH) (dr v aH).1 (dr v aH).2.1;have ad:=(p3 p.toNat (by omega)).2
  have aD:=(p3 l.length (by omega)).2
  unfold qD;simp only [IS];omega
 ·simp
def sy (ow:cG) (q:Nat) (t:Nat×Nat):cG:=fun x=>if x=q then t else ow x
theorem Hh (ow:cG) (q:Nat) (t:Nat×Nat):sy ow q t q=t:=if_pos rfl
theorem ub {ow:cG} {q x:Nat} {t:Nat×Nat} (h:x≠q):sy ow q t x=ow x:=if_neg h
theorem ara {c:bq} (h:(ch c.p c.l).2=0) (ad:c.P.contains c.part=false):jT c=1:=by unfold jT;rw [if_neg (by rw [h];decide),if_pos ad]
theorem arb {c:bq} (h:(ch c.p c.l).2=0) (ad:c.P.contains c.part=true) (aD:c.ins=[]):jT c=1:=by unfold jT;rw [if_neg (by rw [h];decide),if_neg (by rw [ad];decide),if_pos aD]
theorem arc {c:bq} (h:(ch c.p c.l).2=0) (ad:c.P.contains c.part=true) (aD:c.ins≠[]):jT c=0:=by unfold jT;rw [if_neg (by rw [h];decide),if_neg (by rw [ad];decide),if_neg aD]
theorem ard (id:Nat) (c:bq) (aY:k7 c.l) (FJ:∀ v ∈ c.l,v.kind≠7∧v.kind≠8) (h:I) (az:jf h) (ow:cG) (f:Fr h ow) (aK:id≠0) :
  af ds 34 [.agg (cT c.l c.p),.int .i64 c.part] h (Made id c h ow):=by
 obtain ⟨l,p,part⟩:=c;simp only at aY FJ⊢;have tr:∀ (l:List bD) (p:Int),(V.agg (cT l p)).cells=some [.ah l.length (l.flatMap an),.int .i64 p]:=fun _ _=>rfl;have nK:∀ (l:List bD) (p:Int),V.agg [.ah l.length (l.flatMap an),.int .i64 p]=.agg (cT l p):=fun _ _=>rfl;have zO:∀ (l:List bD) (p:Int),bF (some 2) (aO.cells [V.ag,.int .i64 0] 24 none) 0 [.ah l.length (l.flatMap an),.int .i64 p]=some (.cells [.ah l.length (l.flatMap an),.int .i64 p] 24 none):=fun _ _=>rfl;refine af.au (c:=_) Tryz.func34 rfl (by kernel_rfl) (by simp) ?_
 obtain ⟨H,hH⟩:∃ x,x=h.push (.cells [.ah l.length (l.flatMap an),.int .i64 p] 24 none):=⟨_,rfl⟩;have gt:H.get h.n=.cells [.ah l.length (l.flatMap an),.int .i64 p] 24 none:=by rw [hH];exact ck
 have bw:J h H none_:=by rw [hH];exact J.push _ _ _
 have ju:H.n=h.n+1:=by rw [hH];rfl
 have jO:=az.ai bw;simp only [ae,vt,AS,js,tr,←hH,gt,nK];refine bW Yb (aa8 l p aY H jO) ?_;unfold CC;by_cases h1:(ch p l).2=0;rotate_left
 ·have bb:((ch p l).2 !=0)=true:=by simpa using h1
  have bL:jT ⟨l,p,part⟩=(ch p l).2:=by unfold jT;rw [if_pos h1]
  simp only [ae,vt,bb,aS,ax6,c9];exact ax ⟨bw,.inl ⟨by rw [bL];exact h1,by rw [bL]⟩⟩
 have bb:((0:Int) !=0)=false:=rfl;have o:fR ⟨l,p,part⟩:=⟨h1,aY⟩;simp only [ae,vt,h1];refine bW Yc (KD _ (lH p l) H jO (Rd.ah _ _) (acV aY) (by have:=acW (p:=p) aY;omega)) ?_
 have jb:pc (lH p l)=.tuple [.agg (cT l p),.int .i64 0]:=by unfold pc;rw [abu aY h1]
 rw [jb];obtain ⟨bK,bs⟩:∃ x,x=H.push (.cells [.ah l.length (l.flatMap an),.int .i64 p] 24 none):=⟨_,rfl⟩;have p8:bK.get H.n=.cells [.ah l.length (l.flatMap an),.int .i64 p] 24 none:=by rw [bs];exact ck
 have ba:J H bK none_:=by rw [bs];exact J.push _ _ _
 have dy:bK.n=H.n+1:=by rw [bs];rfl
 have t2:=jO.ai ba;have da:=bw.trans' ba;simp only [ae,vt,AS,js,uI,uJ,tr,zO,←bs,p8,nK];refine bW NI (OC l p aY bK t2) ?_;have K4:(fC p l).length=l.length:=Ev h1;have tW:l.length≤24:=o.len;rw [h1];simp only [ae,vt];refine bW NJ (Ox (fC p l) part (by omega) bK) ?_
 cases xS:(fC p l).contains part
 ·have bL:jT ⟨l,p,part⟩=1:=ara (c:=⟨l,p,part⟩) h1 xS;simp only [ae,vt,aS,ax6,c9];exact ax ⟨da,.inl ⟨by rw [bL];decide,by rw [bL]⟩⟩
 simp only [ae,vt,AS,js,p8,nK];refine bW Yd (abQ l p part aY bK t2) ?_;simp only [ae,vt];by_cases hi:ru p l part=[]
 ·have bL:jT ⟨l,p,part⟩=1:=arb (c:=⟨l,p,part⟩) h1 xS hi;rw [hi];refine bW Yn (aqO bK) ?_;have bt:((1:Int) !=0)=true:=rfl;simp only [ae,vt,bt,aS,ax6,c9];exact ax ⟨da,.inl ⟨by rw [bL];decide,by rw [bL]⟩⟩
 have bL:jT ⟨l,p,part⟩=0:=arc (c:=⟨l,p,part⟩) h1 xS hi;refine cB Yn (Ui bK (ru p l part) (by cases aj:ru p l part with | nil=>exact absurd aj hi | cons a r=>simp) (Ld o) (UM ⟨l,p,part⟩)) fun r aD ⟨i,j,ev,tc,Lr,aup,b2⟩=>?_
 subst ev;have eT:=da.trans' b2;have nO:=(b2.get H.n (by omega) (by simp [none_])).trans p8
 have n3:=b2.n;have auq:∀ (n:Nat) (x:List V),(V.ah n x).cells=some [.ah n x]:=fun _ _=>rfl;have UW:=tc;obtain ⟨_,h9,nd,nQ,Cq,GZ,acX⟩:=UW;obtain ⟨gr,fF⟩:∃ x,x=(aD.push (.map [] 0)).push (.cells [.ah l.length (l.flatMap an),.int .i64 p,.ah (fC p l).length (ar (fC p l)),.int .i64 part,.ptr i 0,.map aD.n] 150 none):=⟨_,rfl⟩;have dW:J aD gr none_:=by rw [fF];exact (J.push _ _ _).bH _
 have x7:gr.n=aD.n+2:=by rw [fF];rfl
 have acY:gr.get (aD.n+1)=.cells [.ah l.length (l.flatMap an),.int .i64 p,.ah (fC p l).length (ar (fC p l)),.int .i64 part,.ptr i 0,.map aD.n] 150 none:=by rw [fF];exact y5
 have Bd:gr.get aD.n=.map [] 0:=by rw [fF];exact xD
 have QG:=(dW.get H.n (by omega) (by simp [none_])).trans nO
 have jL:=eT.trans' dW;simp only [ae,vt,AS,By,lZ,mw,js,amX,anl,nO,nK,tr];rw [←fF];simp only [ae,vt,AS,rn,QG];clear fF;obtain ⟨ea,q2⟩:∃ x,x=sy (sy (sy (sy ow i (id,2)) j (id,3)) aD.n (id,4)) (aD.n+1) (id,1):=⟨_,rfl⟩;have cV:ea (aD.n+1)=(id,1):=by rw [q2];exact Hh _ _ _
 have wW:ea aD.n=(id,4):=by rw [q2,ub (by omega)];exact Hh _ _ _
 have j7:ea j=(id,3):=by rw [q2,ub (by omega),ub (by omega)];exact Hh _ _ _
 have bS:ea i=(id,2):=by rw [q2,ub (by omega),ub (by omega),ub nQ];exact Hh _ _ _
 have Hi:∀ q,q≠i→q≠j→q≠aD.n→q≠aD.n+1→ea q=ow q:=fun q h1 ad aD bn=>by rw [q2,ub bn,ub aD,ub ad,ub h1]
 clear q2;have f5:Fr gr ea:=fun q ab=>(Hi q (by omega) (by omega) (by omega) (by omega)).trans (f q (by omega))
 have zU:∀ q,q<h.n→ea q=ow q:=fun q ab=>Hi q (by omega) (by omega) (by omega) (by omega)
 have Ls:km gr ea id (aD.n+1) ⟨i,j,aD.n,[],0⟩ ⟨l,p,part⟩ 0 :=
  ⟨by omega,acY,cV,⟨rfl,by show i<gr.n;omega,by show j<gr.n;omega,nQ,(dW.get i h9 (by simp [none_])).trans Cq,(dW.get j nd (by simp [none_])).trans GZ,acX⟩,⟨bS,j7⟩,by show aD.n<gr.n;omega,Bd,wW,fun u K hu=>absurd hu (Nat.not_lt_zero _),fun u _=>rfl⟩
 obtain ⟨m,hm⟩:∃ m,m=aD.n+1:=⟨_,rfl⟩;rw [←hm] at Ls⊢;have acZ:(fC p l)=(bq.mk l p part).P:=rfl;refine aZ.bQ (α:=Nat×cG×At) (fun x bO h'=>bO 1=.int .i64 part∧bO 10=.ah (fC p l).length (ar (fC p l))∧bO 13=.ptr m 0∧bO 58=.ah l.length (l.flatMap an)∧bO 59=.int .i64 ((l.length:Nat):Int)∧bO 60=.int .i64 (x.1:Nat)∧x.1≤l.length ∧
   km h' x.2.1 id m x.2.2 ⟨l,p,part⟩ x.1∧Fr h' x.2.1∧J h h' none_∧(∀ q,q<h.n→x.2.1 q=ow q)∧x.2.2.mp=aD.n) (fun x=>l.length - x.1) (0,ea,⟨i,j,aD.n,[],0⟩)
  ⟨rfl,rfl,rfl,rfl,rfl,rfl,Dc _,Ls,f5,jL,zU,rfl⟩ ?_
 clear Ls f5 zU Hi cV bS j7 wW acY Bd QG Cq GZ tc nO p8 gt;have xQ:h.n≤aD.n:=by omega
 rintro ⟨x,jS,b⟩ bO c6 ⟨f1,f10,f13,f58,f59,f60,aj,tS,f6,Fu,CO,wH⟩
 simp only at f60 aj tS f6 CO wH;refine ee (by kernel_rfl) ?_
 by_cases aM:x<l.length;rotate_left
 ·have d1:decide ((x:Int)<((l.length:Nat):Int))=false:=decide_eq_false (by omega)
  simp only [ae,vt,f13,f59,f60,d1,aS,ax6,c9];exact ax ⟨Fu,.inr ⟨bL,m,b,jS,rfl,tS.done (by show l.length≤x;omega),CO,f6⟩⟩
 have d1:decide ((x:Int)<((l.length:Nat):Int))=true:=decide_eq_true (by omega)
 have hw:=sU aM (by omega)
 have Lt:x<(fC p l).length:=by omega
 have ft:hG ds 22 (.ah l.length (l.flatMap an)) (.int .i64 (x:Int))=some (.at (an l[x]++(l.drop (x+1)).flatMap an)):=sX ki aM DY;have cy:=tH (P:=ds) (kk:=.i64) Lt jI;have ac0:(fC p l)[x]?=some (fC p l)[x]:=ME Lt;have wD:l[x]?=some l[x]:=ME aM;have Lu:=(aY.2 _ (avb aM)).1;have ED:=FJ _ (avb aM);have QH:=o.gq (u:=x) wD;have eB:(bq.mk l p part).er x=if (fC p l)[x]=part then o9 l[x].kind l[x].n else none:=by
  unfold bq.er;rw [←acZ,ac0];simp only [Option.some.injEq,wD]
 generalize (fC p l)[x]=qd at cy eB;generalize l[x]=v at ft Lu QH eB wD ED;have kg:∀ (q:List V),cO (some (some 6)) (some (an v++q))=some (.agg (an v)):=fun q=>lz (ki v);have ac1:cO (some (some 6)) (some (an v))=some (.agg (an v)):=by have:=kg [];rwa [List.append_nil] at this
 have ac2:(V.agg (an v)).cells=some (an v):=rfl;have ac3:bF (some 6) (aO.cells [V.int .i64 0,.ag,.int .i64 0,.int .i64 0,.ag,.int .i64 0] 68 none) 0 (an v)=some (.cells (an v) 68 none):=by
  rw [sR (n:=6) (ki _) (A5 _),if_pos (by decide),qB];rfl
 obtain ⟨s4,qe⟩:∃ y,y=c6.push (.cells (an v) 68 none):=⟨_,rfl⟩;have mz:J c6 s4 none_:=by rw [qe];exact J.push _ _ _
 have g7:s4.get c6.n=.cells (an v) 68 none:=by rw [qe];exact ck
 have n7:s4.n=c6.n+1:=by rw [qe];rfl
 have arf:cP (.cells (an v) 68 none) 0=some (an v):=by simp [H7,ki]
 have yD:=tS.br mz;have f7:Fr s4 jS:=fun q ab=>f6 q (by omega)
 have q5:=Fu.trans' mz;simp only [ae,vt,aW,om,pZ,p0,f1,f10,f58,f59,f60,d1,ft,cy,kg,ac2,ac3];rw [←qe];clear qe;by_cases aU:qd=part;rotate_left
 ·have c5:(qd !=part)=true:=by simpa using aU
  rw [if_neg aU] at eB;simp only [ae,vt,reduceCtorEq,f13,f60,c5,hw];exact ax ⟨(x+1,jS,b),⟨f1,f10,f13,f58,f59,rfl,by simp only;omega,yD.skip eB,f7,q5,CO,wH⟩,by simp only;omega⟩
 have c5:(qd !=part)=false:=by simpa using aU
 rw [if_pos aU] at eB;simp only [ae,vt,om,c5,g7,arf,ac1];by_cases Lv:v.kind=6∨v.kind=7∨v.kind=8
 ·obtain ⟨⟨K,cq⟩,Lw⟩:=acn QH.2.2 Lv;rw [cq] at eB;refine cB Yo (apm v ED.1 ED.2 cq Lw Lu s4 (az.1.ai q5)) fun r kh ⟨a,O,yy,j8,lB,hX⟩=>?_;subst yy;have put:=yD.put f7 eB wD Lw j8 lB hX;have QI:=(j8.get m yD.lt (by simp [none_])).trans yD.get
  have pd:(bq.mk l p part).cells b=[.ah l.length (l.flatMap an),.int .i64 p,.ah (fC p l).length (ar (fC p l)),.int .i64 part,.ptr b.kC 0,.map b.mp]:=rfl;rw [pd] at QI;have ac4:=(j8.get b.mp yD.kD (by simp [none_])).trans yD.map
  have up:=RH (P:=ds) (k:=(x:Int)) (a:=a) (v:=.ptr a 0) sh ac4 rfl;have mm:((0:Int)==0)=true:=rfl;simp only [ae,vt,AS,By,i8,DT,f13,f60,QI,up,hw];have cW:J kh (kh.set b.mp (.map (mapOf .i64 v7 (eM b.cl b.es (x:Int) a)) (nq b.cl b.es (x:Int)))) (·=b.mp):=J.set _ _ _;have n8:=j8.n;exact ax ⟨(x+1,dj jS s4.n kh.n (id,10+x),⟨b.kC,b.sv,b.mp,eM b.cl b.es (x:Int) a,nq b.cl b.es (x:Int)⟩),⟨f1,f10,f13,f58,f59,rfl,by simp only;omega,put,fun q ab=>by
   have ei:kh.n≤q:=ab;show dj jS s4.n kh.n (id,10+x) q=_;unfold dj;rw [if_neg (by omega)];exact f7 q (by omega),(q5.trans' j8).trans cW fun q ab e=>by omega,fun q ab=>by
   have:=q5.n;show dj jS s4.n kh.n (id,10+x) q=_;rw [yt (by omega)];exact CO q ab,wH⟩,by simp only;omega⟩
 ·refine cB Yo (aqN v (by omega) Lu s4 (az.1.ai q5)) fun r kh ⟨yy,j8⟩=>?_
  subst yy;have uo:o9 v.kind v.n=none:=by
   cases U:o9 v.kind v.n with
   | none=>rfl
   | some K=>have:=aqY U;omega
  rw [uo] at eB;have mm:((1:Int)==0)=false:=rfl;simp only [ae,vt,f60,mm,hw];exact ax ⟨(x+1,jS,b),⟨f1,f10,f13,f58,f59,rfl,by simp only;omega,(yD.br j8).skip eB,fun q ab=>f7 q (by have:=j8.n;omega),q5.trans' j8,CO,wH⟩,by simp only;omega⟩
end Go.Proofs.YtemdgidnhgcafaaGreatDoor.Pk
namespace Go.Proofs.YtemdgidnhgcafaaGreatDoor.Pk
open Go Go.Proofs Go.Proofs.YtemdgidnhgcafaaGreatDoor.Ab
structure auR where
 v:Int
 r:Rec
 d:Bool
 c:aF
structure zl (c:bq) (s:eU):Prop where
 aQ:yz c s
 wf:∀ u K,c.er u=some K→dP K (s.st u)
 ac5:FI c s
theorem arh {c:bq} (o:fR c):zl c (eU.new c):=⟨GT c,aqP c o,aq6 c⟩
theorem ac6 {c:bq} (o:fR c) {s:eU} (g:zl c s) (v:Int) (r:Rec):zl c (stepT c s v r).1.1 :=
 ⟨(UT o g.aQ g.wf v r).1,(UT o g.aQ g.wf v r).2.1,aq7 o g.ac5 g.wf v r⟩
theorem ac7 {c:bq} (o:fR c) {s:eU} (g:zl c s) (v:Int) (r:Rec):sz (stepT c s v r).1≤2 ^ 22:=(UT o g.aQ g.wf v r).2.2
end Go.Proofs.YtemdgidnhgcafaaGreatDoor.Pk
namespace Go.Proofs.YtemdgidnhgcafaaGreatDoor.Pk
open Go Go.Proofs Go.Proofs.YtemdgidnhgcafaaGreatDoor.Ab
def ac8:bq:=⟨c7,1,0⟩
theorem ari:(ch 1 c7).2=0:=by decide
theorem Lx:fR ac8:=⟨ari,T2⟩
end Go.Proofs.YtemdgidnhgcafaaGreatDoor.Pk
namespace Go.Proofs.YtemdgidnhgcafaaGreatDoor.Pk
open Go Go.Proofs Go.Proofs.YtemdgidnhgcafaaGreatDoor.Ab
end Go.Proofs.YtemdgidnhgcafaaGreatDoor.Pk
namespace Go.Proofs.YtemdgidnhgcafaaGreatDoor.Pk
open Go Go.Proofs Go.Proofs.YtemdgidnhgcafaaGreatDoor.Ab
def oI (x:fy):List V:=[.ah x.outs.length (x.outs.flatMap hO),.ah x.verts.length (ar x.verts),iz x.chgs,.ah x.deads.length (x.deads.flatMap pF)]
theorem arj {P:Program} {t:TypeId} {T:kx} (cd:fL P t=some T) (dg:0<T.sz) {α:Type} {enc:α→List V} (hlen:∀ a,(enc a).length=T.sz) (cm:∀ a,(enc a).all (·.one)=true) (hk:Ab.ef P t=some 1) (al:T.ao≤1024)
  {h:I} {s:V} {cs:List α} (o:Own h T.e T.sz s (cs.flatMap enc)) (aw:cs.length≤2 ^ 36) (c:α) :
  ∃ cJ h',kO P t t s (.bj h.n 0 1 1) (h.push (.cells (enc c) T.e none))=some (cJ,h')∧Own h' T.e T.sz cJ ((cs++[c]).flatMap enc)∧J (h.push (.cells (enc c) T.e none)) h' (a6 s)∧dm (h.push (.cells (enc c) T.e none)) s cJ:=by
 have k:J h (h.push (.cells (enc c) T.e none)) none_:=J.push _ _ _;have Uy:Own (h.push (.cells (enc c) T.e none)) T.e T.sz (.bj h.n 0 1 1) (enc c):=Own.eZ _ 1 (by rw [hlen];omega) (by decide)
 have dR:=vJ (P:=P) (t:=t) hk Uy (n:=1) (by rw [hlen];omega) dg (cm c)
 obtain ⟨cJ,h',fh,hq,my,gW⟩:=vI (P:=P) (t:=t) (tx:=t) cd dg (o.br k) dR (by rw [hlen];omega) (fun m hm=>by
  rw [gM hlen,hlen] at hm;have:m=cs.length+1:=awk dg (by rw [hm,Nat.add_mul];omega)
  subst this;have ad:(cs.length+1) * T.ao≤(2 ^ 36+1) * 1024:=Nat.mul_le_mul (by omega) al
  exact ⟨by simp only [lim];omega,by simp only [lim];omega⟩)
 refine ⟨cJ,h',fh,?_,my,gW⟩;rw [avH];simpa using hq
structure yE (id m:Nat) (b:At) (c:bq) (h:I) (ow:cG) (s:eU) (x:fy) (t:Nat) (H:I) (ow':cG):Prop where
 dD:gu H ow' id m b c s
 get:H.get t=.cells (oI x) 101 none
 lt:t<H.n
 new:h.n≤t
 own:ow' t=(0,0)
 ai:J h H (fun q=>(ow q).1=id)
 bx:∀ q,q<h.n→ow' q=ow q
 bg:Fr H ow'
section
variable {id m:Nat} {b:At} {c:bq} {h bN:I} {ow ea:cG} {s:eU} {x:fy}
theorem yE.push (k:gu bN ea id m b c s) (he:∀ q,q<h.n→ea q=ow q) (f:Fr bN ea) (dW:J h bN (fun q=>(ow q).1=id)):yE id m b c h ow s x bN.n (bN.push (.cells (oI x) 101 none)) ea:=by
 have hj:J bN (bN.push (.cells (oI x) 101 none)) none_:=J.push _ _ _;exact ⟨k.br hj,ck,by rw [dq];omega,dW.n,f _ (BY _),dW.trans hj fun _ _ e=>e.elim,he,fun q ab=>f q (OF hj.n ab)⟩
theorem yE.set {ob:aO} (aK:id≠0) (bg:Fr h ow) (k:gu bN ea id m b c s) (he:∀ q,q<(h.push ob).n→ea q=ow q) (f:Fr bN ea) (dW:J (h.push ob) bN (fun q=>(ow q).1=id)):yE id m b c h ow s x h.n (bN.set h.n (.cells (oI x) 101 none)) ea:=by
 have hj:J h (h.push ob) none_:=J.push _ _ _;have x7:=dW.n;rw [dq] at x7;have cY:J bN (bN.set h.n (.cells (oI x) 101 none)) (·=h.n):=J.set _ _ _;have aN:ea h.n=(0,0):=(he _ (by rw [dq];omega)).trans (bg _ (BY _))
 exact ⟨k.ai cY (fun q _ e=>by subst e;rw [aN];exact fun e=>aK e.symm) fun _ _=>rfl,aT,by show h.n<bN.n;omega,BY _,aN,((hj.up.trans dW fun q _ e=>e).trans cY fun q ab e=>by omega),fun q ab=>he q (by rw [dq];omega),fun q ab=>f q ab⟩
end
theorem Own.apart {h:I} {e bd:TypeId} {sz q:Nat} {v:V} {cs c:List V} {x:Option Nat} (o:Own h e sz v cs) (g:h.get q=.cells c bd x) (bI:e≠bd):¬a6 v q:=fun U=>by
 rcases o with ⟨rfl | rfl,_⟩ | ⟨i,len,cap,uj,ex,rfl,hi,az,_⟩
 ·cases U
 ·cases U
 ·obtain rfl:i=q:=Option.some.inj U;rw [az] at g;injection g with g1 g2;exact bI g2
end Go.Proofs.YtemdgidnhgcafaaGreatDoor.Pk
namespace Go.Proofs.YtemdgidnhgcafaaGreatDoor.Pk
open Go Go.Proofs Go.Proofs.YtemdgidnhgcafaaGreatDoor.Ab
theorem UX {i n:Nat} (h:i<n) (aG:n≤2 ^ 62):IntKind.i64.wrap ((i:Int)+1)=((i+1:Nat):Int):=by rw [Go.IntWalk.i64_in _ (by omega)];rfl
theorem ark {l:List Int} {k:Nat} (hk:k<l.length):(ar l).drop (k * 1)=.int .i64 l[k]::ar (l.drop (k+1)):=by
 rw [VU];unfold ar;rw [←List.map_drop,avk hk];rfl
theorem arl {l:List Int} {k:Nat} (hk:k<l.length) {t:TypeId} (aa:dF ds t=some 1):hG ds t (.ah l.length (ar l)) (.int .i64 (k:Int))=some (.at (.int .i64 l[k]::ar (l.drop (k+1)))):=by
 rw [Gu aa (by omega) (by omega) (by rw [gi];omega),avc,ark hk]
structure sA where
 k:Int
 v:Int
 t:Int
 deriving DecidableEq
structure bC where
 kind:Int
 task:Int
 de:Int
 iu:Int
 log:Int
 r:sA
 del:Bool
 offs:List Int
 order:List Int
 deriving DecidableEq
def jU (r:sA):List V:=[.int .i64 r.k,.int .i64 r.v,.int .i64 r.t]
def bh (x:bC):List V:=[.int .i64 x.kind,.int .i64 x.task,.int .i64 x.de,.int .i64 x.iu,.int .i64 x.log,.int .i64 x.r.k,.int .i64 x.r.v,.int .i64 x.r.t,.bool x.del,.ah x.offs.length (ar x.offs),.ah x.order.length (ar x.order)]
theorem EE (r:bC):(bh r).length=11:=rfl
theorem arn (r:sA):a1 (jU r):=a1.cons (a7.int _ _) (a1.cons (a7.int _ _) (a1.cons (a7.int _ _) a1.nil))
theorem aro (r:bC):a1 (bh r):=a1.cons (a7.int _ _) (a1.cons (a7.int _ _) (a1.cons (a7.int _ _) (a1.cons (a7.int _ _) (a1.cons (a7.int _ _) (a1.cons (a7.int _ _) (a1.cons (a7.int _ _) (a1.cons (a7.int _ _) (a1.cons (a7.bool _) (a1.cons (a7.ah (wV _)) (a1.cons (a7.ah (wV _)) a1.nil))))))))))
def Bg:sA:=⟨0,0,0⟩
def fit (n:Int):Bool:=decide (0≤n)&&decide (n≤1048576)
def EF (t:Int):Bool:=decide (0≤t)&&decide (t≤1099511627776)
def wb (x:bC):Bool :=
 (decide (2≤x.kind∧x.kind≤5)||(x.task==0&&x.de==0))&&(decide (2≤x.kind∧x.kind≤4)||x.iu==0)&&(decide (x.kind≤2)||(x.log==0&&decide (x.r=Bg))) &&
  (decide (x.kind=2)||!x.del)&&(decide (x.kind=3)||(x.offs.length==0&&x.order.length==0))
def ko (x:bC):Bool :=
 decide (1≤x.kind)&&decide (x.kind≤6)&&fit x.task&&fit x.de&&fit x.iu&&fit x.log&&EF x.r.t&&decide (x.offs.length≤8)&&x.offs.all fit&&decide (x.order.length≤256)&&x.order.all fit&&wb x
theorem EG (x:bC):ko x=true↔(1≤x.kind∧x.kind≤6)∧fit x.task=true∧fit x.de=true∧fit x.iu=true∧fit x.log=true∧EF x.r.t=true∧x.offs.length≤8∧(∀ n ∈ x.offs,fit n=true)∧x.order.length≤256∧(∀ n ∈ x.order,fit n=true)∧wb x=true:=by
 simp only [ko,Bool.and_eq_true,decide_eq_true_eq,avh,and_assoc]
theorem Hj (n:Int):fit n=true↔0≤n∧n≤1048576:=by simp [fit]
theorem arp:DJ ds 179=some (8,2,true):=by kernel_rfl
theorem ac9 (l:List Int) (h:I) (aw:l.length≤2 ^ 47):Pure ds 42 [.ah l.length (ar l)] h (.bool (l.all fit)):=by
 refine af.au (c:=_) aBI rfl (by kernel_rfl) (by simp) ?_
 simp only [ae,vt,reduceCtorEq,gy];refine aZ.bQ (α:=Nat) (fun i f h'=>h'=h∧f 5=.ah l.length (ar l)∧f 6=.int .i64 l.length∧f 7=.int .i64 (i:Nat)∧i≤l.length∧(l.take i).all fit=true) (fun i=>l.length - i) 0
  ⟨rfl,rfl,rfl,rfl,Dc _,rfl⟩ ?_
 rintro i f h' ⟨rfl,f5,f6,f7,hi,aP⟩
 refine ee (by kernel_rfl) ?_
 by_cases gw:i<l.length
 ·have d1:decide ((i:Int)<((l.length:Nat):Int))=true:=by simp;omega
  have aj:=arl (l:=l) gw jI;have dr:l.all fit=true→fit l[i]=true:=fun U=>avh.1 U _ (avb gw);by_cases bb:l[i]<0
  ·have bk:l.all fit=false:=by
    cases U:l.all fit with
    | false=>rfl
    | true=>have:=(Hj _).1 (dr U);omega
   simp only [ae,vt,aW,f5,f6,f7,d1,aj,bb,aS,aw0,ac];exact ax ⟨by rw [bk],rfl⟩
  by_cases bt:1048576<l[i]
  ·have bk:l.all fit=false:=by
    cases U:l.all fit with
    | false=>rfl
    | true=>have:=(Hj _).1 (dr U);omega
   simp only [ae,vt,aW,f5,f6,f7,d1,aj,bb,bt,aS,aw0,ac];exact ax ⟨by rw [bk],rfl⟩
  ·have av:fit l[i]=true:=(Hj _).2 (by omega)
   have hw:=UX gw (by omega)
   simp only [ae,vt,aW,f5,f6,f7,d1,aj,bb,bt,hw];refine ax ⟨i+1,⟨rfl,f5,f6,rfl,gw,?_⟩,by omega⟩
   rw [avt gw,awR,aP];simp [av]
 ·have d1:decide ((i:Int)<((l.length:Nat):Int))=false:=by simp;omega
  have bk:l.all fit=true:=by rw [show i=l.length by omega,avT] at aP;exact aP
  simp only [ae,vt,f6,f7,d1,aS,aw0,ac];exact ax ⟨by rw [bk],rfl⟩
theorem arq (t:Int) (h:I):Pure ds 43 [.int .i64 t] h (.bool (EF t)):=by
 refine af.au (c:=_) Tryz.func43 rfl (by kernel_rfl) (by simp) ?_
 by_cases h1:0≤t
 ·simp only [ae,vt,reduceCtorEq,h1,aS,aBJ,ac];exact ax ⟨by simp [EF,h1],rfl⟩
 ·simp only [ae,vt,reduceCtorEq,h1,aS,aBJ,ac];exact ax ⟨by simp [EF,h1],rfl⟩
end Go.Proofs.YtemdgidnhgcafaaGreatDoor.Pk
namespace Go.Proofs.YtemdgidnhgcafaaGreatDoor.Pk
open Go Go.Proofs Go.Proofs.YtemdgidnhgcafaaGreatDoor.Ab
def Hk (l:List Bool):List (Bool×Int):=[(l.getD 0 false,1),(l.getD 1 false,2),(l.getD 2 false,4),(l.getD 3 false,8),(l.getD 4 false,16),(l.getD 5 false,32),(l.getD 6 false,64),(l.getD 7 false,128)]
def sB (l:List (Bool×Int)):Int:=l.foldl (fun a p=>if p.1 then uv .i64 a p.2 else a) 0
def UY (l:List (Bool×Int)):List V:=l.flatMap fun p=>[.bool p.1,.int .i64 p.2]
def Hl (x:bC):List Bool:=[decide (x.task≠0),decide (x.de≠0),decide (x.iu≠0),decide (x.log≠0),decide (x.r≠Bg),x.del,decide (0<x.offs.length),decide (0<x.order.length)]
def jq:List Int:=[0,24,63,199,7,3,0]
def kK:List V:=jq.map (.int .i64)
def vc (h:I):Prop:=h.glob 0=some kK
theorem ars (k v t:Int) {xo yo:Operand}:cH ds .neq 45 xo yo (.agg [.int .i64 k,.int .i64 v,.int .i64 t]) (.agg [.int .i64 0,.int .i64 0,.int .i64 0])=some (.bool (decide ((⟨k,v,t⟩:sA)≠Bg))):=by
 have h:gL [0,0,0] [.int .i64 k,.int .i64 v,.int .i64 t] [.int .i64 0,.int .i64 0,.int .i64 0]=some (decide ((⟨k,v,t⟩:sA)=Bg)):=by
  simp only [gL,if_true,avI,Option.some.injEq];rw [avv];simp [Bg]
 rw [Xb YW h];simp
theorem art (x:bC) (h:I):Pure ds 44 [.agg (bh x)] h (.int .i64 (sB (Hk (Hl x)))):=by
 refine Pure.val (a7.int _ _) ?_;refine af.au (c:=_) Tryz.func44 rfl (by kernel_rfl) (by simp) ?_
 have ay:(V.agg (bh x)).cells=some (bh x):=rfl;simp only [ae,ay];obtain ⟨H,hH⟩:∃ y,y=h.push (.cells (bh x) 48 none):=⟨_,rfl⟩;have az:H.get h.n=.cells (bh x) 48 none:=by rw [hH];exact ck
 have bw:J h H none_:=by rw [hH];exact J.push _ _ _
 rw [←hH];refine aZ.bB none_ [] (.q 0 (.q 1 (.q 2 (.q 3 (.q 4 (.q 5 (.q 6 (.q 7 (.q 8 (.q 9 (.q 10 (.q 11 (.q 12 (.q 13 (.q 14 (.q 15 (.q 16 (.q 17 (.q 18 (.q 19 (.q 20 (.q 21 (.q 22 (.q 23 (.q 24 (.q 25 (.q 26 (.q 27 (.q 28 (.q 29 (.q 30 (.q 31 (.q 32 (.q 33 (.q 34 (.q 35 .done)))))))))))))))))))))))))))))))))))) (by kernel_rfl) (by kernel_rfl) (by kernel_rfl) ?_
 have aC:∀ a:Int,(a !=0)=decide (a≠0):=fun a=>by rw [avv];simp
 have bd:∀ l:List Int,decide ((0:Int)<((l.length:Nat):Int))=decide (0<l.length):=fun l=>by rw [avv];simp
 simp only [ae,bM,vt,AS,By,Nat.reduceMul,NM,B5,GG,GH,NN,SI,Ji,NO,gy,aW,py,dG,hz,am1,am2,AN,S6,ann,s0,az,bh,ars,aC,bd];refine aZ.bQ (α:=Nat) (fun i f h'=>J H h' none_∧f 40=.agg (UY (Hk (Hl x)))∧f 41=.int .i64 (i:Nat)∧f 3=.int .i64 (sB ((Hk (Hl x)).take i))∧i≤8) (fun i=>8 - i) 0
  ⟨J.refl _ _,rfl,rfl,rfl,Dc _⟩ ?_
 rintro i f h' ⟨hk,f40,f41,f3,hi⟩
 refine ee (by kernel_rfl) ?_
 generalize hW:Hk (Hl x)=F at f40 f3⊢;have hlen:F.length=8:=by rw [←hW];rfl
 by_cases gw:i<8
 ·have d1:decide ((i:Int)<8)=true:=by simp;omega
  have ht:i<F.length:=by omega
  have hw:=UX gw (by omega)
  have fq:Dp ds 179 (.agg (UY F)) (.int .i64 (i:Int))=some (.agg [.bool F[i].1,.int .i64 F[i].2]):=by
   rw [akK arp];simp only [IP,avc,if_true];rw [if_pos ⟨by omega,by omega⟩,UY,BT (sz:=2) (fun _=>rfl),avk ht]
   rfl
  have aa:sB (F.take (i+1))=if F[i].1 then uv .i64 (sB (F.take i)) F[i].2 else sB (F.take i):=by
   rw [avt ht,sB,List.foldl_append];rfl
  generalize F[i]=p at fq aa;obtain ⟨b,n⟩:=p;cases b
  ·simp only [ae,vt,AS,Yz,py,S6,Y9,f40,f41,d1,fq,hw];refine ax ⟨i+1,⟨hk.bH _,f40,rfl,?_,gw⟩,by omega⟩
   rw [aa];exact f3
  ·simp only [ae,vt,AS,By,Yz,amD,aW,py,S6,Y9,f40,f41,f3,d1,fq,hw];refine ax ⟨i+1,⟨hk.bH _,f40,rfl,?_,gw⟩,by omega⟩
   rw [aa];rfl
 ·have d1:decide ((i:Int)<8)=false:=by simp;omega
  simp only [ae,vt,f41,f3,d1,aS,Tryz.results44,ac];refine ax ⟨?_,bw.trans' hk⟩;rw [are (by omega)]
def ada:Nat→List Bool→Bool:=fun k l=>
 (decide (2≤k∧k≤5)||(!l.getD 0 false&&!l.getD 1 false))&&(decide (2≤k∧k≤4)||!l.getD 2 false)&&(decide (k≤2)||(!l.getD 3 false&&!l.getD 4 false)) &&
  (decide (k=2)||!l.getD 5 false)&&(decide (k=3)||(!l.getD 6 false&&!l.getD 7 false))
theorem aru:∀ k ∈ [1,2,3,4,5,6],∀ a b c d e f g i:Bool,(Gp .i64 (sB (Hk [a,b,c,d,e,f,g,i])) (jq.getD k 0)==0)=ada k [a,b,c,d,e,f,g,i]:=by
 decide +kernel
theorem arv (x:bC) {k:Nat} (hk:x.kind=(k:Int)) (h1:1≤k) (c6:k≤6):(Gp .i64 (sB (Hk (Hl x))) (jq.getD k 0)==0)=wb x:=by
 rw [Hl,aru k (by simp;omega)]
 have fv:∀ a:Int,(!decide (a≠0))=(a==0):=fun a=>by rw [avv];simp
 have dy:∀ l:List Int,(!decide (0<l.length))=(l.length==0):=fun l=>by rw [avv];simp
 have n3:(!decide (x.r≠Bg))=decide (x.r=Bg):=by rw [avv];simp
 have m1:decide (2≤(k:Int)∧(k:Int)≤5)=decide (2≤k∧k≤5):=decide_eq_decide.2 (by omega)
 have m2:decide (2≤(k:Int)∧(k:Int)≤4)=decide (2≤k∧k≤4):=decide_eq_decide.2 (by omega)
 have m3:decide ((k:Int)≤2)=decide (k≤2):=decide_eq_decide.2 (by omega)
 have m4:decide ((k:Int)=2)=decide (k=2):=decide_eq_decide.2 (by omega)
 have m5:decide ((k:Int)=3)=decide (k=3):=decide_eq_decide.2 (by omega)
 unfold ada wb;rw [hk,m1,m2,m3,m4,m5];simp only [List.getD_cons_zero,List.getD_cons_succ,fv,dy,n3]
end Go.Proofs.YtemdgidnhgcafaaGreatDoor.Pk
namespace Go.Proofs.YtemdgidnhgcafaaGreatDoor.Pk
open Go Go.Proofs Go.Proofs.YtemdgidnhgcafaaGreatDoor.Ab
theorem arw (h:I) (a b c d:Int):ie ds 46 4 [(0,.int .i64 a),(1,.int .i64 b),(2,.int .i64 c),(3,.int .i64 d)] h=some (.bj h.n 0 4 4,h.push (.cells (ar [a,b,c,d]) 3 none)):=by rw [lY oU];rfl
theorem arx (j:Nat) (l:List Int) (h:I) (aw:l.length≤2 ^ 47) (az:h.get j=.cells (ar l) 3 none) (aV:j<h.n):Pure ds 42 [.bj j 0 l.length l.length] h (.bool (l.all fit)):=by
 have aN:Own h 3 1 (.bj j 0 l.length l.length) (ar l):=.inr ⟨j,l.length,l.length,ar l,none,rfl,aV,az,by rw [gi,VU],by rw [VU,are (by rw [gi];exact BY _)],.inl ⟨by unfold cj;omega,by rw [gi];omega,BY _⟩⟩
 refine af.au (c:=_) aBI rfl (by kernel_rfl) (by simp) ?_
 simp only [ae,vt,reduceCtorEq,gy];refine aZ.bQ (α:=Nat) (fun i f h'=>h'=h∧f 5=.bj j 0 l.length l.length∧f 6=.int .i64 l.length∧f 7=.int .i64 (i:Nat)∧i≤l.length∧(l.take i).all fit=true) (fun i=>l.length - i) 0
  ⟨rfl,rfl,rfl,rfl,Dc _,rfl⟩ ?_
 rintro i f h' ⟨rfl,f5,f6,f7,hi,aP⟩
 refine ee (by kernel_rfl) ?_
 by_cases gw:i<l.length
 ·have d1:decide ((i:Int)<((l.length:Nat):Int))=true:=by simp;omega
  obtain ⟨q,cX,dT,⟨r,e8⟩,_⟩:=Nb (P:=ds) (kk:=.i64) jI aN (k:=i) (by rw [gi];exact gw)
  simp only [a8,Option.some.injEq] at dT;subst dT;have ur:(ar l)[i]'(by rw [gi];exact gw)=.int .i64 l[i]:=by simp [ar]
  rw [ur] at e8;have dr:l.all fit=true→fit l[i]=true:=fun U=>avh.1 U _ (avb gw);by_cases bb:l[i]<0
  ·have bk:l.all fit=false:=by
    cases U:l.all fit with
    | false=>rfl
    | true=>have:=(Hj _).1 (dr U);omega
   simp only [ae,vt,aW,f5,f6,f7,d1,cX,e8,bb,aS,aw0,ac];exact ax ⟨by rw [bk],rfl⟩
  by_cases bt:1048576<l[i]
  ·have bk:l.all fit=false:=by
    cases U:l.all fit with
    | false=>rfl
    | true=>have:=(Hj _).1 (dr U);omega
   simp only [ae,vt,aW,f5,f6,f7,d1,cX,e8,bb,bt,aS,aw0,ac];exact ax ⟨by rw [bk],rfl⟩
  ·have av:fit l[i]=true:=(Hj _).2 (by omega)
   have hw:=UX gw (by omega)
   simp only [ae,vt,aW,f5,f6,f7,d1,cX,e8,bb,bt,hw];refine ax ⟨i+1,⟨rfl,f5,f6,rfl,gw,?_⟩,by omega⟩
   rw [avt gw,awR,aP];simp [av]
 ·have d1:decide ((i:Int)<((l.length:Nat):Int))=false:=by simp;omega
  have bk:l.all fit=true:=by rw [show i=l.length by omega,avT] at aP;exact aP
  simp only [ae,vt,f6,f7,d1,aS,aw0,ac];exact ax ⟨by rw [bk],rfl⟩
def Bh (x:bC):Prop:=x.offs.length≤2 ^ 47∧x.order.length≤2 ^ 47
theorem ary (x:bC) (h:I) (hu:vc h) (hlen:Bh x):Pure ds 15 [.agg (bh x)] h (.bool (ko x)):=by
 refine Pure.val (a7.bool _) ?_;refine af.au (c:=_) Tryz.func15 rfl (by kernel_rfl) (by simp) ?_
 have ay:(V.agg (bh x)).cells=some (bh x):=rfl;by_cases bb:x.kind<1
 ·have bk:ko x=false:=by cases U:ko x with | false=>rfl | true=>have:=((EG x).1 U).1;omega
  simp only [ae,vt,AS,wZ,aW,bh,bb,aS,awo,ac];exact ax ⟨by rw [bk],J.push _ _ _⟩
 by_cases bt:6<x.kind
 ·have bk:ko x=false:=by cases U:ko x with | false=>rfl | true=>have:=((EG x).1 U).1;omega
  simp only [ae,vt,AS,wZ,aW,bh,bb,bt,aS,awo,ac];exact ax ⟨by rw [bk],J.push _ _ _⟩
 simp only [ae,vt,AS,wZ,aW,bh,bb,bt];obtain ⟨H,hH⟩:∃ y,y=h.push (.cells (bh x) 48 none):=⟨_,rfl⟩;have az:H.get h.n=.cells [.int .i64 x.kind,.int .i64 x.task,.int .i64 x.de,.int .i64 x.iu,.int .i64 x.log,.int .i64 x.r.k,.int .i64 x.r.v,.int .i64 x.r.t,.bool x.del,.ah x.offs.length (ar x.offs),.ah x.order.length (ar x.order)] 48 none:=by rw [hH];exact ck
 have bw:J h H none_:=by rw [hH];exact J.push _ _ _
 have arz:H.glob 0=some kK:=by rw [bw.glob];exact hu
 have ju:H.n=h.n+1:=by rw [hH];rfl
 unfold bh at hH;rw [←hH];clear hH;obtain ⟨k,hk,hv,Lv⟩:∃ k:Nat,x.kind=(k:Int)∧1≤k∧k≤6:=⟨x.kind.toNat,by omega,by omega,by omega⟩
 generalize aC:[x.task,x.de,x.iu,x.log].all fit=dK;generalize bd:EF x.r.t=b7;have bk:ko x=(dK&&b7&&decide (x.offs.length≤8)&&x.offs.all fit&&decide (x.order.length≤256)&&x.order.all fit&&wb x):=by
  have g1:decide (1≤x.kind)=true:=decide_eq_true (by omega)
  have g2:decide (x.kind≤6)=true:=decide_eq_true (by omega)
  simp only [ko,g1,g2,←aC,←bd,List.all_cons,List.all_nil,Bool.true_and,Bool.and_true,Bool.and_assoc]
 have d3:decide (((x.offs.length:Nat):Int)≤8)=decide (x.offs.length≤8):=decide_eq_decide.2 (by omega)
 have d5:decide (((x.order.length:Nat):Int)≤256)=decide (x.order.length≤256):=decide_eq_decide.2 (by omega)
 rw [bk];have wA:∀ h':I,(h'=H.push (.cells (ar [x.task,x.de,x.iu,x.log]) 3 none))→Pure ds 42 [.bj H.n 0 4 4] h' (.bool dK):=fun h' U=>by
  rw [←aC,U];exact arx H.n [x.task,x.de,x.iu,x.log] _ (by simp) ck (by rw [dq];omega)
 refine aZ.bB none_ [8,9] (.q 0 (.q 1 (.q 2 (.q 3 (.q 4 (.q 5 (.q 6 (.q 7 (.e 8 (.a 9 (.q 10 (.q 11 (.q 12 (.q 13 (.c 14 (.q 15 (.q 16 (.q 17 (.q 18 (.q 19 (.q 20 (.q 21 (.q 22 (.q 23 (.q 24 (.c 25 (.q 26 (.q 27 (.q 28 (.q 29 (.q 30 (.q 31 (.q 32 (.q 33 (.q 34 (.q 35 (.c 36 (.q 37 (.q 38 (.q 39 (.c 40 (.q 41 (.q 42 (.q 43 (.q 44 (.q 45 (.q 46 (.q 47 (.q 48 .done)))))))))))))))))))))))))))))))))))))))) .stop))))))))) (by kernel_rfl) (by kernel_rfl) (by kernel_rfl) ?_
 have aU:∀ o,(H.push o).get h.n=.cells [.int .i64 x.kind,.int .i64 x.task,.int .i64 x.de,.int .i64 x.iu,.int .i64 x.log,.int .i64 x.r.k,.int .i64 x.r.v,.int .i64 x.r.t,.bool x.del,.ah x.offs.length (ar x.offs),.ah x.order.length (ar x.order)] 48 none:=fun o=>by rw [lx (by omega)];exact az
 have r2:∀ (f:ak) (a:aO),ak.eval f (H.push a) (.global 0)=.at kK:=fun f a=>H4 (by rw [DA];exact arz)
 have hj:∀ o,J h (H.push o) none_:=fun o=>bw.bH o;simp only [ae,bM,vt,AS,By,NM,B5,GG,GH,aW,az,arw];refine bW al9 (wA _ rfl) ?_;cases dK
 ·simp only [ae,bM,vt];refine sV rfl rfl ?_;simp only [ae,bM,vt];refine sV rfl rfl ?_;simp only [ae,bM,vt];refine sV rfl rfl ?_;simp only [ae,bM,vt];refine sV rfl rfl ?_;simp only [ae,bM,vt,aS,awo,ac];exact ax ⟨rfl,hj _⟩
 simp only [ae,bM,vt,AS,By,AG,NN,du,aU];refine j6 rfl rfl rfl (fun h' _=>arq x.r.t h') ?_;rw [bd];cases b7
 ·simp only [ae,bM,vt];refine sV rfl rfl ?_;simp only [ae,bM,vt];refine sV rfl rfl ?_;simp only [ae,bM,vt];refine sV rfl rfl ?_;simp only [ae,bM,vt,aS,awo,ac];exact ax ⟨rfl,hj _⟩
 by_cases aD:x.offs.length≤8;rotate_left
 ·have d3:decide (((x.offs.length:Nat):Int)≤8)=false:=decide_eq_false (by omega)
  simp only [ae,bM,vt,AS,By,Ji,gy,hz,aU,d3];refine sV rfl rfl ?_;simp only [ae,bM,vt];refine sV rfl rfl ?_;simp only [ae,bM,vt];refine sV rfl rfl ?_;simp only [ae,bM,vt,aS,awo,ac];exact ax ⟨by simp [aD],hj _⟩
 have d3:decide (((x.offs.length:Nat):Int)≤8)=true:=decide_eq_true (by omega)
 simp only [ae,bM,vt,AS,By,Ji,gy,hz,aU,d3];refine j6 rfl rfl rfl (fun h' _=>ac9 x.offs h' hlen.1) ?_;generalize x.offs.all fit=oY;cases oY
 ·simp only [ae,bM,vt];refine sV rfl rfl ?_;simp only [ae,bM,vt];refine sV rfl rfl ?_;simp only [ae,bM,vt,aS,awo,ac];exact ax ⟨by simp,hj _⟩
 by_cases bN:x.order.length≤256;rotate_left
 ·have d5:decide (((x.order.length:Nat):Int)≤256)=false:=decide_eq_false (by omega)
  simp only [ae,bM,vt,AS,By,NO,gy,hz,aU,d5];refine sV rfl rfl ?_;simp only [ae,bM,vt];refine sV rfl rfl ?_;simp only [ae,bM,vt,aS,awo,ac];exact ax ⟨by simp [bN],hj _⟩
 have d5:decide (((x.order.length:Nat):Int)≤256)=true:=decide_eq_true (by omega)
 simp only [ae,bM,vt,AS,By,NO,gy,hz,aU,d5];refine j6 rfl rfl rfl (fun h' _=>ac9 x.order h' hlen.2) ?_;generalize x.order.all fit=sw;cases sw
 ·simp only [ae,bM,vt];refine sV rfl rfl ?_;simp only [ae,bM,vt,aS,awo,ac];exact ax ⟨by simp,hj _⟩
 have fq:(if (0:Int)≤x.kind∧x.kind<((7:Nat):Int)∧(x.kind.toNat * 1)≤kK.length then some (V.at (kK.drop (x.kind.toNat * 1))) else none)=some (.at (.int .i64 (jq.getD k 0)::kK.drop (k+1))):=by
  rw [hk,if_pos ⟨by omega,by omega,by simp [kK,jq];omega⟩]
  have:kK.drop ((k:Int).toNat * 1)=.int .i64 (jq.getD k 0)::kK.drop (k+1):=by
   rw [avc,VU,avk (by simp [kK,jq];omega)]
   simp [kK,List.getD,ME (show k<jq.length by simp [jq];omega)]
  rw [this]
 simp only [ae,bM,vt,AS,DV,aU];refine j6 rfl rfl rfl (fun h' _=>art x h') ?_;simp only [ae,bM,vt,AS,alq,wZ,aW,anc,aU,r2,fq,arv x hk hv Lv,aS,awo,ac];exact ax ⟨by simp [aD,bN],hj _⟩
end Go.Proofs.YtemdgidnhgcafaaGreatDoor.Pk
namespace Go.Proofs.Vw
variable {E R:Type}
structure oJ (R:Type) where
 kind:Nat
 task:Int
 ep:Int
 tx:Int
 log:Int
 wc:R
 offs:List Int
 ord:List Int
structure lP (R:Type) where
 ep:Int
 tx:Int
 offs:List Int
 ord:List Int
 opn:List (oJ R×Nat)
def UZ:lP R:=⟨0,0,[],[],[]⟩
structure lQ (R:Type) where
 logs:Int→List R
 tasks:Int→Option (lP R)
def Bi:lQ R:=⟨fun _=>[],fun _=>none⟩
def pI (f:Int→List R) (x:oJ R):Int→List R:=fun n=>if n=x.log then f n++[x.wc] else f n
def qA (f:Int→List R) (l:List (oJ R×Nat)):Int→List R:=l.foldl (fun g p=>pI g p.1) f
def kG (s:lQ R) (t:Int):lP R:=(s.tasks t).getD UZ
def kp (s:lQ R) (t:Int) (j:lP R):lQ R:={ s with tasks:=fun n=>if n=t then some j else s.tasks n }
def wr (j:lP R) (ep:Int):lP R:=if j.ep<ep then { j with ep:=ep,opn:=[] } else j
def step (s:lQ R) (x:oJ R) (at_:Nat):lQ R :=
 if x.kind=1 then { s with logs:=pI s.logs x }
 else if x.kind=5 then kp s x.task (wr (kG s x.task) x.ep)
 else if 2≤x.kind∧x.kind≤4 then
  (if x.ep≠(kG s x.task).ep∨x.tx≠(kG s x.task).tx then kp s x.task (kG s x.task)
  else if x.kind=2 then kp s x.task { kG s x.task with opn:=(kG s x.task).opn++[(x,at_)] }
  else if x.kind=3 then
   { logs:=qA s.logs (kG s x.task).opn,tasks:=(kp s x.task ⟨(kG s x.task).ep,(kG s x.task).tx+1,x.offs,(kG s x.task).ord++x.ord,[]⟩).tasks }
  else kp s x.task { kG s x.task with tx:=(kG s x.task).tx+1,opn:=[] })
 else s
def run:lQ R→Nat→List (oJ R)→lQ R
 | s,_,[]=>s
 | s,i,x::r=>run (step s x i) (i+1) r
theorem adb:∀ (a b:List (oJ R)) (s:lQ R) (i:Nat),run s i (a++b)=run (run s i a) (i+a.length) b
 | [],b,s,i=>rfl
 | x::a,b,s,i=>by
  rw [List.cons_append,run,run,adb a b,ave,show i+1+a.length=i+(a.length+1) by omega]
theorem arA (f:Int→List R):∀ (l:List (oJ R×Nat)) (n:Int),∃ m,qA f l n=f n++m:=by
 intro l
 induction l generalizing f with
 | nil=>exact fun n=>⟨[],by simp [qA]⟩
 | cons p l ih=>
  intro n;obtain ⟨m,hm⟩:=ih (pI f p.1) n;refine ⟨(if n=p.1.log then [p.1.wc] else [])++m,?_⟩
  show qA (pI f p.1) l n=_;rw [hm];unfold pI;split<;>simp
def qf (a b:lP R):Prop:=a.ep≤b.ep∧a.tx≤b.tx∧∃ m,b.ord=a.ord++m
def q9 (a b:lQ R):Prop:=(∀ n,∃ m,b.logs n=a.logs n++m)∧(∀ t,qf (kG a t) (kG b t))∧∀ t,(a.tasks t).isSome=true→(b.tasks t).isSome=true
theorem qf.refl (a:lP R):qf a a:=⟨av1 _,av1 _,[],by simp⟩
theorem qf.trans {a b c:lP R} (x:qf a b) (y:qf b c):qf a c:=by
 obtain ⟨h1,ad,m,aD⟩:=x;obtain ⟨bn,bN,k,c6⟩:=y;exact ⟨awF h1 bn,awF ad bN,m++k,by rw [c6,aD,au8]⟩
theorem q9.refl (a:lQ R):q9 a a:=⟨fun n=>⟨[],by simp⟩,fun t=>qf.refl _,fun t h=>h⟩
theorem q9.trans {a b c:lQ R} (x:q9 a b) (y:q9 b c):q9 a c :=
 ⟨fun n=>by obtain ⟨m,h1⟩:=x.1 n;obtain ⟨k,ad⟩:=y.1 n;exact ⟨m++k,by rw [ad,h1,au8]⟩,fun t=>(x.2.1 t).trans (y.2.1 t),fun t h=>y.2.2 t (x.2.2 t h)⟩
theorem arB (s:lQ R) (t:Int) (j:lP R) (u:Int):kG (kp s t j) u=if u=t then j else kG s u:=by
 unfold kG kp;by_cases h:u=t<;>simp [h]
theorem Ly {s:lQ R} {t:Int} {j:lP R} (h:qf (kG s t) j):q9 s (kp s t j):=by
 refine ⟨fun n=>⟨[],by simp [kp]⟩,fun u=>?_,fun u hu=>?_⟩
 ·rw [arB];split
  ·rename_i h1;rw [h1];exact h
  ·exact qf.refl _
 ·unfold kp;simp only;split
  ·rfl
  ·exact hu
theorem arC (s:lQ R) (x:oJ R) (i:Nat):q9 s (step s x i):=by
 unfold step;split
 ·refine ⟨fun n=>?_,fun t=>qf.refl _,fun t h=>h⟩;simp only [pI];split
  ·exact ⟨[x.wc],rfl⟩
  ·exact ⟨[],by simp⟩
 split
 ·refine Ly ?_;unfold wr;split
  ·rename_i h;exact ⟨Int.le_of_lt h,av1 _,[],by simp⟩
  ·exact qf.refl _
 split
 ·split
  ·exact Ly (qf.refl _)
  split
  ·exact Ly ⟨av1 _,av1 _,[],by simp⟩
  split
  ·refine ⟨fun n=>arA _ _ n,fun t=>?_,fun t h=>?_⟩
   ·have:=(Ly (s:=s) (t:=x.task) (j:=⟨(kG s x.task).ep,(kG s x.task).tx+1,x.offs,(kG s x.task).ord++x.ord,[]⟩) ⟨av1 _,by simp only;omega,x.ord,rfl⟩).2.1 t
    exact this
   ·simp only [kp];split
    ·rfl
    ·exact h
  ·exact Ly ⟨av1 _,by simp only;omega,[],by simp⟩
 ·exact q9.refl _
theorem ade:∀ (l:List (oJ R)) (s:lQ R) (i:Nat),q9 s (run s i l)
 | [],s,i=>q9.refl s
 | x::l,s,i=>(arC s x i).trans (ade l _ _)
theorem auS (a b:List (oJ R)):q9 (run Bi 0 a) (run Bi 0 (a++b)):=by
 rw [adb];exact ade _ _ _
end Go.Proofs.Vw
namespace Go.Proofs.Vw
variable {R:Type}
def we (j:lP R) (x:oJ R) (i:Nat):lP R×List (oJ R×Nat) :=
 if x.kind=5 then (wr j x.ep,[])
 else if x.ep≠j.ep∨x.tx≠j.tx then (j,[])
 else if x.kind=2 then ({ j with opn:=j.opn++[(x,i)] },[])
 else if x.kind=3 then (⟨j.ep,j.tx+1,x.offs,j.ord++x.ord,[]⟩,j.opn)
 else ({ j with tx:=j.tx+1,opn:=[] },[])
def qQ:lP R→Nat→List (oJ R)→lP R×List (oJ R×Nat)
 | j,_,[]=>(j,[])
 | j,i,x::r=>((qQ (we j x i).1 (i+1) r).1,(we j x i).2++(qQ (we j x i).1 (i+1) r).2)
def zm (l:List (oJ R×Nat)) (n:Int):List R:=(l.filter fun p=>p.1.log==n).map fun p=>p.1.wc
theorem adf:∀ (l:List (oJ R×Nat)) (f:Int→List R) (n:Int),qA f l n=f n++zm l n
 | [],f,n=>by simp [qA,zm]
 | p::l,f,n=>by
  show qA (pI f p.1) l n=_;rw [adf l];unfold pI zm;by_cases h:n=p.1.log
  ·rw [if_pos h,List.filter_cons_of_pos (by simp [h])];simp
  ·rw [if_neg h,List.filter_cons_of_neg (by simp;omega)]
theorem adg (s:lQ R) (x:oJ R) (i:Nat) (hk:2≤x.kind∧x.kind≤5) :
  (step s x i).tasks=(kp s x.task (we (kG s x.task) x i).1).tasks∧∀ n,(step s x i).logs n=s.logs n++zm (we (kG s x.task) x i).2 n:=by
 unfold step we;rw [if_neg (by omega)]
 split
 ·exact ⟨rfl,fun n=>by simp [kp,zm]⟩
 ·rw [if_pos (by omega)]
  split
  ·exact ⟨rfl,fun n=>by simp [kp,zm]⟩
  ·split
   ·exact ⟨rfl,fun n=>by simp [kp,zm]⟩
   ·split
    ·exact ⟨rfl,fun n=>adf _ _ _⟩
    ·exact ⟨rfl,fun n=>by simp [kp,zm]⟩
theorem arD (s:lQ R) (x:oJ R) (i:Nat) (hk:2≤x.kind∧x.kind≤5) (u:Int):(step s x i).tasks u=if u=x.task then some (we (kG s x.task) x i).1 else s.tasks u:=by
 rw [(adg s x i hk).1];rfl
def FK (a b:lP R):Prop:=a.ep=b.ep∧a.tx=b.tx∧a.offs=b.offs∧a.ord=b.ord∧a.opn.map Prod.fst=b.opn.map Prod.fst
theorem FK.refl (a:lP R):FK a a:=⟨rfl,rfl,rfl,rfl,rfl⟩
theorem adh (Q:oJ R→Prop):∀ (l:List (oJ R)) (j:lP R) (i:Nat),(∀ p ∈ j.opn,Q p.1)→(∀ x ∈ l,x.kind=2→Q x)→(∀ p ∈ (qQ j i l).2,Q p.1)∧∀ p ∈ (qQ j i l).1.opn,Q p.1
 | [],j,i,aV,_=>⟨(fun p aU=>by cases aU),aV⟩
 | x::l,j,i,aV,aw=>by
  have h1:(∀ p ∈ (we j x i).2,Q p.1)∧∀ p ∈ (we j x i).1.opn,Q p.1:=by
   unfold we wr;split
   ·refine ⟨fun p aU=>(by cases aU),?_⟩
    split
    ·exact fun p aU=>by cases aU
    ·exact aV
   split
   ·exact ⟨fun p aU=>(by cases aU),aV⟩
   split
   ·rename_i hk;refine ⟨fun p aU=>(by cases aU),fun p aU=>?_⟩
    rcases avs.1 aU with aU | aU
    ·exact aV p aU
    ·rw [aw1.1 aU];exact aw x (by simp) hk
   split
   ·exact ⟨aV,fun p aU=>by cases aU⟩
   ·exact ⟨fun p aU=>(by cases aU),fun p aU=>by cases aU⟩
  obtain ⟨ad,aD⟩:=adh Q l (we j x i).1 (i+1) h1.2 fun y bp=>aw y (by simp [bp])
  rw [qQ];refine ⟨fun p aU=>?_,aD⟩;rcases avs.1 aU with aU | aU
  ·exact h1.1 p aU
  ·exact ad p aU
theorem arE {l:List (oJ R×Nat)} {n:Int} (h:∀ p ∈ l,p.1.log≠n):zm l n=[]:=by
 unfold zm;rw [List.filter_eq_nil_iff.2 (fun p aU=>by simpa using h p aU)]
 rfl
theorem arF (S:Int→Prop):∀ (l:List (oJ R)) (s:lQ R) (i:Nat),(∀ x ∈ l,x.kind≠1→¬S x.log)→(∀ t,∀ p ∈ (kG s t).opn,¬S p.1.log) →
  ∀ n,S n→(run s i l).logs n=s.logs n++(l.filter fun x=>x.kind==1&&x.log==n).map (·.wc)
 | [],s,i,_,_,n,_=>by simp [run]
 | x::l,s,i,aw,aa,n,aG=>by
  have h1:(step s x i).logs n=s.logs n++([x].filter fun x=>x.kind==1&&x.log==n).map (·.wc)∧∀ t,∀ p ∈ (kG (step s x i) t).opn,¬S p.1.log:=by
   by_cases h1:x.kind=1
   ·unfold step;rw [if_pos h1];refine ⟨?_,aa⟩;show pI s.logs x n=_;unfold pI;by_cases ad:n=x.log
    ·rw [if_pos ad];simp [h1,ad]
    ·rw [if_neg ad];simp [h1,Ne.symm ad]
   ·have aj:=aw x (by simp) h1
    by_cases ad:2≤x.kind∧x.kind≤5
    ·have aD:=adg s x i ad;have bn:=adh (fun y=>¬S y.log) [x] (kG s x.task) i (aa x.task) (fun y bp _=>by rw [aw1.1 bp];exact aj)
     have aC:(qQ (kG s x.task) i [x]).2=(we (kG s x.task) x i).2:=by simp [qQ]
     have bd:(qQ (kG s x.task) i [x]).1=(we (kG s x.task) x i).1:=by simp [qQ]
     rw [aC,bd] at bn;refine ⟨?_,fun t p aU=>?_⟩
     ·rw [aD.2,arE fun p aU U=>bn.1 p aU (by rw [U];exact aG)]
      simp [h1]
     ·unfold kG at aU;rw [arD s x i ad] at aU;split at aU
      ·exact bn.2 p aU
      ·exact aa t p aU
    ·have:step s x i=s:=by unfold step;rw [if_neg h1,if_neg (by omega),if_neg (by omega)]
     rw [this];exact ⟨by simp [h1],aa⟩
  rw [run,arF S l _ _ (fun y bp=>aw y (by simp [bp])) h1.2 n aG,h1.1,au8,←List.map_append,←List.filter_append]
  rfl
end Go.Proofs.Vw
namespace Go.Proofs.YtemdgidnhgcafaaGreatDoor.Pk
open Go Go.Proofs Go.Proofs.YtemdgidnhgcafaaGreatDoor.Ab Go.Proofs.Vw
abbrev dM:=sA×Bool
def U0 (x:bC):oJ dM:=⟨x.kind.toNat,x.task,x.de,x.iu,x.log,(x.r,x.del),x.offs,x.order⟩
def gl (p:bC×Nat):List V:=bh p.1++[.int .i64 (p.2:Nat)]
theorem Lz (p:bC×Nat):(gl p).length=12:=rfl
abbrev Tag:=Nat×Int×Nat
abbrev gd:=Nat→Option Tag
abbrev jV:=List (Nat×Int×Nat)
def hD (m:jV):List (Nat×V×V):=ec (V.int .i64) (fun b:Nat=>V.ptr b 0) m
def n0 (h:I) (ow:gd) (b:Nat) (k:Int) (rs:List dM):Prop:=∃ rv dv,h.get b=.cells [.int .i64 k,rv,dv] 90 none ∧
 Own h 45 3 rv (rs.flatMap fun p=>jU p.1)∧Own h 4 1 dv (rs.map fun p=>V.bool p.2)∧ow b=some (0,k,0)∧(∀ j,a8 rv=some j→ow j=some (0,k,1))∧(∀ j,a8 dv=some j→ow j=some (0,k,2))
structure jW where
 ep:Int
 tx:Int
 offs:List Int
 ord:List Int
 opn:List (bC×Nat)
def jW.m (j:jW):lP dM:=⟨j.ep,j.tx,j.offs,j.ord,j.opn.map fun p=>(U0 p.1,p.2)⟩
def LA (v:V) (l:List Int):Prop:=(v=.ag∧l=[])∨v=.ah l.length (ar l)
def lR (h:I) (ow:gd) (b:Nat) (t:Int) (j:jW):Prop:=∃ mo h0 jg,h.get b=.cells [.int .i64 t,.int .i64 j.ep,.int .i64 j.tx,mo,h0,.int .i64 0,jg] 125 none∧LA mo j.offs ∧
 Own h 3 1 h0 (ar j.ord)∧Own h 186 12 jg (j.opn.flatMap gl)∧ow b=some (1,t,0)∧(∀ q,a8 h0=some q→ow q=some (1,t,1))∧(∀ q,a8 jg=some q→ow q=some (1,t,2))
theorem n0.on {h h':I} {ow ow':gd} {b:Nat} {k:Int} {rs:List dM} (a:n0 h ow b k rs) {own:Nat→Prop} (b9:J h h' own) (aG:∀ q,own q→∀ i,ow q≠some (0,k,i)) (aN:∀ q bl,ow q=some bl→ow' q=some bl) (al:∀ q bl,ow q=some bl→q<h.n):n0 h' ow' b k rs:=by
 obtain ⟨rv,dv,h1,ad,aD,bn,bN,c6⟩:=a;exact ⟨rv,dv,(b9.get b (al _ _ bn) (fun U=>aG _ U _ bn)).trans h1,ad.ai b9 (fun j aV U=>aG _ U _ (bN j aV)),aD.ai b9 (fun j aV U=>aG _ U _ (c6 j aV)),aN _ _ bn,fun j aV=>aN _ _ (bN j aV),fun j aV=>aN _ _ (c6 j aV)⟩
theorem lR.on {h h':I} {ow ow':gd} {b:Nat} {t:Int} {j:jW} (a:lR h ow b t j) {own:Nat→Prop} (b9:J h h' own) (aG:∀ q,own q→∀ i,ow q≠some (1,t,i)) (aN:∀ q bl,ow q=some bl→ow' q=some bl) (al:∀ q bl,ow q=some bl→q<h.n):lR h' ow' b t j:=by
 obtain ⟨mo,h0,jg,h1,aK,ad,aD,bn,bN,c6⟩:=a;exact ⟨mo,h0,jg,(b9.get b (al _ _ bn) (fun U=>aG _ U _ bn)).trans h1,aK,ad.ai b9 (fun j aV U=>aG _ U _ (bN j aV)),aD.ai b9 (fun j aV U=>aG _ U _ (c6 j aV)),aN _ _ bn,fun j aV=>aN _ _ (bN j aV),fun j aV=>aN _ _ (c6 j aV)⟩
structure jh (aK h:I) (lm b3:Nat) (logs:Int→List dM) (tasks:Int→Option jW) (L:jV) (lc:Nat) (T:jV) (dJ:Nat) (ow:gd):Prop where
 ai:J aK h none_
 bx:∀ q bl,ow q=some bl→aK.n≤q∧q<h.n
 hb:ow lm=some (2,0,0)
 hT:ow b3=some (2,0,1)
 n5:h.get lm=.map (hD L) lc
 gt:h.get b3=.map (hD T) dJ
 mh:eA (hD L) lc
 mi:eA (hD T) dJ
 kc:dt L
 kd:dt T
 has:∀ k b,bZ L k=some b→n0 h ow b k (logs k)∧logs k≠[]
 jX:∀ k,bZ L k=none→logs k=[]
 jY:∀ t b,bZ T t=some b→∃ j,tasks t=some j∧lR h ow b t j
 jZ:∀ t,bZ T t=none→tasks t=none
theorem arG (h:I) (ow:gd) (b:Nat) (t e:Int) (j:jW) (a:lR h ow b t j) (al:∀ q bl,ow q=some bl→q<h.n) :
  af ds 52 [.ptr b 0,.int .i64 e] h (fun r h'=>r=.tuple []∧J h h' (·=b)∧lR h' ow b t (if j.ep<e then { j with ep:=e,opn:=[] } else j)):=by
 obtain ⟨mo,h0,jg,g,aK,ad,aD,bn,bN,c6⟩:=a;refine af.au (c:=_) Tryz.func52 rfl (by kernel_rfl) (by simp) ?_
 by_cases aM:j.ep<e
 ·have bb:decide (j.ep<e)=true:=decide_eq_true aM;rw [if_pos aM];simp only [ae,vt,AS,By,reduceCtorEq,y9,GC,B6,aW,N1,oo,g,bb,kQ,aBL,hK];have u0:∀ o,J h (h.set b o) (·=b):=fun o=>J.set _ _ _;refine ax ⟨rfl,u0 _,mo,h0,.ag,aT,aK,ad.ai (u0 _) (fun q ab U=>?_),Own.ag _ _ _,bn,bN,fun q ab=>by simp [a8] at ab⟩
  have:=bN q ab;rw [U,bn] at this;simp at this
 ·have bb:decide (j.ep<e)=false:=decide_eq_false aM;rw [if_neg aM];simp only [ae,vt,AS,By,reduceCtorEq,y9,B6,aW,g,bb,kQ,aBL,hK];exact ax ⟨rfl,J.refl _ _,mo,h0,jg,g,aK,ad,aD,bn,bN,c6⟩
theorem U1:∃ h3,eL ds 72=some (3,h3,.int .i64)∧la ds h3=some (.pointer none):=by
 have h:(eL ds 72).map (fun q=>(q.1,q.2.1))=some (3,115):=by kernel_rfl
 have hu:ds.underlying 3=some (.int .i64):=axu;cases hm:eL ds 72 with
 | none=>rw [hm] at h;cases h
 | some q=>
  rw [hm] at h;obtain ⟨a,b,d⟩:=q;simp only [avI,Option.some.injEq,Prod.mk.injEq] at h;obtain ⟨rfl,rfl⟩:=h;have:=(xt hm).2;rw [hu] at this;cases this;exact ⟨_,rfl,by kernel_rfl⟩
theorem U2:∃ h3,eL ds 71=some (3,h3,.int .i64)∧la ds h3=some (.pointer none):=by
 have h:(eL ds 71).map (fun q=>(q.1,q.2.1))=some (3,119):=by kernel_rfl
 have hu:ds.underlying 3=some (.int .i64):=axu;cases hm:eL ds 71 with
 | none=>rw [hm] at h;cases h
 | some q=>
  rw [hm] at h;obtain ⟨a,b,d⟩:=q;simp only [avI,Option.some.injEq,Prod.mk.injEq] at h;obtain ⟨rfl,rfl⟩:=h;have:=(xt hm).2;rw [hu] at this;cases this;exact ⟨_,rfl,by kernel_rfl⟩
theorem arH {h:I} {i cl:Nat} (m:jV) (k:Int) (az:h.get i=.map (hD m) cl):nj ds 72 (.map i) (.int .i64 k) true h=some (match bZ m k with | some b=>.tuple [.ptr b 0,.bool true] | none=>.tuple [.c8,.bool false]):=by
 obtain ⟨h3,hm,bR⟩:=U1;have:=Nv (enc:=fun b:Nat=>V.ptr b 0) (ok:=true) (iN.ofInt hm) (k:=k) hm bR az;rw [this];cases bZ m k<;>simp [fg,gv]
theorem U3 {h:I} {i cl:Nat} (m:jV) (k:Int) (b:Nat) (az:h.get i=.map (hD m) cl):vB ds 72 (.map i) (.int .i64 k) (.ptr b 0) h=some (h.set i (.map (hD (cW cl m k b)) (gj cl m k))):=by
 obtain ⟨h3,hm,_⟩:=U1;exact Nw (enc:=fun b:Nat=>V.ptr b 0) (iN.ofInt hm) (k:=k) hm az rfl
theorem arI {h:I} {i cl:Nat} (m:jV) (k:Int) (az:h.get i=.map (hD m) cl):nj ds 71 (.map i) (.int .i64 k) true h=some (match bZ m k with | some b=>.tuple [.ptr b 0,.bool true] | none=>.tuple [.c8,.bool false]):=by
 obtain ⟨h3,hm,bR⟩:=U2;have:=Nv (enc:=fun b:Nat=>V.ptr b 0) (ok:=true) (iN.ofInt hm) (k:=k) hm bR az;rw [this];cases bZ m k<;>simp [fg,gv]
theorem U4 {h:I} {i cl:Nat} (m:jV) (k:Int) (b:Nat) (az:h.get i=.map (hD m) cl):vB ds 71 (.map i) (.int .i64 k) (.ptr b 0) h=some (h.set i (.map (hD (cW cl m k b)) (gj cl m k))):=by
 obtain ⟨h3,hm,_⟩:=U2;exact Nw (enc:=fun b:Nat=>V.ptr b 0) (iN.ofInt hm) (k:=k) hm az rfl
end Go.Proofs.YtemdgidnhgcafaaGreatDoor.Pk
namespace Go.Proofs.YtemdgidnhgcafaaGreatDoor.Pk
open Go Go.Proofs Go.Proofs.YtemdgidnhgcafaaGreatDoor.Ab Go.Proofs.Vw
theorem jh.on {aK h h':I} {lm b3 lc dJ:Nat} {logs:Int→List dM} {tasks:Int→Option jW} {L T:jV} {ow:gd} (w:jh aK h lm b3 logs tasks L lc T dJ ow) (k:J h h' none_):jh aK h' lm b3 logs tasks L lc T dJ ow where
 ai:=w.ai.trans' k
 bx q bl ab:=⟨(w.bx q bl ab).1,MC (w.bx q bl ab).2 k.n⟩
 hb:=w.hb
 hT:=w.hT
 n5:=(k.get lm (w.bx _ _ w.hb).2 (by simp [none_])).trans w.n5
 gt:=(k.get b3 (w.bx _ _ w.hT).2 (by simp [none_])).trans w.gt
 mh:=w.mh
 mi:=w.mi
 kc:=w.kc
 kd:=w.kd
 has q b ab:=⟨(w.has q b ab).1.on k (fun _ U=>U.elim) (fun _ _ U=>U) fun q bl U=>(w.bx q bl U).2,(w.has q b ab).2⟩
 jX:=w.jX
 jY t b ab:=by
  obtain ⟨j,h1,ad⟩:=w.jY t b ab;exact ⟨j,h1,ad.on k (fun _ U=>U.elim) (fun _ _ U=>U) fun q bl U=>(w.bx q bl U).2⟩
 jZ:=w.jZ
def wQ:jW:=⟨0,0,[],[],[]⟩
def named (tasks:Int→Option jW) (t:Int):Int→Option jW:=fun n=>if n=t then some ((tasks t).getD wQ) else tasks n
theorem adi {aK h:I} {lm b3 lc dJ:Nat} {logs:Int→List dM} {tasks:Int→Option jW} {L T:jV} {ow:gd} (t:Int) (w:jh aK h lm b3 logs tasks L lc T dJ ow) :
  af ds 51 [.agg [.map lm,.map b3],.int .i64 t] h (fun r h'=>∃ b adj adk ow',r=.ptr b 0∧bZ adj t=some b∧jh aK h' lm b3 logs (named tasks t) L lc adj adk ow'∧J h h' (fun q=>q=b3)∧(∀ q bl,ow' q=some bl→ow q=some bl∨h.n≤q)):=by
 refine af.au (c:=_) Tryz.func51 rfl (by kernel_rfl) (by simp) ?_
 obtain ⟨H,hH⟩:∃ y,y=h.push (.cells [.map lm,.map b3] 74 none):=⟨_,rfl⟩;have bw:J h H none_:=by rw [hH];exact J.push _ _ _
 have uc:H.get h.n=.cells [.map lm,.map b3] 74 none:=by rw [hH];exact ck
 have ju:H.n=h.n+1:=by rw [hH];rfl
 have mD:=w.on bw;have ay:(V.agg [.map lm,.map b3]).cells=some [.map lm,.map b3]:=rfl;have iQ:=arH T t mD.gt;simp only [ae,vt,AS,By,SL,SY,ay];rw [←hH];clear hH;cases hk:bZ T t with
 | some b=>
  rw [hk] at iQ;obtain ⟨j,aV,_⟩:=w.jY t b hk;have KH:named tasks t=tasks:=by
   funext n
   unfold named;split
   ·rename_i U;rw [U,aV];rfl
   ·rfl
  simp only [ae,vt,iQ,aS,aBM,ac];exact ax ⟨b,T,dJ,ow,rfl,hk,by rw [KH];exact mD,bw.up,fun _ _ U=>.inl U⟩
 | none=>
  rw [hk] at iQ;have bE:=w.jZ t hk;obtain ⟨bK,bs⟩:∃ y,y=H.push (.cells [.int .i64 t,.int .i64 0,.int .i64 0,.ag,.ag,.int .i64 0,.ag] 125 none):=⟨_,rfl⟩;have ba:J H bK none_:=by rw [bs];exact J.push _ _ _
  have qk:bK.get H.n=.cells [.int .i64 t,.int .i64 0,.int .i64 0,.ag,.ag,.int .i64 0,.ag] 125 none:=by rw [bs];exact ck
  have dy:bK.n=H.n+1:=by rw [bs];rfl
  have bS:=mD.on ba;have CP:=(ba.get h.n (by omega) (by simp [none_])).trans uc
  have so:=U3 T t H.n bS.gt;simp only [ae,vt,AS,By,SL,SY,amW,LT,ank,GQ,iQ];rw [←bs];clear bs;simp only [ae,vt,AS,By,CP,so,aS,aBM,ac];have cY:J bK (bK.set b3 (.map (hD (cW dJ T t H.n)) (gj dJ T t))) (·=b3):=J.set _ _ _;have Pd:=w.bx _ _ w.hT;have adl:=w.bx _ _ w.hb;have kH:ow H.n=none:=by
   cases ab:ow H.n with
   | none=>rfl
   | some bl=>have:=(w.bx _ _ ab).2;omega
  obtain ⟨ow',how⟩:∃ g:gd,g=fun q=>if q=H.n then some (1,t,0) else ow q:=⟨_,rfl⟩
  have dw:∀ q bl,ow q=some bl→ow' q=some bl:=fun q bl ab=>by
   rw [how];simp only;rw [if_neg (fun U=>by rw [U,kH] at ab;cases ab)];exact ab
  have kL:ow' H.n=some (1,t,0):=by rw [how];simp
  refine ax ⟨H.n,cW dJ T t H.n,gj dJ T t,ow',rfl,by rw [wX,if_pos rfl],?_,((bw.trans' ba).up).trans cY fun q ab U=>U,fun q bl ab=>by
   rw [how] at ab;simp only at ab;split at ab
   ·exact .inr (by omega)
   ·exact .inl ab⟩
  refine ⟨(w.ai.trans' (bw.trans' ba)).trans cY fun q ab U=>by omega,fun q bl ab=>?_,dw _ _ w.hb,dw _ _ w.hT,?_,aT,w.mh,eA.cW w.mi t H.n,w.kc,w.kd.set dJ t H.n,fun k b ab=>?_,w.jX,fun u b ab=>?_,fun u ab=>?_⟩
  ·rw [how] at ab;simp only at ab;split at ab
   ·have:=w.ai.n;rw [lW];omega
   ·have:=w.bx q bl ab;rw [lW];omega
  ·exact (cY.get lm (by omega) (fun U=>by have h1:=w.hb;have ad:=w.hT;rw [U,ad] at h1;simp at h1)).trans bS.n5
  ·refine ⟨(bS.has k b ab).1.on cY (fun q U i he=>?_) dw fun q bl U=>(bS.bx q bl U).2,(bS.has k b ab).2⟩;rw [U,w.hT] at he;simp at he
  ·rw [wX] at ab;by_cases hu:u=t
   ·rw [if_pos hu] at ab;injection ab with ab;subst ab;subst hu;refine ⟨wQ,by unfold named;rw [if_pos rfl,bE];rfl,.ag,.ag,.ag,(cY.get H.n (by omega) (by omega)).trans qk,.inl ⟨rfl,rfl⟩,Own.ag _ _ _,Own.ag _ _ _,kL,fun q U=>by simp [a8] at U,fun q U=>by simp [a8] at U⟩
   ·rw [if_neg hu] at ab;obtain ⟨j,h1,ad⟩:=bS.jY u b ab;refine ⟨j,by unfold named;rw [if_neg hu];exact h1,ad.on cY (fun q U i he=>?_) dw fun q bl U=>(bS.bx q bl U).2⟩
    rw [U,w.hT] at he;simp at he
  ·rw [wX] at ab;by_cases hu:u=t
   ·rw [if_pos hu] at ab;cases ab
   ·rw [if_neg hu] at ab;unfold named;rw [if_neg hu];exact w.jZ u ab
end Go.Proofs.YtemdgidnhgcafaaGreatDoor.Pk
namespace Go.Proofs.YtemdgidnhgcafaaGreatDoor.Pk
open Go Go.Proofs Go.Proofs.YtemdgidnhgcafaaGreatDoor.Ab Go.Proofs.Vw
theorem jh.vd {aK h h':I} {lm b3 lc dJ:Nat} {logs:Int→List dM} {tasks:Int→Option jW} {L T:jV} {ow ow':gd} (w:jh aK h lm b3 logs tasks L lc T dJ ow) {t:Int} {b:Nat} {j:jW} {own:Nat→Prop}
  (al:bZ T t=some b) (k:J h h' own) (kr:∀ q,own q→∃ i,ow q=some (1,t,i)) (dw:∀ q bl,ow q=some bl→ow' q=some bl) (hold:∀ q bl,ow' q=some bl→ow q=some bl∨(h.n≤q∧q<h'.n)) (a:lR h' ow' b t j) :
  jh aK h' lm b3 logs (fun n=>if n=t then some j else tasks n) L lc T dJ ow' where
 ai:=w.ai.trans k fun q ab U=>by
  obtain ⟨i,hi⟩:=kr q U;have:=(w.bx _ _ hi).1;omega
 bx q bl ab:=by
  rcases hold q bl ab with U | U
  ·have:=w.bx q bl U;have:=k.n;omega
  ·have:=w.ai.n;omega
 hb:=dw _ _ w.hb
 hT:=dw _ _ w.hT
 n5:=(k.get lm (w.bx _ _ w.hb).2 (fun U=>by obtain ⟨i,hi⟩:=kr _ U;rw [w.hb] at hi;simp at hi)).trans w.n5
 gt:=(k.get b3 (w.bx _ _ w.hT).2 (fun U=>by obtain ⟨i,hi⟩:=kr _ U;rw [w.hT] at hi;simp at hi)).trans w.gt
 mh:=w.mh
 mi:=w.mi
 kc:=w.kc
 kd:=w.kd
 has q c ab:=⟨(w.has q c ab).1.on k (fun p U i he=>by obtain ⟨i2,hi⟩:=kr _ U;rw [hi] at he;simp at he) dw fun q bl U=>(w.bx q bl U).2,(w.has q c ab).2⟩
 jX:=w.jX
 jY u c ab:=by
  by_cases hu:u=t
  ·subst hu;rw [al] at ab;injection ab with ab;subst ab;exact ⟨j,by simp,a⟩
  ·obtain ⟨jc,h1,ad⟩:=w.jY u c ab;exact ⟨jc,by simp [hu,h1],ad.on k (fun p U i he=>by obtain ⟨i2,hi⟩:=kr _ U;rw [hi] at he;simp at he;exact hu he.1.symm) dw fun q bl U=>(w.bx q bl U).2⟩
 jZ u ab:=by
  by_cases hu:u=t
  ·subst hu;rw [al] at ab;cases ab
  ·simp [hu,w.jZ u ab]
def lS (j:jW) (e:Int):jW:=if j.ep<e then { j with ep:=e,opn:=[] } else j
theorem arJ {aK h:I} {lm b3 lc dJ:Nat} {logs:Int→List dM} {tasks:Int→Option jW} {L T:jV} {ow:gd} (w:jh aK h lm b3 logs tasks L lc T dJ ow) {t e:Int} {b:Nat} {j:jW} (al:bZ T t=some b) (aV:tasks t=some j) :
  af ds 52 [.ptr b 0,.int .i64 e] h (fun r h'=>r=.tuple []∧jh aK h' lm b3 logs (fun n=>if n=t then some (lS j e) else tasks n) L lc T dJ ow∧J h h' (fun q=>∃ bl,ow q=some bl)):=by
 obtain ⟨jc,h1,a⟩:=w.jY t b al;rw [aV] at h1;injection h1 with h1;subst h1;refine (arG h ow b t e j a fun q bl ab=>(w.bx q bl ab).2).mono fun r h' ⟨aC,k,a2⟩=>?_;obtain ⟨_,_,_,_,_,_,_,hw,_⟩:=a;refine ⟨aC,?_,k.mono fun q ab=>⟨(1,t,0),ab ▸ hw⟩⟩;exact w.vd al k (fun q ab=>⟨0,by rw [ab];exact hw⟩) (fun _ _ U=>U) (fun _ _ U=>.inl U) a2
end Go.Proofs.YtemdgidnhgcafaaGreatDoor.Pk
namespace Go.Proofs.YtemdgidnhgcafaaGreatDoor.Pk
open Go Go.Proofs Go.Proofs.YtemdgidnhgcafaaGreatDoor.Ab Go.Proofs.Vw
theorem arK (r:sA):(jU r).all (·.one)=true:=rfl
def eF (rs:List dM):List V:=rs.flatMap fun p=>jU p.1
theorem i5 (rs:List dM):(eF rs).length=rs.length * 3:=gM (enc:=fun p:dM=>jU p.1) (sz:=3) (fun _=>rfl) rs
theorem U5 {h:I} {s:V} {rs:List dM} (o:Own h 45 3 s (eF rs)) (aw:rs.length≤2 ^ 40) (p:dM) :
  ∃ cJ h',kO ds 25 25 s (.bj h.n 0 1 1) (h.push (.cells (jU p.1) 45 none))=some (cJ,h')∧Own h' 45 3 cJ (eF (rs++[p]))∧J h h' (a6 s)∧dm h s cJ:=by
 have b9:J h (h.push (.cells (jU p.1) 45 none)) none_:=J.push _ _ _;have gK:Own (h.push (.cells (jU p.1) 45 none)) 45 3 (.bj h.n 0 1 1) (jU p.1):=Own.eZ (jU p.1) 1 rfl (by decide)
 have dR:=vJ (P:=ds) (t:=25) tM gK (n:=1) rfl (by decide) (arK p.1)
 obtain ⟨cJ,h',fh,hq,my,gW⟩:=vI (P:=ds) (t:=25) (tx:=25) B9 (by decide) (o.br b9) dR rfl (fun m hm=>by
  change m * 3=_ at hm;rw [i5] at hm;change m * 3=_+3 at hm;exact ⟨by simp only [lim];omega,by simp only [lim];omega⟩)
 refine ⟨cJ,h',fh,?_,(b9.up).trans' my,?_⟩
 ·unfold eF;rw [avH];simpa [eF] using hq
 ·rcases gW with gW | gW
  ·exact .inl gW
  ·exact .inr fun q ab=>OF b9.n (gW q ab)
def fD (rs:List dM):List V:=rs.map fun p=>V.bool p.2
theorem U6 {h:I} {s:V} {rs:List dM} (o:Own h 4 1 s (fD rs)) (aw:rs.length≤2 ^ 40) (p:dM) :
  ∃ cJ h',kO ds 88 88 s (.bj h.n 0 1 1) (h.push (.cells [.bool p.2] 4 none))=some (cJ,h')∧Own h' 4 1 cJ (fD (rs++[p]))∧J h h' (a6 s)∧dm h s cJ:=by
 have b9:J h (h.push (.cells [V.bool p.2] 4 none)) none_:=J.push _ _ _;have gK:Own (h.push (.cells [V.bool p.2] 4 none)) 4 1 (.bj h.n 0 1 1) [V.bool p.2]:=Own.eZ [V.bool p.2] 1 rfl (by decide)
 have dR:=vJ (P:=ds) (t:=88) AK gK (n:=1) rfl (by decide) rfl
 obtain ⟨cJ,h',fh,hq,my,gW⟩:=vI (P:=ds) (t:=88) (tx:=88) GP (by decide) (o.br b9) dR rfl (fun m hm=>by
  change m * 1=_ at hm;simp only [fD,List.length_map,ave,avi] at hm;exact ⟨by simp only [lim];omega,by simp only [lim];omega⟩)
 refine ⟨cJ,h',fh,?_,(b9.up).trans' my,?_⟩
 ·simpa [fD] using hq
 ·rcases gW with gW | gW
  ·exact .inl gW
  ·exact .inr fun q ab=>OF b9.n (gW q ab)
theorem adm (h:I) (r:sA):ie ds 25 1 [(0,.agg [.int .i64 r.k,.int .i64 r.v,.int .i64 r.t])] h=some (.bj h.n 0 1 1,h.push (.cells (jU r) 45 none)):=by rw [lY B9];rfl
theorem adn (h:I) (b:Bool):ie ds 88 1 [(0,.bool b)] h=some (.bj h.n 0 1 1,h.push (.cells [.bool b] 4 none)):=by rw [lY GP];rfl
theorem ado {h:I} {ow:gd} {b:Nat} {k:Int} {rs:List dM} {rv dv:V} (p:dM) (aw:rs.length≤2 ^ 40) (g:h.get b=.cells [.int .i64 k,rv,dv] 90 none) (gT:Own h 45 3 rv (eF rs)) (dZ:Own h 4 1 dv (fD rs))
  (t0:ow b=some (0,k,0)) (t1:∀ j,a8 rv=some j→ow j=some (0,k,1)) (t2:∀ j,a8 dv=some j→ow j=some (0,k,2)) (hold:∀ q bl,ow q=some bl→q<h.n) :
  ∃ et ad iU bn ow',kO ds 25 25 rv (.bj h.n 0 1 1) (h.push (.cells (jU p.1) 45 none))=some (et,ad)∧ad.get b=.cells [.int .i64 k,rv,dv] 90 none∧et.one=true∧et.cells=some [et] ∧
   kO ds 88 88 dv (.bj ad.n 0 1 1) ((ad.set b (.cells [.int .i64 k,et,dv] 90 none)).push (.cells [.bool p.2] 4 none))=some (iU,bn)∧bn.get b=.cells [.int .i64 k,et,dv] 90 none∧iU.one=true∧iU.cells=some [iU] ∧
   J h ad (fun q=>a6 rv q)∧J (ad.set b (.cells [.int .i64 k,et,dv] 90 none)) bn (fun q=>a6 dv q)∧J h ad (fun q=>∃ i,ow q=some (0,k,i))∧J h bn (fun q=>∃ i,ow q=some (0,k,i))∧J h (bn.set b (.cells [.int .i64 k,et,iU] 90 none)) (fun q=>∃ i,ow q=some (0,k,i)) ∧
   (∀ q bl,ow q=some bl→ow' q=some bl)∧(∀ q bl,ow' q=some bl→ow q=some bl∨(h.n≤q∧q<bn.n))∧n0 (bn.set b (.cells [.int .i64 k,et,iU] 90 none)) ow' b k (rs++[p]):=by
 obtain ⟨et,ad,aC,LB,ba,LC⟩:=U5 gT aw p;have uk:=hold _ _ t0;have ve:¬a6 rv b:=fun U=>by have:=t1 b U;rw [t0] at this;simp at this
 have sC:¬a6 dv b:=fun U=>by have:=t2 b U;rw [t0] at this;simp at this
 have g2:=(ba.get b uk ve).trans g;have dy:=ba.n;have adp:Own ad 4 1 dv (fD rs):=dZ.ai ba fun j aV U=>by have h1:=t1 j U;have ad:=t2 j aV;rw [h1] at ad;simp at ad
 obtain ⟨aD,xQ⟩:∃ y,y=ad.set b (.cells [.int .i64 k,et,dv] 90 none):=⟨_,rfl⟩;have b2:J ad aD (·=b):=by rw [xQ];exact J.set _ _ _
 have n3:aD.n=ad.n:=by rw [xQ];rfl
 have g3:aD.get b=.cells [.int .i64 k,et,dv] 90 none:=by rw [xQ];exact aT
 have adq:=adp.ai b2 fun j aV U=>sC (by rw [←U];exact aV)
 have CQ:∀ j,a8 et=some j→j≠b∧(a8 rv=some j∨h.n≤j):=fun j aV=>by
  rcases LC with e | e
  ·exact ⟨fun U=>ve (by rw [←U,a6,←e];exact aV),.inl (by rw [←e];exact aV)⟩
  ·have:=e j aV;exact ⟨by omega,.inr this⟩
 have QJ:=LB.ai b2 fun j aV U=>(CQ j aV).1 U;obtain ⟨iU,bn,jr,FL,db,adr⟩:=U6 adq aw p;have n4:=db.n;have g4:=(db.get b (by omega) sC).trans g3
 have QK:=QJ.ai db fun j aV U=>by
  rcases (CQ j aV).2 with h1 | h1
  ·have h1:=t1 j h1;have ad:=t2 j U;rw [h1] at ad;simp at ad
  ·have:=hold _ _ (t2 j U);omega
 have LD:∀ j,a8 iU=some j→j≠b∧(a8 dv=some j∨aD.n≤j):=fun j aV=>by
  rcases adr with e | e
  ·exact ⟨fun U=>sC (by rw [←U,a6,←e];exact aV),.inl (by rw [←e];exact aV)⟩
  ·have:=e j aV;exact ⟨by omega,.inr this⟩
 have cY:J bn (bn.set b (.cells [.int .i64 k,et,iU] 90 none)) (·=b):=J.set _ _ _;have da:J h ad (fun q=>∃ i,ow q=some (0,k,i)):=ba.mono fun q ab=>⟨1,t1 q ab⟩;have eT:J h aD (fun q=>∃ i,ow q=some (0,k,i)):=da.trans b2 fun q ab U=>⟨0,by rw [U];exact t0⟩
 have mc:J h bn (fun q=>∃ i,ow q=some (0,k,i)):=eT.trans db fun q ab U=>⟨2,t2 q U⟩;have jL:=mc.trans cY fun q ab U=>⟨0,by rw [U];exact t0⟩
 have apart:∀ j,a8 et=some j→a8 iU=some j→False:=fun j h1 ad=>by
  rcases (LD j ad).2 with aD | aD
  ·rcases (CQ j h1).2 with bn | bn
   ·have a:=t1 j bn;have b:=t2 j aD;rw [a] at b;simp at b
   ·have:=hold _ _ (t2 j aD);omega
  ·have:=QJ.lt j h1;omega
 obtain ⟨ow',how⟩:∃ f:gd,f=fun q=>if q<h.n then ow q else if a8 et=some q then some (0,k,1) else if a8 iU=some q then some (0,k,2) else ow q:=⟨_,rfl⟩
 have dw:∀ q bl,ow q=some bl→ow' q=some bl:=fun q bl ab=>by rw [how];simp only;rw [if_pos (hold _ _ ab)];exact ab
 have ads:∀ j,a8 et=some j→j<bn.n:=fun j aV=>QK.lt j aV;have adt:∀ j,a8 iU=some j→j<bn.n:=fun j aV=>FL.lt j aV;refine ⟨et,ad,iU,bn,ow',aC,g2,?_,?_,by rw [←xQ,←n3];exact jr,g4,?_,?_,ba,by rw [←xQ];exact db,da,mc,jL,dw,fun q bl ab=>?_,et,iU,aT,QK.ai cY (fun j aV U=>(CQ j aV).1 U),FL.ai cY (fun j aV U=>(LD j aV).1 U),dw _ _ t0,fun j aV=>?_,fun j aV=>?_⟩
 ·rcases LB with ⟨rfl | rfl,_⟩ | ⟨_,_,_,_,_,rfl,_⟩<;>rfl
 ·rcases LB with ⟨rfl | rfl,_⟩ | ⟨_,_,_,_,_,rfl,_⟩<;>rfl
 ·rcases FL with ⟨rfl | rfl,_⟩ | ⟨_,_,_,_,_,rfl,_⟩<;>rfl
 ·rcases FL with ⟨rfl | rfl,_⟩ | ⟨_,_,_,_,_,rfl,_⟩<;>rfl
 ·rw [how] at ab;simp only at ab;split at ab
  ·exact .inl ab
  ·rename_i h1;split at ab
   ·rename_i ad;exact .inr ⟨by omega,ads _ ad⟩
   ·split at ab
    ·rename_i aD;exact .inr ⟨by omega,adt _ aD⟩
    ·exact .inl ab
 ·rcases (CQ j aV).2 with h1 | h1
  ·exact dw _ _ (t1 j h1)
  ·rw [how];simp only;rw [if_neg (by omega),if_pos aV]
 ·rcases (LD j aV).2 with h1 | h1
  ·exact dw _ _ (t2 j h1)
  ·rw [how];simp only;rw [if_neg (by omega),if_neg (fun U=>apart j U aV),if_pos aV]
end Go.Proofs.YtemdgidnhgcafaaGreatDoor.Pk
namespace Go.Proofs.YtemdgidnhgcafaaGreatDoor.Pk
open Go Go.Proofs Go.Proofs.YtemdgidnhgcafaaGreatDoor.Ab Go.Proofs.Vw
theorem jh.LF {aK h h':I} {lm b3 lc dJ:Nat} {logs:Int→List dM} {tasks:Int→Option jW} {L T:jV} {ow ow':gd} (w:jh aK h lm b3 logs tasks L lc T dJ ow) {k:Int} {b:Nat} {rs:List dM} {own:Nat→Prop}
  (al:bZ L k=some b) (b9:J h h' own) (kr:∀ q,own q→∃ i,ow q=some (0,k,i)) (dw:∀ q bl,ow q=some bl→ow' q=some bl) (hold:∀ q bl,ow' q=some bl→ow q=some bl∨(h.n≤q∧q<h'.n)) (a:n0 h' ow' b k rs) (bI:rs≠[]) :
  jh aK h' lm b3 (fun n=>if n=k then rs else logs n) tasks L lc T dJ ow' where
 ai:=w.ai.trans b9 fun q ab U=>by
  obtain ⟨i,hi⟩:=kr q U;have:=(w.bx _ _ hi).1;omega
 bx q bl ab:=by
  rcases hold q bl ab with U | U
  ·have:=w.bx q bl U;have:=b9.n;omega
  ·have:=w.ai.n;omega
 hb:=dw _ _ w.hb
 hT:=dw _ _ w.hT
 n5:=(b9.get lm (w.bx _ _ w.hb).2 (fun U=>by obtain ⟨i,hi⟩:=kr _ U;rw [w.hb] at hi;simp at hi)).trans w.n5
 gt:=(b9.get b3 (w.bx _ _ w.hT).2 (fun U=>by obtain ⟨i,hi⟩:=kr _ U;rw [w.hT] at hi;simp at hi)).trans w.gt
 mh:=w.mh
 mi:=w.mi
 kc:=w.kc
 kd:=w.kd
 has u c ab:=by
  by_cases hu:u=k
  ·subst hu;rw [al] at ab;injection ab with ab;subst ab;simp only [if_true];exact ⟨a,bI⟩
  ·simp only [hu,if_false];exact ⟨(w.has u c ab).1.on b9 (fun p U i he=>by obtain ⟨i2,hi⟩:=kr _ U;rw [hi] at he;simp at he;exact hu he.1.symm) dw fun q bl U=>(w.bx q bl U).2,(w.has u c ab).2⟩
 jX u ab:=by
  by_cases hu:u=k
  ·subst hu;rw [al] at ab;cases ab
  ·simp only [hu,if_false];exact w.jX u ab
 jY u c ab:=by
  obtain ⟨jc,h1,ad⟩:=w.jY u c ab;exact ⟨jc,h1,ad.on b9 (fun p U i he=>by obtain ⟨i2,hi⟩:=kr _ U;rw [hi] at he;simp at he) dw fun q bl U=>(w.bx q bl U).2⟩
 jZ:=w.jZ
theorem jh.LG {aK h h':I} {lm b3 lc dJ:Nat} {logs:Int→List dM} {tasks:Int→Option jW} {L T:jV} {ow ow':gd} (w:jh aK h lm b3 logs tasks L lc T dJ ow) {k:Int} {b:Nat} {rs:List dM} {own:Nat→Prop}
  (al:bZ L k=none) (b9:J h h' own) (kr:∀ q,own q→q=lm∨h.n≤q) (adu:h'.get lm=.map (hD (cW lc L k b)) (gj lc L k)) (dw:∀ q bl,ow q=some bl→ow' q=some bl) (hold:∀ q bl,ow' q=some bl→ow q=some bl∨(h.n≤q∧q<h'.n)) (a:n0 h' ow' b k rs) (bI:rs≠[]) :
  jh aK h' lm b3 (fun n=>if n=k then rs else logs n) tasks (cW lc L k b) (gj lc L k) T dJ ow' where
 ai:=w.ai.trans b9 fun q ab U=>by
  have:=(w.bx _ _ w.hb).1;have:=w.ai.n;rcases kr q U with h1 | h1<;>omega
 bx q bl ab:=by
  rcases hold q bl ab with U | U
  ·have:=w.bx q bl U;have:=b9.n;omega
  ·have:=w.ai.n;omega
 hb:=dw _ _ w.hb
 hT:=dw _ _ w.hT
 n5:=adu
 gt:=(b9.get b3 (w.bx _ _ w.hT).2 (fun U=>by
  rcases kr _ U with h1 | h1
  ·have ad:=w.hb;rw [←h1,w.hT] at ad;simp at ad
  ·have:=(w.bx _ _ w.hT).2;omega)).trans w.gt
 mh:=eA.cW w.mh k b
 mi:=w.mi
 kc:=w.kc.set lc k b
 kd:=w.kd
 has u c ab:=by
  rw [wX] at ab;by_cases hu:u=k
  ·subst hu;rw [if_pos rfl] at ab;injection ab with ab;subst ab;simp only [if_true];exact ⟨a,bI⟩
  ·rw [if_neg hu] at ab;simp only [hu,if_false];exact ⟨(w.has u c ab).1.on b9 (fun p U i he=>by
    rcases kr _ U with h1 | h1
    ·rw [h1,w.hb] at he;simp at he
    ·have:=(w.bx _ _ he).2;omega) dw fun q bl U=>(w.bx q bl U).2,(w.has u c ab).2⟩
 jX u ab:=by
  rw [wX] at ab;by_cases hu:u=k
  ·rw [if_pos hu] at ab;cases ab
  ·rw [if_neg hu] at ab;simp only [hu,if_false];exact w.jX u ab
 jY u c ab:=by
  obtain ⟨jc,h1,ad⟩:=w.jY u c ab;exact ⟨jc,h1,ad.on b9 (fun p U i he=>by
   rcases kr _ U with h1 | h1
   ·rw [h1,w.hb] at he;simp at he
   ·have:=(w.bx _ _ he).2;omega) dw fun q bl U=>(w.bx q bl U).2⟩
 jZ:=w.jZ
def iD (logs:Int→List dM) (x:bC):Int→List dM:=fun n=>if n=x.log then logs x.log++[(x.r,x.del)] else logs n
theorem LH {aK h:I} {lm b3 lc dJ:Nat} {logs:Int→List dM} {tasks:Int→Option jW} {L T:jV} {ow:gd} (x:bC) (w:jh aK h lm b3 logs tasks L lc T dJ ow) (hlen:(logs x.log).length≤2 ^ 40) :
  af ds 50 [.agg [.map lm,.map b3],.agg (bh x)] h (fun r h'=>r=.tuple []∧∃ jw yF ow',jh aK h' lm b3 (iD logs x) tasks jw yF T dJ ow'∧(∀ q bl,ow q=some bl→ow' q=some bl)∧J h h' (fun q=>q=lm∨∃ k i,ow q=some (0,k,i))∧(∀ q bl,ow' q=some bl→ow q=some bl∨h.n≤q)):=by
 refine af.au (c:=_) Tryz.func50 rfl (by kernel_rfl) (by simp) ?_
 obtain ⟨eQ,dx⟩:∃ y,y=h.push (.cells [.map lm,.map b3] 74 none):=⟨_,rfl⟩;have CR:J h eQ none_:=by rw [dx];exact J.push _ _ _
 have LI:eQ.get h.n=.cells [.map lm,.map b3] 74 none:=by rw [dx];exact ck
 have zV:eQ.n=h.n+1:=by rw [dx];rfl
 obtain ⟨H,hH⟩:∃ y,y=eQ.push (.cells (bh x) 48 none):=⟨_,rfl⟩;have tu:J eQ H none_:=by rw [hH];exact J.push _ _ _
 have bw:=CR.trans' tu;have iR:H.get eQ.n=.cells (bh x) 48 none:=by rw [hH];exact ck
 have uc:=(tu.get h.n (by omega) (by simp [none_])).trans LI
 have ju:H.n=h.n+2:=by rw [hH,dq];omega
 have mD:=w.on bw;have ay:(V.agg [.map lm,.map b3]).cells=some [.map lm,.map b3]:=rfl;have pd:(V.agg (bh x)).cells=some (bh x):=rfl;have iQ:=arI L x.log mD.n5;have d4:cP (aO.cells (bh x) 48 none) 4=some ((bh x).drop 4):=rfl;simp only [ae,vt,AS,GH,SK,aW,SX,ay,pd];rw [←dx,←hH];clear dx hH;cases hk:bZ L x.log with
 | some b=>
  rw [hk] at iQ;obtain ⟨⟨rv,dv,g,gT,dZ,t0,t1,t2⟩,bI⟩:=mD.has x.log b hk;obtain ⟨et,ad,iU,bn,ow',CS,g2,vu,vf,CT,g4,Bj,vg,vh,yG,da,mc,jL,dw,hold,EH⟩:=ado (x.r,x.del) hlen g gT dZ t0 t1 t2 (fun q bl ab=>(mD.bx q bl ab).2);have jF:∀ q,h.n≤q→∀ bl,ow q≠some bl:=fun q ab bl he=>by have:=(w.bx _ _ he).2;omega
  have zW:=(da.get eQ.n (by omega) (fun ⟨i,U⟩=>jF _ (by omega) _ U)).trans iR
  have LJ:=adm H x.r;have st1:bF (some 1) (aO.cells [V.int .i64 x.log,rv,dv] 90 none) 1 [et]=some (.cells [.int .i64 x.log,et,dv] 90 none):=by rw [rU vu];rfl
  have st2:bF (some 1) (aO.cells [V.int .i64 x.log,et,dv] 90 none) 2 [iU]=some (.cells [.int .i64 x.log,et,iU] 90 none):=by rw [rU Bj];rfl
  simp only at CS CT;rw [zV] at iR zW;have CP:=(da.get h.n (by omega) (fun ⟨i,U⟩=>jF _ (by omega) _ U)).trans uc
  have U7:=adn (ad.set b (.cells [.int .i64 x.log,et,dv] 90 none)) x.del;have adv:h.n+1≠b:=fun U=>jF (h.n+1) (by omega) _ (by rw [U];exact t0)
  have FM:(ad.set b (.cells [.int .i64 x.log,et,dv] 90 none)).get (h.n+1)=.cells (bh x) 48 none:=((J.set ad b _).get (h.n+1) (by have:=da.n;omega) adv).trans zW
  simp only [ae,vt,AS,By,bh,iQ];have f1:a6 rv b=False:=eq_false fun U=>by have:=t1 b U;rw [t0] at this;simp at this
  have f2:a6 rv (h.n+1)=False:=eq_false fun U=>jF (h.n+1) (by omega) _ (t1 _ U)
  have f3:a6 dv b=False:=eq_false fun U=>by have:=t2 b U;rw [t0] at this;simp at this
  have f4:a6 dv (h.n+1)=False:=eq_false fun U=>jF (h.n+1) (by omega) _ (t2 _ U)
  have hU:J H (H.push (.cells (jU x.r) 45 none)) (fun q=>a6 rv q):=J.push _ _ _;have iV:J (ad.set b (.cells [.int .i64 x.log,et,dv] 90 none)) ((ad.set b (.cells [.int .i64 x.log,et,dv] 90 none)).push (.cells [.bool x.del] 4 none)) (fun q=>a6 dv q):=J.push _ _ _;refine aZ.bB (fun q=>a6 rv q) [7,8,11] (.q 0 (.q 1 (.q 2 (.q 3 (.q 4 (.q 5 (.q 6 (.e 7 (.e 8 (.q 9 (.q 10 (.a 11 .done))) .stop) .stop)))))))) (by kernel_rfl) (by kernel_rfl) (by kernel_rfl) ?_
  simp only [ae,bM,eH,vt,AS,By,NN,GK,Jn,dG,S9,g,iR,bh,LJ,CS,g2,st1,vf,f1,f2,hU,vh];refine aZ.bB (fun q=>a6 dv q) [7,8,11] (.q 0 (.q 1 (.q 2 (.q 3 (.q 4 (.q 5 (.q 6 (.e 7 (.e 8 (.q 9 (.q 10 (.a 11 .done))) .stop) .stop)))))))) (by kernel_rfl) (by kernel_rfl) (by kernel_rfl) ?_
  simp only [ae,bM,eH,vt,AS,By,SI,GL,py,Jq,Te,FM,bh,U7,CT,g4,st2,vg,f3,f4,iV,yG,kQ,aBN,hK];refine ax ⟨rfl,L,lc,ow',mD.LF hk jL (fun q U=>U) dw hold EH (by simp),dw,(bw.up).trans jL fun q ab ⟨i,U⟩=>.inr ⟨_,i,U⟩,fun q bl ab=>by
   rcases hold q bl ab with U | U
   ·exact .inl U
   ·exact .inr (by omega)⟩
 | none=>
  rw [hk] at iQ;have U8:=w.jX x.log hk;have jF:∀ q,h.n≤q→∀ bl,ow q≠some bl:=fun q ab bl he=>by have:=(w.bx _ _ he).2;omega
  obtain ⟨bK,bs⟩:∃ y,y=H.push (.cells [V.int .i64 x.log,.ag,.ag] 90 none):=⟨_,rfl⟩;have ba:J H bK none_:=by rw [bs];exact J.push _ _ _
  have dy:bK.n=H.n+1:=by rw [bs];rfl
  have zX:bK.get H.n=.cells [V.int .i64 x.log,.ag,.ag] 90 none:=by rw [bs];exact ck
  have CP:=(ba.get h.n (by omega) (by simp [none_])).trans uc
  rw [zV] at iR;have zW:=(ba.get (h.n+1) (by omega) (by simp [none_])).trans iR
  have so:=U4 L x.log H.n (mD.on ba).n5;obtain ⟨fj,eS⟩:∃ y,y=bK.set lm (.map (hD (cW lc L x.log H.n)) (gj lc L x.log)):=⟨_,rfl⟩;have adl:=w.bx _ _ w.hb;have b2:J bK fj (·=lm):=by rw [eS];exact J.set _ _ _
  have n3:fj.n=bK.n:=by rw [eS];rfl
  have adw:fj.get lm=.map (hD (cW lc L x.log H.n)) (gj lc L x.log):=by rw [eS];exact aT
  have FN:=(b2.get H.n (by omega) (by omega)).trans zX
  have FM:=(b2.get (h.n+1) (by omega) (by omega)).trans zW
  have zY:=(b2.get h.n (by omega) (by omega)).trans CP
  obtain ⟨dL,EI⟩:∃ f:gd,f=fun q=>if q=H.n then some (0,x.log,0) else ow q:=⟨_,rfl⟩
  have QL:∀ q bl,ow q=some bl→dL q=some bl:=fun q bl ab=>by rw [EI];simp only;rw [if_neg (fun U=>jF q (by omega) bl ab)];exact ab
  have l4:∀ q bl,dL q=some bl→ow q=some bl∨q=H.n:=fun q bl ab=>by
   rw [EI] at ab;simp only at ab;split at ab
   ·rename_i U;exact .inr U
   ·exact .inl ab
  obtain ⟨et,ad,iU,bn,ow',CS,g2,vu,vf,CT,g4,Bj,vg,vh,yG,da,mc,jL,dw,hold,EH⟩:=ado (h:=fj) (ow:=dL) (b:=H.n) (k:=x.log) (rs:=[]) (rv:=.ag) (dv:=.ag) (x.r,x.del) (by simp) FN (Own.ag _ _ _) (Own.ag _ _ _) (by rw [EI];simp) (fun j aV=>by simp [a8] at aV) (fun j aV=>by simp [a8] at aV) (fun q bl ab=>by
   rcases l4 q bl ab with U | U
   ·have:=(w.bx _ _ U).2;omega
   ·omega)
  simp only at CS CT;have cY:J ad (ad.set H.n (.cells [.int .i64 x.log,et,.ag] 90 none)) (·=H.n):=J.set _ _ _;have adx:J bn (bn.set H.n (.cells [.int .i64 x.log,et,iU] 90 none)) (·=H.n):=J.set _ _ _;have j2:∀ q,¬a6 .ag q:=fun q U=>by simp [a6,a8] at U
  have aur:=vh.n;have ady:=(cY.get (h.n+1) (by omega) (by omega)).trans ((vh.get (h.n+1) (by omega) (j2 _)).trans FM)
  have qO:J H (bn.set H.n (.cells [.int .i64 x.log,et,iU] 90 none)) (fun q=>q=lm∨H.n≤q) :=
   (((((ba.up).trans b2 fun q ab U=>.inl U).trans vh fun q ab U=>(j2 _ U).elim).trans cY fun q ab U=>.inr (by omega)).trans yG fun q ab U=>(j2 _ U).elim).trans adx fun q ab U=>.inr (by omega)
  have adz:(bn.set H.n (.cells [.int .i64 x.log,et,iU] 90 none)).get lm=.map (hD (cW lc L x.log H.n)) (gj lc L x.log) :=
   (adx.get lm (by have:=yG.n;have:(ad.set H.n (.cells [.int .i64 x.log,et,.ag] 90 none)).n=ad.n:=rfl;omega) (by omega)).trans ((yG.get lm (by have:(ad.set H.n (.cells [.int .i64 x.log,et,.ag] 90 none)).n=ad.n:=rfl;omega) (j2 _)).trans ((cY.get lm (by omega) (by omega)).trans ((vh.get lm (by omega) (j2 _)).trans adw)))
  have LJ:=adm fj x.r;have U7:=adn (ad.set H.n (.cells [.int .i64 x.log,et,.ag] 90 none)) x.del;have st1:bF (some 1) (aO.cells [V.int .i64 x.log,.ag,.ag] 90 none) 1 [et]=some (.cells [.int .i64 x.log,et,.ag] 90 none):=by rw [rU vu];rfl
  have st2:bF (some 1) (aO.cells [V.int .i64 x.log,et,.ag] 90 none) 2 [iU]=some (.cells [.int .i64 x.log,et,iU] 90 none):=by rw [rU Bj];rfl
  have f1:∀ q,a6 .ag q=False:=fun q=>eq_false (j2 q);have hU:J fj (fj.push (.cells (jU x.r) 45 none)) (fun q=>a6 .ag q):=J.push _ _ _;have iV:J (ad.set H.n (.cells [.int .i64 x.log,et,.ag] 90 none)) ((ad.set H.n (.cells [.int .i64 x.log,et,.ag] 90 none)).push (.cells [.bool x.del] 4 none)) (fun q=>a6 .ag q):=J.push _ _ _;simp only [ae,vt,AS,By,GH,SK,aW,SX,YV,Jx,iR,bh,iQ];rw [←bs];clear bs;simp only [ae,vt,AS,By,GH,aW,CP,zW,bh,so];rw [←eS];clear eS;have adA:J fj ad none_:=vh.mono fun q U=>(j2 _ U).elim;have adB:J (ad.set H.n (.cells [.int .i64 x.log,et,.ag] 90 none)) bn none_:=yG.mono fun q U=>(j2 _ U).elim;refine aZ.bB none_ [7,8,11] (.q 0 (.q 1 (.q 2 (.q 3 (.q 4 (.q 5 (.q 6 (.e 7 (.e 8 (.q 9 (.q 10 (.a 11 .done))) .stop) .stop)))))))) (by kernel_rfl) (by kernel_rfl) (by kernel_rfl) ?_
  simp only [ae,bM,vt,AS,By,NN,GK,Jn,dG,S9,FN,FM,bh,LJ,CS,g2,st1,vf];refine ⟨adA,?_⟩;refine aZ.bB none_ [7,8,11] (.q 0 (.q 1 (.q 2 (.q 3 (.q 4 (.q 5 (.q 6 (.e 7 (.e 8 (.q 9 (.q 10 (.a 11 .done))) .stop) .stop)))))))) (by kernel_rfl) (by kernel_rfl) (by kernel_rfl) ?_
  simp only [ae,bM,vt,AS,By,SI,GL,py,Jq,Te,ady,bh,U7,CT,g4,st2,vg,kQ,aBN,hK];refine ⟨adB,?_⟩;have arL:=mD.LG (rs:=logs x.log++[(x.r,x.del)]) hk qO (fun q U=>U) adz (fun q bl ab=>dw _ _ (QL _ _ ab)) (fun q bl ab=>by
   rcases hold q bl ab with U | U
   ·rcases l4 q bl U with h1 | h1
    ·exact .inl h1
    ·have:=qO.n;have:=yG.n;have:(bn.set H.n (.cells [.int .i64 x.log,et,iU] 90 none)).n=bn.n:=rfl;have:(ad.set H.n (.cells [.int .i64 x.log,et,.ag] 90 none)).n=ad.n:=rfl;exact .inr ⟨by omega,by omega⟩
   ·have:(bn.set H.n (.cells [.int .i64 x.log,et,iU] 90 none)).n=bn.n:=rfl;exact .inr ⟨by omega,by omega⟩) (by rw [U8];exact EH) (by simp)
  exact ax ⟨rfl,_,_,ow',arL,fun q bl ab=>dw _ _ (QL _ _ ab),(bw.up).trans qO fun q ab U=>by
   rcases U with U | U
   ·exact .inl U
   ·omega,fun q bl ab=>by
   rcases hold q bl ab with U | U
   ·rcases l4 q bl U with h1 | h1
    ·exact .inl h1
    ·exact .inr (by omega)
   ·exact .inr (by omega)⟩
end Go.Proofs.YtemdgidnhgcafaaGreatDoor.Pk
namespace Go.Proofs.YtemdgidnhgcafaaGreatDoor.Pk
open Go Go.Proofs Go.Proofs.YtemdgidnhgcafaaGreatDoor.Ab Go.Proofs.Vw
def pJ (l:List (bC×Nat)):List V:=l.flatMap gl
theorem U9 {h:I} {s:V} {l:List (bC×Nat)} (o:Own h 186 12 s (pJ l)) (aw:l.length≤2 ^ 30) (p:bC×Nat) :
  ∃ cJ h',kO ds 123 123 s (.bj h.n 0 1 1) (h.push (.cells (gl p) 186 none))=some (cJ,h')∧Own h' 186 12 cJ (pJ (l++[p]))∧J h h' (a6 s)∧dm h s cJ:=by
 have b9:J h (h.push (.cells (gl p) 186 none)) none_:=J.push _ _ _;have gK:Own (h.push (.cells (gl p) 186 none)) 186 12 (.bj h.n 0 1 1) (gl p):=Own.eZ (gl p) 1 rfl (by decide)
 have dR:=vJ (P:=ds) (t:=123) Jl gK (n:=1) rfl (by decide) rfl
 obtain ⟨cJ,h',fh,hq,my,gW⟩:=vI (P:=ds) (t:=123) (tx:=123) YX (by decide) (o.br b9) dR rfl (fun m hm=>by
  change m * 12=_ at hm;have:(pJ l).length=l.length * 12:=gM (enc:=gl) (sz:=12) Lz l;have nC:m * 12=l.length * 12+12:=by rw [this] at hm;exact hm
  have tc:m=l.length+1:=by omega
  subst tc;refine ⟨?_,?_⟩
  ·exact OF (Nat.mul_le_mul_left (l.length+1) (show _≤1024 by decide)) (by simp only [lim];omega)
  ·simp only [lim];omega)
 refine ⟨cJ,h',fh,?_,(b9.up).trans' my,?_⟩
 ·unfold pJ;rw [avH];simpa [pJ] using hq
 ·rcases gW with gW | gW
  ·exact .inl gW
  ·exact .inr fun q ab=>OF b9.n (gW q ab)
theorem arM (h:I) (x:bC) (at_:Nat):ie ds 123 1 [(0,.agg (gl (x,at_)))] h=some (.bj h.n 0 1 1,h.push (.cells (gl (x,at_)) 186 none)):=by rw [lY YX];rfl
theorem arN {h:I} {ow:gd} {b:Nat} {t:Int} {j:jW} (x:bC) (at_:Nat) (aw:j.opn.length≤2 ^ 30) {mo h0 jg:V} (g:h.get b=.cells [.int .i64 t,.int .i64 j.ep,.int .i64 j.tx,mo,h0,.int .i64 0,jg] 125 none) (av:LA mo j.offs) (gT:Own h 3 1 h0 (ar j.ord)) (dZ:Own h 186 12 jg (pJ j.opn))
  (t0:ow b=some (1,t,0)) (t1:∀ q,a8 h0=some q→ow q=some (1,t,1)) (t2:∀ q,a8 jg=some q→ow q=some (1,t,2)) (hold:∀ q bl,ow q=some bl→q<h.n) :
  ∃ oK ad ow',kO ds 123 123 jg (.bj h.n 0 1 1) (h.push (.cells (gl (x,at_)) 186 none))=some (oK,ad)∧ad.get b=.cells [.int .i64 t,.int .i64 j.ep,.int .i64 j.tx,mo,h0,.int .i64 0,jg] 125 none∧oK.one=true∧oK.cells=some [oK]∧J h ad (fun q=>a6 jg q) ∧
   J h (ad.set b (.cells [.int .i64 t,.int .i64 j.ep,.int .i64 j.tx,mo,h0,.int .i64 0,oK] 125 none)) (fun q=>∃ i,ow q=some (1,t,i))∧(∀ q bl,ow q=some bl→ow' q=some bl)∧(∀ q bl,ow' q=some bl→ow q=some bl∨(h.n≤q∧q<ad.n)) ∧
   lR (ad.set b (.cells [.int .i64 t,.int .i64 j.ep,.int .i64 j.tx,mo,h0,.int .i64 0,oK] 125 none)) ow' b t { j with opn:=j.opn++[(x,at_)] }:=by
 obtain ⟨oK,ad,aC,FO,ba,LC⟩:=U9 dZ aw (x,at_);have uk:=hold _ _ t0;have ve:¬a6 jg b:=fun U=>by have:=t2 b U;rw [t0] at this;simp at this
 have sC:∀ q,a8 h0=some q→q≠b:=fun q ab U=>by have:=t1 q ab;rw [U,t0] at this;simp at this
 have g2:=(ba.get b uk ve).trans g;have dy:=ba.n;have LK:=gT.ai ba fun q ab U=>by have h1:=t1 q ab;have ad:=t2 q U;rw [h1] at ad;simp at ad
 have cY:J ad (ad.set b (.cells [.int .i64 t,.int .i64 j.ep,.int .i64 j.tx,mo,h0,.int .i64 0,oK] 125 none)) (·=b):=J.set _ _ _;have CU:∀ q,a8 oK=some q→q≠b∧(a8 jg=some q∨h.n≤q):=fun q ab=>by
  rcases LC with e | e
  ·exact ⟨fun U=>ve (by rw [←U,a6,←e];exact ab),.inl (by rw [←e];exact ab)⟩
  ·have:=e q ab;exact ⟨by omega,.inr this⟩
 obtain ⟨ow',how⟩:∃ f:gd,f=fun q=>if q<h.n then ow q else if a8 oK=some q then some (1,t,2) else ow q:=⟨_,rfl⟩
 have dw:∀ q bl,ow q=some bl→ow' q=some bl:=fun q bl ab=>by rw [how];simp only;rw [if_pos (hold _ _ ab)];exact ab
 refine ⟨oK,ad,ow',aC,g2,?_,?_,ba,(ba.mono (o':=fun q=>∃ i,ow q=some (1,t,i)) fun q ab=>⟨2,t2 q ab⟩).trans cY fun q ab U=>⟨0,by rw [U];exact t0⟩,dw,fun q bl ab=>?_,mo,h0,oK,aT,av,LK.ai cY sC,FO.ai cY (fun q ab U=>(CU q ab).1 U),dw _ _ t0,fun q ab=>dw _ _ (t1 q ab),fun q ab=>?_⟩
 ·rcases FO with ⟨rfl | rfl,_⟩ | ⟨_,_,_,_,_,rfl,_⟩<;>rfl
 ·rcases FO with ⟨rfl | rfl,_⟩ | ⟨_,_,_,_,_,rfl,_⟩<;>rfl
 ·rw [how] at ab;simp only at ab;split at ab
  ·exact .inl ab
  ·split at ab
   ·rename_i ad;exact .inr ⟨by omega,FO.lt _ ad⟩
   ·exact .inl ab
 ·rcases (CU q ab).2 with h1 | h1
  ·exact dw _ _ (t2 q h1)
  ·rw [how];simp only;rw [if_neg (by omega),if_pos ab]
end Go.Proofs.YtemdgidnhgcafaaGreatDoor.Pk
namespace Go.Proofs.YtemdgidnhgcafaaGreatDoor.Pk
open Go Go.Proofs Go.Proofs.YtemdgidnhgcafaaGreatDoor.Ab Go.Proofs.Vw
def pK (logs:Int→List dM) (l:List (bC×Nat)):Int→List dM:=l.foldl (fun g p=>iD g p.1) logs
def qR (logs:Int→List dM) (j:jW) (x:bC):Int→List dM:=if x.de≠j.ep∨x.iu≠j.tx then logs else if x.kind=3 then pK logs j.opn else logs
def nA (j:jW) (x:bC) (at_:Nat):jW :=
 if x.de≠j.ep∨x.iu≠j.tx then j
 else if x.kind=2 then { j with opn:=j.opn++[(x,at_)] }
 else if x.kind=3 then ⟨j.ep,j.tx+1,x.offs,j.ord++x.order,[]⟩
 else { j with tx:=j.tx+1,opn:=[] }
theorem arO {aK h:I} {lm b3 lc dJ:Nat} {logs:Int→List dM} {tasks:Int→Option jW} {L T:jV} {ow:gd} (x:bC) (at_:Nat) (w:jh aK h lm b3 logs tasks L lc T dJ ow) {t:Int} {b:Nat} {j:jW} (al:bZ T t=some b) (aV:tasks t=some j) (ca:j.opn.length≤2 ^ 30) (adC:-2 ^ 62≤j.tx∧j.tx<2 ^ 62) (hk:2≤x.kind∧x.kind≤4) (Va:x.kind=3→x.de≠j.ep∨x.iu≠j.tx) :
  af ds 53 [.agg [.map lm,.map b3],.ptr b 0,.agg (bh x),.int .i64 (at_:Nat)] h (fun r h'=>r=.tuple []∧∃ jw yF ow',jh aK h' lm b3 (qR logs j x) (fun n=>if n=t then some (nA j x at_) else tasks n) jw yF T dJ ow'∧J h h' (fun q=>q=lm∨∃ bl,ow q=some bl)∧(∀ q bl,ow' q=some bl→ow q=some bl∨h.n≤q)):=by
 refine af.au (c:=_) Tryz.func53 rfl (by kernel_rfl) (by simp) ?_
 obtain ⟨eQ,dx⟩:∃ y,y=h.push (.cells [.map lm,.map b3] 74 none):=⟨_,rfl⟩;have CR:J h eQ none_:=by rw [dx];exact J.push _ _ _
 have zV:eQ.n=h.n+1:=by rw [dx];rfl
 obtain ⟨H,hH⟩:∃ y,y=eQ.push (.cells (bh x) 48 none):=⟨_,rfl⟩;have tu:J eQ H none_:=by rw [hH];exact J.push _ _ _
 have bw:=CR.trans' tu;have iR:H.get (h.n+1)=.cells (bh x) 48 none:=by rw [←zV,hH];exact ck
 have ju:H.n=h.n+2:=by rw [hH,dq];omega
 have mD:=w.on bw;have ay:(V.agg [.map lm,.map b3]).cells=some [.map lm,.map b3]:=rfl;have pd:(V.agg (bh x)).cells=some (bh x):=rfl;obtain ⟨jc,h1,mo,h0,jg,g,av,gT,dZ,t0,t1,t2⟩:=mD.jY t b al;rw [aV] at h1;injection h1 with h1;subst h1;simp only [ae,vt,ay,pd];rw [←dx,←hH];clear dx hH;refine aZ.bB none_ [] (.q 0 (.q 1 (.q 2 (.q 3 (.q 4 (.q 5 (.q 6 (.q 7 (.q 8 (.q 9 (.q 10 (.q 11 (.q 12 (.q 13 (.q 14 (.q 15 (.q 16 (.q 17 .done)))))))))))))))))) (by kernel_rfl) (by kernel_rfl) (by kernel_rfl) ?_
 by_cases he:x.de=j.ep;rotate_left
 ·have bb:(x.de !=j.ep)=true:=by simpa using he
  have aC:qR logs j x=logs:=by unfold qR;rw [if_pos (.inl he)]
  have bd:nA j x at_=j:=by unfold nA;rw [if_pos (.inl he)]
  have ev:(fun n=>if n=t then some j else tasks n)=tasks:=by funext n;split;rename_i U;rw [U,aV];rfl
  simp only [ae,bM,vt,AS,By,y9,B5,B6,aW,iR,g,bh,bb,aS,axw,hK];exact ax ⟨rfl,L,lc,ow,by rw [aC,bd,ev];exact mD,bw.up,fun _ _ U=>.inl U⟩
 have bb:(x.de !=j.ep)=false:=by simpa using he
 by_cases aj:x.iu=j.tx;rotate_left
 ·have bt:(x.iu !=j.tx)=true:=by simpa using aj
  have aC:qR logs j x=logs:=by unfold qR;rw [if_pos (.inr aj)]
  have bd:nA j x at_=j:=by unfold nA;rw [if_pos (.inr aj)]
  have ev:(fun n=>if n=t then some j else tasks n)=tasks:=by funext n;split;rename_i U;rw [U,aV];rfl
  simp only [ae,bM,vt,AS,By,y9,B5,GG,B6,GI,aW,iR,g,bh,bb,bt,aS,axw,hK];exact ax ⟨rfl,L,lc,ow,by rw [aC,bd,ev];exact mD,bw.up,fun _ _ U=>.inl U⟩
 have bt:(x.iu !=j.tx)=false:=by simpa using aj
 have eh:¬(x.de≠j.ep∨x.iu≠j.tx):=by omega
 have k5:x.kind≠3:=fun U=>eh (Va U);by_cases ad:x.kind=2
 ·have c3:(x.kind==2)=true:=by simpa using ad
  have aC:qR logs j x=logs:=by unfold qR;rw [if_neg eh,if_neg k5]
  have bd:nA j x at_={ j with opn:=j.opn++[(x,at_)] }:=by unfold nA;rw [if_neg eh,if_pos ad]
  obtain ⟨oK,ad,ow',fh,g2,one,cell,vh,u0,dw,hold,Nk⟩:=arN x at_ ca g av gT dZ t0 t1 t2 (fun q bl ab=>(mD.bx q bl ab).2);have jF:∀ q,h.n≤q→∀ bl,ow q≠some bl:=fun q ab bl U=>by have:=(w.bx _ _ U).2;omega
  have f1:a6 jg b=False:=eq_false fun U=>by have:=t2 b U;rw [t0] at this;simp at this
  have f2:a6 jg (h.n+1)=False:=eq_false fun U=>jF (h.n+1) (by omega) _ (t2 _ U)
  have Vb:ie ds 123 1 [(0,.agg [.int .i64 x.kind,.int .i64 x.task,.int .i64 x.de,.int .i64 x.iu,.int .i64 x.log,.int .i64 x.r.k,.int .i64 x.r.v,.int .i64 x.r.t,.bool x.del,.ah x.offs.length (ar x.offs),.ah x.order.length (ar x.order),.int .i64 (at_:Nat)])] H=some (.bj H.n 0 1 1,H.push (.cells (gl (x,at_)) 186 none)):=arM H x at_;have st:bF (some 1) (aO.cells [V.int .i64 t,.int .i64 j.ep,.int .i64 j.tx,mo,h0,.int .i64 0,jg] 125 none) 6 [oK]=some (.cells [.int .i64 t,.int .i64 j.ep,.int .i64 j.tx,mo,h0,.int .i64 0,oK] 125 none):=by rw [rU one];rfl
  have b9:J H (H.push (.cells (gl (x,at_)) 186 none)) (fun q=>a6 jg q):=J.push _ _ _;simp only [ae,bM,vt,AS,By,y9,wZ,B5,GG,B6,GI,aW,iR,g,bh,bb,bt,c3];refine aZ.bB (fun q=>a6 jg q) [8,9,12] (.q 0 (.q 1 (.q 2 (.q 3 (.q 4 (.q 5 (.q 6 (.q 7 (.e 8 (.e 9 (.q 10 (.q 11 (.a 12 .done))) .stop) .stop))))))))) (by kernel_rfl) (by kernel_rfl) (by kernel_rfl) ?_
  simp only [ae,bM,eH,vt,AS,By,GC,SQ,DV,am3,Y6,N1,iR,g,bh,Vb,fh,g2,st,cell,f1,f2,b9,vh,aS,axw,hK];exact ax ⟨rfl,L,lc,ow',by rw [aC,bd];exact mD.vd al u0 (fun q U=>U) dw hold Nk,(bw.up).trans u0 fun q ab ⟨i,U⟩=>.inr ⟨_,U⟩,fun q bl ab=>(hold q bl ab).imp id fun U=>by omega⟩
 ·have c3:(x.kind==2)=false:=by simpa using ad
  have eP:(x.kind==3)=false:=by simpa using k5
  have aC:qR logs j x=logs:=by unfold qR;rw [if_neg eh,if_neg k5]
  have bd:nA j x at_={ j with tx:=j.tx+1,opn:=[] }:=by unfold nA;rw [if_neg eh,if_neg ad,if_neg k5]
  have cV:IntKind.i64.wrap (j.tx+1)=j.tx+1:=Go.IntWalk.i64_in _ (by omega)
  simp only [ae,bM,vt,AS,By,y9,GC,wZ,B5,GG,B6,GI,aW,N1,oo,iR,g,bh,bb,bt,c3,eP,cV,kQ,axw,hK];have cY:∀ o,J H (H.set b o) (·=b):=fun o=>J.set _ _ _;have sC:∀ q,a8 h0=some q→q≠b:=fun q ab U=>by have:=t1 q ab;rw [U,t0] at this;simp at this
  exact ax ⟨rfl,L,lc,ow,by rw [aC,bd];exact mD.vd al (cY _) (fun q U=>⟨0,by rw [U];exact t0⟩) (fun _ _ U=>U) (fun _ _ U=>.inl U) ⟨mo,h0,.ag,aT,av,gT.ai (cY _) sC,Own.ag _ _ _,t0,t1,fun q ab=>by simp [a8] at ab⟩,(bw.up).trans (cY _) fun q ab U=>.inr ⟨(1,t,0),U ▸ t0⟩,fun _ _ U=>.inl U⟩
end Go.Proofs.YtemdgidnhgcafaaGreatDoor.Pk
namespace Go.Proofs.YtemdgidnhgcafaaGreatDoor.Pk
open Go Go.Proofs Go.Proofs.YtemdgidnhgcafaaGreatDoor.Ab
theorem Vc (h:I):ie ds 46 0 [] h=some (.bj h.n 0 0 0,h.push (.cells [] 3 none)):=by rw [lY oU];rfl
theorem Vd (h:I):Acc h (h.push (.cells [] 3 none)) 3 1 (.bj h.n 0 0 0) (ar []) :=
 ⟨.inr ⟨h.n,0,0,[],none,rfl,Nat.lt_succ_self _,ck,rfl,rfl,.inl ⟨by simp [cj],BY _,BY _⟩⟩,J.push _ _ _,fun k hk=>by simp [a8] at hk;omega⟩
theorem Ve (l:List Int) (aw:l.length≤2 ^ 40) (h:I):Pure ds 38 [.ah l.length (ar l)] h (.ah l.length (ar l)):=by
 refine Pure.of (a7.ah (wV _)) ?_;cases l with
 | nil=>
  refine af.tL ?_ ?_
  ·refine af.au (c:=_) ax7 rfl (by kernel_rfl) (by simp) ?_
   have e:=I0 (xo:=.tmp 3) (yo:=.const (.slice none 0 0)) gy;simp only [ae,vt,reduceCtorEq,e,aS,axx,ac];exact ax ⟨h,aA.kI h,J.refl _ _⟩
  ·refine af.au (c:=_) ax7 rfl (by kernel_rfl) (by simp) ?_
   have e:∀ xo yo,cH ds .eql 46 xo yo .e6 .ag=some (.bool false):=fun xo yo=>Sd gy;obtain ⟨v1,h1,aC,cb⟩:=Acc.qs (P:=ds) (tx:=46) oU (Vd h) (by decide) (Sf gy) rfl (fun m hm=>by
    change m * 1=_ at hm;simp [ar] at hm;subst hm;exact ⟨by decide,by decide⟩)
   have mJ:=Vc h;simp only [ae,vt,reduceCtorEq,e,mJ,aC,aS,axx,ac];obtain ⟨ad,bt,ba⟩:=cb.cast (n:=0) rfl (by decide)
   exact ax ⟨ad,bt,ba⟩
 | cons x l=>
  refine af.au (c:=_) ax7 rfl (by kernel_rfl) (by simp) ?_
  have e:∀ xo yo,cH ds .eql 46 xo yo (.ah (x::l).length (ar (x::l))) .ag=some (.bool false):=fun xo yo=>Se gy (by simp)
  obtain ⟨v1,h1,aC,cb⟩:=Acc.qs (P:=ds) (tx:=46) oU (Vd h) (by decide) (Ia gy (by rw [gi,VU]) (It (x::l))) (by rw [gi];exact (VU _).symm) (fun m hm=>by
   change m * 1=(ar []).length+(ar (x::l)).length at hm;rw [gi,gi,avi] at hm;exact ⟨by simp only [lim];omega,by simp only [lim];omega⟩)
  have mJ:=Vc h;generalize (x::l)=q at e aC cb aw⊢;simp only [ae,vt,reduceCtorEq,e,mJ,aC,aS,axx,ac];obtain ⟨ad,bt,ba⟩:=cb.cast (n:=q.length) (by rw [show ar []=[] from rfl,List.nil_append,gi,VU]) (by decide)
  exact ax ⟨ad,bt,ba⟩
theorem arP {h:I} {e t:TypeId} {v:V} {α:Type} {enc:α→List V} {sz:Nat} {l:List α} (wR:∀ a,(enc a).length=sz) (aU:0<sz) (aa:dF ds t=some sz) (o:Own h e sz v (l.flatMap enc)) {k:Nat} (hk:k<l.length) {kk:IntKind} :
  ∃ i q,hG ds t v (.int kk (k:Int))=some (.ptr i (0+k * sz))∧a8 v=some i∧cP (h.get i) (0+k * sz)=some (enc l[k]++q):=by
 have aK:(l.flatMap enc).length=l.length * sz:=gM wR l;rcases o with ⟨_,ay⟩ | ⟨i,len,cap,c,ex,rfl,hi,az,hlen,bY,dp⟩
 ·rw [ay] at aK;have:0<l.length * sz:=Nat.mul_pos (by omega) aU
  simp at aK;omega
 ·have hll:l.length=len:=awk aU (by rw [←aK,hlen])
  have kt:c=l.flatMap enc++c.drop (len * sz):=by rw [←bY,List.take_append_drop]
  have hle:k * sz≤l.length * sz:=Nat.mul_le_mul_right _ (by omega)
  have cI:l.length * sz≤c.length:=by rw [kt,IS,aK];omega
  refine ⟨i,(l.drop (k+1)).flatMap enc++c.drop (len * sz),?_,rfl,?_⟩
  ·rw [Gr,aa,Rz,if_pos ⟨by omega,by omega⟩,avc]
  ·rw [az,H7,if_pos (by omega),Nat.zero_add]
   conv=>lhs;rw [kt]
   rw [List.drop_append_of_le_length (by rw [aK];exact hle),BT wR,avk hk,List.flatMap_cons,au8]
end Go.Proofs.YtemdgidnhgcafaaGreatDoor.Pk
