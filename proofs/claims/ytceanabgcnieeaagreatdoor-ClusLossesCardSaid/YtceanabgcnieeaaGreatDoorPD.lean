/-
  What functions of the program do, told of abstract states. Conditions: as each theorem says.
-/
import Derived.Test.YtceanabgcnieeaaGreatDoorPC
import Derived.Test.YtceanabgcnieeaaGreatDoorPA
import Derived.Test.YtceanabgcnieeaaGreatDoorAbC
import Derived.Test.YtceanabgcnieeaaGreatDoorPB
set_option linter.unusedVariables false
set_option linter.unusedSimpArgs false
set_option maxHeartbeats 4000000
set_option maxRecDepth 20000
namespace Go.Proofs.YtceanabgcnieeaaGreatDoor.Pk
open Go Go.Proofs Go.Proofs.YtceanabgcnieeaaGreatDoor.Ab
def iL (m:List bm) (k:Nat):Option bm:=m.find? fun c=>c.at_==(k:Int)
def qM (m:List bm):Nat:=match m.getLast? with
 | some c=>(c.at_+1).toNat
 | none=>0
def lI (m:List bm) (n:Nat):List (List Nat):=(List.range n).map fun k=>match iL m k with
 | some c=>c.bytes
 | none=>[]
def kR (m:List bm) (n:Nat):List V:=(List.range n).map fun k=>match iL m k with
 | some c=>.an c.bytes.length (bp c.bytes)
 | none=>.ag
theorem ak0 (m:List bm) (n:Nat):(kR m n).length=n:=by simp [kR]
theorem OU (m:List bm) (n:Nat):(lI m n).length=n:=by simp [lI]
theorem ak1 (n:Nat):kR [] n=List.replicate n .ag:=by
 unfold kR iL
 refine List.ext_getElem (by simp) fun i h1 ab=>?_
 simp
theorem ak2 {m:List bm} {c:bm} {n a:Nat} (aL:c.at_=(a:Int)) (aJ:∀ d ∈ m,d.at_≠c.at_):kR (m++[c]) n=(kR m n).set a (.an c.bytes.length (bp c.bytes)):=by
 refine List.ext_getElem (by simp [kR]) fun i h1 ab=>?_
 rw [List.getElem_set]
 unfold kR iL
 simp only [List.getElem_map,List.getElem_range,List.find?_append]
 by_cases e:a=i
 ·subst e
  rw [if_pos rfl]
  have:m.find? (fun c=>c.at_==(a:Int))=none:=List.find?_eq_none.2 fun d a7=>by have:=aJ d a7;simp;omega
  rw [this]
  simp [aL]
 ·rw [if_neg e]
  have:[c].find? (fun c=>c.at_==(i:Int))=none:=List.find?_eq_none.2 fun d a7=>by simp at a7;subst a7;simp;omega
  rw [this,Option.or_none]
theorem WG (m:List bm) (h:I):∀ l:List Nat,aS (l.map fun k=>match iL m k with | some c=>.an c.bytes.length (bp c.bytes) | none=>.ag) h (cS (l.map fun k=>match iL m k with | some c=>c.bytes | none=>[])) h
 | []=>aS.refl _ _
 | k::l=>by
  have ih:=WG m h l
  unfold cS at ih⊢
  rw [List.map_cons,List.map_cons,List.map_cons]
  refine aS.cons ?_ ih
  cases iL m k with
  | some c=>exact aV.refl _ _
  | none=>exact aV.la h
theorem ak3 {m:List bm} (up:m.Pairwise fun a b=>a.at_<b.at_) {i:Nat} (hi:i<m.length):∀ d ∈ m.take i,d.at_≠m[i].at_:=fun d a7=>by
 obtain ⟨j,aC,rfl⟩:=List.getElem_of_mem a7
 rw [List.length_take] at aC
 rw [List.getElem_take]
 have:=(List.pairwise_iff_getElem.1 up) j i (by omega) hi (by omega)
 omega
theorem WH {m:List bm} (up:m.Pairwise fun a b=>a.at_<b.at_) {i:Nat} (hi:i<m.length):m[i].at_≤m[m.length - 1].at_:=by
 by_cases e:i=m.length - 1
 ·subst e;exact Int.le_refl _
 ·have:=(List.pairwise_iff_getElem.1 up) i (m.length - 1) hi (by omega) (by omega)
  omega
theorem WI {l:List bm} {k:Nat} (hk:k<l.length):ik Tryz.prog 240 (.an l.length (l.flatMap aP)) (.int .i64 (k:Int))=some (.at (aP l[k]++(l.drop (k+1)).flatMap aP)):=xt se hk Td
theorem OV (m:List bm) (up:m.Pairwise fun a b=>a.at_<b.at_) (aq:∀ c ∈ m,0≤c.at_∧c.at_<4096) (h:I) :
  ah Tryz.prog 126 [.an m.length (m.flatMap aP)] h (fun r U=>Acc h U 56 1 r (cS (lI m (qM m)))):=by
 refine ah.cast ?_
 refine ah.aH (c:=_) Tryz.func126 rfl (by kernel_rfl) (by simp) ?_
 by_cases ay:m=[]
 ·subst ay
  have bf:((((0:Nat):Int))==0)=true:=rfl
  simp only [ao,Nat.reduceEqDiff,reduceCtorEq,xM,bf,bd,Tryz.results126,bT]
  exact aR ⟨.ag,h,aV.refl _ _,Acc.nil (aa.refl _ _)⟩
 have az:0<m.length:=List.length_pos_iff.2 ay
 have gi:m.length≤4096:=by
  have h1:(m.map fun c=>c.at_.toNat).Nodup:=by
   refine List.pairwise_map.2 (up.imp_of_mem fun {a b} aL ar iX=>?_)
   have:=aq a aL;have:=aq b ar
   omega
  have ab:=h1.length_le_of_subset (l₂:=List.range 4096) fun x af=>by
   obtain ⟨c,al,rfl⟩:=List.mem_map.1 af
   have:=aq c al
   rw [List.mem_range];omega
  rw [List.length_map,List.length_range] at ab
  exact ab
 have bf:(((m.length:Nat):Int)==0)=false:=by rw [beq_eq_false_iff_ne];omega
 have bK:IntKind.i64.wrap (((m.length:Nat):Int) - 1)=((m.length - 1:Nat):Int):=by rw [Go.IntWalk.i64_in _ (by omega)];omega
 have fM:=WI (l:=m) (k:=m.length - 1) (by omega)
 have ld:=akm
 obtain ⟨top,GH⟩:∃ t:Nat,m[m.length - 1].at_=(t:Int):=⟨m[m.length - 1].at_.toNat,by have:=aq _ (List.getElem_mem (h:=show m.length - 1<m.length by omega));omega⟩
 have Kq:top<4096:=by have:=aq _ (List.getElem_mem (h:=show m.length - 1<m.length by omega));omega
 have bV:IntKind.i64.wrap (((top:Nat):Int)+1)=((top+1:Nat):Int):=by rw [Go.IntWalk.i64_in _ (by omega)];rfl
 have iT:qM m=top+1:=by
  unfold qM
  rw [List.getLast?_eq_getElem?,List.getElem?_eq_getElem (by omega)]
  simp only [GH]
  omega
 have rD:i5 Tryz.prog 113 (.int .i64 ((top+1:Nat):Int)) (.int .i64 ((top+1:Nat):Int)) h=some (.aj h.n 0 (top+1) (top+1),h.push (.cells (List.replicate (top+1) .ag) 56 none)):=by
  rw [HP Cu (Nat.le_refl _) (by simp only;omega) (by omega),P3]
 have cc:∀ c,(V.agg (aP c)).cells=some (aP c):=fun _=>rfl
 have st:=Gi
 have Gq:=OC
 simp only [ao,Nat.reduceEqDiff,reduceCtorEq,E2,xM,bz,bf,bK,fM,ld,GH,bV,rD]
 refine aZ.cu (α:=Nat) (fun i f U=>f 3=.aj h.n 0 (top+1) (top+1)∧f 18=.an m.length (m.flatMap aP)∧f 19=.int .i64 (m.length:Nat)∧f 20=.int .i64 (i:Nat)∧i≤m.length∧aa h U none_∧h.n<U.n∧U.get h.n=.cells (kR (m.take i) (top+1)) 56 none) (fun i=>m.length - i) 0
  ⟨rfl,rfl,rfl,rfl,Nat.zero_le _,aa.push _ _ _,Nat.lt_succ_self _,(by rw [List.take_zero,ak1];exact c4)⟩ ?_
 rintro i f h1 ⟨f3,f18,f19,f20,hi,bj,c9,g1⟩
 refine gn (by kernel_rfl) ?_
 by_cases aT:i<m.length
 ·have d1:decide ((i:Int)<((m.length:Nat):Int))=true:=decide_eq_true (by omega)
  have hw:IntKind.i64.wrap ((i:Int)+1)=((i+1:Nat):Int):=by rw [Go.IntWalk.i64_in _ (by omega)];rfl
  have wo:=WI aT
  have bc:=ak3 up aT
  have hle:=WH up aT
  have nJ:=aq _ (List.getElem_mem aT)
  have r2:=List.take_succ_eq_append_getElem aT
  generalize m[i]=c at wo bc hle nJ r2
  obtain ⟨a,aL⟩:∃ a:Nat,c.at_=(a:Int):=⟨c.at_.toNat,by omega⟩
  have ql:a<top+1:=by omega
  have gN:=bj.cB (.cells (aP c) 224 none)
  have nU:(h1.push (.cells (aP c) 224 none)).get h1.n=.cells (aP c) 224 none:=c4
  have KS:=(jN (o:=.cells (aP c) 224 none) c9).trans g1
  have CP:(h1.push (.cells (aP c) 224 none)).n=h1.n+1:=rfl
  have f2:=VT c
  have lj:=OD c
  have WJ:cW (aD.cells (aP c) 224 none) 2=some [.an c.bytes.length (bp c.bytes)]:=rfl
  have anC:cW (aD.cells (aP c) 224 none) 0=some (aP c):=rfl
  have oJ:ik Tryz.prog 113 (.aj h.n 0 (top+1) (top+1)) (.int .i64 c.at_)=some (.ptr h.n a):=by
   rw [B0,IY,L2,aL,if_pos ⟨by omega,by omega⟩]
   simp
  simp only [ao,Nat.reduceEqDiff,E2,sc,bz,rb,d8,f3,f18,f19,f20,d1,wo,Gq,cc,st]
  generalize h1.push (.cells (aP c) 224 none)=c7 at gN nU KS CP⊢
  have s2:ca (some 1) (aD.cells (kR (m.take i) (top+1)) 56 none) a [.an c.bytes.length (bp c.bytes)]=some (.cells (kR (m.take (i+1)) (top+1)) 56 none):=by
   rw [nO rfl,if_pos (by rw [ak0];exact ql),r2,ak2 aL bc]
  simp only [ao,Nat.reduceEqDiff,Cs,lB,vY,f20,nU,WJ,lj,oJ,KS,s2,hw]
  exact aR ⟨i+1,⟨f3,f18,f19,rfl,aT,gN.kq (Nat.le_refl _) _,(show h.n<c7.n by omega),e4⟩,by omega⟩
 ·have d1:decide ((i:Int)<((m.length:Nat):Int))=false:=decide_eq_false (by omega)
  rw [List.take_of_length_le (by omega)] at g1
  simp only [ao,Nat.reduceEqDiff,f3,f19,f20,d1,bd,Tryz.results126,bT]
  refine aR ⟨_,_,aV.sk (h1:=h1) g1 (WG m h1 (List.range (top+1))) g1 (by unfold cS kR;simp) _,?_⟩
  rw [iT]
  refine ⟨.inr ⟨h.n,top+1,top+1,_,none,rfl,c9,e4,by unfold cS lI;simp,by unfold cS;rw [List.take_of_length_le (by simp)];rfl,.inl ⟨by simp only [ai];omega,by unfold cS;simp,Nat.le_refl _⟩⟩,bj.kq (Nat.le_refl _) _,fun k hk=>by simp only [aA,Option.some.injEq] at hk;omega⟩
theorem Ae {room:Int} {n:Nat} {ep:Int} {rc:Nat→Bool} (b:List Nat) (r:List (List Nat)) (at_:Nat) (nd:dM):gX room n ep rc (b::r) at_ nd=if (dR room n ep (at_:Int) b rc nd).2=true then gX room n ep rc r (at_+1) (dR room n ep (at_:Int) b rc nd).1 else ((dR room n ep (at_:Int) b rc nd).1,false):=rfl
theorem WK {room:Int} {n:Nat} {ep:Int} {rc:Nat→Bool}:∀ (a b:List (List Nat)) (at_:Nat) (nd:dM),(gX room n ep rc a at_ nd).2=false→gX room n ep rc (a++b) at_ nd=gX room n ep rc a at_ nd
 | [],b,at_,nd,h=>by cases h
 | x::a,b,at_,nd,h=>by
  rw [Ae] at h
  rw [List.cons_append,Ae,Ae]
  split
  ·rename_i h1
   rw [if_pos h1] at h
   exact WK a b (at_+1) _ h
  ·rfl
theorem WL {room:Int} {n:Nat} {ep:Int} {rc:Nat→Bool}:∀ (a:List (List Nat)) (b:List Nat) (at_:Nat) (nd:dM),(gX room n ep rc a at_ nd).2=true→gX room n ep rc (a++[b]) at_ nd=dR room n ep ((at_+a.length:Nat):Int) b rc (gX room n ep rc a at_ nd).1
 | [],b,at_,nd,h=>by
  rw [List.nil_append,Ae]
  simp only [List.length_nil,Nat.add_zero]
  show _=dR room n ep (at_:Int) b rc nd
  split
  ·rename_i h1
   show ((dR room n ep (at_:Int) b rc nd).1,true)=_
   rw [←h1]
  ·rename_i h1
   have:(dR room n ep (at_:Int) b rc nd).2=false:=by simpa using h1
   rw [←this]
 | x::a,b,at_,nd,h=>by
  rw [Ae] at h
  split at h
  ·rename_i h1
   have ih:=WL a b (at_+1) (dR room n ep (at_:Int) x rc nd).1 h
   rw [List.cons_append,Ae,if_pos h1,ih,Ae,if_pos h1,List.length_cons]
   have e:at_+1+a.length=at_+(a.length+1):=by omega
   rw [e]
  ·cases h
theorem ak4 {m:List bm} {n k:Nat} (h:k<(lI m n).length):(lI m n)[k]=match iL m k with | some c=>c.bytes | none=>[]:=by
 simp only [lI,List.getElem_map,List.getElem_range]
 all_goals (cases iL m k<;>rfl)
theorem ak5 {m:List bm} (up:m.Pairwise fun a b=>a.at_<b.at_) {c:bm} (al:c ∈ m) {k:Nat} (hk:c.at_=(k:Int)):iL m k=some c:=by
 unfold iL
 cases aB:m.find? (fun c=>c.at_==(k:Int)) with
 | none=>
  have:=List.find?_eq_none.1 aB c al
  simp [hk] at this
 | some d=>
  have h1:=List.find?_some aB
  have ab:=List.mem_of_find?_eq_some aB
  simp only [beq_iff_eq] at h1
  obtain ⟨i,hi,rfl⟩:=List.getElem_of_mem al
  obtain ⟨j,aC,rfl⟩:=List.getElem_of_mem ab
  by_cases e:i=j
  ·subst e;rfl
  ·rcases Nat.lt_or_ge i j with aI | aI
   ·have:=(List.pairwise_iff_getElem.1 up) i j hi aC aI;omega
   ·have:=(List.pairwise_iff_getElem.1 up) j i aC hi (by omega);omega
theorem ak6 {rows:List (List bm)} {tO:Int→List bm} (aN:∀ k,et rows.flatten k=tO k) {out:List bm} (w:ln rows.flatten out) (aq:∀ c ∈ out,0≤c.at_∧c.at_<4096):Wj tO (lI out (qM out)):=by
 have ew:∀ c,c ∈ out↔kb (tO c.at_)=some c:=fun c=>by rw [w.mem,aN]
 have nD:∀ k c,kb (tO k)=some c→c ∈ out∧c.at_=k:=fun k c h=>by
  have h1:=Gm h
  rw [←aN] at h1
  have ab:=(Jv.1 h1).2
  exact ⟨(ew c).2 (by rw [ab];exact h),ab⟩
 have cb:∀ c ∈ out,c.at_<(qM out:Int):=fun c al=>by
  obtain ⟨i,hi,rfl⟩:=List.getElem_of_mem al
  have:=WH w.up hi
  have ab:=aq _ (List.getElem_mem (h:=show out.length - 1<out.length by omega))
  unfold qM
  rw [List.getLast?_eq_getElem?,List.getElem?_eq_getElem (by omega)]
  simp only
  omega
 refine ⟨fun k hk=>?_,fun k hk=>?_,?_⟩
 ·rw [ak4]
  cases ar:kb (tO (k:Int)) with
  | some c=>
   obtain ⟨h1,ab⟩:=nD _ _ ar
   rw [ak5 w.up h1 ab]
  | none=>
   have:iL out k=none:=List.find?_eq_none.2 fun c al=>by
    intro he
    have iC:c.at_=(k:Int):=by simpa using he
    have:=(ew c).1 al
    rw [iC,ar] at this
    cases this
   rw [this]
 ·rw [OU] at hk
  cases bB:tO (k:Int) with
  | nil=>rfl
  | cons d l=>
   obtain ⟨c,al⟩:=Ju (show tO (k:Int)≠[] by rw [bB];simp)
   obtain ⟨h1,ab⟩:=nD _ _ al
   have:=cb c h1
   omega
 ·rw [OU]
  by_cases av:out=[]
  ·left;subst av;rfl
  ·right
   have az:0<out.length:=List.length_pos_iff.2 av
   have hm:=List.getElem_mem (h:=show out.length - 1<out.length by omega)
   have ab:=aq _ hm
   have J:qM out=(out[out.length - 1].at_+1).toNat:=by
    unfold qM
    rw [List.getLast?_eq_getElem?,List.getElem?_eq_getElem (by omega)]
   have aI:((qM out - 1:Nat):Int)=out[out.length - 1].at_:=by omega
   rw [aI]
   intro h4
   have:=(ew _).1 hm
   rw [h4] at this
   cases this
theorem ak7 {out:List bm} (aq:∀ c ∈ out,c.bytes.length≤2048∧∀ x ∈ c.bytes,x<256) (n:Nat):∀ b ∈ lI out n,b.length≤2048∧∀ x ∈ b,x<256:=fun b ar=>by
 unfold lI at ar
 obtain ⟨k,_,rfl⟩:=List.mem_map.1 ar
 cases J:iL out k with
 | none=>simp
 | some c=>exact aq c (List.mem_of_find?_eq_some J)
theorem ak8 {out:List bm} (aq:∀ c ∈ out,0≤c.at_∧c.at_<4096):qM out≤4096:=by
 unfold qM
 cases aw:out.getLast? with
 | none=>simp
 | some c=>have:=aq c (List.mem_of_getLast? aw);simp only;omega
open Classical in
noncomputable def qN (ow:Nat→Nat) (P:Nat→Prop) (t:Nat):Nat→Nat:=fun x=>if P x then t else ow x
theorem ak9 {ow:Nat→Nat} {P:Nat→Prop} {t x:Nat} (h:P x):qN ow P t x=t:=by unfold qN;rw [if_pos h]
theorem yq {ow:Nat→Nat} {P:Nat→Prop} {t x:Nat} (h:¬P x):qN ow P t x=ow x:=by unfold qN;rw [if_neg h]
theorem cU.tag {h:I} {room:Int} {n:Nat} {rs:Nat→eg} {nd:dM} {ow:Nat→Nat} (w:cU h room n rs nd ow) {P:Nat→Prop} {t:Nat} (az:∀ x,P x→ow x<5∧x<h.n):cU h room n rs nd (qN ow P t) :=
 ⟨w.nd,fun q ae x af=>by
  have h1:=w.iG q ae x af
  rw [yq fun ad=>by have:=(az x ad).1;omega]
  exact h1,fun x af=>by
  by_cases e:P x
  ·exact (az x e).2
  ·rw [yq e] at af;exact w.bt x af⟩
structure dS (ay h:I) (L:Nat) (room:Int) (n:Nat) (rs:Nat→eg) (dv bL pv:V) (ow:Nat→Nat) (s:hd):Prop where
 au:aa ay h none_
 new:∀ x,ow x≠0→ay.n≤x
 eX:ow L=1
 get:h.get L=.cells [dv,bL,.bool s.op,.int .i64 s.ep,pv] 115 none
 ot:Own h 116 1 dv (dx (fun q=>(rs q).i) n)
 mq:Own h 119 1 bL (dx (fun q=>(rs q).a) n)
 pJ:Own h 56 1 pv (cS s.row)
 pq:∀ x,aA dv=some x→ow x=2
 kc:∀ x,aA bL=some x→ow x=3
 pr:∀ x,aA pv=some x→ow x=4
 ns:cU h room n rs s.nd ow
 tR:∀ b ∈ s.row,b.length≤2048∧∀ x ∈ b,x<256
 sg:s.row.length≤4096
theorem dS.lt {ay h:I} {L:Nat} {room:Int} {n:Nat} {rs:Nat→eg} {dv bL pv:V} {ow:Nat→Nat} {s:hd} (w:dS ay h L room n rs dv bL pv ow s):L<h.n:=w.ns.bt L (by rw [w.eX];decide)
theorem dS.on {ay h U:I} {L:Nat} {room:Int} {n:Nat} {rs:Nat→eg} {dv bL pv:V} {ow:Nat→Nat} {s:hd} (w:dS ay h L room n rs dv bL pv ow s) (k:aa h U none_):dS ay U L room n rs dv bL pv ow s :=
 ⟨w.au.trans' k,w.new,w.eX,(k.get L w.lt fun ad=>ad).trans w.get,w.ot.cP k,w.mq.cP k,w.pJ.cP k,w.pq,w.kc,w.pr,w.ns.on k fun x af=>af.elim,w.tR,w.sg⟩
theorem dS.after {ay h U:I} {L:Nat} {room:Int} {n:Nat} {rs db:Nat→eg} {dv bL pv:V} {ow ow':Nat→Nat} {s:hd} {nK:dM} (w:dS ay h L room n rs dv bL pv ow s) (nW:gh h U n rs db ow ow') (ns:cU U room n db nK ow'):dS ay U L room n db dv bL pv ow' { s with nd:=nK }:=by
 have k:=nW.au
 have C1:=w.au.n
 have bt:∀ x,ow x≠0→ow x<5→ow' x=ow x∧¬5≤ow x:=fun x h1 ab=>⟨nW.ow x (w.ns.bt x h1),by omega⟩
 refine ⟨w.au.trans k fun x af ad=>by have anD:5≤ow x:=ad;have:=w.new x (by omega);omega,fun x af=>?_,(bt L (by rw [w.eX];decide) (by rw [w.eX];decide)).1.trans w.eX,(k.get L w.lt (by rw [w.eX];decide)).trans w.get,?_,?_,w.pJ.au k fun x af=>by rw [w.pr x af];decide,fun x af=>?_,fun x af=>?_,fun x af=>?_,ns,w.tR,w.sg⟩
 ·by_cases aw:x<h.n
  ·rw [nW.ow x aw] at af;exact w.new x af
  ·omega
 ·rw [CS (g:=fun q=>(rs q).i) fun q ae=>nW.i q ae]
  exact w.ot.au k fun x af=>by rw [w.pq x af];decide
 ·rw [CS (g:=fun q=>(rs q).a) fun q ae=>nW.a q ae]
  exact w.mq.au k fun x af=>by rw [w.kc x af];decide
 ·have:=w.pq x af;rw [(bt x (by omega) (by omega)).1];exact this
 ·have:=w.kc x af;rw [(bt x (by omega) (by omega)).1];exact this
 ·have:=w.pr x af;rw [(bt x (by omega) (by omega)).1];exact this
theorem dS.Af {ay h:I} {L:Nat} {room:Int} {n:Nat} {rs:Nat→eg} {dv bL pv:V} {ow:Nat→Nat} {s:hd} (w:dS ay h L room n rs dv bL pv ow s) (op:Bool) (ep:Int) :
  dS ay (h.set L (.cells [dv,bL,.bool op,.int .i64 ep,pv] 115 none)) L room n rs dv bL pv ow { s with op:=op,ep:=ep }:=by
 have k:∀ o,aa h (h.set L o) (·=L):=fun o=>aa.set _ _ _
 have kh:=w.new L (by rw [w.eX];decide)
 refine ⟨w.au.trans (k _) fun x af ad=>by omega,w.new,w.eX,e4,w.ot.au (k _) fun x af ad=>?_,w.mq.au (k _) fun x af ad=>?_,w.pJ.au (k _) fun x af ad=>?_,w.pq,w.kc,w.pr,w.ns.on (k _) fun x af=>by rw [af,w.eX];decide,w.tR,w.sg⟩
 ·have:=w.pq x af;rw [ad,w.eX] at this;cases this
 ·have:=w.kc x af;rw [ad,w.eX] at this;cases this
 ·have:=w.pr x af;rw [ad,w.eX] at this;cases this
theorem dS.setRow {ay h h1:I} {L:Nat} {room:Int} {n:Nat} {rs:Nat→eg} {dv bL pv bS:V} {ow:Nat→Nat} {s:hd} (w:dS ay h L room n rs dv bL pv ow s) (bj:aa h h1 (aW pv)) {row:List (List Nat)} (o:Own h1 56 1 bS (cS row)) (az:∀ x,aA bS=some x→ay.n≤x∧(ow x=0∨ow x=4)) (tR:∀ b ∈ row,b.length≤2048∧∀ x ∈ b,x<256) (sg:row.length≤4096) :
  dS ay (h1.set L (.cells [dv,bL,.bool s.op,.int .i64 s.ep,bS] 115 none)) L room n rs dv bL bS (qN ow (aW bS) 4) { s with row:=row }:=by
 have k:∀ o,aa h1 (h1.set L o) (·=L):=fun o=>aa.set _ _ _
 have kh:=w.new L (by rw [w.eX];decide)
 have GI:∀ x,ow x≠0→ow x≠4→¬aW bS x:=fun x h1 ab ad=>by have:=(az x ad).2;omega
 have ne:∀ x,aW bS x→x≠L:=fun x af e=>by have:=(az x af).2;rw [e,w.eX] at this;omega
 have t4:∀ x,aW pv x→ow x=4:=fun x af=>w.pr x af
 refine ⟨(w.au.trans bj fun x af ad=>by have:=t4 x ad;have:=w.new x (by omega);omega).trans (k _) fun x af ad=>by omega,fun x af=>?_,(yq (GI L (by rw [w.eX];decide) (by rw [w.eX];decide))).trans w.eX,e4,(w.ot.au bj fun x af ad=>?_).au (k _) fun x af ad=>?_,(w.mq.au bj fun x af ad=>?_).au (k _) fun x af ad=>?_,o.au (k _) fun x af ad=>ne x af ad,fun x af=>?_,fun x af=>?_,fun x af=>ak9 af,((w.ns.on bj fun x af=>by rw [t4 x af];decide).tag (P:=aW bS) fun x af=>⟨by have:=(az x af).2;omega,o.lt x af⟩).on (k _) fun x af=>?_,tR,sg⟩
 ·by_cases e:aW bS x
  ·exact (az x e).1
  ·rw [yq e] at af;exact w.new x af
 ·have:=w.pq x af;rw [t4 x ad] at this;cases this
 ·have:=w.pq x af;rw [ad,w.eX] at this;cases this
 ·have:=w.kc x af;rw [t4 x ad] at this;cases this
 ·have:=w.kc x af;rw [ad,w.eX] at this;cases this
 ·have:=w.pq x af;rw [yq (GI x (by omega) (by omega))];exact this
 ·have:=w.kc x af;rw [yq (GI x (by omega) (by omega))];exact this
 ·show qN ow (aW bS) 4 x<5
  rw [show x=L from af,yq (GI L (by rw [w.eX];decide) (by rw [w.eX];decide)),w.eX];decide
structure cY (h U:I) (ow ow':Nat→Nat):Prop where
 au:aa h U (fun x=>ow x≠0)
 z:∀ x,x<h.n→ow x=0→ow' x=0
theorem cY.refl (h:I) (ow:Nat→Nat):cY h h ow ow:=⟨aa.refl _ _,fun _ _ ay=>ay⟩
theorem cY.trans {h h1 ab:I} {ow ea ow2:Nat→Nat} (a:cY h h1 ow ea) (b:cY h1 ab ea ow2):cY h ab ow ow2 :=
 ⟨a.au.trans b.au fun x af ad ay=>ad (a.z x af ay),fun x af ay=>b.z x (Nat.lt_of_lt_of_le af a.au.n) (a.z x af ay)⟩
theorem cY.none {h U:I} (ow:Nat→Nat) (k:aa h U none_):cY h U ow ow:=⟨k.up,fun _ _ ay=>ay⟩
theorem cY.same {h U:I} {n:Nat} {rs db:Nat→eg} {ow ow':Nat→Nat} (s:gh h U n rs db ow ow'):cY h U ow ow' :=
 ⟨s.au.mono fun x af ay=>by have:5≤ow x:=af;omega,fun x af ay=>(s.ow x af).trans ay⟩
theorem cY.set {h:I} {ow:Nat→Nat} {L:Nat} (kh:ow L≠0) (o:aD):cY h (h.set L o) ow ow:=⟨(aa.set h L o).mono fun x af=>by rw [show x=L from af];exact kh,fun _ _ ay=>ay⟩
theorem cY.tag {h U:I} {ow ow':Nat→Nat} (a:cY h U ow ow') {P:Nat→Prop} {t:Nat} (az:∀ x,x<h.n→ow x=0→¬P x):cY h U ow (qN ow' P t) :=
 ⟨a.au,fun x af ay=>by rw [yq (az x af ay)];exact a.z x af ay⟩
theorem e7.j8 {h U:I} {ow ow':Nat→Nat} {rv:V} {l:List Bool} (r:e7 h ow rv l) (f:cY h U ow ow'):e7 U ow' rv l:=r.on f.au (fun _ _ ay ad=>ad ay) f.z
theorem WM {l:List (List Nat)} {i:Nat} (h:i<(cS l).length):(cS l)[i]=.an (l[i]'(by rw [rp] at h;exact h)).length (bp (l[i]'(by rw [rp] at h;exact h))):=by
 simp only [cS,List.getElem_map]
theorem ala {ay h:I} {L:Nat} {room:Int} {n:Nat} {rs:Nat→eg} {dv bL pv:V} {ow:Nat→Nat} {s:hd} (w:dS ay h L room n rs dv bL pv ow s) (he:0≤s.ep∧s.ep<2 ^ 40) (aJ:n≤2 ^ 10) (reach:List Bool) {rv:V} (hf:e7 h ow rv reach) (aq:reach.length≤2 ^ 47) :
  ah Tryz.prog 93 [.ptr L 0,rv] h (fun x U=>∃ bF e db bS ow',qJ room n (bH reach) s bF e∧x=.int .i64 e∧dS ay U L room n db dv bL bS ow' bF∧bF.ep=s.ep+1∧cY h U ow ow'):=by
 have hw:IntKind.i64.wrap (s.ep+1)=s.ep+1:=Go.IntWalk.i64_in _ (by omega)
 have jU:=w.get
 have d3:∀ (a b c d e:V),cW (aD.cells [a,b,c,d,e] 115 none) 3=some [d,e]:=fun _ _ _ _ _=>rfl
 have h0:∀ (a b c d e x:V),x.one=true→ca (some 1) (aD.cells [a,b,c,d,e] 115 none) 3 [x]=some (.cells [a,b,c,x,e] 115 none):=fun a b c d e x af=>by rw [nO af];rfl
 have s2:∀ (a b c d e x:V),x.one=true→ca (some 1) (aD.cells [a,b,c,d,e] 115 none) 2 [x]=some (.cells [a,b,x,d,e] 115 none):=fun a b c d e x af=>by rw [nO af];rfl
 have gp:∀ (a b c d e x:V),x.one=true→ca (some 1) (aD.cells [a,b,c,d,e] 115 none) 4 [x]=some (.cells [a,b,c,d,x] 115 none):=fun a b c d e x af=>by rw [nO af];rfl
 have t3:=h0 dv bL (.bool s.op) (.int .i64 s.ep) pv (.int .i64 (s.ep+1)) rfl
 have t2:=s2 dv bL (.bool s.op) (.int .i64 (s.ep+1)) pv (.bool false) rfl
 have bK:=w.Af false (s.ep+1)
 have GJ:=cY.set (h:=h) (ow:=ow) (L:=L) (by rw [w.eX];decide) (.cells [dv,bL,.bool false,.int .i64 (s.ep+1),pv] 115 none)
 refine ah.aH (c:=_) Tryz.func93 rfl (by kernel_rfl) (by simp) ?_
 simp only [ao,Nat.reduceEqDiff,reduceCtorEq,xK,M9,zH,bz,kH,vX,jU,d3,t3,t2,hw]
 generalize h.set L (.cells [dv,bL,.bool false,.int .i64 (s.ep+1),pv] 115 none)=h1 at bK GJ⊢
 refine cC afL (akZ bK.ns bK.get ⟨bK.lt,by rw [bK.eX];decide⟩ bK.mq (fun x af=>⟨by rw [bK.kc x af];decide,bK.mq.lt x af⟩) aJ reach (hf.j8 GJ) aq) fun x ab ⟨rows,ex,tP,ow2,WN,KT,nu⟩=>?_
 subst ex
 have bV:=bK.after KT WN
 have yr:=GJ.trans (cY.same KT)
 simp only at bV
 by_cases ae:n / 2+1≤b9 (ek (cL room (s.ep+1)) (bH reach) s.nd) n
 case neg=>
  have bf:decide (n / 2+1≤b9 (ek (cL room (s.ep+1)) (bH reach) s.nd) n)=false:=decide_eq_false ae
  simp only [ao,Nat.reduceEqDiff,bf,bd,Tryz.results93,bT]
  exact aR ⟨_,8,tP,pv,ow2,by unfold qJ;rw [if_neg ae];exact ⟨rfl,rfl⟩,rfl,bV,rfl,yr⟩
 have bf:decide (n / 2+1≤b9 (ek (cL room (s.ep+1)) (bH reach) s.nd) n)=true:=decide_eq_true ae
 have Gf:OJ rows.flatten:=⟨by
   have h1:=nu.len
   have ab:n * GF≤2 ^ 10 * GF:=Nat.mul_le_mul_right _ aJ
   exact Nat.le_trans h1 (Nat.le_trans ab (by unfold GF;decide)),fun c al=>by have:=(nu.nW c al).1.1;omega⟩
 simp only [ao,Nat.reduceEqDiff,bf]
 refine cC afN (akA rows Gf (by have:=nu.sg;omega) ab) fun x aI ⟨out,io,b2,ex⟩=>?_
 subst ex
 have Bx:∀ c ∈ out,(c.bytes.length≤2048∧∀ x ∈ c.bytes,x<256)∧0≤c.at_∧c.at_<4096:=fun c al=>nu.nW c (io.sub c al)
 have jR:=bV.on b2
 simp only [ao,Nat.reduceEqDiff]
 refine cC afM (OV out io.up (fun c al=>(Bx c al).2) aI) fun oM h4 acc=>?_
 have uj:=jR.on acc.au
 have WO:=(yr.trans (cY.none ow2 b2)).trans (cY.none ow2 acc.au)
 have OW:∀ y,aA oM=some y→h.n≤y:=fun y aX=>by have:=acc.new y aX;have:=b2.n;have:=yr.au.n;omega
 have eh:=ak6 nu.at_ io (fun c al=>(Bx c al).2)
 have Ag:=ak7 (fun c al=>(Bx c al).1) (qM out)
 have jG:=ak8 (fun c al=>(Bx c al).2)
 have OX:=OU out (qM out)
 generalize lI out (qM out)=row at acc eh Ag OX
 have OY:row.length≤4096:=by omega
 have hlen:∀ {ad:I},Own ad 56 1 oM (cS row)→cE Tryz.prog 113 oM ad=some (.int .i64 (row.length:Nat)):=fun {ad} o=>by
  have:=o.length (by decide) Tryz.prog (t:=113) IU
  rw [Nat.div_one] at this
  unfold cS at this
  rw [List.length_map] at this
  exact this
 have OZ:=hlen acc.own
 have alb:=bV.au.n
 simp only [ao,Nat.reduceEqDiff,OZ]
 have WQ:=uj.au.n
 refine aZ.cu (α:=Nat×(Nat→eg)×(Nat→Nat)×dM) (fun x f U=>f 0=.ptr L 0∧f 1=rv∧f 7=oM∧f 33=oM∧f 34=.int .i64 (row.length:Nat)∧f 35=.int .i64 (x.1:Nat)∧x.1≤row.length ∧
   gX room n (s.ep+1) (bH reach) (row.take x.1) 0 (cT (cL room (s.ep+1)) (bH reach) n s.nd)=(x.2.2.2,true)∧dS ay U L room n x.2.1 dv bL pv x.2.2.1 ⟨x.2.2.2,false,s.ep+1,s.row⟩∧Own U 56 1 oM (cS row)∧(∀ y,aA oM=some y→ay.n≤y∧x.2.2.1 y=0)∧cY h U ow x.2.2.1) (fun x=>row.length - x.1) (0,tP,ow2,cT (cL room (s.ep+1)) (bH reach) n s.nd)
  ⟨rfl,rfl,rfl,rfl,rfl,rfl,Nat.zero_le _,rfl,uj,acc.own,fun y aX=>⟨by have:=acc.new y aX;have:=jR.au.n;omega,jR.ns.zero (acc.new y aX)⟩,WO⟩ ?_
 rintro ⟨i,WR,WS,KU⟩ f h5 ⟨f0,f1,f7,f33,f34,f35,hi,yt,nf,xH,t5,tS⟩
 simp only at f35 hi yt nf t5 tS
 refine gn (by kernel_rfl) ?_
 by_cases aT:i<row.length
 ·have aK:decide ((i:Int)<((row.length:Nat):Int))=true:=decide_eq_true (by omega)
  have WT:IntKind.i64.wrap ((i:Int)+1)=((i+1:Nat):Int):=by rw [Go.IntWalk.i64_in _ (by omega)];rfl
  have cF:i<(cS row).length:=by unfold cS;rw [List.length_map];exact aT
  obtain ⟨j,fM,oJ,⟨pQ,kQ⟩,_⟩:=y2 (P:=Tryz.prog) (t:=113) (kk:=.i64) IY xH (k:=i) cF
  have lU:(cS row)[i]=.an row[i].length (bp row[i]):=WM cF
  rw [lU] at kQ
  have uR:=Ag _ (List.getElem_mem aT)
  have r2:=List.take_succ_eq_append_getElem aT
  generalize row[i]=b at kQ uR r2
  have gY:=WL (room:=room) (n:=n) (ep:=s.ep+1) (rc:=bH reach) (row.take i) b 0 (cT (cL room (s.ep+1)) (bH reach) n s.nd) (by rw [yt])
  rw [yt,←r2,List.length_take,Nat.zero_add,Nat.min_eq_left hi] at gY
  simp only at gY
  have lz:=@nf.get
  simp only at lz
  simp only [ao,Nat.reduceEqDiff,reduceCtorEq,lB,f0,f1,f33,f34,f35,aK,fM,kQ]
  refine cC Sv (WE nf.ns (i:Int) uR.2 (by omega) nf.get ⟨nf.lt,by rw [nf.eX];decide⟩ nf.mq (fun x af=>by rw [nf.kc x af];decide) aJ reach (hf.j8 tS) aq) fun x dT ⟨ex,GK,vc,WU,yu⟩=>?_
  subst ex
  have tT:=nf.after yu WU
  simp only at tT
  cases aU:(dR room n (s.ep+1) (i:Int) b (bH reach) KU).2 with
  | true=>
   simp only [ao,Nat.reduceEqDiff,f35,WT]
   refine aR ⟨(i+1,GK,vc,(dR room n (s.ep+1) (i:Int) b (bH reach) KU).1),⟨f0,f1,f7,f33,f34,rfl,aT,?_,tT,xH.au yu.au fun y aX=>by have:=(t5 y aX).2;omega,fun y aX=>⟨(t5 y aX).1,(yu.ow y (xH.lt y aX)).trans (t5 y aX).2⟩,tS.trans (cY.same yu)⟩,by simp only;omega⟩
   show gX room n (s.ep+1) (bH reach) (row.take (i+1)) 0 _=_
   rw [gY,←aU]
  | false=>
   simp only [ao,Nat.reduceEqDiff,bd,Tryz.results93,bT]
   have bZ:=WK (room:=room) (n:=n) (ep:=s.ep+1) (rc:=bH reach) (row.take (i+1)) (row.drop (i+1)) 0 (cT (cL room (s.ep+1)) (bH reach) n s.nd) (by rw [gY];exact aU)
   rw [List.take_append_drop,gY] at bZ
   refine aR ⟨_,8,GK,pv,vc,?_,rfl,tT,rfl,tS.trans (cY.same yu)⟩
   unfold qJ
   rw [if_pos ae]
   refine ⟨row,eh,?_⟩
   rw [bZ,if_neg (by rw [aU];decide)]
   exact ⟨rfl,rfl⟩
 ·have aK:decide ((i:Int)<((row.length:Nat):Int))=false:=decide_eq_false (by omega)
  have gO:i=row.length:=by omega
  subst gO
  rw [List.take_length] at yt
  have g5:=nf.get
  simp only at g5
  have tT:=nf.setRow (aa.refl _ _) xH (fun x af=>⟨(t5 x af).1,.inl (t5 x af).2⟩) Ag OY
  simp only at tT
  have GL:=tT.Af true (s.ep+1)
  simp only at GL
  obtain ⟨Ac,v1⟩:=we xH
  have O0:=gp dv bL (.bool false) (.int .i64 (s.ep+1)) pv oM v1
  have zX:=s2 dv bL (.bool false) (.int .i64 (s.ep+1)) oM (.bool true) rfl
  rw [set_set] at GL
  simp only [ao,Nat.reduceEqDiff,reduceCtorEq,xK,zB,I0,vX,f0,f7,f34,f35,aK,g5,Ac,O0,zX,bd,Tryz.results93,bT]
  refine aR ⟨_,0,WR,oM,qN WS (aW oM) 4,?_,rfl,GL,rfl,(tS.trans (cY.set (by rw [nf.eX];decide) _)).tag fun x af _ ad=>by have:=OW x ad;omega⟩
  unfold qJ
  rw [if_pos ae]
  refine ⟨row,eh,?_⟩
  rw [yt,if_pos rfl]
  exact ⟨rfl,rfl⟩
theorem WV {ay h:I} {L:Nat} {room:Int} {n:Nat} {rs:Nat→eg} {dv bL pv:V} {ow:Nat→Nat} {s:hd} (w:dS ay h L room n rs dv bL pv ow s):Pure Tryz.prog 68 [.ptr L 0] h (.int .i64 (s.row.length:Nat)):=by
 have jU:=w.get
 have d4:∀ (a b c d e:V),cW (aD.cells [a,b,c,d,e] 115 none) 4=some [e]:=fun _ _ _ _ _=>rfl
 have aw:=w.pJ.length (by decide) Tryz.prog (t:=113) IU
 rw [Nat.div_one,rp] at aw
 refine ah.aH (c:=_) Tryz.func68 rfl (by kernel_rfl) (by simp) ?_
 simp only [ao,Nat.reduceEqDiff,reduceCtorEq,zB,zH,xO,jU,d4,aw,bd,Tryz.results68,bT]
 exact aR ⟨rfl,rfl⟩
theorem Q8 {h:I} {v:V} {l:List (List Nat)} (o:Own h 56 1 v (cS l)) {i:Nat} (hi:i<l.length):∃ j pQ,ik Tryz.prog 113 v (.int .i64 (i:Int))=some (.ptr j i)∧cW (h.get j) i=some (.an l[i].length (bp l[i])::pQ):=by
 have cF:i<(cS l).length:=by rw [rp];exact hi
 obtain ⟨j,fM,oJ,⟨pQ,kQ⟩,_⟩:=y2 (P:=Tryz.prog) (t:=113) (kk:=.i64) IY o (k:=i) cF
 rw [WM cF] at kQ
 exact ⟨j,pQ,fM,kQ⟩
theorem alc {h:I} {v:V} {l:List (List Nat)} (o:Own h 56 1 v (cS l)):cE Tryz.prog 113 v h=some (.int .i64 (l.length:Nat)):=by
 have aw:=o.length (by decide) Tryz.prog (t:=113) IU
 rw [Nat.div_one,rp] at aw
 exact aw
theorem ald {ay h:I} {L:Nat} {room:Int} {n:Nat} {rs:Nat→eg} {dv bL pv:V} {ow:Nat→Nat} {s:hd} (w:dS ay h L room n rs dv bL pv ow s) {i:Nat} (hi:i<s.row.length):Pure Tryz.prog 69 [.ptr L 0,.int .i64 (i:Int)] h (.tuple [.an s.row[i].length (bp s.row[i]),.int .i64 0]):=by
 have jU:=w.get
 have d4:∀ (a b c d e:V),cW (aD.cells [a,b,c,d,e] 115 none) 4=some [e]:=fun _ _ _ _ _=>rfl
 have bf:decide ((i:Int)<0)=false:=decide_eq_false (by omega)
 have bx:decide (((s.row.length:Nat):Int)≤(i:Int))=false:=decide_eq_false (by omega)
 obtain ⟨j,pQ,fM,kQ⟩:=Q8 w.pJ hi
 have ar:=(w.tR _ (List.getElem_mem hi)).1
 refine ah.aH (c:=_) Tryz.func69 rfl (by kernel_rfl) (by simp) ?_
 simp only [ao,Nat.reduceEqDiff,reduceCtorEq,bf]
 refine cK SD (WV w) ?_
 simp only [ao,Nat.reduceEqDiff,reduceCtorEq,zB,xO,lB,bx,jU,d4,fM,kQ]
 refine cK ET (zW _ (by omega) h) ?_
 simp only [ao,Nat.reduceEqDiff,bd,Tryz.results69,ha]
 exact aR ⟨rfl,rfl⟩
theorem ale {ay h:I} {L:Nat} {room:Int} {n:Nat} {rs:Nat→eg} {dv bL pv:V} {ow:Nat→Nat} {s:hd} (w:dS ay h L room n rs dv bL pv ow s) (aJ:n≤2 ^ 10) (b:List Nat) (ar:∀ x ∈ b,x<256) (reach:List Bool) {rv:V} (hf:e7 h ow rv reach) (aq:reach.length≤2 ^ 47) :
  ah Tryz.prog 124 [.ptr L 0,.an b.length (bp b),rv] h (fun x U=>x=.tuple [.int .i64 ((eG room n (bH reach) b s).2.1:Nat),.int .i64 (eG room n (bH reach) b s).2.2]∧∃ db bS ow',dS ay U L room n db dv bL bS ow' (eG room n (bH reach) b s).1∧cY h U ow ow'):=by
 have jU:=w.get
 have d2:∀ (a b c d e:V),cW (aD.cells [a,b,c,d,e] 115 none) 2=some [c,d,e]:=fun _ _ _ _ _=>rfl
 have d4:∀ (a b c d e:V),cW (aD.cells [a,b,c,d,e] 115 none) 4=some [e]:=fun _ _ _ _ _=>rfl
 have s2:∀ (a b c d e x:V),x.one=true→ca (some 1) (aD.cells [a,b,c,d,e] 115 none) 2 [x]=some (.cells [a,b,x,d,e] 115 none):=fun a b c d e x af=>by rw [nO af];rfl
 have gp:∀ (a b c d e x:V),x.one=true→ca (some 1) (aD.cells [a,b,c,d,e] 115 none) 4 [x]=some (.cells [a,b,c,d,x] 115 none):=fun a b c d e x af=>by rw [nO af];rfl
 refine ah.aH (c:=_) Tryz.func124 rfl (by kernel_rfl) (by simp) ?_
 cases br:s.op with
 | false=>
  have aL:eG room n (bH reach) b s=(s,0,8):=Wm br
  rw [br] at jU
  simp only [ao,Nat.reduceEqDiff,reduceCtorEq,xK,zH,iN,jU,d2,bd,Tryz.results124,ha]
  rw [aL]
  exact aR ⟨rfl,rs,pv,ow,w,cY.refl _ _⟩
 | true=>
 rw [br] at jU
 by_cases bB:b.length=0
 ·have aL:eG room n (bH reach) b s=(s,0,2):=Wn br (.inl bB)
  have bf:(((b.length:Nat):Int)==0)=true:=by rw [bB];rfl
  simp only [ao,Nat.reduceEqDiff,reduceCtorEq,xK,gH,zH,iN,jU,d2,bf,bd,Tryz.results124,ha]
  rw [aL]
  exact aR ⟨rfl,rs,pv,ow,w,cY.refl _ _⟩
 have bf:(((b.length:Nat):Int)==0)=false:=by rw [beq_eq_false_iff_ne];omega
 by_cases aE:2048<b.length
 ·have aL:eG room n (bH reach) b s=(s,0,2):=Wn br (.inr aE)
  have bx:decide ((2048:Int)<((b.length:Nat):Int))=true:=decide_eq_true (by omega)
  simp only [ao,Nat.reduceEqDiff,reduceCtorEq,xK,gH,zH,iN,jU,d2,bf,bx,bd,Tryz.results124,ha]
  rw [aL]
  exact aR ⟨rfl,rs,pv,ow,w,cY.refl _ _⟩
 have bx:decide ((2048:Int)<((b.length:Nat):Int))=false:=decide_eq_false (by omega)
 have pS:=alc w.pJ
 by_cases aB:4096≤s.row.length
 ·have aL:eG room n (bH reach) b s=(s,0,3):=by unfold eG;rw [if_neg (by rw [br];decide),if_neg (by omega),if_pos aB]
  have c3:decide ((4096:Int)≤((s.row.length:Nat):Int))=true:=decide_eq_true (by omega)
  simp only [ao,Nat.reduceEqDiff,reduceCtorEq,xK,zB,gH,zH,xO,iN,jU,d2,d4,bf,bx,pS,c3,bd,Tryz.results124,ha]
  rw [aL]
  exact aR ⟨rfl,rs,pv,ow,w,cY.refl _ _⟩
 have c3:decide ((4096:Int)≤((s.row.length:Nat):Int))=false:=decide_eq_false (by omega)
 simp only [ao,Nat.reduceEqDiff,reduceCtorEq,xK,zB,gH,zH,xO,iN,jU,d2,d4,bf,bx,pS,c3]
 refine cC Sv (WE w.ns (s.row.length:Nat) ar (by omega) w.get ⟨w.lt,by rw [w.eX];decide⟩ w.mq (fun x af=>by rw [w.kc x af];decide) aJ reach hf aq) fun x h1 ⟨ex,eW,ea,WW,yv⟩=>?_
 subst ex
 have bK:=w.after yv WW
 have g1:=bK.get
 simp only [br] at g1
 have nL:eG room n (bH reach) b s=if (dR room n s.ep (s.row.length:Nat) b (bH reach) s.nd).2=true then (⟨(dR room n s.ep (s.row.length:Nat) b (bH reach) s.nd).1,true,s.ep,s.row++[b]⟩,s.row.length,0)
   else (⟨(dR room n s.ep (s.row.length:Nat) b (bH reach) s.nd).1,false,s.ep,s.row⟩,0,8):=by
  unfold eG;rw [if_neg (by rw [br];decide),if_neg (by omega),if_neg aB]
 cases aU:(dR room n s.ep (s.row.length:Nat) b (bH reach) s.nd).2 with
 | false=>
  rw [if_neg (by rw [aU];decide)] at nL
  rw [nL]
  have zX:=s2 dv bL (.bool true) (.int .i64 s.ep) pv (.bool false) rfl
  simp only [ao,Nat.reduceEqDiff,reduceCtorEq,xK,vX,g1,zX,bd,Tryz.results124,ha]
  exact aR ⟨rfl,eW,pv,ea,bK.Af false s.ep,(cY.same yv).trans (cY.set (by rw [bK.eX];decide) _)⟩
 | true=>
  rw [if_pos aU] at nL
  rw [nL]
  have jG:=rp s.row
  obtain ⟨v,ab,hF,cw,k2,oB⟩:=bv (P:=Tryz.prog) Cu (by decide) bK.pJ (xs:=[.an b.length (bp b)]) rfl rfl (fun m hm=>by
   change m * 1=(cS s.row).length+1 at hm
   rw [jG] at hm
   exact ⟨by simp only [lim];omega,by simp only [lim];omega⟩)
  have lit:iA Tryz.prog 113 1 [(0,.an b.length (bp b))] h1=some (.aj h1.n 0 1 1,h1.push (.cells [.an b.length (bp b)] 56 none)):=by rw [lN Cu];rfl
  have m1:¬aA pv=some L:=fun e=>by have:=bK.pr L e;rw [bK.eX] at this;cases this
  have m2:¬aA pv=some h1.n:=fun e=>by have:=bK.pJ.lt _ e;omega
  obtain ⟨Ac,v1⟩:=we cw
  have g2:ab.get L=.cells [dv,bL,.bool true,.int .i64 s.ep,pv] 115 none:=(k2.get L bK.lt m1).trans g1
  have O0:=gp dv bL (.bool true) (.int .i64 s.ep) pv v v1
  have bV:=bK.setRow k2 (row:=s.row++[b]) (by
   show Own ab 56 1 v (cS (s.row++[b]))
   have:cS (s.row++[b])=cS s.row++[.an b.length (bp b)]:=by unfold cS;rw [List.map_append];rfl
   rw [this];exact cw) (fun x af=>by
   rcases oB with e | e
   ·rw [e] at af
    have:=bK.pr x af
    exact ⟨bK.new x (by omega),.inr this⟩
   ·have aI:=e x af
    have:=bK.au.n
    exact ⟨by omega,.inl (bK.ns.zero aI)⟩) (fun c al=>by
   rcases List.mem_append.1 al with aI | aI
   ·exact w.tR c aI
   ·simp at aI;subst aI;exact ⟨by omega,ar⟩) (by rw [List.length_append];simp;omega)
  simp only [br] at bV
  simp only [ao,Nat.reduceEqDiff]
  refine aZ.b4 (fun x=>aA pv=some x) [7,8,11] (.q 0 (.q 1 (.q 2 (.q 3 (.q 4 (.q 5 (.c 6 (.e 7 (.e 8 (.q 9 (.q 10 (.a 11 .done))) .stop) .stop)))))))) (by kernel_rfl) (by kernel_rfl) (by kernel_rfl) ?_
  simp only [ao,b6,gV,Nat.reduceEqDiff,reduceCtorEq,zB,xO,g1,d4,m1]
  refine jQ rfl rfl rfl (fun U _=>zW b (by omega) U) ?_
  simp only [ao,b6,gV,Nat.reduceEqDiff,zB,I0,lit,hF]
  simp only [ao,b6,gV,Nat.reduceEqDiff,g2,Ac,O0,bd,Tryz.results124,ha]
  have yr:cY h1 ab ea ea:=⟨k2.mono fun x af=>by rw [bK.pr x af];decide,fun _ _ ay=>ay⟩
  exact ⟨k2,aR ⟨rfl,eW,v,_,bV,(((cY.same yv).trans yr).trans (cY.set (by rw [bK.eX];decide) _)).tag fun x af ay ad=>by
   rcases oB with e | e
   ·have aI:=bK.pr x (by rw [←e];exact ad)
    have h4:=yv.ow x af
    omega
   ·have aI:=e x ad
    have:=yv.au.n
    omega⟩⟩
theorem WX (f:Nat→Nat) (n:Nat):dx f (n+1)=dx f n++[V.ptr (f n) 0]:=by unfold dx;rw [List.range_succ,List.map_append];rfl
def l1:hd:=⟨fun _=>[],false,0,[]⟩
theorem dS.nothing {h:I} {room:Int} (rs:Nat→eg):dS h (h.push (.cells [.ag,.ag,.bool false,.int .i64 0,.ag] 115 none)) h.n room 0 rs .ag .ag .ag (fun x=>if x=h.n then 1 else 0) l1:=by
 refine ⟨aa.push _ _ _,fun x af=>?_,if_pos rfl,c4,Own.ag _ _ _,Own.ag _ _ _,Own.ag _ _ _,fun x af=>(by cases af),fun x af=>(by cases af),fun x af=>(by cases af),⟨fun q ae=>absurd ae (Nat.not_lt_zero _),fun q ae=>absurd ae (Nat.not_lt_zero _),fun x af=>?_⟩,fun b ar=>(by cases ar),Nat.zero_le _⟩
 ·by_cases e:x=h.n
  ·omega
  ·simp only [if_neg e] at af;exact absurd rfl af
 ·by_cases e:x=h.n
  ·simp only [fR];omega
  ·simp only [if_neg e] at af;exact absurd rfl af
open Classical in
noncomputable def tU (ow:Nat→Nat) (hZ:Nat) (D N P:Nat→Prop) (n:Nat):Nat→Nat:=fun x=>if D x then 2 else if N x then 3 else if P x then n+5 else if x<hZ then ow x else 0
theorem dS.more {ay h h1 ab h4 h5:I} {L d:Nat} {room:Int} {n:Nat} {rs:Nat→eg} {dv bL cX nv':V} {ow:Nat→Nat} {r':eg} (w:dS ay h L room n rs dv bL .ag ow l1) (bj:aa h h1 none_) (a7:d=h.n) (jI:h.n<h1.n)
  (k2:aa h1 ab (aW dv)) (WY:Own ab 116 1 cX (dx (fun q=>(rs q).i) n++[.ptr d 0])) (c9:nP h1 dv cX) {o3:aD}
  (gM:aa (ab.set L o3) h4 (fun x=>x=d)) (CN:gK h4 room r' []) (hi:r'.i=d) (af:∀ x,fc r' x→x=d∨ab.n≤x)
  (jF:aa h4 h5 (aW bL)) (on:Own h5 119 1 nv' (dx (fun q=>(rs q).a) n++[.ptr r'.a 0])) (fw:nP h4 bL nv') :
  dS ay (h5.set L (.cells [cX,nv',.bool false,.int .i64 0,.ag] 115 none)) L room (n+1) (gg rs n r') cX nv' .ag (tU ow h.n (aW cX) (aW nv') (fc r') n) l1:=by
 have WQ:=w.au.n
 have Wy:=bj.n
 have KM:=k2.n
 have WZ:=gM.n
 simp only [kE] at WZ
 have W0:=jF.n
 have kh:=w.lt
 have W1:=WY.lt
 have KV:=on.lt
 have alf:=w.eX
 have vd:∀ x,aW dv x→ow x=2∧x<h.n:=fun x ad=>⟨w.pq x ad,w.ot.lt x ad⟩
 have qO:∀ x,aW bL x→ow x=3∧x<h.n:=fun x ad=>⟨w.kc x ad,w.mq.lt x ad⟩
 have yw:∀ x,aW cX x→(x<h.n∧ow x=2)∨(h1.n≤x∧x<ab.n):=fun x ad=>by
  rcases c9 with e | e
  ·have:=vd x (show aA dv=some x by rw [←e];exact ad)
   exact .inl ⟨this.2,this.1⟩
  ·exact .inr ⟨e x ad,W1 x ad⟩
 have JC:∀ x,aW nv' x→(x<h.n∧ow x=3)∨(h4.n≤x∧x<h5.n):=fun x ad=>by
  rcases fw with e | e
  ·have:=qO x (show aA bL=some x by rw [←e];exact ad)
   exact .inl ⟨this.2,this.1⟩
  ·exact .inr ⟨e x ad,KV x ad⟩
 have CT:∀ x,fc r' x→(x=d∨ab.n≤x)∧x<h4.n:=fun x ad=>⟨af x ad,CN.lt x ad⟩
 have alg:∀ x,aW cX x→¬aW nv' x:=fun x a b=>by have:=yw x a;have:=JC x b;omega
 have alh:∀ x,aW cX x→¬fc r' x:=fun x a b=>by have:=yw x a;have:=CT x b;omega
 have W2:∀ x,aW nv' x→¬fc r' x:=fun x a b=>by have:=JC x a;have:=CT x b;omega
 have aK:∀ x,aW cX x→tU ow h.n (aW cX) (aW nv') (fc r') n x=2:=fun x ad=>by unfold tU;rw [if_pos ad]
 have a6:∀ x,aW nv' x→tU ow h.n (aW cX) (aW nv') (fc r') n x=3:=fun x ad=>by unfold tU;rw [if_neg (fun a=>alg x a ad),if_pos ad]
 have dB:∀ x,fc r' x→tU ow h.n (aW cX) (aW nv') (fc r') n x=n+5:=fun x ad=>by unfold tU;rw [if_neg (fun a=>alh x a ad),if_neg (fun a=>W2 x a ad),if_pos ad]
 have hj:∀ x,x<h.n→tU ow h.n (aW cX) (aW nv') (fc r') n x=ow x:=fun x ad=>by
  unfold tU
  by_cases a:aW cX x
  ·rw [if_pos a];have:=yw x a;omega
  rw [if_neg a]
  by_cases b:aW nv' x
  ·rw [if_pos b];have:=JC x b;omega
  rw [if_neg b,if_neg (fun c=>by have:=CT x c;omega),if_pos ad]
 have j5:∀ x,tU ow h.n (aW cX) (aW nv') (fc r') n x≠0→x<h5.n:=fun x ad=>by
  unfold tU at ad
  split at ad
  ·rename_i a;have:=yw x a;omega
  split at ad
  ·rename_i b;exact KV x b
  split at ad
  ·rename_i c;have:=CT x c;omega
  split at ad
  ·omega
  ·exact absurd rfl ad
 have dY:∀ (ad:I) (o:aD),aa ad (ad.set L o) (·=L):=fun ad o=>aa.set _ _ _
 have W3:aa h (h5.set L (.cells [cX,nv',.bool false,.int .i64 0,.ag] 115 none)) (fun x=>x=L∨aW dv x∨aW bL x) :=
  (((((bj.up (o:=fun x=>x=L∨aW dv x∨aW bL x)).trans k2 fun x af ad=>.inr (.inl ad)).trans (dY _ o3) fun x af ad=>.inl ad).trans gM fun x af ad=>by have:x=d:=ad;omega).trans jF fun x af ad=>.inr (.inr ad)).trans (dY _ _) fun x af ad=>.inl ad
 refine ⟨w.au.trans W3 fun x af ad=>?_,fun x af=>?_,(hj L kh).trans alf,e4,?_,?_,Own.ag _ _ _,aK,a6,fun x af=>(by cases af),⟨fun p az=>?_,fun p az x cn=>?_,j5⟩,fun b ar=>(by cases ar),Nat.zero_le _⟩
 ·have aI:=w.new x
  rcases ad with ad | ad | ad
  ·rw [ad] at af;have:=w.new L (by omega);omega
  ·have:=vd x ad;have:=aI (by omega);omega
  ·have:=qO x ad;have:=aI (by omega);omega
 ·by_cases aw:x<h.n
  ·rw [hj x aw] at af;exact w.new x af
  ·omega
 ·have az:dx (fun q=>(gg rs n r' q).i) (n+1)=dx (fun q=>(rs q).i) n++[.ptr d 0]:=by
   rw [WX,CS (g:=fun q=>(rs q).i) fun q ae=>by rw [lR (by omega)]]
   simp only [pP,hi]
  rw [az]
  exact (((WY.au (dY _ o3) fun x a b=>by have:=yw x a;have:x=L:=b;subst this;omega).au gM fun x a b=>by have:=yw x a;have:x=d:=b;omega).au jF fun x a b=>by have:=yw x a;have:=qO x b;omega).au (dY _ _) fun x a b=>by have:=yw x a;have:x=L:=b;subst this;omega
 ·have az:dx (fun q=>(gg rs n r' q).a) (n+1)=dx (fun q=>(rs q).a) n++[.ptr r'.a 0]:=by
   rw [WX,CS (g:=fun q=>(rs q).a) fun q ae=>by rw [lR (by omega)]]
   simp only [pP]
  rw [az]
  exact on.au (dY _ _) fun x a b=>by have:=JC x a;have:x=L:=b;subst this;omega
 ·by_cases e:p=n
  ·subst e
   rw [pP]
   exact (CN.au jF fun x a b=>by have:=CT x a;have:=qO x b;omega).au (dY _ _) fun x a b=>by have:=CT x a;have:x=L:=b;omega
  ·rw [lR e]
   exact (w.ns.nd p (by omega)).au W3 fun x a b=>by
    have aI:=w.ns.iG p (by omega) x a
    rcases b with b | b | b
    ·subst b;omega
    ·have:=vd x b;omega
    ·have:=qO x b;omega
 ·by_cases e:p=n
  ·subst e;rw [pP] at cn;exact dB x cn
  ·rw [lR e] at cn
   rw [hj x ((w.ns.nd p (by omega)).lt x cn)]
   exact w.ns.iG p (by omega) x cn
theorem ali (h:I) (n:Nat) (aJ:n=1∨n=3∨n=5∨n=7) (room:Int) (aq:0≤room∧room≤1048576) :
  ah Tryz.prog 23 [.int .i64 (n:Int),.int .i64 room] h (fun x U=>∃ L rs dv bL ow,x=.tuple [.ptr L 0,.int .i64 0]∧dS h U L room n rs dv bL .ag ow l1):=by
 have bf:decide ((n:Int)<1)=false:=decide_eq_false (by omega)
 have bx:decide ((7:Int)<(n:Int))=false:=decide_eq_false (by omega)
 have c3:(n:Int).tmod 2=1:=by rw [Int.tmod_eq_emod_of_nonneg (by omega)];omega
 have d0:∀ (a b c d e:V),cW (aD.cells [a,b,c,d,e] 115 none) 0=some [a,b,c,d,e]:=fun _ _ _ _ _=>rfl
 have d1:∀ (a b c d e:V),cW (aD.cells [a,b,c,d,e] 115 none) 1=some [b,c,d,e]:=fun _ _ _ _ _=>rfl
 have s0:∀ (a b c d e x:V),x.one=true→ca (some 1) (aD.cells [a,b,c,d,e] 115 none) 0 [x]=some (.cells [x,b,c,d,e] 115 none):=fun a b c d e x af=>by rw [nO af];rfl
 have s1:∀ (a b c d e x:V),x.one=true→ca (some 1) (aD.cells [a,b,c,d,e] 115 none) 1 [x]=some (.cells [a,x,c,d,e] 115 none):=fun a b c d e x af=>by rw [nO af];rfl
 refine ah.aH (c:=_) Tryz.func23 rfl (by kernel_rfl) (by simp) ?_
 simp only [ao,Int.reduceBEq,Nat.reduceEqDiff,reduceCtorEq,ahh,ahC,bf,bx,LY (show (2:Int)≠0 by decide),c3]
 refine aZ.cu (α:=Nat×(Nat→eg)×V×V×(Nat→Nat)) (fun x f U=>f 0=.int .i64 (n:Int)∧f 1=.int .i64 room∧f 6=.ptr h.n 0∧f 22=.int .i64 (n:Int)∧f 23=.int .i64 (x.1:Nat)∧x.1≤n∧dS h U h.n room x.1 x.2.1 x.2.2.1 x.2.2.2.1 .ag x.2.2.2.2 l1) (fun x=>n - x.1) (0,fun _=>⟨0,0,0,0,0,.ag,.ag,0⟩,.ag,.ag,fun x=>if x=h.n then 1 else 0)
  ⟨rfl,rfl,rfl,rfl,rfl,Nat.zero_le _,dS.nothing _⟩ ?_
 rintro ⟨i,rs,dv,bL,ow⟩ f h1 ⟨f0,f1,f6,f22,f23,hi,w⟩
 simp only at f23 hi w
 refine gn (by kernel_rfl) ?_
 by_cases aT:i<n
 ·have aK:decide ((i:Int)<(n:Int))=true:=decide_eq_true (by omega)
  have hw:IntKind.i64.wrap ((i:Int)+1)=((i+1:Nat):Int):=by rw [Go.IntWalk.i64_in _ (by omega)];rfl
  have hZ:((0:Int) !=0)=false:=rfl
  simp only [ao,Nat.reduceEqDiff,f1,f22,f23,aK]
  refine cC agC (Oe h1 room aq.1 aq.2) fun x ab ⟨ex,ot,k2⟩=>?_
  subst ex
  have g2:ab.get h.n=.cells [dv,bL,.bool false,.int .i64 0,.ag] 115 none:=(k2.get h.n w.lt fun ad=>ad).trans w.get
  have yF:=ot.lt
  have W4:Own ab 116 1 dv (dx (fun q=>(rs q).i) i):=w.ot.cP k2
  have W5:Own ab 119 1 bL (dx (fun q=>(rs q).a) i):=w.mq.cP k2
  obtain ⟨cX,aI,hF,o3,b2,W6⟩:=bv (P:=Tryz.prog) S3 (by decide) W4 (xs:=[.ptr h1.n 0]) rfl rfl (fun m hm=>by
   change m * 1=(dx (fun q=>(rs q).i) i).length+1 at hm
   rw [Gz] at hm
   exact ⟨by simp only [lim];omega,by simp only [lim];omega⟩)
  have lit:iA Tryz.prog 111 1 [(0,.ptr h1.n 0)] ab=some (.aj ab.n 0 1 1,ab.push (.cells [.ptr h1.n 0] 116 none)):=by rw [lN S3];rfl
  obtain ⟨Ac,v1⟩:=we o3
  have KM:=k2.n
  have U2:=b2.n
  have vd:=w.pq
  have qO:=w.kc
  have kh:=w.lt
  have W7:¬aW dv h.n:=fun e=>by have:=vd _ e;rw [w.eX] at this;cases this
  have g3:aI.get h.n=.cells [dv,bL,.bool false,.int .i64 0,.ag] 115 none:=(b2.get h.n (by omega) W7).trans g2
  have GM:=s0 dv bL (.bool false) (.int .i64 0) .ag cX v1
  have FU:=s1 cX bL (.bool false) (.int .i64 0) .ag
  have W8:cz aI (.ptr h1.n 0) room [] 0 h1.n .ag:=ot.au b2 fun x af ad=>by
   rcases af with af | af
   ·have:=w.ot.lt x ad;omega
   ·cases af
  have dY:∀ (ad:I) (o:aD),aa ad (ad.set h.n o) (·=h.n):=fun ad o=>aa.set _ _ _
  have KW:cz (aI.set h.n (.cells [cX,bL,.bool false,.int .i64 0,.ag] 115 none)) (.ptr h1.n 0) room [] 0 h1.n .ag:=W8.au (dY _ _) fun x af ad=>by
   rcases af with af | af
   ·have:x=h.n:=ad;omega
   ·cases af
  have KX:Own (aI.set h.n (.cells [cX,bL,.bool false,.int .i64 0,.ag] 115 none)) 119 1 bL (dx (fun q=>(rs q).a) i):=(W5.au b2 fun x af ad=>by have:=vd x ad;have:=qO x af;omega).au (dY _ _) fun x af ad=>by have:=qO x af;rw [show x=h.n from ad,w.eX] at this;cases this
  have g4:(aI.set h.n (.cells [cX,bL,.bool false,.int .i64 0,.ag] 115 none)).get h.n=.cells [cX,bL,.bool false,.int .i64 0,.ag] 115 none:=e4
  have more:=@dS.more h h1 ab aI
  simp only [ao,Nat.reduceEqDiff,agQ,ag8,ahL,f6,g2,d0,lit,hF,g3,Ac,GM]
  generalize KY:aI.set h.n (.cells [cX,bL,.bool false,.int .i64 0,.ag] 115 none)=h4 at KW KX g4⊢
  have AW:h4.n=aI.n:=by rw [←KY];rfl
  have m1:(h.n=h1.n)=False:=eq_false (by omega)
  have m2:¬aA bL=some h.n:=fun e=>by have:=qO _ e;rw [w.eX] at this;cases this
  refine aZ.b4 (fun x=>x=h1.n∨aA bL=some x) [6,7,8,11] (.q 0 (.q 1 (.q 2 (.q 3 (.q 4 (.q 5 (.e 6 (.e 7 (.e 8 (.q 9 (.q 10 (.a 11 .done))) .stop) .stop) .stop))))))) (by kernel_rfl) (by kernel_rfl) (by kernel_rfl) ?_
  simp only [ao,b6,gV,Nat.reduceEqDiff,Cp,E8,f6,g4,d1,m1,m2]
  refine ⟨fun ad=>ad.elim id id,?_⟩
  refine cC agD (akJ (l:=[]) (h:=h4) KW jH.nil (by simp)) fun x h5 ⟨r',ex,CN,N5,jF,af⟩=>?_
  subst ex
  have Bz:aa h4 h5 (fun x=>x=h1.n):=jF.mono fun x ad=>by
   rcases ad with ad | ad
   ·exact ad
   ·cases ad
  have W9:Own h5 119 1 bL (dx (fun q=>(rs q).a) i):=KX.au Bz fun x af ad=>by have:=w.mq.lt x af;have:x=h1.n:=ad;omega
  obtain ⟨nv',dT,Dh,Aa,mN,Xa⟩:=bv (P:=Tryz.prog) S4 (by decide) W9 (xs:=[.ptr r'.a 0]) rfl rfl (fun m hm=>by
   change m * 1=(dx (fun q=>(rs q).a) i).length+1 at hm
   rw [Gz] at hm
   exact ⟨by simp only [lim];omega,by simp only [lim];omega⟩)
  have O1:iA Tryz.prog 112 1 [(0,.ptr r'.a 0)] h5=some (.aj h5.n 0 1 1,h5.push (.cells [.ptr r'.a 0] 119 none)):=by rw [lN S4];rfl
  obtain ⟨O2,bK⟩:=we Aa
  have W0:=jF.n
  have g5:h5.get h.n=.cells [cX,bL,.bool false,.int .i64 0,.ag] 115 none:=(Bz.get h.n (by omega) (by omega)).trans g4
  have g6:dT.get h.n=.cells [cX,bL,.bool false,.int .i64 0,.ag] 115 none:=(mN.get h.n (by omega) m2).trans g5
  have Xb:=FU nv' bK
  have alj:=more (r':=r') (o3:=.cells [cX,bL,.bool false,.int .i64 0,.ag] 115 none) (h4:=h5) (h5:=dT) (nv':=nv') w k2 rfl (by omega) b2 o3 W6 (by rw [KY];exact Bz) CN N5 (fun x ad=>by
   rcases af x ad with lP | lP
   ·rcases lP with lP | lP
    ·exact .inl lP
    ·cases lP
   ·exact .inr (by omega)) mN Aa Xa
  have O3:aa h4 h5 (fun x=>x=h1.n∨aA bL=some x):=Bz.mono fun _ ad=>.inl ad
  have Xc:aa h4 dT (fun x=>x=h1.n∨aA bL=some x):=O3.trans mN fun _ _ ad=>.inr ad
  simp only [ao,b6,gV,Nat.reduceEqDiff,Cp,ahM,O1,Dh,O3,Xc]
  simp only [ao,b6,gV,Nat.reduceEqDiff,g6,O2,Xb,f23,hw]
  exact ⟨O3.cB _,aR ⟨(i+1,gg rs i r',cX,nv',_),⟨f0,f1,f6,f22,rfl,aT,alj⟩,by simp only;omega⟩⟩
 ·have aK:decide ((i:Int)<(n:Int))=false:=decide_eq_false (by omega)
  have gO:i=n:=by omega
  subst gO
  simp only [ao,Nat.reduceEqDiff,f6,f22,f23,aK,bd,Tryz.results23,ha]
  exact aR ⟨h.n,rs,dv,bL,ow,rfl,w⟩
def bu:Nat→List Nat→List Nat→List Nat×List Nat×Nat
 | 0,bs,acc=>(acc,bs,0)
 | k+1,bs,acc=>if (dec bs 0 0).2.2≠0 then ([],[],(dec bs 0 0).2.2) else bu k (bs.drop (dec bs 0 0).2.1) (acc++[(dec bs 0 0).1])
theorem el {k:Nat} {bs acc:List Nat} (h:(dec bs 0 0).2.2≠0):bu (k+1) bs acc=([],[],(dec bs 0 0).2.2):=by rw [bu,if_pos h]
theorem wu {k:Nat} {bs acc:List Nat} (h:(dec bs 0 0).2.2=0):bu (k+1) bs acc=bu k (bs.drop (dec bs 0 0).2.1) (acc++[(dec bs 0 0).1]):=by rw [bu,if_neg (by omega)]
theorem Xd (r:List Nat):∀ (l acc:List Nat),(∀ n ∈ l,n<2 ^ 64)→bu l.length (l.flatMap enc++r) acc=(acc++l,r,0)
 | [],acc,_=>by simp [bu]
 | n::l,acc,h=>by
  rw [List.length_cons,bu,List.flatMap_cons,List.append_assoc,CB _ (h n (by simp))]
  rw [if_neg (by simp)]
  simp only [List.drop_left]
  rw [Xd r l (acc++[n]) fun m hm=>h m (by simp [hm])]
  simp
theorem Xe {bs:List Nat} (ar:∀ b ∈ bs,b<256) (h:(dec bs 0 0).2.2=0):bs=enc (dec bs 0 0).1++bs.drop (dec bs 0 0).2.1:=by
 have q:dec bs 0 0=((dec bs 0 0).1,(dec bs 0 0).2.1,(dec bs 0 0).2.2):=rfl
 rw [h] at q
 obtain ⟨h1,x,ab,aI,_⟩:=NN bs 0 0 _ _ ar q
 simp only [Nat.mul_zero,Nat.pow_zero,Nat.mul_one,Nat.zero_add,Nat.sub_zero] at ab aI
 conv=>lhs;rw [←List.take_append_drop (dec bs 0 0).2.1 bs]
 rw [aI,ab]
theorem alk (n:Nat):iE (dZ n)=n:=by
 unfold dZ iE
 by_cases h:n % 2=0
 ·rw [if_pos h,if_pos (by omega)];omega
 ·rw [if_neg h,if_neg (by omega)];omega
theorem Xf:∀ (k:Nat) (bs:List Nat) (acc l:List Int) (r:List Nat),(∀ b ∈ bs,b<256)→mn k bs acc=(l,r,0)→∃ m:List Int,l=acc++m∧m.length=k∧bs=(m.flatMap fun n=>enc (iE n))++r∧(∀ n ∈ m,-2147483648≤n∧n≤2147483647)∧(∀ b ∈ r,b<256)∧r.length≤bs.length
 | 0,bs,acc,l,r,ar,h=>by
  simp only [mn,Prod.mk.injEq,and_true] at h
  obtain ⟨rfl,rfl⟩:=h
  exact ⟨[],by simp,rfl,by simp,by simp,ar,Nat.le_refl _⟩
 | k+1,bs,acc,l,r,ar,h=>by
  by_cases he:(dec bs 0 0).2.2=0
  ·rw [mn,if_neg (by omega)] at h
   by_cases aq:dZ (dec bs 0 0).1 < -2147483648∨2147483647<dZ (dec bs 0 0).1
   ·rw [if_pos aq] at h;simp at h
   ·rw [if_neg aq] at h
    obtain ⟨m,h1,ab,aI,h4,h5,dT⟩:=Xf k _ _ l r (uF ar _) h
    refine ⟨dZ (dec bs 0 0).1::m,by rw [h1];simp,by simp [ab],?_,?_,h5,?_⟩
    ·rw [List.flatMap_cons,List.append_assoc,←aI,alk]
     exact Xe ar he
    ·intro n aJ
     rcases List.mem_cons.1 aJ with rfl | aJ
     ·omega
     ·exact h4 n aJ
    ·simp only [List.length_drop] at dT;omega
  ·rw [mn,if_pos he] at h
   simp only [Prod.mk.injEq] at h
   exact absurd h.2.2 he
theorem Xg (l:List Int) (r:List Nat) (most:Int) (hm:(l.length:Int)≤most) (aw:l.length<2 ^ 63) (h:∀ n ∈ l,-2147483648≤n∧n≤2147483647):h2 (nm l++r) most=(l,r,0):=by
 unfold h2 nm
 rw [List.append_assoc,CB _ (by omega)]
 simp only [List.drop_left]
 rw [if_neg (by simp),if_neg (by omega),VH r l [] h,if_neg (by simp)]
 simp
theorem Xh {bs:List Nat} {most:Int} {l:List Int} {r:List Nat} (ar:∀ b ∈ bs,b<256) (h:h2 bs most=(l,r,0)):bs=nm l++r∧(l.length:Int)≤most∧(∀ n ∈ l,-2147483648≤n∧n≤2147483647)∧(∀ b ∈ r,b<256)∧r.length≤bs.length:=by
 unfold h2 at h
 split at h
 ·rename_i he;simp only [Prod.mk.injEq] at h;exact absurd h.2.2 he
 ·rename_i he
  split at h
  ·simp at h
  ·rename_i hm
   split at h
   ·rename_i sD;simp only [Prod.mk.injEq] at h;exact absurd h.2.2 sD
   ·obtain ⟨m,h1,ab,aI,h4,h5,dT⟩:=Xf _ _ _ _ _ (uF ar _) h
    simp only [List.nil_append] at h1
    subst h1
    refine ⟨?_,by omega,h4,h5,by simp only [List.length_drop] at dT;omega⟩
    rw [nm,List.append_assoc,←aI,ab]
    exact Xe ar (by omega)
theorem Xi {k:Nat} {bs acc:List Nat} (ar:∀ b ∈ bs,b<256):(∀ b ∈ (bu k bs acc).2.1,b<256)∧(bu k bs acc).2.1.length≤bs.length:=by
 induction k generalizing bs acc with
 | zero=>exact ⟨ar,Nat.le_refl _⟩
 | succ k ih=>
  by_cases he:(dec bs 0 0).2.2=0
  ·rw [wu he]
   have:=ih (bs:=bs.drop (dec bs 0 0).2.1) (acc:=acc++[(dec bs 0 0).1]) (uF ar _)
   refine ⟨this.1,?_⟩
   have ab:=this.2
   simp only [List.length_drop] at ab
   omega
  ·rw [el he]
   exact ⟨by simp,by simp⟩
theorem O4 (l:List Int) (aw:l.length<2 ^ 40) (h:∀ n ∈ l,-2147483648≤n∧n≤2147483647):(nm l).length≤10+10 * l.length:=by
 have h1:=TF (l:=l) fun n aJ=>by have:=h n aJ;omega
 have ab:=(hB l.length (by omega)).2
 unfold nm
 rw [List.length_append]
 omega
theorem Xj (l:List Int):∀ b ∈ nm l,b<256:=by
 intro b ar
 unfold nm at ar
 rcases List.mem_append.1 ar with ar | ar
 ·exact v7 _ _ (Nat.le_refl _) b ar
 ·obtain ⟨n,_,aJ⟩:=List.mem_flatMap.1 ar
  exact v7 _ _ (Nat.le_refl _) b aJ
theorem Xk:∀ (k:Nat) (rest:List Nat) (acc:List Int),(∀ b ∈ rest,b<256)→(mn k rest acc).2.2=0→(∀ b ∈ (mn k rest acc).2.1,b<256)∧(mn k rest acc).2.1.length≤rest.length∧(mn k rest acc).1.length≤rest.length+acc.length
 | 0,rest,acc,ar,_=>⟨ar,Nat.le_refl _,by simp [mn]⟩
 | k+1,rest,acc,ar,h=>by
  unfold mn at h⊢
  split at h
  ·rename_i h1;simp at h;exact absurd h h1
  ·rename_i h1
   split at h
   ·simp at h
   ·rename_i ab
    rw [if_neg h1,if_neg ab]
    have bZ:=Gc ar (by simpa using h1)
    obtain ⟨a,b,c⟩:=Xk k _ _ (uF ar _) h
    refine ⟨a,?_,?_⟩
    ·rw [List.length_drop] at b;omega
    ·rw [List.length_drop,List.length_append] at c;simp at c;omega
theorem alm {bs:List Nat} (most:Int) (ar:∀ b ∈ bs,b<256):(∀ b ∈ (h2 bs most).2.1,b<256)∧(h2 bs most).2.1.length≤bs.length∧(h2 bs most).1.length≤bs.length:=by
 unfold h2
 split
 ·exact ⟨ar,Nat.le_refl _,by simp⟩
 ·split
  ·exact ⟨ar,Nat.le_refl _,by simp⟩
  ·split
   ·exact ⟨ar,Nat.le_refl _,by simp⟩
   ·rename_i h
    obtain ⟨a,b,c⟩:=Xk (dec bs 0 0).1 (bs.drop (dec bs 0 0).2.1) [] (uF ar _) (by simpa using h)
    refine ⟨a,?_,?_⟩
    ·rw [List.length_drop] at b;omega
    ·rw [List.length_drop] at c;simp at c;omega
def CU (r:eP):List Nat:=[iE r.k,iE r.v,iE r.t]
def pT (r:eP):List Nat:=(CU r).flatMap enc
def oN (x:bk):List Nat:=[x.kind.toNat,x.task.toNat,x.aF.toNat,x.fV.toNat,x.log.toNat,iE x.r.k,iE x.r.v,iE x.r.t,if x.del then 1 else 0]
def dc (x:bk):List Nat:=(oN x).flatMap enc++(nm x.bA++nm x.order)
def Ah (l:List Nat):eP:=⟨dZ (l.getD 0 0),dZ (l.getD 1 0),dZ (l.getD 2 0)⟩
def pU (l:List Nat) (o r:List Int):bk:=⟨(l.getD 0 0:Nat),(l.getD 1 0:Nat),(l.getD 2 0:Nat),(l.getD 3 0:Nat),(l.getD 4 0:Nat),⟨dZ (l.getD 5 0),dZ (l.getD 6 0),dZ (l.getD 7 0)⟩,l.getD 8 0==1,o,r⟩
def wv (l:List Nat) (o r:List Int×List Nat×Nat):bk×Nat :=
 if o.2.2≠0 then (oy,o.2.2) else if r.2.2≠0 then (oy,r.2.2)
 else if r.2.1≠[]∨1<l.getD 8 0∨cy (pU l o.1 r.1)=false then (oy,5) else (pU l o.1 r.1,0)
def pV (bs:List Nat):bk×Nat :=
 if (bu 9 bs []).2.2≠0 then (oy,(bu 9 bs []).2.2)
 else wv (bu 9 bs []).1 (h2 (bu 9 bs []).2.1 8) (h2 (h2 (bu 9 bs []).2.1 8).2.1 256)
theorem pW {n:Int} (h:hJ n):iE n<2 ^ 64:=zM n h.1 h.2
theorem aln {r:eP} (h:ia r):∀ n ∈ CU r,n<2 ^ 64:=by
 intro n aJ
 simp only [CU,List.mem_cons,List.not_mem_nil,or_false] at aJ
 rcases aJ with rfl | rfl | rfl
 ·exact pW h.1
 ·exact pW h.2.1
 ·exact pW h.2.2
theorem alo (l:List Nat) (h:∀ n ∈ l,n<2 ^ 64):l.length≤(l.flatMap enc).length:=by
 induction l with
 | nil=>simp
 | cons n l ih=>
  have h1:=(hB n (h n (by simp))).1
  have ab:=ih fun m hm=>h m (by simp [hm])
  rw [List.flatMap_cons,List.length_append,List.length_cons]
  omega
theorem O5 (l:List Nat) (h:∀ n ∈ l,n<2 ^ 64):(l.flatMap enc).length≤10 * l.length:=by
 induction l with
 | nil=>simp
 | cons n l ih=>
  have h1:=(hB n (h n (by simp))).2
  have ab:=ih fun m hm=>h m (by simp [hm])
  rw [List.flatMap_cons,List.length_append,List.length_cons]
  omega
theorem alp (l:List Nat):∀ b ∈ l.flatMap enc,b<256:=by
 intro b ar
 obtain ⟨n,_,aJ⟩:=List.mem_flatMap.1 ar
 exact v7 n n (Nat.le_refl _) b aJ
theorem alq {r:eP} (h:ia r):(pT r).length≤30:=O5 (CU r) (aln h)
def GN (x:bk):Prop:=hJ x.kind∧hJ x.task∧hJ x.aF∧hJ x.fV∧hJ x.log∧ia x.r∧(∀ n ∈ x.bA,hJ n)∧∀ n ∈ x.order,hJ n
theorem O6 {x:bk} (aq:ia x.r) (hm:cy x=true):∀ n ∈ oN x,n<2 ^ 64:=by
 obtain ⟨hk,h1,ab,aI,h4,_⟩:=(nT x).1 hm
 rw [rj] at h1 ab aI h4
 have bC:=pW aq.1
 have a2:=pW aq.2.1
 have a3:=pW aq.2.2
 intro n aJ
 simp only [oN,List.mem_cons,List.not_mem_nil,or_false] at aJ
 rcases aJ with rfl | rfl | rfl | rfl | rfl | rfl | rfl | rfl | rfl
 ·omega
 ·omega
 ·omega
 ·omega
 ·omega
 ·exact bC
 ·exact a2
 ·exact a3
 ·split<;>omega
theorem alr {x:bk} (hm:cy x=true):pU (oN x) x.bA x.order=x:=by
 obtain ⟨hk,h1,ab,aI,h4,_⟩:=(nT x).1 hm
 rw [rj] at h1 ab aI h4
 obtain ⟨kind,task,aF,fV,log,⟨k,v,t⟩,del,bA,order⟩:=x
 simp only at hk h1 ab aI h4
 simp only [pU,oN,List.getD_cons_zero,List.getD_cons_succ,TI,bk.mk.injEq,and_true,true_and]
 refine ⟨by omega,by omega,by omega,by omega,by omega,?_⟩
 cases del<;>rfl
theorem GO {l:List Int} (h:∀ n ∈ l,fit n=true):∀ n ∈ l,-2147483648≤n∧n≤2147483647:=fun n aJ=>by
 have:=(rj n).1 (h n aJ);omega
theorem als {x:bk} (aq:ia x.r) (hm:cy x=true) (bs:List Nat):pV ((oN x).flatMap enc++bs)=wv (oN x) (h2 bs 8) (h2 (h2 bs 8).2.1 256):=by
 have e:=Xd bs (oN x) [] (O6 aq hm)
 rw [List.nil_append,show (oN x).length=9 from rfl] at e
 unfold pV
 rw [e]
 simp
theorem alu {x:bk} (aq:ia x.r) (hm:cy x=true):pV (dc x)=(x,0):=by
 obtain ⟨hk,_,_,_,_,_,h1,ab,aI,h4,_⟩:=(nT x).1 hm
 have aK:=Xg x.bA (nm x.order) 8 (by omega) (by omega) (GO ab)
 have a6:=Xg x.order [] 256 (by omega) (by omega) (GO h4)
 rw [List.append_nil] at a6
 rw [dc,als aq hm,aK,a6]
 have a7:¬1<(oN x).getD 8 0:=by
  simp only [oN,List.getD_cons_zero,List.getD_cons_succ];split<;>omega
 unfold wv
 simp only [alr hm]
 rw [if_neg (by simp),if_neg (by simp),if_neg (by simp [hm];simpa using a7)]
theorem Xl (l:List Int) (h:l.length<2 ^ 63):1≤(nm l).length:=by
 have:=(hB l.length (by omega)).1
 unfold nm
 rw [List.length_append];omega
theorem alv {x:bk} (aq:ia x.r) (hm:cy x=true):11≤(dc x).length:=by
 obtain ⟨hk,_,_,_,_,_,h1,ab,aI,h4,_⟩:=(nT x).1 hm
 have g1:=alo (oN x) (O6 aq hm)
 have g2:=Xl x.bA (by omega)
 have g3:=Xl x.order (by omega)
 have g4:(oN x).length=9:=rfl
 unfold dc
 simp only [List.length_append]
 omega
theorem alw {x:bk} (aq:ia x.r) (hm:cy x=true):(dc x).length≤4096:=by
 obtain ⟨hk,_,_,_,_,_,h1,ab,aI,h4,_⟩:=(nT x).1 hm
 have g1:=O5 (oN x) (O6 aq hm)
 have g2:=O4 x.bA (by omega) (GO ab)
 have g3:=O4 x.order (by omega) (GO h4)
 have g4:(oN x).length=9:=rfl
 unfold dc
 simp only [List.length_append]
 omega
theorem Xm (x:bk):∀ b ∈ dc x,b<256:=by
 intro b ar
 simp only [dc,List.mem_append] at ar
 rcases ar with ar | ar | ar
 ·exact alp _ b ar
 ·exact Xj _ b ar
 ·exact Xj _ b ar
theorem alx:tb Tryz.prog 262=some (5,1,false):=by kernel_rfl
theorem aly (b:Bool) (h:I):Pure Tryz.prog 154 [.bool b] h (.int .u64 (if b then 1 else 0)):=by
 refine ah.aH (c:=_) Tryz.func154 rfl (by kernel_rfl) (by simp) ?_
 cases b
 ·simp only [ao,Nat.reduceEqDiff,reduceCtorEq,bd,Tryz.results154,bT]
  exact aR ⟨rfl,rfl⟩
 ·simp only [ao,Nat.reduceEqDiff,reduceCtorEq,bd,Tryz.results154,bT]
  exact aR ⟨rfl,rfl⟩
theorem alz (r:eP):pT r=enc (iE r.k)++(enc (iE r.v)++enc (iE r.t)):=by simp [pT,CU]
theorem Xn {n:Int} (h:hJ n):(enc (iE n)).length≤10:=(hB _ (pW h)).2
theorem alA (s:V) (cs:List Nat) (r:eP) (h:I) (rd:Rd h s cs) (aq:ia r) (al:cs.length≤2 ^ 45) :
  Pure Tryz.prog 153 [s,.agg (dh r)] h (.an (cs++pT r).length (bp (cs++pT r))):=by
 refine Pure.val (bb.an (re _)) ?_
 refine ah.aH (c:=_) Tryz.func153 rfl (by kernel_rfl) (by simp) ?_
 have cr:(V.agg (dh r)).cells=some [.int .i64 r.k,.int .i64 r.v,.int .i64 r.t]:=rfl
 simp only [ao,cr]
 obtain ⟨H,hH⟩:∃ y,y=h.push (.cells [.int .i64 r.k,.int .i64 r.v,.int .i64 r.t] 37 none):=⟨_,rfl⟩
 have aE:H.get h.n=.cells [.int .i64 r.k,.int .i64 r.v,.int .i64 r.t] 37 none:=by rw [hH];exact c4
 have c6:aa h H none_:=by rw [hH];exact aa.push _ _ _
 rw [←hH]
 have fg:=Xn aq.1
 have dN:=Xn aq.2.1
 refine aZ.b4 none_ [] (.q 0 (.q 1 (.q 2 (.c 3 (.q 4 (.q 5 (.c 6 (.q 7 (.q 8 (.c 9 (.q 10 .done))))))))))) (by kernel_rfl) (by kernel_rfl) (by kernel_rfl) ?_
 simp only [ao,b6,Nat.reduceEqDiff,Nat.reduceAdd,reduceCtorEq,SM,nj,aE]
 refine jQ rfl rfl rfl (fun U hk=>zN s cs r.k U (rd.au (by rcases hk with hk | rfl;exact c6.trans' hk;exact c6)) (by omega) aq.1.1 aq.1.2) ?_
 simp only [ao,b6,Nat.reduceEqDiff,Nat.reduceAdd,Nat.reduceLeDiff,agV,nj,aE]
 refine jQ rfl rfl rfl (fun U hk=>zN _ _ r.v U (Rd.an U _) (by rw [List.length_append];omega) aq.2.1.1 aq.2.1.2) ?_
 simp only [ao,b6,Nat.reduceEqDiff,Nat.reduceAdd,Nat.reduceLeDiff,E4,nj,aE]
 refine jQ rfl rfl rfl (fun U hk=>zN _ _ r.t U (Rd.an U _) (by simp only [List.length_append];omega) aq.2.2.1 aq.2.2.2) ?_
 simp only [ao,b6,Nat.reduceEqDiff,bd,Tryz.results153,bT]
 refine aR ⟨?_,c6⟩
 rw [alz]
 simp only [List.append_assoc]
def pX (x:bk):List Nat:=if cy x=true then dc x else []
def Ai (x:bk):Int:=if cy x=true then 0 else 1
def pd (x:bk):List Nat:=[x.kind.toNat,x.task.toNat,x.aF.toNat,x.fV.toNat,x.log.toNat]
def y6 (x:bk):List V:=[.int .i64 x.kind,.int .i64 x.task,.int .i64 x.aF,.int .i64 x.fV,.int .i64 x.log]
theorem alB (x:bk) (h:I) (hu:qy h) (af:GN x) (hlen:oA x):Pure Tryz.prog 123 [.agg (aY x)] h (.tuple [.an (pX x).length (bp (pX x)),.int .i64 (Ai x)]):=by
 refine Pure.of (bb.tuple (aO.cons (bb.an (re _)) (aO.cons (bb.int _ _) aO.nil))) ?_
 refine ah.aH (c:=_) Tryz.func123 rfl (by kernel_rfl) (by simp) ?_
 have cr:(V.agg (aY x)).cells=some (aY x):=rfl
 have hy:(if 11≤(aY x).length then some (V.agg (List.take 11 (aY x))) else none)=some (.agg (aY x)):=rfl
 simp only [ao,Nat.reduceEqDiff,mf,cr,hy]
 obtain ⟨H,hH⟩:∃ y,y=h.push (.cells (aY x) 140 none):=⟨_,rfl⟩
 have aE:H.get h.n=.cells [.int .i64 x.kind,.int .i64 x.task,.int .i64 x.aF,.int .i64 x.fV,.int .i64 x.log,.int .i64 x.r.k,.int .i64 x.r.v,.int .i64 x.r.t,.bool x.del,.an x.bA.length (bl x.bA),.an x.order.length (bl x.order)] 140 none:=by rw [hH];exact c4
 have c6:aa h H none_:=by rw [hH];exact aa.push _ _ _
 have Fs:qy H:=by unfold qy;rw [c6.glob];exact hu
 rw [←hH]
 clear hH
 refine cK M8 (NR x H Fs hlen) ?_
 cases hm:cy x
 ·simp only [ao,Nat.reduceEqDiff,bd,Tryz.results123,ha]
  have aK:pX x=[]:=by simp [pX,hm]
  have a6:Ai x=1:=by simp [Ai,hm]
  rw [aK,a6]
  exact aR ⟨H,em _ _,c6⟩
 have aK:pX x=dc x:=by simp [pX,hm]
 have a6:Ai x=0:=by simp [Ai,hm]
 rw [aK,a6]
 obtain ⟨hk,m1,m2,m3,m4,mt,c0,cw,cq,ck,_⟩:=(nT x).1 hm
 rw [rj] at m1 m2 m3 m4
 simp only [ao,Nat.reduceEqDiff,Nat.reduceAdd,Nat.reduceLeDiff,Nat.reduceMul,sb,EU,vV,zC,Cq,bz,ahq,Tj,aE]
 have eM:∀ n ∈ pd x,n<2 ^ 63:=by
  intro n aJ
  simp only [pd,List.mem_cons,List.not_mem_nil,or_false] at aJ
  rcases aJ with rfl | rfl | rfl | rfl | rfl<;>omega
 have Xo:y6 x=(pd x).map fun n:Nat=>V.int .i64 (n:Int):=by
  simp only [y6,pd,List.map_cons,List.map_nil,List.cons.injEq,V.int.injEq,true_and,and_true]
  omega
 refine aZ.cu (α:=Nat×V) (fun y f U=>U=H∧f 1=.ptr h.n 0∧f 4=y.2∧f 20=.agg (y6 x)∧f 21=.int .i64 (y.1:Nat)∧y.1≤5∧Rd H y.2 (((pd x).take y.1).flatMap enc)) (fun y=>5 - y.1) (0,.ag)
  ⟨rfl,rfl,rfl,rfl,rfl,Nat.zero_le _,Rd.ag _⟩ ?_
 rintro ⟨i,v⟩ f U ⟨rfl,f1,f4,f20,f21,hi,h9⟩
 simp only at f4 f21 hi h9
 refine gn (by kernel_rfl) ?_
 have AH:(pd x).length=5:=rfl
 have rA:(((pd x).take i).flatMap enc).length≤50:=by
  have:=O5 ((pd x).take i) fun n aJ=>by have:=eM n (List.mem_of_mem_take aJ);omega
  rw [List.length_take] at this;omega
 by_cases cb:i<5
 ·have d1:decide ((i:Int)<5)=true:=decide_eq_true (by omega)
  have hw:=Mh cb (by omega)
  have eN:i<(pd x).length:=cb
  have Xp:=eM _ (List.getElem_mem eN)
  have fD:ua Tryz.prog 262 (.agg (y6 x)) (.int .i64 (i:Int))=some (.int .i64 ((pd x)[i]:Nat)):=by
   rw [ad0 alx cb,Xo,List.getElem?_map,List.getElem?_eq_getElem eN]
   all_goals rfl
  have J:((pd x).take (i+1)).flatMap enc=((pd x).take i).flatMap enc++enc (pd x)[i]:=by
   rw [List.take_succ_eq_append_getElem eN,List.flatMap_append]
   simp
  generalize (pd x)[i]=n at Xp fD J
  have Xq:=adm (n:=n) (by omega)
  simp only [ao,Nat.reduceEqDiff,f4,f20,f21,d1,fD,js gG jS,Xq]
  refine cK SB (Fo v _ n _ h9 (by omega) (by omega)) ?_
  simp only [ao,Nat.reduceEqDiff,f21,hw]
  refine aR ⟨(i+1,_),⟨rfl,f1,rfl,f20,rfl,cb,?_⟩,by simp only;omega⟩
  simp only [J]
  exact Rd.an _ _
 ·have d1:decide ((i:Int)<5)=false:=decide_eq_false (by omega)
  rw [List.take_of_length_le (by omega)] at h9 rA
  simp only [ao,Nat.reduceEqDiff,Nat.reduceAdd,Nat.reduceLeDiff,EV,ux,f1,f4,f21,d1,aE]
  have jM:=alq af.2.2.2.2.2.1
  refine cK afW (alA v _ x.r _ h9 af.2.2.2.2.2.1 (by omega)) ?_
  simp only [ao,Nat.reduceEqDiff,Nat.reduceAdd,Nat.reduceLeDiff,IJ,iN,f1,f4,aE]
  refine cK afX (aly x.del _) ?_
  simp only [ao,Nat.reduceEqDiff]
  have Xr:(if x.del=true then (1:Int) else 0)=(((if x.del=true then 1 else 0):Nat):Int):=by split<;>rfl
  rw [Xr]
  refine cK SB (Fo _ _ _ _ (Rd.an _ _) (by simp only [List.length_append];omega) (by split<;>omega)) ?_
  simp only [ao,Nat.reduceEqDiff]
  have EO:=(hB (if x.del=true then 1 else 0) (by split<;>omega)).2
  refine aZ.b4 none_ [] (.q 0 (.q 1 (.q 2 (.c 3 (.q 4 (.q 5 (.c 6 (.q 7 (.q 8 .done))))))))) (by kernel_rfl) (by kernel_rfl) (by kernel_rfl) ?_
  simp only [ao,b6,Nat.reduceEqDiff,Nat.reduceAdd,Nat.reduceLeDiff,EW,vW,f1,f4,aE]
  refine jQ rfl rfl rfl (fun U hk=>TG _ _ x.bA U (Rd.an U _) af.2.2.2.2.2.2.1 (by simp only [List.length_append];omega)) ?_
  simp only [ao,b6,Nat.reduceEqDiff,Nat.reduceAdd,Nat.reduceLeDiff,EX,vW,f1,aE]
  have R9:=O4 x.bA (by omega) (GO cw)
  refine jQ rfl rfl rfl (fun U hk=>TG _ _ x.order U (Rd.an U _) af.2.2.2.2.2.2.2 (by simp only [List.length_append];omega)) ?_
  simp only [ao,b6,Nat.reduceEqDiff,bd,Tryz.results123,ha]
  have dH:(pd x).flatMap enc++pT x.r++enc (if x.del=true then 1 else 0)++nm x.bA++nm x.order=dc x:=by
   simp [pd,pT,CU,dc,oN]
  rw [dH]
  exact aR ⟨_,aV.refl _ _,c6⟩
theorem O7:∀ (k:Nat) (bs acc:List Nat),bu k bs acc=if (bu k bs []).2.2=0 then (acc++(bu k bs []).1,(bu k bs []).2.1,0) else ([],[],(bu k bs []).2.2)
 | 0,bs,acc=>by simp [bu]
 | k+1,bs,acc=>by
  by_cases he:(dec bs 0 0).2.2=0
  ·rw [wu he,wu he,O7 k _ (acc++_),O7 k _ ([]++_)]
   by_cases ab:(bu k (bs.drop (dec bs 0 0).2.1) []).2.2=0
   ·simp [ab]
   ·simp [ab]
  ·rw [el he,el he]
   simp [he]
theorem lw (b:Nat):∀ (a:Nat) (bs acc:List Nat),bu (a+b) bs acc=if (bu a bs acc).2.2=0 then bu b (bu a bs acc).2.1 (bu a bs acc).1 else ([],[],(bu a bs acc).2.2)
 | 0,bs,acc=>by simp [bu]
 | a+1,bs,acc=>by
  rw [show a+1+b=(a+b)+1 by omega]
  by_cases he:(dec bs 0 0).2.2=0
  ·rw [wu he,wu he,lw b a]
  ·rw [el he,el he]
   simp [he]
theorem alC {k:Nat} {bs acc:List Nat} (h:(bu k bs acc).2.2=0):(bu k bs acc).1.length=acc.length+k:=by
 induction k generalizing bs acc with
 | zero=>rfl
 | succ k ih=>
  by_cases he:(dec bs 0 0).2.2=0
  ·rw [wu he] at h⊢
   rw [ih h]
   simp
   omega
  ·rw [el he] at h
   exact absurd h he
def rz (q:List Nat×List Nat×Nat):eP:=if q.2.2=0 then Ah q.1 else tz
theorem Xs (acc:List Int) (m k:Nat) (x:Int) (hk:acc.length=k) (hm:k<m):(acc++List.replicate (m - k) 0).set k x=(acc++[x])++List.replicate (m - (k+1)) 0:=by
 rw [List.set_append_right _ _ (by omega),hk,Nat.sub_self,show m - k=(m - (k+1))+1 by omega,List.replicate_succ,List.set_cons_zero]
 simp
theorem alD (p:V) (i:Nat) (bs:List Nat) (h:I) (aq:ef h p i bs) (ar:∀ b ∈ bs,b<256) (al:bs.length≤2 ^ 47) :
  ah Tryz.prog 146 [p] h (fun r U=>r=.tuple [.agg (dh (rz (bu 3 bs []))),.int .i64 ((bu 3 bs []).2.2:Nat)]∧aa h U (·=i)∧((bu 3 bs []).2.2=0→ef U p i (bu 3 bs []).2.1)):=by
 refine ah.aH (c:=_) Tryz.func146 rfl (by kernel_rfl) (by simp) ?_
 have gO:=aq.2.1
 simp only [ao,ahJ,xR]
 obtain ⟨H,hH⟩:∃ y,y=(h.push (.cells [.int .i64 0,.int .i64 0,.int .i64 0] 37 none)).push (.cells [.int .i64 0,.int .i64 0,.int .i64 0] 322 none):=⟨_,rfl⟩
 have g0:H.get h.n=.cells [.int .i64 0,.int .i64 0,.int .i64 0] 37 none:=by rw [hH];exact Dy
 have g1:H.get (h.n+1)=.cells (bl [0,0,0]) 322 none:=by rw [hH];exact Dx
 have c6:aa h H none_:=by rw [hH];exact (aa.push _ _ _).cB _
 have o8:H.n=h.n+2:=by rw [hH];rfl
 rw [←hH]
 clear hH
 refine aZ.cu (α:=Nat×List Nat×List Nat) (fun x f U=>f 0=p∧f 2=.ptr h.n 0∧f 4=.ptr (h.n+1) 0∧f 8=.int .i64 (x.1:Nat)∧x.1≤3∧x.2.1.length=x.1 ∧
   U.get h.n=.cells [.int .i64 0,.int .i64 0,.int .i64 0] 37 none∧U.get (h.n+1)=.cells (bl (x.2.1.map dZ++List.replicate (3 - x.1) 0)) 322 none∧aa h U (·=i)∧h.n+2≤U.n∧ef U p i x.2.2 ∧
   bu (3 - x.1) x.2.2 x.2.1=bu 3 bs []∧x.2.2.length≤bs.length∧∀ b ∈ x.2.2,b<256) (fun x=>3 - x.1) (0,[],bs)
  ⟨rfl,rfl,rfl,rfl,Nat.zero_le _,rfl,g0,g1,c6.up,by omega,aq.au c6 (by simp [none_]),rfl,Nat.le_refl _,ar⟩ ?_
 rintro ⟨k,acc,rest⟩ f h1 ⟨f0,f2,f4,f8,hk,aL,pa,c2,kk,aJ,h9,h3,aw,eC⟩
 simp only at f8 hk aL c2 h9 h3 aw eC
 refine gn (by kernel_rfl) ?_
 by_cases cb:k<3
 ·have d1:decide ((k:Int)<3)=true:=decide_eq_true (by omega)
  have hw:=Mh cb (by omega)
  simp only [ao,Nat.reduceEqDiff,reduceCtorEq,f0,f8,d1]
  refine cC Su (Fp _ _ rest h1 h9 eC (by omega)) fun r ab ⟨a6,ck,k2⟩=>?_
  subst a6
  have ve:=(k2.get h.n (by omega) (by omega)).trans pa
  have tV:=(k2.get (h.n+1) (by omega) (by omega)).trans c2
  rw [show 3 - k=(3 - (k+1))+1 by omega] at h3
  by_cases cN:(dec rest 0 0).2.2=0
  ·have bc:((((dec rest 0 0).2.2:Nat):Int) !=0)=false:=by simp [cN]
   rw [wu cN] at h3
   have bZ:=Gc eC cN
   have fD:(if (0:Int)≤(k:Int)∧(k:Int)<((3:Nat):Int) then some (V.ptr (h.n+1) (0+(k:Int).toNat * 1)) else none)=some (.ptr (h.n+1) k):=by
    rw [if_pos ⟨by omega,by omega⟩];simp
   have O8:(if (0:Int)≤(k:Int)∧(k:Int)<((3:Nat):Int) then some (V.ptr (h.n+1) ((k:Int).toNat * 1)) else none)=some (.ptr (h.n+1) k):=by
    rw [if_pos ⟨by omega,by omega⟩];simp
   have j7:ca (some 1) (aD.cells (bl (acc.map dZ++List.replicate (3 - k) 0)) 322 none) k [.int .i64 (dZ (dec rest 0 0).1)]=some (.cells (bl ((acc++[(dec rest 0 0).1]).map dZ++List.replicate (3 - (k+1)) 0)) 322 none):=by
    rw [nO rfl,if_pos (by simp [bl,aL];omega),bl,bl,←List.map_set,Xs _ _ _ _ (by simp [aL]) cb]
    simp
   simp only [ao,Nat.reduceEqDiff,Sp,Tf,Nz,f4,f8,bc,O8,tV,j7,hw]
   refine aR ⟨(k+1,acc++[(dec rest 0 0).1],rest.drop (dec rest 0 0).2.1),⟨f0,f2,f4,rfl,cb,by simp [aL],?_,?_,?_,?_,?_,h3,?_,uF eC _⟩,by simp only;omega⟩
   ·rw [nS (by omega)];exact ve
   ·rw [e4]
   ·exact (kk.trans' k2).trans (aa.set _ _ _) fun j aC ad=>by omega
   ·rw [kE];have:=k2.n;omega
   ·exact ck.au (aa.set _ _ _) (by omega)
   ·simp only [List.length_drop];omega
  ·have bc:((((dec rest 0 0).2.2:Nat):Int) !=0)=true:=by simp;omega
   rw [el cN] at h3
   have vf:(bu 3 bs []).2.2=(dec rest 0 0).2.2:=by rw [←h3]
   simp only [ao,Nat.reduceEqDiff,Nat.reduceAdd,ux,Ff,xR,I2,f2,bc,ve,bd,Tryz.results146,qi,mF,jP,qh]
   refine aR ⟨?_,?_,fun ay=>absurd (vf ▸ ay) cN⟩
   ·rw [vf,rz,if_neg (by rw [vf];exact cN)];rfl
   ·exact (kk.trans' k2).trans (aa.set _ _ _) fun j aC ad=>by omega
 ·have d1:decide ((k:Int)<3)=false:=decide_eq_false (by omega)
  have lD:k=3:=by omega
  subst lD
  rw [Nat.sub_self,bu] at h3
  match acc,aL with
  | [a,b,c],_=>
   have tV:h1.get (h.n+1)=.cells [.int .i64 (dZ a),.int .i64 (dZ b),.int .i64 (dZ c)] 322 none:=c2
   have i0:((0:Int)<((3:Nat):Int))=True:=eq_true (by decide)
   have i1:((1:Int)<((3:Nat):Int))=True:=eq_true (by decide)
   have i2:((2:Int)<((3:Nat):Int))=True:=eq_true (by decide)
   simp only [ao,Int.reduceLE,Nat.reduceEqDiff,Nat.reduceAdd,Nat.reduceLeDiff,Nat.reduceMul,Sp,nj,ux,Ff,Tf,xR,I2,f2,f4,f8,d1,pa,tV,i0,i1,i2,Int.toNat_zero,Int.toNat_one,Int.reduceToNat,bd,Tryz.results146,qi,mF,jP,qh]
   refine aR ⟨?_,?_,fun _=>?_⟩
   ·rw [←h3];rfl
   ·exact kk.trans (aa.set _ _ _) fun j aC ad=>by omega
   ·rw [←h3];exact h9.au (aa.set _ _ _) (by omega)
def hr (n:Nat):Nat:=min n 1048577
def jK (l:List Nat) (o r:List Int):bk:=⟨(hr (l.getD 0 0):Nat),(hr (l.getD 1 0):Nat),(hr (l.getD 2 0):Nat),(hr (l.getD 3 0):Nat),(hr (l.getD 4 0):Nat),⟨dZ (l.getD 5 0),dZ (l.getD 6 0),dZ (l.getD 7 0)⟩,l.getD 8 0==1,o,r⟩
def kz (bs:List Nat):List Int×List Nat×Nat:=h2 (bu 9 bs []).2.1 8
def eQ (bs:List Nat):List Int×List Nat×Nat:=h2 (kz bs).2.1 256
def eB (bs:List Nat):Nat:=if (bu 9 bs []).2.2≠0 then (bu 9 bs []).2.2 else if (kz bs).2.2≠0 then (kz bs).2.2 else (eQ bs).2.2
def eb:List V:=[.int .i64 0,.int .i64 0,.int .i64 0,.int .i64 0,.int .i64 0,.int .i64 0,.int .i64 0,.int .i64 0,.bool false,.ag,.ag]
theorem Xt:po eb (aY oy) :=
 po.cons (.refl _) (.cons (.refl _) (.cons (.refl _) (.cons (.refl _) (.cons (.refl _) (.cons (.refl _) (.cons (.refl _) (.cons (.refl _) (.cons (.refl _) (.cons .ag (.cons .ag (.refl _)))))))))))
theorem wx (l:List V) (h:I):aV (.tuple (.agg eb::l)) h (.tuple (.agg (aY oy)::l)) h:=(mG.tuple (po.cons (mG.agg Xt) (.refl _))).cast h
theorem JD {bs:List Nat} (h:(bu 9 bs []).2.2≠0):eB bs=(bu 9 bs []).2.2:=by unfold eB;rw [if_pos h]
theorem alE (p:V) (i:Nat) (bs:List Nat) (h:I) (aq:ef h p i bs) (ar:∀ b ∈ bs,b<256) (al:bs.length≤2 ^ 47) :
  ah Tryz.prog 110 [p] h (fun r U=>∃ (x:bk) (d:Nat),r=.tuple [.agg (aY x),.int .u64 (d:Nat),.int .i64 (eB bs:Nat)]∧aa h U (·=i)∧(eB bs≠0→x=oy) ∧
   (eB bs=0→x=jK (bu 9 bs []).1 (kz bs).1 (eQ bs).1∧d=(bu 9 bs []).1.getD 8 0∧ef U p i (eQ bs).2.1)):=by
 refine ah.cast ?_
 refine ah.aH (c:=_) Tryz.func110 rfl (by kernel_rfl) (by simp) ?_
 have gO:=aq.2.1
 simp only [ao,o6,Tj]
 obtain ⟨H,hH⟩:∃ y,y=(h.push (.cells eb 140 none)).push (.cells [.int .i64 0,.int .i64 0,.int .i64 0,.int .i64 0,.int .i64 0] 262 none):=⟨_,rfl⟩
 have g0:H.get h.n=.cells eb 140 none:=by rw [hH];exact Dy
 have g1:H.get (h.n+1)=.cells (bl [0,0,0,0,0]) 262 none:=by rw [hH];exact Dx
 have c6:aa h H none_:=by rw [hH];exact (aa.push _ _ _).cB _
 have o8:H.n=h.n+2:=by rw [hH];rfl
 unfold eb at hH
 rw [←hH]
 clear hH
 have jE:bu 9 bs []=if (bu 5 bs []).2.2=0 then bu 4 (bu 5 bs []).2.1 (bu 5 bs []).1 else ([],[],(bu 5 bs []).2.2):=lw 4 5 bs []
 refine aZ.cu (α:=Nat×List Nat×List Nat) (fun x f U=>f 0=p∧f 2=.ptr h.n 0∧f 5=.ptr (h.n+1) 0∧f 14=.int .i64 (x.1:Nat)∧x.1≤5∧x.2.1.length=x.1 ∧
   U.get h.n=.cells eb 140 none∧U.get (h.n+1)=.cells (bl (x.2.1.map (fun n:Nat=>((hr n:Nat):Int))++List.replicate (5 - x.1) 0)) 262 none∧aa h U (·=i)∧h.n+2≤U.n∧ef U p i x.2.2 ∧
   bu (5 - x.1) x.2.2 x.2.1=bu 5 bs []∧x.2.2.length≤bs.length∧∀ b ∈ x.2.2,b<256) (fun x=>5 - x.1) (0,[],bs)
  ⟨rfl,rfl,rfl,rfl,Nat.zero_le _,rfl,g0,g1,c6.up,by omega,aq.au c6 (by simp [none_]),rfl,Nat.le_refl _,ar⟩ ?_
 rintro ⟨k,acc,rest⟩ f h1 ⟨f0,f2,f5,f14,hk,aL,pa,c2,kk,aJ,h9,h3,aw,eC⟩
 simp only at f14 hk aL c2 h9 h3 aw eC
 refine gn (by kernel_rfl) ?_
 have eH:ca (some 11) (aD.cells eb 140 none) 0 eb=some (.cells eb 140 none):=rfl
 have rC:(if 11≤eb.length then some (V.agg (eb.take 11)) else none)=some (.agg eb):=rfl
 by_cases cb:k<5
 ·have d1:decide ((k:Int)<5)=true:=decide_eq_true (by omega)
  have hw:=Mh cb (by omega)
  simp only [ao,Nat.reduceEqDiff,reduceCtorEq,f0,f14,d1]
  refine cC Cn (Cz _ _ rest h1 h9 eC (by omega)) fun r ab ⟨a6,ck,k2⟩=>?_
  subst a6
  have ve:=(k2.get h.n (by omega) (by omega)).trans pa
  have tV:=(k2.get (h.n+1) (by omega) (by omega)).trans c2
  rw [show 5 - k=(5 - (k+1))+1 by omega] at h3
  by_cases cN:(dec rest 0 0).2.2=0
  ·have bc:((((dec rest 0 0).2.2:Nat):Int) !=0)=false:=by simp [cN]
   rw [wu cN] at h3
   have bZ:=Gc eC cN
   have fD:(if (0:Int)≤(k:Int)∧(k:Int)<((5:Nat):Int) then some (V.ptr (h.n+1) ((k:Int).toNat * 1)) else none)=some (.ptr (h.n+1) k):=by
    rw [if_pos ⟨by omega,by omega⟩];simp
   have cQ:IntKind.i64.wrap (min (((dec rest 0 0).1:Nat):Int) 1048577)=((hr (dec rest 0 0).1:Nat):Int):=by
    unfold hr
    rw [Go.IntWalk.i64_in _ (by omega)]
    omega
   have j7:ca (some 1) (aD.cells (bl (acc.map (fun n:Nat=>((hr n:Nat):Int))++List.replicate (5 - k) 0)) 262 none) k [.int .i64 ((hr (dec rest 0 0).1:Nat):Int)]=some (.cells (bl ((acc++[(dec rest 0 0).1]).map (fun n:Nat=>((hr n:Nat):Int))++List.replicate (5 - (k+1)) 0)) 262 none):=by
    rw [nO rfl,if_pos (by simp [bl,aL];omega),bl,bl,←List.map_set,Xs _ _ _ _ (by simp [aL]) cb]
    simp
   simp only [ao,Nat.reduceEqDiff,Sn,Te,kH,f5,f14,bc,fD,tV,js jS gG,cQ,j7,hw]
   refine aR ⟨(k+1,acc++[(dec rest 0 0).1],rest.drop (dec rest 0 0).2.1),⟨f0,f2,f5,rfl,cb,by simp [aL],?_,?_,?_,?_,?_,h3,?_,uF eC _⟩,by simp only;omega⟩
   ·rw [nS (by omega)];exact ve
   ·rw [e4]
   ·exact (kk.trans' k2).trans (aa.set _ _ _) fun j aC ad=>by omega
   ·rw [kE];have:=k2.n;omega
   ·exact ck.au (aa.set _ _ _) (by omega)
   ·simp only [List.length_drop];omega
  ·have bc:((((dec rest 0 0).2.2:Nat):Int) !=0)=true:=by simp;omega
   rw [el cN] at h3
   have vf:(bu 5 bs []).2.2=(dec rest 0 0).2.2:=by rw [←h3]
   have dH:eB bs=(dec rest 0 0).2.2:=by
    rw [if_neg (by rw [vf];exact cN),vf] at jE
    rw [JD (by rw [jE];exact cN),jE]
   unfold eb at ve
   simp only [ao,Nat.reduceEqDiff,Nat.reduceAdd,mf,tq,o6,qw,f2,bc,ve,bd,Tryz.results110,B6,mF,jP,B5]
   refine aR ⟨_,_,wx _ _,oy,0,by rw [dH];rfl,?_,fun _=>rfl,fun ay=>absurd (dH ▸ ay) cN⟩
   exact (kk.trans' k2).trans (aa.set _ _ _) fun j aC ad=>by omega
 ·have d1:decide ((k:Int)<5)=false:=decide_eq_false (by omega)
  have Xu:k=5:=by omega
  subst Xu
  rw [Nat.sub_self,bu] at h3
  have jE:bu 9 bs []=bu 4 rest acc:=by rw [jE,←h3];rfl
  have jE:bu 9 bs []=if (bu 3 rest acc).2.2=0 then bu 1 (bu 3 rest acc).2.1 (bu 3 rest acc).1 else ([],[],(bu 3 rest acc).2.2):=by rw [jE];exact lw 1 3 rest acc
  rw [O7 3 rest acc] at jE
  match acc,aL with
  | [a,b,c,d,e],_=>
   have tV:h1.get (h.n+1)=.cells [.int .i64 (hr a:Nat),.int .i64 (hr b:Nat),.int .i64 (hr c:Nat),.int .i64 (hr d:Nat),.int .i64 (hr e:Nat)] 262 none:=c2
   clear c2
   simp only [ao,Nat.reduceEqDiff,reduceCtorEq,f0,f14,d1]
   refine cC afT (alD _ _ rest h1 h9 eC (by omega)) fun r ab ⟨a6,k2,ck⟩=>?_
   subst a6
   have ug:=(k2.get h.n (by omega) (by omega)).trans pa
   have k9:=(k2.get (h.n+1) (by omega) (by omega)).trans tV
   have mK:=kk.trans' k2
   have fw:h.n+2≤ab.n:=Nat.le_trans aJ k2.n
   generalize GP:bu 3 rest []=alF at jE ck
   obtain ⟨jM,eY,BA⟩:=alF
   simp only at jE ck
   have anE:∀ x:eP,(V.agg (dh x)).cells=some (dh x):=fun _=>rfl
   by_cases vg:BA=0
   rotate_left
   ·have bc:(((BA:Nat):Int) !=0)=true:=by simp;omega
    rw [if_neg vg,if_neg vg] at jE
    have dH:eB bs=BA:=by rw [JD (by rw [jE];exact vg),jE]
    have KZ:=ug
    unfold eb at KZ
    have GQ:rz (jM,eY,BA)=tz:=by rw [rz,if_neg vg]
    have Xv:∀ o,(ab.push o).get h.n=_:=fun o=>(jN (by omega)).trans KZ
    simp only [ao,Nat.reduceEqDiff,Nat.reduceAdd,mf,tq,o6,xR,qw,I2,f2,GQ,dh,tz,bc,Xv,bd,Tryz.results110,B6,mF,jP,B5]
    refine aR ⟨_,_,wx _ _,oy,0,by rw [dH];rfl,?_,fun _=>rfl,fun ay=>absurd (dH ▸ ay) vg⟩
    exact (mK.cB _).trans (aa.set _ _ _) fun j aC ad=>by omega
   subst vg
   have ck:=ck rfl
   have JE:jM.length=3:=by have:=alC (k:=3) (bs:=rest) (acc:=[]) (by rw [GP]);rw [GP] at this;simpa using this
   have q3:=Xi (k:=3) (bs:=rest) (acc:=[]) eC
   rw [GP] at q3
   simp only at q3
   rw [if_pos rfl] at jE
   simp only [if_true] at jE
   have GQ:rz (jM,eY,0)=Ah jM:=by rw [rz,if_pos rfl]
   obtain ⟨je,hb⟩:∃ y,y=ab.push (.cells (dh (Ah jM)) 37 none):=⟨_,rfl⟩
   have b2:aa ab je none_:=by rw [hb];exact aa.push _ _ _
   have s0:=(b2.get h.n (by omega) (by simp [none_])).trans ug
   have s1:=(b2.get (h.n+1) (by omega) (by simp [none_])).trans k9
   have s2:je.get ab.n=.cells [.int .i64 (Ah jM).k,.int .i64 (Ah jM).v,.int .i64 (Ah jM).t] 37 none:=by rw [hb];exact c4
   have n3:je.n=ab.n+1:=by rw [hb];rfl
   have qA:=mK.trans' (b2.up (o:=(·=i)))
   have hh:=ck.au b2 (by simp [none_])
   unfold dh at hb
   have z0:(((0:Nat):Int) !=0)=false:=rfl
   simp only [ao,Nat.reduceEqDiff,Nat.reduceAdd,reduceCtorEq,xR,I2,f0,GQ,dh,z0]
   rw [←hb]
   clear hb
   refine cC Cn (Cz _ _ eY je hh q3.1 (by omega)) fun r h4 ⟨hj,EM,gM⟩=>?_
   subst hj
   have t0:=(gM.get h.n (by omega) (by omega)).trans s0
   have t1:=(gM.get (h.n+1) (by omega) (by omega)).trans s1
   have t2:=(gM.get ab.n (by omega) (by omega)).trans s2
   have tB:=qA.trans' gM
   have n4:=gM.n
   by_cases yx:(dec eY 0 0).2.2=0
   rotate_left
   ·have bc:((((dec eY 0 0).2.2:Nat):Int) !=0)=true:=by simp;omega
    rw [el yx] at jE
    have dH:eB bs=(dec eY 0 0).2.2:=by rw [JD (by rw [jE];exact yx),jE]
    unfold eb at t0
    simp only [ao,Nat.reduceEqDiff,Nat.reduceAdd,mf,tq,o6,qw,f2,bc,t0,bd,Tryz.results110,B6,mF,jP,B5]
    refine aR ⟨_,_,wx _ _,oy,0,by rw [dH];rfl,?_,fun _=>rfl,fun ay=>absurd (dH ▸ ay) yx⟩
    exact tB.trans (aa.set _ _ _) fun j aC ad=>by omega
   have O9:((((dec eY 0 0).2.2:Nat):Int) !=0)=false:=by simp [yx]
   rw [wu yx,bu] at jE
   simp only [ao,Nat.reduceEqDiff,reduceCtorEq,f0,O9]
   have Xw:(bu 9 bs []).1=[a,b,c,d,e]++jM++[(dec eY 0 0).1]:=by rw [jE]
   have Xx:(bu 9 bs []).2.1=eY.drop (dec eY 0 0).2.1:=by rw [jE]
   have anF:(bu 9 bs []).2.2=0:=by rw [jE]
   have nc:kz bs=h2 (eY.drop (dec eY 0 0).2.1) 8:=by rw [kz,Xx]
   have lY:∀ b ∈ eY.drop (dec eY 0 0).2.1,b<256:=uF q3.1 _
   have ks:(eY.drop (dec eY 0 0).2.1).length≤2 ^ 47:=by simp only [List.length_drop];omega
   refine cC St (VF _ _ _ 8 h4 EM lY ks (.inr (by decide)) (by decide)) fun r h5 ⟨j5,Jq,jF⟩=>?_
   rw [←nc] at j5 Jq
   subst j5
   have GM:=(jF.get h.n (by omega) (by omega)).trans t0
   have FU:=(jF.get (h.n+1) (by omega) (by omega)).trans t1
   have zX:=(jF.get ab.n (by omega) (by omega)).trans t2
   have rU:=tB.trans' jF
   have alG:=jF.n
   by_cases GR:(kz bs).2.2=0
   rotate_left
   ·have bc:((((kz bs).2.2:Nat):Int) !=0)=true:=by simp;omega
    have dH:eB bs=(kz bs).2.2:=by unfold eB;rw [if_neg (by omega),if_pos GR]
    unfold eb at GM
    simp only [ao,Nat.reduceEqDiff,Nat.reduceAdd,mf,tq,o6,qw,f2,bc,GM,bd,Tryz.results110,B6,mF,jP,B5]
    refine aR ⟨_,_,wx _ _,oy,0,by rw [dH];rfl,?_,fun _=>rfl,fun ay=>absurd (dH ▸ ay) GR⟩
    exact rU.trans (aa.set _ _ _) fun j aC ad=>by omega
   have Pa:((((kz bs).2.2:Nat):Int) !=0)=false:=by simp [GR]
   simp only [ao,Nat.reduceEqDiff,reduceCtorEq,f0,Pa]
   have gb:eQ bs=h2 (kz bs).2.1 256:=rfl
   have kt:=alm (bs:=eY.drop (dec eY 0 0).2.1) 8 lY
   rw [←nc] at kt
   refine cC St (VF _ _ _ 256 h5 Jq kt.1 (by omega) (.inr (by decide)) (by decide)) fun r dT ⟨xJ,Eh,mN⟩=>?_
   rw [←gb] at xJ Eh
   subst xJ
   have v0:=(mN.get h.n (by omega) (by omega)).trans GM
   have v1:=(mN.get (h.n+1) (by omega) (by omega)).trans FU
   have v2:=(mN.get ab.n (by omega) (by omega)).trans zX
   have K0:=rU.trans' mN
   have n6:=mN.n
   by_cases GS:(eQ bs).2.2=0
   rotate_left
   ·have bc:((((eQ bs).2.2:Nat):Int) !=0)=true:=by simp;omega
    have dH:eB bs=(eQ bs).2.2:=by unfold eB;rw [if_neg (by omega),if_neg (by omega)]
    unfold eb at v0
    simp only [ao,Nat.reduceEqDiff,Nat.reduceAdd,mf,tq,o6,qw,f2,bc,v0,bd,Tryz.results110,B6,mF,jP,B5]
    refine aR ⟨_,_,wx _ _,oy,0,by rw [dH];rfl,?_,fun _=>rfl,fun ay=>absurd (dH ▸ ay) GS⟩
    exact K0.trans (aa.set _ _ _) fun j aC ad=>by omega
   have Pb:((((eQ bs).2.2:Nat):Int) !=0)=false:=by simp [GS]
   have dH:eB bs=0:=by unfold eB;rw [if_neg (by omega),if_neg (by omega),GS]
   unfold eb at v0
   have i0:((0:Int)<((5:Nat):Int))=True:=eq_true (by decide)
   have i1:((1:Int)<((5:Nat):Int))=True:=eq_true (by decide)
   have i2:((2:Int)<((5:Nat):Int))=True:=eq_true (by decide)
   have i3:((3:Int)<((5:Nat):Int))=True:=eq_true (by decide)
   have i4:((4:Int)<((5:Nat):Int))=True:=eq_true (by decide)
   simp only [ao,Int.reduceLE,Nat.reduceEqDiff,Nat.reduceAdd,Nat.reduceLeDiff,Nat.reduceMul,Sn,mf,bz,ux,tq,Te,o6,qw,f2,f5,Pb,v0,v1,v2,i0,i1,i2,i3,i4,Int.toNat_zero,Int.toNat_one,Int.reduceToNat,bd,Tryz.results110,B6,mF,jP,B5]
   refine aR ⟨_,_,aV.refl _ _,jK (bu 9 bs []).1 (kz bs).1 (eQ bs).1,(bu 9 bs []).1.getD 8 0,?_,?_,fun ay=>absurd dH ay,fun _=>⟨rfl,rfl,?_⟩⟩
   ·rw [dH,Xw]
    match jM,JE with
    | [c2,eE,jt],_=>
     have bB:((((dec eY 0 0).1:Nat):Int)==1)=((dec eY 0 0).1==1):=by rw [Bool.eq_iff_iff];simp;omega
     simp [jK,aY,Ah,bB]
   ·exact K0.trans (aa.set _ _ _) fun j aC ad=>by omega
   ·exact Eh.au (aa.set _ _ _) (by omega)
theorem alH {l:List Nat} {o r:List Int} (h:cy (jK l o r)=true):jK l o r=pU l o r:=by
 obtain ⟨hk,h1,ab,aI,h4,_⟩:=(nT _).1 h
 simp only [jK,rj] at hk h1 ab aI h4
 simp only [jK,pU,bk.mk.injEq,and_true]
 unfold hr at *
 omega
theorem Xy {l:List Nat} {o r:List Int} (h:cy (pU l o r)=true):jK l o r=pU l o r:=by
 obtain ⟨hk,h1,ab,aI,h4,_⟩:=(nT _).1 h
 simp only [pU,rj] at hk h1 ab aI h4
 simp only [jK,pU,bk.mk.injEq,and_true]
 unfold hr at *
 omega
theorem alI {l:List Nat} {o r:List Int}:cy (jK l o r)=cy (pU l o r):=by
 rw [Bool.eq_iff_iff]
 refine ⟨fun h=>?_,fun h=>?_⟩
 ·rw [←alH h];exact h
 ·rw [Xy h];exact h
theorem alJ {bs:List Nat} (ar:∀ b ∈ bs,b<256) (h:eB bs=0):(kz bs).1.length≤8∧(eQ bs).1.length≤256:=by
 have h1:(bu 9 bs []).2.2=0:=by
  unfold eB at h;split at h
  ·exact h
  ·omega
 have ab:(kz bs).2.2=0:=by
  unfold eB at h;rw [if_neg (by omega)] at h;split at h
  ·exact h
  ·omega
 have aI:(eQ bs).2.2=0:=by
  unfold eB at h;rw [if_neg (by omega),if_neg (by omega)] at h;exact h
 have kU:=(Xi (k:=9) (bs:=bs) (acc:=[]) ar).1
 have c2:h2 (bu 9 bs []).2.1 8=((kz bs).1,(kz bs).2.1,0):=by rw [←ab];rfl
 obtain ⟨_,a2,_,a4,_⟩:=Xh kU c2
 have eE:h2 (kz bs).2.1 256=((eQ bs).1,(eQ bs).2.1,0):=by rw [←aI];rfl
 obtain ⟨_,bx,_,_,_⟩:=Xh a4 eE
 omega
theorem alK (bs:List Nat):pV bs=if eB bs≠0 then (oy,eB bs)
  else if (eQ bs).2.1≠[]∨1<(bu 9 bs []).1.getD 8 0∨cy (jK (bu 9 bs []).1 (kz bs).1 (eQ bs).1)=false then (oy,5) else (jK (bu 9 bs []).1 (kz bs).1 (eQ bs).1,0):=by
 unfold pV
 by_cases h1:(bu 9 bs []).2.2≠0
 ·have:eB bs=(bu 9 bs []).2.2:=JD h1
  rw [if_pos h1,if_pos (by rw [this];exact h1),this]
 ·rw [if_neg h1]
  unfold wv
  change (if (kz bs).2.2≠0 then _ else if (eQ bs).2.2≠0 then _ else _)=_
  by_cases ab:(kz bs).2.2≠0
  ·have:eB bs=(kz bs).2.2:=by unfold eB;rw [if_neg h1,if_pos ab]
   rw [if_pos ab,if_pos (by rw [this];exact ab),this]
   all_goals rfl
  ·have dH:eB bs=(eQ bs).2.2:=by unfold eB;rw [if_neg h1,if_neg ab]
   rw [if_neg ab,dH]
   by_cases aI:(eQ bs).2.2≠0
   ·rw [if_pos aI,if_pos aI];rfl
   ·rw [if_neg aI,if_neg aI,alI]
    change (if (eQ bs).2.1≠[]∨1<(bu 9 bs []).1.getD 8 0∨cy (pU (bu 9 bs []).1 (kz bs).1 (eQ bs).1)=false then (oy,5) else (pU (bu 9 bs []).1 (kz bs).1 (eQ bs).1,0))=_
    by_cases h4:(eQ bs).2.1≠[]∨1<(bu 9 bs []).1.getD 8 0∨cy (pU (bu 9 bs []).1 (kz bs).1 (eQ bs).1)=false
    ·rw [if_pos h4,if_pos h4]
    ·rw [if_neg h4,if_neg h4,Xy]
     cases ad:cy (pU (bu 9 bs []).1 (kz bs).1 (eQ bs).1) with
     | true=>rfl
     | false=>exact absurd (.inr (.inr ad)) h4
theorem alL (s:V) (bs:List Nat) (h:I) (hu:qy h) (rd:Rd h s bs) (ar:∀ b ∈ bs,b<256) (al:bs.length≤2 ^ 47) :
  Pure Tryz.prog 70 [s] h (.tuple [.agg (aY (pV bs).1),.int .i64 ((pV bs).2:Nat)]):=by
 refine Pure.of (bb.tuple (aO.cons (bb.agg (aid _)) (aO.cons (bb.int _ _) aO.nil))) ?_
 refine ah.aH (c:=_) Tryz.func70 rfl (by kernel_rfl) (by simp) ?_
 simp only [ao,Nat.reduceEqDiff,reduceCtorEq,o6]
 obtain ⟨H,hH⟩:∃ y,y=h.push (.cells eb 140 none):=⟨_,rfl⟩
 have g0:H.get h.n=.cells eb 140 none:=by rw [hH];exact c4
 have c6:aa h H none_:=by rw [hH];exact aa.push _ _ _
 have o8:H.n=h.n+1:=by rw [hH];rfl
 unfold eb at hH g0
 rw [←hH]
 clear hH
 refine cC M4 (zK s bs H (rd.au c6) al) fun r h1 ⟨aK,cq,bj⟩=>?_
 subst aK
 have ug:=(bj.get h.n (by omega) (by simp [none_])).trans g0
 have Xz:=c6.trans' bj
 have gO:=cq.2.1
 simp only [ao,Nat.reduceEqDiff]
 refine cC afE (alE _ _ bs h1 cq ar al) fun r ab ⟨x,d,a6,k2,yR,fM⟩=>?_
 subst a6
 have pa:=(k2.get h.n (by omega) (by omega)).trans ug
 have mK:aa h ab none_:=Xz.trans k2 fun j aC ad=>by omega
 have fw:=k2.n
 have lZ:(V.agg (aY x)).cells=some (aY x):=rfl
 have bZ:ca (some 11) (aD.cells eb 140 none) 0 (aY x)=some (.cells (aY x) 140 none):=rfl
 have wj:∀ c:List V,c=eb→ca (some 11) (aD.cells c 140 none) 0 (aY x)=some (.cells (aY x) 140 none):=fun c al=>by rw [al];exact bZ
 have Aj:=wj _ rfl
 unfold eb at Aj
 have hy:(if 11≤(aY x).length then some (V.agg (List.take 11 (aY x))) else none)=some (.agg (aY x)):=rfl
 have yg:cW (aD.cells (aY x) 140 none) 0=some (aY x):=rfl
 rw [alK]
 obtain ⟨je,hb⟩:∃ y,y=ab.push (.cells (aY x) 140 none):=⟨_,rfl⟩
 have b2:aa ab je none_:=by rw [hb];exact aa.push _ _ _
 have s0:=(b2.get h.n (by omega) (by simp [none_])).trans pa
 have s2:je.get ab.n=.cells (aY x) 140 none:=by rw [hb];exact c4
 have qA:=mK.trans' b2
 simp only [ao,Nat.reduceEqDiff,o6,qw,lZ,Aj]
 by_cases he:eB bs=0
 rotate_left
 ·have bc:(((eB bs:Nat):Int) !=0)=true:=by simp;omega
  have af:=yR he
  subst af
  have XA:∀ o,(ab.push o).get h.n=_:=fun o=>(jN (by omega)).trans pa
  simp only [ao,Nat.reduceEqDiff,Nat.reduceAdd,mf,tq,o6,qw,bc,XA,bd,Tryz.results70,qi,mF,jP,qh]
  refine aR ⟨_,by rw [if_pos he];exact wx _ _,?_⟩
  exact (mK.cB _).trans (aa.set _ _ _) fun j aC ad=>by omega
 have bc:(((eB bs:Nat):Int) !=0)=false:=by simp [he]
 obtain ⟨fM,a7,ck⟩:=fM he
 rw [if_neg (by omega),←fM,←a7]
 have hh:=ck.au b2 (by simp [none_])
 have ol:=alJ ar he
 have oj:oA x:=by rw [fM];exact ⟨by simp only [jK];omega,by simp only [jK];omega⟩
 generalize (eQ bs).2.1=rest at hh
 simp only [ao,Nat.reduceEqDiff,bc]
 rw [←hb]
 clear hb
 refine cK SC (Left je _ _ rest hh) ?_
 have Fs:qy je:=by unfold qy;rw [qA.glob];exact hu
 have bB:(if rest≠[]∨1<d∨cy x=false then (oy,5) else (x,0))=if (!decide (rest=[]))||decide (1<d)||!cy x then (oy,5) else (x,0):=by simp [or_assoc]
 rw [bB]
 by_cases BB:rest=[]
 rotate_left
 ·have a7:decide ((0:Int)<((rest.length:Nat):Int))=true:=by
   have:=List.length_pos_iff.2 BB
   exact decide_eq_true (by omega)
  simp only [ao,Nat.reduceEqDiff,Nat.reduceAdd,mf,tq,o6,qw,s0,a7,bd,Tryz.results70,qi,mF,jP,qh]
  refine aR ⟨_,by simp only [BB,decide_false,Bool.not_false,Bool.true_or,if_true];exact wx _ _,?_⟩
  exact qA.trans (aa.set _ _ _) fun j aC ad=>by omega
 have K1:decide ((0:Int)<((rest.length:Nat):Int))=false:=by rw [BB];rfl
 by_cases jI:1<d
 ·have GU:decide ((1:Int)<((d:Nat):Int))=true:=decide_eq_true (by omega)
  simp only [ao,Nat.reduceEqDiff,Nat.reduceAdd,mf,tq,o6,qw,s0,K1,GU,bd,Tryz.results70,qi,mF,jP,qh]
  refine aR ⟨_,by simp only [jI,decide_true,Bool.or_true,Bool.true_or,if_true];exact wx _ _,?_⟩
  exact qA.trans (aa.set _ _ _) fun j aC ad=>by omega
 have GU:decide ((1:Int)<((d:Nat):Int))=false:=decide_eq_false (by omega)
 simp only [ao,Nat.reduceEqDiff,mf,s2,K1,GU,yg,hy]
 refine cK M8 (NR x je Fs oj) ?_
 cases hm:cy x
 ·simp only [ao,Nat.reduceEqDiff,Nat.reduceAdd,mf,tq,o6,qw,s0,bd,Tryz.results70,qi,mF,jP,qh]
  refine aR ⟨_,by simp only [Bool.not_false,Bool.or_true,if_true];exact wx _ _,?_⟩
  exact qA.trans (aa.set _ _ _) fun j aC ad=>by omega
 ·simp only [ao,Nat.reduceEqDiff,mf,qw,s0,s2,yg,hy,lZ,Aj,bd,Tryz.results70,qi,mF,jP,qh]
  refine aR ⟨_,by simp only [BB,jI,decide_true,decide_false,Bool.not_true,Bool.or_false,Bool.false_eq_true,if_false];exact aV.refl _ _,?_⟩
  exact qA.trans (aa.set _ _ _) fun j aC ad=>by omega
theorem XB:∀ rs:List dn,(dW rs).all (·.one)=true
 | []=>rfl
 | p::rs=>by
  show (dh p.1++dW rs).all (·.one)=true
  rw [List.all_append,XB rs]
  all_goals rfl
theorem XC:∀ rs:List dn,(eF rs).all (·.one)=true
 | []=>rfl
 | p::rs=>by
  show ((V.bool p.2).one&&(eF rs).all (·.one))=true
  rw [XC rs]
  all_goals rfl
theorem XD (h:I):iA Tryz.prog 22 0 [] h=some (.aj h.n 0 0 0,h.push (.cells [] 37 none)):=by rw [lN Fh];rfl
theorem XE (h:I):Acc h (h.push (.cells [] 37 none)) 37 3 (.aj h.n 0 0 0) (dW []) :=
 ⟨.inr ⟨h.n,0,0,[],none,rfl,Nat.lt_succ_self _,c4,rfl,rfl,.inl ⟨by simp [ai],Nat.le_refl _,Nat.le_refl _⟩⟩,aa.push _ _ _,fun k hk=>by simp [aA] at hk;omega⟩
theorem alM (l:List dn) (aw:l.length≤2 ^ 40) (h:I):Pure Tryz.prog 32 [.an l.length (dW l)] h (.an l.length (dW l)):=by
 refine Pure.of (bb.an (Un _)) ?_
 cases l with
 | nil=>
  refine ah.ou ?_ ?_
  ·refine ah.aH (c:=_) Tryz.func32 rfl (by kernel_rfl) (by simp) ?_
   have e:=Ia (xo:=.tmp 3) (yo:=.const (.slice none 0 0)) uw
   simp only [ao,Nat.reduceEqDiff,reduceCtorEq,e,bd,Tryz.results32,bT]
   exact aR ⟨h,aV.la h,aa.refl _ _⟩
  ·refine ah.aH (c:=_) Tryz.func32 rfl (by kernel_rfl) (by simp) ?_
   have e:∀ xo yo,cl Tryz.prog .eql 22 xo yo .gr .ag=some (.bool false):=fun xo yo=>H8 uw
   obtain ⟨v1,h1,aK,bC⟩:=Acc.oo (P:=Tryz.prog) (tx:=22) Fh (XE h) (by decide) (Ib uw) rfl (fun m hm=>by
    change m * 3=_ at hm
    obtain rfl:m=0:=by simp [dW] at hm;omega
    exact ⟨by decide,by decide⟩)
   have gx:=XD h
   simp only [ao,Nat.reduceEqDiff,reduceCtorEq,e,gx,aK,bd,Tryz.results32,bT]
   obtain ⟨ab,bx,k2⟩:=bC.cast (n:=0) rfl (by decide)
   exact aR ⟨ab,bx,k2⟩
 | cons x l=>
  refine ah.aH (c:=_) Tryz.func32 rfl (by kernel_rfl) (by simp) ?_
  have e:∀ xo yo,cl Tryz.prog .eql 22 xo yo (.an (x::l).length (dW (x::l))) .ag=some (.bool false):=fun xo yo=>H9 uw (by simp)
  obtain ⟨v1,h1,aK,bC⟩:=Acc.oo (P:=Tryz.prog) (tx:=22) Fh (XE h) (by decide) (yZ uw (zQ _) (XB (x::l))) (zQ _) (fun m hm=>by
   change m * 3=(dW []).length+(dW (x::l)).length at hm
   rw [zQ,zQ,List.length_nil] at hm
   exact ⟨by simp only [lim];omega,by simp only [lim];omega⟩)
  have gx:=XD h
  generalize (x::l)=q at e aK bC aw⊢
  simp only [ao,Nat.reduceEqDiff,reduceCtorEq,e,gx,aK,bd,Tryz.results32,bT]
  obtain ⟨ab,bx,k2⟩:=bC.cast (n:=q.length) (by rw [show dW []=[] from rfl,List.nil_append,zQ]) (by decide)
  exact aR ⟨ab,bx,k2⟩
theorem XF (h:I):iA Tryz.prog 34 0 [] h=some (.aj h.n 0 0 0,h.push (.cells [] 4 none)):=by rw [lN Cv];rfl
theorem XG (h:I):Acc h (h.push (.cells [] 4 none)) 4 1 (.aj h.n 0 0 0) (eF []) :=
 ⟨.inr ⟨h.n,0,0,[],none,rfl,Nat.lt_succ_self _,c4,rfl,rfl,.inl ⟨by simp [ai],Nat.le_refl _,Nat.le_refl _⟩⟩,aa.push _ _ _,fun k hk=>by simp [aA] at hk;omega⟩
theorem alN (l:List dn) (aw:l.length≤2 ^ 40) (h:I):Pure Tryz.prog 33 [.an l.length (eF l)] h (.an l.length (eF l)):=by
 refine Pure.of (bb.an (N7 _)) ?_
 cases l with
 | nil=>
  refine ah.ou ?_ ?_
  ·refine ah.aH (c:=_) Tryz.func33 rfl (by kernel_rfl) (by simp) ?_
   have e:=Ia (xo:=.tmp 3) (yo:=.const (.slice none 0 0)) xN
   simp only [ao,Nat.reduceEqDiff,reduceCtorEq,e,bd,Tryz.results33,bT]
   exact aR ⟨h,aV.la h,aa.refl _ _⟩
  ·refine ah.aH (c:=_) Tryz.func33 rfl (by kernel_rfl) (by simp) ?_
   have e:∀ xo yo,cl Tryz.prog .eql 34 xo yo .gr .ag=some (.bool false):=fun xo yo=>H8 xN
   obtain ⟨v1,h1,aK,bC⟩:=Acc.oo (P:=Tryz.prog) (tx:=34) Cv (XG h) (by decide) (Ib xN) rfl (fun m hm=>by
    change m * 1=_ at hm
    obtain rfl:m=0:=by simp [eF] at hm;omega
    exact ⟨by decide,by decide⟩)
   have gx:=XF h
   simp only [ao,Nat.reduceEqDiff,reduceCtorEq,e,gx,aK,bd,Tryz.results33,bT]
   obtain ⟨ab,bx,k2⟩:=bC.cast (n:=0) rfl (by decide)
   exact aR ⟨ab,bx,k2⟩
 | cons x l=>
  refine ah.aH (c:=_) Tryz.func33 rfl (by kernel_rfl) (by simp) ?_
  have e:∀ xo yo,cl Tryz.prog .eql 34 xo yo (.an (x::l).length (eF (x::l))) .ag=some (.bool false):=fun xo yo=>H9 xN (by simp)
  obtain ⟨v1,h1,aK,bC⟩:=Acc.oo (P:=Tryz.prog) (tx:=34) Cv (XG h) (by decide) (yZ xN (CG _) (XC (x::l))) (CG _) (fun m hm=>by
   change m * 1=(eF []).length+(eF (x::l)).length at hm
   rw [CG,CG,List.length_nil] at hm
   exact ⟨by simp only [lim];omega,by simp only [lim];omega⟩)
  have gx:=XF h
  generalize (x::l)=q at e aK bC aw⊢
  simp only [ao,Nat.reduceEqDiff,reduceCtorEq,e,gx,aK,bd,Tryz.results33,bT]
  obtain ⟨ab,bx,k2⟩:=bC.cast (n:=q.length) (by rw [show eF []=[] from rfl,List.nil_append,CG]) (by decide)
  exact aR ⟨ab,bx,k2⟩
theorem XH {l:List (Int×List dn)} {k:Nat} (hk:k<l.length) {kk:IntKind}:ik Tryz.prog 40 (.an l.length (l.flatMap b5)) (.int kk (k:Int))=some (.at (b5 l[k]++(l.drop (k+1)).flatMap b5)):=xt (enc:=b5) (sz:=3) CF hk ahA
theorem alO (x:Int×List dn) (r:List V):hI (some (some 3)) (some (b5 x++r))=some (.agg (b5 x)):=HV (CF x)
theorem alP (c:Int×List dn) (n:Int) (h:I) (i:Nat) (hi:i<h.n) (aE:h.get i=.cells [.int .i64 n] 3 none):Pure Tryz.prog 31 [.agg (b5 c),.ptr i 0] h (.bool (c.1==n)):=by
 refine Pure.val (bb.bool _) ?_
 refine ah.aH (c:=_) Tryz.func31 rfl (by kernel_rfl) (by simp) ?_
 have cc:(V.agg (b5 c)).cells=some (b5 c):=rfl
 have g0:(h.push (.cells (b5 c) 46 none)).get i=.cells [.int .i64 n] 3 none:=(jN hi).trans aE
 have d0:cW (aD.cells (b5 c) 46 none) 0=some (b5 c):=rfl
 have lj:hI (some none) (some (b5 c))=some (.int .i64 c.1):=rfl
 simp only [ao,Nat.reduceEqDiff,SQ,bz,cc,g0,d0,lj,bd,Tryz.results31,bT]
 exact aR ⟨rfl,aa.push _ _ _⟩
def nx {α:Type} (p:α→Bool) (l:List α):Int:=if l.findIdx p<l.length then (l.findIdx p:Int) else -1
theorem alQ {α:Type} {p:α→Bool} {l:List α} {j:Nat} (aC:j<l.length) (az:p l[j]=true) (h6:∀ k (hk:k<j),p (l[k]'(by omega))=false):nx p l=(j:Int):=by
 have e:l.findIdx p=j:=(List.findIdx_eq aC).2 ⟨az,fun k hk=>h6 k hk⟩
 unfold nx
 rw [e,if_pos aC]
theorem alR {α:Type} {p:α→Bool} {l:List α} (h6:∀ x ∈ l,p x=false):nx p l=-1:=by
 unfold nx
 rw [if_neg]
 rw [List.findIdx_lt_length]
 rintro ⟨x,af,h⟩
 rw [h6 x af] at h
 cases h
theorem Pc (l:List (Int×List dn)) (aw:l.length≤2 ^ 30) (n:Int) (h:I) (i:Nat) (hi:i<h.n) (aE:h.get i=.cells [.int .i64 n] 3 none) :
  Pure Tryz.prog 30 [.an l.length (l.flatMap b5),.func (.func 31) [] [.ptr i 0]] h (.int .i64 (nx (fun c=>c.1==n) l)):=by
 refine Pure.val (bb.int _ _) ?_
 refine ah.aH (c:=_) Tryz.func30 rfl (by kernel_rfl) (by simp) ?_
 simp only [ao,Int.reduceNeg,Nat.reduceEqDiff,reduceCtorEq,IV]
 refine aZ.cu (α:=Nat) (fun j f U=>f 0=.an l.length (l.flatMap b5)∧f 1=.func (.func 31) [] [.ptr i 0]∧f 7=.int .i64 ((l.length:Nat):Int)∧f 8=.int .i64 (j:Nat)∧j≤l.length∧U=h∧(∀ k (hk:k<l.length),k<j→(l[k].1==n)=false)) (fun j=>l.length - j) 0 ⟨rfl,rfl,rfl,rfl,Nat.zero_le _,rfl,fun k _ hk=>by omega⟩ ?_
 rintro j f h1 ⟨f0,f1,f7,f8,aC,rfl,dH⟩
 refine gn (by kernel_rfl) ?_
 by_cases aT:j<l.length
 ·have c5:decide ((j:Int)<((l.length:Nat):Int))=true:=by simp only [decide_eq_true_eq];omega
  have fM:=XH (kk:=.i64) aT
  have ld:=alO
  have bV:IntKind.i64.wrap (((j:Nat):Int)+1)=((j+1:Nat):Int):=by rw [Go.IntWalk.i64_in _ (by omega)];omega
  simp only [ao,Nat.reduceEqDiff,reduceCtorEq,y4,f0,f1,f7,f8,c5,fM,ld]
  refine cK agt (alP l[j] n h1 i hi aE) ?_
  cases hg:(l[j].1==n)
  ·simp only [ao,Int.reduceNeg,Nat.reduceEqDiff,f8,bV]
   exact aR ⟨j+1,⟨f0,f1,f7,rfl,by omega,rfl,fun k hk anG=>by
    by_cases e:k=j
    ·subst e;exact hg
    ·exact dH k hk (by omega)⟩,by omega⟩
  ·simp only [ao,Int.reduceNeg,Nat.reduceEqDiff,bd,Tryz.results30,bT]
   exact aR ⟨by rw [alQ aT hg (fun k hk=>dH k (by omega) hk)],aa.refl _ _⟩
 ·have c5:decide ((j:Int)<((l.length:Nat):Int))=false:=by simp only [decide_eq_false_iff_not];omega
  simp only [ao,Int.reduceNeg,Nat.reduceEqDiff,f7,f8,c5,bd,Tryz.results30,bT]
  exact aR ⟨by rw [alR fun x af=>by obtain ⟨k,hk,rfl⟩:=List.getElem_of_mem af;exact dH k hk (by omega)],aa.refl _ _⟩
def logAt (l:List (Int×List dn)) (n:Int):List dn:=((l.find? fun c=>c.1==n).map (·.2)).getD []
theorem alS {α:Type} {p:α→Bool} {l:List α}:(nx p l=-1∧l.find? p=none)∨∃ k,∃ hk:k<l.length,nx p l=(k:Int)∧l.find? p=some l[k]:=by
 by_cases h:l.findIdx p<l.length
 ·refine .inr ⟨_,h,by unfold nx;rw [if_pos h],?_⟩
  rw [List.find?_eq_some_iff_getElem]
  exact ⟨List.findIdx_getElem,_,h,rfl,fun j aC=>by have:=List.not_of_lt_findIdx aC;simpa using this⟩
 ·refine .inl ⟨by unfold nx;rw [if_neg h],?_⟩
  rw [List.findIdx_lt_length] at h
  rw [List.find?_eq_none]
  exact fun x af ad=>h ⟨x,af,ad⟩
def GV (t:FG):Prop:=t.logs.length≤2 ^ 30∧t.tasks.length≤2 ^ 30∧(∀ p ∈ t.logs,p.2.length≤2 ^ 30)∧∀ x ∈ t.tasks,x.bA.length≤2 ^ 30∧x.ord.length≤2 ^ 40
theorem alT (t:FG) (bM:GV t) (n:Int) (h:I):Pure Tryz.prog 13 [.agg (ig t),.int .i64 n] h (.agg (b5 (n,logAt t.logs n))):=by
 refine Pure.of (bb.agg (N8 _)) ?_
 refine ah.aH (c:=_) Tryz.func13 rfl (by kernel_rfl) (by simp) ?_
 have JF:(V.agg (ig t)).cells=some (ig t):=rfl
 obtain ⟨H,hH⟩:∃ y,y=(((h.push (.cells (ig t) 43 none)).push (.cells [.int .i64 n] 3 none)).push (.cells [.int .i64 0,.ag,.ag] 46 none)).push (.cells [.int .i64 n,.ag,.ag] 46 none):=⟨_,rfl⟩
 have c6:aa h H none_:=by rw [hH];exact (((aa.push _ _ _).trans' (aa.push _ _ _)).trans' (aa.push _ _ _)).trans' (aa.push _ _ _)
 have o8:H.n=h.n+4:=by rw [hH];simp only [fR]
 have g0:H.get h.n=.cells (ig t) 43 none:=by rw [hH,jN (by simp only [fR];omega),jN (by simp only [fR];omega),jN (by simp only [fR];omega)];exact c4
 have g1:H.get (h.n+1)=.cells [.int .i64 n] 3 none:=by rw [hH];simp [I.push]
 have g2:H.get (h.n+2)=.cells [.int .i64 0,.ag,.ag] 46 none:=by rw [hH];simp [I.push]
 have g3:H.get (h.n+3)=.cells [.int .i64 n,.ag,.ag] 46 none:=by rw [hH];simp [I.push]
 have st:ca (some 3) (aD.cells [V.int .i64 0,.ag,.ag] 46 none) 0 [.int .i64 n,.ag,.ag]=some (.cells [.int .i64 n,.ag,.ag] 46 none):=rfl
 have d0:cW (aD.cells (ig t) 43 none) 0=some (ig t):=rfl
 have lj:hI (some none) (some (ig t))=some (.an t.logs.length (t.logs.flatMap b5)):=rfl
 simp only [ao,Nat.reduceEqDiff,Nat.reduceAdd,Nat.reduceLeDiff,Nd,bz,Nr,S2,Tl,NC,JF,st]
 rw [←hH]
 clear hH
 simp only [ao,Nat.reduceEqDiff,lj]
 refine cK ags (Pc t.logs bM.1 n H (h.n+1) (by omega) g1) ?_
 rcases alS (p:=fun c:Int×List dn=>c.1==n) (l:=t.logs) with ⟨aK,a6⟩ | ⟨k,hk,aK,a6⟩
 ·have Pd:logAt t.logs n=[]:=by unfold logAt;rw [a6];rfl
  have bf:decide (-1 ≥ (0:Int))=false:=rfl
  rw [Pd]
  have st2:ca (some 3) (aD.cells [V.int .i64 0,.ag,.ag] 46 none) 0 [.int .i64 n,.ag,.ag]=some (.cells [.int .i64 n,.ag,.ag] 46 none):=rfl
  simp only [ao,Int.reduceLE,Int.reduceNeg,Nat.reduceEqDiff,Nat.reduceAdd,y4,NC,aK,g3,g2,st2,bd,Tryz.results13,xm,jP]
  refine aR ⟨_,wm (aS.cons (aV.refl _ _) (aS.cons (aV.s4 _) (aS.cons (aV.s4 _) (aS.refl _ _)))),c6.trans (aa.set _ _ _) fun q ae ad=>by omega⟩
 ·have Pd:logAt t.logs n=t.logs[k].2:=by unfold logAt;rw [a6];rfl
  have ew:=bM.2.2.1 _ (List.getElem_mem hk)
  have hll:=bM.1
  have fM:=XH (kk:=.i64) hk
  rw [Pd]
  generalize t.logs[k]=c at *
  obtain ⟨r5,rs⟩:=c
  have jG:rs.length≤2 ^ 30:=ew
  have ex:b5 (r5,rs)=[.int .i64 r5,.an rs.length (dW rs),.an rs.length (eF rs)]:=rfl
  rw [ex] at fM
  have bf:decide ((k:Int) ≥ 0)=true:=decide_eq_true (by omega)
  have tG:ca (some 1) (aD.cells [V.int .i64 n,.ag,.ag] 46 none) 1 [.an rs.length (dW rs)]=some (.cells [.int .i64 n,.an rs.length (dW rs),.ag] 46 none):=rfl
  have tH:ca (some 1) (aD.cells [V.int .i64 n,.an rs.length (dW rs),.ag] 46 none) 2 [.an rs.length (eF rs)]=some (.cells [.int .i64 n,.an rs.length (dW rs),.an rs.length (eF rs)] 46 none):=rfl
  simp only [ao,Nat.reduceEqDiff,Nat.reduceLeDiff,Nd,IM,Nq,Nr,aK,bf,g0,d0,lj,fM]
  refine cK agu (alM rs (by omega) _) ?_
  obtain ⟨cA,eU⟩:∃ y,y=H.set (h.n+3) (.cells [.int .i64 n,.an rs.length (dW rs),.ag] 46 none):=⟨_,rfl⟩
  have k2:aa H cA (·=h.n+3):=by rw [eU];exact aa.set _ _ _
  have XI:=(k2.get h.n (by omega) (by omega)).trans g0
  have g22:=(k2.get (h.n+2) (by omega) (by omega)).trans g2
  have XJ:cA.get (h.n+3)=.cells [.int .i64 n,.an rs.length (dW rs),.ag] 46 none:=by rw [eU];exact e4
  simp only [ao,Nat.reduceEqDiff,Nd,IM,Nr,NA,g3,tG]
  rw [←eU]
  clear eU
  simp only [ao,Nat.reduceEqDiff,Nat.reduceLeDiff,IP,Fc,XI,d0,lj,fM]
  refine cK agv (alN rs (by omega) _) ?_
  have b2:∀ o,aa cA (cA.set (h.n+3) o) (·=h.n+3):=fun o=>aa.set _ _ _
  have g23:∀ o,(cA.set (h.n+3) o).get (h.n+2)=.cells [.int .i64 0,.ag,.ag] 46 none:=fun o=>((b2 o).get (h.n+2) (by have:=k2.n;omega) (by omega)).trans g22
  have XK:ca (some 3) (aD.cells [V.int .i64 0,.ag,.ag] 46 none) 0 [.int .i64 n,.an rs.length (dW rs),.an rs.length (eF rs)]=some (.cells [.int .i64 n,.an rs.length (dW rs),.an rs.length (eF rs)] 46 none):=rfl
  simp only [ao,Nat.reduceEqDiff,Nat.reduceAdd,IP,y4,NB,NC,XJ,tH,g23,XK,bd,Tryz.results13,xm,jP]
  refine aR ⟨_,aV.refl _ _,((c6.trans k2 fun q ae ad=>by omega).trans (b2 _) fun q ae ad=>by omega).trans (aa.set _ _ _) fun q ae ad=>by omega⟩
end Go.Proofs.YtceanabgcnieeaaGreatDoor.Pk
