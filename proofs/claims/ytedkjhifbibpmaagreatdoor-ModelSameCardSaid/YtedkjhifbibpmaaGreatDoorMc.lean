/-
  What functions of the program do, told of abstract states. Conditions: as each theorem says.
-/
import Derived.Test.YtedkjhifbibpmaaGreatDoorMb
import Derived.Test.YtedkjhifbibpmaaGreatDoorMa
import Derived.Test.YtedkjhifbibpmaaGreatDoorAbD
set_option linter.unusedVariables false
set_option linter.unusedSimpArgs false
set_option maxHeartbeats 2000000
set_option maxRecDepth 20000
namespace Go.Proofs.YtedkjhifbibpmaaGreatDoor.Pk
open Go Go.Proofs Go.Proofs.YtedkjhifbibpmaaGreatDoor.Ab
def uS (l:List cF) (k:Int):ai:=if has l k then ⟨k,0,0,0,true⟩ else ID
def qY (l:List cF) (k:Int):Int:=if has l k then 0 else 6
theorem aeX (h:J) (i:Nat) (v:V) (room key:Int) (l:List cF) (k:dD h i v room l) :
  ab Tryz.prog 298 [.ptr i 0,.int .i64 key] h (fun r h'=>∃ v',r=.tuple [.agg (aw (uS l key)),.int .i64 (qY l key)]∧dD h' i v' room (rm l key)∧I h h' (qu i v)∧bQ h v v'):=by
 refine ab.ao (c:=_) Tryz.func298 rfl (by kernel_rfl) (by simp) ?_
 obtain ⟨H,hH⟩:∃ y,y=h.push (.cells [.int .i64 0,.int .i64 0,.int .i64 0,.int .i64 0,.bool false] 40 none):=⟨_,rfl⟩
 have g0:H.get h.n=.cells [.int .i64 0,.int .i64 0,.int .i64 0,.int .i64 0,.bool false] 40 none:=by rw [hH];exact b6
 have bq:I h H none_:=by rw [hH];exact I.push _ _ _
 have h9:H.n=h.n+1:=by rw [hH];rfl
 have kk:=k.aQ bq
 have aB:=kk.get
 have bS:=k.lt
 simp only [aa,Nat.reduceEqDiff,reduceCtorEq,ks]
 rw [←hH]
 clear hH
 refine bB MF (Np H i v room key l kk) ?_
 rcases gb k.gu key with ⟨ar,p,aT,cg,h8⟩ | ⟨ar,aT,cg⟩
 rotate_left
 ·have bd:uS l key=ID:=by simp [uS,ar]
  have bH:qY l key=6:=by simp [qY,ar]
  rw [bd,bH,aeP k.gu key ar]
  simp only [aa,Nat.reduceEqDiff,Nat.reduceAdd,j0,tU,ks,mz,ar,g0,aI,Tryz.results298,fW,fJ,eI,fV]
  have p9:I H (H.set h.n (.cells [.int .i64 0,.int .i64 0,.int .i64 0,.int .i64 0,.bool false] 40 none)) (fun q=>q=h.n):=I.set _ _ _
  refine au ⟨v,rfl,kk.aj p9 (by omega) fun q af=>by have:=k.own.lt q af;omega,?_,.inl rfl⟩
  exact (bq.up (o:=qu i v)).trans p9 fun q af U=>by omega
 have bd:uS l key=⟨key,0,0,0,true⟩:=by simp [uS,ar]
 have bH:qY l key=0:=by simp [qY,ar]
 rw [bd,bH]
 have aH:=(List.getElem?_eq_some_iff.1 aT).1
 have hw:=kf aH (by have:=k.sS;omega)
 simp only [aa,Nat.reduceEqDiff,Nat.reduceAdd,Nat.reduceLeDiff,reduceCtorEq,sb,tT,ar,aB,hw]
 have As:=Aq l key
 refine bU ade (Fd v (pos l key) (l.flatMap eD) H kk.own (by rw [k.rows];have:=k.sS;omega) (by rw [k.rows];omega) (HV Nn l)) fun r aA ⟨gJ,k3,d3⟩=>?_
 have kB:(l.flatMap eD).take (pos l key * 2)++(l.flatMap eD).drop ((pos l key+1) * 2)=(rm l key).flatMap eD:=by
  rw [yf uQ,wx uQ,Nk k.gu key ar];simp
 rw [kB] at gJ
 have qv:=(k3.get i (by omega) (fun U=>k.ne U)).trans aB
 have Fy:=(k3.get h.n (by omega) (fun U=>by have:=k.own.lt _ U;omega)).trans g0
 have gL:r.one=true:=by
  rcases gJ with ⟨rfl | rfl,_⟩ | ⟨_,_,_,_,_,rfl,_⟩<;>rfl
 have fm:r.cells=some [r]:=by
  rcases gJ with ⟨rfl | rfl,_⟩ | ⟨_,_,_,_,_,rfl,_⟩<;>rfl
 have cK:bM (some 1) (aV.cells [V.int .i64 room,v] 269 none) 1 [r]=some (.cells [.int .i64 room,r] 269 none):=by rw [sZ gL];rfl
 have n3:=k3.n
 have z0:(aA.set i (.cells [V.int .i64 room,r] 269 none)).get h.n=_:=(jF (by omega)).trans Fy
 simp only [aa,Nat.reduceEqDiff,Nat.reduceAdd,Nat.reduceLeDiff,sb,j0,tU,ks,Tq,mz,qv,fm,cK,z0,aI,Tryz.results298,fW,fJ,eI,fV]
 have jJ:aR r≠some i:=fun U=>by
  rcases d3 with d3 | d3
  ·rw [d3] at U;exact k.ne U
  ·have:=d3 i U;omega
 have pc:∀ q,aR r=some q→q≠h.n:=fun q af U=>by
  rcases d3 with d3 | d3
  ·rw [d3] at af;have:=k.own.lt q af;omega
  ·have:=d3 q af;omega
 have bY:I aA (aA.set i (.cells [V.int .i64 room,r] 269 none)) (fun q=>q=i):=I.set _ _ _
 have p9:I (aA.set i (.cells [V.int .i64 room,r] 269 none)) ((aA.set i (.cells [V.int .i64 room,r] 269 none)).set h.n (.cells [.int .i64 key,.int .i64 0,.int .i64 0,.int .i64 0,.bool true] 40 none)) (fun q=>q=h.n):=I.set _ _ _
 refine au ⟨r,rfl,⟨by rw [iw,iw];omega,?_,(gJ.aj bY fun q af U=>jJ (by rw [af,U])).aj p9 fun q af=>pc q af,jJ,Fv k.gu _,?_,k.room⟩,?_,?_⟩
 ·rw [jF (by omega),aL]
 ·have:=aeO k.gu key ar;have:=k.len;omega
 ·exact (((bq.up (o:=qu i v)).trans k3 fun q af U=>.inr U).trans bY fun q af U=>.inl U).trans p9 fun q af U=>by omega
 ·rcases d3 with d3 | d3
  ·exact .inl d3
  ·exact .inr fun q af=>by have:=d3 q af;omega
theorem Ut (h:J) (i:Nat) (v:V) (room key:Int) (l:List cF) (k:dD h i v room l) :
  Pure Tryz.prog 116 [.ptr i 0,.int .i64 key] h (.tuple [.int .i64 ((look l key).getD 0),.bool (has l key)]):=by
 refine ab.ao (c:=_) Tryz.func116 rfl (by kernel_rfl) (by simp) ?_
 have aB:=k.get
 simp only [aa,Nat.reduceEqDiff,reduceCtorEq]
 refine bB MF (Np h i v room key l k) ?_
 rcases gb k.gu key with ⟨ar,p,aT,cg,h8⟩ | ⟨ar,aT,cg⟩
 ·obtain ⟨j,iN,cA,bR,_,_,_,dn,_⟩:=k.row aT
  have bR:=bR .i64
  simp only [aa,Nat.reduceEqDiff,Nat.reduceAdd,Nat.reduceLeDiff,reduceCtorEq,sb,Tf,br,tT,ar,aB,bR,dn,aI,Tryz.results116,cW]
  exact au ⟨by rw [h8,ar];rfl,rfl⟩
 ·simp only [aa,Nat.reduceEqDiff,ar,aI,Tryz.results116,cW]
  exact au ⟨by rw [aT,ar];rfl,rfl⟩
def Zn (p:cF):ai:=⟨p.1,0,0,p.2,false⟩
def QC (l:List cF):List ai:=l.map Zn
theorem Uu (h:J) (c:ai):lk Tryz.prog 35 1 [(0,.agg (aw c))] h=some (.bp h.n 0 1 1,h.push (.cells (aw c) 40 none)):=JO xS rfl rfl (by decide)
theorem as9 (h:J) (i:Nat) (v:V) (room:Int) (l:List cF) (k:dD h i v room l):Pure Tryz.prog 297 [.ptr i 0] h (.ag (QC l).length ((QC l).flatMap aw)):=by
 refine Pure.acc (Et wI _) (iS ix _) (by decide) (e:=40) (sz:=5) ?_
 refine ab.ao (c:=_) Tryz.func297 rfl (by kernel_rfl) (by simp) ?_
 have aB:=k.get
 have aM:=k.og (h':=h)
 have Fz:=k.sS
 simp only [aa,Nat.reduceEqDiff,Nat.reduceAdd,Nat.reduceLeDiff,reduceCtorEq,sb,Kt,tT,aB,aM]
 refine aP.bG (α:=Nat×V) (fun x f h'=>f 3=x.2∧f 11=v∧f 12=.int .i64 (l.length:Nat)∧f 13=.int .i64 (x.1:Nat)∧x.1≤l.length∧Acc h h' 40 5 x.2 ((QC (l.take x.1)).flatMap aw)) (fun x=>l.length - x.1) (0,.ah)
  ⟨rfl,rfl,rfl,rfl,Nat.zero_le _,Acc.nil (I.refl _ _)⟩ ?_
 rintro ⟨t,s⟩ f h1 ⟨f3,f11,f12,f13,bw,acc⟩
 simp only at f3 f13 bw acc
 refine dw (by kernel_rfl) ?_
 by_cases aH:t<l.length
 ·have d1:decide ((t:Int)<((l.length:Nat):Int))=true:=decide_eq_true (by omega)
  have hw:=kf aH (by omega)
  have bo:=k.aQ acc.aj
  obtain ⟨j,iN,cA,bR,uR,tV,dn,_,_⟩:=bo.row (List.getElem?_eq_getElem aH)
  have bR:=bR .i64
  have ib:∀ (a b:Int) (q:List V),cX (some (some 2)) (some (V.int .i64 a::V.int .i64 b::q))=some (.agg (eD (a,b))):=fun a b q=>rfl
  have Ap:∀ p:cF,(V.agg (eD p)).cells=some (eD p):=fun _=>rfl
  have ld:∀ p:cF,(if 2≤(eD p).length then some (V.agg (List.take 2 (eD p))) else none)=some (.agg (eD p)):=fun _=>rfl
  have st:∀ p:cF,bM (some 2) (aV.cells [V.int .i64 0,V.int .i64 0] 297 none) 0 (eD p)=some (.cells (eD p) 297 none):=fun _=>rfl
  have Nq:=acc.on (I.push h1 (.cells (eD (l[t].1,l[t].2)) 297 none) none_)
  obtain ⟨b7,ae,ei,a2⟩:=Nq.ze xS (by decide) (xs:=aw (Zn l[t])) rfl rfl (fun m hm=>by
   change m * 5=_+5 at hm
   rw [iS ix] at hm
   simp only [QC,List.length_map,List.length_take] at hm
   exact ⟨by simp only [lim];omega,by simp only [lim];omega⟩)
  simp only [aa,Nat.reduceEqDiff,Ku,Zm,QA,f3,f11,f12,f13,d1,bR,dn,ib,Ap,st,ld]
  refine bB Qz (QB (l[t].1,l[t].2) _) ?_
  have dR:=Uu (h1.push (.cells (eD (l[t].1,l[t].2)) 297 none)) (Zn l[t])
  unfold Zn at dR ei
  rw [eA] at ei
  simp only [aa,Nat.reduceEqDiff,f13,dR,ei,hw]
  refine au ⟨(t+1,b7),⟨rfl,f11,f12,rfl,aH,a2.conv ?_⟩,by simp only;omega⟩
  rw [List.take_succ_eq_append_getElem aH,QC,QC,List.map_append,List.flatMap_append]
  simp
 ·have d1:decide ((t:Int)<((l.length:Nat):Int))=false:=decide_eq_false (by omega)
  rw [List.take_of_length_le (by omega)] at acc
  simp only [aa,Nat.reduceEqDiff,f3,f12,f13,d1,aI,Tryz.results297,ac]
  exact au acc
def j3 (c:ai):Bool:=c.ay !=0||c.to !=0||(c.del&&c.val !=0)
def qw (room:Int) (l:List cF) (c:ai):List cF:=if j3 c then l else if c.del then rm l c.key else h4 room l c.key c.val
def uT (room:Int) (l:List cF) (c:ai):Int:=if j3 c then 5 else if c.del then qY l c.key else kF room l c.key
theorem bQ.later {h H:J} {v v':V} (d:bQ H v v') (aG:h.n≤H.n):bQ h v v':=by
 rcases d with d | d
 ·exact .inl d
 ·exact .inr fun q af=>Nat.le_trans aG (d q af)
theorem Nr (h:J) (i:Nat) (v:V) (room:Int) (c:ai) (l:List cF) (k:dD h i v room l) :
  ab Tryz.prog 295 [.ptr i 0,.agg (aw c)] h (fun r h'=>∃ v',r=.int .i64 (uT room l c)∧dD h' i v' room (qw room l c)∧I h h' (qu i v)∧bQ h v v'):=by
 refine ab.ao (c:=_) Tryz.func295 rfl (by kernel_rfl) (by simp) ?_
 obtain ⟨fB,cf,ju,gT,mY⟩:=c
 have fj:(V.agg (aw ⟨fB,cf,ju,gT,mY⟩)).cells=some [.int .i64 fB,.int .i64 cf,.int .i64 ju,.int .i64 gT,.bool mY]:=rfl
 have bq:I h (h.push (.cells [.int .i64 fB,.int .i64 cf,.int .i64 ju,.int .i64 gT,.bool mY] 40 none)) none_:=I.push _ _ _
 have kk:=k.aQ bq
 have aG:h.n≤(h.push (.cells [.int .i64 fB,.int .i64 cf,.int .i64 ju,.int .i64 gT,.bool mY] 40 none)).n:=bq.n
 have Au:j3 ⟨fB,cf,ju,gT,mY⟩=true→∃ v',(V.int .i64 5)=.int .i64 (uT room l ⟨fB,cf,ju,gT,mY⟩)∧dD (h.push (.cells [.int .i64 fB,.int .i64 cf,.int .i64 ju,.int .i64 gT,.bool mY] 40 none)) i v' room (qw room l ⟨fB,cf,ju,gT,mY⟩)∧I h (h.push (.cells [.int .i64 fB,.int .i64 cf,.int .i64 ju,.int .i64 gT,.bool mY] 40 none)) (qu i v)∧bQ h v v':=fun av=>
  ⟨v,by rw [uT,av];rfl,by rw [qw,av];exact kk,bq.up,.inl rfl⟩
 cases aC:(cf !=0)
 rotate_left
 ·simp only [aa,Nat.reduceEqDiff,Nat.reduceAdd,Nat.reduceLeDiff,mw,br,fj,aC,aI,Tryz.results295,ac]
  exact au (Au (by simp [j3,aC]))
 cases bw:(ju !=0)
 rotate_left
 ·simp only [aa,Nat.reduceEqDiff,Nat.reduceAdd,Nat.reduceLeDiff,mw,rB,br,fj,aC,bw,aI,Tryz.results295,ac]
  exact au (Au (by simp [j3,aC,bw]))
 cases mY
 ·have av:j3 ⟨fB,cf,ju,gT,false⟩=false:=by simp [j3,aC,bw]
  simp only [aa,Nat.reduceEqDiff,Nat.reduceAdd,Nat.reduceLeDiff,reduceCtorEq,CR,mw,rB,xb,vN,br,nc,fj,aC,bw]
  refine bU SJ (Us _ i v room fB gT l kk) fun r ae ⟨v',aT,k2,bO,d2⟩=>?_
  subst aT
  simp only [aa,Nat.reduceEqDiff,aI,Tryz.results295,ac]
  refine au ⟨v',by rw [uT,av];rfl,by rw [qw,av];exact k2,(bq.up).trans' bO,bQ.later d2 aG⟩
 cases aN:(gT !=0)
 rotate_left
 ·simp only [aa,Nat.reduceEqDiff,Nat.reduceAdd,Nat.reduceLeDiff,mw,rB,xb,vN,br,nc,fj,aC,bw,aN,aI,Tryz.results295,ac]
  exact au (Au (by simp [j3,aC,bw,aN]))
 have av:j3 ⟨fB,cf,ju,gT,true⟩=false:=by simp [j3,aC,bw,aN]
 simp only [aa,Nat.reduceEqDiff,Nat.reduceAdd,Nat.reduceLeDiff,reduceCtorEq,CR,mw,rB,xb,vN,br,nc,fj,aC,bw,aN]
 refine bU adb (aeX _ i v room fB l kk) fun r ae ⟨v',aT,k2,bO,d2⟩=>?_
 subst aT
 simp only [aa,Nat.reduceEqDiff,aI,Tryz.results295,ac]
 refine au ⟨v',by rw [uT,av];rfl,by rw [qw,av];exact k2,(bq.up).trans' bO,bQ.later d2 aG⟩
theorem aeY (h:J) (room:Int) (h1:1≤room) (ae:room≤1024):ab Tryz.prog 106 [.int .i64 room] h (fun r h'=>r=.tuple [.ptr h.n 0,.int .i64 0]∧dD h' h.n .ah room []∧I h h' none_):=by
 refine ab.ao (c:=_) Tryz.func106 rfl (by kernel_rfl) (by simp) ?_
 have d1:decide (room<1)=false:=decide_eq_false (by omega)
 have d2:decide (1024<room)=false:=decide_eq_false (by omega)
 simp only [aa,Nat.reduceEqDiff,Nat.reduceAdd,Nat.reduceLeDiff,reduceCtorEq,adI,adX,d1,d2,aI,Tryz.results106,cW]
 exact au ⟨rfl,⟨by rw [eA];omega,b6,.inl ⟨.inl rfl,rfl⟩,by simp [aR],List.Pairwise.nil,by simp;omega,ae⟩,I.push _ _ _⟩
structure Rec where
 k:Int
 v:Int
 t:Int
 deriving DecidableEq
def aD (r:Rec):List V:=[.int .i64 r.k,.int .i64 r.v,.int .i64 r.t]
theorem CJ (r:Rec):(aD r).length=3:=rfl
theorem Uv (r:Rec):bl (aD r):=bl.cons (bh.int _ _) (bl.cons (bh.int _ _) (bl.cons (bh.int _ _) bl.nil))
structure bu where
 kind:Int
 aS:List Int
 e:bF
 n:Int
def al (v:bu):List V:=[.int .i64 v.kind,.ag v.aS.length (aO v.aS)]++aq v.e++[.int .i64 v.n]
theorem hF (v:bu):(al v).length=6:=by simp [al,na]
theorem aeZ (v:bu):bl (al v) :=
 ((bl.cons (bh.int _ _) (bl.cons (bh.ag (G6 _)) bl.nil)).append (MS v.e)).append (bl.cons (bh.int _ _) bl.nil)
structure C0 (h:J) (a:Nat) (i:Nat) (v:V) (e:bF) (n:Int) (l:List cF):Prop where
 lt:a<h.n
 get:h.get a=.cells (aq e++[.int .i64 n,.iface 194 (.ptr i 0)]) 124 none
 kv:dD h i v 1024 l
 ne:a≠i
 alX:aR v≠some a
theorem ae0 (x:bu) (ak:x.kind=6) (h:J):ab Tryz.prog 54 [.agg (al x)] h (fun r h'=>∃ i,r=.tuple [.iface 194 (.ptr i 0),.int .i64 0]∧h.n≤i∧dD h' i .ah 1024 []∧I h h' none_):=by
 refine ab.ao (c:=_) Tryz.func54 rfl (by kernel_rfl) (by simp) ?_
 obtain ⟨cB,ay,⟨o,m,ax⟩,n⟩:=x
 have ak:cB=6:=ak
 subst ak
 have ak:al ⟨6,ay,.mk o m ax,n⟩=[.int .i64 6,.ag ay.length (aO ay),.int .i64 o,.int .i64 m,.ag ax.length (ax.flatMap aq),.int .i64 n]:=by simp [al,hT]
 rw [ak]
 have hk:I h (h.push (.cells [.int .i64 6,.ag ay.length (aO ay),.int .i64 o,.int .i64 m,.ag ax.length (ax.flatMap aq),.int .i64 n] 29 none)) none_:=I.push _ _ _
 simp only [aa,Nat.reduceEqDiff,Nat.reduceAdd,fL,a7]
 refine bU acw (aeY _ 1024 (by decide) (by decide)) fun r h1 ⟨ar,bo,gA⟩=>?_
 subst ar
 simp only [aa,Nat.reduceEqDiff,ads,aI,Tryz.results54,cW]
 exact au ⟨_,rfl,by omega,bo,hk.trans' gA⟩
mutual
theorem Ns:(e:bF)→∀ b ∈ cj e,b<256
 | .mk o n l=>fun b av=>by
  rw [cj] at av
  simp only [List.mem_append] at av
  rcases av with (av | av) | av
  ·exact ip _ _ (Nat.le_refl _) b av
  ·split at av
   ·exact ip _ _ (Nat.le_refl _) b av
   ·cases av
  ·exact Uw l b av
theorem Uw:(l:List bF)→∀ b ∈ yD l,b<256
 | []=>fun b av=>by rw [yD] at av;cases av
 | k::r=>fun b av=>by
  rw [yD] at av
  rcases List.mem_append.1 av with av | av
  ·exact Ns k b av
  ·exact Uw r b av
end
theorem Av (i:Nat):gZ Tryz.prog (.iface 194 (.ptr i 0)) 194 true=some (.tuple [.ptr i 0,.bool true]):=by
 unfold gZ;rw [Tryz.underlying194];rfl
theorem Ux (t:Int) (h:J):Pure Tryz.prog 58 [.int .i64 t] h (.bool (decide (0≤t∧t≤1099511627776))):=by
 refine ab.ao (c:=_) Tryz.func58 rfl (by kernel_rfl) (by simp) ?_
 by_cases h1:0≤t
 ·have d1:decide (0≤t)=true:=decide_eq_true h1
  by_cases ae:t≤1099511627776
  ·have d2:decide (t≤1099511627776)=true:=decide_eq_true ae
   simp only [aa,Nat.reduceEqDiff,reduceCtorEq,d1,d2,aI,Tryz.results58,ac]
   exact au ⟨by rw [decide_eq_true (⟨h1,ae⟩:0≤t∧t≤1099511627776)],rfl⟩
  ·have d2:decide (t≤1099511627776)=false:=decide_eq_false ae
   simp only [aa,Nat.reduceEqDiff,reduceCtorEq,d1,d2,aI,Tryz.results58,ac]
   exact au ⟨by rw [decide_eq_false (fun q:0≤t∧t≤1099511627776=>ae q.2)],rfl⟩
 ·have d1:decide (0≤t)=false:=decide_eq_false h1
  simp only [aa,Nat.reduceEqDiff,reduceCtorEq,d1,aI,Tryz.results58,ac]
  exact au ⟨by rw [decide_eq_false (fun q:0≤t∧t≤1099511627776=>h1 q.1)],rfl⟩
theorem ae1 {h:J} {i:Nat} {v:V} {room:Int} {l:List cF} (k:dD h i v room l) (r:Rec):Pure Tryz.prog 60 [.iface 194 (.ptr i 0),.agg (aD r)] h (.int .i64 ((look l r.k).getD 0)):=by
 refine Pure.val (bh.int _ _) ?_
 obtain ⟨bJ,b5,rt⟩:=r
 refine ab.ao (c:=_) Tryz.func60 rfl (by kernel_rfl) (by simp) ?_
 unfold aD
 have kk:I h (h.push (.cells [.int .i64 bJ,.int .i64 b5,.int .i64 rt] 38 none)) none_:=I.push _ _ _
 simp only [aa,Nat.reduceEqDiff,Nat.reduceAdd,reduceCtorEq,tA,br,Av]
 refine bB SI (Ut _ i v room bJ l (k.aQ kk)) ?_
 simp only [aa,Nat.reduceEqDiff,aI,Tryz.results60,ac]
 exact au ⟨rfl,kk⟩
theorem ae2 {h:J} {i:Nat} {v:V} {room:Int} {l:List cF} (k:dD h i v room l) (key:Int):Pure Tryz.prog 103 [.iface 194 (.ptr i 0),.int .i64 key] h (.int .i64 ((look l key).getD 0)):=by
 refine ab.ao (c:=_) Tryz.func103 rfl (by kernel_rfl) (by simp) ?_
 simp only [aa,Nat.reduceEqDiff,reduceCtorEq,Av]
 refine bB SI (Ut _ i v room key l k) ?_
 simp only [aa,Nat.reduceEqDiff,aI,Tryz.results103,ac]
 exact au ⟨rfl,rfl⟩
theorem DQ (h:J) (c:ai):lk Tryz.prog 35 1 [(0,.agg (aw c))] h=some (.bp h.n 0 1 1,h.push (.cells (aw c) 40 none)):=by rw [p0 xS];rfl
theorem ae3 {h:J} {i:Nat} {v:V} {room:Int} {l:List cF} (k:dD h i v room l) (r:Rec) (n:Int) :
  ab Tryz.prog 61 [.iface 194 (.ptr i 0),.agg (aD r),.int .i64 n] h (fun q h'=>∃ v' j,q=.tuple [.bp j 0 1 1,.int .i64 r.t,.int .i64 (kF room l r.k)]∧dD h' i v' room (h4 room l r.k n)∧I h h' (qu i v)∧bQ h v v' ∧
   Own h' 40 5 (.bp j 0 1 1) (aw (hn room l r.k n))∧h.n≤j∧j≠i∧aR v'≠some j):=by
 obtain ⟨bJ,b5,rt⟩:=r
 refine ab.ao (c:=_) Tryz.func61 rfl (by kernel_rfl) (by simp) ?_
 unfold aD
 obtain ⟨H,hH⟩:∃ y,y=h.push (.cells [.int .i64 bJ,.int .i64 b5,.int .i64 rt] 38 none):=⟨_,rfl⟩
 have dC:I h H none_:=by rw [hH];exact I.push _ _ _
 have g0:H.get h.n=.cells [.int .i64 bJ,.int .i64 b5,.int .i64 rt] 38 none:=by rw [hH];exact b6
 have p2:H.n=h.n+1:=by rw [hH];rfl
 simp only [aa,Nat.reduceEqDiff,Nat.reduceAdd,reduceCtorEq,tA,br,Av]
 rw [←hH]
 clear hH
 refine bU SJ (Us H i v room bJ n l (k.aQ dC)) fun q h1 ⟨v1,ar,bo,gA,d1⟩=>?_
 subst ar
 have aH:=k.lt
 have g1:=(gA.get h.n (by omega) (by
  rintro (U | U)
  ·omega
  ·have:=k.own.lt _ U;omega)).trans g0
 have cc:∀ c:ai,(V.agg (aw c)).cells=some (aw c):=fun _=>rfl
 have st:∀ c:ai,bM (some 5) (aV.cells [V.int .i64 0,V.int .i64 0,V.int .i64 0,V.int .i64 0,V.bool false] 40 none) 0 (aw c)=some (.cells (aw c) 40 none):=fun _=>rfl
 obtain ⟨bI,bA⟩:∃ y,y=h1.push (.cells (aw (hn room l bJ n)) 40 none):=⟨_,rfl⟩
 have k2:I h1 bI none_:=by rw [bA];exact I.push _ _ _
 have g2:bI.get h1.n=.cells (aw (hn room l bJ n)) 40 none:=by rw [bA];exact b6
 have g3:=(k2.get h.n (by have:=gA.n;omega) (by simp [none_])).trans g1
 have ef:bI.n=h1.n+1:=by rw [bA];rfl
 simp only [aa,Nat.reduceEqDiff,ks,mz,cc,st]
 rw [←bA]
 clear bA
 have ff:=DQ bI (hn room l bJ n)
 have ld:cX (some (some 5)) (some (aw (hn room l bJ n)))=some (.agg (aw (hn room l bJ n))):=rfl
 have d0:da (.cells (aw (hn room l bJ n)) 40 none) 0=some (aw (hn room l bJ n)):=rfl
 generalize oW:aw (hn room l bJ n)=C at *
 refine aP.aY none_ [1] (.q 0 (.q 2 (.q 3 (.q 4 (.e 1 (.q 5 (.q 6 (.q 7 .done))) .stop))))) (by kernel_rfl) (by kernel_rfl) (by kernel_rfl) ?_
 simp only [aa,bD,Nat.reduceEqDiff,Nat.reduceAdd,Nat.reduceLeDiff,qQ,br,j0,g2,g3,ff,ld,d0,aI,Tryz.results61,r6]
 have k3:I bI (bI.push (.cells C 40 none)) none_:=I.push _ _ _
 have Hl:=gA.n
 have FA:C.length=5:=by rw [←oW];rfl
 refine au ⟨v1,bI.n,rfl,(bo.aQ k2).aQ k3,?_,bQ.later d1 (by omega),Own.js _ 1 FA (by decide),by omega,by omega,fun U=>?_⟩
 ·exact ((dC.up).trans' gA).trans' ((k2.trans' k3).up)
 ·have:=bo.own.lt _ U;omega
def j4 (t:Int):Bool:=decide (0≤t∧t≤1099511627776)
theorem C0.aj {h h':J} {a i:Nat} {v:V} {e:bF} {n:Int} {l:List cF} {own:Nat→Prop} (s:C0 h a i v e n l) (hk:I h h' own) (h0:¬own a) (h1:¬own i) (ae:∀ j,aR v=some j→¬own j):C0 h' a i v e n l :=
 ⟨Nat.lt_of_lt_of_le s.lt hk.n,(hk.get a s.lt h0).trans s.get,s.kv.aj hk h1 ae,s.ne,s.alX⟩
theorem C0.aQ {h h':J} {a i:Nat} {v:V} {e:bF} {n:Int} {l:List cF} (s:C0 h a i v e n l) (hk:I h h' none_):C0 h' a i v e n l:=s.aj hk (by simp [none_]) (by simp [none_]) (by simp [none_])
def oh (c:Int):V:=.tuple [.agg [.int .i64 0,.int .i64 0,.int .i64 0],.ah,.int .i64 c]
def hA (k n t:Int) (c:V):V:=.tuple [.agg [.int .i64 k,.int .i64 n,.int .i64 t],c,.int .i64 0]
structure uU (h:J) (a:Nat) (T:TypeId) (i:Nat) (e:bF) (n:Int):Prop where
 lt:a<h.n
 get:h.get a=.cells (aq e++[.int .i64 n,.iface T (.ptr i 0)]) 124 none
theorem uU.aj {h h':J} {a i:Nat} {T:TypeId} {e:bF} {n:Int} {own:Nat→Prop} (s:uU h a T i e n) (hk:I h h' own) (h0:¬own a):uU h' a T i e n :=
 ⟨Nat.lt_of_lt_of_le s.lt hk.n,(hk.get a s.lt h0).trans s.get⟩
theorem DR {h:J} {a i:Nat} {T:TypeId} {e:bF} {n:Int} (s:uU h a T i e n):Pure Tryz.prog 56 [.ptr a 0] h (.bool false):=by
 obtain ⟨o,m,ax⟩:=e
 have g:=s.get
 rw [hT] at g
 refine ab.ao (c:=_) Tryz.func56 rfl (by kernel_rfl) (by simp) ?_
 simp only [List.cons_append,List.nil_append] at g
 simp only [aa,Nat.reduceEqDiff,Nat.reduceAdd,Nat.reduceLeDiff,reduceCtorEq,zm,ML,zn,g]
 exact au ⟨rfl,rfl⟩
theorem ae4 {h:J} {a i:Nat} {T:TypeId} {e:bF} {n:Int} (s:uU h a T i e n) (hm:cv e=true) (aB:fc h) (r:Rec) (acc:Int) (M:Nat→Prop) (Uy:¬M a) (FB:∀ q,h.n≤q→¬M q)
  (Q:J→J→Int→V→Int→Int→Prop)
  (BQ:∀ h',I h h' none_→j4 r.t=true→Pure Tryz.prog 60 [.iface T (.ptr i 0),.agg (aD r)] h' (.int .i64 acc))
  (qM:∀ h' N,I h h' none_→j4 r.t=true→b8 r.k r.v r.t acc 16 e=some N→ab Tryz.prog 61 [.iface T (.ptr i 0),.agg (aD r),.int .i64 N] h' (fun q ae=>∃ c t kG,q=.tuple [c,.int .i64 t,.int .i64 kG]∧I h' ae M∧Q h' ae N c t kG)) :
  ab Tryz.prog 19 [.ptr a 0,.agg (aD r)] h (fun q U=>∃ h1 ae,I h h1 none_∧h1.n=h.n+2∧I ae U (fun q=>q=h.n+1) ∧
   if j4 r.t=false then ae=h1∧q=oh 2 else match b8 r.k r.v r.t acc 16 e with
   | none=>ae=h1∧q=oh 10
   | some N=>∃ c t kG,I h1 ae M∧Q h1 ae N c t kG∧q=if kG=0 then hA r.k N t c else oh kG):=by
 obtain ⟨bJ,b5,rt⟩:=r
 obtain ⟨o,m,ax⟩:=e
 have bC:aq (.mk o m ax)=[.int .i64 o,.int .i64 m,.ag ax.length (ax.flatMap aq)]:=hT _ _ _
 refine ab.ao (c:=_) Tryz.func19 rfl (by kernel_rfl) (by simp) ?_
 unfold aD at *
 obtain ⟨H,hH⟩:∃ y,y=(h.push (.cells [.int .i64 bJ,.int .i64 b5,.int .i64 rt] 38 none)).push (.cells [.int .i64 0,.int .i64 0,.int .i64 0] 38 none):=⟨_,rfl⟩
 have dC:I h H none_:=by rw [hH];exact (I.push _ _ _).a8 _
 have g0:H.get h.n=.cells [.int .i64 bJ,.int .i64 b5,.int .i64 rt] 38 none:=by rw [hH];exact ve
 have g1:H.get (h.n+1)=.cells [.int .i64 0,.int .i64 0,.int .i64 0] 38 none:=by rw [hH];exact wq
 have p2:H.n=h.n+2:=by rw [hH];rfl
 have qW:=s.aj dC (by simp [none_])
 have jm:=qW.get
 rw [bC] at jm
 simp only [List.cons_append,List.nil_append] at jm
 have halt:=s.lt
 have ae5:∀ h',fc h'→Pure Tryz.prog 59 [.agg [.int .i64 o,.int .i64 m,.ag ax.length (ax.flatMap aq)],.agg [.int .i64 bJ,.int .i64 b5,.int .i64 rt],.int .i64 acc] h' (l5 (b8 bJ b5 rt acc 16 (.mk o m ax))):=fun h' yu=>by
  have:=aeH (.mk o m ax) bJ b5 rt acc _ hm rfl h' yu
  rw [bC] at this
  exact this
 simp only at BQ qM
 simp only [aa,Nat.reduceEqDiff,reduceCtorEq,tS]
 rw [←hH]
 clear hH
 refine bB yv (DR qW) ?_
 simp only [aa,Nat.reduceEqDiff,Nat.reduceAdd,Nat.reduceLeDiff,qQ,br,g0]
 refine bB S4 (Ux rt H) ?_
 cases cS:j4 rt with
 | false=>
  rw [show decide (0≤rt∧rt≤1099511627776)=false from cS]
  simp only [aa,Nat.reduceEqDiff,Nat.reduceAdd,dj,CU,tS,xP,g1,aI,Tryz.results19,JX,fJ,eI,lw]
  exact au ⟨H,H,dC,p2,I.set _ _ _,by rw [if_pos rfl];exact ⟨rfl,rfl⟩⟩
 | true=>
  rw [show decide (0≤rt∧rt≤1099511627776)=true from cS]
  simp only [aa,Nat.reduceEqDiff]
  refine aP.aY none_ [] (.q 0 (.q 1 (.q 2 (.q 3 (.q 4 (.q 5 (.q 6 (.q 7 (.q 8 (.q 9 (.c 10 (.c 11 (.q 12 (.q 13 (.q 14 (.q 15 (.q 16 .done))))))))))))))))) (by kernel_rfl) (by kernel_rfl) (by kernel_rfl) ?_
  simp only [aa,bD,Nat.reduceEqDiff,Nat.reduceAdd,Nat.reduceLeDiff,reduceCtorEq,ado,zm,zn,eG,dj,jm,g0]
  refine gE rfl rfl rfl (fun h' hk=>BQ h' (by rcases hk with hk | rfl;exact dC.trans' hk;exact dC) cS) ?_
  simp only [bD]
  refine gE rfl rfl rfl (fun h' hk=>ae5 h' ((aB.aj dC).or (aB.aj dC) hk)) ?_
  cases aN:b8 bJ b5 rt acc 16 (.mk o m ax) with
  | none=>
   simp only [aa,bD,Int.reduceBNe,Nat.reduceEqDiff,Nat.reduceAdd,dj,CU,tS,xP,l5,g1,aI,Tryz.results19,JX,fJ,eI,lw]
   exact au ⟨H,H,dC,p2,I.set _ _ _,by rw [if_neg (by decide)];exact ⟨rfl,rfl⟩⟩
  | some N=>
   simp only [aa,bD,Nat.reduceEqDiff,l5]
   refine aP.aY (fun x=>M x) [6] (.q 0 (.q 1 (.q 2 (.q 3 (.q 4 (.q 5 (.a 6 (.q 7 (.q 8 (.q 9 (.q 10 (.q 11 (.q 12 (.q 13 .done)))))))))))))) (by kernel_rfl) (by kernel_rfl) (by kernel_rfl) ?_
   have f1:M a=False:=eq_false Uy
   have f2:M h.n=False:=eq_false (FB _ (Nat.le_refl _))
   simp only [aa,bD,fg,Nat.reduceEqDiff,Nat.reduceAdd,Nat.reduceLeDiff,reduceCtorEq,zm,zn,dj,jm,g0,f1,f2]
   refine bU adh (qM H N dC cS aN) fun q ae ⟨c,t,kG,aT,bO,e0⟩=>?_
   subst aT
   have ae6:=bO.n
   have gc:=bO.get (h.n+1) (by omega) (FB _ (by omega))
   have vc:=bO.get h.n (by omega) (FB _ (by omega))
   rw [g0] at vc
   rw [g1] at gc
   simp only [aa,bD,fg,Nat.reduceEqDiff]
   by_cases he:kG=0
   ·have af:(kG !=0)=false:=by simp [he]
    simp only [aa,fg,Nat.reduceEqDiff,Nat.reduceAdd,Nat.reduceLeDiff,tA,br,dj,CU,tS,xP,gc,vc,af,aI,Tryz.results19,JX,fJ,eI,lw]
    exact au ⟨H,ae,dC,p2,I.set _ _ _,by rw [if_neg (by decide)];exact ⟨c,t,kG,bO,e0,by rw [if_pos he];rfl⟩⟩
   ·have af:(kG !=0)=true:=by simp [he]
    simp only [aa,fg,Nat.reduceEqDiff,Nat.reduceAdd,dj,CU,tS,xP,gc,af,aI,Tryz.results19,JX,fJ,eI,lw]
    exact au ⟨H,ae,dC,p2,I.set _ _ _,by rw [if_neg (by decide)];exact ⟨c,t,kG,bO,e0,by rw [if_neg he];rfl⟩⟩
theorem ae7 (x:bu) (hm:cv x.e=true) (ba:fa x.e) (h:J) (aB:fc h) (T:TypeId) (Aw:J→J→Nat→Prop)
  (hk:∀ H,I h H none_→ab Tryz.prog 54 [.agg (al x)] H (fun r h'=>∃ i,r=.tuple [.iface T (.ptr i 0),.int .i64 0]∧I H h' none_∧Aw H h' i)) :
  ab Tryz.prog 17 [.agg (al x)] h (fun r h'=>∃ a i H h1,r=.tuple [.ptr a 0,.int .i64 0]∧I h H none_∧Aw H h1 i∧I h1 h' none_∧I h h' none_∧h.n≤a∧h1.n≤a∧uU h' a T i x.e x.n):=by
 refine ab.ao (c:=_) Tryz.func17 rfl (by kernel_rfl) (by simp) ?_
 obtain ⟨cB,ay,⟨o,m,ax⟩,n⟩:=x
 have fp:al ⟨cB,ay,.mk o m ax,n⟩=[.int .i64 cB,.ag ay.length (aO ay),.int .i64 o,.int .i64 m,.ag ax.length (ax.flatMap aq),.int .i64 n]:=by simp [al,hT]
 have bC:aq (.mk o m ax)=[.int .i64 o,.int .i64 m,.ag ax.length (ax.flatMap aq)]:=hT _ _ _
 obtain ⟨H,hH⟩:∃ y,y=h.push (.cells [.int .i64 cB,.ag ay.length (aO ay),.int .i64 o,.int .i64 m,.ag ax.length (ax.flatMap aq),.int .i64 n] 29 none):=⟨_,rfl⟩
 have dC:I h H none_:=by rw [hH];exact I.push _ _ _
 have g0:H.get h.n=.cells [.int .i64 cB,.ag ay.length (aO ay),.int .i64 o,.int .i64 m,.ag ax.length (ax.flatMap aq),.int .i64 n] 29 none:=by rw [hH];exact b6
 have p2:H.n=h.n+1:=by rw [hH];rfl
 have dt:Pure Tryz.prog 53 [.agg [.int .i64 o,.int .i64 m,.ag ax.length (ax.flatMap aq)]] H (pE (.mk o m ax)):=by rw [←bC];exact Nd _ ba H (aB.aj dC)
 have jV:cv (.mk o m ax)=true:=hm
 rw [fp]
 simp only [aa,Nat.reduceEqDiff,Nat.reduceAdd,Nat.reduceLeDiff,nF,eG]
 rw [←hH]
 clear hH
 refine bB MI dt ?_
 unfold pE hj
 rw [if_pos jV,if_pos jV]
 simp only [aa,Nat.reduceEqDiff,Nat.reduceAdd,mi,g0]
 have bO:=hk H dC
 rw [fp] at bO
 refine bU S2 bO fun r h1 ⟨i,ar,bo,e0⟩=>?_
 subst ar
 have g1:=(bo.get h.n (by omega) (by simp [none_])).trans g0
 simp only [aa,Nat.reduceEqDiff]
 have yN:=KK (.ag (cj (.mk o m ax)).length (ep (cj (.mk o m ax)))) (cj (.mk o m ax)) h1 ((aB.aj dC).aj bo) (Rd.ag _ _) (Ns _) (by have:=M9 _ (.mk o m ax) rfl ba;have:=Nc jV;omega)
 have uP:pI (cj (.mk o m ax))=.tuple [.agg (aq (.mk o m ax)),.int .i64 0]:=by unfold pI l4 lI;rw [Uj jV ba];rfl
 rw [uP,bC] at yN
 refine bB S3 yN ?_
 have eL:=bo.n
 obtain ⟨bI,bA⟩:∃ y,y=h1.push (.cells [.int .i64 o,.int .i64 m,.ag ax.length (ax.flatMap aq)] 27 none):=⟨_,rfl⟩
 have k2:I h1 bI none_:=by rw [bA];exact I.push _ _ _
 have g2:=(k2.get h.n (by omega) (by simp [none_])).trans g1
 have g3:bI.get h1.n=.cells [.int .i64 o,.int .i64 m,.ag ax.length (ax.flatMap aq)] 27 none:=by rw [bA];exact b6
 have ef:bI.n=h1.n+1:=by rw [bA];rfl
 simp only [aa,Nat.reduceEqDiff,Nat.reduceAdd,vM,br,eG,my,lp]
 rw [←bA]
 clear bA
 simp only [aa,Nat.reduceEqDiff,Nat.reduceAdd,Nat.reduceLeDiff,adD,adS,g2,aI,Tryz.results17,cW]
 have k3:I bI (bI.push (.cells [.int .i64 o,.int .i64 m,.ag ax.length (ax.flatMap aq),.int .i64 n,.iface T (.ptr i 0)] 124 none)) none_:=I.push _ _ _
 refine au ⟨_,i,H,h1,rfl,dC,e0,k2.trans' k3,(dC.trans' bo).trans' (k2.trans' k3),by omega,by omega,⟨by rw [eA];omega,?_⟩⟩
 rw [bC]
 exact b6
def vS (k f:Int):V:=.agg [.int .i64 k,.int .i64 f]
theorem ae8:Es Tryz.prog 286=some [0,0]:=by kernel_rfl
theorem ae9 (e:Bool) (a b:Int):Ba Tryz.prog e 286 (vS a b)=true:=by
 cases e<;>kernel_rfl
theorem xg:∃ d,gR Tryz.prog 270=some (286,2,d)∧vC d=false:=by
 have h:(gR Tryz.prog 270).map (fun q=>(q.1,q.2.1,vC q.2.2))=some (286,2,false):=by kernel_rfl
 cases hm:gR Tryz.prog 270 with
 | none=>rw [hm] at h;cases h
 | some q=>
  rw [hm] at h
  obtain ⟨a,b,d⟩:=q
  simp only [Option.map_some,Option.some.injEq,Prod.mk.injEq] at h
  obtain ⟨rfl,rfl,h⟩:=h
  exact ⟨d,rfl,h⟩
theorem afa {d:TypeDesc} (bb:vC d=false) (a b c e:Int):xH Tryz.prog 286 d (vS a b) (vS c e)=some (a==c&&b==e):=by
 have h:hv [0,0] [.int .i64 a,.int .i64 b] [.int .i64 c,.int .i64 e]=some (a==c&&b==e):=by simp [hv]
 obtain ⟨fQ,hx,ak,bs⟩:=m8 h
 obtain ⟨h1,_⟩:=P9 ae8 h ak bs
 unfold xH vS
 simp only [r4,ak,bs,Option.map_some,bb,h1]
 rfl
theorem Uz {time size:Int} (h0:0≤time) (h1:1≤size):0≤time.tmod size∧time.tmod size<size∧time.tmod size≤time:=by
 rw [Int.tmod_eq_emod_of_nonneg h0]
 exact ⟨Int.emod_nonneg _ (by omega),Int.emod_lt_of_pos _ (by omega),by
  have ae:=Int.emod_add_mul_ediv time size
  have aA:0≤size * (time / size):=Int.mul_nonneg (by omega) (Int.ediv_nonneg h0 (by omega))
  omega⟩
structure cy (h:J) (i m:Nat) (room size:Int) (es:List (Nat×V×V)) (cl:Nat):Prop where
 get:h.get i=.cells [.int .i64 room,.int .i64 size,.map m] 272 none
 map:h.get m=.map es cl
 ne:i≠m
 lt:i<h.n
 mA:m<h.n
 s1:1≤size
 s2:size≤1048576
theorem cy.aQ {h h':J} {i m cl:Nat} {room size:Int} {es:List (Nat×V×V)} (k:cy h i m room size es cl) (hk:I h h' none_):cy h' i m room size es cl :=
 ⟨(hk.get i k.lt (by simp [none_])).trans k.get,(hk.get m k.mA (by simp [none_])).trans k.map,k.ne,Nat.lt_of_lt_of_le k.lt hk.n,Nat.lt_of_lt_of_le k.mA hk.n,k.s1,k.s2⟩
theorem afb (h:J) (room size:Int) (h1:1≤room) (ae:room≤1024) (aA:1≤size) (bk:size≤1048576) :
  ab Tryz.prog 107 [.int .i64 room,.int .i64 size] h (fun r h'=>r=.tuple [.ptr (h.n+1) 0,.int .i64 0]∧cy h' (h.n+1) h.n room size [] 0∧I h h' none_):=by
 refine ab.ao (c:=_) Tryz.func107 rfl (by kernel_rfl) (by simp) ?_
 have d1:decide (room<1)=false:=decide_eq_false (by omega)
 have d2:decide (1024<room)=false:=decide_eq_false (by omega)
 have d3:decide (size<1)=false:=decide_eq_false (by omega)
 have d4:decide (1048576<size)=false:=decide_eq_false (by omega)
 simp only [aa,Nat.reduceEqDiff,Nat.reduceAdd,Nat.reduceLeDiff,reduceCtorEq,adJ,adY,d1,d2,d3,d4,aI,Tryz.results107,cW]
 refine au ⟨rfl,⟨b6,(kM (by simp only [eA];omega)).trans b6,by omega,by simp only [eA];omega,by simp only [eA];omega,aA,bk⟩,(I.push _ _ _).a8 _⟩
theorem BR (h:J) (i m cl:Nat) (room size:Int) (es:List (Nat×V×V)) (k:cy h i m room size es cl):Pure Tryz.prog 161 [.ptr i 0] h (.bool false):=by
 refine Pure.val (bh.bool _) ?_
 refine ab.ao (c:=_) Tryz.func161 rfl (by kernel_rfl) (by simp) ?_
 have aB:=k.get
 have d1:(size==0)=false:=by have:=k.s1;simp;omega
 simp only [aa,Nat.reduceEqDiff,Nat.reduceAdd,Nat.reduceLeDiff,reduceCtorEq,z1,adw,br,aB,d1,aI,Tryz.results161,ac]
 exact au ⟨rfl,I.refl _ _⟩
def C1 (size time:Int):Int:=if time<0∨1099511627776<time then -1 else time - time.tmod size
theorem FC (h:J) (i m cl:Nat) (room size time:Int) (es:List (Nat×V×V)) (k:cy h i m room size es cl):Pure Tryz.prog 122 [.ptr i 0,.int .i64 time] h (.int .i64 (C1 size time)):=by
 refine Pure.val (bh.int _ _) ?_
 refine ab.ao (c:=_) Tryz.func122 rfl (by kernel_rfl) (by simp) ?_
 have aB:=k.get
 simp only [aa,Int.reduceNeg,Nat.reduceEqDiff,reduceCtorEq]
 refine bB BG (BR h i m cl room size es k) ?_
 by_cases t1:time<0
 ·have d1:decide (time<0)=true:=decide_eq_true t1
  simp only [aa,Int.reduceNeg,Nat.reduceEqDiff,d1,aI,Tryz.results122,ac]
  exact au ⟨by rw [C1,if_pos (.inl t1)],I.refl _ _⟩
 have d1:decide (time<0)=false:=decide_eq_false t1
 by_cases t2:1099511627776<time
 ·have d2:decide (1099511627776<time)=true:=decide_eq_true t2
  simp only [aa,Int.reduceNeg,Nat.reduceEqDiff,d1,d2,aI,Tryz.results122,ac]
  exact au ⟨by rw [C1,if_pos (.inr t2)],I.refl _ _⟩
 have d2:decide (1099511627776<time)=false:=decide_eq_false t2
 have aU:∀ xo yo,ev Tryz.prog .rem 2 xo yo (.int .i64 time) (.int .i64 size)=some (.int .i64 (time.tmod size)):=fun xo yo=>L8 (by have:=k.s1;omega)
 obtain ⟨m0,m1,m2⟩:=Uz (time:=time) (size:=size) (by omega) k.s1
 have hw:IntKind.i64.wrap (time - time.tmod size)=time - time.tmod size:=Go.IntWalk.i64_in _ (by omega)
 simp only [aa,Int.reduceNeg,Nat.reduceEqDiff,Nat.reduceAdd,Nat.reduceLeDiff,reduceCtorEq,z1,br,d1,d2,aB,aU,hw,aI,Tryz.results122,ac]
 exact au ⟨by rw [C1,if_neg (by omega)],I.refl _ _⟩
theorem UA (k f:Int):(vS k f).cells=some [.int .i64 k,.int .i64 f]:=rfl
theorem Zo (h:J) (i m cl:Nat) (room size key ay val:Int) (es:List (Nat×V×V)) (k:cy h i m room size es cl) (h0:0≤ay) (h1:ay≤2 ^ 41):Pure Tryz.prog 174 [.ptr i 0,vS key ay,.int .i64 val] h (.agg (aw ⟨key,ay,ay+size,val,false⟩)):=by
 refine Pure.val (bh.agg (wI _)) ?_
 refine ab.ao (c:=_) Tryz.func174 rfl (by kernel_rfl) (by simp) ?_
 have aB:=k.get
 have C2:=k.lt
 have iz:∀ A B,((h.push A).push B).get i=.cells [.int .i64 room,.int .i64 size,.map m] 272 none:=fun A B=>(kM (by simp only [eA];omega)).trans ((kM C2).trans aB)
 have hw:IntKind.i64.wrap (ay+size)=ay+size:=Go.IntWalk.i64_in _ (by have:=k.s1;have:=k.s2;omega)
 simp only [aa,ks,UA]
 refine aP.aY none_ [13] (.q 0 (.q 1 (.q 2 (.q 3 (.q 4 (.q 5 (.q 6 (.q 7 (.q 8 (.q 9 (.q 10 (.q 11 (.q 12 (.a 13 .done)))))))))))))) (by kernel_rfl) (by kernel_rfl) (by kernel_rfl) ?_
 simp only [aa,bD,Nat.reduceEqDiff,Nat.reduceAdd,Nat.reduceLeDiff,reduceCtorEq,z1,Td,Ij,br,j0,tU,ks,mz,iz,hw,aI,Tryz.results174,xM,eI]
 exact au ⟨rfl,(I.push _ _ _).a8 _⟩
def c7 (size time:Int):Int:=time - time.tmod size
theorem FD {size time:Int} (h0:0≤time) (h1:time≤1099511627776):C1 size time=c7 size time:=by rw [C1,if_neg (by omega)];rfl
theorem i6 {size time:Int} (h0:0≤time) (h1:1≤size):0≤c7 size time∧c7 size time≤time∧time<c7 size time+size:=by
 obtain ⟨a,b,c⟩:=Uz h0 h1
 unfold c7
 omega
theorem Zp:∃ q,gR Tryz.prog 270=some q:=by
 obtain ⟨d,hm,_⟩:=xg
 exact ⟨_,hm⟩
def rK (p:Int×Int):V:=vS p.1 p.2
abbrev dv:=List (Nat×(Int×Int)×Int)
def fD (l:dv):List (Nat×V×V):=fK rK (V.int .i64) l
theorem Nt {d:TypeDesc} (bb:vC d=false):mJ Tryz.prog 286 d rK where
 eq a b:=by
  rw [show rK a=vS a.1 a.2 from rfl,show rK b=vS b.1 b.2 from rfl,afa bb]
  rw [Option.some.injEq,Bool.eq_iff_iff]
  simp only [Bool.and_eq_true,beq_iff_eq,decide_eq_true_eq]
  exact ⟨fun h=>Prod.ext h.1 h.2,fun h=>⟨congrArg Prod.fst h,congrArg Prod.snd h⟩⟩
 ok b a:=ae9 b a.1 a.2
 bits a:=by
  refine ⟨_,rfl,?_⟩
  simp [Instr.sameBits]
theorem lookW {h:J} {i cl:Nat} (l:dv) (a b:Int) (aB:h.get i=.map (fD l) cl):n5 Tryz.prog 270 (.map i) (.agg [.int .i64 a,.int .i64 b]) true h=some (.tuple [.int .i64 ((ch l (a,b)).getD 0),.bool (ch l (a,b)).isSome]):=by
 obtain ⟨d,hm,bb⟩:=xg
 have:=Qc (enc:=V.int .i64) (ok:=true) (Nt bb) (k:=(a,b)) hm z8 aB
 rw [show (V.agg [.int .i64 a,.int .i64 b])=rK (a,b) from rfl,this]
 cases ch l (a,b)<;>simp [jQ,kR]
theorem Nu {h:J} {i cl:Nat} (l:dv) (a b v:Int) (aB:h.get i=.map (fD l) cl):xZ Tryz.prog 270 (.map i) (.agg [.int .i64 a,.int .i64 b]) (.int .i64 v) h=some (h.set i (.map (fD (cT cl l (a,b) v)) (fX cl l (a,b)))):=by
 obtain ⟨d,hm,bb⟩:=xg
 exact Qd (enc:=V.int .i64) (Nt bb) (k:=(a,b)) hm aB rfl
theorem FE {h:J} {i cl:Nat} (l:dv) (a b:Int) (aB:h.get i=.map (fD l) cl):G0 Tryz.prog 270 (.map i) (.agg [.int .i64 a,.int .i64 b]) h=some (h.set i (.map (fD (hR l (a,b))) cl)):=by
 obtain ⟨d,hm,bb⟩:=xg
 exact ajY (enc:=V.int .i64) (Nt bb) (k:=(a,b)) hm aB
theorem FF (l:dv):(fD l).length=l.length:=by simp [fD,fK]
theorem UB (h:J) (i m cl:Nat) (room size key time val:Int) (l:dv) (k:cy h i m room size (fD l) cl) (aU:(ch l (key,c7 size time)).isSome=true∨(l.length:Int)<room) (h0:0≤time) (h1:time≤1099511627776) :
  ab Tryz.prog 120 [.ptr i 0,.int .i64 key,.int .i64 time,.int .i64 val] h (fun r h'=>r=.tuple [.agg (aw ⟨key,c7 size time,c7 size time+size,val,false⟩),.int .i64 0]∧cy h' i m room size (fD (cT cl l (key,c7 size time) val)) (fX cl l (key,c7 size time))∧I h h' (fun q=>q=m)):=by
 refine ab.ao (c:=_) Tryz.func120 rfl (by kernel_rfl) (by simp) ?_
 have C2:=k.lt
 have mA:=k.mA
 obtain ⟨f0,f1,f2⟩:=i6 h0 k.s1
 have FG:=FD (size:=size) h0 h1
 simp only [aa,Nat.reduceEqDiff,reduceCtorEq,ks]
 have bo:=k.aQ (I.push h (.cells [.int .i64 0,.int .i64 0,.int .i64 0,.int .i64 0,.bool false] 40 none) none_)
 refine bB BG (BR _ i m cl room size _ bo) ?_
 simp only [aa,Nat.reduceEqDiff,reduceCtorEq]
 refine bB EK (FC _ i m cl room size time _ bo) ?_
 rw [FG]
 generalize c7 size time=ay at f0 f1 f2 aU⊢
 have d1:decide (ay<0)=false:=decide_eq_false (by omega)
 have wB:∀ a b:Int,(V.agg [.int .i64 a,.int .i64 b]).cells=some [.int .i64 a,.int .i64 b]:=fun _ _=>rfl
 simp only [aa,Nat.reduceEqDiff,Nat.reduceAdd,Nat.reduceLeDiff,Io,DP,Hd,d1,wB]
 generalize hH:(h.push (.cells [.int .i64 0,.int .i64 0,.int .i64 0,.int .i64 0,.bool false] 40 none)).push (.cells [.int .i64 key,.int .i64 ay] 286 none)=H
 have bq:I h H none_:=by rw [←hH];exact (I.push _ _ _).a8 _
 have kk:cy H i m room size (fD l) cl:=k.aQ bq
 have lu:=kk.get
 have dI:=kk.map
 have g0:H.get h.n=.cells [.int .i64 0,.int .i64 0,.int .i64 0,.int .i64 0,.bool false] 40 none:=by rw [←hH];exact (kM (by simp only [eA];omega)).trans b6
 have g1:H.get (h.n+1)=.cells [.int .i64 key,.int .i64 ay] 286 none:=by rw [←hH];exact b6
 have h9:H.n=h.n+2:=by rw [←hH];rfl
 have eC:n5 Tryz.prog 270 (.map m) (.agg [.int .i64 key,.int .i64 ay]) true H=some (.tuple [.int .i64 ((ch l (key,ay)).getD 0),.bool (ch l (key,ay)).isSome]):=lookW l key ay dI
 have rL:xZ Tryz.prog 270 (.map m) (.agg [.int .i64 key,.int .i64 ay]) (.int .i64 val) H=some (H.set m (.map (fD (cT cl l (key,ay) val)) (fX cl l (key,ay)))):=Nu l key ay val dI
 have sV:fU Tryz.prog 270 (.map m) H=some (.int .i64 (l.length:Nat)):=by rw [P1 Ti dI,FF]
 have sE:cX (some (some 2)) (some [.int .i64 key,.int .i64 ay])=some (.agg [.int .i64 key,.int .i64 ay]):=rfl
 refine aP.aY none_ [] (.q 0 (.q 1 (.q 2 (.q 3 (.q 4 (.q 5 (.q 6 (.q 7 (.q 8 (.q 9 (.q 10 .done))))))))))) (by kernel_rfl) (by kernel_rfl) (by kernel_rfl) ?_
 simp only [aa,bD,Nat.reduceEqDiff,Nat.reduceAdd,Nat.reduceLeDiff,reduceCtorEq,vh,vi,zo,lu,g1,sE,eC]
 generalize ch l (key,ay)=o at aU eC
 have aF:(o.isSome=true)∨(o.isSome=false∧decide (room≤((l.length:Nat):Int))=false):=by
  cases bc:o.isSome
  ·rw [bc] at aU
   exact .inr ⟨rfl,decide_eq_false (by simp at aU;omega)⟩
  ·exact .inl rfl
 generalize o.isSome=ob at aF
 refine aP.aY none_ [] (.q 0 (.q 1 (.q 2 (.q 3 (.q 4 (.q 5 (.q 6 (.q 7 (.q 8 (.q 9 (.q 10 (.q 11 (.q 12 (.q 13 .done)))))))))))))) (by kernel_rfl) (by kernel_rfl) (by kernel_rfl) ?_
 rcases aF with q | ⟨q,cP⟩
 all_goals first | simp only [aa,bD,Nat.reduceEqDiff,Nat.reduceAdd,Nat.reduceLeDiff,reduceCtorEq,Tc,vh,vi,a7,lu,sV,q,cP] | simp only [aa,bD,Nat.reduceEqDiff,q]
 all_goals
  refine aP.aY none_ [6] (.q 0 (.q 1 (.q 2 (.q 3 (.q 4 (.q 5 (.a 6 .done))))))) (by kernel_rfl) (by kernel_rfl) (by kernel_rfl) ?_
  simp only [aa,bD,Nat.reduceEqDiff,Nat.reduceAdd,Nat.reduceLeDiff,reduceCtorEq,vh,vi,zo,lu,g1,sE,rL]
  generalize bA:H.set m (.map (fD (cT cl l (key,ay) val)) (fX cl l (key,ay)))=bI
  have dV:I H bI (fun q=>q=m):=by rw [←bA];exact I.set _ _ _
  have ata:bI.n=H.n:=by rw [←bA];rfl
  have tk:=(dV.get i kk.lt (by exact k.ne)).trans lu
  have p5:bI.get m=.map (fD (cT cl l (key,ay) val)) (fX cl l (key,ay)):=by rw [←bA];exact aL
  have UC:=(dV.get h.n (by omega) (by omega)).trans g0
  have g12:=(dV.get (h.n+1) (by omega) (by omega)).trans g1
  have c6:cy bI i m room size (fD (cT cl l (key,ay) val)) (fX cl l (key,ay)):=⟨tk,p5,k.ne,by omega,by omega,k.s1,k.s2⟩
  simp only [aa,Nat.reduceEqDiff,Nat.reduceAdd,g12,sE]
  refine bB Zh (Zo bI i m _ room size key ay val _ c6 f0 (by omega)) ?_
  have cc:∀ c:ai,(V.agg (aw c)).cells=some (aw c):=fun _=>rfl
  have st:∀ c:ai,bM (some 5) (aV.cells [.int .i64 0,.int .i64 0,.int .i64 0,.int .i64 0,.bool false] 40 none) 0 (aw c)=some (.cells (aw c) 40 none):=fun _=>rfl
  have UD:∀ c:ai,(if 5≤(aw c).length then some (V.agg (List.take 5 (aw c))) else none)=some (.agg (aw c)):=fun _=>rfl
  simp only [aa,Nat.reduceEqDiff,j0,mz,UC,cc,st,UD,aI,Tryz.results120,fW,fJ,eI,fV]
  have IE:I bI (bI.set h.n (.cells (aw ⟨key,ay,ay+size,val,false⟩) 40 none)) (fun q=>q=h.n):=I.set _ _ _
  refine au ⟨rfl,⟨(IE.get i (by omega) (by omega)).trans tk,(IE.get m (by omega) (by omega)).trans p5,k.ne,by show i<bI.n;omega,by show m<bI.n;omega,k.s1,k.s2⟩,?_⟩
  exact ((bq.up).trans' dV).iQ (Nat.le_refl _) _
theorem afc (h:J) (i m cl:Nat) (room size key time val:Int) (l:dv) (k:cy h i m room size (fD l) cl) (aU:(ch l (key,c7 size time)).isSome=false) (aM:room≤(l.length:Int)) (h0:0≤time) (h1:time≤1099511627776) :
  ab Tryz.prog 120 [.ptr i 0,.int .i64 key,.int .i64 time,.int .i64 val] h (fun r h'=>r=.tuple [.agg (aw ⟨0,0,0,0,false⟩),.int .i64 3]∧I h h' none_):=by
 refine ab.ao (c:=_) Tryz.func120 rfl (by kernel_rfl) (by simp) ?_
 have C2:=k.lt
 have mA:=k.mA
 obtain ⟨f0,f1,f2⟩:=i6 h0 k.s1
 have FG:=FD (size:=size) h0 h1
 simp only [aa,Nat.reduceEqDiff,reduceCtorEq,ks]
 have bo:=k.aQ (I.push h (.cells [.int .i64 0,.int .i64 0,.int .i64 0,.int .i64 0,.bool false] 40 none) none_)
 refine bB BG (BR _ i m cl room size _ bo) ?_
 simp only [aa,Nat.reduceEqDiff,reduceCtorEq]
 refine bB EK (FC _ i m cl room size time _ bo) ?_
 rw [FG]
 generalize c7 size time=ay at f0 f1 f2 aU⊢
 have d1:decide (ay<0)=false:=decide_eq_false (by omega)
 have wB:∀ a b:Int,(V.agg [.int .i64 a,.int .i64 b]).cells=some [.int .i64 a,.int .i64 b]:=fun _ _=>rfl
 simp only [aa,Nat.reduceEqDiff,Nat.reduceAdd,Nat.reduceLeDiff,Io,DP,Hd,d1,wB]
 generalize hH:(h.push (.cells [.int .i64 0,.int .i64 0,.int .i64 0,.int .i64 0,.bool false] 40 none)).push (.cells [.int .i64 key,.int .i64 ay] 286 none)=H
 have bq:I h H none_:=by rw [←hH];exact (I.push _ _ _).a8 _
 have kk:cy H i m room size (fD l) cl:=k.aQ bq
 have lu:=kk.get
 have dI:=kk.map
 have g0:H.get h.n=.cells [.int .i64 0,.int .i64 0,.int .i64 0,.int .i64 0,.bool false] 40 none:=by rw [←hH];exact (kM (by simp only [eA];omega)).trans b6
 have g1:H.get (h.n+1)=.cells [.int .i64 key,.int .i64 ay] 286 none:=by rw [←hH];exact b6
 have h9:H.n=h.n+2:=by rw [←hH];rfl
 have eC:n5 Tryz.prog 270 (.map m) (.agg [.int .i64 key,.int .i64 ay]) true H=some (.tuple [.int .i64 ((ch l (key,ay)).getD 0),.bool (ch l (key,ay)).isSome]):=lookW l key ay dI
 have sV:fU Tryz.prog 270 (.map m) H=some (.int .i64 (l.length:Nat)):=by rw [P1 Ti dI,FF]
 have sE:cX (some (some 2)) (some [.int .i64 key,.int .i64 ay])=some (.agg [.int .i64 key,.int .i64 ay]):=rfl
 refine aP.aY none_ [] (.q 0 (.q 1 (.q 2 (.q 3 (.q 4 (.q 5 (.q 6 (.q 7 (.q 8 (.q 9 (.q 10 .done))))))))))) (by kernel_rfl) (by kernel_rfl) (by kernel_rfl) ?_
 simp only [aa,bD,Nat.reduceEqDiff,Nat.reduceAdd,Nat.reduceLeDiff,reduceCtorEq,vh,vi,zo,lu,g1,sE,eC]
 generalize ch l (key,ay)=o at aU eC
 generalize o.isSome=ob at aU
 subst aU
 have d2:decide (room≤((l.length:Nat):Int))=true:=decide_eq_true aM
 have st:∀ c:ai,bM (some 5) (aV.cells [.int .i64 0,.int .i64 0,.int .i64 0,.int .i64 0,.bool false] 40 none) 0 (aw c)=some (.cells (aw c) 40 none):=fun _=>rfl
 refine aP.aY none_ [] (.q 0 (.q 1 (.q 2 (.q 3 (.q 4 (.q 5 (.q 6 (.q 7 (.q 8 (.q 9 (.q 10 (.q 11 (.q 12 (.q 13 .done)))))))))))))) (by kernel_rfl) (by kernel_rfl) (by kernel_rfl) ?_
 simp only [aa,bD,Nat.reduceEqDiff,Nat.reduceAdd,Nat.reduceLeDiff,reduceCtorEq,Tc,vh,vi,a7,j0,tU,ks,mz,lu,sV,d2,g0,aI,Tryz.results120,fW,fJ,eI,fV]
 refine au ⟨rfl,bq.iQ (Nat.le_refl _) _⟩
theorem afd (h:J) (i m cl:Nat) (room size key time:Int) (l:dv) (k:cy h i m room size (fD l) cl) (h0:0≤time) (h1:time≤1099511627776) :
  Pure Tryz.prog 117 [.ptr i 0,.int .i64 key,.int .i64 time] h (.tuple [.int .i64 ((ch l (key,c7 size time)).getD 0),.bool (ch l (key,c7 size time)).isSome]):=by
 refine Pure.val (bh.tuple (bl.cons (bh.int _ _) (bl.cons (bh.bool _) bl.nil))) ?_
 refine ab.ao (c:=_) Tryz.func117 rfl (by kernel_rfl) (by simp) ?_
 have lu:=k.get
 obtain ⟨f0,f1,f2⟩:=i6 h0 k.s1
 have FG:=FD (size:=size) h0 h1
 simp only [aa,Nat.reduceEqDiff,reduceCtorEq]
 refine bB EK (FC _ i m cl room size time _ k) ?_
 rw [FG]
 have d1:decide (c7 size time<0)=false:=decide_eq_false (by omega)
 have eC:=lookW l key (c7 size time) k.map
 simp only [aa,Nat.reduceEqDiff,Nat.reduceAdd,Nat.reduceLeDiff,reduceCtorEq,vh,vi,Io,DP,d1,lu,eC,aI,Tryz.results117,cW]
 exact au ⟨rfl,I.refl _ _⟩
def f64 (n:Int):Nat:=FloatKind.nearest .f64 n
theorem afe (neg:Bool) (n:Nat):Ieee.Toward.even.cut neg n 0=n:=by
 have h:(1:Nat) <<< min 0 (n.log2+2)=1:=by rw [Nat.zero_min];rfl
 unfold Ieee.Toward.cut
 simp only [h,Nat.div_one,Nat.mod_one,Nat.mul_zero]
 rfl
theorem aff (n:Nat) (h0:n≠0) (h:n<2 ^ 53):f64 n=(n.log2+1022) * 2 ^ 52+n * 2 ^ (52 - n.log2):=by
 have gw:n.log2<53:=(Nat.log2_lt h0).2 h
 have hu:n<2 ^ (n.log2+1):=(Nat.log2_lt h0).1 (Nat.lt_succ_self _)
 have hk:n * 2 ^ (52 - n.log2)<2 ^ 53:=by
  have:=Nat.mul_lt_mul_of_pos_right hu (Nat.two_pow_pos (52 - n.log2))
  rwa [←Nat.pow_add,show n.log2+1+(52 - n.log2)=53 by omega] at this
 have ar:decide (((n:Nat):Int)<0)=false:=decide_eq_false (by omega)
 unfold f64 FloatKind.nearest FloatKind.encode FloatKind.format Ieee.Format.write Ieee.Format.nearest
 rw [ar]
 simp only [Int.natAbs_natCast,if_neg h0]
 have aT:max (0+((n.log2:Nat):Int) - ((Ieee.double.fractionBits:Nat):Int)) Ieee.double.leastPlace=(n.log2:Int) - 52:=by
  show max (0+((n.log2:Nat):Int) - ((52:Nat):Int)) (-1074)=_
  omega
 rw [aT]
 have cg:((0:Int) - ((n.log2:Int) - 52)).toNat=52 - n.log2:=by omega
 have h8:((n.log2:Int) - 52 - 0).toNat=0:=by omega
 have hQ:((n.log2:Int) - 52 - Ieee.double.leastPlace).toNat=n.log2+1022:=by
  show ((n.log2:Int) - 52 - (-1074)).toNat=_
  omega
 rw [cg,h8,hQ,afe,Nat.shiftLeft_eq]
 show Ieee.double.word false (min ((n.log2+1022) * 2 ^ 52+n * 2 ^ (52 - n.log2)) (2047 * 2 ^ 52))=_
 rw [Nat.min_eq_left (by omega)]
 rfl
theorem afg (n:Nat) (h:n<2 ^ 53):((FloatKind.f64).decode (f64 n)).toInt .zero=some (n:Int):=by
 by_cases h0:n=0
 ·subst h0;decide
 have gw:n.log2<53:=(Nat.log2_lt h0).2 h
 have hu:n<2 ^ (n.log2+1):=(Nat.log2_lt h0).1 (Nat.lt_succ_self _)
 have aM:2 ^ n.log2≤n:=Nat.log2_self_le h0
 have hk:n * 2 ^ (52 - n.log2)<2 ^ 53:=by
  have:=Nat.mul_lt_mul_of_pos_right hu (Nat.two_pow_pos (52 - n.log2))
  rwa [←Nat.pow_add,show n.log2+1+(52 - n.log2)=53 by omega] at this
 have q5:2 ^ 52≤n * 2 ^ (52 - n.log2):=by
  have:=Nat.mul_le_mul_right (2 ^ (52 - n.log2)) aM
  rwa [←Nat.pow_add,show n.log2+(52 - n.log2)=52 by omega] at this
 have hw:=aff n h0 h
 have hdiv:n * 2 ^ (52 - n.log2) / 2 ^ (52 - n.log2)=n:=Nat.mul_div_cancel _ (Nat.two_pow_pos _)
 have afh:n * 2 ^ (52 - n.log2) % 2 ^ (52 - n.log2)=0:=Nat.mul_mod_left _ _
 have Nv:(n * 2 ^ (52 - n.log2)).log2=52:=by
  refine Nat.le_antisymm ?_ ?_
  ·exact Nat.le_of_lt_succ ((Nat.log2_lt (by omega)).2 hk)
  ·exact (Nat.le_log2 (by omega)).2 q5
 generalize n * 2 ^ (52 - n.log2)=kept at *
 rw [hw]
 have e:(FloatKind.f64).decode ((n.log2+1022) * 2 ^ 52+kept)=.number false kept ((n.log2:Int) - 52):=by
  unfold FloatKind.decode FloatKind.format Ieee.Format.read
  have s:Ieee.double.signWeight=2 ^ 63:=rfl
  have b:Ieee.double.binade=2 ^ 52:=rfl
  have i:Ieee.double.infRung=2047 * 2 ^ 52:=rfl
  have sE:Ieee.double.leastPlace=-1074:=rfl
  simp only [s,b,i,sE]
  have tX:((n.log2+1022) * 2 ^ 52+kept) / 2 ^ 63=0:=by omega
  have cq:((n.log2+1022) * 2 ^ 52+kept) % 2 ^ 63=(n.log2+1022) * 2 ^ 52+kept:=by omega
  have cP:((n.log2+1022) * 2 ^ 52+kept) / 2 ^ 52=n.log2+1023:=by omega
  have ey:((n.log2+1022) * 2 ^ 52+kept) % 2 ^ 52=kept - 2 ^ 52:=by omega
  rw [tX,cq,cP,ey,if_neg (by omega),if_pos (by omega),show 2 ^ 52+(kept - 2 ^ 52)=kept by omega,show (-1074:Int)+((n.log2+1023 - 1:Nat):Int)=(n.log2:Int) - 52 by omega]
  rfl
 rw [e]
 unfold Ieee.Datum.toInt Ieee.Datum.integral Ieee.Toward.cut
 have cg:((n.log2:Int) - 52).toNat=0:=by omega
 have h8:(-((n.log2:Int) - 52)).toNat=52 - n.log2:=by omega
 simp only [cg,h8,Nat.shiftLeft_zero,Nv]
 rw [Nat.min_eq_left (by omega),Nat.one_shiftLeft,hdiv]
 simp [Ieee.signed]
theorem afi (n:Int) (h0:0≤n) (h:n≤2 ^ 40):((FloatKind.f64).decode (f64 n)).toInt .zero=some n:=by
 obtain ⟨k,rfl⟩:∃ k:Nat,n=k:=⟨n.toNat,by omega⟩
 exact afg k (by omega)
def dB (a b:ai):Prop:=a.key<b.key∨a.key=b.key∧(a.ay<b.ay∨a.ay=b.ay∧a.to<b.to)
instance (a b:ai):Decidable (dB a b):=by unfold dB;infer_instance
def eU (a b:ai):Bool:=decide (a.key=b.key∧a.ay=b.ay∧a.to=b.to)
theorem jP {a b:ai}:eU a b=true↔a.key=b.key∧a.ay=b.ay∧a.to=b.to:=by simp [eU]
theorem UE {a b:ai}:eU a b=false↔¬(a.key=b.key∧a.ay=b.ay∧a.to=b.to):=by simp [eU]
theorem zq {a b:ai} (h:eU a b=true):¬dB a b:=by have:=jP.1 h;unfold dB;omega
theorem UF {a b c:ai} (h:dB a b) (k:dB b c):dB a c:=by unfold dB at *;omega
theorem afj {a b:ai} (h:dB a b):¬dB b a:=by unfold dB at *;omega
theorem UG {a b:ai} (h:¬dB a b) (k:¬dB b a):eU a b=true:=by rw [jP];unfold dB at *;omega
abbrev dP (l:List ai):Prop:=l.Pairwise dB
def low (l:List ai) (x:ai):List ai:=l.filter fun y=>decide (dB y x)
def high (l:List ai) (x:ai):List ai:=l.filter fun y=>!decide (dB y x)
def cD (l:List ai) (x:ai):Nat:=(low l x).length
def cI (l:List ai) (x:ai):Bool:=l.any fun y=>eU y x
def eu (l:List ai) (x:ai):List ai:=l.filter fun y=>!eU y x
def h5 (l:List ai) (x:ai):List ai:=low l x++x::high l x
theorem dP.split:∀ {l:List ai},dP l→∀ x,low l x++high l x=l
 | [],_,x=>rfl
 | a::l,ad,x=>by
  have dK:=List.pairwise_cons.1 ad
  have ih:=dP.split dK.2 x
  unfold low high at ih⊢
  by_cases h:dB a x
  ·rw [List.filter_cons_of_pos (by simpa using h),List.filter_cons_of_neg (by simpa using h),List.cons_append,ih]
  ·have aG:∀ b ∈ l,¬dB b x:=fun b av hP=>h (UF (dK.1 b av) hP)
   rw [List.filter_cons_of_neg (by simpa using h),List.filter_cons_of_pos (by simpa using h),List.filter_eq_nil_iff.2 (by simpa using aG),List.filter_eq_self.2 (by simpa using aG)]
   rfl
theorem dP.take {l:List ai} (h:dP l) (x:ai):l.take (cD l x)=low l x:=by
 have:=congrArg (List.take (low l x).length) (h.split x)
 rw [List.take_left' rfl] at this
 exact this.symm
theorem dP.drop {l:List ai} (h:dP l) (x:ai):l.drop (cD l x)=high l x:=by
 have:=congrArg (List.drop (low l x).length) (h.split x)
 rw [List.drop_left' rfl] at this
 exact this.symm
theorem UH (l:List ai) (x:ai):cD l x≤l.length:=List.length_filter_le ..
theorem dP.FH {l:List ai} (h:dP l) {x:ai} {t:Nat} {p:ai} (bw:t<cD l x) (aW:l[t]?=some p):dB p x:=by
 have:p ∈ l.take (cD l x):=List.mem_of_getElem? (i:=t) (by rw [List.getElem?_take,if_pos bw];exact aW)
 rw [h.take] at this
 simpa using (List.mem_filter.1 this).2
theorem dP.uV {l:List ai} (h:dP l) {x:ai} {t:Nat} {p:ai} (bw:cD l x≤t) (aW:l[t]?=some p):¬dB p x:=by
 have:p ∈ l.drop (cD l x):=List.mem_of_getElem? (i:=t - cD l x) (by rw [List.getElem?_drop,show cD l x+(t - cD l x)=t by omega];exact aW)
 rw [h.drop] at this
 simpa using (List.mem_filter.1 this).2
theorem dP.filter {l:List ai} (h:dP l) (p:ai→Bool):dP (l.filter p):=List.Pairwise.filter p h
theorem dP.uniq {l:List ai} (h:dP l) {a b:ai} (a6:a ∈ l) (av:b ∈ l) (ad:eU a b=true):a=b:=by
 induction l with
 | nil=>cases a6
 | cons c l ih=>
  have h':=List.pairwise_cons.1 h
  rcases List.mem_cons.1 a6 with e | a6
  ·rcases List.mem_cons.1 av with aT | av
   ·rw [e,aT]
   ·have h1:=h'.1 b av
    rw [←e] at h1
    exact absurd h1 (zq ad)
  ·rcases List.mem_cons.1 av with e | av
   ·have h1:=h'.1 a a6
    rw [←e] at h1
    exact absurd h1 (zq (by rw [jP] at *;omega))
   ·exact ih h'.2 a6 av
theorem dP.gb {l:List ai} (h:dP l) (x:ai):(cI l x=true∧∃ p,l[cD l x]?=some p∧eU p x=true∧p ∈ l)∨(cI l x=false∧∀ p,l[cD l x]?=some p→¬dB p x∧eU p x=false):=by
 cases U:cI l x
 ·refine .inr ⟨rfl,fun p aW=>⟨h.uV (Nat.le_refl _) aW,?_⟩⟩
  have:=List.any_eq_false.1 U p (List.mem_of_getElem? aW)
  simpa using this
 ·refine .inl ⟨rfl,?_⟩
  obtain ⟨q,af,ad⟩:=List.any_eq_true.1 U
  have yO:q ∈ high l x:=List.mem_filter.2 ⟨af,by simpa using zq ad⟩
  rw [←h.drop] at yO
  cases bb:l.drop (cD l x) with
  | nil=>rw [bb] at yO;cases yO
  | cons p r=>
   have aW:l[cD l x]?=some p:=by
    have:=congrArg (fun z=>z[0]?) bb
    simpa [List.getElem?_drop] using this
   refine ⟨p,aW,?_,List.mem_of_getElem? aW⟩
   have mv:dP (l.drop (cD l x)):=List.Pairwise.sublist (List.drop_sublist ..) h
   rw [bb] at yO mv
   rcases List.mem_cons.1 yO with rfl | UI
   ·exact ad
   ·have h1:=(List.pairwise_cons.1 mv).1 q UI
    have ae:=h.uV (Nat.le_refl _) aW
    exact absurd (show dB p x by have:=jP.1 ad;unfold dB at *;omega) ae
theorem UJ {l:List ai} {x:ai} (h:x ∈ l):cI l x=true:=List.any_eq_true.2 ⟨x,h,jP.2 ⟨rfl,rfl,rfl⟩⟩
theorem Zq {l:List ai} {x:ai} (h:cI l x=false):eu l x=l:=List.filter_eq_self.2 fun y bs=>by have:=List.any_eq_false.1 h y bs;simpa using this
theorem dP.rm {l:List ai} (h:dP l) {x:ai} (ak:cI l x=true):eu l x=l.take (cD l x)++l.drop (cD l x+1):=by
 rcases h.gb x with ⟨_,p,aW,ad,hm⟩ | ⟨h',_⟩
 rotate_left
 ·rw [ak] at h';cases h'
 have aH:=(List.getElem?_eq_some_iff.1 aW).1
 have e:l=l.take (cD l x)++p::l.drop (cD l x+1):=by
  have:=List.take_append_drop (cD l x) l
  rw [List.drop_eq_getElem_cons aH,(List.getElem?_eq_some_iff.1 aW).2] at this
  exact this.symm
 have bZ:∀ y,y ∈ l→eU y x=true→y=p:=fun y bs KN=>h.uniq bs hm (by rw [jP] at *;omega)
 unfold eu
 conv=>lhs;rw [e]
 have q9:=h
 rw [e] at q9
 have aG:=List.pairwise_append.1 q9
 rw [List.filter_append,List.filter_cons_of_neg (by simp [ad]),List.filter_eq_self.2,List.filter_eq_self.2]
 ·intro y bs
  cases KN:eU y x
  ·rfl
  ·have:=(List.pairwise_cons.1 aG.2.1).1 y bs
   exact absurd this (zq (by rw [jP] at *;omega))
 ·intro y bs
  cases KN:eU y x
  ·rfl
  ·have:=aG.2.2 y bs p (by simp)
   exact absurd this (zq (by rw [jP] at *;omega))
theorem dP.ins {l:List ai} (h:dP l) (x:ai):h5 l x=l.take (cD l x)++[x]++l.drop (cD l x):=by rw [h.take,h.drop];simp [h5]
theorem BS {l:List ai} {x y:ai}:y ∈ h5 l x↔y=x∨y ∈ l:=by
 unfold h5 low high
 rw [List.mem_append,List.mem_cons,List.mem_filter,List.mem_filter]
 by_cases h:dB y x<;>simp [h,or_comm]
theorem dP.tZ {l:List ai} (h:dP l) (x:ai):(h5 l x).length=l.length+1:=by
 have:=congrArg List.length (h.split x)
 unfold h5
 simp at this⊢
 omega
theorem dP.tD {l:List ai} (h:dP l) {x:ai} (ak:cI l x=false):dP (h5 l x):=by
 refine List.pairwise_append.2 ⟨h.filter _,List.pairwise_cons.2 ⟨fun y bs=>?_,h.filter _⟩,fun a a6 b av=>?_⟩
 ·have rq:=List.mem_filter.1 bs
  have h1:=List.any_eq_false.1 ak y rq.1
  have ae:¬dB y x:=by simpa using rq.2
  by_cases aA:dB x y
  ·exact aA
  ·exact absurd (UG ae aA) h1
 ·have mK:dB a x:=by simpa using (List.mem_filter.1 a6).2
  rcases List.mem_cons.1 av with rfl | av
  ·exact mK
  ·have hP:=List.mem_filter.1 av
   have h1:=List.any_eq_false.1 ak b hP.1
   have ae:¬dB b x:=by simpa using hP.2
   by_cases aA:dB x b
   ·exact UF mK aA
   ·exact absurd (UG ae aA) h1
theorem IF (l:List ai) (x:ai):cI (eu l x) x=false:=by
 refine List.any_eq_false.2 fun y bs=>?_
 have:=(List.mem_filter.1 bs).2
 simpa using this
theorem dP.IG {l:List ai} (h:dP l) {x:ai} (ak:cI l x=true):l.set (cD l x) x=h5 (eu l x) x:=by
 rcases h.gb x with ⟨_,p,aW,ad,hm⟩ | ⟨h',_⟩
 rotate_left
 ·rw [ak] at h';cases h'
 have aH:=(List.getElem?_eq_some_iff.1 aW).1
 have alY:dP (eu l x):=h.filter _
 have eH:low (eu l x) x=low l x:=by
  unfold low eu
  rw [List.filter_filter]
  refine List.filter_congr fun y _=>?_
  by_cases bs:dB y x
  ·have:eU y x=false:=by
                   cases e:eU y x;· rfl
                   ·exact absurd bs (zq e)
   simp [bs,this]
  ·simp [bs]
 have h1:cD (eu l x) x=cD l x:=by unfold cD;rw [eH]
 have hle:(l.take (cD l x)).length=cD l x:=by rw [List.length_take];omega
 rw [List.set_eq_take_append_cons_drop,if_pos aH,alY.ins,h1,h.rm ak,List.take_left' hle,List.drop_left' hle]
 simp
theorem UK {l:List ai} (h:dP l) {x:ai} (ak:cI l x=true):(eu l x).length+1=l.length:=by
 rcases h.gb x with ⟨_,p,aW,ad,hm⟩ | ⟨h',_⟩
 ·rw [h.rm ak]
  have aH:=(List.getElem?_eq_some_iff.1 aW).1
  simp
  omega
 ·rw [ak] at h';cases h'
def eZ (l cs:List ai):List ai:=l.filter fun y=>cs.all fun x=>!eU y x
theorem UL (l:List ai):eZ l []=l:=List.filter_eq_self.2 fun _ _=>rfl
theorem wl (l cs:List ai) (x:ai):eZ l (cs++[x])=eu (eZ l cs) x:=by
 unfold eZ eu
 rw [List.filter_filter]
 refine List.filter_congr fun y _=>?_
 rw [List.all_append]
 simp [Bool.and_comm]
theorem UM {l:List ai} (h:dP l) (p:ai→Bool):eZ l (l.filter p)=l.filter fun y=>!p y:=by
 refine List.filter_congr fun y bs=>?_
 cases aW:p y
 ·refine List.all_eq_true.2 fun x ak=>?_
  have vl:=List.mem_filter.1 ak
  cases e:eU y x
  ·rfl
  ·have:=h.uniq bs vl.1 e;subst this;rw [aW] at vl;cases vl.2
 ·refine List.all_eq_false.2 ⟨y,List.mem_filter.2 ⟨bs,aW⟩,?_⟩
  simp [jP.2 (show y.key=y.key∧y.ay=y.ay∧y.to=y.to from ⟨rfl,rfl,rfl⟩)]
theorem afk {l cs:List ai} (h:dP l) {x:ai} (ak:x ∈ l) (aG:x ∉ cs) (ad:∀ y ∈ cs,y ∈ l):x ∈ eZ l cs:=by
 refine List.mem_filter.2 ⟨ak,List.all_eq_true.2 fun y bs=>?_⟩
 cases e:eU x y
 ·rfl
 ·exact absurd (h.uniq ak (ad y bs) e ▸ bs) aG
theorem dP.eZ {l:List ai} (h:dP l) (cs:List ai):dP (eZ l cs):=h.filter _
structure hc (c:ai):Prop where
 lo:0≤c.ay
 le:c.ay≤c.to
 hi:c.to≤2 ^ 40
 del:c.del=false
def ml (g k t:Int) (x:ai):Bool:=decide (x.key=k∧x.ay - g≤t∧t≤x.to+g)
theorem xT {g k t:Int} {x:ai}:ml g k t x=true↔x.key=k∧x.ay - g≤t∧t≤x.to+g:=by simp [ml]
theorem li {g k t:Int} {x y:ai} (h:eU x y=true):ml g k t x=ml g k t y:=by
 obtain ⟨h1,ae,aA⟩:=jP.1 h
 unfold ml;rw [h1,ae,aA]
def found (g:Int) (l:List ai) (k t:Int):List ai:=l.filter (ml g k t)
def vj (g:Int) (l:List ai) (k t:Int):List ai:=l.filter fun x=>!ml g k t x
def jM (t:Int) (cs:List ai):Int:=cs.foldl (fun a c=>min a c.ay) t
def ki (t:Int) (cs:List ai):Int:=cs.foldl (fun a c=>max a c.to) t
theorem afl (t:Int) (cs:List ai) (c:ai):jM t (cs++[c])=min (jM t cs) c.ay:=by simp [jM]
theorem afm (t:Int) (cs:List ai) (c:ai):ki t (cs++[c])=max (ki t cs) c.to:=by simp [ki]
theorem KO:∀ (cs:List ai) (t:Int),jM t cs≤t∧∀ x ∈ cs,jM t cs≤x.ay
 | [],t=>⟨Int.le_refl _,by simp⟩
 | c::cs,t=>by
  obtain ⟨h1,ae⟩:=KO cs (min t c.ay)
  refine ⟨Int.le_trans h1 (by omega),fun x ak=>?_⟩
  rcases List.mem_cons.1 ak with rfl | ak
  ·exact Int.le_trans h1 (by omega)
  ·exact ae x ak
theorem QD:∀ (cs:List ai) (t:Int),jM t cs=t∨∃ x ∈ cs,jM t cs=x.ay
 | [],t=>.inl rfl
 | c::cs,t=>by
  rcases QD cs (min t c.ay) with h | ⟨x,ak,h⟩
  ·by_cases hm:t≤c.ay
   ·left;rw [Int.min_eq_left hm] at h;show jM (min t c.ay) cs=t;rw [Int.min_eq_left hm];exact h
   ·right;refine ⟨c,by simp,?_⟩;show jM (min t c.ay) cs=c.ay;rw [h];omega
  ·exact .inr ⟨x,by simp [ak],h⟩
theorem KQ:∀ (cs:List ai) (t:Int),t≤ki t cs∧∀ x ∈ cs,x.to≤ki t cs
 | [],t=>⟨Int.le_refl _,by simp⟩
 | c::cs,t=>by
  obtain ⟨h1,ae⟩:=KQ cs (max t c.to)
  refine ⟨Int.le_trans (by omega) h1,fun x ak=>?_⟩
  rcases List.mem_cons.1 ak with rfl | ak
  ·exact Int.le_trans (by omega) h1
  ·exact ae x ak
theorem QE:∀ (cs:List ai) (t:Int),ki t cs=t∨∃ x ∈ cs,ki t cs=x.to
 | [],t=>.inl rfl
 | c::cs,t=>by
  rcases QE cs (max t c.to) with h | ⟨x,ak,h⟩
  ·by_cases hm:c.to≤t
   ·left;show ki (max t c.to) cs=t;rw [h];omega
   ·right;refine ⟨c,by simp,?_⟩;show ki (max t c.to) cs=c.to;rw [h];omega
  ·exact .inr ⟨x,by simp [ak],h⟩
def eE (g:Int) (l:List ai) (k t v:Int):ai:=⟨k,jM t (found g l k t),ki t (found g l k t),v,false⟩
def tE (g:Int) (l:List ai) (k t v:Int):List ai:=h5 (vj g l k t) (eE g l k t v)
def gd (x:ai):ai:=⟨x.key,x.ay,x.to,0,true⟩
def j5 (c x:ai):Bool:=decide (x.ay≠c.ay)||decide (x.to≠c.to)
def gM (g:Int) (l:List ai) (k t v:Int):List ai:=((found g l k t).filter (j5 (eE g l k t v))).map gd++[eE g l k t v]
theorem UN {g:Int} (aB:0≤g) (l:List ai) (k t v:Int):ml g k t (eE g l k t v)=true:=by
 rw [xT]
 have h1:=(KO (found g l k t) t).1
 have ae:=(KQ (found g l k t) t).1
 exact ⟨rfl,by show jM _ _ - g≤t;omega,by show t≤ki _ _+g;omega⟩
theorem Zr {g:Int} (aB:0≤g) (l:List ai) (k t v:Int):cI (vj g l k t) (eE g l k t v)=false:=by
 refine List.any_eq_false.2 fun y bs ad=>?_
 have h1:=(List.mem_filter.1 bs).2
 rw [li ad,UN aB] at h1
 cases h1
theorem atb {g:Int} (aB:0≤g) {l:List ai} (h:dP l) (k t v:Int):dP (tE g l k t v):=(h.filter _).tD (Zr aB l k t v)
theorem QF {g:Int} {l:List ai} (h:∀ x ∈ l,hc x) {k t:Int} (v:Int) (h0:0≤t) (h1:t≤2 ^ 40):hc (eE g l k t v):=by
 have aC:∀ x ∈ found g l k t,hc x:=fun x ak=>h x (List.mem_filter.1 ak).1
 refine ⟨?_,?_,?_,rfl⟩
 ·rcases QD (found g l k t) t with e | ⟨x,ak,e⟩
  ·show 0≤jM _ _;omega
  ·have:=(aC x ak).lo;show 0≤jM _ _;omega
 ·exact Int.le_trans (KO _ _).1 (KQ _ _).1
 ·rcases QE (found g l k t) t with e | ⟨x,ak,e⟩
  ·show ki _ _≤_;omega
  ·have:=(aC x ak).hi;show ki _ _≤_;omega
theorem IH {g:Int} {l:List ai} {k t v:Int} {x:ai}:x ∈ tE g l k t v↔x=eE g l k t v∨x ∈ l∧ml g k t x=false:=by
 unfold tE
 rw [BS]
 unfold vj
 rw [List.mem_filter]
 simp
theorem atc {g:Int} {l:List ai} (h:∀ x ∈ l,hc x) {k t:Int} (v:Int) (h0:0≤t) (h1:t≤2 ^ 40):∀ x ∈ tE g l k t v,hc x:=fun x ak=>by
 rcases IH.1 ak with rfl | ak
 ·exact QF h v h0 h1
 ·exact h x ak.1
theorem afn (g:Int) (l:List ai) (k t:Int):(found g l k t).length+(vj g l k t).length=l.length:=by
 unfold found vj
 induction l with
 | nil=>rfl
 | cons a l ih=>cases h:ml g k t a<;>simp [h]<;>omega
theorem afo {g:Int} (aB:0≤g) {l:List ai} (h:dP l) (k t v:Int):eu (eZ l ((found g l k t).filter (j5 (eE g l k t v)))) (eE g l k t v)=vj g l k t:=by
 unfold eu eZ vj
 rw [List.filter_filter]
 refine List.filter_congr fun y bs=>?_
 cases bw:ml g k t y
 ·have h1:eU y (eE g l k t v)=false:=by
   cases e:eU y (eE g l k t v)
   ·rfl
   ·rw [li e,UN aB] at bw;cases bw
  rw [h1]
  simp only [Bool.not_false,Bool.true_and]
  refine List.all_eq_true.2 fun x ak=>?_
  have vl:=List.mem_filter.1 (List.mem_filter.1 ak).1
  cases e:eU y x
  ·rfl
  ·rw [li e,vl.2] at bw;cases bw
 ·cases e:eU y (eE g l k t v)
  ·simp only [Bool.not_false,Bool.not_true,Bool.true_and]
   refine List.all_eq_false.2 ⟨y,List.mem_filter.2 ⟨List.mem_filter.2 ⟨bs,bw⟩,?_⟩,by simp [eU]⟩
   have hk:=(xT.1 bw).1
   have ae:=UE.1 e
   unfold j5
   by_cases aA:y.ay=(eE g l k t v).ay
   ·have:y.to≠(eE g l k t v).to:=fun bk=>ae ⟨hk,aA,bk⟩
    simp [this]
   ·simp [aA]
  ·simp
structure Good (g:Int) (l:List ai) (P:List (Int×Int)):Prop where
 ha:dP l
 ok:∀ x ∈ l,hc x
 sep:∀ x ∈ l,∀ y ∈ l,x.key=y.key→eU x y=false→x.to+g<y.ay∨y.to+g<x.ay
 ay:∀ x ∈ l,(x.key,x.ay) ∈ P
 to:∀ x ∈ l,(x.key,x.to) ∈ P
 alZ:∀ k t,(k,t) ∈ P→∃ x ∈ l,x.key=k∧x.ay≤t∧t≤x.to
 UO:∀ x ∈ l,∀ t,x.ay<t→t≤x.to→∃ p,(x.key,p) ∈ P∧t - g≤p∧p<t
theorem Good.nil (g:Int):Good g [] []:=⟨List.Pairwise.nil,by simp,by simp,by simp,by simp,by simp,by simp⟩
theorem Good.put {g:Int} (aB:1≤g) {l:List ai} {P:List (Int×Int)} (w:Good g l P) {k t:Int} (v:Int) (h0:0≤t) (h1:t≤2 ^ 40):Good g (tE g l k t v) ((k,t)::P):=by
 obtain ⟨cw,a2⟩:=KO (found g l k t) t
 obtain ⟨dt,b1⟩:=KQ (found g l k t) t
 have a3:=QD (found g l k t) t
 have e9:=QE (found g l k t) t
 have jY:∀ x,x ∈ found g l k t↔x ∈ l∧x.key=k∧x.ay - g≤t∧t≤x.to+g:=fun x=>by unfold found;rw [List.mem_filter,xT]
 have cS:∀ x,ml g k t x=false↔¬(x.key=k∧x.ay - g≤t∧t≤x.to+g):=fun x=>by rw [←xT];cases ml g k t x<;>simp
 have UP:∀ x ∈ l,x.key=k→ml g k t x=false→x.to+g<jM t (found g l k t)∨ki t (found g l k t)+g<x.ay:=fun x ak at5 al0=>by
  have aG:t<x.ay - g∨x.to+g<t:=by have:=(cS x).1 al0;omega
  have yP:=w.ok x ak
  have hle:=yP.le
  rcases aG with aG | aG
  ·right
   rcases e9 with e | ⟨y,bs,e⟩
   ·omega
   ·have rq:=(jY y).1 bs
    have bZ:eU y x=false:=by
     cases aT:eU y x
     ·rfl
     ·have:=jP.1 aT;omega
    have:=w.sep y rq.1 x ak (by omega) bZ
    have:=(w.ok y rq.1).le
    omega
  ·left
   rcases a3 with e | ⟨y,bs,e⟩
   ·omega
   ·have rq:=(jY y).1 bs
    have bZ:eU y x=false:=by
     cases aT:eU y x
     ·rfl
     ·have:=jP.1 aT;omega
    have:=w.sep y rq.1 x ak (by omega) bZ
    have:=(w.ok y rq.1).le
    omega
 refine ⟨atb (by omega) w.ha k t v,atc w.ok v h0 h1,fun x ak y bs hk bZ=>?_,fun x ak=>?_,fun x ak=>?_,fun k' nV aW=>?_,fun x ak nV h1 ae=>?_⟩
 ·rcases IH.1 ak with rfl | ak<;>rcases IH.1 bs with rfl | bs
  ·rw [UE] at bZ;exact absurd ⟨rfl,rfl,rfl⟩ bZ
  ·have:=UP y bs.1 hk.symm bs.2
   show ki _ _+g<y.ay∨y.to+g<jM _ _
   omega
  ·have:=UP x ak.1 hk ak.2
   show x.to+g<jM _ _∨ki _ _+g<x.ay
   omega
  ·exact w.sep x ak.1 y bs.1 hk bZ
 ·rcases IH.1 ak with rfl | ak
  ·rcases a3 with e | ⟨y,bs,e⟩
   ·exact List.mem_cons.2 (.inl (by show (k,jM _ _)=_;rw [e]))
   ·have rq:=(jY y).1 bs
    refine List.mem_cons.2 (.inr ?_)
    show (k,jM _ _) ∈ P
    rw [e,←rq.2.1];exact w.ay y rq.1
  ·exact List.mem_cons.2 (.inr (w.ay x ak.1))
 ·rcases IH.1 ak with rfl | ak
  ·rcases e9 with e | ⟨y,bs,e⟩
   ·exact List.mem_cons.2 (.inl (by show (k,ki _ _)=_;rw [e]))
   ·have rq:=(jY y).1 bs
    refine List.mem_cons.2 (.inr ?_)
    show (k,ki _ _) ∈ P
    rw [e,←rq.2.1];exact w.to y rq.1
  ·exact List.mem_cons.2 (.inr (w.to x ak.1))
 ·rcases List.mem_cons.1 aW with e | aW
  ·cases e
   exact ⟨eE g l k t v,IH.2 (.inl rfl),rfl,cw,dt⟩
  ·obtain ⟨x,ak,ar,aT,cg⟩:=w.alZ k' nV aW
   cases bw:ml g k t x
   ·exact ⟨x,IH.2 (.inr ⟨ak,bw⟩),ar,aT,cg⟩
   ·have aaw:x ∈ found g l k t:=List.mem_filter.2 ⟨ak,bw⟩
    have:=a2 x aaw
    have:=b1 x aaw
    exact ⟨eE g l k t v,IH.2 (.inl rfl),by rw [←ar];exact (xT.1 bw).1.symm,by show jM _ _≤nV;omega,by show nV≤ki _ _;omega⟩
 ·rcases IH.1 ak with rfl | ak
  ·replace h1:jM t (found g l k t)<nV:=h1
   replace ae:nV≤ki t (found g l k t):=ae
   have key:∀ p,(k,p) ∈ P∨p=t→nV - g≤p→p<nV→∃ p,((eE g l k t v).key,p) ∈ (k,t)::P∧nV - g≤p∧p<nV:=fun p aW ar aT=>by
    refine ⟨p,List.mem_cons.2 ?_,ar,aT⟩
    rcases aW with aW | rfl
    ·exact .inr aW
    ·exact .inl rfl
   by_cases hle:nV≤t
   ·rcases a3 with e | ⟨z,b4,e⟩
    ·omega
    ·have BT:=(jY z).1 b4
     by_cases al1:nV≤z.to
     ·obtain ⟨p,aW,ar,aT⟩:=w.UO z BT.1 nV (by omega) al1
      rw [BT.2.1] at aW
      exact key p (.inl aW) ar aT
     ·have:=w.to z BT.1
      rw [BT.2.1] at this
      exact key z.to (.inl this) (by omega) (by omega)
   ·rcases e9 with e | ⟨z,b4,e⟩
    ·omega
    ·have BT:=(jY z).1 b4
     by_cases al2:z.ay<nV
     ·obtain ⟨p,aW,ar,aT⟩:=w.UO z BT.1 nV al2 (by omega)
      rw [BT.2.1] at aW
      exact key p (.inl aW) ar aT
     ·exact key t (.inr rfl) (by omega) (by omega)
  ·obtain ⟨p,aW,ar,aT⟩:=w.UO x ak.1 nV h1 ae
   exact ⟨p,List.mem_cons.2 (.inr aW),ar,aT⟩
theorem dP.n0:∀ {a b:List ai},dP a→dP b→(∀ x,x ∈ a↔x ∈ b)→a=b
 | [],[],_,_,_=>rfl
 | [],q::r,_,_,h=>by have:=(h q).2 (by simp);cases this
 | q::r,[],_,_,h=>by have:=(h q).1 (by simp);cases this
 | p::r,q::s,a6,av,h=>by
  have mK:=List.pairwise_cons.1 a6
  have hP:=List.pairwise_cons.1 av
  have KS:∀ x:ai,¬dB x x:=fun x=>zq (jP.2 ⟨rfl,rfl,rfl⟩)
  have Fw:p=q:=by
   rcases List.mem_cons.1 ((h p).1 (by simp)) with h1 | h1
   ·exact h1
   ·rcases List.mem_cons.1 ((h q).2 (by simp)) with ae | ae
    ·exact ae.symm
    ·exact absurd (hP.1 p h1) (afj (mK.1 q ae))
  subst Fw
  congr 1
  refine dP.n0 mK.2 hP.2 fun x=>⟨fun ak=>?_,fun ak=>?_⟩
  ·rcases List.mem_cons.1 ((h x).1 (by simp [ak])) with e | e
   ·subst e;exact absurd (mK.1 x ak) (KS x)
   ·exact e
  ·rcases List.mem_cons.1 ((h x).2 (by simp [ak])) with e | e
   ·subst e;exact absurd (hP.1 x ak) (KS x)
   ·exact e
def bf (c:ai):List V:=[.int .i64 c.key,.complex .f64 (f64 c.ay) (f64 c.to),.int .i64 c.val]
theorem qZ (c:ai):(bf c).length=3:=rfl
theorem II (c:ai):(bf c).all (·.one)=true:=rfl
theorem afp (c:ai):bl (bf c):=bl.cons (bh.int _ _) (bl.cons (bh.complex _ _ _) (bl.cons (bh.int _ _) bl.nil))
theorem vT (c:ai):(V.agg (bf c)).cells=some [.int .i64 c.key,.complex .f64 (f64 c.ay) (f64 c.to),.int .i64 c.val]:=rfl
theorem afq (c:ai):(V.agg (aw c)).cells=some [.int .i64 c.key,.int .i64 c.ay,.int .i64 c.to,.int .i64 c.val,.bool c.del]:=rfl
theorem UQ (n:Int) (h0:0≤n) (h1:n≤2 ^ 40) (h:J):qJ Tryz.prog 328 2 (.float .f64 (f64 n)) h=some (.int .i64 n) :=
 aki Ii sx (afi n h0 h1) (by show -9223372036854775808≤n;omega) (by show n≤9223372036854775807;omega)
theorem Ax (c:ai) (aF:hc c) (h:J):Pure Tryz.prog 170 [.agg (bf c)] h (.int .i64 c.ay):=by
 refine Pure.val (bh.int _ _) ?_
 refine ab.ao (c:=_) Tryz.func170 rfl (by kernel_rfl) (by simp) ?_
 have cc:=vT c
 have Nw:=UQ c.ay aF.lo (by have:=aF.le;have:=aF.hi;omega)
 simp only [aa,Nat.reduceEqDiff,Nat.reduceAdd,Nat.reduceLeDiff,akb,ake,Te,Tk,cc,Nw,aI,Tryz.results170,ac]
 exact au ⟨rfl,(I.push _ _ _)⟩
theorem Ay (c:ai) (aF:hc c) (h:J):Pure Tryz.prog 165 [.agg (bf c)] h (.int .i64 c.to):=by
 refine Pure.val (bh.int _ _) ?_
 refine ab.ao (c:=_) Tryz.func165 rfl (by kernel_rfl) (by simp) ?_
 have cc:=vT c
 have Nw:=UQ c.to (by have:=aF.lo;have:=aF.le;omega) aF.hi
 simp only [aa,Nat.reduceEqDiff,Nat.reduceAdd,Nat.reduceLeDiff,akc,akf,Te,Tk,cc,Nw,aI,Tryz.results165,ac]
 exact au ⟨rfl,(I.push _ _ _)⟩
theorem IJ (c:ai) (aF:hc c) (h:J):Pure Tryz.prog 171 [.agg (bf c)] h (.agg (aw c)):=by
 refine Pure.val (bh.agg (wI _)) ?_
 refine ab.ao (c:=_) Tryz.func171 rfl (by kernel_rfl) (by simp) ?_
 have cc:=vT c
 simp only [aa,ks,cc]
 refine aP.aY none_ [9] (.q 0 (.q 1 (.q 2 (.c 3 (.q 4 (.c 5 (.q 6 (.q 7 (.q 8 (.a 9 .done)))))))))) (by kernel_rfl) (by kernel_rfl) (by kernel_rfl) ?_
 simp only [aa,bD,Nat.reduceEqDiff,Nat.reduceAdd,z7,br,ia]
 refine gE rfl rfl rfl (fun h' _=>Ax c aF h') ?_
 simp only [aa,bD,Nat.reduceEqDiff,Nat.reduceAdd,ia]
 refine gE rfl rfl rfl (fun h' _=>Ay c aF h') ?_
 simp only [aa,bD,Nat.reduceEqDiff,Nat.reduceAdd,Nat.reduceLeDiff,adp,br,j0,tU,ks,mz,aI,Tryz.results171,xM,eI]
 have bb:=aF.del
 exact au ⟨by unfold aw;rw [bb],(I.push _ _ _).a8 _⟩
theorem Nx (c:ai) (aF:hc c) (h:J):Pure Tryz.prog 166 [.agg (bf c)] h (.agg (aw (gd c))):=by
 refine Pure.val (bh.agg (wI _)) ?_
 refine ab.ao (c:=_) Tryz.func166 rfl (by kernel_rfl) (by simp) ?_
 have cc:=vT c
 simp only [aa,ks,cc]
 refine aP.aY none_ [7] (.q 0 (.q 1 (.q 2 (.c 3 (.q 4 (.c 5 (.q 6 (.a 7 .done)))))))) (by kernel_rfl) (by kernel_rfl) (by kernel_rfl) ?_
 simp only [aa,bD,Nat.reduceEqDiff,Nat.reduceAdd,z7,br,ia]
 refine gE rfl rfl rfl (fun h' _=>Ax c aF h') ?_
 simp only [aa,bD,Nat.reduceEqDiff,Nat.reduceAdd,ia]
 refine gE rfl rfl rfl (fun h' _=>Ay c aF h') ?_
 simp only [aa,bD,Nat.reduceEqDiff,Nat.reduceAdd,Nat.reduceLeDiff,j0,tU,ks,mz,aI,Tryz.results166,xM,eI]
 exact au ⟨rfl,(I.push _ _ _).a8 _⟩
theorem IK (c:ai) (h:J):Pure Tryz.prog 175 [.agg (aw c)] h (.agg (bf c)):=by
 refine Pure.val (bh.agg (afp _)) ?_
 refine ab.ao (c:=_) Tryz.func175 rfl (by kernel_rfl) (by simp) ?_
 have cc:=afq c
 have i1:qJ Tryz.prog 2 328 (.int .i64 c.ay)=fun _=>some (.float .f64 (f64 c.ay)):=funext fun h=>Qh sx Ii
 have i2:qJ Tryz.prog 2 328 (.int .i64 c.to)=fun _=>some (.float .f64 (f64 c.to)):=funext fun h=>Qh sx Ii
 simp only [aa,Nat.reduceEqDiff,Nat.reduceAdd,Nat.reduceLeDiff,aka,akd,Qh,akj,akk,Ii,CR,mw,rB,xb,sx,br,ia,adL,BI,zp,cc,aI,Tryz.results175,xM,eI]
 exact au ⟨rfl,(I.push _ _ _).a8 _⟩
def ho (t:Int):Bool:=decide (0≤t)&&decide (t≤1099511627776)
theorem C3 {t:Int}:ho t=true↔0≤t∧t≤2 ^ 40:=by simp [ho]
theorem Az (t:Int) (h:J):Pure Tryz.prog 169 [.int .i64 t] h (.bool (ho t)):=by
 refine Pure.val (bh.bool _) ?_
 refine ab.ao (c:=_) Tryz.func169 rfl (by kernel_rfl) (by simp) ?_
 cases d1:decide (0≤t)
 ·simp only [aa,Nat.reduceEqDiff,reduceCtorEq,d1,aI,Tryz.results169,ac]
  exact au ⟨by rw [ho,d1];rfl,I.refl _ _⟩
 ·simp only [aa,Nat.reduceEqDiff,reduceCtorEq,d1,aI,Tryz.results169,ac]
  exact au ⟨by rw [ho,d1];rfl,I.refl _ _⟩
theorem Ny {α:Type} (A M X:List α) {a:Nat} (a6:A.length=a):lay (A++M) a X=A++X++M.drop X.length:=by
 unfold lay
 rw [←a6,List.take_left,show A.length+X.length=A.length+X.length from rfl,List.drop_append]
 simp
theorem afr {α:Type} (A M X B:List α) {a x b:Nat} (a6:A.length=a) (ak:X.length=x) (av:B.length=b) (hm:M.length=x+b):lay (lay (A++M) a X) (a+x) B=A++X++B:=by
 rw [Ny A M X a6,Ny (A++X) _ B (by simp [a6,ak])]
 rw [List.drop_of_length_le (l:=M.drop X.length) (by simp;omega)]
 simp
theorem afs {α:Type} (c A B X:List α) {a x b:Nat} (bw:c.take (a+b)=A++B) (a6:A.length=a) (av:B.length=b) (ak:X.length=x) (aM:a+x+b≤c.length) :
  ∃ R,lay (lay c (a+x) B) a X=A++X++(B++R)∧(lay (lay c (a+x) B) a X).length=c.length:=by
 have h1:c.take a=A:=by
  have:=congrArg (List.take a) bw
  rw [List.take_take,Nat.min_eq_left (by omega),←a6,List.take_left] at this
  rw [←a6];exact this
 have ff:(lay c (a+x) B).length=c.length:=qc _ _ _ (by omega)
 refine ⟨c.drop (a+x+b),?_,by rw [qc _ _ _ (by omega),ff]⟩
 have ar:(lay c (a+x) B).take a=A:=by
  unfold lay
  rw [List.append_assoc,List.take_append_of_le_length (by rw [List.length_take];omega),List.take_take,Nat.min_eq_left (by omega),h1]
 have aT:(lay c (a+x) B).drop (a+x)=B++c.drop (a+x+b):=by
  unfold lay
  rw [List.append_assoc,List.drop_append_of_le_length (by rw [List.length_take];omega),List.drop_of_length_le (by rw [List.length_take];omega),av]
  simp
 generalize lay c (a+x) B=d at ar aT ff
 unfold lay
 rw [ar,ak,aT]
theorem Nz:x1 Tryz.prog 255:=⟨_,Tryz.func255,by kernel_rfl,by kernel_rfl,by kernel_rfl,by kernel_rfl,273,292,3,4,by kernel_rfl,by kernel_rfl,Tryz.underlying273,by kernel_rfl⟩
theorem aft (i len cap k j:Nat) (c cs xs:List V) (ex:Option Nat) (h:J) (o:qN h 292 3 i len cap c ex cs) (aM:len<2 ^ 40) (hk:k≤len) (aX:h.get j=.cells xs 292 none) (jS:j<h.n) (gP:j≠i)
  (ak:xs.length=3) (b3:xs.all (·.one)=true) (gK:cs.all (·.one)=true):ab Tryz.prog 212 [.bp i 0 len cap,.int .i64 (k:Nat),.bp j 0 1 1] h
   (fun r h'=>Own h' 292 3 r (cs.take (k * 3)++xs++cs.drop (k * 3))∧I h h' (fun q=>q=i)∧bQ h (.bp i 0 len cap) r):=by
 refine ab.ao (c:=_) Tryz.func212 rfl (by kernel_rfl) (by simp) ?_
 have jI:=o
 obtain ⟨hi,aB,hlen,cu,hu,fj,jT⟩:=jI
 have bd:((1:Nat):Int)=1:=rfl
 have s1:=wz (P:=Tryz.prog) (t:=273) (i:=i) (o:=0) (len:=len) (cap:=cap) (k:=.i64) qR hu hk jT
 have nk:Own h 292 3 (.bp j 0 1 1) xs:=.inr ⟨j,1,1,xs,none,rfl,jS,aX,by rw [ak],by rw [List.take_of_length_le (by omega)],.inl ⟨by unfold cN;omega,by omega,Nat.le_refl _⟩⟩
 have eh:=w1 (P:=Tryz.prog) (t:=273) px nk (n:=1) (by rw [ak]) (by decide) b3
 by_cases p3:k=len
 ·subst p3
  have d1:((k:Int)==(k:Int))=true:=by simp
  obtain ⟨v',h',ei,k8,gk,gB⟩:=wv (P:=Tryz.prog) (t:=273) (tx:=273) tC (by decide) o.own eh (by rw [ak];rfl) (fun m hm=>by
   change m * 3=_ at hm
   rw [hlen,ak] at hm
   exact ⟨by simp only [lim];omega,by simp only [lim];omega⟩)
  simp only [aa,Int.reduceBEq,Nat.reduceEqDiff,reduceCtorEq,px,s1,bd,ei,aI,Tryz.results212,ac]
  refine au ⟨?_,gk.mono fun q af=>(Option.some.inj af).symm,gB⟩
  rw [List.take_of_length_le (by omega),List.drop_of_length_le (by omega),List.append_nil]
  exact k8
 have p3:k<len:=by omega
 have d1:((k:Int)==(len:Int))=false:=by simp;omega
 have c9:=kf (i:=len) (n:=len+1) (by omega) (by omega)
 have sD:=kf (i:=k) (n:=len) (by omega) (by omega)
 have aF:=YP (P:=Tryz.prog) (t:=273) (i:=i) (o:=0) (len:=len) tC hu
 have fN:(cs.take (k * 3)).length=k * 3:=by rw [List.length_take];omega
 have h3:(cs.drop (k * 3)).length=(len - k) * 3:=by rw [List.length_drop];omega
 have cp:(c.drop (k * 3)).take ((len - k) * 3)=cs.drop (k * 3):=by rw [←cu,List.drop_take];congr 1;omega
 have rI:((c.drop (k * 3)).take ((len - k) * 3)).all (·.one)=true:=by
  rw [cp,List.all_eq_true]
  exact fun v aN=>List.all_eq_true.1 gK v (List.mem_of_mem_drop aN)
 have nm:(xs.drop 0).take (1 * 3)=xs:=by rw [List.drop_zero,List.take_of_length_le (by omega)]
 by_cases gI:cap<len+1
 ·have d2:decide ((cap:Int)<((len+1:Nat):Int))=true:=decide_eq_true (by omega)
  have s2:=DG (P:=Tryz.prog) (t:=273) (i:=i) (o:=0) (len:=len) (cap:=cap) (k:=.i64) (m:=k) qR hu (by omega)
  have b0:IntKind.i64.wrap (((len+1:Nat):Int) - (k:Int))=((len+1 - k:Nat):Int):=by rw [Go.IntWalk.i64_in _ (by omega)];omega
  have ar:=YQ (P:=Tryz.prog) (t:=273) (kq:=.i64) (o:=0) (len:=k) (cap:=cap) (n:=len+1 - k) (kn:=.i64) (tn:=3) tC (by kernel_rfl) (by decide) aB (by omega) hu (by omega) (by simp only [lim];omega) (by simp only [lim];omega) (by simp only [];omega)
  simp only [List.drop_zero] at ar
  have kl:k+(len+1 - k)=len+1:=by omega
  rw [kl] at ar
  obtain ⟨H1,du⟩:∃ y,y=h.push (.cells (c.take (k * 3)++made [V.int .i64 0,V.complex .f64 0 0,V.int .i64 0] (len+1 - k)) 292 (some 3)):=⟨_,rfl⟩
  rw [←du] at ar
  have g1:H1.get h.n=.cells (c.take (k * 3)++made [V.int .i64 0,V.complex .f64 0 0,V.int .i64 0] (len+1 - k)) 292 (some 3):=by rw [du];exact b6
  have vR:H1.get j=.cells xs 292 none:=by rw [du,kM jS];exact aX
  have lu:H1.get i=.cells c 292 ex:=by rw [du,kM hi];exact aB
  have eL:H1.n=h.n+1:=by rw [du];rfl
  have bo:I h H1 none_:=by rw [du];exact I.push _ _ _
  have im:kz Tryz.prog 273 (.bp h.n 0 (len+1) cN) (some (.int .i64 (k:Int))) none none=some (.bp h.n (0+k * 3) (len+1 - k) (cN+0+k)):=m4 (a:=0) qR (by omega)
  have oe:kz Tryz.prog 273 (.bp h.n 0 (len+1) cN) (some (.int .i64 ((k+1:Nat):Int))) none none=some (.bp h.n (0+(k+1) * 3) (len+1 - (k+1)) (cN+0+(k+1))):=m4 (a:=0) qR (by omega)
  rw [Nat.zero_add,Nat.add_zero] at im oe
  have rJ:c.take (k * 3)=cs.take (k * 3):=by rw [←cu,List.take_take,Nat.min_eq_left (by omega)]
  have hJ:(made [V.int .i64 0,V.complex .f64 0 0,V.int .i64 0] (len+1 - k)).length=(len+1 - k) * 3:=A5 _ _
  have aT:=zi (P:=Tryz.prog) (t:=273) (tx:=273) (o:=k * 3) (dl:=len+1 - k) (dc:=cN+k) (p:=0) (n:=1) (d:=1) (m:=1) tC g1 vR (by show min 1 (len+1 - k)=1;omega) (by decide) (by simp only [];omega) (by rw [List.length_append,hJ,rJ,fN];simp only [];omega) (by rw [nm];exact b3)
  rw [nm] at aT
  obtain ⟨bI,bA⟩:∃ y,y=H1.set h.n (.cells (lay (c.take (k * 3)++made [V.int .i64 0,V.complex .f64 0 0,V.int .i64 0] (len+1 - k)) (k * 3) xs) 292 (some 3)):=⟨_,rfl⟩
  rw [←bA] at aT
  have g2:bI.get h.n=.cells (lay (c.take (k * 3)++made [V.int .i64 0,V.complex .f64 0 0,V.int .i64 0] (len+1 - k)) (k * 3) xs) 292 (some 3):=by rw [bA];exact aL
  have tk:bI.get i=.cells c 292 ex:=by rw [bA,jF (by omega)];exact lu
  have eY:(lay (c.take (k * 3)++made [V.int .i64 0,V.complex .f64 0 0,V.int .i64 0] (len+1 - k)) (k * 3) xs).length=(len+1) * 3:=by rw [qc _ _ _ (by rw [List.length_append,hJ,rJ,fN,ak];omega),List.length_append,hJ,rJ,fN];omega
  have k2:I h bI none_:=by rw [bA];exact bo.trans (I.set _ _ _) fun q af U=>by omega
  have Ao:=wz (P:=Tryz.prog) (t:=273) (i:=i) (o:=0) (len:=len) (cap:=cap) (k:=.i64) (l:=k) qR hu hk jT
  rw [if_neg (by omega),Nat.zero_add] at Ao
  have cg:=zi (P:=Tryz.prog) (t:=273) (tx:=273) (o:=(k+1) * 3) (dl:=len+1 - (k+1)) (dc:=cN+(k+1)) (p:=k * 3) (n:=len - k) (d:=cap - k) (m:=len - k) tC g2 tk (by show min (len - k) (len+1 - (k+1))=len - k;omega) (by omega) (by simp only [];omega) (by rw [eY];simp only [];omega) rI
  simp only at cg
  rw [cp] at cg
  rw [show (k+1) * 3=k * 3+3 by omega] at oe cg
  rw [rJ,afr (cs.take (k * 3)) (made [V.int .i64 0,V.complex .f64 0 0,V.int .i64 0] (len+1 - k)) xs (cs.drop (k * 3)) fN ak h3 (by rw [hJ];omega)] at cg
  simp only [aa,Int.reduceBEq,Nat.reduceEqDiff,reduceCtorEq,px,s1,bd,d1,c9,aF,d2,s2,b0,ar,im,aT]
  refine aP.aY none_ [8] (.q 0 (.q 1 (.q 2 (.q 3 (.q 4 (.q 5 (.q 6 (.q 7 (.a 8 .done))))))))) (by kernel_rfl) (by kernel_rfl) (by kernel_rfl) ?_
  simp only [aa,bD,Nat.reduceEqDiff,reduceCtorEq,sD,oe,Ao,cg,aI,Tryz.results212,ac]
  refine au ⟨?_,?_,.inr fun q af=>?_⟩
  ·refine Own.grown (by rw [iw,bA,iw,eL];omega) aL ?_
   simp only [List.length_append,fN,h3,ak];omega
  ·exact (k2.trans (I.set _ _ _) fun q af U=>by omega).up
  ·simp only [aR,Option.some.injEq] at af;omega
 ·have d2:decide ((cap:Int)<((len+1:Nat):Int))=false:=decide_eq_false (by omega)
  have j2:len+1≤cap:=by omega
  have s2:=DG (P:=Tryz.prog) (t:=273) (i:=i) (o:=0) (len:=len) (cap:=cap) (k:=.i64) (m:=len+1) qR hu j2
  have im:=wz (P:=Tryz.prog) (t:=273) (i:=i) (o:=0) (len:=len+1) (cap:=cap) (k:=.i64) (l:=k+1) qR hu (by omega) j2
  rw [if_neg (by omega),Nat.zero_add] at im
  have oe:=wz (P:=Tryz.prog) (t:=273) (i:=i) (o:=0) (len:=len+1) (cap:=cap) (k:=.i64) (l:=k) qR hu (by omega) j2
  rw [if_neg (by omega),Nat.zero_add] at oe
  have uP:wc h [.bp j 0 1 1,.bp i ((k+1) * 3) (len+1 - (k+1)) (cap - (k+1))]=some (.bool false):=by
   cases c with
   | nil=>simp at fj;omega
   | cons mE Ap=>simp [wc,aX,aB,gP]
  have dk:len * 3+3≤c.length:=by omega
  have aT:=zi (P:=Tryz.prog) (t:=273) (tx:=273) (o:=(k+1) * 3) (dl:=len+1 - (k+1)) (dc:=cap - (k+1)) (p:=k * 3) (n:=len+1 - k) (d:=cap - k) (m:=len - k) tC aB aB (by show min (len+1 - k) (len+1 - (k+1))=len - k;omega) (by omega) (by simp only [];omega) (by simp only [];omega) rI
  simp only at aT
  rw [cp] at aT
  obtain ⟨R,e1,wH⟩:=afs c (cs.take (k * 3)) (cs.drop (k * 3)) xs (a:=k * 3) (x:=3) (b:=(len - k) * 3) (by rw [List.take_append_drop,show k * 3+(len - k) * 3=len * 3 by omega];exact cu) fN h3 ak (by omega)
  rw [show (k+1) * 3=k * 3+3 by omega] at im uP aT
  obtain ⟨H1,du⟩:∃ y,y=h.set i (.cells (lay c (k * 3+3) (cs.drop (k * 3))) 292 ex):=⟨_,rfl⟩
  rw [←du] at aT
  have g1:H1.get i=.cells (lay c (k * 3+3) (cs.drop (k * 3))) 292 ex:=by rw [du];exact aL
  have vR:H1.get j=.cells xs 292 none:=by rw [du,jF gP];exact aX
  have bo:I h H1 (fun q=>q=i):=by rw [du];exact I.set _ _ _
  have eL:H1.n=h.n:=by rw [du];rfl
  have ff:(lay c (k * 3+3) (cs.drop (k * 3))).length=c.length:=qc _ _ _ (by rw [h3];omega)
  have cg:=zi (P:=Tryz.prog) (t:=273) (tx:=273) (o:=k * 3) (dl:=len+1 - k) (dc:=cap - k) (p:=0) (n:=1) (d:=1) (m:=1) tC g1 vR (by show min 1 (len+1 - k)=1;omega) (by decide) (by simp only [];omega) (by rw [ff];simp only [];omega) (by rw [nm];exact b3)
  simp only at cg
  rw [nm] at cg
  simp only [aa,Int.reduceBEq,Nat.reduceEqDiff,reduceCtorEq,px,s1,bd,d1,c9,aF,d2,s2,sD,im]
  refine Yp adC Nz uP ?_
  simp only [aa,Nat.reduceEqDiff,reduceCtorEq]
  refine aP.aY none_ [8] (.q 0 (.q 1 (.q 2 (.q 3 (.q 4 (.q 5 (.q 6 (.q 7 (.a 8 .done))))))))) (by kernel_rfl) (by kernel_rfl) (by kernel_rfl) ?_
  simp only [aa,bD,Nat.reduceEqDiff,reduceCtorEq,sD,im,oe,aT,cg,aI,Tryz.results212,ac]
  refine au ⟨.inr ⟨i,len+1,cap,_,ex,rfl,by rw [iw,eL];exact hi,aL,?_,?_,.inl ⟨hu,by rw [wH];exact fj,j2⟩⟩,bo.trans' (I.set _ _ _),.inl rfl⟩
  ·simp only [List.length_append,fN,h3,ak];omega
  ·rw [e1,←List.append_assoc]
   exact List.take_left' (by simp only [List.length_append,fN,h3,ak];omega)
theorem afu (v:V) (k j:Nat) (cs xs:List V) (h:J) (o:Own h 292 3 v cs) (aM:cs.length<2 ^ 40) (hk:k * 3≤cs.length) (aX:h.get j=.cells xs 292 none) (jS:j<h.n) (gP:aR v≠some j)
  (ak:xs.length=3) (b3:xs.all (·.one)=true) (gK:cs.all (·.one)=true):ab Tryz.prog 212 [v,.int .i64 (k:Nat),.bp j 0 1 1] h
   (fun r h'=>Own h' 292 3 r (cs.take (k * 3)++xs++cs.drop (k * 3))∧I h h' (bn v)∧bQ h v r):=by
 refine ab.yh o (by decide) (fun aN aF=>?_) fun i len cap c ex ae aN ok fA kk aG=>?_
 ·subst aF
  obtain rfl:k=0:=by simp at hk;omega
  have nk:Own h 292 3 (.bp j 0 1 1) xs:=.inr ⟨j,1,1,xs,none,rfl,jS,aX,by rw [ak],by rw [List.take_of_length_le (by omega)],.inl ⟨by unfold cN;omega,by omega,Nat.le_refl _⟩⟩
  have eh:=w1 (P:=Tryz.prog) (t:=273) px nk (n:=1) (by rw [ak]) (by decide) b3
  obtain ⟨v',h',ei,k8,gk,gB⟩:=wv (P:=Tryz.prog) (t:=273) (tx:=273) tC (by decide) o eh (by rw [ak];rfl) (fun m hm=>by
   change m * 3=_ at hm
   rw [ak] at hm
   simp only [List.length_nil] at hm
   exact ⟨by simp only [lim];omega,by simp only [lim];omega⟩)
  obtain ⟨e,jU,b4⟩:=Bi (P:=Tryz.prog) qR
  have bd:((1:Nat):Int)=1:=rfl
  have mE:((0:Nat):Int)=0:=rfl
  have fin:Own h' 292 3 v' (([]:List V).take (0 * 3)++xs++([]:List V).drop (0 * 3))∧I h h' (bn v)∧bQ h v v':=⟨by simpa using k8,gk,gB⟩
  rcases aN with rfl | rfl
  ·have s1:kz Tryz.prog 273 .ah (some (.int .i64 0)) none none=some .ah:=by unfold kz;rw [jU];simp only [b4];rfl
   refine ab.ao (c:=_) Tryz.func212 rfl (by kernel_rfl) (by simp) ?_
   simp only [aa,Int.reduceBEq,Nat.reduceEqDiff,reduceCtorEq,px,mE,s1,bd,ei,aI,Tryz.results212,ac]
   exact au fin
  ·have s1:kz Tryz.prog 273 .z0 (some (.int .i64 0)) none none=some .z0:=by unfold kz;rw [jU];simp only [b4];rfl
   refine ab.ao (c:=_) Tryz.func212 rfl (by kernel_rfl) (by simp) ?_
   simp only [aa,Int.reduceBEq,Nat.reduceEqDiff,reduceCtorEq,px,mE,s1,bd,ei,aI,Tryz.results212,ac]
   exact au fin
 ·have nM:aR v=some i:=by rcases aN with rfl | rfl<;>rfl
  have dJ:j≠i:=fun U=>gP (by rw [nM,U])
  have hlen:=ok.2.2.1
  refine (aft i len cap k j c cs xs ex ae ok (by omega) (by omega) ((kk.get j jS dJ).trans aX) (by omega) dJ ak b3 gK).mono fun r h' ⟨o',k',n'⟩=>⟨o',(kk.trans' k').mono fun q af=>by subst af;exact nM,?_⟩
  rcases n' with n' | n'
  ·exact .inl (by rw [n',nM];rfl)
  ·exact .inr fun q af=>by have:=n' q af;omega
theorem afv (i len cap k:Nat) (c cs:List V) (ex:Option Nat) (h:J) (o:qN h 292 3 i len cap c ex cs) (aM:len<2 ^ 40) (hk:k<len) (gK:cs.all (·.one)=true) :
  ab Tryz.prog 211 [.bp i 0 len cap,.int .i64 (k:Nat),.int .i64 ((k+1:Nat):Int)] h
   (fun r h'=>Own h' 292 3 r (cs.take (k * 3)++cs.drop ((k+1) * 3))∧I h h' (fun q=>q=i)∧aR r=some i):=by
 refine ab.ao (c:=_) Tryz.func211 rfl (by kernel_rfl) (by simp) ?_
 have jI:=o
 obtain ⟨hi,aB,hlen,cu,hu,fj,jT⟩:=jI
 obtain ⟨fQ,qW⟩:=YS (P:=Tryz.prog) (t:=273) (i:=i) (o:=0) (len:=len) (cap:=cap) (k:=.i64) (k2:=.i64) (k3:=.i64) (l:=k) (m:=k+1) (n:=len) qR hu (by omega) (by omega) jT
 have d1:((k:Int)==((k+1:Nat):Int))=false:=by simp;omega
 have s1:=DG (P:=Tryz.prog) (t:=273) (i:=i) (o:=0) (len:=len) (cap:=cap) (k:=.i64) (m:=k) qR hu (by omega)
 have s2:=wz (P:=Tryz.prog) (t:=273) (i:=i) (o:=0) (len:=len) (cap:=cap) (k:=.i64) (l:=k+1) qR hu (by omega) jT
 have fN:(cs.take (k * 3)).length=k * 3:=by rw [List.length_take];omega
 have h3:(cs.drop ((k+1) * 3)).length=(len - (k+1)) * 3:=by rw [List.length_drop];omega
 have cp:(c.drop ((k+1) * 3)).take ((len - (k+1)) * 3)=cs.drop ((k+1) * 3):=by rw [←cu,List.drop_take];congr 1;omega
 have dk:len * 3≤c.length:=by omega
 have xf:∃ b,kz Tryz.prog 273 (.bp i 0 len cap) (some (.int .i64 ((k+1:Nat):Int))) none none=some b∧iC Tryz.prog 3 273 b h=some (len - (k+1),cs.drop ((k+1) * 3)):=by
  refine ⟨_,s2,?_⟩
  obtain ⟨e,jU,b4⟩:=Bi (P:=Tryz.prog) qR
  have b3:(cs.drop ((k+1) * 3)).all (·.one)=true:=List.all_eq_true.2 fun v aN=>List.all_eq_true.1 gK v (List.mem_of_mem_drop aN)
  unfold iC
  simp only [jU]
  by_cases rn:cap=k+1
  ·rw [if_pos rn]
   have de:len - (k+1)=0:=by omega
   simp only [aB,de,Nat.zero_mul,List.take_zero]
   rw [if_pos ⟨by omega,rfl⟩,List.drop_of_length_le (by omega)]
  ·rw [if_neg rn,Nat.zero_add]
   simp only [aB]
   rw [cp,if_pos ⟨by omega,b3⟩]
 obtain ⟨b,av,eh⟩:=xf
 have hA:qN h 292 3 i k cap c ex (cs.take (k * 3)):=⟨hi,aB,fN,by rw [←cu,List.take_take,Nat.min_eq_left (by omega)],hu,fj,by omega⟩
 obtain ⟨lL,pJ,l6,x0⟩:∃ lL,n2 Tryz.prog 273 273 (.bp i 0 k cap) b h=some (.bp i 0 (len - 1) cap,h.set i (.cells lL 292 ex))∧lL.length=c.length∧lL.take ((len - 1) * 3)=cs.take (k * 3)++cs.drop ((k+1) * 3):=by
  obtain ⟨he,b4,bz,lz,iP,_⟩:=wm (P:=Tryz.prog) tC
  unfold n2
  simp only [he,b4,bz,lz,eh,List.length_cons,List.length_nil,if_true,Nat.zero_add,Nat.reduceAdd]
  by_cases de:len - (k+1)=0
  ·refine ⟨c,?_,rfl,?_⟩
   ·rw [if_pos de,show len - 1=k by omega,P3 aB]
   ·rw [show len - 1=k by omega,hA.2.2.2.1,List.drop_of_length_le (by omega),List.append_nil]
  ·refine ⟨lay c (k * 3) (cs.drop ((k+1) * 3)),?_,qc _ _ _ (by rw [h3];omega),?_⟩
   ·rw [if_neg de,if_pos ⟨by simp only [lim];omega,by simp only [lim];omega⟩]
    simp only [aB]
    rw [if_pos hu,if_pos (by omega),if_pos (by omega),show k+(len - (k+1))=len - 1 by omega]
   ·rw [PL _ _ _ _ (by rw [h3];omega) (by omega)]
    have:c.take ((len - 1) * 3)=cs.take (k * 3)++(c.drop (k * 3)).take ((len - 1 - k) * 3):=by
     rw [←hA.2.2.2.1,show (len - 1) * 3=k * 3+(len - 1 - k) * 3 by omega,List.take_add]
    rw [this,Ny _ _ _ fN,List.drop_of_length_le (l:=(c.drop (k * 3)).take ((len - 1 - k) * 3)) (by rw [List.length_take,List.length_drop,h3];omega),List.append_nil]
 obtain ⟨H1,du⟩:∃ y,y=h.set i (.cells lL 292 ex):=⟨_,rfl⟩
 rw [←du] at pJ
 have g1:H1.get i=.cells lL 292 ex:=by rw [du];exact aL
 have im:=YR (P:=Tryz.prog) (t:=273) (i:=i) (o:=0) (len:=len - 1) (cap:=cap) (k:=.i64) (k2:=.i64) (l:=len - 1) (m:=len) qR hu (by omega) jT
 rw [if_neg (by omega),Nat.zero_add] at im
 have wC:Bb Tryz.prog 273 (.bp i ((len - 1) * 3) (len - (len - 1)) (cap - (len - 1))) H1=some (H1.set i (.cells (lay lL ((len - 1) * 3) (made [V.int .i64 0,V.complex .f64 0 0,V.int .i64 0] 1)) 292 ex)):=by
  obtain ⟨he,b4,bz,lz,iP,_⟩:=wm (P:=Tryz.prog) tC
  unfold Bb
  simp only [he,b4,g1]
  rw [show len - (len - 1)=1 by omega,if_neg (by decide),if_pos ⟨rfl,by rw [A5,l6];simp only [List.length_cons,List.length_nil];omega⟩]
 simp only [aa,Nat.reduceEqDiff,reduceCtorEq,px,qW,d1]
 refine aP.aY none_ [6] (.q 0 (.q 1 (.q 2 (.q 3 (.q 4 (.q 5 (.a 6 (.q 7 .done)))))))) (by kernel_rfl) (by kernel_rfl) (by kernel_rfl) ?_
 simp only [aa,bD,Nat.reduceEqDiff,reduceCtorEq,px,s1,av,pJ,im,wC,aI,Tryz.results211,ac]
 refine au ⟨.inr ⟨i,len - 1,cap,_,ex,rfl,by rw [iw,du,iw];exact hi,aL,?_,?_,.inl ⟨hu,?_,by omega⟩⟩,?_,rfl⟩
 ·rw [List.length_append,fN,h3];omega
 ·have hm:(made [V.int .i64 0,V.complex .f64 0 0,V.int .i64 0] 1).length=3:=rfl
  unfold lay
  rw [List.append_assoc,List.take_append_of_le_length (by rw [List.length_take];omega),List.take_take,Nat.min_self,x0]
 ·rw [qc _ _ _ (by rw [A5,l6];simp only [List.length_cons,List.length_nil];omega),l6];exact fj
 ·rw [du];exact (I.set _ _ _).trans' (I.set _ _ _)
theorem afw (v:V) (k:Nat) (cs:List V) (h:J) (o:Own h 292 3 v cs) (aM:cs.length<2 ^ 40) (hk:(k+1) * 3≤cs.length) (gK:cs.all (·.one)=true) :
  ab Tryz.prog 211 [v,.int .i64 (k:Nat),.int .i64 ((k+1:Nat):Int)] h
   (fun r h'=>Own h' 292 3 r (cs.take (k * 3)++cs.drop ((k+1) * 3))∧I h h' (bn v)∧bQ h v r):=by
 refine ab.yh o (by decide) (fun aN aF=>?_) fun i len cap c ex ae aN ok fA kk aG=>?_
 ·subst aF;simp at hk
 ·have nM:aR v=some i:=by rcases aN with rfl | rfl<;>rfl
  have hlen:=ok.2.2.1
  refine (afv i len cap k c cs ex ae ok (by omega) (by omega) gK).mono fun r h' ⟨o',k',n'⟩=>⟨o',(kk.trans' k').mono fun q af=>by subst af;exact nM,.inl (by rw [n',nM])⟩
def gN (x y:Int):Int:=if x<y then -1 else if y<x then 1 else 0
theorem UR (h:J) (x:Int):Pure Tryz.prog 251 [.int .i64 x] h (.bool false):=by
 refine Pure.val (bh.bool _) ?_
 refine ab.ao (c:=_) Tryz.func251 rfl (by kernel_rfl) (by simp) ?_
 have e:(x !=x)=false:=by simp
 simp only [aa,Nat.reduceEqDiff,reduceCtorEq,aI,Tryz.results251,ac]
 exact au ⟨rfl,I.refl _ _⟩
theorem FI (h:J) (x y:Int):Pure Tryz.prog 203 [.int .i64 x,.int .i64 y] h (.int .i64 (gN x y)):=by
 refine Pure.val (bh.int _ _) ?_
 refine ab.ao (c:=_) Tryz.func203 rfl (by kernel_rfl) (by simp) ?_
 simp only [aa,Int.reduceNeg,Nat.reduceEqDiff,reduceCtorEq]
 refine bB SZ (UR h x) ?_
 simp only [aa,Int.reduceNeg,Nat.reduceEqDiff]
 refine bB SZ (UR h y) ?_
 by_cases h1:x<y
 ·have d1:decide (x<y)=true:=decide_eq_true h1
  simp only [aa,Int.reduceNeg,Nat.reduceEqDiff,reduceCtorEq,d1,aI,Tryz.results203,ac]
  exact au ⟨by rw [gN,if_pos h1],I.refl _ _⟩
 ·have d1:decide (x<y)=false:=decide_eq_false h1
  by_cases ae:y<x
  ·have d2:decide (y<x)=true:=decide_eq_true ae
   simp only [aa,Int.reduceNeg,Nat.reduceEqDiff,reduceCtorEq,d1,d2,aI,Tryz.results203,ac]
   exact au ⟨by rw [gN,if_neg h1,if_pos ae],I.refl _ _⟩
  ·have d2:decide (y<x)=false:=decide_eq_false ae
   simp only [aa,Int.reduceNeg,Nat.reduceEqDiff,reduceCtorEq,d1,d2,aI,Tryz.results203,ac]
   exact au ⟨by rw [gN,if_neg h1,if_neg ae],I.refl _ _⟩
def j6 (l:List Int):Int:=match l with | []=>0 | x::r=>if x=0 then j6 r else x
theorem US (h:J) (l:List Int) (aM:l.length≤2 ^ 40):Pure Tryz.prog 202 [.ag l.length (aO l)] h (.int .i64 (j6 l)):=by
 refine Pure.val (bh.int _ _) ?_
 refine ab.ao (c:=_) Tryz.func202 rfl (by kernel_rfl) (by simp) ?_
 simp only [aa,Nat.reduceEqDiff,reduceCtorEq,mh]
 refine aP.bG (α:=Nat) (fun x f h'=>h'=h∧f 3=.int .i64 0∧f 6=.ag l.length (aO l)∧f 7=.int .i64 (l.length:Nat)∧f 8=.int .i64 (x:Nat)∧x≤l.length∧j6 l=j6 (l.drop x)) (fun x=>l.length - x) 0
  ⟨rfl,rfl,rfl,rfl,rfl,Nat.zero_le _,rfl⟩ ?_
 rintro t f h' ⟨rfl,f3,f6,f7,f8,bw,bc⟩
 refine dw (by kernel_rfl) ?_
 by_cases aH:t<l.length
 ·have d1:decide ((t:Int)<((l.length:Nat):Int))=true:=decide_eq_true (by omega)
  have hw:IntKind.i64.wrap ((t:Int)+1)=((t+1:Nat):Int):=by rw [Go.IntWalk.i64_in _ (by omega)];omega
  have bR:∃ r,ir Tryz.prog 24 (.ag l.length (aO l)) (.int .i64 (t:Int))=some (.at (.int .i64 l[t]::r)):=⟨_,RE (V.int .i64) aH kr⟩
  obtain ⟨r,bR⟩:=bR
  rw [List.drop_eq_getElem_cons aH,j6] at bc
  generalize l[t]=x at bR bc
  by_cases ak:x=0
  ·have ar:(x !=0)=false:=by simp [ak]
   rw [if_pos ak] at bc
   simp only [aa,Nat.reduceEqDiff,a7,f3,f6,f7,f8,d1,bR,ar,hw]
   exact au ⟨t+1,⟨rfl,f3,f6,f7,rfl,aH,bc⟩,by omega⟩
  ·have ar:(x !=0)=true:=by simp [ak]
   rw [if_neg ak] at bc
   simp only [aa,Nat.reduceEqDiff,a7,f3,f6,f7,f8,d1,bR,ar,aI,Tryz.results202,ac]
   exact au ⟨by rw [bc],I.refl _ _⟩
 ·have d1:decide ((t:Int)<((l.length:Nat):Int))=false:=decide_eq_false (by omega)
  rw [List.drop_of_length_le (by omega)] at bc
  simp only [aa,Nat.reduceEqDiff,f3,f7,f8,d1,aI,Tryz.results202,ac]
  exact au ⟨by rw [bc];rfl,I.refl _ _⟩
def wJ (a b:ai):Int:=j6 [gN a.key b.key,gN a.ay b.ay,gN a.to b.to]
theorem afx (a b:ai):decide (wJ a b<0)=decide (dB a b):=by
 refine decide_eq_decide.2 ?_
 unfold wJ j6 j6 j6 j6 gN dB
 repeat' split
 all_goals omega
theorem afy (a b:ai):(wJ a b==0)=eU a b:=by
 rw [Bool.eq_iff_iff,jP]
 unfold wJ j6 j6 j6 j6 gN
 simp only [beq_iff_eq]
 repeat' split
 all_goals omega
theorem UT (a b:ai) (a6:hc a) (av:hc b) (h:J):Pure Tryz.prog 254 [.agg (bf a),.agg (bf b)] h (.int .i64 (wJ a b)):=by
 refine Pure.val (bh.int _ _) ?_
 refine ab.ao (c:=_) Tryz.func254 rfl (by kernel_rfl) (by simp) ?_
 have wV:=vT a
 have PV:=vT b
 simp only [aa,Nat.reduceEqDiff,wV,PV]
 refine aP.aY none_ [15,16] (.q 0 (.q 1 (.q 2 (.q 3 (.c 4 (.q 5 (.c 6 (.q 7 (.c 8 (.c 9 (.q 10 (.c 11 (.q 12 (.c 13 (.c 14 (.e 15 (.a 16 (.q 17 .done)) .stop)))))))))))))))) (by kernel_rfl) (by kernel_rfl) (by kernel_rfl) ?_
 simp only [aa,bD,Nat.reduceEqDiff,Nat.reduceAdd,z7,br]
 refine gE rfl rfl rfl (fun h' _=>FI h' a.key b.key) ?_
 simp only [aa,bD,Nat.reduceEqDiff,Nat.reduceAdd,ia]
 refine gE rfl rfl rfl (fun h' _=>Ax a a6 h') ?_
 simp only [aa,bD,Nat.reduceEqDiff,Nat.reduceAdd,ia]
 refine gE rfl rfl rfl (fun h' _=>Ax b av h') ?_
 simp only [bD]
 refine gE rfl rfl rfl (fun h' _=>FI h' a.ay b.ay) ?_
 simp only [aa,bD,Nat.reduceEqDiff,Nat.reduceAdd,ia]
 refine gE rfl rfl rfl (fun h' _=>Ay a a6 h') ?_
 simp only [aa,bD,Nat.reduceEqDiff,Nat.reduceAdd,ia]
 refine gE rfl rfl rfl (fun h' _=>Ay b av h') ?_
 simp only [bD]
 refine gE rfl rfl rfl (fun h' _=>FI h' a.to b.to) ?_
 unfold wJ
 generalize gN a.key b.key=x
 generalize gN a.ay b.ay=y
 generalize gN a.to b.to=z
 have NA:∀ H:J,lk Tryz.prog 24 3 [(0,.int .i64 x),(1,.int .i64 y),(2,.int .i64 z)] H=some (.bp H.n 0 3 3,H.push (.cells (aO [x,y,z]) 3 none)):=fun H=>by rw [p0 tc];rfl
 obtain ⟨h0,BU⟩:∃ y,y=(h.push (.cells (bf a) 292 none)).push (.cells (bf b) 292 none):=⟨_,rfl⟩
 have dC:I h h0 none_:=by rw [BU];exact (I.push _ _ _).a8 _
 unfold bf at BU
 simp only [aa,bD,Nat.reduceEqDiff,NA]
 rw [←BU]
 obtain ⟨ae,bH,k2⟩:=aK.lit (h:=h0) (c:=aO [x,y,z]) (e:=3) (n:=3) (sz:=1) rfl (by decide) (by decide)
 rw [show h0.n=h.n+1+1 by rw [BU];rfl] at bH
 refine bU SV (ab.args (az.cons bH (az.refl _ _)) (US ae [x,y,z] (by simp only [List.length_cons,List.length_nil];omega))) fun r aA ⟨cg,h8⟩=>?_
 subst cg
 simp only [aa,bD,Nat.reduceEqDiff,aI,Tryz.results254,ac]
 refine au ⟨rfl,?_⟩
 rw [h8]
 exact dC.trans' k2
theorem afz (l:List ai) (k:Nat) (p:ai) (hk:k<l.length):lay (l.flatMap bf) (k * 3) (bf p)=(l.set k p).flatMap bf:=by
 unfold lay
 rw [yf qZ,show k * 3+(bf p).length=(k+1) * 3 by rw [qZ];omega,wx qZ,List.set_eq_take_append_cons_drop,if_pos hk]
 simp
theorem tF {h:J} {v:V} {l:List ai} (o:Own h 292 3 v (l.flatMap bf)) {t:Nat} {p:ai} (aW:l[t]?=some p) :
  ∃ j r,ir Tryz.prog 273 v (.int .i64 (t:Int))=some (.ptr j (t * 3))∧aR v=some j∧j<h.n∧da (h.get j) (t * 3)=some (bf p++r) ∧
   ∀ q:ai,∃ ob,bM (some 3) (h.get j) (t * 3) (bf q)=some ob∧Own (h.set j ob) 292 3 v ((l.set t q).flatMap bf)∧I h (h.set j ob) (bn v):=by
 have bw:=(List.getElem?_eq_some_iff.1 aW).1
 have aU:(l.flatMap bf).length=l.length * 3:=iS qZ l
 have bb:((l.flatMap bf).drop (t * 3)).take 3=bf p:=by
  rw [wx qZ,show 3=1 * 3 from rfl,yf qZ,List.drop_eq_getElem_cons bw,(List.getElem?_eq_some_iff.1 aW).2]
  simp
 obtain ⟨j,cw,a2,a3,a4,a5⟩:=Qb (P:=Tryz.prog) (t:=273) (kk:=.i64) qR (by decide) o (k:=t) (by rw [aU];omega)
 obtain ⟨iN,h0⟩:=a4 h 0 rfl (by decide)
 rw [bb,List.drop_zero,Nat.add_zero] at h0
 refine ⟨j,iN,cw,a2,a3,h0,fun q=>?_⟩
 obtain ⟨ob,bd,bH,c3⟩:=a5 (bf q) (qZ q) (II q)
 rw [afz l t q bw] at bH
 exact ⟨ob,bd,bH,c3⟩
theorem UU {h h':J} {v:V} {l:List ai} (o:Own h 292 3 v (l.flatMap bf)):fU Tryz.prog 273 v h'=some (.int .i64 (l.length:Nat)):=by
 have aU:(l.flatMap bf).length=l.length * 3:=iS qZ l
 have:=o.length (by decide) Tryz.prog px
 rw [aU,Nat.mul_div_cancel _ (by decide)] at this
 rw [←this]
 rcases o with ⟨rfl | rfl,_⟩ | ⟨j,n,c,_,_,rfl,_⟩
 ·rw [Bf px,Bf px]
 ·rw [DE px,DE px]
 ·rw [DD px,DD px]
theorem He (p:ai) (r:List V):cX (some (some 3)) (some (bf p++r))=some (.agg (bf p)):=lC (qZ p)
theorem NB (v:V) (l:List ai) (x:ai) (h:J) (o:Own h 292 3 v (l.flatMap bf)) (ad:dP l) (ba:∀ y ∈ l,hc y) (ak:hc x) (aM:l.length<2 ^ 40) :
  Pure Tryz.prog 253 [v,.agg (bf x),.func (.func 254) [] []] h (.tuple [.int .i64 (cD l x:Nat),.bool (cI l x)]):=by
 refine Pure.val (bh.tuple (bl.cons (bh.int _ _) (bl.cons (bh.bool _) bl.nil))) ?_
 refine ab.ao (c:=_) Tryz.func253 rfl (by kernel_rfl) (by simp) ?_
 obtain ⟨H,hH⟩:∃ y,y=h.push (.cells (bf x) 292 none):=⟨_,rfl⟩
 have hW:H.get h.n=.cells (bf x) 292 none:=by rw [hH];exact b6
 have bq:I h H none_:=by rw [hH];exact I.push _ _ _
 have NC:=o.aQ bq
 have AA:=vT x
 have hlen:=UU (h':=H) NC
 have uW:cX (some (some 3)) (some (bf x))=some (.agg (bf x)):=rfl
 have zj:da (aV.cells (bf x) 292 none) 0=some (bf x):=rfl
 unfold bf at hH
 simp only [aa,Nat.reduceEqDiff,reduceCtorEq,AA]
 rw [←hH]
 clear hH
 have As:=UH l x
 simp only [aa,Nat.reduceEqDiff,hlen]
 refine aP.bG (α:=Nat×Nat) (fun z f h'=>h'=H∧f 0=v∧f 2=.func (.func 254) [] []∧f 4=.ptr h.n 0∧f 8=.int .i64 (l.length:Nat)∧f 9=.int .i64 (z.1:Nat)∧f 10=.int .i64 (z.2:Nat)∧z.1≤cD l x∧cD l x≤z.2∧z.2≤l.length) (fun z=>z.2 - z.1) (0,l.length)
  ⟨rfl,rfl,rfl,rfl,rfl,rfl,rfl,Nat.zero_le _,As,Nat.le_refl _⟩ ?_
 rintro ⟨lo,hi⟩ f h' ⟨rfl,f0,f2,f4,f8,f9,f10,cw,a2,a3⟩
 simp only at f9 f10 cw a2 a3
 refine dw (by kernel_rfl) ?_
 by_cases aH:lo<hi
 ·have d1:decide ((lo:Int)<(hi:Int))=true:=decide_eq_true (by omega)
  have c9:IntKind.i64.wrap ((lo:Int)+(hi:Int))=((lo+hi:Nat):Int):=by rw [Go.IntWalk.i64_in _ (by omega)];omega
  have b0:=P7 (n:=lo+hi) (by omega)
  have la:(((lo+hi:Nat):Int)).fdiv (2 ^ (min (Int.toNat 1) IntKind.u64.bits))=(((lo+hi) / 2:Nat):Int):=by
   rw [show (2:Int) ^ (min (Int.toNat 1) IntKind.u64.bits)=2 from rfl,Int.fdiv_eq_ediv_of_nonneg _ (by omega)];omega
  have xN:=YH (n:=(lo+hi) / 2) (by omega)
  have Ex:=kf (i:=(lo+hi) / 2) (n:=l.length) (by omega) (by omega)
  have sC:(lo+hi) / 2<l.length:=by omega
  have aW:l[(lo+hi) / 2]?=some l[(lo+hi) / 2]:=List.getElem?_eq_getElem sC
  generalize l[(lo+hi) / 2]=p at aW
  obtain ⟨j,r,bR,dn,uR,tV,_⟩:=tF NC aW
  have ld:=He p r
  have eJ:=ba p (List.mem_of_getElem? aW)
  simp only [aa,Nat.reduceEqDiff,f9,f10,d1,c9,iZ fb EP,b0,G3 (show (0:Int)≤1 by decide),la,iZ EP fb,xN]
  refine aP.aY none_ [] (.q 0 (.q 1 (.q 2 (.q 3 (.q 4 (.q 5 (.c 6 (.q 7 .done)))))))) (by kernel_rfl) (by kernel_rfl) (by kernel_rfl) ?_
  simp only [aa,bD,Nat.reduceEqDiff,reduceCtorEq,ia,f0,f2,f4,bR,tV,ld,hW,zj,uW]
  refine gE rfl rfl rfl (fun h' _=>UT p x eJ ak h') ?_
  have aF:=afx p x
  cases BV:decide (dB p x)
  ·rw [BV] at aF
   have aG:¬dB p x:=of_decide_eq_false BV
   have:¬(lo+hi) / 2<cD l x:=fun U=>aG (ad.FH U aW)
   simp only [aa,bD,Nat.reduceEqDiff,aF]
   exact au ⟨(lo,(lo+hi) / 2),⟨rfl,f0,f2,f4,f8,f9,rfl,cw,by simp only;omega,by simp only;omega⟩,by simp only;omega⟩
  ·rw [BV] at aF
   have aG:dB p x:=of_decide_eq_true BV
   have:¬cD l x≤(lo+hi) / 2:=fun U=>ad.uV U aW aG
   simp only [aa,bD,Nat.reduceEqDiff,aF,Ex]
   exact au ⟨((lo+hi) / 2+1,hi),⟨rfl,f0,f2,f4,f8,rfl,f10,by simp only;omega,a2,a3⟩,by simp only;omega⟩
 ·have d1:decide ((lo:Int)<(hi:Int))=false:=decide_eq_false (by omega)
  obtain rfl:lo=cD l x:=by omega
  by_cases uA:cD l x<l.length
  ·have d2:decide (((cD l x:Nat):Int)<((l.length:Nat):Int))=true:=decide_eq_true (by omega)
   have aW:l[cD l x]?=some l[cD l x]:=List.getElem?_eq_getElem uA
   generalize l[cD l x]=p at aW
   obtain ⟨j,r,bR,dn,uR,tV,_⟩:=tF NC aW
   have ld:=He p r
   have eJ:=ba p (List.mem_of_getElem? aW)
   have aF:=afy p x
   have U:eU p x=cI l x:=by
    rcases ad.gb x with ⟨ar,q,aT,cg,_⟩ | ⟨ar,aT⟩
    ·rw [aW] at aT;cases aT;rw [ar,cg]
    ·rw [ar];exact (aT p aW).2
   rw [U] at aF
   simp only [aa,Nat.reduceEqDiff,f9,f10,d1]
   refine aP.aY none_ [] (.q 0 (.q 1 (.q 2 (.q 3 (.q 4 (.q 5 (.q 6 (.q 7 (.q 8 (.q 9 (.q 10 (.c 11 (.q 12 (.q 13 (.q 14 (.q 15 .done)))))))))))))))) (by kernel_rfl) (by kernel_rfl) (by kernel_rfl) ?_
   simp only [aa,bD,Nat.reduceEqDiff,reduceCtorEq,ia,f0,f2,f4,f8,f9,d2,bR,tV,ld,hW,zj,uW]
   refine gE rfl rfl rfl (fun h' _=>UT p x eJ ak h') ?_
   simp only [aa,bD,Nat.reduceEqDiff,aF,aI,Tryz.results253,cW]
   exact au ⟨rfl,bq⟩
  ·have d2:decide (((cD l x:Nat):Int)<((l.length:Nat):Int))=false:=decide_eq_false (by omega)
   have U:cI l x=false:=by
    rcases ad.gb x with ⟨ar,q,aT,cg,_⟩ | ⟨ar,aT⟩
    ·have:=(List.getElem?_eq_some_iff.1 aT).1;omega
    ·exact ar
   simp only [aa,Nat.reduceEqDiff,f9,f10,d1]
   refine aP.aY none_ [] (.q 0 (.q 1 (.q 2 (.q 3 (.q 4 (.q 5 (.q 6 (.q 7 (.q 8 (.q 9 (.q 10 (.c 11 (.q 12 (.q 13 (.q 14 (.q 15 .done)))))))))))))))) (by kernel_rfl) (by kernel_rfl) (by kernel_rfl) ?_
   simp only [aa,bD,Nat.reduceEqDiff,f8,f9,d2]
   refine J0 rfl rfl ?_
   simp only [aa,bD,Nat.reduceEqDiff,aI,Tryz.results253,cW]
   exact au ⟨by rw [U],bq⟩
end Go.Proofs.YtedkjhifbibpmaaGreatDoor.Pk
