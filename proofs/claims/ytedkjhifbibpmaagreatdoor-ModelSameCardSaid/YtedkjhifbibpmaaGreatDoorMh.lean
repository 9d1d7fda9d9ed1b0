/-
  What functions of the program do, told of abstract states. Conditions: as each theorem says.
-/
import Derived.Test.YtedkjhifbibpmaaGreatDoorMg
import Derived.Test.YtedkjhifbibpmaaGreatDoorMe
import Derived.Test.YtedkjhifbibpmaaGreatDoorAbD
set_option linter.unusedVariables false
set_option linter.unusedSimpArgs false
set_option maxHeartbeats 8000000
set_option maxRecDepth 10000
namespace Go.Proofs.YtedkjhifbibpmaaGreatDoor.Pk
open Go Go.Proofs Go.Proofs.YtedkjhifbibpmaaGreatDoor.Ab
theorem dA.at {h:J} {aJ:cM} {id m:Nat} {b:At} {c:aZ} {s:bW} (k:dA h aJ id m b c s) {u:Nat} {K:df} (bE:c.cB u=Option.some K) {v:bu} (aN:c.l[u]?=Option.some v) :
  ∃ a O,db b.es (u:Int)=Option.some a∧fz h a O K v.e v.n (s.st u)∧cv v.e=true∧nX aJ (id,10+u) O ∧
   ∀ (h':J) (dG:List Nat) (ck:List ai),I h h' (· ∈ O)→c4 h O dG→fz h' a dG K v.e v.n ck→dA h' (dH aJ h.n h'.n (id,10+u)) id m b c { s with st:=fun w=>if w=u then ck else s.st w }:=by
 obtain ⟨a,O,x,h1,ae,aA,bk,bN⟩:=k.some u K bE
 rw [aN] at ae
 cases ae
 refine ⟨a,O,h1,aA,bN,bk,fun h' dG ck bO nl b7=>?_⟩
 obtain ⟨ar,gq,k5,lK,g1,g2,st⟩:=k.marks
 have k6:∀ q t,q<h.n→aJ q=(id,t)→t≠10+u→h'.get q=h.get q:=fun q t af bc bw=>bO.get q af fun U=>by rw [bk q U] at bc;simp at bc;omega
 have he:∀ q,q<h.n→dH aJ h.n h'.n (id,10+u) q=aJ q:=fun q af=>zr af
 refine ⟨Nat.lt_of_lt_of_le k.lt bO.n,(k6 _ _ k.lt k.own (by omega)).trans k.get,(he _ k.lt).trans k.own,⟨ar,Nat.lt_of_lt_of_le gq bO.n,Nat.lt_of_lt_of_le k5 bO.n,lK,(k6 _ _ gq k.e3.1 (by omega)).trans g1,(k6 _ _ k5 k.e3.2 (by omega)).trans g2,st⟩,
  ⟨(he _ gq).trans k.e3.1,(he _ k5).trans k.e3.2⟩,Nat.lt_of_lt_of_le k.iM bO.n,(k6 _ _ k.iM k.jN (by omega)).trans k.map,(he _ k.iM).trans k.jN,fun w uY hw=>?_,k.none⟩
 by_cases Lz:w=u
 ·subst Lz
  rw [bE] at hw
  cases hw
  exact ⟨a,dG,v,h1,aN,by simpa using b7,bk.new aA.lt nl b7.lt,bN⟩
 ·obtain ⟨a2,xU,dn,cq,cP,ey,iD,tb⟩:=k.some w uY hw
  refine ⟨a2,xU,dn,cq,cP,?_,iD.cH ey.lt he,tb⟩
  simp only [if_neg Lz]
  exact ey.aj bO fun q af U=>by have ar:=iD q af;rw [bk q U] at ar;simp at ar;omega
theorem e7.at {h:J} {aJ:cM} {id s m:Nat} {b:At} {c:aZ} {x:bL} (k:e7 h aJ id s m b c x) {u:Nat} {K:df} (bE:c.cB u=some K) {v:bu} (aN:c.l[u]?=some v) :
  ∃ a O,db b.es (u:Int)=some a∧fz h a O K v.e v.n (x.1.st u)∧cv v.e=true∧(∀ q ∈ O,aJ q=(id,10+u)) ∧
   ∀ (h':J) (dG:List Nat) (ck:List ai),I h h' (· ∈ O)→c4 h O dG→fz h' a dG K v.e v.n ck→∃ ow',eS id h aJ h' ow'∧e7 h' ow' id s m b c (hq u ck x):=by
 obtain ⟨a,O,h1,ae,aA,bk,bN⟩:=k.dq.at bE aN
 refine ⟨a,O,h1,ae,aA,bk,fun h' dG ck bO nl b7=>?_⟩
 obtain ⟨cb,bX,b9,cd,ad⟩:=k.mb
 have bV:=eS.dH (id:=id) k.ay bO (fun q af U=>by unfold b2;rw [bk q U];exact ⟨rfl,by show 5≤10+u;omega⟩) (id,10+u)
 exact ⟨_,bV,bN h' dG ck bO nl b7,⟨cb,bX,b9,cd,ad.aj bO (fun q af U t bN e2 e=>by rw [bk q U] at e;simp at e;omega) bV.cH⟩,bV.ay,k.rU.aj bO,k.ku⟩
theorem eS.step {id:Nat} {h h1 ae:J} {aJ ow':cM} (f:Fr h aJ) (k:I h h1 none_) (e:eS id h1 aJ ae ow'):eS id h aJ ae ow':=(eS.push f k).trans e
theorem Zx {K:df} {e:bF} {l:List ai} {r:Rec} {c:Int} (h:jz K e l r=.error c):c≠0:=by
 unfold jz at h
 split at h
 ·cases h;decide
 ·split at h
  ·cases h;decide
  ·split at h
   ·cases h;decide
   ·cases h
theorem ww {h h':J} {p:V} {l:Seen} {i j cl:Nat} (k:q2 h p l i j cl) (hk:I h h' none_∨h'=h):q2 h' p l i j cl:=by
 rcases hk with hk | rfl
 ·obtain ⟨ar,gq,k5,lK,g1,g2,st⟩:=k
  exact ⟨ar,Nat.lt_of_lt_of_le gq hk.n,Nat.lt_of_lt_of_le k5 hk.n,lK,(hk.get _ gq (by simp [none_])).trans g1,(hk.get _ k5 (by simp [none_])).trans g2,st⟩
 ·exact k
theorem WY {h h':J} {a:Nat} {O:List Nat} {K:df} {e:bF} {n:Int} {l:List ai} (s:fz h a O K e n l) (hk:I h h' none_∨h'=h):fz h' a O K e n l:=by
 rcases hk with hk | rfl
 ·exact s.aQ hk
 ·exact s
section
variable {id s m:Nat} {b:At} {c:aZ}
theorem OS {u:Nat} {v:bu} (aN:c.l[u]?=some v) {K:df} (bE:c.cB u=some K) {snd:Rec→bL→bL}
  (kJ:∀ (y:Rec) (h:J) (aJ:cM) (x:bL),e7 h aJ id s m b c x→Inv c x→sz x+24≤2 ^ 30→ab Tryz.prog 76 [.ptr s 0,.int .i64 u,.agg (aD y)] h (iG id s m b c h aJ (snd y x)))
  {h:J} {aJ:cM} {x:bL} (k:e7 h aJ id s m b c x) (i:Inv c x) (bz:sz x+2100≤2 ^ 30) (r:Rec) :
  ab Tryz.prog 187 [.ptr s 0,.int .i64 u,.agg (aD r)] h (iG id s m b c h aJ (rT K v u snd r x)):=by
 refine ab.ao (c:=_) Tryz.func187 rfl (by kernel_rfl) (by simp) ?_
 obtain ⟨cb,bX,b9,cd,ad⟩:=k.mb
 obtain ⟨H,hH⟩:∃ y,y=h.push (.cells (aD r) 38 none):=⟨_,rfl⟩
 have bq:I h H none_:=by rw [hH];exact I.push _ _ _
 have kO:H.get h.n=.cells (aD r) 38 none:=by rw [hH];exact b6
 have h9:H.n=h.n+1:=by rw [hH];rfl
 have gg:=k.aQ bq
 have gs:=(ad.aQ bq).get
 have dI:=gg.dq.get
 rw [pT] at dI
 have ld:cX (some (some 3)) (some (aD r))=some (.agg (aD r)):=rfl
 have d0:da (.cells (aD r) 38 none) 0=some (aD r):=rfl
 obtain ⟨a,O,a6,fG,oE,mW,wO⟩:=gg.at bE aN
 have iO:=lookup_int (P:=Tryz.prog) (ok:=false) (k:=(u:Int)) DO Hc gg.dq.map
 rw [a6] at iO
 have pU:n5 Tryz.prog 144 (.map b.mp) (.int .i64 (u:Int)) false H=some (.ptr a 0):=iO
 have sU:=gg.dq.marks
 simp only [aa,Nat.reduceEqDiff,reduceCtorEq,zZ,vO]
 rw [←hH]
 clear hH
 simp only [aa,Nat.reduceEqDiff,Nat.reduceAdd,Nat.reduceLeDiff,yw,yy,gs,dI,pU]
 refine aP.aY none_ [] (.q 0 (.q 1 (.q 2 (.q 3 (.q 4 (.q 5 (.q 6 (.q 7 (.q 8 (.c 9 (.c 10 .done))))))))))) (by kernel_rfl) (by kernel_rfl) (by kernel_rfl) ?_
 simp only [aa,bD,Nat.reduceEqDiff,Nat.reduceAdd,Nat.reduceLeDiff,reduceCtorEq,xQ,zZ,xR,dj,vO,gs,kO,ld,d0,dI]
 refine gE rfl rfl rfl (fun h' hk=>DY h' _ _ _ _ _ (ww sU hk)) ?_
 simp only [bD]
 refine gE rfl rfl rfl (fun h' hk=>agI (WY fG hk) r (leastOf x.1.ms)) ?_
 simp only [aa,bD,Nat.reduceEqDiff]
 have oA:=I9 bz
 cases gw:IQ K r (leastOf x.1.ms)
 rotate_left
 ·simp only [aa,Nat.reduceEqDiff,reduceCtorEq,dj,kO,ld,d0]
  refine bU zX (AU gg u r 13 oA) fun q ae ⟨ar,ie,bV,k2⟩=>?_
  subst ar
  simp only [aa,aI,Tryz.results187,kd]
  exact au ⟨rfl,ie,eS.step k.ay bq bV,by unfold rT;rw [if_pos gw];exact k2⟩
 have bj:rT K v u snd r x=(match jz K v.e (x.1.st u) r with
   | .error e=>mS u r e x
   | .ok N=>snd ⟨r.k,N,xj K (x.1.st u) r.k r.t⟩ (iF u (oZ K (x.1.st u) r.k r.t N) (hq u (om K (x.1.st u) r.k r.t N) x))):=by
  unfold rT;rw [if_neg (by rw [gw];decide)];cases jz K v.e (x.1.st u) r<;>rfl
 rw [bj]
 simp only [aa,Nat.reduceEqDiff,dj,kO,ld,d0]
 refine bU acV (agH fG oE gg.rU r) fun q ae ⟨dG,ar,bO,nl,b7⟩=>?_
 subst ar
 obtain ⟨ie,rX,k2⟩:=wO ae dG _ bO nl b7
 have ame:H.n=h.n+1:=h9
 have nS:=(bO.get h.n (by omega) (fun U=>by
  have ar:=mW _ U
  have aT:=k.ay h.n (Nat.le_refl _)
  rw [aT] at ar;simp at ar;exact absurd ar.1.symm k.ku)).trans kO
 have w:=i.wf u K bE
 cases pJ:jz K v.e (x.1.st u) r with
 | error e=>
  have e1:nQ K v.e (x.1.st u) r=oh e:=by unfold nQ;rw [pJ]
  have fT:hq u (jA K v.e (x.1.st u) r) x=x:=by
   have:jA K v.e (x.1.st u) r=x.1.st u:=by unfold jA;rw [pJ]
   rw [this]
   unfold hq
   have:(fun w=>if w=u then x.1.st u else x.1.st w)=x.1.st:=by funext w;split;rename_i e;rw [e];rfl
   rw [this]
  rw [fT] at k2
  have bZ:(e !=0)=true:=by
   have:=Zx pJ
   simpa using this
  rw [e1]
  unfold oh
  obtain ⟨bI,bA⟩:∃ y,y=ae.push (aV.cells [V.int .i64 0,V.int .i64 0,V.int .i64 0] 38 none):=⟨_,rfl⟩
  have hp:I ae bI none_:=by rw [bA];exact I.push _ _ _
  have kb:=(hp.get h.n (by have:=bO.n;omega) (by simp [none_])).trans nS
  simp only [aa,Nat.reduceEqDiff,Nat.reduceAdd,reduceCtorEq,dj,tS,xP,bZ]
  rw [←bA]
  clear bA
  simp only [aa,Nat.reduceEqDiff,kb,ld,d0]
  refine bU zX (AU (k2.aQ hp) u r e oA) fun q aA ⟨ar,jd,k7,k3⟩=>?_
  subst ar
  simp only [aa,aI,Tryz.results187,kd]
  exact au ⟨rfl,jd,eS.step k.ay bq (rX.trans (eS.step k2.ay hp k7)),k3⟩
 | ok N=>
  have e1:nQ K v.e (x.1.st u) r=hA r.k N (xj K (x.1.st u) r.k r.t) (eP (oZ K (x.1.st u) r.k r.t N)):=by unfold nQ;rw [pJ]
  obtain ⟨fT,ahP⟩:=I8 w pJ
  rw [fT] at k2
  rw [e1]
  unfold hA
  have t1:=Df (c:=c) (u:=u) (l:=om K (x.1.st u) r.k r.t N) (fun uY ae=>by rw [bE] at ae;cases ae;exact ahP) x i
  have t2:=y5 c u (oZ K (x.1.st u) r.k r.t N) _ t1.inv
  have dk:=rg w r.k r.t N
  have av:(hq u (om K (x.1.st u) r.k r.t N) x).2.verts.length+(hq u (om K (x.1.st u) r.k r.t N) x).2.chgs.length+(oZ K (x.1.st u) r.k r.t N).length≤2 ^ 30:=by
   have:=t1.sz;unfold sz at this bz;omega
  have kU:sz (iF u (oZ K (x.1.st u) r.k r.t N) (hq u (om K (x.1.st u) r.k r.t N) x))+24≤2 ^ 30:=by
   have:=t1.sz;have:=t2.sz;omega
  generalize xj K (x.1.st u) r.k r.t=T at *
  obtain ⟨bI,bA⟩:∃ y,y=ae.push (aV.cells [V.int .i64 r.k,V.int .i64 N,V.int .i64 T] 38 none):=⟨_,rfl⟩
  have hp:I ae bI none_:=by rw [bA];exact I.push _ _ _
  have ef:bI.n=ae.n+1:=by rw [bA];rfl
  have ahQ:bI.get ae.n=aV.cells [V.int .i64 r.k,V.int .i64 N,V.int .i64 T] 38 none:=by rw [bA];exact b6
  simp only [aa,Nat.reduceEqDiff,Nat.reduceAdd,reduceCtorEq,tS,xP]
  rw [←bA]
  clear bA
  refine bU CO (Dd (k2.aQ hp) u _ av) fun q aA ⟨ar,jd,k7,k3⟩=>?_
  subst ar
  have WZ:=(k7.aj.get ae.n (by omega) (fun U=>by
   unfold b2 at U
   rw [k2.ay ae.n (Nat.le_refl _)] at U
   exact k.ku U.1.symm)).trans ahQ
  simp only [aa,Nat.reduceEqDiff,Nat.reduceAdd,reduceCtorEq,dj,WZ]
  refine bU zY (kJ ⟨r.k,N,T⟩ aA jd _ k3 t2.inv kU) fun q bk ⟨ar,ea,ek,bY⟩=>?_
  subst ar
  simp only [aa,mG,Tryz.results187,kd]
  exact au ⟨rfl,ea,eS.step k.ay bq (rX.trans ((eS.step k2.ay hp k7).trans ek)),bY⟩
end
theorem QL (h:J):Pure Tryz.prog 56 [.cZ] h (.bool true):=by
 refine ab.ao (c:=_) Tryz.func56 rfl (by kernel_rfl) (by simp) ?_
 simp only [aa,Nat.reduceEqDiff,reduceCtorEq,ML,aI,Tryz.results56,ac]
 exact au ⟨rfl,rfl⟩
theorem ahR (key:Int) (h:J):Pure Tryz.prog 52 [.cZ,.int .i64 key] h (.int .i64 0):=by
 refine ab.ao (c:=_) Tryz.func52 rfl (by kernel_rfl) (by simp) ?_
 simp only [aa,Nat.reduceEqDiff,reduceCtorEq]
 refine bB yv (QL _) ?_
 simp only [aa,Nat.reduceEqDiff,aI,Tryz.results52,ac]
 exact au ⟨rfl,rfl⟩
theorem W0 (m:Int) (h:J):Pure Tryz.prog 18 [.cZ,.int .i64 m] h .ah:=by
 refine ab.ao (c:=_) Tryz.func18 rfl (by kernel_rfl) (by simp) ?_
 simp only [aa,Nat.reduceEqDiff,reduceCtorEq]
 refine bB yv (QL _) ?_
 simp only [aa,Nat.reduceEqDiff,aI,Tryz.results18,ac]
 exact au ⟨rfl,rfl⟩
theorem amf (h:J):Pure Tryz.prog 22 [.cZ] h .ah:=by
 refine ab.ao (c:=_) Tryz.func22 rfl (by kernel_rfl) (by simp) ?_
 simp only [aa,Nat.reduceEqDiff,reduceCtorEq]
 refine bB yv (QL _) ?_
 simp only [aa,Nat.reduceEqDiff,aI,Tryz.results22,ac]
 exact au ⟨rfl,rfl⟩
theorem e7.oB {h h':J} {aJ:cM} {id s m t:Nat} {b:At} {c:aZ} {x:bL} (k:e7 h aJ id s m b c x) (hk:I h h' (·=t)) (bw:aJ t=(0,0)):e7 h' aJ id s m b c x:=by
 obtain ⟨cb,bX,b9,cd,ad⟩:=k.mb
 refine ⟨k.dq.aj hk (fun q _ U=>by subst U;rw [bw];exact fun e=>k.ku e.symm) fun _ _=>rfl,⟨cb,bX,b9,cd,ad.aj hk (fun q _ U t2 _ _ e=>?_) fun _ _=>rfl⟩,fun q af=>k.ay q (Nat.le_trans hk.n af),k.rU.aj hk,k.ku⟩
 subst U
 rw [bw] at e
 exact k.ku (by simpa using (congrArg Prod.fst e).symm)
section
variable {id s m:Nat} {b:At} {c:aZ}
theorem ahS {u:Nat} {v:bu} (aN:c.l[u]?=some v) (aC:v.aS.length=2) (wA:∀ f ∈ v.aS,0≤f) {snd:Rec→bL→bL}
  (kJ:∀ (y:Rec) (h:J) (aJ:cM) (x:bL),e7 h aJ id s m b c x→Inv c x→sz x+24≤2 ^ 30→ab Tryz.prog 76 [.ptr s 0,.int .i64 u,.agg (aD y)] h (iG id s m b c h aJ (snd y x)))
  {h:J} {aJ:cM} {x:bL} (k:e7 h aJ id s m b c x) (i:Inv c x) (bz:sz x+24≤2 ^ 30) (r:Rec) :
  ab Tryz.prog 188 [.ptr s 0,.int .i64 u,.agg (aD r)] h (iG id s m b c h aJ (u5 c v u snd r x)):=by
 refine ab.ao (c:=_) Tryz.func188 rfl (by kernel_rfl) (by simp) ?_
 obtain ⟨cb,bX,b9,cd,ad⟩:=k.mb
 obtain ⟨H,hH⟩:∃ y,y=h.push (.cells (aD r) 38 none):=⟨_,rfl⟩
 have bq:I h H none_:=by rw [hH];exact I.push _ _ _
 have kO:H.get h.n=.cells (aD r) 38 none:=by rw [hH];exact b6
 have h9:H.n=h.n+1:=by rw [hH];rfl
 have gg:=k.aQ bq
 have gs:=(ad.aQ bq).get
 have dI:=gg.dq.get
 rw [pT] at dI
 have ld:cX (some (some 3)) (some (aD r))=some (.agg (aD r)):=rfl
 have d0:da (.cells (aD r) 38 none) 0=some (aD r):=rfl
 have W1:cX (some none) (some (aD r))=some (.int .i64 r.k):=rfl
 obtain ⟨hU,bR⟩:=Ki (kk:=.i64) aN
 have xq:cX (some (some 6)) (some (al v++hU))=some (.agg (al v)):=lC (hF v)
 have gT:(V.agg (al v)).cells=some (al v):=rfl
 have OT:bM (some 6) (aV.cells [V.int .i64 0,.ah,.int .i64 0,.int .i64 0,.ah,.int .i64 0] 29 none) 0 (al v)=some (.cells (al v) 29 none):=by
  obtain ⟨cB,ay,⟨o,q,ax⟩,n⟩:=v
  rfl
 simp only [aa,Nat.reduceEqDiff,reduceCtorEq,zZ,vO]
 rw [←hH]
 clear hH
 simp only [aa,Nat.reduceEqDiff,Nat.reduceAdd,CP,jH,mi,ji,nb,oc,gs,dI,bR,xq,gT,OT]
 obtain ⟨bI,bA⟩:∃ y,y=H.push (.cells (al v) 29 none):=⟨_,rfl⟩
 have hp:I H bI none_:=by rw [bA];exact I.push _ _ _
 have ef:bI.n=H.n+1:=by rw [bA];rfl
 have oT:bI.get H.n=.cells (al v) 29 none:=by rw [bA];exact b6
 have c6:=gg.aQ hp
 have q8:=(hp.get s (ad.aQ bq).lt (by simp [none_])).trans gs
 have p5:=c6.dq.get
 rw [pT] at p5
 have nS:=(hp.get h.n (by omega) (by simp [none_])).trans kO
 have Ja:da (.cells (al v) 29 none) 1=some (.ag v.aS.length (aO v.aS)::(aq v.e++[.int .i64 v.n])):=rfl
 have ahT:da (.cells (al v) 29 none) 2=some (aq v.e++[.int .i64 v.n]):=rfl
 have Cg:cX (some none) (some (.ag v.aS.length (aO v.aS)::(aq v.e++[.int .i64 v.n])))=some (.ag v.aS.length (aO v.aS)):=rfl
 have mR:cX (some (some 3)) (some (aq v.e++[.int .i64 v.n]))=some (.agg (aq v.e)):=lC (na v.e)
 have eO:v.aS.getD 1 0=v.aS[1]:=by rw [List.getD,List.getElem?_eq_getElem (by omega)];rfl
 have dn:∃ t,ir Tryz.prog 24 (.ag v.aS.length (aO v.aS)) (.int .i64 1)=some (.at (.int .i64 (v.aS.getD 1 0)::t)):=⟨_,by rw [eO];exact ra (P:=Tryz.prog) (kk:=.i64) (k:=1) (by omega) kr⟩
 obtain ⟨ahU,dn⟩:=dn
 have amg:0≤v.aS.getD 1 0:=by rw [eO];exact wA _ (List.getElem_mem _)
 obtain ⟨w,hw⟩:∃ w:Nat,v.aS.getD 1 0=(w:Int):=⟨(v.aS.getD 1 0).toNat,by omega⟩
 rw [hw] at dn
 have cS:c.table v r.k x.1=(match c.cB w with | some K=>xk K (x.1.st w) r.k | none=>0):=by unfold aZ.table;rw [hw];rfl
 have iH:∃ a,n5 Tryz.prog 144 (.map b.mp) (.int .i64 (w:Int)) false bI=some a∧∀ h',I bI h' none_∨h'=bI→Pure Tryz.prog 52 [a,.int .i64 r.k] h' (.int .i64 (c.table v r.k x.1)):=by
  have iO:=lookup_int (P:=Tryz.prog) (ok:=false) (k:=(w:Int)) DO Hc c6.dq.map
  cases bE:c.cB w with
  | none=>
   rw [c6.dq.none w bE] at iO
   refine ⟨.cZ,iO,fun h' _=>?_⟩
   rw [cS,bE]
   exact ahR r.k h'
  | some K=>
   obtain ⟨a,O,uR,cq,cP,ey,_,_⟩:=c6.dq.some w K bE
   rw [cq] at iO
   refine ⟨.ptr a 0,iO,fun h' hk=>?_⟩
   rw [cS,bE]
   exact agJ (WY ey hk) r.k
 obtain ⟨atu,iO,iH⟩:=iH
 have p6:∀ y,y=u5 c v u snd r x→y=(if cv v.e=true then (match b8 r.k r.v r.t (c.table v r.k x.1) 16 v.e with | some n=>snd ⟨r.k,n,r.t⟩ x | none=>mS u r 10 x) else mS u r 1 x):=fun y bs=>bs
 obtain ⟨Y,gF⟩:∃ Y,Y=u5 c v u snd r x:=⟨_,rfl⟩
 have p6:=p6 Y gF
 rw [←gF]
 clear gF
 generalize c.table v r.k x.1=T at cS iH p6
 rw [←bA]
 clear bA
 refine aP.aY none_ [] (.q 0 (.q 1 (.q 2 (.q 3 (.q 4 (.q 5 (.q 6 (.q 7 (.q 8 (.q 9 (.q 10 (.q 11 (.q 12 (.q 13 (.q 14 (.q 15 (.q 16 (.c 17 (.c 18 (.q 19 (.q 20 (.q 21 (.q 22 (.q 23 .done)))))))))))))))))))))))) (by kernel_rfl) (by kernel_rfl) (by kernel_rfl) ?_
 simp only [aa,bD,Nat.reduceEqDiff,Nat.reduceAdd,Nat.reduceLeDiff,reduceCtorEq,yw,zZ,oU,nF,tA,yy,br,lb,eG,a7,dj,vO,q8,p5,nS,oT,Ja,ahT,Cg,mR,dn,iO,ld,d0,W1]
 refine gE rfl rfl rfl (fun h' hk=>iH h' hk) ?_
 simp only [bD]
 refine gE rfl rfl rfl (fun h' hk=>WH v.e r.k r.v r.t T h' (hk.elim (fun q=>c6.rU.aj q) fun e=>by rw [e];exact c6.rU)) ?_
 unfold Cf
 have oA:=I9 bz
 have LA:eS id h aJ bI aJ:=eS.step k.ay bq (eS.push gg.ay hp)
 have fail:∀ (e:Int),Y=mS u r e x→e≠0→∀ h',iG id s m b c bI aJ (mS u r e x) (.tuple []) h'→iG id s m b c h aJ Y (.tuple []) h':=fun e bs _ h' ⟨_,jd,k7,k3⟩=>⟨rfl,jd,LA.trans k7,by rw [bs];exact k3⟩
 cases hm:cv v.e with
 | false=>
  rw [hm] at p6
  rw [if_neg (by decide)] at p6⊢
  have dt:((1:Int) !=0)=true:=rfl
  simp only [aa,bD,Nat.reduceEqDiff,reduceCtorEq,dj,nS,ld,d0,dt]
  refine bU zX (AU c6 u r 1 oA) fun q aA bb=>?_
  obtain ⟨ar,tm⟩:=bb
  subst ar
  simp only [aa,aI,Tryz.results188,kd]
  exact au (fail 1 p6 (by decide) aA ⟨rfl,tm⟩)
 | true=>
  rw [hm] at p6
  rw [if_pos rfl] at p6⊢
  cases LB:b8 r.k r.v r.t T 16 v.e with
  | none=>
   rw [LB] at p6
   unfold l5
   have dt:((10:Int) !=0)=true:=rfl
   simp only [aa,bD,Nat.reduceEqDiff,reduceCtorEq,dj,nS,ld,d0,dt]
   refine bU zX (AU c6 u r 10 oA) fun q aA bb=>?_
   obtain ⟨ar,tm⟩:=bb
   subst ar
   simp only [aa,aI,Tryz.results188,kd]
   exact au (fail 10 p6 (by decide) aA ⟨rfl,tm⟩)
  | some N=>
   rw [LB] at p6
   unfold l5
   have dt:((0:Int) !=0)=false:=rfl
   have W2:(if 2≤(aD r).length then some (aV.cells ((aD r).set 1 (V.int IntKind.i64 N)) 38 none) else none)=some (.cells (aD ⟨r.k,N,r.t⟩) 38 none):=rfl
   obtain ⟨gy,fx⟩:∃ y,y=bI.set h.n (.cells (aD ⟨r.k,N,r.t⟩) 38 none):=⟨_,rfl⟩
   have cG:I bI gy (·=h.n):=by rw [fx];exact I.set _ _ _
   have g5:gy.get h.n=.cells (aD ⟨r.k,N,r.t⟩) 38 none:=by rw [fx];exact aL
   have l3:=c6.oB cG (k.ay h.n (Nat.le_refl _))
   have qA:eS id h aJ gy aJ:=⟨fun _ _=>rfl,LA.aj.trans cG (fun q af U=>by omega),l3.ay,trivial⟩
   have d5:da (.cells (aD ⟨r.k,N,r.t⟩) 38 none) 0=some (aD ⟨r.k,N,r.t⟩):=rfl
   have W3:cX (some (some 3)) (some (aD ⟨r.k,N,r.t⟩))=some (.agg (aD ⟨r.k,N,r.t⟩)):=rfl
   simp only [aa,bD,Nat.reduceEqDiff,Nat.reduceAdd,reduceCtorEq,EO,dj,pA,nS,W2,d5,W3]
   rw [←fx]
   clear fx
   refine bU zY (kJ ⟨r.k,N,r.t⟩ gy aJ x l3 i bz) fun q bk ⟨ar,ea,ek,bY⟩=>?_
   subst ar
   simp only [aa,mG,Tryz.results188,kd]
   exact au ⟨rfl,ea,qA.trans ek,by rw [p6];exact bY⟩
end
structure fr (c:aZ):Prop where
 wP:(ct c.p c.l).2=0
 ok:kh c.l
theorem fr.len {c:aZ} (o:fr c):c.l.length≤24:=(Da o.wP).2.2.1
theorem fr.fQ {c:aZ} (o:fr c) {u:Nat} {v:bu} (aN:c.l[u]?=some v):(1≤v.kind∧v.kind≤10)∧(∀ f ∈ v.aS,0≤f)∧iE v=true:=by
 obtain ⟨h1,_,aA,bk⟩:=(Da o.wP).2.2.2 v (List.mem_of_getElem? aN)
 exact ⟨h1,fun f aC=>(aA f aC).1,bk⟩
theorem ahV {v:bu} (h:iE v=true) (hk:v.kind=9):v.aS.length=2:=by
 unfold iE at h
 rw [hk] at h
 have:iV.getD (9:Int).toNat (0,0,0,0)=(2,2,0,0):=by decide
 rw [this] at h
 simp only [rN,Bool.and_eq_true,decide_eq_true_eq] at h
 omega
theorem W4 {v:bu} (h:iE v=true) (hk:v.kind=6∨v.kind=7∨v.kind=8):(∃ K,mO v.kind v.n=some K)∧cv v.e=true:=by
 unfold iE at h
 have CH:iV.getD (6:Int).toNat (0,0,0,0)=(1,2,0,0):=by decide
 have su:iV.getD (7:Int).toNat (0,0,0,0)=(1,2,1,1048576):=by decide
 have w7:iV.getD (8:Int).toNat (0,0,0,0)=(1,2,1,1048576):=by decide
 rcases hk with hk | hk | hk
 ·rw [hk,CH] at h
  simp [rN,vV] at h
  exact ⟨⟨.kv,by unfold mO;rw [if_pos hk]⟩,h.2.1⟩
 ·rw [hk,su] at h
  simp [rN,vV] at h
  exact ⟨⟨.cE v.n,by unfold mO;rw [if_neg (by omega),if_pos hk,if_pos (by omega)]⟩,h.2.1⟩
 ·rw [hk,w7] at h
  simp [rN,vV] at h
  exact ⟨⟨.dr v.n,by unfold mO;rw [if_neg (by omega),if_neg (by omega),if_pos hk,if_pos (by omega)]⟩,h.2.1⟩
theorem fr.cB {c:aZ} (o:fr c) {u:Nat} {v:bu} (aN:c.l[u]?=some v) (n1:c.P[u]?=some c.part) (hk:v.kind=6∨v.kind=7∨v.kind=8):∃ K,c.cB u=some K:=by
 obtain ⟨⟨K,h1⟩,_⟩:=W4 (o.fQ aN).2.2 hk
 exact ⟨K,by unfold aZ.cB;rw [if_pos n1,aN];exact h1⟩
theorem e7.inc {h h':J} {aJ:cM} {id s m:Nat} {b:At} {c:aZ} {x:bL} (k:e7 h aJ id s m b c x) {cb bX b9 cd:V} (ad:gX h aJ id s m x.2 cb bX b9 cd) (hk:I h h' (·=s))
  (g:h'.get s=.cells [.ptr m 0,cb,bX,b9,cd,.int .i64 ((x.2.n+1:Nat):Int)] 149 none):eS id h aJ h' aJ∧e7 h' aJ id s m b c (cC x)∧gX h' aJ id s m (cC x).2 cb bX b9 cd:=by
 have ap:∀ {q t},aJ q=(id,t)→t≠5→¬(q=s):=fun {q t} bc bN U=>by
  subst U
  rw [ad.own] at bc;simp at bc;omega
 have dK:gX h' aJ id s m (cC x).2 cb bX b9 cd:=⟨Nat.lt_of_lt_of_le ad.lt hk.n,g,ad.own,
  ad.o.aj hk fun q af=>ap (ad.jI q (am.2 af)) (by decide),ad.v.aj hk fun q af=>ap (ad.bX q (am.2 af)) (by decide),ad.c.aj hk fun q af=>ap (ad.cc q (am.2 af)) (by decide),ad.d.aj hk fun q af=>ap (ad.k9 q (am.2 af)) (by decide),ad.jI,ad.bX,ad.cc,ad.k9⟩
 have cx:Fr h' aJ:=fun q af=>k.ay q (Nat.le_trans hk.n af)
 have iT:∀ q,q<h.n→q=s→∃ t,aJ q=(id,t)∧5≤t∧t≤9:=fun q af U=>by subst U;exact ⟨5,ad.own,by omega,by omega⟩
 exact ⟨⟨fun _ _=>rfl,hk.mono fun q af=>by subst af;unfold b2;rw [ad.own];exact ⟨rfl,Nat.le_refl _⟩,cx,trivial⟩,⟨k.dq.part hk iT fun _ _=>rfl,⟨_,_,_,_,dK⟩,cx,k.rU.aj hk,k.ku⟩,dK⟩
def eF (c:aZ) (snd:Int→Rec→bL→bL) (v:bu) (f:Int) (u:Nat) (r:Rec) (y:bL):bL :=
 if v.kind=10∨v.kind=5 then nC v u (mC u) r y
 else if v.kind=2∨v.kind=3∨v.kind=4 then nC v u (snd u) r y
 else if v.kind=6∨v.kind=7∨v.kind=8 then
  (match c.cB u with
  | some K=>rT K v u (snd u) r y
  | none=>y)
 else if v.kind=9 then (if f=v.aS.getD 0 0 then u5 c v u (snd u) r y else y)
 else y
theorem ahW {c:aZ} {sndT:Int→Rec→bL→bL} {v:bu} {f:Int} {u:Nat} {r:Rec} {x:bL} (aG:¬x.2.n=1000) (aN:c.l[u]?=some v):p1 c sndT f u r x=eF c sndT v f u r (cC x):=by
 unfold p1 eF
 rw [if_neg aG,aN]
 cases c.cB u<;>rfl
section
variable {id s m:Nat} {b:At} {c:aZ}
theorem ahX (o:fr c) {sndT:Int→Rec→bL→bL} {f:Int} {u:Nat} {v:bu} (aN:c.l[u]?=some v) (n1:c.P[u]?=some c.part)
  (kJ:∀ (y:Rec) (h:J) (aJ:cM) (x:bL),e7 h aJ id s m b c x→Inv c x→sz x+24≤2 ^ 30→ab Tryz.prog 76 [.ptr s 0,.int .i64 u,.agg (aD y)] h (iG id s m b c h aJ (sndT u y x)))
  (mU:∀ y,eK c 24 (sndT u y)) {h:J} {aJ:cM} {x:bL} (k:e7 h aJ id s m b c x) (i:Inv c x) (bz:sz x+1≤2 ^ 30) (r:Rec) :
  ab Tryz.prog 135 [.ptr s 0,.int .i64 f,.int .i64 u,.agg (aD r)] h (iG id s m b c h aJ (p1 c sndT f u r x)):=by
 refine ab.ao (c:=_) Tryz.func135 rfl (by kernel_rfl) (by simp) ?_
 obtain ⟨cb,bX,b9,cd,ad⟩:=k.mb
 obtain ⟨H,hH⟩:∃ y,y=h.push (.cells (aD r) 38 none):=⟨_,rfl⟩
 have bq:I h H none_:=by rw [hH];exact I.push _ _ _
 have kO:H.get h.n=.cells (aD r) 38 none:=by rw [hH];exact b6
 have h9:H.n=h.n+1:=by rw [hH];rfl
 have gg:=k.aQ bq
 have iX:=ad.aQ bq
 have gs:=iX.get
 have ld:cX (some (some 3)) (some (aD r))=some (.agg (aD r)):=rfl
 have d0:da (.cells (aD r) 38 none) 0=some (aD r):=rfl
 simp only [aa,Nat.reduceEqDiff,reduceCtorEq,S9,a7]
 rw [←hH]
 clear hH
 have bS:=i.n
 by_cases aG:x.2.n=1000
 ·have r5:(((x.2.n:Nat):Int)==1000)=true:=by rw [beq_iff_eq];omega
  have HY:p1 c sndT f u r x=mS u r 3 x:=by unfold p1;rw [if_pos aG]
  rw [HY]
  simp only [aa,Nat.reduceEqDiff,Nat.reduceAdd,Nat.reduceLeDiff,reduceCtorEq,dj,gs,r5,kO,ld,d0]
  refine bU zX (AU gg u r 3 (I9 bz)) fun q aA ⟨ar,jd,k7,k3⟩=>?_
  subst ar
  simp only [aa,aI,Tryz.results135,kd]
  exact au ⟨rfl,jd,eS.step k.ay bq k7,k3⟩
 have r5:(((x.2.n:Nat):Int)==1000)=false:=by rw [beq_eq_false_iff_ne];omega
 obtain ⟨xv,QW,Fc⟩:=OQ i aG
 have hw:IntKind.i64.wrap (((x.2.n:Nat):Int)+1)=((x.2.n+1:Nat):Int):=by rw [Go.IntWalk.i64_in _ (by omega)];omega
 have W5:bM (some 1) (aV.cells [.ptr m 0,cb,bX,b9,cd,.int .i64 ((x.2.n:Nat):Int)] 149 none) 5 [.int .i64 ((x.2.n+1:Nat):Int)]=some (.cells [.ptr m 0,cb,bX,b9,cd,.int .i64 ((x.2.n+1:Nat):Int)] 149 none):=rfl
 obtain ⟨bI,bA⟩:∃ y,y=H.set s (.cells [.ptr m 0,cb,bX,b9,cd,.int .i64 ((x.2.n+1:Nat):Int)] 149 none):=⟨_,rfl⟩
 have k2:I H bI (·=s):=by rw [bA];exact I.set _ _ _
 have ef:bI.n=H.n:=by rw [bA];rfl
 have g2:bI.get s=.cells [.ptr m 0,cb,bX,b9,cd,.int .i64 ((x.2.n+1:Nat):Int)] 149 none:=by rw [bA];exact aL
 obtain ⟨rX,c6,jb⟩:=gg.inc iX k2 g2
 have dI:=c6.dq.get
 rw [pT] at dI
 have sc:=ad.lt
 have nS:=(k2.get h.n (by omega) (by omega)).trans kO
 obtain ⟨hU,bR⟩:=Ki (kk:=.i64) aN
 have xq:cX (some (some 6)) (some (al v++hU))=some (.agg (al v)):=lC (hF v)
 have gT:(V.agg (al v)).cells=some (al v):=rfl
 have OT:bM (some 6) (aV.cells [V.int .i64 0,.ah,.int .i64 0,.int .i64 0,.ah,.int .i64 0] 29 none) 0 (al v)=some (.cells (al v) 29 none):=by
  obtain ⟨cB,ay,⟨o,q,ax⟩,n⟩:=v
  rfl
 simp only [aa,Nat.reduceEqDiff,Nat.reduceAdd,Nat.reduceLeDiff,reduceCtorEq,CP,zZ,S9,jH,a7,ji,vO,uz,gs,r5,hw,W5]
 rw [←bA]
 clear bA
 obtain ⟨hG,hZ⟩:∃ y,y=bI.push (.cells (al v) 29 none):=⟨_,rfl⟩
 have k3:I bI hG none_:=by rw [hZ];exact I.push _ _ _
 have n3:hG.n=bI.n+1:=by rw [hZ];rfl
 have oT:hG.get bI.n=.cells (al v) 29 none:=by rw [hZ];exact b6
 have dL:=c6.aQ k3
 have kb:=(k3.get h.n (by omega) (by simp [none_])).trans nS
 have nT:eS id h aJ hG aJ:=eS.step k.ay bq (rX.trans (eS.push c6.ay k3))
 have atv:da (.cells (al v) 29 none) 0=some (al v):=rfl
 have iY:cX (some none) (some (al v))=some (.int .i64 v.kind):=rfl
 simp only [aa,Nat.reduceEqDiff,Nat.reduceAdd,fL,mi,a7,nb,oc,dI,bR,xq,gT,OT]
 rw [←hZ]
 clear hZ
 have bC:=ahW (sndT:=sndT) (f:=f) (r:=r) aG aN
 rw [bC]
 have OU:sz (cC x)+2100≤2 ^ 30:=by omega
 obtain ⟨ahY,wA,OV⟩:=o.fQ aN
 have wu:v.kind=1∨v.kind=2∨v.kind=3∨v.kind=4∨v.kind=5∨v.kind=6∨v.kind=7∨v.kind=8∨v.kind=9∨v.kind=10:=by omega
 rcases wu with cV | cV | cV | cV | cV | cV | cV | cV | cV | cV
 ·
  rw [cV] at iY
  have b1:((1:Int)==2)=false:=rfl
  have e9:((1:Int)==3)=false:=rfl
  have qa:((1:Int)==4)=false:=rfl
  have o2:((1:Int)==5)=false:=rfl
  have rY:((1:Int)==6)=false:=rfl
  have sO:((1:Int)==7)=false:=rfl
  have fC:((1:Int)==8)=false:=rfl
  have vY:((1:Int)==9)=false:=rfl
  have kc:((1:Int)==10)=false:=rfl
  have bE:eF c sndT v f u r (cC x)=cC x:=by unfold eF;simp [cV]
  rw [bE]
  simp only [aa,Nat.reduceEqDiff,iY,b1,e9,qa,o2,rY,sO,fC,vY,kc,mG,Tryz.results135,kd]
  exact au ⟨rfl,aJ,nT,dL⟩
 ·
  rw [cV] at iY
  have b1:((2:Int)==2)=true:=rfl
  have e9:((2:Int)==3)=false:=rfl
  have qa:((2:Int)==4)=false:=rfl
  have o2:((2:Int)==5)=false:=rfl
  have rY:((2:Int)==6)=false:=rfl
  have sO:((2:Int)==7)=false:=rfl
  have fC:((2:Int)==8)=false:=rfl
  have vY:((2:Int)==9)=false:=rfl
  have kc:((2:Int)==10)=false:=rfl
  have bE:eF c sndT v f u r (cC x)=nC v u (sndT u) r (cC x):=by unfold eF;simp [cV]
  rw [bE]
  simp only [aa,Nat.reduceEqDiff,reduceCtorEq,dj,iY,o2,kc,kb,ld,d0]
  refine bU EM (u6 zY aN (th:=sndT u) kJ mU dL xv (by omega) r) fun q bk ⟨ar,ea,ek,bY⟩=>?_
  subst ar
  simp only [aa,mG,Tryz.results135,kd]
  exact au ⟨rfl,ea,nT.trans ek,bY⟩
 ·
  rw [cV] at iY
  have b1:((3:Int)==2)=false:=rfl
  have e9:((3:Int)==3)=true:=rfl
  have qa:((3:Int)==4)=false:=rfl
  have o2:((3:Int)==5)=false:=rfl
  have rY:((3:Int)==6)=false:=rfl
  have sO:((3:Int)==7)=false:=rfl
  have fC:((3:Int)==8)=false:=rfl
  have vY:((3:Int)==9)=false:=rfl
  have kc:((3:Int)==10)=false:=rfl
  have bE:eF c sndT v f u r (cC x)=nC v u (sndT u) r (cC x):=by unfold eF;simp [cV]
  rw [bE]
  simp only [aa,Nat.reduceEqDiff,reduceCtorEq,dj,iY,b1,o2,kc,kb,ld,d0]
  refine bU EM (u6 zY aN (th:=sndT u) kJ mU dL xv (by omega) r) fun q bk ⟨ar,ea,ek,bY⟩=>?_
  subst ar
  simp only [aa,mG,Tryz.results135,kd]
  exact au ⟨rfl,ea,nT.trans ek,bY⟩
 ·
  rw [cV] at iY
  have b1:((4:Int)==2)=false:=rfl
  have e9:((4:Int)==3)=false:=rfl
  have qa:((4:Int)==4)=true:=rfl
  have o2:((4:Int)==5)=false:=rfl
  have rY:((4:Int)==6)=false:=rfl
  have sO:((4:Int)==7)=false:=rfl
  have fC:((4:Int)==8)=false:=rfl
  have vY:((4:Int)==9)=false:=rfl
  have kc:((4:Int)==10)=false:=rfl
  have bE:eF c sndT v f u r (cC x)=nC v u (sndT u) r (cC x):=by unfold eF;simp [cV]
  rw [bE]
  simp only [aa,Nat.reduceEqDiff,reduceCtorEq,dj,iY,b1,e9,o2,kc,kb,ld,d0]
  refine bU EM (u6 zY aN (th:=sndT u) kJ mU dL xv (by omega) r) fun q bk ⟨ar,ea,ek,bY⟩=>?_
  subst ar
  simp only [aa,mG,Tryz.results135,kd]
  exact au ⟨rfl,ea,nT.trans ek,bY⟩
 ·
  rw [cV] at iY
  have b1:((5:Int)==2)=false:=rfl
  have e9:((5:Int)==3)=false:=rfl
  have qa:((5:Int)==4)=false:=rfl
  have o2:((5:Int)==5)=true:=rfl
  have rY:((5:Int)==6)=false:=rfl
  have sO:((5:Int)==7)=false:=rfl
  have fC:((5:Int)==8)=false:=rfl
  have vY:((5:Int)==9)=false:=rfl
  have kc:((5:Int)==10)=false:=rfl
  have bE:eF c sndT v f u r (cC x)=nC v u (mC u) r (cC x):=by unfold eF;simp [cV]
  rw [bE]
  simp only [aa,Nat.reduceEqDiff,reduceCtorEq,dj,iY,kc,kb,ld,d0]
  refine bU EM (u6 SS aN (th:=mC u) (fun y h' ow' dm k' Eb GV=>Gp k' u y (WU GV)) (fun y=>(I7 c u y).mono (by omega)) dL xv (by omega) r) fun q bk ⟨ar,ea,ek,bY⟩=>?_
  subst ar
  simp only [aa,mG,Tryz.results135,kd]
  exact au ⟨rfl,ea,nT.trans ek,bY⟩
 ·
  rw [cV] at iY
  have b1:((6:Int)==2)=false:=rfl
  have e9:((6:Int)==3)=false:=rfl
  have qa:((6:Int)==4)=false:=rfl
  have o2:((6:Int)==5)=false:=rfl
  have rY:((6:Int)==6)=true:=rfl
  have sO:((6:Int)==7)=false:=rfl
  have fC:((6:Int)==8)=false:=rfl
  have vY:((6:Int)==9)=false:=rfl
  have kc:((6:Int)==10)=false:=rfl
  obtain ⟨K,tr⟩:=o.cB aN n1 (by omega)
  have bE:eF c sndT v f u r (cC x)=rT K v u (sndT u) r (cC x):=by unfold eF;simp [cV,tr]
  rw [bE]
  simp only [aa,Nat.reduceEqDiff,reduceCtorEq,dj,iY,b1,e9,qa,o2,kc,kb,ld,d0]
  refine bU MH (OS aN tr kJ dL xv OU r) fun q bk ⟨ar,ea,ek,bY⟩=>?_
  subst ar
  simp only [aa,mG,Tryz.results135,kd]
  exact au ⟨rfl,ea,nT.trans ek,bY⟩
 ·
  rw [cV] at iY
  have b1:((7:Int)==2)=false:=rfl
  have e9:((7:Int)==3)=false:=rfl
  have qa:((7:Int)==4)=false:=rfl
  have o2:((7:Int)==5)=false:=rfl
  have rY:((7:Int)==6)=false:=rfl
  have sO:((7:Int)==7)=true:=rfl
  have fC:((7:Int)==8)=false:=rfl
  have vY:((7:Int)==9)=false:=rfl
  have kc:((7:Int)==10)=false:=rfl
  obtain ⟨K,tr⟩:=o.cB aN n1 (by omega)
  have bE:eF c sndT v f u r (cC x)=rT K v u (sndT u) r (cC x):=by unfold eF;simp [cV,tr]
  rw [bE]
  simp only [aa,Nat.reduceEqDiff,reduceCtorEq,dj,iY,b1,e9,qa,o2,rY,kc,kb,ld,d0]
  refine bU MH (OS aN tr kJ dL xv OU r) fun q bk ⟨ar,ea,ek,bY⟩=>?_
  subst ar
  simp only [aa,mG,Tryz.results135,kd]
  exact au ⟨rfl,ea,nT.trans ek,bY⟩
 ·
  rw [cV] at iY
  have b1:((8:Int)==2)=false:=rfl
  have e9:((8:Int)==3)=false:=rfl
  have qa:((8:Int)==4)=false:=rfl
  have o2:((8:Int)==5)=false:=rfl
  have rY:((8:Int)==6)=false:=rfl
  have sO:((8:Int)==7)=false:=rfl
  have fC:((8:Int)==8)=true:=rfl
  have vY:((8:Int)==9)=false:=rfl
  have kc:((8:Int)==10)=false:=rfl
  obtain ⟨K,tr⟩:=o.cB aN n1 (by omega)
  have bE:eF c sndT v f u r (cC x)=rT K v u (sndT u) r (cC x):=by unfold eF;simp [cV,tr]
  rw [bE]
  simp only [aa,Nat.reduceEqDiff,reduceCtorEq,dj,iY,b1,e9,qa,o2,rY,sO,kc,kb,ld,d0]
  refine bU MH (OS aN tr kJ dL xv OU r) fun q bk ⟨ar,ea,ek,bY⟩=>?_
  subst ar
  simp only [aa,mG,Tryz.results135,kd]
  exact au ⟨rfl,ea,nT.trans ek,bY⟩
 ·
  rw [cV] at iY
  have b1:((9:Int)==2)=false:=rfl
  have e9:((9:Int)==3)=false:=rfl
  have qa:((9:Int)==4)=false:=rfl
  have o2:((9:Int)==5)=false:=rfl
  have rY:((9:Int)==6)=false:=rfl
  have sO:((9:Int)==7)=false:=rfl
  have fC:((9:Int)==8)=false:=rfl
  have vY:((9:Int)==9)=true:=rfl
  have kc:((9:Int)==10)=false:=rfl
  have kg:=ahV OV cV
  have Ja:da (.cells (al v) 29 none) 1=some (.ag v.aS.length (aO v.aS)::(aq v.e++[.int .i64 v.n])):=rfl
  have Cg:cX (some none) (some (.ag v.aS.length (aO v.aS)::(aq v.e++[.int .i64 v.n])))=some (.ag v.aS.length (aO v.aS)):=rfl
  have W6:v.aS.getD 0 0=v.aS[0]:=by rw [List.getD,List.getElem?_eq_getElem (by omega)];rfl
  have dn:∃ t,ir Tryz.prog 24 (.ag v.aS.length (aO v.aS)) (.int .i64 0)=some (.at (.int .i64 (v.aS.getD 0 0)::t)):=⟨_,by rw [W6];exact ra (P:=Tryz.prog) (kk:=.i64) (k:=0) (by omega) kr⟩
  obtain ⟨ahU,dn⟩:=dn
  cases Ch:(f==v.aS.getD 0 0)
  ·have bZ:f≠v.aS.getD 0 0:=by simpa using Ch
   have bE:eF c sndT v f u r (cC x)=cC x:=by unfold eF;simp only [cV];rw [if_neg (by decide),if_neg (by decide),if_neg (by decide),if_pos trivial,if_neg bZ]
   rw [bE]
   simp only [aa,Nat.reduceEqDiff,oU,lb,a7,iY,b1,e9,qa,o2,rY,sO,fC,kc,oT,Ja,Cg,dn,Ch,mG,Tryz.results135,kd]
   exact au ⟨rfl,aJ,nT,dL⟩
  ·have bZ:f=v.aS.getD 0 0:=by simpa using Ch
   have bE:eF c sndT v f u r (cC x)=u5 c v u (sndT u) r (cC x):=by unfold eF;simp only [cV];rw [if_neg (by decide),if_neg (by decide),if_neg (by decide),if_pos trivial,if_pos bZ]
   rw [bE]
   simp only [aa,Nat.reduceEqDiff,reduceCtorEq,oU,lb,a7,dj,iY,b1,e9,qa,o2,rY,sO,fC,kc,oT,Ja,Cg,dn,Ch,kb,ld,d0]
   refine bU acU (ahS aN kg wA kJ dL xv (by omega) r) fun q bk ⟨ar,ea,ek,bY⟩=>?_
   subst ar
   simp only [aa,mG,Tryz.results135,kd]
   exact au ⟨rfl,ea,nT.trans ek,bY⟩
 ·
  rw [cV] at iY
  have b1:((10:Int)==2)=false:=rfl
  have e9:((10:Int)==3)=false:=rfl
  have qa:((10:Int)==4)=false:=rfl
  have o2:((10:Int)==5)=false:=rfl
  have rY:((10:Int)==6)=false:=rfl
  have sO:((10:Int)==7)=false:=rfl
  have fC:((10:Int)==8)=false:=rfl
  have vY:((10:Int)==9)=false:=rfl
  have kc:((10:Int)==10)=true:=rfl
  have bE:eF c sndT v f u r (cC x)=nC v u (mC u) r (cC x):=by unfold eF;simp [cV]
  rw [bE]
  simp only [aa,Nat.reduceEqDiff,reduceCtorEq,dj,iY,kb,ld,d0]
  refine bU EM (u6 SS aN (th:=mC u) (fun y h' ow' dm k' Eb GV=>Gp k' u y (WU GV)) (fun y=>(I7 c u y).mono (by omega)) dL xv (by omega) r) fun q bk ⟨ar,ea,ek,bY⟩=>?_
  subst ar
  simp only [aa,mG,Tryz.results135,kd]
  exact au ⟨rfl,ea,nT.trans ek,bY⟩
end
section
variable {id s m:Nat} {b:At} {c:aZ}
theorem ahZ (v:Int) (h:J):ab Tryz.prog 134 [.ptr m 0,.int .i64 v] h (fun r h'=>r=.func (.func 184) [] [.ptr h.n 0,.ptr (h.n+1) 0]∧h'=(h.push (.cells [.ptr m 0] 61 none)).push (.cells [.int .i64 v] 3 none)):=by
 refine ab.ao (c:=_) Tryz.func134 rfl (by kernel_rfl) (by simp) ?_
 simp only [aa,Nat.reduceEqDiff,aI,Tryz.results134,ac]
 exact au ⟨rfl,rfl⟩
theorem ah0 {l:List Int} {t:Nat} (bw:t<l.length) {F:bL→Nat→bL} {P:List Int} {part:Int} {x:bL} :
  (((l.take (t+1)).map Int.toNat).filter fun u=>P.getD u 0==part).foldl F x=if P.getD l[t].toNat 0==part then F ((((l.take t).map Int.toNat).filter fun u=>P.getD u 0==part).foldl F x) l[t].toNat else (((l.take t).map Int.toNat).filter fun u=>P.getD u 0==part).foldl F x:=by
 rw [List.take_succ_eq_append_getElem bw,List.map_append,List.filter_append,List.foldl_append]
 cases aW:(P.getD l[t].toNat 0==part)<;>(simp only [List.map_cons,List.map_nil,List.filter_cons,List.filter_nil,aW];rfl)
theorem ah1 (o:fr c) {l:Nat} {v:Int} {bm bv:Nat} {F:bL→Nat→bL} (jY:∀ u,eK c 1 fun x=>F x u) {h:J} {aJ:cM} {x:bL} (k:e7 h aJ id s m b c x) (i:Inv c x) (bz:sz x+24≤2 ^ 30)
  (LC:h.get bm=.cells [.ptr m 0] 61 none) (W7:h.get bv=.cells [.int .i64 v] 3 none) (LD:bm<h.n) (amh:bv<h.n) (LF:aJ bm=(0,0)) (ami:aJ bv=(0,0))
  (aU:∀ u:Nat,(u:Int) ∈ ft v 0 c.l→c.P[u]?=some c.part→∀ (h':J) (ow':cM) (X:bL),eS id h aJ h' ow'→e7 h' ow' id s m b c X→Inv c X→sz X+1≤2 ^ 30→oH Tryz.prog l [.int .i64 (u:Int)] h' (fun r ae=>r=.bool true∧∃ ie,eS id h' ow' ae ie∧e7 ae ie id s m b c (F X u))) :
  ab Tryz.prog 184 [.func (.yield l) [] [],.ptr bm 0,.ptr bv 0] h (fun _ aA=>∃ jd,eS id h aJ aA jd∧e7 aA jd id s m b c ((c.us v).foldl F x)):=by
 have W8:c.P.length=c.l.length:=Gm o.wP
 have sK:=o.len
 have dI:=k.dq.get
 rw [pT] at dI
 have xD:(ft v 0 c.l).length≤24:=by have:=AJ (v:=v) (l:=c.l) (j:=0);omega
 refine ab.ao (c:=_) Tryz.func184 rfl (by kernel_rfl) (by simp) ?_
 simp only [aa]
 have ah2:da (.cells [.ag c.l.length (c.l.flatMap al),.int .i64 c.p,.ag c.P.length (aO c.P),.int .i64 c.part,.ptr b.iW 0,.map b.mp] 146 none) 0=some [.ag c.l.length (c.l.flatMap al),.int .i64 c.p,.ag c.P.length (aO c.P),.int .i64 c.part,.ptr b.iW 0,.map b.mp]:=rfl
 have sj:cX (some (some 2)) (some [.ag c.l.length (c.l.flatMap al),.int .i64 c.p,.ag c.P.length (aO c.P),.int .i64 c.part,.ptr b.iW 0,.map b.mp])=some (.agg (cQ c.l c.p)):=rfl
 refine aP.aY none_ [] (.q 0 (.q 1 (.q 2 (.q 3 (.q 4 (.c 5 (.q 6 (.q 7 .done)))))))) (by kernel_rfl) (by kernel_rfl) (by kernel_rfl) ?_
 simp only [aa,bD,Nat.reduceEqDiff,CP,a7,kp,vO,LC,W7,dI,ah2,sj]
 refine gE rfl rfl rfl (fun h' hk=>VQ c.l c.p v o.ok (by omega) h') ?_
 simp only [aa,bD,Nat.reduceEqDiff,mh]
 obtain ⟨oy,AR⟩:∃ oy,oy=ft v 0 c.l:=⟨_,rfl⟩
 have gh:∀ q ∈ oy,∃ u:Nat,q=(u:Int)∧u<c.l.length∧(u:Int) ∈ ft v 0 c.l:=fun q af=>by
  rw [AR] at af
  obtain ⟨jf,wT,e,ae,_⟩:=B6.1 af
  refine ⟨jf,by simpa using e,(List.getElem?_eq_some_iff.1 ae).1,?_⟩
  have:q=(jf:Int):=by simpa using e
  rw [←this];exact af
 have vy:c.us v=(oy.map Int.toNat).filter fun u=>c.P.getD u 0==c.part:=by rw [AR];rfl
 rw [vy]
 rw [←AR] at xD⊢
 have fin:((((oy.take oy.length).map Int.toNat).filter fun u=>c.P.getD u 0==c.part).foldl F x)=((oy.map Int.toNat).filter fun u=>c.P.getD u 0==c.part).foldl F x:=by rw [List.take_length]
 refine aP.bG (α:=Nat×cM) (fun y f h'=>f 0=.func (.yield l) [] []∧f 1=.ptr bm 0∧f 2=.ptr bv 0∧f 11=.ag oy.length (aO oy)∧f 12=.int .i64 ((oy.length:Nat):Int)∧f 13=.int .i64 (y.1:Nat)∧y.1≤oy.length ∧
   eS id h aJ h' y.2∧e7 h' y.2 id s m b c ((((oy.take y.1).map Int.toNat).filter fun u=>c.P.getD u 0==c.part).foldl F x)∧bT c y.1 x ((((oy.take y.1).map Int.toNat).filter fun u=>c.P.getD u 0==c.part).foldl F x)) (fun y=>oy.length - y.1) (0,aJ)
  ⟨rfl,rfl,rfl,rfl,rfl,rfl,Nat.zero_le _,eS.refl k.ay,k,bT.refl i⟩ ?_
 rintro ⟨t,fs⟩ f h1 ⟨f0,f1,f2,f11,f12,f13,bw,bV,kk,rW⟩
 simp only at f13 bw bV kk rW
 refine dw (by kernel_rfl) ?_
 by_cases aH:t<oy.length
 ·have ar:decide ((t:Int)<((oy.length:Nat):Int))=true:=decide_eq_true (by omega)
  have hw:=kf aH (by omega)
  have dn:=ra (P:=Tryz.prog) (kk:=.i64) aH kr
  have gm:=ah0 (F:=F) (P:=c.P) (part:=c.part) (x:=x) aH
  obtain ⟨u,hu,ah3,Jb⟩:=gh _ (List.getElem_mem aH)
  rw [hu] at gm dn
  rw [Int.toNat_natCast] at gm
  have LG:c.P.getD u 0=c.P[u]'(by omega):=by rw [List.getD,List.getElem?_eq_getElem (by omega)];rfl
  have uR:=ra (P:=Tryz.prog) (l:=c.P) (kk:=.i64) (k:=u) (by omega) kr
  rw [←LG] at uR
  have Gv:=(bV.aj.get bm LD (fun U=>by unfold b2 at U;rw [LF] at U;exact k.ku U.1.symm)).trans LC
  have zA:=kk.dq.get
  rw [pT] at zA
  generalize (((oy.take t).map Int.toNat).filter fun u=>c.P.getD u 0==c.part).foldl F x=X at gm kk rW
  simp only [aa,Nat.reduceEqDiff,a7,f11,f12,f13,ar,dn]
  have m1:b2 fs id bm=False:=eq_false fun U=>by unfold b2 at U;rw [bV.cH bm LD,LF] at U;exact k.ku U.1.symm
  have m2:b2 fs id m=False:=eq_false fun U=>by unfold b2 at U;rw [kk.dq.own] at U;simp at U
  cases aW:(c.P.getD u 0==c.part)
  ·rw [aW] at gm
   have gF:=gm.trans (if_neg (by decide))
   refine aP.aY (fun q=>b2 fs id q) [15] (.q 0 (.q 1 (.q 2 (.q 3 (.q 4 (.q 5 (.q 6 (.q 7 (.q 8 (.q 9 (.q 10 (.q 11 (.q 12 (.q 13 (.q 14 (.a 15 (.q 16 (.q 17 .done)))))))))))))))))) (by kernel_rfl) (by kernel_rfl) (by kernel_rfl) ?_
   simp only [aa,bD,fg,Nat.reduceEqDiff,Nat.reduceAdd,Nat.reduceLeDiff,ul,MJ,lb,a7,vO,f1,f13,Gv,zA,uR,aW,m1,m2,hw]
   exact au ⟨(t+1,fs),⟨f0,f1,f2,f11,f12,rfl,aH,bV,by have U:=kk;rw [←gF] at U;exact U,by have U:=rW.mono (Nat.le_succ t);rw [←gF] at U;exact U⟩,by simp only;omega⟩
  ·rw [aW] at gm
   have gF:=gm.trans (if_pos rfl)
   refine aP.aY (fun q=>b2 fs id q) [15] (.q 0 (.q 1 (.q 2 (.q 3 (.q 4 (.q 5 (.q 6 (.q 7 (.q 8 (.q 9 (.q 10 (.q 11 (.q 12 (.q 13 (.q 14 (.a 15 (.q 16 (.q 17 .done)))))))))))))))))) (by kernel_rfl) (by kernel_rfl) (by kernel_rfl) ?_
   simp only [aa,bD,fg,Nat.reduceEqDiff,Nat.reduceAdd,Nat.reduceLeDiff,reduceCtorEq,ul,MJ,lb,a7,vO,f0,f1,Gv,zA,uR,aW,m1,m2]
   have wy:c.P[u]?=some c.part:=by
    rw [List.getElem?_eq_getElem (by omega),←LG]
    simpa using aW
   refine ajf (aU u Jb wy h1 fs X bV kk rW.inv (by have:=rW.sz;omega)) fun q ae ⟨aT,ie,rX,k2⟩=>?_
   subst aT
   have hE:I h1 ae (fun q=>b2 fs id q):=rX.aj
   simp only [aa,bD,fg,Nat.reduceEqDiff,f13,hw]
   exact au ⟨(t+1,ie),⟨f0,f1,f2,f11,f12,rfl,aH,bV.trans rX,by have U:=k2;rw [←gF] at U;exact U,by have U:bT c (t+1) x (F X u):=rW.trans (jY u X rW.inv);rw [←gF] at U;exact U⟩,by simp only;omega⟩
 ·have ar:decide ((t:Int)<((oy.length:Nat):Int))=false:=decide_eq_false (by omega)
  obtain rfl:t=oy.length:=by omega
  rw [fin] at kk
  simp only [aa,f12,f13,ar,mG,Tryz.results184,kd]
  exact au ⟨fs,bV,kk⟩
end
section
variable {id s m:Nat} {b:At} {c:aZ}
structure W9 (h:J) (s m:Nat) (v:Int) (r:Rec) (f:aE) (h1:J):Prop where
 f3:f 3=.ptr h.n 0
 f4:f 4=.ptr (h.n+1) 0
 f5:f 5=.ptr (h.n+2) 0
 f12:f 12=.func (.func 184) [] [.ptr (h.n+3) 0,.ptr (h.n+4) 0]
 n:h1.n=h.n+5
 aj:I h h1 none_
 g0:h1.get h.n=.cells [.ptr s 0] 147 none
 g1:h1.get (h.n+1)=.cells [.int .i64 v] 3 none
 g2:h1.get (h.n+2)=.cells (aD r) 38 none
 g3:h1.get (h.n+3)=.cells [.ptr m 0] 61 none
 g4:h1.get (h.n+4)=.cells [.int .i64 v] 3 none
theorem Xa (o:fr c) {sndT:Int→Rec→bL→bL} {v:Int}
  (kJ:∀ (u:Nat),(u:Int) ∈ ft v 0 c.l→c.P[u]?=some c.part→∀ (y:Rec) (h:J) (aJ:cM) (x:bL),e7 h aJ id s m b c x→Inv c x→sz x+24≤2 ^ 30→ab Tryz.prog 76 [.ptr s 0,.int .i64 u,.agg (aD y)] h (iG id s m b c h aJ (sndT u y x)))
  (mU:∀ u y,eK c 24 (sndT u y)) {h:J} {aJ:cM} {x:bL} (k:e7 h aJ id s m b c x) (i:Inv c x) (bz:sz x+24≤2 ^ 30) (r:Rec) :
  ab Tryz.prog 76 [.ptr s 0,.int .i64 v,.agg (aD r)] h (iG id s m b c h aJ ((c.us v).foldl (fun x u=>p1 c sndT v u r x) x)):=by
 refine ab.nw (g:=12) (p:=13) (gf:=184) Tryz.func76 rfl acT (Nat.le_of_ble_eq_true rfl) (K:=W9 h s m v r) (caps:=fun _=>[.ptr (h.n+3) 0,.ptr (h.n+4) 0]) ?_ (fun f h1 bE=>bE.f12) ?_
 ·obtain ⟨cb,bX,b9,cd,ad⟩:=k.mb
  refine dw (by kernel_rfl) ?_
  simp only [aa,Nat.reduceEqDiff]
  obtain ⟨H,hH⟩:∃ y,y=((h.push (.cells [.ptr s 0] 147 none)).push (.cells [.int .i64 v] 3 none)).push (.cells (aD r) 38 none):=⟨_,rfl⟩
  have h9:H.n=h.n+3:=by rw [hH];rfl
  have bq:I h H none_:=by rw [hH];exact ((I.push _ _ _).a8 _).a8 _
  have g0:H.get h.n=.cells [.ptr s 0] 147 none:=by
   rw [hH,kM (by rw [eA,eA];omega),kM (by rw [eA];omega),b6]
  have g1:H.get (h.n+1)=.cells [.int .i64 v] 3 none:=by
   rw [hH,kM (by rw [eA,eA];omega)];exact b6
  have g2:H.get (h.n+2)=.cells (aD r) 38 none:=by rw [hH];exact b6
  have gs:=(ad.aQ bq).get
  rw [←hH]
  clear hH
  change aP _ _ _ (xI.go (xI.fn fun z f h_1=>z=ed.normal∧W9 h s m v r f h_1)) _ _
  refine aP.aY (fun q=>False) [5] (.q 0 (.q 1 (.q 2 (.q 3 (.q 4 (.a 5 .done)))))) (by kernel_rfl) (by kernel_rfl) (by kernel_rfl) ?_
  simp only [aa,bD,fg,Nat.reduceEqDiff,Nat.reduceAdd,zZ,Tj,a7,vO,g0,g1,gs]
  refine bU acL (ahZ v H) fun q bN ⟨ar,hQ⟩=>?_
  subst ar
  have cG:I H bN none_:=by rw [hQ];exact (I.push _ _ _).a8 _
  have hE:I H bN (fun _=>False):=cG.mono fun q af=>by simp [none_] at af
  have Ag:bN.n=h.n+5:=by rw [hQ,eA,eA];omega
  have g3:bN.get (h.n+3)=.cells [.ptr m 0] 61 none:=by
   rw [hQ,kM (by rw [eA];omega),←h9];exact b6
  have g4:bN.get (h.n+4)=.cells [.int .i64 v] 3 none:=by
   rw [hQ,show h.n+4=(H.push (.cells [.ptr m 0] 61 none)).n by rw [eA];omega];exact b6
  simp only [aa,bD]
  exact ⟨rfl,rfl,rfl,by show V.func (.func 184) [] [.ptr H.n 0,.ptr (H.n+1) 0]=_;rw [h9],Ag,bq.trans' cG,(cG.get _ (by omega) (by simp [none_])).trans g0,(cG.get _ (by omega) (by simp [none_])).trans g1,(cG.get _ (by omega) (by simp [none_])).trans g2,g3,g4⟩
 ·intro f h1 bE l D q ae jn
  have k2:I h1 ae none_:=by rw [jn];exact (I.push _ _ _).a8 _
  have eL:=bE.n
  have ef:ae.n=h1.n+2:=by rw [jn,eA,eA]
  have kQ:=(congrArg (fun H=>H.get (h1.n+1)) jn).trans b6
  have ah4:ae.get h1.n=.o3 D (fun _=>.deferred (some [])) []:=by rw [jn,kM (by rw [eA];omega)];exact b6
  have LH:I h ae none_:=bE.aj.trans' k2
  have c6:=k.aQ LH
  have free:∀ q,h.n≤q→aJ q=(0,0):=fun q af=>k.ay q af
  have Gw:∀ q,q<h1.n→ae.get q=h1.get q:=fun q af=>k2.get q af (by simp [none_])
  refine (ah1 o (l:=l) (v:=v) (bm:=h.n+3) (bv:=h.n+4) (F:=fun X u=>p1 c sndT v u r X) (fun u=>OR mU v u r) c6 i bz ((Gw _ (by omega)).trans bE.g3) ((Gw _ (by omega)).trans bE.g4) (by omega) (by omega) (free _ (by omega)) (free _ (by omega)) ?_).mono ?_
  ·intro u hu n1 h' ow' X ec k' Eb oA
   obtain ⟨jf,w,e,hw,_⟩:=B6.1 hu
   have Gx:u=jf:=by omega
   subst Gx
   have Ci:∀ q,h.n≤q→q<ae.n→h'.get q=ae.get q:=fun q h1 ae=>ec.aj.get q ae fun U=>by
    unfold b2 at U
    rw [free q h1] at U
    exact k.ku U.1.symm
   have Gy:∀ q,h.n≤q→q<ae.n→ow' q=(0,0):=fun q h1 ae=>(ec.cH q ae).trans (free q h1)
   have Gz:=(Ci (h1.n+1) (by omega) (by omega)).trans kQ
   have r5:=((Ci h.n (by omega) (by omega)).trans (Gw _ (by omega))).trans bE.g0
   have dt:=((Ci (h.n+1) (by omega) (by omega)).trans (Gw _ (by omega))).trans bE.g1
   have b1:=((Ci (h.n+2) (by omega) (by omega)).trans (Gw _ (by omega))).trans bE.g2
   have qe:=ec.aj.n
   refine oH.of (i:=h1.n+1) (p:=13) (f:=f) (by decide) Gz (fun cx tq=>tq=h'∧cx 3=.ptr h.n 0∧cx 4=.ptr (h.n+1) 0∧cx 5=.ptr (h.n+2) 0∧cx 6=.int .i64 (u:Nat)) ?_ ?_
   ·refine p7.region (by kernel_rfl) ?_
    change @lZ _ _ _ (jo.fn _ _) _ _
    simp only [aa,Nat.reduceEqDiff]
    exact ⟨Gz,bE.f3,bE.f4,bE.f5,rfl⟩
   ·rintro cx tq ⟨rfl,ey,iD,tb,Su⟩
    refine p7.block (p7.region (by kernel_rfl) ?_)
    have qW:∀ o,(tq.set (h1.n+1) o).get h.n=.cells [.ptr s 0] 147 none:=fun o=>by rw [jF (by omega)];exact r5
    have s1:∀ o,(tq.set (h1.n+1) o).get (h.n+1)=.cells [.int .i64 v] 3 none:=fun o=>by rw [jF (by omega)];exact dt
    have s2:∀ o,(tq.set (h1.n+1) o).get (h.n+2)=.cells (aD r) 38 none:=fun o=>by rw [jF (by omega)];exact b1
    have ld:cX (some (some 3)) (some (aD r))=some (.agg (aD r)):=rfl
    have d0:da (.cells (aD r) 38 none) 0=some (aD r):=rfl
    have dV:∀ o,e7 (tq.set (h1.n+1) o) ow' id s m b c X:=fun o=>k'.oB (I.set _ _ _) (Gy _ (by omega) (by omega))
    change @lZ _ _ _ (jo.fn _ _) _ _
    have del:=fun ob=>ahX o (f:=v) hw n1 (kJ u hu n1) (mU u) (dV ob) Eb oA r
    have bZ:h1.n+1<ae.n:=by omega
    simp only [aa,Nat.reduceEqDiff,Tj,a7,a7,dj,ey,iD,tb,Su,qW,s1,s2,ld,d0]
    refine bU acM (del _) fun cq bk bb=>?_
    obtain ⟨ar,ea,ek,bY⟩:=bb
    subst ar
    simp only [aa]
    have Xb:=ek.aj.n
    rw [iw] at Xb
    have g4:=(ek.aj.get (h1.n+1) (by rw [iw];omega) (fun U=>by
     unfold b2 at U
     rw [Gy _ (by omega) (by omega)] at U
     exact k.ku U.1.symm)).trans aL
    refine ⟨g4,ea,⟨fun q af=>ek.cH q (by rw [iw];exact af),?_,ek.ay,trivial⟩,bY.oB (I.set _ _ _) ((ek.cH _ (by rw [iw];omega)).trans (Gy _ (by omega) (by omega)))⟩
    refine ⟨by rw [iw];exact Xb,fun j aX hm=>?_,ek.aj.glob⟩
    by_cases dJ:j=h1.n+1
    ·subst dJ
     exact aL.trans Gz.symm
    ·rw [jF dJ]
     exact (ek.aj.get j (by rw [iw];exact aX) hm).trans (jF dJ)
  ·rintro _ aA ⟨jd,k7,k3⟩
   have LI:∀ q,h.n≤q→q<ae.n→aA.get q=ae.get q:=fun q h1 ae=>k7.aj.get q ae fun U=>by
    unfold b2 at U
    rw [free q h1] at U
    exact k.ku U.1.symm
   have LJ:∀ q,h.n≤q→q<ae.n→jd q=(0,0):=fun q h1 ae=>(k7.cH q ae).trans (free q h1)
   refine ⟨(LI _ (by omega) (by omega)).trans kQ,(LI _ (by omega) (by omega)).trans ah4,.tuple [],rfl,rfl,jd,?_,?_⟩
   ·have ar:=eS.step k.ay LH k7
    have dV:I aA ((aA.set (h1.n+1) .dead).set h1.n .dead) (fun q=>q=h1.n+1∨q=h1.n):=((I.set _ _ _).mono fun q af=>.inl af).trans' ((I.set _ _ _).mono fun q af=>.inr af)
    exact ⟨ar.cH,ar.aj.trans dV (fun q af U=>by omega),ar.ay,trivial⟩
   ·exact (k3.oB (I.set _ (h1.n+1) _) (LJ _ (by omega) (by omega))).oB (I.set _ h1.n _) (LJ _ (by omega) (by omega))
end
section
variable {id s m:Nat} {b:At} {c:aZ}
theorem Xc (o:fr c) {v:Int} {u:Nat} (h:(u:Int) ∈ ft v 0 c.l):v<(u:Int)∧u<c.l.length:=by
 obtain ⟨jf,w,e,hw,aC⟩:=B6.1 h
 have Gx:u=jf:=by omega
 subst Gx
 have b4:=(Od o.wP).2.2.2.2.2 u w hw
 have aH:=(List.getElem?_eq_some_iff.1 hw).1
 unfold cL at b4
 split at b4
 ·cases b4
 split at b4
 ·cases b4
 rename_i GA
 simp only [List.any_eq_true,decide_eq_true_eq,not_exists,not_and] at GA
 have:=GA v aC
 omega
theorem ah5 (c:aZ):eK c 24 (fun x=>x):=fun x i=>(bT.refl i).mono (by omega)
theorem OW (o:fr c):∀ (k:Nat) (v:Int),(c.l.length:Int)≤v+k→∀ (y:Rec) (h:J) (aJ:cM) (x:bL),e7 h aJ id s m b c x→Inv c x→sz x+24≤2 ^ 30→ab Tryz.prog 76 [.ptr s 0,.int .i64 v,.agg (aD y)] h (iG id s m b c h aJ (mj c k v y x))
 | 0,v,aN,y,h,aJ,x,k',i,bz=>by
  have ja:∀ u:Nat,¬(u:Int) ∈ ft v 0 c.l:=fun u hu=>by have:=Xc o hu;omega
  have vy:c.us v=[]:=by
   unfold aZ.us
   have:ft v 0 c.l=[]:=by
    cases AR:ft v 0 c.l with
    | nil=>rfl
    | cons a r=>
     have a6:a ∈ ft v 0 c.l:=by rw [AR];simp
     obtain ⟨jf,w,e,_,_⟩:=B6.1 a6
     rw [Nat.zero_add] at e
     rw [e] at a6
     exact absurd a6 (ja jf)
   rw [this];rfl
  have:=Xa o (sndT:=fun _ _ x=>x) (v:=v) (fun u hu=>absurd hu (ja u)) (fun _ _=>ah5 c) k' i bz y
  rw [vy] at this
  exact this
 | k+1,v,aN,y,h,aJ,x,k',i,bz=>
  Xa o (sndT:=mj c k) (v:=v) (fun u hu _ y h aJ x=>OW o k (u:Int) (by have:=(Xc o hu).1;omega) y h aJ x) (fun u y=>xu o.len k u y) k' i bz y
end
def rb (c:aZ) (s:bW):Prop:=s.ms.map (·.2.1)=c.ins∧∀ e ∈ s.ms,-1≤e.2.2∧e.2.2≤1099511627776
theorem Xd {lo z:Int}:∀ {zs:List Int},nR lo zs→(∀ y ∈ zs,y<z)→lo<z→nR lo (zs++[z])
 | [],_,_,h=>⟨h,trivial⟩
 | y::r,⟨h1,ae⟩,b4,h=>⟨h1,Xd ae (fun w hw=>b4 w (by simp [hw])) (b4 y (by simp))⟩
theorem Xe (l:List bu) (P:List Int) (part:Int):∀ i,nR (-1) (jw l P part i)∧∀ y ∈ jw l P part i,y<(i:Int)
 | 0=>⟨trivial,by simp [jw]⟩
 | i+1=>by
  obtain ⟨h1,ae⟩:=Xe l P part i
  unfold jw
  split
  ·exact ⟨Xd h1 ae (by omega),fun y bs=>by
    rcases List.mem_append.1 bs with bs | bs
    ·have:=ae y bs;omega
    ·simp at bs;omega⟩
  ·rw [List.append_nil]
   exact ⟨h1,fun y bs=>by have:=ae y bs;omega⟩
theorem LK (c:aZ):nR (-1) c.ins:=(Xe _ _ _ _).1
theorem Kf {c:aZ} (o:fr c):c.ins.length≤24:=by
 have h1:=I1 c.l (hz c.p c.l) c.part (hz c.p c.l).length
 have ae:=Gm o.wP
 have:=o.len
 unfold aZ.ins y1
 omega
section
variable {id m:Nat} {b:At} {c:aZ} {h:J} {aJ:cM} {s:bW}
theorem Y3 (o:fr c) (k:dA h aJ id m b c s) (hk:rb c s):Pure Tryz.prog 32 [.ptr m 0] h (.ag c.ins.length (aO c.ins)):=by
 have dI:=k.get
 rw [pT] at dI
 refine ab.ao (c:=_) Tryz.func32 rfl (by kernel_rfl) (by simp) ?_
 simp only [aa,Nat.reduceEqDiff,Nat.reduceAdd,Nat.reduceLeDiff,reduceCtorEq,xQ,zQ,xR,dI]
 refine bB adn (ahx h _ _ _ _ _ k.marks c.ins hk.1 (LK c) (Kf o)) ?_
 simp only [aa,Nat.reduceEqDiff,aI,Tryz.results32,ac]
 exact au ⟨rfl,rfl⟩
theorem Xf (o:fr c) (k:dA h aJ id m b c s) (hk:rb c s) (v:Int):Pure Tryz.prog 71 [.ptr m 0,.int .i64 v] h (.bool (c.ins.contains v)):=by
 refine ab.ao (c:=_) Tryz.func71 rfl (by kernel_rfl) (by simp) ?_
 simp only [aa,Nat.reduceEqDiff,reduceCtorEq]
 refine bB Qp (Y3 o k hk) ?_
 simp only [aa,Nat.reduceEqDiff]
 refine bB Kr (Lm c.ins v (by have:=Kf o;omega) h) ?_
 simp only [aa,Nat.reduceEqDiff,aI,Tryz.results71,ac]
 exact au ⟨rfl,rfl⟩
theorem amj (k:dA h aJ id m b c s):Pure Tryz.prog 33 [.ptr m 0] h (.int .i64 (leastOf s.ms)):=by
 have dI:=k.get
 rw [pT] at dI
 refine ab.ao (c:=_) Tryz.func33 rfl (by kernel_rfl) (by simp) ?_
 simp only [aa,Int.reduceNeg,Nat.reduceEqDiff,Nat.reduceAdd,Nat.reduceLeDiff,reduceCtorEq,xQ,zQ,xR,dI]
 refine bB as1 (DY h _ _ _ _ _ k.marks) ?_
 simp only [aa,Nat.reduceEqDiff,aI,Tryz.results33,ac]
 exact au ⟨rfl,rfl⟩
theorem AI (k:dA h aJ id m b c s) (t:Int):Pure Tryz.prog 75 [.ptr m 0,.int .i64 t] h (.agg (aw (lU c t))):=by
 refine Pure.val (bh.agg (wI _)) ?_
 have dI:=k.get
 rw [pT] at dI
 have p5:∀ o,(h.push o).get m=.cells [.ag c.l.length (c.l.flatMap al),.int .i64 c.p,.ag c.P.length (aO c.P),.int .i64 c.part,.ptr b.iW 0,.map b.mp] 146 none:=fun o=>by rw [kM k.lt];exact dI
 refine ab.ao (c:=_) Tryz.func75 rfl (by kernel_rfl) (by simp) ?_
 simp only [aa,Nat.reduceEqDiff,Nat.reduceAdd,Nat.reduceLeDiff,reduceCtorEq,MJ,a7,j0,tU,ks,mz,p5,aI,Tryz.results75,xM,eI]
 exact au ⟨rfl,I.push _ _ _⟩
end
theorem e7.start {h:J} {aJ:cM} {id m:Nat} {b:At} {c:aZ} {s:bW} (k:dA h aJ id m b c s) (f:Fr h aJ) (aB:fc h) (h0:id≠0) :
  e7 (h.push (.cells [.ptr m 0,.ah,.ah,.ah,.ah,.int .i64 0] 149 none)) (dH aJ h.n (h.n+1) (id,5)) id h.n m b c (s,dS.none):=by
 have bO:I h (h.push (.cells [.ptr m 0,.ah,.ah,.ah,.ah,.int .i64 0] 149 none)) none_:=I.push _ _ _
 have he:∀ q,q<h.n→dH aJ h.n (h.n+1) (id,5) q=aJ q:=fun q af=>zr af
 refine ⟨k.aj bO (fun _ _ U=>by simp [none_] at U) he,⟨.ah,.ah,.ah,.ah,by rw [eA];omega,b6,pm (Nat.le_refl _) (by omega),Own.ah _ _ _,Own.ah _ _ _,Own.ah _ _ _,Own.ah _ _ _,?_,?_,?_,?_⟩,fun q af=>?_,aB.aj bO,h0⟩
 iterate 4 (intro q af;simp [ga,aR] at af)
 rw [eA] at af
 unfold dH
 rw [if_neg (by omega)]
 exact f q (by omega)
theorem dA.Dx {h h':J} {aJ:cM} {id m:Nat} {b:At} {c:aZ} {s:bW} {ck:Seen} (k:dA h aJ id m b c s) (hm:q2 h' (.ptr b.iW 0) ck b.iW b.oz c.ins.length) (hk:I h h' (·=b.oz)):dA h' aJ id m b c { s with ms:=ck }:=by
 have mt:aJ b.oz=(id,3):=k.e3.2
 have k6:∀ q t,q<h.n→aJ q=(id,t)→t≠3→h'.get q=h.get q:=fun q t af bc bw=>hk.get q af fun U=>by rw [U,mt] at bc;simp at bc;omega
 refine ⟨Nat.lt_of_lt_of_le k.lt hk.n,(k6 _ _ k.lt k.own (by omega)).trans k.get,k.own,hm,k.e3,Nat.lt_of_lt_of_le k.iM hk.n,(k6 _ _ k.iM k.jN (by omega)).trans k.map,k.jN,fun u K hu=>?_,k.none⟩
 obtain ⟨a,O,x,h1,ae,aA,bk,bN⟩:=k.some u K hu
 exact ⟨a,O,x,h1,ae,aA.aj hk fun q af U=>by have ar:=bk q af;rw [U,mt] at ar;simp at ar;omega,bk,bN⟩
theorem e7.Dx {h h':J} {aJ:cM} {id st m:Nat} {b:At} {c:aZ} {x:bL} {ck:Seen} (k:e7 h aJ id st m b c x) (hm:q2 h' (.ptr b.iW 0) ck b.iW b.oz c.ins.length) (hk:I h h' (·=b.oz)):e7 h' aJ id st m b c ({ x.1 with ms:=ck },x.2):=by
 obtain ⟨cb,bX,b9,cd,ad⟩:=k.mb
 exact ⟨k.dq.Dx hm hk,⟨cb,bX,b9,cd,ad.aj hk (fun q _ U t bN e2 e=>by subst U;rw [k.dq.e3.2] at e;simp at e;omega) fun _ _=>rfl⟩,fun q af=>k.ay q (Nat.le_trans hk.n af),k.rU.aj hk,k.ku⟩
def vf (x:dS):V:=.agg [.ag x.outs.length (x.outs.flatMap dg),.ag x.verts.length (aO x.verts),eP x.chgs,.ag x.deads.length (x.deads.flatMap co)]
def Steps (id m:Nat) (b:At) (c:aZ) (h:J) (aJ:cM) (y:bL×Int):V→J→Prop:=fun q h'=>q=.tuple [vf y.1.2,.int .i64 y.2]∧∃ ow',dA h' ow' id m b c y.1.1∧(∀ q,q<h.n→ow' q=aJ q)∧Fr h' ow'∧I h h' (fun q=>(aJ q).1=id)
theorem e7.told {h:J} {aJ:cM} {id s m:Nat} {b:At} {c:aZ} {x:bL} {cb bX b9 cd:V} (k:e7 h aJ id s m b c x) (ad:gX h aJ id s m x.2 cb bX b9 cd) :
  ∃ h',aK (.agg [cb,bX,b9,cd]) h (vf x.2) h'∧dA h' aJ id m b c x.1∧I h h' (b2 aJ id)∧Fr h' aJ:=by
 obtain ⟨h1,bd,bo⟩:=aK.own ad.o (n:=x.2.outs.length) (iS zR _) (by decide)
 have v1:=ad.v.aj bo fun q af U=>by have ar:=ad.bX q (am.2 af);have aT:=ad.jI q (am.2 U);rw [ar] at aT;simp at aT
 have Xg:=ad.c.aj bo fun q af U=>by have ar:=ad.cc q (am.2 af);have aT:=ad.jI q (am.2 U);rw [ar] at aT;simp at aT
 have d1:=ad.d.aj bo fun q af U=>by have ar:=ad.k9 q (am.2 af);have aT:=ad.jI q (am.2 U);rw [ar] at aT;simp at aT
 obtain ⟨ae,bH,k2⟩:=aK.own v1 (n:=x.2.verts.length) (by rw [pb,Nat.mul_one]) (by decide)
 have Xh:=Xg.aj k2 fun q af U=>by have ar:=ad.cc q (am.2 af);have aT:=ad.bX q (am.2 U);rw [ar] at aT;simp at aT
 have d2:=d1.aj k2 fun q af U=>by have ar:=ad.k9 q (am.2 af);have aT:=ad.bX q (am.2 U);rw [ar] at aT;simp at aT
 obtain ⟨aA,c3,k3⟩:=aK.own Xh (n:=x.2.chgs.length) (iS ix _) (by decide)
 have d3:=d2.aj k3 fun q af U=>by have ar:=ad.k9 q (am.2 af);have aT:=ad.cc q (am.2 U);rw [ar] at aT;simp at aT
 obtain ⟨bk,dU,bY⟩:=aK.own d3 (n:=x.2.deads.length) (iS H6 _) (by decide)
 have K:I h bk (fun q=>∃ t,aJ q=(id,t)∧5≤t∧t≤9) :=
  (((bo.mono fun q af=>⟨6,ad.jI q (am.2 af),by omega,by omega⟩).trans' (k2.mono fun q af=>⟨7,ad.bX q (am.2 af),by omega,by omega⟩)).trans' (k3.mono fun q af=>⟨8,ad.cc q (am.2 af),by omega,by omega⟩)).trans' (bY.mono fun q af=>⟨9,ad.k9 q (am.2 af),by omega,by omega⟩)
 exact ⟨bk,aK.agg (az.cons bd (az.cons bH (az.cons c3 (az.cons dU (az.refl [] bk))))),k.dq.part K (fun q _ U=>U) fun _ _=>rfl,K.mono fun q ⟨t,h1,ae,_⟩=>by unfold b2;rw [h1];exact ⟨rfl,ae⟩,fun q af=>k.ay q (Nat.le_trans K.n af)⟩
theorem G8 {M:Nat→Prop} {bV:Operand→V} {t:TypeId} {x y:Operand} {ok:Bool}:ru M (vF bV (.lookup t x y ok))=zM M (bV x):=rfl
theorem Xi {cl:Nat} {k a:Int}:∀ {l:Seen} {e:Nat×Int×Int},e ∈ eB cl l k a→e.2.2=a∨e ∈ l
 | [],e,h=>by simp [eB] at h;exact .inl (by rw [h])
 | x::r,e,h=>by
  unfold eB at h
  split at h
  ·rcases List.mem_cons.1 h with h | h
   ·exact .inl (by rw [h])
   ·exact .inr (by simp [h])
  ·rcases List.mem_cons.1 h with h | h
   ·exact .inr (by simp [h])
   ·rcases Xi h with h | h
    ·exact .inl h
    ·exact .inr (by simp [h])
theorem OX {cl:Nat} {l:Seen} {v t:Int} (h:∀ e ∈ l,-1≤e.2.2∧e.2.2≤1099511627776):∀ e ∈ dX cl l v t,-1≤e.2.2∧e.2.2≤1099511627776:=fun e he=>by
 unfold dX at he
 split at he
 ·exact h e he
 ·split at he
  ·exact h e he
  ·split at he
   ·exact h e he
   ·rename_i h1 ae
    rcases Xi he with he | he
    ·omega
    ·exact h e he
theorem Xj {l:Seen} (h:∀ e ∈ l,-1≤e.2.2∧e.2.2≤1099511627776):-2 ^ 63≤leastOf l∧leastOf l<2 ^ 63:=by
 have aC:∀ (r:Seen),(∀ e ∈ r,-1≤e.2.2∧e.2.2≤1099511627776)→-1≤r.foldr (fun e m=>min e.2.2 m) (1099511627776:Int)∧r.foldr (fun e m=>min e.2.2 m) (1099511627776:Int)≤1099511627776:=by
  intro r
  induction r with
  | nil=>intro _;simp
  | cons a r ih=>
   intro aU
   have h1:=aU a (by simp)
   have ae:=ih fun e he=>aU e (by simp [he])
   simp only [List.foldr_cons]
   omega
 unfold leastOf
 split
 ·omega
 ·have:=aC l h;omega
theorem Jc (x:bL):x.2.verts.length+x.2.chgs.length≤sz x:=by unfold sz;omega
theorem Xk {K:df} {l:List ai} (w:cz K l) (m:Int):(fv K m l).length≤1024:=by
 have h1:(fv K m l).length=((l.filter (uX K m)).map gd).length:=(m7 K _).length_eq
 rw [h1,List.length_map]
 exact Nat.le_trans (List.length_filter_le _ _) w.len
theorem Jd {h h':J} {aJ:cM} {id m:Nat} {b:At} {c:aZ} {s:bW} (k:dA h aJ id m b c s) (hk:I h h' (fun q=>b2 aJ id q)∨h'=h):q2 h' (.ptr b.iW 0) s.ms b.iW b.oz c.ins.length:=by
 rcases hk with hk | rfl
 ·obtain ⟨ar,gq,k5,lK,g1,g2,st⟩:=k.marks
  exact ⟨ar,Nat.lt_of_lt_of_le gq hk.n,Nat.lt_of_lt_of_le k5 hk.n,lK,(hk.get _ gq (fun U=>by unfold b2 at U;rw [k.e3.1] at U;simp at U)).trans g1,(hk.get _ k5 (fun U=>by unfold b2 at U;rw [k.e3.2] at U;simp at U)).trans g2,st⟩
 ·exact k.marks
theorem y7 {c:aZ} {u:Nat}:eK c 3000 (fun x=>cn c u x):=fun x i=>by
 show bT c 3000 x (cn c u x)
 unfold cn
 cases bE:c.cB u with
 | none=>exact (bT.refl i).mono (by omega)
 | some K=>
  have w:=i.wf u K bE
  have h1:=Df (c:=c) (u:=u) (l:=fP K (leastOf x.1.ms) (x.1.st u)) (fun uY ae=>by rw [bE] at ae;cases ae;exact w.fP _) x i
  have ae:=y5 c u (fv K (leastOf x.1.ms) (x.1.st u)) _ h1.inv
  have aM:(fv K (leastOf x.1.ms) (x.1.st u)).length≤1024:=by
   have h1:(fv K (leastOf x.1.ms) (x.1.st u)).length=((x.1.st u).filter (uX K (leastOf x.1.ms))).length:=by
    have:=(m7 K (((x.1.st u).filter (uX K (leastOf x.1.ms))).map gd)).length_eq
    rw [List.length_map] at this
    exact this
   rw [h1]
   exact Nat.le_trans (List.length_filter_le _ _) w.len
  exact (h1.trans ae).mono (by omega)
theorem vG {a b c d:V} (a6:a.one=true) (av:b.one=true) (aF:c.one=true) (bb:d.one=true):bM (some 4) (aV.cells [V.ah,V.ah,V.ah,V.ah] 67 none) 0 [a,b,c,d]=some (.cells [a,b,c,d] 67 none):=by
 have e:∀ (p:Prop) [Decidable p] (x:Option aV),p→(if p then x else none)=x:=fun p _ x aW=>if_pos aW
 exact e _ (some (.cells (lay [V.ah,V.ah,V.ah,V.ah] 0 [a,b,c,d]) 67 none)) ⟨rfl,by simp [a6,av,aF,bb],by decide⟩
theorem OY {h bk:J} {aJ ea:cM} {id st m:Nat} {b:At} {c:aZ} {y:bL} {cb bX b9 cd:V} (bY:e7 bk ea id st m b c y) (tt:gX bk ea id st m y.2 cb bX b9 cd) {t0:Nat} (bw:h.n≤t0) (tmp:ea t0=(0,0))
  (he:∀ q,q<h.n→ea q=aJ q) (vL:I h bk (fun q=>(aJ q).1=id)) (ob:aV) :
  ∃ v2 ae,aK (.tuple [.agg [cb,bX,b9,cd],.int .i64 0]) (bk.set t0 ob) v2 ae∧Steps id m b c h aJ (y,0) v2 ae:=by
 have dV:I bk (bk.set t0 ob) (·=t0):=I.set _ _ _
 have cG:=bY.oB dV tmp
 have Gu:gX (bk.set t0 ob) ea id st m y.2 cb bX b9 cd:=tt.aj dV (fun q _ U t2 _ _ e=>by subst U;rw [tmp] at e;exact bY.ku (congrArg Prod.fst e).symm) fun _ _=>rfl
 obtain ⟨dd,Hs,nO,kk,ay⟩:=cG.told Gu
 exact ⟨_,dd,aK.tuple (az.cons Hs (az.refl _ _)),rfl,ea,nO,he,ay,(vL.trans dV fun q af U=>by omega).trans kk fun q af U=>by unfold b2 at U;rw [he q af] at U;exact U.1⟩
theorem Xl {l:List bu} {P:List Int} {part:Int}:∀ {i:Nat} {y:Int},y ∈ jw l P part i→0≤y
 | 0,y,h=>by simp [jw] at h
 | i+1,y,h=>by
  unfold jw at h
  rcases List.mem_append.1 h with h | h
  ·exact Xl h
  ·split at h
   ·simp at h;omega
   ·simp at h
theorem ah6 {c:aZ} {v:Int} (h:v ∈ c.ins):0≤v:=Xl h
theorem ah7 {cl:Nat} {l:Seen} {v t:Int} (h:(dh l v t).2≠0):dX cl l v t=l:=by
 unfold dh at h
 unfold dX
 cases aB:db l v with
 | none=>rfl
 | some g=>
  rw [aB] at h
  simp only at h⊢
  split
  ·rfl
  ·rename_i h1
   rw [if_neg h1] at h
   split at h<;>simp at h
section
variable {id m:Nat} {b:At} {c:aZ}
theorem ym (o:fr c) {s:bW} {h:J} {aJ:cM} (k:dA h aJ id m b c s) (hk:rb c s) (l1:∀ u K,c.cB u=some K→cz K (s.st u)) (f:Fr h aJ) (aB:fc h) (h0:id≠0) (v:Int) (r:Rec) :
  ab Tryz.prog 27 [.ptr m 0,.int .i64 v,.agg (aD r)] h (Steps id m b c h aJ (stepT c s v r)):=by
 refine ab.cast ?_
 refine ab.ao (c:=_) Tryz.func27 rfl (by kernel_rfl) (by simp) ?_
 obtain ⟨H,hH⟩:∃ y,y=(h.push (.cells (aD r) 38 none)).push (.cells [.ah,.ah,.ah,.ah] 67 none):=⟨_,rfl⟩
 have bq:I h H none_:=by rw [hH];exact (I.push _ _ _).a8 _
 have h9:H.n=h.n+2:=by rw [hH];rfl
 have kO:H.get h.n=.cells (aD r) 38 none:=by rw [hH,kM (by rw [eA];omega)];exact b6
 have gt:H.get (h.n+1)=.cells [.ah,.ah,.ah,.ah] 67 none:=by rw [hH];exact b6
 have nO:=k.aQ bq
 have Xm:Fr H aJ:=fun q af=>f q (by omega)
 have ld:cX (some (some 3)) (some (aD r))=some (.agg (aD r)):=rfl
 have d0:da (.cells (aD r) 38 none) 0=some (aD r):=rfl
 simp only [aa,Nat.reduceEqDiff,reduceCtorEq,tR]
 rw [←hH]
 clear hH
 refine bB Ks (Xf o nO hk v) ?_
 cases bS:c.ins.contains v
 ·have fT:stepT c s v r=((s,dS.none),6):=by unfold stepT;rw [if_pos bS]
  rw [fT]
  simp only [aa,Nat.reduceEqDiff,Nat.reduceAdd,yn,Zl,tR,ss,gt,aI,Tryz.results27,fW,fJ,eI,fV]
  have dV:I H (H.set (h.n+1) (aV.cells [V.ah,V.ah,V.ah,V.ah] 67 none)) (fun q=>q=h.n+1):=I.set _ _ _
  have Xn:=nO.aj (ow':=aJ) dV (fun q _ U=>by subst U;rw [f _ (by omega)];exact fun e=>h0 e.symm) fun _ _=>rfl
  exact au ⟨_,_,aK.tuple (az.cons (aK.agg (az.cons (aK.iR _) (az.cons (aK.iR _) (az.cons (aK.iR _) (az.cons (aK.iR _) (az.refl [] _)))))) (az.refl _ _)),rfl,aJ,Xn,fun _ _=>rfl,fun q af=>Xm q af,bq.up.trans dV fun q af U=>by omega⟩
 ·obtain ⟨bI,bA⟩:∃ y,y=H.push (.cells [.ptr m 0,.ah,.ah,.ah,.ah,.int .i64 0] 149 none):=⟨_,rfl⟩
  have k2:I H bI none_:=by rw [bA];exact I.push _ _ _
  have ef:bI.n=H.n+1:=by rw [bA];rfl
  have kk:=e7.start nO Xm (aB.aj bq) h0
  rw [←bA] at kk
  have Cj:∀ q,q<H.n→dH aJ H.n (H.n+1) (id,5) q=aJ q:=fun q af=>zr af
  have nS:=(k2.get h.n (by omega) (by simp [none_])).trans kO
  have jL:=(k2.get (h.n+1) (by omega) (by simp [none_])).trans gt
  have dI:=kk.dq.get
  rw [pT] at dI
  have D8:da (.cells (aD r) 38 none) 2=some [.int .i64 r.t]:=rfl
  have m1:(m=b.oz)=False:=eq_false fun e=>by have h1:=k.own;have ae:=k.e3.2;rw [e,ae] at h1;simp at h1
  have m2:(h.n=b.oz)=False:=eq_false fun e=>by have h1:=k.e3.2;rw [←e,f _ (Nat.le_refl _)] at h1;simp at h1
  simp only [aa,Nat.reduceEqDiff,Nat.reduceAdd,Nat.reduceLeDiff,reduceCtorEq,adF,adU]
  rw [←bA]
  clear bA
  generalize dH aJ H.n (H.n+1) (id,5)=fs at kk Cj
  refine aP.aY (fun q=>q=b.oz) [7] (.q 0 (.q 1 (.q 2 (.q 3 (.q 4 (.q 5 (.q 6 (.a 7 (.q 8 (.q 9 (.q 10 (.q 11 (.q 12 .done))))))))))))) (by kernel_rfl) (by kernel_rfl) (by kernel_rfl) ?_
  simp only [aa,bD,fg,Nat.reduceEqDiff,Nat.reduceAdd,Nat.reduceLeDiff,reduceCtorEq,xQ,qQ,xR,br,dI,nS,D8,m1,m2]
  refine bU Zi (IZ bI _ s.ms _ _ _ kk.dq.marks v r.t) fun q aA ⟨ar,sW,sl⟩=>?_
  subst ar
  have dL:=kk.Dx sW sl
  have hE:I bI aA (fun q=>q=b.oz):=sl
  have n3:=sl.n
  have m3:h.n+1≠b.oz:=fun e=>by have h1:=k.e3.2;rw [←e,f _ (by omega)] at h1;simp at h1
  have kb:=(sl.get h.n (by omega) (fun U=>m2.mp U)).trans nS
  have lg:=(sl.get (h.n+1) (by omega) m3).trans jL
  have wQ:∀ q,q<h.n→fs q=aJ q:=fun q af=>Cj q (by omega)
  have OZ:fs h.n=(0,0):=(Cj _ (by omega)).trans (f _ (Nat.le_refl _))
  have sP:fs (h.n+1)=(0,0):=(Cj _ (by omega)).trans (f _ (by omega))
  have AW:I h aA (fun q=>(aJ q).1=id):=(bq.up.trans k2.up fun _ _ U=>U).trans sl fun q af U=>by subst U;rw [k.e3.2]
  cases he:((dh s.ms v r.t).2 !=0)
  rotate_left
  ·have iv:(dh s.ms v r.t).2≠0:=by simpa using he
   have fT:stepT c s v r=(mS v r (dh s.ms v r.t).2 (s,dS.none),0):=by unfold stepT;rw [if_neg (by rw [bS];decide),if_pos iv]
   rw [fT]
   have gw:dX c.ins.length s.ms v r.t=s.ms:=ah7 iv
   rw [gw] at dL
   simp only [aa,bD,fg,Nat.reduceEqDiff,dj,he,kb,ld,d0]
   refine bU zX (AU dL v r _ (Nat.zero_le _)) fun q bk ⟨ar,ea,ek,bY⟩=>?_
   subst ar
   obtain ⟨cb,bX,b9,cd,tt⟩:=bY.mb
   have g4:=tt.get
   have Xo:=(ek.aj.get (h.n+1) (by omega) (fun U=>by unfold b2 at U;rw [sP] at U;exact h0 U.1.symm)).trans lg
   have GB:bM (some 4) (aV.cells [V.ah,V.ah,V.ah,V.ah] 67 none) 0 [cb,bX,b9,cd]=some (.cells [cb,bX,b9,cd] 67 none):=vG (rV tt.o).1 (rV tt.v).1 (rV tt.c).1 (rV tt.d).1
   simp only [aa,Nat.reduceEqDiff,Nat.reduceAdd,Nat.reduceLeDiff,yx,yn,ss,g4,Xo,GB,aI,Tryz.results27,fW,fJ,eI,fV]
   exact au (OY bY tt (t0:=h.n+1) (by omega) ((ek.cH _ (by omega)).trans sP) (fun q af=>(ek.cH q (by omega)).trans (wQ q af)) (AW.trans ek.aj fun q af U=>by unfold b2 at U;rw [wQ q af] at U;exact U.1) _)
  ·have iv:¬(dh s.ms v r.t).2≠0:=by simpa using he
   obtain ⟨gi,gH⟩:∃ gi:bL,gi=({ s with ms:=dX c.ins.length s.ms v r.t },dS.none):=⟨_,rfl⟩
   obtain ⟨gv,jD⟩:∃ gv:bL,gv=(if (dh s.ms v r.t).1=true then iF v [lU c r.t] gi else gi):=⟨_,rfl⟩
   have fT:stepT c s v r=((List.range c.l.length).foldl (fun x u=>cn c u x) (mj c 24 v r gv),0):=by
    unfold stepT
    rw [if_neg (by rw [bS];decide),if_neg iv,jD,gH]
   rw [fT]
   have i0:Inv c gi:=by rw [gH];exact ⟨Nat.zero_le _,l1⟩
   have z0:sz gi=4000000:=by rw [gH];simp [sz,dS.none]
   have u7:e7 aA fs id H.n m b c gi:=by rw [gH];exact dL
   have t1:bT c 2 gi gv:=by
    rw [jD];split
    ·exact y5 c v [lU c r.t] gi i0
    ·exact (bT.refl i0).mono (by omega)
   have o5:0≤v:=ah6 (by simpa using bS)
   cases zt:(dh s.ms v r.t).1
   ·have fp:gv=gi:=by rw [jD,zt];rfl
    rw [←fp] at u7
    obtain ⟨bk,GC⟩:∃ bk,bk=aA:=⟨_,rfl⟩
    obtain ⟨ea,GD⟩:∃ ea,ea=fs:=⟨_,rfl⟩
    have bY:e7 bk ea id H.n m b c gv:=by rw [GC,GD];exact u7
    have ek:eS id aA fs bk ea:=by rw [GC,GD];exact eS.refl u7.ay
    simp only [aa,bD,fg,Nat.reduceEqDiff,dj,he,kb,ld,d0]
    rw [←GC]
    refine bU zY (OW o 24 v (by have:=o.len;omega) r bk ea gv bY t1.inv (by have:=t1.sz;omega)) fun q bN ⟨ar,et,qA,cG⟩=>?_
    subst ar
    have ux:=cG.dq.get
    rw [pT] at ux
    simp only [aa,Nat.reduceEqDiff,Nat.reduceAdd,reduceCtorEq,CP,jH,d9,ji,ux]
    have AX:=ek.trans qA
    have t5:=t1.trans (xu o.len 24 v r gv t1.inv)
    generalize mj c 24 v r gv=pV at cG t5
    have sK:=o.len
    refine aP.bG (α:=Nat×cM) (fun y f h'=>f 0=.ptr m 0∧f 6=.ptr (h.n+1) 0∧f 8=.ptr H.n 0∧f 60=.int .i64 ((c.l.length:Nat):Int)∧f 61=.int .i64 (y.1:Nat)∧y.1≤c.l.length ∧
      eS id aA fs h' y.2∧e7 h' y.2 id H.n m b c ((List.range y.1).foldl (fun x u=>cn c u x) pV)∧bT c (3000 * y.1) pV ((List.range y.1).foldl (fun x u=>cn c u x) pV)) (fun y=>c.l.length - y.1) (0,et)
     ⟨rfl,rfl,rfl,rfl,rfl,Nat.zero_le _,AX,cG,bT.refl t5.inv⟩ ?_
    have td:gi.1.ms=dX c.ins.length s.ms v r.t:=by rw [gH]
    clear jD gH fT
    rintro ⟨t,hL⟩ cx dd ⟨f0,f6,f8,f60,f61,bw,mc,fY,t6⟩
    simp only at f61 bw mc fY t6
    refine dw (by kernel_rfl) ?_
    by_cases aH:t<c.l.length
    ·have d1:decide ((t:Int)<((c.l.length:Nat):Int))=true:=decide_eq_true (by omega)
     have y8:=kf aH (by omega)
     have e1:(List.range (t+1)).foldl (fun x u=>cn c u x) pV=cn c t ((List.range t).foldl (fun x u=>cn c u x) pV):=by rw [List.range_succ,List.foldl_append];rfl
     generalize (List.range t).foldl (fun x u=>cn c u x) pV=en at e1 fY t6
     have rA:=fY.dq.get
     rw [pT] at rA
     have cq:b2 hL id m=False:=eq_false fun U=>by unfold b2 at U;rw [fY.dq.own] at U;simp at U
     have cP:b2 hL id b.mp=False:=eq_false fun U=>by unfold b2 at U;rw [fY.dq.jN] at U;simp at U
     have iO:=lookup_int (P:=Tryz.prog) (ok:=false) (k:=(t:Int)) DO Hc fY.dq.map
     simp only [aa,Nat.reduceEqDiff,f60,f61,d1]
     cases bE:c.cB t with
     | none=>
      rw [fY.dq.none t bE] at iO
      have pU:n5 Tryz.prog 144 (.map b.mp) (.int .i64 (t:Int)) false dd=some .cZ:=iO
      refine aP.aY (fun q=>b2 hL id q) [14] (.q 0 (.q 1 (.q 2 (.q 3 (.q 4 (.q 5 (.q 6 (.q 7 (.q 8 (.q 9 (.q 10 (.q 11 (.c 12 (.c 13 (.a 14 .done))))))))))))))) (by kernel_rfl) (by kernel_rfl) (by kernel_rfl) ?_
      simp only [aa,bD,fg,Nat.reduceEqDiff,Nat.reduceAdd,Nat.reduceLeDiff,reduceCtorEq,xQ,yw,xR,yy,f0,f8,rA,cq,cP,pU,G8]
      refine gE rfl rfl rfl (fun h' fq=>DY h' _ _ _ _ _ (Jd fY.dq fq)) ?_
      simp only [fg]
      refine gE rfl rfl rfl (fun h' fq=>W0 (leastOf en.1.ms) h') ?_
      simp only [aa,bD,fg,Nat.reduceEqDiff]
      have tG:=Dd fY (t:Int) [] (by have h1:=t5.sz;have ae:=t6.sz;have aA:=t1.sz;have bk:=Jc en;simp only [List.length_nil];omega)
      refine bU CO (ab.args (az.cons (aK.refl _ _) (az.cons (aK.refl _ _) (az.cons (aK.iR dd) (az.refl [] dd)))) tG) fun q kC ⟨ar,tO,rZ,gx⟩=>?_
      subst ar
      have GF:I dd kC (fun q=>b2 hL id q):=rZ.aj
      have bC:cn c t en=iF (t:Int) [] en:=by unfold cn;rw [bE];simp [iF]
      rw [←bC] at gx
      have AY:=t6.trans (y7 (u:=t) en t6.inv)
      simp only [aa,bD,fg,Nat.reduceEqDiff,f61,y8]
      exact au ⟨(t+1,tO),⟨f0,f6,f8,f60,rfl,aH,mc.trans rZ,by have U:=gx;rw [←e1] at U;exact U,by have U:bT c (3000 * (t+1)) pV (cn c t en):=AY.mono (by omega);rw [←e1] at U;exact U⟩,by simp only;omega⟩
     | some K=>
      obtain ⟨a,O,a6,fG,oE,mW,wO⟩:=fY.at bE (List.getElem?_eq_getElem aH)
      rw [a6] at iO
      have pU:n5 Tryz.prog 144 (.map b.mp) (.int .i64 (t:Int)) false dd=some (.ptr a 0):=iO
      refine aP.aY (fun q=>b2 hL id q) [13,14] (.q 0 (.q 1 (.q 2 (.q 3 (.q 4 (.q 5 (.q 6 (.q 7 (.q 8 (.q 9 (.q 10 (.q 11 (.c 12 (.e 13 (.a 14 .done) .stop)))))))))))))) (by kernel_rfl) (by kernel_rfl) (by kernel_rfl) ?_
      simp only [aa,bD,fg,Nat.reduceEqDiff,Nat.reduceAdd,Nat.reduceLeDiff,reduceCtorEq,xQ,yw,xR,yy,f0,f8,rA,cq,cP,pU,G8]
      refine gE rfl rfl rfl (fun h' fq=>DY h' _ _ _ _ _ (Jd fY.dq fq)) ?_
      simp only [aa,bD,fg,Nat.reduceEqDiff]
      have AZ:-2 ^ 63≤leastOf en.1.ms∧leastOf en.1.ms<2 ^ 63:=by
       rw [t6.ms,t5.ms,td]
       exact Xj (OX hk.2)
      refine bU SQ (VK fG (leastOf en.1.ms) AZ) fun q jG ⟨dG,O0,zU,y9,GG,O1⟩=>?_
      have GH:I dd jG (fun q=>b2 hL id q):=y9.mono fun q af=>by unfold b2;rw [mW q af];exact ⟨rfl,by show 5≤10+t;omega⟩
      have dk:(fv K (leastOf en.1.ms) (en.1.st t)).length≤1024:=Xk (fG.wf) _
      obtain ⟨cp,Dh,r0⟩:=aK.own O0 (n:=(fv K (leastOf en.1.ms) (en.1.st t)).length) (iS ix _) (by decide)
      have GI:I dd cp (· ∈ O):=y9.trans r0 fun q af U=>by have:=(zU q U).1;omega
      obtain ⟨Xp,za,hE⟩:=wO cp dG _ GI GG (O1.aj r0 fun q af U=>(zU q U).2 af)
      have O2:=Df (c:=c) (u:=t) (l:=fP K (leastOf en.1.ms) (en.1.st t)) (fun uY ae=>by rw [bE] at ae;cases ae;exact (t6.inv.wf t K bE).fP _) en t6.inv
      have tG:=Dd hE (t:Int) (fv K (leastOf en.1.ms) (en.1.st t)) (by have h1:=t5.sz;have ae:=t6.sz;have aA:=t1.sz;have bk:=O2.sz;have bN:=Jc (hq t (fP K (leastOf en.1.ms) (en.1.st t)) en);omega)
      simp only [aa,bD,fg,Nat.reduceEqDiff,GH]
      refine bU CO (ab.args (az.cons (aK.refl _ _) (az.cons (aK.refl _ _) (az.cons Dh (az.refl [] cp)))) tG) fun ah8 kC ⟨ar,tO,rZ,gx⟩=>?_
      subst ar
      have zb:=za.trans rZ
      have GF:I dd kC (fun q=>b2 hL id q):=zb.aj
      have bC:cn c t en=iF (t:Int) (fv K (leastOf en.1.ms) (en.1.st t)) (hq t (fP K (leastOf en.1.ms) (en.1.st t)) en):=by unfold cn;rw [bE]
      rw [←bC] at gx
      have AY:=t6.trans (y7 (u:=t) en t6.inv)
      simp only [aa,bD,fg,Nat.reduceEqDiff,f61,y8]
      exact au ⟨(t+1,tO),⟨f0,f6,f8,f60,rfl,aH,mc.trans zb,by have U:=gx;rw [←e1] at U;exact U,by have U:bT c (3000 * (t+1)) pV (cn c t en):=AY.mono (by omega);rw [←e1] at U;exact U⟩,by simp only;omega⟩
    ·have d1:decide ((t:Int)<((c.l.length:Nat):Int))=false:=decide_eq_false (by omega)
     obtain rfl:t=c.l.length:=by omega
     obtain ⟨cb,bX,b9,cd,nU⟩:=fY.mb
     have g6:=nU.get
     have p4:=(mc.aj.get (h.n+1) (by omega) (fun U=>by unfold b2 at U;rw [sP] at U;exact h0 U.1.symm)).trans lg
     have zc:bM (some 4) (aV.cells [V.ah,V.ah,V.ah,V.ah] 67 none) 0 [cb,bX,b9,cd]=some (.cells [cb,bX,b9,cd] 67 none):=vG (rV nU.o).1 (rV nU.v).1 (rV nU.c).1 (rV nU.d).1
     simp only [aa,Nat.reduceEqDiff,Nat.reduceAdd,Nat.reduceLeDiff,yx,yn,ss,f6,f8,f60,f61,d1,g6,p4,zc,aI,Tryz.results27,fW,fJ,eI,fV]
     exact au (OY fY nU (t0:=h.n+1) (by omega) ((mc.cH _ (by omega)).trans sP) (fun q af=>(mc.cH q (by omega)).trans (wQ q af)) (AW.trans mc.aj fun q af U=>by unfold b2 at U;rw [wQ q af] at U;exact U.1) _)
   ·have fp:gv=iF v [lU c r.t] gi:=by rw [jD,zt];rfl
    have ah9:da (.cells (aD r) 38 none) 2=some [.int .i64 r.t]:=rfl
    have tN:=u7.dq.get
    rw [pT] at tN
    simp only [aa,bD,fg,Nat.reduceEqDiff,reduceCtorEq,qQ,br,he,kb,D8]
    refine bB Zj (AI u7.dq r.t) ?_
    simp only [aa,Nat.reduceEqDiff,DQ]
    obtain ⟨Xq,Ck⟩:∃ y,y=aA.push (.cells (aw (lU c r.t)) 40 none):=⟨_,rfl⟩
    have Xr:I aA Xq none_:=by rw [Ck];exact I.push _ _ _
    have Xs:Own Xq 40 5 (.bp aA.n 0 1 1) (aw (lU c r.t)):=by rw [Ck];exact Own.js _ 1 rfl (by decide)
    rw [←Ck]
    clear Ck
    obtain ⟨cp,Dh,r0⟩:=aK.own Xs (n:=1) rfl (by decide)
    have LL:=(u7.aQ Xr).oB (r0.mono fun q af=>by simpa [bn,aR,eq_comm] using af) (u7.ay aA.n (Nat.le_refl _))
    have tG:=Dd LL v [lU c r.t] (by rw [gH];simp [dS.none])
    have kB:eP [lU c r.t]=.ag 1 (aw (lU c r.t)):=by simp [eP]
    rw [kB] at tG
    refine bU CO (ab.args (az.cons (aK.refl _ _) (az.cons (aK.refl _ _) (az.cons Dh (az.refl [] cp)))) tG) fun q bk ⟨ar,ea,O3,bY⟩=>?_
    subst ar
    rw [←fp] at bY
    have za:eS id aA fs cp fs:=⟨fun _ _=>rfl,Xr.up.trans r0 (fun q af U=>by simp [bn,aR] at U;omega),LL.ay,trivial⟩
    have ek:=za.trans O3
    have Xt:=(ek.aj.get h.n (by omega) (fun U=>by unfold b2 at U;rw [OZ] at U;exact h0 U.1.symm)).trans kb
    simp only [aa,Nat.reduceEqDiff,dj,Xt,ld,d0]
    refine bU zY (OW o 24 v (by have:=o.len;omega) r bk ea gv bY t1.inv (by have:=t1.sz;omega)) fun q bN ⟨ar,et,qA,cG⟩=>?_
    subst ar
    have ux:=cG.dq.get
    rw [pT] at ux
    simp only [aa,Nat.reduceEqDiff,Nat.reduceAdd,reduceCtorEq,CP,jH,d9,ji,ux]
    have AX:=ek.trans qA
    have t5:=t1.trans (xu o.len 24 v r gv t1.inv)
    generalize mj c 24 v r gv=pV at cG t5
    have sK:=o.len
    refine aP.bG (α:=Nat×cM) (fun y f h'=>f 0=.ptr m 0∧f 6=.ptr (h.n+1) 0∧f 8=.ptr H.n 0∧f 60=.int .i64 ((c.l.length:Nat):Int)∧f 61=.int .i64 (y.1:Nat)∧y.1≤c.l.length ∧
      eS id aA fs h' y.2∧e7 h' y.2 id H.n m b c ((List.range y.1).foldl (fun x u=>cn c u x) pV)∧bT c (3000 * y.1) pV ((List.range y.1).foldl (fun x u=>cn c u x) pV)) (fun y=>c.l.length - y.1) (0,et)
     ⟨rfl,rfl,rfl,rfl,rfl,Nat.zero_le _,AX,cG,bT.refl t5.inv⟩ ?_
    have td:gi.1.ms=dX c.ins.length s.ms v r.t:=by rw [gH]
    clear jD gH fT
    rintro ⟨t,hL⟩ cx dd ⟨f0,f6,f8,f60,f61,bw,mc,fY,t6⟩
    simp only at f61 bw mc fY t6
    refine dw (by kernel_rfl) ?_
    by_cases aH:t<c.l.length
    ·have d1:decide ((t:Int)<((c.l.length:Nat):Int))=true:=decide_eq_true (by omega)
     have y8:=kf aH (by omega)
     have e1:(List.range (t+1)).foldl (fun x u=>cn c u x) pV=cn c t ((List.range t).foldl (fun x u=>cn c u x) pV):=by rw [List.range_succ,List.foldl_append];rfl
     generalize (List.range t).foldl (fun x u=>cn c u x) pV=en at e1 fY t6
     have rA:=fY.dq.get
     rw [pT] at rA
     have cq:b2 hL id m=False:=eq_false fun U=>by unfold b2 at U;rw [fY.dq.own] at U;simp at U
     have cP:b2 hL id b.mp=False:=eq_false fun U=>by unfold b2 at U;rw [fY.dq.jN] at U;simp at U
     have iO:=lookup_int (P:=Tryz.prog) (ok:=false) (k:=(t:Int)) DO Hc fY.dq.map
     simp only [aa,Nat.reduceEqDiff,f60,f61,d1]
     cases bE:c.cB t with
     | none=>
      rw [fY.dq.none t bE] at iO
      have pU:n5 Tryz.prog 144 (.map b.mp) (.int .i64 (t:Int)) false dd=some .cZ:=iO
      refine aP.aY (fun q=>b2 hL id q) [14] (.q 0 (.q 1 (.q 2 (.q 3 (.q 4 (.q 5 (.q 6 (.q 7 (.q 8 (.q 9 (.q 10 (.q 11 (.c 12 (.c 13 (.a 14 .done))))))))))))))) (by kernel_rfl) (by kernel_rfl) (by kernel_rfl) ?_
      simp only [aa,bD,fg,Nat.reduceEqDiff,Nat.reduceAdd,Nat.reduceLeDiff,reduceCtorEq,xQ,yw,xR,yy,f0,f8,rA,cq,cP,pU,G8]
      refine gE rfl rfl rfl (fun h' fq=>DY h' _ _ _ _ _ (Jd fY.dq fq)) ?_
      simp only [fg]
      refine gE rfl rfl rfl (fun h' fq=>W0 (leastOf en.1.ms) h') ?_
      simp only [aa,bD,fg,Nat.reduceEqDiff]
      have tG:=Dd fY (t:Int) [] (by have h1:=t5.sz;have ae:=t6.sz;have aA:=t1.sz;have bk:=Jc en;simp only [List.length_nil];omega)
      refine bU CO (ab.args (az.cons (aK.refl _ _) (az.cons (aK.refl _ _) (az.cons (aK.iR dd) (az.refl [] dd)))) tG) fun q kC ⟨ar,tO,rZ,gx⟩=>?_
      subst ar
      have GF:I dd kC (fun q=>b2 hL id q):=rZ.aj
      have bC:cn c t en=iF (t:Int) [] en:=by unfold cn;rw [bE];simp [iF]
      rw [←bC] at gx
      have AY:=t6.trans (y7 (u:=t) en t6.inv)
      simp only [aa,bD,fg,Nat.reduceEqDiff,f61,y8]
      exact au ⟨(t+1,tO),⟨f0,f6,f8,f60,rfl,aH,mc.trans rZ,by have U:=gx;rw [←e1] at U;exact U,by have U:bT c (3000 * (t+1)) pV (cn c t en):=AY.mono (by omega);rw [←e1] at U;exact U⟩,by simp only;omega⟩
     | some K=>
      obtain ⟨a,O,a6,fG,oE,mW,wO⟩:=fY.at bE (List.getElem?_eq_getElem aH)
      rw [a6] at iO
      have pU:n5 Tryz.prog 144 (.map b.mp) (.int .i64 (t:Int)) false dd=some (.ptr a 0):=iO
      refine aP.aY (fun q=>b2 hL id q) [13,14] (.q 0 (.q 1 (.q 2 (.q 3 (.q 4 (.q 5 (.q 6 (.q 7 (.q 8 (.q 9 (.q 10 (.q 11 (.c 12 (.e 13 (.a 14 .done) .stop)))))))))))))) (by kernel_rfl) (by kernel_rfl) (by kernel_rfl) ?_
      simp only [aa,bD,fg,Nat.reduceEqDiff,Nat.reduceAdd,Nat.reduceLeDiff,reduceCtorEq,xQ,yw,xR,yy,f0,f8,rA,cq,cP,pU,G8]
      refine gE rfl rfl rfl (fun h' fq=>DY h' _ _ _ _ _ (Jd fY.dq fq)) ?_
      simp only [aa,bD,fg,Nat.reduceEqDiff]
      have AZ:-2 ^ 63≤leastOf en.1.ms∧leastOf en.1.ms<2 ^ 63:=by
       rw [t6.ms,t5.ms,td]
       exact Xj (OX hk.2)
      refine bU SQ (VK fG (leastOf en.1.ms) AZ) fun q jG ⟨dG,O0,zU,y9,GG,O1⟩=>?_
      have GH:I dd jG (fun q=>b2 hL id q):=y9.mono fun q af=>by unfold b2;rw [mW q af];exact ⟨rfl,by show 5≤10+t;omega⟩
      have dk:(fv K (leastOf en.1.ms) (en.1.st t)).length≤1024:=Xk (fG.wf) _
      obtain ⟨cp,Dh,r0⟩:=aK.own O0 (n:=(fv K (leastOf en.1.ms) (en.1.st t)).length) (iS ix _) (by decide)
      have GI:I dd cp (· ∈ O):=y9.trans r0 fun q af U=>by have:=(zU q U).1;omega
      obtain ⟨Xp,za,hE⟩:=wO cp dG _ GI GG (O1.aj r0 fun q af U=>(zU q U).2 af)
      have O2:=Df (c:=c) (u:=t) (l:=fP K (leastOf en.1.ms) (en.1.st t)) (fun uY ae=>by rw [bE] at ae;cases ae;exact (t6.inv.wf t K bE).fP _) en t6.inv
      have tG:=Dd hE (t:Int) (fv K (leastOf en.1.ms) (en.1.st t)) (by have h1:=t5.sz;have ae:=t6.sz;have aA:=t1.sz;have bk:=O2.sz;have bN:=Jc (hq t (fP K (leastOf en.1.ms) (en.1.st t)) en);omega)
      simp only [aa,bD,fg,Nat.reduceEqDiff,GH]
      refine bU CO (ab.args (az.cons (aK.refl _ _) (az.cons (aK.refl _ _) (az.cons Dh (az.refl [] cp)))) tG) fun ah8 kC ⟨ar,tO,rZ,gx⟩=>?_
      subst ar
      have zb:=za.trans rZ
      have GF:I dd kC (fun q=>b2 hL id q):=zb.aj
      have bC:cn c t en=iF (t:Int) (fv K (leastOf en.1.ms) (en.1.st t)) (hq t (fP K (leastOf en.1.ms) (en.1.st t)) en):=by unfold cn;rw [bE]
      rw [←bC] at gx
      have AY:=t6.trans (y7 (u:=t) en t6.inv)
      simp only [aa,bD,fg,Nat.reduceEqDiff,f61,y8]
      exact au ⟨(t+1,tO),⟨f0,f6,f8,f60,rfl,aH,mc.trans zb,by have U:=gx;rw [←e1] at U;exact U,by have U:bT c (3000 * (t+1)) pV (cn c t en):=AY.mono (by omega);rw [←e1] at U;exact U⟩,by simp only;omega⟩
    ·have d1:decide ((t:Int)<((c.l.length:Nat):Int))=false:=decide_eq_false (by omega)
     obtain rfl:t=c.l.length:=by omega
     obtain ⟨cb,bX,b9,cd,nU⟩:=fY.mb
     have g6:=nU.get
     have p4:=(mc.aj.get (h.n+1) (by omega) (fun U=>by unfold b2 at U;rw [sP] at U;exact h0 U.1.symm)).trans lg
     have zc:bM (some 4) (aV.cells [V.ah,V.ah,V.ah,V.ah] 67 none) 0 [cb,bX,b9,cd]=some (.cells [cb,bX,b9,cd] 67 none):=vG (rV nU.o).1 (rV nU.v).1 (rV nU.c).1 (rV nU.d).1
     simp only [aa,Nat.reduceEqDiff,Nat.reduceAdd,Nat.reduceLeDiff,yx,yn,ss,f6,f8,f60,f61,d1,g6,p4,zc,aI,Tryz.results27,fW,fJ,eI,fV]
     exact au (OY fY nU (t0:=h.n+1) (by omega) ((mc.cH _ (by omega)).trans sP) (fun q af=>(mc.cH q (by omega)).trans (wQ q af)) (AW.trans mc.aj fun q af U=>by unfold b2 at U;rw [wQ q af] at U;exact U.1) _)
end
section
variable {id m:Nat} {b:At} {c:aZ} {h:J} {aJ:cM} {s:bW}
theorem amk (k:dA h aJ id m b c s) (u:Nat):∃ a,Pure Tryz.prog 78 [.ptr m 0,.int .i64 u] h a∧((c.cB u=none∧a=.cZ)∨∃ K i,c.cB u=some K∧a=.ptr i 0∧db b.es (u:Int)=some i):=by
 have dI:=k.get
 rw [pT] at dI
 have iO:=lookup_int (P:=Tryz.prog) (ok:=false) (k:=(u:Int)) DO Hc k.map
 cases bE:c.cB u with
 | none=>
  rw [k.none u bE] at iO
  have pU:n5 Tryz.prog 144 (.map b.mp) (.int .i64 (u:Int)) false h=some .cZ:=iO
  refine ⟨.cZ,?_,.inl ⟨rfl,rfl⟩⟩
  refine ab.ao (c:=_) Tryz.func78 rfl (by kernel_rfl) (by simp) ?_
  simp only [aa,Nat.reduceEqDiff,Nat.reduceAdd,Nat.reduceLeDiff,reduceCtorEq,yw,zQ,yy,dI,pU,aI,Tryz.results78,ac]
  exact au ⟨rfl,rfl⟩
 | some K=>
  obtain ⟨a,O,x,h1,_⟩:=k.some u K bE
  rw [h1] at iO
  have pU:n5 Tryz.prog 144 (.map b.mp) (.int .i64 (u:Int)) false h=some (.ptr a 0):=iO
  refine ⟨.ptr a 0,?_,.inr ⟨K,a,rfl,rfl,h1⟩⟩
  refine ab.ao (c:=_) Tryz.func78 rfl (by kernel_rfl) (by simp) ?_
  simp only [aa,Nat.reduceEqDiff,Nat.reduceAdd,Nat.reduceLeDiff,reduceCtorEq,yw,zQ,yy,dI,pU,aI,Tryz.results78,ac]
  exact au ⟨rfl,rfl⟩
def zS (c:aZ) (s:bW) (u:Nat):List ai :=
 if c.ins.contains (u:Int) then (if 0≤vW s.ms u then [lU c (vW s.ms u)] else [])
 else match c.cB u with
  | some K=>K6 K (s.st u)
  | none=>[]
theorem ace (o:fr c) (k:dA h aJ id m b c s) (hk:rb c s) (u:Nat):Pure Tryz.prog 29 [.ptr m 0,.int .i64 u] h (eP (zS c s u)):=by
 have dI:=k.get
 rw [pT] at dI
 refine Pure.of (al8 _) ?_
 refine ab.ao (c:=_) Tryz.func29 rfl (by kernel_rfl) (by simp) ?_
 simp only [aa,Nat.reduceEqDiff,reduceCtorEq]
 refine bB Ks (Xf o k hk u) ?_
 cases bS:c.ins.contains (u:Int)
 ·have gw:zS c s u=(match c.cB u with | some K=>K6 K (s.st u) | none=>[]):=by unfold zS;rw [if_neg (by rw [bS];decide)]
  rw [gw]
  simp only [aa,Nat.reduceEqDiff,reduceCtorEq]
  obtain ⟨a,aW,aF⟩:=amk k u
  refine bB Zk aW ?_
  simp only [aa,Nat.reduceEqDiff]
  rcases aF with ⟨bE,rfl⟩ | ⟨K,i,bE,rfl,hi⟩
  ·rw [bE]
   refine bB ac7 (amf h) ?_
   simp only [aa,Nat.reduceEqDiff,aI,Tryz.results29,ac]
   exact au ⟨h,aK.iR h,I.refl _ _⟩
  ·rw [bE]
   obtain ⟨a2,O,x,h1,_,aA,_,_⟩:=k.some u K bE
   rw [hi] at h1
   cases h1
   refine bB ac7 (atp aA) ?_
   simp only [aa,Nat.reduceEqDiff,aI,Tryz.results29,ac]
   exact au ⟨h,aK.refl _ _,I.refl _ _⟩
 ·have gw:zS c s u=(if 0≤vW s.ms u then [lU c (vW s.ms u)] else []):=by unfold zS;rw [if_pos bS]
  rw [gw]
  simp only [aa,Nat.reduceEqDiff,Nat.reduceAdd,Nat.reduceLeDiff,reduceCtorEq,xQ,xR,dI]
  refine bB as2 (amb h _ _ _ _ _ k.marks u) ?_
  by_cases h0:0≤vW s.ms u
  ·have d1:decide (0≤vW s.ms u)=true:=decide_eq_true h0
   rw [if_pos h0]
   simp only [aa,Nat.reduceEqDiff,reduceCtorEq,d1]
   refine bB Zj (AI k (vW s.ms u)) ?_
   simp only [aa,Nat.reduceEqDiff,DQ,aI,Tryz.results29,ac]
   have Xs:Own (h.push (.cells (aw (lU c (vW s.ms u))) 40 none)) 40 5 (.bp h.n 0 1 1) (aw (lU c (vW s.ms u))):=Own.js _ 1 rfl (by decide)
   obtain ⟨cp,Dh,r0⟩:=aK.own Xs (n:=1) rfl (by decide)
   have kB:eP [lU c (vW s.ms u)]=.ag 1 (aw (lU c (vW s.ms u))):=by simp [eP]
   rw [kB]
   exact au ⟨cp,Dh,(I.push h _ none_).trans r0 fun q af U=>by simp [bn,aR] at U;omega⟩
  ·have d1:decide (0≤vW s.ms u)=false:=decide_eq_false h0
   rw [if_neg h0]
   simp only [aa,Nat.reduceEqDiff,d1,aI,Tryz.results29,ac]
   exact au ⟨h,aK.iR h,I.refl _ _⟩
end
def nA (c:aZ) (s:bW) (u:Nat) (d:ai):bW×Int :=
 if c.ins.contains (u:Int) then (if d=lU c d.val then ({ s with ms:=dX c.ins.length s.ms u d.val },(dh s.ms u d.val).2) else (s,5))
 else match c.cB u with
  | some K=>({ s with st:=fun w=>if w=u then (fy K (s.st u) d).1 else s.st w },(fy K (s.st u) d).2)
  | none=>(s,6)
def atw (id m:Nat) (b:At) (c:aZ) (h:J) (aJ:cM) (b7:bW):V→J→Prop:=fun q h'=>q=.int .i64 0∧∃ ow',dA h' ow' id m b c b7∧(∀ q,q<h.n→ow' q=aJ q)∧Fr h' ow'∧I h h' (fun q=>(aJ q).1=id)
section
variable {id m:Nat} {b:At} {c:aZ}
theorem Sq (o:fr c) {s:bW} {h:J} {aJ:cM} (k:dA h aJ id m b c s) (hk:rb c s) (f:Fr h aJ) (h0:id≠0) (u:Nat) (d:ai) (bb:(nA c s u d).2=0) :
  ab Tryz.prog 28 [.ptr m 0,.int .i64 u,.agg (aw d)] h (atw id m b c h aJ (nA c s u d).1):=by
 refine ab.ao (c:=_) Tryz.func28 rfl (by kernel_rfl) (by simp) ?_
 obtain ⟨H,hH⟩:∃ y,y=h.push (.cells (aw d) 40 none):=⟨_,rfl⟩
 have bq:I h H none_:=by rw [hH];exact I.push _ _ _
 have h9:H.n=h.n+1:=by rw [hH];rfl
 have Je:H.get h.n=.cells (aw d) 40 none:=by rw [hH];exact b6
 have nO:=k.aQ bq
 have ld:cX (some (some 5)) (some (aw d))=some (.agg (aw d)):=rfl
 have d0:da (.cells (aw d) 40 none) 0=some (aw d):=rfl
 have d3:da (.cells (aw d) 40 none) 3=some [.int .i64 d.val,.bool d.del]:=rfl
 have dI:=nO.get
 rw [pT] at dI
 simp only [aa,Nat.reduceEqDiff,reduceCtorEq]
 rw [←hH]
 clear hH
 refine bB Ks (Xf o nO hk u) ?_
 cases bS:c.ins.contains (u:Int)
 ·have hm:nA c s u d=(match c.cB u with | some K=>({ s with st:=fun w=>if w=u then (fy K (s.st u) d).1 else s.st w },(fy K (s.st u) d).2) | none=>(s,6)):=by unfold nA;rw [if_neg (by rw [bS];decide)]
  rw [hm] at bb⊢
  simp only [aa,Nat.reduceEqDiff,reduceCtorEq]
  obtain ⟨a,aW,aF⟩:=amk nO u
  refine bB Zk aW ?_
  rcases aF with ⟨bE,rfl⟩ | ⟨K,i,bE,rfl,hi⟩
  ·rw [bE] at bb;cases bb
  ·rw [bE] at bb⊢
   obtain ⟨x,ak⟩:∃ x,c.l[u]?=some x:=by
    obtain ⟨_,_,x,_,ae,_⟩:=nO.some u K bE
    exact ⟨x,ae⟩
   obtain ⟨a2,O,h1,fG,_,mW,wO⟩:=nO.at bE ak
   rw [hi] at h1
   cases h1
   simp only [aa,Nat.reduceEqDiff,ML,j0,Je,ld,d0]
   refine bU asZ (al9 fG d bb) fun q ae ⟨dG,ar,bO,nl,b7⟩=>?_
   subst ar
   simp only [aa,Nat.reduceEqDiff,aI,Tryz.results28,ac]
   have rM:I H ae (fun q=>(aJ q).1=id):=bO.mono fun q af=>by rw [mW q af]
   exact au ⟨rfl,_,wO ae dG _ bO nl b7,fun q af=>zr (by omega),fun q af=>by have:=bO.n;unfold dH;rw [if_neg (by omega)];exact f q (by omega),bq.up.trans' rM⟩
 ·simp only [aa,Nat.reduceEqDiff]
  refine aP.aY none_ [] (.q 0 (.q 1 (.q 2 (.q 3 (.c 4 (.q 5 .done)))))) (by kernel_rfl) (by kernel_rfl) (by kernel_rfl) ?_
  simp only [aa,bD,Nat.reduceEqDiff,reduceCtorEq,xb,br,j0,Je,ld,d0,d3]
  refine gE rfl rfl rfl (fun h' fq=>AI (fq.elim (fun q=>nO.aQ q) fun e=>by rw [e];exact nO) d.val) ?_
  by_cases ad:d=lU c d.val
  ·have hm:nA c s u d=({ s with ms:=dX c.ins.length s.ms u d.val },(dh s.ms u d.val).2):=by unfold nA;rw [if_pos bS,if_pos ad]
   rw [hm] at bb⊢
   have aG:decide (d≠lU c d.val)=false:=decide_eq_false (fun U=>U ad)
   simp only [aa,bD,Nat.reduceEqDiff,aeQ,aG]
   have m1:(m=b.oz)=False:=eq_false fun e=>by have h1:=k.own;have ae:=k.e3.2;rw [e,ae] at h1;simp at h1
   have m2:(h.n=b.oz)=False:=eq_false fun e=>by have h1:=k.e3.2;rw [←e,f _ (Nat.le_refl _)] at h1;simp at h1
   refine aP.aY (fun q=>q=b.oz) [7] (.q 0 (.q 1 (.q 2 (.q 3 (.q 4 (.q 5 (.q 6 (.a 7 (.q 8 (.q 9 (.q 10 (.q 11 (.q 12 .done))))))))))))) (by kernel_rfl) (by kernel_rfl) (by kernel_rfl) ?_
   simp only [aa,bD,fg,Nat.reduceEqDiff,Nat.reduceAdd,Nat.reduceLeDiff,reduceCtorEq,xQ,xb,xR,br,dI,Je,d3,m1,m2]
   refine bU Zi (IZ H _ s.ms _ _ _ nO.marks u d.val) fun q aA ⟨ar,sW,sl⟩=>?_
   subst ar
   have hE:I H aA (fun q=>q=b.oz):=sl
   simp only [aa,bD,fg,Nat.reduceEqDiff,aI,Tryz.results28,ac]
   exact au ⟨by rw [bb],aJ,nO.Dx sW sl,fun _ _=>rfl,fun q af=>f q (by have:=sl.n;omega),bq.up.trans sl fun q af U=>by subst U;rw [k.e3.2]⟩
  ·have hm:nA c s u d=(s,5):=by unfold nA;rw [if_pos bS,if_neg ad]
   rw [hm] at bb
   cases bb
end
theorem aia (x:bu) (ak:x.kind≠6∧x.kind≠7∧x.kind≠8) (h:J):ab Tryz.prog 54 [.agg (al x)] h (fun r h'=>(∃ w,r=.tuple [w,.int .i64 1])∧I h h' none_):=by
 refine ab.ao (c:=_) Tryz.func54 rfl (by kernel_rfl) (by simp) ?_
 obtain ⟨cB,ay,⟨o,m,ax⟩,n⟩:=x
 have fp:al ⟨cB,ay,.mk o m ax,n⟩=[.int .i64 cB,.ag ay.length (aO ay),.int .i64 o,.int .i64 m,.ag ax.length (ax.flatMap aq),.int .i64 n]:=by simp [al,hT]
 rw [fp]
 have CH:(cB==6)=false:=by simpa using ak.1
 have su:(cB==7)=false:=by simpa using ak.2.1
 have w7:(cB==8)=false:=by simpa using ak.2.2
 have hk:I h (h.push (.cells [.int .i64 cB,.ag ay.length (aO ay),.int .i64 o,.int .i64 m,.ag ax.length (ax.flatMap aq),.int .i64 n] 29 none)) none_:=I.push _ _ _
 simp only [aa,Nat.reduceEqDiff,Nat.reduceAdd,fL,a7,CH,su,w7,aI,Tryz.results54,cW]
 exact au ⟨⟨_,rfl⟩,hk⟩
theorem aib (x:bu) (ak:x.kind≠6∧x.kind≠7∧x.kind≠8) (ba:fa x.e) (h:J) (aB:fc h):ab Tryz.prog 17 [.agg (al x)] h (fun r h'=>r=.tuple [.cZ,.int .i64 1]∧I h h' none_):=by
 refine ab.ao (c:=_) Tryz.func17 rfl (by kernel_rfl) (by simp) ?_
 obtain ⟨cB,ay,⟨o,m,ax⟩,n⟩:=x
 have fp:al ⟨cB,ay,.mk o m ax,n⟩=[.int .i64 cB,.ag ay.length (aO ay),.int .i64 o,.int .i64 m,.ag ax.length (ax.flatMap aq),.int .i64 n]:=by simp [al,hT]
 have bC:aq (.mk o m ax)=[.int .i64 o,.int .i64 m,.ag ax.length (ax.flatMap aq)]:=hT _ _ _
 obtain ⟨H,hH⟩:∃ y,y=h.push (.cells [.int .i64 cB,.ag ay.length (aO ay),.int .i64 o,.int .i64 m,.ag ax.length (ax.flatMap aq),.int .i64 n] 29 none):=⟨_,rfl⟩
 have dC:I h H none_:=by rw [hH];exact I.push _ _ _
 have g0:H.get h.n=.cells [.int .i64 cB,.ag ay.length (aO ay),.int .i64 o,.int .i64 m,.ag ax.length (ax.flatMap aq),.int .i64 n] 29 none:=by rw [hH];exact b6
 have dt:Pure Tryz.prog 53 [.agg [.int .i64 o,.int .i64 m,.ag ax.length (ax.flatMap aq)]] H (pE (.mk o m ax)):=by rw [←bC];exact Nd _ ba H (aB.aj dC)
 have b1:=aia ⟨cB,ay,.mk o m ax,n⟩ ak H
 rw [fp] at b1⊢
 simp only [aa,Nat.reduceEqDiff,Nat.reduceAdd,Nat.reduceLeDiff,nF,eG]
 rw [←hH]
 clear hH
 refine bB MI dt ?_
 unfold pE
 cases hm:cv (.mk o m ax)
 ·simp only [aa,Int.reduceBNe,Nat.reduceEqDiff,aI,Tryz.results17,cW]
  exact au ⟨rfl,dC⟩
 ·simp only [aa,Nat.reduceEqDiff,Nat.reduceAdd,mi,g0]
  refine bU S2 b1 fun r h1 ⟨⟨w,ar⟩,bo⟩=>?_
  subst ar
  have Xu:((1:Int) !=0)=true:=rfl
  simp only [aa,Nat.reduceEqDiff,Xu,aI,Tryz.results17,cW]
  exact au ⟨rfl,dC.trans' bo⟩
theorem aic (h:J):Pure Tryz.prog 69 [.ag ([]:List Int).length (aO [])] h (.tuple [.cZ,.int .i64 1]):=by
 refine ab.ao (c:=_) Tryz.func69 rfl (by kernel_rfl) (by simp) ?_
 have bd:decide (((([]:List Int).length:Nat):Int)<1)=true:=rfl
 simp only [aa,Int.reduceNeg,Nat.reduceEqDiff,reduceCtorEq,mh]
 exact au ⟨rfl,rfl⟩
theorem Y9 (c:aZ):rb c (bW.new c):=by
 have h1:∀ (zs:List Int) (k:Nat),(jx k zs).map (·.2.1)=zs∧∀ e ∈ jx k zs,e.2.2=-1:=by
  intro zs
  induction zs with
  | nil=>intro k;exact ⟨rfl,by simp [jx]⟩
  | cons z r ih=>
   intro k
   obtain ⟨a,b⟩:=ih (k+1)
   refine ⟨by simp [jx,a],fun e he=>?_⟩
   rcases List.mem_cons.1 (show e ∈ (k,z,(-1:Int))::jx (k+1) r from he) with he | he
   ·rw [he]
   ·exact b e he
 obtain ⟨a,b⟩:=h1 c.ins 0
 exact ⟨a,fun e he=>by have:=b e he;omega⟩
theorem aid (c:aZ) (o:fr c):∀ u K,c.cB u=some K→cz K ((bW.new c).st u):=fun u K bE=>by
 refine cz.nil ?_
 unfold aZ.cB at bE
 split at bE
 ·split at bE
  ·unfold mO at bE
   split at bE
   ·cases bE;trivial
   ·split at bE
    ·split at bE
     ·rename_i h;cases bE;exact h
     ·cases bE
    ·split at bE
     ·split at bE
      ·rename_i h;cases bE;exact h
      ·cases bE
     ·cases bE
  ·cases bE
 ·cases bE
structure vH (c:aZ) (x:bL):Prop where
 outs:∀ o ∈ x.2.outs,∃ (u:Nat) (v:bu),o.1=(u:Int)∧c.l[u]?=some v∧(v.kind=10∨v.kind=5)
 deads:∀ d ∈ x.2.deads,d.2.2≠0∧∃ u:Nat,d.1=(u:Int)∧u<c.l.length
def Cl (c:aZ) (F:bL→bL):Prop:=∀ x,vH c x→vH c (F x)
theorem O4 {c:aZ} {u:Nat} (hu:u<c.l.length) (r:Rec) {e:Int} (he:e≠0):Cl c (mS (u:Int) r e):=fun x i=>⟨i.outs,fun d bb=>by
 rcases List.mem_append.1 (show d ∈ x.2.deads++[((u:Int),r,e)] from bb) with bb | bb
 ·exact i.deads d bb
 ·simp at bb;subst bb;exact ⟨he,u,rfl,hu⟩⟩
theorem atx {c:aZ} {u:Nat} {v:bu} (aN:c.l[u]?=some v) (hk:v.kind=10∨v.kind=5) (r:Rec):Cl c (mC (u:Int) r):=fun x i=>⟨fun d bb=>by
 rcases List.mem_append.1 (show d ∈ x.2.outs++[((u:Int),r)] from bb) with bb | bb
 ·exact i.outs d bb
 ·simp at bb;subst bb;exact ⟨u,v,rfl,aN,hk⟩,i.deads⟩
theorem Zy {c:aZ} {x y:bL} (i:vH c x) (h1:y.2.outs=x.2.outs) (ae:y.2.deads=x.2.deads):vH c y:=⟨by rw [h1];exact i.outs,by rw [ae];exact i.deads⟩
theorem Zz {c:aZ} {α:Type} (f:bL→α→bL):∀ (l:List α),(∀ a ∈ l,Cl c fun x=>f x a)→Cl c fun x=>l.foldl f x
 | [],_=>fun x i=>i
 | a::r,h=>fun x i=>Zz f r (fun b av=>h b (by simp [av])) (f x a) (h a (by simp) x i)
theorem aml {c:aZ} {v:bu} {u:Nat} (hu:u<c.l.length) {r:Rec} {th:Rec→bL→bL} (h:∀ y,Cl c (th y)):Cl c (nC v u th r):=fun x i=>by
 unfold nC
 split
 ·rename_i he;exact O4 hu r he x i
 ·exact Zz (fun x y=>th y x) (iq v r).1 (fun a _=>h a) x i
theorem aty {c:aZ} {K:df} {v:bu} {u:Nat} (hu:u<c.l.length) {r:Rec} {snd:Rec→bL→bL} (h:∀ y,Cl c (snd y)):Cl c (rT K v u snd r):=fun x i=>by
 unfold rT
 split
 ·exact O4 hu r (by decide) x i
 ·split
  ·rename_i he;exact O4 hu r (Zx he) x i
  ·exact h _ _ (Zy i rfl rfl)
theorem atz {c:aZ} {v:bu} {u:Nat} (hu:u<c.l.length) {r:Rec} {snd:Rec→bL→bL} (h:∀ y,Cl c (snd y)):Cl c (u5 c v u snd r):=fun x i=>by
 unfold u5
 split
 ·split
  ·exact h _ x i
  ·exact O4 hu r (by decide) x i
 ·exact O4 hu r (by decide) x i
theorem atA {c:aZ} {snd:Int→Rec→bL→bL} (h:∀ u y,Cl c (snd u y)) (f:Int) {u:Nat} (hu:u<c.l.length) (r:Rec):Cl c (p1 c snd f u r):=fun x i=>by
 unfold p1
 split
 ·exact O4 hu r (by decide) x i
 ·have LM:vH c (cC x):=Zy i rfl rfl
  split
  ·exact LM
  ·rename_i v aN
   split
   ·rename_i hk;exact aml hu (fun y=>atx aN hk y) _ LM
   ·split
    ·exact aml hu (fun y=>h u y) _ LM
    ·split
     ·split
      ·exact aty hu (fun y=>h u y) _ LM
      ·exact LM
     ·split
      ·split
       ·exact atz hu (fun y=>h u y) _ LM
       ·exact LM
      ·exact LM
theorem atB {c:aZ} {v:Int} {u:Nat} (h:u ∈ c.us v):u<c.l.length:=by
 unfold aZ.us at h
 obtain ⟨q,af,e⟩:=List.mem_map.1 (List.mem_filter.1 h).1
 obtain ⟨jf,w,aT,hw,_⟩:=B6.1 af
 have:=(List.getElem?_eq_some_iff.1 hw).1
 omega
theorem amm {c:aZ}:∀ (k:Nat) (v:Int) (r:Rec),Cl c (mj c k v r)
 | 0,v,r=>fun x i=>i
 | k+1,v,r=>fun x i=>Zz (fun x u=>p1 c (mj c k) v u r x) (c.us v) (fun u hu=>atA (fun a y=>amm k a y) v (atB hu) r) x i
theorem atC {c:aZ} {u:Nat}:Cl c (fun x=>cn c u x):=fun x i=>by
 show vH c (cn c u x)
 unfold cn
 split
 ·exact Zy i rfl rfl
 ·exact i
theorem ase {c:aZ} (s:bW) {v:Int} {u:Nat} (aN:v=(u:Int)) (hu:u<c.l.length) (r:Rec):vH c (stepT c s v r).1:=by
 have f0:∀ s:bW,vH c (s,dS.none):=fun s=>⟨fun o h=>by simp [dS.none] at h,fun o h=>by simp [dS.none] at h⟩
 unfold stepT
 split
 ·exact f0 s
 ·split
  ·rename_i he;subst aN;exact O4 hu r he _ (f0 s)
  ·refine Zz (fun x u=>cn c u x) _ (fun a _=>atC) _ (amm 24 v r _ ?_)
   split
   ·exact Zy (f0 s) rfl rfl
   ·exact f0 _
def nn (st:Nat→List ai) (u:Nat) (l:List ai):Nat→List ai:=fun w=>if w=u then l else st w
def lY (c:aZ):(Nat→List ai)→List (Int×ai)→Option (Nat→List ai)
 | st,[]=>some st
 | st,p::r=>match c.cB p.1.toNat with
  | some K=>if 0≤p.1∧(fy K (st p.1.toNat) p.2).2=0 then lY c (nn st p.1.toNat (fy K (st p.1.toNat) p.2).1) r else none
  | none=>none
theorem amn (c:aZ):∀ (st:Nat→List ai) (a b:List (Int×ai)),lY c st (a++b)=(lY c st a).bind fun s=>lY c s b
 | st,[],b=>rfl
 | st,p::a,b=>by
  simp only [List.cons_append,lY]
  split
  ·split
   ·exact amn c _ a b
   ·rfl
  ·rfl
theorem aie (st:Nat→List ai) (u:Nat) (a b:List ai):nn (nn st u a) u b=nn st u b:=by
 funext w;unfold nn;split<;>rfl
theorem aif (st:Nat→List ai) (u:Nat):nn st u (st u)=st:=by
 funext w;unfold nn;split
 ·rename_i e;rw [e]
 ·rfl
theorem QM {c:aZ} {u:Nat} {K:df} (bE:c.cB u=some K):∀ (cs:List ai) (st:Nat→List ai) (l:List ai),e6 K (st u) cs=some l→lY c st (cs.map fun x=>((u:Int),x))=some (nn st u l)
 | [],st,l,h=>by
  have:st u=l:=by simpa [e6] using h
  rw [←this]
  show some st=_
  rw [aif]
 | x::r,st,l,h=>by
  have h':(if (fy K (st u) x).2=0 then e6 K (fy K (st u) x).1 r else none)=some l:=h
  split at h'
  case isFalse=>cases h'
  rename_i h0
  have ae:e6 K (nn st u (fy K (st u) x).1 u) r=some l:=by
   have:nn st u (fy K (st u) x).1 u=(fy K (st u) x).1:=by simp [nn]
   rw [this];exact h'
  have ih:=QM bE r (nn st u (fy K (st u) x).1) l ae
  rw [aie] at ih
  rw [List.map_cons]
  unfold lY
  simp only [Int.toNat_natCast,bE]
  rw [if_pos ⟨by omega,h0⟩]
  exact ih
def eW (c:aZ) (x y:bL):Prop:=∃ ps:List (Int×ai),y.2.verts=x.2.verts++ps.map (·.1)∧y.2.chgs=x.2.chgs++ps.map (·.2)∧lY c x.1.st ps=some y.1.st
theorem eW.same {c:aZ} {x y:bL} (h1:y.2.verts=x.2.verts) (ae:y.2.chgs=x.2.chgs) (aA:y.1.st=x.1.st):eW c x y:=⟨[],by simp [h1],by simp [ae],by rw [aA];rfl⟩
theorem eW.trans {c:aZ} {x y z:bL} (a:eW c x y) (b:eW c y z):eW c x z:=by
 obtain ⟨p,cw,a2,a3⟩:=a
 obtain ⟨q,dt,b1,e9⟩:=b
 exact ⟨p++q,by rw [dt,cw];simp,by rw [b1,a2];simp,by rw [amn,a3];exact e9⟩
theorem Xv {c:aZ} {u:Nat} {K:df} (bE:c.cB u=some K) {cs l:List ai} {x:bL} (h:e6 K (x.1.st u) cs=some l):eW c x (iF (u:Int) cs (hq u l x)):=by
 refine ⟨cs.map fun y=>((u:Int),y),?_,?_,QM bE cs x.1.st l h⟩
 ·simp only [iF,hq,List.map_map]
  congr 1
  exact (List.eq_replicate_iff.2 ⟨by simp,fun b av=>by
   obtain ⟨y,_,rfl⟩:=List.mem_map.1 av
   rfl⟩).symm
 ·simp [iF,hq,Function.comp_def]
def oP (c:aZ) (F:bL→bL):Prop:=∀ x,Inv c x→eW c x (F x)
theorem Jf {c:aZ} {α:Type} {j:Nat} (f:bL→α→bL):∀ (l:List α),(∀ a ∈ l,oP c fun x=>f x a)→(∀ a ∈ l,eK c j fun x=>f x a)→oP c fun x=>l.foldl f x
 | [],_,_=>fun x i=>eW.same rfl rfl rfl
 | a::r,h,t=>fun x i=>(h a (by simp) x i).trans (Jf f r (fun b av=>h b (by simp [av])) (fun b av=>t b (by simp [av])) (f x a) (t a (by simp) x i).inv)
theorem Xw {c:aZ} {v:bu} {u:Int} {r:Rec} {th:Rec→bL→bL} (h:∀ y,oP c (th y)) (t:∀ y,eK c 24 (th y)):oP c (nC v u th r):=fun x i=>by
 unfold nC
 split
 ·exact eW.same rfl rfl rfl
 ·exact Jf (j:=24) (fun x y=>th y x) (iq v r).1 (fun a _=>h a) (fun a _=>t a) x i
theorem aih {c:aZ} {K:df} {v:bu} {u:Nat} (bE:c.cB u=some K) {r:Rec} {snd:Rec→bL→bL} (h:∀ y,oP c (snd y)):oP c (rT K v u snd r):=fun x i=>by
 unfold rT
 split
 ·exact eW.same rfl rfl rfl
 ·have w:=i.wf u K bE
  split
  ·exact eW.same rfl rfl rfl
  ·rename_i N kl
   have aU:=agG w r kl
   rw [(I8 w kl).1] at aU
   have h1:=Xv bE aU
   have t1:=Df (c:=c) (u:=u) (l:=om K (x.1.st u) r.k r.t N) (fun uY ae=>by rw [bE] at ae;cases ae;exact (I8 w kl).2) x i
   exact h1.trans (h _ _ (y5 c u _ _ t1.inv).inv)
theorem aii {c:aZ} {v:bu} {u:Int} {r:Rec} {snd:Rec→bL→bL} (h:∀ y,oP c (snd y)):oP c (u5 c v u snd r):=fun x i=>by
 unfold u5
 split
 ·split
  ·exact h _ x i
  ·exact eW.same rfl rfl rfl
 ·exact eW.same rfl rfl rfl
theorem aij {c:aZ} {snd:Int→Rec→bL→bL} (h:∀ u y,oP c (snd u y)) (t:∀ u y,eK c 24 (snd u y)) (f:Int) (u:Nat) (r:Rec):oP c (p1 c snd f u r):=fun x i=>by
 unfold p1
 split
 ·exact eW.same rfl rfl rfl
 ·rename_i aG
  obtain ⟨j,_,_⟩:=OQ i aG
  have f0:eW c x (cC x):=eW.same rfl rfl rfl
  split
  ·exact f0
  ·split
   ·exact f0.trans (Xw (th:=mC u) (fun y x _=>eW.same rfl rfl rfl) (fun y=>(I7 c u y).mono (by omega)) _ j)
   ·split
    ·exact f0.trans (Xw (fun y=>h u y) (fun y=>t u y) _ j)
    ·split
     ·split
      ·rename_i K bE;exact f0.trans (aih bE (fun y=>h u y) _ j)
      ·exact f0
     ·split
      ·split
       ·exact f0.trans (aii (fun y=>h u y) _ j)
       ·exact f0
      ·exact f0
theorem Xx {c:aZ} (aM:c.l.length≤24):∀ (k:Nat) (v:Int) (r:Rec),oP c (mj c k v r)
 | 0,v,r=>fun x i=>eW.same rfl rfl rfl
 | k+1,v,r=>Jf (j:=1) (fun x u=>p1 c (mj c k) v u r x) (c.us v) (fun u _=>aij (fun a y=>Xx aM k a y) (fun a y=>xu aM k a y) v u r) (fun u _=>OR (fun a y=>xu aM k a y) v u r)
theorem aik {c:aZ} {u:Nat}:oP c (fun x=>cn c u x):=fun x i=>by
 show eW c x (cn c u x)
 unfold cn
 cases bE:c.cB u with
 | none=>exact eW.same rfl rfl rfl
 | some K=>exact Xv bE ((i.wf u K bE).Vv _)
end Go.Proofs.YtedkjhifbibpmaaGreatDoor.Pk
