/-
  What functions of the program do, told of abstract states. Conditions: as each theorem says.
-/
import Derived.Test.YtedkjhifbibpmaaGreatDoorMc
import Derived.Test.YtedkjhifbibpmaaGreatDoorAbD
set_option linter.unusedVariables false
set_option linter.unusedSimpArgs false
set_option maxHeartbeats 4000000
set_option maxRecDepth 20000
namespace Go.Proofs.YtedkjhifbibpmaaGreatDoor.Pk
open Go Go.Proofs Go.Proofs.YtedkjhifbibpmaaGreatDoor.Ab
theorem DS (h:J) (c:ai):lk Tryz.prog 35 1 [(0,.agg (aw c))] h=some (.bp h.n 0 1 1,h.push (.cells (aw c) 40 none)):=JO xS rfl rfl (by decide)
theorem UW (h:J) (c:ai):lk Tryz.prog 273 1 [(0,.agg (bf c))] h=some (.bp h.n 0 1 1,h.push (.cells (bf c) 292 none)):=JO tC rfl rfl (by decide)
structure cr (h:J) (i:Nat) (v:V) (room g:Int) (l:List ai):Prop where
 lt:i<h.n
 get:h.get i=.cells [.int .i64 room,.int .i64 g,v] 275 none
 own:Own h 292 3 v (l.flatMap bf)
 ne:aR v≠some i
 ha:dP l
 ok:∀ x ∈ l,hc x
 len:l.length≤1024
 g1:1≤g
 g2:g≤2 ^ 20
section
variable {h h':J} {i:Nat} {v:V} {room g:Int} {l:List ai}
theorem cr.rows (k:cr h i v room g l):(l.flatMap bf).length=l.length * 3:=iS qZ l
theorem cr.aj {own:Nat→Prop} (k:cr h i v room g l) (hk:I h h' own) (h1:¬own i) (ae:∀ j,aR v=some j→¬own j):cr h' i v room g l :=
 ⟨Nat.lt_of_lt_of_le k.lt hk.n,(hk.get i k.lt h1).trans k.get,k.own.aj hk ae,k.ne,k.ha,k.ok,k.len,k.g1,k.g2⟩
theorem cr.aQ (k:cr h i v room g l) (hk:I h h' none_):cr h' i v room g l:=k.aj hk (by simp [none_]) (by simp [none_])
theorem cr.og (k:cr h i v room g l) (H:J):fU Tryz.prog 273 v H=some (.int .i64 (l.length:Nat)):=UU k.own
end
def jj (i:Nat) (v:V):Nat→Prop:=fun q=>q=i∨bn v q
theorem IL (h:J) (i:Nat) (v:V) (room g:Int) (l:List ai) (x:ai) (ak:hc x) (k:cr h i v room g l) :
  Pure Tryz.prog 210 [.ptr i 0,.agg (bf x)] h (.tuple [.int .i64 (cD l x:Nat),.bool (cI l x)]):=by
 refine Pure.val (bh.tuple (bl.cons (bh.int _ _) (bl.cons (bh.bool _) bl.nil))) ?_
 refine ab.ao (c:=_) Tryz.func210 rfl (by kernel_rfl) (by simp) ?_
 obtain ⟨H,hH⟩:∃ y,y=h.push (.cells (bf x) 292 none):=⟨_,rfl⟩
 have hW:H.get h.n=.cells (bf x) 292 none:=by rw [hH];exact b6
 have bq:I h H none_:=by rw [hH];exact I.push _ _ _
 have kk:=k.aQ bq
 have aB:=kk.get
 have AA:=vT x
 have uW:cX (some (some 3)) (some (bf x))=some (.agg (bf x)):=rfl
 have zj:da (aV.cells (bf x) 292 none) 0=some (bf x):=rfl
 unfold bf at hH
 simp only [aa,AA]
 rw [←hH]
 clear hH
 refine aP.aY none_ [] (.q 0 (.q 1 (.q 2 (.q 3 (.q 4 (.c 5 (.q 6 (.q 7 (.q 8 (.q 9 .done)))))))))) (by kernel_rfl) (by kernel_rfl) (by kernel_rfl) ?_
 simp only [aa,bD,Nat.reduceEqDiff,Nat.reduceAdd,Nat.reduceLeDiff,reduceCtorEq,tg,wE,ia,hW,aB,zj,uW]
 refine gE rfl rfl rfl (fun h' hk=>NB v l x h' (by rcases hk with hk | hk;exact kk.own.aQ hk;subst hk;exact kk.own) k.ha k.ok ak (by have:=k.len;omega)) ?_
 simp only [aa,bD,Nat.reduceEqDiff,aI,Tryz.results210,cW]
 exact au ⟨rfl,bq⟩
theorem UX (h:J) (i:Nat) (v:V) (room g:Int) (l:List ai) (x:ai) (ak:hc x) (U:cI l x=true) (k:cr h i v room g l) :
  ab Tryz.prog 176 [.ptr i 0,.agg (bf x)] h (fun r h'=>∃ v',cr h' i v' room g (eu l x)∧I h h' (jj i v)∧bQ h v v'):=by
 refine ab.ao (c:=_) Tryz.func176 rfl (by kernel_rfl) (by simp) ?_
 obtain ⟨H,hH⟩:∃ y,y=h.push (.cells (bf x) 292 none):=⟨_,rfl⟩
 have hW:H.get h.n=.cells (bf x) 292 none:=by rw [hH];exact b6
 have bq:I h H none_:=by rw [hH];exact I.push _ _ _
 have h9:H.n=h.n+1:=by rw [hH];rfl
 have kk:=k.aQ bq
 have aB:=kk.get
 have AA:=vT x
 have uW:cX (some (some 3)) (some (bf x))=some (.agg (bf x)):=rfl
 have zj:da (aV.cells (bf x) 292 none) 0=some (bf x):=rfl
 have bS:=k.lt
 unfold bf at hH
 simp only [aa,Nat.reduceEqDiff,Nat.reduceAdd,reduceCtorEq,ia,AA]
 rw [←hH]
 clear hH
 refine bB Ih (IL H i v room g l x ak kk) ?_
 rcases k.ha.gb x with ⟨ar,p,aT,cg,h8⟩ | ⟨ar,aT⟩
 rotate_left
 ·rw [U] at ar;cases ar
 have aH:=(List.getElem?_eq_some_iff.1 aT).1
 have hw:=kf aH (by have:=k.len;omega)
 simp only [aa,Nat.reduceEqDiff,Nat.reduceAdd,Nat.reduceLeDiff,reduceCtorEq,tg,wE,aB,hw]
 refine bU ac3 (afw v (cD l x) (l.flatMap bf) H kk.own (by rw [k.rows];have:=k.len;omega) (by rw [k.rows];omega) (HV II l)) fun r aA ⟨gJ,k3,d3⟩=>?_
 have kB:(l.flatMap bf).take (cD l x * 3)++(l.flatMap bf).drop ((cD l x+1) * 3)=(eu l x).flatMap bf:=by
  rw [yf qZ,wx qZ,k.ha.rm U];simp
 rw [kB] at gJ
 have qv:=(k3.get i (by omega) (fun U=>k.ne U)).trans aB
 have gL:r.one=true:=by
  rcases gJ with ⟨rfl | rfl,_⟩ | ⟨_,_,_,_,_,rfl,_⟩<;>rfl
 have fm:r.cells=some [r]:=by
  rcases gJ with ⟨rfl | rfl,_⟩ | ⟨_,_,_,_,_,rfl,_⟩<;>rfl
 have cK:bM (some 1) (aV.cells [V.int .i64 room,V.int .i64 g,v] 275 none) 2 [r]=some (.cells [.int .i64 room,.int .i64 g,r] 275 none):=by rw [sZ gL];rfl
 have n3:=k3.n
 simp only [aa,Nat.reduceEqDiff,tg,MP,qv,fm,cK,mG,Tryz.results176,kd]
 have jJ:aR r≠some i:=fun U=>by
  rcases d3 with d3 | d3
  ·rw [d3] at U;exact k.ne U
  ·have:=d3 i U;omega
 have bY:I aA (aA.set i (.cells [V.int .i64 room,V.int .i64 g,r] 275 none)) (fun q=>q=i):=I.set _ _ _
 refine au ⟨r,⟨by rw [iw];omega,aL,gJ.aj bY fun q af U=>jJ (by rw [af,U]),jJ,k.ha.filter _,fun y bs=>k.ok y (List.mem_filter.1 bs).1,?_,k.g1,k.g2⟩,?_,?_⟩
 ·have:=UK k.ha U;have:=k.len;omega
 ·exact ((bq.up (o:=jj i v)).trans k3 fun q af U=>.inr U).trans bY fun q af U=>.inl U
 ·rcases d3 with d3 | d3
  ·exact .inl d3
  ·exact .inr fun q af=>by have:=d3 q af;omega
theorem UY (h:J) (i:Nat) (v:V) (room g:Int) (l:List ai) (x:ai) (ak:hc x) (U:cI l x=false) (hlen:l.length<1024) (k:cr h i v room g l) :
  ab Tryz.prog 177 [.ptr i 0,.agg (bf x)] h (fun r h'=>∃ v',cr h' i v' room g (h5 l x)∧I h h' (jj i v)∧bQ h v v'):=by
 refine ab.ao (c:=_) Tryz.func177 rfl (by kernel_rfl) (by simp) ?_
 obtain ⟨H,hH⟩:∃ y,y=h.push (.cells (bf x) 292 none):=⟨_,rfl⟩
 have hW:H.get h.n=.cells (bf x) 292 none:=by rw [hH];exact b6
 have bq:I h H none_:=by rw [hH];exact I.push _ _ _
 have h9:H.n=h.n+1:=by rw [hH];rfl
 have kk:=k.aQ bq
 have aB:=kk.get
 have AA:=vT x
 have uW:cX (some (some 3)) (some (bf x))=some (.agg (bf x)):=rfl
 have zj:da (aV.cells (bf x) 292 none) 0=some (bf x):=rfl
 have bS:=k.lt
 unfold bf at hH
 simp only [aa,Nat.reduceEqDiff,Nat.reduceAdd,reduceCtorEq,ia,AA]
 rw [←hH]
 clear hH
 refine bB Ih (IL H i v room g l x ak kk) ?_
 simp only [aa,Nat.reduceEqDiff]
 have f1:bn v i=False:=eq_false fun U=>k.ne U
 have f2:bn v h.n=False:=eq_false fun U=>by have:=k.own.lt _ U;omega
 obtain ⟨bI,bA⟩:∃ y,y=H.push (.cells (bf x) 292 none):=⟨_,rfl⟩
 have k2:I H bI none_:=by rw [bA];exact I.push _ _ _
 have ef:bI.n=H.n+1:=by rw [bA];rfl
 have cP:bI.get H.n=.cells (bf x) 292 none:=by rw [bA];exact b6
 have c6:=kk.aQ k2
 have dR:=UW H x
 rw [←bA] at dR
 refine aP.aY (fun x=>bn v x) [7,8,11] (.q 0 (.q 1 (.q 2 (.q 3 (.q 4 (.q 5 (.q 6 (.e 7 (.e 8 (.q 9 (.q 10 (.a 11 .done))) .stop) .stop)))))))) (by kernel_rfl) (by kernel_rfl) (by kernel_rfl) ?_
 simp only [aa,bD,fg,Nat.reduceEqDiff,Nat.reduceAdd,Nat.reduceLeDiff,reduceCtorEq,tg,wE,ia,hW,aB,zj,uW,f1,f2,dR]
 refine ⟨k2.up,?_⟩
 refine bU ac4 (afu v (cD l x) H.n (l.flatMap bf) (bf x) bI c6.own (by rw [k.rows];have:=k.len;omega) (by rw [k.rows];have:=UH l x;omega) cP (by omega) (fun U=>by have:=k.own.lt _ U;omega) rfl rfl (HV II l)) fun r aA ⟨gJ,k3,d3⟩=>?_
 have kB:(l.flatMap bf).take (cD l x * 3)++bf x++(l.flatMap bf).drop (cD l x * 3)=(h5 l x).flatMap bf:=by
  rw [yf qZ,wx qZ,k.ha.ins];simp
 rw [kB] at gJ
 have qv:=(k3.get i (by omega) (by rw [f1];exact id)).trans c6.get
 have gL:r.one=true:=by
  rcases gJ with ⟨rfl | rfl,_⟩ | ⟨_,_,_,_,_,rfl,_⟩<;>rfl
 have fm:r.cells=some [r]:=by
  rcases gJ with ⟨rfl | rfl,_⟩ | ⟨_,_,_,_,_,rfl,_⟩<;>rfl
 have cK:bM (some 1) (aV.cells [V.int .i64 room,V.int .i64 g,v] 275 none) 2 [r]=some (.cells [.int .i64 room,.int .i64 g,r] 275 none):=by rw [sZ gL];rfl
 have yM:I H aA (fun x=>bn v x):=(k2.up).trans' k3
 have n3:=k3.n
 simp only [aa,bD,fg,Nat.reduceEqDiff,tg,MP,qv,fm,cK,yM,mG,Tryz.results177,kd]
 have jJ:aR r≠some i:=fun U=>by
  rcases d3 with d3 | d3
  ·rw [d3] at U;exact k.ne U
  ·have:=d3 i U;omega
 have bY:I aA (aA.set i (.cells [V.int .i64 room,V.int .i64 g,r] 275 none)) (fun q=>q=i):=I.set _ _ _
 refine au ⟨r,⟨by rw [iw];omega,aL,gJ.aj bY fun q af U=>jJ (by rw [af,U]),jJ,k.ha.tD U,fun y bs=>?_,?_,k.g1,k.g2⟩,?_,?_⟩
 ·rcases BS.1 bs with rfl | bs
  ·exact ak
  ·exact k.ok y bs
 ·rw [k.ha.tZ];omega
 ·exact ((bq.up (o:=jj i v)).trans yM fun q af U=>.inr U).trans bY fun q af U=>.inl U
 ·rcases d3 with d3 | d3
  ·exact .inl d3
  ·exact .inr fun q af=>by have:=d3 q af;omega
theorem afA (room g:Int) (h1:1≤room) (ae:room≤1024) (aA:1≤g) (bk:g≤2 ^ 20) (h:J) :
  ab Tryz.prog 108 [.int .i64 room,.int .i64 g] h (fun r h'=>r=.tuple [.ptr h.n 0,.int .i64 0]∧h'=h.push (.cells [.int .i64 room,.int .i64 g,.ah] 275 none)):=by
 refine ab.ao (c:=_) Tryz.func108 rfl (by kernel_rfl) (by simp) ?_
 have d1:decide (room<1)=false:=decide_eq_false (by omega)
 have d2:decide (1024<room)=false:=decide_eq_false (by omega)
 have d3:decide (g<1)=false:=decide_eq_false (by omega)
 have d4:decide (1048576<g)=false:=decide_eq_false (by omega)
 simp only [aa,Nat.reduceEqDiff,Nat.reduceAdd,Nat.reduceLeDiff,reduceCtorEq,adK,adZ,d1,d2,d3,d4,aI,Tryz.results108,cW]
 exact au ⟨rfl,rfl⟩
theorem cr.new {h:J} {room g:Int} (aA:1≤g) (bk:g≤2 ^ 20):cr (h.push (.cells [.int .i64 room,.int .i64 g,.ah] 275 none)) h.n .ah room g [] :=
 ⟨Nat.lt_succ_self _,b6,Own.ah _ _ _,by simp [aR],List.Pairwise.nil,by simp,by simp,aA,bk⟩
theorem DT (p:ai):(if 3≤(bf p).length then some (V.agg (List.take 3 (bf p))) else none)=some (.agg (bf p)):=rfl
theorem DU (p:ai):bM (some 3) (aV.cells [V.int .i64 0,V.complex .f64 0 0,V.int .i64 0] 292 none) 0 (bf p)=some (.cells (bf p) 292 none):=rfl
theorem DV (p:ai):(V.agg (bf p)).cells=some (bf p):=rfl
theorem atd (h:J) (i:Nat) (v:V) (room g:Int) (l:List ai) (k:cr h i v room g l):Pure Tryz.prog 306 [.ptr i 0] h (.ag l.length (l.flatMap aw)):=by
 refine Pure.acc (Et wI _) (iS ix _) (by decide) (e:=40) (sz:=5) ?_
 refine ab.ao (c:=_) Tryz.func306 rfl (by kernel_rfl) (by simp) ?_
 have aB:=k.get
 have aM:=k.og h
 have Fz:=k.len
 simp only [aa,Nat.reduceEqDiff,Nat.reduceAdd,Nat.reduceLeDiff,reduceCtorEq,tg,BH,wE,aB,aM]
 refine aP.bG (α:=Nat×V) (fun x f h'=>f 3=x.2∧f 11=v∧f 12=.int .i64 (l.length:Nat)∧f 13=.int .i64 (x.1:Nat)∧x.1≤l.length∧Acc h h' 40 5 x.2 ((l.take x.1).flatMap aw)) (fun x=>l.length - x.1) (0,.ah)
  ⟨rfl,rfl,rfl,rfl,Nat.zero_le _,Acc.nil (I.refl _ _)⟩ ?_
 rintro ⟨t,s⟩ f h1 ⟨f3,f11,f12,f13,bw,acc⟩
 simp only at f3 f13 bw acc
 refine dw (by kernel_rfl) ?_
 by_cases aH:t<l.length
 ·have d1:decide ((t:Int)<((l.length:Nat):Int))=true:=decide_eq_true (by omega)
  have hw:=kf aH (by omega)
  have bo:=k.aQ acc.aj
  have aW:l[t]?=some l[t]:=List.getElem?_eq_getElem aH
  have jK:l.take (t+1)=l.take t++[l[t]]:=List.take_succ_eq_append_getElem aH
  generalize l[t]=p at aW jK
  obtain ⟨j,r,bR,dn,uR,tV,_⟩:=tF bo.own aW
  have eJ:=k.ok p (List.mem_of_getElem? aW)
  have ld:=He p r
  have Ap:=DV p
  have gW:=DT p
  have st:=DU p
  have Nq:=acc.on (I.push h1 (.cells (bf p) 292 none) none_)
  obtain ⟨b7,ae,ei,a2⟩:=Nq.ze xS (by decide) (xs:=aw p) rfl rfl (fun m hm=>by
   change m * 5=_+5 at hm
   rw [iS ix] at hm
   simp only [List.length_take] at hm
   exact ⟨by simp only [lim];omega,by simp only [lim];omega⟩)
  simp only [aa,Nat.reduceEqDiff,ia,BI,zp,f3,f11,f12,f13,d1,bR,tV,ld,Ap,st,gW]
  refine bB Zg (IJ p eJ _) ?_
  have dR:=DS (h1.push (.cells (bf p) 292 none)) p
  rw [eA] at ei
  simp only [aa,Nat.reduceEqDiff,f13,dR,ei,hw]
  refine au ⟨(t+1,b7),⟨rfl,f11,f12,rfl,aH,a2.conv ?_⟩,by simp only;omega⟩
  rw [jK,List.flatMap_append]
  simp
 ·have d1:decide ((t:Int)<((l.length:Nat):Int))=false:=decide_eq_false (by omega)
  rw [List.take_of_length_le (by omega)] at acc
  simp only [aa,Nat.reduceEqDiff,f3,f12,f13,d1,aI,Tryz.results306,ac]
  exact au acc
def sF (g:Int) (l:List ai) (k t:Int):List ai:=if ho t=true then found g l k t else []
theorem afB (g:Int) (l:List ai) (k t:Int) (p:ai):found g (l++[p]) k t=found g l k t++(if ml g k t p=true then [p] else []):=by
 unfold found
 rw [List.filter_append]
 cases h:ml g k t p<;>simp [h]
theorem FJ (g:Int) (l:List ai) (k t:Int):(found g l k t).length≤l.length:=List.length_filter_le ..
theorem ND (h:J) (i:Nat) (v:V) (room g key time:Int) (l:List ai) (k:cr h i v room g l):Pure Tryz.prog 118 [.ptr i 0,.int .i64 key,.int .i64 time] h (.ag (sF g l key time).length ((sF g l key time).flatMap aw)):=by
 refine Pure.acc (Et wI _) (iS ix _) (by decide) (e:=40) (sz:=5) ?_
 refine ab.ao (c:=_) Tryz.func118 rfl (by kernel_rfl) (by simp) ?_
 have aB:=k.get
 have aM:=k.og h
 have Fz:=k.len
 simp only [aa,Nat.reduceEqDiff,reduceCtorEq,BH]
 refine bB zW (Az time h) ?_
 unfold sF
 cases l7:ho time
 ·simp only [aa,Nat.reduceEqDiff,aI,Tryz.results118,ac]
  exact au (Acc.nil (I.refl _ _))
 have zy:=C3.1 l7
 rw [if_pos rfl]
 simp only [aa,Nat.reduceEqDiff,Nat.reduceAdd,Nat.reduceLeDiff,reduceCtorEq,tg,wE,aB,aM]
 refine aP.bG (α:=Nat×V) (fun x f h'=>f 0=.ptr i 0∧f 1=.int .i64 key∧f 2=.int .i64 time∧f 7=x.2∧f 20=v∧f 21=.int .i64 (l.length:Nat)∧f 22=.int .i64 (x.1:Nat)∧x.1≤l.length∧Acc h h' 40 5 x.2 ((found g (l.take x.1) key time).flatMap aw)) (fun x=>l.length - x.1) (0,.ah)
  ⟨rfl,rfl,rfl,rfl,rfl,rfl,rfl,Nat.zero_le _,Acc.nil (I.refl _ _)⟩ ?_
 rintro ⟨t,s⟩ f h1 ⟨f0,f1,f2,f7,f20,f21,f22,bw,acc⟩
 simp only at f7 f22 bw acc
 refine dw (by kernel_rfl) ?_
 by_cases aH:t<l.length
 ·have d1:decide ((t:Int)<((l.length:Nat):Int))=true:=decide_eq_true (by omega)
  have hw:=kf aH (by omega)
  have bo:=k.aQ acc.aj
  have aW:l[t]?=some l[t]:=List.getElem?_eq_getElem aH
  have jK:l.take (t+1)=l.take t++[l[t]]:=List.take_succ_eq_append_getElem aH
  have mI:=afB g (l.take t) key time l[t]
  rw [←jK] at mI
  generalize l[t]=p at aW jK mI
  obtain ⟨j,r,bR,dn,uR,tV,_⟩:=tF bo.own aW
  have eJ:=k.ok p (List.mem_of_getElem? aW)
  have ld:=He p r
  have Ap:=DV p
  have gW:=DT p
  have st:=DU p
  have fB:cX (some none) (some (bf p))=some (.int .i64 p.key):=rfl
  obtain ⟨H,hH⟩:∃ y,y=h1.push (.cells (bf p) 292 none):=⟨_,rfl⟩
  have hW:H.get h1.n=.cells (bf p) 292 none:=by rw [hH];exact b6
  have bq:I h1 H none_:=by rw [hH];exact I.push _ _ _
  have kk:=bo.aQ bq
  have eO:=kk.get
  have xh:=acc.on bq
  have c9:IntKind.i64.wrap (p.ay - g)=p.ay - g:=Go.IntWalk.i64_in _ (by have:=eJ.lo;have:=eJ.le;have:=eJ.hi;have:=k.g1;have:=k.g2;omega)
  have b0:IntKind.i64.wrap (p.to+g)=p.to+g:=Go.IntWalk.i64_in _ (by have:=eJ.lo;have:=eJ.le;have:=eJ.hi;have:=k.g1;have:=k.g2;omega)
  simp only [aa,Nat.reduceEqDiff,ia,BI,zp,f20,f21,f22,d1,bR,tV,ld,Ap,st]
  rw [←hH]
  cases ar:(p.key==key)
  ·have aG:ml g key time p=false:=by
    cases e:ml g key time p
    ·rfl
    ·have:=(xT.1 e).1;simp at ar;omega
   rw [aG] at mI
   simp only [Bool.false_eq_true,if_false,List.append_nil] at mI
   refine aP.aY none_ [] (.q 0 (.q 1 (.q 2 (.q 3 (.q 4 (.q 5 (.c 6 (.q 7 (.q 8 (.q 9 (.q 10 (.q 11 (.q 12 (.q 13 (.q 14 (.q 15 (.q 16 (.q 17 (.c 18 (.q 19 (.q 20 (.q 21 (.q 22 (.q 23 (.q 24 (.q 25 .done)))))))))))))))))))))))))) (by kernel_rfl) (by kernel_rfl) (by kernel_rfl) ?_
   simp only [aa,bD,Nat.reduceEqDiff,z7,br,f1,hW,fB,ar]
   refine J0 rfl rfl ?_
   simp only [aa,bD,Nat.reduceEqDiff]
   refine J0 rfl rfl ?_
   simp only [aa,bD,Nat.reduceEqDiff,f22,hw]
   exact au ⟨(t+1,s),⟨f0,f1,f2,f7,f20,f21,rfl,aH,by simp only;rw [mI];exact xh⟩,by simp only;omega⟩
  have UZ:p.key=key:=by simpa using ar
  cases aT:decide (p.ay - g≤time)
  ·have aG:ml g key time p=false:=by
    cases e:ml g key time p
    ·rfl
    ·have:=(xT.1 e).2.1;have:=of_decide_eq_false aT;omega
   rw [aG] at mI
   simp only [Bool.false_eq_true,if_false,List.append_nil] at mI
   refine aP.aY none_ [] (.q 0 (.q 1 (.q 2 (.q 3 (.q 4 (.q 5 (.c 6 (.q 7 (.q 8 (.q 9 (.q 10 (.q 11 (.q 12 (.q 13 (.q 14 (.q 15 (.q 16 (.q 17 (.c 18 (.q 19 (.q 20 (.q 21 (.q 22 (.q 23 (.q 24 (.q 25 .done)))))))))))))))))))))))))) (by kernel_rfl) (by kernel_rfl) (by kernel_rfl) ?_
   simp only [aa,bD,Nat.reduceEqDiff,z7,br,ia,f1,hW,fB,ar,gW]
   refine gE rfl rfl rfl (fun h' _=>Ax p eJ h') ?_
   simp only [aa,bD,Nat.reduceEqDiff,Nat.reduceAdd,Nat.reduceLeDiff,reduceCtorEq,z6,br,f0,f2,eO,c9,aT]
   refine J0 rfl rfl ?_
   simp only [aa,bD,Nat.reduceEqDiff,f22,hw]
   exact au ⟨(t+1,s),⟨f0,f1,f2,f7,f20,f21,rfl,aH,by simp only;rw [mI];exact xh⟩,by simp only;omega⟩
  cases cg:decide (time≤p.to+g)
  ·have aG:ml g key time p=false:=by
    cases e:ml g key time p
    ·rfl
    ·have:=(xT.1 e).2.2;have:=of_decide_eq_false cg;omega
   rw [aG] at mI
   simp only [Bool.false_eq_true,if_false,List.append_nil] at mI
   refine aP.aY none_ [] (.q 0 (.q 1 (.q 2 (.q 3 (.q 4 (.q 5 (.c 6 (.q 7 (.q 8 (.q 9 (.q 10 (.q 11 (.q 12 (.q 13 (.q 14 (.q 15 (.q 16 (.q 17 (.c 18 (.q 19 (.q 20 (.q 21 (.q 22 (.q 23 (.q 24 (.q 25 .done)))))))))))))))))))))))))) (by kernel_rfl) (by kernel_rfl) (by kernel_rfl) ?_
   simp only [aa,bD,Nat.reduceEqDiff,z7,br,ia,f1,hW,fB,ar,gW]
   refine gE rfl rfl rfl (fun h' _=>Ax p eJ h') ?_
   simp only [aa,bD,Nat.reduceEqDiff,Nat.reduceAdd,Nat.reduceLeDiff,reduceCtorEq,z6,br,ia,f0,f2,hW,eO,gW,c9,aT]
   refine gE rfl rfl rfl (fun h' _=>Ay p eJ h') ?_
   simp only [aa,bD,Nat.reduceEqDiff,Nat.reduceAdd,Nat.reduceLeDiff,reduceCtorEq,z6,br,f0,f22,eO,b0,cg,hw]
   exact au ⟨(t+1,s),⟨f0,f1,f2,f7,f20,f21,rfl,aH,by simp only;rw [mI];exact xh⟩,by simp only;omega⟩
  ·have aG:ml g key time p=true:=xT.2 ⟨UZ,of_decide_eq_true aT,of_decide_eq_true cg⟩
   rw [aG,if_pos rfl] at mI
   obtain ⟨b7,ae,ei,a2⟩:=xh.ze xS (by decide) (xs:=aw p) rfl rfl (fun m hm=>by
    change m * 5=_+5 at hm
    rw [iS ix] at hm
    have:=FJ g (l.take t) key time
    simp only [List.length_take] at this
    exact ⟨by simp only [lim];omega,by simp only [lim];omega⟩)
   have dR:=DS H p
   refine aP.aY none_ [] (.q 0 (.q 1 (.q 2 (.q 3 (.q 4 (.q 5 (.c 6 (.q 7 (.q 8 (.q 9 (.q 10 (.q 11 (.q 12 (.q 13 (.q 14 (.q 15 (.q 16 (.q 17 (.c 18 (.q 19 (.q 20 (.q 21 (.q 22 (.q 23 (.q 24 (.q 25 .done)))))))))))))))))))))))))) (by kernel_rfl) (by kernel_rfl) (by kernel_rfl) ?_
   simp only [aa,bD,Nat.reduceEqDiff,z7,br,ia,f1,hW,fB,ar,gW]
   refine gE rfl rfl rfl (fun h' _=>Ax p eJ h') ?_
   simp only [aa,bD,Nat.reduceEqDiff,Nat.reduceAdd,Nat.reduceLeDiff,reduceCtorEq,z6,br,ia,f0,f2,hW,eO,gW,c9,aT]
   refine gE rfl rfl rfl (fun h' _=>Ay p eJ h') ?_
   simp only [aa,bD,Nat.reduceEqDiff,Nat.reduceAdd,Nat.reduceLeDiff,reduceCtorEq,z6,br,ia,f0,f7,hW,eO,gW,b0,cg]
   refine bB Zg (IJ p eJ _) ?_
   simp only [aa,Nat.reduceEqDiff,f22,dR,ei,hw]
   refine au ⟨(t+1,b7),⟨f0,f1,f2,rfl,f20,f21,rfl,aH,a2.conv ?_⟩,by simp only;omega⟩
   rw [mI,List.flatMap_append]
   simp
 ·have d1:decide ((t:Int)<((l.length:Nat):Int))=false:=decide_eq_false (by omega)
  rw [List.take_of_length_le (by omega)] at acc
  simp only [aa,Nat.reduceEqDiff,f7,f21,f22,d1,aI,Tryz.results118,ac]
  exact au acc
theorem bQ.after {h H:J} {v v':V} (d:bQ H v v') (aG:h.n≤H.n):bQ h v v':=by
 rcases d with d | d
 ·exact .inl d
 ·exact .inr fun q af=>Nat.le_trans aG (d q af)
theorem IM {h:J} {s:V} {cs:List ai} (o:Own h 40 5 s (cs.flatMap aw)) (aM:cs.length≤2 ^ 40) (c:ai) :
  ∃ b7 h',n2 Tryz.prog 35 35 s (.bp h.n 0 1 1) (h.push (.cells (aw c) 40 none))=some (b7,h')∧Own h' 40 5 b7 ((cs++[c]).flatMap aw)∧I h h' (bn s)∧bQ h s b7:=by
 have bO:I h (h.push (.cells (aw c) 40 none)) none_:=I.push _ _ _
 have lO:Own (h.push (.cells (aw c) 40 none)) 40 5 (.bp h.n 0 1 1) (aw c):=Own.js (aw c) 1 rfl (by decide)
 have eh:=w1 (P:=Tryz.prog) (t:=35) pv lO (n:=1) rfl (by decide) (Ur c)
 obtain ⟨b7,h',ei,k8,gk,gB⟩:=wv (P:=Tryz.prog) (t:=35) (tx:=35) xS (by decide) (o.aQ bO) eh rfl (fun m hm=>by
  change m * 5=_+5 at hm
  rw [iS ix] at hm
  exact ⟨by simp only [lim];omega,by simp only [lim];omega⟩)
 refine ⟨b7,h',ei,?_,(bO.up).trans' gk,bQ.after gB bO.n⟩
 rw [List.flatMap_append]
 simpa using k8
theorem U0 (p:ai) (r:List V):cX (some (some 5)) (some (aw p++r))=some (.agg (aw p)):=lC (ix p)
theorem FK (p:ai):(if 5≤(aw p).length then some (V.agg (List.take 5 (aw p))) else none)=some (.agg (aw p)):=rfl
theorem NF (p:ai):bM (some 5) (aV.cells [V.int .i64 0,V.int .i64 0,V.int .i64 0,V.int .i64 0,V.bool false] 40 none) 0 (aw p)=some (.cells (aw p) 40 none):=rfl
theorem FL (p:ai):(V.agg (aw p)).cells=some (aw p):=rfl
theorem U1 (p:ai):List.drop 1 (aw p)=[.int .i64 p.ay,.int .i64 p.to,.int .i64 p.val,.bool p.del]:=rfl
theorem U2 (p:ai):List.drop 2 (aw p)=[.int .i64 p.to,.int .i64 p.val,.bool p.del]:=rfl
theorem afC (c:ai) (cs:List ai) (p:ai):((cs++[p]).filter (j5 c)).map gd=((cs.filter (j5 c)).map gd)++(if j5 c p=true then [gd p] else []):=by
 rw [List.filter_append,List.map_append]
 cases h:j5 c p<;>simp [h]
theorem afD {g:Int} {l:List ai} (ad:dP l) (k t:Int) {j:Nat} {p:ai} (aW:(found g l k t)[j]?=some p):p ∈ eZ l ((found g l k t).take j):=by
 have dK:dP (found g l k t):=ad.filter _
 have hm:p ∈ found g l k t:=List.mem_of_getElem? aW
 refine afk ad (List.mem_filter.1 hm).1 (fun bS=>?_) fun y bs=>(List.mem_filter.1 (List.mem_of_mem_take bs)).1
 have aX:=(List.getElem?_eq_some_iff.1 aW).1
 have e:found g l k t=(found g l k t).take j++p::(found g l k t).drop (j+1):=by
  have:=List.take_append_drop j (found g l k t)
  rw [List.drop_eq_getElem_cons aX,(List.getElem?_eq_some_iff.1 aW).2] at this
  exact this.symm
 rw [e] at dK
 exact absurd ((List.pairwise_append.1 dK).2.2 p bS p (by simp)) (zq (jP.2 ⟨rfl,rfl,rfl⟩))
theorem afE (h:J) (i:Nat) (v:V) (room g key time val:Int) (l:List ai) (l7:ho time=true) (gI:found g l key time≠[]∨(l.length:Int)<room) (aM:found g l key time≠[]∨l.length<1024) (k:cr h i v room g l) :
  ab Tryz.prog 121 [.ptr i 0,.int .i64 key,.int .i64 time,.int .i64 val] h (fun r h'=>∃ v',r=.tuple [.ag (gM g l key time val).length ((gM g l key time val).flatMap aw),.int .i64 0]∧cr h' i v' room g (tE g l key time val)∧I h h' (jj i v)∧bQ h v v'):=by
 refine ab.cast ?_
 refine ab.ao (c:=_) Tryz.func121 rfl (by kernel_rfl) (by simp) ?_
 have aB:=k.get
 have jt:=k.og h
 have zy:=C3.1 l7
 have bS:=k.lt
 have eO:=k.g1
 simp only [aa,Nat.reduceEqDiff,reduceCtorEq,BH]
 refine bB zW (Az time h) ?_
 simp only [aa,Nat.reduceEqDiff,reduceCtorEq,l7]
 refine bB MA (ND h i v room g key time l k) ?_
 have FM:sF g l key time=found g l key time:=by rw [sF,if_pos l7]
 rw [FM]
 obtain ⟨cs,dZ⟩:∃ y,y=found g l key time:=⟨_,rfl⟩
 have dk:cs.length≤1024:=by rw [dZ];have:=FJ g l key time;have:=k.len;omega
 have d0:(((cs.length:Nat):Int)==0)=true→decide (room≤((l.length:Nat):Int))=false:=fun b4=>decide_eq_false (by
  rcases gI with aU | aU
  ·exfalso
   rw [←dZ] at aU
   have:cs.length=0:=by simpa using b4
   exact aU (List.eq_nil_of_length_eq_zero this)
  ·omega)
 have aM:(vj g l key time).length<1024:=by
  have vt:=afn g l key time
  have al3:=k.len
  rcases aM with aM | aM
  ·have:0<(found g l key time).length:=List.length_pos_iff.2 aM
   omega
  ·omega
 rw [←dZ]
 obtain ⟨c,aF⟩:∃ y,y=eE g l key time val:=⟨_,rfl⟩
 have U3:c.ay=jM time cs:=by rw [aF,dZ];rfl
 have FN:c.to=ki time cs:=by rw [aF,dZ];rfl
 have rn:c.key=key:=by rw [aF];rfl
 have U4:c.val=val:=by rw [aF];rfl
 have U5:c.del=false:=by rw [aF];rfl
 have NG:hc c:=by rw [aF];exact QF k.ok val zy.1 zy.2
 simp only [aa,Nat.reduceEqDiff]
 cases av:(((cs.length:Nat):Int)==0)
 all_goals
  refine aP.aY none_ [] (.q 0 (.q 1 (.q 2 (.q 3 (.q 4 (.q 5 (.q 6 (.q 7 (.q 8 (.q 9 (.q 10 (.q 11 (.q 12 (.q 13 (.q 14 .done))))))))))))))) (by kernel_rfl) (by kernel_rfl) (by kernel_rfl) ?_
  simp only [aa,bD,Nat.reduceEqDiff,Nat.reduceAdd,Nat.reduceLeDiff,reduceCtorEq,MK,tg,pv,wE,a7,av,aB,jt,d0]
  refine aP.bG (α:=Nat) (fun t f h'=>f 0=.ptr i 0∧f 1=.int .i64 key∧f 3=.int .i64 val∧f 10=.ag cs.length (cs.flatMap aw)∧f 11=.int .i64 (jM time (cs.take t))∧f 12=.int .i64 (ki time (cs.take t))∧f 46=.ag cs.length (cs.flatMap aw)∧f 47=.int .i64 (cs.length:Nat)∧f 48=.int .i64 (t:Nat)∧t≤cs.length∧I h h' none_) (fun t=>cs.length - t) 0
   ⟨rfl,rfl,rfl,rfl,rfl,rfl,rfl,rfl,rfl,Nat.zero_le _,I.refl _ _⟩ ?_
  rintro t f h1 ⟨f0,f1,f3,f10,f11,f12,f46,f47,f48,bw,bo⟩
  refine dw (by kernel_rfl) ?_
  by_cases aH:t<cs.length
  ·have d1:decide ((t:Int)<((cs.length:Nat):Int))=true:=decide_eq_true (by omega)
   have hw:=kf aH (by omega)
   have bR:=Nl (kk:=.i64) aH
   have jK:cs.take (t+1)=cs.take t++[cs[t]]:=List.take_succ_eq_append_getElem aH
   have ei:=afl time (cs.take t) cs[t]
   have zH:=afm time (cs.take t) cs[t]
   rw [←jK] at ei zH
   generalize cs[t]=p at bR jK ei zH
   have ld:=U0 p
   have gW:=FK p
   have st:=NF p
   have cc:=FL p
   have bd:=U1 p
   have bH:=U2 p
   simp only [aa,Nat.reduceEqDiff,j0,ks,mz,f46,f47,f48,d1,bR,ld,st,cc]
   refine aP.aY none_ [] (.q 0 (.q 1 (.q 2 (.q 3 (.q 4 (.q 5 (.q 6 (.q 7 (.q 8 (.q 9 .done)))))))))) (by kernel_rfl) (by kernel_rfl) (by kernel_rfl) ?_
   simp only [aa,bD,Nat.reduceEqDiff,Nat.reduceLeDiff,mw,rB,br,f11,f12,f48,bd,bH,ix,hw]
   exact au ⟨t+1,⟨f0,f1,f3,f10,by rw [ei];rfl,by rw [zH];rfl,f46,f47,rfl,aH,bo.a8 _⟩,by omega⟩
  ·have d1:decide ((t:Int)<((cs.length:Nat):Int))=false:=decide_eq_false (by omega)
   rw [List.take_of_length_le (by omega)] at f11 f12
   rw [←U3] at f11
   rw [←FN] at f12
   simp only [aa,Nat.reduceEqDiff,pv,f10,f47,f48,d1]
   have U6:=k.aQ bo
   refine aP.bG (α:=Nat×V×V) (fun x f h'=>f 0=.ptr i 0∧f 1=.int .i64 key∧f 3=.int .i64 val∧f 11=.int .i64 c.ay∧f 12=.int .i64 c.to∧f 15=x.2.2∧f 61=.ag cs.length (cs.flatMap aw)∧f 62=.int .i64 (cs.length:Nat)∧f 63=.int .i64 (x.1:Nat)∧x.1≤cs.length∧cr h' i x.2.1 room g (eZ l (cs.take x.1)) ∧
     Own h' 40 5 x.2.2 ((((cs.take x.1).filter (j5 c)).map gd).flatMap aw)∧I h h' (jj i v)∧bQ h v x.2.1∧(∀ j,aR x.2.2=some j→h.n≤j∧aR x.2.1≠some j)) (fun x=>cs.length - x.1) (0,v,.ah)
    ⟨f0,f1,f3,f11,f12,rfl,rfl,rfl,rfl,Nat.zero_le _,by rw [List.take_zero,UL];exact U6,Own.ah _ _ _,bo.up,.inl rfl,by simp [aR]⟩ ?_
   rintro ⟨t,v1,s⟩ f h1 ⟨f0,f1,f3,f11,f12,f15,f61,f62,f63,bw,ax,os,kk,kH,ap⟩
   simp only at f15 f63 bw ax os kH ap
   refine dw (by kernel_rfl) ?_
   by_cases aH:t<cs.length
   ·have d1:decide ((t:Int)<((cs.length:Nat):Int))=true:=decide_eq_true (by omega)
    have hw:=kf aH (by omega)
    have bR:=Nl (kk:=.i64) aH
    have jK:cs.take (t+1)=cs.take t++[cs[t]]:=List.take_succ_eq_append_getElem aH
    have aW:cs[t]?=some cs[t]:=List.getElem?_eq_getElem aH
    have pd:=wl l (cs.take t) cs[t]
    have pK:=afC c (cs.take t) cs[t]
    rw [←jK] at pd pK
    have NH:∀ p,cs[t]?=some p→p ∈ eZ l (cs.take t):=by
     rw [dZ]
     exact fun p aW=>afD k.ha key time aW
    have AB:=NH _ aW
    generalize cs[t]=p at bR jK aW pd pK AB
    have eJ:hc p:=ax.ok p AB
    have ld:=U0 p
    have gW:=FK p
    have st:=NF p
    have cc:=FL p
    have bd:=U1 p
    have bH:=U2 p
    obtain ⟨H,hH⟩:∃ y,y=(h1.push (.cells (aw p) 40 none)).push (.cells (bf p) 292 none):=⟨_,rfl⟩
    have sG:H.get h1.n=.cells (aw p) 40 none:=by rw [hH];exact ve
    have C4:H.get (h1.n+1)=.cells (bf p) 292 none:=by rw [hH];exact wq
    have bq:I h1 H none_:=by rw [hH];exact (I.push _ _ _).a8 _
    have h9:H.n=h1.n+2:=by rw [hH];rfl
    have FO:=ax.aQ bq
    have qx:=DT p
    have yQ:=DU p
    have scc:=DV p
    simp only [aa,Nat.reduceEqDiff,j0,ks,mz,f61,f62,f63,d1,bR,ld,gW,st,cc]
    refine bB Ig (IK p _) ?_
    simp only [aa,Nat.reduceEqDiff,reduceCtorEq,ia,BI,zp,f0,yQ,scc,qx]
    rw [←hH]
    clear hH
    refine bU SO (UX H i v1 room g _ p eJ (UJ AB) FO) fun r aA ⟨v2,nN,k3,n3⟩=>?_
    rw [←pd] at nN
    have xi:∀ q,aR v1=some q→q<h1.n:=fun q af=>ax.own.lt q af
    have zL:=ax.lt
    have FP:=(k3.get h1.n (by omega) (by rintro (U | U);omega;have:=xi _ U;omega)).trans sG
    have KT:=(k3.get (h1.n+1) (by omega) (by rintro (U | U);omega;have:=xi _ U;omega)).trans C4
    have NI:=k3.n
    have gm:∀ j,aR s=some j→j<h1.n:=fun j aX=>os.lt j aX
    have yR:=(os.aQ bq).aj k3 (fun j aX U=>by
     rcases U with U | U
     ·have:=(ap j aX).1;omega
     ·exact (ap j aX).2 U)
    have dL:I h aA (jj i v):=((kk.trans' bq.up).trans k3 fun q af U=>by
     rcases U with U | U
     ·exact .inl U
     ·rcases kH with kH | kH
      ·exact .inr (by show aR v=some q;rw [←kH];exact U)
      ·have:=kH q U;omega)
    have yS:bQ h v v2:=by
     rcases n3 with n3 | n3
     ·rcases kH with kH | kH
      ·exact .inl (n3.trans kH)
      ·exact .inr fun q af=>kH q (by rw [←n3];exact af)
     ·exact .inr fun q af=>by have:=n3 q af;have:=kk.n;omega
    have mM:∀ j,aR s=some j→h.n≤j∧aR v2≠some j:=fun j aX=>by
     refine ⟨(ap j aX).1,fun U=>?_⟩
     rcases n3 with n3 | n3
     ·rw [n3] at U;exact (ap j aX).2 U
     ·have:=n3 j U;have:=gm j aX;omega
    cases ar:(p.ay !=c.ay)
    ·cases aT:(p.to !=c.to)
     ·have bc:j5 c p=false:=by
       simp at ar aT;simp [j5,ar,aT]
      rw [bc] at pK
      simp only [Bool.false_eq_true,if_false,List.append_nil] at pK
      simp only [aa,Nat.reduceEqDiff,Nat.reduceLeDiff,mw,rB,br,f11,f12,f63,FP,bd,bH,ix,ar,aT,hw]
      exact au ⟨(t+1,v2,s),⟨f0,f1,f3,f11,f12,f15,f61,f62,rfl,aH,nN,by simp only;rw [pK];exact yR,dL,yS,mM⟩,by simp only;omega⟩
     ·have bc:j5 c p=true:=by
       simp at ar aT;simp [j5,ar,aT]
      rw [bc,if_pos rfl] at pK
      obtain ⟨b7,bk,ei,qX,bY,n4⟩:=IM yR (by simp only [List.length_map];have:=List.length_filter_le (j5 c) (cs.take t);have:=List.length_take_le t cs;omega) (gd p)
      have dR:=DS aA (gd p)
      simp only [aa,Nat.reduceEqDiff,Nat.reduceLeDiff,mw,rB,br,ia,f11,f12,f15,FP,KT,bd,bH,ix,qx,ar,aT]
      refine bB ME (Nx p eJ _) ?_
      simp only [aa,Nat.reduceEqDiff,f63,dR,ei,hw]
      refine au ⟨(t+1,v2,b7),⟨f0,f1,f3,f11,f12,rfl,f61,f62,rfl,aH,nN.aj bY (fun U=>?_) (fun j aX U=>(mM j U).2 aX),by simp only;rw [pK];exact qX,dL.trans bY fun q af U=>?_,yS,fun j aX=>?_⟩,by simp only;omega⟩
      ·have:=(mM i U).1;omega
      ·have:=(mM q U).1;omega
      ·rcases n4 with n4 | n4
       ·rw [n4] at aX;exact mM j aX
       ·have bN:=n4 j aX
        have dd:=dL.n
        exact ⟨by omega,fun U=>by have:=nN.own.lt j U;omega⟩
    ·have bc:j5 c p=true:=by
      simp at ar;simp [j5,ar]
     rw [bc,if_pos rfl] at pK
     obtain ⟨b7,bk,ei,qX,bY,n4⟩:=IM yR (by simp only [List.length_map];have:=List.length_filter_le (j5 c) (cs.take t);have:=List.length_take_le t cs;omega) (gd p)
     have dR:=DS aA (gd p)
     simp only [aa,Nat.reduceEqDiff,Nat.reduceLeDiff,mw,br,ia,f11,f15,FP,KT,bd,ix,qx,ar]
     refine bB ME (Nx p eJ _) ?_
     simp only [aa,Nat.reduceEqDiff,f63,dR,ei,hw]
     refine au ⟨(t+1,v2,b7),⟨f0,f1,f3,f11,f12,rfl,f61,f62,rfl,aH,nN.aj bY (fun U=>?_) (fun j aX U=>(mM j U).2 aX),by simp only;rw [pK];exact qX,dL.trans bY fun q af U=>?_,yS,fun j aX=>?_⟩,by simp only;omega⟩
     ·have:=(mM i U).1;omega
     ·have:=(mM q U).1;omega
     ·rcases n4 with n4 | n4
      ·rw [n4] at aX;exact mM j aX
      ·have bN:=n4 j aX
       have dd:=dL.n
       exact ⟨by omega,fun U=>by have:=nN.own.lt j U;omega⟩
   ·have d1:decide ((t:Int)<((cs.length:Nat):Int))=false:=decide_eq_false (by omega)
    rw [List.take_of_length_le (by omega)] at ax os
    have lN:eZ l cs=vj g l key time:=by rw [dZ];exact UM k.ha _
    rw [lN] at ax
    have JP:(vj g l key time).length<1024:=aM
    have U7:cI (vj g l key time) c=false:=by rw [aF];exact Zr (by omega) l key time val
    have gW:=FK c
    have st:=NF c
    have cc:=FL c
    have U8:(V.agg [.int .i64 key,.int .i64 c.ay,.int .i64 c.to,.int .i64 val,.bool false])=.agg (aw c):=by unfold aw;rw [rn,U4,U5]
    obtain ⟨H,hH⟩:∃ y,y=h1.push (.cells (aw c) 40 none):=⟨_,rfl⟩
    have hW:H.get h1.n=.cells (aw c) 40 none:=by rw [hH];exact b6
    have bq:I h1 H none_:=by rw [hH];exact I.push _ _ _
    have h9:H.n=h1.n+1:=by rw [hH];rfl
    have FO:=ax.aQ bq
    simp only [aa,Nat.reduceEqDiff,Nat.reduceAdd,Nat.reduceLeDiff,reduceCtorEq,j0,tU,ks,mz,f0,f1,f3,f11,f12,f62,f63,d1,U8,st,cc,gW]
    rw [←hH]
    clear hH
    refine bB Ig (IK c _) ?_
    simp only [aa,Nat.reduceEqDiff]
    refine bU SP (UY H i v1 room g _ c NG U7 JP FO) fun r aA ⟨v2,nN,k3,n3⟩=>?_
    have xi:∀ q,aR v1=some q→q<h1.n:=fun q af=>ax.own.lt q af
    have zL:=ax.lt
    have U9:=(k3.get h1.n (by omega) (by rintro (U | U);omega;have:=xi _ U;omega)).trans hW
    have NI:=k3.n
    have gm:∀ j,aR s=some j→j<h1.n:=fun j aX=>os.lt j aX
    have yR:=(os.aQ bq).aj k3 (fun j aX U=>by
     rcases U with U | U
     ·have:=(ap j aX).1;omega
     ·exact (ap j aX).2 U)
    have dL:I h aA (jj i v):=((kk.trans' bq.up).trans k3 fun q af U=>by
     rcases U with U | U
     ·exact .inl U
     ·rcases kH with kH | kH
      ·exact .inr (by show aR v=some q;rw [←kH];exact U)
      ·have:=kH q U;omega)
    have yS:bQ h v v2:=by
     rcases n3 with n3 | n3
     ·rcases kH with kH | kH
      ·exact .inl (n3.trans kH)
      ·exact .inr fun q af=>kH q (by rw [←n3];exact af)
     ·exact .inr fun q af=>by have:=n3 q af;have:=kk.n;omega
    have mM:∀ j,aR s=some j→h.n≤j∧aR v2≠some j:=fun j aX=>by
     refine ⟨(ap j aX).1,fun U=>?_⟩
     rcases n3 with n3 | n3
     ·rw [n3] at U;exact (ap j aX).2 U
     ·have:=n3 j U;have:=gm j aX;omega
    obtain ⟨b7,bk,ei,qX,bY,n4⟩:=IM yR (by simp only [List.length_map];have:=List.length_filter_le (j5 c) cs;omega) c
    have dR:=DS aA c
    simp only [aa,Nat.reduceEqDiff,j0,f15,U9,gW,dR,ei,aI,Tryz.results121,cW]
    have Va:=nN.aj bY (fun U=>by have:=(mM i U).1;omega) (fun j aX U=>(mM j U).2 aX)
    have oL:I h bk (jj i v):=dL.trans bY fun q af U=>by have:=(mM q U).1;omega
    have FQ:∀ j,aR b7=some j→h.n≤j∧aR v2≠some j:=fun j aX=>by
     rcases n4 with n4 | n4
     ·rw [n4] at aX;exact mM j aX
     ·have bN:=n4 j aX
      have dd:=dL.n
      exact ⟨by omega,fun U=>by have:=nN.own.lt j U;omega⟩
    have pK:((cs.filter (j5 c)).map gd)++[c]=gM g l key time val:=by rw [aF,dZ];rfl
    rw [pK] at qX
    obtain ⟨bN,c5,cG⟩:=aK.own qX (n:=(gM g l key time val).length) (iS ix _) (by decide)
    refine au ⟨_,bN,aK.tuple (az.cons c5 (az.refl _ _)),v2,rfl,?_,oL.trans cG fun q af U=>by have:=(FQ q U).1;omega,yS⟩
    have:=Va.aj cG (fun U=>by have:=(FQ i U).1;omega) (fun j aX U=>(FQ j U).2 aX)
    rw [aF] at this
    exact this
theorem NJ (i:Nat):gZ Tryz.prog (.iface 197 (.ptr i 0)) 194 true=some (.tuple [.cZ,.bool false]):=by
 unfold gZ;rw [Tryz.underlying194];rfl
theorem NK (i:Nat):gZ Tryz.prog (.iface 197 (.ptr i 0)) 197 true=some (.tuple [.ptr i 0,.bool true]):=by
 unfold gZ;rw [Tryz.underlying197];rfl
theorem NL (i:Nat):gZ Tryz.prog (.iface 200 (.ptr i 0)) 194 true=some (.tuple [.cZ,.bool false]):=by
 unfold gZ;rw [Tryz.underlying194];rfl
theorem NM (i:Nat):gZ Tryz.prog (.iface 200 (.ptr i 0)) 197 true=some (.tuple [.cZ,.bool false]):=by
 unfold gZ;rw [Tryz.underlying197];rfl
theorem NN (i:Nat):gZ Tryz.prog (.iface 200 (.ptr i 0)) 200 true=some (.tuple [.ptr i 0,.bool true]):=by
 unfold gZ;rw [Tryz.underlying200];rfl
theorem cy.aj {h h':J} {i m cl:Nat} {room size:Int} {es:List (Nat×V×V)} {M:Nat→Prop} (k:cy h i m room size es cl) (hk:I h h' M) (h1:¬M i) (ae:¬M m):cy h' i m room size es cl :=
 ⟨(hk.get i k.lt h1).trans k.get,(hk.get m k.mA ae).trans k.map,k.ne,Nat.lt_of_lt_of_le k.lt hk.n,Nat.lt_of_lt_of_le k.mA hk.n,k.s1,k.s2⟩
theorem afF (x:bu) (ak:x.kind=7) (h1:1≤x.n) (ae:x.n≤1048576) (h:J):ab Tryz.prog 54 [.agg (al x)] h (fun r h'=>∃ i,r=.tuple [.iface 197 (.ptr i 0),.int .i64 0]∧I h h' none_∧∃ m,h.n≤i∧h.n≤m∧cy h' i m 1024 x.n [] 0):=by
 refine ab.ao (c:=_) Tryz.func54 rfl (by kernel_rfl) (by simp) ?_
 obtain ⟨cB,ay,⟨o,m,ax⟩,n⟩:=x
 have ak:cB=7:=ak
 subst ak
 have ak:al ⟨7,ay,.mk o m ax,n⟩=[.int .i64 7,.ag ay.length (aO ay),.int .i64 o,.int .i64 m,.ag ax.length (ax.flatMap aq),.int .i64 n]:=by simp [al,hT]
 rw [ak]
 have hk:I h (h.push (.cells [.int .i64 7,.ag ay.length (aO ay),.int .i64 o,.int .i64 m,.ag ax.length (ax.flatMap aq),.int .i64 n] 29 none)) none_:=I.push _ _ _
 simp only [aa,Int.reduceBEq,Nat.reduceEqDiff,Nat.reduceAdd,Nat.reduceLeDiff,fL,vM,br,a7]
 refine bU acx (afb _ 1024 n (by decide) (by decide) h1 ae) fun r h1 ⟨ar,bo,gA⟩=>?_
 subst ar
 simp only [aa,Nat.reduceEqDiff,adt,aI,Tryz.results54,cW]
 exact au ⟨h.n+1+1,rfl,hk.trans' gA,h.n+1,by omega,by omega,bo⟩
theorem afG (x:bu) (ak:x.kind=8) (h1:1≤x.n) (ae:x.n≤1048576) (h:J):ab Tryz.prog 54 [.agg (al x)] h (fun r h'=>∃ i,r=.tuple [.iface 200 (.ptr i 0),.int .i64 0]∧I h h' none_∧h.n≤i∧cr h' i .ah 1024 x.n []):=by
 refine ab.ao (c:=_) Tryz.func54 rfl (by kernel_rfl) (by simp) ?_
 obtain ⟨cB,ay,⟨o,m,ax⟩,n⟩:=x
 have ak:cB=8:=ak
 subst ak
 have ak:al ⟨8,ay,.mk o m ax,n⟩=[.int .i64 8,.ag ay.length (aO ay),.int .i64 o,.int .i64 m,.ag ax.length (ax.flatMap aq),.int .i64 n]:=by simp [al,hT]
 rw [ak]
 have hk:I h (h.push (.cells [.int .i64 8,.ag ay.length (aO ay),.int .i64 o,.int .i64 m,.ag ax.length (ax.flatMap aq),.int .i64 n] 29 none)) none_:=I.push _ _ _
 simp only [aa,Int.reduceBEq,Nat.reduceEqDiff,Nat.reduceAdd,Nat.reduceLeDiff,fL,vM,br,a7]
 refine bU acy (afA 1024 n (by decide) (by decide) h1 ae _) fun r h1 ⟨ar,aT⟩=>?_
 subst ar aT
 simp only [aa,Nat.reduceEqDiff,adu,aI,Tryz.results54,cW]
 exact au ⟨_,rfl,hk.trans' (I.push _ _ _),by omega,cr.new h1 ae⟩
theorem afH {h:J} {i m cl:Nat} {room size:Int} {l:dv} (k:cy h i m room size (fD l) cl) (r:Rec) (h0:0≤r.t) (h1:r.t≤1099511627776):Pure Tryz.prog 60 [.iface 197 (.ptr i 0),.agg (aD r)] h (.int .i64 ((ch l (r.k,c7 size r.t)).getD 0)):=by
 refine Pure.val (bh.int _ _) ?_
 obtain ⟨bJ,b5,rt⟩:=r
 refine ab.ao (c:=_) Tryz.func60 rfl (by kernel_rfl) (by simp) ?_
 unfold aD
 have kk:I h (h.push (.cells [.int .i64 bJ,.int .i64 b5,.int .i64 rt] 38 none)) none_:=I.push _ _ _
 simp only [aa,Nat.reduceEqDiff,Nat.reduceAdd,Nat.reduceLeDiff,reduceCtorEq,tA,qQ,br,NJ,NK]
 refine bB acC (afd _ i m cl room size bJ rt l (k.aQ kk) h0 h1) ?_
 simp only [aa,Nat.reduceEqDiff,aI,Tryz.results60,ac]
 exact au ⟨rfl,kk⟩
theorem afI {h:J} {i m cl:Nat} {room size:Int} {l:dv} (k:cy h i m room size (fD l) cl) (r:Rec) (n:Int) (h0:0≤r.t) (h1:r.t≤1099511627776) (aU:(ch l (r.k,c7 size r.t)).isSome=true∨(l.length:Int)<room) :
  ab Tryz.prog 61 [.iface 197 (.ptr i 0),.agg (aD r),.int .i64 n] h (fun q h'=>∃ j,q=.tuple [.bp j 0 1 1,.int .i64 (c7 size r.t),.int .i64 0]∧cy h' i m room size (fD (cT cl l (r.k,c7 size r.t) n)) (fX cl l (r.k,c7 size r.t))∧I h h' (fun q=>q=m) ∧
   Own h' 40 5 (.bp j 0 1 1) (aw ⟨r.k,c7 size r.t,c7 size r.t+size,n,false⟩)∧h.n≤j):=by
 obtain ⟨bJ,b5,rt⟩:=r
 refine ab.ao (c:=_) Tryz.func61 rfl (by kernel_rfl) (by simp) ?_
 unfold aD
 obtain ⟨H,hH⟩:∃ y,y=h.push (.cells [.int .i64 bJ,.int .i64 b5,.int .i64 rt] 38 none):=⟨_,rfl⟩
 have dC:I h H none_:=by rw [hH];exact I.push _ _ _
 have g0:H.get h.n=.cells [.int .i64 bJ,.int .i64 b5,.int .i64 rt] 38 none:=by rw [hH];exact b6
 have p2:H.n=h.n+1:=by rw [hH];rfl
 simp only [aa,Nat.reduceEqDiff,Nat.reduceAdd,Nat.reduceLeDiff,reduceCtorEq,tA,qQ,br,NJ,NK]
 rw [←hH]
 clear hH
 have hJ:=k.mA
 refine bU MB (UB H i m cl room size bJ rt n l (k.aQ dC) aU h0 h1) fun q qk ⟨ar,bo,gA⟩=>?_
 subst ar
 obtain ⟨C,oW⟩:∃ y,y=(⟨bJ,c7 size rt,c7 size rt+size,n,false⟩:ai):=⟨_,rfl⟩
 rw [←oW]
 have afJ:C.ay=c7 size rt:=by rw [oW]
 have cc:∀ c:ai,(V.agg (aw c)).cells=some (aw c):=fun _=>rfl
 have st:∀ c:ai,bM (some 5) (aV.cells [V.int .i64 0,V.int .i64 0,V.int .i64 0,V.int .i64 0,V.bool false] 40 none) 0 (aw c)=some (.cells (aw c) 40 none):=fun _=>rfl
 obtain ⟨bI,bA⟩:∃ y,y=qk.push (.cells (aw C) 40 none):=⟨_,rfl⟩
 have k2:I qk bI none_:=by rw [bA];exact I.push _ _ _
 have g2:bI.get qk.n=.cells (aw C) 40 none:=by rw [bA];exact b6
 have ef:bI.n=qk.n+1:=by rw [bA];rfl
 simp only [aa,Nat.reduceEqDiff,ks,mz,cc,st]
 rw [←bA]
 clear bA
 have ff:=DQ bI C
 have ld:cX (some (some 5)) (some (aw C))=some (.agg (aw C)):=rfl
 have d0:da (.cells (aw C) 40 none) 0=some (aw C):=rfl
 have d1:da (.cells (aw C) 40 none) 1=some [.int .i64 (c7 size rt),.int .i64 C.to,.int .i64 C.val,.bool C.del]:=by rw [←afJ];rfl
 have FA:(aw C).length=5:=rfl
 have Hl:=gA.n
 generalize bC:aw C=E at *
 refine aP.aY none_ [1] (.q 0 (.q 2 (.q 3 (.q 4 (.e 1 (.q 5 (.q 6 (.q 7 .done))) .stop))))) (by kernel_rfl) (by kernel_rfl) (by kernel_rfl) ?_
 simp only [aa,bD,Nat.reduceEqDiff,mw,br,j0,g2,ff,ld,d0,d1,aI,Tryz.results61,r6]
 have k3:I bI (bI.push (.cells E 40 none)) none_:=I.push _ _ _
 refine au ⟨bI.n,rfl,(bo.aQ k2).aQ k3,((dC.up).trans' gA).trans' ((k2.trans' k3).up),Own.js _ 1 FA (by decide),by omega⟩
def nf (cs:List ai):Int:=cs.foldl (fun a c=>iU (a+c.val)) 0
theorem afK (cs:List ai) (c:ai):nf (cs++[c])=iU (nf cs+c.val):=by simp [nf,List.foldl_append]
theorem NO {l:List ai} {k:Nat} {kk:IntKind} (h:k<l.length):∃ r,ir Tryz.prog 35 (.ag l.length (l.flatMap aw)) (.int kk (k:Int))=some (.at (aw l[k]++r)) :=
 J3 ix rfl (List.getElem?_eq_getElem h) EE
theorem afL {h:J} {i:Nat} {v:V} {room g:Int} {l:List ai} (k:cr h i v room g l) (r:Rec):Pure Tryz.prog 60 [.iface 200 (.ptr i 0),.agg (aD r)] h (.int .i64 (nf (sF g l r.k r.t))):=by
 refine Pure.val (bh.int _ _) ?_
 obtain ⟨bJ,b5,rt⟩:=r
 refine ab.ao (c:=_) Tryz.func60 rfl (by kernel_rfl) (by simp) ?_
 unfold aD
 have kk:I h (h.push (.cells [.int .i64 bJ,.int .i64 b5,.int .i64 rt] 38 none)) none_:=I.push _ _ _
 simp only [aa,Nat.reduceEqDiff,Nat.reduceAdd,Nat.reduceLeDiff,reduceCtorEq,tA,qQ,br,NL,NM,NN]
 refine bB MA (ND _ i v room g bJ rt l (k.aj kk (by simp [none_]) (by simp [none_]))) ?_
 have hlen:(sF g l bJ rt).length≤1024:=by
  unfold sF
  split
  ·exact Nat.le_trans (FJ g l bJ rt) k.len
  ·exact Nat.zero_le _
 show _
 generalize sF g l bJ rt=cs at *
 simp only [aa,Nat.reduceEqDiff,pv]
 refine aP.bG (α:=Nat) (fun x f h'=>f 42=.ag cs.length (cs.flatMap aw)∧f 43=.int .i64 (cs.length:Nat)∧f 5=.int .i64 (nf (cs.take x))∧f 44=.int .i64 (x:Nat)∧x≤cs.length∧I h h' none_) (fun x=>cs.length - x) 0
  ⟨rfl,rfl,rfl,rfl,Nat.zero_le _,kk⟩ ?_
 rintro t f h' ⟨f42,f43,f5,f44,bw,C5⟩
 refine dw (by kernel_rfl) ?_
 by_cases aH:t<cs.length
 ·have d1:decide ((t:Int)<((cs.length:Nat):Int))=true:=decide_eq_true (by omega)
  have hw:=kf aH (by omega)
  obtain ⟨hU,bR⟩:=NO (kk:=.i64) aH
  have ad:nf (cs.take (t+1))=iU (nf (cs.take t)+cs[t].val):=by rw [List.take_succ_eq_append_getElem aH,afK]
  generalize cs[t]=c at bR ad
  obtain ⟨fB,cf,ju,gT,mY⟩:=c
  simp only [aa,SF,EE,aw] at bR
  have dK:IntKind.i64.wrap (nf (cs.take t)+gT)=nf (cs.take (t+1)):=ad.symm
  have st:bM (some 5) (aV.cells [V.int .i64 0,V.int .i64 0,V.int .i64 0,V.int .i64 0,V.bool false] 40 none) 0 [.int .i64 fB,.int .i64 cf,.int .i64 ju,.int .i64 gT,.bool mY]=some (.cells [.int .i64 fB,.int .i64 cf,.int .i64 ju,.int .i64 gT,.bool mY] 40 none):=rfl
  simp only [aa,Nat.reduceEqDiff,Nat.reduceAdd,Nat.reduceLeDiff,SF,xb,br,j0,EE,ks,mz,f42,f43,f5,f44,d1,bR,st,dK,hw]
  exact au ⟨t+1,⟨f42,f43,rfl,rfl,by omega,C5.a8 _⟩,by omega⟩
 ·have d1:decide ((t:Int)<((cs.length:Nat):Int))=false:=decide_eq_false (by omega)
  simp only [aa,Nat.reduceEqDiff,reduceCtorEq,f43,f5,f44,d1,aI,Tryz.results60,ac]
  exact au ⟨by rw [List.take_of_length_le (by omega)],C5⟩
theorem afM {h:J} {i:Nat} {v:V} {g:Int} {l:List ai} (k:cr h i v 1024 g l) (r:Rec) (n:Int) (l7:ho r.t=true) (aM:found g l r.k r.t≠[]∨l.length<1024) :
  ab Tryz.prog 61 [.iface 200 (.ptr i 0),.agg (aD r),.int .i64 n] h (fun q h'=>∃ v',q=.tuple [.ag (gM g l r.k r.t n).length ((gM g l r.k r.t n).flatMap aw),.int .i64 (eE g l r.k r.t n).ay,.int .i64 0]∧cr h' i v' 1024 g (tE g l r.k r.t n)∧I h h' (jj i v)∧bQ h v v'):=by
 obtain ⟨bJ,b5,rt⟩:=r
 refine ab.ao (c:=_) Tryz.func61 rfl (by kernel_rfl) (by simp) ?_
 unfold aD
 obtain ⟨H,hH⟩:∃ y,y=h.push (.cells [.int .i64 bJ,.int .i64 b5,.int .i64 rt] 38 none):=⟨_,rfl⟩
 have dC:I h H none_:=by rw [hH];exact I.push _ _ _
 have p2:H.n=h.n+1:=by rw [hH];rfl
 simp only [aa,Nat.reduceEqDiff,Nat.reduceAdd,Nat.reduceLeDiff,reduceCtorEq,tA,qQ,br,NL,NM,NN]
 rw [←hH]
 clear hH
 refine bU SK (afE H i v 1024 g bJ rt n l l7 (aM.imp id fun q=>by omega) aM (k.aj dC (by simp [none_]) (by simp [none_]))) fun q h1 ⟨v',ar,bo,gA,d1⟩=>?_
 subst ar
 have kg:=FJ g l bJ rt
 have p3:=k.len
 have nj:(gM g l bJ rt n).length=((found g l bJ rt).filter (j5 (eE g l bJ rt n))).length+1:=by simp [gM]
 have NP:=List.length_filter_le (j5 (eE g l bJ rt n)) (found g l bJ rt)
 have tP:(gM g l bJ rt n)[(gM g l bJ rt n).length - 1]'(by omega)=eE g l bJ rt n:=by
  simp [gM]
 have Vb:IntKind.i64.wrap (((gM g l bJ rt n).length:Int) - 1)=(((gM g l bJ rt n).length - 1:Nat):Int):=by rw [Go.IntWalk.i64_in _ (by omega)];omega
 obtain ⟨hU,bR⟩:=NO (l:=gM g l bJ rt n) (k:=(gM g l bJ rt n).length - 1) (kk:=.i64) (by omega)
 rw [tP] at bR
 clear tP nj NP kg
 have Hj:aw (eE g l bJ rt n)=[.int .i64 (eE g l bJ rt n).key,.int .i64 (eE g l bJ rt n).ay,.int .i64 (eE g l bJ rt n).to,.int .i64 (eE g l bJ rt n).val,.bool (eE g l bJ rt n).del]:=rfl
 rw [Hj] at bR
 simp only [List.cons_append,List.nil_append] at bR
 generalize dZ:gM g l bJ rt n=cs at *
 simp only [aa,Nat.reduceEqDiff]
 refine aP.aY none_ [] (.q 0 (.q 1 (.q 2 (.q 3 (.q 4 (.q 5 (.q 6 (.q 7 (.q 8 (.q 9 (.q 10 .done))))))))))) (by kernel_rfl) (by kernel_rfl) (by kernel_rfl) ?_
 simp only [aa,bD,Nat.reduceEqDiff,Nat.reduceLeDiff,mw,pv,br,Vb,bR,aI,Tryz.results61,r6]
 exact au ⟨v',rfl,bo,(dC.up).trans' gA,bQ.later d1 (by omega)⟩
theorem Vc (h:J) (i m cl:Nat) (room size ay:Int) (es:List (Nat×V×V)) (k:cy h i m room size es cl) (h0:0≤ay) (h1:ay≤1099511627776) (aC:c7 size ay=ay) :
  Pure Tryz.prog 303 [.ptr i 0,.int .i64 ay,.int .i64 (ay+size)] h (.bool true):=by
 refine Pure.val (bh.bool _) ?_
 refine ab.ao (c:=_) Tryz.func303 rfl (by kernel_rfl) (by simp) ?_
 have lu:=k.get
 have d1:decide (0≤ay)=true:=decide_eq_true h0
 simp only [aa,Nat.reduceEqDiff,reduceCtorEq,d1]
 refine bB EK (FC h i m cl room size ay es k) ?_
 rw [FD h0 h1,aC]
 have hw:IntKind.i64.wrap (ay+size)=ay+size:=Go.IntWalk.i64_in _ (by have:=k.s1;have:=k.s2;omega)
 have ar:(ay==ay)=true:=by simp
 have aT:(ay+size==ay+size)=true:=by simp
 simp only [aa,Nat.reduceEqDiff,Nat.reduceAdd,Nat.reduceLeDiff,reduceCtorEq,z1,br,lu,hw,aI,Tryz.results303,ac]
 exact au ⟨rfl,I.refl _ _⟩
theorem afN (h:J) (i m cl:Nat) (room size key ay val:Int) (l:dv) (k:cy h i m room size (fD l) cl) (h0:0≤ay) (h1:ay≤1099511627776) (aC:c7 size ay=ay) (aU:(ch l (key,ay)).isSome=true∨(l.length:Int)<room) :
  ab Tryz.prog 300 [.ptr i 0,.agg (aw ⟨key,ay,ay+size,val,false⟩)] h (fun r h'=>r=.int .i64 0∧cy h' i m room size (fD (cT cl l (key,ay) val)) (fX cl l (key,ay))∧I h h' (fun q=>q=m)):=by
 refine ab.ao (c:=_) Tryz.func300 rfl (by kernel_rfl) (by simp) ?_
 have fj:(V.agg (aw ⟨key,ay,ay+size,val,false⟩)).cells=some [.int .i64 key,.int .i64 ay,.int .i64 (ay+size),.int .i64 val,.bool false]:=rfl
 simp only [aa,Nat.reduceEqDiff,reduceCtorEq,fj]
 have bq:I h (h.push (.cells [.int .i64 key,.int .i64 ay,.int .i64 (ay+size),.int .i64 val,.bool false] 40 none)) none_:=I.push _ _ _
 have bo:=k.aQ bq
 refine bB BG (BR _ i m cl room size _ bo) ?_
 simp only [aa,Nat.reduceEqDiff,Nat.reduceAdd,Nat.reduceLeDiff,reduceCtorEq,mw,rB,br]
 refine bB S1 (Vc _ i m cl room size ay _ bo h0 h1 aC) ?_
 simp only [aa,Nat.reduceEqDiff,Nat.reduceAdd,Nat.reduceLeDiff,reduceCtorEq,CR,mw,xb,vN,br,nc]
 refine bU MB (UB _ i m cl room size key ay val l bo (by rw [aC];exact aU) h0 h1) fun r ae ⟨aT,k2,kL⟩=>?_
 subst aT
 rw [aC] at *
 have st:∀ c:ai,bM (some 5) (aV.cells [.int .i64 0,.int .i64 0,.int .i64 0,.int .i64 0,.bool false] 40 none) 0 (aw c)=some (.cells (aw c) 40 none):=fun _=>rfl
 have cc:∀ c:ai,(V.agg (aw c)).cells=some (aw c):=fun _=>rfl
 simp only [aa,Nat.reduceEqDiff,ks,mz,st,cc,aI,Tryz.results300,ac]
 exact au ⟨rfl,k2.aQ (I.push _ _ _),((bq.up).trans' kL).a8 _⟩
theorem afO (h:J) (i m cl:Nat) (room size key ay:Int) (l:dv) (k:cy h i m room size (fD l) cl) (h0:0≤ay) (h1:ay≤1099511627776) (aC:c7 size ay=ay) (aU:(ch l (key,ay)).isSome=true) :
  ab Tryz.prog 300 [.ptr i 0,.agg (aw ⟨key,ay,ay+size,0,true⟩)] h (fun r h'=>r=.int .i64 0∧cy h' i m room size (fD (hR l (key,ay))) cl∧I h h' (fun q=>q=m)):=by
 refine ab.ao (c:=_) Tryz.func300 rfl (by kernel_rfl) (by simp) ?_
 have fj:(V.agg (aw ⟨key,ay,ay+size,0,true⟩)).cells=some [.int .i64 key,.int .i64 ay,.int .i64 (ay+size),.int .i64 0,.bool true]:=rfl
 simp only [aa,Nat.reduceEqDiff,reduceCtorEq,fj]
 have bq:I h (h.push (.cells [.int .i64 key,.int .i64 ay,.int .i64 (ay+size),.int .i64 0,.bool true] 40 none)) none_:=I.push _ _ _
 have bo:=k.aQ bq
 refine bB BG (BR _ i m cl room size _ bo) ?_
 simp only [aa,Nat.reduceEqDiff,Nat.reduceAdd,Nat.reduceLeDiff,reduceCtorEq,mw,rB,br]
 refine bB S1 (Vc _ i m cl room size ay _ bo h0 h1 aC) ?_
 have z0:((0:Int) !=0)=false:=rfl
 have wB:∀ a b:Int,(V.agg [.int .i64 a,.int .i64 b]).cells=some [.int .i64 a,.int .i64 b]:=fun _ _=>rfl
 simp only [aa,Nat.reduceEqDiff,Nat.reduceAdd,Nat.reduceLeDiff,CR,mw,xb,vN,br,nc,Io,DP,Hd,wB]
 generalize hH:(h.push (.cells [.int .i64 key,.int .i64 ay,.int .i64 (ay+size),.int .i64 0,.bool true] 40 none)).push (.cells [.int .i64 key,.int .i64 ay] 286 none)=H
 have Vd:I h H none_:=by rw [←hH];exact bq.a8 _
 have k2:=k.aQ Vd
 have lu:=k2.get
 have dI:=k2.map
 have g1:H.get (h.n+1)=.cells [.int .i64 key,.int .i64 ay] 286 none:=by rw [←hH];exact b6
 have sE:cX (some (some 2)) (some [.int .i64 key,.int .i64 ay])=some (.agg [.int .i64 key,.int .i64 ay]):=rfl
 have eC:=lookW l key ay dI
 rw [aU] at eC
 have FR:=FE l key ay dI
 refine aP.aY none_ [] (.q 0 (.q 1 (.q 2 (.q 3 (.q 4 (.q 5 (.q 6 (.q 7 (.q 8 (.q 9 (.q 10 .done))))))))))) (by kernel_rfl) (by kernel_rfl) (by kernel_rfl) ?_
 simp only [aa,bD,Nat.reduceEqDiff,Nat.reduceAdd,Nat.reduceLeDiff,reduceCtorEq,vh,vi,zo,lu,g1,sE,eC]
 refine aP.aY none_ [5] (.q 0 (.q 1 (.q 2 (.q 3 (.q 4 (.a 5 .done)))))) (by kernel_rfl) (by kernel_rfl) (by kernel_rfl) ?_
 simp only [aa,bD,Nat.reduceEqDiff,Nat.reduceAdd,Nat.reduceLeDiff,reduceCtorEq,vh,vi,zo,lu,g1,sE,FR,aI,Tryz.results300,ac]
 have dV:I H (H.set m (.map (fD (hR l (key,ay))) cl)) (fun q=>q=m):=I.set _ _ _
 exact au ⟨rfl,⟨(dV.get i k2.lt (by exact k.ne)).trans lu,aL,k.ne,k2.lt,k2.mA,k.s1,k.s2⟩,(Vd.up).trans' dV⟩
def oi (a b:ai):Bool:=decide (a.ay<b.ay∨(a.ay=b.ay∧a.key<b.key))
def wK (l:List ai):Prop:=l.Pairwise fun a b=>oi b a=false
def NQ (Ro:V):Prop:=∀ (h:J) (x:V) (l:List ai),Own h 40 5 x (l.flatMap aw)→l.length≤2 ^ 40 →
 ab Tryz.prog 163 [x,Ro] h (fun r h'=>r=.tuple []∧I h h' (bn x)∧∃ ck,ck.Perm l∧wK ck∧Own h' 40 5 x (ck.flatMap aw))
abbrev FT:V:=.func (.func 164) [] []
def mB (size:Int) (e:Nat×(Int×Int)×Int):ai:=⟨e.2.1.1,e.2.1.2,e.2.1.2+size,e.2.2,false⟩
theorem QG {l:dv} {e:Nat×V×V} (h:e ∈ fD l):∃ x ∈ l,e=(x.1,rK x.2.1,.int .i64 x.2.2):=by
 obtain ⟨x,ak,rfl⟩:=List.mem_map.1 h
 exact ⟨x,ak,rfl⟩
theorem QH (l:dv):(fD l).map (·.1)=l.map (·.1):=by simp [fD,fK]
theorem Hf:∀ {q:dv},(q.map (·.1)).Nodup→∀ {x y},x ∈ q→y ∈ q→x.1=y.1→x=y
 | [],_,x,y,ak,_,_=>by cases ak
 | z::q,af,x,y,ak,bs,e=>by
  have fi:=List.nodup_cons.1 af
  rcases List.mem_cons.1 ak with h1 | h1
  ·rcases List.mem_cons.1 bs with ae | ae
   ·rw [h1,ae]
   ·exact absurd (List.mem_map.2 ⟨y,ae,by rw [←e,h1]⟩) fi.1
  ·rcases List.mem_cons.1 bs with ae | ae
   ·exact absurd (List.mem_map.2 ⟨x,h1,by rw [e,ae]⟩) fi.1
   ·exact Hf fi.2 h1 ae e
theorem ate {h0 h:J} {e:TypeId} {sz:Nat} {v:V} {cs:List V} (a:Acc h0 h e sz v cs) {i:Nat} (hi:h0.n≤i) (aN:aR v≠some i) (o:aV):Acc h0 (h.set i o) e sz v cs :=
 ⟨a.own.aj (I.set _ _ _) fun k hk he=>aN (by rw [hk,he]),a.aj.iQ hi o,a.new⟩
theorem atf {l bP:dv} (aG:(l.map (·.1)).Nodup) (aN:(bP.map (·.1)).Nodup) (h1:∀ e ∈ bP,e ∈ l) (ae:∀ e ∈ l,e.1 ∈ bP.map (·.1)):bP.Perm l:=by
 have nl:l.Nodup:=(List.pairwise_map.1 aG).imp fun h e=>h (by rw [e])
 have kH:bP.Nodup:=(List.pairwise_map.1 aN).imp fun h e=>h (by rw [e])
 rw [List.perm_ext_iff_of_nodup kH nl]
 intro a
 refine ⟨h1 a,fun a6=>?_⟩
 obtain ⟨b,av,l2⟩:=List.mem_map.1 (ae a a6)
 have qs:=h1 b av
 rw [←Hf aG qs a6 l2];exact av
theorem atg (NR:NQ FT) (h:J) (i m cl:Nat) (room size:Int) (l:dv) (k:cy h i m room size (fD l) cl) (ad:fH (fD l) cl) (aM:l.length≤2 ^ 30) (aC:∀ e ∈ l,0≤e.2.1.2∧e.2.1.2≤2 ^ 41) :
  ab Tryz.prog 302 [.ptr i 0] h (fun r h'=>I h h' none_∧∃ lc,lc.Perm (l.map (mB size))∧wK lc∧Own h' 40 5 r (lc.flatMap aw)∧(∀ j,aR r=some j→h.n≤j)):=by
 refine ab.ao (c:=_) Tryz.func302 rfl (by kernel_rfl) (by simp) ?_
 have lu:=k.get
 have dI:=k.map
 simp only [aa,Nat.reduceEqDiff,reduceCtorEq]
 refine bB BG (BR h i m cl room size _ k) ?_
 obtain ⟨q,af⟩:=Zp
 have lh:=Md af dI
 simp only [aa,Nat.reduceEqDiff,Nat.reduceAdd,Nat.reduceLeDiff,reduceCtorEq,vh,vi,lu,lh]
 refine aP.bG (α:=dv) (fun bP f h'=>f 0=.ptr i 0∧f 12=.ptr h.n 0∧h.n<h'.n∧h'.get h.n=.iter m cl (bP.map (·.1)) cl∧Acc h h' 40 5 (f 3) ((bP.map (mB size)).flatMap aw)∧aR (f 3)≠some h.n∧(∀ e ∈ bP,e ∈ l)∧(bP.map (·.1)).Nodup)
  (fun bP=>(qg (fD l) (bP.map (·.1))).length) []
  ⟨rfl,rfl,by simp only [eA];omega,b6,Acc.nil (I.push _ _ _),(show aR V.ah≠some h.n by simp [aR]),by simp,by simp⟩ ?_
 rintro bP f h' ⟨f0,f12,aG,aU,acc,dE,nB,BW⟩
 refine dw (by kernel_rfl) ?_
 have bo:=k.aQ acc.aj
 simp only [aa,f12]
 refine Mb aU bo.map ad (fun mF=>?_) fun e he=>?_
 ·have dx:∀ e ∈ l,e.1 ∈ bP.map (·.1):=fun e he=>by
   apply Classical.byContradiction
   intro ni
   have:(e.1,rK e.2.1,V.int .i64 e.2.2) ∈ qg (fD l) (bP.map (·.1)):=by
    unfold qg
    exact List.mem_filter.2 ⟨List.mem_map.2 ⟨e,he,rfl⟩,by simpa using ni⟩
   rw [mF] at this
   simp at this
  have aW:bP.Perm l:=atf (by rw [←QH];exact ad.2) BW nB dx
  have nj:=aW.length_eq
  simp only [aa,Nat.reduceEqDiff]
  refine bU Zf (NR h' (f 3) (bP.map (mB size)) acc.own (by rw [List.length_map];omega)) fun r ae ⟨ar,k2,lc,pl,bp,e4⟩=>?_
  subst ar
  simp only [aa,Nat.reduceEqDiff,aI,Tryz.results302,ac]
  refine au ⟨acc.aj.trans k2 fun q af e=>by have:=acc.new q e;omega,lc,pl.trans (aW.map _),bp,e4,acc.new⟩
 ·obtain ⟨x,ak,rfl⟩:=QG (List.mem_filter.1 he).1
  have HB:x.1 ∉ bP.map (·.1):=by
   have:=(List.mem_filter.1 he).2
   simpa using this
  have less:=Rv he
  generalize hH:h'.set h.n (.iter m cl (bP.map (·.1)++[x.1]) cl)=H
  have KU:Acc h H 40 5 (f 3) ((bP.map (mB size)).flatMap aw):=by rw [←hH];exact ate acc (Nat.le_refl _) dE _
  have h9:H.n=h'.n:=by rw [←hH];rfl
  have kO:H.get h.n=.iter m cl (bP.map (·.1)++[x.1]) cl:=by rw [←hH];exact aL
  have k2:=k.aQ KU.aj
  have KV:=Mc kO k2.map ad (List.mem_filter.1 he).1
  obtain ⟨KW,KX⟩:=aC x ak
  have hlen:bP.length<l.length:=by
   have eL:((bP++[x]).map (·.1)).Nodup:=by
    rw [List.map_append,List.nodup_append]
    exact ⟨BW,by simp,fun a a6 b av=>by simp at av;subst av;exact fun U=>HB (U ▸ a6)⟩
   have ef:(bP++[x]).Nodup:=(List.pairwise_map.1 eL).imp fun h e=>h (by rw [e])
   have:=ef.length_le_of_subset (l₂:=l) fun e he=>by
    rcases List.mem_append.1 he with h | h
    ·exact nB e h
    ·simp at h;subst h;exact ak
   rw [List.length_append] at this
   simp at this
   omega
  have wB:(rK x.2.1).cells=some [.int .i64 x.2.1.1,.int .i64 x.2.1.2]:=rfl
  have sE:cX (some (some 2)) (some [.int .i64 x.2.1.1,.int .i64 x.2.1.2])=some (.agg [.int .i64 x.2.1.1,.int .i64 x.2.1.2]):=rfl
  simp only [aa,Nat.reduceEqDiff,Nat.reduceAdd,reduceCtorEq,zo,DP,Hd,f0,f12,KV,wB,sE]
  have Zs:=KU.on (I.push H (.cells [.int .i64 x.2.1.1,.int .i64 x.2.1.2] 286 none) none_)
  have wL:(H.push (.cells [.int .i64 x.2.1.1,.int .i64 x.2.1.2] 286 none)).get h.n=.iter m cl (bP.map (·.1)++[x.1]) cl:=(kM (by omega)).trans kO
  have Ve:(H.push (.cells [.int .i64 x.2.1.1,.int .i64 x.2.1.2] 286 none)).n=H.n+1:=rfl
  generalize H.push (.cells [.int .i64 x.2.1.1,.int .i64 x.2.1.2] 286 none)=KY at Zs wL Ve⊢
  have k3:=k.aQ Zs.aj
  refine bB Zh (Zo KY i m cl room size x.2.1.1 x.2.1.2 x.2.2 _ k3 KW KX) ?_
  obtain ⟨b7,ae,ei,e4,rM,d2⟩:=J2 (P:=Tryz.prog) xS (by decide) Zs.own (xs:=aw (mB size x)) rfl rfl (fun m hm=>by
   change m * 5=_+5 at hm
   rw [iS ix,List.length_map] at hm
   exact ⟨by simp only [lim];omega,by simp only [lim];omega⟩)
  have dR:=Uu KY (mB size x)
  have a2:=Zs.step e4 rM d2
  have g2:=(rM.get h.n (by omega) (fun U=>dE U)).trans wL
  have ef:=rM.n
  have FU:aR b7≠some h.n:=fun U=>by
   rcases d2 with d | d
   ·exact dE (d ▸ U)
   ·have:=d _ U;omega
  unfold mB at dR ei
  simp only [aa,Nat.reduceEqDiff,dR,ei]
  refine au ⟨bP++[x],⟨f0,f12,by omega,by rw [g2];simp,a2.conv ?_,FU,?_,?_⟩,?_⟩
  ·simp
  ·intro e he
   rcases List.mem_append.1 he with h1 | h1
   ·exact nB e h1
   ·simp at h1;subst h1;exact ak
  ·rw [List.map_append,List.nodup_append]
   exact ⟨BW,by simp,fun a a6 b av=>by simp at av;subst av;exact fun U=>HB (U ▸ a6)⟩
  ·rw [List.map_append]
   exact less
def kt (size before:Int) (e:Nat×(Int×Int)×Int):Bool:=decide (e.2.1.2+size≤before)
def vU (size:Int) (e:Nat×(Int×Int)×Int):ai:=⟨e.2.1.1,e.2.1.2,e.2.1.2+size,0,true⟩
def ng (size before:Int) (l bP:dv):dv:=l.filter fun e=>!(kt size before e&&(bP.map (·.1)).contains e.1)
theorem Vf:∀ {l:dv},er l→∀ k,hR l k=l.filter fun e=>decide (e.2.1≠k)
 | [],_,k=>rfl
 | e::l,aG,k=>by
  have qe:=List.nodup_cons.1 aG
  unfold hR
  by_cases hk:k=e.2.1
  ·rw [if_pos hk,List.filter_cons_of_neg (by simp [hk])]
   symm
   rw [List.filter_eq_self]
   intro y bs
   simp only [decide_eq_true_eq]
   exact fun U=>qe.1 (List.mem_map.2 ⟨y,bs,by rw [U,hk]⟩)
  ·rw [if_neg hk,List.filter_cons_of_pos (by simp [Ne.symm hk]),Vf qe.2]
theorem key_inj:∀ {q:dv},er q→∀ {x y},x ∈ q→y ∈ q→x.2.1=y.2.1→x=y
 | [],_,x,y,ak,_,_=>by cases ak
 | z::q,af,x,y,ak,bs,e=>by
  have fi:=List.nodup_cons.1 af
  rcases List.mem_cons.1 ak with h1 | h1
  ·rcases List.mem_cons.1 bs with ae | ae
   ·rw [h1,ae]
   ·exact absurd (List.mem_map.2 ⟨y,ae,by rw [←e,h1]⟩) fi.1
  ·rcases List.mem_cons.1 bs with ae | ae
   ·exact absurd (List.mem_map.2 ⟨x,h1,by rw [e,ae]⟩) fi.1
   ·exact key_inj fi.2 h1 ae e
theorem Vg {bP:dv} {x e:Nat×(Int×Int)×Int} (h:e.1≠x.1):((bP++[x]).map (·.1)).contains e.1=(bP.map (·.1)).contains e.1:=by
 rw [Bool.eq_iff_iff,List.contains_iff_mem,List.contains_iff_mem,List.map_append,List.mem_append]
 simp [h]
theorem afP {size before:Int} {l bP:dv} {x:Nat×(Int×Int)×Int} (hk:er l) (ad:(l.map (·.1)).Nodup) (ak:x ∈ l) (aB:kt size before x=true):hR (ng size before l bP) x.2.1=ng size before l (bP++[x]):=by
 unfold ng
 rw [Vf (List.Nodup.sublist ((List.filter_sublist).map _) hk),List.filter_filter]
 apply List.filter_congr
 intro e he
 by_cases hex:e=x
 ·subst hex;simp [aB]
 ·have h1:e.2.1≠x.2.1:=fun U=>hex (key_inj hk he ak U)
  have ae:e.1≠x.1:=fun U=>hex (Hf ad he ak U)
  rw [Vg ae]
  simp [h1]
theorem afQ {size before:Int} {l bP:dv} {x:Nat×(Int×Int)×Int} (ad:(l.map (·.1)).Nodup) (ak:x ∈ l) (aB:kt size before x=false):ng size before l bP=ng size before l (bP++[x]):=by
 unfold ng
 apply List.filter_congr
 intro e he
 by_cases hex:e=x
 ·subst hex;simp [aB]
 ·have ae:e.1≠x.1:=fun U=>hex (Hf ad he ak U)
  rw [Vg ae]
theorem afR {size before:Int} {l bP:dv} (ad:(l.map (·.1)).Nodup) (dx:∀ e ∈ ng size before l bP,e.1 ∈ bP.map (·.1)):ng size before l bP=l.filter (fun e=>!kt size before e)∧∀ e ∈ l,kt size before e=true→e.1 ∈ bP.map (·.1):=by
 have ae:∀ e ∈ l,kt size before e=true→e.1 ∈ bP.map (·.1):=fun e he aB=>by
  apply Classical.byContradiction
  intro aG
  have aF:(bP.map (·.1)).contains e.1=false:=by simpa using aG
  exact aG (dx e (List.mem_filter.2 ⟨he,by rw [aB,aF];rfl⟩))
 refine ⟨?_,ae⟩
 unfold ng
 apply List.filter_congr
 intro e he
 cases aB:kt size before e
 ·rfl
 ·have aF:(bP.map (·.1)).contains e.1=true:=by simpa using ae e he aB
  rw [aF];rfl
theorem afS {size before:Int} {l bP:dv} (ad:(l.map (·.1)).Nodup) (aN:(bP.map (·.1)).Nodup) (h1:∀ e ∈ bP,e ∈ l) (ae:∀ e ∈ l,kt size before e=true→e.1 ∈ bP.map (·.1)):(bP.filter (kt size before)).Perm (l.filter (kt size before)):=by
 have nl:l.Nodup:=(List.pairwise_map.1 ad).imp fun h e=>h (by rw [e])
 have kH:bP.Nodup:=(List.pairwise_map.1 aN).imp fun h e=>h (by rw [e])
 rw [List.perm_ext_iff_of_nodup (kH.sublist List.filter_sublist) (nl.sublist List.filter_sublist)]
 intro a
 simp only [List.mem_filter]
 refine ⟨fun ⟨a6,aB⟩=>⟨h1 a a6,aB⟩,fun ⟨a6,aB⟩=>⟨?_,aB⟩⟩
 obtain ⟨b,av,l2⟩:=List.mem_map.1 (ae a a6 aB)
 rw [←Hf ad (h1 b av) a6 l2];exact av
theorem afT (h:J) (i m cl:Nat) (room size key ay:Int) (es:List (Nat×V×V)) (k:cy h i m room size es cl) (h0:0≤ay) (h1:ay≤2 ^ 41):Pure Tryz.prog 162 [.ptr i 0,vS key ay] h (.agg (aw ⟨key,ay,ay+size,0,true⟩)):=by
 refine Pure.val (bh.agg (wI _)) ?_
 refine ab.ao (c:=_) Tryz.func162 rfl (by kernel_rfl) (by simp) ?_
 have aB:=k.get
 have C2:=k.lt
 have iz:∀ A B,((h.push A).push B).get i=.cells [.int .i64 room,.int .i64 size,.map m] 272 none:=fun A B=>(kM (by simp only [eA];omega)).trans ((kM C2).trans aB)
 have hw:IntKind.i64.wrap (ay+size)=ay+size:=Go.IntWalk.i64_in _ (by have:=k.s1;have:=k.s2;omega)
 simp only [aa,ks,UA]
 refine aP.aY none_ [12] (.q 0 (.q 1 (.q 2 (.q 3 (.q 4 (.q 5 (.q 6 (.q 7 (.q 8 (.q 9 (.q 10 (.q 11 (.a 12 .done))))))))))))) (by kernel_rfl) (by kernel_rfl) (by kernel_rfl) ?_
 simp only [aa,bD,Nat.reduceEqDiff,Nat.reduceAdd,Nat.reduceLeDiff,reduceCtorEq,z1,Td,Ij,br,j0,tU,ks,mz,iz,hw,aI,Tryz.results162,xM,eI]
 exact au ⟨rfl,(I.push _ _ _).a8 _⟩
theorem afU (NR:NQ FT) (h:J) (i m cl:Nat) (room size before:Int) (l:dv) (k:cy h i m room size (fD l) cl) (ad:fH (fD l) cl) (qd:er l) (aM:l.length≤2 ^ 30) (aC:∀ e ∈ l,0≤e.2.1.2∧e.2.1.2≤2 ^ 41) :
  ab Tryz.prog 112 [.ptr i 0,.int .i64 before] h (fun r h'=>I h h' (fun q=>q=m)∧cy h' i m room size (fD (l.filter fun e=>!kt size before e)) cl ∧
   ∃ lc,lc.Perm ((l.filter (kt size before)).map (vU size))∧wK lc∧Own h' 40 5 r (lc.flatMap aw)∧(∀ j,aR r=some j→h.n≤j)):=by
 refine ab.ao (c:=_) Tryz.func112 rfl (by kernel_rfl) (by simp) ?_
 have lu:=k.get
 have dI:=k.map
 have gz:(l.map (·.1)).Nodup:=by rw [←QH];exact ad.2
 simp only [aa,Nat.reduceEqDiff,reduceCtorEq]
 refine bB BG (BR h i m cl room size _ k) ?_
 obtain ⟨q,af⟩:=Zp
 have lh:=Md af dI
 simp only [aa,Nat.reduceEqDiff,Nat.reduceAdd,Nat.reduceLeDiff,reduceCtorEq,vh,vi,lu,lh]
 have C2:=k.lt
 have mA:=k.mA
 refine aP.bG (α:=dv) (fun bP f h'=>f 0=.ptr i 0∧f 1=.int .i64 before∧f 13=.ptr h.n 0∧h.n<h'.n∧h'.get h.n=.iter m cl (bP.map (·.1)) cl∧I h h' (fun q=>q=m)∧cy h' i m room size (fD (ng size before l bP)) cl ∧
   Own h' 40 5 (f 5) (((bP.filter (kt size before)).map (vU size)).flatMap aw)∧(∀ j,aR (f 5)=some j→h.n≤j)∧aR (f 5)≠some h.n∧(∀ e ∈ bP,e ∈ l)∧(bP.map (·.1)).Nodup)
  (fun bP=>l.length - bP.length) []
  ⟨rfl,rfl,rfl,by simp only [eA];omega,b6,I.push _ _ _,by
   have:ng size before l []=l:=by unfold ng;simp
   rw [this];exact k.aQ (I.push _ _ _),Own.ah _ _ _,(show ∀ j,aR V.ah=some j→h.n≤j by simp [aR]),(show aR V.ah≠some h.n by simp [aR]),by simp,by simp⟩ ?_
 rintro bP f h' ⟨f0,f1,f13,aG,aU,bO,kw,aJ,yT,dE,nB,BW⟩
 refine dw (by kernel_rfl) ?_
 have mv:(ng size before l bP).Sublist l:=List.filter_sublist
 have KZ:fH (fD (ng size before l bP)) cl:=by
  refine ⟨fun e he=>?_,?_⟩
  ·obtain ⟨x,ak,rfl⟩:=QG he
   exact ad.1 _ (List.mem_map.2 ⟨x,mv.subset ak,rfl⟩)
  ·rw [QH];exact gz.sublist (mv.map _)
 simp only [aa,f13]
 refine Mb aU kw.map KZ (fun mF=>?_) fun e he=>?_
 ·have dx:∀ e ∈ ng size before l bP,e.1 ∈ bP.map (·.1):=fun e he=>by
   apply Classical.byContradiction
   intro ni
   have:(e.1,rK e.2.1,V.int .i64 e.2.2) ∈ qg (fD (ng size before l bP)) (bP.map (·.1)):=by
    unfold qg
    exact List.mem_filter.2 ⟨List.mem_map.2 ⟨e,he,rfl⟩,by simpa using ni⟩
   rw [mF] at this
   simp at this
  obtain ⟨hle,BQ⟩:=afR gz dx
  have aW:=afS (size:=size) (before:=before) gz BW nB BQ
  have nj:=aW.length_eq
  have kg:=(List.filter_sublist (p:=kt size before) (l:=l)).length_le
  simp only [aa,Nat.reduceEqDiff]
  refine bU Zf (NR h' (f 5) _ aJ (by rw [List.length_map];omega)) fun r ae ⟨ar,k2,lc,pl,bp,e4⟩=>?_
  subst ar
  simp only [aa,Nat.reduceEqDiff,aI,Tryz.results112,ac]
  have AD:∀ j,bn (f 5) j→h.n≤j:=fun j aX=>yT j aX
  refine au ⟨bO.trans k2 fun q af e=>by have:=AD q e;omega,?_,lc,pl.trans (aW.map _),bp,e4,yT⟩
  rw [←hle]
  have ef:=k2.n
  exact ⟨(k2.get i kw.lt (fun e=>by have:=AD i e;omega)).trans kw.get,(k2.get m kw.mA (fun e=>by have:=AD m e;omega)).trans kw.map,k.ne,by have:=kw.lt;omega,by have:=kw.mA;omega,k.s1,k.s2⟩
 ·obtain ⟨x,qj,rfl⟩:=QG (List.mem_filter.1 he).1
  have ak:=mv.subset qj
  have HB:x.1 ∉ bP.map (·.1):=by
   have:=(List.mem_filter.1 he).2
   simpa using this
  generalize hH:h'.set h.n (.iter m cl (bP.map (·.1)++[x.1]) cl)=H
  have NS:I h' H (fun q=>q=h.n):=by rw [←hH];exact I.set _ _ _
  have K0:I h H (fun q=>q=m):=by rw [←hH];exact bO.iQ (Nat.le_refl _) _
  have h9:H.n=h'.n:=by rw [←hH];rfl
  have kO:H.get h.n=.iter m cl (bP.map (·.1)++[x.1]) cl:=by rw [←hH];exact aL
  have yU:cy H i m room size (fD (ng size before l bP)) cl:=⟨(NS.get i kw.lt (by omega)).trans kw.get,(NS.get m kw.mA (by omega)).trans kw.map,k.ne,by have:=kw.lt;omega,by have:=kw.mA;omega,k.s1,k.s2⟩
  have ie:Own H 40 5 (f 5) (((bP.filter (kt size before)).map (vU size)).flatMap aw):=aJ.aj NS fun j aX e=>dE (by rw [aX,e])
  have KV:=Mc kO yU.map KZ (List.mem_filter.1 he).1
  obtain ⟨KW,KX⟩:=aC x ak
  have eL:((bP++[x]).map (·.1)).Nodup:=by
   rw [List.map_append,List.nodup_append]
   exact ⟨BW,by simp,fun a a6 b av=>by simp at av;subst av;exact fun U=>HB (U ▸ a6)⟩
  have AE:∀ e ∈ bP++[x],e ∈ l:=fun e he=>by
   rcases List.mem_append.1 he with h | h
   ·exact nB e h
   ·simp at h;subst h;exact ak
  have hlen:bP.length<l.length:=by
   have ef:(bP++[x]).Nodup:=(List.pairwise_map.1 eL).imp fun h e=>h (by rw [e])
   have:=ef.length_le_of_subset (l₂:=l) AE
   rw [List.length_append] at this
   simp at this
   omega
  have tk:=yU.get
  have wB:(rK x.2.1).cells=some [.int .i64 x.2.1.1,.int .i64 x.2.1.2]:=rfl
  have sE:cX (some (some 2)) (some [.int .i64 x.2.1.1,.int .i64 x.2.1.2])=some (.agg [.int .i64 x.2.1.1,.int .i64 x.2.1.2]):=rfl
  have hw:IntKind.i64.wrap (x.2.1.2+size)=x.2.1.2+size:=Go.IntWalk.i64_in _ (by have:=k.s1;have:=k.s2;omega)
  simp only [aa,Nat.reduceEqDiff,Nat.reduceAdd,DP,Hd,f13,KV,wB]
  have qv:∀ A,(H.push A).get i=.cells [.int .i64 room,.int .i64 size,.map m] 272 none:=fun A=>(kM yU.lt).trans tk
  have lG:kt size before x=decide (x.2.1.2+size≤before):=rfl
  cases aB:kt size before x
  ·have d1:decide (x.2.1.2+size≤before)=false:=by rw [←lG,aB]
   refine aP.aY none_ [] (.q 0 (.q 1 (.q 2 (.q 3 (.q 4 (.q 5 (.q 6 (.q 7 (.q 8 .done))))))))) (by kernel_rfl) (by kernel_rfl) (by kernel_rfl) ?_
   simp only [aa,bD,Nat.reduceEqDiff,Nat.reduceAdd,Nat.reduceLeDiff,reduceCtorEq,z1,Ij,br,f0,f1,qv,hw,d1]
   refine au ⟨bP++[x],⟨f0,f1,f13,by simp only [eA];omega,(kM (by omega)).trans (by rw [kO];simp),K0.a8 _,?_,?_,yT,dE,AE,eL⟩,by simp only [List.length_append,List.length_cons,List.length_nil];omega⟩
   ·rw [←afQ gz ak aB];exact yU.aQ (I.push _ _ _)
   ·rw [List.filter_append,List.filter_cons_of_neg (by simp [aB]),List.filter_nil,List.append_nil];exact ie.aQ (I.push _ _ _)
  ·have d1:decide (x.2.1.2+size≤before)=true:=by rw [←lG,aB]
   refine aP.aY none_ [] (.q 0 (.q 1 (.q 2 (.q 3 (.q 4 (.q 5 (.q 6 (.q 7 (.q 8 .done))))))))) (by kernel_rfl) (by kernel_rfl) (by kernel_rfl) ?_
   simp only [aa,bD,Nat.reduceEqDiff,Nat.reduceAdd,Nat.reduceLeDiff,reduceCtorEq,z1,Ij,br,zo,f0,f1,qv,hw,d1]
   have hp:=K0.a8 (.cells [.int .i64 x.2.1.1,.int .i64 x.2.1.2] 286 none)
   have wL:(H.push (.cells [.int .i64 x.2.1.1,.int .i64 x.2.1.2] 286 none)).get h.n=.iter m cl (bP.map (·.1)++[x.1]) cl:=(kM (by omega)).trans kO
   have K1:(H.push (.cells [.int .i64 x.2.1.1,.int .i64 x.2.1.2] 286 none)).get H.n=.cells [.int .i64 x.2.1.1,.int .i64 x.2.1.2] 286 none:=b6
   have Ve:(H.push (.cells [.int .i64 x.2.1.1,.int .i64 x.2.1.2] 286 none)).n=H.n+1:=rfl
   have tl:=yU.aQ (I.push H (.cells [.int .i64 x.2.1.1,.int .i64 x.2.1.2] 286 none) none_)
   have jd:=ie.aQ (I.push H (.cells [.int .i64 x.2.1.1,.int .i64 x.2.1.2] 286 none) none_)
   generalize H.push (.cells [.int .i64 x.2.1.1,.int .i64 x.2.1.2] 286 none)=KY at hp wL K1 Ve tl jd⊢
   refine bB acN (afT KY i m cl room size x.2.1.1 x.2.1.2 _ tl KW KX) ?_
   have al4:=(List.filter_sublist (p:=kt size before) (l:=bP)).length_le
   obtain ⟨b7,ae,ei,e4,rM,d2⟩:=J2 (P:=Tryz.prog) xS (by decide) jd (xs:=aw (vU size x)) rfl rfl (fun m hm=>by
    change m * 5=_+5 at hm
    rw [iS ix,List.length_map] at hm
    exact ⟨by simp only [lim];omega,by simp only [lim];omega⟩)
   have AD:∀ j,bn (f 5) j→h.n≤j:=fun j aX=>yT j aX
   have g2:=(rM.get h.n (by omega) (fun U=>dE U)).trans wL
   have FV:=(rM.get H.n (by omega) (fun U=>by have:=ie.lt _ U;omega)).trans K1
   have ef:=rM.n
   have FU:aR b7≠some h.n:=fun U=>by
    rcases d2 with d | d
    ·exact dE (d ▸ U)
    ·have:=d _ U;omega
   have FW:∀ j,aR b7=some j→h.n≤j:=fun j aX=>by
    rcases d2 with d | d
    ·exact yT j (d ▸ aX)
    ·have:=d _ aX;omega
   have bY:cy ae i m room size (fD (ng size before l bP)) cl:=⟨(rM.get i tl.lt (fun e=>by have:=AD i e;omega)).trans tl.get,(rM.get m tl.mA (fun e=>by have:=AD m e;omega)).trans tl.map,k.ne,by have:=tl.lt;omega,by have:=tl.mA;omega,k.s1,k.s2⟩
   have K2:=bY.get
   have dR:=Uu KY (vU size x)
   have FR:=FE _ x.2.1.1 x.2.1.2 bY.map
   unfold vU at dR ei
   simp only [aa,Nat.reduceEqDiff,dR,ei]
   refine aP.aY none_ [5] (.q 0 (.q 1 (.q 2 (.q 3 (.q 4 (.a 5 .done)))))) (by kernel_rfl) (by kernel_rfl) (by kernel_rfl) ?_
   simp only [aa,bD,Nat.reduceEqDiff,Nat.reduceAdd,Nat.reduceLeDiff,reduceCtorEq,vh,vi,zo,f0,K2,FV,sE,FR]
   have nO:I ae (ae.set m (.map (fD (hR (ng size before l bP) (x.2.1.1,x.2.1.2))) cl)) (fun q=>q=m):=I.set _ _ _
   have cV:hR (ng size before l bP) (x.2.1.1,x.2.1.2)=ng size before l (bP++[x]):=afP qd gz ak aB
   refine au ⟨bP++[x],⟨f0,f1,f13,by show h.n<ae.n;omega,(nO.get h.n (by omega) (by omega)).trans (by rw [g2];simp),(hp.trans rM fun q af e=>by have:=AD q e;omega).trans' nO,?_,?_,FW,FU,AE,eL⟩,by simp only [List.length_append,List.length_cons,List.length_nil];omega⟩
   ·rw [cV] at nO⊢
    exact ⟨(nO.get i bY.lt (by exact k.ne)).trans K2,aL,k.ne,bY.lt,bY.mA,k.s1,k.s2⟩
   ·rw [List.filter_append,List.filter_cons_of_pos (by simp [aB]),List.filter_nil,List.map_append,List.flatMap_append]
    have gJ:=e4.aj nO fun j aX e=>by have:=FW j aX;omega
    rw [show List.flatMap aw (List.map (vU size) [x])=aw (vU size x) by simp]
    exact gJ
def nP (c:ai):Int×Int:=(c.key,c.ay)
theorem afV {a b:ai} (h:nP a≠nP b) (aG:oi b a=false):oi a b=true:=by
 unfold oi at *
 simp only [decide_eq_false_iff_not,decide_eq_true_eq] at *
 have:¬(a.key=b.key∧a.ay=b.ay):=fun e=>h (Prod.ext e.1 e.2)
 omega
theorem Vh:∀ {a b:List ai},a.Perm b→wK a→wK b→(a.map nP).Nodup→a=b
 | [],b,aW,_,_,_=>(List.nil_perm.1 aW).symm
 | x::a,b,aW,a6,av,bb=>by
  cases b with
  | nil=>exact absurd (List.perm_nil.1 aW) (by simp)
  | cons y b=>
   have tm:=List.nodup_cons.1 bb
   have mK:=List.pairwise_cons.1 a6
   have hP:=List.pairwise_cons.1 av
   have Vi:x=y:=by
    apply Classical.byContradiction
    intro bZ
    have bs:y ∈ a:=by
     rcases List.mem_cons.1 (aW.symm.subset (List.mem_cons_self (a:=y) (l:=b))) with h | h
     ·exact absurd h.symm bZ
     ·exact h
    have ak:x ∈ b:=by
     rcases List.mem_cons.1 (aW.subset (List.mem_cons_self (a:=x) (l:=a))) with h | h
     ·exact absurd h bZ
     ·exact h
    have h1:=mK.1 y bs
    have ae:=hP.1 x ak
    have nj:nP x≠nP y:=fun e=>tm.1 (List.mem_map.2 ⟨y,bs,e.symm⟩)
    have aA:=afV nj h1
    rw [aA] at ae
    cases ae
   subst Vi
   rw [Vh (List.Perm.cons_inv aW) mK.2 hP.2 tm.2]
theorem ath (NR:NQ FT) (h:J) (i m cl:Nat) (room size:Int) (l:dv) (k:cy h i m room size (fD l) cl) (ad:fH (fD l) cl) (aM:l.length≤2 ^ 30) (aC:∀ e ∈ l,0≤e.2.1.2∧e.2.1.2≤2 ^ 41) :
  ab Tryz.prog 302 [.ptr i 0] h (fun r h'=>I h h' none_∧∃ lc,lc.Perm (l.map (mB size))∧wK lc∧r=.ag lc.length (lc.flatMap aw)) :=
 ab.cast ((atg NR h i m cl room size l k ad aM aC).mono fun r h' ⟨bO,lc,p,s,o,zU⟩=>by
  obtain ⟨ae,c,k2⟩:=aK.own o (n:=lc.length) (iS ix _) (by decide)
  exact ⟨_,ae,c,bO.trans k2 fun q af e=>by have:=zU q e;omega,lc,p,s,rfl⟩)
structure Vj (h:J) (i m:Nat) (n:Int) (l:dv) (cl:Nat):Prop where
 k:cy h i m 1024 n (fD l) cl
 st:fH (fD l) cl
 sH:er l
 ay:∀ e ∈ l,0≤e.2.1.2∧e.2.1.2≤2 ^ 41
theorem NT:∀ {l:dv} {cl:Nat} {k:Int×Int} {a:Int} {e:Nat×(Int×Int)×Int},e ∈ cT cl l k a→e.2.1=k∨e ∈ l
 | [],cl,k,a,e,h=>by simp [cT] at h;exact .inl (by rw [h])
 | x::l,cl,k,a,e,h=>by
  unfold cT at h
  split at h
  ·rcases List.mem_cons.1 h with rfl | h
   ·exact .inl rfl
   ·exact .inr (List.mem_cons_of_mem _ h)
  ·rcases List.mem_cons.1 h with rfl | h
   ·exact .inr List.mem_cons_self
   ·rcases NT h with h | h
    ·exact .inl h
    ·exact .inr (List.mem_cons_of_mem _ h)
theorem afW (h:J) (n:Int):aK (.tuple [.ah,.int .i64 n]) h (.tuple [.ag 0 [],.int .i64 n]) h:=aK.tuple (az.cons (aK.kN h) (az.refl _ _))
theorem afX {h:J} {s:V} {cs:List ai} (o:Own h 292 3 s (cs.flatMap bf)) (aM:cs.length≤2 ^ 40) (c:ai) :
  ∃ b7 h',n2 Tryz.prog 273 273 s (.bp h.n 0 1 1) (h.push (.cells (bf c) 292 none))=some (b7,h')∧Own h' 292 3 b7 ((cs++[c]).flatMap bf)∧I h h' (bn s)∧bQ h s b7:=by
 have bO:I h (h.push (.cells (bf c) 292 none)) none_:=I.push _ _ _
 have lO:Own (h.push (.cells (bf c) 292 none)) 292 3 (.bp h.n 0 1 1) (bf c):=Own.js (bf c) 1 rfl (by decide)
 have eh:=w1 (P:=Tryz.prog) (t:=273) px lO (n:=1) rfl (by decide) (II c)
 obtain ⟨b7,h',ei,k8,gk,gB⟩:=wv (P:=Tryz.prog) (t:=273) (tx:=273) tC (by decide) (o.aQ bO) eh rfl (fun m hm=>by
  change m * 3=_+3 at hm
  rw [iS qZ] at hm
  exact ⟨by simp only [lim];omega,by simp only [lim];omega⟩)
 refine ⟨b7,h',ei,?_,(bO.up).trans' gk,bQ.after gB bO.n⟩
 rw [List.flatMap_append]
 simpa using k8
def ended (g t:Int) (x:ai):Bool:=decide (x.to+g≤t)
theorem un (q:ai→Bool) (cs:List ai) (p:ai):(cs++[p]).filter q=cs.filter q++(if q p=true then [p] else []):=by
 rw [List.filter_append]
 cases h:q p<;>simp [h]
theorem afY (h:J) (i:Nat) (v:V) (room g time:Int) (l:List ai) (k:cr h i v room g l) :
  ab Tryz.prog 113 [.ptr i 0,.int .i64 time] h (fun r h'=>∃ v',Own h' 40 5 r (((l.filter (ended g time)).map gd).flatMap aw)∧(∀ j,aR r=some j→h.n≤j∧aR v'≠some j)∧cr h' i v' room g (l.filter fun x=>!ended g time x)∧I h h' (jj i v)∧bQ h v v'):=by
 refine ab.ao (c:=_) Tryz.func113 rfl (by kernel_rfl) (by simp) ?_
 have aB:=k.get
 have jt:=k.og h
 have Fz:=k.len
 have bS:=k.lt
 simp only [aa,Nat.reduceEqDiff,Nat.reduceAdd,Nat.reduceLeDiff,reduceCtorEq,tg,BH,wE,aB,jt]
 refine aP.bG (α:=Nat×V×V) (fun x f h'=>f 0=.ptr i 0∧f 1=.int .i64 time∧f 5=x.2.1∧f 6=x.2.2∧f 14=v∧f 15=.int .i64 (l.length:Nat)∧f 16=.int .i64 (x.1:Nat)∧x.1≤l.length∧I h h' none_ ∧
   Own h' 40 5 x.2.1 ((((l.take x.1).filter (ended g time)).map gd).flatMap aw)∧Own h' 292 3 x.2.2 (((l.take x.1).filter fun y=>!ended g time y).flatMap bf) ∧
   (∀ j,aR x.2.1=some j→h.n≤j∧aR x.2.2≠some j)∧(∀ j,aR x.2.2=some j→h.n≤j)) (fun x=>l.length - x.1) (0,.ah,.ah)
  ⟨rfl,rfl,rfl,rfl,rfl,rfl,rfl,Nat.zero_le _,I.refl _ _,Own.ah _ _ _,Own.ah _ _ _,by simp [aR],by simp [aR]⟩ ?_
 rintro ⟨t,a,b⟩ f h1 ⟨f0,f1,f5,f6,f14,f15,f16,bw,bo,k8,ob,gB,zl⟩
 simp only at f5 f6 f16 bw k8 ob gB zl
 refine dw (by kernel_rfl) ?_
 by_cases aH:t<l.length
 ·have d1:decide ((t:Int)<((l.length:Nat):Int))=true:=decide_eq_true (by omega)
  have hw:=kf aH (by omega)
  have ax:=k.aQ bo
  have aW:l[t]?=some l[t]:=List.getElem?_eq_getElem aH
  have jK:l.take (t+1)=l.take t++[l[t]]:=List.take_succ_eq_append_getElem aH
  have pf:=un (ended g time) (l.take t) l[t]
  have kS:=un (fun y=>!ended g time y) (l.take t) l[t]
  rw [←jK] at pf kS
  generalize l[t]=p at aW jK pf kS
  obtain ⟨j,r,bR,dn,uR,tV,_⟩:=tF ax.own aW
  have eJ:=k.ok p (List.mem_of_getElem? aW)
  have ld:=He p r
  have Ap:=DV p
  have gW:=DT p
  have st:=DU p
  obtain ⟨H,hH⟩:∃ y,y=h1.push (.cells (bf p) 292 none):=⟨_,rfl⟩
  have hW:H.get h1.n=.cells (bf p) 292 none:=by rw [hH];exact b6
  have bq:I h1 H none_:=by rw [hH];exact I.push _ _ _
  have eO:=(ax.aQ bq).get
  have FX:=k8.aQ bq
  have FY:=ob.aQ bq
  have gg:=bo.trans' bq
  have b0:IntKind.i64.wrap (p.to+g)=p.to+g:=Go.IntWalk.i64_in _ (by have:=eJ.lo;have:=eJ.le;have:=eJ.hi;have:=k.g1;have:=k.g2;omega)
  simp only [aa,Nat.reduceEqDiff,ia,BI,zp,f14,f15,f16,d1,bR,tV,ld,Ap,st]
  rw [←hH]
  clear hH
  refine aP.aY none_ [] (.q 0 (.c 1 (.q 2 (.q 3 (.q 4 (.q 5 (.q 6 (.q 7 (.q 8 .done))))))))) (by kernel_rfl) (by kernel_rfl) (by kernel_rfl) ?_
  simp only [aa,bD,Nat.reduceEqDiff,ia,hW,gW]
  refine gE rfl rfl rfl (fun h' _=>Ay p eJ h') ?_
  cases e:decide (p.to+g≤time)
  ·have fo:ended g time p=false:=e
   rw [fo] at pf kS
   simp only [Bool.false_eq_true,if_false,List.append_nil,Bool.not_false,if_true] at pf kS
   obtain ⟨c2,bk,ei,qX,bY,n4⟩:=afX FY (by have:=List.length_filter_le (fun y=>!ended g time y) (l.take t);have:=List.length_take_le t l;omega) p
   have dR:=UW H p
   simp only [aa,bD,Nat.reduceEqDiff,Nat.reduceAdd,Nat.reduceLeDiff,reduceCtorEq,z6,br,ia,f0,f1,f6,f16,hW,eO,b0,e,gW,dR,ei,hw]
   refine au ⟨(t+1,a,c2),⟨f0,f1,f5,rfl,f14,f15,rfl,aH,gg.trans bY fun q af U=>by have:=zl q U;omega,by simp only;rw [pf];exact FX.aj bY fun q af U=>(gB q af).2 U,by simp only;rw [kS];exact qX,fun q af=>⟨(gB q af).1,fun U=>?_⟩,fun q af=>?_⟩,by simp only;omega⟩
   ·rcases n4 with n4 | n4
    ·rw [n4] at U;exact (gB q af).2 U
    ·have:=n4 q U;have:=FX.lt q af;omega
   ·rcases n4 with n4 | n4
    ·exact zl q (by rw [←n4];exact af)
    ·have:=n4 q af;have:=gg.n;omega
  ·have fo:ended g time p=true:=e
   rw [fo] at pf kS
   simp only [Bool.not_true,Bool.false_eq_true,if_false,List.append_nil,if_true] at pf kS
   obtain ⟨mq,bk,ei,qX,bY,n4⟩:=IM FX (by simp only [List.length_map];have:=List.length_filter_le (ended g time) (l.take t);have:=List.length_take_le t l;omega) (gd p)
   have dR:=DS H (gd p)
   simp only [aa,bD,Nat.reduceEqDiff,Nat.reduceAdd,Nat.reduceLeDiff,reduceCtorEq,z6,br,ia,f0,f1,f5,hW,eO,b0,e,gW]
   refine bB ME (Nx p eJ _) ?_
   simp only [aa,Nat.reduceEqDiff,f16,dR,ei,hw]
   refine au ⟨(t+1,mq,b),⟨f0,f1,rfl,f6,f14,f15,rfl,aH,gg.trans bY fun q af U=>by have:=(gB q U).1;omega,by simp only;rw [pf,List.map_append];exact qX,by simp only;rw [kS];exact FY.aj bY fun q af U=>(gB q U).2 af,fun q af=>?_,zl⟩,by simp only;omega⟩
   rcases n4 with n4 | n4
   ·exact gB q (by rw [←n4];exact af)
   ·exact ⟨by have:=n4 q af;have:=gg.n;omega,fun U=>by have:=n4 q af;have:=FY.lt q U;omega⟩
 ·have d1:decide ((t:Int)<((l.length:Nat):Int))=false:=decide_eq_false (by omega)
  rw [List.take_of_length_le (by omega)] at k8 ob
  have eO:=(k.aQ bo).get
  have gL:b.one=true:=by
   rcases ob with ⟨rfl | rfl,_⟩ | ⟨_,_,_,_,_,rfl,_⟩<;>rfl
  have fm:b.cells=some [b]:=by
   rcases ob with ⟨rfl | rfl,_⟩ | ⟨_,_,_,_,_,rfl,_⟩<;>rfl
  have cK:bM (some 1) (aV.cells [V.int .i64 room,V.int .i64 g,v] 275 none) 2 [b]=some (.cells [.int .i64 room,.int .i64 g,b] 275 none):=by rw [sZ gL];rfl
  simp only [aa,Nat.reduceEqDiff,reduceCtorEq,tg,MP,f0,f5,f6,f15,f16,d1,eO,fm,cK,aI,Tryz.results113,ac]
  have bY:I h1 (h1.set i (.cells [V.int .i64 room,V.int .i64 g,b] 275 none)) (fun q=>q=i):=I.set _ _ _
  have El:aR b≠some i:=fun U=>by have:=zl i U;omega
  have afZ:=bo.n
  have Vk:=k8.aj bY fun q af U=>by have:=(gB q af).1;omega
  have Vl:=ob.aj bY fun q af U=>by have:=zl q af;omega
  have ax:cr (h1.set i (.cells [V.int .i64 room,V.int .i64 g,b] 275 none)) i b room g (l.filter fun x=>!ended g time x) :=
   ⟨by rw [iw];omega,aL,Vl,El,k.ha.filter _,fun y bs=>k.ok y (List.mem_filter.1 bs).1,Nat.le_trans (List.length_filter_le ..) Fz,k.g1,k.g2⟩
  refine au ⟨b,Vk,gB,ax,?_,.inr fun q af=>zl q af⟩
  exact (bo.up (o:=jj i v)).trans bY fun q af U=>.inl U
theorem af0 {l:List ai} {x y:ai} (h:eU x y=true):cI l x=cI l y:=by
 obtain ⟨h1,ae,aA⟩:=jP.1 h
 unfold cI eU
 rw [h1,ae,aA]
theorem af1 {l:List ai} {x y:ai} (h:eU x y=true):eu l x=eu l y:=by
 obtain ⟨h1,ae,aA⟩:=jP.1 h
 unfold eu eU
 rw [h1,ae,aA]
theorem af2 (h:J) (i:Nat) (v:V) (room g:Int) (l:List ai) (x:ai) (ak:hc x) (U:cI l x=true) (k:cr h i v room g l) :
  ab Tryz.prog 304 [.ptr i 0,.agg (aw (gd x))] h (fun r h'=>∃ v',r=.int .i64 0∧cr h' i v' room g (eu l x)∧I h h' (jj i v)∧bQ h v v'):=by
 refine ab.ao (c:=_) Tryz.func304 rfl (by kernel_rfl) (by simp) ?_
 have cc:=FL (gd x)
 have bd:List.drop 1 (aw (gd x))=[.int .i64 x.ay,.int .i64 x.to,.int .i64 0,.bool true]:=rfl
 have bH:List.drop 2 (aw (gd x))=[.int .i64 x.to,.int .i64 0,.bool true]:=rfl
 have c3:List.drop 3 (aw (gd x))=[.int .i64 0,.bool true]:=rfl
 have dU:List.drop 4 (aw (gd x))=[.bool true]:=rfl
 have gW:=FK (gd x)
 have h0:=ak.lo
 have h1:=ak.le
 have ae:=ak.hi
 have m1:ho x.ay=true:=C3.2 ⟨h0,by omega⟩
 have m2:ho x.to=true:=C3.2 ⟨by omega,ae⟩
 have d1:decide (x.to<x.ay)=false:=decide_eq_false (by omega)
 have bS:=k.lt
 obtain ⟨y,bs⟩:∃ y:ai,y=⟨x.key,x.ay,x.to,0,false⟩:=⟨_,rfl⟩
 have FZ:hc y:=by rw [bs];exact ⟨h0,h1,ae,rfl⟩
 have vu:eU x y=true:=by rw [bs];exact jP.2 ⟨rfl,rfl,rfl⟩
 have Vm:V.agg (bf (gd x))=.agg (bf y):=by rw [bs];rfl
 have K3:cI l y=true:=by rw [←af0 vu];exact U
 rw [af1 vu]
 obtain ⟨H,hH⟩:∃ z,z=h.push (.cells (aw (gd x)) 40 none):=⟨_,rfl⟩
 have sG:H.get h.n=.cells (aw (gd x)) 40 none:=by rw [hH];exact b6
 have bq:I h H none_:=by rw [hH];exact I.push _ _ _
 have h9:H.n=h.n+1:=by rw [hH];rfl
 simp only [aa,Nat.reduceEqDiff,Nat.reduceLeDiff,reduceCtorEq,mw,BH,br,cc,bd,ix]
 rw [←hH]
 clear hH
 refine bB zW (Az x.ay H) ?_
 simp only [aa,Nat.reduceEqDiff,Nat.reduceLeDiff,rB,br,m1,sG,bH,ix]
 refine bB zW (Az x.to H) ?_
 simp only [aa,Nat.reduceEqDiff,Nat.reduceLeDiff,mw,rB,xb,vN,br,nc,j0,m2,sG,bd,bH,c3,dU,ix,d1]
 refine bB Ig (IK (gd x) H) ?_
 rw [Vm]
 have qx:=DT y
 have yQ:=DU y
 have scc:=DV y
 obtain ⟨bI,bA⟩:∃ z,z=H.push (.cells (bf y) 292 none):=⟨_,rfl⟩
 have C4:bI.get H.n=.cells (bf y) 292 none:=by rw [bA];exact b6
 have hE:I H bI none_:=by rw [bA];exact I.push _ _ _
 have BX:bI.get h.n=.cells (aw (gd x)) 40 none:=(hE.get h.n (by omega) (by simp [none_])).trans sG
 have k2:=(k.aQ bq).aQ hE
 simp only [aa,Nat.reduceEqDiff,reduceCtorEq,ia,BI,zp,qx,yQ,scc]
 rw [←bA]
 clear bA
 refine bB Ih (IL bI i v room g l y FZ k2) ?_
 simp only [aa,Nat.reduceEqDiff,Nat.reduceLeDiff,reduceCtorEq,vN,ia,nc,K3,BX,C4,dU,ix,qx]
 refine bU SO (UX bI i v room g l y FZ K3 k2) fun r aA ⟨v2,nN,k3,n3⟩=>?_
 simp only [aa,Nat.reduceEqDiff,aI,Tryz.results304,ac]
 exact au ⟨v2,rfl,nN,((bq.up).trans' hE.up).trans' k3,bQ.after n3 (Nat.le_trans bq.n hE.n)⟩
theorem af3 (h:J) (i:Nat) (v:V) (room g:Int) (l:List ai) (x:ai) (ak:hc x) (gI:(l.length:Int)<room∨cI l x=true) (aM:l.length<1024∨cI l x=true) (k:cr h i v room g l) :
  ab Tryz.prog 304 [.ptr i 0,.agg (aw x)] h (fun r h'=>∃ v',r=.int .i64 0∧cr h' i v' room g (h5 (eu l x) x)∧I h h' (jj i v)∧bQ h v v'):=by
 refine ab.ao (c:=_) Tryz.func304 rfl (by kernel_rfl) (by simp) ?_
 have cc:=FL x
 have ya:=ak.del
 have bd:List.drop 1 (aw x)=[.int .i64 x.ay,.int .i64 x.to,.int .i64 x.val,.bool false]:=by rw [←ya];rfl
 have bH:List.drop 2 (aw x)=[.int .i64 x.to,.int .i64 x.val,.bool false]:=by rw [←ya];rfl
 have c3:List.drop 3 (aw x)=[.int .i64 x.val,.bool false]:=by rw [←ya];rfl
 have dU:List.drop 4 (aw x)=[.bool false]:=by rw [←ya];rfl
 have gW:=FK x
 have h0:=ak.lo
 have h1:=ak.le
 have ae:=ak.hi
 have m1:ho x.ay=true:=C3.2 ⟨h0,by omega⟩
 have m2:ho x.to=true:=C3.2 ⟨by omega,ae⟩
 have d1:decide (x.to<x.ay)=false:=decide_eq_false (by omega)
 have bS:=k.lt
 obtain ⟨H,hH⟩:∃ z,z=h.push (.cells (aw x) 40 none):=⟨_,rfl⟩
 have sG:H.get h.n=.cells (aw x) 40 none:=by rw [hH];exact b6
 have bq:I h H none_:=by rw [hH];exact I.push _ _ _
 have h9:H.n=h.n+1:=by rw [hH];rfl
 simp only [aa,Nat.reduceEqDiff,Nat.reduceLeDiff,reduceCtorEq,mw,BH,br,cc,bd,ix]
 rw [←hH]
 clear hH
 refine bB zW (Az x.ay H) ?_
 simp only [aa,Nat.reduceEqDiff,Nat.reduceLeDiff,rB,br,m1,sG,bH,ix]
 refine bB zW (Az x.to H) ?_
 simp only [aa,Nat.reduceEqDiff,Nat.reduceLeDiff,mw,rB,vN,br,nc,j0,m2,sG,bd,bH,dU,ix,d1]
 refine bB Ig (IK x H) ?_
 have qx:=DT x
 have yQ:=DU x
 have scc:=DV x
 obtain ⟨bI,bA⟩:∃ z,z=H.push (.cells (bf x) 292 none):=⟨_,rfl⟩
 have C4:bI.get H.n=.cells (bf x) 292 none:=by rw [bA];exact b6
 have hE:I H bI none_:=by rw [bA];exact I.push _ _ _
 have BX:bI.get h.n=.cells (aw x) 40 none:=(hE.get h.n (by omega) (by simp [none_])).trans sG
 have k2:=(k.aQ bq).aQ hE
 have lV:=k2.get
 have NU:=k2.og bI
 simp only [aa,Nat.reduceEqDiff,reduceCtorEq,ia,BI,zp,qx,yQ,scc]
 rw [←bA]
 clear bA
 refine bB Ih (IL bI i v room g l x ak k2) ?_
 rcases k.ha.gb x with ⟨ar,p,aT,cg,h8⟩ | ⟨ar,aT⟩
 ·obtain ⟨j,r,bR,dn,uR,tV,af4⟩:=tF k2.own aT
  obtain ⟨ob,Ez,HZ,y3⟩:=af4 x
  have gP:j≠i:=fun U=>k2.ne (by rw [dn,U])
  simp only [aa,Nat.reduceEqDiff,Nat.reduceLeDiff,vN,nc,ar,BX,dU,ix]
  refine aP.aY none_ [7] (.q 0 (.q 1 (.q 2 (.q 3 (.q 4 (.q 5 (.q 6 (.a 7 .done)))))))) (by kernel_rfl) (by kernel_rfl) (by kernel_rfl) ?_
  simp only [aa,bD,Nat.reduceEqDiff,Nat.reduceAdd,Nat.reduceLeDiff,reduceCtorEq,tg,wE,ia,zp,C4,lV,qx,scc,bR,Ez,aI,Tryz.results304,ac]
  have p9:I bI (bI.set j ob) (fun q=>q=j):=I.set _ _ _
  refine au ⟨v,rfl,⟨k2.lt,(jF (by omega)).trans lV,by rw [←k.ha.IG ar];exact HZ,k.ne,(k.ha.filter _).tD (IF l x),fun z b4=>?_,?_,k.g1,k.g2⟩,?_,.inl rfl⟩
  ·rcases BS.1 b4 with rfl | b4
   ·exact ak
   ·exact k.ok z (List.mem_filter.1 b4).1
  ·rw [←k.ha.IG ar,List.length_set];exact k.len
  ·exact ((bq.up (o:=jj i v)).trans' hE.up).trans p9 fun q af U=>.inr (by subst U;exact dn)
 ·have aU:(l.length:Int)<room:=by rcases gI with aU | aU;exact aU;rw [ar] at aU;cases aU
  have hll:l.length<1024:=by rcases aM with aU | aU;exact aU;rw [ar] at aU;cases aU
  have d2:decide (room≤((l.length:Nat):Int))=false:=decide_eq_false (by omega)
  rw [Zq ar]
  simp only [aa,Nat.reduceEqDiff,Nat.reduceLeDiff,vN,nc,ar,BX,dU,ix]
  refine aP.aY none_ [] (.q 0 (.q 1 (.q 2 (.q 3 (.q 4 (.q 5 (.q 6 (.q 7 (.q 8 (.q 9 (.q 10 .done))))))))))) (by kernel_rfl) (by kernel_rfl) (by kernel_rfl) ?_
  simp only [aa,bD,Nat.reduceEqDiff,Nat.reduceAdd,Nat.reduceLeDiff,reduceCtorEq,MK,tg,wE,ia,a7,C4,lV,NU,qx,d2]
  refine bU SP (UY bI i v room g l x ak ar hll k2) fun r aA ⟨v2,nN,k3,n3⟩=>?_
  simp only [aa,Nat.reduceEqDiff,aI,Tryz.results304,ac]
  exact au ⟨v2,rfl,nN,((bq.up).trans' hE.up).trans' k3,bQ.after n3 (Nat.le_trans bq.n hE.n)⟩
inductive df where
 | kv
 | cE (g:Int)
 | dr (g:Int)
def BZ (g ay to:Int):Bool:=j4 ay&&decide (c7 g ay=ay)&&decide (to=ay+g)
def j7 (c:ai):Bool:=c.del&&decide (c.val≠0)
def dW:df→ai→Bool
 | .kv,c=>decide (c.ay≠0)||decide (c.to≠0)||j7 c
 | .cE g,c=>!BZ g c.ay c.to||j7 c
 | .dr _,c=>!j4 c.ay||!j4 c.to||decide (c.to<c.ay)||j7 c
def NV:df→Prop
 | .kv=>True
 | .cE g=>1≤g∧g≤1048576
 | .dr g=>1≤g∧g≤1048576
structure cz (K:df) (l:List ai):Prop where
 ha:dP l
 len:l.length≤1024
 ok:∀ x ∈ l,x.del=false∧dW K x=false
 g:NV K
theorem cz.nil {K:df} (aB:NV K):cz K []:=⟨List.Pairwise.nil,by simp,by simp,aB⟩
def fy (K:df) (l:List ai) (c:ai):List ai×Int :=
 if dW K c then (l,5) else
 if c.del then (if cI l c then (eu l c,0) else (l,6)) else
 if !cI l c&&decide (1024≤l.length) then (l,3) else (h5 (eu l c) c,0)
def e6 (K:df):List ai→List ai→Option (List ai)
 | l,[]=>some l
 | l,c::r=>if (fy K l c).2=0 then e6 K (fy K l c).1 r else none
theorem Vn (K:df):∀ (l a b:List ai),e6 K l (a++b)=(e6 K l a).bind fun m=>e6 K m b
 | l,[],b=>rfl
 | l,c::r,b=>by
  simp only [List.cons_append,e6]
  split
  ·exact Vn K _ r b
  ·rfl
theorem DW {l:List ai} {x y:ai}:y ∈ eu l x↔y ∈ l∧eU y x=false:=by simp [eu]
theorem DX {l:List ai} (h:dP l) (x:ai):dP (eu l x):=h.filter _
theorem Vo (l:List ai) (x:ai):(eu l x).length≤l.length:=List.length_filter_le _ _
theorem cz.rm {K:df} {l:List ai} (w:cz K l) (x:ai):cz K (eu l x) :=
 ⟨DX w.ha x,Nat.le_trans (Vo l x) w.len,fun y bs=>w.ok y (DW.1 bs).1,w.g⟩
theorem cz.filter {K:df} {l:List ai} (w:cz K l) (p:ai→Bool):cz K (l.filter p) :=
 ⟨w.ha.filter p,Nat.le_trans (List.length_filter_le _ _) w.len,fun y bs=>w.ok y (List.mem_filter.1 bs).1,w.g⟩
theorem cz.ins {K:df} {l:List ai} (w:cz K l) {x:ai} (U:cI l x=false) (hlen:l.length<1024) (bb:x.del=false) (av:dW K x=false):cz K (h5 l x) :=
 ⟨w.ha.tD U,by have:=w.ha.tZ x;omega,fun y bs=>by
  rcases BS.1 bs with rfl | bs
  ·exact ⟨bb,av⟩
  ·exact w.ok y bs,w.g⟩
theorem F0 {l:List ai} {x:ai}:cI l x=true↔∃ y ∈ l,eU y x=true:=by simp [cI]
theorem af5 {l:List ai} (h:dP l) {x:ai} (ak:cI l x=true):(eu l x).length<l.length:=by have:=UK h ak;omega
theorem cz.set {K:df} {l:List ai} (w:cz K l) {x:ai} (aC:(!cI l x&&decide (1024≤l.length))=false) (bb:x.del=false) (av:dW K x=false):cz K (h5 (eu l x) x):=by
 refine (w.rm x).ins (IF l x) ?_ bb av
 cases U:cI l x
 ·rw [U] at aC
  have:=Vo l x
  simp at aC;omega
 ·have:=af5 w.ha U
  have:=w.len
  omega
theorem cz.Vp {K:df} {l:List ai} (w:cz K l) (c:ai):cz K (fy K l c).1:=by
 unfold fy
 split
 ·exact w
 rename_i av
 split
 ·split
  ·exact w.rm c
  ·exact w
 rename_i bb
 split
 ·exact w
 rename_i aC
 exact w.set (by simpa using aC) (by simpa using bb) (by simpa using av)
theorem cz.e6 {K:df}:∀ {cs l m:List ai},cz K l→e6 K l cs=some m→cz K m
 | [],l,m,w,h=>by cases h;exact w
 | c::r,l,m,w,h=>by
  unfold Pk.e6 at h
  split at h
  ·exact cz.e6 (w.Vp c) h
  ·cases h
theorem QI {K:df} {l:List ai} {c:ai} (av:dW K c=false) (bb:c.del=false) (aC:(!cI l c&&decide (1024≤l.length))=false):fy K l c=(h5 (eu l c) c,0):=by
 unfold fy
 rw [if_neg (by simp [av]),if_neg (by simp [bb]),if_neg (by rw [aC];decide)]
theorem Vq {K:df} {l:List ai} {c:ai} (av:dW K c=false) (bb:c.del=true) (U:cI l c=true):fy K l c=(eu l c,0):=by
 unfold fy
 rw [if_neg (by simp [av]),if_pos bb,if_pos U]
theorem af6 (l:List ai) (x:ai):cI l (gd x)=cI l x:=rfl
theorem af7 (l:List ai) (x:ai):eu l (gd x)=eu l x:=rfl
theorem af8 {K:df} {x:ai} (h:dW K x=false):dW K (gd x)=false:=by
 have aN:j7 (gd x)=false:=by simp [j7,gd]
 cases K<;>simp only [dW,Bool.or_eq_false_iff] at h⊢<;>simp_all [gd]<;>exact decide_eq_false (by show ¬x.to<x.ay;omega)
theorem QJ {K:df}:∀ (A:List ai) {l:List ai},dP l→(∀ x ∈ A,x ∈ l∧dW K x=false)→A.Pairwise (fun a b=>eU b a=false)→e6 K l (A.map gd)=some (eZ l A)
 | [],l,_,_,_=>by rw [List.map_nil,UL];rfl
 | x::A,l,ad,gj,aW=>by
  have ak:=gj x (by simp)
  have Dw:=List.pairwise_cons.1 aW
  rw [List.map_cons,e6,Vq (af8 ak.2) rfl (by rw [af6];exact UJ ak.1),if_pos rfl,af7]
  rw [QJ A (DX ad x) (fun y bs=>⟨DW.2 ⟨(gj y (by simp [bs])).1,Dw.1 y bs⟩,(gj y (by simp [bs])).2⟩) Dw.2]
  congr 1
  unfold eZ eu
  rw [List.filter_filter]
  refine List.filter_congr fun y _=>?_
  simp only [List.all_cons]
  rw [Bool.and_comm]
theorem ati {K:df} {l:List ai} (w:cz K l) (p:ai→Bool) {cs:List ai} (aF:cs.Perm ((l.filter p).map gd)):e6 K l cs=some (l.filter fun y=>!p y):=by
 have:∃ A:List ai,A.Perm (l.filter p)∧cs=A.map gd:=by
  clear w
  generalize l.filter p=B at aF
  obtain ⟨C,oW⟩:∃ C,C=B.map gd:=⟨_,rfl⟩
  rw [←oW] at aF
  induction aF generalizing B with
  | nil=>
   have:B=[]:=by simpa using oW.symm
   subst this;exact ⟨[],.refl _,rfl⟩
  | cons x h ih=>
   cases B with
   | nil=>cases oW
   | cons b B=>
    rw [List.map_cons] at oW
    obtain ⟨cq,cP⟩:=List.cons.inj oW
    obtain ⟨A,gj,e⟩:=ih B cP
    exact ⟨b::A,gj.cons b,by rw [List.map_cons,e,cq]⟩
  | swap x y t=>
   cases B with
   | nil=>cases oW
   | cons b B=>
    cases B with
    | nil=>rw [List.map_cons] at oW;have:=(List.cons.inj oW).2;cases this
    | cons b1 B=>
     rw [List.map_cons,List.map_cons] at oW
     obtain ⟨cq,cP⟩:=List.cons.inj oW
     obtain ⟨ey,iD⟩:=List.cons.inj cP
     exact ⟨b1::b::B,List.Perm.swap _ _ _,by rw [List.map_cons,List.map_cons,cq,ey,iD]⟩
  | trans h1 ae Er JZ=>
   obtain ⟨A,gj,e⟩:=JZ B oW
   obtain ⟨A2,jy,aT⟩:=Er A e
   exact ⟨A2,jy.trans gj,aT⟩
 obtain ⟨A,gj,rfl⟩:=this
 have gh:∀ x,x ∈ A↔x ∈ l∧p x=true:=fun x=>by rw [gj.mem_iff,List.mem_filter]
 have Vr:A.Pairwise (fun a b=>eU b a=false):=by
  refine (gj.pairwise_iff (R:=fun a b=>eU b a=false) fun {a b} h=>?_).2 ?_
  ·rw [←h,Bool.eq_iff_iff,jP,jP];constructor<;>(rintro ⟨h1,ae,aA⟩;exact ⟨h1.symm,ae.symm,aA.symm⟩)
  ·refine (w.ha.filter p).imp fun {a b} h=>?_
   cases ad:eU b a
   ·rfl
   ·rw [jP] at ad
    unfold dB at h
    omega
 rw [QJ A w.ha (fun x ak=>⟨((gh x).1 ak).1,(w.ok x ((gh x).1 ak).1).2⟩) Vr]
 congr 1
 unfold eZ
 refine List.filter_congr fun y bs=>?_
 rw [Bool.eq_iff_iff,List.all_eq_true,Bool.not_eq_true']
 constructor
 ·intro h
  cases al5:p y
  ·rfl
  ·have:=h y ((gh y).2 ⟨bs,al5⟩)
   rw [Bool.not_eq_true'] at this
   have ae:eU y y=true:=jP.2 ⟨rfl,rfl,rfl⟩
   rw [ae] at this;cases this
 ·intro h x ak
  rw [Bool.not_eq_true']
  cases ad:eU y x
  ·rfl
  ·have:=w.ha.uniq bs ((gh x).1 ak).1 ad
   subst this
   rw [((gh y).1 ak).2] at h;cases h
theorem al6 {K:df}:∀ (A:List ai) {l:List ai},cz K l→l.length+A.length≤1024→(∀ x ∈ A,x.del=false∧dW K x=false∧cI l x=false)→A.Pairwise (fun a b=>eU b a=false)→∃ m,e6 K l A=some m∧dP m∧∀ y,y ∈ m↔y ∈ l∨y ∈ A
 | [],l,w,_,_,_=>⟨l,rfl,w.ha,by simp⟩
 | x::A,l,w,aG,gj,aW=>by
  obtain ⟨h1,ae,aA⟩:=gj x (by simp)
  have Dw:=List.pairwise_cons.1 aW
  rw [List.length_cons] at aG
  have aC:(!cI l x&&decide (1024≤l.length))=false:=by rw [aA];simp;omega
  rw [e6,QI ae h1 aC,if_pos rfl]
  have aU:eu l x=l:=Zq aA
  have b0:=w.set aC h1 ae
  have jr:=w.ha.tZ x
  simp only
  rw [aU] at b0⊢
  obtain ⟨m,e,s,hm⟩:=al6 A b0 (by omega) (fun y bs=>⟨(gj y (by simp [bs])).1,(gj y (by simp [bs])).2.1,by
   cases U:cI (h5 l x) y
   ·rfl
   ·obtain ⟨z,b4,ad⟩:=F0.1 U
    rcases BS.1 b4 with rfl | b4
    ·have:=Dw.1 y bs
     rw [UE] at this
     rw [jP] at ad
     exact absurd ⟨ad.1.symm,ad.2.1.symm,ad.2.2.symm⟩ this
    ·have:=(gj y (by simp [bs])).2.2
     rw [F0.2 ⟨z,b4,ad⟩] at this;cases this⟩) Dw.2
  refine ⟨m,e,s,fun y=>?_⟩
  rw [hm y,BS,List.mem_cons]
  constructor
  ·rintro ((h | h) | h)
   ·exact .inr (.inl h)
   ·exact .inl h
   ·exact .inr (.inr h)
  ·rintro (h | h | h)
   ·exact .inl (.inr h)
   ·exact .inl (.inl h)
   ·exact .inr h
theorem atj {K:df} {l:List ai} (w:cz K l) {cs:List ai} (aF:cs.Perm l):e6 K [] cs=some l:=by
 have Vr:cs.Pairwise (fun a b=>eU b a=false):=by
  refine (aF.pairwise_iff (R:=fun a b=>eU b a=false) fun {a b} h=>?_).2 ?_
  ·rw [←h,Bool.eq_iff_iff,jP,jP];constructor<;>(rintro ⟨h1,ae,aA⟩;exact ⟨h1.symm,ae.symm,aA.symm⟩)
  ·refine w.ha.imp fun {a b} h=>?_
   cases ad:eU b a
   ·rfl
   ·rw [jP] at ad
    unfold dB at h
    omega
 obtain ⟨m,e,s,hm⟩:=al6 cs (cz.nil w.g) (by have:=aF.length_eq;have:=w.len;simp;omega) (fun x ak=>⟨(w.ok x (aF.mem_iff.1 ak)).1,(w.ok x (aF.mem_iff.1 ak)).2,rfl⟩) Vr
 rw [e]
 congr 1
 exact dP.n0 s w.ha fun x=>by rw [hm x];simp [aF.mem_iff]
def valOf (l:List ai) (x:ai):Int:=((l.filter fun y=>eU y x).map (·.val)).headD 0
def l8:df→Int→Int→Int→ai
 | .kv,k,_,v=>⟨k,0,0,v,false⟩
 | .cE g,k,t,v=>⟨k,c7 g t,c7 g t+g,v,false⟩
 | .dr _,k,t,v=>⟨k,t,t,v,false⟩
def oj (l:List ai) (x:ai):List ai:=h5 (eu l x) x
def oZ:df→List ai→Int→Int→Int→List ai
 | .kv,_,k,t,v=>[l8 .kv k t v]
 | .cE g,_,k,t,v=>[l8 (.cE g) k t v]
 | .dr g,l,k,t,v=>gM g l k t v
def om:df→List ai→Int→Int→Int→List ai
 | .kv,l,k,t,v=>oj l (l8 .kv k t v)
 | .cE g,l,k,t,v=>oj l (l8 (.cE g) k t v)
 | .dr g,l,k,t,v=>tE g l k t v
def o0:df→List ai→Int→Int→Bool
 | .kv,l,k,t=>!cI l (l8 .kv k t 0)&&decide (1024≤l.length)
 | .cE g,l,k,t=>!cI l (l8 (.cE g) k t 0)&&decide (1024≤l.length)
 | .dr g,l,k,t=>(found g l k t).isEmpty&&decide (1024≤l.length)
def xj:df→List ai→Int→Int→Int
 | .kv,_,_,t=>t
 | .cE g,_,_,t=>c7 g t
 | .dr g,l,k,t=>jM t (found g l k t)
def C6:df→List ai→Int→Int→Int
 | .kv,l,k,t=>valOf l (l8 .kv k t 0)
 | .cE g,l,k,t=>valOf l (l8 (.cE g) k t 0)
 | .dr g,l,k,t=>nf (found g l k t)
theorem af9 {n t:Int} (h0:0≤t) (h1:1≤n):c7 n (c7 n t)=c7 n t:=by
 have aU:=i6 h0 h1
 unfold c7 at *
 have ae:t.tmod n=t % n:=Int.tmod_eq_emod_of_nonneg h0
 rw [ae] at aU⊢
 have aA:(t - t % n).tmod n=(t - t % n) % n:=Int.tmod_eq_emod_of_nonneg (by omega)
 rw [aA,Int.sub_emod,Int.emod_emod_of_dvd _ (Int.dvd_refl n),Int.sub_self]
 simp
theorem Vs {K:df} (aB:NV K) {k t v:Int} (bw:j4 t=true):dW K (l8 K k t v)=false:=by
 have hO:=bw
 simp only [j4,decide_eq_true_eq] at hO
 cases K with
 | kv=>simp [dW,l8,j7]
 | cE g=>
  have aU:=i6 hO.1 aB.1
  have:j4 (c7 g t)=true:=by simp only [j4,decide_eq_true_eq];omega
  simp [dW,l8,j7,BZ,af9 hO.1 aB.1,this]
 | dr g=>simp [dW,l8,j7,bw]
theorem aga {g:Int} {x:ai} (h:x.del=false∧dW (.dr g) x=false):hc x:=by
 obtain ⟨h1,ae⟩:=h
 simp only [dW,Bool.or_eq_false_iff,Bool.not_eq_false',j4,decide_eq_true_eq,decide_eq_false_iff_not] at ae
 exact ⟨by omega,by omega,by omega,h1⟩
theorem Vt {g:Int} {x:ai} (h:hc x):dW (.dr g) x=false:=by
 have h1:=h.lo
 have ae:=h.le
 have aA:=h.hi
 simp only [dW,Bool.or_eq_false_iff,Bool.not_eq_false',j4,decide_eq_true_eq,decide_eq_false_iff_not,j7,h.del,Bool.false_and,and_true]
 omega
theorem NW {K:df} {l:List ai} {x:ai} (av:dW K x=false) (bb:x.del=false) (aC:(!cI l x&&decide (1024≤l.length))=false):e6 K l [x]=some (oj l x):=by
 rw [e6,QI av bb aC,if_pos rfl];rfl
theorem cz.F1 {K:df} {l:List ai} (w:cz K l) {k t v:Int} (bw:j4 t=true) (aC:o0 K l k t=false):Pk.e6 K l (oZ K l k t v)=some (om K l k t v):=by
 have hO:=bw
 simp only [j4,decide_eq_true_eq] at hO
 cases K with
 | kv=>exact NW (Vs w.g bw) rfl aC
 | cE g=>exact NW (Vs w.g bw) rfl aC
 | dr g=>
  have aB:0≤g:=by have:=w.g.1;omega
  have NX:∀ x ∈ l,hc x:=fun x ak=>aga (w.ok x ak)
  have sU:=QF (g:=g) NX (k:=k) v hO.1 (by omega)
  unfold oZ gM
  rw [Vn]
  have mv:∀ x ∈ (found g l k t).filter (j5 (eE g l k t v)),x ∈ l:=fun x ak=>(List.mem_filter.1 (List.mem_filter.1 ak).1).1
  have Vu:dP ((found g l k t).filter (j5 (eE g l k t v))):=(w.ha.filter _).filter _
  rw [QJ _ w.ha (fun x ak=>⟨mv x ak,(w.ok x (mv x ak)).2⟩) (Vu.imp fun {a b} h=>by
   cases ad:eU b a
   ·rfl
   ·rw [jP] at ad
    unfold dB at h
    omega)]
  rw [Option.bind_some]
  have pd:eZ l ((found g l k t).filter (j5 (eE g l k t v)))=l.filter fun y=>!((ml g k t y)&&j5 (eE g l k t v) y):=by
   have:(found g l k t).filter (j5 (eE g l k t v))=l.filter fun y=>(ml g k t y)&&j5 (eE g l k t v) y:=by
    unfold found;rw [List.filter_filter];refine List.filter_congr fun y _=>?_;rw [Bool.and_comm]
   rw [this,UM w.ha]
  have qM:=afo aB w.ha k t v
  generalize e1:eZ l ((found g l k t).filter (j5 (eE g l k t v)))=R at *
  have al7:dP R:=by rw [←e1];exact w.ha.eZ _
  have wH:R.length≤l.length:=by rw [pd];exact List.length_filter_le _ _
  rw [NW (Vt sU) sU.del ?_]
  ·unfold oj
   rw [qM];rfl
  ·cases U:cI R (eE g l k t v)
   ·simp only [Bool.not_false,Bool.true_and,decide_eq_false_iff_not]
    intro aF
    have zx:=w.len
    have kg:o0 (.dr g) l k t=false:=aC
    simp only [o0,Bool.and_eq_false_iff,List.isEmpty_eq_false_iff,decide_eq_false_iff_not] at kg
    rcases kg with kg | kg
    ·
     have K4:R.length=l.length:=by omega
     have dx:∀ x ∈ l,x ∈ R:=fun x ak=>by
      rw [pd] at K4⊢
      have:=List.length_filter_eq_length_iff.1 K4 x ak
      exact List.mem_filter.2 ⟨ak,this⟩
     obtain ⟨x,ak⟩:=List.exists_mem_of_ne_nil _ kg
     have qj:=(List.mem_filter.1 ak)
     have K5:=dx x qj.1
     rw [pd] at K5
     have yP:=(List.mem_filter.1 K5).2
     rw [qj.2,Bool.true_and] at yP
     have NY:=(xT.1 qj.2).1
     have:eU x (eE g l k t v)=true:=jP.2 (by
      simp only [j5,Bool.not_eq_true',Bool.or_eq_false_iff,decide_eq_false_iff_not,Decidable.not_not] at yP
      exact ⟨NY,yP.1,yP.2⟩)
     have jn:cI R (eE g l k t v)=true:=F0.2 ⟨x,dx x qj.1,this⟩
     rw [jn] at U;cases U
    ·omega
   ·rfl
theorem cz.h4 {K:df} {l:List ai} (w:cz K l) {k t:Int} (v:Int) (bw:j4 t=true) (aC:o0 K l k t=false):cz K (om K l k t v):=cz.e6 w (w.F1 bw aC)
def uX:df→Int→ai→Bool
 | .kv,_,_=>false
 | .cE g,m,x=>decide (0≤m)&&decide (x.to≤m - g)
 | .dr g,m,x=>decide (x.to+g≤m)
def B0 (l:List ai):List ai:=l.mergeSort fun a b=>!oi b a
def xF:df→List ai→List ai
 | .kv,l=>l
 | .cE _,l=>B0 l
 | .dr _,l=>l
def K6 (K:df) (l:List ai):List ai:=xF K l
def fv (K:df) (m:Int) (l:List ai):List ai:=xF K ((l.filter (uX K m)).map gd)
def fP (K:df) (m:Int) (l:List ai):List ai:=l.filter fun x=>!uX K m x
theorem m7 (K:df) (l:List ai):(xF K l).Perm l:=by cases K<;>first | exact .refl _ | exact List.mergeSort_perm _ _
theorem cz.Vv {K:df} {l:List ai} (w:cz K l) (m:Int):Pk.e6 K l (fv K m l)=some (fP K m l):=ati w _ (m7 K _)
theorem cz.lists {K:df} {l:List ai} (w:cz K l):Pk.e6 K [] (K6 K l)=some l:=atj w (m7 K l)
theorem cz.fP {K:df} {l:List ai} (w:cz K l) (m:Int):cz K (Pk.fP K m l):=w.filter _
theorem agb (l:List ai):wK (B0 l):=by
 unfold wK B0
 have:=List.pairwise_mergeSort (le:=fun a b=>!oi b a) (l:=l) (fun a b c h1 ae=>?_) (fun a b=>?_)
 ·exact this.imp fun {a b} h=>by simpa using h
 ·simp only [oi,Bool.not_eq_true',decide_eq_false_iff_not] at *
  omega
 ·simp only [oi,Bool.or_eq_true,Bool.not_eq_true',decide_eq_false_iff_not]
  omega
theorem Zt {l lc:List ai} (aW:lc.Perm l) (ad:wK lc) (aG:(l.map nP).Nodup):lc=B0 l :=
 Vh (aW.trans (List.mergeSort_perm _ _).symm) ad (agb l) ((aW.map nP).nodup_iff.2 aG)
def Vw:df→Int→Int→Bool
 | .kv,_,_=>false
 | .cE g,t,m=>decide (c7 g t+g≤m)
 | .dr g,t,m=>decide (t+g≤m)
end Go.Proofs.YtedkjhifbibpmaaGreatDoor.Pk
