/-
  What functions of the program do, told of abstract states. Conditions: as each theorem says.
-/
import Derived.Test.YtedkjhifbibpmaaGreatDoorNc
import Derived.Test.YtedkjhifbibpmaaGreatDoorAcD
import Derived.Test.YtedkjhifbibpmaaGreatDoorNb
set_option linter.unusedVariables false
set_option linter.unusedSimpArgs false
set_option maxHeartbeats 4000000
set_option maxRecDepth 20000
namespace Go.Proofs.YtedkjhifbibpmaaGreatDoor.Pk
open Go Go.Proofs Go.Proofs.YtedkjhifbibpmaaGreatDoor.Ab
theorem Il (h:I) (c:aj):kI Tryz.prog 35 1 [(0,.agg (aL c))] h=some (.bc h.n 0 1 1,h.push (.cells (aL c) 40 none)):=J9 CA rfl rfl (by decide)
theorem Yi (h:I) (c:aj):kI Tryz.prog 273 1 [(0,.agg (br c))] h=some (.bc h.n 0 1 1,h.push (.cells (br c) 292 none)):=J9 vM rfl rfl (by decide)
structure cW (h:I) (i:Nat) (v:V) (room g:Int) (l:List aj):Prop where
 lt:i<h.n
 get:h.get i=.cells [.int .i64 room,.int .i64 g,v] 275 none
 own:Own h 292 3 v (l.flatMap br)
 ne:aV v≠some i
 iV:ez l
 ok:∀ x ∈ l,ig x
 len:l.length≤1024
 g1:1≤g
 g2:g≤2 ^ 20
section
variable {h h':I} {i:Nat} {v:V} {room g:Int} {l:List aj}
theorem cW.rows (k:cW h i v room g l):(l.flatMap br).length=l.length * 3:=j7 sU l
theorem cW.al {own:Nat→Prop} (k:cW h i v room g l) (hk:J h h' own) (h1:¬own i) (aa:∀ j,aV v=some j→¬own j):cW h' i v room g l :=
 ⟨Nat.lt_of_lt_of_le k.lt hk.n,(hk.get i k.lt h1).trans k.get,k.own.al hk aa,k.ne,k.iV,k.ok,k.len,k.g1,k.g2⟩
theorem cW.ba (k:cW h i v room g l) (hk:J h h' none_):cW h' i v room g l:=k.al hk (by simp [none_]) (by simp [none_])
theorem cW.rH (k:cW h i v room g l) (H:I):dU Tryz.prog 273 v H=some (.int .i64 (l.length:Nat)):=Yh k.own
end
def kT (i:Nat) (v:V):Nat→Prop:=fun q=>q=i∨bl v q
theorem Lt (h:I) (i:Nat) (v:V) (room g:Int) (l:List aj) (x:aj) (ag:ig x) (k:cW h i v room g l) :
  Pure Tryz.prog 210 [.ptr i 0,.agg (br x)] h (.tuple [.int .i64 (cV l x:Nat),.bool (df l x)]):=by
 refine Pure.val (bj.tuple (bo.cons (bj.int _ _) (bo.cons (bj.bool _) bo.nil))) ?_
 refine ae.ax (c:=_) Tryz.func210 rfl (by kernel_rfl) (by simp) ?_
 obtain ⟨H,hH⟩:∃ y,y=h.push (.cells (br x) 292 none):=⟨_,rfl⟩
 have jL:H.get h.n=.cells (br x) 292 none:=by rw [hH];exact cA
 have bA:J h H none_:=by rw [hH];exact J.push _ _ _
 have kk:=k.ba bA
 have av:=kk.get
 have C1:=d8 x
 have xm:dv (some (some 3)) (some (br x))=some (.agg (br x)):=rfl
 have C2:dB (bb.cells (br x) 292 none) 0=some (br x):=rfl
 unfold br at hH
 simp only [af,C1]
 rw [←hH]
 clear hH
 refine aX.bk none_ [] (.q 0 (.q 1 (.q 2 (.q 3 (.q 4 (.c 5 (.q 6 (.q 7 (.q 8 (.q 9 .done)))))))))) (by kernel_rfl) (by kernel_rfl) (by kernel_rfl) ?_
 simp only [af,bN,Nat.reduceEqDiff,Nat.reduceAdd,Nat.reduceLeDiff,reduceCtorEq,vJ,zx,jZ,jL,av,C2,xm]
 refine ix rfl rfl rfl (fun h' hk=>Q9 v l x h' (by rcases hk with hk | hk;exact kk.own.ba hk;subst hk;exact kk.own) k.iV k.ok ag (by have:=k.len;omega)) ?_
 simp only [af,bN,Nat.reduceEqDiff,aU,Tryz.results210,dn]
 exact aF ⟨rfl,bA⟩
theorem Yj (h:I) (i:Nat) (v:V) (room g:Int) (l:List aj) (x:aj) (ag:ig x) (ab:df l x=true) (k:cW h i v room g l) :
  ae Tryz.prog 176 [.ptr i 0,.agg (br x)] h (fun r h'=>∃ v',cW h' i v' room g (eL l x)∧J h h' (kT i v)∧bV h v v'):=by
 refine ae.ax (c:=_) Tryz.func176 rfl (by kernel_rfl) (by simp) ?_
 obtain ⟨H,hH⟩:∃ y,y=h.push (.cells (br x) 292 none):=⟨_,rfl⟩
 have jL:H.get h.n=.cells (br x) 292 none:=by rw [hH];exact cA
 have bA:J h H none_:=by rw [hH];exact J.push _ _ _
 have j9:H.n=h.n+1:=by rw [hH];rfl
 have kk:=k.ba bA
 have av:=kk.get
 have C1:=d8 x
 have xm:dv (some (some 3)) (some (br x))=some (.agg (br x)):=rfl
 have C2:dB (bb.cells (br x) 292 none) 0=some (br x):=rfl
 have ch:=k.lt
 unfold br at hH
 simp only [af,Nat.reduceEqDiff,Nat.reduceAdd,reduceCtorEq,jZ,C1]
 rw [←hH]
 clear hH
 refine bU KV (Lt H i v room g l x ag kk) ?_
 rcases k.iV.gZ x with ⟨aw,p,aW,cJ,km⟩ | ⟨aw,aW⟩
 rotate_left
 ·rw [ab] at aw;cases aw
 have aN:=(List.getElem?_eq_some_iff.1 aW).1
 have hw:=oq aN (by have:=k.len;omega)
 simp only [af,Nat.reduceEqDiff,Nat.reduceAdd,Nat.reduceLeDiff,reduceCtorEq,vJ,zx,av,hw]
 refine cy ajg (alR v (cV l x) (l.flatMap br) H kk.own (by rw [k.rows];have:=k.len;omega) (by rw [k.rows];omega) (Gy Lq l)) fun r aC ⟨h4,k3,d3⟩=>?_
 have mg:(l.flatMap br).take (cV l x * 3)++(l.flatMap br).drop ((cV l x+1) * 3)=(eL l x).flatMap br:=by
  rw [zl sU,vF sU,k.iV.rm ab];simp
 rw [mg] at h4
 have sl:=(k3.get i (by omega) (fun ab=>k.ne ab)).trans av
 have iD:r.one=true:=by
  rcases h4 with ⟨rfl | rfl,_⟩ | ⟨_,_,_,_,_,rfl,_⟩<;>rfl
 have gx:r.cells=some [r]:=by
  rcases h4 with ⟨rfl | rfl,_⟩ | ⟨_,_,_,_,_,rfl,_⟩<;>rfl
 have db:bR (some 1) (bb.cells [V.int .i64 room,V.int .i64 g,v] 275 none) 2 [r]=some (.cells [.int .i64 room,.int .i64 g,r] 275 none):=by rw [tf iD];rfl
 have n3:=k3.n
 simp only [af,Nat.reduceEqDiff,vJ,Qn,sl,gx,db,om,Tryz.results176,ll]
 have iM:aV r≠some i:=fun ab=>by
  rcases d3 with d3 | d3
  ·rw [d3] at ab;exact k.ne ab
  ·have:=d3 i ab;omega
 have cz:J aC (aC.set i (.cells [V.int .i64 room,V.int .i64 g,r] 275 none)) (fun q=>q=i):=J.set _ _ _
 refine aF ⟨r,⟨by rw [jt];omega,aP,h4.al cz fun q ad ab=>iM (by rw [ad,ab]),iM,k.iV.filter _,fun y bd=>k.ok y (List.mem_filter.1 bd).1,?_,k.g1,k.g2⟩,?_,?_⟩
 ·have:=X4 k.iV ab;have:=k.len;omega
 ·exact ((bA.up (o:=kT i v)).trans k3 fun q ad ab=>.inr ab).trans cz fun q ad ab=>.inl ab
 ·rcases d3 with d3 | d3
  ·exact .inl d3
  ·exact .inr fun q ad=>by have:=d3 q ad;omega
theorem Yk (h:I) (i:Nat) (v:V) (room g:Int) (l:List aj) (x:aj) (ag:ig x) (ab:df l x=false) (hlen:l.length<1024) (k:cW h i v room g l) :
  ae Tryz.prog 177 [.ptr i 0,.agg (br x)] h (fun r h'=>∃ v',cW h' i v' room g (jS l x)∧J h h' (kT i v)∧bV h v v'):=by
 refine ae.ax (c:=_) Tryz.func177 rfl (by kernel_rfl) (by simp) ?_
 obtain ⟨H,hH⟩:∃ y,y=h.push (.cells (br x) 292 none):=⟨_,rfl⟩
 have jL:H.get h.n=.cells (br x) 292 none:=by rw [hH];exact cA
 have bA:J h H none_:=by rw [hH];exact J.push _ _ _
 have j9:H.n=h.n+1:=by rw [hH];rfl
 have kk:=k.ba bA
 have av:=kk.get
 have C1:=d8 x
 have xm:dv (some (some 3)) (some (br x))=some (.agg (br x)):=rfl
 have C2:dB (bb.cells (br x) 292 none) 0=some (br x):=rfl
 have ch:=k.lt
 unfold br at hH
 simp only [af,Nat.reduceEqDiff,Nat.reduceAdd,reduceCtorEq,jZ,C1]
 rw [←hH]
 clear hH
 refine bU KV (Lt H i v room g l x ag kk) ?_
 simp only [af,Nat.reduceEqDiff]
 have f1:bl v i=False:=eq_false fun ab=>k.ne ab
 have f2:bl v h.n=False:=eq_false fun ab=>by have:=k.own.lt _ ab;omega
 obtain ⟨bP,bE⟩:∃ y,y=H.push (.cells (br x) 292 none):=⟨_,rfl⟩
 have k2:J H bP none_:=by rw [bE];exact J.push _ _ _
 have ft:bP.n=H.n+1:=by rw [bE];rfl
 have cO:bP.get H.n=.cells (br x) 292 none:=by rw [bE];exact cA
 have dE:=kk.ba k2
 have fq:=Yi H x
 rw [←bE] at fq
 refine aX.bk (fun x=>bl v x) [7,8,11] (.q 0 (.q 1 (.q 2 (.q 3 (.q 4 (.q 5 (.q 6 (.e 7 (.e 8 (.q 9 (.q 10 (.a 11 .done))) .stop) .stop)))))))) (by kernel_rfl) (by kernel_rfl) (by kernel_rfl) ?_
 simp only [af,bN,h3,Nat.reduceEqDiff,Nat.reduceAdd,Nat.reduceLeDiff,reduceCtorEq,vJ,zx,jZ,jL,av,C2,xm,f1,f2,fq]
 refine ⟨k2.up,?_⟩
 refine cy ajh (alP v (cV l x) H.n (l.flatMap br) (br x) bP dE.own (by rw [k.rows];have:=k.len;omega) (by rw [k.rows];have:=X0 l x;omega) cO (by omega) (fun ab=>by have:=k.own.lt _ ab;omega) rfl rfl (Gy Lq l)) fun r aC ⟨h4,k3,d3⟩=>?_
 have mg:(l.flatMap br).take (cV l x * 3)++br x++(l.flatMap br).drop (cV l x * 3)=(jS l x).flatMap br:=by
  rw [zl sU,vF sU,k.iV.ins];simp
 rw [mg] at h4
 have sl:=(k3.get i (by omega) (by rw [f1];exact id)).trans dE.get
 have iD:r.one=true:=by
  rcases h4 with ⟨rfl | rfl,_⟩ | ⟨_,_,_,_,_,rfl,_⟩<;>rfl
 have gx:r.cells=some [r]:=by
  rcases h4 with ⟨rfl | rfl,_⟩ | ⟨_,_,_,_,_,rfl,_⟩<;>rfl
 have db:bR (some 1) (bb.cells [V.int .i64 room,V.int .i64 g,v] 275 none) 2 [r]=some (.cells [.int .i64 room,.int .i64 g,r] 275 none):=by rw [tf iD];rfl
 have Ba:J H aC (fun x=>bl v x):=(k2.up).trans' k3
 have n3:=k3.n
 simp only [af,bN,h3,Nat.reduceEqDiff,vJ,Qn,sl,gx,db,Ba,om,Tryz.results177,ll]
 have iM:aV r≠some i:=fun ab=>by
  rcases d3 with d3 | d3
  ·rw [d3] at ab;exact k.ne ab
  ·have:=d3 i ab;omega
 have cz:J aC (aC.set i (.cells [V.int .i64 room,V.int .i64 g,r] 275 none)) (fun q=>q=i):=J.set _ _ _
 refine aF ⟨r,⟨by rw [jt];omega,aP,h4.al cz fun q ad ab=>iM (by rw [ad,ab]),iM,k.iV.uO ab,fun y bd=>?_,?_,k.g1,k.g2⟩,?_,?_⟩
 ·rcases Fj.1 bd with rfl | bd
  ·exact ag
  ·exact k.ok y bd
 ·rw [k.iV.yG];omega
 ·exact ((bA.up (o:=kT i v)).trans Ba fun q ad ab=>.inr ab).trans cz fun q ad ab=>.inl ab
 ·rcases d3 with d3 | d3
  ·exact .inl d3
  ·exact .inr fun q ad=>by have:=d3 q ad;omega
theorem alV (room g:Int) (h1:1≤room) (aa:room≤1024) (aC:1≤g) (bz:g≤2 ^ 20) (h:I) :
  ae Tryz.prog 108 [.int .i64 room,.int .i64 g] h (fun r h'=>r=.tuple [.ptr h.n 0,.int .i64 0]∧h'=h.push (.cells [.int .i64 room,.int .i64 g,.an] 275 none)):=by
 refine ae.ax (c:=_) Tryz.func108 rfl (by kernel_rfl) (by simp) ?_
 have d1:decide (room<1)=false:=decide_eq_false (by omega)
 have d2:decide (1024<room)=false:=decide_eq_false (by omega)
 have d3:decide (g<1)=false:=decide_eq_false (by omega)
 have d4:decide (1048576<g)=false:=decide_eq_false (by omega)
 simp only [af,Nat.reduceEqDiff,Nat.reduceAdd,Nat.reduceLeDiff,reduceCtorEq,ajX,akb,d1,d2,d3,d4,aU,Tryz.results108,dn]
 exact aF ⟨rfl,rfl⟩
theorem cW.new {h:I} {room g:Int} (aC:1≤g) (bz:g≤2 ^ 20):cW (h.push (.cells [.int .i64 room,.int .i64 g,.an] 275 none)) h.n .an room g [] :=
 ⟨Nat.lt_succ_self _,cA,Own.an _ _ _,by simp [aV],List.Pairwise.nil,by simp,by simp,aC,bz⟩
theorem Im (p:aj):(if 3≤(br p).length then some (V.agg (List.take 3 (br p))) else none)=some (.agg (br p)):=rfl
theorem Io (p:aj):bR (some 3) (bb.cells [V.int .i64 0,V.complex .f64 0 0,V.int .i64 0] 292 none) 0 (br p)=some (.cells (br p) 292 none):=rfl
theorem i9 (p:aj):(V.agg (br p)).cells=some (br p):=rfl
def uP (g:Int) (l:List aj) (k t:Int):List aj:=if jf t=true then found g l k t else []
theorem alW (g:Int) (l:List aj) (k t:Int) (p:aj):found g (l++[p]) k t=found g l k t++(if nc g k t p=true then [p] else []):=by
 unfold found
 rw [List.filter_append]
 cases h:nc g k t p<;>simp [h]
theorem Ip (g:Int) (l:List aj) (k t:Int):(found g l k t).length≤l.length:=List.length_filter_le ..
theorem Rb (h:I) (i:Nat) (v:V) (room g key time:Int) (l:List aj) (k:cW h i v room g l):Pure Tryz.prog 118 [.ptr i 0,.int .i64 key,.int .i64 time] h (.ai (uP g l key time).length ((uP g l key time).flatMap aL)):=by
 refine Pure.acc (Ku A9 _) (j7 lX _) (by decide) (e:=40) (sz:=5) ?_
 refine ae.ax (c:=_) Tryz.func118 rfl (by kernel_rfl) (by simp) ?_
 have av:=k.get
 have az:=k.rH h
 have M9:=k.len
 simp only [af,Nat.reduceEqDiff,reduceCtorEq,E6]
 refine bU Cl (C0 time h) ?_
 unfold uP
 cases n2:jf time
 ·simp only [af,Nat.reduceEqDiff,aU,Tryz.results118,ac]
  exact aF (Acc.nil (J.refl _ _))
 have yx:=Fk.1 n2
 rw [if_pos rfl]
 simp only [af,Nat.reduceEqDiff,Nat.reduceAdd,Nat.reduceLeDiff,reduceCtorEq,vJ,zx,av,az]
 refine aX.b9 (α:=Nat×V) (fun x f h'=>f 0=.ptr i 0∧f 1=.int .i64 key∧f 2=.int .i64 time∧f 7=x.2∧f 20=v∧f 21=.int .i64 (l.length:Nat)∧f 22=.int .i64 (x.1:Nat)∧x.1≤l.length∧Acc h h' 40 5 x.2 ((found g (l.take x.1) key time).flatMap aL)) (fun x=>l.length - x.1) (0,.an)
  ⟨rfl,rfl,rfl,rfl,rfl,rfl,rfl,Nat.zero_le _,Acc.nil (J.refl _ _)⟩ ?_
 rintro ⟨t,s⟩ f h1 ⟨f0,f1,f2,f7,f20,f21,f22,bq,acc⟩
 simp only at f7 f22 bq acc
 refine am (by kernel_rfl) ?_
 by_cases aN:t<l.length
 ·have d1:decide ((t:Int)<((l.length:Nat):Int))=true:=decide_eq_true (by omega)
  have hw:=oq aN (by omega)
  have bB:=k.ba acc.al
  have aZ:l[t]?=some l[t]:=List.getElem?_eq_getElem aN
  have lv:l.take (t+1)=l.take t++[l[t]]:=List.take_succ_eq_append_getElem aN
  have nM:=alW g (l.take t) key time l[t]
  rw [←lv] at nM
  generalize l[t]=p at aZ lv nM
  obtain ⟨j,r,ck,dW,x6,x7,_⟩:=xl bB.own aZ
  have fH:=k.ok p (List.mem_of_getElem? aZ)
  have ld:=Ls p r
  have H0:=i9 p
  have jo:=Im p
  have st:=Io p
  have ho:dv (some none) (some (br p))=some (.int .i64 p.key):=rfl
  obtain ⟨H,hH⟩:∃ y,y=h1.push (.cells (br p) 292 none):=⟨_,rfl⟩
  have jL:H.get h1.n=.cells (br p) 292 none:=by rw [hH];exact cA
  have bA:J h1 H none_:=by rw [hH];exact J.push _ _ _
  have kk:=bB.ba bA
  have ef:=kk.get
  have zE:=acc.on bA
  have c2:IntKind.i64.wrap (p.aJ - g)=p.aJ - g:=Go.IntWalk.i64_in _ (by have:=fH.lo;have:=fH.le;have:=fH.hi;have:=k.g1;have:=k.g2;omega)
  have bX:IntKind.i64.wrap (p.to+g)=p.to+g:=Go.IntWalk.i64_in _ (by have:=fH.lo;have:=fH.le;have:=fH.hi;have:=k.g1;have:=k.g2;omega)
  simp only [af,Nat.reduceEqDiff,jZ,E9,CC,f20,f21,f22,d1,ck,x7,ld,H0,st]
  rw [←hH]
  cases aw:(p.key==key)
  ·have aG:nc g key time p=false:=by
    cases e:nc g key time p
    ·rfl
    ·have:=(d6.1 e).1;simp at aw;omega
   rw [aG] at nM
   simp only [Bool.false_eq_true,if_false,List.append_nil] at nM
   refine aX.bk none_ [] (.q 0 (.q 1 (.q 2 (.q 3 (.q 4 (.q 5 (.c 6 (.q 7 (.q 8 (.q 9 (.q 10 (.q 11 (.q 12 (.q 13 (.q 14 (.q 15 (.q 16 (.q 17 (.c 18 (.q 19 (.q 20 (.q 21 (.q 22 (.q 23 (.q 24 (.q 25 .done)))))))))))))))))))))))))) (by kernel_rfl) (by kernel_rfl) (by kernel_rfl) ?_
   simp only [af,bN,Nat.reduceEqDiff,Cv,bx,f1,jL,ho,aw]
   refine Kq rfl rfl ?_
   simp only [af,bN,Nat.reduceEqDiff]
   refine Kq rfl rfl ?_
   simp only [af,bN,Nat.reduceEqDiff,f22,hw]
   exact aF ⟨(t+1,s),⟨f0,f1,f2,f7,f20,f21,rfl,aN,by simp only;rw [nM];exact zE⟩,by simp only;omega⟩
  have Yl:p.key=key:=by simpa using aw
  cases aW:decide (p.aJ - g≤time)
  ·have aG:nc g key time p=false:=by
    cases e:nc g key time p
    ·rfl
    ·have:=(d6.1 e).2.1;have:=of_decide_eq_false aW;omega
   rw [aG] at nM
   simp only [Bool.false_eq_true,if_false,List.append_nil] at nM
   refine aX.bk none_ [] (.q 0 (.q 1 (.q 2 (.q 3 (.q 4 (.q 5 (.c 6 (.q 7 (.q 8 (.q 9 (.q 10 (.q 11 (.q 12 (.q 13 (.q 14 (.q 15 (.q 16 (.q 17 (.c 18 (.q 19 (.q 20 (.q 21 (.q 22 (.q 23 (.q 24 (.q 25 .done)))))))))))))))))))))))))) (by kernel_rfl) (by kernel_rfl) (by kernel_rfl) ?_
   simp only [af,bN,Nat.reduceEqDiff,Cv,bx,jZ,f1,jL,ho,aw,jo]
   refine ix rfl rfl rfl (fun h' _=>CY p fH h') ?_
   simp only [af,bN,Nat.reduceEqDiff,Nat.reduceAdd,Nat.reduceLeDiff,reduceCtorEq,Cu,bx,f0,f2,ef,c2,aW]
   refine Kq rfl rfl ?_
   simp only [af,bN,Nat.reduceEqDiff,f22,hw]
   exact aF ⟨(t+1,s),⟨f0,f1,f2,f7,f20,f21,rfl,aN,by simp only;rw [nM];exact zE⟩,by simp only;omega⟩
  cases cJ:decide (time≤p.to+g)
  ·have aG:nc g key time p=false:=by
    cases e:nc g key time p
    ·rfl
    ·have:=(d6.1 e).2.2;have:=of_decide_eq_false cJ;omega
   rw [aG] at nM
   simp only [Bool.false_eq_true,if_false,List.append_nil] at nM
   refine aX.bk none_ [] (.q 0 (.q 1 (.q 2 (.q 3 (.q 4 (.q 5 (.c 6 (.q 7 (.q 8 (.q 9 (.q 10 (.q 11 (.q 12 (.q 13 (.q 14 (.q 15 (.q 16 (.q 17 (.c 18 (.q 19 (.q 20 (.q 21 (.q 22 (.q 23 (.q 24 (.q 25 .done)))))))))))))))))))))))))) (by kernel_rfl) (by kernel_rfl) (by kernel_rfl) ?_
   simp only [af,bN,Nat.reduceEqDiff,Cv,bx,jZ,f1,jL,ho,aw,jo]
   refine ix rfl rfl rfl (fun h' _=>CY p fH h') ?_
   simp only [af,bN,Nat.reduceEqDiff,Nat.reduceAdd,Nat.reduceLeDiff,reduceCtorEq,Cu,bx,jZ,f0,f2,jL,ef,jo,c2,aW]
   refine ix rfl rfl rfl (fun h' _=>CZ p fH h') ?_
   simp only [af,bN,Nat.reduceEqDiff,Nat.reduceAdd,Nat.reduceLeDiff,reduceCtorEq,Cu,bx,f0,f22,ef,bX,cJ,hw]
   exact aF ⟨(t+1,s),⟨f0,f1,f2,f7,f20,f21,rfl,aN,by simp only;rw [nM];exact zE⟩,by simp only;omega⟩
  ·have aG:nc g key time p=true:=d6.2 ⟨Yl,of_decide_eq_true aW,of_decide_eq_true cJ⟩
   rw [aG,if_pos rfl] at nM
   obtain ⟨cK,aa,fB,a2⟩:=zE.DD CA (by decide) (xs:=aL p) rfl rfl (fun m hm=>by
    change m * 5=_+5 at hm
    rw [j7 lX] at hm
    have:=Ip g (l.take t) key time
    simp only [List.length_take] at this
    exact ⟨by simp only [lim];omega,by simp only [lim];omega⟩)
   have fq:=Il H p
   refine aX.bk none_ [] (.q 0 (.q 1 (.q 2 (.q 3 (.q 4 (.q 5 (.c 6 (.q 7 (.q 8 (.q 9 (.q 10 (.q 11 (.q 12 (.q 13 (.q 14 (.q 15 (.q 16 (.q 17 (.c 18 (.q 19 (.q 20 (.q 21 (.q 22 (.q 23 (.q 24 (.q 25 .done)))))))))))))))))))))))))) (by kernel_rfl) (by kernel_rfl) (by kernel_rfl) ?_
   simp only [af,bN,Nat.reduceEqDiff,Cv,bx,jZ,f1,jL,ho,aw,jo]
   refine ix rfl rfl rfl (fun h' _=>CY p fH h') ?_
   simp only [af,bN,Nat.reduceEqDiff,Nat.reduceAdd,Nat.reduceLeDiff,reduceCtorEq,Cu,bx,jZ,f0,f2,jL,ef,jo,c2,aW]
   refine ix rfl rfl rfl (fun h' _=>CZ p fH h') ?_
   simp only [af,bN,Nat.reduceEqDiff,Nat.reduceAdd,Nat.reduceLeDiff,reduceCtorEq,Cu,bx,jZ,f0,f7,jL,ef,jo,bX,cJ]
   refine bU ai0 (Q4 p fH _) ?_
   simp only [af,Nat.reduceEqDiff,f22,fq,fB,hw]
   refine aF ⟨(t+1,cK),⟨f0,f1,f2,rfl,f20,f21,rfl,aN,a2.conv ?_⟩,by simp only;omega⟩
   rw [nM,List.flatMap_append]
   simp
 ·have d1:decide ((t:Int)<((l.length:Nat):Int))=false:=decide_eq_false (by omega)
  rw [List.take_of_length_le (by omega)] at acc
  simp only [af,Nat.reduceEqDiff,f7,f21,f22,d1,aU,Tryz.results118,ac]
  exact aF acc
theorem bV.after {h H:I} {v v':V} (d:bV H v v') (aG:h.n≤H.n):bV h v v':=by
 rcases d with d | d
 ·exact .inl d
 ·exact .inr fun q ad=>Nat.le_trans aG (d q ad)
theorem Lu {h:I} {s:V} {cs:List aj} (o:Own h 40 5 s (cs.flatMap aL)) (az:cs.length≤2 ^ 40) (c:aj) :
  ∃ cK h',ma Tryz.prog 35 35 s (.bc h.n 0 1 1) (h.push (.cells (aL c) 40 none))=some (cK,h')∧Own h' 40 5 cK ((cs++[c]).flatMap aL)∧J h h' (bl s)∧bV h s cK:=by
 have b8:J h (h.push (.cells (aL c) 40 none)) none_:=J.push _ _ _
 have hM:Own (h.push (.cells (aL c) 40 none)) 40 5 (.bc h.n 0 1 1) (aL c):=Own.lq (aL c) 1 rfl (by decide)
 have dT:=zo (P:=Tryz.prog) (t:=35) wY hM (n:=1) rfl (by decide) (XI c)
 obtain ⟨cK,h',fB,mS,rA,iU⟩:=xP (P:=Tryz.prog) (t:=35) (tx:=35) CA (by decide) (o.ba b8) dT rfl (fun m hm=>by
  change m * 5=_+5 at hm
  rw [j7 lX] at hm
  exact ⟨by simp only [lim];omega,by simp only [lim];omega⟩)
 refine ⟨cK,h',fB,?_,(b8.up).trans' rA,bV.after iU b8.n⟩
 rw [List.flatMap_append]
 simpa using mS
theorem Ym (p:aj) (r:List V):dv (some (some 5)) (some (aL p++r))=some (.agg (aL p)):=nN (lX p)
theorem Iq (p:aj):(if 5≤(aL p).length then some (V.agg (List.take 5 (aL p))) else none)=some (.agg (aL p)):=rfl
theorem Rc (p:aj):bR (some 5) (bb.cells [V.int .i64 0,V.int .i64 0,V.int .i64 0,V.int .i64 0,V.bool false] 40 none) 0 (aL p)=some (.cells (aL p) 40 none):=rfl
theorem Ir (p:aj):(V.agg (aL p)).cells=some (aL p):=rfl
theorem Yn (p:aj):List.drop 1 (aL p)=[.int .i64 p.aJ,.int .i64 p.to,.int .i64 p.val,.bool p.del]:=rfl
theorem Yo (p:aj):List.drop 2 (aL p)=[.int .i64 p.to,.int .i64 p.val,.bool p.del]:=rfl
theorem alX (c:aj) (cs:List aj) (p:aj):((cs++[p]).filter (lD c)).map ha=((cs.filter (lD c)).map ha)++(if lD c p=true then [ha p] else []):=by
 rw [List.filter_append,List.map_append]
 cases h:lD c p<;>simp [h]
theorem alY {g:Int} {l:List aj} (U:ez l) (k t:Int) {j:Nat} {p:aj} (aZ:(found g l k t)[j]?=some p):p ∈ fR l ((found g l k t).take j):=by
 have er:ez (found g l k t):=U.filter _
 have hm:p ∈ found g l k t:=List.mem_of_getElem? aZ
 refine alD U (List.mem_filter.1 hm).1 (fun ch=>?_) fun y bd=>(List.mem_filter.1 (List.mem_of_mem_take bd)).1
 have aS:=(List.getElem?_eq_some_iff.1 aZ).1
 have e:found g l k t=(found g l k t).take j++p::(found g l k t).drop (j+1):=by
  have:=List.take_append_drop j (found g l k t)
  rw [List.drop_eq_getElem_cons aS,(List.getElem?_eq_some_iff.1 aZ).2] at this
  exact this.symm
 rw [e] at er
 exact absurd ((List.pairwise_append.1 er).2.2 p ch p (by simp)) (Bc (kx.2 ⟨rfl,rfl,rfl⟩))
theorem alZ (h:I) (i:Nat) (v:V) (room g key time val:Int) (l:List aj) (n2:jf time=true) (eG:found g l key time≠[]∨(l.length:Int)<room) (az:found g l key time≠[]∨l.length<1024) (k:cW h i v room g l) :
  ae Tryz.prog 121 [.ptr i 0,.int .i64 key,.int .i64 time,.int .i64 val] h (fun r h'=>∃ v',r=.tuple [.ai (iE g l key time val).length ((iE g l key time val).flatMap aL),.int .i64 0]∧cW h' i v' room g (rI g l key time val)∧J h h' (kT i v)∧bV h v v'):=by
 refine ae.cast ?_
 refine ae.ax (c:=_) Tryz.func121 rfl (by kernel_rfl) (by simp) ?_
 have av:=k.get
 have jG:=k.rH h
 have yx:=Fk.1 n2
 have ch:=k.lt
 have ef:=k.g1
 simp only [af,Nat.reduceEqDiff,reduceCtorEq,E6]
 refine bU Cl (C0 time h) ?_
 simp only [af,Nat.reduceEqDiff,reduceCtorEq,n2]
 refine bU P5 (Rb h i v room g key time l k) ?_
 have Is:uP g l key time=found g l key time:=by rw [uP,if_pos n2]
 rw [Is]
 obtain ⟨cs,cS⟩:∃ y,y=found g l key time:=⟨_,rfl⟩
 have cw:cs.length≤1024:=by rw [cS];have:=Ip g l key time;have:=k.len;omega
 have d0:(((cs.length:Nat):Int)==0)=true→decide (room≤((l.length:Nat):Int))=false:=fun bK=>decide_eq_false (by
  rcases eG with aH | aH
  ·exfalso
   rw [←cS] at aH
   have:cs.length=0:=by simpa using bK
   exact aH (List.eq_nil_of_length_eq_zero this)
  ·omega)
 have az:(xj g l key time).length<1024:=by
  have sc:=alI g l key time
  have apN:=k.len
  rcases az with az | az
  ·have:0<(found g l key time).length:=List.length_pos_iff.2 az
   omega
  ·omega
 rw [←cS]
 obtain ⟨c,au⟩:∃ y,y=e3 g l key time val:=⟨_,rfl⟩
 have Yp:c.aJ=jT time cs:=by rw [au,cS];rfl
 have It:c.to=j5 time cs:=by rw [au,cS];rfl
 have ra:c.key=key:=by rw [au];rfl
 have Yq:c.val=val:=by rw [au];rfl
 have Yr:c.del=false:=by rw [au];rfl
 have Re:ig c:=by rw [au];exact Q2 k.ok val yx.1 yx.2
 simp only [af,Nat.reduceEqDiff]
 cases ak:(((cs.length:Nat):Int)==0)
 all_goals
  refine aX.bk none_ [] (.q 0 (.q 1 (.q 2 (.q 3 (.q 4 (.q 5 (.q 6 (.q 7 (.q 8 (.q 9 (.q 10 (.q 11 (.q 12 (.q 13 (.q 14 .done))))))))))))))) (by kernel_rfl) (by kernel_rfl) (by kernel_rfl) ?_
  simp only [af,bN,Nat.reduceEqDiff,Nat.reduceAdd,Nat.reduceLeDiff,reduceCtorEq,Qh,vJ,wY,zx,bn,ak,av,jG,d0]
  refine aX.b9 (α:=Nat) (fun t f h'=>f 0=.ptr i 0∧f 1=.int .i64 key∧f 3=.int .i64 val∧f 10=.ai cs.length (cs.flatMap aL)∧f 11=.int .i64 (jT time (cs.take t))∧f 12=.int .i64 (j5 time (cs.take t))∧f 46=.ai cs.length (cs.flatMap aL)∧f 47=.int .i64 (cs.length:Nat)∧f 48=.int .i64 (t:Nat)∧t≤cs.length∧J h h' none_) (fun t=>cs.length - t) 0
   ⟨rfl,rfl,rfl,rfl,rfl,rfl,rfl,rfl,rfl,Nat.zero_le _,J.refl _ _⟩ ?_
  rintro t f h1 ⟨f0,f1,f3,f10,f11,f12,f46,f47,f48,bq,bB⟩
  refine am (by kernel_rfl) ?_
  by_cases aN:t<cs.length
  ·have d1:decide ((t:Int)<((cs.length:Nat):Int))=true:=decide_eq_true (by omega)
   have hw:=oq aN (by omega)
   have ck:=XJ (kk:=.i64) aN
   have lv:cs.take (t+1)=cs.take t++[cs[t]]:=List.take_succ_eq_append_getElem aN
   have fB:=alE time (cs.take t) cs[t]
   have Af:=alF time (cs.take t) cs[t]
   rw [←lv] at fB Af
   generalize cs[t]=p at ck lv fB Af
   have ld:=Ym p
   have jo:=Iq p
   have st:=Rc p
   have cc:=Ir p
   have bh:=Yn p
   have bD:=Yo p
   simp only [af,Nat.reduceEqDiff,mH,ml,ow,f46,f47,f48,d1,ck,ld,st,cc]
   refine aX.bk none_ [] (.q 0 (.q 1 (.q 2 (.q 3 (.q 4 (.q 5 (.q 6 (.q 7 (.q 8 (.q 9 .done)))))))))) (by kernel_rfl) (by kernel_rfl) (by kernel_rfl) ?_
   simp only [af,bN,Nat.reduceEqDiff,Nat.reduceLeDiff,ou,tG,bx,f11,f12,f48,bh,bD,lX,hw]
   exact aF ⟨t+1,⟨f0,f1,f3,f10,by rw [fB];rfl,by rw [Af];rfl,f46,f47,rfl,aN,bB.bg _⟩,by omega⟩
  ·have d1:decide ((t:Int)<((cs.length:Nat):Int))=false:=decide_eq_false (by omega)
   rw [List.take_of_length_le (by omega)] at f11 f12
   rw [←Yp] at f11
   rw [←It] at f12
   simp only [af,Nat.reduceEqDiff,wY,f10,f47,f48,d1]
   have Ys:=k.ba bB
   refine aX.b9 (α:=Nat×V×V) (fun x f h'=>f 0=.ptr i 0∧f 1=.int .i64 key∧f 3=.int .i64 val∧f 11=.int .i64 c.aJ∧f 12=.int .i64 c.to∧f 15=x.2.2∧f 61=.ai cs.length (cs.flatMap aL)∧f 62=.int .i64 (cs.length:Nat)∧f 63=.int .i64 (x.1:Nat)∧x.1≤cs.length∧cW h' i x.2.1 room g (fR l (cs.take x.1)) ∧
     Own h' 40 5 x.2.2 ((((cs.take x.1).filter (lD c)).map ha).flatMap aL)∧J h h' (kT i v)∧bV h v x.2.1∧(∀ j,aV x.2.2=some j→h.n≤j∧aV x.2.1≠some j)) (fun x=>cs.length - x.1) (0,v,.an)
    ⟨f0,f1,f3,f11,f12,rfl,rfl,rfl,rfl,Nat.zero_le _,by rw [List.take_zero,X5];exact Ys,Own.an _ _ _,bB.up,.inl rfl,by simp [aV]⟩ ?_
   rintro ⟨t,v1,s⟩ f h1 ⟨f0,f1,f3,f11,f12,f15,f61,f62,f63,bq,aE,os,kk,mJ,ap⟩
   simp only at f15 f63 bq aE os mJ ap
   refine am (by kernel_rfl) ?_
   by_cases aN:t<cs.length
   ·have d1:decide ((t:Int)<((cs.length:Nat):Int))=true:=decide_eq_true (by omega)
    have hw:=oq aN (by omega)
    have ck:=XJ (kk:=.i64) aN
    have lv:cs.take (t+1)=cs.take t++[cs[t]]:=List.take_succ_eq_append_getElem aN
    have aZ:cs[t]?=some cs[t]:=List.getElem?_eq_getElem aN
    have nE:=alC l (cs.take t) cs[t]
    have rK:=alX c (cs.take t) cs[t]
    rw [←lv] at nE rK
    have Rf:∀ p,cs[t]?=some p→p ∈ fR l (cs.take t):=by
     rw [cS]
     exact fun p aZ=>alY k.iV key time aZ
    have C3:=Rf _ aZ
    generalize cs[t]=p at ck lv aZ nE rK C3
    have fH:ig p:=aE.ok p C3
    have ld:=Ym p
    have jo:=Iq p
    have st:=Rc p
    have cc:=Ir p
    have bh:=Yn p
    have bD:=Yo p
    obtain ⟨H,hH⟩:∃ y,y=(h1.push (.cells (aL p) 40 none)).push (.cells (br p) 292 none):=⟨_,rfl⟩
    have uQ:H.get h1.n=.cells (aL p) 40 none:=by rw [hH];exact wv
    have Fl:H.get (h1.n+1)=.cells (br p) 292 none:=by rw [hH];exact d9
    have bA:J h1 H none_:=by rw [hH];exact (J.push _ _ _).bg _
    have j9:H.n=h1.n+2:=by rw [hH];rfl
    have Iu:=aE.ba bA
    have sn:=Im p
    have Be:=Io p
    have scc:=i9 p
    simp only [af,Nat.reduceEqDiff,mH,ml,ow,f61,f62,f63,d1,ck,ld,jo,st,cc]
    refine bU KU (Lr p _) ?_
    simp only [af,Nat.reduceEqDiff,reduceCtorEq,jZ,E9,CC,f0,Be,scc,sn]
    rw [←hH]
    clear hH
    refine cy V2 (Yj H i v1 room g _ p fH (X2 C3) Iu) fun r aC ⟨v2,pG,k3,n3⟩=>?_
    rw [←nE] at pG
    have zF:∀ q,aV v1=some q→q<h1.n:=fun q ad=>aE.own.lt q ad
    have wH:=aE.lt
    have Iv:=(k3.get h1.n (by omega) (by rintro (ab | ab);omega;have:=zF _ ab;omega)).trans uQ
    have Na:=(k3.get (h1.n+1) (by omega) (by rintro (ab | ab);omega;have:=zF _ ab;omega)).trans Fl
    have Rg:=k3.n
    have eZ:∀ j,aV s=some j→j<h1.n:=fun j aS=>os.lt j aS
    have Bf:=(os.ba bA).al k3 (fun j aS ab=>by
     rcases ab with ab | ab
     ·have:=(ap j aS).1;omega
     ·exact (ap j aS).2 ab)
    have eD:J h aC (kT i v):=((kk.trans' bA.up).trans k3 fun q ad ab=>by
     rcases ab with ab | ab
     ·exact .inl ab
     ·rcases mJ with mJ | mJ
      ·exact .inr (by show aV v=some q;rw [←mJ];exact ab)
      ·have:=mJ q ab;omega)
    have Bg:bV h v v2:=by
     rcases n3 with n3 | n3
     ·rcases mJ with mJ | mJ
      ·exact .inl (n3.trans mJ)
      ·exact .inr fun q ad=>mJ q (by rw [←n3];exact ad)
     ·exact .inr fun q ad=>by have:=n3 q ad;have:=kk.n;omega
    have oN:∀ j,aV s=some j→h.n≤j∧aV v2≠some j:=fun j aS=>by
     refine ⟨(ap j aS).1,fun ab=>?_⟩
     rcases n3 with n3 | n3
     ·rw [n3] at ab;exact (ap j aS).2 ab
     ·have:=n3 j ab;have:=eZ j aS;omega
    cases aw:(p.aJ !=c.aJ)
    ·cases aW:(p.to !=c.to)
     ·have aR:lD c p=false:=by
       simp at aw aW;simp [lD,aw,aW]
      rw [aR] at rK
      simp only [Bool.false_eq_true,if_false,List.append_nil] at rK
      simp only [af,Nat.reduceEqDiff,Nat.reduceLeDiff,ou,tG,bx,f11,f12,f63,Iv,bh,bD,lX,aw,aW,hw]
      exact aF ⟨(t+1,v2,s),⟨f0,f1,f3,f11,f12,f15,f61,f62,rfl,aN,pG,by simp only;rw [rK];exact Bf,eD,Bg,oN⟩,by simp only;omega⟩
     ·have aR:lD c p=true:=by
       simp at aw aW;simp [lD,aw,aW]
      rw [aR,if_pos rfl] at rK
      obtain ⟨cK,bz,fB,sS,cz,n4⟩:=Lu Bf (by simp only [List.length_map];have:=List.length_filter_le (lD c) (cs.take t);have:=List.length_take_le t cs;omega) (ha p)
      have fq:=Il aC (ha p)
      simp only [af,Nat.reduceEqDiff,Nat.reduceLeDiff,ou,tG,bx,jZ,f11,f12,f15,Iv,Na,bh,bD,lX,sn,aw,aW]
      refine bU P9 (Q5 p fH _) ?_
      simp only [af,Nat.reduceEqDiff,f63,fq,fB,hw]
      refine aF ⟨(t+1,v2,cK),⟨f0,f1,f3,f11,f12,rfl,f61,f62,rfl,aN,pG.al cz (fun ab=>?_) (fun j aS ab=>(oN j ab).2 aS),by simp only;rw [rK];exact sS,eD.trans cz fun q ad ab=>?_,Bg,fun j aS=>?_⟩,by simp only;omega⟩
      ·have:=(oN i ab).1;omega
      ·have:=(oN q ab).1;omega
      ·rcases n4 with n4 | n4
       ·rw [n4] at aS;exact oN j aS
       ·have bY:=n4 j aS
        have da:=eD.n
        exact ⟨by omega,fun ab=>by have:=pG.own.lt j ab;omega⟩
    ·have aR:lD c p=true:=by
      simp at aw;simp [lD,aw]
     rw [aR,if_pos rfl] at rK
     obtain ⟨cK,bz,fB,sS,cz,n4⟩:=Lu Bf (by simp only [List.length_map];have:=List.length_filter_le (lD c) (cs.take t);have:=List.length_take_le t cs;omega) (ha p)
     have fq:=Il aC (ha p)
     simp only [af,Nat.reduceEqDiff,Nat.reduceLeDiff,ou,bx,jZ,f11,f15,Iv,Na,bh,lX,sn,aw]
     refine bU P9 (Q5 p fH _) ?_
     simp only [af,Nat.reduceEqDiff,f63,fq,fB,hw]
     refine aF ⟨(t+1,v2,cK),⟨f0,f1,f3,f11,f12,rfl,f61,f62,rfl,aN,pG.al cz (fun ab=>?_) (fun j aS ab=>(oN j ab).2 aS),by simp only;rw [rK];exact sS,eD.trans cz fun q ad ab=>?_,Bg,fun j aS=>?_⟩,by simp only;omega⟩
     ·have:=(oN i ab).1;omega
     ·have:=(oN q ab).1;omega
     ·rcases n4 with n4 | n4
      ·rw [n4] at aS;exact oN j aS
      ·have bY:=n4 j aS
       have da:=eD.n
       exact ⟨by omega,fun ab=>by have:=pG.own.lt j ab;omega⟩
   ·have d1:decide ((t:Int)<((cs.length:Nat):Int))=false:=decide_eq_false (by omega)
    rw [List.take_of_length_le (by omega)] at aE os
    have gR:fR l cs=xj g l key time:=by rw [cS];exact X6 k.iV _
    rw [gR] at aE
    have Gb:(xj g l key time).length<1024:=az
    have Yt:df (xj g l key time) c=false:=by rw [au];exact X8 (by omega) l key time val
    have jo:=Iq c
    have st:=Rc c
    have cc:=Ir c
    have Yu:(V.agg [.int .i64 key,.int .i64 c.aJ,.int .i64 c.to,.int .i64 val,.bool false])=.agg (aL c):=by unfold aL;rw [ra,Yq,Yr]
    obtain ⟨H,hH⟩:∃ y,y=h1.push (.cells (aL c) 40 none):=⟨_,rfl⟩
    have jL:H.get h1.n=.cells (aL c) 40 none:=by rw [hH];exact cA
    have bA:J h1 H none_:=by rw [hH];exact J.push _ _ _
    have j9:H.n=h1.n+1:=by rw [hH];rfl
    have Iu:=aE.ba bA
    simp only [af,Nat.reduceEqDiff,Nat.reduceAdd,Nat.reduceLeDiff,reduceCtorEq,mH,w1,ml,ow,f0,f1,f3,f11,f12,f62,f63,d1,Yu,st,cc,jo]
    rw [←hH]
    clear hH
    refine bU KU (Lr c _) ?_
    simp only [af,Nat.reduceEqDiff]
    refine cy V3 (Yk H i v1 room g _ c Re Yt Gb Iu) fun r aC ⟨v2,pG,k3,n3⟩=>?_
    have zF:∀ q,aV v1=some q→q<h1.n:=fun q ad=>aE.own.lt q ad
    have wH:=aE.lt
    have Yv:=(k3.get h1.n (by omega) (by rintro (ab | ab);omega;have:=zF _ ab;omega)).trans jL
    have Rg:=k3.n
    have eZ:∀ j,aV s=some j→j<h1.n:=fun j aS=>os.lt j aS
    have Bf:=(os.ba bA).al k3 (fun j aS ab=>by
     rcases ab with ab | ab
     ·have:=(ap j aS).1;omega
     ·exact (ap j aS).2 ab)
    have eD:J h aC (kT i v):=((kk.trans' bA.up).trans k3 fun q ad ab=>by
     rcases ab with ab | ab
     ·exact .inl ab
     ·rcases mJ with mJ | mJ
      ·exact .inr (by show aV v=some q;rw [←mJ];exact ab)
      ·have:=mJ q ab;omega)
    have Bg:bV h v v2:=by
     rcases n3 with n3 | n3
     ·rcases mJ with mJ | mJ
      ·exact .inl (n3.trans mJ)
      ·exact .inr fun q ad=>mJ q (by rw [←n3];exact ad)
     ·exact .inr fun q ad=>by have:=n3 q ad;have:=kk.n;omega
    have oN:∀ j,aV s=some j→h.n≤j∧aV v2≠some j:=fun j aS=>by
     refine ⟨(ap j aS).1,fun ab=>?_⟩
     rcases n3 with n3 | n3
     ·rw [n3] at ab;exact (ap j aS).2 ab
     ·have:=n3 j ab;have:=eZ j aS;omega
    obtain ⟨cK,bz,fB,sS,cz,n4⟩:=Lu Bf (by simp only [List.length_map];have:=List.length_filter_le (lD c) cs;omega) c
    have fq:=Il aC c
    simp only [af,Nat.reduceEqDiff,mH,f15,Yv,jo,fq,fB,aU,Tryz.results121,dn]
    have Yw:=pG.al cz (fun ab=>by have:=(oN i ab).1;omega) (fun j aS ab=>(oN j ab).2 aS)
    have qq:J h bz (kT i v):=eD.trans cz fun q ad ab=>by have:=(oN q ab).1;omega
    have Iw:∀ j,aV cK=some j→h.n≤j∧aV v2≠some j:=fun j aS=>by
     rcases n4 with n4 | n4
     ·rw [n4] at aS;exact oN j aS
     ·have bY:=n4 j aS
      have da:=eD.n
      exact ⟨by omega,fun ab=>by have:=pG.own.lt j ab;omega⟩
    have rK:((cs.filter (lD c)).map ha)++[c]=iE g l key time val:=by rw [au,cS];rfl
    rw [rK] at sS
    obtain ⟨bY,c5,eQ⟩:=aM.own sS (n:=(iE g l key time val).length) (j7 lX _) (by decide)
    refine aF ⟨_,bY,aM.tuple (aB.cons c5 (aB.refl _ _)),v2,rfl,?_,qq.trans eQ fun q ad ab=>by have:=(Iw q ab).1;omega,Bg⟩
    have:=Yw.al eQ (fun ab=>by have:=(Iw i ab).1;omega) (fun j aS ab=>(Iw j ab).2 aS)
    rw [au] at this
    exact this
theorem Rh (i:Nat):hX Tryz.prog (.iface 197 (.ptr i 0)) 194 true=some (.tuple [.c9,.bool false]):=by
 unfold hX;rw [Tryz.underlying194];rfl
theorem Ri (i:Nat):hX Tryz.prog (.iface 197 (.ptr i 0)) 197 true=some (.tuple [.ptr i 0,.bool true]):=by
 unfold hX;rw [Tryz.underlying197];rfl
theorem Rj (i:Nat):hX Tryz.prog (.iface 200 (.ptr i 0)) 194 true=some (.tuple [.c9,.bool false]):=by
 unfold hX;rw [Tryz.underlying194];rfl
theorem Rk (i:Nat):hX Tryz.prog (.iface 200 (.ptr i 0)) 197 true=some (.tuple [.c9,.bool false]):=by
 unfold hX;rw [Tryz.underlying197];rfl
theorem Rl (i:Nat):hX Tryz.prog (.iface 200 (.ptr i 0)) 200 true=some (.tuple [.ptr i 0,.bool true]):=by
 unfold hX;rw [Tryz.underlying200];rfl
theorem c7.al {h h':I} {i m cl:Nat} {room size:Int} {es:List (Nat×V×V)} {M:Nat→Prop} (k:c7 h i m room size es cl) (hk:J h h' M) (h1:¬M i) (aa:¬M m):c7 h' i m room size es cl :=
 ⟨(hk.get i k.lt h1).trans k.get,(hk.get m k.ox aa).trans k.map,k.ne,Nat.lt_of_lt_of_le k.lt hk.n,Nat.lt_of_lt_of_le k.ox hk.n,k.s1,k.s2⟩
theorem al0 (x:bC) (ag:x.kind=7) (h1:1≤x.n) (aa:x.n≤1048576) (h:I):ae Tryz.prog 54 [.agg (ar x)] h (fun r h'=>∃ i,r=.tuple [.iface 197 (.ptr i 0),.int .i64 0]∧J h h' none_∧∃ m,h.n≤i∧h.n≤m∧c7 h' i m 1024 x.n [] 0):=by
 refine ae.ax (c:=_) Tryz.func54 rfl (by kernel_rfl) (by simp) ?_
 obtain ⟨dx,aJ,⟨o,m,aE⟩,n⟩:=x
 have ag:dx=7:=ag
 subst ag
 have ag:ar ⟨7,aJ,.mk o m aE,n⟩=[.int .i64 7,.ai aJ.length (aY aJ),.int .i64 o,.int .i64 m,.ai aE.length (aE.flatMap ay),.int .i64 n]:=by simp [ar,jv]
 rw [ag]
 have hk:J h (h.push (.cells [.int .i64 7,.ai aJ.length (aY aJ),.int .i64 o,.int .i64 m,.ai aE.length (aE.flatMap ay),.int .i64 n] 29 none)) none_:=J.push _ _ _
 simp only [af,Int.reduceBEq,Nat.reduceEqDiff,Nat.reduceAdd,Nat.reduceLeDiff,hl,xW,bx,bn]
 refine cy aiH (alq _ 1024 n (by decide) (by decide) h1 aa) fun r h1 ⟨aw,bB,hZ⟩=>?_
 subst aw
 simp only [af,Nat.reduceEqDiff,ajF,aU,Tryz.results54,dn]
 exact aF ⟨h.n+1+1,rfl,hk.trans' hZ,h.n+1,by omega,by omega,bB⟩
theorem al1 (x:bC) (ag:x.kind=8) (h1:1≤x.n) (aa:x.n≤1048576) (h:I):ae Tryz.prog 54 [.agg (ar x)] h (fun r h'=>∃ i,r=.tuple [.iface 200 (.ptr i 0),.int .i64 0]∧J h h' none_∧h.n≤i∧cW h' i .an 1024 x.n []):=by
 refine ae.ax (c:=_) Tryz.func54 rfl (by kernel_rfl) (by simp) ?_
 obtain ⟨dx,aJ,⟨o,m,aE⟩,n⟩:=x
 have ag:dx=8:=ag
 subst ag
 have ag:ar ⟨8,aJ,.mk o m aE,n⟩=[.int .i64 8,.ai aJ.length (aY aJ),.int .i64 o,.int .i64 m,.ai aE.length (aE.flatMap ay),.int .i64 n]:=by simp [ar,jv]
 rw [ag]
 have hk:J h (h.push (.cells [.int .i64 8,.ai aJ.length (aY aJ),.int .i64 o,.int .i64 m,.ai aE.length (aE.flatMap ay),.int .i64 n] 29 none)) none_:=J.push _ _ _
 simp only [af,Int.reduceBEq,Nat.reduceEqDiff,Nat.reduceAdd,Nat.reduceLeDiff,hl,xW,bx,bn]
 refine cy aiI (alV 1024 n (by decide) (by decide) h1 aa _) fun r h1 ⟨aw,aW⟩=>?_
 subst aw aW
 simp only [af,Nat.reduceEqDiff,ajG,aU,Tryz.results54,dn]
 exact aF ⟨_,rfl,hk.trans' (J.push _ _ _),by omega,cW.new h1 aa⟩
theorem al2 {h:I} {i m cl:Nat} {room size:Int} {l:eg} (k:c7 h i m room size (hC l) cl) (r:Rec) (h0:0≤r.t) (h1:r.t≤1099511627776):Pure Tryz.prog 60 [.iface 197 (.ptr i 0),.agg (aI r)] h (.int .i64 ((b7 l (r.k,dF size r.t)).getD 0)):=by
 refine Pure.val (bj.int _ _) ?_
 obtain ⟨b6,cT,rt⟩:=r
 refine ae.ax (c:=_) Tryz.func60 rfl (by kernel_rfl) (by simp) ?_
 unfold aI
 have kk:J h (h.push (.cells [.int .i64 b6,.int .i64 cT,.int .i64 rt] 38 none)) none_:=J.push _ _ _
 simp only [af,Nat.reduceEqDiff,Nat.reduceAdd,Nat.reduceLeDiff,reduceCtorEq,vK,rk,bx,Rh,Ri]
 refine bU aiM (Fd _ i m cl room size b6 rt l (k.ba kk) h0 h1) ?_
 simp only [af,Nat.reduceEqDiff,aU,Tryz.results60,ac]
 exact aF ⟨rfl,kk⟩
theorem al3 {h:I} {i m cl:Nat} {room size:Int} {l:eg} (k:c7 h i m room size (hC l) cl) (r:Rec) (n:Int) (h0:0≤r.t) (h1:r.t≤1099511627776) (aH:(b7 l (r.k,dF size r.t)).isSome=true∨(l.length:Int)<room) :
  ae Tryz.prog 61 [.iface 197 (.ptr i 0),.agg (aI r),.int .i64 n] h (fun q h'=>∃ j,q=.tuple [.bc j 0 1 1,.int .i64 (dF size r.t),.int .i64 0]∧c7 h' i m room size (hC (cC cl l (r.k,dF size r.t) n)) (fT cl l (r.k,dF size r.t))∧J h h' (fun q=>q=m) ∧
   Own h' 40 5 (.bc j 0 1 1) (aL ⟨r.k,dF size r.t,dF size r.t+size,n,false⟩)∧h.n≤j):=by
 obtain ⟨b6,cT,rt⟩:=r
 refine ae.ax (c:=_) Tryz.func61 rfl (by kernel_rfl) (by simp) ?_
 unfold aI
 obtain ⟨H,hH⟩:∃ y,y=h.push (.cells [.int .i64 b6,.int .i64 cT,.int .i64 rt] 38 none):=⟨_,rfl⟩
 have eJ:J h H none_:=by rw [hH];exact J.push _ _ _
 have g0:H.get h.n=.cells [.int .i64 b6,.int .i64 cT,.int .i64 rt] 38 none:=by rw [hH];exact cA
 have qD:H.n=h.n+1:=by rw [hH];rfl
 simp only [af,Nat.reduceEqDiff,Nat.reduceAdd,Nat.reduceLeDiff,reduceCtorEq,vK,rk,bx,Rh,Ri]
 rw [←hH]
 clear hH
 have fL:=k.ox
 refine cy P6 (XU H i m cl room size b6 rt n l (k.ba eJ) aH h0 h1) fun q rf ⟨aw,bB,hZ⟩=>?_
 subst aw
 obtain ⟨C,nx⟩:∃ y,y=(⟨b6,dF size rt,dF size rt+size,n,false⟩:aj):=⟨_,rfl⟩
 rw [←nx]
 have al4:C.aJ=dF size rt:=by rw [nx]
 have cc:∀ c:aj,(V.agg (aL c)).cells=some (aL c):=fun _=>rfl
 have st:∀ c:aj,bR (some 5) (bb.cells [V.int .i64 0,V.int .i64 0,V.int .i64 0,V.int .i64 0,V.bool false] 40 none) 0 (aL c)=some (.cells (aL c) 40 none):=fun _=>rfl
 obtain ⟨bP,bE⟩:∃ y,y=rf.push (.cells (aL C) 40 none):=⟨_,rfl⟩
 have k2:J rf bP none_:=by rw [bE];exact J.push _ _ _
 have g2:bP.get rf.n=.cells (aL C) 40 none:=by rw [bE];exact cA
 have ft:bP.n=rf.n+1:=by rw [bE];rfl
 simp only [af,Nat.reduceEqDiff,ml,ow,cc,st]
 rw [←bE]
 clear bE
 have ey:=H6 bP C
 have ld:dv (some (some 5)) (some (aL C))=some (.agg (aL C)):=rfl
 have d0:dB (.cells (aL C) 40 none) 0=some (aL C):=rfl
 have d1:dB (.cells (aL C) 40 none) 1=some [.int .i64 (dF size rt),.int .i64 C.to,.int .i64 C.val,.bool C.del]:=by rw [←al4];rfl
 have H7:(aL C).length=5:=rfl
 have DA:=hZ.n
 generalize bF:aL C=E at *
 refine aX.bk none_ [1] (.q 0 (.q 2 (.q 3 (.q 4 (.e 1 (.q 5 (.q 6 (.q 7 .done))) .stop))))) (by kernel_rfl) (by kernel_rfl) (by kernel_rfl) ?_
 simp only [af,bN,Nat.reduceEqDiff,ou,bx,mH,g2,ey,ld,d0,d1,aU,Tryz.results61,sE]
 have k3:J bP (bP.push (.cells E 40 none)) none_:=J.push _ _ _
 refine aF ⟨bP.n,rfl,(bB.ba k2).ba k3,((eJ.up).trans' hZ).trans' ((k2.trans' k3).up),Own.lq _ 1 H7 (by decide),by omega⟩
def o7 (cs:List aj):Int:=cs.foldl (fun a c=>j2 (a+c.val)) 0
theorem al5 (cs:List aj) (c:aj):o7 (cs++[c])=j2 (o7 cs+c.val):=by simp [o7,List.foldl_append]
theorem Rm {l:List aj} {k:Nat} {kk:IntKind} (h:k<l.length):∃ r,hA Tryz.prog 35 (.ai l.length (l.flatMap aL)) (.int kk (k:Int))=some (.at (aL l[k]++r)) :=
 Kt lX rfl (List.getElem?_eq_getElem h) K4
theorem al6 {h:I} {i:Nat} {v:V} {room g:Int} {l:List aj} (k:cW h i v room g l) (r:Rec):Pure Tryz.prog 60 [.iface 200 (.ptr i 0),.agg (aI r)] h (.int .i64 (o7 (uP g l r.k r.t))):=by
 refine Pure.val (bj.int _ _) ?_
 obtain ⟨b6,cT,rt⟩:=r
 refine ae.ax (c:=_) Tryz.func60 rfl (by kernel_rfl) (by simp) ?_
 unfold aI
 have kk:J h (h.push (.cells [.int .i64 b6,.int .i64 cT,.int .i64 rt] 38 none)) none_:=J.push _ _ _
 simp only [af,Nat.reduceEqDiff,Nat.reduceAdd,Nat.reduceLeDiff,reduceCtorEq,vK,rk,bx,Rj,Rk,Rl]
 refine bU P5 (Rb _ i v room g b6 rt l (k.al kk (by simp [none_]) (by simp [none_]))) ?_
 have hlen:(uP g l b6 rt).length≤1024:=by
  unfold uP
  split
  ·exact Nat.le_trans (Ip g l b6 rt) k.len
  ·exact Nat.zero_le _
 show _
 generalize uP g l b6 rt=cs at *
 simp only [af,Nat.reduceEqDiff,wY]
 refine aX.b9 (α:=Nat) (fun x f h'=>f 42=.ai cs.length (cs.flatMap aL)∧f 43=.int .i64 (cs.length:Nat)∧f 5=.int .i64 (o7 (cs.take x))∧f 44=.int .i64 (x:Nat)∧x≤cs.length∧J h h' none_) (fun x=>cs.length - x) 0
  ⟨rfl,rfl,rfl,rfl,Nat.zero_le _,kk⟩ ?_
 rintro t f h' ⟨f42,f43,f5,f44,bq,Fm⟩
 refine am (by kernel_rfl) ?_
 by_cases aN:t<cs.length
 ·have d1:decide ((t:Int)<((cs.length:Nat):Int))=true:=decide_eq_true (by omega)
  have hw:=oq aN (by omega)
  obtain ⟨ja,ck⟩:=Rm (kk:=.i64) aN
  have U:o7 (cs.take (t+1))=j2 (o7 (cs.take t)+cs[t].val):=by rw [List.take_succ_eq_append_getElem aN,al5]
  generalize cs[t]=c at ck U
  obtain ⟨ho,cf,kt,jz,p2⟩:=c
  simp only [af,VS,K4,aL] at ck
  have er:IntKind.i64.wrap (o7 (cs.take t)+jz)=o7 (cs.take (t+1)):=U.symm
  have st:bR (some 5) (bb.cells [V.int .i64 0,V.int .i64 0,V.int .i64 0,V.int .i64 0,V.bool false] 40 none) 0 [.int .i64 ho,.int .i64 cf,.int .i64 kt,.int .i64 jz,.bool p2]=some (.cells [.int .i64 ho,.int .i64 cf,.int .i64 kt,.int .i64 jz,.bool p2] 40 none):=rfl
  simp only [af,Nat.reduceEqDiff,Nat.reduceAdd,Nat.reduceLeDiff,VS,AR,bx,mH,K4,ml,ow,f42,f43,f5,f44,d1,ck,st,er,hw]
  exact aF ⟨t+1,⟨f42,f43,rfl,rfl,by omega,Fm.bg _⟩,by omega⟩
 ·have d1:decide ((t:Int)<((cs.length:Nat):Int))=false:=decide_eq_false (by omega)
  simp only [af,Nat.reduceEqDiff,reduceCtorEq,f43,f5,f44,d1,aU,Tryz.results60,ac]
  exact aF ⟨by rw [List.take_of_length_le (by omega)],Fm⟩
theorem al7 {h:I} {i:Nat} {v:V} {g:Int} {l:List aj} (k:cW h i v 1024 g l) (r:Rec) (n:Int) (n2:jf r.t=true) (az:found g l r.k r.t≠[]∨l.length<1024) :
  ae Tryz.prog 61 [.iface 200 (.ptr i 0),.agg (aI r),.int .i64 n] h (fun q h'=>∃ v',q=.tuple [.ai (iE g l r.k r.t n).length ((iE g l r.k r.t n).flatMap aL),.int .i64 (e3 g l r.k r.t n).aJ,.int .i64 0]∧cW h' i v' 1024 g (rI g l r.k r.t n)∧J h h' (kT i v)∧bV h v v'):=by
 obtain ⟨b6,cT,rt⟩:=r
 refine ae.ax (c:=_) Tryz.func61 rfl (by kernel_rfl) (by simp) ?_
 unfold aI
 obtain ⟨H,hH⟩:∃ y,y=h.push (.cells [.int .i64 b6,.int .i64 cT,.int .i64 rt] 38 none):=⟨_,rfl⟩
 have eJ:J h H none_:=by rw [hH];exact J.push _ _ _
 have qD:H.n=h.n+1:=by rw [hH];rfl
 simp only [af,Nat.reduceEqDiff,Nat.reduceAdd,Nat.reduceLeDiff,reduceCtorEq,vK,rk,bx,Rj,Rk,Rl]
 rw [←hH]
 clear hH
 refine cy VX (alZ H i v 1024 g b6 rt n l n2 (az.imp id fun q=>by omega) az (k.al eJ (by simp [none_]) (by simp [none_]))) fun q h1 ⟨v',aw,bB,hZ,d1⟩=>?_
 subst aw
 have j0:=Ip g l b6 rt
 have pk:=k.len
 have l0:(iE g l b6 rt n).length=((found g l b6 rt).filter (lD (e3 g l b6 rt n))).length+1:=by simp [iE]
 have Rn:=List.length_filter_le (lD (e3 g l b6 rt n)) (found g l b6 rt)
 have tb:(iE g l b6 rt n)[(iE g l b6 rt n).length - 1]'(by omega)=e3 g l b6 rt n:=by
  simp [iE]
 have Yx:IntKind.i64.wrap (((iE g l b6 rt n).length:Int) - 1)=(((iE g l b6 rt n).length - 1:Nat):Int):=by rw [Go.IntWalk.i64_in _ (by omega)];omega
 obtain ⟨ja,ck⟩:=Rm (l:=iE g l b6 rt n) (k:=(iE g l b6 rt n).length - 1) (kk:=.i64) (by omega)
 rw [tb] at ck
 clear tb l0 Rn j0
 have Dz:aL (e3 g l b6 rt n)=[.int .i64 (e3 g l b6 rt n).key,.int .i64 (e3 g l b6 rt n).aJ,.int .i64 (e3 g l b6 rt n).to,.int .i64 (e3 g l b6 rt n).val,.bool (e3 g l b6 rt n).del]:=rfl
 rw [Dz] at ck
 simp only [List.cons_append,List.nil_append] at ck
 generalize cS:iE g l b6 rt n=cs at *
 simp only [af,Nat.reduceEqDiff]
 refine aX.bk none_ [] (.q 0 (.q 1 (.q 2 (.q 3 (.q 4 (.q 5 (.q 6 (.q 7 (.q 8 (.q 9 (.q 10 .done))))))))))) (by kernel_rfl) (by kernel_rfl) (by kernel_rfl) ?_
 simp only [af,bN,Nat.reduceEqDiff,Nat.reduceLeDiff,ou,wY,bx,Yx,ck,aU,Tryz.results61,sE]
 exact aF ⟨v',rfl,bB,(eJ.up).trans' hZ,bV.later d1 (by omega)⟩
theorem Yy (h:I) (i m cl:Nat) (room size aJ:Int) (es:List (Nat×V×V)) (k:c7 h i m room size es cl) (h0:0≤aJ) (h1:aJ≤1099511627776) (aq:dF size aJ=aJ) :
  Pure Tryz.prog 303 [.ptr i 0,.int .i64 aJ,.int .i64 (aJ+size)] h (.bool true):=by
 refine Pure.val (bj.bool _) ?_
 refine ae.ax (c:=_) Tryz.func303 rfl (by kernel_rfl) (by simp) ?_
 have ny:=k.get
 have d1:decide (0≤aJ)=true:=decide_eq_true h0
 simp only [af,Nat.reduceEqDiff,reduceCtorEq,d1]
 refine bU Hi (lw h i m cl room size aJ es k) ?_
 rw [Ia h0 h1,aq]
 have hw:IntKind.i64.wrap (aJ+size)=aJ+size:=Go.IntWalk.i64_in _ (by have:=k.s1;have:=k.s2;omega)
 have aw:(aJ==aJ)=true:=by simp
 have aW:(aJ+size==aJ+size)=true:=by simp
 simp only [af,Nat.reduceEqDiff,Nat.reduceAdd,Nat.reduceLeDiff,reduceCtorEq,Ct,bx,ny,hw,aU,Tryz.results303,ac]
 exact aF ⟨rfl,J.refl _ _⟩
theorem al8 (h:I) (i m cl:Nat) (room size key aJ val:Int) (l:eg) (k:c7 h i m room size (hC l) cl) (h0:0≤aJ) (h1:aJ≤1099511627776) (aq:dF size aJ=aJ) (aH:(b7 l (key,aJ)).isSome=true∨(l.length:Int)<room) :
  ae Tryz.prog 300 [.ptr i 0,.agg (aL ⟨key,aJ,aJ+size,val,false⟩)] h (fun r h'=>r=.int .i64 0∧c7 h' i m room size (hC (cC cl l (key,aJ) val)) (fT cl l (key,aJ))∧J h h' (fun q=>q=m)):=by
 refine ae.ax (c:=_) Tryz.func300 rfl (by kernel_rfl) (by simp) ?_
 have fM:(V.agg (aL ⟨key,aJ,aJ+size,val,false⟩)).cells=some [.int .i64 key,.int .i64 aJ,.int .i64 (aJ+size),.int .i64 val,.bool false]:=rfl
 simp only [af,Nat.reduceEqDiff,reduceCtorEq,fM]
 have bA:J h (h.push (.cells [.int .i64 key,.int .i64 aJ,.int .i64 (aJ+size),.int .i64 val,.bool false] 40 none)) none_:=J.push _ _ _
 have bB:=k.ba bA
 refine bU E0 (Fg _ i m cl room size _ bB) ?_
 simp only [af,Nat.reduceEqDiff,Nat.reduceAdd,Nat.reduceLeDiff,reduceCtorEq,ou,tG,bx]
 refine bU Wc (Yy _ i m cl room size aJ _ bB h0 h1 aq) ?_
 simp only [af,Nat.reduceEqDiff,Nat.reduceAdd,Nat.reduceLeDiff,reduceCtorEq,E4,ou,AR,xX,bx,o5]
 refine cy P6 (XU _ i m cl room size key aJ val l bB (by rw [aq];exact aH) h0 h1) fun r aa ⟨aW,k2,oo⟩=>?_
 subst aW
 rw [aq] at *
 have st:∀ c:aj,bR (some 5) (bb.cells [.int .i64 0,.int .i64 0,.int .i64 0,.int .i64 0,.bool false] 40 none) 0 (aL c)=some (.cells (aL c) 40 none):=fun _=>rfl
 have cc:∀ c:aj,(V.agg (aL c)).cells=some (aL c):=fun _=>rfl
 simp only [af,Nat.reduceEqDiff,ml,ow,st,cc,aU,Tryz.results300,ac]
 exact aF ⟨rfl,k2.ba (J.push _ _ _),((bA.up).trans' oo).bg _⟩
theorem al9 (h:I) (i m cl:Nat) (room size key aJ:Int) (l:eg) (k:c7 h i m room size (hC l) cl) (h0:0≤aJ) (h1:aJ≤1099511627776) (aq:dF size aJ=aJ) (aH:(b7 l (key,aJ)).isSome=true) :
  ae Tryz.prog 300 [.ptr i 0,.agg (aL ⟨key,aJ,aJ+size,0,true⟩)] h (fun r h'=>r=.int .i64 0∧c7 h' i m room size (hC (fD l (key,aJ))) cl∧J h h' (fun q=>q=m)):=by
 refine ae.ax (c:=_) Tryz.func300 rfl (by kernel_rfl) (by simp) ?_
 have fM:(V.agg (aL ⟨key,aJ,aJ+size,0,true⟩)).cells=some [.int .i64 key,.int .i64 aJ,.int .i64 (aJ+size),.int .i64 0,.bool true]:=rfl
 simp only [af,Nat.reduceEqDiff,reduceCtorEq,fM]
 have bA:J h (h.push (.cells [.int .i64 key,.int .i64 aJ,.int .i64 (aJ+size),.int .i64 0,.bool true] 40 none)) none_:=J.push _ _ _
 have bB:=k.ba bA
 refine bU E0 (Fg _ i m cl room size _ bB) ?_
 simp only [af,Nat.reduceEqDiff,Nat.reduceAdd,Nat.reduceLeDiff,reduceCtorEq,ou,tG,bx]
 refine bU Wc (Yy _ i m cl room size aJ _ bB h0 h1 aq) ?_
 have z0:((0:Int) !=0)=false:=rfl
 have CX:∀ a b:Int,(V.agg [.int .i64 a,.int .i64 b]).cells=some [.int .i64 a,.int .i64 b]:=fun _ _=>rfl
 simp only [af,Nat.reduceEqDiff,Nat.reduceAdd,Nat.reduceLeDiff,E4,ou,AR,xX,bx,o5,K2,Ht,K8,CX]
 generalize hH:(h.push (.cells [.int .i64 key,.int .i64 aJ,.int .i64 (aJ+size),.int .i64 0,.bool true] 40 none)).push (.cells [.int .i64 key,.int .i64 aJ] 286 none)=H
 have Yz:J h H none_:=by rw [←hH];exact bA.bg _
 have k2:=k.ba Yz
 have ny:=k2.get
 have fG:=k2.map
 have g1:H.get (h.n+1)=.cells [.int .i64 key,.int .i64 aJ] 286 none:=by rw [←hH];exact cA
 have vN:dv (some (some 2)) (some [.int .i64 key,.int .i64 aJ])=some (.agg [.int .i64 key,.int .i64 aJ]):=rfl
 have gy:=lookW l key aJ fG
 rw [aH] at gy
 have Ix:=Ib l key aJ fG
 refine aX.bk none_ [] (.q 0 (.q 1 (.q 2 (.q 3 (.q 4 (.q 5 (.q 6 (.q 7 (.q 8 (.q 9 (.q 10 .done))))))))))) (by kernel_rfl) (by kernel_rfl) (by kernel_rfl) ?_
 simp only [af,bN,Nat.reduceEqDiff,Nat.reduceAdd,Nat.reduceLeDiff,reduceCtorEq,xV,xZ,Cz,ny,g1,vN,gy]
 refine aX.bk none_ [5] (.q 0 (.q 1 (.q 2 (.q 3 (.q 4 (.a 5 .done)))))) (by kernel_rfl) (by kernel_rfl) (by kernel_rfl) ?_
 simp only [af,bN,Nat.reduceEqDiff,Nat.reduceAdd,Nat.reduceLeDiff,reduceCtorEq,xV,xZ,Cz,ny,g1,vN,Ix,aU,Tryz.results300,ac]
 have en:J H (H.set m (.map (hC (fD l (key,aJ))) cl)) (fun q=>q=m):=J.set _ _ _
 exact aF ⟨rfl,⟨(en.get i k2.lt (by exact k.ne)).trans ny,aP,k.ne,k2.lt,k2.ox,k.s1,k.s2⟩,(Yz.up).trans' en⟩
def p4 (a b:aj):Bool:=decide (a.aJ<b.aJ∨(a.aJ=b.aJ∧a.key<b.key))
def zG (l:List aj):Prop:=l.Pairwise fun a b=>p4 b a=false
def YA (OD:V):Prop:=∀ (h:I) (x:V) (l:List aj),Own h 40 5 x (l.flatMap aL)→l.length≤2 ^ 40 →
 ae Tryz.prog 163 [x,OD] h (fun r h'=>r=.tuple []∧J h h' (bl x)∧∃ b0,b0.Perm l∧zG b0∧Own h' 40 5 x (b0.flatMap aL))
abbrev Nb:V:=.func (.func 164) [] []
def sV (size:Int) (e:Nat×(Int×Int)×Int):aj:=⟨e.2.1.1,e.2.1.2,e.2.1.2+size,e.2.2,false⟩
theorem YB {l:eg} {e:Nat×V×V} (h:e ∈ hC l):∃ x ∈ l,e=(x.1,vo x.2.1,.int .i64 x.2.2):=by
 obtain ⟨x,ag,rfl⟩:=List.mem_map.1 h
 exact ⟨x,ag,rfl⟩
theorem YC (l:eg):(hC l).map (·.1)=l.map (·.1):=by simp [hC,dJ]
theorem Lv:∀ {q:eg},(q.map (·.1)).Nodup→∀ {x y},x ∈ q→y ∈ q→x.1=y.1→x=y
 | [],_,x,y,ag,_,_=>by cases ag
 | z::q,ad,x,y,ag,bd,e=>by
  have dp:=List.nodup_cons.1 ad
  rcases List.mem_cons.1 ag with h1 | h1
  ·rcases List.mem_cons.1 bd with aa | aa
   ·rw [h1,aa]
   ·exact absurd (List.mem_map.2 ⟨y,aa,by rw [←e,h1]⟩) dp.1
  ·rcases List.mem_cons.1 bd with aa | aa
   ·exact absurd (List.mem_map.2 ⟨x,h1,by rw [e,aa]⟩) dp.1
   ·exact Lv dp.2 h1 aa e
def l5 (size before:Int) (e:Nat×(Int×Int)×Int):Bool:=decide (e.2.1.2+size≤before)
def x9 (size:Int) (e:Nat×(Int×Int)×Int):aj:=⟨e.2.1.1,e.2.1.2,e.2.1.2+size,0,true⟩
def o8 (size before:Int) (l cu:eg):eg:=l.filter fun e=>!(l5 size before e&&(cu.map (·.1)).contains e.1)
theorem YD:∀ {l:eg},dD l→∀ k,fD l k=l.filter fun e=>decide (e.2.1≠k)
 | [],_,k=>rfl
 | e::l,aG,k=>by
  have oA:=List.nodup_cons.1 aG
  unfold fD
  by_cases hk:k=e.2.1
  ·rw [if_pos hk,List.filter_cons_of_neg (by simp [hk])]
   symm
   rw [List.filter_eq_self]
   intro y bd
   simp only [decide_eq_true_eq]
   exact fun ab=>oA.1 (List.mem_map.2 ⟨y,bd,by rw [ab,hk]⟩)
  ·rw [if_neg hk,List.filter_cons_of_pos (by simp [Ne.symm hk]),YD oA.2]
theorem key_inj:∀ {q:eg},dD q→∀ {x y},x ∈ q→y ∈ q→x.2.1=y.2.1→x=y
 | [],_,x,y,ag,_,_=>by cases ag
 | z::q,ad,x,y,ag,bd,e=>by
  have dp:=List.nodup_cons.1 ad
  rcases List.mem_cons.1 ag with h1 | h1
  ·rcases List.mem_cons.1 bd with aa | aa
   ·rw [h1,aa]
   ·exact absurd (List.mem_map.2 ⟨y,aa,by rw [←e,h1]⟩) dp.1
  ·rcases List.mem_cons.1 bd with aa | aa
   ·exact absurd (List.mem_map.2 ⟨x,h1,by rw [e,aa]⟩) dp.1
   ·exact key_inj dp.2 h1 aa e
theorem YE {cu:eg} {x e:Nat×(Int×Int)×Int} (h:e.1≠x.1):((cu++[x]).map (·.1)).contains e.1=(cu.map (·.1)).contains e.1:=by
 rw [Bool.eq_iff_iff,List.contains_iff_mem,List.contains_iff_mem,List.map_append,List.mem_append]
 simp [h]
theorem ama {size before:Int} {l cu:eg} {x:Nat×(Int×Int)×Int} (hk:dD l) (U:(l.map (·.1)).Nodup) (ag:x ∈ l) (av:l5 size before x=true):fD (o8 size before l cu) x.2.1=o8 size before l (cu++[x]):=by
 unfold o8
 rw [YD (List.Nodup.sublist ((List.filter_sublist).map _) hk),List.filter_filter]
 apply List.filter_congr
 intro e he
 by_cases hex:e=x
 ·subst hex;simp [av]
 ·have h1:e.2.1≠x.2.1:=fun ab=>hex (key_inj hk he ag ab)
  have aa:e.1≠x.1:=fun ab=>hex (Lv U he ag ab)
  rw [YE aa]
  simp [h1]
theorem amb {size before:Int} {l cu:eg} {x:Nat×(Int×Int)×Int} (U:(l.map (·.1)).Nodup) (ag:x ∈ l) (av:l5 size before x=false):o8 size before l cu=o8 size before l (cu++[x]):=by
 unfold o8
 apply List.filter_congr
 intro e he
 by_cases hex:e=x
 ·subst hex;simp [av]
 ·have aa:e.1≠x.1:=fun ab=>hex (Lv U he ag ab)
  rw [YE aa]
theorem amc {size before:Int} {l cu:eg} (U:(l.map (·.1)).Nodup) (dt:∀ e ∈ o8 size before l cu,e.1 ∈ cu.map (·.1)):o8 size before l cu=l.filter (fun e=>!l5 size before e)∧∀ e ∈ l,l5 size before e=true→e.1 ∈ cu.map (·.1):=by
 have aa:∀ e ∈ l,l5 size before e=true→e.1 ∈ cu.map (·.1):=fun e he av=>by
  apply Classical.byContradiction
  intro aG
  have au:(cu.map (·.1)).contains e.1=false:=by simpa using aG
  exact aG (dt e (List.mem_filter.2 ⟨he,by rw [av,au];rfl⟩))
 refine ⟨?_,aa⟩
 unfold o8
 apply List.filter_congr
 intro e he
 cases av:l5 size before e
 ·rfl
 ·have au:(cu.map (·.1)).contains e.1=true:=by simpa using aa e he av
  rw [au];rfl
theorem amd {size before:Int} {l cu:eg} (U:(l.map (·.1)).Nodup) (aD:(cu.map (·.1)).Nodup) (h1:∀ e ∈ cu,e ∈ l) (aa:∀ e ∈ l,l5 size before e=true→e.1 ∈ cu.map (·.1)):(cu.filter (l5 size before)).Perm (l.filter (l5 size before)):=by
 have nl:l.Nodup:=(List.pairwise_map.1 U).imp fun h e=>h (by rw [e])
 have mJ:cu.Nodup:=(List.pairwise_map.1 aD).imp fun h e=>h (by rw [e])
 rw [List.perm_ext_iff_of_nodup (mJ.sublist List.filter_sublist) (nl.sublist List.filter_sublist)]
 intro a
 simp only [List.mem_filter]
 refine ⟨fun ⟨aO,av⟩=>⟨h1 a aO,av⟩,fun ⟨aO,av⟩=>⟨?_,av⟩⟩
 obtain ⟨b,ak,nP⟩:=List.mem_map.1 (aa a aO av)
 rw [←Lv U (h1 b ak) aO nP];exact ak
theorem ame (h:I) (i m cl:Nat) (room size key aJ:Int) (es:List (Nat×V×V)) (k:c7 h i m room size es cl) (h0:0≤aJ) (h1:aJ≤2 ^ 41):Pure Tryz.prog 162 [.ptr i 0,x8 key aJ] h (.agg (aL ⟨key,aJ,aJ+size,0,true⟩)):=by
 refine Pure.val (bj.agg (A9 _)) ?_
 refine ae.ax (c:=_) Tryz.func162 rfl (by kernel_rfl) (by simp) ?_
 have av:=k.get
 have Fi:=k.lt
 have j4:∀ A B,((h.push A).push B).get i=.cells [.int .i64 room,.int .i64 size,.map m] 272 none:=fun A B=>(mc (by simp only [eI];omega)).trans ((mc Fi).trans av)
 have hw:IntKind.i64.wrap (aJ+size)=aJ+size:=Go.IntWalk.i64_in _ (by have:=k.s1;have:=k.s2;omega)
 simp only [af,ml,XT]
 refine aX.bk none_ [12] (.q 0 (.q 1 (.q 2 (.q 3 (.q 4 (.q 5 (.q 6 (.q 7 (.q 8 (.q 9 (.q 10 (.q 11 (.a 12 .done))))))))))))) (by kernel_rfl) (by kernel_rfl) (by kernel_rfl) ?_
 simp only [af,bN,Nat.reduceEqDiff,Nat.reduceAdd,Nat.reduceLeDiff,reduceCtorEq,Ct,Wp,KX,bx,mH,w1,ml,ow,j4,hw,aU,Tryz.results162,zj,fp]
 exact aF ⟨rfl,(J.push _ _ _).bg _⟩
theorem amf (amg:YA Nb) (h:I) (i m cl:Nat) (room size before:Int) (l:eg) (k:c7 h i m room size (hC l) cl) (U:eP (hC l) cl) (pg:dD l) (az:l.length≤2 ^ 30) (aq:∀ e ∈ l,0≤e.2.1.2∧e.2.1.2≤2 ^ 41) :
  ae Tryz.prog 112 [.ptr i 0,.int .i64 before] h (fun r h'=>J h h' (fun q=>q=m)∧c7 h' i m room size (hC (l.filter fun e=>!l5 size before e)) cl ∧
   ∃ lc,lc.Perm ((l.filter (l5 size before)).map (x9 size))∧zG lc∧Own h' 40 5 r (lc.flatMap aL)∧(∀ j,aV r=some j→h.n≤j)):=by
 refine ae.ax (c:=_) Tryz.func112 rfl (by kernel_rfl) (by simp) ?_
 have ny:=k.get
 have fG:=k.map
 have ia:(l.map (·.1)).Nodup:=by rw [←YC];exact U.2
 simp only [af,Nat.reduceEqDiff,reduceCtorEq]
 refine bU E0 (Fg h i m cl room size _ k) ?_
 obtain ⟨q,ad⟩:=als
 have n5:=OR ad fG
 simp only [af,Nat.reduceEqDiff,Nat.reduceAdd,Nat.reduceLeDiff,reduceCtorEq,xV,xZ,ny,n5]
 have Fi:=k.lt
 have ox:=k.ox
 refine aX.b9 (α:=eg) (fun cu f h'=>f 0=.ptr i 0∧f 1=.int .i64 before∧f 13=.ptr h.n 0∧h.n<h'.n∧h'.get h.n=.iter m cl (cu.map (·.1)) cl∧J h h' (fun q=>q=m)∧c7 h' i m room size (hC (o8 size before l cu)) cl ∧
   Own h' 40 5 (f 5) (((cu.filter (l5 size before)).map (x9 size)).flatMap aL)∧(∀ j,aV (f 5)=some j→h.n≤j)∧aV (f 5)≠some h.n∧(∀ e ∈ cu,e ∈ l)∧(cu.map (·.1)).Nodup)
  (fun cu=>l.length - cu.length) []
  ⟨rfl,rfl,rfl,by simp only [eI];omega,cA,J.push _ _ _,by
   have:o8 size before l []=l:=by unfold o8;simp
   rw [this];exact k.ba (J.push _ _ _),Own.an _ _ _,(show ∀ j,aV V.an=some j→h.n≤j by simp [aV]),(show aV V.an≠some h.n by simp [aV]),by simp,by simp⟩ ?_
 rintro cu f h' ⟨f0,f1,f13,aG,aH,b8,kw,a6,Bh,c4,rj,Nc⟩
 refine am (by kernel_rfl) ?_
 have mV:(o8 size before l cu).Sublist l:=List.filter_sublist
 have Nd:eP (hC (o8 size before l cu)) cl:=by
  refine ⟨fun e he=>?_,?_⟩
  ·obtain ⟨x,ag,rfl⟩:=YB he
   exact U.1 _ (List.mem_map.2 ⟨x,mV.subset ag,rfl⟩)
  ·rw [YC];exact ia.sublist (mV.map _)
 simp only [af,f13]
 refine OP aH kw.map Nd (fun nt=>?_) fun e he=>?_
 ·have dt:∀ e ∈ o8 size before l cu,e.1 ∈ cu.map (·.1):=fun e he=>by
   apply Classical.byContradiction
   intro lZ
   have:(e.1,vo e.2.1,V.int .i64 e.2.2) ∈ oX (hC (o8 size before l cu)) (cu.map (·.1)):=by
    unfold oX
    exact List.mem_filter.2 ⟨List.mem_map.2 ⟨e,he,rfl⟩,by simpa using lZ⟩
   rw [nt] at this
   simp at this
  obtain ⟨hle,DT⟩:=amc ia dt
  have aZ:=amd (size:=size) (before:=before) ia Nc rj DT
  have l0:=aZ.length_eq
  have j0:=(List.filter_sublist (p:=l5 size before) (l:=l)).length_le
  simp only [af,Nat.reduceEqDiff]
  refine cy aiY (amg h' (f 5) _ a6 (by rw [List.length_map];omega)) fun r aa ⟨aw,k2,lc,pl,bc,ei⟩=>?_
  subst aw
  simp only [af,Nat.reduceEqDiff,aU,Tryz.results112,ac]
  have C4:∀ j,bl (f 5) j→h.n≤j:=fun j aS=>Bh j aS
  refine aF ⟨b8.trans k2 fun q ad e=>by have:=C4 q e;omega,?_,lc,pl.trans (aZ.map _),bc,ei,Bh⟩
  rw [←hle]
  have ft:=k2.n
  exact ⟨(k2.get i kw.lt (fun e=>by have:=C4 i e;omega)).trans kw.get,(k2.get m kw.ox (fun e=>by have:=C4 m e;omega)).trans kw.map,k.ne,by have:=kw.lt;omega,by have:=kw.ox;omega,k.s1,k.s2⟩
 ·obtain ⟨x,oG,rfl⟩:=YB (List.mem_filter.1 he).1
  have ag:=mV.subset oG
  have YF:x.1 ∉ cu.map (·.1):=by
   have:=(List.mem_filter.1 he).2
   simpa using this
  generalize hH:h'.set h.n (.iter m cl (cu.map (·.1)++[x.1]) cl)=H
  have Ro:J h' H (fun q=>q=h.n):=by rw [←hH];exact J.set _ _ _
  have Nf:J h H (fun q=>q=m):=by rw [←hH];exact b8.iQ (Nat.le_refl _) _
  have j9:H.n=h'.n:=by rw [←hH];rfl
  have nd:H.get h.n=.iter m cl (cu.map (·.1)++[x.1]) cl:=by rw [←hH];exact aP
  have Bi:c7 H i m room size (hC (o8 size before l cu)) cl:=⟨(Ro.get i kw.lt (by omega)).trans kw.get,(Ro.get m kw.ox (by omega)).trans kw.map,k.ne,by have:=kw.lt;omega,by have:=kw.ox;omega,k.s1,k.s2⟩
  have lF:Own H 40 5 (f 5) (((cu.filter (l5 size before)).map (x9 size)).flatMap aL):=a6.al Ro fun j aS e=>c4 (by rw [aS,e])
  have YG:=OQ nd Bi.map Nd (List.mem_filter.1 he).1
  obtain ⟨YH,YI⟩:=aq x ag
  have gv:((cu++[x]).map (·.1)).Nodup:=by
   rw [List.map_append,List.nodup_append]
   exact ⟨Nc,by simp,fun a aO b ak=>by simp at ak;subst ak;exact fun ab=>YF (ab ▸ aO)⟩
  have C5:∀ e ∈ cu++[x],e ∈ l:=fun e he=>by
   rcases List.mem_append.1 he with h | h
   ·exact rj e h
   ·simp at h;subst h;exact ag
  have hlen:cu.length<l.length:=by
   have ft:(cu++[x]).Nodup:=(List.pairwise_map.1 gv).imp fun h e=>h (by rw [e])
   have:=ft.length_le_of_subset (l₂:=l) C5
   rw [List.length_append] at this
   simp at this
   omega
  have vn:=Bi.get
  have CX:(vo x.2.1).cells=some [.int .i64 x.2.1.1,.int .i64 x.2.1.2]:=rfl
  have vN:dv (some (some 2)) (some [.int .i64 x.2.1.1,.int .i64 x.2.1.2])=some (.agg [.int .i64 x.2.1.1,.int .i64 x.2.1.2]):=rfl
  have hw:IntKind.i64.wrap (x.2.1.2+size)=x.2.1.2+size:=Go.IntWalk.i64_in _ (by have:=k.s1;have:=k.s2;omega)
  simp only [af,Nat.reduceEqDiff,Nat.reduceAdd,Ht,K8,f13,YG,CX]
  have sl:∀ A,(H.push A).get i=.cells [.int .i64 room,.int .i64 size,.map m] 272 none:=fun A=>(mc Bi.lt).trans vn
  have nm:l5 size before x=decide (x.2.1.2+size≤before):=rfl
  cases av:l5 size before x
  ·have d1:decide (x.2.1.2+size≤before)=false:=by rw [←nm,av]
   refine aX.bk none_ [] (.q 0 (.q 1 (.q 2 (.q 3 (.q 4 (.q 5 (.q 6 (.q 7 (.q 8 .done))))))))) (by kernel_rfl) (by kernel_rfl) (by kernel_rfl) ?_
   simp only [af,bN,Nat.reduceEqDiff,Nat.reduceAdd,Nat.reduceLeDiff,reduceCtorEq,Ct,KX,bx,f0,f1,sl,hw,d1]
   refine aF ⟨cu++[x],⟨f0,f1,f13,by simp only [eI];omega,(mc (by omega)).trans (by rw [nd];simp),Nf.bg _,?_,?_,Bh,c4,C5,gv⟩,by simp only [List.length_append,List.length_cons,List.length_nil];omega⟩
   ·rw [←amb ia ag av];exact Bi.ba (J.push _ _ _)
   ·rw [List.filter_append,List.filter_cons_of_neg (by simp [av]),List.filter_nil,List.append_nil];exact lF.ba (J.push _ _ _)
  ·have d1:decide (x.2.1.2+size≤before)=true:=by rw [←nm,av]
   refine aX.bk none_ [] (.q 0 (.q 1 (.q 2 (.q 3 (.q 4 (.q 5 (.q 6 (.q 7 (.q 8 .done))))))))) (by kernel_rfl) (by kernel_rfl) (by kernel_rfl) ?_
   simp only [af,bN,Nat.reduceEqDiff,Nat.reduceAdd,Nat.reduceLeDiff,reduceCtorEq,Ct,KX,bx,Cz,f0,f1,sl,hw,d1]
   have jA:=Nf.bg (.cells [.int .i64 x.2.1.1,.int .i64 x.2.1.2] 286 none)
   have Bj:(H.push (.cells [.int .i64 x.2.1.1,.int .i64 x.2.1.2] 286 none)).get h.n=.iter m cl (cu.map (·.1)++[x.1]) cl:=(mc (by omega)).trans nd
   have Ng:(H.push (.cells [.int .i64 x.2.1.1,.int .i64 x.2.1.2] 286 none)).get H.n=.cells [.int .i64 x.2.1.1,.int .i64 x.2.1.2] 286 none:=cA
   have amh:(H.push (.cells [.int .i64 x.2.1.1,.int .i64 x.2.1.2] 286 none)).n=H.n+1:=rfl
   have vp:=Bi.ba (J.push H (.cells [.int .i64 x.2.1.1,.int .i64 x.2.1.2] 286 none) none_)
   have l6:=lF.ba (J.push H (.cells [.int .i64 x.2.1.1,.int .i64 x.2.1.2] 286 none) none_)
   generalize H.push (.cells [.int .i64 x.2.1.1,.int .i64 x.2.1.2] 286 none)=YJ at jA Bj Ng amh vp l6⊢
   refine bU aiX (ame YJ i m cl room size x.2.1.1 x.2.1.2 _ vp YH YI) ?_
   have apO:=(List.filter_sublist (p:=l5 size before) (l:=cu)).length_le
   obtain ⟨cK,aa,fB,ei,yJ,d2⟩:=Gx (P:=Tryz.prog) CA (by decide) l6 (xs:=aL (x9 size x)) rfl rfl (fun m hm=>by
    change m * 5=_+5 at hm
    rw [j7 lX,List.length_map] at hm
    exact ⟨by simp only [lim];omega,by simp only [lim];omega⟩)
   have C4:∀ j,bl (f 5) j→h.n≤j:=fun j aS=>Bh j aS
   have g2:=(yJ.get h.n (by omega) (fun ab=>c4 ab)).trans Bj
   have Iy:=(yJ.get H.n (by omega) (fun ab=>by have:=lF.lt _ ab;omega)).trans Ng
   have ft:=yJ.n
   have Rp:aV cK≠some h.n:=fun ab=>by
    rcases d2 with d | d
    ·exact c4 (d ▸ ab)
    ·have:=d _ ab;omega
   have Iz:∀ j,aV cK=some j→h.n≤j:=fun j aS=>by
    rcases d2 with d | d
    ·exact Bh j (d ▸ aS)
    ·have:=d _ aS;omega
   have cz:c7 aa i m room size (hC (o8 size before l cu)) cl:=⟨(yJ.get i vp.lt (fun e=>by have:=C4 i e;omega)).trans vp.get,(yJ.get m vp.ox (fun e=>by have:=C4 m e;omega)).trans vp.map,k.ne,by have:=vp.lt;omega,by have:=vp.ox;omega,k.s1,k.s2⟩
   have Nh:=cz.get
   have fq:=alc YJ (x9 size x)
   have Ix:=Ib _ x.2.1.1 x.2.1.2 cz.map
   unfold x9 at fq fB
   simp only [af,Nat.reduceEqDiff,fq,fB]
   refine aX.bk none_ [5] (.q 0 (.q 1 (.q 2 (.q 3 (.q 4 (.a 5 .done)))))) (by kernel_rfl) (by kernel_rfl) (by kernel_rfl) ?_
   simp only [af,bN,Nat.reduceEqDiff,Nat.reduceAdd,Nat.reduceLeDiff,reduceCtorEq,xV,xZ,Cz,f0,Nh,Iy,vN,Ix]
   have sW:J aa (aa.set m (.map (hC (fD (o8 size before l cu) (x.2.1.1,x.2.1.2))) cl)) (fun q=>q=m):=J.set _ _ _
   have dw:fD (o8 size before l cu) (x.2.1.1,x.2.1.2)=o8 size before l (cu++[x]):=ama pg ia ag av
   refine aF ⟨cu++[x],⟨f0,f1,f13,by show h.n<aa.n;omega,(sW.get h.n (by omega) (by omega)).trans (by rw [g2];simp),(jA.trans yJ fun q ad e=>by have:=C4 q e;omega).trans' sW,?_,?_,Iz,Rp,C5,gv⟩,by simp only [List.length_append,List.length_cons,List.length_nil];omega⟩
   ·rw [dw] at sW⊢
    exact ⟨(sW.get i cz.lt (by exact k.ne)).trans Nh,aP,k.ne,cz.lt,cz.ox,k.s1,k.s2⟩
   ·rw [List.filter_append,List.filter_cons_of_pos (by simp [av]),List.filter_nil,List.map_append,List.flatMap_append]
    have h4:=ei.al sW fun j aS e=>by have:=Iz j aS;omega
    rw [show List.flatMap aL (List.map (x9 size) [x])=aL (x9 size x) by simp]
    exact h4
def pH (c:aj):Int×Int:=(c.key,c.aJ)
theorem ami {a b:aj} (h:pH a≠pH b) (aG:p4 b a=false):p4 a b=true:=by
 unfold p4 at *
 simp only [decide_eq_false_iff_not,decide_eq_true_eq] at *
 have:¬(a.key=b.key∧a.aJ=b.aJ):=fun e=>h (Prod.ext e.1 e.2)
 omega
theorem YK:∀ {a b:List aj},a.Perm b→zG a→zG b→(a.map pH).Nodup→a=b
 | [],b,aZ,_,_,_=>(List.nil_perm.1 aZ).symm
 | x::a,b,aZ,aO,ak,a7=>by
  cases b with
  | nil=>exact absurd (List.perm_nil.1 aZ) (by simp)
  | cons y b=>
   have vq:=List.nodup_cons.1 a7
   have nQ:=List.pairwise_cons.1 aO
   have ic:=List.pairwise_cons.1 ak
   have YL:x=y:=by
    apply Classical.byContradiction
    intro bO
    have bd:y ∈ a:=by
     rcases List.mem_cons.1 (aZ.symm.subset (List.mem_cons_self (a:=y) (l:=b))) with h | h
     ·exact absurd h.symm bO
     ·exact h
    have ag:x ∈ b:=by
     rcases List.mem_cons.1 (aZ.subset (List.mem_cons_self (a:=x) (l:=a))) with h | h
     ·exact absurd h bO
     ·exact h
    have h1:=nQ.1 y bd
    have aa:=ic.1 x ag
    have l0:pH x≠pH y:=fun e=>vq.1 (List.mem_map.2 ⟨y,bd,e.symm⟩)
    have aC:=ami l0 h1
    rw [aC] at aa
    cases aa
   subst YL
   rw [YK (List.Perm.cons_inv aZ) nQ.2 ic.2 vq.2]
structure YM (h:I) (i m:Nat) (n:Int) (l:eg) (cl:Nat):Prop where
 k:c7 h i m 1024 n (hC l) cl
 st:eP (hC l) cl
 uR:dD l
 aJ:∀ e ∈ l,0≤e.2.1.2∧e.2.1.2≤2 ^ 41
theorem Rq:∀ {l:eg} {cl:Nat} {k:Int×Int} {a:Int} {e:Nat×(Int×Int)×Int},e ∈ cC cl l k a→e.2.1=k∨e ∈ l
 | [],cl,k,a,e,h=>by simp [cC] at h;exact .inl (by rw [h])
 | x::l,cl,k,a,e,h=>by
  unfold cC at h
  split at h
  ·rcases List.mem_cons.1 h with rfl | h
   ·exact .inl rfl
   ·exact .inr (List.mem_cons_of_mem _ h)
  ·rcases List.mem_cons.1 h with rfl | h
   ·exact .inr List.mem_cons_self
   ·rcases Rq h with h | h
    ·exact .inl h
    ·exact .inr (List.mem_cons_of_mem _ h)
theorem amj (h:I) (n:Int):aM (.tuple [.an,.int .i64 n]) h (.tuple [.ai 0 [],.int .i64 n]) h:=aM.tuple (aB.cons (aM.kD h) (aB.refl _ _))
theorem amk {h:I} {s:V} {cs:List aj} (o:Own h 292 3 s (cs.flatMap br)) (az:cs.length≤2 ^ 40) (c:aj) :
  ∃ cK h',ma Tryz.prog 273 273 s (.bc h.n 0 1 1) (h.push (.cells (br c) 292 none))=some (cK,h')∧Own h' 292 3 cK ((cs++[c]).flatMap br)∧J h h' (bl s)∧bV h s cK:=by
 have b8:J h (h.push (.cells (br c) 292 none)) none_:=J.push _ _ _
 have hM:Own (h.push (.cells (br c) 292 none)) 292 3 (.bc h.n 0 1 1) (br c):=Own.lq (br c) 1 rfl (by decide)
 have dT:=zo (P:=Tryz.prog) (t:=273) rn hM (n:=1) rfl (by decide) (Lq c)
 obtain ⟨cK,h',fB,mS,rA,iU⟩:=xP (P:=Tryz.prog) (t:=273) (tx:=273) vM (by decide) (o.ba b8) dT rfl (fun m hm=>by
  change m * 3=_+3 at hm
  rw [j7 sU] at hm
  exact ⟨by simp only [lim];omega,by simp only [lim];omega⟩)
 refine ⟨cK,h',fB,?_,(b8.up).trans' rA,bV.after iU b8.n⟩
 rw [List.flatMap_append]
 simpa using mS
def ended (g t:Int) (x:aj):Bool:=decide (x.to+g≤t)
theorem YN (q:aj→Bool) (cs:List aj) (p:aj):(cs++[p]).filter q=cs.filter q++(if q p=true then [p] else []):=by
 rw [List.filter_append]
 cases h:q p<;>simp [h]
theorem aml (h:I) (i:Nat) (v:V) (room g time:Int) (l:List aj) (k:cW h i v room g l) :
  ae Tryz.prog 113 [.ptr i 0,.int .i64 time] h (fun r h'=>∃ v',Own h' 40 5 r (((l.filter (ended g time)).map ha).flatMap aL)∧(∀ j,aV r=some j→h.n≤j∧aV v'≠some j)∧cW h' i v' room g (l.filter fun x=>!ended g time x)∧J h h' (kT i v)∧bV h v v'):=by
 refine ae.ax (c:=_) Tryz.func113 rfl (by kernel_rfl) (by simp) ?_
 have av:=k.get
 have jG:=k.rH h
 have M9:=k.len
 have ch:=k.lt
 simp only [af,Nat.reduceEqDiff,Nat.reduceAdd,Nat.reduceLeDiff,reduceCtorEq,vJ,E6,zx,av,jG]
 refine aX.b9 (α:=Nat×V×V) (fun x f h'=>f 0=.ptr i 0∧f 1=.int .i64 time∧f 5=x.2.1∧f 6=x.2.2∧f 14=v∧f 15=.int .i64 (l.length:Nat)∧f 16=.int .i64 (x.1:Nat)∧x.1≤l.length∧J h h' none_ ∧
   Own h' 40 5 x.2.1 ((((l.take x.1).filter (ended g time)).map ha).flatMap aL)∧Own h' 292 3 x.2.2 (((l.take x.1).filter fun y=>!ended g time y).flatMap br) ∧
   (∀ j,aV x.2.1=some j→h.n≤j∧aV x.2.2≠some j)∧(∀ j,aV x.2.2=some j→h.n≤j)) (fun x=>l.length - x.1) (0,.an,.an)
  ⟨rfl,rfl,rfl,rfl,rfl,rfl,rfl,Nat.zero_le _,J.refl _ _,Own.an _ _ _,Own.an _ _ _,by simp [aV],by simp [aV]⟩ ?_
 rintro ⟨t,a,b⟩ f h1 ⟨f0,f1,f5,f6,f14,f15,f16,bq,bB,mS,ob,iU,AK⟩
 simp only at f5 f6 f16 bq mS ob iU AK
 refine am (by kernel_rfl) ?_
 by_cases aN:t<l.length
 ·have d1:decide ((t:Int)<((l.length:Nat):Int))=true:=decide_eq_true (by omega)
  have hw:=oq aN (by omega)
  have aE:=k.ba bB
  have aZ:l[t]?=some l[t]:=List.getElem?_eq_getElem aN
  have lv:l.take (t+1)=l.take t++[l[t]]:=List.take_succ_eq_append_getElem aN
  have qX:=YN (ended g time) (l.take t) l[t]
  have h8:=YN (fun y=>!ended g time y) (l.take t) l[t]
  rw [←lv] at qX h8
  generalize l[t]=p at aZ lv qX h8
  obtain ⟨j,r,ck,dW,x6,x7,_⟩:=xl aE.own aZ
  have fH:=k.ok p (List.mem_of_getElem? aZ)
  have ld:=Ls p r
  have H0:=i9 p
  have jo:=Im p
  have st:=Io p
  obtain ⟨H,hH⟩:∃ y,y=h1.push (.cells (br p) 292 none):=⟨_,rfl⟩
  have jL:H.get h1.n=.cells (br p) 292 none:=by rw [hH];exact cA
  have bA:J h1 H none_:=by rw [hH];exact J.push _ _ _
  have ef:=(aE.ba bA).get
  have IA:=mS.ba bA
  have IB:=ob.ba bA
  have hy:=bB.trans' bA
  have bX:IntKind.i64.wrap (p.to+g)=p.to+g:=Go.IntWalk.i64_in _ (by have:=fH.lo;have:=fH.le;have:=fH.hi;have:=k.g1;have:=k.g2;omega)
  simp only [af,Nat.reduceEqDiff,jZ,E9,CC,f14,f15,f16,d1,ck,x7,ld,H0,st]
  rw [←hH]
  clear hH
  refine aX.bk none_ [] (.q 0 (.c 1 (.q 2 (.q 3 (.q 4 (.q 5 (.q 6 (.q 7 (.q 8 .done))))))))) (by kernel_rfl) (by kernel_rfl) (by kernel_rfl) ?_
  simp only [af,bN,Nat.reduceEqDiff,jZ,jL,jo]
  refine ix rfl rfl rfl (fun h' _=>CZ p fH h') ?_
  cases e:decide (p.to+g≤time)
  ·have dh:ended g time p=false:=e
   rw [dh] at qX h8
   simp only [Bool.false_eq_true,if_false,List.append_nil,Bool.not_false,if_true] at qX h8
   obtain ⟨cF,bz,fB,sS,cz,n4⟩:=amk IB (by have:=List.length_filter_le (fun y=>!ended g time y) (l.take t);have:=List.length_take_le t l;omega) p
   have fq:=Yi H p
   simp only [af,bN,Nat.reduceEqDiff,Nat.reduceAdd,Nat.reduceLeDiff,reduceCtorEq,Cu,bx,jZ,f0,f1,f6,f16,jL,ef,bX,e,jo,fq,fB,hw]
   refine aF ⟨(t+1,a,cF),⟨f0,f1,f5,rfl,f14,f15,rfl,aN,hy.trans cz fun q ad ab=>by have:=AK q ab;omega,by simp only;rw [qX];exact IA.al cz fun q ad ab=>(iU q ad).2 ab,by simp only;rw [h8];exact sS,fun q ad=>⟨(iU q ad).1,fun ab=>?_⟩,fun q ad=>?_⟩,by simp only;omega⟩
   ·rcases n4 with n4 | n4
    ·rw [n4] at ab;exact (iU q ad).2 ab
    ·have:=n4 q ab;have:=IA.lt q ad;omega
   ·rcases n4 with n4 | n4
    ·exact AK q (by rw [←n4];exact ad)
    ·have:=n4 q ad;have:=hy.n;omega
  ·have dh:ended g time p=true:=e
   rw [dh] at qX h8
   simp only [Bool.not_true,Bool.false_eq_true,if_false,List.append_nil,if_true] at qX h8
   obtain ⟨hB,bz,fB,sS,cz,n4⟩:=Lu IA (by simp only [List.length_map];have:=List.length_filter_le (ended g time) (l.take t);have:=List.length_take_le t l;omega) (ha p)
   have fq:=Il H (ha p)
   simp only [af,bN,Nat.reduceEqDiff,Nat.reduceAdd,Nat.reduceLeDiff,reduceCtorEq,Cu,bx,jZ,f0,f1,f5,jL,ef,bX,e,jo]
   refine bU P9 (Q5 p fH _) ?_
   simp only [af,Nat.reduceEqDiff,f16,fq,fB,hw]
   refine aF ⟨(t+1,hB,b),⟨f0,f1,rfl,f6,f14,f15,rfl,aN,hy.trans cz fun q ad ab=>by have:=(iU q ab).1;omega,by simp only;rw [qX,List.map_append];exact sS,by simp only;rw [h8];exact IB.al cz fun q ad ab=>(iU q ab).2 ad,fun q ad=>?_,AK⟩,by simp only;omega⟩
   rcases n4 with n4 | n4
   ·exact iU q (by rw [←n4];exact ad)
   ·exact ⟨by have:=n4 q ad;have:=hy.n;omega,fun ab=>by have:=n4 q ad;have:=IB.lt q ab;omega⟩
 ·have d1:decide ((t:Int)<((l.length:Nat):Int))=false:=decide_eq_false (by omega)
  rw [List.take_of_length_le (by omega)] at mS ob
  have ef:=(k.ba bB).get
  have iD:b.one=true:=by
   rcases ob with ⟨rfl | rfl,_⟩ | ⟨_,_,_,_,_,rfl,_⟩<;>rfl
  have gx:b.cells=some [b]:=by
   rcases ob with ⟨rfl | rfl,_⟩ | ⟨_,_,_,_,_,rfl,_⟩<;>rfl
  have db:bR (some 1) (bb.cells [V.int .i64 room,V.int .i64 g,v] 275 none) 2 [b]=some (.cells [.int .i64 room,.int .i64 g,b] 275 none):=by rw [tf iD];rfl
  simp only [af,Nat.reduceEqDiff,reduceCtorEq,vJ,Qn,f0,f5,f6,f15,f16,d1,ef,gx,db,aU,Tryz.results113,ac]
  have cz:J h1 (h1.set i (.cells [V.int .i64 room,V.int .i64 g,b] 275 none)) (fun q=>q=i):=J.set _ _ _
  have Ar:aV b≠some i:=fun ab=>by have:=AK i ab;omega
  have amm:=bB.n
  have YO:=mS.al cz fun q ad ab=>by have:=(iU q ad).1;omega
  have YP:=ob.al cz fun q ad ab=>by have:=AK q ad;omega
  have aE:cW (h1.set i (.cells [V.int .i64 room,V.int .i64 g,b] 275 none)) i b room g (l.filter fun x=>!ended g time x) :=
   ⟨by rw [jt];omega,aP,YP,Ar,k.iV.filter _,fun y bd=>k.ok y (List.mem_filter.1 bd).1,Nat.le_trans (List.length_filter_le ..) M9,k.g1,k.g2⟩
  refine aF ⟨b,YO,iU,aE,?_,.inr fun q ad=>AK q ad⟩
  exact (bB.up (o:=kT i v)).trans cz fun q ad ab=>.inl ab
theorem amn {l:List aj} {x y:aj} (h:e8 x y=true):df l x=df l y:=by
 obtain ⟨h1,aa,aC⟩:=kx.1 h
 unfold df e8
 rw [h1,aa,aC]
theorem amo {l:List aj} {x y:aj} (h:e8 x y=true):eL l x=eL l y:=by
 obtain ⟨h1,aa,aC⟩:=kx.1 h
 unfold eL e8
 rw [h1,aa,aC]
theorem amp (h:I) (i:Nat) (v:V) (room g:Int) (l:List aj) (x:aj) (ag:ig x) (ab:df l x=true) (k:cW h i v room g l) :
  ae Tryz.prog 304 [.ptr i 0,.agg (aL (ha x))] h (fun r h'=>∃ v',r=.int .i64 0∧cW h' i v' room g (eL l x)∧J h h' (kT i v)∧bV h v v'):=by
 refine ae.ax (c:=_) Tryz.func304 rfl (by kernel_rfl) (by simp) ?_
 have cc:=Ir (ha x)
 have bh:List.drop 1 (aL (ha x))=[.int .i64 x.aJ,.int .i64 x.to,.int .i64 0,.bool true]:=rfl
 have bD:List.drop 2 (aL (ha x))=[.int .i64 x.to,.int .i64 0,.bool true]:=rfl
 have c3:List.drop 3 (aL (ha x))=[.int .i64 0,.bool true]:=rfl
 have ew:List.drop 4 (aL (ha x))=[.bool true]:=rfl
 have jo:=Iq (ha x)
 have h0:=ag.lo
 have h1:=ag.le
 have aa:=ag.hi
 have m1:jf x.aJ=true:=Fk.2 ⟨h0,by omega⟩
 have m2:jf x.to=true:=Fk.2 ⟨by omega,aa⟩
 have d1:decide (x.to<x.aJ)=false:=decide_eq_false (by omega)
 have ch:=k.lt
 obtain ⟨y,bd⟩:∃ y:aj,y=⟨x.key,x.aJ,x.to,0,false⟩:=⟨_,rfl⟩
 have IC:ig y:=by rw [bd];exact ⟨h0,h1,aa,rfl⟩
 have re:e8 x y=true:=by rw [bd];exact kx.2 ⟨rfl,rfl,rfl⟩
 have YQ:V.agg (br (ha x))=.agg (br y):=by rw [bd];rfl
 have Ni:df l y=true:=by rw [←amn re];exact ab
 rw [amo re]
 obtain ⟨H,hH⟩:∃ z,z=h.push (.cells (aL (ha x)) 40 none):=⟨_,rfl⟩
 have uQ:H.get h.n=.cells (aL (ha x)) 40 none:=by rw [hH];exact cA
 have bA:J h H none_:=by rw [hH];exact J.push _ _ _
 have j9:H.n=h.n+1:=by rw [hH];rfl
 simp only [af,Nat.reduceEqDiff,Nat.reduceLeDiff,reduceCtorEq,ou,E6,bx,cc,bh,lX]
 rw [←hH]
 clear hH
 refine bU Cl (C0 x.aJ H) ?_
 simp only [af,Nat.reduceEqDiff,Nat.reduceLeDiff,tG,bx,m1,uQ,bD,lX]
 refine bU Cl (C0 x.to H) ?_
 simp only [af,Nat.reduceEqDiff,Nat.reduceLeDiff,ou,tG,AR,xX,bx,o5,mH,m2,uQ,bh,bD,c3,ew,lX,d1]
 refine bU KU (Lr (ha x) H) ?_
 rw [YQ]
 have sn:=Im y
 have Be:=Io y
 have scc:=i9 y
 obtain ⟨bP,bE⟩:∃ z,z=H.push (.cells (br y) 292 none):=⟨_,rfl⟩
 have Fl:bP.get H.n=.cells (br y) 292 none:=by rw [bE];exact cA
 have mu:J H bP none_:=by rw [bE];exact J.push _ _ _
 have DW:bP.get h.n=.cells (aL (ha x)) 40 none:=(mu.get h.n (by omega) (by simp [none_])).trans uQ
 have k2:=(k.ba bA).ba mu
 simp only [af,Nat.reduceEqDiff,reduceCtorEq,jZ,E9,CC,sn,Be,scc]
 rw [←bE]
 clear bE
 refine bU KV (Lt bP i v room g l y IC k2) ?_
 simp only [af,Nat.reduceEqDiff,Nat.reduceLeDiff,reduceCtorEq,xX,jZ,o5,Ni,DW,Fl,ew,lX,sn]
 refine cy V2 (Yj bP i v room g l y IC Ni k2) fun r aC ⟨v2,pG,k3,n3⟩=>?_
 simp only [af,Nat.reduceEqDiff,aU,Tryz.results304,ac]
 exact aF ⟨v2,rfl,pG,((bA.up).trans' mu.up).trans' k3,bV.after n3 (Nat.le_trans bA.n mu.n)⟩
theorem amq (h:I) (i:Nat) (v:V) (room g:Int) (l:List aj) (x:aj) (ag:ig x) (eG:(l.length:Int)<room∨df l x=true) (az:l.length<1024∨df l x=true) (k:cW h i v room g l) :
  ae Tryz.prog 304 [.ptr i 0,.agg (aL x)] h (fun r h'=>∃ v',r=.int .i64 0∧cW h' i v' room g (jS (eL l x) x)∧J h h' (kT i v)∧bV h v v'):=by
 refine ae.ax (c:=_) Tryz.func304 rfl (by kernel_rfl) (by simp) ?_
 have cc:=Ir x
 have yn:=ag.del
 have bh:List.drop 1 (aL x)=[.int .i64 x.aJ,.int .i64 x.to,.int .i64 x.val,.bool false]:=by rw [←yn];rfl
 have bD:List.drop 2 (aL x)=[.int .i64 x.to,.int .i64 x.val,.bool false]:=by rw [←yn];rfl
 have c3:List.drop 3 (aL x)=[.int .i64 x.val,.bool false]:=by rw [←yn];rfl
 have ew:List.drop 4 (aL x)=[.bool false]:=by rw [←yn];rfl
 have jo:=Iq x
 have h0:=ag.lo
 have h1:=ag.le
 have aa:=ag.hi
 have m1:jf x.aJ=true:=Fk.2 ⟨h0,by omega⟩
 have m2:jf x.to=true:=Fk.2 ⟨by omega,aa⟩
 have d1:decide (x.to<x.aJ)=false:=decide_eq_false (by omega)
 have ch:=k.lt
 obtain ⟨H,hH⟩:∃ z,z=h.push (.cells (aL x) 40 none):=⟨_,rfl⟩
 have uQ:H.get h.n=.cells (aL x) 40 none:=by rw [hH];exact cA
 have bA:J h H none_:=by rw [hH];exact J.push _ _ _
 have j9:H.n=h.n+1:=by rw [hH];rfl
 simp only [af,Nat.reduceEqDiff,Nat.reduceLeDiff,reduceCtorEq,ou,E6,bx,cc,bh,lX]
 rw [←hH]
 clear hH
 refine bU Cl (C0 x.aJ H) ?_
 simp only [af,Nat.reduceEqDiff,Nat.reduceLeDiff,tG,bx,m1,uQ,bD,lX]
 refine bU Cl (C0 x.to H) ?_
 simp only [af,Nat.reduceEqDiff,Nat.reduceLeDiff,ou,tG,xX,bx,o5,mH,m2,uQ,bh,bD,ew,lX,d1]
 refine bU KU (Lr x H) ?_
 have sn:=Im x
 have Be:=Io x
 have scc:=i9 x
 obtain ⟨bP,bE⟩:∃ z,z=H.push (.cells (br x) 292 none):=⟨_,rfl⟩
 have Fl:bP.get H.n=.cells (br x) 292 none:=by rw [bE];exact cA
 have mu:J H bP none_:=by rw [bE];exact J.push _ _ _
 have DW:bP.get h.n=.cells (aL x) 40 none:=(mu.get h.n (by omega) (by simp [none_])).trans uQ
 have k2:=(k.ba bA).ba mu
 have lj:=k2.get
 have Rr:=k2.rH bP
 simp only [af,Nat.reduceEqDiff,reduceCtorEq,jZ,E9,CC,sn,Be,scc]
 rw [←bE]
 clear bE
 refine bU KV (Lt bP i v room g l x ag k2) ?_
 rcases k.iV.gZ x with ⟨aw,p,aW,cJ,km⟩ | ⟨aw,aW⟩
 ·obtain ⟨j,r,ck,dW,x6,x7,amr⟩:=xl k2.own aW
  obtain ⟨ob,EN,GX,y3⟩:=amr x
  have hp:j≠i:=fun ab=>k2.ne (by rw [dW,ab])
  simp only [af,Nat.reduceEqDiff,Nat.reduceLeDiff,xX,o5,aw,DW,ew,lX]
  refine aX.bk none_ [7] (.q 0 (.q 1 (.q 2 (.q 3 (.q 4 (.q 5 (.q 6 (.a 7 .done)))))))) (by kernel_rfl) (by kernel_rfl) (by kernel_rfl) ?_
  simp only [af,bN,Nat.reduceEqDiff,Nat.reduceAdd,Nat.reduceLeDiff,reduceCtorEq,vJ,zx,jZ,CC,Fl,lj,sn,scc,ck,EN,aU,Tryz.results304,ac]
  have r5:J bP (bP.set j ob) (fun q=>q=j):=J.set _ _ _
  refine aF ⟨v,rfl,⟨k2.lt,(kL (by omega)).trans lj,by rw [←k.iV.Ih aw];exact GX,k.ne,(k.iV.filter _).uO (qr l x),fun z bK=>?_,?_,k.g1,k.g2⟩,?_,.inl rfl⟩
  ·rcases Fj.1 bK with rfl | bK
   ·exact ag
   ·exact k.ok z (List.mem_filter.1 bK).1
  ·rw [←k.iV.Ih aw,List.length_set];exact k.len
  ·exact ((bA.up (o:=kT i v)).trans' mu.up).trans r5 fun q ad ab=>.inr (by subst ab;exact dW)
 ·have aH:(l.length:Int)<room:=by rcases eG with aH | aH;exact aH;rw [aw] at aH;cases aH
  have hll:l.length<1024:=by rcases az with aH | aH;exact aH;rw [aw] at aH;cases aH
  have d2:decide (room≤((l.length:Nat):Int))=false:=decide_eq_false (by omega)
  rw [alB aw]
  simp only [af,Nat.reduceEqDiff,Nat.reduceLeDiff,xX,o5,aw,DW,ew,lX]
  refine aX.bk none_ [] (.q 0 (.q 1 (.q 2 (.q 3 (.q 4 (.q 5 (.q 6 (.q 7 (.q 8 (.q 9 (.q 10 .done))))))))))) (by kernel_rfl) (by kernel_rfl) (by kernel_rfl) ?_
  simp only [af,bN,Nat.reduceEqDiff,Nat.reduceAdd,Nat.reduceLeDiff,reduceCtorEq,Qh,vJ,zx,jZ,bn,Fl,lj,Rr,sn,d2]
  refine cy V3 (Yk bP i v room g l x ag aw hll k2) fun r aC ⟨v2,pG,k3,n3⟩=>?_
  simp only [af,Nat.reduceEqDiff,aU,Tryz.results304,ac]
  exact aF ⟨v2,rfl,pG,((bA.up).trans' mu.up).trans' k3,bV.after n3 (Nat.le_trans bA.n mu.n)⟩
inductive dR where
 | kv
 | de (g:Int)
 | dZ (g:Int)
def DX (g aJ to:Int):Bool:=lC aJ&&decide (dF g aJ=aJ)&&decide (to=aJ+g)
def lG (c:aj):Bool:=c.del&&decide (c.val≠0)
def eS:dR→aj→Bool
 | .kv,c=>decide (c.aJ≠0)||decide (c.to≠0)||lG c
 | .de g,c=>!DX g c.aJ c.to||lG c
 | .dZ _,c=>!lC c.aJ||!lC c.to||decide (c.to<c.aJ)||lG c
def Rs:dR→Prop
 | .kv=>True
 | .de g=>1≤g∧g≤1048576
 | .dZ g=>1≤g∧g≤1048576
structure c8 (K:dR) (l:List aj):Prop where
 iV:ez l
 len:l.length≤1024
 ok:∀ x ∈ l,x.del=false∧eS K x=false
 g:Rs K
theorem c8.nil {K:dR} (av:Rs K):c8 K []:=⟨List.Pairwise.nil,by simp,by simp,av⟩
def hb (K:dR) (l:List aj) (c:aj):List aj×Int :=
 if eS K c then (l,5) else
 if c.del then (if df l c then (eL l c,0) else (l,6)) else
 if !df l c&&decide (1024≤l.length) then (l,3) else (jS (eL l c) c,0)
def gz (K:dR):List aj→List aj→Option (List aj)
 | l,[]=>some l
 | l,c::r=>if (hb K l c).2=0 then gz K (hb K l c).1 r else none
theorem YR (K:dR):∀ (l a b:List aj),gz K l (a++b)=(gz K l a).bind fun m=>gz K m b
 | l,[],b=>rfl
 | l,c::r,b=>by
  simp only [List.cons_append,gz]
  split
  ·exact YR K _ r b
  ·rfl
theorem Fo {l:List aj} {x y:aj}:y ∈ eL l x↔y ∈ l∧e8 y x=false:=by simp [eL]
theorem Fp {l:List aj} (h:ez l) (x:aj):ez (eL l x):=h.filter _
theorem YS (l:List aj) (x:aj):(eL l x).length≤l.length:=List.length_filter_le _ _
theorem c8.rm {K:dR} {l:List aj} (w:c8 K l) (x:aj):c8 K (eL l x) :=
 ⟨Fp w.iV x,Nat.le_trans (YS l x) w.len,fun y bd=>w.ok y (Fo.1 bd).1,w.g⟩
theorem c8.filter {K:dR} {l:List aj} (w:c8 K l) (p:aj→Bool):c8 K (l.filter p) :=
 ⟨w.iV.filter p,Nat.le_trans (List.length_filter_le _ _) w.len,fun y bd=>w.ok y (List.mem_filter.1 bd).1,w.g⟩
theorem c8.ins {K:dR} {l:List aj} (w:c8 K l) {x:aj} (ab:df l x=false) (hlen:l.length<1024) (a7:x.del=false) (ak:eS K x=false):c8 K (jS l x) :=
 ⟨w.iV.uO ab,by have:=w.iV.yG x;omega,fun y bd=>by
  rcases Fj.1 bd with rfl | bd
  ·exact ⟨a7,ak⟩
  ·exact w.ok y bd,w.g⟩
theorem Lw {l:List aj} {x:aj}:df l x=true↔∃ y ∈ l,e8 y x=true:=by simp [df]
theorem ams {l:List aj} (h:ez l) {x:aj} (ag:df l x=true):(eL l x).length<l.length:=by have:=X4 h ag;omega
theorem c8.set {K:dR} {l:List aj} (w:c8 K l) {x:aj} (aq:(!df l x&&decide (1024≤l.length))=false) (a7:x.del=false) (ak:eS K x=false):c8 K (jS (eL l x) x):=by
 refine (w.rm x).ins (qr l x) ?_ a7 ak
 cases ab:df l x
 ·rw [ab] at aq
  have:=YS l x
  simp at aq;omega
 ·have:=ams w.iV ab
  have:=w.len
  omega
theorem c8.YT {K:dR} {l:List aj} (w:c8 K l) (c:aj):c8 K (hb K l c).1:=by
 unfold hb
 split
 ·exact w
 rename_i ak
 split
 ·split
  ·exact w.rm c
  ·exact w
 rename_i a7
 split
 ·exact w
 rename_i aq
 exact w.set (by simpa using aq) (by simpa using a7) (by simpa using ak)
theorem c8.gz {K:dR}:∀ {cs l m:List aj},c8 K l→gz K l cs=some m→c8 K m
 | [],l,m,w,h=>by cases h;exact w
 | c::r,l,m,w,h=>by
  unfold Pk.gz at h
  split at h
  ·exact c8.gz (w.YT c) h
  ·cases h
theorem YU {K:dR} {l:List aj} {c:aj} (ak:eS K c=false) (a7:c.del=false) (aq:(!df l c&&decide (1024≤l.length))=false):hb K l c=(jS (eL l c) c,0):=by
 unfold hb
 rw [if_neg (by simp [ak]),if_neg (by simp [a7]),if_neg (by rw [aq];decide)]
theorem YV {K:dR} {l:List aj} {c:aj} (ak:eS K c=false) (a7:c.del=true) (ab:df l c=true):hb K l c=(eL l c,0):=by
 unfold hb
 rw [if_neg (by simp [ak]),if_pos a7,if_pos ab]
theorem amt (l:List aj) (x:aj):df l (ha x)=df l x:=rfl
theorem amu (l:List aj) (x:aj):eL l (ha x)=eL l x:=rfl
theorem amv {K:dR} {x:aj} (h:eS K x=false):eS K (ha x)=false:=by
 have aD:lG (ha x)=false:=by simp [lG,ha]
 cases K<;>simp only [eS,Bool.or_eq_false_iff] at h⊢<;>simp_all [ha]<;>exact decide_eq_false (by show ¬x.to<x.aJ;omega)
theorem Rt {K:dR}:∀ (A:List aj) {l:List aj},ez l→(∀ x ∈ A,x ∈ l∧eS K x=false)→A.Pairwise (fun a b=>e8 b a=false)→gz K l (A.map ha)=some (fR l A)
 | [],l,_,_,_=>by rw [List.map_nil,X5];rfl
 | x::A,l,U,hI,aZ=>by
  have ag:=hI x (by simp)
  have Nj:=List.pairwise_cons.1 aZ
  rw [List.map_cons,gz,YV (amv ag.2) rfl (by rw [amt];exact X2 ag.1),if_pos rfl,amu]
  rw [Rt A (Fp U x) (fun y bd=>⟨Fo.2 ⟨(hI y (by simp [bd])).1,Nj.1 y bd⟩,(hI y (by simp [bd])).2⟩) Nj.2]
  congr 1
  unfold fR eL
  rw [List.filter_filter]
  refine List.filter_congr fun y _=>?_
  simp only [List.all_cons]
  rw [Bool.and_comm]
theorem amw {K:dR} {l:List aj} (w:c8 K l) (p:aj→Bool) {cs:List aj} (au:cs.Perm ((l.filter p).map ha)):gz K l cs=some (l.filter fun y=>!p y):=by
 have:∃ A:List aj,A.Perm (l.filter p)∧cs=A.map ha:=by
  clear w
  generalize l.filter p=B at au
  obtain ⟨C,nx⟩:∃ C,C=B.map ha:=⟨_,rfl⟩
  rw [←nx] at au
  induction au generalizing B with
  | nil=>
   have:B=[]:=by simpa using nx.symm
   subst this;exact ⟨[],.refl _,rfl⟩
  | cons x h ih=>
   cases B with
   | nil=>cases nx
   | cons b B=>
    rw [List.map_cons] at nx
    obtain ⟨cn,cO⟩:=List.cons.inj nx
    obtain ⟨A,hI,e⟩:=ih B cO
    exact ⟨b::A,hI.cons b,by rw [List.map_cons,e,cn]⟩
  | swap x y t=>
   cases B with
   | nil=>cases nx
   | cons b B=>
    cases B with
    | nil=>rw [List.map_cons] at nx;have:=(List.cons.inj nx).2;cases this
    | cons bW B=>
     rw [List.map_cons,List.map_cons] at nx
     obtain ⟨cn,cO⟩:=List.cons.inj nx
     obtain ⟨fg,ju⟩:=List.cons.inj cO
     exact ⟨bW::b::B,List.Perm.swap _ _ _,by rw [List.map_cons,List.map_cons,cn,fg,ju]⟩
  | trans h1 aa wF Ax=>
   obtain ⟨A,hI,e⟩:=Ax B nx
   obtain ⟨A2,ku,aW⟩:=wF A e
   exact ⟨A2,ku.trans hI,aW⟩
 obtain ⟨A,hI,rfl⟩:=this
 have ej:∀ x,x ∈ A↔x ∈ l∧p x=true:=fun x=>by rw [hI.mem_iff,List.mem_filter]
 have YW:A.Pairwise (fun a b=>e8 b a=false):=by
  refine (hI.pairwise_iff (R:=fun a b=>e8 b a=false) fun {a b} h=>?_).2 ?_
  ·rw [←h,Bool.eq_iff_iff,kx,kx];constructor<;>(rintro ⟨h1,aa,aC⟩;exact ⟨h1.symm,aa.symm,aC.symm⟩)
  ·refine (w.iV.filter p).imp fun {a b} h=>?_
   cases U:e8 b a
   ·rfl
   ·rw [kx] at U
    unfold eu at h
    omega
 rw [Rt A w.iV (fun x ag=>⟨((ej x).1 ag).1,(w.ok x ((ej x).1 ag).1).2⟩) YW]
 congr 1
 unfold fR
 refine List.filter_congr fun y bd=>?_
 rw [Bool.eq_iff_iff,List.all_eq_true,Bool.not_eq_true']
 constructor
 ·intro h
  cases YX:p y
  ·rfl
  ·have:=h y ((ej y).2 ⟨bd,YX⟩)
   rw [Bool.not_eq_true'] at this
   have aa:e8 y y=true:=kx.2 ⟨rfl,rfl,rfl⟩
   rw [aa] at this;cases this
 ·intro h x ag
  rw [Bool.not_eq_true']
  cases U:e8 y x
  ·rfl
  ·have:=w.iV.uniq bd ((ej x).1 ag).1 U
   subst this
   rw [((ej y).1 ag).2] at h;cases h
def valOf (l:List aj) (x:aj):Int:=((l.filter fun y=>e8 y x).map (·.val)).headD 0
def n9:dR→Int→Int→Int→aj
 | .kv,k,_,v=>⟨k,0,0,v,false⟩
 | .de g,k,t,v=>⟨k,dF g t,dF g t+g,v,false⟩
 | .dZ _,k,t,v=>⟨k,t,t,v,false⟩
def p5 (l:List aj) (x:aj):List aj:=jS (eL l x) x
def qJ:dR→List aj→Int→Int→Int→List aj
 | .kv,_,k,t,v=>[n9 .kv k t v]
 | .de g,_,k,t,v=>[n9 (.de g) k t v]
 | .dZ g,l,k,t,v=>iE g l k t v
def p6:dR→List aj→Int→Int→Int→List aj
 | .kv,l,k,t,v=>p5 l (n9 .kv k t v)
 | .de g,l,k,t,v=>p5 l (n9 (.de g) k t v)
 | .dZ g,l,k,t,v=>rI g l k t v
def qK:dR→List aj→Int→Int→Bool
 | .kv,l,k,t=>!df l (n9 .kv k t 0)&&decide (1024≤l.length)
 | .de g,l,k,t=>!df l (n9 (.de g) k t 0)&&decide (1024≤l.length)
 | .dZ g,l,k,t=>(found g l k t).isEmpty&&decide (1024≤l.length)
def zH:dR→List aj→Int→Int→Int
 | .kv,_,_,t=>t
 | .de g,_,_,t=>dF g t
 | .dZ g,l,k,t=>jT t (found g l k t)
def Fq:dR→List aj→Int→Int→Int
 | .kv,l,k,t=>valOf l (n9 .kv k t 0)
 | .de g,l,k,t=>valOf l (n9 (.de g) k t 0)
 | .dZ g,l,k,t=>o7 (found g l k t)
theorem amx {n t:Int} (h0:0≤t) (h1:1≤n):dF n (dF n t)=dF n t:=by
 have aH:=CW h0 h1
 unfold dF at *
 have aa:t.tmod n=t % n:=Int.tmod_eq_emod_of_nonneg h0
 rw [aa] at aH⊢
 have aC:(t - t % n).tmod n=(t - t % n) % n:=Int.tmod_eq_emod_of_nonneg (by omega)
 rw [aC,Int.sub_emod,Int.emod_emod_of_dvd _ (Int.dvd_refl n),Int.sub_self]
 simp
theorem YY {K:dR} (av:Rs K) {k t v:Int} (bq:lC t=true):eS K (n9 K k t v)=false:=by
 have iO:=bq
 simp only [lC,decide_eq_true_eq] at iO
 cases K with
 | kv=>simp [eS,n9,lG]
 | de g=>
  have aH:=CW iO.1 av.1
  have:lC (dF g t)=true:=by simp only [lC,decide_eq_true_eq];omega
  simp [eS,n9,lG,DX,amx iO.1 av.1,this]
 | dZ g=>simp [eS,n9,lG,bq]
theorem amy {g:Int} {x:aj} (h:x.del=false∧eS (.dZ g) x=false):ig x:=by
 obtain ⟨h1,aa⟩:=h
 simp only [eS,Bool.or_eq_false_iff,Bool.not_eq_false',lC,decide_eq_true_eq,decide_eq_false_iff_not] at aa
 exact ⟨by omega,by omega,by omega,h1⟩
theorem YZ {g:Int} {x:aj} (h:ig x):eS (.dZ g) x=false:=by
 have h1:=h.lo
 have aa:=h.le
 have aC:=h.hi
 simp only [eS,Bool.or_eq_false_iff,Bool.not_eq_false',lC,decide_eq_true_eq,decide_eq_false_iff_not,lG,h.del,Bool.false_and,and_true]
 omega
theorem Ru {K:dR} {l:List aj} {x:aj} (ak:eS K x=false) (a7:x.del=false) (aq:(!df l x&&decide (1024≤l.length))=false):gz K l [x]=some (p5 l x):=by
 rw [gz,YU ak a7 aq,if_pos rfl];rfl
theorem c8.ID {K:dR} {l:List aj} (w:c8 K l) {k t v:Int} (bq:lC t=true) (aq:qK K l k t=false):Pk.gz K l (qJ K l k t v)=some (p6 K l k t v):=by
 have iO:=bq
 simp only [lC,decide_eq_true_eq] at iO
 cases K with
 | kv=>exact Ru (YY w.g bq) rfl aq
 | de g=>exact Ru (YY w.g bq) rfl aq
 | dZ g=>
  have av:0≤g:=by have:=w.g.1;omega
  have Rv:∀ x ∈ l,ig x:=fun x ag=>amy (w.ok x ag)
  have r8:=Q2 (g:=g) Rv (k:=k) v iO.1 (by omega)
  unfold qJ iE
  rw [YR]
  have mV:∀ x ∈ (found g l k t).filter (lD (e3 g l k t v)),x ∈ l:=fun x ag=>(List.mem_filter.1 (List.mem_filter.1 ag).1).1
  have Y0:ez ((found g l k t).filter (lD (e3 g l k t v))):=(w.iV.filter _).filter _
  rw [Rt _ w.iV (fun x ag=>⟨mV x ag,(w.ok x (mV x ag)).2⟩) (Y0.imp fun {a b} h=>by
   cases U:e8 b a
   ·rfl
   ·rw [kx] at U
    unfold eu at h
    omega)]
  rw [Option.bind_some]
  have nE:fR l ((found g l k t).filter (lD (e3 g l k t v)))=l.filter fun y=>!((nc g k t y)&&lD (e3 g l k t v) y):=by
   have:(found g l k t).filter (lD (e3 g l k t v))=l.filter fun y=>(nc g k t y)&&lD (e3 g l k t v) y:=by
    unfold found;rw [List.filter_filter];refine List.filter_congr fun y _=>?_;rw [Bool.and_comm]
   rw [this,X6 w.iV]
  have oZ:=alJ av w.iV k t v
  generalize eR:fR l ((found g l k t).filter (lD (e3 g l k t v)))=R at *
  have apP:ez R:=by rw [←eR];exact w.iV.fR _
  have yF:R.length≤l.length:=by rw [nE];exact List.length_filter_le _ _
  rw [Ru (YZ r8) r8.del ?_]
  ·unfold p5
   rw [oZ];rfl
  ·cases ab:df R (e3 g l k t v)
   ·simp only [Bool.not_false,Bool.true_and,decide_eq_false_iff_not]
    intro au
    have AG:=w.len
    have j0:qK (.dZ g) l k t=false:=aq
    simp only [qK,Bool.and_eq_false_iff,List.isEmpty_eq_false_iff,decide_eq_false_iff_not] at j0
    rcases j0 with j0 | j0
    ·
     have Nk:R.length=l.length:=by omega
     have dt:∀ x ∈ l,x ∈ R:=fun x ag=>by
      rw [nE] at Nk⊢
      have:=List.length_filter_eq_length_iff.1 Nk x ag
      exact List.mem_filter.2 ⟨ag,this⟩
     obtain ⟨x,ag⟩:=List.exists_mem_of_ne_nil _ j0
     have oG:=(List.mem_filter.1 ag)
     have Nl:=dt x oG.1
     rw [nE] at Nl
     have yH:=(List.mem_filter.1 Nl).2
     rw [oG.2,Bool.true_and] at yH
     have Rw:=(d6.1 oG.2).1
     have:e8 x (e3 g l k t v)=true:=kx.2 (by
      simp only [lD,Bool.not_eq_true',Bool.or_eq_false_iff,decide_eq_false_iff_not,Decidable.not_not] at yH
      exact ⟨Rw,yH.1,yH.2⟩)
     have fN:df R (e3 g l k t v)=true:=Lw.2 ⟨x,dt x oG.1,this⟩
     rw [fN] at ab;cases ab
    ·omega
   ·rfl
theorem c8.jR {K:dR} {l:List aj} (w:c8 K l) {k t:Int} (v:Int) (bq:lC t=true) (aq:qK K l k t=false):c8 K (p6 K l k t v):=c8.gz w (w.ID bq aq)
def xn:dR→Int→aj→Bool
 | .kv,_,_=>false
 | .de g,m,x=>decide (0≤m)&&decide (x.to≤m - g)
 | .dZ g,m,x=>decide (x.to+g≤m)
def C6 (l:List aj):List aj:=l.mergeSort fun a b=>!p4 b a
def Bk:dR→List aj→List aj
 | .kv,l=>l
 | .de _,l=>C6 l
 | .dZ _,l=>l
def gA (K:dR) (m:Int) (l:List aj):List aj:=Bk K ((l.filter (xn K m)).map ha)
def gM (K:dR) (m:Int) (l:List aj):List aj:=l.filter fun x=>!xn K m x
theorem Rx (K:dR) (l:List aj):(Bk K l).Perm l:=by cases K<;>first | exact .refl _ | exact List.mergeSort_perm _ _
theorem c8.Ry {K:dR} {l:List aj} (w:c8 K l) (m:Int):Pk.gz K l (gA K m l)=some (gM K m l):=amw w _ (Rx K _)
theorem c8.gM {K:dR} {l:List aj} (w:c8 K l) (m:Int):c8 K (Pk.gM K m l):=w.filter _
theorem amz (l:List aj):zG (C6 l):=by
 unfold zG C6
 have:=List.pairwise_mergeSort (le:=fun a b=>!p4 b a) (l:=l) (fun a b c h1 aa=>?_) (fun a b=>?_)
 ·exact this.imp fun {a b} h=>by simpa using h
 ·simp only [p4,Bool.not_eq_true',decide_eq_false_iff_not] at *
  omega
 ·simp only [p4,Bool.or_eq_true,Bool.not_eq_true',decide_eq_false_iff_not]
  omega
theorem Y1 {l lc:List aj} (aZ:lc.Perm l) (U:zG lc) (aG:(l.map pH).Nodup):lc=C6 l :=
 YK (aZ.trans (List.mergeSort_perm _ _).symm) U (amz l) ((aZ.map pH).nodup_iff.2 aG)
def Y2:dR→Int→Int→Bool
 | .kv,_,_=>false
 | .de g,t,m=>decide (dF g t+g≤m)
 | .dZ g,t,m=>decide (t+g≤m)
def eE (g:Int) (e:eg) (l:List aj):Prop:=(e.map (sV g)).Perm l
def mv (g k aJ v:Int):aj:=⟨k,aJ,aJ+g,v,false⟩
theorem eE.mem {g:Int} {e:eg} {l:List aj} (h:eE g e l) (x:aj):x ∈ l↔∃ s k aJ v,(s,(k,aJ),v) ∈ e∧x=mv g k aJ v:=by
 rw [←h.mem_iff,List.mem_map]
 constructor
 ·rintro ⟨⟨s,⟨k,aJ⟩,v⟩,h1,rfl⟩;exact ⟨s,k,aJ,v,h1,rfl⟩
 ·rintro ⟨s,k,aJ,v,h1,rfl⟩;exact ⟨_,h1,rfl⟩
theorem Lx {e:eg} (aG:dD e) {k aJ v:Int}:b7 e (k,aJ)=some v↔∃ s,(s,(k,aJ),v) ∈ e:=by
 constructor
 ·intro h
  clear aG
  induction e with
  | nil=>cases h
  | cons a r ih=>
   unfold b7 at h
   split at h
   ·rename_i hk
    obtain ⟨s,kk,cp⟩:=a
    simp only at hk h
    subst hk
    cases h
    exact ⟨s,by simp⟩
   ·obtain ⟨s,U⟩:=ih h
    exact ⟨s,by simp [U]⟩
 ·rintro ⟨s,U⟩
  exact GI aG U
theorem eE.sX {g:Int} {e:eg} {l:List aj} (h:eE g e l) (aG:dD e) (x:aj):x ∈ l↔∃ k aJ v,b7 e (k,aJ)=some v∧x=mv g k aJ v:=by
 rw [h.mem x]
 constructor
 ·rintro ⟨s,k,aJ,v,h1,aa⟩;exact ⟨k,aJ,v,(Lx aG).2 ⟨s,h1⟩,aa⟩
 ·rintro ⟨k,aJ,v,h1,aa⟩
  obtain ⟨s,U⟩:=(Lx aG).1 h1
  exact ⟨s,k,aJ,v,U,aa⟩
theorem amA {l:List aj} (h:ez l):l.Nodup:=h.imp fun {a b} az e=>by subst e;unfold eu at az;omega
theorem AC {g:Int} {e:eg} (aG:dD e):(e.map (sV g)).Nodup:=by
 have:((e.map (sV g)).map pH).Nodup:=by
  rw [List.map_map]
  have aw:(pH ∘ sV g)=fun x:Nat×(Int×Int)×Int=>x.2.1:=rfl
  rw [aw];exact aG
 exact List.Pairwise.of_map pH (fun a b h e=>h (by rw [e])) this
theorem eE.of {g:Int} {e:eg} {l:List aj} (aG:dD e) (U:ez l) (h:∀ x,x ∈ l↔∃ k aJ v,b7 e (k,aJ)=some v∧x=mv g k aJ v):eE g e l:=by
 refine (List.perm_ext_iff_of_nodup (AC aG) (amA U)).2 fun x=>?_
 rw [h x,List.mem_map]
 constructor
 ·rintro ⟨⟨s,⟨k,aJ⟩,v⟩,h1,rfl⟩;exact ⟨k,aJ,v,(Lx aG).2 ⟨s,h1⟩,rfl⟩
 ·rintro ⟨k,aJ,v,h1,rfl⟩
  obtain ⟨s,U⟩:=(Lx aG).1 h1
  exact ⟨_,U,rfl⟩
theorem C7 {g:Int} {k aJ v k2 qu v2:Int}:e8 (mv g k aJ v) (mv g k2 qu v2)=decide (k=k2∧aJ=qu):=by
 rw [Bool.eq_iff_iff,kx,decide_eq_true_eq]
 simp only [mv]
 constructor
 ·rintro ⟨h1,aa,_⟩;exact ⟨h1,aa⟩
 ·rintro ⟨rfl,rfl⟩;exact ⟨rfl,rfl,rfl⟩
theorem eE.len {g:Int} {e:eg} {l:List aj} (h:eE g e l):e.length=l.length:=by have:=h.length_eq;simpa using this
theorem eE.has {g:Int} {e:eg} {l:List aj} (h:eE g e l) (aG:dD e) {x:aj} {k aJ v:Int} (ag:x=mv g k aJ v):df l x=(b7 e (k,aJ)).isSome:=by
 subst ag
 rw [Bool.eq_iff_iff,Lw]
 constructor
 ·rintro ⟨y,bd,U⟩
  obtain ⟨k2,qu,v2,h1,rfl⟩:=(h.sX aG y).1 bd
  rw [C7,decide_eq_true_eq] at U
  obtain ⟨rfl,rfl⟩:=U
  rw [h1];rfl
 ·intro U
  obtain ⟨v2,aD⟩:=Option.isSome_iff_exists.1 U
  exact ⟨mv g k aJ v2,(h.sX aG _).2 ⟨k,aJ,v2,aD,rfl⟩,by rw [C7];simp⟩
theorem amB {l:List aj} (U:ez l) {x y:aj} (bd:y ∈ l) (h:e8 y x=true):l.filter (fun z=>e8 z x)=[y]:=by
 induction l with
 | nil=>cases bd
 | cons a r ih=>
  have aZ:=List.pairwise_cons.1 U
  rcases List.mem_cons.1 bd with rfl | bd
  ·rw [List.filter_cons_of_pos (p:=fun z=>e8 z x) h]
   congr 1
   rw [List.filter_eq_nil_iff]
   intro z bK IE
   have az:=aZ.1 z bK
   rw [kx] at h IE
   unfold eu at az
   omega
  ·rw [List.filter_cons_of_neg (p:=fun z=>e8 z x)]
   ·exact ih aZ.2 bd
   ·intro aO
    have az:=aZ.1 y bd
    rw [kx] at h aO
    unfold eu at az
    omega
theorem Y3 {l:List aj} (U:ez l) {x y:aj} (bd:y ∈ l) (h:e8 y x=true):valOf l x=y.val:=by
 unfold valOf;rw [amB U bd h];rfl
theorem Y4 {l:List aj} {x:aj} (h:df l x=false):valOf l x=0:=by
 unfold valOf
 have:l.filter (fun z=>e8 z x)=[]:=by
  rw [List.filter_eq_nil_iff]
  intro z bK IE
  have:=Lw.2 ⟨z,bK,IE⟩
  rw [this] at h;cases h
 rw [this];rfl
theorem eE.val {g:Int} {e:eg} {l:List aj} (h:eE g e l) (aG:dD e) (U:ez l) {k aJ v:Int}:valOf l (mv g k aJ v)=(b7 e (k,aJ)).getD 0:=by
 cases hk:b7 e (k,aJ) with
 | none=>rw [Y4 (by rw [h.has aG rfl,hk];rfl)];rfl
 | some u=>rw [Y3 U ((h.sX aG (mv g k aJ u)).2 ⟨k,aJ,u,hk,rfl⟩) (by rw [C7];simp)];rfl
theorem eE.set {g:Int} {e:eg} {l:List aj} (h:eE g e l) (aG:dD e) (U:ez l) (cl:Nat) (k aJ v:Int):eE g (cC cl e (k,aJ) v) (p5 l (mv g k aJ v)):=by
 refine eE.of (aG.set _ _ _) ((Fp U _).uO (qr _ _)) fun x=>?_
 unfold p5
 rw [Fj,Fo]
 constructor
 ·rintro (rfl | ⟨h1,aa⟩)
  ·exact ⟨k,aJ,v,by rw [B6,if_pos rfl],rfl⟩
  ·obtain ⟨k2,qu,v2,aC,rfl⟩:=(h.sX aG x).1 h1
   rw [C7,decide_eq_false_iff_not] at aa
   exact ⟨k2,qu,v2,by rw [B6,if_neg (fun q=>aa (by cases q;exact ⟨rfl,rfl⟩))];exact aC,rfl⟩
 ·rintro ⟨k2,qu,v2,aC,rfl⟩
  rw [B6] at aC
  by_cases hk:(k2,qu)=(k,aJ)
  ·rw [if_pos hk] at aC
   cases hk
   cases aC
   exact .inl rfl
  ·rw [if_neg hk] at aC
   refine .inr ⟨(h.sX aG _).2 ⟨k2,qu,v2,aC,rfl⟩,?_⟩
   rw [C7,decide_eq_false_iff_not]
   rintro ⟨rfl,rfl⟩
   exact hk rfl
theorem amC {l:List aj} {x y:aj} (h:e8 x y=true):eL l x=eL l y:=by
 unfold eL
 refine List.filter_congr fun z _=>?_
 rw [kx] at h
 have:e8 z x=e8 z y:=by rw [Bool.eq_iff_iff,kx,kx,h.1,h.2.1,h.2.2]
 rw [this]
theorem eE.del {g:Int} {e:eg} {l:List aj} (h:eE g e l) (aG:dD e) (U:ez l) {k aJ:Int} {c:aj} (au:e8 c (mv g k aJ 0)=true):eE g (fD e (k,aJ)) (eL l c):=by
 rw [amC au]
 refine eE.of (aG.del _) (Fp U _) fun x=>?_
 rw [Fo]
 constructor
 ·rintro ⟨h1,aa⟩
  obtain ⟨k2,qu,v2,aC,rfl⟩:=(h.sX aG x).1 h1
  rw [C7,decide_eq_false_iff_not] at aa
  exact ⟨k2,qu,v2,by rw [pm aG,if_neg (fun q=>aa (by cases q;exact ⟨rfl,rfl⟩))];exact aC,rfl⟩
 ·rintro ⟨k2,qu,v2,aC,rfl⟩
  rw [pm aG] at aC
  split at aC
  ·cases aC
  ·rename_i hk
   refine ⟨(h.sX aG _).2 ⟨k2,qu,v2,aC,rfl⟩,?_⟩
   rw [C7,decide_eq_false_iff_not]
   rintro ⟨rfl,rfl⟩
   exact hk rfl
theorem eE.filter {g b:Int} {e:eg} {l:List aj} (h:eE g e l):eE g (e.filter fun x=>!l5 g b x) (l.filter fun x=>!decide (x.to≤b)):=by
 unfold eE
 have:=List.Perm.filter (fun x:aj=>!decide (x.to≤b)) (show (e.map (sV g)).Perm l from h)
 rw [List.filter_map] at this
 exact this
theorem eE.gone {g b:Int} {e:eg} {l lc:List aj} (h:eE g e l) (aZ:lc.Perm ((e.filter (l5 g b)).map (x9 g))):lc.Perm ((l.filter fun x=>decide (x.to≤b)).map ha):=by
 refine aZ.trans ?_
 have:=(List.Perm.filter (fun x:aj=>decide (x.to≤b)) (show (e.map (sV g)).Perm l from h)).map ha
 rw [List.filter_map,List.map_map] at this
 exact this
theorem Y5 {g:Int} {l:List aj} (w:c8 (.de g) l):(l.map pH).Nodup:=by
 refine List.pairwise_map.2 (w.iV.imp_of_mem fun {a b} aO ak az l0=>?_)
 have h1:=w.ok a aO
 have aa:=w.ok b ak
 simp only [eS,DX,Bool.or_eq_false_iff,Bool.not_eq_false',Bool.and_eq_true,decide_eq_true_eq] at h1 aa
 have aw:a.key=b.key:=congrArg Prod.fst l0
 have aW:a.aJ=b.aJ:=congrArg Prod.snd l0
 unfold eu at az
 omega
theorem eE.list {g:Int} {e:eg} {l lc:List aj} (w:c8 (.de g) l) (h:eE g e l) (aZ:lc.Perm (e.map (sV g))) (U:zG lc):lc=C6 l:=Y1 (aZ.trans h) U (Y5 w)
theorem eE.exp {g b:Int} {e:eg} {l lc:List aj} (w:c8 (.de g) l) (h:eE g e l) (aZ:lc.Perm ((e.filter (l5 g b)).map (x9 g))) (U:zG lc):lc=C6 ((l.filter fun x=>decide (x.to≤b)).map ha):=by
 refine Y1 (h.gone aZ) U ?_
 rw [List.map_map]
 have aw:(pH ∘ ha)=pH:=rfl
 rw [aw]
 exact (Y5 w).sublist (List.filter_sublist.map _)
def oO (p:dd):aj:=⟨p.1,0,0,p.2,false⟩
theorem Y6 {l:List dd} (U:hS l) {k v:Int}:(k,v) ∈ l↔look l k=some v:=⟨fun h=>Lk U h,Ll⟩
theorem Bl {l:List dd} (U:hS l) {x:aj}:x ∈ l.map oO↔∃ k v,look l k=some v∧x=⟨k,0,0,v,false⟩:=by
 rw [List.mem_map]
 constructor
 ·rintro ⟨⟨k,v⟩,h1,rfl⟩;exact ⟨k,v,(Y6 U).1 h1,rfl⟩
 ·rintro ⟨k,v,h1,rfl⟩;exact ⟨_,(Y6 U).2 h1,rfl⟩
theorem Fs {l:List dd} (U:hS l):ez (l.map oO):=by
 refine List.pairwise_map.2 (U.imp fun {a b} h=>?_)
 exact .inl h
theorem C8 {k k2 v v2:Int} {d d2:Bool}:e8 ⟨k,0,0,v,d⟩ ⟨k2,0,0,v2,d2⟩=decide (k=k2):=by
 rw [Bool.eq_iff_iff,kx,decide_eq_true_eq]
 simp
theorem IF {l:List dd} (U:hS l) {k v:Int} {d:Bool}:df (l.map oO) ⟨k,0,0,v,d⟩=has l k:=by
 rw [Bool.eq_iff_iff,Lw]
 unfold has
 constructor
 ·rintro ⟨y,bd,h⟩
  obtain ⟨k2,v2,h1,rfl⟩:=(Bl U).1 bd
  rw [C8,decide_eq_true_eq] at h
  subst h
  rw [h1];rfl
 ·intro h
  obtain ⟨v2,aD⟩:=Option.isSome_iff_exists.1 h
  exact ⟨_,(Bl U).2 ⟨k,v2,aD,rfl⟩,by rw [C8];simp⟩
theorem Y7 {l:List dd} (U:hS l) {k v:Int} {d:Bool}:valOf (l.map oO) ⟨k,0,0,v,d⟩=(look l k).getD 0:=by
 cases hk:look l k with
 | none=>rw [Y4 (by rw [IF U,has,hk];rfl)];rfl
 | some u=>rw [Y3 (Fs U) ((Bl U).2 ⟨k,u,hk,rfl⟩) (by rw [C8];simp)];rfl
theorem Y8 {l:List dd} (U:hS l) (k v:Int):(put l k v).map oO=p5 (l.map oO) ⟨k,0,0,v,false⟩:=by
 refine ez.rJ (Fs (H2 U k v)) ((Fp (Fs U) _).uO (qr _ _)) fun x=>?_
 unfold p5
 rw [Bl (H2 U k v),Fj,Fo,Bl U]
 constructor
 ·rintro ⟨k2,v2,h1,rfl⟩
  rw [Li l k v k2 U] at h1
  split at h1
  ·rename_i e;subst e;cases h1;exact .inl rfl
  ·rename_i e;exact .inr ⟨⟨k2,v2,h1,rfl⟩,by rw [C8,decide_eq_false_iff_not];exact e⟩
 ·rintro (rfl | ⟨⟨k2,v2,h1,rfl⟩,aa⟩)
  ·exact ⟨k,v,by rw [Li l k v k U,if_pos rfl],rfl⟩
  ·rw [C8,decide_eq_false_iff_not] at aa
   exact ⟨k2,v2,by rw [Li l k v k2 U,if_neg aa];exact h1,rfl⟩
theorem amD {l:List dd} (U:hS l) (k v:Int) (d:Bool):(rm l k).map oO=eL (l.map oO) ⟨k,0,0,v,d⟩:=by
 refine ez.rJ (Fs (H3 U k)) (Fp (Fs U) _) fun x=>?_
 rw [Bl (H3 U k),Fo,Bl U]
 constructor
 ·rintro ⟨k2,v2,h1,rfl⟩
  rw [Lj l k k2 U] at h1
  split at h1
  ·cases h1
  ·rename_i e;exact ⟨⟨k2,v2,h1,rfl⟩,by rw [C8,decide_eq_false_iff_not];exact e⟩
 ·rintro ⟨⟨k2,v2,h1,rfl⟩,aa⟩
  rw [C8,decide_eq_false_iff_not] at aa
  exact ⟨k2,v2,by rw [Lj l k k2 U,if_neg aa];exact h1,rfl⟩
end Go.Proofs.YtedkjhifbibpmaaGreatDoor.Pk
