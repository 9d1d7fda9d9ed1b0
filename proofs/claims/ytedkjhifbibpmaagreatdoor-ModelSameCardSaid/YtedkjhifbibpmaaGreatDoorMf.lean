/-
  What functions of the program do, told of abstract states. Conditions: as each theorem says.
-/
import Derived.Test.YtedkjhifbibpmaaGreatDoorMe
import Derived.Test.YtedkjhifbibpmaaGreatDoorAbD
set_option linter.unusedVariables false
set_option linter.unusedSimpArgs false
set_option maxHeartbeats 4000000
set_option maxRecDepth 10000
namespace Go.Proofs.YtedkjhifbibpmaaGreatDoor.Pk
open Go Go.Proofs Go.Proofs.YtedkjhifbibpmaaGreatDoor.Ab
def u1 (p:Int×Int):V:=.agg [.int .i64 p.1,.int .i64 p.2]
theorem agW:Es Tryz.prog 341=some [0,0]:=by kernel_rfl
theorem agX (e:Bool) (a b:Int):Ba Tryz.prog e 341 (u1 (a,b))=true:=by
 cases e<;>kernel_rfl
theorem F7:∃ d,gR Tryz.prog 302=some (341,3,d)∧vC d=false:=by
 have h:(gR Tryz.prog 302).map (fun q=>(q.1,q.2.1,vC q.2.2))=some (341,3,false):=by kernel_rfl
 cases hm:gR Tryz.prog 302 with
 | none=>rw [hm] at h;cases h
 | some q=>
  rw [hm] at h
  obtain ⟨a,b,d⟩:=q
  simp only [Option.map_some,Option.some.injEq,Prod.mk.injEq] at h
  obtain ⟨rfl,rfl,h⟩:=h
  exact ⟨d,rfl,h⟩
theorem F8:qH Tryz.prog 3=some (.int .i64 0):=by kernel_rfl
theorem Ld {d:TypeDesc} (bb:vC d=false):mJ Tryz.prog 341 d u1 where
 eq a b:=by
  have h:hv [0,0] [.int .i64 a.1,.int .i64 a.2] [.int .i64 b.1,.int .i64 b.2]=some (a.1==b.1&&a.2==b.2):=by simp [hv]
  obtain ⟨fQ,hx,ak,bs⟩:=m8 h
  obtain ⟨h1,_⟩:=P9 agW h ak bs
  have:xH Tryz.prog 341 d (u1 a) (u1 b)=some (a.1==b.1&&a.2==b.2):=by
   unfold xH u1
   simp only [r4,ak,bs,Option.map_some,bb,h1]
   rfl
  rw [this,Option.some.injEq,Bool.eq_iff_iff]
  simp only [Bool.and_eq_true,beq_iff_eq,decide_eq_true_eq]
  exact ⟨fun h=>Prod.ext h.1 h.2,fun h=>⟨congrArg Prod.fst h,congrArg Prod.snd h⟩⟩
 ok b a:=agX b a.1 a.2
 bits a:=by
  refine ⟨_,rfl,?_⟩
  simp [Instr.sameBits]
abbrev pM:=List (Nat×(Int×Int)×Int)
def sJ (l:pM):List (Nat×V×V):=fK u1 (V.int .i64) l
theorem agY {h:J} {i cl:Nat} (l:pM) (a b:Int) (aB:h.get i=.map (sJ l) cl):n5 Tryz.prog 302 (.map i) (.agg [.int .i64 a,.int .i64 b]) true h=some (.tuple [.int .i64 ((ch l (a,b)).getD 0),.bool (ch l (a,b)).isSome]):=by
 obtain ⟨d,hm,bb⟩:=F7
 have:=Qc (enc:=V.int .i64) (ok:=true) (Ld bb) (k:=(a,b)) hm F8 aB
 rw [show (V.agg [.int .i64 a,.int .i64 b])=u1 (a,b) from rfl,this]
 cases ch l (a,b)<;>simp [jQ,kR]
theorem N6 {h:J} {i cl:Nat} (l:pM) (a b v:Int) (aB:h.get i=.map (sJ l) cl):xZ Tryz.prog 302 (.map i) (.agg [.int .i64 a,.int .i64 b]) (.int .i64 v) h=some (h.set i (.map (sJ (cT cl l (a,b) v)) (fX cl l (a,b)))):=by
 obtain ⟨d,hm,bb⟩:=F7
 exact Qd (enc:=V.int .i64) (Ld bb) (k:=(a,b)) hm aB rfl
def rP (l:List bu) (es:pM):Prop:=∀ k n,(k=1∨k=10)→(ch es (k,n)).isSome=l.any fun u=>u.kind==k&&u.n==n
theorem rP.nil:rP [] []:=fun k n _=>rfl
theorem rP.set {l:List bu} {es:pM} (a:rP l es) (v:bu) (cl:Nat) (x:Int):rP (l++[v]) (cT cl es (v.kind,v.n) x):=fun k n hk=>by
 rw [CB,List.any_append]
 simp only [List.any_cons,List.any_nil,Bool.or_false]
 by_cases he:(k,n)=(v.kind,v.n)
 ·rw [if_pos he]
  cases he
  simp
 ·rw [if_neg he,a k n hk]
  have:(v.kind==k&&v.n==n)=false:=by
   rw [Bool.eq_false_iff]
   intro U
   simp only [Bool.and_eq_true,beq_iff_eq] at U
   exact he (by rw [U.1,U.2])
  rw [this,Bool.or_false]
theorem rP.skip {l:List bu} {es:pM} (a:rP l es) {v:bu} (aN:¬(v.kind=1∨v.kind=10)):rP (l++[v]) es:=fun k n hk=>by
 rw [a k n hk,List.any_append]
 simp only [List.any_cons,List.any_nil,Bool.or_false]
 have:(v.kind==k&&v.n==n)=false:=by
  rw [Bool.eq_false_iff]
  intro U
  simp only [Bool.and_eq_true,beq_iff_eq] at U
  exact aN (by rw [U.1];exact hk)
 rw [this,Bool.or_false]
theorem IW {α:Type} {l:List α} {j:Nat} (p:α→Bool) (aX:j<l.length):(l.take (j+1)).any p=((l.take j).any p||p l[j]):=by
 rw [List.take_succ_eq_append_getElem aX,List.any_append]
 simp
theorem yX {l:List bu} {q:Nat} (af:q<l.length):ir Tryz.prog 54 (.ag l.length (l.flatMap al)) (.int .i64 (q:Int))=some (.at (al l[q]++(l.drop (q+1)).flatMap al))∧(∀ r,cX (some none) (some (al l[q]++r))=some (.int .i64 (fE l (q:Int))))∧fE l (q:Int)=l[q].kind:=by
 have hk:fE l (q:Int)=l[q].kind:=by unfold fE;rw [Int.toNat_natCast,List.getElem?_eq_getElem af];rfl
 refine ⟨oJ hF af w8,fun r=>?_,hk⟩
 rw [hk,oo]
 rfl
theorem AK {v:bu} (e2:v.kind=9) (Le:iE v=true):v.aS.length=2:=by
 simp only [iE,e2,rN,Bool.and_eq_true,decide_eq_true_eq] at Le
 have:=Le.1
 simp [iV] at this
 omega
theorem N7 {l:List Int} (aM:1<l.length):(if (1:Int)<((l.length:Nat):Int)∧Int.toNat 1 * 1≤(aO l).length then some (V.at (List.drop (Int.toNat 1 * 1) (aO l))) else none)=some (V.at (V.int .i64 l[1]::aO (l.drop 2))):=by
 rw [if_pos ⟨by omega,by rw [pb];show 1 * 1≤_;omega⟩]
 show some (V.at ((l.map (V.int .i64)).drop 1))=_
 rw [←List.map_drop,List.drop_eq_getElem_cons aM]
 rfl
theorem EQ:∀ q:Nat,q<11→cX (some (some 4)) (some (l9.drop (q * 4)))=some (.agg (IV (iV.getD q (0,0,0,0))))
 | 0,_=>rfl
 | 1,_=>rfl
 | 2,_=>rfl
 | 3,_=>rfl
 | 4,_=>rfl
 | 5,_=>rfl
 | 6,_=>rfl
 | 7,_=>rfl
 | 8,_=>rfl
 | 9,_=>rfl
 | 10,_=>rfl
 | q+11,h=>by omega
theorem agZ (l:List bu) (i m cl:Nat) (es:pM) (hi:i<l.length) (sK:l.length≤24) (v:bu) (aN:l[i]=v) (ba:fa v.e) (kg:v.aS.length<2 ^ 47) (h:J) (aB:lP h) (hm:m<h.n) (dI:h.get m=.map (sJ es) cl) (cS:rP (l.take i) es) :
  ab Tryz.prog 178 [.ag l.length (l.flatMap al),.int .i64 (i:Nat),.map m] h (fun r h'=>r=.int .i64 (cL l i v)∧I h h' (·=m)∧(cL l i v=0→∃ gQ u2,h'.get m=.map (sJ gQ) u2∧rP (l.take (i+1)) gQ)):=by
 have fp:=oo v
 have eo:=oJ (kk:=.i64) (P:=Tryz.prog) hF hi w8
 rw [aN] at eo
 have tM:l.take (i+1)=l.take i++[v]:=by rw [List.take_succ_eq_append_getElem hi,aN]
 have ib:∀ (q:List V),cX (some (some 6)) (some (al v++q))=some (.agg (al v)):=fun q=>lC (hF v)
 have b3:(V.agg (al v)).cells=some (al v):=rfl
 have cK:bM (some 6) (aV.cells [.int .i64 0,.ah,.int .i64 0,.int .i64 0,.ah,.int .i64 0] 29 none) 0 (al v)=some (.cells (al v) 29 none):=by
  rw [rl (n:=6) (hF v) (xl v),if_pos (by decide),fp];rfl
 have de:cX (some none) (some (al v))=some (.int .i64 v.kind):=by rw [fp];rfl
 have eQ:da (aV.cells (al v) 29 none) 0=some (al v):=by rw [fp];rfl
 have hY:da (aV.cells (al v) 29 none) 1=some [.ag v.aS.length (aO v.aS),.int .i64 v.e.op,.int .i64 v.e.num,.ag v.e.ax.length (v.e.ax.flatMap aq),.int .i64 v.n]:=by rw [fp];rfl
 have rO:da (aV.cells (al v) 29 none) 5=some [.int .i64 v.n]:=by rw [fp];rfl
 have ig:cX (some (some 6)) (some (al v))=some (.agg (al v)):=by rw [fp];rfl
 obtain ⟨H,hH⟩:∃ x,x=h.push (.cells (al v) 29 none):=⟨_,rfl⟩
 have oT:H.get h.n=.cells (al v) 29 none:=by rw [hH];exact b6
 have bq:I h H none_:=by rw [hH];exact I.push _ _ _
 have h9:H.n=h.n+1:=by rw [hH];rfl
 have hW:lP H:=aB.aj bq
 have Lf:H.get m=.map (sJ es) cl:=(bq.get m hm (by simp [none_])).trans dI
 refine ab.ao (c:=_) Tryz.func178 rfl (by kernel_rfl) (by simp) ?_
 by_cases h1:v.kind<1
 ·have bd:decide (v.kind<1)=true:=by simpa using h1
  have bj:cL l i v=1:=by unfold cL;rw [if_pos (.inl h1)]
  simp only [aa,Nat.reduceEqDiff,reduceCtorEq,fL,mi,a7,nb,oc,eo,ib,b3,cK,←hH,oT,de,eQ,bd,aI,Tryz.results178,ac]
  exact au ⟨by rw [bj],bq.up,fun U=>by rw [bj] at U;cases U⟩
 have bd:decide (v.kind<1)=false:=by simpa using h1
 by_cases ae:10<v.kind
 ·have bH:decide (10<v.kind)=true:=by simpa using ae
  have bj:cL l i v=1:=by unfold cL;rw [if_pos (.inr ae)]
  simp only [aa,Nat.reduceEqDiff,reduceCtorEq,fL,mi,a7,nb,oc,eo,ib,b3,cK,←hH,oT,de,eQ,bd,bH,aI,Tryz.results178,ac]
  exact au ⟨by rw [bj],bq.up,fun U=>by rw [bj] at U;cases U⟩
 have bH:decide (10<v.kind)=false:=by simpa using ae
 simp only [aa,Nat.reduceEqDiff,reduceCtorEq,fL,oU,mh,lb,mi,a7,nb,oc,eo,ib,b3,cK,←hH,oT,de,eQ,hY,bd,bH]
 refine aP.bG (α:=Nat) (fun j f h'=>f 0=.ag l.length (l.flatMap al)∧f 1=.int .i64 (i:Nat)∧f 2=.map m∧f 7=.ptr h.n 0∧f 28=.ag v.aS.length (aO v.aS)∧f 29=.int .i64 ((v.aS.length:Nat):Int)∧f 30=.int .i64 (j:Nat)∧j≤v.aS.length∧h'=H∧((v.aS.take j).any fun f=>decide (f<0∨(i:Int)≤f))=false) (fun j=>v.aS.length - j) 0 ⟨rfl,rfl,rfl,rfl,rfl,rfl,rfl,Nat.zero_le _,rfl,rfl⟩ ?_
 rintro j f h' ⟨f0,f1,f2,f7,f28,f29,f30,aX,rfl,gj⟩
 refine dw (by kernel_rfl) ?_
 by_cases aH:j<v.aS.length
 ·have c3:decide ((j:Int)<((v.aS.length:Nat):Int))=true:=by simp only [decide_eq_true_eq];omega
  have bR:=ra (P:=Tryz.prog) (kk:=.i64) aH kr
  have b0:IntKind.i64.wrap (((j:Nat):Int)+1)=((j+1:Nat):Int):=by rw [Go.IntWalk.i64_in _ (by omega)];omega
  have gz:=IW (fun f=>decide (f<0∨(i:Int)≤f)) aH
  have bS:v.aS[j] ∈ v.aS:=List.getElem_mem aH
  generalize v.aS[j]=A at bR gz bS
  have bad:∀ av:A<0∨(i:Int)≤A,cL l i v=2:=fun av=>by
   unfold cL
   rw [if_neg (by omega),if_pos (List.any_eq_true.2 ⟨A,bS,by simpa using av⟩)]
  by_cases eL:A<0
  ·have d1:decide (A<0)=true:=by simpa using eL
   simp only [aa,Nat.reduceEqDiff,a7,f28,f29,f30,c3,bR,d1,aI,Tryz.results178,ac]
   exact au ⟨by rw [bad (.inl eL)],bq.up,fun U=>by rw [bad (.inl eL)] at U;cases U⟩
  have d1:decide (A<0)=false:=by simpa using eL
  by_cases ef:(i:Int)≤A
  ·have d2:decide ((i:Int)≤A)=true:=by simpa using ef
   simp only [aa,Nat.reduceEqDiff,a7,f1,f28,f29,f30,c3,bR,d1,d2,aI,Tryz.results178,ac]
   exact au ⟨by rw [bad (.inr ef)],bq.up,fun U=>by rw [bad (.inr ef)] at U;cases U⟩
  have d2:decide ((i:Int)≤A)=false:=by simpa using ef
  simp only [aa,Nat.reduceEqDiff,a7,f1,f28,f29,f30,c3,bR,d1,d2,b0]
  exact au ⟨j+1,⟨f0,f1,f2,f7,f28,f29,rfl,by omega,rfl,by rw [gz,gj];simp [eL,ef]⟩,by omega⟩
 have c3:decide ((j:Int)<((v.aS.length:Nat):Int))=false:=by simp only [decide_eq_false_iff_not];omega
 rw [List.take_of_length_le (by omega)] at gj
 have lh:∀ x ∈ v.aS,0≤x∧x<i:=fun x ak=>by
  rw [List.any_eq_false] at gj
  have:=gj x ak
  simp only [decide_eq_true_eq] at this
  omega
 simp only [aa,f29,f30,c3]
 have uq:∀ f:aE,aE.eval f h' (.global 2)=.at l9:=fun f=>JN hW.2
 have fR:(if (0:Int)≤v.kind∧v.kind<((11:Nat):Int)∧(v.kind.toNat * 4)≤l9.length then some (V.at (l9.drop (v.kind.toNat * 4))) else none)=some (.at (l9.drop (v.kind.toNat * 4))):=if_pos ⟨by omega,by omega,by show _≤44;omega⟩
 have N8:=EQ v.kind.toNat (by omega)
 have ja:¬(v.kind<1∨10<v.kind):=by omega
 have jy:¬((v.aS.any fun f=>decide (f<0∨(i:Int)≤f))=true):=by rw [gj];simp
 refine aP.aY none_ [] (.q 0 (.q 1 (.q 2 (.q 3 (.q 4 (.c 5 (.q 6 .done))))))) (by kernel_rfl) (by kernel_rfl) (by kernel_rfl) ?_
 simp only [aa,bD,Nat.reduceEqDiff,acu,fL,mi,a7,adz,adR,f7,oT,eQ,de,ig,uq,fR,N8]
 refine gE rfl rfl rfl (fun tq hk=>agV v _ ba tq (hW.or hW hk).1) ?_
 have F9:rN v (iV.getD v.kind.toNat (0,0,0,0))=iE v:=rfl
 cases dU:iE v
 ·have bj:cL l i v=5:=by unfold cL;rw [if_neg ja,if_neg jy,if_pos dU]
  simp only [aa,bD,Nat.reduceEqDiff,F9,dU,aI,Tryz.results178,ac]
  exact au ⟨by rw [bj],bq.up,fun U=>by rw [bj] at U;cases U⟩
 simp only [aa,bD,Nat.reduceEqDiff,fL,F9,dU]
 have nh:¬(iE v=false):=by rw [dU];simp
 have aG:(V.agg [.int .i64 v.kind,.int .i64 v.n]).cells=some [.int .i64 v.kind,.int .i64 v.n]:=rfl
 by_cases ad:v.kind=1∨v.kind=10
 ·obtain ⟨C9,u3⟩:∃ x,x=h'.push (.cells [.int .i64 v.kind,.int .i64 v.n] 341 none):=⟨_,rfl⟩
  have kQ:C9.get h'.n=.cells [.int .i64 v.kind,.int .i64 v.n] 341 none:=by rw [u3];exact b6
  have bO:I h' C9 none_:=by rw [u3];exact I.push _ _ _
  have VN:C9.get h.n=.cells (al v) 29 none:=(bO.get h.n (by omega) (by simp [none_])).trans oT
  have Lg:C9.get m=.map (sJ es) cl:=(bO.get m (by omega) (by simp [none_])).trans Lf
  have eC:=agY es v.kind v.n Lg
  have rL:=N6 es v.kind v.n (i:Nat) Lg
  have N9:(ch es (v.kind,v.n)).isSome=AH l i v:=by
   rw [cS v.kind v.n ad]
   unfold AH
   rcases ad with ad | ad<;>rw [ad]<;>rfl
  rw [N9] at eC
  have Lh:((v.kind==1)=true∧(v.kind==10)=false)∨((v.kind==1)=false∧(v.kind==10)=true):=by
   rcases ad with ad | ad<;>rw [ad]<;>simp
  cases lq:AH l i v
  ·rw [lq] at eC
   obtain ⟨tH,rQ⟩:∃ x,x=C9.set m (.map (sJ (cT cl es (v.kind,v.n) (i:Nat))) (fX cl es (v.kind,v.n))):=⟨_,rfl⟩
   have dV:I C9 tH (·=m):=by rw [rQ];exact I.set _ _ _
   have sL:tH.get h.n=.cells (al v) 29 none:=(dV.get h.n (by rw [u3,eA];omega) (by omega)).trans VN
   have VO:tH.get m=.map (sJ (cT cl es (v.kind,v.n) (i:Nat))) (fX cl es (v.kind,v.n)):=by rw [rQ];exact aL
   have sM:I h tH (·=m):=((bq.trans' bO).up).trans' dV
   have jZ:∃ gQ u2,tH.get m=.map (sJ gQ) u2∧rP (l.take (i+1)) gQ:=⟨_,_,VO,by rw [tM];exact cS.set v _ _⟩
   rcases Lh with ⟨c5,hM⟩ | ⟨c5,hM⟩
   ·simp only [aa,Nat.reduceEqDiff,Nat.reduceAdd,Nat.reduceLeDiff,fL,oU,vM,mh,br,lb,a7,Il,Ip,Ir,Is,f1,f2,f7,oT,de,eQ,hY,rO,c5,aG,←u3,kQ,eC,rL,←rQ,sL]
    refine aP.bG (α:=Nat) (fun j f h1=>f 0=.ag l.length (l.flatMap al)∧f 7=.ptr h.n 0∧f 73=.ag v.aS.length (aO v.aS)∧f 74=.int .i64 ((v.aS.length:Nat):Int)∧f 75=.int .i64 (j:Nat)∧j≤v.aS.length∧h1=tH∧((v.aS.take j).any fun f=>fE l f==10)=false) (fun j=>v.aS.length - j) 0 ⟨f0,f7,rfl,rfl,rfl,Nat.zero_le _,rfl,rfl⟩ ?_
    rintro kE Li h1 ⟨g0,g7,pN,jB,k0,Lj,rfl,cp⟩
    refine dw (by kernel_rfl) ?_
    by_cases hC:kE<v.aS.length
    ·have kD:decide ((kE:Int)<((v.aS.length:Nat):Int))=true:=by simp only [decide_eq_true_eq];omega
     have bR:=ra (P:=Tryz.prog) (kk:=.i64) hC kr
     have b0:IntKind.i64.wrap (((kE:Nat):Int)+1)=((kE+1:Nat):Int):=by rw [Go.IntWalk.i64_in _ (by omega)];omega
     have gz:=IW (fun f=>fE l f==10) hC
     have bS:v.aS[kE] ∈ v.aS:=List.getElem_mem hC
     generalize v.aS[kE]=A at bR gz bS
     obtain ⟨gA,kL⟩:=lh A bS
     obtain ⟨q,rfl⟩:∃ q:Nat,A=(q:Int):=⟨A.toNat,by omega⟩
     obtain ⟨dn,gG,iO⟩:=yX (l:=l) (q:=q) (by omega)
     cases gn:(fE l (q:Int)==10)
     ·simp only [aa,Nat.reduceEqDiff,reduceCtorEq,fL,a7,g0,pN,jB,k0,kD,bR,dn,gG,gn,b0]
      exact au ⟨kE+1,⟨g0,g7,pN,jB,rfl,by omega,rfl,by rw [gz,cp,gn];rfl⟩,by omega⟩
     ·have bj:cL l i v=5:=by
       unfold cL
       rw [if_neg ja,if_neg jy,if_neg nh,if_neg (by rw [lq];simp),if_pos (List.any_eq_true.2 ⟨_,bS,gn⟩)]
      simp only [aa,Nat.reduceEqDiff,reduceCtorEq,fL,a7,g0,pN,jB,k0,kD,bR,dn,gG,gn,aI,Tryz.results178,ac]
      exact au ⟨by rw [bj],sM,fun U=>by rw [bj] at U;cases U⟩
    have kD:decide ((kE:Int)<((v.aS.length:Nat):Int))=false:=by simp only [decide_eq_false_iff_not];omega
    rw [List.take_of_length_le (by omega)] at cp
    have kV:¬((v.aS.any fun f=>fE l f==10)=true):=by rw [cp];simp
    by_cases e2:v.kind=9
    ·have gn:(v.kind==9)=true:=by simp [e2]
     have hlen:v.aS.length=2:=AK e2 dU
     have bR:=N7 (l:=v.aS) (by omega)
     have rh:v.aS.getD 1 0=v.aS[1]:=by rw [List.getD,List.getElem?_eq_getElem (by omega)];rfl
     have bS:v.aS[1] ∈ v.aS:=List.getElem_mem _
     have bj:cL l i v=if v.kind=9∧fE l v.aS[1]≠6 then 5 else 0:=by
      unfold cL
      rw [if_neg ja,if_neg jy,if_neg nh,if_neg (by rw [lq];simp),if_neg kV,rh]
     generalize v.aS[1]=A at bR bS bj
     obtain ⟨gA,kL⟩:=lh A bS
     obtain ⟨q,rfl⟩:∃ q:Nat,A=(q:Int):=⟨A.toNat,by omega⟩
     obtain ⟨dn,gG,iO⟩:=yX (l:=l) (q:=q) (by omega)
     by_cases dd:fE l (q:Int)=6
     ·have fw:(fE l (q:Int) !=6)=false:=by simp [dd]
      rw [if_neg (by simp [dd])] at bj
      simp only [aa,Int.reduceLE,Nat.reduceEqDiff,reduceCtorEq,CM,fL,oU,lb,a7,kr,g0,g7,jB,k0,kD,gn,sL,de,eQ,hY,bR,dn,gG,fw,aI,Tryz.results178,ac]
      exact au ⟨by rw [bj],sM,fun _=>jZ⟩
     ·have fw:(fE l (q:Int) !=6)=true:=by simp [dd]
      rw [if_pos ⟨e2,dd⟩] at bj
      simp only [aa,Int.reduceLE,Nat.reduceEqDiff,reduceCtorEq,CM,fL,oU,lb,a7,kr,g0,g7,jB,k0,kD,gn,sL,de,eQ,hY,bR,dn,gG,fw,aI,Tryz.results178,ac]
      exact au ⟨by rw [bj],sM,fun U=>by rw [bj] at U;cases U⟩
    ·have gn:(v.kind==9)=false:=by simp [e2]
     have bj:cL l i v=0:=by
      unfold cL
      rw [if_neg ja,if_neg jy,if_neg nh,if_neg (by rw [lq];simp),if_neg kV,if_neg (by simp [e2])]
     simp only [aa,Nat.reduceEqDiff,fL,a7,g7,jB,k0,kD,gn,sL,de,eQ,aI,Tryz.results178,ac]
     exact au ⟨by rw [bj],sM,fun _=>jZ⟩
   ·simp only [aa,Nat.reduceEqDiff,Nat.reduceAdd,Nat.reduceLeDiff,fL,oU,vM,mh,br,lb,a7,Il,Ip,Ir,Is,f1,f2,f7,oT,de,eQ,hY,rO,c5,hM,aG,←u3,kQ,eC,rL,←rQ,sL]
    refine aP.bG (α:=Nat) (fun j f h1=>f 0=.ag l.length (l.flatMap al)∧f 7=.ptr h.n 0∧f 73=.ag v.aS.length (aO v.aS)∧f 74=.int .i64 ((v.aS.length:Nat):Int)∧f 75=.int .i64 (j:Nat)∧j≤v.aS.length∧h1=tH∧((v.aS.take j).any fun f=>fE l f==10)=false) (fun j=>v.aS.length - j) 0 ⟨f0,f7,rfl,rfl,rfl,Nat.zero_le _,rfl,rfl⟩ ?_
    rintro kE Li h1 ⟨g0,g7,pN,jB,k0,Lj,rfl,cp⟩
    refine dw (by kernel_rfl) ?_
    by_cases hC:kE<v.aS.length
    ·have kD:decide ((kE:Int)<((v.aS.length:Nat):Int))=true:=by simp only [decide_eq_true_eq];omega
     have bR:=ra (P:=Tryz.prog) (kk:=.i64) hC kr
     have b0:IntKind.i64.wrap (((kE:Nat):Int)+1)=((kE+1:Nat):Int):=by rw [Go.IntWalk.i64_in _ (by omega)];omega
     have gz:=IW (fun f=>fE l f==10) hC
     have bS:v.aS[kE] ∈ v.aS:=List.getElem_mem hC
     generalize v.aS[kE]=A at bR gz bS
     obtain ⟨gA,kL⟩:=lh A bS
     obtain ⟨q,rfl⟩:∃ q:Nat,A=(q:Int):=⟨A.toNat,by omega⟩
     obtain ⟨dn,gG,iO⟩:=yX (l:=l) (q:=q) (by omega)
     cases gn:(fE l (q:Int)==10)
     ·simp only [aa,Nat.reduceEqDiff,reduceCtorEq,fL,a7,g0,pN,jB,k0,kD,bR,dn,gG,gn,b0]
      exact au ⟨kE+1,⟨g0,g7,pN,jB,rfl,by omega,rfl,by rw [gz,cp,gn];rfl⟩,by omega⟩
     ·have bj:cL l i v=5:=by
       unfold cL
       rw [if_neg ja,if_neg jy,if_neg nh,if_neg (by rw [lq];simp),if_pos (List.any_eq_true.2 ⟨_,bS,gn⟩)]
      simp only [aa,Nat.reduceEqDiff,reduceCtorEq,fL,a7,g0,pN,jB,k0,kD,bR,dn,gG,gn,aI,Tryz.results178,ac]
      exact au ⟨by rw [bj],sM,fun U=>by rw [bj] at U;cases U⟩
    have kD:decide ((kE:Int)<((v.aS.length:Nat):Int))=false:=by simp only [decide_eq_false_iff_not];omega
    rw [List.take_of_length_le (by omega)] at cp
    have kV:¬((v.aS.any fun f=>fE l f==10)=true):=by rw [cp];simp
    by_cases e2:v.kind=9
    ·have gn:(v.kind==9)=true:=by simp [e2]
     have hlen:v.aS.length=2:=AK e2 dU
     have bR:=N7 (l:=v.aS) (by omega)
     have rh:v.aS.getD 1 0=v.aS[1]:=by rw [List.getD,List.getElem?_eq_getElem (by omega)];rfl
     have bS:v.aS[1] ∈ v.aS:=List.getElem_mem _
     have bj:cL l i v=if v.kind=9∧fE l v.aS[1]≠6 then 5 else 0:=by
      unfold cL
      rw [if_neg ja,if_neg jy,if_neg nh,if_neg (by rw [lq];simp),if_neg kV,rh]
     generalize v.aS[1]=A at bR bS bj
     obtain ⟨gA,kL⟩:=lh A bS
     obtain ⟨q,rfl⟩:∃ q:Nat,A=(q:Int):=⟨A.toNat,by omega⟩
     obtain ⟨dn,gG,iO⟩:=yX (l:=l) (q:=q) (by omega)
     by_cases dd:fE l (q:Int)=6
     ·have fw:(fE l (q:Int) !=6)=false:=by simp [dd]
      rw [if_neg (by simp [dd])] at bj
      simp only [aa,Int.reduceLE,Nat.reduceEqDiff,reduceCtorEq,CM,fL,oU,lb,a7,kr,g0,g7,jB,k0,kD,gn,sL,de,eQ,hY,bR,dn,gG,fw,aI,Tryz.results178,ac]
      exact au ⟨by rw [bj],sM,fun _=>jZ⟩
     ·have fw:(fE l (q:Int) !=6)=true:=by simp [dd]
      rw [if_pos ⟨e2,dd⟩] at bj
      simp only [aa,Int.reduceLE,Nat.reduceEqDiff,reduceCtorEq,CM,fL,oU,lb,a7,kr,g0,g7,jB,k0,kD,gn,sL,de,eQ,hY,bR,dn,gG,fw,aI,Tryz.results178,ac]
      exact au ⟨by rw [bj],sM,fun U=>by rw [bj] at U;cases U⟩
    ·have gn:(v.kind==9)=false:=by simp [e2]
     have bj:cL l i v=0:=by
      unfold cL
      rw [if_neg ja,if_neg jy,if_neg nh,if_neg (by rw [lq];simp),if_neg kV,if_neg (by simp [e2])]
     simp only [aa,Nat.reduceEqDiff,fL,a7,g7,jB,k0,kD,gn,sL,de,eQ,aI,Tryz.results178,ac]
     exact au ⟨by rw [bj],sM,fun _=>jZ⟩
  ·rw [lq] at eC
   have bj:cL l i v=12:=by unfold cL;rw [if_neg ja,if_neg jy,if_neg nh,if_pos lq]
   rcases Lh with ⟨c5,hM⟩ | ⟨c5,hM⟩
   ·simp only [aa,Nat.reduceEqDiff,Nat.reduceAdd,Nat.reduceLeDiff,fL,vM,br,a7,Il,Ip,Ir,Is,f2,f7,oT,de,eQ,rO,c5,aG,←u3,kQ,eC,aI,Tryz.results178,ac]
    exact au ⟨by rw [bj],(bq.trans' bO).up,fun U=>by rw [bj] at U;cases U⟩
   ·simp only [aa,Nat.reduceEqDiff,Nat.reduceAdd,Nat.reduceLeDiff,fL,vM,br,a7,Il,Ip,Ir,Is,f2,f7,oT,de,eQ,rO,c5,hM,aG,←u3,kQ,eC,aI,Tryz.results178,ac]
    exact au ⟨by rw [bj],(bq.trans' bO).up,fun U=>by rw [bj] at U;cases U⟩
 ·have c5:(v.kind==1)=false:=by simp;omega
  have hM:(v.kind==10)=false:=by simp;omega
  have lq:AH l i v=false:=by unfold AH;rw [c5,hM];rfl
  obtain ⟨tH,rQ⟩:∃ x,x=h':=⟨_,rfl⟩
  have jZ:∃ gQ u2,tH.get m=.map (sJ gQ) u2∧rP (l.take (i+1)) gQ:=⟨_,_,by rw [rQ];exact Lf,by rw [tM];exact cS.skip ad⟩
  have sM:I h tH (·=m):=by rw [rQ];exact bq.up
  have sL:tH.get h.n=.cells (al v) 29 none:=by rw [rQ];exact oT
  simp only [aa,Nat.reduceEqDiff,fL,oU,mh,lb,a7,f7,←rQ,sL,de,eQ,hY,c5,hM]
  refine aP.bG (α:=Nat) (fun j f h1=>f 0=.ag l.length (l.flatMap al)∧f 7=.ptr h.n 0∧f 73=.ag v.aS.length (aO v.aS)∧f 74=.int .i64 ((v.aS.length:Nat):Int)∧f 75=.int .i64 (j:Nat)∧j≤v.aS.length∧h1=tH∧((v.aS.take j).any fun f=>fE l f==10)=false) (fun j=>v.aS.length - j) 0 ⟨f0,f7,rfl,rfl,rfl,Nat.zero_le _,rfl,rfl⟩ ?_
  rintro kE Li h1 ⟨g0,g7,pN,jB,k0,Lj,rfl,cp⟩
  refine dw (by kernel_rfl) ?_
  by_cases hC:kE<v.aS.length
  ·have kD:decide ((kE:Int)<((v.aS.length:Nat):Int))=true:=by simp only [decide_eq_true_eq];omega
   have bR:=ra (P:=Tryz.prog) (kk:=.i64) hC kr
   have b0:IntKind.i64.wrap (((kE:Nat):Int)+1)=((kE+1:Nat):Int):=by rw [Go.IntWalk.i64_in _ (by omega)];omega
   have gz:=IW (fun f=>fE l f==10) hC
   have bS:v.aS[kE] ∈ v.aS:=List.getElem_mem hC
   generalize v.aS[kE]=A at bR gz bS
   obtain ⟨gA,kL⟩:=lh A bS
   obtain ⟨q,rfl⟩:∃ q:Nat,A=(q:Int):=⟨A.toNat,by omega⟩
   obtain ⟨dn,gG,iO⟩:=yX (l:=l) (q:=q) (by omega)
   cases gn:(fE l (q:Int)==10)
   ·simp only [aa,Nat.reduceEqDiff,reduceCtorEq,fL,a7,g0,pN,jB,k0,kD,bR,dn,gG,gn,b0]
    exact au ⟨kE+1,⟨g0,g7,pN,jB,rfl,by omega,rfl,by rw [gz,cp,gn];rfl⟩,by omega⟩
   ·have bj:cL l i v=5:=by
     unfold cL
     rw [if_neg ja,if_neg jy,if_neg nh,if_neg (by rw [lq];simp),if_pos (List.any_eq_true.2 ⟨_,bS,gn⟩)]
    simp only [aa,Nat.reduceEqDiff,reduceCtorEq,fL,a7,g0,pN,jB,k0,kD,bR,dn,gG,gn,aI,Tryz.results178,ac]
    exact au ⟨by rw [bj],sM,fun U=>by rw [bj] at U;cases U⟩
  have kD:decide ((kE:Int)<((v.aS.length:Nat):Int))=false:=by simp only [decide_eq_false_iff_not];omega
  rw [List.take_of_length_le (by omega)] at cp
  have kV:¬((v.aS.any fun f=>fE l f==10)=true):=by rw [cp];simp
  by_cases e2:v.kind=9
  ·have gn:(v.kind==9)=true:=by simp [e2]
   have hlen:v.aS.length=2:=AK e2 dU
   have bR:=N7 (l:=v.aS) (by omega)
   have rh:v.aS.getD 1 0=v.aS[1]:=by rw [List.getD,List.getElem?_eq_getElem (by omega)];rfl
   have bS:v.aS[1] ∈ v.aS:=List.getElem_mem _
   have bj:cL l i v=if v.kind=9∧fE l v.aS[1]≠6 then 5 else 0:=by
    unfold cL
    rw [if_neg ja,if_neg jy,if_neg nh,if_neg (by rw [lq];simp),if_neg kV,rh]
   generalize v.aS[1]=A at bR bS bj
   obtain ⟨gA,kL⟩:=lh A bS
   obtain ⟨q,rfl⟩:∃ q:Nat,A=(q:Int):=⟨A.toNat,by omega⟩
   obtain ⟨dn,gG,iO⟩:=yX (l:=l) (q:=q) (by omega)
   by_cases dd:fE l (q:Int)=6
   ·have fw:(fE l (q:Int) !=6)=false:=by simp [dd]
    rw [if_neg (by simp [dd])] at bj
    simp only [aa,Int.reduceLE,Nat.reduceEqDiff,reduceCtorEq,CM,fL,oU,lb,a7,kr,g0,g7,jB,k0,kD,gn,sL,de,eQ,hY,bR,dn,gG,fw,aI,Tryz.results178,ac]
    exact au ⟨by rw [bj],sM,fun _=>jZ⟩
   ·have fw:(fE l (q:Int) !=6)=true:=by simp [dd]
    rw [if_pos ⟨e2,dd⟩] at bj
    simp only [aa,Int.reduceLE,Nat.reduceEqDiff,reduceCtorEq,CM,fL,oU,lb,a7,kr,g0,g7,jB,k0,kD,gn,sL,de,eQ,hY,bR,dn,gG,fw,aI,Tryz.results178,ac]
    exact au ⟨by rw [bj],sM,fun U=>by rw [bj] at U;cases U⟩
  ·have gn:(v.kind==9)=false:=by simp [e2]
   have bj:cL l i v=0:=by
    unfold cL
    rw [if_neg ja,if_neg jy,if_neg nh,if_neg (by rw [lq];simp),if_neg kV,if_neg (by simp [e2])]
   simp only [aa,Nat.reduceEqDiff,fL,a7,g7,jB,k0,kD,gn,sL,de,eQ,aI,Tryz.results178,ac]
   exact au ⟨by rw [bj],sM,fun _=>jZ⟩
def cQ (l:List bu) (p:Int):List V:=[.ag l.length (l.flatMap al),.int .i64 p]
theorem ag0 (l:List bu) (p:Int):bl (cQ l p):=bl.cons (bh.ag (Et aeZ _)) (bl.cons (bh.int _ _) bl.nil)
def kh (l:List bu):Prop:=l.length<2 ^ 47∧∀ v ∈ l,tp v
def pO (q:Int×Int):V:=.tuple [.int .i64 q.1,.int .i64 q.2]
theorem Oa (l:List bu) (p:Int) (ba:kh l) (h:J) (aB:lP h):Pure Tryz.prog 123 [.agg (cQ l p)] h (pO (ct p l)):=by
 have sq:bh (pO (ct p l)):=bh.tuple (bl.cons (bh.int _ _) (bl.cons (bh.int _ _) bl.nil))
 refine Pure.val sq ?_
 have aF:(V.agg (cQ l p)).cells=some [.ag l.length (l.flatMap al),.int .i64 p]:=rfl
 obtain ⟨H,hH⟩:∃ x,x=h.push (.cells [.ag l.length (l.flatMap al),.int .i64 p] 56 none):=⟨_,rfl⟩
 have gt:H.get h.n=.cells [.ag l.length (l.flatMap al),.int .i64 p] 56 none:=by rw [hH];exact b6
 have bq:I h H none_:=by rw [hH];exact I.push _ _ _
 have h9:H.n=h.n+1:=by rw [hH];rfl
 refine ab.ao (c:=_) Tryz.func123 rfl (by kernel_rfl) (by simp) ?_
 by_cases h1:p<1
 ·have bd:decide (p<1)=true:=by simpa using h1
  have bj:ct p l=(-1,2):=if_pos (.inl h1)
  simp only [aa,Int.reduceNeg,Nat.reduceEqDiff,Nat.reduceAdd,Nat.reduceLeDiff,CS,a7,aF,←hH,gt,bd,aI,Tryz.results123,cW]
  exact au ⟨by rw [bj];rfl,bq⟩
 have bd:decide (p<1)=false:=by simpa using h1
 by_cases ae:8<p
 ·have bH:decide (8<p)=true:=by simpa using ae
  have bj:ct p l=(-1,2):=if_pos (.inr (.inl ae))
  simp only [aa,Int.reduceNeg,Nat.reduceEqDiff,Nat.reduceAdd,Nat.reduceLeDiff,CS,a7,aF,←hH,gt,bd,bH,aI,Tryz.results123,cW]
  exact au ⟨by rw [bj];rfl,bq⟩
 have bH:decide (8<p)=false:=by simpa using ae
 by_cases aA:l.length=0
 ·have c3:(((l.length:Nat):Int)==0)=true:=by simp [aA]
  have bj:ct p l=(-1,2):=if_pos (.inr (.inr (.inl aA)))
  simp only [aa,Int.reduceNeg,Nat.reduceEqDiff,Nat.reduceAdd,Nat.reduceLeDiff,jH,CS,d9,a7,ji,aF,←hH,gt,bd,bH,c3,aI,Tryz.results123,cW]
  exact au ⟨by rw [bj];rfl,bq⟩
 have c3:(((l.length:Nat):Int)==0)=false:=by simp only [beq_eq_false_iff_ne,ne_eq];omega
 by_cases bk:24<l.length
 ·have dU:decide ((24:Int)<((l.length:Nat):Int))=true:=by simp only [decide_eq_true_eq];omega
  have bj:ct p l=(-1,2):=if_pos (.inr (.inr (.inr bk)))
  simp only [aa,Int.reduceNeg,Nat.reduceEqDiff,Nat.reduceAdd,Nat.reduceLeDiff,jH,CS,d9,a7,ji,aF,←hH,gt,bd,bH,c3,dU,aI,Tryz.results123,cW]
  exact au ⟨by rw [bj];rfl,bq⟩
 have dU:decide ((24:Int)<((l.length:Nat):Int))=false:=by simp only [decide_eq_false_iff_not];omega
 have bj:ct p l=ma l 0 l:=if_neg (by omega)
 obtain ⟨IX,yY⟩:∃ x,x=H.push (.map [] 0):=⟨_,rfl⟩
 have Lk:IX.get h.n=.cells [.ag l.length (l.flatMap al),.int .i64 p] 56 none:=by rw [yY];exact (kM (by omega)).trans gt
 have nO:I h IX none_:=by rw [yY];exact bq.a8 _
 have VP:IX.get H.n=.map (sJ []) 0:=by rw [yY];exact b6
 have atq:IX.n=H.n+1:=by rw [yY];rfl
 simp only [aa,Int.reduceNeg,Nat.reduceEqDiff,Nat.reduceAdd,Nat.reduceLeDiff,jH,CS,d9,a7,ji,aF,←hH,gt,bd,bH,c3,dU,←yY,Lk]
 refine aP.bG (α:=Nat×pM×Nat) (fun x f h'=>f 1=.ptr h.n 0∧f 4=.map H.n∧f 30=.int .i64 ((l.length:Nat):Int)∧f 31=.int .i64 (x.1:Nat)∧x.1≤l.length∧I h h' none_∧H.n<h'.n∧h'.get h.n=.cells [.ag l.length (l.flatMap al),.int .i64 p] 56 none∧h'.get H.n=.map (sJ x.2.1) x.2.2∧rP (l.take x.1) x.2.1∧ma l 0 l=ma l x.1 (l.drop x.1)) (fun x=>l.length - x.1) (0,[],0) ⟨rfl,rfl,rfl,rfl,Nat.zero_le _,nO,by omega,Lk,VP,rP.nil,rfl⟩ ?_
 rintro ⟨i,es,cl⟩ f h1 ⟨f1,f4,f30,f31,hi,bo,eL,g1,dI,cS,bC⟩
 simp only at f31 hi dI cS bC
 refine dw (by kernel_rfl) ?_
 by_cases aH:i<l.length
 ·have c5:decide ((i:Int)<((l.length:Nat):Int))=true:=by simp only [decide_eq_true_eq];omega
  rw [List.drop_eq_getElem_cons aH] at bC
  obtain ⟨Ll,Ga,_⟩:=ba.2 _ (List.getElem_mem aH)
  have b0:IntKind.i64.wrap (((i:Nat):Int)+1)=((i+1:Nat):Int):=by rw [Go.IntWalk.i64_in _ (by omega)];omega
  simp only [aa,Nat.reduceEqDiff,Nat.reduceAdd,jH,ji,f1,f4,f30,f31,c5,g1]
  refine bU acQ (agZ l i H.n cl es aH (by omega) _ rfl Ll Ga h1 (aB.aj bo) eL dI cS) fun r ae ⟨ar,k2,jZ⟩=>?_
  subst ar
  have k3:I h ae none_:=bo.trans k2 fun k hk wu=>by omega
  have JQ:=k2.n
  have g2:=(k2.get h.n (by omega) (by omega)).trans g1
  replace bC:ma l 0 l=if cL l i l[i]=0 then ma l (i+1) (l.drop (i+1)) else ((i:Int),cL l i l[i]):=bC
  by_cases h0:cL l i l[i]=0
  ·have hM:(cL l i l[i] !=0)=false:=by simp [h0]
   obtain ⟨gQ,u2,cq,cP⟩:=jZ h0
   rw [if_pos h0] at bC
   simp only [aa,Int.reduceNeg,Nat.reduceEqDiff,f31,hM,b0]
   exact au ⟨(i+1,gQ,u2),⟨f1,f4,f30,rfl,by simp only;omega,k3,by omega,g2,cq,cP,bC⟩,by simp only;omega⟩
  ·have hM:(cL l i l[i] !=0)=true:=by simp [h0]
   rw [if_neg h0] at bC
   simp only [aa,Int.reduceNeg,Nat.reduceEqDiff,hM,aI,Tryz.results123,cW]
   exact au ⟨by rw [bj,bC];rfl,k3⟩
 ·have c5:decide ((i:Int)<((l.length:Nat):Int))=false:=by simp only [decide_eq_false_iff_not];omega
  rw [List.drop_of_length_le (by omega)] at bC
  simp only [aa,Int.reduceNeg,Nat.reduceEqDiff,f30,f31,c5,aI,Tryz.results123,cW]
  exact au ⟨by rw [bj,bC];rfl,bo⟩
theorem DN (h:J) (x:Int):lk Tryz.prog 24 1 [(0,.int .i64 x)] h=some (.bp h.n 0 1 1,h.push (.cells [.int .i64 x] 3 none)):=by rw [p0 tc];rfl
theorem Lm (l:List Int) (x:Int) (aM:l.length<2 ^ 47) (h:J):Pure Tryz.prog 68 [.ag l.length (aO l),.int .i64 x] h (.bool (l.contains x)):=by
 have fR:ab Tryz.prog 130 [.ag l.length (aO l),.int .i64 x] h (fun r h'=>(∃ k:Int,r=.int .i64 k∧(decide (0≤k))=l.contains x)∧h'=h):=by
  refine ab.ao (c:=_) Tryz.func130 rfl (by kernel_rfl) (by simp) ?_
  simp only [aa,Int.reduceNeg,Nat.reduceEqDiff,reduceCtorEq,mh]
  refine aP.bG (α:=Nat) (fun j f h'=>f 0=.ag l.length (aO l)∧f 1=.int .i64 x∧f 7=.int .i64 ((l.length:Nat):Int)∧f 8=.int .i64 (j:Nat)∧j≤l.length∧h'=h∧l.contains x=(l.drop j).contains x) (fun j=>l.length - j) 0 ⟨rfl,rfl,rfl,rfl,Nat.zero_le _,rfl,rfl⟩ ?_
  rintro j f h1 ⟨f0,f1,f7,f8,aX,rfl,bC⟩
  refine dw (by kernel_rfl) ?_
  by_cases aH:j<l.length
  ·have c5:decide ((j:Int)<((l.length:Nat):Int))=true:=by simp only [decide_eq_true_eq];omega
   rw [List.drop_eq_getElem_cons aH,List.contains_cons] at bC
   have bR:=ra (P:=Tryz.prog) (kk:=.i64) aH kr
   generalize l[j]=A at *
   have b0:IntKind.i64.wrap (((j:Nat):Int)+1)=((j+1:Nat):Int):=by rw [Go.IntWalk.i64_in _ (by omega)];omega
   cases hM:(x==A)
   ·simp only [aa,Int.reduceNeg,Nat.reduceEqDiff,reduceCtorEq,a7,f0,f1,f7,f8,c5,bR,hM,b0]
    rw [hM,Bool.false_or] at bC
    exact au ⟨j+1,⟨f0,f1,f7,rfl,by omega,rfl,bC⟩,by omega⟩
   ·simp only [aa,Int.reduceNeg,Nat.reduceEqDiff,reduceCtorEq,a7,f0,f1,f7,f8,c5,bR,hM,aI,Tryz.results130,ac]
    rw [hM,Bool.true_or] at bC
    exact au ⟨⟨_,rfl,by rw [bC];simp⟩,rfl⟩
  ·have c5:decide ((j:Int)<((l.length:Nat):Int))=false:=by simp only [decide_eq_false_iff_not];omega
   rw [List.drop_of_length_le (by omega)] at bC
   simp only [aa,Int.reduceNeg,Nat.reduceEqDiff,f7,f8,c5,aI,Tryz.results130,ac]
   exact au ⟨⟨_,rfl,by rw [bC];rfl⟩,rfl⟩
 refine ab.ao (c:=_) Tryz.func68 rfl (by kernel_rfl) (by simp) ?_
 simp only [aa,Nat.reduceEqDiff,reduceCtorEq]
 refine bU acH fR fun r h1 ⟨⟨k,ar,aT⟩,cg⟩=>?_
 subst ar cg
 simp only [aa,Nat.reduceEqDiff,aI,Tryz.results68,ac]
 exact au ⟨by rw [aT],rfl⟩
theorem VQ (l:List bu) (p v:Int) (ba:kh l) (aM:l.length≤2 ^ 40) (h:J):Pure Tryz.prog 132 [.agg (cQ l p),.int .i64 v] h (.ag (ft v 0 l).length (aO (ft v 0 l))):=by
 refine Pure.acc (e:=3) (sz:=1) (G6 _) (by rw [pb,Nat.mul_one]) (by have:=AJ (v:=v) (l:=l) (j:=0);omega) ?_
 have aF:(V.agg (cQ l p)).cells=some [.ag l.length (l.flatMap al),.int .i64 p]:=rfl
 obtain ⟨H,hH⟩:∃ x,x=h.push (.cells [.ag l.length (l.flatMap al),.int .i64 p] 56 none):=⟨_,rfl⟩
 have gt:H.get h.n=.cells [.ag l.length (l.flatMap al),.int .i64 p] 56 none:=by rw [hH];exact b6
 have bq:I h H none_:=by rw [hH];exact I.push _ _ _
 refine ab.ao (c:=_) Tryz.func132 rfl (by kernel_rfl) (by simp) ?_
 simp only [aa,Nat.reduceEqDiff,Nat.reduceAdd,jH,d9,ji,aF,←hH,gt]
 refine aP.bG (α:=V×Nat) (fun x f h'=>f 1=.int .i64 v∧f 5=x.1∧f 9=.ag l.length (l.flatMap al)∧f 10=.int .i64 ((l.length:Nat):Int)∧f 11=.int .i64 (x.2:Nat)∧x.2≤l.length∧Acc h h' 3 1 x.1 (aO (ft v 0 (l.take x.2)))) (fun x=>l.length - x.2) (.ah,0) ⟨rfl,rfl,rfl,rfl,rfl,Nat.zero_le _,Acc.nil bq⟩ ?_
 rintro ⟨u,i⟩ f h1 ⟨f1,f5,f9,f10,f11,hi,cw⟩
 simp only at f5 f11 hi cw
 refine dw (by kernel_rfl) ?_
 by_cases aH:i<l.length
 ·have c5:decide ((i:Int)<((l.length:Nat):Int))=true:=by simp only [decide_eq_true_eq];omega
  obtain ⟨Ll,Ga,_⟩:=ba.2 _ (List.getElem_mem aH)
  have eo:=oJ (kk:=.i64) (P:=Tryz.prog) hF aH w8
  have gz:=VM v l[i] (l.take i) 0
  rw [←List.take_succ_eq_append_getElem aH,List.length_take,Nat.min_eq_left (by omega),Nat.zero_add] at gz
  generalize l[i]=A at *
  have fp:=oo A
  have ib:∀ (q:List V),cX (some (some 6)) (some (al A++q))=some (.agg (al A)):=fun q=>lC (hF A)
  have b3:(V.agg (al A)).cells=some (al A):=rfl
  have cK:bM (some 6) (aV.cells [.int .i64 0,.ah,.int .i64 0,.int .i64 0,.ah,.int .i64 0] 29 none) 0 (al A)=some (.cells (al A) 29 none):=by
   rw [rl (n:=6) (hF A) (xl A),if_pos (by decide),fp];rfl
  have hY:da (aV.cells (al A) 29 none) 1=some [.ag A.aS.length (aO A.aS),.int .i64 A.e.op,.int .i64 A.e.num,.ag A.e.ax.length (A.e.ax.flatMap aq),.int .i64 A.n]:=by rw [fp];rfl
  have b0:IntKind.i64.wrap (((i:Nat):Int)+1)=((i+1:Nat):Int):=by rw [Go.IntWalk.i64_in _ (by omega)];omega
  have ap:=cw.on (I.push h1 (.cells (al A) 29 none) _)
  simp only [aa,Nat.reduceEqDiff,oU,lb,mi,nb,oc,f1,f9,f10,f11,c5,eo,ib,b3,cK,hY]
  refine bB Kr (Lm A.aS v Ga _) ?_
  cases qq:A.aS.contains v
  ·rw [qq,if_neg (by simp),List.append_nil] at gz
   simp only [aa,Nat.reduceEqDiff,f11,b0]
   exact au ⟨(u,i+1),⟨f1,f5,f9,f10,rfl,by simp only;omega,by simp only;rw [gz];exact ap⟩,by simp only;omega⟩
  ·rw [qq,if_pos rfl] at gz
   obtain ⟨v2,ae,cq,a2⟩:=ap.elem (P:=Tryz.prog) tc (by decide) (xs:=[.int .i64 (i:Nat)]) rfl rfl (by have:=AJ (v:=v) (l:=l.take i) (j:=0);simp [pb,lim] at this⊢;omega) (by have:=AJ (v:=v) (l:=l.take i) (j:=0);simp [pb,lim] at this⊢;omega)
   simp only [eA] at cq
   simp only [aa,Nat.reduceEqDiff,f5,f11,DN,cq,b0]
   exact au ⟨(v2,i+1),⟨f1,rfl,f9,f10,rfl,by simp only;omega,by simp only;rw [gz,YG];exact a2⟩,by simp only;omega⟩
 ·have c5:decide ((i:Int)<((l.length:Nat):Int))=false:=by simp only [decide_eq_false_iff_not];omega
  rw [List.take_of_length_le (by omega)] at cw
  simp only [aa,Nat.reduceEqDiff,f5,f10,f11,c5,aI,Tryz.results132,ac]
  exact au cw
theorem ag1 (h:J) (lX eL e4 ef:Int):lk Tryz.prog 25 2 [(0,.agg [.int .i64 lX,.int .i64 eL,.ah]),(1,.agg [.int .i64 e4,.int .i64 ef,.ah])] h=some (.bp h.n 0 2 2,h.push (.cells [.int .i64 lX,.int .i64 eL,.ah,.int .i64 e4,.int .i64 ef,.ah] 27 none)):=by rw [p0 MN];rfl
theorem ag2 (h:J) (i j b:Nat):lk Tryz.prog 54 3 [(0,.agg [.int .i64 1,.ah,.int .i64 0,.int .i64 0,.ah,.int .i64 0]),(1,.agg [.int .i64 6,.bp i 0 1 1,.int .i64 6,.int .i64 0,.bp b 0 2 2,.int .i64 0]),(2,.agg [.int .i64 10,.bp j 0 1 1,.int .i64 0,.int .i64 0,.ah,.int .i64 0])] h=some (.bp h.n 0 3 3,h.push (.cells [.int .i64 1,.ah,.int .i64 0,.int .i64 0,.ah,.int .i64 0,.int .i64 6,.bp i 0 1 1,.int .i64 6,.int .i64 0,.bp b 0 2 2,.int .i64 0,.int .i64 10,.bp j 0 1 1,.int .i64 0,.int .i64 0,.ah,.int .i64 0] 29 none)):=by rw [p0 EG];rfl
def Gb:bF:=.mk 6 0 [.mk 5 0 [],.mk 3 0 []]
def h6:List bu:=[⟨1,[],.mk 0 0 [],0⟩,⟨6,[0],Gb,0⟩,⟨10,[1],.mk 0 0 [],0⟩]
theorem uB {h:J} {i n:Nat} {cs:List V} {e:TypeId} {sz:Nat} (hi:i<h.n) (aB:h.get i=.cells cs e none) (aM:cs.length=n * sz) (aG:n<cN):Own h e sz (.bp i 0 n n) cs :=
 .inr ⟨i,n,n,cs,none,rfl,hi,aB,aM,by rw [←aM];exact List.take_length,.inl ⟨aG,by omega,Nat.le_refl _⟩⟩
theorem ag3 (h:J) (a b c d e f:aV):let H:=(((((h.push a).push b).push c).push d).push e).push f
  H.n=h.n+6∧H.get h.n=a∧H.get (h.n+1)=b∧H.get (h.n+3)=d∧H.get (h.n+4)=e∧H.get (h.n+5)=f∧I h H none_:=by
 intro H
 refine ⟨rfl,?_,?_,?_,?_,?_,(((((I.push _ _ _).a8 _).a8 _).a8 _).a8 _).a8 _⟩<;>simp only [H,J.push]<;>repeat first | rfl | rw [if_pos trivial] | rw [if_pos rfl] | rw [if_neg (by omega)]
def Ob:List bu:=h6++[⟨10,[2],.mk 0 0 [],1⟩]
theorem qO (o n:Int) (bc:-2 ^ 63≤o∧o<2 ^ 63) (aG:-2 ^ 63≤n∧n<2 ^ 63):fa (.mk o n []):=.mk o n [] (by simp) (by simp) bc aG
theorem Oc:fa Gb:=.mk 6 0 _ (by simp) (by
 intro k hk
 simp at hk
 rcases hk with rfl | rfl
 ·exact qO 5 0 (by omega) (by omega)
 ·exact qO 3 0 (by omega) (by omega)) (by omega) (by omega)
theorem ag4:kh Ob:=by
 refine ⟨by decide,?_⟩
 intro v aN
 simp only [Ob,h6,List.cons_append,List.nil_append,List.mem_cons,List.not_mem_nil,or_false] at aN
 rcases aN with rfl | rfl | rfl | rfl
 ·exact ⟨qO 0 0 (by omega) (by omega),by decide,by unfold hy;decide,by unfold hy;decide,by intro f aC;simp at aC<;>(subst aC;unfold hy;omega)⟩
 ·exact ⟨Oc,by decide,by unfold hy;decide,by unfold hy;decide,by intro f aC;simp at aC<;>(subst aC;unfold hy;omega)⟩
 ·exact ⟨qO 0 0 (by omega) (by omega),by decide,by unfold hy;decide,by unfold hy;decide,by intro f aC;simp at aC<;>(subst aC;unfold hy;omega)⟩
 ·exact ⟨qO 0 0 (by omega) (by omega),by decide,by unfold hy;decide,by unfold hy;decide,by intro f aC;simp at aC<;>(subst aC;unfold hy;omega)⟩
theorem VR:kh h6:=⟨by decide,fun v aN=>ag4.2 v (by simp only [Ob];exact List.mem_append_left _ aN)⟩
theorem az.trans {a b c:List V} {h h1 ae:J} (x:az a h b h1) (y:az b h1 c ae):az a h c ae:=fun ρ B bg w ck hw aM=>
 let ⟨ρ1,ff,c9,v1⟩:=x ρ B bg w ck hw aM
 let ⟨ρ2,eY,b0,v2⟩:=y ρ1 B bg w ck c9 v1
 ⟨ρ2,ff.trans eY,b0,v2⟩
theorem VS {l:List bu} {i:Nat} {v:bu} (h:cL l i v=0):(1≤v.kind∧v.kind≤10)∧(∀ f ∈ v.aS,0≤f∧f<i)∧iE v=true∧AH l i v=false∧(∀ f ∈ v.aS,fE l f≠10):=by
 unfold cL at h
 split at h
 ·cases h
 rename_i h1
 split at h
 ·cases h
 rename_i ae
 split at h
 ·cases h
 rename_i aA
 split at h
 ·cases h
 rename_i bk
 split at h
 ·cases h
 rename_i bN
 refine ⟨by omega,fun f aC=>?_,by simpa using aA,by simpa using bk,fun f aC hk=>?_⟩
 ·have si:(v.aS.any fun f=>decide (f<0∨(i:Int)≤f))=false:=by simpa using ae
  rw [List.any_eq_false] at si
  have:=si f aC
  simp only [decide_eq_true_eq] at this
  omega
 ·exact bN (List.any_eq_true.2 ⟨f,aC,by simp [hk]⟩)
theorem Od {p:Int} {l:List bu} (h:(ct p l).2=0):ct p l=(-1,0)∧(1≤p∧p≤8)∧1≤l.length∧l.length≤24∧ma l 0 l=(-1,0)∧∀ k v,l[k]?=some v→cL l k v=0:=by
 unfold ct at h⊢
 split at h
 ·cases h
 rename_i aG
 rw [if_neg aG]
 obtain ⟨a,b⟩:=N5 h
 exact ⟨a,by omega,by omega,by omega,a,fun k v hk=>by simpa using b k v hk⟩
def eR (v:bu):List Nat:=enc v.kind.toNat++uJ v.aS++enc (hX v.n)++vQ (hj v.e)
def oq (p:Int) (l:List bu):List Nat:=enc p.toNat++enc l.length++l.flatMap eR
def lv (p:Int) (l:List bu):List Nat:=if (ct p l).2=0 then oq p l else []
theorem ag5:∀ k,k<11→(iV.getD k (0,0,0,0)).1≤2:=by decide
theorem Da {p:Int} {l:List bu} (h:(ct p l).2=0):(1≤p∧p≤8)∧1≤l.length∧l.length≤24∧∀ v ∈ l,(1≤v.kind∧v.kind≤10)∧v.aS.length≤2∧(∀ f ∈ v.aS,0≤f∧f<24)∧iE v=true:=by
 unfold ct at h
 split at h
 ·cases h
 rename_i av
 refine ⟨by omega,by omega,by omega,fun v aN=>?_⟩
 obtain ⟨i,hi,rfl⟩:=List.getElem_of_mem aN
 have h0:=(N5 h).2 i l[i] (List.getElem?_eq_getElem hi)
 rw [Nat.zero_add] at h0
 obtain ⟨bo,k2,k3,_,_⟩:=VS h0
 refine ⟨bo,?_,fun f aC=>by have:=k2 f aC;omega,k3⟩
 have:=k3
 unfold iE rN at this
 simp only [Bool.and_eq_true,decide_eq_true_eq] at this
 have ae:=ag5 l[i].kind.toNat (by omega)
 omega
theorem Oe {e:bF} (ba:fa e):(hj e).length≤1280:=by
 unfold hj
 split
 ·rename_i hm
  have h1:=M9 (dF e) e rfl ba
  have ae:=Nc hm
  omega
 ·simp
theorem VT {l:List Int} (h:∀ n ∈ l,-2 ^ 63≤n∧n<2 ^ 63) (aM:l.length≤2):(uJ l).length≤30:=by
 unfold uJ
 rw [List.length_append]
 have h1:=TW h
 have ae:=(nI l.length (by omega)).2
 omega
theorem VU {v:bu} (ba:tp v) (hk:1≤v.kind∧v.kind≤10) (aM:v.aS.length≤2):(eR v).length≤1400:=by
 unfold eR vQ
 simp only [List.length_append]
 have h1:=VT ba.2.2.2.2 aM
 have ae:=(nI v.kind.toNat (by omega)).2
 have aA:=(nI (hX v.n) (xe _ ba.2.2.2.1.1 ba.2.2.2.1.2)).2
 have bk:=Oe ba.1
 have bN:=(nI (hj v.e).length (by omega)).2
 omega
theorem VV {l:List bu} (h:∀ v ∈ l,(eR v).length≤1400):(l.flatMap eR).length≤1400 * l.length:=by
 induction l with
 | nil=>simp
 | cons v l ih=>
  have h1:=h v (by simp)
  have ae:=ih fun u hu=>h u (by simp [hu])
  simp only [List.flatMap_cons,List.length_append,List.length_cons]
  omega
def AL (p:Int) (l:List bu):V:=.tuple [.ag (lv p l).length (ep (lv p l)),.int .i64 (ct p l).2]
theorem ag6 (p:Int) (l:List bu):bh (AL p l):=bh.tuple (bl.cons (bh.ag (yB _)) (bl.cons (bh.int _ _) bl.nil))
theorem ag7 (l:List bu) (p:Int) (ba:kh l) (h:J) (aB:lP h):Pure Tryz.prog 65 [.agg (cQ l p)] h (AL p l):=by
 refine Pure.of (ag6 p l) ?_
 have aF:(V.agg (cQ l p)).cells=some [.ag l.length (l.flatMap al),.int .i64 p]:=rfl
 obtain ⟨H,hH⟩:∃ x,x=h.push (.cells [.ag l.length (l.flatMap al),.int .i64 p] 56 none):=⟨_,rfl⟩
 have gt:H.get h.n=.cells [.ag l.length (l.flatMap al),.int .i64 p] 56 none:=by rw [hH];exact b6
 have bq:I h H none_:=by rw [hH];exact I.push _ _ _
 have h9:h.n<H.n:=by rw [hH];exact Nat.lt_succ_self _
 refine ab.ao (c:=_) Tryz.func65 rfl (by kernel_rfl) (by simp) ?_
 simp only [aa,Nat.reduceEqDiff,Nat.reduceAdd,kp,aF,←hH,gt]
 refine bB MC (Oa l p ba H (aB.aj bq)) ?_
 by_cases h0:(ct p l).2=0
 rotate_left
 ·have bd:((ct p l).2 !=0)=true:=by simpa using h0
  have hI:AL p l=.tuple [.ag 0 [],.int .i64 (ct p l).2]:=by unfold AL lv;rw [if_neg h0];rfl
  rw [hI]
  simp only [aa,Nat.reduceEqDiff,pO,bd,aI,Tryz.results65,cW]
  exact au ⟨_,aK.tuple (az.cons (aK.kN _) (az.refl _ _)),bq⟩
 ·have bd:((ct p l).2 !=0)=false:=by simpa using h0
  obtain ⟨aW,lf,jr,dx⟩:=Da h0
  obtain ⟨P,rfl⟩:=Int.eq_ofNat_of_zero_le (show 0≤p by omega)
  have hI:AL P l=.tuple [.ag (oq P l).length (ep (oq P l)),.int .i64 0]:=by unfold AL lv;rw [if_pos h0,h0]
  have AM:=E3 (n:=P) (by omega)
  have Of:=E3 (n:=l.length) (by omega)
  simp only [aa,Nat.reduceEqDiff,Nat.reduceAdd,Nat.reduceLeDiff,CS,a7,pO,bd,gt,iZ fb ln,AM]
  refine bB Ia (Iu .ah [] P H (Rd.ah _) (by simp) (by omega)) ?_
  simp only [aa,Nat.reduceEqDiff,Nat.reduceAdd,jH,d9,ji,gt,iZ fb ln,Of]
  have ar:=(nI P (by omega)).2
  have aT:=(nI l.length (by omega)).2
  refine bB Ia (Iu _ _ l.length H (Rd.ag _ _) (by omega) (by omega)) ?_
  simp only [aa,Nat.reduceEqDiff,Nat.reduceAdd,jH,d9,ji,gt]
  have hlen:∀ v ∈ l,(eR v).length≤1400:=fun v aN=>VU (ba.2 v aN) (dx v aN).1 (dx v aN).2.1
  refine aP.bG (α:=Nat) (fun i f h'=>f 1=.ptr h.n 0∧f 6=.ag (enc P++enc l.length++(l.take i).flatMap eR).length (ep (enc P++enc l.length++(l.take i).flatMap eR))∧f 30=.ag l.length (l.flatMap al)∧f 31=.int .i64 ((l.length:Nat):Int)∧f 32=.int .i64 (i:Nat)∧i≤l.length∧I h h' none_) (fun i=>l.length - i) 0
   ⟨rfl,by simp only [List.take_zero,List.flatMap_nil,List.append_nil];rfl,rfl,rfl,rfl,Nat.zero_le _,bq⟩ ?_
  rintro i f h1 ⟨f1,f6,f30,f31,f32,hi,bo⟩
  refine dw (by kernel_rfl) ?_
  by_cases aH:i<l.length
  ·have c5:decide ((i:Int)<((l.length:Nat):Int))=true:=by simp only [decide_eq_true_eq];omega
   have hA:=ba.2 _ (List.getElem_mem aH)
   obtain ⟨vL,Am,atr,_⟩:=dx _ (List.getElem_mem aH)
   have eo:=oJ (kk:=.i64) (P:=Tryz.prog) hF aH w8
   have gz:(l.take (i+1)).flatMap eR=(l.take i).flatMap eR++eR l[i]:=TV l eR aH
   have dk:((l.take i).flatMap eR).length≤1400 * 24:=by
    have:=VV (l:=l.take i) fun v aN=>hlen v (List.mem_of_mem_take aN)
    rw [List.length_take] at this
    have:(l.take i).length≤24:=by rw [List.length_take];omega
    omega
   generalize l[i]=A at *
   have fp:=oo A
   have ib:∀ (q:List V),cX (some (some 6)) (some (al A++q))=some (.agg (al A)):=fun q=>lC (hF A)
   have b3:(V.agg (al A)).cells=some (al A):=rfl
   have cK:bM (some 6) (aV.cells [.int .i64 0,.ah,.int .i64 0,.int .i64 0,.ah,.int .i64 0] 29 none) 0 (al A)=some (.cells (al A) 29 none):=by
    rw [rl (n:=6) (hF A) (xl A),if_pos (by decide),fp];rfl
   have eQ:da (aV.cells (al A) 29 none) 0=some [.int .i64 A.kind,.ag A.aS.length (aO A.aS),.int .i64 A.e.op,.int .i64 A.e.num,.ag A.e.ax.length (A.e.ax.flatMap aq),.int .i64 A.n]:=by rw [fp];rfl
   have hY:da (aV.cells (al A) 29 none) 1=some [.ag A.aS.length (aO A.aS),.int .i64 A.e.op,.int .i64 A.e.num,.ag A.e.ax.length (A.e.ax.flatMap aq),.int .i64 A.n]:=by rw [fp];rfl
   have hS:da (aV.cells (al A) 29 none) 2=some (aq A.e++[.int .i64 A.n]):=by obtain ⟨k,ay,⟨o,m,ax⟩,n⟩:=A;rw [fp,hT];rfl
   have rO:da (aV.cells (al A) 29 none) 5=some [.int .i64 A.n]:=by rw [fp];rfl
   have b0:IntKind.i64.wrap (((i:Nat):Int)+1)=((i+1:Nat):Int):=by rw [Go.IntWalk.i64_in _ (by omega)];omega
   have ag8:IntKind.u64.wrap A.kind=((A.kind.toNat:Nat):Int):=by rw [IntKind.wrap_u64];omega
   have VW:=Na A.e
   obtain ⟨cs,dZ⟩:∃ y,y=enc P++enc l.length++(l.take i).flatMap eR:=⟨_,rfl⟩
   have Og:enc P++enc l.length++(l.take (i+1)).flatMap eR=(((cs++enc A.kind.toNat)++uJ A.aS)++enc (hX A.n))++vQ (hj A.e):=by rw [gz,dZ,eR];simp only [List.append_assoc]
   have qq:cs.length≤40000:=by rw [dZ];simp only [List.length_append];omega
   rw [←dZ] at f6
   have g1:=(nI A.kind.toNat (by omega)).2
   have g2:=VT hA.2.2.2.2 Am
   have g3:=(nI (hX A.n) (xe _ hA.2.2.2.1.1 hA.2.2.2.1.2)).2
   have g4:=Oe hA.1
   have VX:lP (h1.push (.cells (al A) 29 none)):=aB.aj (bo.trans' (I.push _ _ _))
   simp only [aa,Nat.reduceEqDiff,fL,mi,a7,nb,oc,f6,f30,f31,f32,c5,eo,ib,b3,cK,eQ,iZ fb ln,ag8]
   refine bB Ia (Iu _ _ A.kind.toNat _ (Rd.ag _ _) (by omega) (by omega)) ?_
   simp only [aa,Nat.reduceEqDiff,oU,lb,hY]
   refine bB acD (agO _ _ A.aS _ (Rd.ag _ _) hA.2.2.2.2 (by rw [List.length_append];omega)) ?_
   simp only [aa,Nat.reduceEqDiff,vM,br,rO]
   refine bB SL (E2 _ _ A.n _ (Rd.ag _ _) (by simp only [List.length_append];omega) hA.2.2.2.1.1 hA.2.2.2.1.2) ?_
   simp only [aa,Nat.reduceEqDiff,nF,eG,hS,VW]
   refine bB MI (Nd A.e hA.1 _ VX.1) ?_
   simp only [aa,Nat.reduceEqDiff,pE]
   refine bB acE (agN _ _ _ (hj A.e) _ (Rd.ag _ _) (Rd.ag _ _) (by simp only [List.length_append];omega)) ?_
   simp only [aa,Nat.reduceEqDiff,f32,b0]
   exact au ⟨i+1,⟨f1,by rw [Og];rfl,f30,f31,rfl,by omega,bo.trans' (I.push _ _ _)⟩,by omega⟩
  ·have c5:decide ((i:Int)<((l.length:Nat):Int))=false:=by simp only [decide_eq_false_iff_not];omega
   rw [List.take_of_length_le (by omega)] at f6
   rw [hI]
   simp only [aa,Nat.reduceEqDiff,f6,f31,f32,c5,aI,Tryz.results65,cW]
   exact au ⟨_,aK.refl _ _,bo⟩
theorem AN (i:Nat) (an:List Nat) (h:J) (aU:cU h (.ptr i 0) i an) (av:∀ b ∈ an,b<256) (aF:an.length≤2 ^ 47) :
  ab Tryz.prog 181 [.ptr i 0] h (fun r h'=>r=.tuple [.int .i64 ((min (dec an 0 0).1 1000:Nat):Int),.int .i64 ((dec an 0 0).2.2:Nat)]∧cU h' (.ptr i 0) i (an.drop (dec an 0 0).2.1)∧I h h' (·=i)):=by
 refine ab.ao (c:=_) Tryz.func181 rfl (by kernel_rfl) (by simp) ?_
 simp only [aa,Nat.reduceEqDiff,reduceCtorEq]
 refine bU Ic (Iv _ i an h aU av aF) fun r h1 ⟨ar,cA,bo⟩=>?_
 subst ar
 have AM:IntKind.i64.wrap (min ((dec an 0 0).1:Int) 1000)=((min (dec an 0 0).1 1000:Nat):Int):=by rw [Go.IntWalk.i64_in _ (by omega)];omega
 simp only [aa,Nat.reduceEqDiff,iZ ln fb,AM,aI,Tryz.results181,cW]
 exact au ⟨rfl,cA,bo⟩
def ot (k:Nat) (ay:List Int) (n:Int) (an:List Nat):Except Nat (bu×List Nat) :=
 if (fZ an).2.2≠0 then .error (fZ an).2.2
 else if (fZ an).1.length=0 then .ok (⟨(k:Int),ay,.mk 0 0 [],n⟩,(fZ an).2.1)
 else if lI (fZ an).1≠0 then .error (lI (fZ an).1)
 else .ok (⟨(k:Int),ay,l4 (fZ an).1,n⟩,(fZ an).2.1)
def ou (k:Nat) (ay:List Int) (an:List Nat):Except Nat (bu×List Nat) :=
 if (dec an 0 0).2.2≠0 then .error (dec an 0 0).2.2 else ot k ay (eV (dec an 0 0).1) (an.drop (dec an 0 0).2.1)
def ov (k:Nat) (an:List Nat):Except Nat (bu×List Nat) :=
 if (hh an 2).2.2≠0 then .error (hh an 2).2.2 else ou k (hh an 2).1 (hh an 2).2.1
def lJ (an:List Nat):Except Nat (bu×List Nat) :=
 if (dec an 0 0).2.2≠0 then .error (dec an 0 0).2.2 else ov (min (dec an 0 0).1 1000) (an.drop (dec an 0 0).2.1)
def AO:bu:=⟨0,[],.mk 0 0 [],0⟩
def Oh:Except Nat (bu×List Nat)→V
 | .error c=>.tuple [.agg (al AO),.int .i64 (c:Nat)]
 | .ok (v,_)=>.tuple [.agg (al v),.int .i64 0]
def Sub (a b:List Nat):Prop:=(∀ x ∈ a,x ∈ b)∧a.length≤b.length
theorem Sub.rfl' (a:List Nat):Sub a a:=⟨fun _ h=>h,Nat.le_refl _⟩
theorem Sub.nil (a:List Nat):Sub [] a:=⟨fun _ h=>(by cases h),Nat.zero_le _⟩
theorem Sub.trans {a b c:List Nat} (x:Sub a b) (y:Sub b c):Sub a c:=⟨fun q h=>y.1 q (x.1 q h),Nat.le_trans x.2 y.2⟩
theorem Sub.drop (a:List Nat) (k:Nat):Sub (a.drop k) a:=⟨fun _ h=>List.mem_of_mem_drop h,by rw [List.length_drop];omega⟩
theorem Sub.take (a:List Nat) (k:Nat):Sub (a.take k) a:=⟨fun _ h=>List.mem_of_mem_take h,by rw [List.length_take];omega⟩
theorem Sub.lt {a b:List Nat} (x:Sub a b) (h:∀ q ∈ b,q<256):∀ q ∈ a,q<256:=fun q af=>h q (x.1 q af)
theorem VY:∀ (m:Nat) (r:List Nat) (acc:List Int),Sub (od m r acc).2.1 r
 | 0,r,acc=>Sub.rfl' r
 | m+1,r,acc=>by
  unfold od
  split
  ·exact Sub.nil _
  ·split
   ·exact Sub.nil _
   ·exact (VY m _ _).trans (Sub.drop _ _)
theorem VZ (an:List Nat) (m:Int):Sub (hh an m).2.1 an:=by
 unfold hh
 split
 ·exact Sub.rfl' _
 ·split
  ·exact Sub.rfl' _
  ·split
   ·exact Sub.rfl' _
   ·exact (VY _ _ _).trans (Sub.drop _ _)
theorem Oi (an:List Nat):Sub (fZ an).2.1 an∧Sub (fZ an).1 an:=by
 unfold fZ
 split
 ·exact ⟨Sub.rfl' _,Sub.nil _⟩
 ·split
  ·exact ⟨Sub.rfl' _,Sub.nil _⟩
  ·exact ⟨(Sub.drop _ _).trans (Sub.drop _ _),(Sub.take _ _).trans (Sub.drop _ _)⟩
theorem Gc (h:J) (c:Nat):aK (.tuple [.agg [.int .i64 0,.ah,.int .i64 0,.int .i64 0,.ah,.int .i64 0],.int .i64 (c:Nat)]) h (.tuple [.agg (al AO),.int .i64 (c:Nat)]) h:=by
 refine aK.tuple (az.cons ?_ (az.refl _ _))
 rw [oo]
 exact Pk.aK.agg (az.skip (az.cons (aK.iR h) (az.skip (az.skip (az.cons (aK.iR h) (az.refl _ _))))))
theorem ag9 (h:J) (k:Nat) (ay:List Int) (n:Int):aK (.tuple [.agg [.int .i64 (k:Int),.ag ay.length (aO ay),.int .i64 0,.int .i64 0,.ah,.int .i64 n],.int .i64 0]) h (.tuple [.agg (al ⟨(k:Int),ay,.mk 0 0 [],n⟩),.int .i64 0]) h:=by
 refine aK.tuple (az.cons ?_ (az.refl _ _))
 rw [oo]
 exact Pk.aK.agg (az.skip (az.skip (az.skip (az.skip (az.cons (aK.iR h) (az.refl _ _))))))
theorem aha (i:Nat) (an:List Nat) (h:J) (aB:fc h) (aU:cU h (.ptr i 0) i an) (av:∀ b ∈ an,b<256) (aF:an.length≤2 ^ 47) :
  ab Tryz.prog 182 [.ptr i 0] h (fun r h'=>r=Oh (lJ an)∧I h h' (·=i)∧∀ v c2,lJ an=.ok (v,c2)→cU h' (.ptr i 0) i c2):=by
 refine ab.cast ?_
 refine ab.ao (c:=_) Tryz.func182 rfl (by kernel_rfl) (by simp) ?_
 have bS:=aU.2.1
 obtain ⟨hl,fl⟩:∃ y,y=h.push (.cells [V.int .i64 0,.ah,.int .i64 0,.int .i64 0,.ah,.int .i64 0] 29 none):=⟨_,rfl⟩
 have dC:I h hl (·=i):=by rw [fl];exact I.push _ _ _
 have B7:I h hl none_:=by rw [fl];exact I.push _ _ _
 have g0:hl.get h.n=.cells [V.int .i64 0,.ah,.int .i64 0,.int .i64 0,.ah,.int .i64 0] 29 none:=by rw [fl];exact b6
 have p2:hl.n=h.n+1:=by rw [fl];rfl
 have iN:=cU.aj aU B7 (by simp [none_])
 have mP:bM (some 6) (aV.cells [V.int .i64 0,.ah,.int .i64 0,.int .i64 0,.ah,.int .i64 0] 29 none) 0 [V.int .i64 0,.ah,.int .i64 0,.int .i64 0,.ah,.int .i64 0]=some (.cells [V.int .i64 0,.ah,.int .i64 0,.int .i64 0,.ah,.int .i64 0] 29 none):=rfl
 have z0:(((0:Nat):Int) !=0)=false:=rfl
 simp only [aa,Nat.reduceEqDiff,reduceCtorEq,nb]
 rw [←fl]
 clear fl
 refine bU MG (AN i an hl iN av (by omega)) fun r H1 ⟨ar,cA,bo⟩=>?_
 subst ar
 have s1:Sub (an.drop (dec an 0 0).2.1) an:=Sub.drop _ _
 have g1:=(bo.get h.n (by omega) (by omega)).trans g0
 have nJ:=dC.trans' bo
 have eL:=bo.n
 by_cases ar:(dec an 0 0).2.2=0
 rotate_left
 ·have bd:(((dec an 0 0).2.2:Int) !=0)=true:=by simp;omega
  have hI:lJ an=.error (dec an 0 0).2.2:=by unfold lJ;rw [if_pos ar]
  simp only [aa,Nat.reduceEqDiff,Nat.reduceAdd,mi,xa,nb,oc,bd,g1,mP,aI,Tryz.results182,fW,fJ,eI,fV]
  rw [hI]
  exact au ⟨_,_,Gc _ _,rfl,nJ.trans (I.set _ h.n _) fun q af U=>by omega,fun v c2 U=>by cases U⟩
 have k1:lJ an=ov (min (dec an 0 0).1 1000) (an.drop (dec an 0 0).2.1):=by unfold lJ;rw [if_neg (by omega)]
 rw [ar] at *
 rw [k1]
 generalize min (dec an 0 0).1 1000=K at *
 generalize an.drop (dec an 0 0).2.1=dt at *
 clear k1
 simp only [aa,Nat.reduceEqDiff,reduceCtorEq,z0]
 refine bU ac5 (agQ _ i dt 2 H1 cA (s1.lt av) (by have:=s1.2;omega) (.inr (by decide)) (by decide)) fun r bI ⟨aT,eb,k2⟩=>?_
 subst aT
 have s2:=(VZ dt 2).trans s1
 have g2:=(k2.get h.n (by omega) (by omega)).trans g1
 have c6:=nJ.trans' k2
 have ef:=k2.n
 by_cases aT:(hh dt 2).2.2=0
 rotate_left
 ·have bd:(((hh dt 2).2.2:Int) !=0)=true:=by simp;omega
  have hI:ov K dt=.error (hh dt 2).2.2:=by unfold ov;rw [if_pos aT]
  simp only [aa,Nat.reduceEqDiff,Nat.reduceAdd,mi,xa,nb,oc,bd,g2,mP,aI,Tryz.results182,fW,fJ,eI,fV]
  rw [hI]
  exact au ⟨_,_,Gc _ _,rfl,c6.trans (I.set _ h.n _) fun q af U=>by omega,fun v c2 U=>by cases U⟩
 have k1:ov K dt=ou K (hh dt 2).1 (hh dt 2).2.1:=by unfold ov;rw [if_neg (by omega)]
 rw [aT] at *
 rw [k1]
 generalize (hh dt 2).1=ay at *
 generalize (hh dt 2).2.1=b1 at *
 clear k1
 simp only [aa,Nat.reduceEqDiff,reduceCtorEq,z0]
 refine bU MD (Ae _ i b1 bI eb (s2.lt av) (by have:=s2.2;omega)) fun r hG ⟨cg,jk,k3⟩=>?_
 subst cg
 have im:=(Sub.drop b1 (dec b1 0 0).2.1).trans s2
 have g3:=(k3.get h.n (by omega) (by omega)).trans g2
 have dL:=c6.trans' k3
 have n3:=k3.n
 by_cases cg:(dec b1 0 0).2.2=0
 rotate_left
 ·have bd:(((dec b1 0 0).2.2:Int) !=0)=true:=by simp;omega
  have hI:ou K ay b1=.error (dec b1 0 0).2.2:=by unfold ou;rw [if_pos cg]
  simp only [aa,Nat.reduceEqDiff,Nat.reduceAdd,mi,xa,nb,oc,bd,g3,mP,aI,Tryz.results182,fW,fJ,eI,fV]
  rw [hI]
  exact au ⟨_,_,Gc _ _,rfl,dL.trans (I.set _ h.n _) fun q af U=>by omega,fun v c2 U=>by cases U⟩
 have k1:ou K ay b1=ot K ay (eV (dec b1 0 0).1) (b1.drop (dec b1 0 0).2.1):=by unfold ou;rw [if_neg (by omega)]
 rw [cg] at *
 rw [k1]
 generalize eV (dec b1 0 0).1=N at *
 generalize b1.drop (dec b1 0 0).2.1=e9 at *
 clear k1
 simp only [aa,Nat.reduceEqDiff,reduceCtorEq,z0]
 refine bU ac6 (agP _ i e9 hG jk (im.lt av) (by have:=im.2;omega)) fun r gC ⟨h8,Af,bY⟩=>?_
 subst h8
 have oe:=(Oi e9).2.trans im
 have g4:=(bY.get h.n (by omega) (by omega)).trans g3
 have oL:=dL.trans' bY
 have n4:=bY.n
 by_cases h8:(fZ e9).2.2=0
 rotate_left
 ·have bd:(((fZ e9).2.2:Int) !=0)=true:=by simp;omega
  have hI:ot K ay N e9=.error (fZ e9).2.2:=by unfold ot;rw [if_pos h8]
  simp only [aa,Nat.reduceEqDiff,Nat.reduceAdd,mi,xa,nb,oc,bd,g4,mP,aI,Tryz.results182,fW,fJ,eI,fV]
  rw [hI]
  exact au ⟨_,_,Gc _ _,rfl,oL.trans (I.set _ h.n _) fun q af U=>by omega,fun v c2 U=>by cases U⟩
 have k1:ot K ay N e9=if (fZ e9).1.length=0 then .ok (⟨(K:Int),ay,.mk 0 0 [],N⟩,(fZ e9).2.1) else if lI (fZ e9).1≠0 then .error (lI (fZ e9).1) else .ok (⟨(K:Int),ay,l4 (fZ e9).1,N⟩,(fZ e9).2.1):=by unfold ot;rw [if_neg (by omega)]
 rw [k1]
 clear k1
 rw [h8] at *
 have st1:∀ (k:Int) (m:Nat) (x:List V) (n:Int),bM (some 6) (aV.cells [V.int .i64 0,.ah,.int .i64 0,.int .i64 0,.ah,.int .i64 0] 29 none) 0 [.int .i64 k,.ag m x,.int .i64 0,.int .i64 0,.ah,.int .i64 n]=some (.cells [.int .i64 k,.ag m x,.int .i64 0,.int .i64 0,.ah,.int .i64 n] 29 none):=fun _ _ _ _=>rfl
 obtain ⟨gy,fx⟩:∃ y,y=gC.push (.cells [V.int .i64 (K:Int),.ag ay.length (aO ay),.int .i64 0,.int .i64 0,.ah,.int .i64 N] 29 none):=⟨_,rfl⟩
 have cG:I gC gy (·=i):=by rw [fx];exact I.push _ _ _
 have V0:I gC gy none_:=by rw [fx];exact I.push _ _ _
 have Gd:gy.get gC.n=.cells [V.int .i64 (K:Int),.ag ay.length (aO ay),.int .i64 0,.int .i64 0,.ah,.int .i64 N] 29 none:=by rw [fx];exact b6
 have Ag:gy.n=gC.n+1:=by rw [fx];rfl
 have g5:=(cG.get h.n (by omega) (by omega)).trans g4
 have l3:=oL.trans' cG
 have CZ:=cU.aj Af V0 (by simp [none_])
 simp only [aa,Nat.reduceEqDiff,Nat.reduceAdd,Nat.reduceLeDiff,py,xa,nb,oc,z0,st1]
 rw [←fx]
 clear fx
 by_cases de:(fZ e9).1.length=0
 ·have bd:decide ((0:Int)<(((fZ e9).1.length:Nat):Int))=false:=decide_eq_false (by omega)
  rw [if_pos de]
  simp only [aa,Nat.reduceEqDiff,Nat.reduceAdd,mi,oc,bd,Gd,g5,st1,aI,Tryz.results182,fW,fJ,eI,fV]
  have dV:I gy (gy.set h.n (.cells [V.int .i64 (K:Int),.ag ay.length (aO ay),.int .i64 0,.int .i64 0,.ah,.int .i64 N] 29 none)) (·=h.n):=I.set _ h.n _
  exact au ⟨_,_,ag9 _ _ _ _,rfl,l3.trans dV fun q af U=>by omega,fun v c2 U=>by injection U with U;injection U with h1 ae;subst ae;exact CZ.aj dV (by omega)⟩
 ·have bd:decide ((0:Int)<(((fZ e9).1.length:Nat):Int))=true:=decide_eq_true (by omega)
  simp only [aa,Nat.reduceEqDiff,bd]
  refine bB S3 (KK _ (fZ e9).1 gy (aB.aj l3) (Rd.ag _ _) (oe.lt av) (by have:=oe.2;omega)) ?_
  rw [if_neg de]
  generalize (fZ e9).1=xs at *
  unfold pI
  have Ln:=uK (l4 xs)
  obtain ⟨A,gj⟩:∃ y,y=(⟨(K:Int),ay,l4 xs,N⟩:bu):=⟨_,rfl⟩
  have Lo:bM (some 3) (aV.cells [V.int .i64 (K:Int),.ag ay.length (aO ay),.int .i64 0,.int .i64 0,.ah,.int .i64 N] 29 none) 2 (aq (l4 xs))=some (.cells (al A) 29 none):=by
   rw [rl (n:=3) (na _) (EV _),if_pos (by simp),gj]
   simp only [al]
   generalize l4 xs=E
   cases E
   rfl
  have b3:(V.agg (al A)).cells=some (al A):=rfl
  have cK:bM (some 6) (aV.cells [V.int .i64 0,.ah,.int .i64 0,.int .i64 0,.ah,.int .i64 0] 29 none) 0 (al A)=some (.cells (al A) 29 none):=by
   rw [rl (n:=6) (hF A) (xl A),if_pos (by decide),oo];rfl
  have eQ:da (aV.cells (al A) 29 none) 0=some (al A):=by rw [oo];rfl
  have ig:cX (some (some 6)) (some (al A))=some (.agg (al A)):=by rw [oo];rfl
  have ama:(if 6≤(al A).length then some (V.agg (List.take 6 (al A))) else none)=some (.agg (al A)):=by rw [oo];rfl
  have vL:I gy (gy.set gC.n (.cells (al A) 29 none)) (·=gC.n):=I.set _ _ _
  have g6:=(vL.get h.n (by omega) (by omega)).trans g5
  by_cases hQ:lI xs=0
  ·have bH:((lI xs:Int) !=0)=false:=by simp [hQ]
   rw [if_neg (by omega)]
   simp only [aa,Nat.reduceEqDiff,nF,mi,lp,oc,Ln,Gd,Lo,bH,eQ,ig,g6,b3,cK,aI,Tryz.results182,fW,fJ,eI,fV]
   have dV:I (gy.set gC.n (.cells (al A) 29 none)) ((gy.set gC.n (.cells (al A) 29 none)).set h.n (.cells (al A) 29 none)) (·=h.n):=I.set _ h.n _
   exact au ⟨_,_,aK.refl _ _,by rw [gj];rfl,(l3.trans vL fun q af U=>by omega).trans dV fun q af U=>by omega,fun v c2 U=>by injection U with U;injection U with h1 ae;subst ae;exact (CZ.aj vL (by omega)).aj dV (by omega)⟩
  ·have bH:((lI xs:Int) !=0)=true:=by simp;omega
   rw [if_pos hQ]
   simp only [aa,Nat.reduceEqDiff,Nat.reduceAdd,nF,mi,xa,nb,lp,oc,Ln,Gd,Lo,bH,g6,mP,aI,Tryz.results182,fW,fJ,eI,fV]
   exact au ⟨_,_,Gc _ _,rfl,(l3.trans vL fun q af U=>by omega).trans (I.set _ h.n _) fun q af U=>by omega,fun v c2 U=>by cases U⟩
def gO:Nat→List Nat→List bu→Except Nat (List bu×List Nat)
 | 0,an,acc=>.ok (acc,an)
 | m+1,an,acc=>match lJ an with
  | .error c=>.error c
  | .ok (v,c2)=>gO m c2 (acc++[v])
def ow (p n:Nat) (an:List Nat):Except Nat (Nat×List bu×List Nat):=match gO n an [] with
 | .error c=>.error c
 | .ok (l,r)=>.ok (p,l,r)
def ox (p:Nat) (an:List Nat):Except Nat (Nat×List bu×List Nat) :=
 if (dec an 0 0).2.2≠0 then .error (dec an 0 0).2.2 else if 24<min (dec an 0 0).1 1000 then .error 2 else ow p (min (dec an 0 0).1 1000) (an.drop (dec an 0 0).2.1)
def mQ (an:List Nat):Except Nat (Nat×List bu×List Nat) :=
 if (dec an 0 0).2.2≠0 then .error (dec an 0 0).2.2 else ox (min (dec an 0 0).1 1000) (an.drop (dec an 0 0).2.1)
def Oj:Except Nat (Nat×List bu×List Nat)→V
 | .error c=>.tuple [.agg (cQ [] 0),.int .i64 (c:Nat)]
 | .ok (p,l,_)=>.tuple [.agg (cQ l (p:Int)),.int .i64 0]
theorem ahb {xs:List Nat} (h:lI xs≠0→False) (ak:xs≠[]):∃ e,lH xs=.ok e∧l4 xs=e:=by
 unfold lI at h
 unfold l4
 cases af:lH xs with
 | ok e=>exact ⟨e,rfl,rfl⟩
 | error c=>rw [af] at h;exact (h (aeF af)).elim
theorem V1:∀ (m:Nat) (r:List Nat) (acc:List Int),(∀ b ∈ r,b<256)→(od m r acc).2.2=0→∃ l,(od m r acc).1=acc++l∧l.length=m∧r=(l.flatMap fun n=>enc (hX n))++(od m r acc).2.1∧∀ n ∈ l,-2147483648≤n∧n≤2147483647
 | 0,r,acc,_,_=>⟨[],by simp [od],rfl,by simp [od],by simp⟩
 | m+1,r,acc,av,h=>by
  unfold od at h⊢
  split at h
  ·rename_i h1;exact absurd h h1
  ·rename_i h1
   rw [if_neg h1]
   split at h
   ·cases h
   ·rename_i ae
    rw [if_neg ae]
    obtain ⟨aA,bk⟩:=uM av (by omega)
    obtain ⟨l,cq,cP,ey,iD⟩:=V1 m _ _ (fun b af=>av b (List.mem_of_mem_drop af)) h
    refine ⟨eV (dec r 0 0).1::l,by rw [cq];simp,by simp [cP],?_,?_⟩
    ·rw [List.flatMap_cons,Nf _ bk,List.append_assoc,←ey];exact aA
    ·intro n aG
     rcases List.mem_cons.1 aG with rfl | aG
     ·omega
     ·exact iD n aG
theorem ahc {an:List Nat} (av:∀ b ∈ an,b<256) (h:(hh an 2).2.2=0):an=uJ (hh an 2).1++(hh an 2).2.1∧(hh an 2).1.length≤2∧∀ n ∈ (hh an 2).1,-2147483648≤n∧n≤2147483647:=by
 unfold hh at h⊢
 split at h
 ·rename_i h1;exact absurd h h1
 rename_i h1
 rw [if_neg h1]
 split at h
 ·cases h
 rename_i ae
 rw [if_neg ae]
 split at h
 ·rename_i aA;exact absurd h aA
 rename_i aA
 rw [if_neg aA]
 obtain ⟨bk,bN⟩:=uM av (by omega)
 obtain ⟨l,cq,cP,ey,iD⟩:=V1 _ _ [] (fun b af=>av b (List.mem_of_mem_drop af)) h
 rw [List.nil_append] at cq
 rw [cq]
 refine ⟨?_,by omega,iD⟩
 unfold uJ
 rw [cP,List.append_assoc,←ey]
 exact bk
theorem ahd {an:List Nat} (av:∀ b ∈ an,b<256) (h:(fZ an).2.2=0):an=vQ (fZ an).1++(fZ an).2.1:=by
 unfold fZ at h⊢
 split at h
 ·rename_i h1;exact absurd h h1
 rename_i h1
 rw [if_neg h1]
 split at h
 ·cases h
 rename_i ae
 rw [if_neg ae]
 obtain ⟨bk,bN⟩:=uM av (by omega)
 unfold vQ
 simp only
 rw [List.length_take,Nat.min_eq_left (by omega),List.append_assoc,List.take_append_drop]
 exact bk
theorem V2 {an:List Nat} (av:∀ b ∈ an,b<256) {v:bu} {c2:List Nat} (h:lJ an=.ok (v,c2)):tp v∧Sub c2 an∧(v.kind<1000→an=eR v++c2):=by
 unfold lJ at h
 split at h
 ·cases h
 rename_i ar
 obtain ⟨d1,ff⟩:=uM av (by omega)
 have s1:=Sub.drop an (dec an 0 0).2.1
 generalize bE:(dec an 0 0).1=K at *
 generalize an.drop (dec an 0 0).2.1=dt at *
 unfold ov at h
 split at h
 ·cases h
 rename_i aT
 obtain ⟨d2,eY,eb⟩:=ahc (s1.lt av) (by omega)
 have s2:=(VZ dt 2).trans s1
 generalize (hh dt 2).1=ay at *
 generalize (hh dt 2).2.1=b1 at *
 unfold ou at h
 split at h
 ·cases h
 rename_i cg
 obtain ⟨d3,wX⟩:=uM (s2.lt av) (by omega)
 have im:=(Sub.drop b1 (dec b1 0 0).2.1).trans s2
 have Kp:=TX _ wX
 have z3:=Nf _ wX
 generalize (dec b1 0 0).1=N at *
 generalize b1.drop (dec b1 0 0).2.1=e9 at *
 unfold ot at h
 split at h
 ·cases h
 rename_i h8
 have d4:=ahd (im.lt av) (by omega)
 have oe:=(Oi e9).1.trans im
 have Ao:=(Oi e9).2.trans im
 generalize (fZ e9).1=xs at *
 generalize (fZ e9).2.1=qa at *
 have vt:∀ f ∈ ay,hy f:=fun f aC=>by have:=eb f aC;unfold hy;omega
 split at h
 ·rename_i h0
  injection h with h
  injection h with h1 ae
  subst h1
  subst ae
  have Bj:xs=[]:=List.eq_nil_of_length_eq_zero h0
  refine ⟨⟨qO 0 0 (by decide) (by decide),by simp only;omega,by simp only [hy];omega,Kp,vt⟩,oe,fun hk=>?_⟩
  simp only at hk
  have Ge:min K 1000=K:=by omega
  have u4:hj (.mk 0 0 [])=[]:=by decide
  unfold eR
  simp only
  rw [Ge,Int.toNat_natCast,u4,z3]
  subst Bj
  conv=>lhs;rw [d1,d2,d3,d4]
  simp only [List.append_assoc]
 ·rename_i h0
  split at h
  ·cases h
  rename_i dd
  injection h with h
  injection h with h1 ae
  subst h1
  subst ae
  obtain ⟨e,cq,cP⟩:=ahb (xs:=xs) (fun U=>dd U) (fun U=>h0 (by rw [U];rfl))
  obtain ⟨ey,iD,tb⟩:=aeG (Ao.lt av) cq
  rw [cP]
  refine ⟨⟨tb,by simp only;omega,by simp only [hy];omega,Kp,vt⟩,oe,fun hk=>?_⟩
  simp only at hk
  have Ge:min K 1000=K:=by omega
  have u4:hj e=xs:=by unfold hj;rw [if_pos iD,←ey]
  unfold eR
  simp only
  rw [Ge,Int.toNat_natCast,u4,z3]
  conv=>lhs;rw [d1,d2,d3,d4]
  simp only [List.append_assoc]
theorem ahe {v:bu} (ba:tp v) (hk:1≤v.kind∧v.kind≤10) (aM:v.aS.length≤2) (aC:∀ f ∈ v.aS,0≤f∧f<24) (he:v.e=.mk 0 0 []∨cv v.e=true) (r:List Nat):lJ (eR v++r)=.ok (v,r):=by
 obtain ⟨kind,ay,e,n⟩:=v
 simp only at hk aM aC he
 obtain ⟨K,rfl⟩:=Int.eq_ofNat_of_zero_le (show 0≤kind by omega)
 have aG:=ba.2.2.2.1
 simp only at aG
 unfold eR
 simp only [Int.toNat_natCast,List.append_assoc]
 unfold lJ
 rw [vP K (by omega)]
 simp only [List.drop_left]
 rw [if_neg (by simp),Nat.min_eq_left (by omega)]
 unfold ov
 have aB:∀ q,hh (uJ ay++q) 2=(ay,q,0):=fun q=>by
  unfold hh uJ
  rw [List.append_assoc,vP _ (by omega)]
  simp only [List.drop_left]
  rw [if_neg (by simp),if_neg (by omega),T2 q ay [] (fun f af=>by have:=aC f af;omega),if_neg (by simp)]
  simp
 rw [aB]
 simp only
 rw [if_neg (by simp)]
 unfold ou
 rw [vP _ (xe _ aG.1 aG.2)]
 simp only [List.drop_left]
 rw [if_neg (by simp),M8]
 unfold ot
 have qs:=Oe ba.1
 simp only at qs
 rw [aex _ _ (by omega)]
 simp only
 rw [if_neg (by simp)]
 rcases he with rfl | he
 ·have u4:hj (.mk 0 0 [])=[]:=by decide
  rw [u4,List.length_nil,if_pos rfl]
 ·have u4:hj e=cj e:=by unfold hj;rw [if_pos he]
  rw [u4]
  have yN:=Uj he ba.1
  have bZ:(cj e).length≠0:=by
   obtain ⟨o,m,ax⟩:=e
   rw [CW]
   simp only [List.length_append]
   have:=(nI o.toNat (by have:=ba.1;cases this;omega)).1
   omega
  have oW:lI (cj e)=0:=by unfold lI;rw [yN]
  have bC:l4 (cj e)=e:=by unfold l4;rw [yN]
  rw [if_neg bZ,oW,if_neg (by simp),bC]
theorem ahf (h:J) (v:bu):lk Tryz.prog 54 1 [(0,.agg (al v))] h=some (.bp h.n 0 1 1,h.push (.cells (al v) 29 none)):=by
 rw [oo,p0 EG];rfl
theorem ahg {h:J} {s:V} {cs:List bu} (o:Own h 29 6 s (cs.flatMap al)) (aM:cs.length≤2 ^ 40) (c:bu) :
  ∃ b7 h',n2 Tryz.prog 54 54 s (.bp h.n 0 1 1) (h.push (.cells (al c) 29 none))=some (b7,h')∧Own h' 29 6 b7 ((cs++[c]).flatMap al)∧I h h' (bn s)∧bQ h s b7:=by
 have bO:I h (h.push (.cells (al c) 29 none)) none_:=I.push _ _ _
 have lO:Own (h.push (.cells (al c) 29 none)) 29 6 (.bp h.n 0 1 1) (al c):=Own.js (al c) 1 (hF c) (by decide)
 have eh:=w1 (P:=Tryz.prog) (t:=54) d9 lO (n:=1) (hF c) (by decide) (xl c)
 obtain ⟨b7,h',ei,k8,gk,gB⟩:=wv (P:=Tryz.prog) (t:=54) (tx:=54) EG (by decide) (o.aQ bO) eh (hF c) (fun m hm=>by
  change m * 6=_ at hm
  rw [iS hF,hF] at hm
  exact ⟨by simp only [lim];omega,by simp only [lim];omega⟩)
 refine ⟨b7,h',ei,?_,(bO.up).trans' gk,?_⟩
 ·rw [List.flatMap_append]
  simpa using k8
 ·rcases gB with gB | gB
  ·exact .inl gB
  ·exact .inr fun q af=>Nat.le_trans bO.n (gB q af)
theorem Db (h:J) (c:Nat):aK (.tuple [.agg [.ah,.int .i64 0],.int .i64 (c:Nat)]) h (.tuple [.agg (cQ [] 0),.int .i64 (c:Nat)]) h :=
 aK.tuple (az.cons (Pk.aK.agg (az.cons (aK.iR h) (az.refl _ _))) (az.refl _ _))
theorem ahh {h:J} {s:V} {l:List bu} (p:Int) (o:Own h 29 6 s (l.flatMap al)):∃ ae,aK (.agg [s,.int .i64 p]) h (.agg (cQ l p)) ae∧I h ae (bn s):=by
 obtain ⟨ae,c,k⟩:=aK.own (n:=l.length) o (iS hF l) (by decide)
 exact ⟨ae,Pk.aK.agg (az.cons c (az.refl _ _)),k⟩
theorem V3 {an:List Nat} {c:Nat} (h:lJ an=.error c):c≠0:=by
 unfold lJ at h
 split at h
 ·injection h with h;omega
 unfold ov at h
 split at h
 ·injection h with h;omega
 unfold ou at h
 split at h
 ·injection h with h;omega
 unfold ot at h
 split at h
 ·injection h with h;omega
 split at h
 ·cases h
 split at h
 ·injection h with h;omega
 ·cases h
theorem ahi {m:Nat} {an:List Nat} {acc:List bu} {c:Nat} (h:lJ an=.error c):gO (m+1) an acc=.error c:=by unfold gO;rw [h]
theorem ahj (i:Nat) (an:List Nat) (h:J) (aB:fc h) (aU:cU h (.ptr i 0) i an) (av:∀ b ∈ an,b<256) (aF:an.length≤2 ^ 47) :
  ab Tryz.prog 128 [.ptr i 0] h (fun r h'=>r=Oj (mQ an)∧I h h' (·=i)∧∀ p l c2,mQ an=.ok (p,l,c2)→cU h' (.ptr i 0) i c2):=by
 refine ab.cast ?_
 refine ab.ao (c:=_) Tryz.func128 rfl (by kernel_rfl) (by simp) ?_
 have bS:=aU.2.1
 obtain ⟨hl,fl⟩:∃ y,y=h.push (.cells [V.ah,.int .i64 0] 56 none):=⟨_,rfl⟩
 have B7:I h hl none_:=by rw [fl];exact I.push _ _ _
 have dC:I h hl (·=i):=B7.up
 have g0:hl.get h.n=.cells [V.ah,.int .i64 0] 56 none:=by rw [fl];exact b6
 have p2:hl.n=h.n+1:=by rw [fl];rfl
 have iN:=cU.aj aU B7 (by simp [none_])
 have mP:bM (some 2) (aV.cells [V.ah,.int .i64 0] 56 none) 0 [V.ah,.int .i64 0]=some (.cells [V.ah,.int .i64 0] 56 none):=rfl
 have z0:(((0:Nat):Int) !=0)=false:=rfl
 simp only [aa,Nat.reduceEqDiff,reduceCtorEq,r9]
 rw [←fl]
 clear fl
 refine bU MG (AN i an hl iN av (by omega)) fun r H1 ⟨ar,cA,bo⟩=>?_
 subst ar
 have s1:Sub (an.drop (dec an 0 0).2.1) an:=Sub.drop _ _
 have g1:=(bo.get h.n (by omega) (by omega)).trans g0
 have nJ:=dC.trans' bo
 have eL:=bo.n
 by_cases ar:(dec an 0 0).2.2=0
 rotate_left
 ·have bd:(((dec an 0 0).2.2:Int) !=0)=true:=by simp;omega
  have hI:mQ an=.error (dec an 0 0).2.2:=by unfold mQ;rw [if_pos ar]
  simp only [aa,Nat.reduceEqDiff,Nat.reduceAdd,kp,wD,r9,sa,bd,g1,mP,aI,Tryz.results128,fW,fJ,eI,fV]
  rw [hI]
  exact au ⟨_,_,Db _ _,rfl,nJ.trans (I.set _ h.n _) fun q af U=>by omega,fun p l c2 U=>by cases U⟩
 have k1:mQ an=ox (min (dec an 0 0).1 1000) (an.drop (dec an 0 0).2.1):=by unfold mQ;rw [if_neg (by omega)]
 rw [ar] at *
 rw [k1]
 generalize min (dec an 0 0).1 1000=P at *
 generalize an.drop (dec an 0 0).2.1=dt at *
 clear k1
 simp only [aa,Nat.reduceEqDiff,reduceCtorEq,z0]
 refine bU MG (AN i dt H1 cA (s1.lt av) (by have:=s1.2;omega)) fun r bI ⟨aT,eb,k2⟩=>?_
 subst aT
 have s2:=(Sub.drop dt (dec dt 0 0).2.1).trans s1
 have g2:=(k2.get h.n (by omega) (by omega)).trans g1
 have c6:=nJ.trans' k2
 have ef:=k2.n
 by_cases aT:(dec dt 0 0).2.2=0
 rotate_left
 ·have bd:(((dec dt 0 0).2.2:Int) !=0)=true:=by simp;omega
  have hI:ox P dt=.error (dec dt 0 0).2.2:=by unfold ox;rw [if_pos aT]
  simp only [aa,Nat.reduceEqDiff,Nat.reduceAdd,kp,wD,r9,sa,bd,g2,mP,aI,Tryz.results128,fW,fJ,eI,fV]
  rw [hI]
  exact au ⟨_,_,Db _ _,rfl,c6.trans (I.set _ h.n _) fun q af U=>by omega,fun p l c2 U=>by cases U⟩
 have k1:ox P dt=if 24<min (dec dt 0 0).1 1000 then .error 2 else ow P (min (dec dt 0 0).1 1000) (dt.drop (dec dt 0 0).2.1):=by unfold ox;rw [if_neg (by omega)]
 rw [aT] at *
 rw [k1]
 generalize min (dec dt 0 0).1 1000=N at *
 generalize dt.drop (dec dt 0 0).2.1=b1 at *
 clear k1
 by_cases Lp:24<N
 ·have bd:decide ((24:Int)<(N:Int))=true:=decide_eq_true (by omega)
  simp only [aa,Nat.reduceEqDiff,Nat.reduceAdd,kp,wD,r9,sa,z0,bd,g2,mP,aI,Tryz.results128,fW,fJ,eI,fV]
  rw [if_pos Lp]
  exact au ⟨_,_,Db _ 2,rfl,c6.trans (I.set _ h.n _) fun q af U=>by omega,fun p l c2 U=>by cases U⟩
 have bd:decide ((24:Int)<(N:Int))=false:=decide_eq_false (by omega)
 rw [if_neg Lp]
 have st1:bM (some 2) (aV.cells [V.ah,.int .i64 0] 56 none) 0 [V.ah,.int .i64 (P:Int)]=some (.cells [V.ah,.int .i64 (P:Int)] 56 none):=rfl
 obtain ⟨hG,hZ⟩:∃ y,y=bI.push (.cells [V.ah,.int .i64 (P:Int)] 56 none):=⟨_,rfl⟩
 have Lq:I bI hG none_:=by rw [hZ];exact I.push _ _ _
 have k3:I bI hG (·=i):=Lq.up
 have B8:hG.get bI.n=.cells [V.ah,.int .i64 (P:Int)] 56 none:=by rw [hZ];exact b6
 have n3:hG.n=bI.n+1:=by rw [hZ];rfl
 have g3:=(k3.get h.n (by omega) (by omega)).trans g2
 have dL:=c6.trans' k3
 have jk:=cU.aj eb Lq (by simp [none_])
 simp only [aa,Nat.reduceEqDiff,Nat.reduceAdd,wD,r9,sa,z0,bd,st1]
 rw [←hZ]
 clear hZ
 generalize jY:bI.n=F at *
 have Ol:Own hG 29 6 .ah (([]:List bu).flatMap al):=.inl ⟨.inl rfl,rfl⟩
 refine aP.bG (α:=Nat×V×List bu×List Nat) (fun x f h'=>f 0=.ptr i 0∧f 2=.ptr h.n 0∧f 7=.ptr F 0∧f 33=.int .i64 (N:Int)∧f 34=.int .i64 (x.1:Nat)∧x.1≤N∧x.2.2.1.length=x.1∧h'.get h.n=.cells [V.ah,.int .i64 0] 56 none∧h'.get F=.cells [x.2.1,.int .i64 (P:Int)] 56 none ∧
   Own h' 29 6 x.2.1 (x.2.2.1.flatMap al)∧(∀ j,aR x.2.1=some j→F<j)∧cU h' (.ptr i 0) i x.2.2.2∧Sub x.2.2.2 an∧I h h' (·=i)∧F<h'.n∧gO N b1 []=gO (N - x.1) x.2.2.2 x.2.2.1) (fun x=>N - x.1) (0,.ah,[],b1)
  ⟨rfl,rfl,rfl,rfl,rfl,Nat.zero_le _,rfl,g3,B8,Ol,(fun j aX=>by simp [aR] at aX),jk,s2,dL,by omega,rfl⟩ ?_
 rintro ⟨j,s,acc,b⟩ f h1 ⟨f0,f2,f7,f33,f34,aX,jt,CF,Gf,os,ids,rd,yZ,kk,V4,bC⟩
 simp only at f34 aX jt Gf os ids rd yZ bC
 refine dw (by kernel_rfl) ?_
 by_cases aH:j<N
 ·have c5:decide ((j:Int)<(N:Int))=true:=decide_eq_true (by omega)
  have b0:IntKind.i64.wrap (((j:Nat):Int)+1)=((j+1:Nat):Int):=by rw [Go.IntWalk.i64_in _ (by omega)];omega
  obtain ⟨gq,yH⟩:∃ gq,N - j=gq+1:=⟨N - j - 1,by omega⟩
  rw [yH] at bC
  simp only [aa,Nat.reduceEqDiff,reduceCtorEq,f0,f33,f34,c5]
  refine bU acR (aha i b h1 (aB.aj kk) rd (yZ.lt av) (by have:=yZ.2;omega)) fun r gC ⟨h8,bY,d4⟩=>?_
  subst h8
  have n4:=bY.n
  have Lr:=(bY.get h.n (by omega) (by omega)).trans CF
  have V5:=(bY.get F V4 (by omega)).trans Gf
  have oL:=kk.trans' bY
  have V6:=os.aj bY (fun q af U=>by have:=ids q af;omega)
  cases aN:lJ b with
  | error c=>
   rw [ahi aN] at bC
   have sd:((c:Int) !=0)=true:=by have:=V3 aN;simp;omega
   have bj:ow P N b1=.error c:=by unfold ow;rw [bC]
   have b3:(V.agg (al AO)).cells=some (al AO):=rfl
   have cK:bM (some 6) (aV.cells [V.int .i64 0,.ah,.int .i64 0,.int .i64 0,.ah,.int .i64 0] 29 none) 0 (al AO)=some (.cells (al AO) 29 none):=by
    rw [rl (n:=6) (hF _) (xl _),if_pos (by decide),oo];rfl
   have rH:I gC (gC.push (.cells (al AO) 29 none)) none_:=I.push _ _ _
   have Gg:=(rH.get h.n (by omega) (by simp [none_])).trans Lr
   simp only [Oh]
   simp only [aa,Nat.reduceEqDiff,Nat.reduceAdd,kp,wD,nb,r9,oc,sa,f2,b3,cK,sd,Gg,mP,aI,Tryz.results128,fW,fJ,eI,fV]
   rw [bj]
   exact au ⟨_,_,Db _ _,rfl,(oL.trans' rH.up).trans (I.set _ h.n _) fun q af U=>by omega,fun p l c2 U=>by cases U⟩
  | ok y=>
   obtain ⟨A,c2⟩:=y
   have V7:gO N b1 []=gO gq c2 (acc++[A]):=by rw [bC];conv=>lhs;unfold gO;rw [aN]
   obtain ⟨_,ahk,_⟩:=V2 (yZ.lt av) aN
   have V8:=d4 A c2 aN
   have b3:(V.agg (al A)).cells=some (al A):=rfl
   have cK:bM (some 6) (aV.cells [V.int .i64 0,.ah,.int .i64 0,.int .i64 0,.ah,.int .i64 0] 29 none) 0 (al A)=some (.cells (al A) 29 none):=by
    rw [rl (n:=6) (hF _) (xl _),if_pos (by decide),oo];rfl
   have eQ:da (aV.cells (al A) 29 none) 0=some (al A):=by rw [oo];rfl
   have ig:cX (some (some 6)) (some (al A))=some (.agg (al A)):=by rw [oo];rfl
   obtain ⟨gy,fx⟩:∃ y,y=gC.push (.cells (al A) 29 none):=⟨_,rfl⟩
   have cG:I gC gy none_:=by rw [fx];exact I.push _ _ _
   have Ag:gy.n=gC.n+1:=by rw [fx];rfl
   have sG:gy.get gC.n=.cells (al A) 29 none:=by rw [fx];exact b6
   have Gg:=(cG.get h.n (by omega) (by simp [none_])).trans Lr
   have Ls:=(cG.get F (by omega) (by simp [none_])).trans V5
   obtain ⟨b7,pt,ei,Om,fY,n6⟩:=ahg (V6.aQ cG) (by omega) A
   have dR:=ahf gy A
   have Sl:=fY.n
   have V9:=(fY.get h.n (by omega) (fun U=>by have:=ids h.n U;omega)).trans Gg
   have Wa:=(fY.get F (by omega) (fun U=>by have:=ids F U;omega)).trans Ls
   have j1:b7.one=true:=by
    rcases Om with ⟨rfl | rfl,_⟩ | ⟨_,_,_,_,_,rfl,_⟩<;>rfl
   have pG:b7.cells=some [b7]:=by
    rcases Om with ⟨rfl | rfl,_⟩ | ⟨_,_,_,_,_,rfl,_⟩<;>rfl
   have IY:bM (some 1) (aV.cells [s,V.int .i64 (P:Int)] 56 none) 0 [b7]=some (.cells [b7,.int .i64 (P:Int)] 56 none):=by rw [sZ j1];rfl
   have pH:∀ q,aR b7=some q→F<q:=fun q af=>by
    rcases n6 with n6 | n6
    ·exact ids q (by rw [←n6];exact af)
    ·have:=n6 q af;omega
   have dV:I pt (pt.set F (.cells [b7,.int .i64 (P:Int)] 56 none)) (·=F):=I.set _ _ _
   have B9:I h pt (·=i):=(oL.trans' cG.up).trans fY fun q af U=>by have:=ids q U;omega
   have Wb:cU pt (.ptr i 0) i c2:=cU.aj V8 (cG.up.trans' fY) (fun U=>by have:=ids i U;omega)
   simp only [Oh]
   simp only [aa,Nat.reduceEqDiff,jH,ji,nb,oc,f7,b3,cK]
   rw [←fx]
   clear fx
   simp only [aa,Nat.reduceEqDiff,Nat.reduceAdd,jH,mi,Qx,f7,f34,Ls,sG,eQ,ig,dR,ei,Wa,pG,IY,b0]
   exact au ⟨(j+1,b7,acc++[A],c2),⟨f0,f2,f7,f33,rfl,aH,by simp [jt],(dV.get h.n (by omega) (by omega)).trans V9,aL,Om.aj dV (fun q af U=>by have:=pH q af;omega),pH,Wb.aj dV (by omega),ahk.trans yZ,B9.trans dV fun q af U=>by omega,by rw [iw];omega,by rw [show N - (j+1)=gq by omega];exact V7⟩,by simp only;omega⟩
 ·have c5:decide ((j:Int)<(N:Int))=false:=decide_eq_false (by omega)
  rw [show N - j=0 by omega,gO] at bC
  have bj:ow P N b1=.ok (P,acc,b):=by unfold ow;rw [bC]
  have j1:s.one=true:=by
   rcases os with ⟨rfl | rfl,_⟩ | ⟨_,_,_,_,_,rfl,_⟩<;>rfl
  have yK:bM (some 2) (aV.cells [V.ah,.int .i64 0] 56 none) 0 [s,.int .i64 (P:Int)]=some (.cells [s,.int .i64 (P:Int)] 56 none) :=
   (rl (n:=2) (vs:=[s,V.int .i64 (P:Int)]) rfl (by simp only [all_cons,all_nil,L9,j1,Bool.and_self])).trans rfl
  have dV:I h1 (h1.set h.n (.cells [s,.int .i64 (P:Int)] 56 none)) (·=h.n):=I.set _ _ _
  have yL:=os.aj dV fun q af U=>by have:=ids q af;omega
  obtain ⟨e2,gn,nL⟩:=ahh (P:Int) yL
  simp only [aa,Nat.reduceEqDiff,Nat.reduceAdd,kp,sa,f2,f7,f33,f34,c5,Gf,CF,yK,aI,Tryz.results128,fW,fJ,eI,fV]
  rw [bj]
  refine au ⟨_,e2,aK.tuple (az.cons gn (az.refl _ _)),rfl,(kk.trans dV fun q af U=>by omega).trans nL fun q af U=>by have:=ids q U;omega,fun p l c2 U=>?_⟩
  cases U
  exact (rd.aj dV (by omega)).aj nL (fun U=>by have:=ids i U;omega)
theorem ats (a b:List Int) (h:J) (a6:a.length≤2 ^ 60):Pure Tryz.prog 44 [.ag a.length (aO a),.ag b.length (aO b)] h (.bool (decide (a=b))):=by
 refine Pure.val (bh.bool _) ?_
 refine ab.ao (c:=_) Tryz.func44 rfl (by kernel_rfl) (by simp) ?_
 by_cases bZ:a.length=b.length
 rotate_left
 ·have bd:(((a.length:Nat):Int) !=((b.length:Nat):Int))=true:=by simp;omega
  have bj:decide (a=b)=false:=by simp only [decide_eq_false_iff_not];rintro rfl;exact bZ rfl
  simp only [aa,Nat.reduceEqDiff,reduceCtorEq,mh,bd,aI,Tryz.results44,ac]
  exact au ⟨by rw [bj],I.refl _ _⟩
 have bd:(((a.length:Nat):Int) !=((b.length:Nat):Int))=false:=by simp [bZ]
 simp only [aa,Nat.reduceEqDiff,reduceCtorEq,mh,bd]
 refine aP.bG (α:=Nat) (fun i f h'=>f 0=.ag a.length (aO a)∧f 1=.ag b.length (aO b)∧f 5=.int .i64 (i:Nat)∧I h h' none_∧i≤a.length∧a.take i=b.take i) (fun i=>a.length - i) 0
  ⟨rfl,rfl,rfl,I.refl _ _,Nat.zero_le _,rfl⟩ ?_
 rintro i f h1 ⟨f0,f1,f5,bo,hi,cS⟩
 refine dw (by kernel_rfl) ?_
 by_cases aH:i<a.length
 rotate_left
 ·have c3:decide ((i:Int)<((a.length:Nat):Int))=false:=decide_eq_false (by omega)
  rw [List.take_of_length_le (by omega),List.take_of_length_le (by omega)] at cS
  simp only [aa,Nat.reduceEqDiff,reduceCtorEq,mh,f0,f5,c3,aI,Tryz.results44,ac]
  exact au ⟨by rw [cS];simp,bo⟩
 ·have c3:decide ((i:Int)<((a.length:Nat):Int))=true:=decide_eq_true (by omega)
  have Fx:i<b.length:=by omega
  have c9:IntKind.i64.wrap ((i:Int)+1)=((i+1:Nat):Int):=by rw [Go.IntWalk.i64_in _ (by omega)];omega
  have eo:∃ r,ir Tryz.prog 24 (.ag a.length (aO a)) (.int .i64 (i:Int))=some (.at (.int .i64 a[i]::r)):=⟨_,Ab.RE (V.int .i64) aH kr⟩
  have bR:∃ r,ir Tryz.prog 24 (.ag b.length (aO b)) (.int .i64 (i:Int))=some (.at (.int .i64 b[i]::r)):=⟨_,Ab.RE (V.int .i64) Fx kr⟩
  obtain ⟨iN,eo⟩:=eo
  obtain ⟨cA,bR⟩:=bR
  have Wc:a[i]=b[i]→a.take (i+1)=b.take (i+1):=fun heq=>by rw [List.take_succ_eq_append_getElem aH,List.take_succ_eq_append_getElem Fx,cS,heq]
  have nK:¬a[i]=b[i]→decide (a=b)=false:=fun heq=>by simp only [decide_eq_false_iff_not];rintro rfl;exact heq rfl
  generalize a[i]=A at eo Wc nK
  generalize b[i]=B at bR Wc nK
  simp only [aa,Nat.reduceEqDiff,reduceCtorEq,mh,f0,f5,c3]
  refine aP.aY none_ [] (.q 0 (.q 1 (.q 2 (.q 3 (.q 4 (.q 5 (.q 6 (.q 7 (.q 8 .done))))))))) (by kernel_rfl) (by kernel_rfl) (by kernel_rfl) ?_
  by_cases heq:A=B
  ·have eL:(A !=B)=false:=by simp [heq]
   simp only [aa,bD,Nat.reduceEqDiff,reduceCtorEq,a7,f0,f1,f5,eo,bR,eL,c9]
   exact au ⟨i+1,⟨f0,f1,rfl,bo,by omega,Wc heq⟩,by omega⟩
  ·have eL:(A !=B)=true:=by simp [heq]
   simp only [aa,bD,Nat.reduceEqDiff,reduceCtorEq,a7,f0,f1,f5,eo,bR,eL,aI,Tryz.results44,ac]
   exact au ⟨by rw [nK heq],bo⟩
theorem Wd:∀ (m:Nat) (an:List Nat) (acc:List bu),(∀ b ∈ an,b<256)→∀ l r,gO m an acc=.ok (l,r)→∃ ck,l=acc++ck∧ck.length=m∧(∀ v ∈ ck,tp v)∧Sub r an∧((∀ v ∈ ck,v.kind<1000)→an=ck.flatMap eR++r)
 | 0,an,acc,av,l,r,h=>by
  unfold gO at h
  cases h
  exact ⟨[],by simp,rfl,by simp,Sub.rfl' _,fun _=>rfl⟩
 | m+1,an,acc,av,l,r,h=>by
  unfold gO at h
  split at h
  ·cases h
  ·rename_i v c2 aN
   obtain ⟨ok,yZ,rE⟩:=V2 av aN
   obtain ⟨ck,cq,cP,ey,iD,tb⟩:=Wd m c2 (acc++[v]) (yZ.lt av) l r h
   refine ⟨v::ck,by rw [cq];simp,by simp [cP],fun u hu=>?_,iD.trans yZ,fun hk=>?_⟩
   ·rcases List.mem_cons.1 hu with rfl | hu
    ·exact ok
    ·exact ey u hu
   ·rw [rE (hk v (by simp)),tb fun u hu=>hk u (by simp [hu])]
    simp
theorem t7:∀ (l:List bu) (acc:List bu) (r:List Nat),(∀ v ∈ l,∀ r,lJ (eR v++r)=.ok (v,r))→gO l.length (l.flatMap eR++r) acc=.ok (acc++l,r)
 | [],acc,r,h=>by simp [gO]
 | v::l,acc,r,h=>by
  rw [List.length_cons,List.flatMap_cons,List.append_assoc]
  unfold gO
  rw [h v (by simp)]
  simp only
  rw [t7 l (acc++[v]) r fun u hu=>h u (by simp [hu])]
  simp
theorem ahl {an:List Nat} (av:∀ b ∈ an,b<256) {p:Nat} {l:List bu} {r:List Nat} (h:mQ an=.ok (p,l,r)):kh l∧p≤1000∧(p<1000→(∀ v ∈ l,v.kind<1000)→an=oq (p:Int) l++r):=by
 unfold mQ at h
 split at h
 ·cases h
 rename_i ar
 obtain ⟨d1,ff⟩:=uM av (by omega)
 have s1:=Sub.drop an (dec an 0 0).2.1
 generalize (dec an 0 0).1=P at *
 generalize an.drop (dec an 0 0).2.1=dt at *
 unfold ox at h
 split at h
 ·cases h
 rename_i aT
 obtain ⟨d2,eY⟩:=uM (s1.lt av) (by omega)
 have s2:=(Sub.drop dt (dec dt 0 0).2.1).trans s1
 generalize (dec dt 0 0).1=N at *
 generalize dt.drop (dec dt 0 0).2.1=b1 at *
 split at h
 ·cases h
 rename_i cg
 unfold ow at h
 split at h
 ·cases h
 rename_i att iN aN
 cases h
 obtain ⟨ck,cq,cP,ey,iD,tb⟩:=Wd _ b1 [] (s2.lt av) _ _ aN
 rw [List.nil_append] at cq
 subst cq
 refine ⟨⟨by omega,ey⟩,by omega,fun aW hk=>?_⟩
 have h1:min P 1000=P:=by omega
 have ae:l.length=N:=by omega
 unfold oq
 rw [h1,ae,Int.toNat_natCast]
 conv=>lhs;rw [d1,d2,tb hk]
 simp only [List.append_assoc]
theorem Nm {v:bu} (hk:1≤v.kind∧v.kind≤10) (h:iE v=true):v.e=.mk 0 0 []∨cv v.e=true:=by
 unfold iE rN at h
 simp only [Bool.and_eq_true] at h
 have ae:=h.2.1
 unfold vV at ae
 split at ae
 ·left
  simp only [Bool.and_eq_true,beq_iff_eq,List.isEmpty_iff] at ae
  obtain ⟨k,ay,⟨o,n,ax⟩,m⟩:=v
  simp only [bF.op,bF.num,bF.ax] at ae
  obtain ⟨rfl,rfl,rfl⟩:=ae
  rfl
 ·right
  simp only [Bool.and_eq_true] at ae
  exact ae.1
theorem ahm {P:Nat} {l:List bu} (ba:kh l) (h:(ct (P:Int) l).2=0):mQ (oq (P:Int) l)=.ok (P,l,[]):=by
 obtain ⟨aW,lf,jr,dx⟩:=Da h
 unfold oq
 rw [Int.toNat_natCast,List.append_assoc]
 unfold mQ
 rw [vP P (by omega)]
 simp only [List.drop_left]
 rw [if_neg (by simp),Nat.min_eq_left (by omega)]
 unfold ox
 rw [vP l.length (by omega)]
 simp only [List.drop_left]
 rw [if_neg (by simp),Nat.min_eq_left (by omega),if_neg (by omega)]
 unfold ow
 have:=t7 l [] [] fun v aN r=>ahe (ba.2 v aN) (dx v aN).1 (dx v aN).2.1 (dx v aN).2.2.1 (Nm (dx v aN).1 (dx v aN).2.2.2) r
 rw [List.append_nil] at this
 rw [this]
 rfl
theorem ahn {an:List Nat} {c:Nat} (h:mQ an=.error c):c≠0:=by
 have kW:∀ (m:Nat) (b:List Nat) (acc:List bu) (c:Nat),gO m b acc=.error c→c≠0:=by
  intro m
  induction m with
  | zero=>intro b acc c h;unfold gO at h;cases h
  | succ m ih=>
   intro b acc c h
   unfold gO at h
   split at h
   ·rename_i aN;cases h;exact V3 aN
   ·exact ih _ _ _ h
 unfold mQ at h
 split at h
 ·injection h with h;omega
 unfold ox at h
 split at h
 ·injection h with h;omega
 split at h
 ·injection h with h;omega
 unfold ow at h
 split at h
 ·rename_i aN;cases h;exact kW _ _ _ _ aN
 ·cases h
def rR (an:List Nat):(Int×List bu)×Int:=match mQ an with
 | .error c=>((0,[]),(c:Int))
 | .ok (p,l,r)=>if r.length≠0 then ((0,[]),5) else if (ct (p:Int) l).2≠0 then ((0,[]),(ct (p:Int) l).2) else (((p:Int),l),0)
def oO (an:List Nat):V:=.tuple [.agg (cQ (rR an).1.2 (rR an).1.1),.int .i64 (rR an).2]
theorem aho (an:List Nat):bh (oO an):=bh.tuple (bl.cons (bh.agg (ag0 _ _)) (bl.cons (bh.int _ _) bl.nil))
theorem ahp {p:Int} {l:List bu} (ba:kh l) (h:(ct p l).2=0):rR (lv p l)=((p,l),0):=by
 obtain ⟨aW,_,_,dx⟩:=Da h
 obtain ⟨P,rfl⟩:=Int.eq_ofNat_of_zero_le (show 0≤p by omega)
 unfold lv
 rw [if_pos h]
 unfold rR
 rw [ahm ba h]
 simp only [List.length_nil]
 rw [if_neg (by simp),if_neg (by omega)]
theorem On (x:V) (an:List Nat) (h:J) (aB:lP h) (rd:Rd h x an) (av:∀ b ∈ an,b<256) (aM:an.length≤2 ^ 47):Pure Tryz.prog 66 [x] h (oO an):=by
 refine Pure.of (aho an) ?_
 refine ab.ao (c:=_) Tryz.func66 rfl (by kernel_rfl) (by simp) ?_
 obtain ⟨hl,fl⟩:∃ y,y=h.push (.cells [V.ah,.int .i64 0] 56 none):=⟨_,rfl⟩
 have dC:I h hl none_:=by rw [fl];exact I.push _ _ _
 have g0:hl.get h.n=.cells [V.ah,.int .i64 0] 56 none:=by rw [fl];exact b6
 have p2:hl.n=h.n+1:=by rw [fl];rfl
 have mP:bM (some 2) (aV.cells [V.ah,.int .i64 0] 56 none) 0 [V.ah,.int .i64 0]=some (.cells [V.ah,.int .i64 0] 56 none):=rfl
 have Ca:∀ (l:List bu) (p:Int),bM (some 2) (aV.cells [V.ah,.int .i64 0] 56 none) 0 [.ag l.length (l.flatMap al),.int .i64 p]=some (.cells [.ag l.length (l.flatMap al),.int .i64 p] 56 none):=fun _ _=>rfl
 have nz:∀ (l:List bu) (p:Int),(V.agg (cQ l p)).cells=some [.ag l.length (l.flatMap al),.int .i64 p]:=fun _ _=>rfl
 have mo:∀ (l:List bu) (p:Int),V.agg [.ag l.length (l.flatMap al),.int .i64 p]=.agg (cQ l p):=fun _ _=>rfl
 simp only [aa,Nat.reduceEqDiff,reduceCtorEq,r9]
 rw [←fl]
 clear fl
 refine bU SG (E0 x an hl (rd.aj dC) (by omega)) fun r H1 ⟨ar,cA,bo⟩=>?_
 subst ar
 have eL:hl.n+1≤H1.n:=cA.2.1
 have g1:=(bo.get h.n (by omega) (by simp [none_])).trans g0
 have nJ:=dC.trans' bo
 simp only [aa,Nat.reduceEqDiff]
 refine bU acF (ahj hl.n an H1 (aB.1.aj nJ) cA av aM) fun r bI ⟨aT,k2,d2⟩=>?_
 subst aT
 have ef:=k2.n
 have g2:=(k2.get h.n (by omega) (by omega)).trans g1
 have c6:I h bI none_:=nJ.trans k2 fun q af U=>by omega
 cases ak:mQ an with
 | error c=>
  have sd:=ahn ak
  have bd:(((c:Nat):Int) !=0)=true:=by simp;omega
  have hI:oO an=.tuple [.agg (cQ [] 0),.int .i64 (c:Nat)]:=by unfold oO rR;rw [ak]
  rw [hI]
  have rH:I bI (bI.push (.cells [.ag 0 [],.int .i64 0] 56 none)) none_:=I.push _ _ _
  have g3:=(rH.get h.n (by omega) (by simp [none_])).trans g2
  have sd:(V.agg (cQ [] 0)).cells=some [.ag 0 [],.int .i64 0]:=rfl
  have Oo:bM (some 2) (aV.cells [V.ah,.int .i64 0] 56 none) 0 [.ag 0 [],.int .i64 0]=some (.cells [.ag 0 [],.int .i64 0] 56 none):=rfl
  simp only [Oj]
  simp only [aa,Nat.reduceEqDiff,Nat.reduceAdd,kp,wD,r9,sa,sd,Oo,bd,g3,mP,aI,Tryz.results66,fW,fJ,eI,fV]
  exact au ⟨_,Db _ c,(c6.trans' rH).trans (I.set _ h.n _) fun q af U=>by omega⟩
 | ok y=>
  obtain ⟨p,l,r⟩:=y
  have We:=d2 p l r ak
  obtain ⟨Wf,_,_⟩:=ahl av ak
  have z0:((0:Int) !=0)=false:=rfl
  obtain ⟨hG,hZ⟩:∃ y,y=bI.push (.cells [.ag l.length (l.flatMap al),.int .i64 (p:Int)] 56 none):=⟨_,rfl⟩
  have k3:I bI hG none_:=by rw [hZ];exact I.push _ _ _
  have B8:hG.get bI.n=.cells [.ag l.length (l.flatMap al),.int .i64 (p:Int)] 56 none:=by rw [hZ];exact b6
  have g3:=(k3.get h.n (by omega) (by simp [none_])).trans g2
  have Wg:=cU.aj We k3 (by simp [none_])
  have dL:=c6.trans' k3
  have n3:hG.n=bI.n+1:=by rw [hZ];rfl
  simp only [Oj]
  simp only [aa,Nat.reduceEqDiff,r9,sa,nz,Ca]
  rw [←hZ]
  clear hZ
  refine bB SH (Left hG _ _ r Wg) ?_
  by_cases Dl:r.length=0
  rotate_left
  ·have bd:decide ((0:Int)<((r.length:Nat):Int))=true:=decide_eq_true (by omega)
   have hI:oO an=.tuple [.agg (cQ [] 0),.int .i64 (5:Nat)]:=by unfold oO rR;rw [ak];simp only;rw [if_pos Dl];rfl
   rw [hI]
   simp only [aa,Nat.reduceEqDiff,Nat.reduceAdd,kp,wD,r9,sa,bd,g3,mP,aI,Tryz.results66,fW,fJ,eI,fV]
   exact au ⟨_,Db _ 5,dL.trans (I.set _ h.n _) fun q af U=>by omega⟩
  have bd:decide ((0:Int)<((r.length:Nat):Int))=false:=decide_eq_false (by omega)
  simp only [aa,Nat.reduceEqDiff,Nat.reduceAdd,kp,bd,B8,mo]
  refine bB MC (Oa l p Wf hG (aB.aj dL)) ?_
  by_cases h0:(ct (p:Int) l).2=0
  ·have bH:((ct (p:Int) l).2 !=0)=false:=by simpa using h0
   have hI:oO an=.tuple [.agg (cQ l (p:Int)),.int .i64 0]:=by unfold oO rR;rw [ak];simp only;rw [if_neg (by omega),if_neg (by omega)]
   rw [hI]
   simp only [aa,Nat.reduceEqDiff,Nat.reduceAdd,kp,sa,pO,bH,B8,g3,Ca,aI,Tryz.results66,fW,fJ,eI,fV]
   exact au ⟨_,aK.refl _ _,dL.trans (I.set _ h.n _) fun q af U=>by omega⟩
  ·have bH:((ct (p:Int) l).2 !=0)=true:=by simpa using h0
   have hI:oO an=.tuple [.agg (cQ [] 0),.int .i64 (ct (p:Int) l).2]:=by unfold oO rR;rw [ak];simp only;rw [if_neg (by omega),if_pos h0]
   rw [hI]
   simp only [aa,Nat.reduceEqDiff,Nat.reduceAdd,kp,wD,r9,sa,pO,bH,g3,mP,aI,Tryz.results66,fW,fJ,eI,fV]
   exact au ⟨_,aK.tuple (az.cons (Pk.aK.agg (az.cons (aK.iR _) (az.refl _ _))) (az.refl _ _)),dL.trans (I.set _ h.n _) fun q af U=>by omega⟩
abbrev Seen:=List (Nat×Int×Int)
def k4 (a:Int):V:=.int .i64 a
def q2 (h:J) (p:V) (l:Seen) (i j cl:Nat):Prop :=
 p=.ptr i 0∧i<h.n∧j<h.n∧i≠j∧h.get i=.cells [.map j] 231 none∧h.get j=.map (mapOf .i64 k4 l) cl∧fH (mapOf .i64 k4 l) cl
def vW (l:Seen) (v:Int):Int:=(db l v).getD (-1)
def leastOf (l:Seen):Int:=if l=[] then -1 else l.foldr (fun e m=>min e.2.2 m) 1099511627776
theorem amb (h:J) (p:V) (l:Seen) (i j cl:Nat) (hm:q2 h p l i j cl) (v:Int) :
  Pure Tryz.prog 79 [p,.int .i64 v] h (.int .i64 (vW l v)):=by
 obtain ⟨rfl,hi,aX,gP,iz,j8,ad⟩:=hm
 refine ab.ao (c:=_) Tryz.func79 rfl (by kernel_rfl) (by simp) ?_
 have eC:=lookup_int (P:=Tryz.prog) (ok:=true) (k:=v) CT z8 j8
 cases aB:db l v with
 | none=>
  rw [aB] at eC
  simp only [aa,Int.reduceNeg,Nat.reduceEqDiff,reduceCtorEq,uD,io,uE,iz,eC,aI,Tryz.results79,ac]
  exact au ⟨by simp only [vW,aB];rfl,rfl⟩
 | some a=>
  rw [aB] at eC
  simp only [aa,Int.reduceNeg,Nat.reduceEqDiff,reduceCtorEq,uD,io,uE,iz,eC,aI,Tryz.results79,ac,k4]
  exact au ⟨by simp only [vW,aB];rfl,rfl⟩
def dh (l:Seen) (v t:Int):Bool×Int:=match db l v with
 | none=>(false,6)
 | some g=>if t<0∨1099511627776<t then (false,2) else if t≤g then (false,0) else (true,0)
def dX (cl:Nat) (l:Seen) (v t:Int):Seen:=match db l v with
 | none=>l
 | some g=>if t<0∨1099511627776<t then l else if t≤g then l else eB cl l v t
theorem Wh {kk:IntKind} {α:Type} {enc:α→V} {cl:Nat} {v:Int} {a:α}:∀ {l:List (Nat×Int×α)},(db l v).isSome→(mapOf kk enc (eB cl l v a)).map (·.1)=(mapOf kk enc l).map (·.1)
 | [],h=>by simp [db] at h
 | e::l,h=>by
  unfold eB
  by_cases hk:e.2.1=v
  ·simp [hk,mapOf]
  ·have:(db l v).isSome:=by
    unfold db at h⊢
    rw [List.find?_cons,show (e.2.1==v)=false by simp [hk]] at h
    exact h
   have ih:=Wh (kk:=kk) (enc:=enc) (cl:=cl) (a:=a) this
   simp only [mapOf,hk,if_false,List.map_cons] at ih⊢
   rw [ih]
theorem ahq {es gQ:List (Nat×V×V)} {cl:Nat} (h:fH es cl) (he:gQ.map (·.1)=es.map (·.1)):fH gQ cl:=by
 refine ⟨fun e hm=>?_,by rw [he];exact h.2⟩
 have:e.1 ∈ gQ.map (·.1):=List.mem_map.2 ⟨e,hm,rfl⟩
 rw [he] at this
 obtain ⟨fo,jV,h1⟩:=List.mem_map.1 this
 rw [←h1]
 exact h.1 fo jV
theorem IZ (h:J) (p:V) (l:Seen) (i j cl:Nat) (hm:q2 h p l i j cl) (v t:Int) :
  ab Tryz.prog 72 [p,.int .i64 v,.int .i64 t] h (fun r h'=>r=.tuple [.bool (dh l v t).1,.int .i64 (dh l v t).2]∧q2 h' p (dX cl l v t) i j cl∧I h h' (·=j)):=by
 have jV:=hm
 obtain ⟨rfl,hi,aX,gP,iz,j8,ad⟩:=hm
 refine ab.ao (c:=_) Tryz.func72 rfl (by kernel_rfl) (by simp) ?_
 have eC:=lookup_int (P:=Tryz.prog) (ok:=true) (k:=v) CT z8 j8
 have rL:=P4 (P:=Tryz.prog) (k:=v) (a:=t) (v:=.int .i64 t) CT j8 rfl
 cases aB:db l v with
 | none=>
  rw [aB] at eC
  simp only [aa,Nat.reduceEqDiff,reduceCtorEq,uD,io,uE,iz,eC,aI,Tryz.results72,cW]
  exact au ⟨by simp [dh, *],by simp [dX, *],I.refl _ _⟩
 | some a=>
  rw [aB] at eC
  have dk:mu cl l v=cl:=by simp [mu,aB]
  have fin:q2 (h.set j (.map (mapOf .i64 k4 (eB cl l v t)) cl)) (.ptr i 0) (eB cl l v t) i j cl :=
   ⟨rfl,hi,aX,gP,by rw [jF gP];exact iz,aL,ahq ad (Wh (by simp [aB]))⟩
  by_cases h0:t<0
  ·simp only [aa,Nat.reduceEqDiff,reduceCtorEq,uD,io,uE,iz,eC,k4,h0,aI,Tryz.results72,cW]
   exact au ⟨by simp [dh, *],by simp [dX, *],I.refl _ _⟩
  ·by_cases h1:1099511627776<t
   ·simp only [aa,Nat.reduceEqDiff,reduceCtorEq,uD,io,uE,iz,eC,k4,h0,h1,aI,Tryz.results72,cW]
    exact au ⟨by simp [dh, *],by simp [dX, *],I.refl _ _⟩
   ·by_cases ae:t≤a
    ·simp only [aa,Nat.reduceEqDiff,reduceCtorEq,uD,io,uE,iz,eC,k4,h0,h1,ae,aI,Tryz.results72,cW]
     exact au ⟨by simp [dh, *],by simp [dX, *],I.refl _ _⟩
    ·simp only [aa,Nat.reduceEqDiff,reduceCtorEq,uD,io,uE,iz,eC,k4,h0,h1,ae,aI,Tryz.results72,cW,rL,dk]
     exact au ⟨by simp [dh, *],by simp [dX, *],I.set _ _ _⟩
theorem Oq {kk:IntKind} {α:Type} {enc:α→V}:∀ {l:List (Nat×Int×α)} {a b:Nat×Int×α},((mapOf kk enc l).map (·.1)).Nodup→a ∈ l→b ∈ l→a.1=b.1→a=b
 | [],a,b,_,h,_,_=>by simp at h
 | e::l,a,b,aG,a6,av,l2=>by
  simp only [mapOf,List.map_cons,List.nodup_cons] at aG
  have key:∀ c:Nat×Int×α,c ∈ l→c.1≠e.1:=fun c aF wM=>aG.1 (by
   rw [List.map_map]
   exact List.mem_map.2 ⟨c,aF,wM⟩)
  rcases List.mem_cons.1 a6 with ei | a6<;>rcases List.mem_cons.1 av with zH | av
  ·rw [ei,zH]
  ·exact absurd (by rw [←l2,ei]) (key b av)
  ·exact absurd (by rw [l2,zH]) (key a a6)
  ·exact Oq (kk:=kk) (enc:=enc) aG.2 a6 av l2
structure kI (l:Seen) (m:Int):Prop where
 le:m≤1099511627776
 all:∀ e ∈ l,m≤e.2.2
 mem:m=1099511627776∨∃ e ∈ l,m=e.2.2
theorem kI.eq {l:Seen} {a b:Int} (a6:kI l a) (av:kI l b):a=b:=by
 have key:∀ {x y:Int},kI l x→kI l y→x≤y:=fun ak bs=>by
  rcases bs.mem with bs | ⟨e,he,bs⟩
  ·rw [bs];exact ak.le
  ·rw [bs];exact ak.all e he
 have h1:=key a6 av
 have ae:=key av a6
 omega
theorem ahr (l:Seen):kI l (l.foldr (fun e m=>min e.2.2 m) 1099511627776):=by
 induction l with
 | nil=>exact ⟨Int.le_refl _,by simp,.inl rfl⟩
 | cons a l ih=>
  simp only [List.foldr_cons]
  refine ⟨?_,fun e he=>?_,?_⟩
  ·have:=ih.le;omega
  ·rcases List.mem_cons.1 he with rfl | he
   ·omega
   ·have:=ih.all e he;omega
  ·by_cases hle:a.2.2≤l.foldr (fun e m=>min e.2.2 m) 1099511627776
   ·exact .inr ⟨a,by simp,by omega⟩
   ·rcases ih.mem with h | ⟨e,he,h⟩
    ·exact .inl (by omega)
    ·exact .inr ⟨e,by simp [he],by omega⟩
theorem DY (h:J) (p:V) (l:Seen) (i j cl:Nat) (hm:q2 h p l i j cl) :
  Pure Tryz.prog 77 [p] h (.int .i64 (leastOf l)):=by
 obtain ⟨rfl,hi,aX,gP,iz,j8,ad⟩:=hm
 have cR:=ad
 refine Pure.val (bh.int _ _) ?_
 refine ab.ao (c:=_) Tryz.func77 rfl (by kernel_rfl) (by simp) ?_
 have hlen:=P1 (P:=Tryz.prog) (h:=h) ady j8
 have lh:=Md (P:=Tryz.prog) CT j8
 by_cases h0:l=[]
 ·have de:((((mapOf .i64 k4 l).length:Nat):Int)==0)=true:=by simp [mapOf,h0]
  simp only [aa,Int.reduceNeg,Nat.reduceEqDiff,reduceCtorEq,uD,io,uE,iz,hlen,de,aI,Tryz.results77,ac]
  exact au ⟨by rw [leastOf,if_pos h0],I.refl _ _⟩
 ·have de:((((mapOf .i64 k4 l).length:Nat):Int)==0)=false:=by
   have:l.length≠0:=by simpa using h0
   simp [mapOf]
   exact h0
  simp only [aa,Int.reduceNeg,Nat.reduceEqDiff,reduceCtorEq,uD,io,uE,iz,hlen,de,lh]
  refine aP.bG (α:=List Nat) (fun seen f h'=>h'=h.push (.iter j cl seen cl)∧f 20=.ptr h.n 0∧∃ m,f 3=.int .i64 m∧m≤1099511627776∧(∀ e ∈ l,e.1 ∈ seen→m≤e.2.2)∧(m=1099511627776∨∃ e ∈ l,m=e.2.2))
   (fun seen=>(qg (mapOf .i64 k4 l) seen).length) [] ⟨rfl,rfl,_,rfl,Int.le_refl _,by simp,.inl rfl⟩ ?_
  rintro seen f h' ⟨rfl,AP,m,xB,m1,m2,m3⟩
  refine dw (by kernel_rfl) ?_
  have Gh:(h.push (.iter j cl seen cl)).get j=.map (mapOf .i64 k4 l) cl:=by rw [kM aX];exact j8
  simp only [aa,AP]
  refine Mb b6 Gh ad (fun mF=>?_) fun e he=>?_
  ·have dx:∀ e ∈ l,e.1 ∈ seen:=fun e he=>by
    apply Classical.byContradiction
    intro ni
    have:(e.1,V.int .i64 e.2.1,k4 e.2.2) ∈ qg (mapOf .i64 k4 l) seen:=by
     unfold qg
     exact List.mem_filter.2 ⟨List.mem_map.2 ⟨e,he,rfl⟩,by simp [ni]⟩
    rw [mF] at this
    simp at this
   simp only [aa,Nat.reduceEqDiff,xB,aI,Tryz.results77,ac]
   refine au ⟨?_,I.push _ _ _⟩
   rw [leastOf,if_neg h0]
   congr 1
   exact kI.eq ⟨m1,fun e he=>m2 e he (dx e he),m3⟩ (ahr l)
  ·have sX:=(List.mem_filter.1 he).1
   obtain ⟨eT,we,rfl⟩:=List.mem_map.1 sX
   have xn:=Mc (h:=(h.push (.iter j cl seen cl)).set h.n (.iter j cl (seen++[eT.1]) cl)) (r:=h.n) (e:=(eT.1,V.int .i64 eT.2.1,k4 eT.2.2)) aL (by rw [jF (by omega)];exact Gh) ad sX
   simp only [set_push] at xn
   simp only [aa,Nat.reduceEqDiff,AP,xn,k4,xB]
   refine au ⟨seen++[eT.1],⟨rfl,AP,min m eT.2.2,rfl,by omega,fun e he ad=>?_,?_⟩,Rv he⟩
   ·rcases List.mem_append.1 ad with ad | ad
    ·have:=m2 e he ad;omega
    ·simp at ad
     have sY:e=eT:=Oq cR.2 he we (by simpa using ad)
     subst sY
     omega
   ·by_cases hle:m≤eT.2.2
    ·rw [Int.min_eq_left hle];exact m3
    ·rw [Int.min_eq_right (by omega)];exact .inr ⟨eT,we,rfl⟩
def jx (k:Nat):List Int→Seen
 | []=>[]
 | z::r=>(k,z,-1)::jx (k+1) r
def nR (lo:Int):List Int→Prop
 | []=>True
 | z::r=>lo<z∧nR z r
theorem Ot (k:Nat) (z:Int):∀ (zs:List Int),jx k (zs++[z])=jx k zs++[(k+zs.length,z,-1)]
 | []=>rfl
 | a::zs=>by
  simp only [List.cons_append,jx,Ot (k+1) z zs,List.length_cons]
  rw [show k+1+zs.length=k+(zs.length+1) by omega]
theorem Wi {lo z:Int}:∀ {zs:List Int},nR lo (zs++[z])→nR lo zs∧lo<z∧∀ x ∈ zs,x<z
 | [],h=>⟨trivial,h.1,by simp⟩
 | a::zs,h=>by
  obtain ⟨h1,ae⟩:=h
  obtain ⟨aA,bk,bN⟩:=Wi ae
  exact ⟨⟨h1,aA⟩,by omega,fun x ak=>by
   rcases List.mem_cons.1 ak with rfl | ak
   ·exact bk
   ·exact bN x ak⟩
theorem Wj {k:Nat} {v:Int}:∀ {zs:List Int},db (jx k zs) v=if v ∈ zs then some (-1) else none
 | []=>rfl
 | a::zs=>by
  have ih:=Wj (k:=k+1) (v:=v) (zs:=zs)
  unfold db at ih⊢
  simp only [jx,List.find?_cons]
  by_cases h:a=v
  ·subst h;simp
  ·have:(a==v)=false:=by simp [h]
   rw [this]
   simp only
   rw [ih]
   simp [Ne.symm h]
def Dc (lo:Int):List Int→Int
 | []=>lo
 | z::r=>Dc z r
theorem Wk (lo z:Int):∀ zs:List Int,Dc lo (zs++[z])=z
 | []=>rfl
 | a::zs=>Wk a z zs
theorem ahs {lo:Int} {zs:List Int} (h:nR lo zs) {k:Nat} (hk:k<zs.length):nR lo (zs.take (k+1))∧Dc lo (zs.take k)<zs[k]:=by
 induction zs generalizing lo k with
 | nil=>simp at hk
 | cons a zs ih=>
  cases k with
  | zero=>exact ⟨⟨h.1,trivial⟩,h.1⟩
  | succ k=>
   obtain ⟨h1,ae⟩:=ih h.2 (k:=k) (by simpa using hk)
   exact ⟨⟨h.1,by simpa using h1⟩,by simpa [Dc] using ae⟩
theorem take_succ {α:Type} {l:List α} {k:Nat} (hk:k<l.length):l.take (k+1)=l.take k++[l[k]]:=by
 rw [List.take_add_one,List.getElem?_eq_getElem hk];rfl
theorem Ou (h:J) (zs:List Int) (h1:1≤zs.length) (ae:zs.length≤24) (a6:nR (-1) zs) :
  ab Tryz.prog 69 [.ag zs.length (zs.map (.int .i64))] h (fun r h'=>∃ i j,r=.tuple [.ptr i 0,.int .i64 0]∧q2 h' (.ptr i 0) (jx 0 zs) i j zs.length∧h.n≤i∧h.n≤j∧I h h' none_):=by
 refine ab.ao (c:=_) Tryz.func69 rfl (by kernel_rfl) (by simp) ?_
 have bd:decide ((zs.length:Int)<1)=false:=by simp;omega
 have bH:decide (24<(zs.length:Int))=false:=by simp;omega
 simp only [aa,Int.reduceNeg,Nat.reduceEqDiff,reduceCtorEq,mh,adH,adW,bd,bH]
 refine aP.bG (α:=Nat) (fun k f h'=>k≤zs.length∧f 4=.ptr (h.n+1) 0∧f 5=.int .i64 (Dc (-1) (zs.take k))∧f 19=.ag zs.length (zs.map (.int .i64))∧f 20=.int .i64 zs.length∧f 21=.int .i64 (k:Nat) ∧
  q2 h' (.ptr (h.n+1) 0) (jx 0 (zs.take k)) (h.n+1) h.n k∧I h h' none_) (fun k=>zs.length - k) 0 ?_ ?_
 ·refine ⟨Nat.zero_le _,rfl,rfl,rfl,rfl,rfl,⟨rfl,?_,?_,by omega,?_,?_,fH.nil _⟩,?_⟩
  ·rw [eA,eA];omega
  ·rw [eA,eA];omega
  ·rw [show h.n+1=(h.push (.map [] 0)).n by rfl,b6]
  ·rw [kM (by rw [eA];omega),b6];rfl
  ·exact (I.push _ _ _).a8 _
 ·rintro k f h' ⟨hk,f4,f5,f19,f20,f21,hm,bO⟩
  refine dw (by kernel_rfl) ?_
  obtain ⟨_,hi,aX,gP,iz,j8,ad⟩:=hm
  by_cases aH:k<zs.length
  ·have c3:decide ((k:Int)<(zs.length:Int))=true:=by simp;omega
   have fR:=JW (P:=Tryz.prog) (t:=24) (k:=.i64) (i:=(k:Int)) (cs:=zs.map (V.int .i64)) kr (by omega) (by omega:(k:Int)<(zs.length:Nat)) (by simp)
   have bb:(zs.map (V.int .i64)).drop ((k:Int).toNat * 1)=.int .i64 zs[k]::(zs.map (V.int .i64)).drop (k+1):=by
    rw [Int.toNat_natCast,Nat.mul_one,List.drop_eq_getElem_cons (by simpa using aH)]
    simp
   rw [bb] at fR
   obtain ⟨Gi,aht⟩:=ahs a6 aH
   have dU:decide (zs[k]≤Dc (-1) (zs.take k))=false:=by simp;omega
   have rL:=P4 (P:=Tryz.prog) (h:=h') (k:=zs[k]) (a:=(-1:Int)) (v:=.int .i64 (-1)) CT j8 rfl
   have wZ:db (jx 0 (zs.take k)) zs[k]=none:=by
    rw [Wj,if_neg]
    intro gh
    rw [take_succ aH] at Gi
    have:=(Wi Gi).2.2 _ gh
    omega
   have cK:eB k (jx 0 (zs.take k)) zs[k] (-1)=jx 0 (zs.take (k+1)):=by
    have:(jx 0 (zs.take k)).findIdx? (fun e=>e.2.1==zs[k])=none:=by
     cases aC:(jx 0 (zs.take k)).findIdx? (fun e=>e.2.1==zs[k]) with
     | none=>rfl
     | some q=>
      obtain ⟨e,_,_,aA⟩:=Yv aC
      rw [wZ] at aA
      cases aA
    rw [Yw this,take_succ aH,Ot]
    simp
    omega
   have Ov:mu k (jx 0 (zs.take k)) zs[k]=k+1:=by simp [mu,wZ]
   rw [cK,Ov] at rL
   have c9:IntKind.i64.wrap ((k:Int)+1)=((k+1:Nat):Int):=by rw [Go.IntWalk.i64_in _ (by omega)];rfl
   simp only [aa,Int.reduceNeg,Nat.reduceEqDiff,uD,uE,a7,f4,f5,f19,f20,f21,c3,fR,dU,iz,rL,c9]
   refine au ⟨k+1,⟨by omega,f4,?_,f19,f20,rfl,⟨rfl,hi,aX,gP,by rw [jF gP];exact iz,aL,?_⟩,bO.iQ (Nat.le_refl _) _⟩,by omega⟩
   ·show V.int .i64 zs[k]=_
    rw [take_succ aH,Wk]
   ·have ar:mapOf .i64 k4 (jx 0 (zs.take (k+1)))=mapOf .i64 k4 (jx 0 (zs.take k))++[(k,.int .i64 zs[k],k4 (-1))]:=by
     rw [take_succ aH,Ot]
     simp [mapOf]
     omega
    rw [ar]
    exact ad.snoc _ _
  ·obtain rfl:k=zs.length:=by omega
   have c3:decide ((zs.length:Int)<(zs.length:Int))=false:=by simp
   simp only [aa,Int.reduceNeg,Nat.reduceEqDiff,f4,f20,f21,c3,aI,Tryz.results69,cW]
   rw [List.take_length] at j8 ad
   exact au ⟨h.n+1,h.n,by first | rfl | (show V.tuple [f 4,.int .i64 0]=_;rw [f4]),⟨rfl,hi,aX,gP,iz,j8,ad⟩,by omega,Nat.le_refl _,bO⟩
end Go.Proofs.YtedkjhifbibpmaaGreatDoor.Pk
