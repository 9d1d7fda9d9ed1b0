/-
  What functions of the program do, told of abstract states. Conditions: as each theorem says.
-/
import Derived.Test.YtedkjhifbibpmaaGreatDoorMa
import Derived.Test.YtedkjhifbibpmaaGreatDoorAbD
set_option linter.unusedVariables false
set_option linter.unusedSimpArgs false
set_option maxHeartbeats 4000000
set_option maxRecDepth 10000
namespace Go.Proofs.YtedkjhifbibpmaaGreatDoor.Pk
open Go Go.Proofs Go.Proofs.YtedkjhifbibpmaaGreatDoor.Ab
mutual
def cj:bF→List Nat
 | .mk o n l=>enc o.toNat++(if o=1 then enc (hX n) else [])++yD l
def yD:List bF→List Nat
 | []=>[]
 | k::r=>cj k++yD r
end
theorem T3:∀ l:List bF,yD l=l.flatMap cj
 | []=>by rw [yD];rfl
 | k::r=>by rw [yD,T3 r];rfl
theorem CW (o n:Int) (l:List bF):cj (.mk o n l)=enc o.toNat++(if o=1 then enc (hX n) else [])++l.flatMap cj:=by rw [cj,T3]
theorem T4:∀ a b:List bF,dO (a++b)=dO a+dO b
 | [],b=>by rw [List.nil_append,dO];omega
 | k::a,b=>by rw [List.cons_append,dO,dO,T4 a b];omega
theorem T5 {l:List bF} {i:Nat} (hi:i<l.length):dO (l.take i)+dF l[i]≤dO l:=by
 have h1:=TH hi
 have ae:=T4 (l.take (i+1)) (l.drop (i+1))
 rw [List.take_append_drop] at ae
 omega
theorem i8:∀ l:List bF,(∀ k ∈ l,(cj k).length≤20 * dF k)→(l.flatMap cj).length≤20 * dO l
 | [],_=>Nat.zero_le _
 | k::r,h=>by
  have h1:=h k (by simp)
  have ae:=i8 r fun x ak=>h x (by simp [ak])
  rw [List.flatMap_cons,List.length_append,dO]
  omega
theorem M9:∀ (s:Nat) (e:bF),dF e=s→fa e→(cj e).length≤20 * dF e:=by
 intro s
 induction s using Nat.strongRecOn with
 | _ s ih=>
 intro e ad ba
 have hk:∀ k ∈ e.ax,(cj k).length≤20 * dF k:=fun k hk=>ih (dF k) (by have:=MV k hk;omega) k rfl (ba.yA k hk)
 cases ba with
 | mk o n l aM U bc aG=>
  have h1:=nI o.toNat (by omega)
  have ae:=nI (hX n) (xe n aG.1 aG.2)
  have aA:=i8 l hk
  rw [CW,List.length_append,List.length_append,dF]
  split
  ·omega
  ·simp only [List.length_nil];omega
theorem uK (e:bF):(V.agg (aq e)).cells=some (aq e):=rfl
theorem yE (e:bF):bM (some 3) (aV.cells [V.int .i64 0,V.int .i64 0,V.ah] 27 none) 0 (aq e)=some (.cells (aq e) 27 none):=by cases e;rfl
theorem CX (e:bF):(if 3≤(aq e).length then some (V.agg (List.take 3 (aq e))) else none)=some (.agg (aq e)):=by cases e;rfl
theorem aey (o n:Int) (ax:List bF):da (aV.cells (aq (.mk o n ax)) 27 none) 0=some [.int .i64 o,.int .i64 n,.ag ax.length (ax.flatMap aq)]:=by rw [hT];rfl
theorem aez (o n:Int) (ax:List bF):da (aV.cells (aq (.mk o n ax)) 27 none) 1=some [.int .i64 n,.ag ax.length (ax.flatMap aq)]:=by rw [hT];rfl
theorem No (o n:Int) (ax:List bF):da (aV.cells (aq (.mk o n ax)) 27 none) 2=some [.ag ax.length (ax.flatMap aq)]:=by rw [hT];rfl
theorem Na (A:bF) (q:List V):cX (some (some 3)) (some (aq A++q))=some (.agg (aq A)):=lC (na A)
theorem Nb:∀ (d:Nat) (e:bF) (h:J) (x:V) (cs:List Nat),rC d e→fa e→Rd h x cs→cs.length+20 * dF e≤2 ^ 40→Pure Tryz.prog 105 [x,.agg (aq e)] h (.ag (cs++cj e).length (ep (cs++cj e)))
 | 0,e,h,x,cs,bb,_,_,_=>bb.zero.elim
 | d+1,e,h,x,cs,bb,ba,rd,av=>by
  obtain ⟨aC,cV⟩:=bb.fits
  have qU:=ba.yA
  have hK:∀ k ∈ e.ax,(cj k).length≤20 * dF k:=fun k hk=>M9 _ k rfl (qU k hk)
  obtain ⟨o,n,ax⟩:=e
  obtain ⟨_,v8,q4⟩:=MU aC
  have aG:-2 ^ 63≤n∧n<2 ^ 63:=by cases ba;assumption
  have hlen:=ba.len
  simp only [bF.ax] at cV qU hlen hK
  obtain ⟨k,rfl⟩:∃ k:Nat,o=k:=⟨o.toNat,by omega⟩
  have b4:=nI (hX n) (xe n aG.1 aG.2)
  have alS:=nI k (by omega)
  rw [dF] at av
  refine Pure.val (bh.ag (yB _)) ?_
  obtain ⟨nD,sC⟩:∃ m,m=cs++enc k++(if (k:Int)=1 then enc (hX n) else []):=⟨_,rfl⟩
  have jZ:cs++cj (.mk k n ax)=nD++ax.flatMap cj:=by rw [sC,CW];simp
  have hJ:nD.length≤cs.length+20:=by
   rw [sC,List.length_append,List.length_append]
   split
   ·omega
   ·simp only [List.length_nil];omega
  rw [jZ]
  refine ab.ao (c:=_) Tryz.func105 rfl (by kernel_rfl) (by simp) ?_
  have aF:=uK (.mk k n ax)
  have eQ:=aey k n ax
  have hY:=aez k n ax
  have hS:=No k n ax
  have sD:IntKind.u64.wrap (k:Int)=(k:Int):=P7 (by omega)
  obtain ⟨H,hH⟩:∃ y,y=h.push (.cells (aq (.mk k n ax)) 27 none):=⟨_,rfl⟩
  have hW:H.get h.n=.cells (aq (.mk k n ax)) 27 none:=by rw [hH];exact b6
  have bq:I h H none_:=by rw [hH];exact I.push _ _ _
  simp only [aa,Nat.reduceEqDiff,reduceCtorEq,lT,a7,aF,eQ,iZ fb ln,sD]
  rw [←hH]
  clear hH
  refine bB Ia (Iu x cs k H (rd.aj bq) (by omega) (by omega)) ?_
  by_cases h1:(k:Int)=1
  ·have bd:((k:Int)==1)=true:=by simpa using h1
   have m1:cs++enc k++enc (hX n)=nD:=by rw [sC,if_pos h1]
   simp only [aa,Nat.reduceEqDiff,reduceCtorEq,lT,CQ,br,a7,hW,eQ,hY,bd]
   refine bB SL (E2 _ (cs++enc k) n H (Rd.ag _ _) (by rw [List.length_append];omega) aG.1 aG.2) ?_
   rw [m1]
   simp only [aa,Nat.reduceEqDiff,reduceCtorEq,nE,tw,oV,hW,hS]
   refine aP.bG (α:=Nat) (fun i f h'=>f 0=.ag (nD++(ax.take i).flatMap cj).length (ep (nD++(ax.take i).flatMap cj))∧f 20=.ag ax.length (ax.flatMap aq)∧f 21=.int .i64 ((ax.length:Nat):Int)∧f 22=.int .i64 (i:Nat)∧i≤ax.length∧I h h' none_) (fun i=>ax.length - i) 0
    ⟨(show V.ag _ _=_ by simp),rfl,rfl,rfl,Nat.zero_le _,bq⟩ ?_
   rintro i f h1 ⟨f0,f20,f21,f22,hi,bo⟩
   refine dw (by kernel_rfl) ?_
   by_cases aH:i<ax.length
   ·have d1:decide ((i:Int)<((ax.length:Nat):Int))=true:=decide_eq_true (by omega)
    have hw:IntKind.i64.wrap (((i:Nat):Int)+1)=((i+1:Nat):Int):=by rw [Go.IntWalk.i64_in _ (by omega)];omega
    have bR:=DM (kk:=.i64) aH
    have bz:=T5 aH
    have kg:=i8 (ax.take i) fun k hk=>hK k (List.mem_of_mem_take hk)
    have jK:(ax.take (i+1)).flatMap cj=(ax.take i).flatMap cj++cj ax[i]:=by rw [List.take_succ_eq_append_getElem aH,List.flatMap_append];simp
    have uL:ax[i] ∈ ax:=List.getElem_mem aH
    generalize ax[i]=A at bR bz jK uL
    have E4:=cV A uL
    have jy:=qU A uL
    have ib:=Na A
    have oY:=uK A
    have st:=yE A
    have gW:=CX A
    have de:(nD++(ax.take i).flatMap cj).length=nD.length+((ax.take i).flatMap cj).length:=List.length_append
    simp only [aa,Nat.reduceEqDiff,reduceCtorEq,eG,my,lp,f0,f20,f21,f22,d1,bR,ib,oY,st,gW]
    refine bB Mz (Nb d A _ _ _ E4 jy (Rd.ag _ _) (by omega)) ?_
    rw [List.append_assoc,←jK]
    simp only [aa,Nat.reduceEqDiff,reduceCtorEq,f22,hw]
    exact au ⟨i+1,⟨rfl,f20,f21,rfl,aH,bo.a8 _⟩,by omega⟩
   ·have d1:decide ((i:Int)<((ax.length:Nat):Int))=false:=decide_eq_false (by omega)
    rw [List.take_of_length_le (by omega)] at f0
    simp only [aa,Nat.reduceEqDiff,reduceCtorEq,f0,f21,f22,d1,aI,Tryz.results105,ac]
    exact au ⟨rfl,bo⟩
  ·have bd:((k:Int)==1)=false:=by simpa using h1
   have m1:cs++enc k=nD:=by rw [sC,if_neg h1,List.append_nil]
   rw [m1]
   simp only [aa,Nat.reduceEqDiff,reduceCtorEq,lT,nE,tw,oV,a7,hW,eQ,hS,bd]
   refine aP.bG (α:=Nat) (fun i f h'=>f 0=.ag (nD++(ax.take i).flatMap cj).length (ep (nD++(ax.take i).flatMap cj))∧f 20=.ag ax.length (ax.flatMap aq)∧f 21=.int .i64 ((ax.length:Nat):Int)∧f 22=.int .i64 (i:Nat)∧i≤ax.length∧I h h' none_) (fun i=>ax.length - i) 0
    ⟨(show V.ag _ _=_ by simp),rfl,rfl,rfl,Nat.zero_le _,bq⟩ ?_
   rintro i f h1 ⟨f0,f20,f21,f22,hi,bo⟩
   refine dw (by kernel_rfl) ?_
   by_cases aH:i<ax.length
   ·have d1:decide ((i:Int)<((ax.length:Nat):Int))=true:=decide_eq_true (by omega)
    have hw:IntKind.i64.wrap (((i:Nat):Int)+1)=((i+1:Nat):Int):=by rw [Go.IntWalk.i64_in _ (by omega)];omega
    have bR:=DM (kk:=.i64) aH
    have bz:=T5 aH
    have kg:=i8 (ax.take i) fun k hk=>hK k (List.mem_of_mem_take hk)
    have jK:(ax.take (i+1)).flatMap cj=(ax.take i).flatMap cj++cj ax[i]:=by rw [List.take_succ_eq_append_getElem aH,List.flatMap_append];simp
    have uL:ax[i] ∈ ax:=List.getElem_mem aH
    generalize ax[i]=A at bR bz jK uL
    have E4:=cV A uL
    have jy:=qU A uL
    have ib:=Na A
    have oY:=uK A
    have st:=yE A
    have gW:=CX A
    have de:(nD++(ax.take i).flatMap cj).length=nD.length+((ax.take i).flatMap cj).length:=List.length_append
    simp only [aa,Nat.reduceEqDiff,reduceCtorEq,eG,my,lp,f0,f20,f21,f22,d1,bR,ib,oY,st,gW]
    refine bB Mz (Nb d A _ _ _ E4 jy (Rd.ag _ _) (by omega)) ?_
    rw [List.append_assoc,←jK]
    simp only [aa,Nat.reduceEqDiff,reduceCtorEq,f22,hw]
    exact au ⟨i+1,⟨rfl,f20,f21,rfl,aH,bo.a8 _⟩,by omega⟩
   ·have d1:decide ((i:Int)<((ax.length:Nat):Int))=false:=decide_eq_false (by omega)
    rw [List.take_of_length_le (by omega)] at f0
    simp only [aa,Nat.reduceEqDiff,reduceCtorEq,f0,f21,f22,d1,aI,Tryz.results105,ac]
    exact au ⟨rfl,bo⟩
theorem aeA {e:bF} (hm:cv e=true):rC 16 e:=by
 unfold cv at hm
 cases aF:fM 16 64 e with
 | none=>rw [aF] at hm;cases hm
 | some c=>exact ⟨64,c,aF⟩
def hj (e:bF):List Nat:=if cv e=true then cj e else []
def pE (e:bF):V:=.tuple [.ag (hj e).length (ep (hj e)),.int .i64 (if cv e=true then 0 else 1)]
theorem aeB (e:bF):bh (pE e):=bh.tuple (bl.cons (bh.ag (yB _)) (bl.cons (bh.int _ _) bl.nil))
theorem Nc {e:bF} (h:cv e=true):dF e≤64:=by
 unfold cv at h
 rw [It] at h
 split at h
 ·rename_i U;exact U.2
 ·cases h
theorem Nd (e:bF) (ba:fa e) (h:J) (aB:fc h):Pure Tryz.prog 53 [.agg (aq e)] h (pE e):=by
 refine Pure.of (aeB e) ?_
 refine ab.ao (c:=_) Tryz.func53 rfl (by kernel_rfl) (by simp) ?_
 have aF:=uK e
 have gW:=CX e
 have nG:da (aV.cells (aq e) 27 none) 0=some (aq e):=by cases e;rfl
 have ig:cX (some (some 3)) (some (aq e))=some (.agg (aq e)):=by cases e;rfl
 have eO:∀ a,fc (h.push a):=fun a=>by unfold fc;rw [DF];exact aB
 simp only [aa,Nat.reduceEqDiff,eG,aF,nG,ig]
 refine bB My (Aa e _ (eO _)) ?_
 unfold pE hj
 cases hm:cv e
 ·simp only [aa,Nat.reduceEqDiff,aI,Tryz.results53,cW]
  exact au ⟨_,aK.tuple (az.cons (aK.kN _) (az.refl _ _)),I.push _ _ _⟩
 ·have bz:=Nc hm
  simp only [aa,Nat.reduceEqDiff,eG,nG,ig]
  refine bB Mz (Nb 16 e _ .ah [] (aeA hm) ba (Rd.ah _) (by simp only [List.length_nil];omega)) ?_
  simp only [aa,Nat.reduceEqDiff,aI,Tryz.results53,cW]
  exact au ⟨_,aK.refl _ _,I.push _ _ _⟩
abbrev CY:=Except Nat (bF×List Nat×Nat)
def kY (f:Nat→List Nat→CY):Nat→Nat→List Nat→Except Nat (List bF×List Nat×Nat)
 | 0,left,an=>.ok ([],an,left)
 | m+1,left,an=>match f left an with
  | .error e=>.error e
  | .ok (k,fO,gl)=>match kY f m gl fO with
   | .error e=>.error e
   | .ok (ax,r)=>.ok (k::ax,r)
def c0:Nat→Nat→List Nat→CY
 | 0,_,_=>.error 11
 | d+1,left,an=>
  if left=0 then .error 11
  else if (dec an 0 0).2.2≠0 then .error (dec an 0 0).2.2
  else if (dec an 0 0).1<1∨16<(dec an 0 0).1 then .error 5
  else if (dec an 0 0).1=1 then
   if (dec (an.drop (dec an 0 0).2.1) 0 0).2.2≠0 then .error (dec (an.drop (dec an 0 0).2.1) 0 0).2.2
   else .ok (.mk 1 (eV (dec (an.drop (dec an 0 0).2.1) 0 0).1) [],(an.drop (dec an 0 0).2.1).drop (dec (an.drop (dec an 0 0).2.1) 0 0).2.1,left - 1)
  else match kY (c0 d) (uG (dec an 0 0).1).toNat (left - 1) (an.drop (dec an 0 0).2.1) with
   | .error e=>.error e
   | .ok (ax,r)=>.ok (.mk (dec an 0 0).1 0 ax,r)
theorem Nf (n:Nat) (aG:n<2 ^ 64):hX (eV n)=n:=by
 unfold hX eV
 split<;>split<;>omega
theorem uM {an:List Nat} (av:∀ b ∈ an,b<256) (h:(dec an 0 0).2.2=0):an=enc (dec an 0 0).1++an.drop (dec an 0 0).2.1∧(dec an 0 0).1<2 ^ 64:=by
 refine ⟨?_,dec_lt an 0 0 (by omega) (by decide) av⟩
 obtain ⟨h1,x,ae,aA,_⟩:=M6 an 0 0 (dec an 0 0).1 (dec an 0 0).2.1 av (Prod.ext rfl (Prod.ext rfl h))
 have ak:x=(dec an 0 0).1:=by rw [ae];simp
 rw [ak,Nat.sub_zero] at aA
 rw [←aA,List.take_append_drop]
structure KC (d left:Nat) (an:List Nat) (e:bF) (fO:List Nat) (gl:Nat):Prop where
 rE:an=cj e++fO
 sz:gl+dF e=left
 deep:oX d e=true
 ok:fa e
theorem T6 {d:Nat} {f:Nat→List Nat→CY} (aC:∀ left an,(∀ b ∈ an,b<256)→∀ e fO gl,f left an=.ok (e,fO,gl)→KC d left an e fO gl) :
  ∀ (m left:Nat) (an:List Nat),(∀ b ∈ an,b<256)→∀ ax fO gl,kY f m left an=.ok (ax,fO,gl)→ax.length=m∧an=ax.flatMap cj++fO∧gl+dO ax=left∧(∀ k ∈ ax,oX d k=true)∧∀ k ∈ ax,fa k
 | 0,left,an,av,ax,fO,gl,h=>by
  simp only [kY,Except.ok.injEq,Prod.mk.injEq] at h
  obtain ⟨rfl,rfl,rfl⟩:=h
  exact ⟨rfl,rfl,by simp [dO],by simp,by simp⟩
 | m+1,left,an,av,ax,fO,gl,h=>by
  unfold kY at h
  split at h
  ·cases h
  ·rename_i k hB ff hk
   have g:=aC left an av k hB ff hk
   have hs:∀ b ∈ hB,b<256:=fun b tj=>av b (by rw [g.rE];simp [tj])
   split at h
   ·cases h
   ·rename_i T7 r hK
    obtain ⟨rF,eY⟩:=r
    simp only [Except.ok.injEq,Prod.mk.injEq] at h
    obtain ⟨rfl,rfl,rfl⟩:=h
    obtain ⟨h1,ae,aA,bk,bN⟩:=T6 aC m ff hB hs T7 rF eY hK
    refine ⟨by simp [h1],?_,?_,?_,?_⟩
    ·rw [g.rE,ae];simp
    ·rw [dO];have:=g.sz;omega
    ·intro x ak
     rcases List.mem_cons.1 ak with rfl | ak
     ·exact g.deep
     ·exact bk x ak
    ·intro x ak
     rcases List.mem_cons.1 ak with rfl | ak
     ·exact g.ok
     ·exact bN x ak
theorem Ix (o:Int):0≤uG o∧uG o≤3:=by unfold uG;split<;>(try split)<;>(try split)<;>omega
theorem i7:∀ (d left:Nat) (an:List Nat),(∀ b ∈ an,b<256)→∀ e fO gl,c0 d left an=.ok (e,fO,gl)→KC d left an e fO gl
 | 0,left,an,av,e,fO,gl,h=>by simp [c0] at h
 | d+1,left,an,av,e,fO,gl,h=>by
  unfold c0 at h
  split at h
  ·cases h
  rename_i aM
  split at h
  ·cases h
  rename_i he
  split at h
  ·cases h
  rename_i aU
  obtain ⟨bb,aH⟩:=uM av (by simpa using he)
  have hs:∀ b ∈ an.drop (dec an 0 0).2.1,b<256:=fun b tj=>av b (List.mem_of_mem_drop tj)
  generalize (dec an 0 0).1=o at *
  generalize an.drop (dec an 0 0).2.1=hB at *
  split at h
  ·rename_i bc
   split at h
   ·cases h
   rename_i oF
   obtain ⟨hS,hC⟩:=uM hs (by simpa using oF)
   simp only [Except.ok.injEq,Prod.mk.injEq] at h
   obtain ⟨rfl,rfl,rfl⟩:=h
   have hu:=TX _ hC
   refine ⟨?_,by simp only [dF,dO];omega,?_,.mk _ _ _ (by simp) (by simp) (by omega) hu⟩
   ·rw [CW,if_pos rfl,Nf _ hC]
    conv=>lhs;rw [bb,hS,bc]
    simp
   ·simp [oX,kj,cJ,bF.ax]
  ·rename_i bc
   split at h
   ·cases h
   rename_i ax r hk
   obtain ⟨rF,eY⟩:=r
   simp only [Except.ok.injEq,Prod.mk.injEq] at h
   obtain ⟨rfl,rfl,rfl⟩:=h
   obtain ⟨h1,ae,aA,bk,bN⟩:=T6 (i7 d) _ _ _ hs ax rF eY hk
   have Kb:=Ix (o:Int)
   have jl:=MW (o:=(o:Int)) (by omega) (by omega)
   refine ⟨?_,by rw [dF];omega,?_,.mk _ _ _ (by omega) bN (by omega) (by omega)⟩
   ·rw [CW,if_neg (by omega)]
    conv=>lhs;rw [bb,ae]
    simp
   ·have hf:kj (.mk (o:Int) 0 ax)=true:=by
     simp only [kj,Bool.and_eq_true,Bool.or_eq_true,decide_eq_true_eq]
     exact ⟨⟨by omega,by omega⟩,by rw [jl];omega,by simp⟩
    rw [oX,hf,Bool.true_and,List.all_eq_true]
    exact bk
theorem T8 {d:Nat} {f:Nat→List Nat→CY} (r:List Nat):∀ (ax:List bF) (left:Nat),(∀ k ∈ ax,∀ left r,dF k≤left→f left (cj k++r)=.ok (k,r,left - dF k))→dO ax≤left→kY f ax.length left (ax.flatMap cj++r)=.ok (ax,r,left - dO ax)
 | [],left,_,_=>by simp [kY,dO]
 | k::ax,left,aC,aM=>by
  rw [dO] at aM
  rw [List.length_cons,kY,List.flatMap_cons,List.append_assoc,aC k (by simp) left _ (by omega)]
  simp only
  rw [T8 (d:=d) r ax (left - dF k) (fun x ak=>aC x (by simp [ak])) (by omega)]
  simp only [dO,Nat.sub_sub]
theorem T9:∀ (d left:Nat) (e:bF) (r:List Nat),oX d e=true→fa e→dF e≤left→c0 d left (cj e++r)=.ok (e,r,left - dF e)
 | 0,left,e,r,bb,_,_=>by simp [oX] at bb
 | d+1,left,e,r,bb,ba,aM=>by
  have qU:=ba.yA
  rw [oX,Bool.and_eq_true,List.all_eq_true] at bb
  obtain ⟨aC,hk⟩:=bb
  obtain ⟨o,n,ax⟩:=e
  obtain ⟨h1,ae,aA⟩:=MU aC
  have aG:-2 ^ 63≤n∧n<2 ^ 63:=by cases ba;assumption
  obtain ⟨o,rfl⟩:∃ k:Nat,o=k:=⟨o.toNat,by omega⟩
  have jl:=MW (o:=(o:Int)) (by omega) (by omega)
  simp only [bF.ax] at hk qU
  rw [dF] at aM⊢
  have QX:n=0∨o=1:=by
   simp only [kj,Bool.and_eq_true,Bool.or_eq_true,decide_eq_true_eq] at aC
   omega
  rw [CW,Int.toNat_natCast]
  unfold c0
  rw [if_neg (by omega)]
  by_cases bc:o=1
  ·subst bc
   have hK:ax=[]:=by
    have:cJ.getD (((1:Nat):Int)).toNat 0=0:=by decide
    rw [this] at h1
    exact List.eq_nil_of_length_eq_zero (by omega)
   subst hK
   have ar:enc 1++(if (((1:Nat):Int))=1 then enc (hX n) else [])++([]:List bF).flatMap cj++r=enc 1++(enc (hX n)++r):=by simp
   rw [ar,vP 1 (by decide)]
   simp only [List.drop_left,ne_eq,not_true,if_false]
   rw [if_neg (by omega),vP (hX n) (xe n aG.1 aG.2)]
   simp [M8,dO]
  ·have Hi:n=0:=by omega
   subst Hi
   have ar:enc o++(if ((o:Nat):Int)=1 then enc (hX 0) else [])++ax.flatMap cj++r=enc o++(ax.flatMap cj++r):=by rw [if_neg (by omega)];simp
   rw [ar,vP o (by omega)]
   simp only [List.drop_left,ne_eq,not_true,if_false]
   rw [if_neg (by omega),if_neg bc]
   have hm:(uG (o:Int)).toNat=ax.length:=by rw [←jl,←h1];simp
   rw [hm,T8 (d:=d) r ax (left - 1) (fun k KD left r hle=>T9 d left k r (hk k KD) (qU k KD) hle) (by omega)]
   simp only [Nat.sub_sub]
   rw [Nat.add_comm]
theorem Ua {f:Nat→List Nat→CY} (aC:∀ l b c,f l b=.error c→c≠0):∀ (m l:Nat) (b:List Nat) (c:Nat),kY f m l b=.error c→c≠0
 | 0,l,b,c,h=>by simp [kY] at h
 | m+1,l,b,c,h=>by
  unfold kY at h
  split at h
  ·rename_i e he
   cases h
   exact aC _ _ _ he
  ·split at h
   ·rename_i e he
    cases h
    exact Ua aC _ _ _ _ he
   ·cases h
theorem E5:∀ (d l:Nat) (b:List Nat) (c:Nat),c0 d l b=.error c→c≠0
 | 0,l,b,c,h=>by simp [c0] at h;omega
 | d+1,l,b,c,h=>by
  unfold c0 at h
  split at h
  ·cases h;omega
  split at h
  ·cases h;assumption
  split at h
  ·cases h;omega
  split at h
  ·split at h
   ·cases h;assumption
   ·cases h
  ·split at h
   ·rename_i e he
    cases h
    exact Ua (E5 d) _ _ _ _ he
   ·cases h
def ez (h:J) (eN ew:Nat) (an:List Nat) (begun:Nat):Prop:=eN<h.n∧h.get eN=.cells [.ptr ew 0,.int .i64 (begun:Nat)] 206 none∧cU h (.ptr ew 0) ew an∧eN≠ew
theorem ez.aj {h h':J} {eN ew:Nat} {an:List Nat} {begun:Nat} {own:Nat→Prop} (w:ez h eN ew an begun) (k:I h h' own) (h1:¬own eN) (ae:¬own ew):ez h' eN ew an begun :=
 ⟨Nat.lt_of_lt_of_le w.1 k.n,(k.get eN w.1 h1).trans w.2.1,cU.aj w.2.2.1 k ae,w.2.2.2⟩
def lr (eN ew:Nat):Nat→Prop:=fun q=>q=eN∨q=ew
def qV:CY→V
 | .error c=>.tuple [.agg (aq (.mk 0 0 [])),.int .i64 (c:Nat)]
 | .ok (e,_,_)=>.tuple [.agg (aq e),.int .i64 0]
theorem nd (h:J) (c:Nat):aK (.tuple [.agg [.int .i64 0,.int .i64 0,.ah],.int .i64 (c:Nat)]) h (.tuple [.agg (aq (.mk 0 0 [])),.int .i64 (c:Nat)]) h:=aK.tuple (az.cons (aeg 0 0 h) (az.refl _ _))
theorem Ub (h:J) (e:bF):lk Tryz.prog 25 1 [(0,.agg (aq e))] h=some (.bp h.n 0 1 1,h.push (.cells (aq e) 27 none)):=by cases e;rw [p0 MN];rfl
theorem Uc {h:J} {s:V} {cs:List bF} (o:Own h 27 3 s (cs.flatMap aq)) (aM:cs.length≤2 ^ 40) (c:bF) :
  ∃ b7 h',n2 Tryz.prog 25 25 s (.bp h.n 0 1 1) (h.push (.cells (aq c) 27 none))=some (b7,h')∧Own h' 27 3 b7 ((cs++[c]).flatMap aq)∧I h h' (bn s)∧bQ h s b7:=by
 have bO:I h (h.push (.cells (aq c) 27 none)) none_:=I.push _ _ _
 have lO:Own (h.push (.cells (aq c) 27 none)) 27 3 (.bp h.n 0 1 1) (aq c):=Own.js (aq c) 1 (na c) (by decide)
 have eh:=w1 (P:=Tryz.prog) (t:=25) tw lO (n:=1) (na c) (by decide) (EV c)
 obtain ⟨b7,h',ei,k8,gk,gB⟩:=wv (P:=Tryz.prog) (t:=25) (tx:=25) MN (by decide) (o.aQ bO) eh (na c) (fun m hm=>by
  change m * 3=_ at hm
  rw [iS na,na] at hm
  exact ⟨by simp only [lim];omega,by simp only [lim];omega⟩)
 refine ⟨b7,h',ei,?_,(bO.up).trans' gk,?_⟩
 ·rw [List.flatMap_append]
  simpa using k8
 ·rcases gB with gB | gB
  ·exact .inl gB
  ·exact .inr fun q af=>Nat.le_trans bO.n (gB q af)
theorem Ng:∀ (d left:Nat) (an:List Nat) (h:J) (eN ew:Nat),d≤16→left≤64→fc h→ez h eN ew an (64 - left)→(∀ b ∈ an,b<256)→an.length≤2 ^ 47 →
  ab Tryz.prog 110 [.ptr eN 0,.int .i64 ((17 - d:Nat):Int)] h (fun r h'=>r=qV (c0 d left an)∧I h h' (lr eN ew)∧∀ e fO ck,c0 d left an=.ok (e,fO,ck)→ez h' eN ew fO (64 - ck))
 | 0,left,an,h,eN,ew,_,aM,aB,bb,av,qs=>by
  refine ab.cast ?_
  refine ab.ao (c:=_) Tryz.func110 rfl (by kernel_rfl) (by simp) ?_
  have bd:decide ((16:Int)<((17 - 0:Nat):Int))=true:=by decide
  simp only [aa,Nat.reduceEqDiff,Nat.reduceAdd,Nat.reduceSub,eG,tB,my,lp,bd,aI,Tryz.results110,fW,fJ,eI,fV]
  exact au ⟨_,_,nd _ 11,rfl,(I.push _ _ _),fun e fO ck U=>by cases U⟩
 | d+1,left,an,h,eN,ew,aeC,aM,aB,bb,av,qs=>by
  refine ab.cast ?_
  refine ab.ao (c:=_) Tryz.func110 rfl (by kernel_rfl) (by simp) ?_
  have bd:decide ((16:Int)<((17 - (d+1):Nat):Int))=false:=decide_eq_false (by omega)
  obtain ⟨hl,fl⟩:∃ y,y=h.push (.cells [.int .i64 0,.int .i64 0,.ah] 27 none):=⟨_,rfl⟩
  have dC:I h hl none_:=by rw [fl];exact I.push _ _ _
  have p2:hl.n=h.n+1:=by rw [fl];rfl
  have g0:hl.get h.n=.cells [.int .i64 0,.int .i64 0,.ah] 27 none:=by rw [fl];exact b6
  have KE:=ez.aj bb dC (by simp [none_]) (by simp [none_])
  have Ud:=KE.2.1
  have KF:=bb.1
  have jJ:=bb.2.2.1.2.1
  have bZ:=bb.2.2.2
  have KG:(h.push (.cells [.int .i64 0,.int .i64 0,.ah] 27 none)).get eN=.cells [.ptr ew 0,.int .i64 ((64 - left:Nat):Int)] 206 none:=by rw [←fl];exact Ud
  by_cases de:left=0
  ·have bH:(((64 - left:Nat):Int)==64)=true:=by simp;omega
   have bj:c0 (d+1) left an=.error 11:=by rw [c0,if_pos de]
   simp only [aa,Nat.reduceEqDiff,Nat.reduceAdd,Nat.reduceLeDiff,reduceCtorEq,Ta,eG,a7,tB,my,lp,bd,KG,bH,aI,Tryz.results110,fW,fJ,eI,fV]
   exact au ⟨_,_,nd _ 11,by rw [bj];rfl,(I.push _ _ _),fun e fO ck U=>by rw [bj] at U;cases U⟩
  have bH:(((64 - left:Nat):Int)==64)=false:=by simp;omega
  have hw:IntKind.i64.wrap (((64 - left:Nat):Int)+1)=((64 - (left - 1):Nat):Int):=by rw [Go.IntWalk.i64_in _ (by omega)];omega
  obtain ⟨H1,du⟩:∃ y,y=hl.set eN (.cells [.ptr ew 0,.int .i64 ((64 - (left - 1):Nat):Int)] 206 none):=⟨_,rfl⟩
  have bo:I hl H1 (fun q=>q=eN):=by rw [du];exact I.set _ _ _
  have eL:H1.n=hl.n:=by rw [du];rfl
  have Ue:H1.get eN=.cells [.ptr ew 0,.int .i64 ((64 - (left - 1):Nat):Int)] 206 none:=by rw [du];exact aL
  have g1:=(bo.get h.n (by omega) (by omega)).trans g0
  have cA:cU H1 (.ptr ew 0) ew an:=cU.aj KE.2.2.1 bo (by omega)
  have nJ:I h H1 (lr eN ew):=(dC.up).trans bo fun q af U=>.inl U
  simp only [aa,Nat.reduceEqDiff,Nat.reduceAdd,Nat.reduceLeDiff,reduceCtorEq,pp,Ta,MM,a7,my,uz,bd,KG,bH,hw]
  rw [←fl,←du]
  clear fl du
  refine bU Ic (Iv (.ptr ew 0) ew an H1 cA av (by omega)) fun r ae ⟨aT,eb,k2⟩=>?_
  subst aT
  have ef:=k2.n
  have E6:=(k2.get eN (by omega) (by omega)).trans Ue
  have g2:=(k2.get h.n (by omega) (by omega)).trans g1
  have c6:I h ae (lr eN ew):=nJ.trans k2 fun q af U=>.inr U
  by_cases gp:(dec an 0 0).2.2=0
  rotate_left
  ·have c3:((((dec an 0 0).2.2:Nat):Int) !=0)=true:=by simp;omega
   have bj:c0 (d+1) left an=.error (dec an 0 0).2.2:=by rw [c0,if_neg de,if_pos gp]
   simp only [aa,Nat.reduceEqDiff,Nat.reduceAdd,eG,tB,my,lp,c3,g2,aI,Tryz.results110,fW,fJ,eI,fV]
   exact au ⟨_,_,nd _ _,by rw [bj];rfl,c6.trans (I.set _ h.n _) fun q af U=>by omega,fun e fO ck U=>by rw [bj] at U;cases U⟩
  have c3:((((dec an 0 0).2.2:Nat):Int) !=0)=false:=by simp;omega
  obtain ⟨Pu,aeD⟩:=uM av gp
  have qt:c0 (d+1) left an=(if (dec an 0 0).1<1∨16<(dec an 0 0).1 then .error 5
   else if (dec an 0 0).1=1 then
    if (dec (an.drop (dec an 0 0).2.1) 0 0).2.2≠0 then .error (dec (an.drop (dec an 0 0).2.1) 0 0).2.2
    else .ok (.mk 1 (eV (dec (an.drop (dec an 0 0).2.1) 0 0).1) [],(an.drop (dec an 0 0).2.1).drop (dec (an.drop (dec an 0 0).2.1) 0 0).2.1,left - 1)
   else match kY (c0 d) (uG (dec an 0 0).1).toNat (left - 1) (an.drop (dec an 0 0).2.1) with
    | .error e=>.error e
    | .ok (ax,r)=>.ok (.mk (dec an 0 0).1 0 ax,r)):=by
   conv=>lhs;unfold c0
   rw [if_neg de,if_neg (by simpa using gp)]
   all_goals rfl
  have hs:∀ y ∈ an.drop (dec an 0 0).2.1,y<256:=fun y bs=>av y (List.mem_of_mem_drop bs)
  have lf:(an.drop (dec an 0 0).2.1).length≤2 ^ 47:=by rw [List.length_drop];omega
  simp only [aa,Nat.reduceEqDiff,c3]
  clear c3 gp Pu
  generalize an.drop (dec an 0 0).2.1=hB at *
  generalize (dec an 0 0).1=k at *
  by_cases mn:k<1
  ·have dU:decide ((k:Int)<1)=true:=decide_eq_true (by omega)
   have bj:c0 (d+1) left an=.error 5:=by rw [qt,if_pos (.inl mn)]
   simp only [aa,Nat.reduceEqDiff,Nat.reduceAdd,eG,tB,my,lp,dU,g2,aI,Tryz.results110,fW,fJ,eI,fV]
   exact au ⟨_,_,nd _ 5,by rw [bj];rfl,c6.trans (I.set _ h.n _) fun q af U=>by omega,fun e fO ck U=>by rw [bj] at U;cases U⟩
  have dU:decide ((k:Int)<1)=false:=decide_eq_false (by omega)
  by_cases q5:16<k
  ·have c5:decide ((16:Int)<(k:Int))=true:=decide_eq_true (by omega)
   have bj:c0 (d+1) left an=.error 5:=by rw [qt,if_pos (.inr q5)]
   simp only [aa,Nat.reduceEqDiff,Nat.reduceAdd,eG,tB,my,lp,dU,c5,g2,aI,Tryz.results110,fW,fJ,eI,fV]
   exact au ⟨_,_,nd _ 5,by rw [bj];rfl,c6.trans (I.set _ h.n _) fun q af U=>by omega,fun e fO ck U=>by rw [bj] at U;cases U⟩
  have c5:decide ((16:Int)<(k:Int))=false:=decide_eq_false (by omega)
  rw [if_neg (by omega)] at qt
  have sD:IntKind.i64.wrap (k:Int)=(k:Int):=Go.IntWalk.i64_in _ (by omega)
  have st1:bM (some 3) (aV.cells [V.int .i64 0,V.int .i64 0,V.ah] 27 none) 0 [V.int .i64 (k:Int),V.int .i64 0,V.ah]=some (.cells [V.int .i64 (k:Int),V.int .i64 0,V.ah] 27 none):=rfl
  obtain ⟨fC,E7⟩:∃ y,y=ae.n:=⟨_,rfl⟩
  have E8:h.n<fC:=by omega
  obtain ⟨hG,hZ⟩:∃ y,y=ae.push (.cells [V.int .i64 (k:Int),V.int .i64 0,V.ah] 27 none):=⟨_,rfl⟩
  have k3:I ae hG none_:=by rw [hZ];exact I.push _ _ _
  have n3:hG.n=ae.n+1:=by rw [hZ];rfl
  have yF:hG.get fC=.cells [V.int .i64 (k:Int),V.int .i64 0,V.ah] 27 none:=by rw [hZ,E7];exact b6
  have KH:=(k3.get h.n (by omega) (by simp [none_])).trans g2
  have E9:=(k3.get eN (by omega) (by simp [none_])).trans E6
  have jk:cU hG (.ptr ew 0) ew hB:=cU.aj eb k3 (by simp [none_])
  have dL:I h hG (lr eN ew):=c6.trans' k3.up
  have wu:k<17:=by omega
  have fR:(if (0:Int)≤(k:Int)∧(k:Int)<((17:Nat):Int)∧((k:Int).toNat * 1)≤eM.length then some (V.at (eM.drop ((k:Int).toNat * 1))) else none)=some (.at (.int .i64 (cJ.getD k 0)::eM.drop (k+1))):=by
   rw [if_pos ⟨by omega,by omega,by simp [eM,cJ];omega⟩]
   have:eM.drop ((k:Int).toNat * 1)=.int .i64 (cJ.getD k 0)::eM.drop (k+1):=by
    rw [Int.toNat_natCast,Nat.mul_one,List.drop_eq_getElem_cons (by simp [eM,cJ];omega)]
    simp [eM,List.getD,List.getElem?_eq_getElem (show k<cJ.length by simp [cJ];omega)]
   rw [this]
  have jl:=MW (o:=(k:Int)) (by omega) (by omega)
  rw [Int.toNat_natCast] at jl
  simp only [aa,Nat.reduceEqDiff,Nat.reduceAdd,Nat.reduceLeDiff,lT,a7,tB,my,lp,dU,c5,iZ ln fb,sD,st1]
  rw [←E7,←hZ]
  clear hZ
  by_cases vv:k=1
  ·have hM:((k:Int)==1)=true:=by simp;omega
   simp only [aa,Nat.reduceEqDiff,Nat.reduceAdd,reduceCtorEq,pp,MM,hM,E9]
   refine bU MD (Ae (.ptr ew 0) ew hB hG jk hs (by omega)) fun r bk ⟨h8,Af,bY⟩=>?_
   subst h8
   have n4:=bY.n
   have yG:=(bY.get fC (by omega) (by omega)).trans yF
   have Fa:=(bY.get h.n (by omega) (by omega)).trans KH
   have Fb:=(bY.get eN (by omega) (by omega)).trans E9
   have oL:I h bk (lr eN ew):=dL.trans bY fun q af U=>.inr U
   have alT:I hG bk (fun q=>q=ew):=bY
   obtain ⟨gy,fx⟩:∃ y,y=bk.set fC (.cells [V.int .i64 (k:Int),V.int .i64 (eV (dec hB 0 0).1),V.ah] 27 none):=⟨_,rfl⟩
   have cG:I bk gy (fun q=>q=fC):=by rw [fx];exact I.set _ _ _
   have Ag:gy.n=bk.n:=by rw [fx];rfl
   have BO:gy.get fC=.cells [V.int .i64 (k:Int),V.int .i64 (eV (dec hB 0 0).1),V.ah] 27 none:=by rw [fx];exact aL
   have BP:=(cG.get h.n (by omega) (by omega)).trans Fa
   have Uf:=(cG.get eN (by omega) (by omega)).trans Fb
   have CZ:cU gy (.ptr ew 0) ew _:=cU.aj Af cG (by omega)
   have l3:I h gy (lr eN ew):=oL.trans cG fun q af U=>by omega
   simp only [aa,fg,Nat.reduceEqDiff,Nat.reduceAdd,Nat.reduceLeDiff,CQ,pA,yG]
   rw [←fx]
   clear fx
   by_cases mL:(dec hB 0 0).2.2=0
   rotate_left
   ·have lq:((((dec hB 0 0).2.2:Nat):Int) !=0)=true:=by simp;omega
    have bj:c0 (d+1) left an=.error (dec hB 0 0).2.2:=by rw [qt,if_pos vv,if_pos mL]
    simp only [aa,Nat.reduceEqDiff,Nat.reduceAdd,eG,tB,my,lp,lq,BP,aI,Tryz.results110,fW,fJ,eI,fV]
    exact au ⟨_,_,nd _ _,by rw [bj];rfl,l3.trans (I.set _ h.n _) fun q af U=>by omega,fun e fO ck U=>by rw [bj] at U;cases U⟩
   have lq:((((dec hB 0 0).2.2:Nat):Int) !=0)=false:=by simp;omega
   have p3:=(uM hs mL).2
   have kU:∀ y ∈ hB.drop (dec hB 0 0).2.1,y<256:=fun y bs=>hs y (List.mem_of_mem_drop bs)
   have jr:(hB.drop (dec hB 0 0).2.1).length≤2 ^ 47:=by rw [List.length_drop];omega
   rw [if_pos vv,if_neg (by simpa using mL)] at qt
   generalize hB.drop (dec hB 0 0).2.1=rF at *
   generalize eV (dec hB 0 0).1=n at *
   have KI:uG (k:Int)=0:=by rw [vv];decide
   obtain ⟨m,hm⟩:∃ m:Nat,m=(uG (k:Int)).toNat:=⟨_,rfl⟩
   have Fc:m=0:=by rw [hm,KI];rfl
   have bj:c0 (d+1) left an=(match kY (c0 d) m (left - 1) rF with | .error e=>.error e | .ok (ax,r)=>.ok (.mk (k:Int) n ax,r)):=by rw [qt,Fc,vv,kY];rfl
   have Fe:cJ.getD k 0=((m:Nat):Int):=by rw [jl,KI,Fc];rfl
   have Ff:ez gy eN ew rF (64 - (left - 1)):=⟨by omega,Uf,CZ,bZ⟩
   have Ah:∀ (f:aE),aE.eval f gy (.global 1)=.at eM:=fun f=>JN (aB.aj l3)
   have KJ:=BO
   have Ai:fC<gy.n:=by omega
   simp only [aa,Nat.reduceEqDiff,lT,a7,lq]
   have sW:=Ix (k:Int)
   simp only [aa,Nat.reduceEqDiff,Nat.reduceAdd,EJ,a7,EU,KJ,Ah,fR,Fe]
   refine aP.bG (α:=Nat×V×List bF×List Nat×Nat) (fun x f h'=>f 0=.ptr eN 0∧f 1=.int .i64 ((17 - (d+1):Nat):Int)∧f 4=.ptr h.n 0∧f 8=.ptr fC 0∧f 69=.int .i64 (m:Nat)∧f 70=.int .i64 (x.1:Nat)∧x.1≤m∧h'.get h.n=.cells [.int .i64 0,.int .i64 0,.ah] 27 none∧h'.get fC=.cells [.int .i64 (k:Int),.int .i64 n,x.2.1] 27 none ∧
     Own h' 27 3 x.2.1 (x.2.2.1.flatMap aq)∧(∀ j,aR x.2.1=some j→h.n≤j∧j≠h.n∧j≠fC)∧x.2.2.1.length=x.1∧ez h' eN ew x.2.2.2.1 (64 - x.2.2.2.2)∧x.2.2.2.2≤64∧(∀ y ∈ x.2.2.2.1,y<256)∧x.2.2.2.1.length≤2 ^ 47∧I h h' (lr eN ew)∧fC<h'.n ∧
     kY (c0 d) m (left - 1) rF=(match kY (c0 d) (m - x.1) x.2.2.2.2 x.2.2.2.1 with | .error e=>.error e | .ok (ax,r)=>.ok (x.2.2.1++ax,r))) (fun x=>m - x.1) (0,.ah,[],rF,left - 1)
    ⟨rfl,rfl,rfl,rfl,rfl,rfl,Nat.zero_le _,BP,BO,Own.ah _ _ _,by simp [aR],rfl,Ff,by simp only;omega,kU,jr,l3,Ai,by simp only [Nat.sub_zero];cases kY (c0 d) m (left - 1) rF<;>rfl⟩ ?_
   rintro ⟨i,s,acc,b,l⟩ f dd ⟨f0,f1,f4,f8,f69,f70,hi,g4,g8,os,ids,jt,dc,uN,rG,qs,kk,Fg,h2⟩
   simp only at f70 hi g8 os ids jt dc uN rG qs h2
   refine dw (by kernel_rfl) ?_
   by_cases Fh:i<m
   ·have ar:decide ((i:Int)<((m:Nat):Int))=true:=decide_eq_true (by omega)
    have Fi:IntKind.i64.wrap ((i:Int)+1)=((i+1:Nat):Int):=by rw [Go.IntWalk.i64_in _ (by omega)];omega
    have zx:IntKind.i64.wrap (((17 - (d+1):Nat):Int)+1)=((17 - d:Nat):Int):=by rw [Go.IntWalk.i64_in _ (by omega)];omega
    obtain ⟨gq,yH⟩:∃ gq,m - i=gq+1:=⟨m - i - 1,by omega⟩
    rw [yH,kY] at h2
    simp only [aa,Nat.reduceEqDiff,reduceCtorEq,f0,f1,f69,f70,ar,zx]
    refine bU v6 (Ng d l b dd eN ew (by omega) uN (aB.aj kk) dc rG qs) fun r jG ⟨su,lQ,d7⟩=>?_
    subst su
    have KF:=dc.1
    have jJ:=dc.2.2.1.2.1
    have Aj:eN<h.n:=bb.1
    have Ak:ew<h.n:=bb.2.2.1.2.1
    have Nh:h.n<fC:=E8
    have yI:=(lQ.get h.n (by omega) (by rintro (U | U)<;>omega)).trans g4
    have Fj:=(lQ.get fC Fg (by rintro (U | U)<;>omega)).trans g8
    have Fk:=os.aj lQ fun j aX U=>by
     have:=(ids j aX).1
     rcases U with U | U<;>omega
    have oM:I h jG (lr eN ew):=kk.trans' lQ
    have n7:=lQ.n
    cases lG:c0 d l b with
    | error c=>
     rw [lG] at h2
     have sd:=E5 d l b c lG
     have bd:(((c:Nat):Int) !=0)=true:=by simp;omega
     rw [lG] at d7
     simp only at h2
     have nK:c0 (d+1) left an=.error c:=by rw [bj,h2]
     simp only [qV]
     have oY:=uK (.mk 0 0 [])
     have oN:=yE (.mk 0 0 [])
     have rH:I jG (jG.push (.cells (aq (.mk 0 0 [])) 27 none)) none_:=I.push _ _ _
     have Fl:=(rH.get h.n (by omega) (by simp [none_])).trans yI
     simp only [aa,Nat.reduceEqDiff,Nat.reduceAdd,eG,tB,my,lp,f4,oY,oN,bd,Fl,aI,Tryz.results110,fW,fJ,eI,fV]
     refine au ⟨_,_,nd _ c,by rw [nK];rfl,?_,fun e fO ck U=>by rw [nK] at U;cases U⟩
     exact ((oM.trans' rH.up).trans (I.set _ h.n _) fun q af U=>by omega)
    | ok r=>
     obtain ⟨A,c2,ck⟩:=r
     rw [lG] at h2
     simp only at h2
     have gt:=i7 d l b rG A c2 ck lG
     have Fm:=d7 A c2 ck lG
     have Al:∀ y ∈ c2,y<256:=fun y bs=>rG y (by rw [gt.rE];simp [bs])
     have Ni:c2.length≤b.length:=by rw [gt.rE];simp
     have bz:=gt.sz
     simp only [qV]
     have oY:=uK A
     have oN:=yE A
     have Ug:=CX A
     obtain ⟨r8,pF⟩:∃ y,y=jG.push (.cells (aq A) 27 none):=⟨_,rfl⟩
     have gx:I jG r8 none_:=by rw [pF];exact I.push _ _ _
     have n8:r8.n=jG.n+1:=by rw [pF];rfl
     have g9:r8.get jG.n=.cells (aq A) 27 none:=by rw [pF];exact b6
     have yJ:=(gx.get fC (by omega) (by simp [none_])).trans Fj
     have yG:=(gx.get h.n (by omega) (by simp [none_])).trans yI
     have Fo:da (aV.cells (aq A) 27 none) 0=some (aq A):=by cases A;rfl
     have Am:cX (some (some 3)) (some (aq A))=some (.agg (aq A)):=by cases A;rfl
     obtain ⟨b7,e2,ei,An,nL,uO⟩:=Uc (Fk.aQ gx) (by omega) A
     have dR:=Ub r8 A
     have Uh:∀ j,aR s=some j→j<dd.n:=fun j aX=>os.lt j aX
     have Fp:=(nL.get fC (by omega) (fun U=>(ids fC U).2.2 rfl)).trans yJ
     have Fq:=(nL.get h.n (by omega) (fun U=>(ids h.n U).2.1 rfl)).trans yG
     have j1:b7.one=true:=by
      rcases An with ⟨rfl | rfl,_⟩ | ⟨_,_,_,_,_,rfl,_⟩<;>rfl
     have pG:b7.cells=some [b7]:=by
      rcases An with ⟨rfl | rfl,_⟩ | ⟨_,_,_,_,_,rfl,_⟩<;>rfl
     have cK:bM (some 1) (aV.cells [V.int .i64 (k:Int),V.int .i64 n,s] 27 none) 2 [b7]=some (.cells [.int .i64 (k:Int),.int .i64 n,b7] 27 none):=by rw [sZ j1];rfl
     have z0:((0:Int) !=0)=false:=rfl
     simp only [aa,Nat.reduceEqDiff,nE,oV,my,lp,f8,oY,oN]
     rw [←pF]
     clear pF
     simp only [aa,Nat.reduceEqDiff,Nat.reduceAdd,Nat.reduceLeDiff,nE,eG,Tp,f8,f70,yJ,g9,Fo,Am,dR,ei,Fp,pG,cK,Fi]
     have dV:I e2 (e2.set fC (.cells [V.int .i64 (k:Int),V.int .i64 n,b7] 27 none)) (fun q=>q=fC):=I.set _ _ _
     have pH:∀ j,aR b7=some j→h.n≤j∧j≠h.n∧j≠fC:=fun j aX=>by
      rcases uO with uO | uO
      ·exact ids j (by rw [←uO];exact aX)
      ·have:=uO j aX;omega
     have Fs:I h e2 (lr eN ew):=(oM.trans' gx.up).trans nL fun q af U=>by have:=(ids q U).1;omega
     have Ft:ez e2 eN ew c2 (64 - ck):=ez.aj Fm (gx.up.trans' nL) (fun U=>by have:=(ids eN U).1;omega) (fun U=>by have:=(ids ew U).1;omega)
     have Ui:=nL.n
     refine au ⟨(i+1,b7,acc++[A],c2,ck),⟨f0,f1,f4,f8,f69,rfl,Fh,(jF (by omega)).trans Fq,aL,An.aj dV (fun j aX U=>(pH j aX).2.2 U),pH,by simp [jt],ez.aj Ft dV (by omega) (by omega),by simp only;omega,Al,by simp only;omega,Fs.trans dV fun q af U=>by omega,by rw [iw];omega,?_⟩,by simp only;omega⟩
     rw [h2,show m - (i+1)=gq by omega]
     cases kY (c0 d) gq ck c2 with
     | error e=>rfl
     | ok r=>obtain ⟨ax,r⟩:=r;simp
   ·have ar:decide ((i:Int)<((m:Nat):Int))=false:=decide_eq_false (by omega)
    rw [show m - i=0 by omega,kY] at h2
    simp only [List.append_nil] at h2
    have nK:c0 (d+1) left an=.ok (.mk k n acc,b,l):=by rw [bj,h2]
    have j1:s.one=true:=by
     rcases os with ⟨rfl | rfl,_⟩ | ⟨_,_,_,_,_,rfl,_⟩<;>rfl
    have yK:bM (some 3) (aV.cells [V.int .i64 0,V.int .i64 0,V.ah] 27 none) 0 [.int .i64 (k:Int),.int .i64 n,s]=some (.cells [.int .i64 (k:Int),.int .i64 n,s] 27 none):=by
     exact (rl (n:=3) (vs:=[V.int .i64 (k:Int),V.int .i64 n,s]) rfl (by simp only [all_cons,all_nil,L9,j1,Bool.and_self])).trans rfl
    have dV:I dd (dd.set h.n (.cells [V.int .i64 (k:Int),V.int .i64 n,s] 27 none)) (fun q=>q=h.n):=I.set _ _ _
    have yL:=os.aj dV fun j aX U=>(ids j aX).2.1 U
    obtain ⟨e2,gn,nL⟩:=TF (k:Int) n yL
    simp only [aa,Nat.reduceEqDiff,Nat.reduceAdd,eG,lp,f4,f8,f69,f70,ar,g8,g4,yK,aI,Tryz.results110,fW,fJ,eI,fV]
    have Aj:eN<h.n:=bb.1
    have Ak:ew<h.n:=bb.2.2.1.2.1
    refine au ⟨_,e2,aK.tuple (az.cons gn (az.refl _ _)),by rw [nK];rfl,(kk.trans dV fun q af U=>by omega).trans nL fun q af U=>by have:=(ids q U).1;omega,fun e fO ck U=>?_⟩
    rw [nK] at U
    cases U
    exact ez.aj (ez.aj dc dV (by omega) (by omega)) nL (fun U=>by have:=(ids eN U).1;omega) (fun U=>by have:=(ids ew U).1;omega)
  ·have hM:((k:Int)==1)=false:=by simp;omega
   rw [if_neg vv] at qt
   obtain ⟨m,hm⟩:∃ m:Nat,m=(uG (k:Int)).toNat:=⟨_,rfl⟩
   rw [←hm] at qt
   have p3:=Ix (k:Int)
   obtain ⟨n,aG⟩:∃ n:Int,n=0:=⟨0,rfl⟩
   rw [←aG] at qt yF
   have bj:=qt
   have Fe:cJ.getD k 0=((m:Nat):Int):=by rw [jl,hm];omega
   have Ff:ez hG eN ew hB (64 - (left - 1)):=⟨by omega,E9,jk,bZ⟩
   have Ah:∀ (f:aE),aE.eval f hG (.global 1)=.at eM:=fun f=>JN (aB.aj dL)
   have KJ:=yF
   have BP:=KH
   have BO:=yF
   have l3:=dL
   have Ai:fC<hG.n:=by omega
   have kU:=hs
   have jr:=lf
   simp only [aa,Nat.reduceEqDiff,Nat.reduceAdd,EJ,lT,a7,EU,yF,hM]
   have sW:=Ix (k:Int)
   simp only [aa,Nat.reduceEqDiff,a7,Ah,fR,Fe]
   refine aP.bG (α:=Nat×V×List bF×List Nat×Nat) (fun x f h'=>f 0=.ptr eN 0∧f 1=.int .i64 ((17 - (d+1):Nat):Int)∧f 4=.ptr h.n 0∧f 8=.ptr fC 0∧f 69=.int .i64 (m:Nat)∧f 70=.int .i64 (x.1:Nat)∧x.1≤m∧h'.get h.n=.cells [.int .i64 0,.int .i64 0,.ah] 27 none∧h'.get fC=.cells [.int .i64 (k:Int),.int .i64 n,x.2.1] 27 none ∧
     Own h' 27 3 x.2.1 (x.2.2.1.flatMap aq)∧(∀ j,aR x.2.1=some j→h.n≤j∧j≠h.n∧j≠fC)∧x.2.2.1.length=x.1∧ez h' eN ew x.2.2.2.1 (64 - x.2.2.2.2)∧x.2.2.2.2≤64∧(∀ y ∈ x.2.2.2.1,y<256)∧x.2.2.2.1.length≤2 ^ 47∧I h h' (lr eN ew)∧fC<h'.n ∧
     kY (c0 d) m (left - 1) hB=(match kY (c0 d) (m - x.1) x.2.2.2.2 x.2.2.2.1 with | .error e=>.error e | .ok (ax,r)=>.ok (x.2.2.1++ax,r))) (fun x=>m - x.1) (0,.ah,[],hB,left - 1)
    ⟨rfl,rfl,rfl,rfl,rfl,rfl,Nat.zero_le _,BP,BO,Own.ah _ _ _,by simp [aR],rfl,Ff,by simp only;omega,kU,jr,l3,Ai,by simp only [Nat.sub_zero];cases kY (c0 d) m (left - 1) hB<;>rfl⟩ ?_
   rintro ⟨i,s,acc,b,l⟩ f dd ⟨f0,f1,f4,f8,f69,f70,hi,g4,g8,os,ids,jt,dc,uN,rG,qs,kk,Fg,h2⟩
   simp only at f70 hi g8 os ids jt dc uN rG qs h2
   refine dw (by kernel_rfl) ?_
   by_cases Fh:i<m
   ·have ar:decide ((i:Int)<((m:Nat):Int))=true:=decide_eq_true (by omega)
    have Fi:IntKind.i64.wrap ((i:Int)+1)=((i+1:Nat):Int):=by rw [Go.IntWalk.i64_in _ (by omega)];omega
    have zx:IntKind.i64.wrap (((17 - (d+1):Nat):Int)+1)=((17 - d:Nat):Int):=by rw [Go.IntWalk.i64_in _ (by omega)];omega
    obtain ⟨gq,yH⟩:∃ gq,m - i=gq+1:=⟨m - i - 1,by omega⟩
    rw [yH,kY] at h2
    simp only [aa,Nat.reduceEqDiff,reduceCtorEq,f0,f1,f69,f70,ar,zx]
    refine bU v6 (Ng d l b dd eN ew (by omega) uN (aB.aj kk) dc rG qs) fun r jG ⟨su,lQ,d7⟩=>?_
    subst su
    have KF:=dc.1
    have jJ:=dc.2.2.1.2.1
    have Aj:eN<h.n:=bb.1
    have Ak:ew<h.n:=bb.2.2.1.2.1
    have Nh:h.n<fC:=E8
    have yI:=(lQ.get h.n (by omega) (by rintro (U | U)<;>omega)).trans g4
    have Fj:=(lQ.get fC Fg (by rintro (U | U)<;>omega)).trans g8
    have Fk:=os.aj lQ fun j aX U=>by
     have:=(ids j aX).1
     rcases U with U | U<;>omega
    have oM:I h jG (lr eN ew):=kk.trans' lQ
    have n7:=lQ.n
    cases lG:c0 d l b with
    | error c=>
     rw [lG] at h2
     have sd:=E5 d l b c lG
     have bd:(((c:Nat):Int) !=0)=true:=by simp;omega
     rw [lG] at d7
     simp only at h2
     have nK:c0 (d+1) left an=.error c:=by rw [bj,h2]
     simp only [qV]
     have oY:=uK (.mk 0 0 [])
     have oN:=yE (.mk 0 0 [])
     have rH:I jG (jG.push (.cells (aq (.mk 0 0 [])) 27 none)) none_:=I.push _ _ _
     have Fl:=(rH.get h.n (by omega) (by simp [none_])).trans yI
     simp only [aa,Nat.reduceEqDiff,Nat.reduceAdd,eG,tB,my,lp,f4,oY,oN,bd,Fl,aI,Tryz.results110,fW,fJ,eI,fV]
     refine au ⟨_,_,nd _ c,by rw [nK];rfl,?_,fun e fO ck U=>by rw [nK] at U;cases U⟩
     exact ((oM.trans' rH.up).trans (I.set _ h.n _) fun q af U=>by omega)
    | ok r=>
     obtain ⟨A,c2,ck⟩:=r
     rw [lG] at h2
     simp only at h2
     have gt:=i7 d l b rG A c2 ck lG
     have Fm:=d7 A c2 ck lG
     have Al:∀ y ∈ c2,y<256:=fun y bs=>rG y (by rw [gt.rE];simp [bs])
     have Ni:c2.length≤b.length:=by rw [gt.rE];simp
     have bz:=gt.sz
     simp only [qV]
     have oY:=uK A
     have oN:=yE A
     have Ug:=CX A
     obtain ⟨r8,pF⟩:∃ y,y=jG.push (.cells (aq A) 27 none):=⟨_,rfl⟩
     have gx:I jG r8 none_:=by rw [pF];exact I.push _ _ _
     have n8:r8.n=jG.n+1:=by rw [pF];rfl
     have g9:r8.get jG.n=.cells (aq A) 27 none:=by rw [pF];exact b6
     have yJ:=(gx.get fC (by omega) (by simp [none_])).trans Fj
     have yG:=(gx.get h.n (by omega) (by simp [none_])).trans yI
     have Fo:da (aV.cells (aq A) 27 none) 0=some (aq A):=by cases A;rfl
     have Am:cX (some (some 3)) (some (aq A))=some (.agg (aq A)):=by cases A;rfl
     obtain ⟨b7,e2,ei,An,nL,uO⟩:=Uc (Fk.aQ gx) (by omega) A
     have dR:=Ub r8 A
     have Uh:∀ j,aR s=some j→j<dd.n:=fun j aX=>os.lt j aX
     have Fp:=(nL.get fC (by omega) (fun U=>(ids fC U).2.2 rfl)).trans yJ
     have Fq:=(nL.get h.n (by omega) (fun U=>(ids h.n U).2.1 rfl)).trans yG
     have j1:b7.one=true:=by
      rcases An with ⟨rfl | rfl,_⟩ | ⟨_,_,_,_,_,rfl,_⟩<;>rfl
     have pG:b7.cells=some [b7]:=by
      rcases An with ⟨rfl | rfl,_⟩ | ⟨_,_,_,_,_,rfl,_⟩<;>rfl
     have cK:bM (some 1) (aV.cells [V.int .i64 (k:Int),V.int .i64 n,s] 27 none) 2 [b7]=some (.cells [.int .i64 (k:Int),.int .i64 n,b7] 27 none):=by rw [sZ j1];rfl
     have z0:((0:Int) !=0)=false:=rfl
     simp only [aa,Nat.reduceEqDiff,nE,oV,my,lp,f8,oY,oN]
     rw [←pF]
     clear pF
     simp only [aa,Nat.reduceEqDiff,Nat.reduceAdd,Nat.reduceLeDiff,nE,eG,Tp,f8,f70,yJ,g9,Fo,Am,dR,ei,Fp,pG,cK,Fi]
     have dV:I e2 (e2.set fC (.cells [V.int .i64 (k:Int),V.int .i64 n,b7] 27 none)) (fun q=>q=fC):=I.set _ _ _
     have pH:∀ j,aR b7=some j→h.n≤j∧j≠h.n∧j≠fC:=fun j aX=>by
      rcases uO with uO | uO
      ·exact ids j (by rw [←uO];exact aX)
      ·have:=uO j aX;omega
     have Fs:I h e2 (lr eN ew):=(oM.trans' gx.up).trans nL fun q af U=>by have:=(ids q U).1;omega
     have Ft:ez e2 eN ew c2 (64 - ck):=ez.aj Fm (gx.up.trans' nL) (fun U=>by have:=(ids eN U).1;omega) (fun U=>by have:=(ids ew U).1;omega)
     have Ui:=nL.n
     refine au ⟨(i+1,b7,acc++[A],c2,ck),⟨f0,f1,f4,f8,f69,rfl,Fh,(jF (by omega)).trans Fq,aL,An.aj dV (fun j aX U=>(pH j aX).2.2 U),pH,by simp [jt],ez.aj Ft dV (by omega) (by omega),by simp only;omega,Al,by simp only;omega,Fs.trans dV fun q af U=>by omega,by rw [iw];omega,?_⟩,by simp only;omega⟩
     rw [h2,show m - (i+1)=gq by omega]
     cases kY (c0 d) gq ck c2 with
     | error e=>rfl
     | ok r=>obtain ⟨ax,r⟩:=r;simp
   ·have ar:decide ((i:Int)<((m:Nat):Int))=false:=decide_eq_false (by omega)
    rw [show m - i=0 by omega,kY] at h2
    simp only [List.append_nil] at h2
    have nK:c0 (d+1) left an=.ok (.mk k n acc,b,l):=by rw [bj,h2]
    have j1:s.one=true:=by
     rcases os with ⟨rfl | rfl,_⟩ | ⟨_,_,_,_,_,rfl,_⟩<;>rfl
    have yK:bM (some 3) (aV.cells [V.int .i64 0,V.int .i64 0,V.ah] 27 none) 0 [.int .i64 (k:Int),.int .i64 n,s]=some (.cells [.int .i64 (k:Int),.int .i64 n,s] 27 none):=by
     exact (rl (n:=3) (vs:=[V.int .i64 (k:Int),V.int .i64 n,s]) rfl (by simp only [all_cons,all_nil,L9,j1,Bool.and_self])).trans rfl
    have dV:I dd (dd.set h.n (.cells [V.int .i64 (k:Int),V.int .i64 n,s] 27 none)) (fun q=>q=h.n):=I.set _ _ _
    have yL:=os.aj dV fun j aX U=>(ids j aX).2.1 U
    obtain ⟨e2,gn,nL⟩:=TF (k:Int) n yL
    simp only [aa,Nat.reduceEqDiff,Nat.reduceAdd,eG,lp,f4,f8,f69,f70,ar,g8,g4,yK,aI,Tryz.results110,fW,fJ,eI,fV]
    have Aj:eN<h.n:=bb.1
    have Ak:ew<h.n:=bb.2.2.1.2.1
    refine au ⟨_,e2,aK.tuple (az.cons gn (az.refl _ _)),by rw [nK];rfl,(kk.trans dV fun q af U=>by omega).trans nL fun q af U=>by have:=(ids q U).1;omega,fun e fO ck U=>?_⟩
    rw [nK] at U
    cases U
    exact ez.aj (ez.aj dc dV (by omega) (by omega)) nL (fun U=>by have:=(ids eN U).1;omega) (fun U=>by have:=(ids ew U).1;omega)
def lH (an:List Nat):Except Nat bF:=match c0 16 64 an with
 | .error c=>.error c
 | .ok (e,r,_)=>if r.length=0 then .ok e else .error 5
def l4 (an:List Nat):bF:=match lH an with
 | .error _=>.mk 0 0 []
 | .ok e=>e
def lI (an:List Nat):Nat:=match lH an with
 | .error c=>c
 | .ok _=>0
def pI (an:List Nat):V:=.tuple [.agg (aq (l4 an)),.int .i64 (lI an:Nat)]
theorem aeE (an:List Nat):bh (pI an):=bh.tuple (bl.cons (bh.agg (MS _)) (bl.cons (bh.int _ _) bl.nil))
theorem aeF {an:List Nat} {c:Nat} (h:lH an=.error c):c≠0:=by
 unfold lH at h
 split at h
 ·rename_i e he
  cases h
  exact E5 _ _ _ _ he
 ·split at h
  ·cases h
  ·cases h;omega
theorem aeG {an:List Nat} (av:∀ b ∈ an,b<256) {e:bF} (h:lH an=.ok e):an=cj e∧cv e=true∧fa e:=by
 unfold lH at h
 split at h
 ·cases h
 ·rename_i fo r l aB
  split at h
  ·rename_i aU
   cases h
   have g:=i7 16 64 an av _ _ _ aB
   have ly:r=[]:=List.eq_nil_of_length_eq_zero aU
   refine ⟨by rw [g.rE,ly,List.append_nil],?_,g.ok⟩
   have ad:=g.sz
   unfold cv
   rw [It,if_pos ⟨g.deep,by omega⟩]
   rfl
  ·cases h
theorem Uj {e:bF} (hm:cv e=true) (ba:fa e):lH (cj e)=.ok e:=by
 have bb:oX 16 e=true∧dF e≤64:=by
  unfold cv at hm
  rw [It] at hm
  split at hm
  ·assumption
  ·cases hm
 have:=T9 16 64 e [] bb.1 ba bb.2
 rw [List.append_nil] at this
 unfold lH
 rw [this]
 rfl
theorem KK (x:V) (an:List Nat) (h:J) (aB:fc h) (rd:Rd h x an) (av:∀ b ∈ an,b<256) (aM:an.length≤2 ^ 47):Pure Tryz.prog 55 [x] h (pI an):=by
 refine Pure.of (aeE an) ?_
 refine ab.ao (c:=_) Tryz.func55 rfl (by kernel_rfl) (by simp) ?_
 obtain ⟨hl,fl⟩:∃ y,y=h.push (.cells [.int .i64 0,.int .i64 0,.ah] 27 none):=⟨_,rfl⟩
 have dC:I h hl none_:=by rw [fl];exact I.push _ _ _
 have g0:hl.get h.n=.cells [.int .i64 0,.int .i64 0,.ah] 27 none:=by rw [fl];exact b6
 have p2:hl.n=h.n+1:=by rw [fl];rfl
 simp only [aa,Nat.reduceEqDiff,reduceCtorEq,my]
 rw [←fl]
 clear fl
 refine bU SG (E0 x an hl (rd.aj dC) (by omega)) fun r H1 ⟨ar,cA,bo⟩=>?_
 subst ar
 have eL:hl.n+1≤H1.n:=cA.2.1
 have g1:=(bo.get h.n (by omega) (by simp [none_])).trans g0
 have Uk:bM (some 2) (aV.cells [V.cZ,V.int .i64 0] 206 none) 0 [V.ptr hl.n 0,V.int .i64 0]=some (.cells [V.ptr hl.n 0,V.int .i64 0] 206 none):=rfl
 obtain ⟨bI,bA⟩:∃ y,y=H1.push (.cells [V.ptr hl.n 0,V.int .i64 0] 206 none):=⟨_,rfl⟩
 have k2:I H1 bI none_:=by rw [bA];exact I.push _ _ _
 have ef:bI.n=H1.n+1:=by rw [bA];rfl
 have E6:bI.get H1.n=.cells [V.ptr hl.n 0,V.int .i64 0] 206 none:=by rw [bA];exact b6
 have g2:=(k2.get h.n (by omega) (by simp [none_])).trans g1
 have dc:ez bI H1.n hl.n an (64 - 64):=⟨by omega,E6,cU.aj cA k2 (by simp [none_]),by omega⟩
 have c6:I h bI none_:=(dC.trans' bo).trans' k2
 simp only [aa,Nat.reduceEqDiff,Nat.reduceAdd,Nat.reduceLeDiff,adG,adV,ad3,Uk]
 rw [←bA]
 clear bA
 refine bU v6 (Ng 16 64 an bI H1.n hl.n (by decide) (by decide) (aB.aj c6) dc av aM) fun r hG ⟨cg,k3,d3⟩=>?_
 subst cg
 have n3:=k3.n
 have g3:=(k3.get h.n (by omega) (by rintro (U | U)<;>omega)).trans g2
 have dL:I h hG none_:=c6.trans k3 fun q af U=>by rcases U with U | U<;>omega
 cases ak:c0 16 64 an with
 | error c=>
  have sd:=E5 _ _ _ _ ak
  have bd:(((c:Nat):Int) !=0)=true:=by simp;omega
  have bC:lH an=.error c:=by unfold lH;rw [ak]
  have hI:pI an=.tuple [.agg (aq (.mk 0 0 [])),.int .i64 (c:Nat)]:=by unfold pI l4 lI;rw [bC]
  rw [hI]
  have oY:=uK (.mk 0 0 [])
  have oN:=yE (.mk 0 0 [])
  have rH:I hG (hG.push (.cells (aq (.mk 0 0 [])) 27 none)) none_:=I.push _ _ _
  have g4:=(rH.get h.n (by omega) (by simp [none_])).trans g3
  simp only [qV]
  simp only [aa,Nat.reduceEqDiff,Nat.reduceAdd,eG,tB,my,lp,oY,oN,bd,g4,aI,Tryz.results55,fW,fJ,eI,fV]
  exact au ⟨_,nd _ c,(dL.trans' rH).trans (I.set _ h.n _) fun q af U=>by omega⟩
 | ok r=>
  obtain ⟨e,c2,ck⟩:=r
  have Ul:=d3 e c2 ck ak
  have z0:((0:Int) !=0)=false:=rfl
  have oY:=uK e
  have oN:=yE e
  obtain ⟨gC,iy⟩:∃ y,y=hG.push (.cells (aq e) 27 none):=⟨_,rfl⟩
  have bY:I hG gC none_:=by rw [iy];exact I.push _ _ _
  have Fa:gC.get hG.n=.cells (aq e) 27 none:=by rw [iy];exact b6
  have g4:=(bY.get h.n (by omega) (by simp [none_])).trans g3
  have KL:=ez.aj Ul bY (by simp [none_]) (by simp [none_])
  have Fb:=KL.2.1
  have oL:=dL.trans' bY
  simp only [qV]
  simp only [aa,Nat.reduceEqDiff,pp,MM,my,lp,oY,oN]
  rw [←iy]
  clear iy
  simp only [aa,Nat.reduceEqDiff,Nat.reduceAdd,Fb]
  refine bB SH (Left gC _ _ c2 KL.2.2.1) ?_
  by_cases KM:c2.length=0
  ·have bd:decide ((0:Int)<((c2.length:Nat):Int))=false:=decide_eq_false (by omega)
   have bC:lH an=.ok e:=by unfold lH;rw [ak];simp only;rw [if_pos KM]
   have hI:pI an=.tuple [.agg (aq e),.int .i64 0]:=by unfold pI l4 lI;rw [bC];rfl
   rw [hI]
   have Fo:da (aV.cells (aq e) 27 none) 0=some (aq e):=by cases e;rfl
   have Am:cX (some (some 3)) (some (aq e))=some (.agg (aq e)):=by cases e;rfl
   have gW:=CX e
   simp only [aa,Nat.reduceEqDiff,eG,lp,bd,Fa,g4,Fo,Am,oY,oN,aI,Tryz.results55,fW,fJ,eI,fV]
   exact au ⟨_,aK.refl _ _,oL.trans (I.set _ h.n _) fun q af U=>by omega⟩
  ·have bd:decide ((0:Int)<((c2.length:Nat):Int))=true:=decide_eq_true (by omega)
   have bC:lH an=.error 5:=by unfold lH;rw [ak];simp only;rw [if_neg KM]
   have hI:pI an=.tuple [.agg (aq (.mk 0 0 [])),.int .i64 (5:Nat)]:=by unfold pI l4 lI;rw [bC]
   rw [hI]
   simp only [aa,Nat.reduceEqDiff,Nat.reduceAdd,eG,tB,my,lp,bd,g4,aI,Tryz.results55,fW,fJ,eI,fV]
   exact au ⟨_,nd _ 5,oL.trans (I.set _ h.n _) fun q af U=>by omega⟩
def l5:Option Int→V
 | some n=>.tuple [.int .i64 n,.int .i64 0]
 | none=>.tuple [.int .i64 0,.int .i64 10]
theorem aeH (e:bF) (bJ b5 rt acc:Int) (o:Option Int) (hm:cv e=true) (aN:b8 bJ b5 rt acc 16 e=o) (h:J) (aB:fc h) :
  Pure Tryz.prog 59 [.agg (aq e),.agg [.int .i64 bJ,.int .i64 b5,.int .i64 rt],.int .i64 acc] h (l5 o):=by
 have:=TE e bJ b5 rt acc h aB
 rw [hm,aN] at this
 cases o<;>exact this
def po (v v2:V):Prop:=∀ ρ v',a1 ρ v v'→a1 ρ v2 v'
def pq (l eY:List V):Prop:=∀ ρ ck,bx ρ l ck→bx ρ eY ck
theorem po.refl (v:V):po v v:=fun _ _ h=>h
theorem pq.refl (l:List V):pq l l:=fun _ _ h=>h
theorem pq.cons {v v2:V} {l eY:List V} (a:po v v2) (b:pq l eY):pq (v::l) (v2::eY):=fun ρ ck h=>by
 obtain ⟨v',nV,rfl,h1,ae⟩:=h.fh
 exact bx.cons (a ρ v' h1) (b ρ nV ae)
theorem pq.append {a a2 b b1:List V} (a6:pq a a2) (aM:a.length=a2.length) (av:pq b b1):pq (a++b) (a2++b1):=fun ρ ck h=>by
 have h1:=h.take a.length
 have ae:=h.drop a.length
 rw [List.take_left] at h1
 rw [List.drop_left] at ae
 have:=(a6 ρ _ h1).append (av ρ _ ae)
 rwa [List.take_append_drop] at this
theorem po.ah:po .ah (.ag 0 []):=fun ρ v' h=>by cases h;exact .jE none 0 (by simp)
theorem po.ag {n:Nat} {cs Bp:List V} (h:pq cs Bp) (aM:cs.length=Bp.length):po (.ag n cs) (.ag n Bp):=fun ρ v' aN=>by
 cases aN with
 | ag o n cap av aG bc ak=>
  rename_i b arr
  have gw:bx ρ cs ((arr.toList.drop o).take cs.length):=by
   refine ⟨by simp;omega,fun k v v' h1 ae=>?_⟩
   rw [List.getElem?_take] at ae
   split at ae
   ·rw [List.getElem?_drop] at ae
    exact ak k v v' h1 (by simpa using ae)
   ·cases ae
  have ae:=h ρ _ gw
  refine .ag o n cap av aG (by omega) fun k v v' aA bk=>?_
  have hk:k<cs.length:=by rw [aM];exact (List.getElem?_eq_some_iff.1 aA).1
  refine ae.2 k v v' aA ?_
  rw [List.getElem?_take,if_pos hk,List.getElem?_drop]
  simpa using bk
 | jE a c a6=>
  have:Bp=[]:=List.eq_nil_of_length_eq_zero (by simpa using aM.symm)
  subst this
  exact .jE a c a6
theorem po.cast {v v2:V} (a:po v v2) (h:J):aK v h v2 h:=fun ρ B bg w dY hw aN=>⟨ρ,Ren.le.refl ρ,hw,a ρ dY aN⟩
theorem aeI (n:Nat) (g:FuncId) (cap:List V) (p:Nat→Bool) (h:J) (aG:n<2 ^ 61) (jh:bK Tryz.prog g=true) (aC:∀ i,i<n→Pure Tryz.prog g (.int .i64 (i:Nat)::cap) h (.bool (p i)))
  (r:Nat) (aU:r≤n) (h1:∀ t,t<r→p t=false) (ae:∀ t,r≤t→t<n→p t=true):Pure Tryz.prog 206 [.int .i64 (n:Nat),.func (.func g) [] cap] h (.int .i64 (r:Nat)):=by
 refine ab.ao (c:=_) Tryz.func206 rfl (by kernel_rfl) (by simp) ?_
 simp only [aa,Nat.reduceEqDiff,reduceCtorEq]
 refine aP.bG (α:=Nat×Nat) (fun x f h'=>h'=h∧f 1=.func (.func g) [] cap∧f 5=.int .i64 (x.1:Nat)∧f 6=.int .i64 (x.2:Nat)∧x.1≤r∧r≤x.2∧x.2≤n) (fun x=>x.2 - x.1) (0,n)
  ⟨rfl,rfl,rfl,rfl,Nat.zero_le _,aU,Nat.le_refl _⟩ ?_
 rintro ⟨lo,hi⟩ f h' ⟨rfl,f1,f5,f6,cw,a2,a3⟩
 simp only at f5 f6 cw a2 a3
 refine dw (by kernel_rfl) ?_
 by_cases aH:lo<hi
 ·have d1:decide ((lo:Int)<(hi:Int))=true:=decide_eq_true (by omega)
  have c9:IntKind.i64.wrap ((lo:Int)+(hi:Int))=((lo+hi:Nat):Int):=by rw [Go.IntWalk.i64_in _ (by omega)];omega
  have b0:=P7 (n:=lo+hi) (by omega)
  have la:(((lo+hi:Nat):Int)).fdiv (2 ^ (min (Int.toNat 1) IntKind.u64.bits))=(((lo+hi) / 2:Nat):Int):=by
   rw [show (2:Int) ^ (min (Int.toNat 1) IntKind.u64.bits)=2 from rfl,Int.fdiv_eq_ediv_of_nonneg _ (by omega)];omega
  have xN:=YH (n:=(lo+hi) / 2) (by omega)
  have Ex:=kf (i:=(lo+hi) / 2) (n:=n) (by omega) (by omega)
  simp only [aa,Nat.reduceEqDiff,f1,f5,f6,d1,c9,iZ fb EP,b0,G3 (show (0:Int)≤1 by decide),la,iZ EP fb,xN]
  refine bB jh (aC _ (by omega)) ?_
  cases aW:p ((lo+hi) / 2)
  ·have:¬r≤(lo+hi) / 2:=fun U=>by have:=ae _ U (by omega);rw [aW] at this;cases this
   simp only [aa,Nat.reduceEqDiff,Ex]
   exact au ⟨((lo+hi) / 2+1,hi),⟨rfl,f1,rfl,f6,by simp only;omega,a2,a3⟩,by simp only;omega⟩
  ·have:¬(lo+hi) / 2<r:=fun U=>by have:=h1 _ U;rw [aW] at this;cases this
   simp only [aa,Nat.reduceEqDiff]
   exact au ⟨(lo,(lo+hi) / 2),⟨rfl,f1,f5,rfl,cw,by simp only;omega,by simp only;omega⟩,by simp only;omega⟩
 ·have d1:decide ((lo:Int)<(hi:Int))=false:=decide_eq_false (by omega)
  obtain rfl:lo=r:=by omega
  simp only [aa,Nat.reduceEqDiff,f5,f6,d1,aI,Tryz.results206,ac]
  exact au ⟨rfl,rfl⟩
theorem Nj {α:Type} (A M X:List α) {a:Nat} (a6:A.length=a):lay (A++M) a X=A++X++M.drop X.length:=by
 unfold lay
 rw [←a6,List.take_left,show A.length+X.length=A.length+X.length from rfl,List.drop_append]
 simp
theorem aeJ {α:Type} (A M X B:List α) {a x b:Nat} (a6:A.length=a) (ak:X.length=x) (av:B.length=b) (hm:M.length=x+b):lay (lay (A++M) a X) (a+x) B=A++X++B:=by
 rw [Nj A M X a6,Nj (A++X) _ B (by simp [a6,ak])]
 rw [List.drop_of_length_le (l:=M.drop X.length) (by simp;omega)]
 simp
theorem aeK {α:Type} (c A B X:List α) {a x b:Nat} (bw:c.take (a+b)=A++B) (a6:A.length=a) (av:B.length=b) (ak:X.length=x) (aM:a+x+b≤c.length) :
  ∃ R,lay (lay c (a+x) B) a X=A++X++(B++R)∧(lay (lay c (a+x) B) a X).length=c.length:=by
 have h1:c.take a=A:=by
  have:=congrArg (List.take a) bw
  rw [List.take_take,Nat.min_eq_left (by omega),←a6,List.take_left] at this
  rw [←a6];exact this
 have ff:(lay c (a+x) B).length=c.length:=qc _ _ _ (by omega)
 refine ⟨c.drop (a+x+b),?_,by rw [qc _ _ _ (by omega),ff]⟩
 have ar:(lay c (a+x) B).take a=A:=by
  unfold lay
  rw [List.append_assoc,List.take_append_of_le_length (by rw [List.length_take];omega),List.take_take,Nat.min_eq_left (by omega),h1]
 have aT:(lay c (a+x) B).drop (a+x)=B++c.drop (a+x+b):=by
  unfold lay
  rw [List.append_assoc,List.drop_append_of_le_length (by rw [List.length_take];omega),List.drop_of_length_le (by rw [List.length_take];omega),av]
  simp
 generalize lay c (a+x) B=d at ar aT ff
 unfold lay
 rw [ar,ak,aT]
theorem Um:x1 Tryz.prog 208:=⟨_,Tryz.func208,by kernel_rfl,by kernel_rfl,by kernel_rfl,by kernel_rfl,267,297,2,4,by kernel_rfl,by kernel_rfl,Tryz.underlying267,by kernel_rfl⟩
theorem aeL (i len cap k j:Nat) (c cs xs:List V) (ex:Option Nat) (h:J) (o:qN h 297 2 i len cap c ex cs) (aM:len<2 ^ 40) (hk:k≤len) (aX:h.get j=.cells xs 297 none) (jS:j<h.n) (gP:j≠i)
  (ak:xs.length=2) (b3:xs.all (·.one)=true) (gK:cs.all (·.one)=true):ab Tryz.prog 172 [.bp i 0 len cap,.int .i64 (k:Nat),.bp j 0 1 1] h
   (fun r h'=>Own h' 297 2 r (cs.take (k * 2)++xs++cs.drop (k * 2))∧I h h' (fun q=>q=i)∧bQ h (.bp i 0 len cap) r):=by
 refine ab.ao (c:=_) Tryz.func172 rfl (by kernel_rfl) (by simp) ?_
 have jI:=o
 obtain ⟨hi,aB,hlen,cu,hu,fj,jT⟩:=jI
 have bd:((1:Nat):Int)=1:=rfl
 have s1:=wz (P:=Tryz.prog) (t:=267) (i:=i) (o:=0) (len:=len) (cap:=cap) (k:=.i64) d6 hu hk jT
 have nk:Own h 297 2 (.bp j 0 1 1) xs:=.inr ⟨j,1,1,xs,none,rfl,jS,aX,by rw [ak],by rw [List.take_of_length_le (by omega)],.inl ⟨by unfold cN;omega,by omega,Nat.le_refl _⟩⟩
 have eh:=w1 (P:=Tryz.prog) (t:=267) d8 nk (n:=1) (by rw [ak]) (by decide) b3
 by_cases p3:k=len
 ·subst p3
  have d1:((k:Int)==(k:Int))=true:=by simp
  obtain ⟨v',h',ei,k8,gk,gB⟩:=wv (P:=Tryz.prog) (t:=267) (tx:=267) uF (by decide) o.own eh (by rw [ak];rfl) (fun m hm=>by
   change m * 2=_ at hm
   rw [hlen,ak] at hm
   exact ⟨by simp only [lim];omega,by simp only [lim];omega⟩)
  simp only [aa,Int.reduceBEq,Nat.reduceEqDiff,reduceCtorEq,d8,s1,bd,ei,aI,Tryz.results172,ac]
  refine au ⟨?_,gk.mono fun q af=>(Option.some.inj af).symm,gB⟩
  rw [List.take_of_length_le (by omega),List.drop_of_length_le (by omega),List.append_nil]
  exact k8
 have p3:k<len:=by omega
 have d1:((k:Int)==(len:Int))=false:=by simp;omega
 have c9:=kf (i:=len) (n:=len+1) (by omega) (by omega)
 have sD:=kf (i:=k) (n:=len) (by omega) (by omega)
 have aF:=YP (P:=Tryz.prog) (t:=267) (i:=i) (o:=0) (len:=len) uF hu
 have fN:(cs.take (k * 2)).length=k * 2:=by rw [List.length_take];omega
 have h3:(cs.drop (k * 2)).length=(len - k) * 2:=by rw [List.length_drop];omega
 have cp:(c.drop (k * 2)).take ((len - k) * 2)=cs.drop (k * 2):=by rw [←cu,List.drop_take];congr 1;omega
 have rI:((c.drop (k * 2)).take ((len - k) * 2)).all (·.one)=true:=by
  rw [cp,List.all_eq_true]
  exact fun v aN=>List.all_eq_true.1 gK v (List.mem_of_mem_drop aN)
 have nm:(xs.drop 0).take (1 * 2)=xs:=by rw [List.drop_zero,List.take_of_length_le (by omega)]
 by_cases gI:cap<len+1
 ·have d2:decide ((cap:Int)<((len+1:Nat):Int))=true:=decide_eq_true (by omega)
  have s2:=DG (P:=Tryz.prog) (t:=267) (i:=i) (o:=0) (len:=len) (cap:=cap) (k:=.i64) (m:=k) d6 hu (by omega)
  have b0:IntKind.i64.wrap (((len+1:Nat):Int) - (k:Int))=((len+1 - k:Nat):Int):=by rw [Go.IntWalk.i64_in _ (by omega)];omega
  have ar:=YQ (P:=Tryz.prog) (t:=267) (kq:=.i64) (o:=0) (len:=k) (cap:=cap) (n:=len+1 - k) (kn:=.i64) (tn:=3) uF (by kernel_rfl) (by decide) aB (by omega) hu (by omega) (by simp only [lim];omega) (by simp only [lim];omega) (by simp only [];omega)
  simp only [List.drop_zero] at ar
  have kl:k+(len+1 - k)=len+1:=by omega
  rw [kl] at ar
  obtain ⟨H1,du⟩:∃ y,y=h.push (.cells (c.take (k * 2)++made [V.int .i64 0,V.int .i64 0] (len+1 - k)) 297 (some 2)):=⟨_,rfl⟩
  rw [←du] at ar
  have g1:H1.get h.n=.cells (c.take (k * 2)++made [V.int .i64 0,V.int .i64 0] (len+1 - k)) 297 (some 2):=by rw [du];exact b6
  have vR:H1.get j=.cells xs 297 none:=by rw [du,kM jS];exact aX
  have lu:H1.get i=.cells c 297 ex:=by rw [du,kM hi];exact aB
  have eL:H1.n=h.n+1:=by rw [du];rfl
  have bo:I h H1 none_:=by rw [du];exact I.push _ _ _
  have im:kz Tryz.prog 267 (.bp h.n 0 (len+1) cN) (some (.int .i64 (k:Int))) none none=some (.bp h.n (0+k * 2) (len+1 - k) (cN+0+k)):=m4 (a:=0) d6 (by omega)
  have oe:kz Tryz.prog 267 (.bp h.n 0 (len+1) cN) (some (.int .i64 ((k+1:Nat):Int))) none none=some (.bp h.n (0+(k+1) * 2) (len+1 - (k+1)) (cN+0+(k+1))):=m4 (a:=0) d6 (by omega)
  rw [Nat.zero_add,Nat.add_zero] at im oe
  have rJ:c.take (k * 2)=cs.take (k * 2):=by rw [←cu,List.take_take,Nat.min_eq_left (by omega)]
  have hJ:(made [V.int .i64 0,V.int .i64 0] (len+1 - k)).length=(len+1 - k) * 2:=A5 _ _
  have aT:=zi (P:=Tryz.prog) (t:=267) (tx:=267) (o:=k * 2) (dl:=len+1 - k) (dc:=cN+k) (p:=0) (n:=1) (d:=1) (m:=1) uF g1 vR (by show min 1 (len+1 - k)=1;omega) (by decide) (by simp only [];omega) (by rw [List.length_append,hJ,rJ,fN];simp only [];omega) (by rw [nm];exact b3)
  rw [nm] at aT
  obtain ⟨bI,bA⟩:∃ y,y=H1.set h.n (.cells (lay (c.take (k * 2)++made [V.int .i64 0,V.int .i64 0] (len+1 - k)) (k * 2) xs) 297 (some 2)):=⟨_,rfl⟩
  rw [←bA] at aT
  have g2:bI.get h.n=.cells (lay (c.take (k * 2)++made [V.int .i64 0,V.int .i64 0] (len+1 - k)) (k * 2) xs) 297 (some 2):=by rw [bA];exact aL
  have tk:bI.get i=.cells c 297 ex:=by rw [bA,jF (by omega)];exact lu
  have eY:(lay (c.take (k * 2)++made [V.int .i64 0,V.int .i64 0] (len+1 - k)) (k * 2) xs).length=(len+1) * 2:=by rw [qc _ _ _ (by rw [List.length_append,hJ,rJ,fN,ak];omega),List.length_append,hJ,rJ,fN];omega
  have k2:I h bI none_:=by rw [bA];exact bo.trans (I.set _ _ _) fun q af U=>by omega
  have Ao:=wz (P:=Tryz.prog) (t:=267) (i:=i) (o:=0) (len:=len) (cap:=cap) (k:=.i64) (l:=k) d6 hu hk jT
  rw [if_neg (by omega),Nat.zero_add] at Ao
  have cg:=zi (P:=Tryz.prog) (t:=267) (tx:=267) (o:=(k+1) * 2) (dl:=len+1 - (k+1)) (dc:=cN+(k+1)) (p:=k * 2) (n:=len - k) (d:=cap - k) (m:=len - k) uF g2 tk (by show min (len - k) (len+1 - (k+1))=len - k;omega) (by omega) (by simp only [];omega) (by rw [eY];simp only [];omega) rI
  simp only at cg
  rw [cp] at cg
  rw [show (k+1) * 2=k * 2+2 by omega] at oe cg
  rw [rJ,aeJ (cs.take (k * 2)) (made [V.int .i64 0,V.int .i64 0] (len+1 - k)) xs (cs.drop (k * 2)) fN ak h3 (by rw [hJ];omega)] at cg
  simp only [aa,Int.reduceBEq,Nat.reduceEqDiff,reduceCtorEq,d8,s1,bd,d1,c9,aF,d2,s2,b0,ar,im,aT]
  refine aP.aY none_ [8] (.q 0 (.q 1 (.q 2 (.q 3 (.q 4 (.q 5 (.q 6 (.q 7 (.a 8 .done))))))))) (by kernel_rfl) (by kernel_rfl) (by kernel_rfl) ?_
  simp only [aa,bD,Nat.reduceEqDiff,reduceCtorEq,sD,oe,Ao,cg,aI,Tryz.results172,ac]
  refine au ⟨?_,?_,.inr fun q af=>?_⟩
  ·refine Own.grown (by rw [iw,bA,iw,eL];omega) aL ?_
   simp only [List.length_append,fN,h3,ak];omega
  ·exact (k2.trans (I.set _ _ _) fun q af U=>by omega).up
  ·simp only [aR,Option.some.injEq] at af;omega
 ·have d2:decide ((cap:Int)<((len+1:Nat):Int))=false:=decide_eq_false (by omega)
  have j2:len+1≤cap:=by omega
  have s2:=DG (P:=Tryz.prog) (t:=267) (i:=i) (o:=0) (len:=len) (cap:=cap) (k:=.i64) (m:=len+1) d6 hu j2
  have im:=wz (P:=Tryz.prog) (t:=267) (i:=i) (o:=0) (len:=len+1) (cap:=cap) (k:=.i64) (l:=k+1) d6 hu (by omega) j2
  rw [if_neg (by omega),Nat.zero_add] at im
  have oe:=wz (P:=Tryz.prog) (t:=267) (i:=i) (o:=0) (len:=len+1) (cap:=cap) (k:=.i64) (l:=k) d6 hu (by omega) j2
  rw [if_neg (by omega),Nat.zero_add] at oe
  have uP:wc h [.bp j 0 1 1,.bp i ((k+1) * 2) (len+1 - (k+1)) (cap - (k+1))]=some (.bool false):=by
   cases c with
   | nil=>simp at fj;omega
   | cons mE Ap=>simp [wc,aX,aB,gP]
  have dk:len * 2+2≤c.length:=by omega
  have aT:=zi (P:=Tryz.prog) (t:=267) (tx:=267) (o:=(k+1) * 2) (dl:=len+1 - (k+1)) (dc:=cap - (k+1)) (p:=k * 2) (n:=len+1 - k) (d:=cap - k) (m:=len - k) uF aB aB (by show min (len+1 - k) (len+1 - (k+1))=len - k;omega) (by omega) (by simp only [];omega) (by simp only [];omega) rI
  simp only at aT
  rw [cp] at aT
  obtain ⟨R,e1,wH⟩:=aeK c (cs.take (k * 2)) (cs.drop (k * 2)) xs (a:=k * 2) (x:=2) (b:=(len - k) * 2) (by rw [List.take_append_drop,show k * 2+(len - k) * 2=len * 2 by omega];exact cu) fN h3 ak (by omega)
  rw [show (k+1) * 2=k * 2+2 by omega] at im uP aT
  obtain ⟨H1,du⟩:∃ y,y=h.set i (.cells (lay c (k * 2+2) (cs.drop (k * 2))) 297 ex):=⟨_,rfl⟩
  rw [←du] at aT
  have g1:H1.get i=.cells (lay c (k * 2+2) (cs.drop (k * 2))) 297 ex:=by rw [du];exact aL
  have vR:H1.get j=.cells xs 297 none:=by rw [du,jF gP];exact aX
  have bo:I h H1 (fun q=>q=i):=by rw [du];exact I.set _ _ _
  have eL:H1.n=h.n:=by rw [du];rfl
  have ff:(lay c (k * 2+2) (cs.drop (k * 2))).length=c.length:=qc _ _ _ (by rw [h3];omega)
  have cg:=zi (P:=Tryz.prog) (t:=267) (tx:=267) (o:=k * 2) (dl:=len+1 - k) (dc:=cap - k) (p:=0) (n:=1) (d:=1) (m:=1) uF g1 vR (by show min 1 (len+1 - k)=1;omega) (by decide) (by simp only [];omega) (by rw [ff];simp only [];omega) (by rw [nm];exact b3)
  simp only at cg
  rw [nm] at cg
  simp only [aa,Int.reduceBEq,Nat.reduceEqDiff,reduceCtorEq,d8,s1,bd,d1,c9,aF,d2,s2,sD,im]
  refine Yp adB Um uP ?_
  simp only [aa,Nat.reduceEqDiff,reduceCtorEq]
  refine aP.aY none_ [8] (.q 0 (.q 1 (.q 2 (.q 3 (.q 4 (.q 5 (.q 6 (.q 7 (.a 8 .done))))))))) (by kernel_rfl) (by kernel_rfl) (by kernel_rfl) ?_
  simp only [aa,bD,Nat.reduceEqDiff,reduceCtorEq,sD,im,oe,aT,cg,aI,Tryz.results172,ac]
  refine au ⟨.inr ⟨i,len+1,cap,_,ex,rfl,by rw [iw,eL];exact hi,aL,?_,?_,.inl ⟨hu,by rw [wH];exact fj,j2⟩⟩,bo.trans' (I.set _ _ _),.inl rfl⟩
  ·simp only [List.length_append,fN,h3,ak];omega
  ·rw [e1,←List.append_assoc]
   exact List.take_left' (by simp only [List.length_append,fN,h3,ak];omega)
theorem insertC (v:V) (k j:Nat) (cs xs:List V) (h:J) (o:Own h 297 2 v cs) (aM:cs.length<2 ^ 40) (hk:k * 2≤cs.length) (aX:h.get j=.cells xs 297 none) (jS:j<h.n) (gP:aR v≠some j)
  (ak:xs.length=2) (b3:xs.all (·.one)=true) (gK:cs.all (·.one)=true):ab Tryz.prog 172 [v,.int .i64 (k:Nat),.bp j 0 1 1] h
   (fun r h'=>Own h' 297 2 r (cs.take (k * 2)++xs++cs.drop (k * 2))∧I h h' (bn v)∧bQ h v r):=by
 refine ab.yh o (by decide) (fun aN aF=>?_) fun i len cap c ex ae aN ok fA kk aG=>?_
 ·subst aF
  obtain rfl:k=0:=by simp at hk;omega
  have nk:Own h 297 2 (.bp j 0 1 1) xs:=.inr ⟨j,1,1,xs,none,rfl,jS,aX,by rw [ak],by rw [List.take_of_length_le (by omega)],.inl ⟨by unfold cN;omega,by omega,Nat.le_refl _⟩⟩
  have eh:=w1 (P:=Tryz.prog) (t:=267) d8 nk (n:=1) (by rw [ak]) (by decide) b3
  obtain ⟨v',h',ei,k8,gk,gB⟩:=wv (P:=Tryz.prog) (t:=267) (tx:=267) uF (by decide) o eh (by rw [ak];rfl) (fun m hm=>by
   change m * 2=_ at hm
   rw [ak] at hm
   simp only [List.length_nil] at hm
   exact ⟨by simp only [lim];omega,by simp only [lim];omega⟩)
  obtain ⟨e,jU,b4⟩:=Bi (P:=Tryz.prog) d6
  have bd:((1:Nat):Int)=1:=rfl
  have mE:((0:Nat):Int)=0:=rfl
  have fin:Own h' 297 2 v' (([]:List V).take (0 * 2)++xs++([]:List V).drop (0 * 2))∧I h h' (bn v)∧bQ h v v':=⟨by simpa using k8,gk,gB⟩
  rcases aN with rfl | rfl
  ·have s1:kz Tryz.prog 267 .ah (some (.int .i64 0)) none none=some .ah:=by unfold kz;rw [jU];simp only [b4];rfl
   refine ab.ao (c:=_) Tryz.func172 rfl (by kernel_rfl) (by simp) ?_
   simp only [aa,Int.reduceBEq,Nat.reduceEqDiff,reduceCtorEq,d8,mE,s1,bd,ei,aI,Tryz.results172,ac]
   exact au fin
  ·have s1:kz Tryz.prog 267 .z0 (some (.int .i64 0)) none none=some .z0:=by unfold kz;rw [jU];simp only [b4];rfl
   refine ab.ao (c:=_) Tryz.func172 rfl (by kernel_rfl) (by simp) ?_
   simp only [aa,Int.reduceBEq,Nat.reduceEqDiff,reduceCtorEq,d8,mE,s1,bd,ei,aI,Tryz.results172,ac]
   exact au fin
 ·have nM:aR v=some i:=by rcases aN with rfl | rfl<;>rfl
  have dJ:j≠i:=fun U=>gP (by rw [nM,U])
  have hlen:=ok.2.2.1
  refine (aeL i len cap k j c cs xs ex ae ok (by omega) (by omega) ((kk.get j jS dJ).trans aX) (by omega) dJ ak b3 gK).mono fun r h' ⟨o',k',n'⟩=>⟨o',(kk.trans' k').mono fun q af=>by subst af;exact nM,?_⟩
  rcases n' with n' | n'
  ·exact .inl (by rw [n',nM];rfl)
  ·exact .inr fun q af=>by have:=n' q af;omega
theorem aeM (i len cap k:Nat) (c cs:List V) (ex:Option Nat) (h:J) (o:qN h 297 2 i len cap c ex cs) (aM:len<2 ^ 40) (hk:k<len) (gK:cs.all (·.one)=true) :
  ab Tryz.prog 299 [.bp i 0 len cap,.int .i64 (k:Nat),.int .i64 ((k+1:Nat):Int)] h
   (fun r h'=>Own h' 297 2 r (cs.take (k * 2)++cs.drop ((k+1) * 2))∧I h h' (fun q=>q=i)∧aR r=some i):=by
 refine ab.ao (c:=_) Tryz.func299 rfl (by kernel_rfl) (by simp) ?_
 have jI:=o
 obtain ⟨hi,aB,hlen,cu,hu,fj,jT⟩:=jI
 obtain ⟨fQ,qW⟩:=YS (P:=Tryz.prog) (t:=267) (i:=i) (o:=0) (len:=len) (cap:=cap) (k:=.i64) (k2:=.i64) (k3:=.i64) (l:=k) (m:=k+1) (n:=len) d6 hu (by omega) (by omega) jT
 have d1:((k:Int)==((k+1:Nat):Int))=false:=by simp;omega
 have s1:=DG (P:=Tryz.prog) (t:=267) (i:=i) (o:=0) (len:=len) (cap:=cap) (k:=.i64) (m:=k) d6 hu (by omega)
 have s2:=wz (P:=Tryz.prog) (t:=267) (i:=i) (o:=0) (len:=len) (cap:=cap) (k:=.i64) (l:=k+1) d6 hu (by omega) jT
 have fN:(cs.take (k * 2)).length=k * 2:=by rw [List.length_take];omega
 have h3:(cs.drop ((k+1) * 2)).length=(len - (k+1)) * 2:=by rw [List.length_drop];omega
 have cp:(c.drop ((k+1) * 2)).take ((len - (k+1)) * 2)=cs.drop ((k+1) * 2):=by rw [←cu,List.drop_take];congr 1;omega
 have dk:len * 2≤c.length:=by omega
 have xf:∃ b,kz Tryz.prog 267 (.bp i 0 len cap) (some (.int .i64 ((k+1:Nat):Int))) none none=some b∧iC Tryz.prog 2 267 b h=some (len - (k+1),cs.drop ((k+1) * 2)):=by
  refine ⟨_,s2,?_⟩
  obtain ⟨e,jU,b4⟩:=Bi (P:=Tryz.prog) d6
  have b3:(cs.drop ((k+1) * 2)).all (·.one)=true:=List.all_eq_true.2 fun v aN=>List.all_eq_true.1 gK v (List.mem_of_mem_drop aN)
  unfold iC
  simp only [jU]
  by_cases rn:cap=k+1
  ·rw [if_pos rn]
   have de:len - (k+1)=0:=by omega
   simp only [aB,de,Nat.zero_mul,List.take_zero]
   rw [if_pos ⟨by omega,rfl⟩,List.drop_of_length_le (by omega)]
  ·rw [if_neg rn,Nat.zero_add]
   simp only [aB]
   rw [cp,if_pos ⟨by omega,b3⟩]
 obtain ⟨b,av,eh⟩:=xf
 have hA:qN h 297 2 i k cap c ex (cs.take (k * 2)):=⟨hi,aB,fN,by rw [←cu,List.take_take,Nat.min_eq_left (by omega)],hu,fj,by omega⟩
 obtain ⟨lL,pJ,l6,x0⟩:∃ lL,n2 Tryz.prog 267 267 (.bp i 0 k cap) b h=some (.bp i 0 (len - 1) cap,h.set i (.cells lL 297 ex))∧lL.length=c.length∧lL.take ((len - 1) * 2)=cs.take (k * 2)++cs.drop ((k+1) * 2):=by
  obtain ⟨he,b4,bz,lz,iP,_⟩:=wm (P:=Tryz.prog) uF
  unfold n2
  simp only [he,b4,bz,lz,eh,List.length_cons,List.length_nil,if_true,Nat.zero_add,Nat.reduceAdd]
  by_cases de:len - (k+1)=0
  ·refine ⟨c,?_,rfl,?_⟩
   ·rw [if_pos de,show len - 1=k by omega,P3 aB]
   ·rw [show len - 1=k by omega,hA.2.2.2.1,List.drop_of_length_le (by omega),List.append_nil]
  ·refine ⟨lay c (k * 2) (cs.drop ((k+1) * 2)),?_,qc _ _ _ (by rw [h3];omega),?_⟩
   ·rw [if_neg de,if_pos ⟨by simp only [lim];omega,by simp only [lim];omega⟩]
    simp only [aB]
    rw [if_pos hu,if_pos (by omega),if_pos (by omega),show k+(len - (k+1))=len - 1 by omega]
   ·rw [PL _ _ _ _ (by rw [h3];omega) (by omega)]
    have:c.take ((len - 1) * 2)=cs.take (k * 2)++(c.drop (k * 2)).take ((len - 1 - k) * 2):=by
     rw [←hA.2.2.2.1,show (len - 1) * 2=k * 2+(len - 1 - k) * 2 by omega,List.take_add]
    rw [this,Nj _ _ _ fN,List.drop_of_length_le (l:=(c.drop (k * 2)).take ((len - 1 - k) * 2)) (by rw [List.length_take,List.length_drop,h3];omega),List.append_nil]
 obtain ⟨H1,du⟩:∃ y,y=h.set i (.cells lL 297 ex):=⟨_,rfl⟩
 rw [←du] at pJ
 have g1:H1.get i=.cells lL 297 ex:=by rw [du];exact aL
 have im:=YR (P:=Tryz.prog) (t:=267) (i:=i) (o:=0) (len:=len - 1) (cap:=cap) (k:=.i64) (k2:=.i64) (l:=len - 1) (m:=len) d6 hu (by omega) jT
 rw [if_neg (by omega),Nat.zero_add] at im
 have wC:Bb Tryz.prog 267 (.bp i ((len - 1) * 2) (len - (len - 1)) (cap - (len - 1))) H1=some (H1.set i (.cells (lay lL ((len - 1) * 2) (made [V.int .i64 0,V.int .i64 0] 1)) 297 ex)):=by
  obtain ⟨he,b4,bz,lz,iP,_⟩:=wm (P:=Tryz.prog) uF
  unfold Bb
  simp only [he,b4,g1]
  rw [show len - (len - 1)=1 by omega,if_neg (by decide),if_pos ⟨rfl,by rw [A5,l6];simp only [List.length_cons,List.length_nil];omega⟩]
 simp only [aa,Nat.reduceEqDiff,reduceCtorEq,d8,qW,d1]
 refine aP.aY none_ [6] (.q 0 (.q 1 (.q 2 (.q 3 (.q 4 (.q 5 (.a 6 (.q 7 .done)))))))) (by kernel_rfl) (by kernel_rfl) (by kernel_rfl) ?_
 simp only [aa,bD,Nat.reduceEqDiff,reduceCtorEq,d8,s1,av,pJ,im,wC,aI,Tryz.results299,ac]
 refine au ⟨.inr ⟨i,len - 1,cap,_,ex,rfl,by rw [iw,du,iw];exact hi,aL,?_,?_,.inl ⟨hu,?_,by omega⟩⟩,?_,rfl⟩
 ·rw [List.length_append,fN,h3];omega
 ·have hm:(made [V.int .i64 0,V.int .i64 0] 1).length=2:=rfl
  unfold lay
  rw [List.append_assoc,List.take_append_of_le_length (by rw [List.length_take];omega),List.take_take,Nat.min_self,x0]
 ·rw [qc _ _ _ (by rw [A5,l6];simp only [List.length_cons,List.length_nil];omega),l6];exact fj
 ·rw [du];exact (I.set _ _ _).trans' (I.set _ _ _)
theorem Fd (v:V) (k:Nat) (cs:List V) (h:J) (o:Own h 297 2 v cs) (aM:cs.length<2 ^ 40) (hk:(k+1) * 2≤cs.length) (gK:cs.all (·.one)=true) :
  ab Tryz.prog 299 [v,.int .i64 (k:Nat),.int .i64 ((k+1:Nat):Int)] h
   (fun r h'=>Own h' 297 2 r (cs.take (k * 2)++cs.drop ((k+1) * 2))∧I h h' (bn v)∧bQ h v r):=by
 refine ab.yh o (by decide) (fun aN aF=>?_) fun i len cap c ex ae aN ok fA kk aG=>?_
 ·subst aF;simp at hk
 ·have nM:aR v=some i:=by rcases aN with rfl | rfl<;>rfl
  have hlen:=ok.2.2.1
  refine (aeM i len cap k c cs ex ae ok (by omega) (by omega) gK).mono fun r h' ⟨o',k',n'⟩=>⟨o',(kk.trans' k').mono fun q af=>by subst af;exact nM,.inl (by rw [n',nM])⟩
abbrev cF:=Int×Int
def gr (l:List cF):Prop:=l.Pairwise fun a b=>a.1<b.1
def look:List cF→Int→Option Int
 | [],_=>none
 | p::r,k=>if p.1=k then some p.2 else look r k
def put:List cF→Int→Int→List cF
 | [],k,v=>[(k,v)]
 | p::r,k,v=>if p.1<k then p::put r k v else if p.1=k then (k,v)::r else (k,v)::p::r
def rm:List cF→Int→List cF
 | [],_=>[]
 | p::r,k=>if p.1=k then r else p::rm r k
def pos:List cF→Int→Nat
 | [],_=>0
 | p::r,k=>if p.1<k then pos r k+1 else 0
def has (l:List cF) (k:Int):Bool:=(look l k).isSome
theorem Aq:∀ (l:List cF) (k:Int),pos l k≤l.length
 | [],_=>Nat.le_refl _
 | p::r,k=>by
  unfold pos
  split
  ·have:=Aq r k;simp only [List.length_cons];omega
  ·exact Nat.zero_le _
theorem AC:∀ (l:List cF) (k:Int) (t:Nat) (p:cF),t<pos l k→l[t]?=some p→p.1<k
 | [],_,t,p,h,_=>by simp [pos] at h
 | q::r,k,t,p,h,aW=>by
  unfold pos at h
  split at h
  ·cases t with
   | zero=>simp at aW;subst aW;assumption
   | succ t=>exact AC r k t p (by omega) (by simpa using aW)
  ·omega
theorem Un:∀ {l:List cF},gr l→∀ (k:Int) (t:Nat) (p:cF),pos l k≤t→l[t]?=some p→k≤p.1
 | [],_,_,t,p,_,aW=>by simp at aW
 | q::r,ad,k,t,p,h,aW=>by
  have dK:=List.pairwise_cons.1 ad
  unfold pos at h
  split at h
  ·cases t with
   | zero=>omega
   | succ t=>exact Un dK.2 k t p (by omega) (by simpa using aW)
  ·cases t with
   | zero=>simp at aW;subst aW;omega
   | succ t=>
    have:=dK.1 p (List.mem_of_getElem? (by simpa using aW))
    omega
theorem Ar:∀ {l:List cF} {k:Int},(∀ p ∈ l,k<p.1)→look l k=none
 | [],_,_=>rfl
 | q::r,k,h=>by
  unfold look
  rw [if_neg (by have:=h q (by simp);omega)]
  exact Ar fun p aW=>h p (by simp [aW])
theorem gb:∀ {l:List cF},gr l→∀ (k:Int),(has l k=true∧∃ p,l[pos l k]?=some p∧p.1=k∧look l k=some p.2)∨(has l k=false∧look l k=none∧∀ p,l[pos l k]?=some p→k<p.1)
 | [],_,k=>.inr ⟨rfl,rfl,by simp⟩
 | q::r,ad,k=>by
  have dK:=List.pairwise_cons.1 ad
  unfold has pos
  by_cases h1:q.1<k
  ·rw [if_pos h1]
   have:look (q::r) k=look r k:=by rw [look,if_neg (by omega)]
   rw [this]
   simpa [has] using gb dK.2 k
  ·rw [if_neg h1]
   by_cases ae:q.1=k
   ·exact .inl ⟨by simp [look,ae],q,by simp,ae,by simp [look,ae]⟩
   ·have:look (q::r) k=none:=Ar fun p aW=>by
     rcases List.mem_cons.1 aW with rfl | aW
     ·omega
     ·have:=dK.1 p aW;omega
    exact .inr ⟨by rw [this];rfl,this,fun p aW=>by simp at aW;subst aW;omega⟩
theorem Iy:∀ {l:List cF},gr l→∀ (k v:Int),has l k=true→put l k v=l.set (pos l k) (k,v)
 | [],_,k,v,h=>by simp [has,look] at h
 | q::r,ad,k,v,h=>by
  have dK:=List.pairwise_cons.1 ad
  unfold put pos
  by_cases h1:q.1<k
  ·rw [if_pos h1,if_pos h1,List.set_cons_succ,Iy dK.2 k v]
   have:look (q::r) k=look r k:=by rw [look,if_neg (by omega)]
   rw [has,this] at h
   exact h
  ·rw [if_neg h1,if_neg h1]
   by_cases ae:q.1=k
   ·rw [if_pos ae];rfl
   ·exfalso
    have:look (q::r) k=none:=Ar fun p aW=>by
     rcases List.mem_cons.1 aW with rfl | aW
     ·omega
     ·have:=dK.1 p aW;omega
    rw [has,this] at h;cases h
theorem sh:∀ {l:List cF},gr l→∀ (k v:Int),has l k=false→put l k v=l.take (pos l k)++[(k,v)]++l.drop (pos l k)
 | [],_,k,v,h=>rfl
 | q::r,ad,k,v,h=>by
  have dK:=List.pairwise_cons.1 ad
  unfold put pos
  by_cases h1:q.1<k
  ·rw [if_pos h1,if_pos h1,sh dK.2 k v]
   ·simp
   ·have:look (q::r) k=look r k:=by rw [look,if_neg (by omega)]
    rw [has,this] at h
    exact h
  ·rw [if_neg h1,if_neg h1]
   by_cases ae:q.1=k
   ·simp [has,look,ae] at h
   ·rw [if_neg ae];simp
theorem Nk:∀ {l:List cF},gr l→∀ (k:Int),has l k=true→rm l k=l.take (pos l k)++l.drop (pos l k+1)
 | [],_,k,h=>by simp [has,look] at h
 | q::r,ad,k,h=>by
  have dK:=List.pairwise_cons.1 ad
  unfold rm pos
  by_cases h1:q.1<k
  ·rw [if_neg (by omega),if_pos h1,Nk dK.2 k]
   ·simp
   ·have:look (q::r) k=look r k:=by rw [look,if_neg (by omega)]
    rw [has,this] at h
    exact h
  ·rw [if_neg h1]
   by_cases ae:q.1=k
   ·rw [if_pos ae];simp
   ·exfalso
    have:look (q::r) k=none:=Ar fun p aW=>by
     rcases List.mem_cons.1 aW with rfl | aW
     ·omega
     ·have:=dK.1 p aW;omega
    rw [has,this] at h;cases h
theorem Uo:∀ {l:List cF} {k v:Int} {p:cF},p ∈ put l k v→p=(k,v)∨p ∈ l
 | [],k,v,p,h=>by simp [put] at h;exact .inl h
 | q::r,k,v,p,h=>by
  unfold put at h
  split at h
  ·rcases List.mem_cons.1 h with rfl | h
   ·exact .inr (by simp)
   ·rcases Uo h with h | h
    ·exact .inl h
    ·exact .inr (by simp [h])
  ·split at h
   ·rcases List.mem_cons.1 h with rfl | h
    ·exact .inl rfl
    ·exact .inr (by simp [h])
   ·rcases List.mem_cons.1 h with rfl | h
    ·exact .inl rfl
    ·exact .inr h
theorem Up:∀ {l:List cF} {k:Int} {p:cF},p ∈ rm l k→p ∈ l
 | [],k,p,h=>by simp [rm] at h
 | q::r,k,p,h=>by
  unfold rm at h
  split at h
  ·simp [h]
  ·rcases List.mem_cons.1 h with rfl | h
   ·simp
   ·simp [Up h]
theorem Fu:∀ {l:List cF},gr l→∀ (k v:Int),gr (put l k v)
 | [],_,k,v=>by simp [put,gr]
 | q::r,ad,k,v=>by
  have dK:=List.pairwise_cons.1 ad
  unfold put
  split
  ·refine List.pairwise_cons.2 ⟨fun p aW=>?_,Fu dK.2 k v⟩
   rcases Uo aW with rfl | aW
   ·assumption
   ·exact dK.1 p aW
  ·split
   ·rename_i h1 ae
    exact List.pairwise_cons.2 ⟨fun p aW=>by have:=dK.1 p aW;simp only;omega,dK.2⟩
   ·refine List.pairwise_cons.2 ⟨fun p aW=>?_,ad⟩
    rcases List.mem_cons.1 aW with rfl | aW
    ·simp only;omega
    ·have:=dK.1 p aW;simp only;omega
theorem Fv:∀ {l:List cF},gr l→∀ (k:Int),gr (rm l k)
 | [],_,k=>by simp [rm,gr]
 | q::r,ad,k=>by
  have dK:=List.pairwise_cons.1 ad
  unfold rm
  split
  ·exact dK.2
  ·exact List.pairwise_cons.2 ⟨fun p aW=>dK.1 p (Up aW),Fv dK.2 k⟩
theorem Iz:∀ (l:List cF) (k v x:Int),gr l→look (put l k v) x=if x=k then some v else look l x
 | [],k,v,x,_=>by simp only [put,look];by_cases h:k=x<;>simp [h,eq_comm]
 | q::r,k,v,x,ad=>by
  have dK:=List.pairwise_cons.1 ad
  unfold put
  by_cases h1:q.1<k
  ·rw [if_pos h1,look,look,Iz r k v x dK.2]
   by_cases ae:q.1=x
   ·rw [if_pos ae,if_neg (by omega),if_pos ae]
   ·rw [if_neg ae,if_neg ae]
  ·rw [if_neg h1]
   by_cases ae:q.1=k
   ·rw [if_pos ae,look,look]
    by_cases aA:x=k
    ·simp [aA]
    ·rw [if_neg (by simp only;omega),if_neg aA,if_neg (by omega)]
   ·rw [if_neg ae,look]
    by_cases aA:x=k
    ·simp [aA]
    ·rw [if_neg (by simp only;omega),if_neg aA]
theorem IA:∀ (l:List cF) (k x:Int),gr l→look (rm l k) x=if x=k then none else look l x
 | [],k,x,_=>by simp [rm,look]
 | q::r,k,x,ad=>by
  have dK:=List.pairwise_cons.1 ad
  unfold rm
  by_cases h1:q.1=k
  ·rw [if_pos h1]
   by_cases ae:x=k
   ·rw [if_pos ae]
    exact Ar fun p aW=>by have:=dK.1 p aW;omega
   ·rw [if_neg ae,look,if_neg (by omega)]
  ·rw [if_neg h1,look,look,IA r k x dK.2]
   by_cases ae:q.1=x
   ·rw [if_pos ae,if_neg (by omega),if_pos ae]
   ·rw [if_neg ae,if_neg ae]
theorem IB:∀ {l:List cF},gr l→∀ {p:cF},p ∈ l→look l p.1=some p.2
 | [],_,p,h=>by cases h
 | q::r,ad,p,h=>by
  have dK:=List.pairwise_cons.1 ad
  rcases List.mem_cons.1 h with rfl | h
  ·simp [look]
  ·rw [look,if_neg (by have:=dK.1 p h;omega)]
   exact IB dK.2 h
theorem IC:∀ {l:List cF} {k v:Int},look l k=some v→(k,v) ∈ l
 | [],_,_,h=>by cases h
 | q::r,k,v,h=>by
  unfold look at h
  split at h
  ·rename_i af;have:=Option.some.inj h;subst this;subst af;simp
  ·simp [IC h]
theorem Uq:∀ {a b:List cF},gr a→gr b→(∀ k,look a k=look b k)→a=b
 | [],[],_,_,_=>rfl
 | [],q::r,_,av,h=>by have:=h q.1;simp [look] at this
 | q::r,[],a6,_,h=>by have:=h q.1;simp [look] at this
 | p::r,q::s,a6,av,h=>by
  have mK:=List.pairwise_cons.1 a6
  have hP:=List.pairwise_cons.1 av
  have h1:=IC (l:=q::s) (by rw [←h p.1];exact IB a6 (p:=p) (by simp))
  have ae:=IC (l:=p::r) (by rw [h q.1];exact IB av (p:=q) (by simp))
  have Fw:p=q:=by
   rcases List.mem_cons.1 h1 with h1 | h1
   ·exact h1
   ·rcases List.mem_cons.1 ae with ae | ae
    ·exact ae.symm
    ·have:=hP.1 _ h1;have:=mK.1 _ ae;simp only at *;omega
  subst Fw
  congr 1
  refine Uq mK.2 hP.2 fun k=>?_
  by_cases hk:p.1=k
  ·rw [Ar fun x ak=>by have:=mK.1 x ak;omega,Ar fun x ak=>by have:=hP.1 x ak;omega]
  ·have:=h k
   rw [look,look,if_neg hk,if_neg hk] at this
   exact this
theorem aeN:∀ {l:List cF},gr l→∀ (k v:Int),(put l k v).length=if has l k=true then l.length else l.length+1:=by
 intro l ad k v
 cases h:has l k
 ·rw [sh ad k v h]
  have:=Aq l k
  simp
  omega
 ·rw [Iy ad k v h];simp
theorem aeO {l:List cF} (ad:gr l) (k:Int) (h:has l k=true):(rm l k).length+1=l.length:=by
 rw [Nk ad k h]
 rcases gb ad k with ⟨_,p,aW,_⟩ | ⟨h',_⟩
 ·have:=(List.getElem?_eq_some_iff.1 aW).1
  simp
  omega
 ·rw [h] at h';cases h'
theorem aeP {l:List cF} (ad:gr l) (k:Int) (h:has l k=false):rm l k=l:=by
 refine Uq (Fv ad k) ad fun x=>?_
 rw [IA l k x ad]
 split
 ·rename_i ak;subst ak;unfold has at h;cases aM:look l x with
  | none=>rfl
  | some y=>rw [aM] at h;cases h
 ·rfl
structure ai where
 key:Int
 ay:Int
 to:Int
 val:Int
 del:Bool
 deriving DecidableEq
def aw (c:ai):List V:=[.int .i64 c.key,.int .i64 c.ay,.int .i64 c.to,.int .i64 c.val,.bool c.del]
theorem ix (r:ai):(aw r).length=5:=rfl
theorem Ur (r:ai):(aw r).all (·.one)=true:=rfl
theorem wI (r:ai):bl (aw r):=bl.cons (bh.int _ _) (bl.cons (bh.int _ _) (bl.cons (bh.int _ _) (bl.cons (bh.int _ _) (bl.cons (bh.bool _) bl.nil))))
theorem aeQ (a b:ai) {xo yo:Operand}:ev Tryz.prog .neq 40 xo yo (.agg (aw a)) (.agg (aw b))=some (.bool (decide (a≠b))):=by
 have h:hv [0,0,0,0,1] (aw a) (aw b)=some (decide (a=b)):=by
  simp only [aw,hv,if_true,Option.map_some,Option.some.injEq]
  rw [Bool.eq_iff_iff]
  simp only [Bool.and_eq_true,beq_iff_eq,decide_eq_true_eq,Bool.and_true]
  constructor
  ·rintro ⟨h1,ae,aA,bk,bN⟩;cases a;cases b;simp_all
  ·rintro rfl;simp
 rw [arq as7 h]
 simp
theorem Nl {l:List ai} {k:Nat} (hk:k<l.length) {kk:IntKind}:ir Tryz.prog 35 (.ag l.length (l.flatMap aw)) (.int kk (k:Int))=some (.at (aw l[k]++(l.drop (k+1)).flatMap aw)):=oJ ix hk EE
theorem alU (a b:List ai) (h:J) (a6:a.length≤2 ^ 61):Pure Tryz.prog 21 [.ag a.length (a.flatMap aw),.ag b.length (b.flatMap aw)] h (.bool (decide (a=b))):=by
 refine Pure.val (bh.bool _) ?_
 refine ab.ao (c:=_) Tryz.func21 rfl (by kernel_rfl) (by simp) ?_
 by_cases bZ:a.length=b.length
 rotate_left
 ·have bd:(((a.length:Nat):Int) !=((b.length:Nat):Int))=true:=by simp;omega
  have bj:decide (a=b)=false:=by simp only [decide_eq_false_iff_not];rintro rfl;exact bZ rfl
  simp only [aa,Nat.reduceEqDiff,reduceCtorEq,pv,bd,aI,Tryz.results21,ac]
  exact au ⟨by rw [bj],I.refl _ _⟩
 have bd:(((a.length:Nat):Int) !=((b.length:Nat):Int))=false:=by simp [bZ]
 simp only [aa,Nat.reduceEqDiff,reduceCtorEq,pv,bd]
 refine aP.bG (α:=Nat) (fun i f h'=>f 0=.ag a.length (a.flatMap aw)∧f 1=.ag b.length (b.flatMap aw)∧f 5=.int .i64 (i:Nat)∧I h h' none_∧i≤a.length∧a.take i=b.take i) (fun i=>a.length - i) 0
  ⟨rfl,rfl,rfl,I.refl _ _,Nat.zero_le _,rfl⟩ ?_
 rintro i f h1 ⟨f0,f1,f5,bo,hi,cS⟩
 refine dw (by kernel_rfl) ?_
 by_cases aH:i<a.length
 rotate_left
 ·have c3:decide ((i:Int)<((a.length:Nat):Int))=false:=by simp only [decide_eq_false_iff_not];omega
  rw [List.take_of_length_le (by omega),List.take_of_length_le (by omega)] at cS
  simp only [aa,Nat.reduceEqDiff,reduceCtorEq,pv,f0,f5,c3,aI,Tryz.results21,ac]
  exact au ⟨by rw [cS];simp,bo⟩
 ·have c3:decide ((i:Int)<((a.length:Nat):Int))=true:=by simp only [decide_eq_true_eq];omega
  have Fx:i<b.length:=by omega
  have c9:IntKind.i64.wrap ((i:Int)+1)=((i+1:Nat):Int):=kf aH (by omega)
  have eo:=Nl (kk:=.i64) aH
  have bR:=Nl (kk:=.i64) Fx
  have ib:∀ (x:ai) (q:List V),cX (some (some 5)) (some (aw x++q))=some (.agg (aw x)):=fun x q=>lC (ix x)
  by_cases heq:a[i]=b[i]
  ·have alV:a.take (i+1)=b.take (i+1):=by rw [List.take_succ_eq_append_getElem aH,List.take_succ_eq_append_getElem Fx,cS,heq]
   simp only [aa,Nat.reduceEqDiff,reduceCtorEq,pv,f0,f5,c3]
   generalize a[i]=A at *
   generalize b[i]=B at *
   subst heq
   have eL:∀ xo yo,ev Tryz.prog .neq 40 xo yo (.agg (aw A)) (.agg (aw A))=some (.bool false):=fun xo yo=>by rw [aeQ];simp
   refine aP.aY none_ [] (.q 0 (.q 1 (.q 2 (.q 3 (.q 4 (.q 5 (.q 6 (.q 7 (.q 8 .done))))))))) (by kernel_rfl) (by kernel_rfl) (by kernel_rfl) ?_
   simp only [aa,bD,Nat.reduceEqDiff,reduceCtorEq,j0,f0,f1,f5,eo,bR,eL,ib,c9]
   exact au ⟨i+1,⟨f0,f1,rfl,bo,by omega,alV⟩,by omega⟩
  ·have bj:decide (a=b)=false:=by simp only [decide_eq_false_iff_not];rintro rfl;exact heq rfl
   simp only [aa,Nat.reduceEqDiff,reduceCtorEq,pv,f0,f5,c3]
   generalize a[i]=A at *
   generalize b[i]=B at *
   have eL:∀ xo yo,ev Tryz.prog .neq 40 xo yo (.agg (aw A)) (.agg (aw B))=some (.bool true):=fun xo yo=>by rw [aeQ];simp [heq]
   refine aP.aY none_ [] (.q 0 (.q 1 (.q 2 (.q 3 (.q 4 (.q 5 (.q 6 (.q 7 (.q 8 .done))))))))) (by kernel_rfl) (by kernel_rfl) (by kernel_rfl) ?_
   simp only [aa,bD,Nat.reduceEqDiff,reduceCtorEq,j0,f0,f1,f5,eo,bR,eL,ib,aI,Tryz.results21,ac]
   exact au ⟨by rw [bj],bo⟩
def eD (p:cF):List V:=[.int .i64 p.1,.int .i64 p.2]
theorem uQ (p:cF):(eD p).length=2:=rfl
theorem Nn (p:cF):(eD p).all (·.one)=true:=rfl
theorem aeR (l:List cF) (k:Nat) (p:cF) (hk:k<l.length):lay (l.flatMap eD) (k * 2) (eD p)=(l.set k p).flatMap eD:=by
 unfold lay
 rw [yf uQ,show k * 2+(eD p).length=(k+1) * 2 by rw [uQ];omega,wx uQ,List.set_eq_take_append_cons_drop,if_pos hk]
 simp
structure dD (h:J) (i:Nat) (v:V) (room:Int) (l:List cF):Prop where
 lt:i<h.n
 get:h.get i=.cells [.int .i64 room,v] 269 none
 own:Own h 297 2 v (l.flatMap eD)
 ne:aR v≠some i
 gu:gr l
 len:(l.length:Int)≤room
 room:room≤1024
theorem dD.sS {h:J} {i:Nat} {v:V} {room:Int} {l:List cF} (k:dD h i v room l):l.length≤1024:=by have:=k.len;have:=k.room;omega
theorem dD.rows {h:J} {i:Nat} {v:V} {room:Int} {l:List cF} (k:dD h i v room l):(l.flatMap eD).length=l.length * 2:=iS uQ l
theorem dD.aj {h h':J} {i:Nat} {v:V} {room:Int} {l:List cF} {own:Nat→Prop} (k:dD h i v room l) (hk:I h h' own) (h1:¬own i) (ae:∀ j,aR v=some j→¬own j):dD h' i v room l :=
 ⟨Nat.lt_of_lt_of_le k.lt hk.n,(hk.get i k.lt h1).trans k.get,k.own.aj hk ae,k.ne,k.gu,k.len,k.room⟩
theorem dD.aQ {h h':J} {i:Nat} {v:V} {room:Int} {l:List cF} (k:dD h i v room l) (hk:I h h' none_):dD h' i v room l:=k.aj hk (by simp [none_]) (by simp [none_])
theorem dD.og {h h':J} {i:Nat} {v:V} {room:Int} {l:List cF} (k:dD h i v room l):fU Tryz.prog 267 v h'=some (.int .i64 (l.length:Nat)):=by
 have:=k.own.length (by decide) Tryz.prog d8
 rw [k.rows,Nat.mul_div_cancel _ (by decide)] at this
 rw [←this]
 rcases k.own with ⟨rfl | rfl,_⟩ | ⟨j,n,c,_,_,rfl,_⟩
 ·rw [Bf d8,Bf d8]
 ·rw [DE d8,DE d8]
 ·rw [DD d8,DD d8]
theorem dD.row {h:J} {i:Nat} {v:V} {room:Int} {l:List cF} (k:dD h i v room l) {t:Nat} {p:cF} (aW:l[t]?=some p) :
  ∃ j iN cA,(∀ kk,ir Tryz.prog 267 v (.int kk (t:Int))=some (.ptr j (t * 2)))∧aR v=some j∧j<h.n∧da (h.get j) (t * 2)=some (.int .i64 p.1::.int .i64 p.2::iN)∧da (h.get j) (t * 2+1)=some (.int .i64 p.2::cA) ∧
   ∀ q:cF,∃ ob,bM (some 2) (h.get j) (t * 2) (eD q)=some ob∧Own (h.set j ob) 297 2 v ((l.set t q).flatMap eD)∧I h (h.set j ob) (bn v):=by
 have bw:=(List.getElem?_eq_some_iff.1 aW).1
 have bb:((l.flatMap eD).drop (t * 2)).take 2=eD p:=by
  rw [wx uQ,show 2=1 * 2 from rfl,yf uQ,List.drop_eq_getElem_cons bw,(List.getElem?_eq_some_iff.1 aW).2]
  simp
 obtain ⟨j,cw,a2,a3,a4,a5⟩:=Qb (P:=Tryz.prog) (t:=267) (kk:=.i64) d6 (by decide) k.own (k:=t) (by rw [k.rows];omega)
 obtain ⟨iN,h0⟩:=a4 h 0 rfl (by decide)
 obtain ⟨cA,h1⟩:=a4 h 1 rfl (by decide)
 rw [bb] at h0 h1
 refine ⟨j,iN,cA,fun kk=>?_,a2,a3,h0,h1,fun q=>?_⟩
 ·obtain ⟨kE,dt,b1,_⟩:=Qb (P:=Tryz.prog) (t:=267) (kk:=kk) d6 (by decide) k.own (k:=t) (by rw [k.rows];omega)
  rw [a2] at b1
  cases b1
  exact dt
 ·obtain ⟨ob,bd,bH,c3⟩:=a5 (eD q) (uQ q) (Nn q)
  rw [aeR l t q bw] at bH
  exact ⟨ob,bd,bH,c3⟩
theorem aeS (h:J) (i a b t:Nat) (v:V) (room key:Int) (l:List cF) (p:cF) (k:dD h i v room l) (a6:h.get a=.cells [.ptr i 0] 194 none) (av:h.get b=.cells [.int .i64 key] 2 none) (aW:l[t]?=some p) :
  Pure Tryz.prog 207 [.int .i64 (t:Nat),.ptr a 0,.ptr b 0] h (.bool (decide (key≤p.1))):=by
 refine ab.ao (c:=_) Tryz.func207 rfl (by kernel_rfl) (by simp) ?_
 obtain ⟨j,iN,cA,bR,_,_,dn,_⟩:=k.row aW
 have aB:=k.get
 have bR:=bR .i64
 simp only [aa]
 refine aP.aY none_ [] (.q 0 (.q 1 (.q 2 (.q 3 (.q 4 (.q 5 (.q 6 (.q 7 (.q 8 (.q 9 (.q 10 .done))))))))))) (by kernel_rfl) (by kernel_rfl) (by kernel_rfl) ?_
 simp only [aa,bD,Nat.reduceEqDiff,Nat.reduceAdd,Nat.reduceLeDiff,reduceCtorEq,sb,Ik,ER,br,tT,a6,av,aB,bR,dn,aI,Tryz.results207,ac]
 exact au ⟨rfl,rfl⟩
theorem Np (h:J) (i:Nat) (v:V) (room key:Int) (l:List cF) (k:dD h i v room l) :
  Pure Tryz.prog 168 [.ptr i 0,.int .i64 key] h (.tuple [.int .i64 (pos l key:Nat),.bool (has l key)]):=by
 refine Pure.val (bh.tuple (bl.cons (bh.int _ _) (bl.cons (bh.bool _) bl.nil))) ?_
 refine ab.ao (c:=_) Tryz.func168 rfl (by kernel_rfl) (by simp) ?_
 obtain ⟨H,hH⟩:∃ y,y=(h.push (.cells [.ptr i 0] 194 none)).push (.cells [.int .i64 key] 2 none):=⟨_,rfl⟩
 have g0:H.get h.n=.cells [.ptr i 0] 194 none:=by rw [hH];exact ve
 have g1:H.get (h.n+1)=.cells [.int .i64 key] 2 none:=by rw [hH];exact wq
 have bq:I h H none_:=by rw [hH];exact (I.push _ _ _).a8 _
 have kk:=k.aQ bq
 have aB:=kk.get
 simp only [aa,Nat.reduceEqDiff,sb,Kt,ER,tT]
 rw [←hH]
 clear hH
 have aM:=kk.og (h':=H)
 simp only [aa,Nat.reduceEqDiff,Nat.reduceAdd,Nat.reduceLeDiff,aB,aM]
 refine bB ac1 (aeI l.length _ _ (fun t=>match l[t]? with | some p=>decide (key≤p.1) | none=>true) H (by have:=k.sS;omega) ac2 (fun t bw=>?_) (pos l key) (Aq l key) (fun t bw=>?_) (fun t h1 ae=>?_)) ?_
 ·have aW:l[t]?=some l[t]:=List.getElem?_eq_getElem bw
  rw [aW]
  exact aeS H i h.n (h.n+1) t v room key l l[t] kk g0 g1 aW
 ·cases aW:l[t]? with
  | none=>have:=Aq l key;rw [List.getElem?_eq_none_iff] at aW;omega
  | some p=>have:=AC l key t p bw aW;simp only [decide_eq_false_iff_not];omega
 ·cases aW:l[t]? with
  | none=>rfl
  | some p=>have:=Un k.gu key t p h1 aW;simp only [decide_eq_true_eq];exact this
 have As:=Aq l key
 rcases gb k.gu key with ⟨ar,p,aT,cg,h8⟩ | ⟨ar,aT,cg⟩
 ·obtain ⟨j,iN,cA,bR,_,_,dn,_⟩:=kk.row aT
  have bR:=bR .i64
  have aH:=(List.getElem?_eq_some_iff.1 aT).1
  have d1:decide (((pos l key:Nat):Int)<((l.length:Nat):Int))=true:=decide_eq_true (by omega)
  have d2:(p.1==key)=true:=by simp [cg]
  simp only [aa,Nat.reduceEqDiff]
  refine aP.aY none_ [] (.q 0 (.q 1 (.q 2 (.q 3 (.q 4 (.q 5 (.q 6 (.q 7 (.q 8 (.q 9 (.q 10 (.q 11 (.q 12 (.q 13 (.q 14 (.q 15 (.q 16 (.q 17 (.q 18 (.q 19 (.q 20 (.q 21 .done)))))))))))))))))))))) (by kernel_rfl) (by kernel_rfl) (by kernel_rfl) ?_
  simp only [aa,bD,Nat.reduceEqDiff,Nat.reduceAdd,Nat.reduceLeDiff,sb,Ik,ER,br,tT,g0,g1,aB,aM,d1,bR,dn,d2,aI,Tryz.results168,cW]
  exact au ⟨by rw [ar],bq⟩
 ·by_cases aH:pos l key<l.length
  ·have aW:l[pos l key]?=some l[pos l key]:=List.getElem?_eq_getElem aH
   obtain ⟨j,iN,cA,bR,_,_,dn,_⟩:=kk.row aW
   have bR:=bR .i64
   have d1:decide (((pos l key:Nat):Int)<((l.length:Nat):Int))=true:=decide_eq_true (by omega)
   have d2:(l[pos l key].1==key)=false:=by have:=cg _ aW;simp;omega
   simp only [aa,Nat.reduceEqDiff]
   refine aP.aY none_ [] (.q 0 (.q 1 (.q 2 (.q 3 (.q 4 (.q 5 (.q 6 (.q 7 (.q 8 (.q 9 (.q 10 (.q 11 (.q 12 (.q 13 (.q 14 (.q 15 (.q 16 (.q 17 (.q 18 (.q 19 (.q 20 (.q 21 .done)))))))))))))))))))))) (by kernel_rfl) (by kernel_rfl) (by kernel_rfl) ?_
   simp only [aa,bD,Nat.reduceEqDiff,Nat.reduceAdd,Nat.reduceLeDiff,sb,Ik,ER,br,tT,g0,g1,aB,aM,d1,bR,dn,d2,aI,Tryz.results168,cW]
   exact au ⟨by rw [ar],bq⟩
  ·have d1:decide (((pos l key:Nat):Int)<((l.length:Nat):Int))=false:=decide_eq_false (by omega)
   simp only [aa,Nat.reduceEqDiff]
   refine aP.aY none_ [] (.q 0 (.q 1 (.q 2 (.q 3 (.q 4 (.q 5 (.q 6 (.q 7 (.q 8 (.q 9 (.q 10 (.q 11 (.q 12 (.q 13 (.q 14 (.q 15 (.q 16 (.q 17 (.q 18 (.q 19 (.q 20 (.q 21 .done)))))))))))))))))))))) (by kernel_rfl) (by kernel_rfl) (by kernel_rfl) ?_
   simp only [aa,bD,Nat.reduceEqDiff,Nat.reduceAdd,Nat.reduceLeDiff,sb,ER,tT,g0,aB,aM,d1,aI,Tryz.results168,cW]
   exact au ⟨by rw [ar],bq⟩
theorem QB (p:cF) (h:J):Pure Tryz.prog 173 [.agg (eD p)] h (.agg (aw ⟨p.1,0,0,p.2,false⟩)):=by
 refine Pure.val (bh.agg (wI _)) ?_
 refine ab.ao (c:=_) Tryz.func173 rfl (by kernel_rfl) (by simp) ?_
 have aF:(V.agg (eD p)).cells=some [.int .i64 p.1,.int .i64 p.2]:=rfl
 simp only [aa,Nat.reduceEqDiff,Nat.reduceAdd,Nat.reduceLeDiff,Ik,Tf,br,j0,tU,ks,mz,aF,aI,Tryz.results173,xM,eI]
 exact au ⟨rfl,(I.push _ _ _).a8 _⟩
def ID:ai:=⟨0,0,0,0,false⟩
def full (room:Int) (l:List cF) (k:Int):Bool:=!has l k&&decide (room≤(l.length:Int))
def h4 (room:Int) (l:List cF) (k v:Int):List cF:=if full room l k then l else put l k v
def hn (room:Int) (l:List cF) (k v:Int):ai:=if full room l k then ID else ⟨k,0,0,v,false⟩
def kF (room:Int) (l:List cF) (k:Int):Int:=if full room l k then 3 else 0
theorem aeT {room:Int} {l:List cF} {k:Int} (h:has l k=true):full room l k=false:=by simp [full,h]
theorem aeU {room:Int} {l:List cF} {k:Int} (h:has l k=false):full room l k=decide (room≤(l.length:Int)):=by simp [full,h]
def qu (i:Nat) (v:V):Nat→Prop:=fun q=>q=i∨bn v q
theorem aeV (h:J) (p:cF):lk Tryz.prog 267 1 [(0,.agg (eD p))] h=some (.bp h.n 0 1 1,h.push (.cells (eD p) 297 none)):=JO uF rfl rfl (by decide)
theorem Us (h:J) (i:Nat) (v:V) (room key val:Int) (l:List cF) (k:dD h i v room l) :
  ab Tryz.prog 119 [.ptr i 0,.int .i64 key,.int .i64 val] h (fun r h'=>∃ v',r=.tuple [.agg (aw (hn room l key val)),.int .i64 (kF room l key)]∧dD h' i v' room (h4 room l key val)∧I h h' (qu i v)∧bQ h v v'):=by
 refine ab.ao (c:=_) Tryz.func119 rfl (by kernel_rfl) (by simp) ?_
 obtain ⟨H,hH⟩:∃ y,y=(h.push (.cells [.int .i64 0,.int .i64 0,.int .i64 0,.int .i64 0,.bool false] 40 none)).push (.cells [.int .i64 key,.int .i64 val] 297 none):=⟨_,rfl⟩
 have g0:H.get h.n=.cells [.int .i64 0,.int .i64 0,.int .i64 0,.int .i64 0,.bool false] 40 none:=by rw [hH];exact ve
 have g1:H.get (h.n+1)=.cells [.int .i64 key,.int .i64 val] 297 none:=by rw [hH];exact wq
 have bq:I h H none_:=by rw [hH];exact (I.push _ _ _).a8 _
 have h9:H.n=h.n+2:=by rw [hH];rfl
 have kk:=k.aQ bq
 have aB:=kk.get
 have bS:=k.lt
 simp only [aa,Nat.reduceEqDiff,Nat.reduceAdd,Nat.reduceLeDiff,reduceCtorEq,adM,Zm,ks,QA]
 rw [←hH]
 clear hH
 refine bB MF (Np H i v room key l kk) ?_
 have aM:=kk.og (h':=H)
 rcases gb k.gu key with ⟨ar,p,aT,cg,h8⟩ | ⟨ar,aT,cg⟩
 ·have aC:=aeT (room:=room) ar
  have bd:hn room l key val=⟨key,0,0,val,false⟩:=by simp [hn,aC]
  have bH:kF room l key=0:=by simp [kF,aC]
  have c3:h4 room l key val=l.set (pos l key) (key,val):=by rw [h4,aC];exact Iy k.gu key val ar
  rw [bd,bH,c3]
  obtain ⟨j,iN,cA,bR,dn,uR,_,_,tV⟩:=kk.row aT
  have bR:=bR .i64
  obtain ⟨ob,Ez,HZ,y3⟩:=tV (key,val)
  unfold eD at Ez
  have gP:j≠i:=fun U=>kk.ne (by rw [dn,U])
  have alW:j<h.n:=k.own.lt j dn
  have z0:(H.set j ob).get h.n=_:=(jF (by omega)).trans g0
  have Bz:(H.set j ob).get (h.n+1)=_:=(jF (by omega)).trans g1
  simp only [aa,Nat.reduceEqDiff,ar]
  refine aP.aY none_ [7] (.q 0 (.q 1 (.q 2 (.q 3 (.q 4 (.q 5 (.q 6 (.a 7 .done)))))))) (by kernel_rfl) (by kernel_rfl) (by kernel_rfl) ?_
  simp only [aa,bD,Nat.reduceEqDiff,Nat.reduceAdd,Nat.reduceLeDiff,reduceCtorEq,sb,tT,Ku,QA,g1,aB,bR,Ez,Bz]
  refine bB Qz (QB (key,val) _) ?_
  have fj:(V.agg (aw ⟨key,0,0,val,false⟩)).cells=some [.int .i64 key,.int .i64 0,.int .i64 0,.int .i64 val,.bool false]:=rfl
  simp only [aa,Nat.reduceEqDiff,Nat.reduceAdd,j0,mz,z0,fj,aI,Tryz.results119,fW,fJ,eI,fV]
  have p9:I (H.set j ob) ((H.set j ob).set h.n (.cells [.int .i64 key,.int .i64 0,.int .i64 0,.int .i64 val,.bool false] 40 none)) (fun q=>q=h.n):=I.set _ _ _
  have kw:I H (H.set j ob) (fun q=>q=j):=I.set _ _ _
  refine au ⟨v,rfl,⟨by rw [iw,iw];exact kk.lt,?_,HZ.aj p9 fun q af=>by rw [dn] at af;cases af;omega,k.ne,?_,by rw [List.length_set];exact k.len,k.room⟩,?_,.inl rfl⟩
  ·rw [jF (by omega),jF (by omega)];exact aB
  ·rw [←Iy k.gu key val ar];exact Fu k.gu _ _
  ·refine ((bq.up (o:=qu i v)).trans kw fun q af U=>.inr ?_).trans p9 fun q af U=>by omega
   subst U;exact dn
 ·have aC:=aeU (room:=room) ar
  by_cases tW:room≤(l.length:Int)
  ·have aC:full room l key=true:=by rw [aC];exact decide_eq_true tW
   have bd:hn room l key val=ID:=by simp [hn,aC]
   have bH:kF room l key=3:=by simp [kF,aC]
   have c3:h4 room l key val=l:=by simp [h4,aC]
   rw [bd,bH,c3]
   have d1:decide (room≤((l.length:Nat):Int))=true:=decide_eq_true tW
   simp only [aa,Nat.reduceEqDiff,ar]
   refine aP.aY none_ [] (.q 0 (.q 1 (.q 2 (.q 3 (.q 4 (.q 5 (.q 6 (.q 7 (.q 8 (.q 9 (.q 10 (.q 11 (.q 12 (.q 13 (.q 14 .done))))))))))))))) (by kernel_rfl) (by kernel_rfl) (by kernel_rfl) ?_
   simp only [aa,bD,Nat.reduceEqDiff,Nat.reduceAdd,Nat.reduceLeDiff,reduceCtorEq,Tb,sb,Kt,tT,a7,j0,tU,ks,mz,g0,aB,aM,d1,aI,Tryz.results119,fW,fJ,eI,fV]
   have p9:I H (H.set h.n (.cells [.int .i64 0,.int .i64 0,.int .i64 0,.int .i64 0,.bool false] 40 none)) (fun q=>q=h.n):=I.set _ _ _
   refine au ⟨v,rfl,kk.aj p9 (by omega) fun q af=>by have:=k.own.lt q af;omega,?_,.inl rfl⟩
   exact (bq.up (o:=qu i v)).trans p9 fun q af U=>by omega
  ·have aC:full room l key=false:=by rw [aC];exact decide_eq_false tW
   have bd:hn room l key val=⟨key,0,0,val,false⟩:=by simp [hn,aC]
   have bH:kF room l key=0:=by simp [kF,aC]
   have c3:h4 room l key val=put l key val:=by simp [h4,aC]
   rw [bd,bH,c3]
   have d1:decide (room≤((l.length:Nat):Int))=false:=decide_eq_false tW
   simp only [aa,Nat.reduceEqDiff,ar]
   refine aP.aY none_ [] (.q 0 (.q 1 (.q 2 (.q 3 (.q 4 (.q 5 (.q 6 (.q 7 (.q 8 (.q 9 (.q 10 (.q 11 (.q 12 (.q 13 (.q 14 .done))))))))))))))) (by kernel_rfl) (by kernel_rfl) (by kernel_rfl) ?_
   simp only [aa,bD,Nat.reduceEqDiff,Nat.reduceAdd,Nat.reduceLeDiff,reduceCtorEq,Tb,sb,Kt,tT,a7,aB,aM,d1]
   have f1:bn v i=False:=eq_false fun U=>k.ne U
   have f2:bn v (h.n+1)=False:=eq_false fun U=>by have:=k.own.lt _ U;omega
   obtain ⟨bI,bA⟩:∃ y,y=H.push (.cells (eD (key,val)) 297 none):=⟨_,rfl⟩
   have k2:I H bI none_:=by rw [bA];exact I.push _ _ _
   have ef:bI.n=H.n+1:=by rw [bA];rfl
   have cP:bI.get H.n=.cells (eD (key,val)) 297 none:=by rw [bA];exact b6
   have c6:=kk.aQ k2
   have dR:=aeV H (key,val)
   rw [←bA] at dR
   unfold eD at dR
   refine aP.aY (fun x=>bn v x) [7,8,11] (.q 0 (.q 1 (.q 2 (.q 3 (.q 4 (.q 5 (.q 6 (.e 7 (.e 8 (.q 9 (.q 10 (.a 11 .done))) .stop) .stop)))))))) (by kernel_rfl) (by kernel_rfl) (by kernel_rfl) ?_
   simp only [aa,bD,fg,Nat.reduceEqDiff,Nat.reduceAdd,Nat.reduceLeDiff,reduceCtorEq,sb,tT,Ku,g1,aB,f1,f2,dR]
   refine ⟨k2.up,?_⟩
   refine bU acP (insertC v (pos l key) H.n (l.flatMap eD) (eD (key,val)) bI c6.own (by rw [k.rows];have:=k.sS;omega) (by rw [k.rows];have:=Aq l key;omega) cP (by omega) (fun U=>by have:=k.own.lt _ U;omega) rfl rfl (HV Nn l)) fun r aA ⟨gJ,k3,d3⟩=>?_
   have kB:(l.flatMap eD).take (pos l key * 2)++eD (key,val)++(l.flatMap eD).drop (pos l key * 2)=(put l key val).flatMap eD:=by
    rw [yf uQ,wx uQ,sh k.gu key val ar];simp
   rw [kB] at gJ
   have qv:=(k3.get i (by omega) (by rw [f1];exact id)).trans c6.get
   have Fy:=(k3.get h.n (by omega) (fun U=>by have:=k.own.lt _ U;omega)).trans ((k2.get h.n (by omega) (by simp [none_])).trans g0)
   have g13:=(k3.get (h.n+1) (by omega) (by rw [f2];exact id)).trans ((k2.get (h.n+1) (by omega) (by simp [none_])).trans g1)
   have gL:r.one=true:=by
    rcases gJ with ⟨rfl | rfl,_⟩ | ⟨_,_,_,_,_,rfl,_⟩<;>rfl
   have fm:r.cells=some [r]:=by
    rcases gJ with ⟨rfl | rfl,_⟩ | ⟨_,_,_,_,_,rfl,_⟩<;>rfl
   have cK:bM (some 1) (aV.cells [V.int .i64 room,v] 269 none) 1 [r]=some (.cells [.int .i64 room,r] 269 none):=by rw [sZ gL];rfl
   have yM:I H aA (fun x=>bn v x):=(k2.up).trans' k3
   have n3:=k3.n
   simp only [aa,bD,fg,Nat.reduceEqDiff,sb,Ku,Tq,qv,fm,cK,yM]
   obtain ⟨gC,iy⟩:∃ y,y=aA.set i (.cells [V.int .i64 room,r] 269 none):=⟨_,rfl⟩
   have bY:I aA gC (fun q=>q=i):=by rw [iy];exact I.set _ _ _
   have z0:gC.get h.n=_:=(bY.get h.n (by omega) (by omega)).trans Fy
   have Bz:gC.get (h.n+1)=_:=(bY.get (h.n+1) (by omega) (by omega)).trans g13
   have aeW:gC.get i=.cells [.int .i64 room,r] 269 none:=by rw [iy];exact aL
   have n4:gC.n=aA.n:=by rw [iy];rfl
   have jJ:aR r≠some i:=fun U=>by
    rcases d3 with d3 | d3
    ·rw [d3] at U;exact k.ne U
    ·have:=d3 i U;omega
   have qX:Own gC 297 2 r ((put l key val).flatMap eD):=gJ.aj bY fun q af U=>jJ (by rw [af,U])
   rw [←iy]
   clear iy
   simp only [aa,Nat.reduceEqDiff,Nat.reduceAdd,Bz]
   refine bB Qz (QB (key,val) _) ?_
   have fj:(V.agg (aw ⟨key,0,0,val,false⟩)).cells=some [.int .i64 key,.int .i64 0,.int .i64 0,.int .i64 val,.bool false]:=rfl
   simp only [aa,Nat.reduceEqDiff,Nat.reduceAdd,j0,mz,z0,fj,aI,Tryz.results119,fW,fJ,eI,fV]
   have p9:I gC (gC.set h.n (.cells [.int .i64 key,.int .i64 0,.int .i64 0,.int .i64 val,.bool false] 40 none)) (fun q=>q=h.n):=I.set _ _ _
   have pc:∀ q,aR r=some q→q≠h.n:=fun q af U=>by
    rcases d3 with d3 | d3
    ·rw [d3] at af;have:=k.own.lt q af;omega
    ·have:=d3 q af;omega
   refine au ⟨r,rfl,⟨by rw [iw];omega,?_,qX.aj p9 fun q af=>pc q af,jJ,Fu k.gu _ _,?_,k.room⟩,?_,?_⟩
   ·rw [jF (by omega)];exact aeW
   ·rw [aeN k.gu,if_neg (by rw [ar];simp)];omega
   ·refine (((bq.up (o:=qu i v)).trans yM fun q af U=>.inr U).trans bY fun q af U=>.inl U).trans p9 fun q af U=>by omega
   ·rcases d3 with d3 | d3
    ·exact .inl d3
    ·exact .inr fun q af=>by have:=d3 q af;omega
end Go.Proofs.YtedkjhifbibpmaaGreatDoor.Pk
