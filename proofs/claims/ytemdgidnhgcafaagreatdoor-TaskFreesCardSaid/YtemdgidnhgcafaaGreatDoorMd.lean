/-
  What functions of the program do, told of abstract states. Conditions: as each theorem says.
-/
import Derived.Test.YtemdgidnhgcafaaGreatDoorMc
import Derived.Test.YtemdgidnhgcafaaGreatDoorAbD
open Go.Proofs.Tryz renaming prog->ds,results100->avy,results59->awX,results112->aBr,results30->aBt,results107->awH,results66->axs,results16->ayZ,results31->ax1,results84->axt,results90->aBv
open Option renaming map_some->avI
open Bool renaming and_eq_true->VW,or_false->avM,eq_false_iff->aBq
open List renaming any_append->ayW,any_cons->ayX,any_nil->aBp,take_succ_eq_append_getElem->avt,getElem?_eq_getElem->ME,drop_eq_getElem_cons->avk,getElem_mem->avb,any_eq_true->awu,take_of_length_le->are,any_eq_false->awE,getD->ava,drop_of_length_le->avZ,length_take->VV,append_nil->avq,take_length->avT,cons_append->avx,nil_append->avG,mem_cons->IN,length_append->IS,flatMap_cons->avj,length_cons->ave,mem_of_mem_take->axl,append_assoc->au8,mem_of_mem_drop->awt,drop_left->awd,length_nil->avi,find?_cons->avX,map_cons->au9,mem_map->MF,mem_filter->afP
open Int renaming toNat_natCast->avc,reduceLE->awi,reduceNeg->MD,eq_ofNat_of_zero_le->axr,le_refl->av1
open Nat renaming reduceEqDiff->vt,zero_le->Dc,reduceAdd->AS,reduceLeDiff->By,mul_one->VU,min_eq_left->avD,zero_add->avm,le_refl->BY,le_trans->OF
set_option linter.unusedVariables false
set_option linter.unusedSimpArgs false
set_option maxHeartbeats 4000000
set_option maxRecDepth 10000
namespace Go.Proofs.YtemdgidnhgcafaaGreatDoor.Pk
open Go Go.Proofs Go.Proofs.YtemdgidnhgcafaaGreatDoor.Ab
def yi (p:Int×Int):V:=.agg [.int .i64 p.1,.int .i64 p.2]
theorem apy:IE ds 248=some [0,0]:=by kernel_rfl
theorem apz (e:Bool) (a b:Int):xr ds e 248 (yi (a,b))=true:=by
 cases e<;>kernel_rfl
theorem Kr:∃ d,eL ds 191=some (248,3,d)∧yU d=false:=by
 have h:(eL ds 191).map (fun q=>(q.1,q.2.1,yU q.2.2))=some (248,3,false):=by kernel_rfl
 cases hm:eL ds 191 with
 | none=>rw [hm] at h;cases h
 | some q=>
  rw [hm] at h;obtain ⟨a,b,d⟩:=q;simp only [avI,Option.some.injEq,Prod.mk.injEq] at h;obtain ⟨rfl,rfl,h⟩:=h;exact ⟨d,rfl,h⟩
theorem Ks:la ds 3=some (.int .i64 0):=by kernel_rfl
theorem Qb {d:TypeDesc} (bf:yU d=false):iN ds 248 d yi where
 eq a b:=by
  have h:gL [0,0] [.int .i64 a.1,.int .i64 a.2] [.int .i64 b.1,.int .i64 b.2]=some (a.1==b.1&&a.2==b.2):=by simp [gL]
  obtain ⟨gq,gU,aj,bp⟩:=RW h;obtain ⟨h1,_⟩:=pp apy h aj bp;have:wU ds 248 d (yi a) (yi b)=some (a.1==b.1&&a.2==b.2):=by
   unfold wU yi;simp only [pk,aj,bp,avI,bf,h1];rfl
  rw [this,Option.some.injEq,Bool.eq_iff_iff];simp only [VW,beq_iff_eq,decide_eq_true_eq];exact ⟨fun h=>Prod.ext h.1 h.2,fun h=>⟨congrArg Prod.fst h,congrArg Prod.snd h⟩⟩
 ok b a:=apz b a.1 a.2
 bits a:=by
  refine ⟨_,rfl,?_⟩;simp [Instr.sameBits]
abbrev sn:=List (Nat×(Int×Int)×Int)
def vW (l:sn):List (Nat×V×V):=ec yi (V.int .i64) l
theorem apA {h:I} {i cl:Nat} (l:sn) (a b:Int) (az:h.get i=.map (vW l) cl):nj ds 191 (.map i) (.agg [.int .i64 a,.int .i64 b]) true h=some (.tuple [.int .i64 ((bZ l (a,b)).getD 0),.bool (bZ l (a,b)).isSome]):=by
 obtain ⟨d,hm,bf⟩:=Kr;have:=Nv (enc:=V.int .i64) (ok:=true) (Qb bf) (k:=(a,b)) hm Ks az;rw [show (V.agg [.int .i64 a,.int .i64 b])=yi (a,b) from rfl,this]
 cases bZ l (a,b)<;>simp [fg,gv]
theorem TW {h:I} {i cl:Nat} (l:sn) (a b v:Int) (az:h.get i=.map (vW l) cl):vB ds 191 (.map i) (.agg [.int .i64 a,.int .i64 b]) (.int .i64 v) h=some (h.set i (.map (vW (cW cl l (a,b) v)) (gj cl l (a,b)))):=by
 obtain ⟨d,hm,bf⟩:=Kr;exact Nw (enc:=V.int .i64) (Qb bf) (k:=(a,b)) hm az rfl
def uW (l:List bD) (es:sn):Prop:=∀ k n,(k=1∨k=10)→(bZ es (k,n)).isSome=l.any fun u=>u.kind==k&&u.n==n
theorem uW.nil:uW [] []:=fun k n _=>rfl
theorem uW.set {l:List bD} {es:sn} (a:uW l es) (v:bD) (cl:Nat) (x:Int):uW (l++[v]) (cW cl es (v.kind,v.n) x):=fun k n hk=>by
 rw [wX,ayW];simp only [ayX,aBp,avM];by_cases he:(k,n)=(v.kind,v.n)
 ·rw [if_pos he];cases he;simp
 ·rw [if_neg he,a k n hk];have:(v.kind==k&&v.n==n)=false:=by
   rw [aBq];intro U;simp only [VW,beq_iff_eq] at U;exact he (by rw [U.1,U.2])
  rw [this,avM]
theorem uW.skip {l:List bD} {es:sn} (a:uW l es) {v:bD} (aH:¬(v.kind=1∨v.kind=10)):uW (l++[v]) es:=fun k n hk=>by
 rw [a k n hk,ayW];simp only [ayX,aBp,avM];have:(v.kind==k&&v.n==n)=false:=by
  rw [aBq];intro U;simp only [VW,beq_iff_eq] at U;exact aH (by rw [U.1];exact hk)
 rw [this,avM]
theorem Ou {α:Type} {l:List α} {j:Nat} (p:α→Bool) (aV:j<l.length):(l.take (j+1)).any p=((l.take j).any p||p l[j]):=by
 rw [avt aV,ayW];simp
theorem CA {l:List bD} {q:Nat} (ab:q<l.length):hG ds 22 (.ah l.length (l.flatMap an)) (.int .i64 (q:Int))=some (.at (an l[q]++(l.drop (q+1)).flatMap an))∧(∀ r,cO (some none) (some (an l[q]++r))=some (.int .i64 (gA l (q:Int))))∧gA l (q:Int)=l[q].kind:=by
 have hk:gA l (q:Int)=l[q].kind:=by unfold gA;rw [avc,ME ab];rfl
 refine ⟨sX ki ab DY,fun r=>?_,hk⟩;rw [hk,qB];rfl
theorem El {v:bD} (fU:v.kind=9) (Qc:kj v=true):v.bc.length=2:=by
 simp only [kj,fU,uU,VW,decide_eq_true_eq] at Qc;have:=Qc.1;simp [kB] at this;omega
theorem TX {l:List Int} (aw:1<l.length):(if (1:Int)<((l.length:Nat):Int)∧Int.toNat 1 * 1≤(ar l).length then some (V.at (List.drop (Int.toNat 1 * 1) (ar l))) else none)=some (V.at (V.int .i64 l[1]::ar (l.drop 2))):=by
 rw [if_pos ⟨by omega,by rw [gi];show 1 * 1≤_;omega⟩]
 show some (V.at ((l.map (V.int .i64)).drop 1))=_;rw [←List.map_drop,avk aw];rfl
theorem apB:∀ q:Nat,q<11→cO (some (some 4)) (some (oB.drop (q * 4)))=some (.agg (Ot (kB.getD q (0,0,0,0))))
 | 0,_=>rfl
 | 1,_=>rfl
 | 2,_=>rfl
 | 3,_=>rfl
 | 4,_=>rfl
 | 5,_=>rfl
 | 6,_=>rfl
 | 7,_=>rfl
 | 8,_=>rfl
 | 9,_=>rfl
 | 10,_=>rfl
 | q+11,h=>by omega
theorem apC (l:List bD) (i m cl:Nat) (es:sn) (hi:i<l.length) (tW:l.length≤24) (v:bD) (aH:l[i]=v) (aY:h7 v.e) (lj:v.bc.length<2 ^ 47) (h:I) (az:jf h) (hm:m<h.n) (hh:h.get m=.map (vW es) cl) (cd:uW (l.take i) es) :
  af ds 100 [.ah l.length (l.flatMap an),.int .i64 (i:Nat),.map m] h (fun r h'=>r=.int .i64 (dh l i v)∧J h h' (·=m)∧(dh l i v=0→∃ fE yj,h'.get m=.map (vW fE) yj∧uW (l.take (i+1)) fE)):=by
 have fT:=qB v;have ft:=sX (kk:=.i64) (P:=ds) ki hi DY;rw [aH] at ft;have Qd:l.take (i+1)=l.take i++[v]:=by rw [avt hi,aH]
 have kg:∀ (q:List V),cO (some (some 6)) (some (an v++q))=some (.agg (an v)):=fun q=>lz (ki v);have cm:(V.agg (an v)).cells=some (an v):=rfl;have dV:bF (some 6) (aO.cells [.int .i64 0,.ag,.int .i64 0,.int .i64 0,.ag,.int .i64 0] 68 none) 0 (an v)=some (.cells (an v) 68 none):=by
  rw [sR (n:=6) (ki v) (A5 v),if_pos (by decide),fT];rfl
 have ew:cO (some none) (some (an v))=some (.int .i64 v.kind):=by rw [fT];rfl
 have fN:cP (aO.cells (an v) 68 none) 0=some (an v):=by rw [fT];rfl
 have ga:cP (aO.cells (an v) 68 none) 1=some [.ah v.bc.length (ar v.bc),.int .i64 v.e.op,.int .i64 v.e.num,.ah v.e.aQ.length (v.e.aQ.flatMap aE),.int .i64 v.n]:=by rw [fT];rfl
 have uV:cP (aO.cells (an v) 68 none) 5=some [.int .i64 v.n]:=by rw [fT];rfl
 have k4:cO (some (some 6)) (some (an v))=some (.agg (an v)):=by rw [fT];rfl
 obtain ⟨H,hH⟩:∃ x,x=h.push (.cells (an v) 68 none):=⟨_,rfl⟩;have tX:H.get h.n=.cells (an v) 68 none:=by rw [hH];exact ck
 have bw:J h H none_:=by rw [hH];exact J.push _ _ _
 have ju:H.n=h.n+1:=by rw [hH];rfl
 have r8:jf H:=az.ai bw;have zN:H.get m=.map (vW es) cl:=(bw.get m hm (by simp [none_])).trans hh
 refine af.au (c:=_) Tryz.func100 rfl (by kernel_rfl) (by simp) ?_
 by_cases h1:v.kind<1
 ·have bb:decide (v.kind<1)=true:=by simpa using h1
  have bk:dh l i v=1:=by unfold dh;rw [if_pos (.inl h1)]
  simp only [ae,vt,reduceCtorEq,hd,aW,om,pZ,p0,ft,kg,cm,dV,←hH,tX,ew,fN,bb,aS,avy,ac];exact ax ⟨by rw [bk],bw.up,fun U=>by rw [bk] at U;cases U⟩
 have bb:decide (v.kind<1)=false:=by simpa using h1
 by_cases ad:10<v.kind
 ·have bt:decide (10<v.kind)=true:=by simpa using ad
  have bk:dh l i v=1:=by unfold dh;rw [if_pos (.inr ad)]
  simp only [ae,vt,reduceCtorEq,hd,aW,om,pZ,p0,ft,kg,cm,dV,←hH,tX,ew,fN,bb,bt,aS,avy,ac];exact ax ⟨by rw [bk],bw.up,fun U=>by rw [bk] at U;cases U⟩
 have bt:decide (10<v.kind)=false:=by simpa using ad
 simp only [ae,vt,reduceCtorEq,hd,rl,gy,aW,hz,om,pZ,p0,ft,kg,cm,dV,←hH,tX,ew,fN,ga,bb,bt];refine aZ.bQ (α:=Nat) (fun j f h'=>f 0=.ah l.length (l.flatMap an)∧f 1=.int .i64 (i:Nat)∧f 2=.map m∧f 7=.ptr h.n 0∧f 28=.ah v.bc.length (ar v.bc)∧f 29=.int .i64 ((v.bc.length:Nat):Int)∧f 30=.int .i64 (j:Nat)∧j≤v.bc.length∧h'=H∧((v.bc.take j).any fun f=>decide (f<0∨(i:Int)≤f))=false) (fun j=>v.bc.length - j) 0 ⟨rfl,rfl,rfl,rfl,rfl,rfl,rfl,Dc _,rfl,rfl⟩ ?_
 rintro j f h' ⟨f0,f1,f2,f7,f28,f29,f30,aV,rfl,jD⟩
 refine ee (by kernel_rfl) ?_
 by_cases aM:j<v.bc.length
 ·have c3:decide ((j:Int)<((v.bc.length:Nat):Int))=true:=by simp only [decide_eq_true_eq];omega
  have cy:=tH (P:=ds) (kk:=.i64) aM jI;have bS:IntKind.i64.wrap (((j:Nat):Int)+1)=((j+1:Nat):Int):=by rw [Go.IntWalk.i64_in _ (by omega)];omega
  have fr:=Ou (fun f=>decide (f<0∨(i:Int)≤f)) aM;have cU:v.bc[j] ∈ v.bc:=avb aM;generalize v.bc[j]=A at cy fr cU;have bad:∀ al:A<0∨(i:Int)≤A,dh l i v=2:=fun al=>by
   unfold dh;rw [if_neg (by omega),if_pos (awu.2 ⟨A,cU,by simpa using al⟩)]
  by_cases fv:A<0
  ·have d1:decide (A<0)=true:=by simpa using fv
   simp only [ae,vt,aW,f28,f29,f30,c3,cy,d1,aS,avy,ac];exact ax ⟨by rw [bad (.inl fv)],bw.up,fun U=>by rw [bad (.inl fv)] at U;cases U⟩
  have d1:decide (A<0)=false:=by simpa using fv
  by_cases dy:(i:Int)≤A
  ·have d2:decide ((i:Int)≤A)=true:=by simpa using dy
   simp only [ae,vt,aW,f1,f28,f29,f30,c3,cy,d1,d2,aS,avy,ac];exact ax ⟨by rw [bad (.inr dy)],bw.up,fun U=>by rw [bad (.inr dy)] at U;cases U⟩
  have d2:decide ((i:Int)≤A)=false:=by simpa using dy
  simp only [ae,vt,aW,f1,f28,f29,f30,c3,cy,d1,d2,bS];exact ax ⟨j+1,⟨f0,f1,f2,f7,f28,f29,rfl,by omega,rfl,by rw [fr,jD];simp [fv,dy]⟩,by omega⟩
 have c3:decide ((j:Int)<((v.bc.length:Nat):Int))=false:=by simp only [decide_eq_false_iff_not];omega
 rw [are (by omega)] at jD
 have mY:∀ x ∈ v.bc,0≤x∧x<i:=fun x aj=>by
  rw [awE] at jD;have:=jD x aj;simp only [decide_eq_true_eq] at this;omega
 simp only [ae,f29,f30,c3];have r2:∀ f:ak,ak.eval f h' (.global 1)=.at oB:=fun f=>H4 r8.2;have fq:(if (0:Int)≤v.kind∧v.kind<((11:Nat):Int)∧(v.kind.toNat * 4)≤oB.length then some (V.at (oB.drop (v.kind.toNat * 4))) else none)=some (.at (oB.drop (v.kind.toNat * 4))):=if_pos ⟨by omega,by omega,by show _≤44;omega⟩
 have TY:=apB v.kind.toNat (by omega)
 have eh:¬(v.kind<1∨10<v.kind):=by omega
 have oq:¬((v.bc.any fun f=>decide (f<0∨(i:Int)≤f))=true):=by rw [jD];simp
 refine aZ.bB none_ [] (.q 0 (.q 1 (.q 2 (.q 3 (.q 4 (.c 5 (.q 6 .done))))))) (by kernel_rfl) (by kernel_rfl) (by kernel_rfl) ?_
 simp only [ae,bM,vt,als,hd,amT,aW,om,ane,f7,tX,fN,ew,k4,r2,fq,TY];refine j6 rfl rfl rfl (fun wK hk=>apx v _ aY wK (r8.or r8 hk).1) ?_;have Kt:uU v (kB.getD v.kind.toNat (0,0,0,0))=kj v:=rfl;cases eP:kj v
 ·have bk:dh l i v=5:=by unfold dh;rw [if_neg eh,if_neg oq,if_pos eP]
  simp only [ae,bM,vt,Kt,eP,aS,avy,ac];exact ax ⟨by rw [bk],bw.up,fun U=>by rw [bk] at U;cases U⟩
 simp only [ae,bM,vt,hd,Kt,eP];have pC:¬(kj v=false):=by rw [eP];simp
 have aG:(V.agg [.int .i64 v.kind,.int .i64 v.n]).cells=some [.int .i64 v.kind,.int .i64 v.n]:=rfl;by_cases aa:v.kind=1∨v.kind=10
 ·obtain ⟨G6,yk⟩:∃ x,x=h'.push (.cells [.int .i64 v.kind,.int .i64 v.n] 248 none):=⟨_,rfl⟩;have mW:G6.get h'.n=.cells [.int .i64 v.kind,.int .i64 v.n] 248 none:=by rw [yk];exact ck
  have b9:J h' G6 none_:=by rw [yk];exact J.push _ _ _
  have aa0:G6.get h.n=.cells (an v) 68 none:=(b9.get h.n (by omega) (by simp [none_])).trans tX
  have Qe:G6.get m=.map (vW es) cl:=(b9.get m (by omega) (by simp [none_])).trans zN
  have iQ:=apA es v.kind v.n Qe;have so:=TW es v.kind v.n (i:Nat) Qe;have TZ:(bZ es (v.kind,v.n)).isSome=Ei l i v:=by
   rw [cd v.kind v.n aa];unfold Ei;rcases aa with aa | aa<;>rw [aa]<;>rfl
  rw [TZ] at iQ;have Qf:((v.kind==1)=true∧(v.kind==10)=false)∨((v.kind==1)=false∧(v.kind==10)=true):=by
   rcases aa with aa | aa<;>rw [aa]<;>simp
  cases nv:Ei l i v
  ·rw [nv] at iQ;obtain ⟨w3,uX⟩:∃ x,x=G6.set m (.map (vW (cW cl es (v.kind,v.n) (i:Nat))) (gj cl es (v.kind,v.n))):=⟨_,rfl⟩;have cY:J G6 w3 (·=m):=by rw [uX];exact J.set _ _ _
   have vX:w3.get h.n=.cells (an v) 68 none:=(cY.get h.n (by rw [yk,dq];omega) (by omega)).trans aa0
   have aa1:w3.get m=.map (vW (cW cl es (v.kind,v.n) (i:Nat))) (gj cl es (v.kind,v.n)):=by rw [uX];exact aT
   have sq:J h w3 (·=m):=((bw.trans' b9).up).trans' cY;have kT:∃ fE yj,w3.get m=.map (vW fE) yj∧uW (l.take (i+1)) fE:=⟨_,_,aa1,by rw [Qd];exact cd.set v _ _⟩
   rcases Qf with ⟨c5,h6⟩ | ⟨c5,h6⟩
   ·simp only [ae,vt,AS,By,hd,rl,B7,gy,du,wl,aW,hz,NV,N0,N2,f1,f2,f7,tX,ew,fN,ga,uV,c5,aG,←yk,mW,iQ,so,←uX,vX];refine aZ.bQ (α:=Nat) (fun j f h1=>f 0=.ah l.length (l.flatMap an)∧f 7=.ptr h.n 0∧f 73=.ah v.bc.length (ar v.bc)∧f 74=.int .i64 ((v.bc.length:Nat):Int)∧f 75=.int .i64 (j:Nat)∧j≤v.bc.length∧h1=w3∧((v.bc.take j).any fun f=>gA l f==10)=false) (fun j=>v.bc.length - j) 0 ⟨f0,f7,rfl,rfl,rfl,Dc _,rfl,rfl⟩ ?_
    rintro jc Qg h1 ⟨g0,g7,sr,k6,na,tq,rfl,cr⟩
    refine ee (by kernel_rfl) ?_
    by_cases iX:jc<v.bc.length
    ·have kS:decide ((jc:Int)<((v.bc.length:Nat):Int))=true:=by simp only [decide_eq_true_eq];omega
     have cy:=tH (P:=ds) (kk:=.i64) iX jI;have bS:IntKind.i64.wrap (((jc:Nat):Int)+1)=((jc+1:Nat):Int):=by rw [Go.IntWalk.i64_in _ (by omega)];omega
     have fr:=Ou (fun f=>gA l f==10) iX;have cU:v.bc[jc] ∈ v.bc:=avb iX;generalize v.bc[jc]=A at cy fr cU;obtain ⟨pr,sS⟩:=mY A cU;obtain ⟨q,rfl⟩:∃ q:Nat,A=(q:Int):=⟨A.toNat,by omega⟩
     obtain ⟨eN,ir,jv⟩:=CA (l:=l) (q:=q) (by omega)
     cases gO:(gA l (q:Int)==10)
     ·simp only [ae,vt,reduceCtorEq,hd,aW,g0,sr,k6,na,kS,cy,eN,ir,gO,bS];exact ax ⟨jc+1,⟨g0,g7,sr,k6,rfl,by omega,rfl,by rw [fr,cr,gO];rfl⟩,by omega⟩
     ·have bk:dh l i v=5:=by
       unfold dh;rw [if_neg eh,if_neg oq,if_neg pC,if_neg (by rw [nv];simp),if_pos (awu.2 ⟨_,cU,gO⟩)]
      simp only [ae,vt,reduceCtorEq,hd,aW,g0,sr,k6,na,kS,cy,eN,ir,gO,aS,avy,ac];exact ax ⟨by rw [bk],sq,fun U=>by rw [bk] at U;cases U⟩
    have kS:decide ((jc:Int)<((v.bc.length:Nat):Int))=false:=by simp only [decide_eq_false_iff_not];omega
    rw [are (by omega)] at cr
    have l7:¬((v.bc.any fun f=>gA l f==10)=true):=by rw [cr];simp
    by_cases fU:v.kind=9
    ·have gO:(v.kind==9)=true:=by simp [fU]
     have hlen:v.bc.length=2:=El fU eP;have cy:=TX (l:=v.bc) (by omega)
     have pQ:v.bc.getD 1 0=v.bc[1]:=by rw [ava,ME (by omega)];rfl
     have cU:v.bc[1] ∈ v.bc:=avb _;have bk:dh l i v=if v.kind=9∧gA l v.bc[1]≠6 then 5 else 0:=by
      unfold dh;rw [if_neg eh,if_neg oq,if_neg pC,if_neg (by rw [nv];simp),if_neg l7,pQ]
     generalize v.bc[1]=A at cy cU bk;obtain ⟨pr,sS⟩:=mY A cU;obtain ⟨q,rfl⟩:∃ q:Nat,A=(q:Int):=⟨A.toNat,by omega⟩
     obtain ⟨eN,ir,jv⟩:=CA (l:=l) (q:=q) (by omega)
     by_cases c6:gA l (q:Int)=6
     ·have gZ:(gA l (q:Int) !=6)=false:=by simp [c6]
      rw [if_neg (by simp [c6])] at bk
      simp only [ae,awi,vt,reduceCtorEq,DM,hd,rl,aW,hz,jI,g0,g7,k6,na,kS,gO,vX,ew,fN,ga,cy,eN,ir,gZ,aS,avy,ac];exact ax ⟨by rw [bk],sq,fun _=>kT⟩
     ·have gZ:(gA l (q:Int) !=6)=true:=by simp [c6]
      rw [if_pos ⟨fU,c6⟩] at bk;simp only [ae,awi,vt,reduceCtorEq,DM,hd,rl,aW,hz,jI,g0,g7,k6,na,kS,gO,vX,ew,fN,ga,cy,eN,ir,gZ,aS,avy,ac];exact ax ⟨by rw [bk],sq,fun U=>by rw [bk] at U;cases U⟩
    ·have gO:(v.kind==9)=false:=by simp [fU]
     have bk:dh l i v=0:=by
      unfold dh;rw [if_neg eh,if_neg oq,if_neg pC,if_neg (by rw [nv];simp),if_neg l7,if_neg (by simp [fU])]
     simp only [ae,vt,hd,aW,g7,k6,na,kS,gO,vX,ew,fN,aS,avy,ac];exact ax ⟨by rw [bk],sq,fun _=>kT⟩
   ·simp only [ae,vt,AS,By,hd,rl,B7,gy,du,wl,aW,hz,NV,N0,N2,f1,f2,f7,tX,ew,fN,ga,uV,c5,h6,aG,←yk,mW,iQ,so,←uX,vX];refine aZ.bQ (α:=Nat) (fun j f h1=>f 0=.ah l.length (l.flatMap an)∧f 7=.ptr h.n 0∧f 73=.ah v.bc.length (ar v.bc)∧f 74=.int .i64 ((v.bc.length:Nat):Int)∧f 75=.int .i64 (j:Nat)∧j≤v.bc.length∧h1=w3∧((v.bc.take j).any fun f=>gA l f==10)=false) (fun j=>v.bc.length - j) 0 ⟨f0,f7,rfl,rfl,rfl,Dc _,rfl,rfl⟩ ?_
    rintro jc Qg h1 ⟨g0,g7,sr,k6,na,tq,rfl,cr⟩
    refine ee (by kernel_rfl) ?_
    by_cases iX:jc<v.bc.length
    ·have kS:decide ((jc:Int)<((v.bc.length:Nat):Int))=true:=by simp only [decide_eq_true_eq];omega
     have cy:=tH (P:=ds) (kk:=.i64) iX jI;have bS:IntKind.i64.wrap (((jc:Nat):Int)+1)=((jc+1:Nat):Int):=by rw [Go.IntWalk.i64_in _ (by omega)];omega
     have fr:=Ou (fun f=>gA l f==10) iX;have cU:v.bc[jc] ∈ v.bc:=avb iX;generalize v.bc[jc]=A at cy fr cU;obtain ⟨pr,sS⟩:=mY A cU;obtain ⟨q,rfl⟩:∃ q:Nat,A=(q:Int):=⟨A.toNat,by omega⟩
     obtain ⟨eN,ir,jv⟩:=CA (l:=l) (q:=q) (by omega)
     cases gO:(gA l (q:Int)==10)
     ·simp only [ae,vt,reduceCtorEq,hd,aW,g0,sr,k6,na,kS,cy,eN,ir,gO,bS];exact ax ⟨jc+1,⟨g0,g7,sr,k6,rfl,by omega,rfl,by rw [fr,cr,gO];rfl⟩,by omega⟩
     ·have bk:dh l i v=5:=by
       unfold dh;rw [if_neg eh,if_neg oq,if_neg pC,if_neg (by rw [nv];simp),if_pos (awu.2 ⟨_,cU,gO⟩)]
      simp only [ae,vt,reduceCtorEq,hd,aW,g0,sr,k6,na,kS,cy,eN,ir,gO,aS,avy,ac];exact ax ⟨by rw [bk],sq,fun U=>by rw [bk] at U;cases U⟩
    have kS:decide ((jc:Int)<((v.bc.length:Nat):Int))=false:=by simp only [decide_eq_false_iff_not];omega
    rw [are (by omega)] at cr
    have l7:¬((v.bc.any fun f=>gA l f==10)=true):=by rw [cr];simp
    by_cases fU:v.kind=9
    ·have gO:(v.kind==9)=true:=by simp [fU]
     have hlen:v.bc.length=2:=El fU eP;have cy:=TX (l:=v.bc) (by omega)
     have pQ:v.bc.getD 1 0=v.bc[1]:=by rw [ava,ME (by omega)];rfl
     have cU:v.bc[1] ∈ v.bc:=avb _;have bk:dh l i v=if v.kind=9∧gA l v.bc[1]≠6 then 5 else 0:=by
      unfold dh;rw [if_neg eh,if_neg oq,if_neg pC,if_neg (by rw [nv];simp),if_neg l7,pQ]
     generalize v.bc[1]=A at cy cU bk;obtain ⟨pr,sS⟩:=mY A cU;obtain ⟨q,rfl⟩:∃ q:Nat,A=(q:Int):=⟨A.toNat,by omega⟩
     obtain ⟨eN,ir,jv⟩:=CA (l:=l) (q:=q) (by omega)
     by_cases c6:gA l (q:Int)=6
     ·have gZ:(gA l (q:Int) !=6)=false:=by simp [c6]
      rw [if_neg (by simp [c6])] at bk
      simp only [ae,awi,vt,reduceCtorEq,DM,hd,rl,aW,hz,jI,g0,g7,k6,na,kS,gO,vX,ew,fN,ga,cy,eN,ir,gZ,aS,avy,ac];exact ax ⟨by rw [bk],sq,fun _=>kT⟩
     ·have gZ:(gA l (q:Int) !=6)=true:=by simp [c6]
      rw [if_pos ⟨fU,c6⟩] at bk;simp only [ae,awi,vt,reduceCtorEq,DM,hd,rl,aW,hz,jI,g0,g7,k6,na,kS,gO,vX,ew,fN,ga,cy,eN,ir,gZ,aS,avy,ac];exact ax ⟨by rw [bk],sq,fun U=>by rw [bk] at U;cases U⟩
    ·have gO:(v.kind==9)=false:=by simp [fU]
     have bk:dh l i v=0:=by
      unfold dh;rw [if_neg eh,if_neg oq,if_neg pC,if_neg (by rw [nv];simp),if_neg l7,if_neg (by simp [fU])]
     simp only [ae,vt,hd,aW,g7,k6,na,kS,gO,vX,ew,fN,aS,avy,ac];exact ax ⟨by rw [bk],sq,fun _=>kT⟩
  ·rw [nv] at iQ;have bk:dh l i v=12:=by unfold dh;rw [if_neg eh,if_neg oq,if_neg pC,if_pos nv]
   rcases Qf with ⟨c5,h6⟩ | ⟨c5,h6⟩
   ·simp only [ae,vt,AS,By,hd,B7,du,wl,aW,NV,N0,N2,f2,f7,tX,ew,fN,uV,c5,aG,←yk,mW,iQ,aS,avy,ac];exact ax ⟨by rw [bk],(bw.trans' b9).up,fun U=>by rw [bk] at U;cases U⟩
   ·simp only [ae,vt,AS,By,hd,B7,du,wl,aW,NV,N0,N2,f2,f7,tX,ew,fN,uV,c5,h6,aG,←yk,mW,iQ,aS,avy,ac];exact ax ⟨by rw [bk],(bw.trans' b9).up,fun U=>by rw [bk] at U;cases U⟩
 ·have c5:(v.kind==1)=false:=by simp;omega
  have h6:(v.kind==10)=false:=by simp;omega
  have nv:Ei l i v=false:=by unfold Ei;rw [c5,h6];rfl
  obtain ⟨w3,uX⟩:∃ x,x=h':=⟨_,rfl⟩;have kT:∃ fE yj,w3.get m=.map (vW fE) yj∧uW (l.take (i+1)) fE:=⟨_,_,by rw [uX];exact zN,by rw [Qd];exact cd.skip aa⟩
  have sq:J h w3 (·=m):=by rw [uX];exact bw.up
  have vX:w3.get h.n=.cells (an v) 68 none:=by rw [uX];exact tX
  simp only [ae,vt,hd,rl,gy,aW,hz,f7,←uX,vX,ew,fN,ga,c5,h6];refine aZ.bQ (α:=Nat) (fun j f h1=>f 0=.ah l.length (l.flatMap an)∧f 7=.ptr h.n 0∧f 73=.ah v.bc.length (ar v.bc)∧f 74=.int .i64 ((v.bc.length:Nat):Int)∧f 75=.int .i64 (j:Nat)∧j≤v.bc.length∧h1=w3∧((v.bc.take j).any fun f=>gA l f==10)=false) (fun j=>v.bc.length - j) 0 ⟨f0,f7,rfl,rfl,rfl,Dc _,rfl,rfl⟩ ?_
  rintro jc Qg h1 ⟨g0,g7,sr,k6,na,tq,rfl,cr⟩
  refine ee (by kernel_rfl) ?_
  by_cases iX:jc<v.bc.length
  ·have kS:decide ((jc:Int)<((v.bc.length:Nat):Int))=true:=by simp only [decide_eq_true_eq];omega
   have cy:=tH (P:=ds) (kk:=.i64) iX jI;have bS:IntKind.i64.wrap (((jc:Nat):Int)+1)=((jc+1:Nat):Int):=by rw [Go.IntWalk.i64_in _ (by omega)];omega
   have fr:=Ou (fun f=>gA l f==10) iX;have cU:v.bc[jc] ∈ v.bc:=avb iX;generalize v.bc[jc]=A at cy fr cU;obtain ⟨pr,sS⟩:=mY A cU;obtain ⟨q,rfl⟩:∃ q:Nat,A=(q:Int):=⟨A.toNat,by omega⟩
   obtain ⟨eN,ir,jv⟩:=CA (l:=l) (q:=q) (by omega)
   cases gO:(gA l (q:Int)==10)
   ·simp only [ae,vt,reduceCtorEq,hd,aW,g0,sr,k6,na,kS,cy,eN,ir,gO,bS];exact ax ⟨jc+1,⟨g0,g7,sr,k6,rfl,by omega,rfl,by rw [fr,cr,gO];rfl⟩,by omega⟩
   ·have bk:dh l i v=5:=by
     unfold dh;rw [if_neg eh,if_neg oq,if_neg pC,if_neg (by rw [nv];simp),if_pos (awu.2 ⟨_,cU,gO⟩)]
    simp only [ae,vt,reduceCtorEq,hd,aW,g0,sr,k6,na,kS,cy,eN,ir,gO,aS,avy,ac];exact ax ⟨by rw [bk],sq,fun U=>by rw [bk] at U;cases U⟩
  have kS:decide ((jc:Int)<((v.bc.length:Nat):Int))=false:=by simp only [decide_eq_false_iff_not];omega
  rw [are (by omega)] at cr
  have l7:¬((v.bc.any fun f=>gA l f==10)=true):=by rw [cr];simp
  by_cases fU:v.kind=9
  ·have gO:(v.kind==9)=true:=by simp [fU]
   have hlen:v.bc.length=2:=El fU eP;have cy:=TX (l:=v.bc) (by omega)
   have pQ:v.bc.getD 1 0=v.bc[1]:=by rw [ava,ME (by omega)];rfl
   have cU:v.bc[1] ∈ v.bc:=avb _;have bk:dh l i v=if v.kind=9∧gA l v.bc[1]≠6 then 5 else 0:=by
    unfold dh;rw [if_neg eh,if_neg oq,if_neg pC,if_neg (by rw [nv];simp),if_neg l7,pQ]
   generalize v.bc[1]=A at cy cU bk;obtain ⟨pr,sS⟩:=mY A cU;obtain ⟨q,rfl⟩:∃ q:Nat,A=(q:Int):=⟨A.toNat,by omega⟩
   obtain ⟨eN,ir,jv⟩:=CA (l:=l) (q:=q) (by omega)
   by_cases c6:gA l (q:Int)=6
   ·have gZ:(gA l (q:Int) !=6)=false:=by simp [c6]
    rw [if_neg (by simp [c6])] at bk
    simp only [ae,awi,vt,reduceCtorEq,DM,hd,rl,aW,hz,jI,g0,g7,k6,na,kS,gO,vX,ew,fN,ga,cy,eN,ir,gZ,aS,avy,ac];exact ax ⟨by rw [bk],sq,fun _=>kT⟩
   ·have gZ:(gA l (q:Int) !=6)=true:=by simp [c6]
    rw [if_pos ⟨fU,c6⟩] at bk;simp only [ae,awi,vt,reduceCtorEq,DM,hd,rl,aW,hz,jI,g0,g7,k6,na,kS,gO,vX,ew,fN,ga,cy,eN,ir,gZ,aS,avy,ac];exact ax ⟨by rw [bk],sq,fun U=>by rw [bk] at U;cases U⟩
  ·have gO:(v.kind==9)=false:=by simp [fU]
   have bk:dh l i v=0:=by
    unfold dh;rw [if_neg eh,if_neg oq,if_neg pC,if_neg (by rw [nv];simp),if_neg l7,if_neg (by simp [fU])]
   simp only [ae,vt,hd,aW,g7,k6,na,kS,gO,vX,ew,fN,aS,avy,ac];exact ax ⟨by rw [bk],sq,fun _=>kT⟩
def cT (l:List bD) (p:Int):List V:=[.ah l.length (l.flatMap an),.int .i64 p]
theorem aa2 (l:List bD) (p:Int):a1 (cT l p):=a1.cons (a7.ah (AA aoB _)) (a1.cons (a7.int _ _) a1.nil)
def k7 (l:List bD):Prop:=l.length<2 ^ 47∧∀ v ∈ l,zM v
def qC (q:Int×Int):V:=.tuple [.int .i64 q.1,.int .i64 q.2]
theorem Ov (l:List bD) (p:Int) (aY:k7 l) (h:I) (az:jf h):Pure ds 59 [.agg (cT l p)] h (qC (ch p l)):=by
 have qq:a7 (qC (ch p l)):=a7.tuple (a1.cons (a7.int _ _) (a1.cons (a7.int _ _) a1.nil));refine Pure.val qq ?_;have ay:(V.agg (cT l p)).cells=some [.ah l.length (l.flatMap an),.int .i64 p]:=rfl;obtain ⟨H,hH⟩:∃ x,x=h.push (.cells [.ah l.length (l.flatMap an),.int .i64 p] 24 none):=⟨_,rfl⟩;have gt:H.get h.n=.cells [.ah l.length (l.flatMap an),.int .i64 p] 24 none:=by rw [hH];exact ck
 have bw:J h H none_:=by rw [hH];exact J.push _ _ _
 have ju:H.n=h.n+1:=by rw [hH];rfl
 refine af.au (c:=_) Tryz.func59 rfl (by kernel_rfl) (by simp) ?_
 by_cases h1:p<1
 ·have bb:decide (p<1)=true:=by simpa using h1
  have bk:ch p l=(-1,2):=if_pos (.inl h1);simp only [ae,MD,vt,AS,By,fd,aW,ay,←hH,gt,bb,aS,awX,c9];exact ax ⟨by rw [bk];rfl,bw⟩
 have bb:decide (p<1)=false:=by simpa using h1
 by_cases ad:8<p
 ·have bt:decide (8<p)=true:=by simpa using ad
  have bk:ch p l=(-1,2):=if_pos (.inr (.inl ad));simp only [ae,MD,vt,AS,By,fd,aW,ay,←hH,gt,bb,bt,aS,awX,c9];exact ax ⟨by rw [bk];rfl,bw⟩
 have bt:decide (8<p)=false:=by simpa using ad
 by_cases aD:l.length=0
 ·have c3:(((l.length:Nat):Int)==0)=true:=by simp [aD]
  have bk:ch p l=(-1,2):=if_pos (.inr (.inr (.inl aD)));simp only [ae,MD,vt,AS,By,lZ,fd,rn,mw,aW,ay,←hH,gt,bb,bt,c3,aS,awX,c9];exact ax ⟨by rw [bk];rfl,bw⟩
 have c3:(((l.length:Nat):Int)==0)=false:=by simp only [beq_eq_false_iff_ne,ne_eq];omega
 by_cases bn:24<l.length
 ·have eP:decide ((24:Int)<((l.length:Nat):Int))=true:=by simp only [decide_eq_true_eq];omega
  have bk:ch p l=(-1,2):=if_pos (.inr (.inr (.inr bn)));simp only [ae,MD,vt,AS,By,lZ,fd,rn,mw,aW,ay,←hH,gt,bb,bt,c3,eP,aS,awX,c9];exact ax ⟨by rw [bk];rfl,bw⟩
 have eP:decide ((24:Int)<((l.length:Nat):Int))=false:=by simp only [decide_eq_false_iff_not];omega
 have bk:ch p l=oC l 0 l:=if_neg (by omega)
 obtain ⟨Ow,CB⟩:∃ x,x=H.push (.map [] 0):=⟨_,rfl⟩;have Qh:Ow.get h.n=.cells [.ah l.length (l.flatMap an),.int .i64 p] 24 none:=by rw [CB];exact (lx (by omega)).trans gt
 have Em:J h Ow none_:=by rw [CB];exact bw.bH _
 have aa3:Ow.get H.n=.map (vW []) 0:=by rw [CB];exact ck
 have auM:Ow.n=H.n+1:=by rw [CB];rfl
 simp only [ae,MD,vt,AS,By,lZ,fd,rn,mw,aW,ay,←hH,gt,bb,bt,c3,eP,←CB,Qh];refine aZ.bQ (α:=Nat×sn×Nat) (fun x f h'=>f 1=.ptr h.n 0∧f 4=.map H.n∧f 30=.int .i64 ((l.length:Nat):Int)∧f 31=.int .i64 (x.1:Nat)∧x.1≤l.length∧J h h' none_∧H.n<h'.n∧h'.get h.n=.cells [.ah l.length (l.flatMap an),.int .i64 p] 24 none∧h'.get H.n=.map (vW x.2.1) x.2.2∧uW (l.take x.1) x.2.1∧oC l 0 l=oC l x.1 (l.drop x.1)) (fun x=>l.length - x.1) (0,[],0) ⟨rfl,rfl,rfl,rfl,Dc _,Em,by omega,Qh,aa3,uW.nil,rfl⟩ ?_
 rintro ⟨i,es,cl⟩ f h1 ⟨f1,f4,f30,f31,hi,bJ,fv,g1,hh,cd,bL⟩
 simp only at f31 hi hh cd bL;refine ee (by kernel_rfl) ?_
 by_cases aM:i<l.length
 ·have c5:decide ((i:Int)<((l.length:Nat):Int))=true:=by simp only [decide_eq_true_eq];omega
  rw [avk aM] at bL;obtain ⟨Qi,Ku,_⟩:=aY.2 _ (avb aM);have bS:IntKind.i64.wrap (((i:Nat):Int)+1)=((i+1:Nat):Int):=by rw [Go.IntWalk.i64_in _ (by omega)];omega
  simp only [ae,vt,AS,lZ,mw,f1,f4,f30,f31,c5,g1];refine cB alu (apC l i H.n cl es aM (by omega) _ rfl Qi Ku h1 (az.ai bJ) fv hh cd) fun r ad ⟨aC,ba,kT⟩=>?_
  subst aC;have b2:J h ad none_:=bJ.trans ba fun k hk BS=>by omega
  have BJ:=ba.n;have g2:=(ba.get h.n (by omega) (by omega)).trans g1
  replace bL:oC l 0 l=if dh l i l[i]=0 then oC l (i+1) (l.drop (i+1)) else ((i:Int),dh l i l[i]):=bL
  by_cases aK:dh l i l[i]=0
  ·have h6:(dh l i l[i] !=0)=false:=by simp [aK]
   obtain ⟨fE,yj,cX,dT⟩:=kT aK;rw [if_pos aK] at bL;simp only [ae,MD,vt,f31,h6,bS];exact ax ⟨(i+1,fE,yj),⟨f1,f4,f30,rfl,by simp only;omega,b2,by omega,g2,cX,dT,bL⟩,by simp only;omega⟩
  ·have h6:(dh l i l[i] !=0)=true:=by simp [aK]
   rw [if_neg aK] at bL;simp only [ae,MD,vt,h6,aS,awX,c9];exact ax ⟨by rw [bk,bL];rfl,b2⟩
 ·have c5:decide ((i:Int)<((l.length:Nat):Int))=false:=by simp only [decide_eq_false_iff_not];omega
  rw [avZ (by omega)] at bL
  simp only [ae,MD,vt,f30,f31,c5,aS,awX,c9];exact ax ⟨by rw [bk,bL];rfl,bJ⟩
theorem En (h:I) (x:Int):ie ds 46 1 [(0,.int .i64 x)] h=some (.bj h.n 0 1 1,h.push (.cells [.int .i64 x] 3 none)):=by rw [lY oU];rfl
theorem Ox (l:List Int) (x:Int) (aw:l.length<2 ^ 47) (h:I):Pure ds 73 [.ah l.length (ar l),.int .i64 x] h (.bool (l.contains x)):=by
 have fq:af ds 112 [.ah l.length (ar l),.int .i64 x] h (fun r h'=>(∃ k:Int,r=.int .i64 k∧(decide (0≤k))=l.contains x)∧h'=h):=by
  refine af.au (c:=_) Tryz.func112 rfl (by kernel_rfl) (by simp) ?_
  simp only [ae,MD,vt,reduceCtorEq,gy];refine aZ.bQ (α:=Nat) (fun j f h'=>f 0=.ah l.length (ar l)∧f 1=.int .i64 x∧f 7=.int .i64 ((l.length:Nat):Int)∧f 8=.int .i64 (j:Nat)∧j≤l.length∧h'=h∧l.contains x=(l.drop j).contains x) (fun j=>l.length - j) 0 ⟨rfl,rfl,rfl,rfl,Dc _,rfl,rfl⟩ ?_
  rintro j f h1 ⟨f0,f1,f7,f8,aV,rfl,bL⟩
  refine ee (by kernel_rfl) ?_
  by_cases aM:j<l.length
  ·have c5:decide ((j:Int)<((l.length:Nat):Int))=true:=by simp only [decide_eq_true_eq];omega
   rw [avk aM,List.contains_cons] at bL;have cy:=tH (P:=ds) (kk:=.i64) aM jI;generalize l[j]=A at *;have bS:IntKind.i64.wrap (((j:Nat):Int)+1)=((j+1:Nat):Int):=by rw [Go.IntWalk.i64_in _ (by omega)];omega
   cases h6:(x==A)
   ·simp only [ae,MD,vt,reduceCtorEq,aW,f0,f1,f7,f8,c5,cy,h6,bS];rw [h6,Bool.false_or] at bL;exact ax ⟨j+1,⟨f0,f1,f7,rfl,by omega,rfl,bL⟩,by omega⟩
   ·simp only [ae,MD,vt,reduceCtorEq,aW,f0,f1,f7,f8,c5,cy,h6,aS,aBr,ac];rw [h6,Bool.true_or] at bL;exact ax ⟨⟨_,rfl,by rw [bL];simp⟩,rfl⟩
  ·have c5:decide ((j:Int)<((l.length:Nat):Int))=false:=by simp only [decide_eq_false_iff_not];omega
   rw [avZ (by omega)] at bL
   simp only [ae,MD,vt,f7,f8,c5,aS,aBr,ac];exact ax ⟨⟨_,rfl,by rw [bL];rfl⟩,rfl⟩
 refine af.au (c:=_) Tryz.func73 rfl (by kernel_rfl) (by simp) ?_
 simp only [ae,vt,reduceCtorEq];refine cB aly fq fun r h1 ⟨⟨k,aC,bd⟩,ev⟩=>?_;subst aC ev;simp only [ae,vt,aS,Tryz.results73,ac];exact ax ⟨by rw [bd],rfl⟩
theorem aa4 (l:List bD) (p v:Int) (aY:k7 l) (aw:l.length≤2 ^ 40) (h:I):Pure ds 71 [.agg (cT l p),.int .i64 v] h (.ah (ha v 0 l).length (ar (ha v 0 l))):=by
 refine Pure.acc (e:=3) (sz:=1) (wV _) (by rw [gi,VU]) (by have:=Ek (v:=v) (l:=l) (j:=0);omega) ?_
 have ay:(V.agg (cT l p)).cells=some [.ah l.length (l.flatMap an),.int .i64 p]:=rfl;obtain ⟨H,hH⟩:∃ x,x=h.push (.cells [.ah l.length (l.flatMap an),.int .i64 p] 24 none):=⟨_,rfl⟩;have gt:H.get h.n=.cells [.ah l.length (l.flatMap an),.int .i64 p] 24 none:=by rw [hH];exact ck
 have bw:J h H none_:=by rw [hH];exact J.push _ _ _
 refine af.au (c:=_) Tryz.func71 rfl (by kernel_rfl) (by simp) ?_
 simp only [ae,vt,AS,lZ,rn,mw,ay,←hH,gt];refine aZ.bQ (α:=V×Nat) (fun x f h'=>f 1=.int .i64 v∧f 5=x.1∧f 9=.ah l.length (l.flatMap an)∧f 10=.int .i64 ((l.length:Nat):Int)∧f 11=.int .i64 (x.2:Nat)∧x.2≤l.length∧Acc h h' 3 1 x.1 (ar (ha v 0 (l.take x.2)))) (fun x=>l.length - x.2) (.ag,0) ⟨rfl,rfl,rfl,rfl,rfl,Dc _,Acc.nil bw⟩ ?_
 rintro ⟨u,i⟩ f h1 ⟨f1,f5,f9,f10,f11,hi,cb⟩
 simp only at f5 f11 hi cb;refine ee (by kernel_rfl) ?_
 by_cases aM:i<l.length
 ·have c5:decide ((i:Int)<((l.length:Nat):Int))=true:=by simp only [decide_eq_true_eq];omega
  obtain ⟨Qi,Ku,_⟩:=aY.2 _ (avb aM);have ft:=sX (kk:=.i64) (P:=ds) ki aM DY;have fr:=aaZ v l[i] (l.take i) 0;rw [←avt aM,VV,avD (by omega),avm] at fr
  generalize l[i]=A at *;have fT:=qB A;have kg:∀ (q:List V),cO (some (some 6)) (some (an A++q))=some (.agg (an A)):=fun q=>lz (ki A);have cm:(V.agg (an A)).cells=some (an A):=rfl;have dV:bF (some 6) (aO.cells [.int .i64 0,.ag,.int .i64 0,.int .i64 0,.ag,.int .i64 0] 68 none) 0 (an A)=some (.cells (an A) 68 none):=by
   rw [sR (n:=6) (ki A) (A5 A),if_pos (by decide),fT];rfl
  have ga:cP (aO.cells (an A) 68 none) 1=some [.ah A.bc.length (ar A.bc),.int .i64 A.e.op,.int .i64 A.e.num,.ah A.e.aQ.length (A.e.aQ.flatMap aE),.int .i64 A.n]:=by rw [fT];rfl
  have bS:IntKind.i64.wrap (((i:Nat):Int)+1)=((i+1:Nat):Int):=by rw [Go.IntWalk.i64_in _ (by omega)];omega
  have ap:=cb.on (J.push h1 (.cells (an A) 68 none) _);simp only [ae,vt,rl,hz,om,pZ,p0,f1,f9,f10,f11,c5,ft,kg,cm,dV,ga];refine bW NJ (Ox A.bc v Ku _) ?_;cases tj:A.bc.contains v
  ·rw [tj,if_neg (by simp),avq] at fr
   simp only [ae,vt,f11,bS];exact ax ⟨(u,i+1),⟨f1,f5,f9,f10,rfl,by simp only;omega,by simp only;rw [fr];exact ap⟩,by simp only;omega⟩
  ·rw [tj,if_pos rfl] at fr;obtain ⟨v2,ad,cX,a2⟩:=ap.elem (P:=ds) oU (by decide) (xs:=[.int .i64 (i:Nat)]) rfl rfl (by have:=Ek (v:=v) (l:=l.take i) (j:=0);simp [gi,lim] at this⊢;omega) (by have:=Ek (v:=v) (l:=l.take i) (j:=0);simp [gi,lim] at this⊢;omega)
   simp only [dq] at cX;simp only [ae,vt,f5,f11,En,cX,bS];exact ax ⟨(v2,i+1),⟨f1,rfl,f9,f10,rfl,by simp only;omega,by simp only;rw [fr,RO];exact a2⟩,by simp only;omega⟩
 ·have c5:decide ((i:Int)<((l.length:Nat):Int))=false:=by simp only [decide_eq_false_iff_not];omega
  rw [are (by omega)] at cb
  simp only [ae,vt,f5,f10,f11,c5,aS,Tryz.results71,ac];exact ax cb
theorem apD (h:I) (gT fv dZ dy:Int):ie ds 64 2 [(0,.agg [.int .i64 gT,.int .i64 fv,.ag]),(1,.agg [.int .i64 dZ,.int .i64 dy,.ag])] h=some (.bj h.n 0 2 2,h.push (.cells [.int .i64 gT,.int .i64 fv,.ag,.int .i64 dZ,.int .i64 dy,.ag] 66 none)):=by rw [lY S1];rfl
theorem apE (h:I) (i j b:Nat):ie ds 22 3 [(0,.agg [.int .i64 1,.ag,.int .i64 0,.int .i64 0,.ag,.int .i64 0]),(1,.agg [.int .i64 6,.bj i 0 1 1,.int .i64 6,.int .i64 0,.bj b 0 2 2,.int .i64 0]),(2,.agg [.int .i64 10,.bj j 0 1 1,.int .i64 0,.int .i64 0,.ag,.int .i64 0])] h=some (.bj h.n 0 3 3,h.push (.cells [.int .i64 1,.ag,.int .i64 0,.int .i64 0,.ag,.int .i64 0,.int .i64 6,.bj i 0 1 1,.int .i64 6,.int .i64 0,.bj b 0 2 2,.int .i64 0,.int .i64 10,.bj j 0 1 1,.int .i64 0,.int .i64 0,.ag,.int .i64 0] 68 none)):=by rw [lY S0];rfl
def Kv:b4:=.mk 6 0 [.mk 5 0 [],.mk 3 0 []]
def c7:List bD:=[⟨1,[],.mk 0 0 [],0⟩,⟨6,[0],Kv,0⟩,⟨10,[1],.mk 0 0 [],0⟩]
theorem A8 {h:I} {i n:Nat} {cs:List V} {e:TypeId} {sz:Nat} (hi:i<h.n) (az:h.get i=.cells cs e none) (aw:cs.length=n * sz) (aG:n<cj):Own h e sz (.bj i 0 n n) cs :=
 .inr ⟨i,n,n,cs,none,rfl,hi,az,aw,by rw [←aw];exact avT,.inl ⟨aG,by omega,BY _⟩⟩
theorem apF (h:I) (a b c d e f:aO):let H:=(((((h.push a).push b).push c).push d).push e).push f
  H.n=h.n+6∧H.get h.n=a∧H.get (h.n+1)=b∧H.get (h.n+3)=d∧H.get (h.n+4)=e∧H.get (h.n+5)=f∧J h H none_:=by
 intro H;refine ⟨rfl,?_,?_,?_,?_,?_,(((((J.push _ _ _).bH _).bH _).bH _).bH _).bH _⟩<;>simp only [H,I.push]<;>repeat first | rfl | rw [if_pos trivial] | rw [if_pos rfl] | rw [if_neg (by omega)]
def T0:List bD:=c7++[⟨10,[2],.mk 0 0 [],1⟩]
theorem vY (o n:Int) (aN:-2 ^ 63≤o∧o<2 ^ 63) (aG:-2 ^ 63≤n∧n<2 ^ 63):h7 (.mk o n []):=.mk o n [] (by simp) (by simp) aN aG
theorem T1:h7 Kv:=.mk 6 0 _ (by simp) (by
 intro k hk;simp at hk;rcases hk with rfl | rfl
 ·exact vY 5 0 (by omega) (by omega)
 ·exact vY 3 0 (by omega) (by omega)) (by omega) (by omega)
theorem apG:k7 T0:=by
 refine ⟨by decide,?_⟩
 intro v aH;simp only [T0,c7,avx,avG,IN,List.not_mem_nil,or_false] at aH;rcases aH with rfl | rfl | rfl | rfl
 ·exact ⟨vY 0 0 (by omega) (by omega),by decide,by unfold lG;decide,by unfold lG;decide,by intro f av;simp at av<;>(subst av;unfold lG;omega)⟩
 ·exact ⟨T1,by decide,by unfold lG;decide,by unfold lG;decide,by intro f av;simp at av<;>(subst av;unfold lG;omega)⟩
 ·exact ⟨vY 0 0 (by omega) (by omega),by decide,by unfold lG;decide,by unfold lG;decide,by intro f av;simp at av<;>(subst av;unfold lG;omega)⟩
 ·exact ⟨vY 0 0 (by omega) (by omega),by decide,by unfold lG;decide,by unfold lG;decide,by intro f av;simp at av<;>(subst av;unfold lG;omega)⟩
theorem T2:k7 c7:=⟨by decide,fun v aH=>apG.2 v (by simp only [T0];exact List.mem_append_left _ aH)⟩
theorem aq.trans {a b c:List V} {h h1 ad:I} (x:aq a h b h1) (y:aq b h1 c ad):aq a h c ad:=fun ρ B aJ w bU hw aw=>
 let ⟨ρ1,hc,cV,v1⟩:=x ρ B aJ w bU hw aw
 let ⟨ρ2,ez,bS,v2⟩:=y ρ1 B aJ w bU cV v1
 ⟨ρ2,hc.trans ez,bS,v2⟩
theorem T3 {l:List bD} {i:Nat} {v:bD} (h:dh l i v=0):(1≤v.kind∧v.kind≤10)∧(∀ f ∈ v.bc,0≤f∧f<i)∧kj v=true∧Ei l i v=false∧(∀ f ∈ v.bc,gA l f≠10):=by
 unfold dh at h;split at h
 ·cases h
 rename_i h1;split at h
 ·cases h
 rename_i ad;split at h
 ·cases h
 rename_i aD;split at h
 ·cases h
 rename_i bn;split at h
 ·cases h
 rename_i bN;refine ⟨by omega,fun f av=>?_,by simpa using aD,by simpa using bn,fun f av hk=>?_⟩
 ·have uz:(v.bc.any fun f=>decide (f<0∨(i:Int)≤f))=false:=by simpa using ad
  rw [awE] at uz;have:=uz f av;simp only [decide_eq_true_eq] at this;omega
 ·exact bN (awu.2 ⟨f,av,by simp [hk]⟩)
theorem A9 {p:Int} {l:List bD} (h:(ch p l).2=0):ch p l=(-1,0)∧(1≤p∧p≤8)∧1≤l.length∧l.length≤24∧oC l 0 l=(-1,0)∧∀ k v,l[k]?=some v→dh l k v=0:=by
 unfold ch at h⊢;split at h
 ·cases h
 rename_i aG;rw [if_neg aG];obtain ⟨a,b⟩:=TV h;exact ⟨a,by omega,by omega,by omega,a,fun k v hk=>by simpa using b k v hk⟩
def fP (v:bD):List Nat:=enc v.kind.toNat++x4 v.bc++enc (jK v.n)++ze (ja v.e)
def qD (p:Int) (l:List bD):List Nat:=enc p.toNat++enc l.length++l.flatMap fP
def lH (p:Int) (l:List bD):List Nat:=if (ch p l).2=0 then qD p l else []
theorem apH:∀ k,k<11→(kB.getD k (0,0,0,0)).1≤2:=by decide
theorem G7 {p:Int} {l:List bD} (h:(ch p l).2=0):(1≤p∧p≤8)∧1≤l.length∧l.length≤24∧∀ v ∈ l,(1≤v.kind∧v.kind≤10)∧v.bc.length≤2∧(∀ f ∈ v.bc,0≤f∧f<24)∧kj v=true:=by
 unfold ch at h;split at h
 ·cases h
 rename_i al;refine ⟨by omega,by omega,by omega,fun v aH=>?_⟩
 obtain ⟨i,hi,rfl⟩:=List.getElem_of_mem aH;have aK:=(TV h).2 i l[i] (ME hi);rw [avm] at aK;obtain ⟨bJ,ba,b2,_,_⟩:=T3 aK;refine ⟨bJ,?_,fun f av=>by have:=ba f av;omega,b2⟩
 have:=b2;unfold kj uU at this;simp only [VW,decide_eq_true_eq] at this;have ad:=apH l[i].kind.toNat (by omega)
 omega
theorem T4 {e:b4} (aY:h7 e):(ja e).length≤1280:=by
 unfold ja;split
 ·rename_i hm;have h1:=Tu (e0 e) e rfl aY;have ad:=Tx hm;omega
 ·simp
theorem aa5 {l:List Int} (h:∀ n ∈ l,-2 ^ 63≤n∧n<2 ^ 63) (aw:l.length≤2):(x4 l).length≤30:=by
 unfold x4;rw [IS];have h1:=ZK h;have ad:=(p3 l.length (by omega)).2
 omega
theorem aa6 {v:bD} (aY:zM v) (hk:1≤v.kind∧v.kind≤10) (aw:v.bc.length≤2):(fP v).length≤1400:=by
 unfold fP ze;simp only [IS];have h1:=aa5 aY.2.2.2.2 aw;have ad:=(p3 v.kind.toNat (by omega)).2
 have aD:=(p3 (jK v.n) (AU _ aY.2.2.2.1.1 aY.2.2.2.1.2)).2;have bn:=T4 aY.1;have bN:=(p3 (ja v.e).length (by omega)).2
 omega
theorem aa7 {l:List bD} (h:∀ v ∈ l,(fP v).length≤1400):(l.flatMap fP).length≤1400 * l.length:=by
 induction l with
 | nil=>simp
 | cons v l ih=>
  have h1:=h v (by simp)
  have ad:=ih fun u hu=>h u (by simp [hu])
  simp only [avj,IS,ave];omega
def CC (p:Int) (l:List bD):V:=.tuple [.ah (lH p l).length (e9 (lH p l)),.int .i64 (ch p l).2]
theorem apI (p:Int) (l:List bD):a7 (CC p l):=a7.tuple (a1.cons (a7.ah (Ce _)) (a1.cons (a7.int _ _) a1.nil))
theorem aa8 (l:List bD) (p:Int) (aY:k7 l) (h:I) (az:jf h):Pure ds 30 [.agg (cT l p)] h (CC p l):=by
 refine Pure.of (apI p l) ?_;have ay:(V.agg (cT l p)).cells=some [.ah l.length (l.flatMap an),.int .i64 p]:=rfl;obtain ⟨H,hH⟩:∃ x,x=h.push (.cells [.ah l.length (l.flatMap an),.int .i64 p] 24 none):=⟨_,rfl⟩;have gt:H.get h.n=.cells [.ah l.length (l.flatMap an),.int .i64 p] 24 none:=by rw [hH];exact ck
 have bw:J h H none_:=by rw [hH];exact J.push _ _ _
 have ju:h.n<H.n:=by rw [hH];exact Nat.lt_succ_self _
 refine af.au (c:=_) Tryz.func30 rfl (by kernel_rfl) (by simp) ?_
 simp only [ae,vt,AS,js,ay,←hH,gt];refine bW NG (Ov l p aY H (az.ai bw)) ?_;by_cases aK:(ch p l).2=0;rotate_left
 ·have bb:((ch p l).2 !=0)=true:=by simpa using aK
  have jb:CC p l=.tuple [.ah 0 [],.int .i64 (ch p l).2]:=by unfold CC lH;rw [if_neg aK];rfl
  rw [jb];simp only [ae,vt,qC,bb,aS,aBt,c9];exact ax ⟨_,aA.tuple (aq.cons (aA.kI _) (aq.refl _ _)),bw⟩
 ·have bb:((ch p l).2 !=0)=false:=by simpa using aK
  obtain ⟨aU,h5,ht,dr⟩:=G7 aK;obtain ⟨P,rfl⟩:=axr (show 0≤p by omega)
  have jb:CC P l=.tuple [.ah (qD P l).length (e9 (qD P l)),.int .i64 0]:=by unfold CC lH;rw [if_pos aK,aK]
  have yl:=JH (n:=P) (by omega)
  have T5:=JH (n:=l.length) (by omega)
  simp only [ae,vt,AS,By,fd,aW,qC,bb,gt,mq iA ns,yl];refine bW NH (N4 .ag [] P H (Rd.ag _) (by simp) (by omega)) ?_
  simp only [ae,vt,AS,lZ,rn,mw,gt,mq iA ns,T5];have aC:=(p3 P (by omega)).2
  have bd:=(p3 l.length (by omega)).2
  refine bW NH (N4 _ _ l.length H (Rd.ah _ _) (by omega) (by omega)) ?_
  simp only [ae,vt,AS,lZ,rn,mw,gt];have hlen:∀ v ∈ l,(fP v).length≤1400:=fun v aH=>aa6 (aY.2 v aH) (dr v aH).1 (dr v aH).2.1;refine aZ.bQ (α:=Nat) (fun i f h'=>f 1=.ptr h.n 0∧f 6=.ah (enc P++enc l.length++(l.take i).flatMap fP).length (e9 (enc P++enc l.length++(l.take i).flatMap fP))∧f 30=.ah l.length (l.flatMap an)∧f 31=.int .i64 ((l.length:Nat):Int)∧f 32=.int .i64 (i:Nat)∧i≤l.length∧J h h' none_) (fun i=>l.length - i) 0
   ⟨rfl,by simp only [List.take_zero,List.flatMap_nil,avq];rfl,rfl,rfl,rfl,Dc _,bw⟩ ?_
  rintro i f h1 ⟨f1,f6,f30,f31,f32,hi,bJ⟩
  refine ee (by kernel_rfl) ?_
  by_cases aM:i<l.length
  ·have c5:decide ((i:Int)<((l.length:Nat):Int))=true:=by simp only [decide_eq_true_eq];omega
   have mb:=aY.2 _ (avb aM);obtain ⟨oD,Ea,auN,_⟩:=dr _ (avb aM);have ft:=sX (kk:=.i64) (P:=ds) ki aM DY;have fr:(l.take (i+1)).flatMap fP=(l.take i).flatMap fP++fP l[i]:=ZJ l fP aM;have cI:((l.take i).flatMap fP).length≤1400 * 24:=by
    have:=aa7 (l:=l.take i) fun v aH=>hlen v (axl aH);rw [VV] at this;have:(l.take i).length≤24:=by rw [VV];omega
    omega
   generalize l[i]=A at *;have fT:=qB A;have kg:∀ (q:List V),cO (some (some 6)) (some (an A++q))=some (.agg (an A)):=fun q=>lz (ki A);have cm:(V.agg (an A)).cells=some (an A):=rfl;have dV:bF (some 6) (aO.cells [.int .i64 0,.ag,.int .i64 0,.int .i64 0,.ag,.int .i64 0] 68 none) 0 (an A)=some (.cells (an A) 68 none):=by
    rw [sR (n:=6) (ki A) (A5 A),if_pos (by decide),fT];rfl
   have fN:cP (aO.cells (an A) 68 none) 0=some [.int .i64 A.kind,.ah A.bc.length (ar A.bc),.int .i64 A.e.op,.int .i64 A.e.num,.ah A.e.aQ.length (A.e.aQ.flatMap aE),.int .i64 A.n]:=by rw [fT];rfl
   have ga:cP (aO.cells (an A) 68 none) 1=some [.ah A.bc.length (ar A.bc),.int .i64 A.e.op,.int .i64 A.e.num,.ah A.e.aQ.length (A.e.aQ.flatMap aE),.int .i64 A.n]:=by rw [fT];rfl
   have kz:cP (aO.cells (an A) 68 none) 2=some (aE A.e++[.int .i64 A.n]):=by obtain ⟨k,bg,⟨o,m,aQ⟩,n⟩:=A;rw [fT,nu];rfl
   have uV:cP (aO.cells (an A) 68 none) 5=some [.int .i64 A.n]:=by rw [fT];rfl
   have bS:IntKind.i64.wrap (((i:Nat):Int)+1)=((i+1:Nat):Int):=by rw [Go.IntWalk.i64_in _ (by omega)];omega
   have apJ:IntKind.u64.wrap A.kind=((A.kind.toNat:Nat):Int):=by rw [IntKind.wrap_u64];omega
   have aa9:=Tv A.e;obtain ⟨cs,dX⟩:∃ y,y=enc P++enc l.length++(l.take i).flatMap fP:=⟨_,rfl⟩;have T6:enc P++enc l.length++(l.take (i+1)).flatMap fP=(((cs++enc A.kind.toNat)++x4 A.bc)++enc (jK A.n))++ze (ja A.e):=by rw [fr,dX,fP];simp only [au8]
   have tj:cs.length≤40000:=by rw [dX];simp only [IS];omega
   rw [←dX] at f6;have g1:=(p3 A.kind.toNat (by omega)).2
   have g2:=aa5 mb.2.2.2.2 Ea;have g3:=(p3 (jK A.n) (AU _ mb.2.2.2.1.1 mb.2.2.2.1.2)).2;have g4:=T4 mb.1;have aba:jf (h1.push (.cells (an A) 68 none)):=az.ai (bJ.trans' (J.push _ _ _));simp only [ae,vt,hd,aW,om,pZ,p0,f6,f30,f31,f32,c5,ft,kg,cm,dV,fN,mq iA ns,apJ];refine bW NH (N4 _ _ A.kind.toNat _ (Rd.ah _ _) (by omega) (by omega)) ?_
   simp only [ae,vt,rl,hz,ga];refine bW amg (apq _ _ A.bc _ (Rd.ah _ _) mb.2.2.2.2 (by rw [IS];omega)) ?_
   simp only [ae,vt,B7,du,uV];refine bW Sz (JG _ _ A.n _ (Rd.ah _ _) (by simp only [IS];omega) mb.2.2.2.1.1 mb.2.2.2.1.2) ?_
   simp only [ae,vt,qu,fM,kz,aa9];refine bW SA (Ty A.e mb.1 _ aba.1) ?_;simp only [ae,vt,sb];refine bW amh (apo _ _ _ (ja A.e) _ (Rd.ah _ _) (Rd.ah _ _) (by simp only [IS];omega)) ?_
   simp only [ae,vt,f32,bS];exact ax ⟨i+1,⟨f1,by rw [T6];rfl,f30,f31,rfl,by omega,bJ.trans' (J.push _ _ _)⟩,by omega⟩
  ·have c5:decide ((i:Int)<((l.length:Nat):Int))=false:=by simp only [decide_eq_false_iff_not];omega
   rw [are (by omega)] at f6
   rw [jb];simp only [ae,vt,f6,f31,f32,c5,aS,aBt,c9];exact ax ⟨_,aA.refl _ _,bJ⟩
theorem Eo (i:Nat) (ao:List Nat) (h:I) (aL:dA h (.ptr i 0) i ao) (al:∀ b ∈ ao,b<256) (ay:ao.length≤2 ^ 47) :
  af ds 106 [.ptr i 0] h (fun r h'=>r=.tuple [.int .i64 ((min (dec ao 0 0).1 1000:Nat):Int),.int .i64 ((dec ao 0 0).2.2:Nat)]∧dA h' (.ptr i 0) i (ao.drop (dec ao 0 0).2.1)∧J h h' (·=i)):=by
 refine af.au (c:=_) Tryz.func106 rfl (by kernel_rfl) (by simp) ?_
 simp only [ae,vt,reduceCtorEq];refine cB ND (N5 _ i ao h aL al ay) fun r h1 ⟨aC,cZ,bJ⟩=>?_;subst aC;have yl:IntKind.i64.wrap (min ((dec ao 0 0).1:Int) 1000)=((min (dec ao 0 0).1 1000:Nat):Int):=by rw [Go.IntWalk.i64_in _ (by omega)];omega
 simp only [ae,vt,mq ns iA,yl,aS,Tryz.results106,c9];exact ax ⟨rfl,cZ,bJ⟩
def qE (k:Nat) (bg:List Int) (n:Int) (ao:List Nat):Except Nat (bD×List Nat) :=
 if (hM ao).2.2≠0 then .error (hM ao).2.2
 else if (hM ao).1.length=0 then .ok (⟨(k:Int),bg,.mk 0 0 [],n⟩,(hM ao).2.1)
 else if nI (hM ao).1≠0 then .error (nI (hM ao).1)
 else .ok (⟨(k:Int),bg,ov (hM ao).1,n⟩,(hM ao).2.1)
def qF (k:Nat) (bg:List Int) (ao:List Nat):Except Nat (bD×List Nat) :=
 if (dec ao 0 0).2.2≠0 then .error (dec ao 0 0).2.2 else qE k bg (fZ (dec ao 0 0).1) (ao.drop (dec ao 0 0).2.1)
def qG (k:Nat) (ao:List Nat):Except Nat (bD×List Nat) :=
 if (iZ ao 2).2.2≠0 then .error (iZ ao 2).2.2 else qF k (iZ ao 2).1 (iZ ao 2).2.1
def nJ (ao:List Nat):Except Nat (bD×List Nat) :=
 if (dec ao 0 0).2.2≠0 then .error (dec ao 0 0).2.2 else qG (min (dec ao 0 0).1 1000) (ao.drop (dec ao 0 0).2.1)
def Ep:bD:=⟨0,[],.mk 0 0 [],0⟩
def T7:Except Nat (bD×List Nat)→V
 | .error c=>.tuple [.agg (an Ep),.int .i64 (c:Nat)]
 | .ok (v,_)=>.tuple [.agg (an v),.int .i64 0]
def Sub (a b:List Nat):Prop:=(∀ x ∈ a,x ∈ b)∧a.length≤b.length
theorem Sub.rfl' (a:List Nat):Sub a a:=⟨fun _ h=>h,BY _⟩
theorem Sub.nil (a:List Nat):Sub [] a:=⟨fun _ h=>(by cases h),Dc _⟩
theorem Sub.trans {a b c:List Nat} (x:Sub a b) (y:Sub b c):Sub a c:=⟨fun q h=>y.1 q (x.1 q h),OF x.2 y.2⟩
theorem Sub.drop (a:List Nat) (k:Nat):Sub (a.drop k) a:=⟨fun _ h=>awt h,by rw [List.length_drop];omega⟩
theorem Sub.take (a:List Nat) (k:Nat):Sub (a.take k) a:=⟨fun _ h=>axl h,by rw [VV];omega⟩
theorem Sub.lt {a b:List Nat} (x:Sub a b) (h:∀ q ∈ b,q<256):∀ q ∈ a,q<256:=fun q ab=>h q (x.1 q ab)
theorem abb:∀ (m:Nat) (r:List Nat) (acc:List Int),Sub (qw m r acc).2.1 r
 | 0,r,acc=>Sub.rfl' r
 | m+1,r,acc=>by
  unfold qw;split
  ·exact Sub.nil _
  ·split
   ·exact Sub.nil _
   ·exact (abb m _ _).trans (Sub.drop _ _)
theorem abc (ao:List Nat) (m:Int):Sub (iZ ao m).2.1 ao:=by
 unfold iZ;split
 ·exact Sub.rfl' _
 ·split
  ·exact Sub.rfl' _
  ·split
   ·exact Sub.rfl' _
   ·exact (abb _ _ _).trans (Sub.drop _ _)
theorem T8 (ao:List Nat):Sub (hM ao).2.1 ao∧Sub (hM ao).1 ao:=by
 unfold hM;split
 ·exact ⟨Sub.rfl' _,Sub.nil _⟩
 ·split
  ·exact ⟨Sub.rfl' _,Sub.nil _⟩
  ·exact ⟨(Sub.drop _ _).trans (Sub.drop _ _),(Sub.take _ _).trans (Sub.drop _ _)⟩
theorem Kw (h:I) (c:Nat):aA (.tuple [.agg [.int .i64 0,.ag,.int .i64 0,.int .i64 0,.ag,.int .i64 0],.int .i64 (c:Nat)]) h (.tuple [.agg (an Ep),.int .i64 (c:Nat)]) h:=by
 refine aA.tuple (aq.cons ?_ (aq.refl _ _));rw [qB];exact Pk.aA.agg (aq.skip (aq.cons (aA.hL h) (aq.skip (aq.skip (aq.cons (aA.hL h) (aq.refl _ _))))))
theorem apK (h:I) (k:Nat) (bg:List Int) (n:Int):aA (.tuple [.agg [.int .i64 (k:Int),.ah bg.length (ar bg),.int .i64 0,.int .i64 0,.ag,.int .i64 n],.int .i64 0]) h (.tuple [.agg (an ⟨(k:Int),bg,.mk 0 0 [],n⟩),.int .i64 0]) h:=by
 refine aA.tuple (aq.cons ?_ (aq.refl _ _));rw [qB];exact Pk.aA.agg (aq.skip (aq.skip (aq.skip (aq.skip (aq.cons (aA.hL h) (aq.refl _ _))))))
theorem apL (i:Nat) (ao:List Nat) (h:I) (az:gN h) (aL:dA h (.ptr i 0) i ao) (al:∀ b ∈ ao,b<256) (ay:ao.length≤2 ^ 47) :
  af ds 107 [.ptr i 0] h (fun r h'=>r=T7 (nJ ao)∧J h h' (·=i)∧∀ v cN,nJ ao=.ok (v,cN)→dA h' (.ptr i 0) i cN):=by
 refine af.cast ?_;refine af.au (c:=_) Tryz.func107 rfl (by kernel_rfl) (by simp) ?_
 have cU:=aL.2.1;obtain ⟨eQ,dx⟩:∃ y,y=h.push (.cells [V.int .i64 0,.ag,.int .i64 0,.int .i64 0,.ag,.int .i64 0] 68 none):=⟨_,rfl⟩;have gz:J h eQ (·=i):=by rw [dx];exact J.push _ _ _
 have Fq:J h eQ none_:=by rw [dx];exact J.push _ _ _
 have g0:eQ.get h.n=.cells [V.int .i64 0,.ag,.int .i64 0,.int .i64 0,.ag,.int .i64 0] 68 none:=by rw [dx];exact ck
 have ot:eQ.n=h.n+1:=by rw [dx];rfl
 have nY:=dA.ai aL Fq (by simp [none_])
 have pa:bF (some 6) (aO.cells [V.int .i64 0,.ag,.int .i64 0,.int .i64 0,.ag,.int .i64 0] 68 none) 0 [V.int .i64 0,.ag,.int .i64 0,.int .i64 0,.ag,.int .i64 0]=some (.cells [V.int .i64 0,.ag,.int .i64 0,.int .i64 0,.ag,.int .i64 0] 68 none):=rfl;have z0:(((0:Nat):Int) !=0)=false:=rfl;simp only [ae,vt,reduceCtorEq,pZ];rw [←dx];clear dx;refine cB Sr (Eo i ao eQ nY al (by omega)) fun r H1 ⟨aC,cZ,bJ⟩=>?_
 subst aC;have s1:Sub (ao.drop (dec ao 0 0).2.1) ao:=Sub.drop _ _;have g1:=(bJ.get h.n (by omega) (by omega)).trans g0
 have lC:=gz.trans' bJ;have fv:=bJ.n;by_cases aC:(dec ao 0 0).2.2=0;rotate_left
 ·have bb:(((dec ao 0 0).2.2:Int) !=0)=true:=by simp;omega
  have jb:nJ ao=.error (dec ao 0 0).2.2:=by unfold nJ;rw [if_pos aC]
  simp only [ae,vt,AS,om,DX,pZ,p0,bb,g1,pa,aS,awH,iy,ij,fB,ix];rw [jb];exact ax ⟨_,_,Kw _ _,rfl,lC.trans (J.set _ h.n _) fun q ab U=>by omega,fun v cN U=>by cases U⟩
 have nb:nJ ao=qG (min (dec ao 0 0).1 1000) (ao.drop (dec ao 0 0).2.1):=by unfold nJ;rw [if_neg (by omega)]
 rw [aC] at *;rw [nb];generalize min (dec ao 0 0).1 1000=K at *;generalize ao.drop (dec ao 0 0).2.1=dK at *;clear nb;simp only [ae,vt,reduceCtorEq,z0];refine cB alG (aps _ i dK 2 H1 cZ (s1.lt al) (by have:=s1.2;omega) (.inr (by decide)) (by decide)) fun r bK ⟨bd,dI,ba⟩=>?_
 subst bd;have s2:=(abc dK 2).trans s1;have g2:=(ba.get h.n (by omega) (by omega)).trans g1
 have da:=lC.trans' ba;have dy:=ba.n;by_cases bd:(iZ dK 2).2.2=0;rotate_left
 ·have bb:(((iZ dK 2).2.2:Int) !=0)=true:=by simp;omega
  have jb:qG K dK=.error (iZ dK 2).2.2:=by unfold qG;rw [if_pos bd]
  simp only [ae,vt,AS,om,DX,pZ,p0,bb,g2,pa,aS,awH,iy,ij,fB,ix];rw [jb];exact ax ⟨_,_,Kw _ _,rfl,da.trans (J.set _ h.n _) fun q ab U=>by omega,fun v cN U=>by cases U⟩
 have nb:qG K dK=qF K (iZ dK 2).1 (iZ dK 2).2.1:=by unfold qG;rw [if_neg (by omega)]
 rw [bd] at *;rw [nb];generalize (iZ dK 2).1=bg at *;generalize (iZ dK 2).2.1=b7 at *;clear nb;simp only [ae,vt,reduceCtorEq,z0];refine cB St (D3 _ i b7 bK dI (s2.lt al) (by have:=s2.2;omega)) fun r fj ⟨ev,jB,b2⟩=>?_
 subst ev;have pY:=(Sub.drop b7 (dec b7 0 0).2.1).trans s2;have g3:=(b2.get h.n (by omega) (by omega)).trans g2
 have eT:=da.trans' b2;have n3:=b2.n;by_cases ev:(dec b7 0 0).2.2=0;rotate_left
 ·have bb:(((dec b7 0 0).2.2:Int) !=0)=true:=by simp;omega
  have jb:qF K bg b7=.error (dec b7 0 0).2.2:=by unfold qF;rw [if_pos ev]
  simp only [ae,vt,AS,om,DX,pZ,p0,bb,g3,pa,aS,awH,iy,ij,fB,ix];rw [jb];exact ax ⟨_,_,Kw _ _,rfl,eT.trans (J.set _ h.n _) fun q ab U=>by omega,fun v cN U=>by cases U⟩
 have nb:qF K bg b7=qE K bg (fZ (dec b7 0 0).1) (b7.drop (dec b7 0 0).2.1):=by unfold qF;rw [if_neg (by omega)]
 rw [ev] at *;rw [nb];generalize fZ (dec b7 0 0).1=N at *;generalize b7.drop (dec b7 0 0).2.1=gx at *;clear nb;simp only [ae,vt,reduceCtorEq,z0];refine cB alH (apr _ i gx fj jB (pY.lt al) (by have:=pY.2;omega)) fun r hY ⟨jr,AW,db⟩=>?_
 subst jr;have uR:=(T8 gx).2.trans pY;have g4:=(db.get h.n (by omega) (by omega)).trans g3
 have mc:=eT.trans' db;have n4:=db.n;by_cases jr:(hM gx).2.2=0;rotate_left
 ·have bb:(((hM gx).2.2:Int) !=0)=true:=by simp;omega
  have jb:qE K bg N gx=.error (hM gx).2.2:=by unfold qE;rw [if_pos jr]
  simp only [ae,vt,AS,om,DX,pZ,p0,bb,g4,pa,aS,awH,iy,ij,fB,ix];rw [jb];exact ax ⟨_,_,Kw _ _,rfl,mc.trans (J.set _ h.n _) fun q ab U=>by omega,fun v cN U=>by cases U⟩
 have nb:qE K bg N gx=if (hM gx).1.length=0 then .ok (⟨(K:Int),bg,.mk 0 0 [],N⟩,(hM gx).2.1) else if nI (hM gx).1≠0 then .error (nI (hM gx).1) else .ok (⟨(K:Int),bg,ov (hM gx).1,N⟩,(hM gx).2.1):=by unfold qE;rw [if_neg (by omega)]
 rw [nb];clear nb;rw [jr] at *;have st1:∀ (k:Int) (m:Nat) (x:List V) (n:Int),bF (some 6) (aO.cells [V.int .i64 0,.ag,.int .i64 0,.int .i64 0,.ag,.int .i64 0] 68 none) 0 [.int .i64 k,.ah m x,.int .i64 0,.int .i64 0,.ag,.int .i64 n]=some (.cells [.int .i64 k,.ah m x,.int .i64 0,.int .i64 0,.ag,.int .i64 n] 68 none):=fun _ _ _ _=>rfl;obtain ⟨gr,fF⟩:∃ y,y=hY.push (.cells [V.int .i64 (K:Int),.ah bg.length (ar bg),.int .i64 0,.int .i64 0,.ag,.int .i64 N] 68 none):=⟨_,rfl⟩;have dW:J hY gr (·=i):=by rw [fF];exact J.push _ _ _
 have abd:J hY gr none_:=by rw [fF];exact J.push _ _ _
 have Kx:gr.get hY.n=.cells [V.int .i64 (K:Int),.ah bg.length (ar bg),.int .i64 0,.int .i64 0,.ag,.int .i64 N] 68 none:=by rw [fF];exact ck
 have x7:gr.n=hY.n+1:=by rw [fF];rfl
 have g5:=(dW.get h.n (by omega) (by omega)).trans g4
 have jL:=mc.trans' dW;have GY:=dA.ai AW abd (by simp [none_])
 simp only [ae,vt,AS,By,r3,DX,pZ,p0,z0,st1];rw [←fF];clear fF;by_cases ew:(hM gx).1.length=0
 ·have bb:decide ((0:Int)<(((hM gx).1.length:Nat):Int))=false:=decide_eq_false (by omega)
  rw [if_pos ew];simp only [ae,vt,AS,om,p0,bb,Kx,g5,st1,aS,awH,iy,ij,fB,ix];have cY:J gr (gr.set h.n (.cells [V.int .i64 (K:Int),.ah bg.length (ar bg),.int .i64 0,.int .i64 0,.ag,.int .i64 N] 68 none)) (·=h.n):=J.set _ h.n _;exact ax ⟨_,_,apK _ _ _ _,rfl,jL.trans cY fun q ab U=>by omega,fun v cN U=>by injection U with U;injection U with h1 ad;subst ad;exact GY.ai cY (by omega)⟩
 ·have bb:decide ((0:Int)<(((hM gx).1.length:Nat):Int))=true:=decide_eq_true (by omega)
  simp only [ae,vt,bb];refine bW XZ (PV _ (hM gx).1 gr (az.ai jL) (Rd.ah _ _) (uR.lt al) (by have:=uR.2;omega)) ?_
  rw [if_neg ew];generalize (hM gx).1=xs at *;unfold se;have Qj:=x5 (ov xs);obtain ⟨A,jD⟩:∃ y,y=(⟨(K:Int),bg,ov xs,N⟩:bD):=⟨_,rfl⟩;have Qk:bF (some 3) (aO.cells [V.int .i64 (K:Int),.ah bg.length (ar bg),.int .i64 0,.int .i64 0,.ag,.int .i64 N] 68 none) 2 (aE (ov xs))=some (.cells (an A) 68 none):=by
   rw [sR (n:=3) (qv _) (Jz _),if_pos (by simp),jD]
   simp only [an];generalize ov xs=E;cases E;rfl
  have cm:(V.agg (an A)).cells=some (an A):=rfl;have dV:bF (some 6) (aO.cells [V.int .i64 0,.ag,.int .i64 0,.int .i64 0,.ag,.int .i64 0] 68 none) 0 (an A)=some (.cells (an A) 68 none):=by
   rw [sR (n:=6) (ki A) (A5 A),if_pos (by decide),qB];rfl
  have fN:cP (aO.cells (an A) 68 none) 0=some (an A):=by rw [qB];rfl
  have k4:cO (some (some 6)) (some (an A))=some (.agg (an A)):=by rw [qB];rfl
  have aui:(if 6≤(an A).length then some (V.agg (List.take 6 (an A))) else none)=some (.agg (an A)):=by rw [qB];rfl
  have oD:J gr (gr.set hY.n (.cells (an A) 68 none)) (·=hY.n):=J.set _ _ _;have g6:=(oD.get h.n (by omega) (by omega)).trans g5
  by_cases j5:nI xs=0
  ·have bt:((nI xs:Int) !=0)=false:=by simp [j5]
   rw [if_neg (by omega)]
   simp only [ae,vt,qu,om,nt,p0,Qj,Kx,Qk,bt,fN,k4,g6,cm,dV,aS,awH,iy,ij,fB,ix];have cY:J (gr.set hY.n (.cells (an A) 68 none)) ((gr.set hY.n (.cells (an A) 68 none)).set h.n (.cells (an A) 68 none)) (·=h.n):=J.set _ h.n _;exact ax ⟨_,_,aA.refl _ _,by rw [jD];rfl,(jL.trans oD fun q ab U=>by omega).trans cY fun q ab U=>by omega,fun v cN U=>by injection U with U;injection U with h1 ad;subst ad;exact (GY.ai oD (by omega)).ai cY (by omega)⟩
  ·have bt:((nI xs:Int) !=0)=true:=by simp;omega
   rw [if_pos j5];simp only [ae,vt,AS,qu,om,DX,pZ,nt,p0,Qj,Kx,Qk,bt,g6,pa,aS,awH,iy,ij,fB,ix];exact ax ⟨_,_,Kw _ _,rfl,(jL.trans oD fun q ab U=>by omega).trans (J.set _ h.n _) fun q ab U=>by omega,fun v cN U=>by cases U⟩
def iC:Nat→List Nat→List bD→Except Nat (List bD×List Nat)
 | 0,ao,acc=>.ok (acc,ao)
 | m+1,ao,acc=>match nJ ao with
  | .error c=>.error c
  | .ok (v,cN)=>iC m cN (acc++[v])
def qH (p n:Nat) (ao:List Nat):Except Nat (Nat×List bD×List Nat):=match iC n ao [] with
 | .error c=>.error c
 | .ok (l,r)=>.ok (p,l,r)
def qI (p:Nat) (ao:List Nat):Except Nat (Nat×List bD×List Nat) :=
 if (dec ao 0 0).2.2≠0 then .error (dec ao 0 0).2.2 else if 24<min (dec ao 0 0).1 1000 then .error 2 else qH p (min (dec ao 0 0).1 1000) (ao.drop (dec ao 0 0).2.1)
def pb (ao:List Nat):Except Nat (Nat×List bD×List Nat) :=
 if (dec ao 0 0).2.2≠0 then .error (dec ao 0 0).2.2 else qI (min (dec ao 0 0).1 1000) (ao.drop (dec ao 0 0).2.1)
def T9:Except Nat (Nat×List bD×List Nat)→V
 | .error c=>.tuple [.agg (cT [] 0),.int .i64 (c:Nat)]
 | .ok (p,l,_)=>.tuple [.agg (cT l (p:Int)),.int .i64 0]
theorem apM {xs:List Nat} (h:nI xs≠0→False) (aj:xs≠[]):∃ e,nH xs=.ok e∧ov xs=e:=by
 unfold nI at h;unfold ov;cases ab:nH xs with
 | ok e=>exact ⟨e,rfl,rfl⟩
 | error c=>rw [ab] at h;exact (h (aof ab)).elim
theorem abe:∀ (m:Nat) (r:List Nat) (acc:List Int),(∀ b ∈ r,b<256)→(qw m r acc).2.2=0→∃ l,(qw m r acc).1=acc++l∧l.length=m∧r=(l.flatMap fun n=>enc (jK n))++(qw m r acc).2.1∧∀ n ∈ l,-2147483648≤n∧n≤2147483647
 | 0,r,acc,_,_=>⟨[],by simp [qw],rfl,by simp [qw],by simp⟩
 | m+1,r,acc,al,h=>by
  unfold qw at h⊢;split at h
  ·rename_i h1;exact absurd h h1
  ·rename_i h1;rw [if_neg h1];split at h
   ·cases h
   ·rename_i ad;rw [if_neg ad];obtain ⟨aD,bn⟩:=i3 al (by omega)
    obtain ⟨l,cX,dT,e8,jt⟩:=abe m _ _ (fun b ab=>al b (awt ab)) h;refine ⟨fZ (dec r 0 0).1::l,by rw [cX];simp,by simp [dT],?_,?_⟩
    ·rw [avj,Tz _ bn,au8,←e8];exact aD
    ·intro n aG;rcases IN.1 aG with rfl | aG
     ·omega
     ·exact jt n aG
theorem apN {ao:List Nat} (al:∀ b ∈ ao,b<256) (h:(iZ ao 2).2.2=0):ao=x4 (iZ ao 2).1++(iZ ao 2).2.1∧(iZ ao 2).1.length≤2∧∀ n ∈ (iZ ao 2).1,-2147483648≤n∧n≤2147483647:=by
 unfold iZ at h⊢;split at h
 ·rename_i h1;exact absurd h h1
 rename_i h1;rw [if_neg h1];split at h
 ·cases h
 rename_i ad;rw [if_neg ad];split at h
 ·rename_i aD;exact absurd h aD
 rename_i aD;rw [if_neg aD];obtain ⟨bn,bN⟩:=i3 al (by omega)
 obtain ⟨l,cX,dT,e8,jt⟩:=abe _ _ [] (fun b ab=>al b (awt ab)) h;rw [avG] at cX;rw [cX];refine ⟨?_,by omega,jt⟩
 unfold x4;rw [dT,au8,←e8];exact bn
theorem apO {ao:List Nat} (al:∀ b ∈ ao,b<256) (h:(hM ao).2.2=0):ao=ze (hM ao).1++(hM ao).2.1:=by
 unfold hM at h⊢;split at h
 ·rename_i h1;exact absurd h h1
 rename_i h1;rw [if_neg h1];split at h
 ·cases h
 rename_i ad;rw [if_neg ad];obtain ⟨bn,bN⟩:=i3 al (by omega)
 unfold ze;simp only;rw [VV,avD (by omega),au8,List.take_append_drop]
 exact bn
theorem abf {ao:List Nat} (al:∀ b ∈ ao,b<256) {v:bD} {cN:List Nat} (h:nJ ao=.ok (v,cN)):zM v∧Sub cN ao∧(v.kind<1000→ao=fP v++cN):=by
 unfold nJ at h;split at h
 ·cases h
 rename_i aC;obtain ⟨d1,hc⟩:=i3 al (by omega)
 have s1:=Sub.drop ao (dec ao 0 0).2.1;generalize cq:(dec ao 0 0).1=K at *;generalize ao.drop (dec ao 0 0).2.1=dK at *;unfold qG at h;split at h
 ·cases h
 rename_i bd;obtain ⟨d2,ez,dI⟩:=apN (s1.lt al) (by omega)
 have s2:=(abc dK 2).trans s1;generalize (iZ dK 2).1=bg at *;generalize (iZ dK 2).2.1=b7 at *;unfold qF at h;split at h
 ·cases h
 rename_i ev;obtain ⟨d3,xA⟩:=i3 (s2.lt al) (by omega)
 have pY:=(Sub.drop b7 (dec b7 0 0).2.1).trans s2;have abg:=ZL _ xA;have z3:=Tz _ xA;generalize (dec b7 0 0).1=N at *;generalize b7.drop (dec b7 0 0).2.1=gx at *;unfold qE at h;split at h
 ·cases h
 rename_i jr;have d4:=apO (pY.lt al) (by omega)
 have uR:=(T8 gx).1.trans pY;have Ob:=(T8 gx).2.trans pY;generalize (hM gx).1=xs at *;generalize (hM gx).2.1=oY at *;have jF:∀ f ∈ bg,lG f:=fun f av=>by have:=dI f av;unfold lG;omega
 split at h
 ·rename_i aK;injection h with h;injection h with h1 ad;subst h1;subst ad;have Iq:xs=[]:=List.eq_nil_of_length_eq_zero aK;refine ⟨⟨vY 0 0 (by decide) (by decide),by simp only;omega,by simp only [lG];omega,abg,jF⟩,uR,fun hk=>?_⟩
  simp only at hk;have Ky:min K 1000=K:=by omega
  have ym:ja (.mk 0 0 [])=[]:=by decide
  unfold fP;simp only;rw [Ky,avc,ym,z3];subst Iq
  conv=>lhs;rw [d1,d2,d3,d4]
  simp only [au8]
 ·rename_i aK;split at h
  ·cases h
  rename_i c6;injection h with h;injection h with h1 ad;subst h1;subst ad;obtain ⟨e,cX,dT⟩:=apM (xs:=xs) (fun U=>c6 U) (fun U=>aK (by rw [U];rfl))
  obtain ⟨e8,jt,tO⟩:=aog (Ob.lt al) cX;rw [dT];refine ⟨⟨tO,by simp only;omega,by simp only [lG];omega,abg,jF⟩,uR,fun hk=>?_⟩
  simp only at hk;have Ky:min K 1000=K:=by omega
  have ym:ja e=xs:=by unfold ja;rw [if_pos jt,←e8]
  unfold fP;simp only;rw [Ky,avc,ym,z3]
  conv=>lhs;rw [d1,d2,d3,d4]
  simp only [au8]
theorem apP {v:bD} (aY:zM v) (hk:1≤v.kind∧v.kind≤10) (aw:v.bc.length≤2) (av:∀ f ∈ v.bc,0≤f∧f<24) (he:v.e=.mk 0 0 []∨c1 v.e=true) (r:List Nat):nJ (fP v++r)=.ok (v,r):=by
 obtain ⟨kind,bg,e,n⟩:=v;simp only at hk aw av he;obtain ⟨K,rfl⟩:=axr (show 0≤kind by omega)
 have aG:=aY.2.2.2.1;simp only at aG;unfold fP;simp only [avc,au8];unfold nJ;rw [zd K (by omega)]
 simp only [awd];rw [if_neg (by simp),avD (by omega)]
 unfold qG;have az:∀ q,iZ (x4 bg++q) 2=(bg,q,0):=fun q=>by
  unfold iZ x4;rw [au8,zd _ (by omega)]
  simp only [awd];rw [if_neg (by simp),if_neg (by omega),ZP q bg [] (fun f ab=>by have:=av f ab;omega),if_neg (by simp)]
  simp
 rw [az];simp only;rw [if_neg (by simp)]
 unfold qF;rw [zd _ (AU _ aG.1 aG.2)];simp only [awd];rw [if_neg (by simp),Tt]
 unfold qE;have r0:=T4 aY.1;simp only at r0;rw [an6 _ _ (by omega)]
 simp only;rw [if_neg (by simp)]
 rcases he with rfl | he
 ·have ym:ja (.mk 0 0 [])=[]:=by decide
  rw [ym,avi,if_pos rfl]
 ·have ym:ja e=cS e:=by unfold ja;rw [if_pos he]
  rw [ym];have yc:=Z5 he aY.1;have bI:(cS e).length≠0:=by
   obtain ⟨o,m,aQ⟩:=e;rw [GV];simp only [IS];have:=(p3 o.toNat (by have:=aY.1;cases this;omega)).1
   omega
  have zb:nI (cS e)=0:=by unfold nI;rw [yc]
  have bL:ov (cS e)=e:=by unfold ov;rw [yc]
  rw [if_neg bI,zb,if_neg (by simp),bL]
theorem apQ (h:I) (v:bD):ie ds 22 1 [(0,.agg (an v))] h=some (.bj h.n 0 1 1,h.push (.cells (an v) 68 none)):=by
 rw [qB,lY S0];rfl
theorem apR {h:I} {s:V} {cs:List bD} (o:Own h 68 6 s (cs.flatMap an)) (aw:cs.length≤2 ^ 40) (c:bD) :
  ∃ cJ h',kO ds 22 22 s (.bj h.n 0 1 1) (h.push (.cells (an c) 68 none))=some (cJ,h')∧Own h' 68 6 cJ ((cs++[c]).flatMap an)∧J h h' (a6 s)∧dm h s cJ:=by
 have b9:J h (h.push (.cells (an c) 68 none)) none_:=J.push _ _ _;have gK:Own (h.push (.cells (an c) 68 none)) 68 6 (.bj h.n 0 1 1) (an c):=Own.eZ (an c) 1 (ki c) (by decide)
 have dR:=vJ (P:=ds) (t:=22) rn gK (n:=1) (ki c) (by decide) (A5 c)
 obtain ⟨cJ,h',fh,hq,my,gW⟩:=vI (P:=ds) (t:=22) (tx:=22) S0 (by decide) (o.br b9) dR (ki c) (fun m hm=>by
  change m * 6=_ at hm;rw [gM ki,ki] at hm;exact ⟨by simp only [lim];omega,by simp only [lim];omega⟩)
 refine ⟨cJ,h',fh,?_,(b9.up).trans' my,?_⟩
 ·rw [List.flatMap_append];simpa using hq
 ·rcases gW with gW | gW
  ·exact .inl gW
  ·exact .inr fun q ab=>OF b9.n (gW q ab)
theorem G8 (h:I) (c:Nat):aA (.tuple [.agg [.ag,.int .i64 0],.int .i64 (c:Nat)]) h (.tuple [.agg (cT [] 0),.int .i64 (c:Nat)]) h :=
 aA.tuple (aq.cons (Pk.aA.agg (aq.cons (aA.hL h) (aq.refl _ _))) (aq.refl _ _))
theorem apS {h:I} {s:V} {l:List bD} (p:Int) (o:Own h 68 6 s (l.flatMap an)):∃ ad,aA (.agg [s,.int .i64 p]) h (.agg (cT l p)) ad∧J h ad (a6 s):=by
 obtain ⟨ad,c,k⟩:=aA.own (n:=l.length) o (gM ki l) (by decide)
 exact ⟨ad,Pk.aA.agg (aq.cons c (aq.refl _ _)),k⟩
theorem abh {ao:List Nat} {c:Nat} (h:nJ ao=.error c):c≠0:=by
 unfold nJ at h;split at h
 ·injection h with h;omega
 unfold qG at h;split at h
 ·injection h with h;omega
 unfold qF at h;split at h
 ·injection h with h;omega
 unfold qE at h;split at h
 ·injection h with h;omega
 split at h
 ·cases h
 split at h
 ·injection h with h;omega
 ·cases h
theorem apT {m:Nat} {ao:List Nat} {acc:List bD} {c:Nat} (h:nJ ao=.error c):iC (m+1) ao acc=.error c:=by unfold iC;rw [h]
theorem apU (i:Nat) (ao:List Nat) (h:I) (az:gN h) (aL:dA h (.ptr i 0) i ao) (al:∀ b ∈ ao,b<256) (ay:ao.length≤2 ^ 47) :
  af ds 66 [.ptr i 0] h (fun r h'=>r=T9 (pb ao)∧J h h' (·=i)∧∀ p l cN,pb ao=.ok (p,l,cN)→dA h' (.ptr i 0) i cN):=by
 refine af.cast ?_;refine af.au (c:=_) Tryz.func66 rfl (by kernel_rfl) (by simp) ?_
 have cU:=aL.2.1;obtain ⟨eQ,dx⟩:∃ y,y=h.push (.cells [V.ag,.int .i64 0] 24 none):=⟨_,rfl⟩;have Fq:J h eQ none_:=by rw [dx];exact J.push _ _ _
 have gz:J h eQ (·=i):=Fq.up;have g0:eQ.get h.n=.cells [V.ag,.int .i64 0] 24 none:=by rw [dx];exact ck
 have ot:eQ.n=h.n+1:=by rw [dx];rfl
 have nY:=dA.ai aL Fq (by simp [none_])
 have pa:bF (some 2) (aO.cells [V.ag,.int .i64 0] 24 none) 0 [V.ag,.int .i64 0]=some (.cells [V.ag,.int .i64 0] 24 none):=rfl;have z0:(((0:Nat):Int) !=0)=false:=rfl;simp only [ae,vt,reduceCtorEq,uI];rw [←dx];clear dx;refine cB Sr (Eo i ao eQ nY al (by omega)) fun r H1 ⟨aC,cZ,bJ⟩=>?_
 subst aC;have s1:Sub (ao.drop (dec ao 0 0).2.1) ao:=Sub.drop _ _;have g1:=(bJ.get h.n (by omega) (by omega)).trans g0
 have lC:=gz.trans' bJ;have fv:=bJ.n;by_cases aC:(dec ao 0 0).2.2=0;rotate_left
 ·have bb:(((dec ao 0 0).2.2:Int) !=0)=true:=by simp;omega
  have jb:pb ao=.error (dec ao 0 0).2.2:=by unfold pb;rw [if_pos aC]
  simp only [ae,vt,AS,js,AM,uI,uJ,bb,g1,pa,aS,axs,iy,ij,fB,ix];rw [jb];exact ax ⟨_,_,G8 _ _,rfl,lC.trans (J.set _ h.n _) fun q ab U=>by omega,fun p l cN U=>by cases U⟩
 have nb:pb ao=qI (min (dec ao 0 0).1 1000) (ao.drop (dec ao 0 0).2.1):=by unfold pb;rw [if_neg (by omega)]
 rw [aC] at *;rw [nb];generalize min (dec ao 0 0).1 1000=P at *;generalize ao.drop (dec ao 0 0).2.1=dK at *;clear nb;simp only [ae,vt,reduceCtorEq,z0];refine cB Sr (Eo i dK H1 cZ (s1.lt al) (by have:=s1.2;omega)) fun r bK ⟨bd,dI,ba⟩=>?_
 subst bd;have s2:=(Sub.drop dK (dec dK 0 0).2.1).trans s1;have g2:=(ba.get h.n (by omega) (by omega)).trans g1
 have da:=lC.trans' ba;have dy:=ba.n;by_cases bd:(dec dK 0 0).2.2=0;rotate_left
 ·have bb:(((dec dK 0 0).2.2:Int) !=0)=true:=by simp;omega
  have jb:qI P dK=.error (dec dK 0 0).2.2:=by unfold qI;rw [if_pos bd]
  simp only [ae,vt,AS,js,AM,uI,uJ,bb,g2,pa,aS,axs,iy,ij,fB,ix];rw [jb];exact ax ⟨_,_,G8 _ _,rfl,da.trans (J.set _ h.n _) fun q ab U=>by omega,fun p l cN U=>by cases U⟩
 have nb:qI P dK=if 24<min (dec dK 0 0).1 1000 then .error 2 else qH P (min (dec dK 0 0).1 1000) (dK.drop (dec dK 0 0).2.1):=by unfold qI;rw [if_neg (by omega)]
 rw [bd] at *;rw [nb];generalize min (dec dK 0 0).1 1000=N at *;generalize dK.drop (dec dK 0 0).2.1=b7 at *;clear nb;by_cases Fs:24<N
 ·have bb:decide ((24:Int)<(N:Int))=true:=decide_eq_true (by omega)
  simp only [ae,vt,AS,js,AM,uI,uJ,z0,bb,g2,pa,aS,axs,iy,ij,fB,ix];rw [if_pos Fs];exact ax ⟨_,_,G8 _ 2,rfl,da.trans (J.set _ h.n _) fun q ab U=>by omega,fun p l cN U=>by cases U⟩
 have bb:decide ((24:Int)<(N:Int))=false:=decide_eq_false (by omega)
 rw [if_neg Fs];have st1:bF (some 2) (aO.cells [V.ag,.int .i64 0] 24 none) 0 [V.ag,.int .i64 (P:Int)]=some (.cells [V.ag,.int .i64 (P:Int)] 24 none):=rfl;obtain ⟨fj,eS⟩:∃ y,y=bK.push (.cells [V.ag,.int .i64 (P:Int)] 24 none):=⟨_,rfl⟩;have Ql:J bK fj none_:=by rw [eS];exact J.push _ _ _
 have b2:J bK fj (·=i):=Ql.up;have Ft:fj.get bK.n=.cells [V.ag,.int .i64 (P:Int)] 24 none:=by rw [eS];exact ck
 have n3:fj.n=bK.n+1:=by rw [eS];rfl
 have g3:=(b2.get h.n (by omega) (by omega)).trans g2
 have eT:=da.trans' b2;have jB:=dA.ai dI Ql (by simp [none_])
 simp only [ae,vt,AS,AM,uI,uJ,z0,bb,st1];rw [←eS];clear eS;generalize hW:bK.n=F at *;have Ua:Own fj 68 6 .ag (([]:List bD).flatMap an):=.inl ⟨.inl rfl,rfl⟩;refine aZ.bQ (α:=Nat×V×List bD×List Nat) (fun x f h'=>f 0=.ptr i 0∧f 2=.ptr h.n 0∧f 7=.ptr F 0∧f 33=.int .i64 (N:Int)∧f 34=.int .i64 (x.1:Nat)∧x.1≤N∧x.2.2.1.length=x.1∧h'.get h.n=.cells [V.ag,.int .i64 0] 24 none∧h'.get F=.cells [x.2.1,.int .i64 (P:Int)] 24 none ∧
   Own h' 68 6 x.2.1 (x.2.2.1.flatMap an)∧(∀ j,a8 x.2.1=some j→F<j)∧dA h' (.ptr i 0) i x.2.2.2∧Sub x.2.2.2 ao∧J h h' (·=i)∧F<h'.n∧iC N b7 []=iC (N - x.1) x.2.2.2 x.2.2.1) (fun x=>N - x.1) (0,.ag,[],b7)
  ⟨rfl,rfl,rfl,rfl,rfl,Dc _,rfl,g3,Ft,Ua,(fun j aV=>by simp [a8] at aV),jB,s2,eT,by omega,rfl⟩ ?_
 rintro ⟨j,s,acc,b⟩ f h1 ⟨f0,f2,f7,f33,f34,aV,l8,Oy,Kz,os,ids,rd,sY,kk,abi,bL⟩
 simp only at f34 aV l8 Kz os ids rd sY bL;refine ee (by kernel_rfl) ?_
 by_cases aM:j<N
 ·have c5:decide ((j:Int)<(N:Int))=true:=decide_eq_true (by omega)
  have bS:IntKind.i64.wrap (((j:Nat):Int)+1)=((j+1:Nat):Int):=by rw [Go.IntWalk.i64_in _ (by omega)];omega
  obtain ⟨h9,Ck⟩:∃ h9,N - j=h9+1:=⟨N - j - 1,by omega⟩
  rw [Ck] at bL;simp only [ae,vt,reduceCtorEq,f0,f33,f34,c5];refine cB alv (apL i b h1 (az.ai kk) rd (sY.lt al) (by have:=sY.2;omega)) fun r hY ⟨jr,db,d4⟩=>?_
  subst jr;have n4:=db.n;have Qm:=(db.get h.n (by omega) (by omega)).trans Oy
  have abj:=(db.get F abi (by omega)).trans Kz
  have mc:=kk.trans' db;have abk:=os.ai db (fun q ab U=>by have:=ids q ab;omega)
  cases aH:nJ b with
  | error c=>
   rw [apT aH] at bL;have s8:((c:Int) !=0)=true:=by have:=abh aH;simp;omega
   have bk:qH P N b7=.error c:=by unfold qH;rw [bL]
   have cm:(V.agg (an Ep)).cells=some (an Ep):=rfl;have dV:bF (some 6) (aO.cells [V.int .i64 0,.ag,.int .i64 0,.int .i64 0,.ag,.int .i64 0] 68 none) 0 (an Ep)=some (.cells (an Ep) 68 none):=by
    rw [sR (n:=6) (ki _) (A5 _),if_pos (by decide),qB];rfl
   have uQ:J hY (hY.push (.cells (an Ep) 68 none)) none_:=J.push _ _ _;have KA:=(uQ.get h.n (by omega) (by simp [none_])).trans Qm
   simp only [T7];simp only [ae,vt,AS,js,AM,uI,pZ,uJ,p0,f2,cm,dV,s8,KA,pa,aS,axs,iy,ij,fB,ix];rw [bk];exact ax ⟨_,_,G8 _ _,rfl,(mc.trans' uQ.up).trans (J.set _ h.n _) fun q ab U=>by omega,fun p l cN U=>by cases U⟩
  | ok y=>
   obtain ⟨A,cN⟩:=y;have abl:iC N b7 []=iC h9 cN (acc++[A]):=by rw [bL];conv=>lhs;unfold iC;rw [aH]
   obtain ⟨_,Ub,_⟩:=abf (sY.lt al) aH;have abm:=d4 A cN aH;have cm:(V.agg (an A)).cells=some (an A):=rfl;have dV:bF (some 6) (aO.cells [V.int .i64 0,.ag,.int .i64 0,.int .i64 0,.ag,.int .i64 0] 68 none) 0 (an A)=some (.cells (an A) 68 none):=by
    rw [sR (n:=6) (ki _) (A5 _),if_pos (by decide),qB];rfl
   have fN:cP (aO.cells (an A) 68 none) 0=some (an A):=by rw [qB];rfl
   have k4:cO (some (some 6)) (some (an A))=some (.agg (an A)):=by rw [qB];rfl
   obtain ⟨gr,fF⟩:∃ y,y=hY.push (.cells (an A) 68 none):=⟨_,rfl⟩;have dW:J hY gr none_:=by rw [fF];exact J.push _ _ _
   have x7:gr.n=hY.n+1:=by rw [fF];rfl
   have KB:gr.get hY.n=.cells (an A) 68 none:=by rw [fF];exact ck
   have KA:=(dW.get h.n (by omega) (by simp [none_])).trans Qm
   have Qn:=(dW.get F (by omega) (by simp [none_])).trans abj
   obtain ⟨cJ,zi,fh,Uc,fV,n6⟩:=apR (abk.br dW) (by omega) A
   have qx:=apQ gr A;have abn:=fV.n;have abo:=(fV.get h.n (by omega) (fun U=>by have:=ids h.n U;omega)).trans KA
   have abp:=(fV.get F (by omega) (fun U=>by have:=ids F U;omega)).trans Qn
   have lD:cJ.one=true:=by
    rcases Uc with ⟨rfl | rfl,_⟩ | ⟨_,_,_,_,_,rfl,_⟩<;>rfl
   have sc:cJ.cells=some [cJ]:=by
    rcases Uc with ⟨rfl | rfl,_⟩ | ⟨_,_,_,_,_,rfl,_⟩<;>rfl
   have Oz:bF (some 1) (aO.cells [s,V.int .i64 (P:Int)] 24 none) 0 [cJ]=some (.cells [cJ,.int .i64 (P:Int)] 24 none):=by rw [rU lD];rfl
   have sd:∀ q,a8 cJ=some q→F<q:=fun q ab=>by
    rcases n6 with n6 | n6
    ·exact ids q (by rw [←n6];exact ab)
    ·have:=n6 q ab;omega
   have cY:J zi (zi.set F (.cells [cJ,.int .i64 (P:Int)] 24 none)) (·=F):=J.set _ _ _;have Fu:J h zi (·=i):=(mc.trans' dW.up).trans fV fun q ab U=>by have:=ids q U;omega
   have abq:dA zi (.ptr i 0) i cN:=dA.ai abm (dW.up.trans' fV) (fun U=>by have:=ids i U;omega)
   simp only [T7];simp only [ae,vt,lZ,mw,pZ,p0,f7,cm,dV];rw [←fF];clear fF;simp only [ae,vt,AS,lZ,om,anA,f7,f34,Qn,KB,fN,k4,qx,fh,abp,sc,Oz,bS];exact ax ⟨(j+1,cJ,acc++[A],cN),⟨f0,f2,f7,f33,rfl,aM,by simp [l8],(cY.get h.n (by omega) (by omega)).trans abo,aT,Uc.ai cY (fun q ab U=>by have:=sd q ab;omega),sd,abq.ai cY (by omega),Ub.trans sY,Fu.trans cY fun q ab U=>by omega,by rw [lW];omega,by rw [show N - (j+1)=h9 by omega];exact abl⟩,by simp only;omega⟩
 ·have c5:decide ((j:Int)<(N:Int))=false:=decide_eq_false (by omega)
  rw [show N - j=0 by omega,iC] at bL
  have bk:qH P N b7=.ok (P,acc,b):=by unfold qH;rw [bL]
  have lD:s.one=true:=by
   rcases os with ⟨rfl | rfl,_⟩ | ⟨_,_,_,_,_,rfl,_⟩<;>rfl
  have Co:bF (some 2) (aO.cells [V.ag,.int .i64 0] 24 none) 0 [s,.int .i64 (P:Int)]=some (.cells [s,.int .i64 (P:Int)] 24 none) :=
   (sR (n:=2) (vs:=[s,V.int .i64 (P:Int)]) rfl (by simp only [all_cons,all_nil,M1,lD,Bool.and_self])).trans rfl
  have cY:J h1 (h1.set h.n (.cells [s,.int .i64 (P:Int)] 24 none)) (·=h.n):=J.set _ _ _;have Cp:=os.ai cY fun q ab U=>by have:=ids q ab;omega
  obtain ⟨fU,gO,nZ⟩:=apS (P:Int) Cp;simp only [ae,vt,AS,js,uJ,f2,f7,f33,f34,c5,Kz,Oy,Co,aS,axs,iy,ij,fB,ix];rw [bk];refine ax ⟨_,fU,aA.tuple (aq.cons gO (aq.refl _ _)),rfl,(kk.trans cY fun q ab U=>by omega).trans nZ fun q ab U=>by have:=ids q U;omega,fun p l cN U=>?_⟩
  cases U;exact (rd.ai cY (by omega)).ai nZ (fun U=>by have:=ids i U;omega)
theorem Ud (a b:List Int) (h:I) (aP:a.length≤2 ^ 60):Pure ds 16 [.ah a.length (ar a),.ah b.length (ar b)] h (.bool (decide (a=b))):=by
 refine Pure.val (a7.bool _) ?_;refine af.au (c:=_) Tryz.func16 rfl (by kernel_rfl) (by simp) ?_
 by_cases bI:a.length=b.length;rotate_left
 ·have bb:(((a.length:Nat):Int) !=((b.length:Nat):Int))=true:=by simp;omega
  have bk:decide (a=b)=false:=by simp only [decide_eq_false_iff_not];rintro rfl;exact bI rfl
  simp only [ae,vt,reduceCtorEq,gy,bb,aS,ayZ,ac];exact ax ⟨by rw [bk],J.refl _ _⟩
 have bb:(((a.length:Nat):Int) !=((b.length:Nat):Int))=false:=by simp [bI]
 simp only [ae,vt,reduceCtorEq,gy,bb];refine aZ.bQ (α:=Nat) (fun i f h'=>f 0=.ah a.length (ar a)∧f 1=.ah b.length (ar b)∧f 5=.int .i64 (i:Nat)∧J h h' none_∧i≤a.length∧a.take i=b.take i) (fun i=>a.length - i) 0
  ⟨rfl,rfl,rfl,J.refl _ _,Dc _,rfl⟩ ?_
 rintro i f h1 ⟨f0,f1,f5,bJ,hi,cd⟩
 refine ee (by kernel_rfl) ?_
 by_cases aM:i<a.length;rotate_left
 ·have c3:decide ((i:Int)<((a.length:Nat):Int))=false:=decide_eq_false (by omega)
  rw [are (by omega),are (by omega)] at cd
  simp only [ae,vt,reduceCtorEq,gy,f0,f5,c3,aS,ayZ,ac];exact ax ⟨by rw [cd];simp,bJ⟩
 ·have c3:decide ((i:Int)<((a.length:Nat):Int))=true:=decide_eq_true (by omega)
  have KC:i<b.length:=by omega
  have cV:IntKind.i64.wrap ((i:Int)+1)=((i+1:Nat):Int):=by rw [Go.IntWalk.i64_in _ (by omega)];omega
  have ft:∃ r,hG ds 46 (.ah a.length (ar a)) (.int .i64 (i:Int))=some (.at (.int .i64 a[i]::r)):=⟨_,Ab.Ni (V.int .i64) aM jI⟩;have cy:∃ r,hG ds 46 (.ah b.length (ar b)) (.int .i64 (i:Int))=some (.at (.int .i64 b[i]::r)):=⟨_,Ab.Ni (V.int .i64) KC jI⟩;obtain ⟨nY,ft⟩:=ft;obtain ⟨cZ,cy⟩:=cy;have yn:a[i]=b[i]→a.take (i+1)=b.take (i+1):=fun heq=>by rw [avt aM,avt KC,cd,heq]
  have ou:¬a[i]=b[i]→decide (a=b)=false:=fun heq=>by simp only [decide_eq_false_iff_not];rintro rfl;exact heq rfl
  generalize a[i]=A at ft yn ou;generalize b[i]=B at cy yn ou;simp only [ae,vt,reduceCtorEq,gy,f0,f5,c3];refine aZ.bB none_ [] (.q 0 (.q 1 (.q 2 (.q 3 (.q 4 (.q 5 (.q 6 (.q 7 (.q 8 .done))))))))) (by kernel_rfl) (by kernel_rfl) (by kernel_rfl) ?_
  by_cases heq:A=B
  ·have fv:(A !=B)=false:=by simp [heq]
   simp only [ae,bM,vt,reduceCtorEq,aW,f0,f1,f5,ft,cy,fv,cV];exact ax ⟨i+1,⟨f0,f1,rfl,bJ,by omega,yn heq⟩,by omega⟩
  ·have fv:(A !=B)=true:=by simp [heq]
   simp only [ae,bM,vt,reduceCtorEq,aW,f0,f1,f5,ft,cy,fv,aS,ayZ,ac];exact ax ⟨by rw [ou heq],bJ⟩
theorem abr:∀ (m:Nat) (ao:List Nat) (acc:List bD),(∀ b ∈ ao,b<256)→∀ l r,iC m ao acc=.ok (l,r)→∃ bU,l=acc++bU∧bU.length=m∧(∀ v ∈ bU,zM v)∧Sub r ao∧((∀ v ∈ bU,v.kind<1000)→ao=bU.flatMap fP++r)
 | 0,ao,acc,al,l,r,h=>by
  unfold iC at h;cases h;exact ⟨[],by simp,rfl,by simp,Sub.rfl' _,fun _=>rfl⟩
 | m+1,ao,acc,al,l,r,h=>by
  unfold iC at h;split at h
  ·cases h
  ·rename_i v cN aH;obtain ⟨ok,sY,uN⟩:=abf al aH;obtain ⟨bU,cX,dT,e8,jt,tO⟩:=abr m cN (acc++[v]) (sY.lt al) l r h;refine ⟨v::bU,by rw [cX];simp,by simp [dT],fun u hu=>?_,jt.trans sY,fun hk=>?_⟩
   ·rcases IN.1 hu with rfl | hu
    ·exact ok
    ·exact e8 u hu
   ·rw [uN (hk v (by simp)),tO fun u hu=>hk u (by simp [hu])]
    simp
theorem abt:∀ (l:List bD) (acc:List bD) (r:List Nat),(∀ v ∈ l,∀ r,nJ (fP v++r)=.ok (v,r))→iC l.length (l.flatMap fP++r) acc=.ok (acc++l,r)
 | [],acc,r,h=>by simp [iC]
 | v::l,acc,r,h=>by
  rw [ave,avj,au8];unfold iC;rw [h v (by simp)]
  simp only;rw [abt l (acc++[v]) r fun u hu=>h u (by simp [hu])]
  simp
theorem apV {ao:List Nat} (al:∀ b ∈ ao,b<256) {p:Nat} {l:List bD} {r:List Nat} (h:pb ao=.ok (p,l,r)):k7 l∧p≤1000∧(p<1000→(∀ v ∈ l,v.kind<1000)→ao=qD (p:Int) l++r):=by
 unfold pb at h;split at h
 ·cases h
 rename_i aC;obtain ⟨d1,hc⟩:=i3 al (by omega)
 have s1:=Sub.drop ao (dec ao 0 0).2.1;generalize (dec ao 0 0).1=P at *;generalize ao.drop (dec ao 0 0).2.1=dK at *;unfold qI at h;split at h
 ·cases h
 rename_i bd;obtain ⟨d2,ez⟩:=i3 (s1.lt al) (by omega)
 have s2:=(Sub.drop dK (dec dK 0 0).2.1).trans s1;generalize (dec dK 0 0).1=N at *;generalize dK.drop (dec dK 0 0).2.1=b7 at *;split at h
 ·cases h
 rename_i ev;unfold qH at h;split at h
 ·cases h
 rename_i pD nY aH;cases h;obtain ⟨bU,cX,dT,e8,jt,tO⟩:=abr _ b7 [] (s2.lt al) _ _ aH;rw [avG] at cX;subst cX;refine ⟨⟨by omega,e8⟩,by omega,fun aU hk=>?_⟩
 have h1:min P 1000=P:=by omega
 have ad:l.length=N:=by omega
 unfold qD;rw [h1,ad,avc]
 conv=>lhs;rw [d1,d2,tO hk]
 simp only [au8]
theorem apW {v:bD} (hk:1≤v.kind∧v.kind≤10) (h:kj v=true):v.e=.mk 0 0 []∨c1 v.e=true:=by
 unfold kj uU at h;simp only [VW] at h;have ad:=h.2.1;unfold m9 at ad;split at ad
 ·left;simp only [VW,beq_iff_eq,List.isEmpty_iff] at ad;obtain ⟨k,bg,⟨o,n,aQ⟩,m⟩:=v;simp only [b4.op,b4.num,b4.aQ] at ad;obtain ⟨rfl,rfl,rfl⟩:=ad;rfl
 ·right;simp only [VW] at ad;exact ad.1
theorem apX {P:Nat} {l:List bD} (aY:k7 l) (h:(ch (P:Int) l).2=0):pb (qD (P:Int) l)=.ok (P,l,[]):=by
 obtain ⟨aU,h5,ht,dr⟩:=G7 h;unfold qD;rw [avc,au8];unfold pb;rw [zd P (by omega)]
 simp only [awd];rw [if_neg (by simp),avD (by omega)]
 unfold qI;rw [zd l.length (by omega)]
 simp only [awd];rw [if_neg (by simp),avD (by omega),if_neg (by omega)]
 unfold qH;have:=abt l [] [] fun v aH r=>apP (aY.2 v aH) (dr v aH).1 (dr v aH).2.1 (dr v aH).2.2.1 (apW (dr v aH).1 (dr v aH).2.2.2) r;rw [avq] at this;rw [this];rfl
theorem apY {ao:List Nat} {c:Nat} (h:pb ao=.error c):c≠0:=by
 have og:∀ (m:Nat) (b:List Nat) (acc:List bD) (c:Nat),iC m b acc=.error c→c≠0:=by
  intro m
  induction m with
  | zero=>intro b acc c h;unfold iC at h;cases h
  | succ m ih=>
   intro b acc c h;unfold iC at h;split at h
   ·rename_i aH;cases h;exact abh aH
   ·exact ih _ _ _ h
 unfold pb at h;split at h
 ·injection h with h;omega
 unfold qI at h;split at h
 ·injection h with h;omega
 split at h
 ·injection h with h;omega
 unfold qH at h;split at h
 ·rename_i aH;cases h;exact og _ _ _ _ aH
 ·cases h
def uY (ao:List Nat):(Int×List bD)×Int:=match pb ao with
 | .error c=>((0,[]),(c:Int))
 | .ok (p,l,r)=>if r.length≠0 then ((0,[]),5) else if (ch (p:Int) l).2≠0 then ((0,[]),(ch (p:Int) l).2) else (((p:Int),l),0)
def pc (ao:List Nat):V:=.tuple [.agg (cT (uY ao).1.2 (uY ao).1.1),.int .i64 (uY ao).2]
theorem apZ (ao:List Nat):a7 (pc ao):=a7.tuple (a1.cons (a7.agg (aa2 _ _)) (a1.cons (a7.int _ _) a1.nil))
theorem abu {p:Int} {l:List bD} (aY:k7 l) (h:(ch p l).2=0):uY (lH p l)=((p,l),0):=by
 obtain ⟨aU,_,_,dr⟩:=G7 h;obtain ⟨P,rfl⟩:=axr (show 0≤p by omega)
 unfold lH;rw [if_pos h];unfold uY;rw [apX aY h];simp only [avi];rw [if_neg (by simp),if_neg (by omega)]
theorem KD (x:V) (ao:List Nat) (h:I) (az:jf h) (rd:Rd h x ao) (al:∀ b ∈ ao,b<256) (aw:ao.length≤2 ^ 47):Pure ds 31 [x] h (pc ao):=by
 refine Pure.of (apZ ao) ?_;refine af.au (c:=_) Tryz.func31 rfl (by kernel_rfl) (by simp) ?_
 obtain ⟨eQ,dx⟩:∃ y,y=h.push (.cells [V.ag,.int .i64 0] 24 none):=⟨_,rfl⟩;have gz:J h eQ none_:=by rw [dx];exact J.push _ _ _
 have g0:eQ.get h.n=.cells [V.ag,.int .i64 0] 24 none:=by rw [dx];exact ck
 have ot:eQ.n=h.n+1:=by rw [dx];rfl
 have pa:bF (some 2) (aO.cells [V.ag,.int .i64 0] 24 none) 0 [V.ag,.int .i64 0]=some (.cells [V.ag,.int .i64 0] 24 none):=rfl;have zO:∀ (l:List bD) (p:Int),bF (some 2) (aO.cells [V.ag,.int .i64 0] 24 none) 0 [.ah l.length (l.flatMap an),.int .i64 p]=some (.cells [.ah l.length (l.flatMap an),.int .i64 p] 24 none):=fun _ _=>rfl;have tr:∀ (l:List bD) (p:Int),(V.agg (cT l p)).cells=some [.ah l.length (l.flatMap an),.int .i64 p]:=fun _ _=>rfl;have nK:∀ (l:List bD) (p:Int),V.agg [.ah l.length (l.flatMap an),.int .i64 p]=.agg (cT l p):=fun _ _=>rfl;simp only [ae,vt,reduceCtorEq,uI];rw [←dx];clear dx;refine cB Yl (JE x ao eQ (rd.ai gz) (by omega)) fun r H1 ⟨aC,cZ,bJ⟩=>?_
 subst aC;have fv:eQ.n+1≤H1.n:=cZ.2.1;have g1:=(bJ.get h.n (by omega) (by simp [none_])).trans g0
 have lC:=gz.trans' bJ;simp only [ae,vt];refine cB ami (apU eQ.n ao H1 (az.1.ai lC) cZ al aw) fun r bK ⟨bd,ba,d2⟩=>?_;subst bd;have dy:=ba.n;have g2:=(ba.get h.n (by omega) (by omega)).trans g1
 have da:J h bK none_:=lC.trans ba fun q ab U=>by omega
 cases aj:pb ao with
 | error c=>
  have s8:=apY aj;have bb:(((c:Nat):Int) !=0)=true:=by simp;omega
  have jb:pc ao=.tuple [.agg (cT [] 0),.int .i64 (c:Nat)]:=by unfold pc uY;rw [aj]
  rw [jb];have uQ:J bK (bK.push (.cells [.ah 0 [],.int .i64 0] 24 none)) none_:=J.push _ _ _;have g3:=(uQ.get h.n (by omega) (by simp [none_])).trans g2
  have s8:(V.agg (cT [] 0)).cells=some [.ah 0 [],.int .i64 0]:=rfl;have Ue:bF (some 2) (aO.cells [V.ag,.int .i64 0] 24 none) 0 [.ah 0 [],.int .i64 0]=some (.cells [.ah 0 [],.int .i64 0] 24 none):=rfl;simp only [T9];simp only [ae,vt,AS,js,AM,uI,uJ,s8,Ue,bb,g3,pa,aS,ax1,iy,ij,fB,ix];exact ax ⟨_,G8 _ c,(da.trans' uQ).trans (J.set _ h.n _) fun q ab U=>by omega⟩
 | ok y=>
  obtain ⟨p,l,r⟩:=y;have abv:=d2 p l r aj;obtain ⟨abw,_,_⟩:=apV al aj;have z0:((0:Int) !=0)=false:=rfl;obtain ⟨fj,eS⟩:∃ y,y=bK.push (.cells [.ah l.length (l.flatMap an),.int .i64 (p:Int)] 24 none):=⟨_,rfl⟩;have b2:J bK fj none_:=by rw [eS];exact J.push _ _ _
  have Ft:fj.get bK.n=.cells [.ah l.length (l.flatMap an),.int .i64 (p:Int)] 24 none:=by rw [eS];exact ck
  have g3:=(b2.get h.n (by omega) (by simp [none_])).trans g2
  have abx:=dA.ai abv b2 (by simp [none_])
  have eT:=da.trans' b2;have n3:fj.n=bK.n+1:=by rw [eS];rfl
  simp only [T9];simp only [ae,vt,uI,uJ,tr,zO];rw [←eS];clear eS;refine bW Ym (Left fj _ _ r abx) ?_;by_cases zu:r.length=0;rotate_left
  ·have bb:decide ((0:Int)<((r.length:Nat):Int))=true:=decide_eq_true (by omega)
   have jb:pc ao=.tuple [.agg (cT [] 0),.int .i64 (5:Nat)]:=by unfold pc uY;rw [aj];simp only;rw [if_pos zu];rfl
   rw [jb];simp only [ae,vt,AS,js,AM,uI,uJ,bb,g3,pa,aS,ax1,iy,ij,fB,ix];exact ax ⟨_,G8 _ 5,eT.trans (J.set _ h.n _) fun q ab U=>by omega⟩
  have bb:decide ((0:Int)<((r.length:Nat):Int))=false:=decide_eq_false (by omega)
  simp only [ae,vt,AS,js,bb,Ft,nK];refine bW NG (Ov l p abw fj (az.ai eT)) ?_;by_cases aK:(ch (p:Int) l).2=0
  ·have bt:((ch (p:Int) l).2 !=0)=false:=by simpa using aK
   have jb:pc ao=.tuple [.agg (cT l (p:Int)),.int .i64 0]:=by unfold pc uY;rw [aj];simp only;rw [if_neg (by omega),if_neg (by omega)]
   rw [jb];simp only [ae,vt,AS,js,uJ,qC,bt,Ft,g3,zO,aS,ax1,iy,ij,fB,ix];exact ax ⟨_,aA.refl _ _,eT.trans (J.set _ h.n _) fun q ab U=>by omega⟩
  ·have bt:((ch (p:Int) l).2 !=0)=true:=by simpa using aK
   have jb:pc ao=.tuple [.agg (cT [] 0),.int .i64 (ch (p:Int) l).2]:=by unfold pc uY;rw [aj];simp only;rw [if_neg (by omega),if_pos aK]
   rw [jb];simp only [ae,vt,AS,js,AM,uI,uJ,qC,bt,g3,pa,aS,ax1,iy,ij,fB,ix];exact ax ⟨_,aA.tuple (aq.cons (Pk.aA.agg (aq.cons (aA.hL _) (aq.refl _ _))) (aq.refl _ _)),eT.trans (J.set _ h.n _) fun q ab U=>by omega⟩
abbrev Seen:=List (Nat×Int×Int)
def ny (a:Int):V:=.int .i64 a
def d8 (h:I) (p:V) (l:Seen) (i j cl:Nat):Prop :=
 p=.ptr i 0∧i<h.n∧j<h.n∧i≠j∧h.get i=.cells [.map j] 210 none∧h.get j=.map (mapOf .i64 ny l) cl∧eA (mapOf .i64 ny l) cl
def leastOf (l:Seen):Int:=if l=[] then -1 else l.foldr (fun e m=>min e.2.2 m) 1099511627776
def gB (l:Seen) (v t:Int):Bool×Int:=match dU l v with
 | none=>(false,6)
 | some g=>if t<0∨1099511627776<t then (false,2) else if t≤g then (false,0) else (true,0)
def gP (cl:Nat) (l:Seen) (v t:Int):Seen:=match dU l v with
 | none=>l
 | some g=>if t<0∨1099511627776<t then l else if t≤g then l else eM cl l v t
theorem aby {kk:IntKind} {α:Type} {enc:α→V} {cl:Nat} {v:Int} {a:α}:∀ {l:List (Nat×Int×α)},(dU l v).isSome→(mapOf kk enc (eM cl l v a)).map (·.1)=(mapOf kk enc l).map (·.1)
 | [],h=>by simp [dU] at h
 | e::l,h=>by
  unfold eM;by_cases hk:e.2.1=v
  ·simp [hk,mapOf]
  ·have:(dU l v).isSome:=by
    unfold dU at h⊢;rw [avX,show (e.2.1==v)=false by simp [hk]] at h
    exact h
   have ih:=aby (kk:=kk) (enc:=enc) (cl:=cl) (a:=a) this;simp only [mapOf,hk,if_false,au9] at ih⊢;rw [ih]
theorem ap0 {es fE:List (Nat×V×V)} {cl:Nat} (h:eA es cl) (he:fE.map (·.1)=es.map (·.1)):eA fE cl:=by
 refine ⟨fun e hm=>?_,by rw [he];exact h.2⟩
 have:e.1 ∈ fE.map (·.1):=MF.2 ⟨e,hm,rfl⟩;rw [he] at this;obtain ⟨ed,gF,h1⟩:=MF.1 this;rw [←h1];exact h.1 ed gF
theorem Uf (h:I) (p:V) (l:Seen) (i j cl:Nat) (hm:d8 h p l i j cl) (v t:Int) :
  af ds 84 [p,.int .i64 v,.int .i64 t] h (fun r h'=>r=.tuple [.bool (gB l v t).1,.int .i64 (gB l v t).2]∧d8 h' p (gP cl l v t) i j cl∧J h h' (·=j)):=by
 have gF:=hm;obtain ⟨rfl,hi,aV,j9,oE,mZ,aa⟩:=hm;refine af.au (c:=_) Tryz.func84 rfl (by kernel_rfl) (by simp) ?_
 have iQ:=lookup_int (P:=ds) (ok:=true) (k:=v) Js S5 mZ;have so:=RH (P:=ds) (k:=v) (a:=t) (v:=.int .i64 t) Js mZ rfl;cases az:dU l v with
 | none=>
  rw [az] at iQ;simp only [ae,vt,reduceCtorEq,AF,B8,AL,oE,iQ,aS,axt,c9];exact ax ⟨by simp [gB, *],by simp [gP, *],J.refl _ _⟩
 | some a=>
  rw [az] at iQ;have cI:nq cl l v=cl:=by simp [nq,az]
  have fin:d8 (h.set j (.map (mapOf .i64 ny (eM cl l v t)) cl)) (.ptr i 0) (eM cl l v t) i j cl :=
   ⟨rfl,hi,aV,j9,by rw [np j9];exact oE,aT,ap0 aa (aby (by simp [az]))⟩
  by_cases aK:t<0
  ·simp only [ae,vt,reduceCtorEq,AF,B8,AL,oE,iQ,ny,aK,aS,axt,c9];exact ax ⟨by simp [gB, *],by simp [gP, *],J.refl _ _⟩
  ·by_cases h1:1099511627776<t
   ·simp only [ae,vt,reduceCtorEq,AF,B8,AL,oE,iQ,ny,aK,h1,aS,axt,c9];exact ax ⟨by simp [gB, *],by simp [gP, *],J.refl _ _⟩
   ·by_cases ad:t≤a
    ·simp only [ae,vt,reduceCtorEq,AF,B8,AL,oE,iQ,ny,aK,h1,ad,aS,axt,c9];exact ax ⟨by simp [gB, *],by simp [gP, *],J.refl _ _⟩
    ·simp only [ae,vt,reduceCtorEq,AF,B8,AL,oE,iQ,ny,aK,h1,ad,aS,axt,c9,so,cI];exact ax ⟨by simp [gB, *],by simp [gP, *],J.set _ _ _⟩
theorem Ug {kk:IntKind} {α:Type} {enc:α→V}:∀ {l:List (Nat×Int×α)} {a b:Nat×Int×α},((mapOf kk enc l).map (·.1)).Nodup→a ∈ l→b ∈ l→a.1=b.1→a=b
 | [],a,b,_,h,_,_=>by simp at h
 | e::l,a,b,aG,aP,al,ky=>by
  simp only [mapOf,au9,List.nodup_cons] at aG;have key:∀ c:Nat×Int×α,c ∈ l→c.1≠e.1:=fun c ay pd=>aG.1 (by
   rw [List.map_map];exact MF.2 ⟨c,ay,pd⟩)
  rcases IN.1 aP with fh | aP<;>rcases IN.1 al with yV | al
  ·rw [fh,yV]
  ·exact absurd (by rw [←ky,fh]) (key b al)
  ·exact absurd (by rw [ky,yV]) (key a aP)
  ·exact Ug (kk:=kk) (enc:=enc) aG.2 aP al ky
structure mB (l:Seen) (m:Int):Prop where
 le:m≤1099511627776
 all:∀ e ∈ l,m≤e.2.2
 mem:m=1099511627776∨∃ e ∈ l,m=e.2.2
theorem mB.eq {l:Seen} {a b:Int} (aP:mB l a) (al:mB l b):a=b:=by
 have key:∀ {x y:Int},mB l x→mB l y→x≤y:=fun aj bp=>by
  rcases bp.mem with bp | ⟨e,he,bp⟩
  ·rw [bp];exact aj.le
  ·rw [bp];exact aj.all e he
 have h1:=key aP al;have ad:=key al aP;omega
theorem ap1 (l:Seen):mB l (l.foldr (fun e m=>min e.2.2 m) 1099511627776):=by
 induction l with
 | nil=>exact ⟨av1 _,by simp,.inl rfl⟩
 | cons a l ih=>
  simp only [List.foldr_cons];refine ⟨?_,fun e he=>?_,?_⟩
  ·have:=ih.le;omega
  ·rcases IN.1 he with rfl | he
   ·omega
   ·have:=ih.all e he;omega
  ·by_cases hle:a.2.2≤l.foldr (fun e m=>min e.2.2 m) 1099511627776
   ·exact .inr ⟨a,by simp,by omega⟩
   ·rcases ih.mem with h | ⟨e,he,h⟩
    ·exact .inl (by omega)
    ·exact .inr ⟨e,by simp [he],by omega⟩
theorem KE (h:I) (p:V) (l:Seen) (i j cl:Nat) (hm:d8 h p l i j cl) :
  Pure ds 90 [p] h (.int .i64 (leastOf l)):=by
 obtain ⟨rfl,hi,aV,j9,oE,mZ,aa⟩:=hm;have c2:=aa;refine Pure.val (a7.int _ _) ?_;refine af.au (c:=_) Tryz.func90 rfl (by kernel_rfl) (by simp) ?_
 have hlen:=ajd (P:=ds) (h:=h) amN mZ;have mY:=M7 (P:=ds) Js mZ;by_cases aK:l=[]
 ·have ew:((((mapOf .i64 ny l).length:Nat):Int)==0)=true:=by simp [mapOf,aK]
  simp only [ae,MD,vt,reduceCtorEq,AF,B8,AL,oE,hlen,ew,aS,aBv,ac];exact ax ⟨by rw [leastOf,if_pos aK],J.refl _ _⟩
 ·have ew:((((mapOf .i64 ny l).length:Nat):Int)==0)=false:=by
   have:l.length≠0:=by simpa using aK
   simp [mapOf];exact aK
  simp only [ae,MD,vt,reduceCtorEq,AF,B8,AL,oE,hlen,ew,mY];refine aZ.bQ (α:=List Nat) (fun seen f h'=>h'=h.push (.iter j cl seen cl)∧f 20=.ptr h.n 0∧∃ m,f 3=.int .i64 m∧m≤1099511627776∧(∀ e ∈ l,e.1 ∈ seen→m≤e.2.2)∧(m=1099511627776∨∃ e ∈ l,m=e.2.2))
   (fun seen=>(nk (mapOf .i64 ny l) seen).length) [] ⟨rfl,rfl,_,rfl,av1 _,by simp,.inl rfl⟩ ?_
  rintro seen f h' ⟨rfl,Er,m,uD,m1,m2,m3⟩
  refine ee (by kernel_rfl) ?_
  have KF:(h.push (.iter j cl seen cl)).get j=.map (mapOf .i64 ny l) cl:=by rw [lx aV];exact mZ
  simp only [ae,Er];refine M4 ck KF aa (fun j3=>?_) fun e he=>?_
  ·have dr:∀ e ∈ l,e.1 ∈ seen:=fun e he=>by
    apply Classical.byContradiction;intro l6;have:(e.1,V.int .i64 e.2.1,ny e.2.2) ∈ nk (mapOf .i64 ny l) seen:=by
     unfold nk;exact afP.2 ⟨MF.2 ⟨e,he,rfl⟩,by simp [l6]⟩
    rw [j3] at this;simp at this
   simp only [ae,vt,uD,aS,aBv,ac];refine ax ⟨?_,J.push _ _ _⟩;rw [leastOf,if_neg aK]
   congr 1
   exact mB.eq ⟨m1,fun e he=>m2 e he (dr e he),m3⟩ (ap1 l)
  ·have rI:=(afP.1 he).1;obtain ⟨e6,wx,rfl⟩:=MF.1 rI;have Ba:=M5 (h:=(h.push (.iter j cl seen cl)).set h.n (.iter j cl (seen++[e6.1]) cl)) (r:=h.n) (e:=(e6.1,V.int .i64 e6.2.1,ny e6.2.2)) aT (by rw [np (by omega)];exact KF) aa rI
   simp only [set_push] at Ba;simp only [ae,vt,Er,Ba,ny,uD];refine ax ⟨seen++[e6.1],⟨rfl,Er,min m e6.2.2,rfl,by omega,fun e he aa=>?_,?_⟩,M6 he⟩
   ·rcases List.mem_append.1 aa with aa | aa
    ·have:=m2 e he aa;omega
    ·simp at aa;have rO:e=e6:=Ug c2.2 he wx (by simpa using aa)
     subst rO;omega
   ·by_cases hle:m≤e6.2.2
    ·rw [Int.min_eq_left hle];exact m3
    ·rw [Int.min_eq_right (by omega)];exact .inr ⟨e6,wx,rfl⟩
def lb (k:Nat):List Int→Seen
 | []=>[]
 | z::r=>(k,z,-1)::lb (k+1) r
def p7 (lo:Int):List Int→Prop
 | []=>True
 | z::r=>lo<z∧p7 z r
theorem Uh (k:Nat) (z:Int):∀ (zs:List Int),lb k (zs++[z])=lb k zs++[(k+zs.length,z,-1)]
 | []=>rfl
 | a::zs=>by
  simp only [avx,lb,Uh (k+1) z zs,ave];rw [show k+1+zs.length=k+(zs.length+1) by omega]
theorem abz {lo z:Int}:∀ {zs:List Int},p7 lo (zs++[z])→p7 lo zs∧lo<z∧∀ x ∈ zs,x<z
 | [],h=>⟨trivial,h.1,by simp⟩
 | a::zs,h=>by
  obtain ⟨h1,ad⟩:=h;obtain ⟨aD,bn,bN⟩:=abz ad;exact ⟨⟨h1,aD⟩,by omega,fun x aj=>by
   rcases IN.1 aj with rfl | aj
   ·exact bn
   ·exact bN x aj⟩
theorem abA {k:Nat} {v:Int}:∀ {zs:List Int},dU (lb k zs) v=if v ∈ zs then some (-1) else none
 | []=>rfl
 | a::zs=>by
  have ih:=abA (k:=k+1) (v:=v) (zs:=zs);unfold dU at ih⊢;simp only [lb,avX];by_cases h:a=v
  ·subst h;simp
  ·have:(a==v)=false:=by simp [h]
   rw [this];simp only;rw [ih];simp [Ne.symm h]
def G9 (lo:Int):List Int→Int
 | []=>lo
 | z::r=>G9 z r
theorem abB (lo z:Int):∀ zs:List Int,G9 lo (zs++[z])=z
 | []=>rfl
 | a::zs=>abB a z zs
theorem ap2 {lo:Int} {zs:List Int} (h:p7 lo zs) {k:Nat} (hk:k<zs.length):p7 lo (zs.take (k+1))∧G9 lo (zs.take k)<zs[k]:=by
 induction zs generalizing lo k with
 | nil=>simp at hk
 | cons a zs ih=>
  cases k with
  | zero=>exact ⟨⟨h.1,trivial⟩,h.1⟩
  | succ k=>
   obtain ⟨h1,ad⟩:=ih h.2 (k:=k) (by simpa using hk)
   exact ⟨⟨h.1,by simpa using h1⟩,by simpa [G9] using ad⟩
theorem take_succ {α:Type} {l:List α} {k:Nat} (hk:k<l.length):l.take (k+1)=l.take k++[l[k]]:=by
 rw [List.take_add_one,ME hk];rfl
theorem Ui (h:I) (zs:List Int) (h1:1≤zs.length) (ad:zs.length≤24) (aP:p7 (-1) zs) :
  af ds 74 [.ah zs.length (zs.map (.int .i64))] h (fun r h'=>∃ i j,r=.tuple [.ptr i 0,.int .i64 0]∧d8 h' (.ptr i 0) (lb 0 zs) i j zs.length∧h.n≤i∧h.n≤j∧J h h' none_):=by
 refine af.au (c:=_) Tryz.func74 rfl (by kernel_rfl) (by simp) ?_
 have bb:decide ((zs.length:Int)<1)=false:=by simp;omega
 have bt:decide (24<(zs.length:Int))=false:=by simp;omega
 simp only [ae,MD,vt,reduceCtorEq,gy,am4,ano,bb,bt];refine aZ.bQ (α:=Nat) (fun k f h'=>k≤zs.length∧f 4=.ptr (h.n+1) 0∧f 5=.int .i64 (G9 (-1) (zs.take k))∧f 19=.ah zs.length (zs.map (.int .i64))∧f 20=.int .i64 zs.length∧f 21=.int .i64 (k:Nat) ∧
  d8 h' (.ptr (h.n+1) 0) (lb 0 (zs.take k)) (h.n+1) h.n k∧J h h' none_) (fun k=>zs.length - k) 0 ?_ ?_
 ·refine ⟨Dc _,rfl,rfl,rfl,rfl,rfl,⟨rfl,?_,?_,by omega,?_,?_,eA.nil _⟩,?_⟩
  ·rw [dq,dq];omega
  ·rw [dq,dq];omega
  ·rw [show h.n+1=(h.push (.map [] 0)).n by rfl,ck]
  ·rw [lx (by rw [dq];omega),ck];rfl
  ·exact (J.push _ _ _).bH _
 ·rintro k f h' ⟨hk,f4,f5,f19,f20,f21,hm,b9⟩
  refine ee (by kernel_rfl) ?_
  obtain ⟨_,hi,aV,j9,oE,mZ,aa⟩:=hm;by_cases aM:k<zs.length
  ·have c3:decide ((k:Int)<(zs.length:Int))=true:=by simp;omega
   have fq:=Gu (P:=ds) (t:=46) (k:=.i64) (i:=(k:Int)) (cs:=zs.map (V.int .i64)) jI (by omega) (by omega:(k:Int)<(zs.length:Nat)) (by simp)
   have bf:(zs.map (V.int .i64)).drop ((k:Int).toNat * 1)=.int .i64 zs[k]::(zs.map (V.int .i64)).drop (k+1):=by
    rw [avc,VU,avk (by simpa using aM)]
    simp
   rw [bf] at fq;obtain ⟨KG,ap3⟩:=ap2 aP aM;have eP:decide (zs[k]≤G9 (-1) (zs.take k))=false:=by simp;omega
   have so:=RH (P:=ds) (h:=h') (k:=zs[k]) (a:=(-1:Int)) (v:=.int .i64 (-1)) Js mZ rfl;have vF:dU (lb 0 (zs.take k)) zs[k]=none:=by
    rw [abA,if_neg];intro fJ;rw [take_succ aM] at KG;have:=(abz KG).2.2 _ fJ;omega
   have dV:eM k (lb 0 (zs.take k)) zs[k] (-1)=lb 0 (zs.take (k+1)):=by
    have:(lb 0 (zs.take k)).findIdx? (fun e=>e.2.1==zs[k])=none:=by
     cases av:(lb 0 (zs.take k)).findIdx? (fun e=>e.2.1==zs[k]) with
     | none=>rfl
     | some q=>
      obtain ⟨e,_,_,aD⟩:=RF av;rw [vF] at aD;cases aD
    rw [RG this,take_succ aM,Uh];simp;omega
   have Uj:nq k (lb 0 (zs.take k)) zs[k]=k+1:=by simp [nq,vF]
   rw [dV,Uj] at so;have cV:IntKind.i64.wrap ((k:Int)+1)=((k+1:Nat):Int):=by rw [Go.IntWalk.i64_in _ (by omega)];rfl
   simp only [ae,MD,vt,AF,AL,aW,f4,f5,f19,f20,f21,c3,fq,eP,oE,so,cV];refine ax ⟨k+1,⟨by omega,f4,?_,f19,f20,rfl,⟨rfl,hi,aV,j9,by rw [np j9];exact oE,aT,?_⟩,b9.mO (BY _) _⟩,by omega⟩
   ·show V.int .i64 zs[k]=_;rw [take_succ aM,abB]
   ·have aC:mapOf .i64 ny (lb 0 (zs.take (k+1)))=mapOf .i64 ny (lb 0 (zs.take k))++[(k,.int .i64 zs[k],ny (-1))]:=by
     rw [take_succ aM,Uh];simp [mapOf];omega
    rw [aC];exact aa.snoc _ _
  ·obtain rfl:k=zs.length:=by omega
   have c3:decide ((zs.length:Int)<(zs.length:Int))=false:=by simp
   simp only [ae,MD,vt,f4,f20,f21,c3,aS,Tryz.results74,c9];rw [avT] at mZ aa;exact ax ⟨h.n+1,h.n,by first | rfl | (show V.tuple [f 4,.int .i64 0]=_;rw [f4]),⟨rfl,hi,aV,j9,oE,mZ,aa⟩,by omega,BY _,b9⟩
end Go.Proofs.YtemdgidnhgcafaaGreatDoor.Pk
