/-
  What functions of the program do, told of abstract states. Conditions: as each theorem says.
-/
import Derived.Test.YtemdgidnhgcafaaGreatDoorMa
import Derived.Test.YtemdgidnhgcafaaGreatDoorAbD
open List renaming take_append_drop->awe,flatMap_cons->avj,length_append->IS,length_nil->avi,take->avB,mem_of_mem_take->axl,take_succ_eq_append_getElem->avt,flatMap_append->avH,getElem_mem->avb,append_assoc->au8,take_of_length_le->are,append_nil->avq,mem_cons->IN,mem_of_mem_drop->awt,all_eq_true->avh,length_cons->ave,eq_nil_of_length_eq_zero->avA,drop_left->awd,length_drop->avJ,drop_eq_getElem_cons->avk,getElem?_eq_getElem->ME,take_left->awa,getElem?_take->avg,getElem?_drop->avC,getElem?_eq_some_iff->VX,drop_of_length_le->avZ,take_take->awx,length_take->VV,drop_zero->avW,pairwise_cons->avf,mem_append->avs
open Nat renaming zero_le->Dc,reduceEqDiff->vt,sub_zero->axa,sub_sub->aA2,lt_of_lt_of_le->MC,le_trans->OF,reduceAdd->AS,reduceLeDiff->By,le_refl->BY,min_eq_left->avD,zero_add->avm
open Go.Proofs.Tryz renaming prog->ds,results105->aA0,results63->aA1,func150->aA3,results150->awg,results114->ayJ,func232->ayK,results232->axm,results229->ayL,results215->ayM,results212->aA5,results196->ayO
open Prod renaming mk->avp
open Bool renaming and_eq_true->VW,or_eq_true->avY,and_self->aw8
open Int renaming toNat_natCast->avc,reduceBEq->awW
set_option linter.unusedVariables false
set_option linter.unusedSimpArgs false
set_option maxHeartbeats 4000000
set_option maxRecDepth 10000
namespace Go.Proofs.YtemdgidnhgcafaaGreatDoor.Pk
open Go Go.Proofs Go.Proofs.YtemdgidnhgcafaaGreatDoor.Ab
mutual
def cS:b4→List Nat
 | .mk o n l=>enc o.toNat++(if o=1 then enc (jK n) else [])++Cf l
def Cf:List b4→List Nat
 | []=>[]
 | k::r=>cS k++Cf r
end
theorem ZQ:∀ l:List b4,Cf l=l.flatMap cS
 | []=>by rw [Cf];rfl
 | k::r=>by rw [Cf,ZQ r];rfl
theorem GV (o n:Int) (l:List b4):cS (.mk o n l)=enc o.toNat++(if o=1 then enc (jK n) else [])++l.flatMap cS:=by rw [cS,ZQ]
theorem ZR:∀ a b:List b4,e1 (a++b)=e1 a+e1 b
 | [],b=>by rw [List.nil_append,e1];omega
 | k::a,b=>by rw [List.cons_append,e1,e1,ZR a b];omega
theorem ZS {l:List b4} {i:Nat} (hi:i<l.length):e1 (l.take i)+e0 l[i]≤e1 l:=by
 have h1:=anP hi;have ad:=ZR (l.take (i+1)) (l.drop (i+1));rw [awe] at ad;omega
theorem N8:∀ l:List b4,(∀ k ∈ l,(cS k).length≤20 * e0 k)→(l.flatMap cS).length≤20 * e1 l
 | [],_=>Dc _
 | k::r,h=>by
  have h1:=h k (by simp)
  have ad:=N8 r fun x aj=>h x (by simp [aj])
  rw [avj,IS,e1];omega
theorem Tu:∀ (s:Nat) (e:b4),e0 e=s→h7 e→(cS e).length≤20 * e0 e:=by
 intro s
 induction s using Nat.strongRecOn with
 | _ s ih=>
 intro e aa aY;have hk:∀ k ∈ e.aQ,(cS k).length≤20 * e0 k:=fun k hk=>ih (e0 k) (by have:=Zu k hk;omega) k rfl (aY.Fa k hk)
 cases aY with
 | mk o n l aw U aN aG=>
  have h1:=p3 o.toNat (by omega)
  have ad:=p3 (jK n) (AU n aG.1 aG.2);have aD:=N8 l hk;rw [GV,IS,IS,e0];split
  ·omega
  ·simp only [avi];omega
theorem x5 (e:b4):(V.agg (aE e)).cells=some (aE e):=rfl
theorem Cg (e:b4):bF (some 3) (aO.cells [V.int .i64 0,V.int .i64 0,V.ag] 66 none) 0 (aE e)=some (.cells (aE e) 66 none):=by cases e;rfl
theorem GW (e:b4):(if 3≤(aE e).length then some (V.agg (avB 3 (aE e))) else none)=some (.agg (aE e)):=by cases e;rfl
theorem an7 (o n:Int) (aQ:List b4):cP (aO.cells (aE (.mk o n aQ)) 66 none) 0=some [.int .i64 o,.int .i64 n,.ah aQ.length (aQ.flatMap aE)]:=by rw [nu];rfl
theorem an8 (o n:Int) (aQ:List b4):cP (aO.cells (aE (.mk o n aQ)) 66 none) 1=some [.int .i64 n,.ah aQ.length (aQ.flatMap aE)]:=by rw [nu];rfl
theorem an9 (o n:Int) (aQ:List b4):cP (aO.cells (aE (.mk o n aQ)) 66 none) 2=some [.ah aQ.length (aQ.flatMap aE)]:=by rw [nu];rfl
theorem Tv (A:b4) (q:List V):cO (some (some 3)) (some (aE A++q))=some (.agg (aE A)):=lz (qv A)
theorem Tw:∀ (d:Nat) (e:b4) (h:I) (x:V) (cs:List Nat),uK d e→h7 e→Rd h x cs→cs.length+20 * e0 e≤2 ^ 40→Pure ds 105 [x,.agg (aE e)] h (.ah (cs++cS e).length (e9 (cs++cS e)))
 | 0,e,h,x,cs,bf,_,_,_=>bf.zero.elim
 | d+1,e,h,x,cs,bf,aY,rd,al=>by
  obtain ⟨av,eB⟩:=bf.fits;have tQ:=aY.Fa;have im:∀ k ∈ e.aQ,(cS k).length≤20 * e0 k:=fun k hk=>Tu _ k rfl (tQ k hk);obtain ⟨o,n,aQ⟩:=e;obtain ⟨_,l4,iH⟩:=Th av;have aG:-2 ^ 63≤n∧n<2 ^ 63:=by cases aY;assumption
  have hlen:=aY.len;simp only [b4.aQ] at eB tQ hlen im;obtain ⟨k,rfl⟩:∃ k:Nat,o=k:=⟨o.toNat,by omega⟩
  have bR:=p3 (jK n) (AU n aG.1 aG.2);have auc:=p3 k (by omega)
  rw [e0] at al;refine Pure.val (a7.ah (Ce _)) ?_;obtain ⟨q4,AV⟩:∃ m,m=cs++enc k++(if (k:Int)=1 then enc (jK n) else []):=⟨_,rfl⟩
  have kT:cs++cS (.mk k n aQ)=q4++aQ.flatMap cS:=by rw [AV,GV];simp
  have hP:q4.length≤cs.length+20:=by
   rw [AV,IS,IS];split
   ·omega
   ·simp only [avi];omega
  rw [kT];refine af.au (c:=_) Tryz.func105 rfl (by kernel_rfl) (by simp) ?_
  have ay:=x5 (.mk k n aQ);have fN:=an7 k n aQ;have ga:=an8 k n aQ;have kz:=an9 k n aQ;have D4:IntKind.u64.wrap (k:Int)=(k:Int):=W1 (by omega)
  obtain ⟨H,hH⟩:∃ y,y=h.push (.cells (aE (.mk k n aQ)) 66 none):=⟨_,rfl⟩;have r8:H.get h.n=.cells (aE (.mk k n aQ)) 66 none:=by rw [hH];exact ck
  have bw:J h H none_:=by rw [hH];exact J.push _ _ _
  simp only [ae,vt,reduceCtorEq,nW,aW,ay,fN,mq iA ns,D4];rw [←hH];clear hH;refine bW NH (N4 x cs k H (rd.ai bw) (by omega) (by omega)) ?_
  by_cases h1:(k:Int)=1
  ·have bb:((k:Int)==1)=true:=by simpa using h1
   have m1:cs++enc k++enc (jK n)=q4:=by rw [AV,if_pos h1]
   simp only [ae,vt,reduceCtorEq,nW,GJ,du,aW,r8,fN,ga,bb];refine bW Sz (JG _ (cs++enc k) n H (Rd.ah _ _) (by rw [IS];omega) aG.1 aG.2) ?_
   rw [m1];simp only [ae,vt,reduceCtorEq,rk,AJ,sZ,r8,kz];refine aZ.bQ (α:=Nat) (fun i f h'=>f 0=.ah (q4++(aQ.take i).flatMap cS).length (e9 (q4++(aQ.take i).flatMap cS))∧f 20=.ah aQ.length (aQ.flatMap aE)∧f 21=.int .i64 ((aQ.length:Nat):Int)∧f 22=.int .i64 (i:Nat)∧i≤aQ.length∧J h h' none_) (fun i=>aQ.length - i) 0
    ⟨(show V.ah _ _=_ by simp),rfl,rfl,rfl,Dc _,bw⟩ ?_
   rintro i f h1 ⟨f0,f20,f21,f22,hi,bJ⟩
   refine ee (by kernel_rfl) ?_
   by_cases aM:i<aQ.length
   ·have d1:decide ((i:Int)<((aQ.length:Nat):Int))=true:=decide_eq_true (by omega)
    have hw:IntKind.i64.wrap (((i:Nat):Int)+1)=((i+1:Nat):Int):=by rw [Go.IntWalk.i64_in _ (by omega)];omega
    have cy:=N3 (kk:=.i64) aM;have bo:=ZS aM;have lj:=N8 (aQ.take i) fun k hk=>im k (axl hk);have xT:(aQ.take (i+1)).flatMap cS=(aQ.take i).flatMap cS++cS aQ[i]:=by rw [avt aM,avH];simp
    have x6:aQ[i] ∈ aQ:=avb aM;generalize aQ[i]=A at cy bo xT x6;have JI:=eB A x6;have oq:=tQ A x6;have kg:=Tv A;have rr:=x5 A;have st:=Cg A;have Ch:=GW A;have ew:(q4++(aQ.take i).flatMap cS).length=q4.length+((aQ.take i).flatMap cS).length:=IS;simp only [ae,vt,reduceCtorEq,fM,oV,nt,f0,f20,f21,f22,d1,cy,kg,rr,st,Ch];refine bW Sq (Tw d A _ _ _ JI oq (Rd.ah _ _) (by omega)) ?_
    rw [au8,←xT];simp only [ae,vt,reduceCtorEq,f22,hw];exact ax ⟨i+1,⟨rfl,f20,f21,rfl,aM,bJ.bH _⟩,by omega⟩
   ·have d1:decide ((i:Int)<((aQ.length:Nat):Int))=false:=decide_eq_false (by omega)
    rw [are (by omega)] at f0
    simp only [ae,vt,reduceCtorEq,f0,f21,f22,d1,aS,aA0,ac];exact ax ⟨rfl,bJ⟩
  ·have bb:((k:Int)==1)=false:=by simpa using h1
   have m1:cs++enc k=q4:=by rw [AV,if_neg h1,avq]
   rw [m1];simp only [ae,vt,reduceCtorEq,nW,rk,AJ,aW,sZ,r8,fN,kz,bb];refine aZ.bQ (α:=Nat) (fun i f h'=>f 0=.ah (q4++(aQ.take i).flatMap cS).length (e9 (q4++(aQ.take i).flatMap cS))∧f 20=.ah aQ.length (aQ.flatMap aE)∧f 21=.int .i64 ((aQ.length:Nat):Int)∧f 22=.int .i64 (i:Nat)∧i≤aQ.length∧J h h' none_) (fun i=>aQ.length - i) 0
    ⟨(show V.ah _ _=_ by simp),rfl,rfl,rfl,Dc _,bw⟩ ?_
   rintro i f h1 ⟨f0,f20,f21,f22,hi,bJ⟩
   refine ee (by kernel_rfl) ?_
   by_cases aM:i<aQ.length
   ·have d1:decide ((i:Int)<((aQ.length:Nat):Int))=true:=decide_eq_true (by omega)
    have hw:IntKind.i64.wrap (((i:Nat):Int)+1)=((i+1:Nat):Int):=by rw [Go.IntWalk.i64_in _ (by omega)];omega
    have cy:=N3 (kk:=.i64) aM;have bo:=ZS aM;have lj:=N8 (aQ.take i) fun k hk=>im k (axl hk);have xT:(aQ.take (i+1)).flatMap cS=(aQ.take i).flatMap cS++cS aQ[i]:=by rw [avt aM,avH];simp
    have x6:aQ[i] ∈ aQ:=avb aM;generalize aQ[i]=A at cy bo xT x6;have JI:=eB A x6;have oq:=tQ A x6;have kg:=Tv A;have rr:=x5 A;have st:=Cg A;have Ch:=GW A;have ew:(q4++(aQ.take i).flatMap cS).length=q4.length+((aQ.take i).flatMap cS).length:=IS;simp only [ae,vt,reduceCtorEq,fM,oV,nt,f0,f20,f21,f22,d1,cy,kg,rr,st,Ch];refine bW Sq (Tw d A _ _ _ JI oq (Rd.ah _ _) (by omega)) ?_
    rw [au8,←xT];simp only [ae,vt,reduceCtorEq,f22,hw];exact ax ⟨i+1,⟨rfl,f20,f21,rfl,aM,bJ.bH _⟩,by omega⟩
   ·have d1:decide ((i:Int)<((aQ.length:Nat):Int))=false:=decide_eq_false (by omega)
    rw [are (by omega)] at f0
    simp only [ae,vt,reduceCtorEq,f0,f21,f22,d1,aS,aA0,ac];exact ax ⟨rfl,bJ⟩
theorem aoa {e:b4} (hm:c1 e=true):uK 16 e:=by
 unfold c1 at hm;cases ay:hA 16 64 e with
 | none=>rw [ay] at hm;cases hm
 | some c=>exact ⟨64,c,ay⟩
def ja (e:b4):List Nat:=if c1 e=true then cS e else []
def sb (e:b4):V:=.tuple [.ah (ja e).length (e9 (ja e)),.int .i64 (if c1 e=true then 0 else 1)]
theorem aob (e:b4):a7 (sb e):=a7.tuple (a1.cons (a7.ah (Ce _)) (a1.cons (a7.int _ _) a1.nil))
theorem Tx {e:b4} (h:c1 e=true):e0 e≤64:=by
 unfold c1 at h;rw [ws] at h;split at h
 ·rename_i U;exact U.2
 ·cases h
theorem Ty (e:b4) (aY:h7 e) (h:I) (az:gN h):Pure ds 63 [.agg (aE e)] h (sb e):=by
 refine Pure.of (aob e) ?_;refine af.au (c:=_) Tryz.func63 rfl (by kernel_rfl) (by simp) ?_
 have ay:=x5 e;have Ch:=GW e;have p1:cP (aO.cells (aE e) 66 none) 0=some (aE e):=by cases e;rfl
 have k4:cO (some (some 3)) (some (aE e))=some (.agg (aE e)):=by cases e;rfl
 have jl:∀ a,gN (h.push a):=fun a=>by unfold gN;rw [DA];exact az
 simp only [ae,vt,fM,ay,p1,k4];refine bW Sp (DZ e _ (jl _)) ?_;unfold sb ja;cases hm:c1 e
 ·simp only [ae,vt,aS,aA1,c9];exact ax ⟨_,aA.tuple (aq.cons (aA.kI _) (aq.refl _ _)),J.push _ _ _⟩
 ·have bo:=Tx hm;simp only [ae,vt,fM,p1,k4];refine bW Sq (Tw 16 e _ .ag [] (aoa hm) aY (Rd.ag _) (by simp only [avi];omega)) ?_
  simp only [ae,vt,aS,aA1,c9];exact ax ⟨_,aA.refl _ _,J.push _ _ _⟩
abbrev GX:=Except Nat (b4×List Nat×Nat)
def mQ (f:Nat→List Nat→GX):Nat→Nat→List Nat→Except Nat (List b4×List Nat×Nat)
 | 0,left,ao=>.ok ([],ao,left)
 | m+1,left,ao=>match f left ao with
  | .error e=>.error e
  | .ok (k,hB,h2)=>match mQ f m h2 hB with
   | .error e=>.error e
   | .ok (aQ,r)=>.ok (k::aQ,r)
def dH:Nat→Nat→List Nat→GX
 | 0,_,_=>.error 11
 | d+1,left,ao=>
  if left=0 then .error 11
  else if (dec ao 0 0).2.2≠0 then .error (dec ao 0 0).2.2
  else if (dec ao 0 0).1<1∨16<(dec ao 0 0).1 then .error 5
  else if (dec ao 0 0).1=1 then
   if (dec (ao.drop (dec ao 0 0).2.1) 0 0).2.2≠0 then .error (dec (ao.drop (dec ao 0 0).2.1) 0 0).2.2
   else .ok (.mk 1 (fZ (dec (ao.drop (dec ao 0 0).2.1) 0 0).1) [],(ao.drop (dec ao 0 0).2.1).drop (dec (ao.drop (dec ao 0 0).2.1) 0 0).2.1,left - 1)
  else match mQ (dH d) (x1 (dec ao 0 0).1).toNat (left - 1) (ao.drop (dec ao 0 0).2.1) with
   | .error e=>.error e
   | .ok (aQ,r)=>.ok (.mk (dec ao 0 0).1 0 aQ,r)
theorem Tz (n:Nat) (aG:n<2 ^ 64):jK (fZ n)=n:=by
 unfold jK fZ;split<;>split<;>omega
theorem i3 {ao:List Nat} (al:∀ b ∈ ao,b<256) (h:(dec ao 0 0).2.2=0):ao=enc (dec ao 0 0).1++ao.drop (dec ao 0 0).2.1∧(dec ao 0 0).1<2 ^ 64:=by
 refine ⟨?_,dec_lt ao 0 0 (by omega) (by decide) al⟩
 obtain ⟨h1,x,ad,aD,_⟩:=Tr ao 0 0 (dec ao 0 0).1 (dec ao 0 0).2.1 al (Prod.ext rfl (Prod.ext rfl h));have aj:x=(dec ao 0 0).1:=by rw [ad];simp
 rw [aj,axa] at aD;rw [←aD,awe]
structure PM (d left:Nat) (ao:List Nat) (e:b4) (hB:List Nat) (h2:Nat):Prop where
 uN:ao=cS e++hB
 sz:h2+e0 e=left
 deep:rp d e=true
 ok:h7 e
theorem ZT {d:Nat} {f:Nat→List Nat→GX} (av:∀ left ao,(∀ b ∈ ao,b<256)→∀ e hB h2,f left ao=.ok (e,hB,h2)→PM d left ao e hB h2) :
  ∀ (m left:Nat) (ao:List Nat),(∀ b ∈ ao,b<256)→∀ aQ hB h2,mQ f m left ao=.ok (aQ,hB,h2)→aQ.length=m∧ao=aQ.flatMap cS++hB∧h2+e1 aQ=left∧(∀ k ∈ aQ,rp d k=true)∧∀ k ∈ aQ,h7 k
 | 0,left,ao,al,aQ,hB,h2,h=>by
  simp only [mQ,Except.ok.injEq,avp.injEq] at h;obtain ⟨rfl,rfl,rfl⟩:=h;exact ⟨rfl,rfl,by simp [e1],by simp,by simp⟩
 | m+1,left,ao,al,aQ,hB,h2,h=>by
  unfold mQ at h;split at h
  ·cases h
  ·rename_i k jn hc hk;have g:=av left ao al k jn hc hk;have ka:∀ b ∈ jn,b<256:=fun b wH=>al b (by rw [g.uN];simp [wH])
   split at h
   ·cases h
   ·rename_i ZU r im;obtain ⟨uO,ez⟩:=r;simp only [Except.ok.injEq,avp.injEq] at h;obtain ⟨rfl,rfl,rfl⟩:=h;obtain ⟨h1,ad,aD,bn,bN⟩:=ZT av m hc jn ka ZU uO ez im;refine ⟨by simp [h1],?_,?_,?_,?_⟩
    ·rw [g.uN,ad];simp
    ·rw [e1];have:=g.sz;omega
    ·intro x aj;rcases IN.1 aj with rfl | aj
     ·exact g.deep
     ·exact bn x aj
    ·intro x aj;rcases IN.1 aj with rfl | aj
     ·exact g.ok
     ·exact bN x aj
theorem N9 (o:Int):0≤x1 o∧x1 o≤3:=by unfold x1;split<;>(try split)<;>(try split)<;>omega
theorem Oa:∀ (d left:Nat) (ao:List Nat),(∀ b ∈ ao,b<256)→∀ e hB h2,dH d left ao=.ok (e,hB,h2)→PM d left ao e hB h2
 | 0,left,ao,al,e,hB,h2,h=>by simp [dH] at h
 | d+1,left,ao,al,e,hB,h2,h=>by
  unfold dH at h;split at h
  ·cases h
  rename_i aw;split at h
  ·cases h
  rename_i he;split at h
  ·cases h
  rename_i aL;obtain ⟨bf,aM⟩:=i3 al (by simpa using he)
  have ka:∀ b ∈ ao.drop (dec ao 0 0).2.1,b<256:=fun b wH=>al b (awt wH);generalize (dec ao 0 0).1=o at *;generalize ao.drop (dec ao 0 0).2.1=jn at *;split at h
  ·rename_i aN;split at h
   ·cases h
   rename_i xl;obtain ⟨kz,iX⟩:=i3 ka (by simpa using xl)
   simp only [Except.ok.injEq,avp.injEq] at h;obtain ⟨rfl,rfl,rfl⟩:=h;have hu:=ZL _ iX;refine ⟨?_,by simp only [e0,e1];omega,?_,.mk _ _ _ (by simp) (by simp) (by omega) hu⟩
   ·rw [GV,if_pos rfl,Tz _ iX]
    conv=>lhs;rw [bf,kz,aN]
    simp
   ·simp [rp,l0,dn,b4.aQ]
  ·rename_i aN;split at h
   ·cases h
   rename_i aQ r hk;obtain ⟨uO,ez⟩:=r;simp only [Except.ok.injEq,avp.injEq] at h;obtain ⟨rfl,rfl,rfl⟩:=h;obtain ⟨h1,ad,aD,bn,bN⟩:=ZT (Oa d) _ _ _ ka aQ uO ez hk;have aud:=N9 (o:Int);have gn:=Ti (o:=(o:Int)) (by omega) (by omega)
   refine ⟨?_,by rw [e0];omega,?_,.mk _ _ _ (by omega) bN (by omega) (by omega)⟩
   ·rw [GV,if_neg (by omega)]
    conv=>lhs;rw [bf,ad]
    simp
   ·have eW:l0 (.mk (o:Int) 0 aQ)=true:=by
     simp only [l0,VW,avY,decide_eq_true_eq];exact ⟨⟨by omega,by omega⟩,by rw [gn];omega,by simp⟩
    rw [rp,eW,Bool.true_and,avh];exact bn
theorem ZV {d:Nat} {f:Nat→List Nat→GX} (r:List Nat):∀ (aQ:List b4) (left:Nat),(∀ k ∈ aQ,∀ left r,e0 k≤left→f left (cS k++r)=.ok (k,r,left - e0 k))→e1 aQ≤left→mQ f aQ.length left (aQ.flatMap cS++r)=.ok (aQ,r,left - e1 aQ)
 | [],left,_,_=>by simp [mQ,e1]
 | k::aQ,left,av,aw=>by
  rw [e1] at aw;rw [ave,mQ,avj,au8,av k (by simp) left _ (by omega)]
  simp only;rw [ZV (d:=d) r aQ (left - e0 k) (fun x aj=>av x (by simp [aj])) (by omega)]
  simp only [e1,aA2]
theorem ZW:∀ (d left:Nat) (e:b4) (r:List Nat),rp d e=true→h7 e→e0 e≤left→dH d left (cS e++r)=.ok (e,r,left - e0 e)
 | 0,left,e,r,bf,_,_=>by simp [rp] at bf
 | d+1,left,e,r,bf,aY,aw=>by
  have tQ:=aY.Fa;rw [rp,VW,avh] at bf;obtain ⟨av,hk⟩:=bf;obtain ⟨o,n,aQ⟩:=e;obtain ⟨h1,ad,aD⟩:=Th av;have aG:-2 ^ 63≤n∧n<2 ^ 63:=by cases aY;assumption
  obtain ⟨o,rfl⟩:∃ k:Nat,o=k:=⟨o.toNat,by omega⟩
  have gn:=Ti (o:=(o:Int)) (by omega) (by omega)
  simp only [b4.aQ] at hk tQ;rw [e0] at aw⊢;have Pf:n=0∨o=1:=by
   simp only [l0,VW,avY,decide_eq_true_eq] at av;omega
  rw [GV,avc];unfold dH;rw [if_neg (by omega)]
  by_cases aN:o=1
  ·subst aN;have im:aQ=[]:=by
    have:dn.getD (((1:Nat):Int)).toNat 0=0:=by decide
    rw [this] at h1;exact avA (by omega)
   subst im;have aC:enc 1++(if (((1:Nat):Int))=1 then enc (jK n) else [])++([]:List b4).flatMap cS++r=enc 1++(enc (jK n)++r):=by simp
   rw [aC,zd 1 (by decide)]
   simp only [awd,ne_eq,not_true,if_false];rw [if_neg (by omega),zd (jK n) (AU n aG.1 aG.2)]
   simp [Tt,e1]
  ·have Pe:n=0:=by omega
   subst Pe;have aC:enc o++(if ((o:Nat):Int)=1 then enc (jK 0) else [])++aQ.flatMap cS++r=enc o++(aQ.flatMap cS++r):=by rw [if_neg (by omega)];simp
   rw [aC,zd o (by omega)]
   simp only [awd,ne_eq,not_true,if_false];rw [if_neg (by omega),if_neg aN]
   have hm:(x1 (o:Int)).toNat=aQ.length:=by rw [←gn,←h1];simp
   rw [hm,ZV (d:=d) r aQ (left - 1) (fun k PN left r hle=>ZW d left k r (hk k PN) (tQ k PN) hle) (by omega)]
   simp only [aA2];rw [Nat.add_comm]
theorem ZX {f:Nat→List Nat→GX} (av:∀ l b c,f l b=.error c→c≠0):∀ (m l:Nat) (b:List Nat) (c:Nat),mQ f m l b=.error c→c≠0
 | 0,l,b,c,h=>by simp [mQ] at h
 | m+1,l,b,c,h=>by
  unfold mQ at h;split at h
  ·rename_i e he;cases h;exact av _ _ _ he
  ·split at h
   ·rename_i e he;cases h;exact ZX av _ _ _ _ he
   ·cases h
theorem JJ:∀ (d l:Nat) (b:List Nat) (c:Nat),dH d l b=.error c→c≠0
 | 0,l,b,c,h=>by simp [dH] at h;omega
 | d+1,l,b,c,h=>by
  unfold dH at h;split at h
  ·cases h;omega
  split at h
  ·cases h;assumption
  split at h
  ·cases h;omega
  split at h
  ·split at h
   ·cases h;assumption
   ·cases h
  ·split at h
   ·rename_i e he;cases h;exact ZX (JJ d) _ _ _ _ he
   ·cases h
def fo (h:I) (fH fi:Nat) (ao:List Nat) (begun:Nat):Prop:=fH<h.n∧h.get fH=.cells [.ptr fi 0,.int .i64 (begun:Nat)] 266 none∧dA h (.ptr fi 0) fi ao∧fH≠fi
theorem fo.ai {h h':I} {fH fi:Nat} {ao:List Nat} {begun:Nat} {own:Nat→Prop} (w:fo h fH fi ao begun) (k:J h h' own) (h1:¬own fH) (ad:¬own fi):fo h' fH fi ao begun :=
 ⟨MC w.1 k.n,(k.get fH w.1 h1).trans w.2.1,dA.ai w.2.2.1 k ad,w.2.2.2⟩
def nw (fH fi:Nat):Nat→Prop:=fun q=>q=fH∨q=fi
def tR:GX→V
 | .error c=>.tuple [.agg (aE (.mk 0 0 [])),.int .i64 (c:Nat)]
 | .ok (e,_,_)=>.tuple [.agg (aE e),.int .i64 0]
theorem pz (h:I) (c:Nat):aA (.tuple [.agg [.int .i64 0,.int .i64 0,.ag],.int .i64 (c:Nat)]) h (.tuple [.agg (aE (.mk 0 0 [])),.int .i64 (c:Nat)]) h:=aA.tuple (aq.cons (anO 0 0 h) (aq.refl _ _))
theorem ZY (h:I) (e:b4):ie ds 64 1 [(0,.agg (aE e))] h=some (.bj h.n 0 1 1,h.push (.cells (aE e) 66 none)):=by cases e;rw [lY S1];rfl
theorem ZZ {h:I} {s:V} {cs:List b4} (o:Own h 66 3 s (cs.flatMap aE)) (aw:cs.length≤2 ^ 40) (c:b4) :
  ∃ cJ h',kO ds 64 64 s (.bj h.n 0 1 1) (h.push (.cells (aE c) 66 none))=some (cJ,h')∧Own h' 66 3 cJ ((cs++[c]).flatMap aE)∧J h h' (a6 s)∧dm h s cJ:=by
 have b9:J h (h.push (.cells (aE c) 66 none)) none_:=J.push _ _ _;have gK:Own (h.push (.cells (aE c) 66 none)) 66 3 (.bj h.n 0 1 1) (aE c):=Own.eZ (aE c) 1 (qv c) (by decide)
 have dR:=vJ (P:=ds) (t:=64) AJ gK (n:=1) (qv c) (by decide) (Jz c)
 obtain ⟨cJ,h',fh,hq,my,gW⟩:=vI (P:=ds) (t:=64) (tx:=64) S1 (by decide) (o.br b9) dR (qv c) (fun m hm=>by
  change m * 3=_ at hm;rw [gM qv,qv] at hm;exact ⟨by simp only [lim];omega,by simp only [lim];omega⟩)
 refine ⟨cJ,h',fh,?_,(b9.up).trans' my,?_⟩
 ·rw [avH];simpa using hq
 ·rcases gW with gW | gW
  ·exact .inl gW
  ·exact .inr fun q ab=>OF b9.n (gW q ab)
theorem TA:∀ (d left:Nat) (ao:List Nat) (h:I) (fH fi:Nat),d≤16→left≤64→gN h→fo h fH fi ao (64 - left)→(∀ b ∈ ao,b<256)→ao.length≤2 ^ 47 →
  af ds 150 [.ptr fH 0,.int .i64 ((17 - d:Nat):Int)] h (fun r h'=>r=tR (dH d left ao)∧J h h' (nw fH fi)∧∀ e hB bU,dH d left ao=.ok (e,hB,bU)→fo h' fH fi hB (64 - bU))
 | 0,left,ao,h,fH,fi,_,aw,az,bf,al,r0=>by
  refine af.cast ?_;refine af.au (c:=_) aA3 rfl (by kernel_rfl) (by simp) ?_
  have bb:decide ((16:Int)<((17 - 0:Nat):Int))=true:=by decide
  simp only [ae,vt,AS,Nat.reduceSub,fM,ls,oV,nt,bb,aS,awg,iy,ij,fB,ix];exact ax ⟨_,_,pz _ 11,rfl,(J.push _ _ _),fun e hB bU U=>by cases U⟩
 | d+1,left,ao,h,fH,fi,aoc,aw,az,bf,al,r0=>by
  refine af.cast ?_;refine af.au (c:=_) aA3 rfl (by kernel_rfl) (by simp) ?_
  have bb:decide ((16:Int)<((17 - (d+1):Nat):Int))=false:=decide_eq_false (by omega)
  obtain ⟨eQ,dx⟩:∃ y,y=h.push (.cells [.int .i64 0,.int .i64 0,.ag] 66 none):=⟨_,rfl⟩;have gz:J h eQ none_:=by rw [dx];exact J.push _ _ _
  have ot:eQ.n=h.n+1:=by rw [dx];rfl
  have g0:eQ.get h.n=.cells [.int .i64 0,.int .i64 0,.ag] 66 none:=by rw [dx];exact ck
  have PO:=fo.ai bf gz (by simp [none_]) (by simp [none_])
  have Z0:=PO.2.1;have PQ:=bf.1;have nD:=bf.2.2.1.2.1;have bI:=bf.2.2.2;have PR:(h.push (.cells [.int .i64 0,.int .i64 0,.ag] 66 none)).get fH=.cells [.ptr fi 0,.int .i64 ((64 - left:Nat):Int)] 266 none:=by rw [←dx];exact Z0
  by_cases ew:left=0
  ·have bt:(((64 - left:Nat):Int)==64)=true:=by simp;omega
   have bk:dH (d+1) left ao=.error 11:=by rw [dH,if_pos ew]
   simp only [ae,vt,AS,By,reduceCtorEq,YD,aW,fM,ls,oV,nt,bb,PR,bt,aS,awg,iy,ij,fB,ix];exact ax ⟨_,_,pz _ 11,by rw [bk];rfl,(J.push _ _ _),fun e hB bU U=>by rw [bk] at U;cases U⟩
  have bt:(((64 - left:Nat):Int)==64)=false:=by simp;omega
  have hw:IntKind.i64.wrap (((64 - left:Nat):Int)+1)=((64 - (left - 1):Nat):Int):=by rw [Go.IntWalk.i64_in _ (by omega)];omega
  obtain ⟨H1,hC⟩:∃ y,y=eQ.set fH (.cells [.ptr fi 0,.int .i64 ((64 - (left - 1):Nat):Int)] 266 none):=⟨_,rfl⟩;have bJ:J eQ H1 (fun q=>q=fH):=by rw [hC];exact J.set _ _ _
  have fv:H1.n=eQ.n:=by rw [hC];rfl
  have Z1:H1.get fH=.cells [.ptr fi 0,.int .i64 ((64 - (left - 1):Nat):Int)] 266 none:=by rw [hC];exact aT
  have g1:=(bJ.get h.n (by omega) (by omega)).trans g0
  have cZ:dA H1 (.ptr fi 0) fi ao:=dA.ai PO.2.2.1 bJ (by omega)
  have lC:J h H1 (nw fH fi):=(gz.up).trans bJ fun q ab U=>.inl U;simp only [ae,vt,AS,By,reduceCtorEq,SG,YD,SR,aW,oV,oo,bb,PR,bt,hw];rw [←dx,←hC];clear dx hC;refine cB ND (N5 (.ptr fi 0) fi ao H1 cZ al (by omega)) fun r ad ⟨bd,dI,ba⟩=>?_
  subst bd;have dy:=ba.n;have JK:=(ba.get fH (by omega) (by omega)).trans Z1
  have g2:=(ba.get h.n (by omega) (by omega)).trans g1
  have da:J h ad (nw fH fi):=lC.trans ba fun q ab U=>.inr U;by_cases h8:(dec ao 0 0).2.2=0;rotate_left
  ·have c3:((((dec ao 0 0).2.2:Nat):Int) !=0)=true:=by simp;omega
   have bk:dH (d+1) left ao=.error (dec ao 0 0).2.2:=by rw [dH,if_neg ew,if_pos h8]
   simp only [ae,vt,AS,fM,ls,oV,nt,c3,g2,aS,awg,iy,ij,fB,ix];exact ax ⟨_,_,pz _ _,by rw [bk];rfl,da.trans (J.set _ h.n _) fun q ab U=>by omega,fun e hB bU U=>by rw [bk] at U;cases U⟩
  have c3:((((dec ao 0 0).2.2:Nat):Int) !=0)=false:=by simp;omega
  obtain ⟨Pw,aod⟩:=i3 al h8;have tk:dH (d+1) left ao=(if (dec ao 0 0).1<1∨16<(dec ao 0 0).1 then .error 5
   else if (dec ao 0 0).1=1 then
    if (dec (ao.drop (dec ao 0 0).2.1) 0 0).2.2≠0 then .error (dec (ao.drop (dec ao 0 0).2.1) 0 0).2.2
    else .ok (.mk 1 (fZ (dec (ao.drop (dec ao 0 0).2.1) 0 0).1) [],(ao.drop (dec ao 0 0).2.1).drop (dec (ao.drop (dec ao 0 0).2.1) 0 0).2.1,left - 1)
   else match mQ (dH d) (x1 (dec ao 0 0).1).toNat (left - 1) (ao.drop (dec ao 0 0).2.1) with
    | .error e=>.error e
    | .ok (aQ,r)=>.ok (.mk (dec ao 0 0).1 0 aQ,r)):=by
   conv=>lhs;unfold dH
   rw [if_neg ew,if_neg (by simpa using h8)]
   all_goals rfl
  have ka:∀ y ∈ ao.drop (dec ao 0 0).2.1,y<256:=fun y bp=>al y (awt bp);have h5:(ao.drop (dec ao 0 0).2.1).length≤2 ^ 47:=by rw [avJ];omega
  simp only [ae,vt,c3];clear c3 h8 Pw;generalize ao.drop (dec ao 0 0).2.1=jn at *;generalize (dec ao 0 0).1=k at *;by_cases hv:k<1
  ·have eP:decide ((k:Int)<1)=true:=decide_eq_true (by omega)
   have bk:dH (d+1) left ao=.error 5:=by rw [tk,if_pos (.inl hv)]
   simp only [ae,vt,AS,fM,ls,oV,nt,eP,g2,aS,awg,iy,ij,fB,ix];exact ax ⟨_,_,pz _ 5,by rw [bk];rfl,da.trans (J.set _ h.n _) fun q ab U=>by omega,fun e hB bU U=>by rw [bk] at U;cases U⟩
  have eP:decide ((k:Int)<1)=false:=decide_eq_false (by omega)
  by_cases rV:16<k
  ·have c5:decide ((16:Int)<(k:Int))=true:=decide_eq_true (by omega)
   have bk:dH (d+1) left ao=.error 5:=by rw [tk,if_pos (.inr rV)]
   simp only [ae,vt,AS,fM,ls,oV,nt,eP,c5,g2,aS,awg,iy,ij,fB,ix];exact ax ⟨_,_,pz _ 5,by rw [bk];rfl,da.trans (J.set _ h.n _) fun q ab U=>by omega,fun e hB bU U=>by rw [bk] at U;cases U⟩
  have c5:decide ((16:Int)<(k:Int))=false:=decide_eq_false (by omega)
  rw [if_neg (by omega)] at tk
  have D4:IntKind.i64.wrap (k:Int)=(k:Int):=Go.IntWalk.i64_in _ (by omega)
  have st1:bF (some 3) (aO.cells [V.int .i64 0,V.int .i64 0,V.ag] 66 none) 0 [V.int .i64 (k:Int),V.int .i64 0,V.ag]=some (.cells [V.int .i64 (k:Int),V.int .i64 0,V.ag] 66 none):=rfl;obtain ⟨hf,JL⟩:∃ y,y=ad.n:=⟨_,rfl⟩;have JM:h.n<hf:=by omega
  obtain ⟨fj,eS⟩:∃ y,y=ad.push (.cells [V.int .i64 (k:Int),V.int .i64 0,V.ag] 66 none):=⟨_,rfl⟩;have b2:J ad fj none_:=by rw [eS];exact J.push _ _ _
  have n3:fj.n=ad.n+1:=by rw [eS];rfl
  have Ci:fj.get hf=.cells [V.int .i64 (k:Int),V.int .i64 0,V.ag] 66 none:=by rw [eS,JL];exact ck
  have PS:=(b2.get h.n (by omega) (by simp [none_])).trans g2
  have JN:=(b2.get fH (by omega) (by simp [none_])).trans JK
  have jB:dA fj (.ptr fi 0) fi jn:=dA.ai dI b2 (by simp [none_])
  have eT:J h fj (nw fH fi):=da.trans' b2.up;have BS:k<17:=by omega
  have fq:(if (0:Int)≤(k:Int)∧(k:Int)<((17:Nat):Int)∧((k:Int).toNat * 1)≤fG.length then some (V.at (fG.drop ((k:Int).toNat * 1))) else none)=some (.at (.int .i64 (dn.getD k 0)::fG.drop (k+1))):=by
   rw [if_pos ⟨by omega,by omega,by simp [fG,dn];omega⟩]
   have:fG.drop ((k:Int).toNat * 1)=.int .i64 (dn.getD k 0)::fG.drop (k+1):=by
    rw [avc,Nat.mul_one,avk (by simp [fG,dn];omega)]
    simp [fG,List.getD,ME (show k<dn.length by simp [dn];omega)]
   rw [this]
  have gn:=Ti (o:=(k:Int)) (by omega) (by omega)
  rw [avc] at gn;simp only [ae,vt,AS,By,nW,aW,ls,oV,nt,eP,c5,mq ns iA,D4,st1];rw [←JL,←eS];clear eS;by_cases k5:k=1
  ·have h6:((k:Int)==1)=true:=by simp;omega
   simp only [ae,vt,AS,reduceCtorEq,SG,SR,h6,JN];refine cB St (D3 (.ptr fi 0) fi jn fj jB ka (by omega)) fun r bn ⟨jr,AW,db⟩=>?_
   subst jr;have n4:=db.n;have Cj:=(db.get hf (by omega) (by omega)).trans Ci
   have JO:=(db.get h.n (by omega) (by omega)).trans PS
   have zI:=(db.get fH (by omega) (by omega)).trans JN
   have mc:J h bn (nw fH fi):=eT.trans db fun q ab U=>.inr U;have aue:J fj bn (fun q=>q=fi):=db;obtain ⟨gr,fF⟩:∃ y,y=bn.set hf (.cells [V.int .i64 (k:Int),V.int .i64 (fZ (dec jn 0 0).1),V.ag] 66 none):=⟨_,rfl⟩;have dW:J bn gr (fun q=>q=hf):=by rw [fF];exact J.set _ _ _
   have x7:gr.n=bn.n:=by rw [fF];rfl
   have Fe:gr.get hf=.cells [V.int .i64 (k:Int),V.int .i64 (fZ (dec jn 0 0).1),V.ag] 66 none:=by rw [fF];exact aT
   have Ff:=(dW.get h.n (by omega) (by omega)).trans JO
   have Z2:=(dW.get fH (by omega) (by omega)).trans zI
   have GY:dA gr (.ptr fi 0) fi _:=dA.ai AW dW (by omega)
   have jL:J h gr (nw fH fi):=mc.trans dW fun q ab U=>by omega
   simp only [ae,eH,vt,AS,By,GJ,r5,Cj];rw [←fF];clear fF;by_cases o6:(dec jn 0 0).2.2=0;rotate_left
   ·have nv:((((dec jn 0 0).2.2:Nat):Int) !=0)=true:=by simp;omega
    have bk:dH (d+1) left ao=.error (dec jn 0 0).2.2:=by rw [tk,if_pos k5,if_pos o6]
    simp only [ae,vt,AS,fM,ls,oV,nt,nv,Ff,aS,awg,iy,ij,fB,ix];exact ax ⟨_,_,pz _ _,by rw [bk];rfl,jL.trans (J.set _ h.n _) fun q ab U=>by omega,fun e hB bU U=>by rw [bk] at U;cases U⟩
   have nv:((((dec jn 0 0).2.2:Nat):Int) !=0)=false:=by simp;omega
   have td:=(i3 ka o6).2;have k1:∀ y ∈ jn.drop (dec jn 0 0).2.1,y<256:=fun y bp=>ka y (awt bp);have ht:(jn.drop (dec jn 0 0).2.1).length≤2 ^ 47:=by rw [avJ];omega
   rw [if_pos k5,if_neg (by simpa using o6)] at tk
   generalize jn.drop (dec jn 0 0).2.1=uO at *;generalize fZ (dec jn 0 0).1=n at *;have PT:x1 (k:Int)=0:=by rw [k5];decide
   obtain ⟨m,hm⟩:∃ m:Nat,m=(x1 (k:Int)).toNat:=⟨_,rfl⟩;have JP:m=0:=by rw [hm,PT];rfl
   have bk:dH (d+1) left ao=(match mQ (dH d) m (left - 1) uO with | .error e=>.error e | .ok (aQ,r)=>.ok (.mk (k:Int) n aQ,r)):=by rw [tk,JP,k5,mQ];rfl
   have JQ:dn.getD k 0=((m:Nat):Int):=by rw [gn,PT,JP];rfl
   have JR:fo gr fH fi uO (64 - (left - 1)):=⟨by omega,Z2,GY,bI⟩
   have D5:∀ (f:ak),ak.eval f gr (.global 2)=.at fG:=fun f=>H4 (az.ai jL);have PU:=Fe;have D6:hf<gr.n:=by omega
   simp only [ae,vt,nW,aW,nv];have tc:=N9 (k:Int);simp only [ae,vt,AS,Jb,aW,Ju,PU,D5,fq,JQ];refine aZ.bQ (α:=Nat×V×List b4×List Nat×Nat) (fun x f h'=>f 0=.ptr fH 0∧f 1=.int .i64 ((17 - (d+1):Nat):Int)∧f 4=.ptr h.n 0∧f 8=.ptr hf 0∧f 69=.int .i64 (m:Nat)∧f 70=.int .i64 (x.1:Nat)∧x.1≤m∧h'.get h.n=.cells [.int .i64 0,.int .i64 0,.ag] 66 none∧h'.get hf=.cells [.int .i64 (k:Int),.int .i64 n,x.2.1] 66 none ∧
     Own h' 66 3 x.2.1 (x.2.2.1.flatMap aE)∧(∀ j,a8 x.2.1=some j→h.n≤j∧j≠h.n∧j≠hf)∧x.2.2.1.length=x.1∧fo h' fH fi x.2.2.2.1 (64 - x.2.2.2.2)∧x.2.2.2.2≤64∧(∀ y ∈ x.2.2.2.1,y<256)∧x.2.2.2.1.length≤2 ^ 47∧J h h' (nw fH fi)∧hf<h'.n ∧
     mQ (dH d) m (left - 1) uO=(match mQ (dH d) (m - x.1) x.2.2.2.2 x.2.2.2.1 with | .error e=>.error e | .ok (aQ,r)=>.ok (x.2.2.1++aQ,r))) (fun x=>m - x.1) (0,.ag,[],uO,left - 1)
    ⟨rfl,rfl,rfl,rfl,rfl,rfl,Dc _,Ff,Fe,Own.ag _ _ _,by simp [a8],rfl,JR,by simp only;omega,k1,ht,jL,D6,by simp only [axa];cases mQ (dH d) m (left - 1) uO<;>rfl⟩ ?_
   rintro ⟨i,s,acc,b,l⟩ f c6 ⟨f0,f1,f4,f8,f69,f70,hi,g4,g8,os,ids,l8,dc,x8,uP,r0,kk,JS,jM⟩
   simp only at f70 hi g8 os ids l8 dc x8 uP r0 jM;refine ee (by kernel_rfl) ?_
   by_cases JT:i<m
   ·have aC:decide ((i:Int)<((m:Nat):Int))=true:=decide_eq_true (by omega)
    have JU:IntKind.i64.wrap ((i:Int)+1)=((i+1:Nat):Int):=by rw [Go.IntWalk.i64_in _ (by omega)];omega
    have B1:IntKind.i64.wrap (((17 - (d+1):Nat):Int)+1)=((17 - d:Nat):Int):=by rw [Go.IntWalk.i64_in _ (by omega)];omega
    obtain ⟨h9,Ck⟩:∃ h9,m - i=h9+1:=⟨m - i - 1,by omega⟩
    rw [Ck,mQ] at jM;simp only [ae,vt,reduceCtorEq,f0,f1,f69,f70,aC,B1];refine cB Su (TA d l b c6 fH fi (by omega) x8 (az.ai kk) dc uP r0) fun r gV ⟨rq,mz,d7⟩=>?_
    subst rq;have PQ:=dc.1;have nD:=dc.2.2.1.2.1;have D7:fH<h.n:=bf.1;have D8:fi<h.n:=bf.2.2.1.2.1;have TB:h.n<hf:=JM;have Cl:=(mz.get h.n (by omega) (by rintro (U | U)<;>omega)).trans g4
    have JV:=(mz.get hf JS (by rintro (U | U)<;>omega)).trans g8
    have JW:=os.ai mz fun j aV U=>by
     have:=(ids j aV).1;rcases U with U | U<;>omega
    have q5:J h gV (nw fH fi):=kk.trans' mz;have n7:=mz.n;cases p4:dH d l b with
    | error c=>
     rw [p4] at jM;have s8:=JJ d l b c p4;have bb:(((c:Nat):Int) !=0)=true:=by simp;omega
     rw [p4] at d7;simp only at jM;have ou:dH (d+1) left ao=.error c:=by rw [bk,jM]
     simp only [tR];have rr:=x5 (.mk 0 0 []);have q6:=Cg (.mk 0 0 []);have uQ:J gV (gV.push (.cells (aE (.mk 0 0 [])) 66 none)) none_:=J.push _ _ _;have JX:=(uQ.get h.n (by omega) (by simp [none_])).trans Cl
     simp only [ae,vt,AS,fM,ls,oV,nt,f4,rr,q6,bb,JX,aS,awg,iy,ij,fB,ix];refine ax ⟨_,_,pz _ c,by rw [ou];rfl,?_,fun e hB bU U=>by rw [ou] at U;cases U⟩
     exact ((q5.trans' uQ.up).trans (J.set _ h.n _) fun q ab U=>by omega)
    | ok r=>
     obtain ⟨A,cN,bU⟩:=r;rw [p4] at jM;simp only at jM;have gt:=Oa d l b uP A cN bU p4;have JY:=d7 A cN bU p4;have D9:∀ y ∈ cN,y<256:=fun y bp=>uP y (by rw [gt.uN];simp [bp])
     have TC:cN.length≤b.length:=by rw [gt.uN];simp
     have bo:=gt.sz;simp only [tR];have rr:=x5 A;have q6:=Cg A;have Z3:=GW A;obtain ⟨x9,mR⟩:∃ y,y=gV.push (.cells (aE A) 66 none):=⟨_,rfl⟩;have j8:J gV x9 none_:=by rw [mR];exact J.push _ _ _
     have n8:x9.n=gV.n+1:=by rw [mR];rfl
     have g9:x9.get gV.n=.cells (aE A) 66 none:=by rw [mR];exact ck
     have Cm:=(j8.get hf (by omega) (by simp [none_])).trans JV
     have Cj:=(j8.get h.n (by omega) (by simp [none_])).trans Cl
     have JZ:cP (aO.cells (aE A) 66 none) 0=some (aE A):=by cases A;rfl
     have Ea:cO (some (some 3)) (some (aE A))=some (.agg (aE A)):=by cases A;rfl
     obtain ⟨cJ,fU,fh,vR,nZ,ya⟩:=ZZ (JW.br j8) (by omega) A
     have qx:=ZY x9 A;have Cn:∀ j,a8 s=some j→j<c6.n:=fun j aV=>os.lt j aV;have J0:=(nZ.get hf (by omega) (fun U=>(ids hf U).2.2 rfl)).trans Cm
     have J1:=(nZ.get h.n (by omega) (fun U=>(ids h.n U).2.1 rfl)).trans Cj
     have lD:cJ.one=true:=by
      rcases vR with ⟨rfl | rfl,_⟩ | ⟨_,_,_,_,_,rfl,_⟩<;>rfl
     have sc:cJ.cells=some [cJ]:=by
      rcases vR with ⟨rfl | rfl,_⟩ | ⟨_,_,_,_,_,rfl,_⟩<;>rfl
     have dV:bF (some 1) (aO.cells [V.int .i64 (k:Int),V.int .i64 n,s] 66 none) 2 [cJ]=some (.cells [.int .i64 (k:Int),.int .i64 n,cJ] 66 none):=by rw [rU lD];rfl
     have z0:((0:Int) !=0)=false:=rfl;simp only [ae,vt,rk,sZ,oV,nt,f8,rr,q6];rw [←mR];clear mR;simp only [ae,vt,AS,By,rk,fM,Zd,f8,f70,Cm,g9,JZ,Ea,qx,fh,J0,sc,dV,JU];have cY:J fU (fU.set hf (.cells [V.int .i64 (k:Int),V.int .i64 n,cJ] 66 none)) (fun q=>q=hf):=J.set _ _ _;have sd:∀ j,a8 cJ=some j→h.n≤j∧j≠h.n∧j≠hf:=fun j aV=>by
      rcases ya with ya | ya
      ·exact ids j (by rw [←ya];exact aV)
      ·have:=ya j aV;omega
     have J2:J h fU (nw fH fi):=(q5.trans' j8.up).trans nZ fun q ab U=>by have:=(ids q U).1;omega
     have J3:fo fU fH fi cN (64 - bU):=fo.ai JY (j8.up.trans' nZ) (fun U=>by have:=(ids fH U).1;omega) (fun U=>by have:=(ids fi U).1;omega)
     have Z4:=nZ.n;refine ax ⟨(i+1,cJ,acc++[A],cN,bU),⟨f0,f1,f4,f8,f69,rfl,JT,(np (by omega)).trans J1,aT,vR.ai cY (fun j aV U=>(sd j aV).2.2 U),sd,by simp [l8],fo.ai J3 cY (by omega) (by omega),by simp only;omega,D9,by simp only;omega,J2.trans cY fun q ab U=>by omega,by rw [lW];omega,?_⟩,by simp only;omega⟩
     rw [jM,show m - (i+1)=h9 by omega]
     cases mQ (dH d) h9 bU cN with
     | error e=>rfl
     | ok r=>obtain ⟨aQ,r⟩:=r;simp
   ·have aC:decide ((i:Int)<((m:Nat):Int))=false:=decide_eq_false (by omega)
    rw [show m - i=0 by omega,mQ] at jM
    simp only [avq] at jM;have ou:dH (d+1) left ao=.ok (.mk k n acc,b,l):=by rw [bk,jM]
    have lD:s.one=true:=by
     rcases os with ⟨rfl | rfl,_⟩ | ⟨_,_,_,_,_,rfl,_⟩<;>rfl
    have Co:bF (some 3) (aO.cells [V.int .i64 0,V.int .i64 0,V.ag] 66 none) 0 [.int .i64 (k:Int),.int .i64 n,s]=some (.cells [.int .i64 (k:Int),.int .i64 n,s] 66 none):=by
     exact (sR (n:=3) (vs:=[V.int .i64 (k:Int),V.int .i64 n,s]) rfl (by simp only [all_cons,all_nil,M1,lD,aw8])).trans rfl
    have cY:J c6 (c6.set h.n (.cells [V.int .i64 (k:Int),V.int .i64 n,s] 66 none)) (fun q=>q=h.n):=J.set _ _ _;have Cp:=os.ai cY fun j aV U=>(ids j aV).2.1 U;obtain ⟨fU,gO,nZ⟩:=Zt (k:Int) n Cp;simp only [ae,vt,AS,fM,nt,f4,f8,f69,f70,aC,g8,g4,Co,aS,awg,iy,ij,fB,ix];have D7:fH<h.n:=bf.1;have D8:fi<h.n:=bf.2.2.1.2.1;refine ax ⟨_,fU,aA.tuple (aq.cons gO (aq.refl _ _)),by rw [ou];rfl,(kk.trans cY fun q ab U=>by omega).trans nZ fun q ab U=>by have:=(ids q U).1;omega,fun e hB bU U=>?_⟩
    rw [ou] at U;cases U;exact fo.ai (fo.ai dc cY (by omega) (by omega)) nZ (fun U=>by have:=(ids fH U).1;omega) (fun U=>by have:=(ids fi U).1;omega)
  ·have h6:((k:Int)==1)=false:=by simp;omega
   rw [if_neg k5] at tk;obtain ⟨m,hm⟩:∃ m:Nat,m=(x1 (k:Int)).toNat:=⟨_,rfl⟩;rw [←hm] at tk;have td:=N9 (k:Int);obtain ⟨n,aG⟩:∃ n:Int,n=0:=⟨0,rfl⟩;rw [←aG] at tk Ci;have bk:=tk;have JQ:dn.getD k 0=((m:Nat):Int):=by rw [gn,hm];omega
   have JR:fo fj fH fi jn (64 - (left - 1)):=⟨by omega,JN,jB,bI⟩
   have D5:∀ (f:ak),ak.eval f fj (.global 2)=.at fG:=fun f=>H4 (az.ai eT);have PU:=Ci;have Ff:=PS;have Fe:=Ci;have jL:=eT;have D6:hf<fj.n:=by omega
   have k1:=ka;have ht:=h5;simp only [ae,vt,AS,Jb,nW,aW,Ju,Ci,h6];have tc:=N9 (k:Int);simp only [ae,vt,aW,D5,fq,JQ];refine aZ.bQ (α:=Nat×V×List b4×List Nat×Nat) (fun x f h'=>f 0=.ptr fH 0∧f 1=.int .i64 ((17 - (d+1):Nat):Int)∧f 4=.ptr h.n 0∧f 8=.ptr hf 0∧f 69=.int .i64 (m:Nat)∧f 70=.int .i64 (x.1:Nat)∧x.1≤m∧h'.get h.n=.cells [.int .i64 0,.int .i64 0,.ag] 66 none∧h'.get hf=.cells [.int .i64 (k:Int),.int .i64 n,x.2.1] 66 none ∧
     Own h' 66 3 x.2.1 (x.2.2.1.flatMap aE)∧(∀ j,a8 x.2.1=some j→h.n≤j∧j≠h.n∧j≠hf)∧x.2.2.1.length=x.1∧fo h' fH fi x.2.2.2.1 (64 - x.2.2.2.2)∧x.2.2.2.2≤64∧(∀ y ∈ x.2.2.2.1,y<256)∧x.2.2.2.1.length≤2 ^ 47∧J h h' (nw fH fi)∧hf<h'.n ∧
     mQ (dH d) m (left - 1) jn=(match mQ (dH d) (m - x.1) x.2.2.2.2 x.2.2.2.1 with | .error e=>.error e | .ok (aQ,r)=>.ok (x.2.2.1++aQ,r))) (fun x=>m - x.1) (0,.ag,[],jn,left - 1)
    ⟨rfl,rfl,rfl,rfl,rfl,rfl,Dc _,Ff,Fe,Own.ag _ _ _,by simp [a8],rfl,JR,by simp only;omega,k1,ht,jL,D6,by simp only [axa];cases mQ (dH d) m (left - 1) jn<;>rfl⟩ ?_
   rintro ⟨i,s,acc,b,l⟩ f c6 ⟨f0,f1,f4,f8,f69,f70,hi,g4,g8,os,ids,l8,dc,x8,uP,r0,kk,JS,jM⟩
   simp only at f70 hi g8 os ids l8 dc x8 uP r0 jM;refine ee (by kernel_rfl) ?_
   by_cases JT:i<m
   ·have aC:decide ((i:Int)<((m:Nat):Int))=true:=decide_eq_true (by omega)
    have JU:IntKind.i64.wrap ((i:Int)+1)=((i+1:Nat):Int):=by rw [Go.IntWalk.i64_in _ (by omega)];omega
    have B1:IntKind.i64.wrap (((17 - (d+1):Nat):Int)+1)=((17 - d:Nat):Int):=by rw [Go.IntWalk.i64_in _ (by omega)];omega
    obtain ⟨h9,Ck⟩:∃ h9,m - i=h9+1:=⟨m - i - 1,by omega⟩
    rw [Ck,mQ] at jM;simp only [ae,vt,reduceCtorEq,f0,f1,f69,f70,aC,B1];refine cB Su (TA d l b c6 fH fi (by omega) x8 (az.ai kk) dc uP r0) fun r gV ⟨rq,mz,d7⟩=>?_
    subst rq;have PQ:=dc.1;have nD:=dc.2.2.1.2.1;have D7:fH<h.n:=bf.1;have D8:fi<h.n:=bf.2.2.1.2.1;have TB:h.n<hf:=JM;have Cl:=(mz.get h.n (by omega) (by rintro (U | U)<;>omega)).trans g4
    have JV:=(mz.get hf JS (by rintro (U | U)<;>omega)).trans g8
    have JW:=os.ai mz fun j aV U=>by
     have:=(ids j aV).1;rcases U with U | U<;>omega
    have q5:J h gV (nw fH fi):=kk.trans' mz;have n7:=mz.n;cases p4:dH d l b with
    | error c=>
     rw [p4] at jM;have s8:=JJ d l b c p4;have bb:(((c:Nat):Int) !=0)=true:=by simp;omega
     rw [p4] at d7;simp only at jM;have ou:dH (d+1) left ao=.error c:=by rw [bk,jM]
     simp only [tR];have rr:=x5 (.mk 0 0 []);have q6:=Cg (.mk 0 0 []);have uQ:J gV (gV.push (.cells (aE (.mk 0 0 [])) 66 none)) none_:=J.push _ _ _;have JX:=(uQ.get h.n (by omega) (by simp [none_])).trans Cl
     simp only [ae,vt,AS,fM,ls,oV,nt,f4,rr,q6,bb,JX,aS,awg,iy,ij,fB,ix];refine ax ⟨_,_,pz _ c,by rw [ou];rfl,?_,fun e hB bU U=>by rw [ou] at U;cases U⟩
     exact ((q5.trans' uQ.up).trans (J.set _ h.n _) fun q ab U=>by omega)
    | ok r=>
     obtain ⟨A,cN,bU⟩:=r;rw [p4] at jM;simp only at jM;have gt:=Oa d l b uP A cN bU p4;have JY:=d7 A cN bU p4;have D9:∀ y ∈ cN,y<256:=fun y bp=>uP y (by rw [gt.uN];simp [bp])
     have TC:cN.length≤b.length:=by rw [gt.uN];simp
     have bo:=gt.sz;simp only [tR];have rr:=x5 A;have q6:=Cg A;have Z3:=GW A;obtain ⟨x9,mR⟩:∃ y,y=gV.push (.cells (aE A) 66 none):=⟨_,rfl⟩;have j8:J gV x9 none_:=by rw [mR];exact J.push _ _ _
     have n8:x9.n=gV.n+1:=by rw [mR];rfl
     have g9:x9.get gV.n=.cells (aE A) 66 none:=by rw [mR];exact ck
     have Cm:=(j8.get hf (by omega) (by simp [none_])).trans JV
     have Cj:=(j8.get h.n (by omega) (by simp [none_])).trans Cl
     have JZ:cP (aO.cells (aE A) 66 none) 0=some (aE A):=by cases A;rfl
     have Ea:cO (some (some 3)) (some (aE A))=some (.agg (aE A)):=by cases A;rfl
     obtain ⟨cJ,fU,fh,vR,nZ,ya⟩:=ZZ (JW.br j8) (by omega) A
     have qx:=ZY x9 A;have Cn:∀ j,a8 s=some j→j<c6.n:=fun j aV=>os.lt j aV;have J0:=(nZ.get hf (by omega) (fun U=>(ids hf U).2.2 rfl)).trans Cm
     have J1:=(nZ.get h.n (by omega) (fun U=>(ids h.n U).2.1 rfl)).trans Cj
     have lD:cJ.one=true:=by
      rcases vR with ⟨rfl | rfl,_⟩ | ⟨_,_,_,_,_,rfl,_⟩<;>rfl
     have sc:cJ.cells=some [cJ]:=by
      rcases vR with ⟨rfl | rfl,_⟩ | ⟨_,_,_,_,_,rfl,_⟩<;>rfl
     have dV:bF (some 1) (aO.cells [V.int .i64 (k:Int),V.int .i64 n,s] 66 none) 2 [cJ]=some (.cells [.int .i64 (k:Int),.int .i64 n,cJ] 66 none):=by rw [rU lD];rfl
     have z0:((0:Int) !=0)=false:=rfl;simp only [ae,vt,rk,sZ,oV,nt,f8,rr,q6];rw [←mR];clear mR;simp only [ae,vt,AS,By,rk,fM,Zd,f8,f70,Cm,g9,JZ,Ea,qx,fh,J0,sc,dV,JU];have cY:J fU (fU.set hf (.cells [V.int .i64 (k:Int),V.int .i64 n,cJ] 66 none)) (fun q=>q=hf):=J.set _ _ _;have sd:∀ j,a8 cJ=some j→h.n≤j∧j≠h.n∧j≠hf:=fun j aV=>by
      rcases ya with ya | ya
      ·exact ids j (by rw [←ya];exact aV)
      ·have:=ya j aV;omega
     have J2:J h fU (nw fH fi):=(q5.trans' j8.up).trans nZ fun q ab U=>by have:=(ids q U).1;omega
     have J3:fo fU fH fi cN (64 - bU):=fo.ai JY (j8.up.trans' nZ) (fun U=>by have:=(ids fH U).1;omega) (fun U=>by have:=(ids fi U).1;omega)
     have Z4:=nZ.n;refine ax ⟨(i+1,cJ,acc++[A],cN,bU),⟨f0,f1,f4,f8,f69,rfl,JT,(np (by omega)).trans J1,aT,vR.ai cY (fun j aV U=>(sd j aV).2.2 U),sd,by simp [l8],fo.ai J3 cY (by omega) (by omega),by simp only;omega,D9,by simp only;omega,J2.trans cY fun q ab U=>by omega,by rw [lW];omega,?_⟩,by simp only;omega⟩
     rw [jM,show m - (i+1)=h9 by omega]
     cases mQ (dH d) h9 bU cN with
     | error e=>rfl
     | ok r=>obtain ⟨aQ,r⟩:=r;simp
   ·have aC:decide ((i:Int)<((m:Nat):Int))=false:=decide_eq_false (by omega)
    rw [show m - i=0 by omega,mQ] at jM
    simp only [avq] at jM;have ou:dH (d+1) left ao=.ok (.mk k n acc,b,l):=by rw [bk,jM]
    have lD:s.one=true:=by
     rcases os with ⟨rfl | rfl,_⟩ | ⟨_,_,_,_,_,rfl,_⟩<;>rfl
    have Co:bF (some 3) (aO.cells [V.int .i64 0,V.int .i64 0,V.ag] 66 none) 0 [.int .i64 (k:Int),.int .i64 n,s]=some (.cells [.int .i64 (k:Int),.int .i64 n,s] 66 none):=by
     exact (sR (n:=3) (vs:=[V.int .i64 (k:Int),V.int .i64 n,s]) rfl (by simp only [all_cons,all_nil,M1,lD,aw8])).trans rfl
    have cY:J c6 (c6.set h.n (.cells [V.int .i64 (k:Int),V.int .i64 n,s] 66 none)) (fun q=>q=h.n):=J.set _ _ _;have Cp:=os.ai cY fun j aV U=>(ids j aV).2.1 U;obtain ⟨fU,gO,nZ⟩:=Zt (k:Int) n Cp;simp only [ae,vt,AS,fM,nt,f4,f8,f69,f70,aC,g8,g4,Co,aS,awg,iy,ij,fB,ix];have D7:fH<h.n:=bf.1;have D8:fi<h.n:=bf.2.2.1.2.1;refine ax ⟨_,fU,aA.tuple (aq.cons gO (aq.refl _ _)),by rw [ou];rfl,(kk.trans cY fun q ab U=>by omega).trans nZ fun q ab U=>by have:=(ids q U).1;omega,fun e hB bU U=>?_⟩
    rw [ou] at U;cases U;exact fo.ai (fo.ai dc cY (by omega) (by omega)) nZ (fun U=>by have:=(ids fH U).1;omega) (fun U=>by have:=(ids fi U).1;omega)
def nH (ao:List Nat):Except Nat b4:=match dH 16 64 ao with
 | .error c=>.error c
 | .ok (e,r,_)=>if r.length=0 then .ok e else .error 5
def ov (ao:List Nat):b4:=match nH ao with
 | .error _=>.mk 0 0 []
 | .ok e=>e
def nI (ao:List Nat):Nat:=match nH ao with
 | .error c=>c
 | .ok _=>0
def se (ao:List Nat):V:=.tuple [.agg (aE (ov ao)),.int .i64 (nI ao:Nat)]
theorem aoe (ao:List Nat):a7 (se ao):=a7.tuple (a1.cons (a7.agg (Tf _)) (a1.cons (a7.int _ _) a1.nil))
theorem aof {ao:List Nat} {c:Nat} (h:nH ao=.error c):c≠0:=by
 unfold nH at h;split at h
 ·rename_i e he;cases h;exact JJ _ _ _ _ he
 ·split at h
  ·cases h
  ·cases h;omega
theorem aog {ao:List Nat} (al:∀ b ∈ ao,b<256) {e:b4} (h:nH ao=.ok e):ao=cS e∧c1 e=true∧h7 e:=by
 unfold nH at h;split at h
 ·cases h
 ·rename_i ed r l az;split at h
  ·rename_i aL;cases h;have g:=Oa 16 64 ao al _ _ _ az;have gJ:r=[]:=avA aL;refine ⟨by rw [g.uN,gJ,avq],?_,g.ok⟩
   have aa:=g.sz;unfold c1;rw [ws,if_pos ⟨g.deep,by omega⟩]
   rfl
  ·cases h
theorem Z5 {e:b4} (hm:c1 e=true) (aY:h7 e):nH (cS e)=.ok e:=by
 have bf:rp 16 e=true∧e0 e≤64:=by
  unfold c1 at hm;rw [ws] at hm;split at hm
  ·assumption
  ·cases hm
 have:=ZW 16 64 e [] bf.1 aY bf.2;rw [avq] at this;unfold nH;rw [this];rfl
theorem PV (x:V) (ao:List Nat) (h:I) (az:gN h) (rd:Rd h x ao) (al:∀ b ∈ ao,b<256) (aw:ao.length≤2 ^ 47):Pure ds 114 [x] h (se ao):=by
 refine Pure.of (aoe ao) ?_;refine af.au (c:=_) Tryz.func114 rfl (by kernel_rfl) (by simp) ?_
 obtain ⟨eQ,dx⟩:∃ y,y=h.push (.cells [.int .i64 0,.int .i64 0,.ag] 66 none):=⟨_,rfl⟩;have gz:J h eQ none_:=by rw [dx];exact J.push _ _ _
 have g0:eQ.get h.n=.cells [.int .i64 0,.int .i64 0,.ag] 66 none:=by rw [dx];exact ck
 have ot:eQ.n=h.n+1:=by rw [dx];rfl
 simp only [ae,vt,reduceCtorEq,oV];rw [←dx];clear dx;refine cB Yl (JE x ao eQ (rd.ai gz) (by omega)) fun r H1 ⟨aC,cZ,bJ⟩=>?_
 subst aC;have fv:eQ.n+1≤H1.n:=cZ.2.1;have g1:=(bJ.get h.n (by omega) (by simp [none_])).trans g0
 have Z6:bF (some 2) (aO.cells [V.c8,V.int .i64 0] 266 none) 0 [V.ptr eQ.n 0,V.int .i64 0]=some (.cells [V.ptr eQ.n 0,V.int .i64 0] 266 none):=rfl;obtain ⟨bK,bs⟩:∃ y,y=H1.push (.cells [V.ptr eQ.n 0,V.int .i64 0] 266 none):=⟨_,rfl⟩;have ba:J H1 bK none_:=by rw [bs];exact J.push _ _ _
 have dy:bK.n=H1.n+1:=by rw [bs];rfl
 have JK:bK.get H1.n=.cells [V.ptr eQ.n 0,V.int .i64 0] 266 none:=by rw [bs];exact ck
 have g2:=(ba.get h.n (by omega) (by simp [none_])).trans g1
 have dc:fo bK H1.n eQ.n ao (64 - 64):=⟨by omega,JK,dA.ai cZ ba (by simp [none_]),by omega⟩
 have da:J h bK none_:=(gz.trans' bJ).trans' ba;simp only [ae,vt,AS,By,am6,M2,anB,Z6];rw [←bs];clear bs;refine cB Su (TA 16 64 ao bK H1.n eQ.n (by decide) (by decide) (az.ai da) dc al aw) fun r fj ⟨ev,b2,d3⟩=>?_
 subst ev;have n3:=b2.n;have g3:=(b2.get h.n (by omega) (by rintro (U | U)<;>omega)).trans g2
 have eT:J h fj none_:=da.trans b2 fun q ab U=>by rcases U with U | U<;>omega
 cases aj:dH 16 64 ao with
 | error c=>
  have s8:=JJ _ _ _ _ aj;have bb:(((c:Nat):Int) !=0)=true:=by simp;omega
  have bL:nH ao=.error c:=by unfold nH;rw [aj]
  have jb:se ao=.tuple [.agg (aE (.mk 0 0 [])),.int .i64 (c:Nat)]:=by unfold se ov nI;rw [bL]
  rw [jb];have rr:=x5 (.mk 0 0 []);have q6:=Cg (.mk 0 0 []);have uQ:J fj (fj.push (.cells (aE (.mk 0 0 [])) 66 none)) none_:=J.push _ _ _;have g4:=(uQ.get h.n (by omega) (by simp [none_])).trans g3
  simp only [tR];simp only [ae,vt,AS,fM,ls,oV,nt,rr,q6,bb,g4,aS,ayJ,iy,ij,fB,ix];exact ax ⟨_,pz _ c,(eT.trans' uQ).trans (J.set _ h.n _) fun q ab U=>by omega⟩
 | ok r=>
  obtain ⟨e,cN,bU⟩:=r;have Z7:=d3 e cN bU aj;have z0:((0:Int) !=0)=false:=rfl;have rr:=x5 e;have q6:=Cg e;obtain ⟨hY,iq⟩:∃ y,y=fj.push (.cells (aE e) 66 none):=⟨_,rfl⟩;have db:J fj hY none_:=by rw [iq];exact J.push _ _ _
  have JO:hY.get fj.n=.cells (aE e) 66 none:=by rw [iq];exact ck
  have g4:=(db.get h.n (by omega) (by simp [none_])).trans g3
  have PW:=fo.ai Z7 db (by simp [none_]) (by simp [none_])
  have zI:=PW.2.1;have mc:=eT.trans' db;simp only [tR];simp only [ae,vt,SG,SR,oV,nt,rr,q6];rw [←iq];clear iq;simp only [ae,vt,AS,zI];refine bW Ym (Left hY _ _ cN PW.2.2.1) ?_;by_cases PX:cN.length=0
  ·have bb:decide ((0:Int)<((cN.length:Nat):Int))=false:=decide_eq_false (by omega)
   have bL:nH ao=.ok e:=by unfold nH;rw [aj];simp only;rw [if_pos PX]
   have jb:se ao=.tuple [.agg (aE e),.int .i64 0]:=by unfold se ov nI;rw [bL];rfl
   rw [jb];have JZ:cP (aO.cells (aE e) 66 none) 0=some (aE e):=by cases e;rfl
   have Ea:cO (some (some 3)) (some (aE e))=some (.agg (aE e)):=by cases e;rfl
   have Ch:=GW e;simp only [ae,vt,fM,nt,bb,JO,g4,JZ,Ea,rr,q6,aS,ayJ,iy,ij,fB,ix];exact ax ⟨_,aA.refl _ _,mc.trans (J.set _ h.n _) fun q ab U=>by omega⟩
  ·have bb:decide ((0:Int)<((cN.length:Nat):Int))=true:=decide_eq_true (by omega)
   have bL:nH ao=.error 5:=by unfold nH;rw [aj];simp only;rw [if_neg PX]
   have jb:se ao=.tuple [.agg (aE (.mk 0 0 [])),.int .i64 (5:Nat)]:=by unfold se ov nI;rw [bL]
   rw [jb];simp only [ae,vt,AS,fM,ls,oV,nt,bb,g4,aS,ayJ,iy,ij,fB,ix];exact ax ⟨_,pz _ 5,mc.trans (J.set _ h.n _) fun q ab U=>by omega⟩
def ox:Option Int→V
 | some n=>.tuple [.int .i64 n,.int .i64 0]
 | none=>.tuple [.int .i64 0,.int .i64 10]
theorem aoh (e:b4) (cF rv rt acc:Int) (o:Option Int) (hm:c1 e=true) (aH:cM cF rv rt acc 16 e=o) (h:I) (az:gN h) :
  Pure ds 175 [.agg (aE e),.agg [.int .i64 cF,.int .i64 rv,.int .i64 rt],.int .i64 acc] h (ox o):=by
 have:=Zs e cF rv rt acc h az;rw [hm,aH] at this;cases o<;>exact this
def jG (v v2:V):Prop:=∀ ρ v',aB ρ v v'→aB ρ v2 v'
def jH (l ez:List V):Prop:=∀ ρ bU,aX ρ l bU→aX ρ ez bU
theorem jG.refl (v:V):jG v v:=fun _ _ h=>h
theorem jH.refl (l:List V):jH l l:=fun _ _ h=>h
theorem jH.cons {v v2:V} {l ez:List V} (a:jG v v2) (b:jH l ez):jH (v::l) (v2::ez):=fun ρ bU h=>by
 obtain ⟨v',iW,rfl,h1,ad⟩:=h.dB;exact aX.cons (a ρ v' h1) (b ρ iW ad)
theorem jH.append {a a2 b b7:List V} (aP:jH a a2) (aw:a.length=a2.length) (al:jH b b7):jH (a++b) (a2++b7):=fun ρ bU h=>by
 have h1:=h.take a.length;have ad:=h.drop a.length;rw [awa] at h1;rw [awd] at ad;have:=(aP ρ _ h1).append (al ρ _ ad);rwa [awe] at this
theorem jG.ag:jG .ag (.ah 0 []):=fun ρ v' h=>by cases h;exact .gg none 0 (by simp)
theorem jG.ah {n:Nat} {cs uE:List V} (h:jH cs uE) (aw:cs.length=uE.length):jG (.ah n cs) (.ah n uE):=fun ρ v' aH=>by
 cases aH with
 | ah o n cap al aG aN aj=>
  rename_i b arr;have gH:aX ρ cs ((arr.toList.drop o).take cs.length):=by
   refine ⟨by simp;omega,fun k v v' h1 ad=>?_⟩
   rw [avg] at ad;split at ad
   ·rw [avC] at ad;exact aj k v v' h1 (by simpa using ad)
   ·cases ad
  have ad:=h ρ _ gH;refine .ah o n cap al aG (by omega) fun k v v' aD bn=>?_
  have hk:k<cs.length:=by rw [aw];exact (VX.1 aD).1
  refine ad.2 k v v' aD ?_;rw [avg,if_pos hk,avC];simpa using bn
 | gg a c aP=>
  have:uE=[]:=avA (by simpa using aw.symm)
  subst this;exact .gg a c aP
theorem jG.cast {v v2:V} (a:jG v v2) (h:I):aA v h v2 h:=fun ρ B aJ w c0 hw aH=>⟨ρ,Ren.le.refl ρ,hw,a ρ c0 aH⟩
theorem aoi (n:Nat) (g:FuncId) (cap:List V) (p:Nat→Bool) (h:I) (aG:n<2 ^ 61) (hI:bT ds g=true) (av:∀ i,i<n→Pure ds g (.int .i64 (i:Nat)::cap) h (.bool (p i)))
  (r:Nat) (aL:r≤n) (h1:∀ t,t<r→p t=false) (ad:∀ t,r≤t→t<n→p t=true):Pure ds 243 [.int .i64 (n:Nat),.func (.func g) [] cap] h (.int .i64 (r:Nat)):=by
 refine af.au (c:=_) Tryz.func243 rfl (by kernel_rfl) (by simp) ?_
 simp only [ae,vt,reduceCtorEq];refine aZ.bQ (α:=Nat×Nat) (fun x f h'=>h'=h∧f 1=.func (.func g) [] cap∧f 5=.int .i64 (x.1:Nat)∧f 6=.int .i64 (x.2:Nat)∧x.1≤r∧r≤x.2∧x.2≤n) (fun x=>x.2 - x.1) (0,n)
  ⟨rfl,rfl,rfl,rfl,Dc _,aL,BY _⟩ ?_
 rintro ⟨lo,hi⟩ f h' ⟨rfl,f1,f5,f6,cb,a2,a3⟩
 simp only at f5 f6 cb a2 a3;refine ee (by kernel_rfl) ?_
 by_cases aM:lo<hi
 ·have d1:decide ((lo:Int)<(hi:Int))=true:=decide_eq_true (by omega)
  have cV:IntKind.i64.wrap ((lo:Int)+(hi:Int))=((lo+hi:Nat):Int):=by rw [Go.IntWalk.i64_in _ (by omega)];omega
  have bS:=W1 (n:=lo+hi) (by omega)
  have j7:(((lo+hi:Nat):Int)).fdiv (2 ^ (min (Int.toNat 1) IntKind.u64.bits))=(((lo+hi) / 2:Nat):Int):=by
   rw [show (2:Int) ^ (min (Int.toNat 1) IntKind.u64.bits)=2 from rfl,Int.fdiv_eq_ediv_of_nonneg _ (by omega)];omega
  have wW:=aj4 (n:=(lo+hi) / 2) (by omega)
  have rj:=sU (i:=(lo+hi) / 2) (n:=n) (by omega) (by omega)
  simp only [ae,vt,f1,f5,f6,d1,cV,mq iA wn,bS,M0 (show (0:Int)≤1 by decide),j7,mq wn iA,wW]
  refine bW hI (av _ (by omega)) ?_
  cases aU:p ((lo+hi) / 2)
  ·have:¬r≤(lo+hi) / 2:=fun U=>by have:=ad _ U (by omega);rw [aU] at this;cases this
   simp only [ae,vt,rj];exact ax ⟨((lo+hi) / 2+1,hi),⟨rfl,f1,rfl,f6,by simp only;omega,a2,a3⟩,by simp only;omega⟩
  ·have:¬(lo+hi) / 2<r:=fun U=>by have:=h1 _ U;rw [aU] at this;cases this
   simp only [ae,vt];exact ax ⟨(lo,(lo+hi) / 2),⟨rfl,f1,f5,rfl,cb,by simp only;omega,by simp only;omega⟩,by simp only;omega⟩
 ·have d1:decide ((lo:Int)<(hi:Int))=false:=decide_eq_false (by omega)
  obtain rfl:lo=r:=by omega
  simp only [ae,vt,f5,f6,d1,aS,Tryz.results243,ac];exact ax ⟨rfl,rfl⟩
theorem Z8 {α:Type} (A M X:List α) {a:Nat} (aP:A.length=a):lay (A++M) a X=A++X++M.drop X.length:=by
 unfold lay;rw [←aP,awa,show A.length+X.length=A.length+X.length from rfl,List.drop_append]
 simp
theorem aoj {α:Type} (A M X B:List α) {a x b:Nat} (aP:A.length=a) (aj:X.length=x) (al:B.length=b) (hm:M.length=x+b):lay (lay (A++M) a X) (a+x) B=A++X++B:=by
 rw [Z8 A M X aP,Z8 (A++X) _ B (by simp [aP,aj])]
 rw [avZ (l:=M.drop X.length) (by simp;omega)]
 simp
theorem aok {α:Type} (c A B X:List α) {a x b:Nat} (bE:c.take (a+b)=A++B) (aP:A.length=a) (al:B.length=b) (aj:X.length=x) (aw:a+x+b≤c.length) :
  ∃ R,lay (lay c (a+x) B) a X=A++X++(B++R)∧(lay (lay c (a+x) B) a X).length=c.length:=by
 have h1:c.take a=A:=by
  have:=congrArg (avB a) bE;rw [awx,avD (by omega),←aP,awa] at this
  rw [←aP];exact this
 have hc:(lay c (a+x) B).length=c.length:=vv _ _ _ (by omega)
 refine ⟨c.drop (a+x+b),?_,by rw [vv _ _ _ (by omega),hc]⟩
 have aC:(lay c (a+x) B).take a=A:=by
  unfold lay;rw [au8,List.take_append_of_le_length (by rw [VV];omega),awx,avD (by omega),h1]
 have bd:(lay c (a+x) B).drop (a+x)=B++c.drop (a+x+b):=by
  unfold lay;rw [au8,List.drop_append_of_le_length (by rw [VV];omega),avZ (by rw [VV];omega),al]
  simp
 generalize lay c (a+x) B=d at aC bd hc;unfold lay;rw [aC,aj,bd]
theorem Z9:xv ds 245:=⟨_,Tryz.func245,by kernel_rfl,by kernel_rfl,by kernel_rfl,by kernel_rfl,282,350,2,4,by kernel_rfl,by kernel_rfl,Tryz.underlying282,by kernel_rfl⟩
theorem aol (i len cap k j:Nat) (c cs xs:List V) (ex:Option Nat) (h:I) (o:AD h 350 2 i len cap c ex cs) (aw:len<2 ^ 40) (hk:k≤len) (aV:h.get j=.cells xs 350 none) (kZ:j<h.n) (j9:j≠i)
  (aj:xs.length=2) (cm:xs.all (·.one)=true) (AX:cs.all (·.one)=true):af ds 232 [.bj i 0 len cap,.int .i64 (k:Nat),.bj j 0 1 1] h
   (fun r h'=>Own h' 350 2 r (cs.take (k * 2)++xs++cs.drop (k * 2))∧J h h' (fun q=>q=i)∧dm h (.bj i 0 len cap) r):=by
 refine af.au (c:=_) ayK rfl (by kernel_rfl) (by simp) ?_
 have hZ:=o;obtain ⟨hi,az,hlen,bY,hu,kt,tb⟩:=hZ;have bb:((1:Nat):Int)=1:=rfl;have s1:=Nt (P:=ds) (t:=282) (i:=i) (o:=0) (len:=len) (cap:=cap) (k:=.i64) x0 hu hk tb;have nF:Own h 350 2 (.bj j 0 1 1) xs:=.inr ⟨j,1,1,xs,none,rfl,kZ,aV,by rw [aj],by rw [are (by omega)],.inl ⟨by unfold cj;omega,by omega,BY _⟩⟩
 have dR:=vJ (P:=ds) (t:=282) uH nF (n:=1) (by rw [aj]) (by decide) cm
 by_cases td:k=len
 ·subst td;have d1:((k:Int)==(k:Int))=true:=by simp
  obtain ⟨v',h',fh,hq,my,gW⟩:=vI (P:=ds) (t:=282) (tx:=282) AO (by decide) o.own dR (by rw [aj];rfl) (fun m hm=>by
   change m * 2=_ at hm;rw [hlen,aj] at hm;exact ⟨by simp only [lim];omega,by simp only [lim];omega⟩)
  simp only [ae,awW,vt,reduceCtorEq,uH,s1,bb,fh,aS,axm,ac];refine ax ⟨?_,my.mono fun q ab=>(Option.some.inj ab).symm,gW⟩;rw [are (by omega),avZ (by omega),avq]
  exact hq
 have td:k<len:=by omega
 have d1:((k:Int)==(len:Int))=false:=by simp;omega
 have cV:=sU (i:=len) (n:=len+1) (by omega) (by omega)
 have D4:=sU (i:=k) (n:=len) (by omega) (by omega)
 have ay:=ak5 (P:=ds) (t:=282) (i:=i) (o:=0) (len:=len) AO hu;have q3:(cs.take (k * 2)).length=k * 2:=by rw [VV];omega
 have zJ:(cs.drop (k * 2)).length=(len - k) * 2:=by rw [avJ];omega
 have cr:(c.drop (k * 2)).take ((len - k) * 2)=cs.drop (k * 2):=by rw [←bY,List.drop_take];congr 1;omega
 have Fg:((c.drop (k * 2)).take ((len - k) * 2)).all (·.one)=true:=by
  rw [cr,avh];exact fun v aH=>avh.1 AX v (awt aH)
 have pX:(xs.drop 0).take (1 * 2)=xs:=by rw [avW,are (by omega)]
 by_cases fW:cap<len+1
 ·have d2:decide ((cap:Int)<((len+1:Nat):Int))=true:=decide_eq_true (by omega)
  have s2:=Xp (P:=ds) (t:=282) (i:=i) (o:=0) (len:=len) (cap:=cap) (k:=.i64) (m:=k) x0 hu (by omega)
  have bS:IntKind.i64.wrap (((len+1:Nat):Int) - (k:Int))=((len+1 - k:Nat):Int):=by rw [Go.IntWalk.i64_in _ (by omega)];omega
  have aC:=ak6 (P:=ds) (t:=282) (kq:=.i64) (o:=0) (len:=k) (cap:=cap) (n:=len+1 - k) (kn:=.i64) (tn:=3) AO (by kernel_rfl) (by decide) az (by omega) hu (by omega) (by simp only [lim];omega) (by simp only [lim];omega) (by simp only [];omega)
  simp only [avW] at aC;have tS:k+(len+1 - k)=len+1:=by omega
  rw [tS] at aC;obtain ⟨H1,hC⟩:∃ y,y=h.push (.cells (c.take (k * 2)++made [V.int .i64 0,V.int .i64 0] (len+1 - k)) 350 (some 2)):=⟨_,rfl⟩;rw [←hC] at aC;have g1:H1.get h.n=.cells (c.take (k * 2)++made [V.int .i64 0,V.int .i64 0] (len+1 - k)) 350 (some 2):=by rw [hC];exact ck
  have GZ:H1.get j=.cells xs 350 none:=by rw [hC,lx kZ];exact aV
  have Cq:H1.get i=.cells c 350 ex:=by rw [hC,lx hi];exact az
  have fv:H1.n=h.n+1:=by rw [hC];rfl
  have bJ:J h H1 none_:=by rw [hC];exact J.push _ _ _
  have pY:nT ds 282 (.bj h.n 0 (len+1) cj) (some (.int .i64 (k:Int))) none none=some (.bj h.n (0+k * 2) (len+1 - k) (cj+0+k)):=Xq (a:=0) x0 (by omega)
  have uR:nT ds 282 (.bj h.n 0 (len+1) cj) (some (.int .i64 ((k+1:Nat):Int))) none none=some (.bj h.n (0+(k+1) * 2) (len+1 - (k+1)) (cj+0+(k+1))):=Xq (a:=0) x0 (by omega)
  rw [avm,Nat.add_zero] at pY uR;have Fh:c.take (k * 2)=cs.take (k * 2):=by rw [←bY,awx,avD (by omega)]
  have hP:(made [V.int .i64 0,V.int .i64 0] (len+1 - k)).length=(len+1 - k) * 2:=MH _ _;have bd:=Nu (P:=ds) (t:=282) (tx:=282) (o:=k * 2) (dl:=len+1 - k) (dc:=cj+k) (p:=0) (n:=1) (d:=1) (m:=1) AO g1 GZ (by show min 1 (len+1 - k)=1;omega) (by decide) (by simp only [];omega) (by rw [IS,hP,Fh,q3];simp only [];omega) (by rw [pX];exact cm)
  rw [pX] at bd;obtain ⟨bK,bs⟩:∃ y,y=H1.set h.n (.cells (lay (c.take (k * 2)++made [V.int .i64 0,V.int .i64 0] (len+1 - k)) (k * 2) xs) 350 (some 2)):=⟨_,rfl⟩;rw [←bs] at bd;have g2:bK.get h.n=.cells (lay (c.take (k * 2)++made [V.int .i64 0,V.int .i64 0] (len+1 - k)) (k * 2) xs) 350 (some 2):=by rw [bs];exact aT
  have aaa:bK.get i=.cells c 350 ex:=by rw [bs,np (by omega)];exact Cq
  have ez:(lay (c.take (k * 2)++made [V.int .i64 0,V.int .i64 0] (len+1 - k)) (k * 2) xs).length=(len+1) * 2:=by rw [vv _ _ _ (by rw [IS,hP,Fh,q3,aj];omega),IS,hP,Fh,q3];omega
  have ba:J h bK none_:=by rw [bs];exact bJ.trans (J.set _ _ _) fun q ab U=>by omega
  have Ob:=Nt (P:=ds) (t:=282) (i:=i) (o:=0) (len:=len) (cap:=cap) (k:=.i64) (l:=k) x0 hu hk tb;rw [if_neg (by omega),avm] at Ob
  have ev:=Nu (P:=ds) (t:=282) (tx:=282) (o:=(k+1) * 2) (dl:=len+1 - (k+1)) (dc:=cj+(k+1)) (p:=k * 2) (n:=len - k) (d:=cap - k) (m:=len - k) AO g2 aaa (by show min (len - k) (len+1 - (k+1))=len - k;omega) (by omega) (by simp only [];omega) (by rw [ez];simp only [];omega) Fg
  simp only at ev;rw [cr] at ev;rw [show (k+1) * 2=k * 2+2 by omega] at uR ev
  rw [Fh,aoj (cs.take (k * 2)) (made [V.int .i64 0,V.int .i64 0] (len+1 - k)) xs (cs.drop (k * 2)) q3 aj zJ (by rw [hP];omega)] at ev
  simp only [ae,awW,vt,reduceCtorEq,uH,s1,bb,d1,cV,ay,d2,s2,bS,aC,pY,bd];refine aZ.bB none_ [8] (.q 0 (.q 1 (.q 2 (.q 3 (.q 4 (.q 5 (.q 6 (.q 7 (.a 8 .done))))))))) (by kernel_rfl) (by kernel_rfl) (by kernel_rfl) ?_
  simp only [ae,bM,vt,reduceCtorEq,D4,uR,Ob,ev,aS,axm,ac];refine ax ⟨?_,?_,.inr fun q ab=>?_⟩
  ·refine Own.grown (by rw [lW,bs,lW,fv];omega) aT ?_
   simp only [IS,q3,zJ,aj];omega
  ·exact (ba.trans (J.set _ _ _) fun q ab U=>by omega).up
  ·simp only [a8,Option.some.injEq] at ab;omega
 ·have d2:decide ((cap:Int)<((len+1:Nat):Int))=false:=decide_eq_false (by omega)
  have uS:len+1≤cap:=by omega
  have s2:=Xp (P:=ds) (t:=282) (i:=i) (o:=0) (len:=len) (cap:=cap) (k:=.i64) (m:=len+1) x0 hu uS;have pY:=Nt (P:=ds) (t:=282) (i:=i) (o:=0) (len:=len+1) (cap:=cap) (k:=.i64) (l:=k+1) x0 hu (by omega) uS
  rw [if_neg (by omega),avm] at pY
  have uR:=Nt (P:=ds) (t:=282) (i:=i) (o:=0) (len:=len+1) (cap:=cap) (k:=.i64) (l:=k) x0 hu (by omega) uS
  rw [if_neg (by omega),avm] at uR
  have Fi:xw h [.bj j 0 1 1,.bj i ((k+1) * 2) (len+1 - (k+1)) (cap - (k+1))]=some (.bool false):=by
   cases c with
   | nil=>simp at kt;omega
   | cons mm Oc=>simp [xw,aV,az,j9]
  have cI:len * 2+2≤c.length:=by omega
  have bd:=Nu (P:=ds) (t:=282) (tx:=282) (o:=(k+1) * 2) (dl:=len+1 - (k+1)) (dc:=cap - (k+1)) (p:=k * 2) (n:=len+1 - k) (d:=cap - k) (m:=len - k) AO az az (by show min (len+1 - k) (len+1 - (k+1))=len - k;omega) (by omega) (by simp only [];omega) (by simp only [];omega) Fg
  simp only at bd;rw [cr] at bd;obtain ⟨R,eC,Fj⟩:=aok c (cs.take (k * 2)) (cs.drop (k * 2)) xs (a:=k * 2) (x:=2) (b:=(len - k) * 2) (by rw [awe,show k * 2+(len - k) * 2=len * 2 by omega];exact bY) q3 zJ aj (by omega)
  rw [show (k+1) * 2=k * 2+2 by omega] at pY Fi bd
  obtain ⟨H1,hC⟩:∃ y,y=h.set i (.cells (lay c (k * 2+2) (cs.drop (k * 2))) 350 ex):=⟨_,rfl⟩;rw [←hC] at bd;have g1:H1.get i=.cells (lay c (k * 2+2) (cs.drop (k * 2))) 350 ex:=by rw [hC];exact aT
  have GZ:H1.get j=.cells xs 350 none:=by rw [hC,np j9];exact aV
  have bJ:J h H1 (fun q=>q=i):=by rw [hC];exact J.set _ _ _
  have fv:H1.n=h.n:=by rw [hC];rfl
  have hc:(lay c (k * 2+2) (cs.drop (k * 2))).length=c.length:=vv _ _ _ (by rw [zJ];omega)
  have ev:=Nu (P:=ds) (t:=282) (tx:=282) (o:=k * 2) (dl:=len+1 - k) (dc:=cap - k) (p:=0) (n:=1) (d:=1) (m:=1) AO g1 GZ (by show min 1 (len+1 - k)=1;omega) (by decide) (by simp only [];omega) (by rw [hc];simp only [];omega) (by rw [pX];exact cm)
  simp only at ev;rw [pX] at ev;simp only [ae,awW,vt,reduceCtorEq,uH,s1,bb,d1,cV,ay,d2,s2,D4,pY];refine aid amU Z9 Fi ?_;simp only [ae,vt,reduceCtorEq];refine aZ.bB none_ [8] (.q 0 (.q 1 (.q 2 (.q 3 (.q 4 (.q 5 (.q 6 (.q 7 (.a 8 .done))))))))) (by kernel_rfl) (by kernel_rfl) (by kernel_rfl) ?_
  simp only [ae,bM,vt,reduceCtorEq,D4,pY,uR,bd,ev,aS,axm,ac];refine ax ⟨.inr ⟨i,len+1,cap,_,ex,rfl,by rw [lW,fv];exact hi,aT,?_,?_,.inl ⟨hu,by rw [Fj];exact kt,uS⟩⟩,bJ.trans' (J.set _ _ _),.inl rfl⟩
  ·simp only [IS,q3,zJ,aj];omega
  ·rw [eC,←au8];exact List.take_left' (by simp only [IS,q3,zJ,aj];omega)
theorem insertC (v:V) (k j:Nat) (cs xs:List V) (h:I) (o:Own h 350 2 v cs) (aw:cs.length<2 ^ 40) (hk:k * 2≤cs.length) (aV:h.get j=.cells xs 350 none) (kZ:j<h.n) (j9:a8 v≠some j)
  (aj:xs.length=2) (cm:xs.all (·.one)=true) (AX:cs.all (·.one)=true):af ds 232 [v,.int .i64 (k:Nat),.bj j 0 1 1] h
   (fun r h'=>Own h' 350 2 r (cs.take (k * 2)++xs++cs.drop (k * 2))∧J h h' (a6 v)∧dm h v r):=by
 refine af.R7 o (by decide) (fun aH ay=>?_) fun i len cap c ex ad aH ok dp kk aG=>?_
 ·subst ay;obtain rfl:k=0:=by simp at hk;omega
  have nF:Own h 350 2 (.bj j 0 1 1) xs:=.inr ⟨j,1,1,xs,none,rfl,kZ,aV,by rw [aj],by rw [are (by omega)],.inl ⟨by unfold cj;omega,by omega,BY _⟩⟩
  have dR:=vJ (P:=ds) (t:=282) uH nF (n:=1) (by rw [aj]) (by decide) cm
  obtain ⟨v',h',fh,hq,my,gW⟩:=vI (P:=ds) (t:=282) (tx:=282) AO (by decide) o dR (by rw [aj];rfl) (fun m hm=>by
   change m * 2=_ at hm;rw [aj] at hm;simp only [avi] at hm;exact ⟨by simp only [lim];omega,by simp only [lim];omega⟩)
  obtain ⟨e,k2,bR⟩:=Il (P:=ds) x0;have bb:((1:Nat):Int)=1:=rfl;have mm:((0:Nat):Int)=0:=rfl;have fin:Own h' 350 2 v' (([]:List V).take (0 * 2)++xs++([]:List V).drop (0 * 2))∧J h h' (a6 v)∧dm h v v':=⟨by simpa using hq,my,gW⟩
  rcases aH with rfl | rfl
  ·have s1:nT ds 282 .ag (some (.int .i64 0)) none none=some .ag:=by unfold nT;rw [k2];simp only [bR];rfl
   refine af.au (c:=_) ayK rfl (by kernel_rfl) (by simp) ?_
   simp only [ae,awW,vt,reduceCtorEq,uH,mm,s1,bb,fh,aS,axm,ac];exact ax fin
  ·have s1:nT ds 282 .z0 (some (.int .i64 0)) none none=some .z0:=by unfold nT;rw [k2];simp only [bR];rfl
   refine af.au (c:=_) ayK rfl (by kernel_rfl) (by simp) ?_
   simp only [ae,awW,vt,reduceCtorEq,uH,mm,s1,bb,fh,aS,axm,ac];exact ax fin
 ·have Cr:a8 v=some i:=by rcases aH with rfl | rfl<;>rfl
  have cL:j≠i:=fun U=>j9 (by rw [Cr,U])
  have hlen:=ok.2.2.1;refine (aol i len cap k j c cs xs ex ad ok (by omega) (by omega) ((kk.get j kZ cL).trans aV) (by omega) cL aj cm AX).mono fun r h' ⟨o',k',rH⟩=>⟨o',(kk.trans' k').mono fun q ab=>by subst ab;exact Cr,?_⟩
  rcases rH with rH | rH
  ·exact .inl (by rw [rH,Cr];rfl)
  ·exact .inr fun q ab=>by have:=rH q ab;omega
abbrev eo:=Int×Int
def mS (l:List eo):Prop:=l.Pairwise fun a b=>a.1<b.1
def look:List eo→Int→Option Int
 | [],_=>none
 | p::r,k=>if p.1=k then some p.2 else look r k
def put:List eo→Int→Int→List eo
 | [],k,v=>[(k,v)]
 | p::r,k,v=>if p.1<k then p::put r k v else if p.1=k then (k,v)::r else (k,v)::p::r
def rm:List eo→Int→List eo
 | [],_=>[]
 | p::r,k=>if p.1=k then r else p::rm r k
def pos:List eo→Int→Nat
 | [],_=>0
 | p::r,k=>if p.1<k then pos r k+1 else 0
def has (l:List eo) (k:Int):Bool:=(look l k).isSome
theorem G0:∀ (l:List eo) (k:Int),pos l k≤l.length
 | [],_=>BY _
 | p::r,k=>by
  unfold pos;split
  ·have:=G0 r k;simp only [ave];omega
  ·exact Dc _
theorem aab:∀ (l:List eo) (k:Int) (t:Nat) (p:eo),t<pos l k→l[t]?=some p→p.1<k
 | [],_,t,p,h,_=>by simp [pos] at h
 | q::r,k,t,p,h,aU=>by
  unfold pos at h;split at h
  ·cases t with
   | zero=>simp at aU;subst aU;assumption
   | succ t=>exact aab r k t p (by omega) (by simpa using aU)
  ·omega
theorem aac:∀ {l:List eo},mS l→∀ (k:Int) (t:Nat) (p:eo),pos l k≤t→l[t]?=some p→k≤p.1
 | [],_,_,t,p,_,aU=>by simp at aU
 | q::r,aa,k,t,p,h,aU=>by
  have hy:=avf.1 aa;unfold pos at h;split at h
  ·cases t with
   | zero=>omega
   | succ t=>exact aac hy.2 k t p (by omega) (by simpa using aU)
  ·cases t with
   | zero=>simp at aU;subst aU;omega
   | succ t=>
    have:=hy.1 p (List.mem_of_getElem? (by simpa using aU))
    omega
theorem TD:∀ {l:List eo} {k:Int},(∀ p ∈ l,k<p.1)→look l k=none
 | [],_,_=>rfl
 | q::r,k,h=>by
  unfold look;rw [if_neg (by have:=h q (by simp);omega)]
  exact TD fun p aU=>h p (by simp [aU])
theorem oy:∀ {l:List eo},mS l→∀ (k:Int),(has l k=true∧∃ p,l[pos l k]?=some p∧p.1=k∧look l k=some p.2)∨(has l k=false∧look l k=none∧∀ p,l[pos l k]?=some p→k<p.1)
 | [],_,k=>.inr ⟨rfl,rfl,by simp⟩
 | q::r,aa,k=>by
  have hy:=avf.1 aa;unfold has pos;by_cases h1:q.1<k
  ·rw [if_pos h1];have:look (q::r) k=look r k:=by rw [look,if_neg (by omega)]
   rw [this];simpa [has] using oy hy.2 k
  ·rw [if_neg h1];by_cases ad:q.1=k
   ·exact .inl ⟨by simp [look,ad],q,by simp,ad,by simp [look,ad]⟩
   ·have:look (q::r) k=none:=TD fun p aU=>by
     rcases IN.1 aU with rfl | aU
     ·omega
     ·have:=hy.1 p aU;omega
    exact .inr ⟨by rw [this];rfl,this,fun p aU=>by simp at aU;subst aU;omega⟩
theorem Od:∀ {l:List eo},mS l→∀ (k v:Int),has l k=true→put l k v=l.set (pos l k) (k,v)
 | [],_,k,v,h=>by simp [has,look] at h
 | q::r,aa,k,v,h=>by
  have hy:=avf.1 aa;unfold put pos;by_cases h1:q.1<k
  ·rw [if_pos h1,if_pos h1,List.set_cons_succ,Od hy.2 k v];have:look (q::r) k=look r k:=by rw [look,if_neg (by omega)]
   rw [has,this] at h;exact h
  ·rw [if_neg h1,if_neg h1];by_cases ad:q.1=k
   ·rw [if_pos ad];rfl
   ·exfalso;have:look (q::r) k=none:=TD fun p aU=>by
     rcases IN.1 aU with rfl | aU
     ·omega
     ·have:=hy.1 p aU;omega
    rw [has,this] at h;cases h
theorem TE:∀ {l:List eo},mS l→∀ (k v:Int),has l k=false→put l k v=l.take (pos l k)++[(k,v)]++l.drop (pos l k)
 | [],_,k,v,h=>rfl
 | q::r,aa,k,v,h=>by
  have hy:=avf.1 aa;unfold put pos;by_cases h1:q.1<k
  ·rw [if_pos h1,if_pos h1,TE hy.2 k v]
   ·simp
   ·have:look (q::r) k=look r k:=by rw [look,if_neg (by omega)]
    rw [has,this] at h;exact h
  ·rw [if_neg h1,if_neg h1];by_cases ad:q.1=k
   ·simp [has,look,ad] at h
   ·rw [if_neg ad];simp
theorem aad:∀ {l:List eo} {k v:Int} {p:eo},p ∈ put l k v→p=(k,v)∨p ∈ l
 | [],k,v,p,h=>by simp [put] at h;exact .inl h
 | q::r,k,v,p,h=>by
  unfold put at h;split at h
  ·rcases IN.1 h with rfl | h
   ·exact .inr (by simp)
   ·rcases aad h with h | h
    ·exact .inl h
    ·exact .inr (by simp [h])
  ·split at h
   ·rcases IN.1 h with rfl | h
    ·exact .inl rfl
    ·exact .inr (by simp [h])
   ·rcases IN.1 h with rfl | h
    ·exact .inl rfl
    ·exact .inr h
theorem J4:∀ {l:List eo},mS l→∀ (k v:Int),mS (put l k v)
 | [],_,k,v=>by simp [put,mS]
 | q::r,aa,k,v=>by
  have hy:=avf.1 aa;unfold put;split
  ·refine avf.2 ⟨fun p aU=>?_,J4 hy.2 k v⟩;rcases aad aU with rfl | aU
   ·assumption
   ·exact hy.1 p aU
  ·split
   ·rename_i h1 ad;exact avf.2 ⟨fun p aU=>by have:=hy.1 p aU;simp only;omega,hy.2⟩
   ·refine avf.2 ⟨fun p aU=>?_,aa⟩;rcases IN.1 aU with rfl | aU
    ·simp only;omega
    ·have:=hy.1 p aU;simp only;omega
theorem Oe:∀ (l:List eo) (k v x:Int),mS l→look (put l k v) x=if x=k then some v else look l x
 | [],k,v,x,_=>by simp only [put,look];by_cases h:k=x<;>simp [h,eq_comm]
 | q::r,k,v,x,aa=>by
  have hy:=avf.1 aa;unfold put;by_cases h1:q.1<k
  ·rw [if_pos h1,look,look,Oe r k v x hy.2];by_cases ad:q.1=x
   ·rw [if_pos ad,if_neg (by omega),if_pos ad]
   ·rw [if_neg ad,if_neg ad]
  ·rw [if_neg h1];by_cases ad:q.1=k
   ·rw [if_pos ad,look,look];by_cases aD:x=k
    ·simp [aD]
    ·rw [if_neg (by simp only;omega),if_neg aD,if_neg (by omega)]
   ·rw [if_neg ad,look];by_cases aD:x=k
    ·simp [aD]
    ·rw [if_neg (by simp only;omega),if_neg aD]
theorem aae:∀ {l:List eo},mS l→∀ {p:eo},p ∈ l→look l p.1=some p.2
 | [],_,p,h=>by cases h
 | q::r,aa,p,h=>by
  have hy:=avf.1 aa;rcases IN.1 h with rfl | h
  ·simp [look]
  ·rw [look,if_neg (by have:=hy.1 p h;omega)]
   exact aae hy.2 h
theorem aaf:∀ {l:List eo} {k v:Int},look l k=some v→(k,v) ∈ l
 | [],_,_,h=>by cases h
 | q::r,k,v,h=>by
  unfold look at h;split at h
  ·rename_i ab;have:=Option.some.inj h;subst this;subst ab;simp
  ·simp [aaf h]
theorem aom:∀ {l:List eo},mS l→∀ (k v:Int),(put l k v).length=if has l k=true then l.length else l.length+1:=by
 intro l aa k v;cases h:has l k
 ·rw [TE aa k v h];have:=G0 l k;simp;omega
 ·rw [Od aa k v h];simp
structure aF where
 key:Int
 bg:Int
 to:Int
 val:Int
 del:Bool
 deriving DecidableEq
def bu (c:aF):List V:=[.int .i64 c.key,.int .i64 c.bg,.int .i64 c.to,.int .i64 c.val,.bool c.del]
theorem zf (r:aF):(bu r).length=5:=rfl
theorem aag (r:aF):(bu r).all (·.one)=true:=rfl
theorem TF (r:aF):a1 (bu r):=a1.cons (a7.int _ _) (a1.cons (a7.int _ _) (a1.cons (a7.int _ _) (a1.cons (a7.int _ _) (a1.cons (a7.bool _) a1.nil))))
theorem aon {l:List aF} {k:Nat} (hk:k<l.length) {kk:IntKind}:hG ds 52 (.ah l.length (l.flatMap bu)) (.int kk (k:Int))=some (.at (bu l[k]++(l.drop (k+1)).flatMap bu)):=sX zf hk Y2
def hQ (p:eo):List V:=[.int .i64 p.1,.int .i64 p.2]
theorem AY (p:eo):(hQ p).length=2:=rfl
theorem aah (p:eo):(hQ p).all (·.one)=true:=rfl
theorem aoo (l:List eo) (k:Nat) (p:eo) (hk:k<l.length):lay (l.flatMap hQ) (k * 2) (hQ p)=(l.set k p).flatMap hQ:=by
 unfold lay;rw [Nq AY,show k * 2+(hQ p).length=(k+1) * 2 by rw [AY];omega,BT AY,List.set_eq_take_append_cons_drop,if_pos hk]
 simp
structure fk (h:I) (i:Nat) (v:V) (room:Int) (l:List eo):Prop where
 lt:i<h.n
 get:h.get i=.cells [.int .i64 room,v] 284 none
 own:Own h 350 2 v (l.flatMap hQ)
 ne:a8 v≠some i
 mT:mS l
 len:(l.length:Int)≤room
 room:room≤1024
theorem fk.Fk {h:I} {i:Nat} {v:V} {room:Int} {l:List eo} (k:fk h i v room l):l.length≤1024:=by have:=k.len;have:=k.room;omega
theorem fk.rows {h:I} {i:Nat} {v:V} {room:Int} {l:List eo} (k:fk h i v room l):(l.flatMap hQ).length=l.length * 2:=gM AY l
theorem fk.ai {h h':I} {i:Nat} {v:V} {room:Int} {l:List eo} {own:Nat→Prop} (k:fk h i v room l) (hk:J h h' own) (h1:¬own i) (ad:∀ j,a8 v=some j→¬own j):fk h' i v room l :=
 ⟨MC k.lt hk.n,(hk.get i k.lt h1).trans k.get,k.own.ai hk ad,k.ne,k.mT,k.len,k.room⟩
theorem fk.br {h h':I} {i:Nat} {v:V} {room:Int} {l:List eo} (k:fk h i v room l) (hk:J h h' none_):fk h' i v room l:=k.ai hk (by simp [none_]) (by simp [none_])
theorem fk.Eb {h h':I} {i:Nat} {v:V} {room:Int} {l:List eo} (k:fk h i v room l):dS ds 282 v h'=some (.int .i64 (l.length:Nat)):=by
 have:=k.own.length (by decide) ds uH
 rw [k.rows,Nat.mul_div_cancel _ (by decide)] at this
 rw [←this];rcases k.own with ⟨rfl | rfl,_⟩ | ⟨j,n,c,_,_,rfl,_⟩
 ·rw [xC uH,xC uH]
 ·rw [y1 uH,y1 uH]
 ·rw [y0 uH,y0 uH]
theorem fk.row {h:I} {i:Nat} {v:V} {room:Int} {l:List eo} (k:fk h i v room l) {t:Nat} {p:eo} (aU:l[t]?=some p) :
  ∃ j nY cZ,(∀ kk,hG ds 282 v (.int kk (t:Int))=some (.ptr j (t * 2)))∧a8 v=some j∧j<h.n∧cP (h.get j) (t * 2)=some (.int .i64 p.1::.int .i64 p.2::nY)∧cP (h.get j) (t * 2+1)=some (.int .i64 p.2::cZ) ∧
   ∀ q:eo,∃ ob,bF (some 2) (h.get j) (t * 2) (hQ q)=some ob∧Own (h.set j ob) 350 2 v ((l.set t q).flatMap hQ)∧J h (h.set j ob) (a6 v):=by
 have bE:=(VX.1 aU).1;have bf:((l.flatMap hQ).drop (t * 2)).take 2=hQ p:=by
  rw [BT AY,show 2=1 * 2 from rfl,Nq AY,avk bE,(VX.1 aU).2]
  simp
 obtain ⟨j,cb,a2,a3,a4,a5⟩:=Xo (P:=ds) (t:=282) (kk:=.i64) x0 (by decide) k.own (k:=t) (by rw [k.rows];omega)
 obtain ⟨nY,aK⟩:=a4 h 0 rfl (by decide)
 obtain ⟨cZ,h1⟩:=a4 h 1 rfl (by decide)
 rw [bf] at aK h1;refine ⟨j,nY,cZ,fun kk=>?_,a2,a3,aK,h1,fun q=>?_⟩
 ·obtain ⟨jc,dK,b7,_⟩:=Xo (P:=ds) (t:=282) (kk:=kk) x0 (by decide) k.own (k:=t) (by rw [k.rows];omega)
  rw [a2] at b7;cases b7;exact dK
 ·obtain ⟨ob,bb,bt,c3⟩:=a5 (hQ q) (AY q) (aah q);rw [aoo l t q bE] at bt;exact ⟨ob,bb,bt,c3⟩
theorem aop (h:I) (i a b t:Nat) (v:V) (room key:Int) (l:List eo) (p:eo) (k:fk h i v room l) (aP:h.get a=.cells [.ptr i 0] 256 none) (al:h.get b=.cells [.int .i64 key] 2 none) (aU:l[t]?=some p) :
  Pure ds 244 [.int .i64 (t:Nat),.ptr a 0,.ptr b 0] h (.bool (decide (key≤p.1))):=by
 refine af.au (c:=_) Tryz.func244 rfl (by kernel_rfl) (by simp) ?_
 obtain ⟨j,nY,cZ,cy,_,_,eN,_⟩:=k.row aU;have az:=k.get;have cy:=cy .i64;simp only [ae];refine aZ.bB none_ [] (.q 0 (.q 1 (.q 2 (.q 3 (.q 4 (.q 5 (.q 6 (.q 7 (.q 8 (.q 9 (.q 10 .done))))))))))) (by kernel_rfl) (by kernel_rfl) (by kernel_rfl) ?_
 simp only [ae,bM,vt,AS,By,reduceCtorEq,xY,NL,du,Jo,za,aP,al,az,cy,eN,aS,Tryz.results244,ac];exact ax ⟨rfl,rfl⟩
theorem aai (h:I) (i:Nat) (v:V) (room key:Int) (l:List eo) (k:fk h i v room l) :
  Pure ds 229 [.ptr i 0,.int .i64 key] h (.tuple [.int .i64 (pos l key:Nat),.bool (has l key)]):=by
 refine Pure.val (a7.tuple (a1.cons (a7.int _ _) (a1.cons (a7.bool _) a1.nil))) ?_;refine af.au (c:=_) Tryz.func229 rfl (by kernel_rfl) (by simp) ?_
 obtain ⟨H,hH⟩:∃ y,y=(h.push (.cells [.ptr i 0] 256 none)).push (.cells [.int .i64 key] 2 none):=⟨_,rfl⟩;have g0:H.get h.n=.cells [.ptr i 0] 256 none:=by rw [hH];exact xD
 have g1:H.get (h.n+1)=.cells [.int .i64 key] 2 none:=by rw [hH];exact y5
 have bw:J h H none_:=by rw [hH];exact (J.push _ _ _).bH _
 have kk:=k.br bw;have az:=kk.get;simp only [ae,vt,xY,SP,Jo,za];rw [←hH];clear hH;have aw:=kk.Eb (h':=H);simp only [ae,vt,AS,By,az,aw];refine bW al0 (aoi l.length _ _ (fun t=>match l[t]? with | some p=>decide (key≤p.1) | none=>true) H (by have:=k.Fk;omega) al1 (fun t bE=>?_) (pos l key) (G0 l key) (fun t bE=>?_) (fun t h1 ad=>?_)) ?_
 ·have aU:l[t]?=some l[t]:=ME bE;rw [aU];exact aop H i h.n (h.n+1) t v room key l l[t] kk g0 g1 aU
 ·cases aU:l[t]? with
  | none=>have:=G0 l key;rw [List.getElem?_eq_none_iff] at aU;omega
  | some p=>have:=aab l key t p bE aU;simp only [decide_eq_false_iff_not];omega
 ·cases aU:l[t]? with
  | none=>rfl
  | some p=>have:=aac k.mT key t p h1 aU;simp only [decide_eq_true_eq];exact this
 have aoq:=G0 l key;rcases oy k.mT key with ⟨aC,p,bd,ev,jr⟩ | ⟨aC,bd,ev⟩
 ·obtain ⟨j,nY,cZ,cy,_,_,eN,_⟩:=kk.row bd;have cy:=cy .i64;have aM:=(VX.1 bd).1;have d1:decide (((pos l key:Nat):Int)<((l.length:Nat):Int))=true:=decide_eq_true (by omega)
  have d2:(p.1==key)=true:=by simp [ev]
  simp only [ae,vt];refine aZ.bB none_ [] (.q 0 (.q 1 (.q 2 (.q 3 (.q 4 (.q 5 (.q 6 (.q 7 (.q 8 (.q 9 (.q 10 (.q 11 (.q 12 (.q 13 (.q 14 (.q 15 (.q 16 (.q 17 (.q 18 (.q 19 (.q 20 (.q 21 .done)))))))))))))))))))))) (by kernel_rfl) (by kernel_rfl) (by kernel_rfl) ?_
  simp only [ae,bM,vt,AS,By,xY,NL,du,Jo,za,g0,g1,az,aw,d1,cy,eN,d2,aS,ayL,c9];exact ax ⟨by rw [aC],bw⟩
 ·by_cases aM:pos l key<l.length
  ·have aU:l[pos l key]?=some l[pos l key]:=ME aM;obtain ⟨j,nY,cZ,cy,_,_,eN,_⟩:=kk.row aU;have cy:=cy .i64;have d1:decide (((pos l key:Nat):Int)<((l.length:Nat):Int))=true:=decide_eq_true (by omega)
   have d2:(l[pos l key].1==key)=false:=by have:=ev _ aU;simp;omega
   simp only [ae,vt];refine aZ.bB none_ [] (.q 0 (.q 1 (.q 2 (.q 3 (.q 4 (.q 5 (.q 6 (.q 7 (.q 8 (.q 9 (.q 10 (.q 11 (.q 12 (.q 13 (.q 14 (.q 15 (.q 16 (.q 17 (.q 18 (.q 19 (.q 20 (.q 21 .done)))))))))))))))))))))) (by kernel_rfl) (by kernel_rfl) (by kernel_rfl) ?_
   simp only [ae,bM,vt,AS,By,xY,NL,du,Jo,za,g0,g1,az,aw,d1,cy,eN,d2,aS,ayL,c9];exact ax ⟨by rw [aC],bw⟩
  ·have d1:decide (((pos l key:Nat):Int)<((l.length:Nat):Int))=false:=decide_eq_false (by omega)
   simp only [ae,vt];refine aZ.bB none_ [] (.q 0 (.q 1 (.q 2 (.q 3 (.q 4 (.q 5 (.q 6 (.q 7 (.q 8 (.q 9 (.q 10 (.q 11 (.q 12 (.q 13 (.q 14 (.q 15 (.q 16 (.q 17 (.q 18 (.q 19 (.q 20 (.q 21 .done)))))))))))))))))))))) (by kernel_rfl) (by kernel_rfl) (by kernel_rfl) ?_
   simp only [ae,bM,vt,AS,By,xY,Jo,za,g0,az,aw,d1,aS,ayL,c9];exact ax ⟨by rw [aC],bw⟩
theorem aaj (p:eo) (h:I):Pure ds 233 [.agg (hQ p)] h (.agg (bu ⟨p.1,0,0,p.2,false⟩)):=by
 refine Pure.val (a7.agg (TF _)) ?_;refine af.au (c:=_) Tryz.func233 rfl (by kernel_rfl) (by simp) ?_
 have ay:(V.agg (hQ p)).cells=some [.int .i64 p.1,.int .i64 p.2]:=rfl;simp only [ae,vt,AS,By,NL,YG,vN,du,wd,Cb,AP,ay,aS,Tryz.results233,vH,fB];exact ax ⟨rfl,(J.push _ _ _).bH _⟩
def aak:aF:=⟨0,0,0,0,false⟩
def full (room:Int) (l:List eo) (k:Int):Bool:=!has l k&&decide (room≤(l.length:Int))
def lE (room:Int) (l:List eo) (k v:Int):List eo:=if full room l k then l else put l k v
def jd (room:Int) (l:List eo) (k v:Int):aF:=if full room l k then aak else ⟨k,0,0,v,false⟩
def oz (room:Int) (l:List eo) (k:Int):Int:=if full room l k then 3 else 0
theorem aor {room:Int} {l:List eo} {k:Int} (h:has l k=true):full room l k=false:=by simp [full,h]
theorem aos {room:Int} {l:List eo} {k:Int} (h:has l k=false):full room l k=decide (room≤(l.length:Int)):=by simp [full,h]
def Cs (i:Nat) (v:V):Nat→Prop:=fun q=>q=i∨a6 v q
theorem aot (h:I) (p:eo):ie ds 282 1 [(0,.agg (hQ p))] h=some (.bj h.n 0 1 1,h.push (.cells (hQ p) 350 none)):=Wy AO rfl rfl (by decide)
theorem aou (h:I) (i:Nat) (v:V) (room key val:Int) (l:List eo) (k:fk h i v room l) :
  af ds 215 [.ptr i 0,.int .i64 key,.int .i64 val] h (fun r h'=>∃ v',r=.tuple [.agg (bu (jd room l key val)),.int .i64 (oz room l key)]∧fk h' i v' room (lE room l key val)∧J h h' (Cs i v)∧dm h v v'):=by
 refine af.au (c:=_) Tryz.func215 rfl (by kernel_rfl) (by simp) ?_
 obtain ⟨H,hH⟩:∃ y,y=(h.push (.cells [.int .i64 0,.int .i64 0,.int .i64 0,.int .i64 0,.bool false] 110 none)).push (.cells [.int .i64 key,.int .i64 val] 350 none):=⟨_,rfl⟩;have g0:H.get h.n=.cells [.int .i64 0,.int .i64 0,.int .i64 0,.int .i64 0,.bool false] 110 none:=by rw [hH];exact xD
 have g1:H.get (h.n+1)=.cells [.int .i64 key,.int .i64 val] 350 none:=by rw [hH];exact y5
 have bw:J h H none_:=by rw [hH];exact (J.push _ _ _).bH _
 have ju:H.n=h.n+2:=by rw [hH];rfl
 have kk:=k.br bw;have az:=kk.get;have cU:=k.lt;simp only [ae,vt,AS,By,reduceCtorEq,am8,Cb,anr,Zb];rw [←hH];clear hH;refine bW X7 (aai H i v room key l kk) ?_;have aw:=kk.Eb (h':=H);rcases oy k.mT key with ⟨aC,p,bd,ev,jr⟩ | ⟨aC,bd,ev⟩
 ·have av:=aor (room:=room) aC;have bb:jd room l key val=⟨key,0,0,val,false⟩:=by simp [jd,av]
  have bt:oz room l key=0:=by simp [oz,av]
  have c3:lE room l key val=l.set (pos l key) (key,val):=by rw [lE,av];exact Od k.mT key val aC
  rw [bb,bt,c3];obtain ⟨j,nY,cZ,cy,eN,J5,_,_,aov⟩:=kk.row bd;have cy:=cy .i64;obtain ⟨ob,Ct,aow,y3⟩:=aov (key,val);unfold hQ at Ct;have j9:j≠i:=fun U=>kk.ne (by rw [eN,U])
  have auf:j<h.n:=k.own.lt j eN;have z0:(H.set j ob).get h.n=_:=(np (by omega)).trans g0
  have J6:(H.set j ob).get (h.n+1)=_:=(np (by omega)).trans g1
  simp only [ae,vt,aC];refine aZ.bB none_ [7] (.q 0 (.q 1 (.q 2 (.q 3 (.q 4 (.q 5 (.q 6 (.a 7 .done)))))))) (by kernel_rfl) (by kernel_rfl) (by kernel_rfl) ?_
  simp only [ae,bM,vt,AS,By,reduceCtorEq,xY,za,SU,Zb,g1,az,cy,Ct,J6];refine bW X8 (aaj (key,val) _) ?_;have kt:(V.agg (bu ⟨key,0,0,val,false⟩)).cells=some [.int .i64 key,.int .i64 0,.int .i64 0,.int .i64 val,.bool false]:=rfl;simp only [ae,vt,AS,vN,AP,z0,kt,aS,ayM,iy,ij,fB,ix];have Cu:J (H.set j ob) ((H.set j ob).set h.n (.cells [.int .i64 key,.int .i64 0,.int .i64 0,.int .i64 val,.bool false] 110 none)) (fun q=>q=h.n):=J.set _ _ _;have kw:J H (H.set j ob) (fun q=>q=j):=J.set _ _ _;refine ax ⟨v,rfl,⟨by rw [lW,lW];exact kk.lt,?_,aow.ai Cu fun q ab=>by rw [eN] at ab;cases ab;omega,k.ne,?_,by rw [List.length_set];exact k.len,k.room⟩,?_,.inl rfl⟩
  ·rw [np (by omega),np (by omega)];exact az
  ·rw [←Od k.mT key val aC];exact J4 k.mT _ _
  ·refine ((bw.up (o:=Cs i v)).trans kw fun q ab U=>.inr ?_).trans Cu fun q ab U=>by omega
   subst U;exact eN
 ·have av:=aos (room:=room) aC;by_cases xc:room≤(l.length:Int)
  ·have av:full room l key=true:=by rw [av];exact decide_eq_true xc
   have bb:jd room l key val=aak:=by simp [jd,av]
   have bt:oz room l key=3:=by simp [oz,av]
   have c3:lE room l key val=l:=by simp [lE,av]
   rw [bb,bt,c3];have d1:decide (room≤((l.length:Nat):Int))=true:=decide_eq_true xc;simp only [ae,vt,aC];refine aZ.bB none_ [] (.q 0 (.q 1 (.q 2 (.q 3 (.q 4 (.q 5 (.q 6 (.q 7 (.q 8 (.q 9 (.q 10 (.q 11 (.q 12 (.q 13 (.q 14 .done))))))))))))))) (by kernel_rfl) (by kernel_rfl) (by kernel_rfl) ?_
   simp only [ae,bM,vt,AS,By,reduceCtorEq,YE,xY,SP,vN,za,aW,wd,Cb,AP,g0,az,aw,d1,aS,ayM,iy,ij,fB,ix];have Cu:J H (H.set h.n (.cells [.int .i64 0,.int .i64 0,.int .i64 0,.int .i64 0,.bool false] 110 none)) (fun q=>q=h.n):=J.set _ _ _;refine ax ⟨v,rfl,kk.ai Cu (by omega) fun q ab=>by have:=k.own.lt q ab;omega,?_,.inl rfl⟩
   exact (bw.up (o:=Cs i v)).trans Cu fun q ab U=>by omega
  ·have av:full room l key=false:=by rw [av];exact decide_eq_false xc
   have bb:jd room l key val=⟨key,0,0,val,false⟩:=by simp [jd,av]
   have bt:oz room l key=0:=by simp [oz,av]
   have c3:lE room l key val=put l key val:=by simp [lE,av]
   rw [bb,bt,c3];have d1:decide (room≤((l.length:Nat):Int))=false:=decide_eq_false xc;simp only [ae,vt,aC];refine aZ.bB none_ [] (.q 0 (.q 1 (.q 2 (.q 3 (.q 4 (.q 5 (.q 6 (.q 7 (.q 8 (.q 9 (.q 10 (.q 11 (.q 12 (.q 13 (.q 14 .done))))))))))))))) (by kernel_rfl) (by kernel_rfl) (by kernel_rfl) ?_
   simp only [ae,bM,vt,AS,By,reduceCtorEq,YE,xY,SP,za,aW,az,aw,d1];have f1:a6 v i=False:=eq_false fun U=>k.ne U;have f2:a6 v (h.n+1)=False:=eq_false fun U=>by have:=k.own.lt _ U;omega
   obtain ⟨bK,bs⟩:∃ y,y=H.push (.cells (hQ (key,val)) 350 none):=⟨_,rfl⟩;have ba:J H bK none_:=by rw [bs];exact J.push _ _ _
   have dy:bK.n=H.n+1:=by rw [bs];rfl
   have dT:bK.get H.n=.cells (hQ (key,val)) 350 none:=by rw [bs];exact ck
   have da:=kk.br ba;have qx:=aot H (key,val);rw [←bs] at qx;unfold hQ at qx;refine aZ.bB (fun x=>a6 v x) [7,8,11] (.q 0 (.q 1 (.q 2 (.q 3 (.q 4 (.q 5 (.q 6 (.e 7 (.e 8 (.q 9 (.q 10 (.a 11 .done))) .stop) .stop)))))))) (by kernel_rfl) (by kernel_rfl) (by kernel_rfl) ?_
   simp only [ae,bM,eH,vt,AS,By,reduceCtorEq,xY,za,SU,g1,az,f1,f2,qx];refine ⟨ba.up,?_⟩;refine cB alZ (insertC v (pos l key) H.n (l.flatMap hQ) (hQ (key,val)) bK da.own (by rw [k.rows];have:=k.Fk;omega) (by rw [k.rows];have:=G0 l key;omega) dT (by omega) (fun U=>by have:=k.own.lt _ U;omega) rfl rfl (Xc aah l)) fun r aD ⟨pA,b2,d3⟩=>?_
   have tK:(l.flatMap hQ).take (pos l key * 2)++hQ (key,val)++(l.flatMap hQ).drop (pos l key * 2)=(put l key val).flatMap hQ:=by
    rw [Nq AY,BT AY,TE k.mT key val aC];simp
   rw [tK] at pA;have aal:=(b2.get i (by omega) (by rw [f1];exact id)).trans da.get
   have J7:=(b2.get h.n (by omega) (fun U=>by have:=k.own.lt _ U;omega)).trans ((ba.get h.n (by omega) (by simp [none_])).trans g0)
   have g13:=(b2.get (h.n+1) (by omega) (by rw [f2];exact id)).trans ((ba.get (h.n+1) (by omega) (by simp [none_])).trans g1)
   have qy:r.one=true:=by
    rcases pA with ⟨rfl | rfl,_⟩ | ⟨_,_,_,_,_,rfl,_⟩<;>rfl
   have oA:r.cells=some [r]:=by
    rcases pA with ⟨rfl | rfl,_⟩ | ⟨_,_,_,_,_,rfl,_⟩<;>rfl
   have dV:bF (some 1) (aO.cells [V.int .i64 room,v] 284 none) 1 [r]=some (.cells [.int .i64 room,r] 284 none):=by rw [rU qy];rfl
   have PY:J H aD (fun x=>a6 v x):=(ba.up).trans' b2;have n3:=b2.n;simp only [ae,bM,eH,vt,xY,SU,anC,aal,oA,dV,PY];obtain ⟨hY,iq⟩:∃ y,y=aD.set i (.cells [V.int .i64 room,r] 284 none):=⟨_,rfl⟩;have db:J aD hY (fun q=>q=i):=by rw [iq];exact J.set _ _ _
   have z0:hY.get h.n=_:=(db.get h.n (by omega) (by omega)).trans J7
   have J6:hY.get (h.n+1)=_:=(db.get (h.n+1) (by omega) (by omega)).trans g13
   have aox:hY.get i=.cells [.int .i64 room,r] 284 none:=by rw [iq];exact aT
   have n4:hY.n=aD.n:=by rw [iq];rfl
   have nD:a8 r≠some i:=fun U=>by
    rcases d3 with d3 | d3
    ·rw [d3] at U;exact k.ne U
    ·have:=d3 i U;omega
   have Cv:Own hY 350 2 r ((put l key val).flatMap hQ):=pA.ai db fun q ab U=>nD (by rw [ab,U])
   rw [←iq];clear iq;simp only [ae,vt,AS,J6];refine bW X8 (aaj (key,val) _) ?_;have kt:(V.agg (bu ⟨key,0,0,val,false⟩)).cells=some [.int .i64 key,.int .i64 0,.int .i64 0,.int .i64 val,.bool false]:=rfl;simp only [ae,vt,AS,vN,AP,z0,kt,aS,ayM,iy,ij,fB,ix];have Cu:J hY (hY.set h.n (.cells [.int .i64 key,.int .i64 0,.int .i64 0,.int .i64 val,.bool false] 110 none)) (fun q=>q=h.n):=J.set _ _ _;have mK:∀ q,a8 r=some q→q≠h.n:=fun q ab U=>by
    rcases d3 with d3 | d3
    ·rw [d3] at ab;have:=k.own.lt q ab;omega
    ·have:=d3 q ab;omega
   refine ax ⟨r,rfl,⟨by rw [lW];omega,?_,Cv.ai Cu fun q ab=>mK q ab,nD,J4 k.mT _ _,?_,k.room⟩,?_,?_⟩
   ·rw [np (by omega)];exact aox
   ·rw [aom k.mT,if_neg (by rw [aC];simp)];omega
   ·refine (((bw.up (o:=Cs i v)).trans PY fun q ab U=>.inr U).trans db fun q ab U=>.inl U).trans Cu fun q ab U=>by omega
   ·rcases d3 with d3 | d3
    ·exact .inl d3
    ·exact .inr fun q ab=>by have:=d3 q ab;omega
theorem aam (h:I) (i:Nat) (v:V) (room key:Int) (l:List eo) (k:fk h i v room l) :
  Pure ds 212 [.ptr i 0,.int .i64 key] h (.tuple [.int .i64 ((look l key).getD 0),.bool (has l key)]):=by
 refine af.au (c:=_) Tryz.func212 rfl (by kernel_rfl) (by simp) ?_
 have az:=k.get;simp only [ae,vt,reduceCtorEq];refine bW X7 (aai h i v room key l k) ?_;rcases oy k.mT key with ⟨aC,p,bd,ev,jr⟩ | ⟨aC,bd,ev⟩
 ·obtain ⟨j,nY,cZ,cy,_,_,_,eN,_⟩:=k.row bd;have cy:=cy .i64;simp only [ae,vt,AS,By,reduceCtorEq,xY,YG,du,za,aC,az,cy,eN,aS,aA5,c9];exact ax ⟨by rw [jr,aC];rfl,rfl⟩
 ·simp only [ae,vt,aC,aS,aA5,c9];exact ax ⟨by rw [bd,aC];rfl,rfl⟩
theorem aoy (h:I) (c:aF):ie ds 52 1 [(0,.agg (bu c))] h=some (.bj h.n 0 1 1,h.push (.cells (bu c) 110 none)):=Wy NX rfl rfl (by decide)
theorem dm.later {h H:I} {v v':V} (d:dm H v v') (aG:h.n≤H.n):dm h v v':=by
 rcases d with d | d
 ·exact .inl d
 ·exact .inr fun q ab=>OF aG (d q ab)
theorem aoz (h:I) (room:Int) (h1:1≤room) (ad:room≤1024):af ds 147 [.int .i64 room] h (fun r h'=>r=.tuple [.ptr h.n 0,.int .i64 0]∧fk h' h.n .ag room []∧J h h' none_):=by
 refine af.au (c:=_) Tryz.func147 rfl (by kernel_rfl) (by simp) ?_
 have d1:decide (room<1)=false:=decide_eq_false (by omega)
 have d2:decide (1024<room)=false:=decide_eq_false (by omega)
 simp only [ae,vt,AS,By,reduceCtorEq,am7,anq,d1,d2,aS,Tryz.results147,c9];exact ax ⟨rfl,⟨by rw [dq];omega,ck,.inl ⟨.inl rfl,rfl⟩,by simp [a8],List.Pairwise.nil,by simp;omega,ad⟩,J.push _ _ _⟩
structure Rec where
 k:Int
 v:Int
 t:Int
 deriving DecidableEq
def aI (r:Rec):List V:=[.int .i64 r.k,.int .i64 r.v,.int .i64 r.t]
theorem zg (r:Rec):(aI r).length=3:=rfl
theorem aoA (r:Rec):(aI r).all (·.one)=true:=rfl
theorem J8 (r:Rec):a1 (aI r):=a1.cons (a7.int _ _) (a1.cons (a7.int _ _) (a1.cons (a7.int _ _) a1.nil))
structure bD where
 kind:Int
 bc:List Int
 e:b4
 n:Int
def an (v:bD):List V:=[.int .i64 v.kind,.ah v.bc.length (ar v.bc)]++aE v.e++[.int .i64 v.n]
theorem ki (v:bD):(an v).length=6:=by simp [an,qv]
theorem aoB (v:bD):a1 (an v) :=
 ((a1.cons (a7.int _ _) (a1.cons (a7.ah (wV _)) a1.nil)).append (Tf v.e)).append (a1.cons (a7.int _ _) a1.nil)
structure vS (h:I) (a:Nat) (i:Nat) (v:V) (e:b4) (n:Int) (l:List eo):Prop where
 lt:a<h.n
 get:h.get a=.cells (aE e++[.int .i64 n,.iface 256 (.ptr i 0)]) 218 none
 kv:fk h i v 1024 l
 ne:a≠i
 aan:a8 v≠some a
theorem aoC (x:bD) (aj:x.kind=6) (h:I):af ds 113 [.agg (an x)] h (fun r h'=>∃ i,r=.tuple [.iface 256 (.ptr i 0),.int .i64 0]∧h.n≤i∧fk h' i .ag 1024 []∧J h h' none_):=by
 refine af.au (c:=_) Tryz.func113 rfl (by kernel_rfl) (by simp) ?_
 obtain ⟨er,bg,⟨o,m,aQ⟩,n⟩:=x;have aj:er=6:=aj;subst aj;have aj:an ⟨6,bg,.mk o m aQ,n⟩=[.int .i64 6,.ah bg.length (ar bg),.int .i64 o,.int .i64 m,.ah aQ.length (aQ.flatMap aE),.int .i64 n]:=by simp [an,nu]
 rw [aj];have hk:J h (h.push (.cells [.int .i64 6,.ah bg.length (ar bg),.int .i64 o,.int .i64 m,.ah aQ.length (aQ.flatMap aE),.int .i64 n] 68 none)) none_:=J.push _ _ _;simp only [ae,vt,AS,hd,aW];refine cB alI (aoz _ 1024 (by decide) (by decide)) fun r h1 ⟨aC,bJ,pr⟩=>?_
 subst aC;simp only [ae,vt,Ok,aS,Tryz.results113,c9];exact ax ⟨_,rfl,by omega,bJ,hk.trans' pr⟩
mutual
theorem TG:(e:b4)→∀ b ∈ cS e,b<256
 | .mk o n l=>fun b al=>by
  rw [cS] at al;simp only [avs] at al;rcases al with (al | al) | al
  ·exact zc _ _ (BY _) b al
  ·split at al
   ·exact zc _ _ (BY _) b al
   ·cases al
  ·exact aao l b al
theorem aao:(l:List b4)→∀ b ∈ Cf l,b<256
 | []=>fun b al=>by rw [Cf] at al;cases al
 | k::r=>fun b al=>by
  rw [Cf] at al;rcases avs.1 al with al | al
  ·exact TG k b al
  ·exact aao r b al
end
theorem Ec (i:Nat):d6 ds (.iface 256 (.ptr i 0)) 256 true=some (.tuple [.ptr i 0,.bool true]):=by
 unfold d6;rw [Tryz.underlying256];rfl
theorem aap (t:Int) (h:I):Pure ds 196 [.int .i64 t] h (.bool (decide (0≤t∧t≤1099511627776))):=by
 refine af.au (c:=_) Tryz.func196 rfl (by kernel_rfl) (by simp) ?_
 by_cases h1:0≤t
 ·have d1:decide (0≤t)=true:=decide_eq_true h1;by_cases ad:t≤1099511627776
  ·have d2:decide (t≤1099511627776)=true:=decide_eq_true ad;simp only [ae,vt,reduceCtorEq,d1,d2,aS,ayO,ac];exact ax ⟨by rw [decide_eq_true (⟨h1,ad⟩:0≤t∧t≤1099511627776)],rfl⟩
  ·have d2:decide (t≤1099511627776)=false:=decide_eq_false ad;simp only [ae,vt,reduceCtorEq,d1,d2,aS,ayO,ac];exact ax ⟨by rw [decide_eq_false (fun q:0≤t∧t≤1099511627776=>ad q.2)],rfl⟩
 ·have d1:decide (0≤t)=false:=decide_eq_false h1;simp only [ae,vt,reduceCtorEq,d1,aS,ayO,ac];exact ax ⟨by rw [decide_eq_false (fun q:0≤t∧t≤1099511627776=>h1 q.1)],rfl⟩
theorem aoD {h:I} {i:Nat} {v:V} {room:Int} {l:List eo} (k:fk h i v room l) (r:Rec):Pure ds 198 [.iface 256 (.ptr i 0),.agg (aI r)] h (.int .i64 ((look l r.k).getD 0)):=by
 refine Pure.val (a7.int _ _) ?_;obtain ⟨cF,rv,rt⟩:=r;refine af.au (c:=_) Tryz.func198 rfl (by kernel_rfl) (by simp) ?_
 unfold aI;have kk:J h (h.push (.cells [.int .i64 cF,.int .i64 rv,.int .i64 rt] 45 none)) none_:=J.push _ _ _;simp only [ae,vt,AS,reduceCtorEq,B4,du,Ec];refine bW X6 (aam _ i v room cF l (k.br kk)) ?_;simp only [ae,vt,aS,Tryz.results198,ac];exact ax ⟨rfl,kk⟩
theorem aoE {h:I} {i:Nat} {v:V} {room:Int} {l:List eo} (k:fk h i v room l) (key:Int):Pure ds 202 [.iface 256 (.ptr i 0),.int .i64 key] h (.int .i64 ((look l key).getD 0)):=by
 refine af.au (c:=_) Tryz.func202 rfl (by kernel_rfl) (by simp) ?_
 simp only [ae,vt,reduceCtorEq,Ec];refine bW X6 (aam _ i v room key l k) ?_;simp only [ae,vt,aS,Tryz.results202,ac];exact ax ⟨rfl,rfl⟩
theorem TH (h:I) (c:aF):ie ds 52 1 [(0,.agg (bu c))] h=some (.bj h.n 0 1 1,h.push (.cells (bu c) 110 none)):=by rw [lY NX];rfl
theorem aoF {h:I} {i:Nat} {v:V} {room:Int} {l:List eo} (k:fk h i v room l) (r:Rec) (n:Int) :
  af ds 199 [.iface 256 (.ptr i 0),.agg (aI r),.int .i64 n] h (fun q h'=>∃ v' j,q=.tuple [.bj j 0 1 1,.int .i64 r.t,.int .i64 (oz room l r.k)]∧fk h' i v' room (lE room l r.k n)∧J h h' (Cs i v)∧dm h v v' ∧
   Own h' 110 5 (.bj j 0 1 1) (bu (jd room l r.k n))∧h.n≤j∧j≠i∧a8 v'≠some j):=by
 obtain ⟨cF,rv,rt⟩:=r;refine af.au (c:=_) Tryz.func199 rfl (by kernel_rfl) (by simp) ?_
 unfold aI;obtain ⟨H,hH⟩:∃ y,y=h.push (.cells [.int .i64 cF,.int .i64 rv,.int .i64 rt] 45 none):=⟨_,rfl⟩;have gz:J h H none_:=by rw [hH];exact J.push _ _ _
 have g0:H.get h.n=.cells [.int .i64 cF,.int .i64 rv,.int .i64 rt] 45 none:=by rw [hH];exact ck
 have ot:H.n=h.n+1:=by rw [hH];rfl
 simp only [ae,vt,AS,reduceCtorEq,B4,du,Ec];rw [←hH];clear hH;refine cB alW (aou H i v room cF n l (k.br gz)) fun q h1 ⟨v1,aC,bJ,pr,d1⟩=>?_;subst aC;have aM:=k.lt;have g1:=(pr.get h.n (by omega) (by
  rintro (U | U)
  ·omega
  ·have:=k.own.lt _ U;omega)).trans g0
 have cc:∀ c:aF,(V.agg (bu c)).cells=some (bu c):=fun _=>rfl;have st:∀ c:aF,bF (some 5) (aO.cells [V.int .i64 0,V.int .i64 0,V.int .i64 0,V.int .i64 0,V.bool false] 110 none) 0 (bu c)=some (.cells (bu c) 110 none):=fun _=>rfl;obtain ⟨bK,bs⟩:∃ y,y=h1.push (.cells (bu (jd room l cF n)) 110 none):=⟨_,rfl⟩;have ba:J h1 bK none_:=by rw [bs];exact J.push _ _ _
 have g2:bK.get h1.n=.cells (bu (jd room l cF n)) 110 none:=by rw [bs];exact ck
 have g3:=(ba.get h.n (by have:=pr.n;omega) (by simp [none_])).trans g1
 have dy:bK.n=h1.n+1:=by rw [bs];rfl
 simp only [ae,vt,Cb,AP,cc,st];rw [←bs];clear bs;have hc:=TH bK (jd room l cF n);have ld:cO (some (some 5)) (some (bu (jd room l cF n)))=some (.agg (bu (jd room l cF n))):=rfl;have d0:cP (.cells (bu (jd room l cF n)) 110 none) 0=some (bu (jd room l cF n)):=rfl;generalize zb:bu (jd room l cF n)=C at *;refine aZ.bB none_ [1] (.q 0 (.q 2 (.q 3 (.q 4 (.e 1 (.q 5 (.q 6 (.q 7 .done))) .stop))))) (by kernel_rfl) (by kernel_rfl) (by kernel_rfl) ?_
 simp only [ae,bM,vt,AS,By,AG,vN,du,g2,g3,hc,ld,d0,aS,Tryz.results199,Aq];have b2:J bK (bK.push (.cells C 110 none)) none_:=J.push _ _ _;have wA:=pr.n;have aaq:C.length=5:=by rw [←zb];rfl
 refine ax ⟨v1,bK.n,rfl,(bJ.br ba).br b2,?_,dm.later d1 (by omega),Own.eZ _ 1 aaq (by decide),by omega,by omega,fun U=>?_⟩
 ·exact ((gz.up).trans' pr).trans' ((ba.trans' b2).up)
 ·have:=bJ.own.lt _ U;omega
def mU (t:Int):Bool:=decide (0≤t∧t≤1099511627776)
theorem vS.ai {h h':I} {a i:Nat} {v:V} {e:b4} {n:Int} {l:List eo} {own:Nat→Prop} (s:vS h a i v e n l) (hk:J h h' own) (aK:¬own a) (h1:¬own i) (ad:∀ j,a8 v=some j→¬own j):vS h' a i v e n l :=
 ⟨MC s.lt hk.n,(hk.get a s.lt aK).trans s.get,s.kv.ai hk h1 ad,s.ne,s.aan⟩
theorem vS.br {h h':I} {a i:Nat} {v:V} {e:b4} {n:Int} {l:List eo} (s:vS h a i v e n l) (hk:J h h' none_):vS h' a i v e n l:=s.ai hk (by simp [none_]) (by simp [none_]) (by simp [none_])
end Go.Proofs.YtemdgidnhgcafaaGreatDoor.Pk
