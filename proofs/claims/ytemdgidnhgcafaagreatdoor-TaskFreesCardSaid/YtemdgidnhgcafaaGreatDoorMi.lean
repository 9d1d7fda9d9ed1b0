/-
  What functions of the program do, told of abstract states. Conditions: as each theorem says.
-/
import Derived.Test.YtemdgidnhgcafaaGreatDoorMh
import Derived.Test.YtemdgidnhgcafaaGreatDoorMg
import Derived.Test.YtemdgidnhgcafaaGreatDoorMe
import Derived.Test.YtemdgidnhgcafaaGreatDoorMd
import Derived.Test.YtemdgidnhgcafaaGreatDoorAbD
import Derived.Test.YtemdgidnhgcafaaGreatDoorMf
open Go.Proofs.Tryz renaming prog->ds,results36->aB0,results21->aB1,results25->aww,results32->aAc,results81->axy,results38->axx,results39->aB5,results14->awI,results12->aya
open Nat renaming reduceEqDiff->vt,reduceAdd->AS,reduceLeDiff->By,zero_add->avm,le_refl->BY,lt_or_ge->awr,sub_self->ax4,zero_le->Dc,lt_of_lt_of_le->MC,mul_one->VU,mul_eq_zero->awz,eq_of_mul_eq_mul_right->awk,le_trans->OF,add_mul->atY
open Int renaming reduceNeg->MD,toNat_of_nonneg->aB2,toNat_natCast->avc,tmod_eq_emod_of_nonneg->awD,eq_ofNat_of_zero_le->axr
open List renaming getElem_mem->avb,range->VT,getD->ava,getElem?_append_left->av8,getElem?_append_right->av9,headD_cons->aB3,tail_cons->aB4,length_cons->ave,drop_eq_getElem_cons->avk,drop_of_length_le->avZ,append_nil->avq,length_append->IS,length_nil->avi,take->avB,flatMap_cons->avj,take_zero->awL,take_succ_eq_append_getElem->avt,map_append->avz,length_map->VY,length_take->VV,take_of_length_le->are,length_zip->axz,append_assoc->au8,flatMap_append->avH,flatMap_nil->axc,getD_eq_getElem?_getD->aCb,getElem?_eq_getElem->ME
open Option renaming map_some->avI
set_option linter.unusedVariables false
set_option linter.unusedSimpArgs false
set_option maxHeartbeats 8000000
set_option maxRecDepth 20000
namespace Go.Proofs.YtemdgidnhgcafaaGreatDoor.Pk
open Go Go.Proofs Go.Proofs.YtemdgidnhgcafaaGreatDoor.Ab Go.Proofs.Vw
def logAt (l:List (Int×List dM)) (n:Int):List dM:=((l.find? fun c=>c.1==n).map (·.2)).getD []
def s5 (l:List mF) (n:Int):mF:=(l.find? fun c=>c.t==n).getD ⟨n,0,0,[],[],0⟩
theorem aer {α:Type} {p:α→Bool} {l:List α}:(pL p l=-1∧l.find? p=none)∨∃ k,∃ hk:k<l.length,pL p l=(k:Int)∧l.find? p=some l[k]:=by
 by_cases h:l.findIdx p<l.length
 ·refine .inr ⟨_,h,by unfold pL;rw [if_pos h],?_⟩
  rw [List.find?_eq_some_iff_getElem];exact ⟨List.findIdx_getElem,_,h,rfl,fun j aV=>by have:=List.not_of_lt_findIdx aV;simpa using this⟩
 ·refine .inl ⟨by unfold pL;rw [if_neg h],?_⟩
  rw [List.findIdx_lt_length] at h;rw [List.find?_eq_none];exact fun x aj U=>h ⟨x,aj,U⟩
def qS (t:sE):Prop:=t.logs.length≤2 ^ 30∧t.tasks.length≤2 ^ 30∧(∀ p ∈ t.logs,p.2.length≤2 ^ 30)∧∀ x ∈ t.tasks,x.offs.length≤2 ^ 30∧x.ord.length≤2 ^ 40
theorem aes (t:sE) (bE:qS t) (n:Int) (h:I):Pure ds 36 [.agg (cu t),.int .i64 n] h (.agg (b6 (n,logAt t.logs n))):=by
 refine Pure.of (a7.agg (OW _)) ?_;refine af.au (c:=_) Tryz.func36 rfl (by kernel_rfl) (by simp) ?_
 have Vt:(V.agg (cu t)).cells=some (cu t):=rfl;obtain ⟨H,hH⟩:∃ y,y=(((h.push (.cells (cu t) 34 none)).push (.cells [.int .i64 n] 3 none)).push (.cells [.int .i64 0,.ag,.ag] 90 none)).push (.cells [.int .i64 n,.ag,.ag] 90 none):=⟨_,rfl⟩;have bw:J h H none_:=by rw [hH];exact (((J.push _ _ _).trans' (J.push _ _ _)).trans' (J.push _ _ _)).trans' (J.push _ _ _)
 have ju:H.n=h.n+4:=by rw [hH];simp only [dq]
 have g0:H.get h.n=.cells (cu t) 34 none:=by rw [hH,lx (by simp only [dq];omega),lx (by simp only [dq];omega),lx (by simp only [dq];omega)];exact ck
 have g1:H.get (h.n+1)=.cells [.int .i64 n] 3 none:=by rw [hH];simp [I.push]
 have g2:H.get (h.n+2)=.cells [.int .i64 0,.ag,.ag] 90 none:=by rw [hH];simp [I.push]
 have g3:H.get (h.n+3)=.cells [.int .i64 n,.ag,.ag] 90 none:=by rw [hH];simp [I.push]
 have st:bF (some 3) (aO.cells [V.int .i64 0,.ag,.ag] 90 none) 0 [.int .i64 n,.ag,.ag]=some (.cells [.int .i64 n,.ag,.ag] 90 none):=rfl;have d0:cP (aO.cells (cu t) 34 none) 0=some (cu t):=rfl;have pD:cO (some none) (some (cu t))=some (.ah t.logs.length (t.logs.flatMap b6)):=rfl;simp only [ae,vt,AS,By,SH,aW,SS,YV,Jx,GS,Vt,st];rw [←hH];clear hH;simp only [ae,vt,pD];refine bW amn (Vr t.logs bE.1 n H (h.n+1) (by omega) g1) ?_
 rcases aer (p:=fun c:Int×List dM=>c.1==n) (l:=t.logs) with ⟨aC,bd⟩ | ⟨k,hk,aC,bd⟩
 ·have EO:logAt t.logs n=[]:=by unfold logAt;rw [bd];rfl
  have bb:decide (-1 ≥ (0:Int))=false:=rfl;rw [EO];have st2:bF (some 3) (aO.cells [V.int .i64 0,.ag,.ag] 90 none) 0 [.int .i64 n,.ag,.ag]=some (.cells [.int .i64 n,.ag,.ag] 90 none):=rfl;simp only [ae,Int.reduceLE,MD,vt,AS,Jr,GS,aC,g3,g2,st2,aS,aB0,vH,fB];refine ax ⟨_,EN (aq.cons (aA.refl _ _) (aq.cons (aA.hL _) (aq.cons (aA.hL _) (aq.refl _ _)))),bw.trans (J.set _ _ _) fun q ab U=>by omega⟩
 ·have EO:logAt t.logs n=t.logs[k].2:=by unfold logAt;rw [bd];rfl
  have fJ:=bE.2.2.1 _ (avb hk);have hll:=bE.1;have cy:=aem (kk:=.i64) hk;rw [EO];generalize t.logs[k]=c at *;obtain ⟨lU,rs⟩:=c;have E6:rs.length≤2 ^ 30:=fJ;have ex:b6 (lU,rs)=[.int .i64 lU,.ah rs.length (eF rs),.ah rs.length (fD rs)]:=rfl;rw [ex] at cy;have bb:decide ((k:Int) ≥ 0)=true:=decide_eq_true (by omega)
  have LM:bF (some 1) (aO.cells [V.int .i64 n,.ag,.ag] 90 none) 1 [.ah rs.length (eF rs)]=some (.cells [.int .i64 n,.ah rs.length (eF rs),.ag] 90 none):=rfl;have CI:bF (some 1) (aO.cells [V.int .i64 n,.ah rs.length (eF rs),.ag] 90 none) 2 [.ah rs.length (fD rs)]=some (.cells [.int .i64 n,.ah rs.length (eF rs),.ah rs.length (fD rs)] 90 none):=rfl;simp only [ae,vt,By,SH,GK,Jn,SS,aC,bb,g0,d0,pD,cy];refine bW amp (asx rs (by omega) _) ?_
  obtain ⟨bK,bs⟩:∃ y,y=H.set (h.n+3) (.cells [.int .i64 n,.ah rs.length (eF rs),.ag] 90 none):=⟨_,rfl⟩;have ba:J H bK (·=h.n+3):=by rw [bs];exact J.set _ _ _
  have aet:=(ba.get h.n (by omega) (by omega)).trans g0
  have g22:=(ba.get (h.n+2) (by omega) (by omega)).trans g2
  have aeu:bK.get (h.n+3)=.cells [.int .i64 n,.ah rs.length (eF rs),.ag] 90 none:=by rw [bs];exact aT
  simp only [ae,vt,SH,GK,SS,S9,g3,LM];rw [←bs];clear bs;simp only [ae,vt,By,GL,Jq,aet,d0,pD,cy];refine bW amq (asy rs (by omega) _) ?_
  have b2:∀ o,J bK (bK.set (h.n+3) o) (·=h.n+3):=fun o=>J.set _ _ _;have g23:∀ o,(bK.set (h.n+3) o).get (h.n+2)=.cells [.int .i64 0,.ag,.ag] 90 none:=fun o=>((b2 o).get (h.n+2) (by have:=ba.n;omega) (by omega)).trans g22
  have aev:bF (some 3) (aO.cells [V.int .i64 0,.ag,.ag] 90 none) 0 [.int .i64 n,.ah rs.length (eF rs),.ah rs.length (fD rs)]=some (.cells [.int .i64 n,.ah rs.length (eF rs),.ah rs.length (fD rs)] 90 none):=rfl;simp only [ae,vt,AS,GL,Jr,Te,GS,aeu,CI,g23,aev,aS,aB0,vH,fB];refine ax ⟨_,aA.refl _ _,((bw.trans ba fun q ab U=>by omega).trans (b2 _) fun q ab U=>by omega).trans (J.set _ _ _) fun q ab U=>by omega⟩
theorem asC (t:sE) (bE:qS t) (n:Int) (h:I):Pure ds 21 [.agg (cu t),.int .i64 n] h (.agg (ct (s5 t.tasks n))):=by
 refine Pure.of (a7.agg (Vj _)) ?_;refine af.au (c:=_) Tryz.func21 rfl (by kernel_rfl) (by simp) ?_
 have Vt:(V.agg (cu t)).cells=some (cu t):=rfl;obtain ⟨H,hH⟩:∃ y,y=((h.push (.cells (cu t) 34 none)).push (.cells [.int .i64 n] 3 none)).push (.cells [.int .i64 0,.int .i64 0,.int .i64 0,.ag,.ag,.int .i64 0] 57 none):=⟨_,rfl⟩;have bw:J h H none_:=by rw [hH];exact ((J.push _ _ _).trans' (J.push _ _ _)).trans' (J.push _ _ _)
 have ju:H.n=h.n+3:=by rw [hH];simp only [dq]
 have g0:H.get h.n=.cells (cu t) 34 none:=by rw [hH,lx (by simp only [dq];omega),lx (by simp only [dq];omega)];exact ck
 have g1:H.get (h.n+1)=.cells [.int .i64 n] 3 none:=by rw [hH];simp [I.push]
 have g2:H.get (h.n+2)=.cells [.int .i64 0,.int .i64 0,.int .i64 0,.ag,.ag,.int .i64 0] 57 none:=by rw [hH];simp [I.push]
 have d0:cP (aO.cells (cu t) 34 none) 1=some ((cu t).drop 1):=rfl;have pD:cO (some none) (some ((cu t).drop 1))=some (.ah t.tasks.length (t.tasks.flatMap ct)):=rfl;simp only [ae,vt,YF,YQ,GQ,Vt,d0,pD];rw [←hH];clear hH;refine bW ama (Vs t.tasks bE.2.1 n H (h.n+1) (by omega) g1) ?_
 rcases aer (p:=fun c:mF=>c.t==n) (l:=t.tasks) with ⟨aC,bd⟩ | ⟨k,hk,aC,bd⟩
 ·have EO:s5 t.tasks n=⟨n,0,0,[],[],0⟩:=by unfold s5;rw [bd];rfl
  have bb:decide (-1<(0:Int))=true:=rfl;rw [EO];have st2:bF (some 6) (aO.cells [V.int .i64 0,.int .i64 0,.int .i64 0,.ag,.ag,.int .i64 0] 57 none) 0 [.int .i64 n,.int .i64 0,.int .i64 0,.ag,.ag,.int .i64 0]=some (.cells [.int .i64 n,.int .i64 0,.int .i64 0,.ag,.ag,.int .i64 0] 57 none):=rfl;simp only [ae,Int.reduceLT,MD,vt,AS,By,aW,GO,LT,GQ,Jy,aC,g1,g2,st2,aS,aB1,vH,fB];refine ax ⟨_,EN (aq.cons (aA.refl _ _) (aq.cons (aA.refl _ _) (aq.cons (aA.refl _ _) (aq.cons (aA.hL _) (aq.cons (aA.hL _) (aq.refl _ _)))))),bw.trans (J.set _ _ _) fun q ab U=>by omega⟩
 ·have EO:s5 t.tasks n=t.tasks[k]:=by unfold s5;rw [bd];rfl
  have fJ:=bE.2.2.2 _ (avb hk);have hll:=bE.2.1;have cy:=aen (kk:=.i64) hk;rw [EO];generalize t.tasks[k]=c at *;have bb:decide ((k:Int)<0)=false:=decide_eq_false (by omega)
  have ld:=LE;have wm:=fJ.1;have nC:=fJ.2;have cc:(V.agg (ct c)).cells=some (ct c):=rfl;have st:bF (some 6) (aO.cells [V.int .i64 0,.int .i64 0,.int .i64 0,.ag,.ag,.int .i64 0] 57 none) 0 (ct c)=some (.cells (ct c) 57 none):=rfl;have d3:cP (aO.cells (ct c) 57 none) 3=some ((ct c).drop 3):=rfl;have xA:cO (some none) (some ((ct c).drop 3))=some (.ah c.offs.length (ar c.offs)):=rfl;simp only [ae,vt,YF,NP,YQ,hz,GO,GQ,Jy,aC,bb,g0,d0,pD,cy,ld,cc,st,d3,xA];obtain ⟨bK,bs⟩:∃ y,y=H.push (.cells (ct c) 57 none):=⟨_,rfl⟩;have ba:J H bK none_:=by rw [bs];exact J.push _ _ _
  have dy:bK.n=H.n+1:=by rw [bs];rfl
  have asD:bK.get H.n=.cells (ct c) 57 none:=by rw [bs];exact ck
  have g22:=(ba.get (h.n+2) (by omega) (by simp [none_])).trans g2
  have d4:cP (aO.cells (ct c) 57 none) 4=some ((ct c).drop 4):=rfl;have asE:cO (some none) (some ((ct c).drop 4))=some (.ah c.ord.length (ar c.ord)):=rfl;have pY:bF (some 1) (aO.cells (ct c) 57 none) 3 [.ah c.offs.length (ar c.offs)]=some (.cells (ct c) 57 none):=rfl;have uR:bF (some 1) (aO.cells (ct c) 57 none) 4 [.ah c.ord.length (ar c.ord)]=some (.cells (ct c) 57 none):=rfl;have asF:bF (some 6) (aO.cells [V.int .i64 0,.int .i64 0,.int .i64 0,.ag,.ag,.int .i64 0] 57 none) 0 (ct c)=some (.cells (ct c) 57 none):=rfl;have qg:(ct c).take 6=ct c:=rfl;have Ga:=Hq c;have asG:cP (aO.cells (ct c) 57 none) 0=some (ct c):=rfl;rw [←bs];clear bs;refine bW Sy (Ve c.offs (by omega) _) ?_
  have cY:∀ (U:I) o,J U (U.set H.n o) (·=H.n):=fun U o=>J.set _ _ _;obtain ⟨fj,eS⟩:∃ y,y=bK.set H.n (.cells (ct c) 57 none):=⟨_,rfl⟩;have b2:J bK fj (·=H.n):=by rw [eS];exact J.set _ _ _
  have n3:=b2.n;have aew:fj.get H.n=.cells (ct c) 57 none:=by rw [eS];exact aT
  have g23:=(b2.get (h.n+2) (by omega) (by omega)).trans g22
  simp only [ae,vt,NP,SJ,hz,Cc,asD,pY,d4,asE];rw [←eS];clear eS;refine bW Sy (Ve c.ord (by omega) _) ?_
  obtain ⟨hY,iq⟩:∃ y,y=fj.set H.n (.cells (ct c) 57 none):=⟨_,rfl⟩;have db:J fj hY (·=H.n):=by rw [iq];exact J.set _ _ _
  have n4:=db.n;have auw:hY.get H.n=.cells (ct c) 57 none:=by rw [iq];exact aT
  have g24:=(db.get (h.n+2) (by omega) (by omega)).trans g23
  simp only [ae,vt,SJ,GO,Cc,aew,uR];rw [←iq];clear iq;simp only [ae,vt,GO,Jy,g24,asG,qg,Ga,cc,asF,aS,aB1,vH,fB];refine ax ⟨_,aA.refl _ _,?_⟩;exact (((bw.trans' ba).trans b2 fun q ab U=>by omega).trans db fun q ab U=>by omega).trans (J.set _ _ _) fun q ab U=>by omega
open Go Go.Proofs Go.Proofs.YtemdgidnhgcafaaGreatDoor.Ab
def O3 (l:List bD) (a b:Nat):Prop:=∃ x,l[b]?=some x∧(a:Int) ∈ x.bc∧gA l (a:Int)≠5
inductive sG (l:List bD):Nat→Nat→Prop
 | refl (a:Nat):sG l a a
 | step {a b c:Nat}:sG l a b→(O3 l b c∨O3 l c b)→sG l a c
theorem sG.trans {l:List bD} {a b c:Nat} (h:sG l a b) (g:sG l b c):sG l a c:=by
 induction g with
 | refl=>exact h
 | step _ e ih=>exact .step ih e
theorem sG.symm {l:List bD} {a b:Nat} (h:sG l a b):sG l b a:=by
 induction h with
 | refl=>exact .refl _
 | step _ e ih=>exact (sG.step (.refl _) e.symm).trans ih
def LY (l:List bD):Prop:=∀ (v:Nat) (x:bD),l[v]?=some x→∀ f ∈ x.bc,0≤f∧f<(v:Int)
theorem aex {l:List bD} {L:List Nat} {v:Nat}:∀ {r:List Int},nL l L v r=none→∀ f ∈ r,gA l f≠5→L.getD v 0=L.getD f.toNat 0
 | [],_,f,av,_=>by simp at av
 | g::r,h,f,av,hk=>by
  unfold nL at h;split at h
  ·cases h
  ·rename_i ay;rcases List.mem_cons.1 av with rfl | av
   ·exact Classical.byContradiction fun e=>ay ⟨hk,e⟩
   ·exact aex h f av hk
theorem aey {l:List bD} {L:List Nat}:∀ {r:List bD} {v:Nat},nM l L v r=none→∀ (k:Nat) (x:bD),r[k]?=some x→nL l L (v+k) x.bc=none
 | [],_,_,k,x,aj=>by simp at aj
 | y::r,v,h,k,x,aj=>by
  unfold nM at h;split at h
  ·cases h
  ·rename_i q;cases k with
   | zero=>simp at aj;subst aj;exact q
   | succ k=>rw [show v+(k+1)=v+1+k by omega];exact aey h k x (by simpa using aj)
theorem aez {l:List bD} {L:List Nat} {v:Nat}:∀ {r:List Int} {jw:List Nat},nL l L v r=some jw→∃ f ∈ r,gA l f≠5∧L.getD v 0≠L.getD f.toNat 0∧jw=(L.set v (min (L.getD v 0) (L.getD f.toNat 0))).set f.toNat (min (L.getD v 0) (L.getD f.toNat 0))
 | [],_,h=>by cases h
 | f::r,jw,h=>by
  unfold nL at h;split at h
  ·rename_i ay;exact ⟨f,by simp,ay.1,ay.2,(Option.some.inj h).symm⟩
  ·obtain ⟨g,az,h1,ad⟩:=aez h;exact ⟨g,List.mem_cons_of_mem _ az,h1,ad⟩
theorem aeA {l:List bD} (hu:LY l) {L jw:List Nat} (h:nM l L 0 l=some jw):∃ v f,f<v∧v<l.length∧O3 l f v∧L.getD v 0≠L.getD f 0∧jw=(L.set v (min (L.getD v 0) (L.getD f 0))).set f (min (L.getD v 0) (L.getD f 0)):=by
 obtain ⟨k,x,h1,ad⟩:=Un h;obtain ⟨f,av,hk,bI,e⟩:=aez ad;obtain ⟨a,b⟩:=hu k x h1 f av;rw [avm] at bI e;refine ⟨k,f.toNat,by omega,(List.getElem?_eq_some_iff.1 h1).1,⟨x,h1,?_,?_⟩,bI,e⟩
 ·rw [aB2 a];exact av
 ·rw [aB2 a];exact hk
theorem aeB {l:List bD} (hu:LY l):∀ (k:Nat) (L:List Nat),L.length=l.length→L.sum<k→nM l (pe l k L) 0 l=none∧(pe l k L).length=l.length
 | 0,L,_,h=>by omega
 | k+1,L,gH,h=>by
  unfold pe;cases ab:nM l L 0 l with
  | none=>exact ⟨ab,gH⟩
  | some jw=>
   obtain ⟨v,f,a,b,_,c,e⟩:=aeA hu ab;have:=abJ (L:=L) (v:=v) (f:=f) (by omega) (by omega) (by omega) c
   rw [←e] at this;exact aeB hu k jw (by rw [e];simp [gH]) (by omega)
theorem aeC {l:List bD} (hu:LY l):∀ (k:Nat) (L:List Nat),L.length=l.length→(∀ j,j<l.length→sG l (L.getD j 0) j)→∀ j,j<l.length→sG l ((pe l k L).getD j 0) j
 | 0,L,_,h=>h
 | k+1,L,gH,h=>by
  unfold pe;cases ab:nM l L 0 l with
  | none=>exact h
  | some jw=>
   obtain ⟨v,f,a,b,LZ,c,e⟩:=aeA hu ab;refine aeC hu k jw (by rw [e];simp [gH]) fun j aV=>?_
   have aH:=h v b;have av:=h f (by omega)
   have hm:sG l (min (L.getD v 0) (L.getD f 0)) v∧sG l (min (L.getD v 0) (L.getD f 0)) f:=by
    rcases Nat.le_total (L.getD v 0) (L.getD f 0) with hle | hle
    ·rw [Nat.min_eq_left hle];exact ⟨aH,aH.step (.inr LZ)⟩
    ·rw [Nat.min_eq_right hle];exact ⟨av.step (.inl LZ),av⟩
   rw [e,OB,OB];split
   ·rename_i U;rw [←U.1];exact hm.2
   ·split
    ·rename_i U;rw [←U.1];exact hm.1
    ·exact h j aV
structure yI (l:List bD) (R:List Nat):Prop where
 len:R.length=l.length
 le:∀ j,R.getD j 0≤j
 lU:∀ j,j<l.length→sG l (R.getD j 0) j
 LZ:∀ a b,O3 l a b→R.getD a 0=R.getD b 0
theorem yI.same {l:List bD} {R:List Nat} (h:yI l R) {a b:Nat} (c:sG l a b):R.getD a 0=R.getD b 0:=by
 induction c with
 | refl=>rfl
 | step _ e ih=>
          rcases e with e | e
          ·rw [ih];exact h.LZ _ _ e
          ·rw [ih];exact (h.LZ _ _ e).symm
theorem yI.root {l:List bD} {R:List Nat} (h:yI l R) {a:Nat} (aP:a<l.length):R.getD (R.getD a 0) 0=R.getD a 0:=h.same (h.lU a aP)
theorem asH {l:List bD} (hu:LY l) (Fs:l.length≤24):yI l (nN l):=by
 have aa:(VT l.length).sum<600:=by
  have:∀ n:Nat,n≤24→(VT n).sum<600:=by decide
  exact this _ Fs
 obtain ⟨f1,f2⟩:=aeB hu 600 (VT l.length) (by simp) aa
 refine ⟨f2,abN l,aeC hu _ _ (by simp) fun j aV=>?_,fun a b ⟨x,h1,ad,aD⟩=>?_⟩
 ·rw [ava,List.getElem?_range aV];exact .refl _
 ·have:=aex (aey f1 b x h1) (a:Int) ad aD;rw [avm,avc] at this;exact this.symm
def iE (R:List Nat) (i:Nat):Nat:=(ek R i).2
theorem Vu (R:List Nat) (i:Nat):iE R (i+1)=if R.getD i 0=i then iE R i+1 else iE R i:=by
 unfold iE;show (if R.getD i 0=i then _ else _:List Int×Nat).2=_
 split<;>rfl
theorem aeD (R:List Nat) {i:Nat}:∀ {j:Nat},i≤j→iE R i≤iE R j
 | 0,h=>by rw [Nat.le_zero.1 h];exact BY _
 | j+1,h=>by
  rcases awr j i with aw | aw
  ·rw [show i=j+1 by omega];exact BY _
  ·have:=aeD R (i:=i) aw;rw [Vu];split<;>omega
theorem asI {R:List Nat} {r j:Nat} (aL:R.getD r 0=r) (h:r<j):iE R r<iE R j:=by
 have:=aeD R (i:=r+1) (j:=j) h;rw [Vu,if_pos aL] at this;omega
theorem Vv {l:List bD} {R:List Nat} (eC:yI l R):∀ {i:Nat},i≤l.length→∀ v,v<i→(ek R i).1.getD v 0=((iE R (R.getD v 0):Nat):Int)
 | 0,_,v,h=>by omega
 | i+1,hi,v,h=>by
  have ih:=Vv eC (i:=i) (by omega)
  have aw:=yq R i;unfold ek;rcases awr v i with aH | aH
  ·split
   ·rw [←ih v aH];simp only [ava];rw [av8 (by omega)]
   ·rw [←ih v aH];simp only [ava];rw [av8 (by omega)]
  ·have he:v=i:=by omega
   subst he;split
   ·rename_i aL;rw [aL];simp only [ava];rw [av9 (by omega),aw,ax4]
    rfl
   ·rename_i aL;have aM:R.getD v 0<v:=by have:=eC.le v;omega
    have ab:=ih _ aM;rw [eC.root (by omega)] at ab
    show ((ek R v).1++[(ek R v).1.getD (R.getD v 0) 0]).getD v 0=_;rw [ab];simp only [ava];rw [av9 (by omega),aw,ax4]
    rfl
theorem aeE (R:List Nat) {l:List bD} (eC:yI l R):∀ i,i<l.length→mx ((ek R (i+1)).1.headD 0) (ek R (i+1)).1.tail=((iE R (i+1):Nat):Int) - 1
 | 0,h=>by
  have aK:R.getD 0 0=0:=by have:=eC.le 0;omega
  have:ek R 1=([0],1):=by unfold ek;rw [if_pos aK];rfl
  rw [show (0+1:Nat)=1 from rfl,iE,this]
  rfl
 | i+1,h=>by
  have ih:=aeE R eC i (by omega)
  have aw:=yq R (i+1);obtain ⟨x,aj,dC⟩:∃ x,(ek R (i+1+1)).1=(ek R (i+1)).1++[x]∧max (((iE R (i+1):Nat):Int) - 1) x=((iE R (i+2):Nat):Int) - 1:=by
   have az:=Vv eC (i:=i+1+1) (by omega) (i+1) (by omega)
   have ay:=Vu R (i+1);by_cases aL:R.getD (i+1) 0=i+1
   ·refine ⟨((iE R (i+1):Nat):Int),by rw [show ek R (i+1+1)=_ from rfl];unfold ek;rw [if_pos aL];rfl,?_⟩
    rw [if_pos aL] at ay;rw [show i+2=i+1+1 from rfl,ay]
    omega
   ·have aM:R.getD (i+1) 0<i+1:=by have:=eC.le (i+1);omega
    refine ⟨((iE R (R.getD (i+1) 0):Nat):Int),?_,?_⟩
    ·have ad:(ek R (i+1+1)).1=(ek R (i+1)).1++[(ek R (i+1)).1.getD (R.getD (i+1) 0) 0]:=by
      show (if R.getD (i+1) 0=i+1 then _ else _:List Int×Nat).1=_
      rw [if_neg aL]
     rw [ad,Vv eC (i:=i+1) (by omega) _ aM,eC.root (by omega)]
    ·rw [if_neg aL] at ay;rw [show i+2=i+1+1 from rfl,ay]
     have:=asI (eC.root (a:=i+1) (by omega)) aM
     omega
  rw [aj];cases aU:(ek R (i+1)).1 with
  | nil=>rw [aU] at aw;simp at aw
  | cons a r=>
   rw [aU] at ih;simp only [aB3,aB4] at ih;simp only [List.cons_append,aB3,aB4];rw [Uq,ih,dC]
theorem asJ {p:Int} {l:List bD} (aK:(ch p l).2=0):LY l:=by
 obtain ⟨_,_,_,_,_,dr⟩:=A9 aK;exact fun v x aj f av=>(T3 (dr v x aj)).2.1 f av
theorem aeF (R:List Nat) (i:Nat):iE R i≤i:=Up R i
theorem uf {p:Int} {l:List bD} (aK:(ch p l).2=0):w5 p l=((iE (nN l) l.length:Nat):Int) * p:=by
 obtain ⟨_,aU,hc,uZ,_,_⟩:=A9 aK;have eC:=asH (asJ aK) uZ;have hm:=aeE (nN l) eC (l.length - 1) (by omega)
 rw [show l.length - 1+1=l.length by omega] at hm
 have ay:=aeF (nN l) l.length;generalize iE (nN l) l.length=c at hm ay⊢;have fT:fC p l=(ek (nN l) l.length).1:=if_pos aK;rw [w5,if_pos aK,fT,hm];have aC:IntKind.i64.wrap ((c:Int) - 1+1)=c:=by rw [Go.IntWalk.i64_in _ (by omega)];omega
 rw [aC];have lV:p=1∨p=2∨p=3∨p=4∨p=5∨p=6∨p=7∨p=8:=by omega
 refine Go.IntWalk.i64_in _ ?_;rcases lV with rfl | rfl | rfl | rfl | rfl | rfl | rfl | rfl<;>omega
def fl (p:Int) (l:List bD) (k v q:Int):Int:=if (ch p l).2=0∧0≤k∧k≤2∧0≤v∧v<l.length∧0≤q∧q<p then (k * (l.length:Int)+v) * p+q else -1
theorem asK {n k v p:Int} (gz:0≤k) (ba:k≤2) (n24:0≤n∧n≤24) (v0:0≤v) (au0:v<n) (aU:1≤p∧p≤8):0≤k * n∧k * n≤48∧0≤(k * n+v) * p∧(k * n+v) * p≤600∧(0≤k * n * p∧k * n * p≤600)∧(0≤v * p∧v * p≤600):=by
 have hk:k=0∨k=1∨k=2:=by omega
 have lV:p=1∨p=2∨p=3∨p=4∨p=5∨p=6∨p=7∨p=8:=by omega
 rcases hk with rfl | rfl | rfl<;>rcases lV with rfl | rfl | rfl | rfl | rfl | rfl | rfl | rfl<;>omega
theorem EP (l:List bD) (p k v q:Int) (aY:k7 l) (h:I) (az:jf h):Pure ds 25 [.agg (cT l p),.int .i64 k,.int .i64 v,.int .i64 q] h (.int .i64 (fl p l k v q)):=by
 refine Pure.val (a7.int _ _) ?_;have ay:(V.agg (cT l p)).cells=some [.ah l.length (l.flatMap an),.int .i64 p]:=rfl;obtain ⟨H,hH⟩:∃ x,x=h.push (.cells [.ah l.length (l.flatMap an),.int .i64 p] 24 none):=⟨_,rfl⟩;have gt:H.get h.n=.cells [.ah l.length (l.flatMap an),.int .i64 p] 24 none:=by rw [hH];exact ck
 have bw:J h H none_:=by rw [hH];exact J.push _ _ _
 refine af.au (c:=_) Tryz.func25 rfl (by kernel_rfl) (by simp) ?_
 simp only [ae,MD,vt,AS,js,ay,←hH,gt];refine bW Yh (abP l p aY H (az.ai bw)) ?_;by_cases aK:(ch p l).2=0;rotate_left
 ·have bt:((ch p l).2==0)=false:=by simp [aK]
  have bk:fl p l k v q=-1:=if_neg (fun U=>aK U.1);simp only [ae,MD,vt,bt,aS,aww,ac];exact ax ⟨by rw [bk],bw⟩
 have bt:((ch p l).2==0)=true:=by simp [aK]
 by_cases ot:k<0
 ·have d0:decide (k<0)=true:=by simpa using ot
  have bk:fl p l k v q=-1:=if_neg (by omega)
  simp only [ae,MD,vt,bt,d0,aS,aww,ac];exact ax ⟨by rw [bk],bw⟩
 have d0:decide (k<0)=false:=by simpa using ot
 by_cases fv:3≤k
 ·have d1:decide (3≤k)=true:=by simpa using fv
  have bk:fl p l k v q=-1:=if_neg (by omega)
  simp only [ae,MD,vt,bt,d0,d1,aS,aww,ac];exact ax ⟨by rw [bk],bw⟩
 have d1:decide (3≤k)=false:=by simpa using fv
 by_cases dy:v<0
 ·have d2:decide (v<0)=true:=by simpa using dy
  have bk:fl p l k v q=-1:=if_neg (by omega)
  simp only [ae,MD,vt,bt,d0,d1,d2,aS,aww,ac];exact ax ⟨by rw [bk],bw⟩
 have d2:decide (v<0)=false:=by simpa using dy
 by_cases n3:((l.length:Nat):Int)≤v
 ·have d3:decide (((l.length:Nat):Int)≤v)=true:=by simpa using n3
  have bk:fl p l k v q=-1:=if_neg (by omega)
  simp only [ae,MD,vt,AS,lZ,rn,mw,bt,gt,d0,d1,d2,d3,aS,aww,ac];exact ax ⟨by rw [bk],bw⟩
 have d3:decide (((l.length:Nat):Int)≤v)=false:=by simpa using n3
 by_cases n4:q<0
 ·have d4:decide (q<0)=true:=by simpa using n4
  have bk:fl p l k v q=-1:=if_neg (by omega)
  simp only [ae,MD,vt,AS,lZ,rn,mw,bt,gt,d0,d1,d2,d3,d4,aS,aww,ac];exact ax ⟨by rw [bk],bw⟩
 have d4:decide (q<0)=false:=by simpa using n4
 by_cases x7:p≤q
 ·have d5:decide (p≤q)=true:=by simpa using x7
  have bk:fl p l k v q=-1:=if_neg (by omega)
  simp only [ae,MD,vt,AS,By,lZ,fd,rn,mw,aW,bt,gt,d0,d1,d2,d3,d4,d5,aS,aww,ac];exact ax ⟨by rw [bk],bw⟩
 have d5:decide (p≤q)=false:=by simpa using x7
 obtain ⟨_,aU,_,uZ,_⟩:=A9 aK;have bk:fl p l k v q=(k * (l.length:Int)+v) * p+q:=if_pos ⟨aK,by omega,by omega,by omega,by omega,by omega,by omega⟩
 obtain ⟨dK,b7,gx,oY,qN,sw⟩:=asK (n:=(l.length:Int)) (k:=k) (v:=v) (p:=p) (by omega) (by omega) (by omega) (by omega) (by omega) (by omega)
 have cV:IntKind.i64.wrap (k * (l.length:Int))=k * (l.length:Int):=Go.IntWalk.i64_in _ (by omega)
 have bS:IntKind.i64.wrap (k * (l.length:Int)+v)=k * (l.length:Int)+v:=Go.IntWalk.i64_in _ (by omega)
 have j7:IntKind.i64.wrap ((k * (l.length:Int)+v) * p)=(k * (l.length:Int)+v) * p:=Go.IntWalk.i64_in _ (by omega)
 have wW:IntKind.i64.wrap ((k * (l.length:Int)+v) * p+q)=(k * (l.length:Int)+v) * p+q:=Go.IntWalk.i64_in _ (by omega)
 simp only [ae,MD,vt,AS,By,lZ,fd,rn,mw,aW,bt,gt,d0,d1,d2,d3,d4,d5,cV,bS,j7,wW,aS,aww,ac];exact ax ⟨by rw [bk],bw⟩
def iF (p:Int) (l:List bD) (task:Int):Int×Int:=if 0≤task∧task<w5 p l then (task.tdiv p,task.tmod p) else (-1,-1)
theorem asL {p:Int} {l:List bD} {task:Int} (aK:0≤task) (h1:task<w5 p l):(ch p l).2=0∧(1≤p∧p≤8)∧w5 p l≤192:=by
 have h:(ch p l).2=0:=Classical.byContradiction fun aG=>by
  rw [w5,if_neg aG] at h1;omega
 obtain ⟨_,aU,hc,uZ,_,_⟩:=A9 h;refine ⟨h,aU,?_⟩;rw [uf h];have ay:=aeF (nN l) l.length;generalize iE (nN l) l.length=c at ay⊢;have lV:p=1∨p=2∨p=3∨p=4∨p=5∨p=6∨p=7∨p=8:=by omega
 rcases lV with rfl | rfl | rfl | rfl | rfl | rfl | rfl | rfl<;>omega
theorem Vx (l:List bD) (p task:Int) (aY:k7 l) (h:I) (az:jf h):Pure ds 32 [.agg (cT l p),.int .i64 task] h (.tuple [.int .i64 (iF p l task).1,.int .i64 (iF p l task).2]):=by
 refine Pure.val (a7.tuple (a1.cons (a7.int _ _) (a1.cons (a7.int _ _) a1.nil))) ?_;have ay:(V.agg (cT l p)).cells=some [.ah l.length (l.flatMap an),.int .i64 p]:=rfl;obtain ⟨H,hH⟩:∃ x,x=h.push (.cells [.ah l.length (l.flatMap an),.int .i64 p] 24 none):=⟨_,rfl⟩;have gt:H.get h.n=.cells [.ah l.length (l.flatMap an),.int .i64 p] 24 none:=by rw [hH];exact ck
 have bw:J h H none_:=by rw [hH];exact J.push _ _ _
 have jO:=az.ai bw;refine af.au (c:=_) Tryz.func32 rfl (by kernel_rfl) (by simp) ?_
 simp only [ae,MD,vt,ay,←hH];by_cases ot:task<0
 ·have d0:decide (task<0)=true:=by simpa using ot
  have bk:iF p l task=(-1,-1):=if_neg (by omega)
  simp only [ae,MD,vt,d0,aS,aAc,c9];exact ax ⟨by rw [bk],bw⟩
 have d0:decide (task<0)=false:=by simpa using ot
 simp only [ae,vt,AS,js,d0,gt];refine bW amj (NE l p aY H jO) ?_;by_cases fv:w5 p l≤task
 ·have d1:decide (w5 p l≤task)=true:=by simpa using fv
  have bk:iF p l task=(-1,-1):=if_neg (by omega)
  simp only [ae,MD,vt,d1,aS,aAc,c9];exact ax ⟨by rw [bk],bw⟩
 have d1:decide (w5 p l≤task)=false:=by simpa using fv
 obtain ⟨aK,aU,asM⟩:=asL (p:=p) (l:=l) (task:=task) (by omega) (by omega)
 have bk:iF p l task=(task.tdiv p,task.tmod p):=if_pos (by omega)
 have cV:IntKind.i64.wrap (task.tdiv p)=task.tdiv p:=by
  rw [Int.tdiv_eq_ediv_of_nonneg (by omega)]
  have a:=Int.ediv_nonneg (a:=task) (b:=p) (by omega) (by omega)
  have b:=Int.ediv_le_self (a:=task) p (by omega)
  exact Go.IntWalk.i64_in _ (by omega)
 simp only [ae,MD,vt,d1];refine aZ.bB none_ [] (.q 0 (.q 1 (.q 2 (.q 3 (.q 4 (.q 5 (.q 6 (.q 7 (.q 8 (.q 9 .done)))))))))) (by kernel_rfl) (by kernel_rfl) (by kernel_rfl) ?_
 simp only [ae,bM,vt,AS,By,fd,aW,gt,Wq (show p≠0 by omega),BH (show p≠0 by omega),cV,aS,aAc,c9]
 exact ax ⟨by rw [bk],bw⟩
theorem aeG (a b:Rec) {xo yo:Operand}:cH ds .neq 45 xo yo (.agg (aI a)) (.agg (aI b))=some (.bool (decide (a≠b))):=by
 have h:gL [0,0,0] (aI a) (aI b)=some (decide (a=b)):=by
  simp only [aI,gL,if_true,avI,Option.some.injEq];rw [Bool.eq_iff_iff];simp only [Bool.and_eq_true,beq_iff_eq,decide_eq_true_eq,Bool.and_true]
  constructor
  ·rintro ⟨h1,ad,aD⟩;cases a;cases b;simp_all
  ·rintro rfl;simp
 rw [Xb YW h];simp
def w7 (c:aF):Rec:=⟨c.key,c.to,c.bg⟩
def sH (c:aF):Rec:=⟨c.key,c.val,0⟩
theorem asN (c:aF) (h:I):Pure ds 122 [.agg (bu c)] h (.agg (aI (w7 c))):=by
 refine Pure.val (a7.agg (J8 _)) ?_;refine af.au (c:=_) Tryz.func122 rfl (by kernel_rfl) (by simp) ?_
 simp only [ae,vt,AS,By,Yw,amx,amy,du,dG,AN,s0,w0,bu,aS,Tryz.results122,vH,fB];exact ax ⟨rfl,(J.push _ _ _).bH _⟩
theorem aeH (c:aF) (h:I):Pure ds 116 [.agg (bu c)] h (.agg (aI (sH c))):=by
 refine Pure.val (a7.agg (J8 _)) ?_;refine af.au (c:=_) Tryz.func116 rfl (by kernel_rfl) (by simp) ?_
 simp only [ae,vt,AS,By,Yw,amz,du,dG,AN,s0,w0,bu,aS,Tryz.results116,vH,fB];exact ax ⟨rfl,(J.push _ _ _).bH _⟩
theorem asO (h:I) (a b:Rec):ie ds 25 2 [(0,.agg (aI a)),(1,.agg (aI b))] h=some (.bj h.n 0 2 2,h.push (.cells ([a,b].flatMap aI) 45 none)):=by rw [lY B9];rfl
theorem asP (h:I) (a b:Bool):ie ds 88 2 [(0,.bool a),(1,.bool b)] h=some (.bj h.n 0 2 2,h.push (.cells (tG [a,b]) 4 none)):=by rw [lY GP];rfl
theorem aeI {h al:I} {r:List Rec} {d:List Bool} {i j:Nat} (hq:Own al 45 3 (.bj i 0 2 2) (r.flatMap aI)) (ob:Own al 4 1 (.bj j 0 2 2) (tG d)) (aL:r.length=2) (bf:d.length=2) (j9:i≠j) (hk:J h al none_) (hi:h.n≤i) (aV:h.n≤j) :
  ∃ ad,aA (.tuple [.bj i 0 2 2,.bj j 0 2 2]) al (.tuple [.ah 2 (r.flatMap aI),.ah 2 (tG d)]) ad∧J h ad none_:=by
 obtain ⟨ad,c,k⟩:=Acc.Ns (n:=2) (m:=2) ⟨hq,hk,fun k hk=>by simp [a8] at hk;omega⟩ ⟨ob,hk,fun k hk=>by simp [a8] at hk;omega⟩ (fun k h1 ad=>by simp [a8] at h1 ad;omega) (by rw [gM zg,aL]) (by rw [aj2,bf]) (by omega) (by omega)
 exact ⟨ad,aA.tuple c,k⟩
theorem asQ (c:aF) (h:I):Pure ds 92 [.agg (bu c)] h (.tuple [.ah 2 ([w7 c,sH c].flatMap aI),.ah 2 (tG [false,c.del])]):=by
 refine Pure.of (a7.tuple (a1.cons (a7.ah (AA J8 _)) (a1.cons (a7.ah (aj3 _)) a1.nil))) ?_;refine af.au (c:=_) Tryz.func92 rfl (by kernel_rfl) (by simp) ?_
 have aw:cO (some (some 5)) (some (bu c))=some (.agg (bu c)):=rfl;have ay:(V.agg (bu c)).cells=some (bu c):=rfl;have bf:∀ i,Gq (some 4) (.ptr i 0)=some (.ptr i 4):=fun _=>rfl;have al:∀ h:I,cP ((h.push (.cells (bu c) 110 none)).get h.n) 4=some [.bool c.del]:=fun h=>by rw [ck];rfl
 simp only [ae,ay];refine aZ.bB none_ [4,7] (.q 0 (.c 1 (.q 2 (.c 3 (.q 5 (.q 6 (.e 4 (.q 8 (.e 7 (.q 9 .done) .stop)) (.e 7 (.e 4 (.q 8 (.q 9 .done)) .stop) .stop)))))))) (by kernel_rfl) (by kernel_rfl) (by kernel_rfl) ?_
 have aK:cP (aO.cells (bu c) 110 none) 0=some (bu c):=rfl;have bn:cP (aO.cells (bu c) 110 none) 4=some [.bool c.del]:=rfl;simp only [ae,bM,vt,vN,aK,aw];refine j6 rfl rfl rfl (fun h' _=>asN c h') ?_;simp only [ae,bM,vt,vN,aK,aw];refine j6 rfl rfl rfl (fun h' _=>aeH c h') ?_;simp only [ae,bM,vt,amA,py,bn,asO,asP,aS,Tryz.results92,c9];have bJ:J h (h.push (.cells (bu c) 110 none)) none_:=J.push _ _ _;have kk:∀ a b,J h (((h.push (.cells (bu c) 110 none)).push a).push b) none_:=fun a b=>(bJ.bH _).bH _;have aeJ:∀ (U:I),Own (U.push (.cells ([w7 c,sH c].flatMap aI) 45 none)) 45 3 (.bj U.n 0 2 2) ([w7 c,sH c].flatMap aI):=fun U=>Own.eZ _ 2 rfl (by decide)
 have aeK:∀ (U:I),Own (U.push (.cells (tG [false,c.del]) 4 none)) 4 1 (.bj U.n 0 2 2) (tG [false,c.del]):=fun U=>Own.eZ _ 2 rfl (by decide)
 refine ⟨ax ?_,ax ?_⟩
 ·exact aeI (h:=h) ((aeJ (h.push (.cells (bu c) 110 none))).br (J.push _ _ _)) (aeK _) rfl rfl (by omega) (kk _ _) (by omega) (by omega)
 ·exact aeI (h:=h) (aeJ _) ((aeK (h.push (.cells (bu c) 110 none))).br (J.push _ _ _)) rfl rfl (by omega) (kk _ _) (by omega) (by omega)
def chgs:List Rec→List Bool→Option (List aF)
 | [],[]=>some []
 | a::b::r,d::e::s=>if d=true∨a.k≠b.k∨b.t≠0 then none else (chgs r s).map fun l=>⟨a.k,a.t,a.v,b.v,e⟩::l
 | _,_=>none
theorem Vy:∀ (r:List Rec) (d:List Bool),r.length≠d.length∨r.length % 2=1→chgs r d=none
 | [],[],h=>by simp at h
 | [],d::s,_=>rfl
 | [a],[],_=>rfl
 | [a],[d],_=>rfl
 | [a],d::e::s,_=>rfl
 | a::b::r,[],_=>rfl
 | a::b::r,[d],_=>rfl
 | a::b::r,d::e::s,h=>by
  unfold chgs;split
  ·rfl
  ·rw [Vy r s (by simp only [ave] at h;omega)];rfl
def L0 (o:Option (List aF)):V:=match o with
 | some l=>.tuple [.ah l.length (l.flatMap bu),.int .i64 0]
 | none=>.tuple [.ah 0 [],.int .i64 5]
theorem asR (o:Option (List aF)):a7 (L0 o):=by
 cases o with
 | none=>exact a7.tuple (a1.cons (a7.ah a1.nil) (a1.cons (a7.int _ _) a1.nil))
 | some l=>exact a7.tuple (a1.cons (a7.ah (AA TF _)) (a1.cons (a7.int _ _) a1.nil))
theorem Vz {l:List Rec} {k:Nat} (hk:k<l.length) {kk:IntKind}:hG ds 25 (.ah l.length (l.flatMap aI)) (.int kk (k:Int))=some (.at (aI l[k]++(l.drop (k+1)).flatMap aI)):=sX zg hk S3
theorem aeL {α:Type} {l:List α} {i:Nat} (h:i+1<l.length):l.drop i=l[i]::l[i+1]::l.drop (i+2):=by
 rw [avk (by omega),avk h]
theorem asS (r:List Rec) (d:List Bool) (h:I) (aL:r.length * 24≤2 ^ 47) (bf:d.length≤2 ^ 47):Pure ds 81 [.ah r.length (r.flatMap aI),.ah d.length (tG d)] h (L0 (chgs r d)):=by
 refine Pure.of (asR _) ?_;refine af.au (c:=_) Tryz.func81 rfl (by kernel_rfl) (by simp) ?_
 by_cases bI:r.length=d.length;rotate_left
 ·have bb:(((r.length:Nat):Int) !=((d.length:Nat):Int))=true:=by simp;omega
  have bk:=Vy r d (.inl bI);simp only [ae,vt,reduceCtorEq,tM,AK,bb,aS,axy,c9];exact ax ⟨_,by rw [bk];exact w1 _ _,J.refl _ _⟩
 have bb:(((r.length:Nat):Int) !=((d.length:Nat):Int))=false:=by simp [bI]
 by_cases VA:r.length % 2=1
 ·have bt:(((r.length:Nat):Int).tmod 2 !=0)=true:=by rw [awD (by omega)];simp;omega
  have bk:=Vy r d (.inr VA);simp only [ae,vt,reduceCtorEq,tM,AK,bb,BH (show (2:Int)≠0 by decide),bt,aS,axy,c9]
  exact ax ⟨_,by rw [bk];exact w1 _ _,J.refl _ _⟩
 have bt:(((r.length:Nat):Int).tmod 2 !=0)=false:=by rw [awD (by omega)];simp;omega
 simp only [ae,vt,reduceCtorEq,tM,AK,bb,BH (show (2:Int)≠0 by decide),bt]
 refine aZ.bQ (α:=V×Nat×List aF) (fun x f h'=>f 0=.ah r.length (r.flatMap aI)∧f 1=.ah d.length (tG d)∧f 6=x.1∧f 7=.int .i64 (2 * x.2.1:Nat)∧Acc h h' 110 5 x.1 (x.2.2.flatMap bu)∧x.2.2.length=x.2.1∧2 * x.2.1≤r.length∧chgs r d=(chgs (r.drop (2 * x.2.1)) (d.drop (2 * x.2.1))).map (x.2.2++·)) (fun x=>r.length - x.2.1) (.ag,0,[])
  ⟨rfl,rfl,rfl,rfl,Acc.nil (J.refl _ _),rfl,Dc _,by simp⟩ ?_
 rintro ⟨v,i,acc⟩ f h1 ⟨f0,f1,f6,f7,cb,aw,hi,bk⟩
 simp only at f6 f7 cb aw hi bk;refine ee (by kernel_rfl) ?_
 by_cases aM:2 * i<r.length;rotate_left
 ·have c3:decide (((2 * i:Nat):Int)<((r.length:Nat):Int))=false:=by simp only [decide_eq_false_iff_not];omega
  rw [avZ (by omega),avZ (by omega)] at bk
  simp only [chgs,avI,avq] at bk;obtain ⟨ad,c,k⟩:=cb.cast (n:=acc.length) (gM zf acc) (by omega)
  simp only [ae,vt,reduceCtorEq,tM,f0,f6,f7,c3,aS,axy,c9];exact ax ⟨ad,by rw [bk];exact aA.tuple (aq.cons c (aq.refl _ _)),k⟩
 ·have c3:decide (((2 * i:Nat):Int)<((r.length:Nat):Int))=true:=by simp only [decide_eq_true_eq];omega
  have h5:2 * i+1<r.length:=by omega
  have ga:2 * i+1<d.length:=by omega
  have cV:IntKind.i64.wrap (((2 * i:Nat):Int)+1)=((2 * i+1:Nat):Int):=by rw [Go.IntWalk.i64_in _ (by omega)];omega
  have bS:IntKind.i64.wrap (((2 * i:Nat):Int)+2)=((2 * (i+1):Nat):Int):=by rw [Go.IntWalk.i64_in _ (by omega)];omega
  have kg:∀ (x:Rec) (q:List V),cO (some (some 3)) (some (aI x++q))=some (.agg (aI x)):=fun x q=>lz (zg x);rw [aeL h5,aeL ga] at bk;have ft:=Vz (kk:=.i64) (show 2 * i<r.length by omega)
  have cy:=Vz (kk:=.i64) h5;have aeM:=RQ (P:=ds) (kk:=.i64) (show 2 * i<d.length by omega) S4
  have Ct:=RQ (P:=ds) (kk:=.i64) ga S4;generalize r[2 * i]=A at *;generalize r[2 * i+1]=B at *;generalize d[2 * i]=D at *;generalize d[2 * i+1]=E at *;simp only [ae,vt,reduceCtorEq,tM,f0,f7,c3];refine aZ.cut (fun bO h'=>∃ p q,p≠q∧p<h'.n∧q<h'.n∧bO 0=.ah r.length (r.flatMap aI)∧bO 1=.ah d.length (tG d)∧bO 6=v∧bO 7=.int .i64 (2 * i:Nat)∧bO 8=.ptr p 0∧bO 9=.ptr q 0∧h'.get p=.cells (aI A) 45 none∧h'.get q=.cells (aI B) 45 none∧Acc h h' 110 5 v (acc.flatMap bu)) ?_ ?_
  ·refine aZ.bB none_ [9,10,11,12] (.q 0 (.q 1 (.q 2 (.q 3 (.q 4 (.q 5 (.q 6 (.q 7 (.q 8 (.e 9 (.e 10 (.e 11 (.a 12 .done) .stop) .stop) (.e 10 (.e 9 (.e 11 (.a 12 .done) .stop) .stop) .stop))))))))))) (by kernel_rfl) (by kernel_rfl) (by kernel_rfl) ?_
   have cm:∀ x:Rec,(V.agg (aI x)).cells=some (aI x):=fun _=>rfl;have dV:∀ (x:Rec),bF (some 3) (aO.cells [.int .i64 0,.int .i64 0,.int .i64 0] 45 none) 0 (aI x)=some (.cells (aI x) 45 none):=fun x=>by
    rw [sR (n:=3) (zg x) (aoA x),if_pos (by decide)];rfl
   simp only [ae,bM,vt,reduceCtorEq,dG,s0,w0,f0,f7,cV,ft,cy,kg,cm,dV];have aeN:∀ a b:aO,Acc h ((h1.push a).push b) 110 5 v (acc.flatMap bu):=fun a b=>(cb.on (J.push _ _ _)).on (J.push _ _ _);refine ⟨ax ⟨rfl,h1.n,h1.n+1,by omega,by simp only [dq];omega,by simp only [dq];omega,f0,f1,f6,f7,rfl,rfl,xD,y5,aeN _ _⟩,
    ax ⟨rfl,h1.n+1,h1.n,by omega,by simp only [dq];omega,by simp only [dq];omega,f0,f1,f6,f7,rfl,rfl,y5,xD,aeN _ _⟩⟩
  ·rintro f ad ⟨p,q,Cy,aU,ab,f0,f1,f6,f7,f8,f9,mW,ON,a2⟩
   simp only [ae];refine aZ.bB none_ [14,15] (.q 0 (.q 1 (.q 2 (.q 3 (.q 4 (.q 5 (.q 6 (.q 7 (.q 8 (.q 9 (.q 10 (.q 11 (.q 12 (.q 13 (.e 14 (.a 15 .done) .stop))))))))))))))) (by kernel_rfl) (by kernel_rfl) (by kernel_rfl) ?_
   simp only [ae,bM,vt,AS,By,B4,Jh,AG,du,py,wd,Cb,AP,f1,f7,f8,f9,mW,ON,aI,cV,Ct];generalize fT:(aO.cells [.int .i64 A.k,.int .i64 A.t,.int .i64 A.v,.int .i64 B.v,.bool E] 110 none)=X;have zS:(ad.push X).get q=.cells (aI B) 45 none:=by rw [lx ab];exact ON
   have FV:(ad.push X).get ad.n=.cells (bu ⟨A.k,A.t,A.v,B.v,E⟩) 110 none:=by rw [ck,←fT];rfl
   have a3:Acc h (ad.push X) 110 5 v (acc.flatMap bu):=a2.on (J.push _ _ _);have n3:ad.n<(ad.push X).n:=by rw [dq];omega
   generalize ad.push X=aD at zS FV a3 n3⊢;have OA:cO (some (some 3)) (some (aI B))=some (.agg (aI B)):=rfl;have lc:cO (some (some 5)) (some (bu ⟨A.k,A.t,A.v,B.v,E⟩))=some (.agg (bu ⟨A.k,A.t,A.v,B.v,E⟩)):=rfl;generalize zb:(⟨A.k,A.t,A.v,B.v,E⟩:aF)=C at FV lc;have A3:(decide (B≠sH C)=true)↔(A.k≠B.k∨B.t≠0):=by
    subst zb;rw [decide_eq_true_iff]
    constructor
    ·intro U;by_cases h1:A.k=B.k
     ·right;intro ad;exact U (by cases B;simp_all [sH])
     ·exact .inl h1
    ·intro U ad;rw [ad] at U;simp [sH] at U
   by_cases DL:D=true
   ·subst DL;have tS:chgs r d=none:=by rw [bk,chgs,if_pos (.inl rfl)];rfl
    refine aZ.bB none_ [] (.q 0 (.q 1 (.q 2 (.q 3 (.q 4 (.q 5 (.q 6 (.c 7 (.q 8 (.q 9 .done)))))))))) (by kernel_rfl) (by kernel_rfl) (by kernel_rfl) ?_
    simp only [ae,bM,vt,py,f1,f7,aeM];refine sV rfl rfl ?_;simp only [ae,bM,vt,aS,axy,c9];exact ax ⟨_,by rw [tS];exact w1 _ _,a3.ai⟩
   ·have aeO:D=false:=by simpa using DL
    subst aeO;refine aZ.bB none_ [] (.q 0 (.q 1 (.q 2 (.q 3 (.q 4 (.q 5 (.q 6 (.c 7 (.q 8 (.q 9 .done)))))))))) (by kernel_rfl) (by kernel_rfl) (by kernel_rfl) ?_
    simp only [ae,bM,vt,vN,py,dG,f1,f7,f9,aeM,zS,FV,OA,lc];refine j6 rfl rfl rfl (fun h' _=>aeH C h') ?_;by_cases hk:(A.k≠B.k∨B.t≠0)
    ·have al:=A3.2 hk;have tS:chgs r d=none:=by rw [bk,chgs,if_pos (.inr hk)];rfl
     simp only [ae,bM,vt,aeG,al,aS,axy,c9];exact ax ⟨_,by rw [tS];exact w1 _ _,a3.ai⟩
    ·have al:decide (B≠sH C)=false:=by
      cases bf:decide (B≠sH C) with
      | false=>rfl
      | true=>exact absurd (A3.1 bf) hk
     rw [chgs,if_neg (by simpa using hk),zb] at bk
     have l8:(acc.flatMap bu).length=acc.length * 5:=gM zf acc;obtain ⟨v4,bn,jt,a4⟩:=a3.xb (P:=ds) (t:=52) (T:=⟨110,[.int .i64 0,.int .i64 0,.int .i64 0,.int .i64 0,.bool false],5,40⟩) NX (by decide) (xs:=bu C) rfl (aag C) (fun m hm=>by
      have gF:m * 5=(acc.flatMap bu).length+5:=hm;rw [l8] at gF;show m * 40≤lim∧m≤lim;unfold lim;omega)
     simp only [ae,bM,vt,vN,f6,f7,FV,lc,aeG,al,aoy,jt,bS];refine ax ⟨(v4,i+1,acc++[C]),⟨f0,f1,rfl,rfl,a4.conv (by simp),by simp only [IS,ave,avi];omega,by simp only;omega,?_⟩,by simp only;omega⟩
     rw [bk,Option.map_map,show 2 * i+2=2 * (i+1) by omega]
     simp [Function.comp_def]
def en (x:bC):List V:=[.int .i64 x.kind,.int .i64 x.task,.int .i64 x.de,.int .i64 x.iu,.int .i64 x.log,.int .i64 x.r.k,.int .i64 x.r.v,.int .i64 x.r.t,.bool x.del,.ag,.ag]
theorem yJ (r:bC):(en r).length=11:=rfl
structure hE where
 c:bq
 n:Int
 q:Int
structure e5 where
 m:eU
 ep:Int
 tx:Int
 offs:List Int
 kept:List bC
 order:List Int
structure oO where
 m:Nat
 b:At
 cz:V
 vk:V
 vr:V
def gE (w:oO) (d:hE) (s:e5):List V:=[.ah d.c.l.length (d.c.l.flatMap an),.int .i64 d.c.p,.int .i64 d.n,.int .i64 d.q,.ptr w.m 0,.ah d.c.ins.length (ar d.c.ins),.int .i64 s.ep,.int .i64 s.tx,w.cz,w.vk,w.vr]
structure fe (h:I) (ow:cG) (id k:Nat) (w:oO) (d:hE) (s:e5):Prop where
 lt:k<h.n
 get:h.get k=.cells (gE w d s) 95 none
 own:ow k=(id+1,1)
 dD:gu h ow id w.m w.b d.c s.m
 o:Own h 3 1 w.cz (ar s.offs)
 ug:Own h 48 11 w.vk (s.kept.flatMap en)
 ro:Own h 3 1 w.vr (ar s.order)
 hZ:nc ow (id+1,2) (gb w.cz)
 kk:nc ow (id+1,3) (gb w.vk)
 kV:nc ow (id+1,4) (gb w.vr)
 C4:w.vk≠.z0
 ER:w.vr≠.z0
section
variable {h h':I} {ow ow':cG} {id k:Nat} {w:oO} {d:hE} {s:e5}
theorem fe.ai {M:Nat→Prop} (t:fe h ow id k w d s) (hk:J h h' M) (hm:∀ q,q<h.n→M q→(ow q).1≠id∧(ow q).1≠id+1) (he:∀ q,q<h.n→ow' q=ow q):fe h' ow' id k w d s :=
 ⟨MC t.lt hk.n,(hk.get k t.lt fun U=>(hm k t.lt U).2 (by rw [t.own])).trans t.get,(he _ t.lt).trans t.own,t.dD.ai hk (fun q ab U=>(hm q ab U).1) he,
  t.o.ai hk fun q ab U=>(hm q (t.o.lt q ab) U).2 (by rw [t.hZ q (am.2 ab)]),t.ug.ai hk fun q ab U=>(hm q (t.ug.lt q ab) U).2 (by rw [t.kk q (am.2 ab)]),t.ro.ai hk fun q ab U=>(hm q (t.ro.lt q ab) U).2 (by rw [t.kV q (am.2 ab)]),
  t.hZ.bx (fun q ab=>t.o.lt q (am.1 ab)) he,t.kk.bx (fun q ab=>t.ug.lt q (am.1 ab)) he,t.kV.bx (fun q ab=>t.ro.lt q (am.1 ab)) he,t.C4,t.ER⟩
theorem fe.br (t:fe h ow id k w d s) (hk:J h h' none_):fe h' ow id k w d s:=t.ai hk (fun _ _ U=>by simp [none_] at U) fun _ _=>rfl
end
theorem fe.u7 {h:I} {ow:cG} {id k:Nat} {w:oO} {d:hE} {s:e5} (lt:k<h.n) (own:ow k=(id+1,1)) (m:gu h ow id w.m w.b d.c s.m)
  (o:Own h 3 1 w.cz (ar s.offs)) (ug:Own h 48 11 w.vk (s.kept.flatMap en)) (ro:Own h 3 1 w.vr (ar s.order)) (hZ:nc ow (id+1,2) (gb w.cz)) (kk:nc ow (id+1,3) (gb w.vk)) (kV:nc ow (id+1,4) (gb w.vr)) (C4:w.vk≠.z0) (ER:w.vr≠.z0) :
  fe (h.set k (.cells (gE w d s) 95 none)) ow id k w d s:=by
 have cY:J h (h.set k (.cells (gE w d s) 95 none)) (·=k):=J.set _ _ _;refine ⟨lt,aT,own,?_,o.ai cY fun q ab U=>?_,ug.ai cY fun q ab U=>?_,ro.ai cY fun q ab U=>?_,hZ,kk,kV,C4,ER⟩
 ·exact m.ai cY (fun q ab U=>by subst U;rw [own];simp) fun _ _=>rfl
 ·have:=hZ q (am.2 ab);rw [U,own] at this;simp at this
 ·have:=kk q (am.2 ab);rw [U,own] at this;simp at this
 ·have:=kV q (am.2 ab);rw [U,own] at this;simp at this
theorem aeP {h:I} {e:TypeId} {sz:Nat} {v:V} {cs:List V} (o:Own h e sz v cs) (ay:cs≠[]):v≠.z0:=by
 rcases o with ⟨_,U⟩ | ⟨i,len,cap,c,ex,rfl,_⟩
 ·exact absurd U ay
 ·exact V.noConfusion
theorem asT {h:I} {v:V} {l:List Int} (o:Own h 3 1 v (ar l)) (bR:v≠.z0) (aw:l.length≤2 ^ 40):af ds 38 [v] h (fun r h'=>Acc h h' 3 1 r (ar l)):=by
 obtain ⟨v1,h1,aC,cb⟩:=Acc.qs (P:=ds) (t:=46) (tx:=46) oU (Vd h) (by decide) (vJ (P:=ds) (t:=46) gy (o.br (J.push _ _ _)) (n:=l.length) (by rw [gi,VU]) (by decide) (It l)) (by rw [gi];exact (VU _).symm) (fun m hm=>by
   change m * 1=(ar []).length+(ar l).length at hm;rw [gi,gi,avi] at hm;exact ⟨by simp only [lim];omega,by simp only [lim];omega⟩)
 have mJ:=Vc h;refine af.au (c:=_) Tryz.func38 rfl (by kernel_rfl) (by simp) ?_
 rcases o with ⟨rfl | rfl,ay⟩ | ⟨i,len,cap,c,ex,rfl,dZ⟩
 ·have e:∀ xo yo,cH ds .eql 46 xo yo .ag .ag=some (.bool true):=fun xo yo=>I0 gy;simp only [ae,vt,reduceCtorEq,e,aS,axx,ac];exact ax (by rw [ay];exact Acc.nil (J.refl _ _))
 ·exact absurd rfl bR
 ·have e:∀ xo yo,cH ds .eql 46 xo yo (.bj i 0 len cap) .ag=some (.bool false):=fun xo yo=>H6 gy (.inl rfl) (.inr ⟨rfl,rfl⟩);simp only [ae,vt,reduceCtorEq,e,mJ,aC,aS,axx,ac];exact ax (cb.conv (by rfl))
theorem asU (h:I):ie ds 29 0 [] h=some (.bj h.n 0 0 0,h.push (.cells [] 48 none)):=by rw [lY Ca];rfl
theorem asV (h:I):Acc h (h.push (.cells [] 48 none)) 48 11 (.bj h.n 0 0 0) (([]:List bC).flatMap en) :=
 ⟨.inr ⟨h.n,0,0,[],none,rfl,Nat.lt_succ_self _,ck,rfl,rfl,.inl ⟨by simp [cj],BY _,BY _⟩⟩,J.push _ _ _,fun k hk=>by simp [a8] at hk;omega⟩
theorem VB (r:bC):(en r).all (·.one)=true:=rfl
theorem asW (l:List bC):(l.flatMap en).all (·.one)=true:=by
 rw [List.all_flatMap];exact List.all_eq_true.2 fun x _=>VB x
theorem L1 {h:I} {v:V} {l:List Int} {e:TypeId} (o:Own h e 1 v (ar l)):i4 v=some l.length:=by
 obtain ⟨n,h1,ad,_⟩:=WU o (by decide)
 rw [gi,VU] at ad;rw [h1,ad]
theorem VC {h:I} {v:V} {e t:TypeId} {sz n:Nat} {cs:List V} (o:Own h e sz v cs) (hk:Ab.ef ds t=some 1) (aU:0<sz) (aG:cs.length=n * sz) (h':I):dS ds t v h'=some (.int .i64 (n:Nat)):=by
 rcases o with ⟨rfl | rfl,rfl⟩ | ⟨i,len,cap,c,ex,rfl,hi,az,hlen,bY,dp⟩
 ·have:n=0:=by
   have aK:n * sz=0:=by simpa using aG.symm
   rcases awz.1 aK with h | h
   ·exact h
   ·omega
  subst this;exact xC hk
 ·have:n=0:=by
   have aK:n * sz=0:=by simpa using aG.symm
   rcases awz.1 aK with h | h
   ·exact h
   ·omega
  subst this;exact y1 hk
 ·have:n=len:=awk aU (aG.symm.trans hlen);subst this;exact y0 hk
theorem VD {h:I} {v:V} {e:TypeId} {l:List Int} (o:Own h e 1 v (ar l)) (h':I):dS ds 46 v h'=some (.int .i64 (l.length:Nat)):=VC o gy (by decide) (by rw [gi,VU]) h'
theorem aeQ {h:I} {v:V} {l:List bC} (o:Own h 48 11 v (l.flatMap en)) (bR:v≠.z0) (aw:l.length≤2 ^ 36):af ds 39 [v] h (fun r h'=>Acc h h' 48 11 r (l.flatMap en)):=by
 obtain ⟨v1,h1,aC,cb⟩:=Acc.qs (P:=ds) (t:=29) (tx:=29) Ca (asV h) (by decide) (vJ (P:=ds) (t:=29) AH (o.br (J.push _ _ _)) (n:=l.length) (gM yJ l) (by decide) (asW l)) (gM yJ l) (fun m hm=>by
   change m * 11=_ at hm;rw [gM yJ,gM yJ,avi] at hm;exact ⟨by simp only [lim];omega,by simp only [lim];omega⟩)
 have mJ:=asU h;refine af.au (c:=_) Tryz.func39 rfl (by kernel_rfl) (by simp) ?_
 rcases o with ⟨rfl | rfl,ay⟩ | ⟨i,len,cap,c,ex,rfl,dZ⟩
 ·have e:∀ xo yo,cH ds .eql 29 xo yo .ag .ag=some (.bool true):=fun xo yo=>I0 AH;simp only [ae,vt,reduceCtorEq,e,aS,aB5,ac];exact ax (by rw [ay];exact Acc.nil (J.refl _ _))
 ·exact absurd rfl bR
 ·have e:∀ xo yo,cH ds .eql 29 xo yo (.bj i 0 len cap) .ag=some (.bool false):=fun xo yo=>H6 AH (.inl rfl) (.inr ⟨rfl,rfl⟩);simp only [ae,vt,reduceCtorEq,e,mJ,aC,aS,aB5,ac];exact ax (cb.conv (by rfl))
theorem Hs (k:Nat) (xo yo:Operand):cH ds .eql 36 xo yo (.ptr k 0) .c8=some (.bool false):=Wr (by kernel_rfl)
theorem Ht (xo yo:Operand):cH ds .eql 36 xo yo .c8 .c8=some (.bool true):=Ws (by kernel_rfl)
section
variable {h h':I} {ow ow':cG} {id k:Nat} {w:oO} {d:hE} {s:e5}
theorem VE (t:fe h ow id k w d s) (aw:s.offs.length≤2 ^ 20):Pure ds 17 [.ptr k 0] h (.ah s.offs.length (ar s.offs)):=by
 have aN:=t.o;refine Pure.of (a7.ah (wV _)) ?_;obtain ⟨h1,ad,cX,dT,e8,jt,tO⟩:=WV (P:=ds) (t:=46) (tx:=46) (k:=.i64) (k':=.i64) (h:=h) oU (L1 aN) (fun h' hk=>by
  obtain ⟨m,f1,f2,f3⟩:=WU (aN.br hk) (by decide)
  rw [L1 aN] at f1;rw [Option.some.inj f1];exact f3) (It _) (by rw [gi];exact (VU _).symm) (by simp only;omega) (by omega)
 have g:=t.get;unfold gE at g;have lo:=VD aN;have g1:=(jt.get k t.lt (by simp [none_])).trans g
 have ne:=Hs k;refine af.au (c:=_) Tryz.func17 rfl (by kernel_rfl) (by simp) ?_
 simp only [ae,vt,AS,By,reduceCtorEq,SO,hz,ne,g,lo,cX,g1,dT,aS,Tryz.results17,ac];obtain ⟨aD,c,b2⟩:=aA.own e8 (n:=s.offs.length) (by rw [gi];exact (VU _).symm) (by decide)
 exact ax ⟨aD,c,tO.trans b2 fun j aV aa=>by simp [a6,a8] at aa;omega⟩
def O4 (s:e5):e5:={ s with kept:=[],order:=[],tx:=IntKind.i64.wrap (s.tx+1) }
theorem aeR (t:fe h ow id k w d s):af ds 13 [.ptr k 0] h (fun r h'=>r=.tuple []∧fe h' ow id k { w with vk:=.ag,vr:=.ag } d (O4 s)∧J h h' (·=k)):=by
 have g:=t.get;unfold gE at g;have ne:=Hs k;refine af.au (c:=_) Tryz.func13 rfl (by kernel_rfl) (by simp) ?_
 have aeS:∀ a b:V,bF (some 1) (aO.cells [.ah d.c.l.length (d.c.l.flatMap an),.int .i64 d.c.p,.int .i64 d.n,.int .i64 d.q,.ptr w.m 0,.ah d.c.ins.length (ar d.c.ins),.int .i64 s.ep,.int .i64 s.tx,w.cz,a,b] 95 none) 9 [.ag]=some (.cells [.ah d.c.l.length (d.c.l.flatMap an),.int .i64 d.c.p,.int .i64 d.n,.int .i64 d.q,.ptr w.m 0,.ah d.c.ins.length (ar d.c.ins),.int .i64 s.ep,.int .i64 s.tx,w.cz,.ag,b] 95 none):=fun _ _=>rfl;simp only [ae,vt,AS,By,reduceCtorEq,SN,NR,DQ,aW,Za,oo,Cc,ne,g,aeS,kQ,Tryz.results13,hK];exact ax ⟨rfl,fe.u7 (w:={ w with vk:=.ag,vr:=.ag }) (s:=O4 s) t.lt t.own t.dD t.o (Own.ag _ _ _) (Own.ag _ _ _) t.hZ (fun q ab=>by cases am.1 ab) (fun q ab=>by cases am.1 ab) V.noConfusion V.noConfusion,J.set _ _ _⟩
end
def aeT (r:Rec):sA:=⟨r.k,r.v,r.t⟩
def qT (d:hE) (s:e5) (k v q:Int) (r:Rec) (del:Bool):bC:=⟨2,d.n,s.ep,s.tx,fl d.c.p d.c.l k v q,aeT r,del,[],[]⟩
def uh (d:hE) (s:e5) (x:bC):e5:={ s with kept:=s.kept++[x] }
theorem VF (h:I) (x:bC):ie ds 29 1 [(0,.agg (en x))] h=some (.bj h.n 0 1 1,h.push (.cells (en x) 48 none)):=by rw [lY Ca];rfl
structure hF (id:Nat) (h:I) (ow:cG) (h':I) (ow':cG):Prop where
 ai:J h h' (fun q=>(ow q).1=id+1)
 bx:∀ q,q<h.n→ow' q=ow q
 bg:Fr h' ow'
theorem hF.refl {id:Nat} {h:I} {ow:cG} (f:Fr h ow):hF id h ow h ow:=⟨J.refl _ _,fun _ _=>rfl,f⟩
theorem hF.trans {id:Nat} {h h1 ad:I} {ow dL fc:cG} (a:hF id h ow h1 dL) (b:hF id h1 dL ad fc):hF id h ow ad fc :=
 ⟨a.ai.trans b.ai fun q ab hm=>by rw [←a.bx q ab];exact hm,fun q ab=>(b.bx q (MC ab a.ai.n)).trans (a.bx q ab),b.bg⟩
theorem hF.push {id:Nat} {h h':I} {ow:cG} (f:Fr h ow) (k:J h h' none_):hF id h ow h' ow:=⟨k.up,fun _ _=>rfl,fun q ab=>f q (OF k.n ab)⟩
section
variable {h:I} {ow:cG} {id k:Nat} {w:oO} {d:hE} {s:e5}
theorem asX (t:fe h ow id k w d s) (f:Fr h ow) (aw:s.kept.length≤2 ^ 36) (x:bC) :
  ∃ v ad,kO ds 29 29 w.vk (.bj h.n 0 1 1) (h.push (.cells (en x) 48 none))=some (v,ad)∧ad.get k=.cells (gE w d s) 95 none∧v.one=true∧v.cells=some [v]∧J h ad (fun q=>a6 w.vk q) ∧
   ∃ ow',fe (ad.set k (.cells (gE { w with vk:=v } d (uh d s x)) 95 none)) ow' id k { w with vk:=v } d (uh d s x)∧hF id h ow (ad.set k (.cells (gE { w with vk:=v } d (uh d s x)) 95 none)) ow':=by
 have b9:J h (h.push (.cells (en x) 48 none)) none_:=J.push _ _ _;obtain ⟨v,ad,fh,hq,my,gW⟩:=arj (P:=ds) (t:=29) (T:=⟨48,[.int .i64 0,.int .i64 0,.int .i64 0,.int .i64 0,.int .i64 0,.int .i64 0,.int .i64 0,.int .i64 0,.bool false,.ag,.ag],11,120⟩) Ca (by decide) (enc:=en) yJ VB AH (by decide) t.ug aw x
 have cY:J h ad (fun q=>(ow q).1=id+1):=b9.up.trans my fun q ab U=>by rw [t.kk q (am.2 U)]
 have dy:=cY.n;have he:∀ q,q<h.n→dj ow h.n ad.n (id+1,3) q=ow q:=fun q ab=>yt ab;have ne:¬a6 w.vk k:=fun U=>by have:=t.kk k (am.2 U);rw [t.own] at this;simp at this
 have aH:v≠.z0:=aeP hq (by simp [en])
 have L2:nc (dj ow h.n ad.n (id+1,3)) (id+1,3) (gb v):=fun q ab=>by
  rcases gW with e | e
  ·have h1:a8 w.vk=some q:=by rw [←e];exact am.1 ab
   rw [yt (t.ug.lt q h1)];exact t.kk q (am.2 h1)
  ·have h1:=e q (am.1 ab);have ad:=hq.lt q (am.1 ab);rw [dq] at h1;exact KS (by omega) ad
 have au1:∀ q,q<h.n→a6 w.vk q→(ow q)=(id+1,3):=fun q _ U=>t.kk q (am.2 U);have oD:J h ad (a6 w.vk):=b9.up.trans' my;have f2:Fr ad (dj ow h.n ad.n (id+1,3)):=fun q ab=>by unfold dj;rw [if_neg (by omega)];exact f q (by omega)
 refine ⟨v,ad,fh,(oD.get k t.lt ne).trans t.get,?_,?_,oD,dj ow h.n ad.n (id+1,3),?_,?_⟩
 ·rcases hq with ⟨rfl | rfl,_⟩ | ⟨_,_,_,_,_,rfl,_⟩<;>rfl
 ·rcases hq with ⟨rfl | rfl,_⟩ | ⟨_,_,_,_,_,rfl,_⟩<;>rfl
 ·refine fe.u7 (w:={ w with vk:=v }) (s:=uh d s x) (MC t.lt dy) ((he _ t.lt).trans t.own) (t.dD.ai cY (fun q ab U=>by rw [U];simp) he) (t.o.ai oD fun q ab U=>?_) hq (t.ro.ai oD fun q ab U=>?_) (t.hZ.bx (fun q ab=>t.o.lt q (am.1 ab)) he) L2 (t.kV.bx (fun q ab=>t.ro.lt q (am.1 ab)) he) aH t.ER
  ·have h1:=t.hZ q (am.2 ab);rw [t.kk q (am.2 U)] at h1;simp at h1
  ·have h1:=t.kV q (am.2 ab);rw [t.kk q (am.2 U)] at h1;simp at h1
 ·exact ⟨cY.trans (J.set _ _ _) fun q ab U=>by rw [U,t.own],he,f2⟩
theorem VG (o:fR d.c) (t:fe h ow id k w d s) (az:jf h) (f:Fr h ow) {ES:Nat} (qk:h.get ES=.cells [.ptr k 0] 36 none) (al:ES<h.n) (ob:ow ES=(0,0)) (aw:s.kept.length≤2 ^ 36) (er v q:Int) (r:Rec) (del:Bool) :
  af ds 91 [.int .i64 er,.int .i64 v,.int .i64 q,.agg (aI r),.bool del,.ptr ES 0] h (fun kV h'=>kV=.tuple []∧∃ w' ow',fe h' ow' id k w' d (uh d s (qT d s er v q r del))∧hF id h ow h' ow'):=by
 refine af.au (c:=_) Tryz.func91 rfl (by kernel_rfl) (by simp) ?_
 have ay:(V.agg (aI r)).cells=some (aI r):=rfl;obtain ⟨H,hH⟩:∃ y,y=h.push (.cells (aI r) 45 none):=⟨_,rfl⟩;have bw:J h H none_:=by rw [hH];exact J.push _ _ _
 have lL:H.get h.n=.cells (aI r) 45 none:=by rw [hH];exact ck
 have ju:H.n=h.n+1:=by rw [hH];rfl
 have jO:=t.br bw;have yA:Fr H ow:=fun q ab=>f q (by omega)
 have r8:=(bw.get ES al (by simp [none_])).trans qk
 have g:=jO.get;unfold gE at g;have nK:V.agg [.ah d.c.l.length (d.c.l.flatMap an),.int .i64 d.c.p]=.agg (cT d.c.l d.c.p):=rfl;obtain ⟨QT,ad,fh,g2,v1,v2,oD,ow',t2,iV⟩:=asX jO yA aw (qT d s er v q r del);simp only [ae,ay];rw [←hH];clear hH;have asY:¬a6 w.vk ES:=fun U=>by have:=t.kk ES (am.2 U);rw [ob] at this;simp at this
 have TI:¬a6 w.vk k:=fun U=>by have:=t.kk k (am.2 U);rw [t.own] at this;simp at this
 have nr:¬a6 w.vk h.n:=fun U=>by have:=t.ug.lt h.n U;omega
 have ra:=az.ai bw;have aeU:∀ h',(J H h' (fun q=>a6 w.vk q)∨h'=H)→jf h':=fun h' hk=>by rcases hk with hk | rfl;exact ra.ai hk;exact ra
 refine aZ.bB (fun q=>a6 w.vk q) [28,29,32] (.q 0 (.q 1 (.q 2 (.q 3 (.q 4 (.q 5 (.q 6 (.q 7 (.q 8 (.q 9 (.q 10 (.q 11 (.q 12 (.q 13 (.q 14 (.q 15 (.q 16 (.q 17 (.q 18 (.q 19 (.q 20 (.q 21 (.q 22 (.q 23 (.c 24 (.q 25 (.q 26 (.q 27 (.e 28 (.e 29 (.q 30 (.q 31 (.a 32 .done))) .stop) .stop))))))))))))))))))))))))))))) (by kernel_rfl) (by kernel_rfl) (by kernel_rfl) ?_
 simp only [ae,bM,eH,vt,AS,By,reduceCtorEq,Jj,YJ,YK,SN,NR,js,YP,aW,DU,r8,g,asY,TI];refine j6 rfl rfl rfl (fun h' hk=>EP d.c.l d.c.p er v q o.ok h' (aeU h' hk)) ?_;have ld:(if 3≤(aI r).length then some (V.agg (avB 3 (aI r))) else none)=some (V.agg [.int .i64 r.k,.int .i64 r.v,.int .i64 r.t]):=rfl
 have zn:=VF H (qT d s er v q r del);have HD:bF (some 1) (aO.cells [.ah d.c.l.length (d.c.l.flatMap an),.int .i64 d.c.p,.int .i64 d.n,.int .i64 d.q,.ptr w.m 0,.ah d.c.ins.length (ar d.c.ins),.int .i64 s.ep,.int .i64 s.tx,w.cz,w.vk,w.vr] 95 none) 9 [QT]=some (.cells [.ah d.c.l.length (d.c.l.flatMap an),.int .i64 d.c.p,.int .i64 d.n,.int .i64 d.q,.ptr w.m 0,.ah d.c.ins.length (ar d.c.ins),.int .i64 s.ep,.int .i64 s.tx,w.cz,QT,w.vr] 95 none):=by
  rw [rU v1];rfl
 unfold qT aeT en at zn fh;simp only at zn fh;unfold gE at g2;simp only [ae,bM,eH,vt,AS,By,NR,dG,NW,Jw,Za,lL,nr,ld,zn,fh,g2,HD,v2,oD,kQ,Tryz.results91,hK];exact ax (show _∧_ from ⟨rfl,_,ow',t2,⟨bw.up.trans iV.ai fun q ab e=>e,fun q ab=>iV.bx q (by omega),iV.bg⟩⟩)
end
def pM (x:b1):Prop:=x.2.verts.length=x.2.chgs.length
theorem O5 {α:Type} (f:b1→α→b1):∀ (l:List α),(∀ a x,pM x→pM (f x a))→∀ x,pM x→pM (l.foldl f x)
 | [],_=>fun x i=>i
 | a::r,h=>fun x i=>O5 f r h (f x a) (h a x i)
theorem aeV (u:Int) (cs:List aF) {x:b1} (i:pM x):pM (kW u cs x):=by
 unfold pM kW at *;simp [i]
theorem aeW {v:bD} {u:Int} {r:Rec} {th:Rec→b1→b1} (h:∀ y x,pM x→pM (th y x)) {x:b1} (i:pM x):pM (qK v u th r x):=by
 unfold qK;split
 ·exact i
 ·exact O5 (fun x y=>th y x) _ h x i
theorem asZ {c:bq} {snd:Int→Rec→b1→b1} (h:∀ u y x,pM x→pM (snd u y x)) (f:Int) (u:Nat) (r:Rec) {x:b1} (i:pM x):pM (su c snd f u r x):=by
 unfold su;split
 ·exact i
 ·have pH:pM (dd x):=i;split
  ·exact pH
  ·split
   ·exact aeW (th:=oF (u:Int)) (fun y x i=>by exact i) pH
   ·split
    ·exact aeW (fun y x i=>h u y x i) pH
    ·split
     ·split
      ·unfold u1;split
       ·exact pH
       ·split
        ·exact pH
        ·exact h _ _ _ (aeV _ _ pH)
      ·exact pH
     ·split
      ·split
       ·unfold yr;split
        ·split
         ·exact h _ _ _ pH
         ·exact pH
        ·exact pH
       ·exact pH
      ·exact pH
theorem aeX {c:bq}:∀ (k:Nat) (v:Int) (r:Rec) (x:b1),pM x→pM (ry c k v r x)
 | 0,v,r=>fun x i=>i
 | k+1,v,r=>fun x i=>O5 (fun x u=>su c (ry c k) v u r x) (c.us v) (fun u x i=>asZ (fun a y x i=>aeX k a y x i) v u r i) x i
theorem as0 {c:bq} (u:Nat) (x:b1) (i:pM x):pM (di c u x):=by
 unfold di;split
 ·exact aeV _ _ i
 ·exact i
theorem as1 {c:bq} (s:eU) (v:Int) (r:Rec):pM (stepT c s v r).1:=by
 unfold stepT;split
 ·rfl
 ·split
  ·rfl
  ·refine O5 (fun x u=>di c u x) _ as0 _ (aeX 24 v r _ ?_);split<;>rfl
theorem as2 {c:bq} (s:eU) {v:Int} (r:Rec) (h:c.ins.contains v=true):(stepT c s v r).2=0:=by
 unfold stepT;rw [if_neg (by rw [h];decide)]
 split<;>rfl
def mG (s:e5) (L:List bC):e5:={ s with kept:=s.kept++L }
theorem as3 (s:e5):mG s []=s:=by cases s;simp [mG]
theorem O6 (d:hE) (s:e5) (L:List bC) (x:bC):uh d (mG s L) x=mG s (L++[x]):=by simp [mG,uh]
def partOf (d:hE) (u key:Int):Int:=if gA d.c.l u=5 then Eu d.c.p d.c.l key else d.q
def zo (d:hE) (s:e5) (o:Int×Rec):bC:=qT d s 0 o.1 (partOf d o.1 o.2.k) o.2 false
def sI (d:hE) (s:e5) (p:Int×aF):List bC:=[qT d s 1 p.1 d.q (w7 p.2) false,qT d s 1 p.1 d.q (sH p.2) p.2.del]
def L3 (d:hE) (s:e5) (x:Int×Rec×Int):bC:=qT d s 2 x.1 d.q x.2.1 false
def m7 (d:hE) (s:e5) (x:fy):List bC:=x.outs.map (zo d s)++(x.verts.zip x.chgs).flatMap (sI d s)++x.deads.map (L3 d s)
theorem L4 {α β:Type} {enc:α→List β} {sz:Nat} (h:∀ a,(enc a).length=sz):∀ l:List α,(l.flatMap enc).length=l.length * sz
 | []=>by simp
 | a::l=>by rw [avj,IS,h,L4 h l,ave,atY];omega
section
variable {h:I} {ow:cG} {id k:Nat} {w:oO} {d:hE} {s:e5}
theorem as4 (o:fR d.c) (t:fe h ow id k w d s) (az:jf h) (f:Fr h ow) (x:fy) (aN:∀ p ∈ x.outs,∃ (u:Nat) (v:bD),p.1=(u:Int)∧d.c.l[u]?=some v∧(v.kind=10∨v.kind=5)) (aH:x.verts.length=x.chgs.length)
  (J6:x.outs.length≤2 ^ 22) (z2:x.chgs.length≤2 ^ 22) (z3:x.deads.length≤2 ^ 22) (aw:s.kept.length≤2 ^ 35) :
  af ds 41 [.ptr k 0,.agg (oI x)] h (fun kV h'=>kV=.tuple []∧∃ w' ow',fe h' ow' id k w' d (mG s (m7 d s x))∧hF id h ow h' ow'):=by
 refine af.au (c:=_) Tryz.func41 rfl (by kernel_rfl) (by simp) ?_
 have ay:(V.agg (oI x)).cells=some [.ah x.outs.length (x.outs.flatMap hO),.ah x.verts.length (ar x.verts),.ah x.chgs.length (x.chgs.flatMap bu),.ah x.deads.length (x.deads.flatMap pF)]:=rfl;obtain ⟨H,hH⟩:∃ y,y=(h.push (.cells [.ptr k 0] 36 none)).push (.cells [.ah x.outs.length (x.outs.flatMap hO),.ah x.verts.length (ar x.verts),.ah x.chgs.length (x.chgs.flatMap bu),.ah x.deads.length (x.deads.flatMap pF)] 101 none):=⟨_,rfl⟩;have bw:J h H none_:=by rw [hH];exact (J.push _ _ _).bH _
 have ju:H.n=h.n+2:=by rw [hH];rfl
 have aeY:H.get h.n=.cells [.ptr k 0] 36 none:=by rw [hH,lx (by rw [dq];omega)];exact ck
 have aeZ:H.get (h.n+1)=.cells [.ah x.outs.length (x.outs.flatMap hO),.ah x.verts.length (ar x.verts),.ah x.chgs.length (x.chgs.flatMap bu),.ah x.deads.length (x.deads.flatMap pF)] 101 none:=by rw [hH];exact ck
 have jO:=t.br bw;have yA:Fr H ow:=fun q ab=>f q (by omega)
 have ra:=az.ai bw;have ob:ow h.n=(0,0):=f _ (BY _);have as5:ow (h.n+1)=(0,0):=f _ (by omega)
 have Hu:∀ {h':I} {ow':cG},hF id H ow h' ow'→h'.get h.n=.cells [.ptr k 0] 36 none:=fun b9=>(b9.ai.get h.n (by omega) (by rw [ob];simp)).trans aeY
 have L5:∀ {h':I} {ow':cG},hF id H ow h' ow'→h'.get (h.n+1)=.cells [.ah x.outs.length (x.outs.flatMap hO),.ah x.verts.length (ar x.verts),.ah x.chgs.length (x.chgs.flatMap bu),.ah x.deads.length (x.deads.flatMap pF)] 101 none:=fun b9=>(b9.ai.get (h.n+1) (by omega) (by rw [as5];simp)).trans aeZ
 simp only [ae,vt,AS,Yu,YM,YS,ay];rw [←hH];clear hH;refine aZ.bQ (α:=Nat×oO×cG) (fun y f h'=>f 2=.ptr h.n 0∧f 3=.ptr (h.n+1) 0∧f 4=.func (.func 91) [] [.ptr h.n 0]∧f 18=.ah x.outs.length (x.outs.flatMap hO)∧f 19=.int .i64 (x.outs.length:Nat)∧f 20=.int .i64 (y.1:Nat)∧y.1≤x.outs.length ∧
   fe h' y.2.2 id k y.2.1 d (mG s ((x.outs.take y.1).map (zo d s)))∧hF id H ow h' y.2.2) (fun y=>x.outs.length - y.1) (0,w,ow)
  ⟨rfl,rfl,rfl,rfl,rfl,rfl,Dc _,by rw [awL,List.map_nil,as3];exact jO,hF.refl yA⟩ ?_
 rintro ⟨i,cV,dL⟩ f h1 ⟨f2,f3,f4,f18,f19,f20,hi,t1,hU⟩
 simp only at f20 hi t1 hU;refine ee (by kernel_rfl) ?_
 have dK:=Hu hU;have cb:=L5 hU;have fv:=hU.ai.n;by_cases aM:i<x.outs.length
 ·have bb:decide ((i:Int)<((x.outs.length:Nat):Int))=true:=decide_eq_true (by omega)
  have oL:=sU aM (by omega)
  have ft:=sX (P:=ds) (kk:=.i64) OH aM ani;obtain ⟨u,v,VH,hu,hk⟩:=aN _ (avb aM);have tv:(x.outs.take (i+1)).map (zo d s)=(x.outs.take i).map (zo d s)++[zo d s x.outs[i]]:=by rw [avt aM,avz];rfl
  generalize x.outs[i]=q at ft VH tv;obtain ⟨zp,⟨cF,rv,rt⟩⟩:=q;simp only at VH;subst VH;have ld:∀ r,cO (some (some 4)) (some (hO ((u:Int),⟨cF,rv,rt⟩)++r))=some (.agg (hO ((u:Int),⟨cF,rv,rt⟩))):=fun r=>lz (OH _);have co:(V.agg (hO ((u:Int),⟨cF,rv,rt⟩))).cells=some [.int .i64 (u:Int),.int .i64 cF,.int .i64 rv,.int .i64 rt]:=rfl;have L6:bF (some 4) (aO.cells [.int .i64 0,.int .i64 0,.int .i64 0,.int .i64 0] 173 none) 0 [.int .i64 (u:Int),.int .i64 cF,.int .i64 rv,.int .i64 rt]=some (.cells [.int .i64 (u:Int),.int .i64 cF,.int .i64 rv,.int .i64 rt] 173 none):=rfl;have c4:gA d.c.l (u:Int)=v.kind:=by unfold gA;rw [avc,hu];rfl
  obtain ⟨kV,sW⟩:=K1 (kk:=.i64) hu;obtain ⟨bK,bs⟩:∃ y,y=h1.push (.cells [.int .i64 (u:Int),.int .i64 cF,.int .i64 rv,.int .i64 rt] 173 none):=⟨_,rfl⟩;have ba:J h1 bK none_:=by rw [bs];exact J.push _ _ _
  have iV:hF id H ow bK dL:=hU.trans (hF.push hU.bg ba);have t2:=t1.br ba;have b7:=Hu iV;have a2:=L5 iV;have go2:bK.get h1.n=.cells [.int .i64 (u:Int),.int .i64 cF,.int .i64 rv,.int .i64 rt] 173 none:=by rw [bs];exact ck
  have g2:=t2.get;unfold gE at g2;have dy:=iV.ai.n;have C5:jf bK:=ra.ai iV.ai;have Hv:=VG o t2 C5 iV.bg b7 (by omega) ((iV.bx _ (by omega)).trans ob) (by simp only [mG,IS,VY,VV];omega) 0 (u:Int)
  have nK:V.agg [.ah d.c.l.length (d.c.l.flatMap an),.int .i64 d.c.p]=.agg (cT d.c.l d.c.p):=rfl;have auy:(if 3≤[V.int .i64 cF,.int .i64 rv,.int .i64 rt].length then some (V.agg (avB 3 [V.int .i64 cF,.int .i64 rv,.int .i64 rt])) else none)=some (V.agg (aI ⟨cF,rv,rt⟩)):=rfl
  have Hm:cP (aO.cells [.int .i64 (u:Int),.int .i64 cF,.int .i64 rv,.int .i64 rt] 173 none) 1=some [.int .i64 cF,.int .i64 rv,.int .i64 rt]:=rfl;have auz:Gq (some 0) (.at (an v++kV))=some (.at (an v++kV)):=rfl;simp only [ae,vt,amQ,DU,Y4,anv,f2,f18,f19,f20,bb,ft,ld,co,L6];rw [←bs];clear bs;simp only [ae,vt,AS,By,NQ,aW,b7,g2];refine aZ.bB none_ [] (.q 0 (.q 1 (.q 2 (.q 3 (.q 4 (.q 5 (.q 6 (.q 7 (.q 8 (.q 9 (.q 10 .done))))))))))) (by kernel_rfl) (by kernel_rfl) (by kernel_rfl) ?_
  have jv:cO (some none) (some (an v++kV))=some (.int .i64 v.kind):=rfl;by_cases B0:v.kind=5
  ·have c5:(v.kind==5)=true:=by simpa using B0
   have Ka:partOf d (u:Int) cF=Eu d.c.p d.c.l cF:=by unfold partOf;rw [c4,if_pos B0]
   simp only [ae,bM,vt,AS,SE,lZ,hd,Jj,mw,aW,DU,f2,b7,g2,go2,sW,jv,c5];refine aZ.bB none_ [] (.q 0 (.q 1 (.q 2 (.q 3 (.q 4 (.q 5 (.q 6 (.c 7 (.q 8 .done))))))))) (by kernel_rfl) (by kernel_rfl) (by kernel_rfl) ?_
   simp only [ae,bM,vt,AS,By,SF,B4,Jj,du,js,DU,f2,b7,g2,go2];refine j6 rfl rfl rfl (fun h' hk=>aqa d.c.l d.c.p cF o.ok h' (by rcases hk with hk | rfl;exact C5.ai hk;exact C5)) ?_
   simp only [ae,bM,vt,AS,SE,SF,aW,dG,f4,go2,Hm];refine cB NK (Hv (Eu d.c.p d.c.l cF) ⟨cF,rv,rt⟩ false) fun r bN ⟨j5,rj,ea,t5,vj⟩=>?_;subst j5;simp only [ae,vt,f20,oL];exact ax ⟨(i+1,rj,ea),⟨f2,f3,f4,f18,f19,rfl,aM,by
    rw [tv,←O6 d];unfold zo;simp only [Ka];exact t5,iV.trans vj⟩,by simp only;omega⟩
  ·have c5:(v.kind==5)=false:=by simpa using B0
   have Ka:partOf d (u:Int) cF=d.q:=by unfold partOf;rw [c4,if_neg B0]
   simp only [ae,bM,vt,AS,By,SE,SF,lZ,hd,Jj,mw,aW,DU,dG,f2,f4,b7,g2,go2,sW,jv,c5];refine cB NK (Hv (d.q) ⟨cF,rv,rt⟩ false) fun r bN ⟨j5,rj,ea,t5,vj⟩=>?_;subst j5;simp only [ae,vt,f20,oL];exact ax ⟨(i+1,rj,ea),⟨f2,f3,f4,f18,f19,rfl,aM,by
    rw [tv,←O6 d];unfold zo;simp only [Ka];exact t5,iV.trans vj⟩,by simp only;omega⟩
 have bb:decide ((i:Int)<((x.outs.length:Nat):Int))=false:=decide_eq_false (by omega)
 have Bk:i=x.outs.length:=by omega
 subst Bk;rw [are (BY _)] at t1;simp only [ae,vt,AS,By,Yv,GM,YR,f3,f19,f20,bb,cb];clear dK fv f18 f19 f20 hi aM;refine aZ.bQ (α:=Nat×oO×cG) (fun y f h'=>f 2=.ptr h.n 0∧f 3=.ptr (h.n+1) 0∧f 4=.func (.func 91) [] [.ptr h.n 0]∧f 56=.ah x.chgs.length (x.chgs.flatMap bu)∧f 57=.int .i64 (x.chgs.length:Nat)∧f 58=.int .i64 (y.1:Nat)∧y.1≤x.chgs.length ∧
   fe h' y.2.2 id k y.2.1 d (mG s (x.outs.map (zo d s)++((x.verts.zip x.chgs).take y.1).flatMap (sI d s)))∧hF id H ow h' y.2.2) (fun y=>x.chgs.length - y.1) (0,cV,dL)
  ⟨f2,f3,f4,rfl,rfl,rfl,Dc _,by simpa using t1,hU⟩ ?_
 clear t1 hU cb f2 f3 f4
 rintro ⟨i,cV,dL⟩ f h1 ⟨f2,f3,f4,f56,f57,f58,hi,t1,hU⟩
 simp only at f58 hi t1 hU;refine ee (by kernel_rfl) ?_
 have dK:=Hu hU;have cb:=L5 hU;have fv:=hU.ai.n;by_cases aM:i<x.chgs.length
 ·have bb:decide ((i:Int)<((x.chgs.length:Nat):Int))=true:=decide_eq_true (by omega)
  have oL:=sU aM (by omega)
  have ft:=aon (kk:=.i64) aM;have oi:i<x.verts.length:=by omega
  have sW:=N7 oi jI;have tv:(x.verts.zip x.chgs).take (i+1)=(x.verts.zip x.chgs).take i++[(x.verts[i],x.chgs[i])]:=by rw [avt (by rw [axz];omega)];simp
  have as6:(((x.verts.zip x.chgs).take i).flatMap (sI d s)).length≤i * 2:=by rw [L4 (enc:=sI d s) (sz:=2) (fun _=>rfl),VV];exact Nat.mul_le_mul_right _ (Nat.min_le_left _ _)
  generalize x.verts[i]=pN at sW tv;generalize x.chgs[i]=ci at ft tv;have ld:∀ r,cO (some (some 5)) (some (bu ci++r))=some (.agg (bu ci)):=fun r=>lz (zf ci);have co:(V.agg (bu ci)).cells=some (bu ci):=rfl;have L6:bF (some 5) (aO.cells [.int .i64 0,.int .i64 0,.int .i64 0,.int .i64 0,.bool false] 110 none) 0 (bu ci)=some (.cells (bu ci) 110 none):=rfl;have dc:∀ U:I,cP (aO.cells (bu ci) 110 none) 0=some (bu ci):=fun _=>rfl;have auA:cO (some (some 5)) (some (bu ci))=some (.agg (bu ci)):=rfl;obtain ⟨bK,bs⟩:∃ y,y=h1.push (.cells (bu ci) 110 none):=⟨_,rfl⟩;have ba:J h1 bK none_:=by rw [bs];exact J.push _ _ _
  have iV:hF id H ow bK dL:=hU.trans (hF.push hU.bg ba);have t2:=t1.br ba;have go2:bK.get h1.n=.cells (bu ci) 110 none:=by rw [bs];exact ck
  simp only [ae,vt,vN,Cb,AP,f56,f57,f58,bb,ft,ld,co,L6];rw [←bs];clear bs;have ae0:(if 5≤(bu ci).length then some (V.agg (avB 5 (bu ci))) else none)=some (.agg (bu ci)):=rfl
  simp only [ae,vt,ae0];refine bW amu (asQ ci bK) ?_;simp only [ae,vt,tM];clear go2 dK cb fv ba t1 hU;refine aZ.bQ (α:=Nat×oO×cG) (fun y f h'=>f 2=.ptr h.n 0∧f 3=.ptr (h.n+1) 0∧f 4=.func (.func 91) [] [.ptr h.n 0]∧f 56=.ah x.chgs.length (x.chgs.flatMap bu)∧f 57=.int .i64 (x.chgs.length:Nat)∧f 58=.int .i64 (i:Nat)∧f 8=.int .i64 (i:Nat) ∧
    f 11=.ah 2 (tG [false,ci.del])∧f 68=.ah 2 ([w7 ci,sH ci].flatMap aI)∧f 69=.int .i64 2∧f 70=.int .i64 (y.1:Nat)∧y.1≤2 ∧
    fe h' y.2.2 id k y.2.1 d (mG s ((x.outs.map (zo d s)++((x.verts.zip x.chgs).take i).flatMap (sI d s))++(sI d s (pN,ci)).take y.1))∧hF id H ow h' y.2.2) (fun y=>2 - y.1) (0,cV,dL)
   ⟨f2,f3,f4,f56,f57,f58,rfl,rfl,rfl,rfl,rfl,Dc _,by rw [awL,avq];exact t2,iV⟩ ?_
  clear t2 iV f2 f3 f4 f56 f57 f58
  rintro ⟨j,j7,ib⟩ f aD ⟨f2,f3,f4,f56,f57,f58,f8,f11,f68,f69,f70,aV,t3,ph⟩
  simp only at f70 aV t3 ph;refine ee (by kernel_rfl) ?_
  have gx:=Hu ph;have a3:=L5 ph;have n3:=ph.ai.n;by_cases tq:j<2
  ·have bt:decide ((j:Int)<2)=true:=decide_eq_true (by omega)
   have as7:=sU tq (by omega)
   have cy:hG ds 25 (.ah 2 ([w7 ci,sH ci].flatMap aI)) (.int .i64 (j:Int))=some (.at (aI [w7 ci,sH ci][j]++([w7 ci,sH ci].drop (j+1)).flatMap aI)):=Vz (l:=[w7 ci,sH ci]) (kk:=.i64) (k:=j) tq;have Ct:=RQ (P:=ds) (l:=[false,ci.del]) (kk:=.i64) (k:=j) tq S4;rw [show [false,ci.del].length=2 from rfl] at Ct
   have Cn:(sI d s (pN,ci)).take (j+1)=(sI d s (pN,ci)).take j++[qT d s 1 pN d.q [w7 ci,sH ci][j] [false,ci.del][j]]:=by
    rw [avt (show j<(sI d s (pN,ci)).length from tq)]
    have:j=0∨j=1:=by omega
    rcases this with rfl | rfl<;>rfl
   have au2:((sI d s (pN,ci)).take j).length≤2:=by rw [VV];exact Nat.min_le_right _ _
   generalize [w7 ci,sH ci][j]=R at cy Cn;generalize [false,ci.del][j]=D at Ct Cn;have kg:∀ q,cO (some (some 3)) (some (aI R++q))=some (.agg (aI R)):=fun q=>lz (zg R);have Oc:(V.agg (aI R)).cells=some (aI R):=rfl;have as8:bF (some 3) (aO.cells [.int .i64 0,.int .i64 0,.int .i64 0] 45 none) 0 (aI R)=some (.cells (aI R) 45 none):=rfl;have fw:(if 3≤(aI R).length then some (V.agg (avB 3 (aI R))) else none)=some (.agg (aI R)):=rfl
   have ae1:cO (some (some 3)) (some (aI R))=some (.agg (aI R)):=rfl;have Hm:cP (aO.cells (aI R) 45 none) 0=some (aI R):=rfl;obtain ⟨hY,iq⟩:∃ y,y=aD.push (.cells (aI R) 45 none):=⟨_,rfl⟩;have db:J aD hY none_:=by rw [iq];exact J.push _ _ _
   have oN:hF id H ow hY ib:=ph.trans (hF.push ph.bg db);have t4:=t3.br db;have ae2:hY.get aD.n=.cells (aI R) 45 none:=by rw [iq];exact ck
   have oY:=Hu oN;have a4:=L5 oN;have n4:=oN.ai.n;have g4:=t4.get;unfold gE at g4;have Hv:=VG o t4 (ra.ai oN.ai) oN.bg oY (by omega) ((oN.bx _ (by omega)).trans ob) (by simp only [mG,IS,VY];omega) 1 pN d.q R D
   simp only [ae,vt,dG,s0,w0,f68,f69,f70,bt,cy,kg,Oc,as8];rw [←iq];clear iq;refine aZ.BU (fun q=>(ib q).1=id+1) [15] (.q 0 (.q 1 (.q 2 (.q 3 (.q 4 (.q 5 (.q 6 (.q 7 (.q 8 (.q 9 (.q 10 (.q 11 (.q 12 (.q 13 (.q 14 (.a 15 .done)))))))))))))))) (by kernel_rfl) (by kernel_rfl) (by kernel_rfl) ?_
   simp only [ae,bM,eH,vt,AS,By,SB,NQ,aW,DU,py,dG,hz,f2,f3,f4,f8,f11,a4,oY,g4,ae2,sW,Ct,ae1,Hm];refine cB NK Hv fun r bN ⟨j5,rj,ea,t5,vj⟩=>?_;subst j5;have jL:=vj.ai;simp only [ae,bM,eH,vt,f70,as7];exact ax ⟨(j+1,rj,ea),⟨f2,f3,f4,f56,f57,f58,f8,f11,f68,f69,rfl,tq,by
    rw [Cn,←au8,←O6 d];exact t5,oN.trans vj⟩,by simp only;omega⟩
  have bt:decide ((j:Int)<2)=false:=decide_eq_false (by omega)
  have L7:j=2:=by omega
  subst L7;simp only [ae,vt,SC,SZ,f3,f58,f69,f70,bt,oL];exact ax ⟨(i+1,j7,ib),⟨f2,f3,f4,f56,f57,rfl,aM,by
   rw [show (sI d s (pN,ci)).take 2=sI d s (pN,ci) from rfl] at t3
   rw [tv,avH,←au8,avj,axc,avq];exact t3,ph⟩,by simp only;omega⟩
 have bb:decide ((i:Int)<((x.chgs.length:Nat):Int))=false:=decide_eq_false (by omega)
 have Bk:i=x.chgs.length:=by omega
 subst Bk;rw [are (by rw [axz];omega)] at t1
 simp only [ae,vt,AS,By,SC,YN,SZ,f3,f57,f58,bb,cb];clear dK fv f56 f57 f58 hi aM;refine aZ.bQ (α:=Nat×oO×cG) (fun y f h'=>f 2=.ptr h.n 0∧f 3=.ptr (h.n+1) 0∧f 4=.func (.func 91) [] [.ptr h.n 0]∧f 94=.ah x.deads.length (x.deads.flatMap pF)∧f 95=.int .i64 (x.deads.length:Nat)∧f 96=.int .i64 (y.1:Nat)∧y.1≤x.deads.length ∧
   fe h' y.2.2 id k y.2.1 d (mG s (x.outs.map (zo d s)++(x.verts.zip x.chgs).flatMap (sI d s)++(x.deads.take y.1).map (L3 d s)))∧hF id H ow h' y.2.2) (fun y=>x.deads.length - y.1) (0,cV,dL)
  ⟨f2,f3,f4,rfl,rfl,rfl,Dc _,by simpa using t1,hU⟩ ?_
 clear t1 hU cb f2 f3 f4
 rintro ⟨i,cV,dL⟩ f h1 ⟨f2,f3,f4,f94,f95,f96,hi,t1,hU⟩
 simp only at f96 hi t1 hU;refine ee (by kernel_rfl) ?_
 by_cases aM:i<x.deads.length
 ·have bb:decide ((i:Int)<((x.deads.length:Nat):Int))=true:=decide_eq_true (by omega)
  have oL:=sU aM (by omega)
  have ft:=sX (P:=ds) (kk:=.i64) OI aM anj;have tv:(x.deads.take (i+1)).map (L3 d s)=(x.deads.take i).map (L3 d s)++[L3 d s x.deads[i]]:=by rw [avt aM,avz];rfl
  generalize x.deads[i]=q at ft tv;obtain ⟨zp,⟨cF,rv,rt⟩,C6⟩:=q;have ld:∀ r,cO (some (some 5)) (some (pF (zp,⟨cF,rv,rt⟩,C6)++r))=some (.agg (pF (zp,⟨cF,rv,rt⟩,C6))):=fun r=>lz (OI _);have co:(V.agg (pF (zp,⟨cF,rv,rt⟩,C6))).cells=some [.int .i64 zp,.int .i64 cF,.int .i64 rv,.int .i64 rt,.int .i64 C6]:=rfl;have L6:bF (some 5) (aO.cells [.int .i64 0,.int .i64 0,.int .i64 0,.int .i64 0,.int .i64 0] 177 none) 0 [.int .i64 zp,.int .i64 cF,.int .i64 rv,.int .i64 rt,.int .i64 C6]=some (.cells [.int .i64 zp,.int .i64 cF,.int .i64 rv,.int .i64 rt,.int .i64 C6] 177 none):=rfl;obtain ⟨bK,bs⟩:∃ y,y=h1.push (.cells [.int .i64 zp,.int .i64 cF,.int .i64 rv,.int .i64 rt,.int .i64 C6] 177 none):=⟨_,rfl⟩;have ba:J h1 bK none_:=by rw [bs];exact J.push _ _ _
  have iV:hF id H ow bK dL:=hU.trans (hF.push hU.bg ba);have t2:=t1.br ba;have b7:=Hu iV;have go2:bK.get h1.n=.cells [.int .i64 zp,.int .i64 cF,.int .i64 rv,.int .i64 rt,.int .i64 C6] 177 none:=by rw [bs];exact ck
  have g2:=t2.get;unfold gE at g2;have dy:=iV.ai.n;have as6:((x.verts.zip x.chgs).flatMap (sI d s)).length≤2 ^ 23:=by rw [L4 (enc:=sI d s) (sz:=2) (fun _=>rfl),axz];omega
  have Hv:=VG o t2 (ra.ai iV.ai) iV.bg b7 (by omega) ((iV.bx _ (by omega)).trans ob) (by simp only [mG,IS,VY,VV];omega) 2 zp d.q ⟨cF,rv,rt⟩ false
  simp only [ae,vt,amR,Y5,anw,f94,f95,f96,bb,ft,ld,co,L6];rw [←bs];clear bs;refine aZ.BU (fun q=>(dL q).1=id+1) [9] (.q 0 (.q 1 (.q 2 (.q 3 (.q 4 (.q 5 (.q 6 (.q 7 (.q 8 (.a 9 .done)))))))))) (by kernel_rfl) (by kernel_rfl) (by kernel_rfl) ?_
  simp only [ae,bM,eH,vt,AS,By,amB,amC,NQ,aW,DU,dG,f2,f4,b7,g2,go2];refine cB NK Hv fun r bN ⟨j5,rj,ea,t5,vj⟩=>?_;subst j5;have jL:=vj.ai;simp only [ae,bM,eH,vt,f96,oL];exact ax ⟨(i+1,rj,ea),⟨f2,f3,f4,f94,f95,rfl,aM,by
   rw [tv,←au8,←O6 d];exact t5,iV.trans vj⟩,by simp only;omega⟩
 have bb:decide ((i:Int)<((x.deads.length:Nat):Int))=false:=decide_eq_false (by omega)
 have Bk:i=x.deads.length:=by omega
 subst Bk;rw [are (BY _)] at t1;simp only [ae,f95,f96,bb,kQ,Tryz.results41,hK];exact ax ⟨rfl,cV,dL,t1,⟨bw.up.trans hU.ai fun q ab e=>e,fun q ab=>hU.bx q (by omega),hU.bg⟩⟩
end
structure pj (id:Nat) (h:I) (ow:cG) (h':I) (ow':cG):Prop where
 ai:J h h' (fun q=>(ow q).1=id∨(ow q).1=id+1)
 bx:∀ q,q<h.n→ow' q=ow q
 bg:Fr h' ow'
theorem pj.refl {id:Nat} {h:I} {ow:cG} (f:Fr h ow):pj id h ow h ow:=⟨J.refl _ _,fun _ _=>rfl,f⟩
theorem pj.trans {id:Nat} {h h1 ad:I} {ow dL fc:cG} (a:pj id h ow h1 dL) (b:pj id h1 dL ad fc):pj id h ow ad fc :=
 ⟨a.ai.trans b.ai fun q ab hm=>by rw [←a.bx q ab];exact hm,fun q ab=>(b.bx q (MC ab a.ai.n)).trans (a.bx q ab),b.bg⟩
theorem pj.push {id:Nat} {h h':I} {ow:cG} (f:Fr h ow) (k:J h h' none_):pj id h ow h' ow:=⟨k.up,fun _ _=>rfl,fun q ab=>f q (OF k.n ab)⟩
theorem hF.QU {id:Nat} {h h':I} {ow ow':cG} (a:hF id h ow h' ow'):pj id h ow h' ow':=⟨a.ai.mono fun _ e=>.inr e,a.bx,a.bg⟩
section
variable {h h':I} {ow ow':cG} {id k:Nat} {w:oO} {d:hE} {s:e5}
theorem fe.O7 (t:fe h ow id k w d s) (hk:J h h' (fun q=>(ow q).1=id)) (he:∀ q,q<h.n→ow' q=ow q) {m2:eU} (fp:gu h' ow' id w.m w.b d.c m2):fe h' ow' id k w d { s with m:=m2 } :=
 ⟨MC t.lt hk.n,(hk.get k t.lt (by rw [t.own];simp)).trans t.get,(he _ t.lt).trans t.own,fp,
  t.o.ai hk (fun q ab U=>by rw [t.hZ q (am.2 ab)] at U;simp at U),t.ug.ai hk (fun q ab U=>by rw [t.kk q (am.2 ab)] at U;simp at U),t.ro.ai hk (fun q ab U=>by rw [t.kV q (am.2 ab)] at U;simp at U),
  t.hZ.bx (fun q ab=>t.o.lt q (am.1 ab)) he,t.kk.bx (fun q ab=>t.ug.lt q (am.1 ab)) he,t.kV.bx (fun q ab=>t.ro.lt q (am.1 ab)) he,t.C4,t.ER⟩
theorem fe.qh (t:fe h ow id k w d s) (hk:J h h' (a6 w.cz)) {FW:List Int} (o':Own h' 3 1 w.cz (ar FW)):fe h' ow id k w d { s with offs:=FW }:=by
 have aN:∀ q,a6 w.cz q→ow q=(id+1,2):=fun q U=>t.hZ q (am.2 U);exact ⟨MC t.lt hk.n,(hk.get k t.lt fun U=>by have:=aN k U;rw [t.own] at this;simp at this).trans t.get,t.own,t.dD.ai hk (fun q ab U=>by rw [aN q U];simp) fun _ _=>rfl,
  o',t.ug.ai hk (fun q ab U=>by have h1:=t.kk q (am.2 ab);rw [aN q U] at h1;simp at h1),t.ro.ai hk (fun q ab U=>by have h1:=t.kV q (am.2 ab);rw [aN q U] at h1;simp at h1),t.hZ,t.kk,t.kV,t.C4,t.ER⟩
theorem as9 (h:I) (a:Int):ie ds 46 1 [(0,.int .i64 a)] h=some (.bj h.n 0 1 1,h.push (.cells [.int .i64 a] 3 none)):=by rw [lY oU];rfl
theorem ata (t:fe h ow id k w d s) (f:Fr h ow) (aw:s.order.length≤2 ^ 36) (x:Int) :
  ∃ v ad,kO ds 46 46 w.vr (.bj h.n 0 1 1) (h.push (.cells [.int .i64 x] 3 none))=some (v,ad)∧ad.get k=.cells (gE w d s) 95 none∧v.one=true∧v.cells=some [v]∧J h ad (fun q=>a6 w.vr q) ∧
   ∃ ow',fe (ad.set k (.cells (gE { w with vr:=v } d { s with order:=s.order++[x] }) 95 none)) ow' id k { w with vr:=v } d { s with order:=s.order++[x] }∧hF id h ow (ad.set k (.cells (gE { w with vr:=v } d { s with order:=s.order++[x] }) 95 none)) ow':=by
 have b9:J h (h.push (.cells [.int .i64 x] 3 none)) none_:=J.push _ _ _;have lo:(ar s.order).length=s.order.length:=gi _;have gK:Own (h.push (.cells [V.int .i64 x] 3 none)) 3 1 (.bj h.n 0 1 1) [V.int .i64 x]:=Own.eZ [V.int .i64 x] 1 rfl (by decide)
 have dR:=vJ (P:=ds) (t:=46) gy gK (n:=1) rfl (by decide) rfl
 obtain ⟨v,ad,fh,hq,my,gW⟩:=vI (P:=ds) (t:=46) (tx:=46) oU (by decide) (t.ro.br b9) dR rfl (fun m hm=>by
  change m * 1=_ at hm;rw [lo] at hm;simp at hm;exact ⟨by simp only [lim];omega,by simp only [lim];omega⟩)
 have hq:Own ad 3 1 v (ar (s.order++[x])):=by rw [show ar (s.order++[x])=ar s.order++[V.int .i64 x] from avz];exact hq
 have oD:J h ad (a6 w.vr):=b9.up.trans' my;have dy:=oD.n;have he:∀ q,q<h.n→dj ow h.n ad.n (id+1,4) q=ow q:=fun q ab=>yt ab;have aL:∀ q,a6 w.vr q→ow q=(id+1,4):=fun q U=>t.kV q (am.2 U);have ne:¬a6 w.vr k:=fun U=>by have:=aL k U;rw [t.own] at this;simp at this
 have cY:J h ad (fun q=>(ow q).1=id+1):=oD.mono fun q U=>by rw [aL q U]
 have aH:v≠.z0:=aeP hq (by simp [ar])
 have L2:nc (dj ow h.n ad.n (id+1,4)) (id+1,4) (gb v):=fun q ab=>by
  rcases gW with e | e
  ·have h1:a8 w.vr=some q:=by rw [←e];exact am.1 ab
   rw [yt (t.ro.lt q h1)];exact aL q h1
  ·have h1:=e q (am.1 ab);have ad:=hq.lt q (am.1 ab);rw [dq] at h1;exact KS (by omega) ad
 have f2:Fr ad (dj ow h.n ad.n (id+1,4)):=fun q ab=>by unfold dj;rw [if_neg (by omega)];exact f q (by omega)
 refine ⟨v,ad,fh,(oD.get k t.lt ne).trans t.get,?_,?_,oD,dj ow h.n ad.n (id+1,4),?_,?_⟩
 ·rcases hq with ⟨rfl | rfl,_⟩ | ⟨_,_,_,_,_,rfl,_⟩<;>rfl
 ·rcases hq with ⟨rfl | rfl,_⟩ | ⟨_,_,_,_,_,rfl,_⟩<;>rfl
 ·refine fe.u7 (w:={ w with vr:=v }) (s:={ s with order:=s.order++[x] }) (MC t.lt dy) ((he _ t.lt).trans t.own) (t.dD.ai cY (fun q ab U=>by rw [U];simp) he) (t.o.ai oD fun q ab U=>?_) (t.ug.ai oD fun q ab U=>?_) hq (t.hZ.bx (fun q ab=>t.o.lt q (am.1 ab)) he) (t.kk.bx (fun q ab=>t.ug.lt q (am.1 ab)) he) L2 t.C4 aH
  ·have h1:=t.hZ q (am.2 ab);rw [aL q U] at h1;simp at h1
  ·have h1:=t.kk q (am.2 ab);rw [aL q U] at h1;simp at h1
 ·exact ⟨cY.trans (J.set _ _ _) fun q ab U=>by rw [U,t.own],he,f2⟩
end
def L8 (r:sA):Rec:=⟨r.k,r.v,r.t⟩
def vl (d:hE) (dE:sE) (v:Int):List dM:=logAt dE.logs (fl d.c.p d.c.l 0 v d.q)
def C7 (d:hE) (s:e5) (i v a:Int) (r:Rec):e5 :=
 { s with m:=(stepT d.c s.m v r).1.1,offs:=s.offs.set i.toNat (a+1),order:=s.order++[i],kept:=s.kept++m7 d s (stepT d.c s.m v r).1.2 }
def l2 (d:hE) (s:e5) (dE:sE) (i:Int):e5×Bool×Int :=
 if i<0∨(d.c.ins.length:Int)≤i then (s,false,1) else
 match (vl d dE (d.c.ins.getD i.toNat 0))[(s.offs.getD i.toNat 0).toNat]? with
 | none=>(s,false,0)
 | some r=>if s.offs.getD i.toNat 0<0 then (s,false,0) else if 256≤s.order.length then (s,false,3) else (C7 d s i (d.c.ins.getD i.toNat 0) (s.offs.getD i.toNat 0) (L8 r.1),true,0)
theorem RP {l:List Int} {k:Nat} (hk:k<(ar l).length):(ar l)[k]=.int .i64 (l[k]'(by rwa [gi] at hk)):=by simp [ar]
theorem Nh (l:List Int) (k:Nat) (x:Int):(ar l).set k (.int .i64 x)=ar (l.set k x):=by unfold ar;rw [List.map_set]
theorem atb {l:List dM} {k:Nat} (hk:k<l.length) {kk:IntKind}:hG ds 25 (.ah l.length (eF l)) (.int kk (k:Int))=some (.at (aI (L8 l[k].1)++eF (l.drop (k+1)))):=sX (enc:=fun p:dM=>jU p.1) (fun _=>rfl) hk S3
section
variable {h h':I} {ow ow':cG} {id k:Nat} {w:oO} {d:hE} {s:e5}
theorem L9 (o:fR d.c) (t:fe h ow id k w d s) (s6:zl d.c s.m) (az:jf h) (bg:Fr h ow) (aK:id≠0) (dE:sE) (vm:qS dE) (atc:s.offs.length=d.c.ins.length) (aw:s.kept.length≤2 ^ 34) (uM:s.order.length≤256) (i:Int) :
  af ds 14 [.ptr k 0,.agg (cu dE),.int .i64 i] h (fun r h'=>r=.tuple [.bool (l2 d s dE i).2.1,.int .i64 (l2 d s dE i).2.2]∧∃ w' ow',fe h' ow' id k w' d (l2 d s dE i).1∧pj id h ow h' ow'):=by
 refine af.au (c:=_) Tryz.func14 rfl (by kernel_rfl) (by simp) ?_
 have ay:(V.agg (cu dE)).cells=some (cu dE):=rfl;obtain ⟨H,hH⟩:∃ y,y=h.push (.cells (cu dE) 34 none):=⟨_,rfl⟩;have bw:J h H none_:=by rw [hH];exact J.push _ _ _
 have ju:H.n=h.n+1:=by rw [hH];rfl
 have ae3:H.get h.n=.cells (cu dE) 34 none:=by rw [hH];exact ck
 have jO:=t.br bw;have yA:Fr H ow:=fun q ab=>bg q (by omega)
 have ra:=az.ai bw;have z6:pj id h ow H ow:=pj.push bg bw;have g:=jO.get;unfold gE at g;have ne:=Hs k;have afR:=Ld o;simp only [ae,vt,reduceCtorEq,amO,ay];rw [←hH];clear hH;by_cases i0:i<0
 ·have mm:decide (i<0)=true:=decide_eq_true i0;have e:l2 d s dE i=(s,false,1):=by unfold l2;rw [if_pos (.inl i0)]
  simp only [ae,vt,mm,aS,awI,c9];exact ax ⟨by rw [e],w,ow,by rw [e];exact jO,z6⟩
 have mm:decide (i<0)=false:=decide_eq_false i0;by_cases i1:(d.c.ins.length:Int)≤i
 ·have bb:decide (((d.c.ins.length:Nat):Int)≤i)=true:=decide_eq_true i1;have e:l2 d s dE i=(s,false,1):=by unfold l2;rw [if_pos (.inr i1)]
  simp only [ae,vt,AS,By,reduceCtorEq,SM,gy,hz,mm,g,bb,aS,awI,c9];exact ax ⟨by rw [e],w,ow,by rw [e];exact jO,z6⟩
 have bb:decide (((d.c.ins.length:Nat):Int)≤i)=false:=decide_eq_false i1;obtain ⟨n,rfl⟩:=axr (show 0≤i by omega)
 have aG:n<d.c.ins.length:=by omega
 have eh:n<s.offs.length:=by omega
 have w8:l2 d s dE n=(match (vl d dE d.c.ins[n])[(s.offs[n]).toNat]? with
  | none=>(s,false,0)
  | some r=>if s.offs[n]<0 then (s,false,0) else if 256≤s.order.length then (s,false,3) else (C7 d s n d.c.ins[n] s.offs[n] (L8 r.1),true,0)):=by
  unfold l2;rw [if_neg (by omega),avc,aCb,aCb,ME aG,ME eh]
  rfl
 have cU:d.c.ins.contains d.c.ins[n]=true:=List.contains_iff_mem.2 (avb aG);have ae4:=N7 aG jI;obtain ⟨io,cX,dT,⟨qr,e8⟩,_⟩:=Nb (P:=ds) (kk:=.i64) jI jO.o (k:=n) (by rw [gi];exact eh)
 rw [RP] at e8;obtain ⟨pN,Cr⟩:∃ x,x=d.c.ins[n]:=⟨_,rfl⟩;obtain ⟨ET,QV⟩:∃ x,x=s.offs[n]:=⟨_,rfl⟩;rw [←Cr] at ae4 w8 cU;rw [←QV] at e8 w8;simp only [ae,vt,AS,By,reduceCtorEq,SM,gy,hz,mm,g,bb];refine aZ.bB none_ [] (.q 0 (.q 1 (.q 2 (.q 3 (.q 4 (.q 5 (.q 6 (.q 7 (.q 8 (.q 9 (.q 10 (.q 11 (.q 12 (.q 13 (.q 14 (.q 15 .done)))))))))))))))) (by kernel_rfl) (by kernel_rfl) (by kernel_rfl) ?_
 simp only [ae,bM,vt,AS,By,reduceCtorEq,SM,SO,aW,hz,g,ae4,cX,e8];refine aZ.bB none_ [] (.q 0 (.q 1 (.q 2 (.q 3 (.q 4 (.q 5 (.q 6 (.q 7 (.q 8 (.q 9 (.c 10 (.c 11 (.q 12 (.q 13 .done)))))))))))))) (by kernel_rfl) (by kernel_rfl) (by kernel_rfl) ?_
 have pD:(if 3≤(cu dE).length then some (V.agg (avB 3 (cu dE))) else none)=some (.agg (cu dE)):=rfl
 have d0:cP (aO.cells (cu dE) 34 none) 0=some (cu dE):=rfl;have nR:cO (some (some 3)) (some (cu dE))=some (.agg (cu dE)):=rfl;simp only [ae,bM,vt,AS,By,reduceCtorEq,Jj,NQ,js,aW,vO,g,ae3,d0,nR];refine j6 rfl rfl rfl (fun h' hk=>EP d.c.l d.c.p 0 pN d.q o.ok h' (by rcases hk with hk | rfl;exact ra.ai hk;exact ra)) ?_
 simp only [bM];refine j6 rfl rfl rfl (fun h' hk=>aes dE vm (fl d.c.p d.c.l 0 pN d.q) h') ?_;obtain ⟨rs,rP⟩:∃ x,x=vl d dE pN:=⟨_,rfl⟩;have VI:logAt dE.logs (fl d.c.p d.c.l 0 pN d.q)=rs:=rP.symm;have E6:rs.length≤2 ^ 30:=by
  rw [rP];unfold vl logAt;cases av:dE.logs.find? (fun c=>c.1==fl d.c.p d.c.l 0 pN d.q) with
  | none=>simp
  | some c=>exact vm.2.2.1 c (List.mem_of_find?_eq_some av)
 rw [←rP] at w8;have f90:∀ q,(b6 (q,rs))[1]?=some (.ah rs.length (eF rs)):=fun _=>rfl;simp only [ae,bM,vt,anb,VI,f90];by_cases a0:ET<0
 ·have kN:decide (ET<0)=true:=decide_eq_true a0;have e:l2 d s dE n=(s,false,0):=by
   rw [w8];split
   ·rfl
   ·rw [if_pos a0]
  simp only [ae,vt,kN,aS,awI,c9];exact ax ⟨by rw [e],w,ow,by rw [e];exact jO,z6⟩
 have kN:decide (ET<0)=false:=decide_eq_false a0;by_cases cb:(rs.length:Int)≤ET
 ·have rK:decide (((rs.length:Nat):Int)≤ET)=true:=decide_eq_true cb;have e:l2 d s dE n=(s,false,0):=by rw [w8,List.getElem?_eq_none (by omega)]
  simp only [ae,vt,tM,kN,rK,aS,awI,c9];exact ax ⟨by rw [e],w,ow,by rw [e];exact jO,z6⟩
 have rK:decide (((rs.length:Nat):Int)≤ET)=false:=decide_eq_false cb;obtain ⟨a,aP⟩:=axr (show 0≤ET by omega)
 have rD:a<rs.length:=by omega
 rw [aP] at kN rK w8 e8;rw [avc,ME rD] at w8;simp only [if_neg (show ¬((a:Int)<0) by omega)] at w8
 have lo:=VD jO.ro;simp only [ae,vt,AS,By,reduceCtorEq,DQ,tM,hz,aP,kN,rK,g,lo];by_cases or:256≤s.order.length
 ·have cc:decide ((256:Int)≤((s.order.length:Nat):Int))=true:=decide_eq_true (by omega)
  have e:l2 d s dE n=(s,false,3):=by rw [w8,if_pos or]
  simp only [ae,vt,cc,aS,awI,c9];exact ax ⟨by rw [e],w,ow,by rw [e];exact jO,z6⟩
 have cc:decide ((256:Int)≤((s.order.length:Nat):Int))=false:=decide_eq_false (by omega)
 rw [if_neg or] at w8;have ae5:=atb (kk:=.i64) rD;obtain ⟨R,eC⟩:∃ R,R=L8 rs[a].1:=⟨_,rfl⟩;rw [←eC] at w8 ae5;have LJ:∀ q,cO (some (some 3)) (some (aI R++q))=some (.agg (aI R)):=fun q=>lz (zg R);obtain ⟨Y,oT⟩:∃ Y,Y=stepT d.c s.m pN R:=⟨_,rfl⟩;have QW:Y.2=0:=by rw [oT];exact as2 s.m R cU
 simp only [ae,cc];refine aZ.cut (fun bO zi=>bO 0=.ptr k 0∧bO 2=.int .i64 (n:Int) ∧
   ∃ xR ea,bO 11=.ptr xR 0∧bO 12=.int .i64 0∧yE id w.m w.b d.c H ow Y.1.1 Y.1.2 xR zi ea) ?_ ?_
 ·refine aZ.bB (fun q=>(ow q).1=id) [9,13,14] (.q 0 (.q 1 (.q 2 (.q 3 (.q 4 (.q 5 (.q 6 (.q 7 (.q 8 (.e 9 (.q 10 (.q 11 (.q 12 (.e 13 (.e 14 (.q 15 .done) .stop) .stop)))) (.e 13 (.e 9 (.q 10 (.q 11 (.q 12 (.e 14 (.q 15 .done) .stop)))) .stop) .stop))))))))))) (by kernel_rfl) (by kernel_rfl) (by kernel_rfl) ?_
  have mk:¬(ow k).1=id:=by rw [t.own];simp
  have nP:(if 3≤(aI R).length then some (V.agg (avB 3 (aI R))) else none)=some (.agg (aI R)):=rfl
  simp only [ae,bM,eH,vt,AS,By,reduceCtorEq,amJ,dG,xZ,v6,g,ae5,LJ,mk];refine ⟨?_,?_⟩
  ·have c2:=acG o jO.dD s6.aQ s6.wf yA ra.1 aK pN R;rw [←oT] at c2;refine cB Yg c2 fun r bN ⟨j5,ea,Ma,zU,f5,dW⟩=>?_;subst j5;have EU:(OQ Y.1.2).cells=some (oI Y.1.2):=rfl;have Mb:bF (some 4) (aO.cells [V.ag,V.ag,V.ag,V.ag] 101 none) 0 (oI Y.1.2)=some (.cells (oI Y.1.2) 101 none):=Lf rfl rfl rfl rfl;have p9:J H bN (fun q=>(ow q).1=id):=dW;have A:=yE.push (x:=Y.1.2) Ma zU f5 dW;have ae6:J H (bN.push (.cells [V.ag,V.ag,V.ag,V.ag] 101 none)) (fun q=>(ow q).1=id):=dW.trans (J.push _ _ none_) fun _ _ e=>e.elim;have Mc:J H (bN.push (.cells (oI Y.1.2) 101 none)) (fun q=>(ow q).1=id):=A.ai;simp only [ae,bM,eH,vt,v6,GR,p9,ae6,Mc,EU,Mb,QW];exact ax ⟨rfl,rfl,rfl,bN.n,ea,rfl,rfl,A⟩
  ·have Md:J H (H.push (.cells [.ag,.ag,.ag,.ag] 101 none)) none_:=J.push _ _ _;have auB:(H.push (.cells [.ag,.ag,.ag,.ag] 101 none)).n=H.n+1:=rfl;have c2:=acG o (jO.dD.br Md) s6.aQ s6.wf (fun q ab=>yA q (by omega)) (ra.ai Md).1 aK pN R
   rw [←oT] at c2;refine cB Yg c2 fun r bN ⟨j5,ea,Ma,zU,f5,dW⟩=>?_;subst j5;have EU:(OQ Y.1.2).cells=some (oI Y.1.2):=rfl;have Mb:bF (some 4) (aO.cells [V.ag,V.ag,V.ag,V.ag] 101 none) 0 (oI Y.1.2)=some (.cells (oI Y.1.2) 101 none):=Lf rfl rfl rfl rfl;have p9:J H bN (fun q=>(ow q).1=id):=Md.up.trans dW fun _ _ e=>e;have Oy:bN.get H.n=.cells [V.ag,V.ag,V.ag,V.ag] 101 none:=(dW.get H.n (by omega) (by rw [yA _ (BY _)];exact fun e=>aK e.symm)).trans ck
   have A:=yE.set (x:=Y.1.2) aK yA Ma zU f5 dW;have Mc:J H (bN.set H.n (.cells (oI Y.1.2) 101 none)) (fun q=>(ow q).1=id):=A.ai;simp only [ae,bM,eH,vt,GR,p9,Mc,EU,Mb,Oy,QW];exact ax ⟨rfl,rfl,rfl,H.n,ea,rfl,rfl,A⟩
 ·rintro f zi ⟨f0,f2,xR,ea,f11,f12,A⟩
  have t6:=jO.O7 A.ai A.bx A.dD;have g6:=t6.get;unfold gE at g6;have C8:jf zi:=ra.ai A.ai;have ae7:pj id h ow zi ea:=z6.trans ⟨A.ai.mono fun _ e=>.inl e,A.bx,A.bg⟩;obtain ⟨ae8,pr,sS,⟨au3,yp⟩,atd⟩:=Nb (P:=ds) (kk:=.i64) jI t6.o (k:=n) (by rw [gi];exact eh)
  rw [RP] at yp;have ate:s.offs[n]=(a:Int):=QV.symm.trans aP;simp only [ate] at yp;have atf:IntKind.i64.wrap ((a:Int)+1)=(a:Int)+1:=Go.IntWalk.i64_in _ (by omega)
  obtain ⟨ob,s1,gT,bJ⟩:=atd (.int .i64 ((a:Int)+1)) rfl;rw [Nh] at gT;have z0:((0:Int) !=0)=false:=rfl;obtain ⟨s4,qe⟩:∃ y,y=zi.set ae8 ob:=⟨_,rfl⟩;rw [←qe] at gT bJ;have t7:=t6.qh bJ gT;have g7:=t7.get;unfold gE at g7;have aN:∀ q,a6 w.cz q→ea q=(id+1,2):=fun q U=>t6.hZ q (am.2 U);have FX:pj id h ow s4 ea:=ae7.trans ⟨bJ.mono fun q U=>.inr (by rw [aN q U]),fun _ _=>rfl,fun q ab=>A.bg q (by have:=bJ.n;omega)⟩
  have KB:=(bJ.get xR A.lt fun U=>by have:=aN xR U;rw [A.own] at this;simp at this).trans A.get
  simp only [ae,vt,AS,By,reduceCtorEq,SO,DQ,aW,hz,oo,f0,f2,f12,g6,pr,yp,atf,s1];rw [←qe];clear qe;simp only [ae,vt,AS,By,f2,g7];obtain ⟨Me,ae9,fh,g8,v1,v2,j8,wO,t8,z7⟩:=ata t7 FX.bg (by simp only;omega) (n:Int)
  have atg:=as9 s4 (n:Int);unfold gE at g8;have HD:bF (some 1) (aO.cells [.ah d.c.l.length (d.c.l.flatMap an),.int .i64 d.c.p,.int .i64 d.n,.int .i64 d.q,.ptr w.m 0,.ah d.c.ins.length (ar d.c.ins),.int .i64 s.ep,.int .i64 s.tx,w.cz,w.vk,w.vr] 95 none) 10 [Me]=some (.cells [.ah d.c.l.length (d.c.l.flatMap an),.int .i64 d.c.p,.int .i64 d.n,.int .i64 d.q,.ptr w.m 0,.ah d.c.ins.length (ar d.c.ins),.int .i64 s.ep,.int .i64 s.tx,w.cz,w.vk,Me] 95 none):=by
   rw [rU v1];rfl
  have QA:(if 4≤(oI Y.1.2).length then some (V.agg (avB 4 (oI Y.1.2))) else none)=some (.agg (oI Y.1.2)):=rfl
  have yS:cP (aO.cells (oI Y.1.2) 101 none) 0=some (oI Y.1.2):=rfl;have VJ:cO (some (some 4)) (some (oI Y.1.2))=some (.agg (oI Y.1.2)):=rfl;have Mf:=FX.trans z7.QU;have ath:ea xR=(0,0):=A.own;have FY:=(z7.ai.get xR (MC A.lt bJ.n) (by rw [ath];simp)).trans KB
  have Mg:jf _:=(C8.ai bJ).ai z7.ai;obtain ⟨au4,afa,afb,_⟩:=aqX o cU;have kT:qP d.c Y.1:=by rw [oT];exact aqW s.m afb afa R
  have bo:sz Y.1≤2 ^ 22:=by rw [oT];exact ac7 o s6 pN R
  have afc:Y.1.2.verts.length=Y.1.2.chgs.length:=by have:=as1 (c:=d.c) s.m pN R;rw [←oT] at this;exact this
  have vA:Y.1.2.outs.length≤2 ^ 22∧Y.1.2.chgs.length≤2 ^ 22∧Y.1.2.deads.length≤2 ^ 22:=by unfold sz at bo;omega
  have td:(m7 d s Y.1.2).length≤2 ^ 25:=by
   unfold m7;rw [IS,IS,VY,VY,L4 (enc:=sI d s) (sz:=2) (fun _=>rfl),axz];omega
  obtain ⟨x9,mR⟩:∃ y,y=ae9.set k (.cells (gE { w with vr:=Me } d { s with m:=Y.1.1,offs:=s.offs.set n ((a:Int)+1),order:=s.order++[(n:Int)] }) 95 none):=⟨_,rfl⟩;simp only at t8 z7 FY Mg Mf;rw [←mR] at t8 z7 FY Mg Mf;unfold gE at mR;simp only at mR;have Fl:=as4 o t8 Mg z7.bg Y.1.2 kT.outs afc vA.1 vA.2.1 vA.2.2 (by simp only;omega)
  have auC:cP (x9.get xR) 0=some (oI Y.1.2):=by rw [FY];rfl
  simp only [ae,vt,reduceCtorEq,DQ,Jm,Cc,f0,f11,atg,fh,g8,HD,v2];rw [←mR];clear mR;simp only [ae,vt,FY,yS,VJ];refine cB al8 Fl fun r fU ⟨Mh,ati,afd,t9,afe⟩=>?_;subst Mh;have e:l2 d s dE n=(C7 d s n pN (a:Int) R,true,0):=w8;simp only [ae,vt,aS,awI,c9];exact ax ⟨by rw [e],ati,afd,by rw [e];unfold C7;rw [←oT];exact t9,Mf.trans afe.QU⟩
end
def fm (d:hE) (s:e5):bC:=⟨3,d.n,s.ep,s.tx,0,Bg,false,s.offs,s.order⟩
def Hw (d:hE) (s:e5):List bC:=if s.order=[] then [] else s.kept++[fm d s]
def qU (l:List bC):Prop:=∀ x ∈ l,x.offs=[]∧x.order=[]
theorem O8 (h:I) {w9 QX:List V} (bE:aq w9 h QX h):∀ l:List bC,qU l→aq (l.flatMap en++w9) h (l.flatMap bh++QX) h
 | [],_=>bE
 | x::l,al=>by
  obtain ⟨aC,bd⟩:=al x (by simp)
  have ih:=O8 h bE l fun y bp=>al y (by simp [bp])
  obtain ⟨a,b,c,e,g,⟨cZ,dI,jB⟩,dl,gT,dZ⟩:=x;simp only at aC bd;subst aC bd;rw [avj,avj,au8,au8];exact aq.cons (aA.refl _ _) (aq.cons (aA.refl _ _) (aq.cons (aA.refl _ _) (aq.cons (aA.refl _ _) (aq.cons (aA.refl _ _) (aq.cons (aA.refl _ _) (aq.cons (aA.refl _ _) (aq.cons (aA.refl _ _) (aq.cons (aA.refl _ _) (aq.cons (aA.hL _) (aq.cons (aA.hL _) ih))))))))))
theorem aff (r:bC):(bh r).all (·.one)=true:=rfl
theorem atj (l:List bC):a1 (l.flatMap bh):=AA aro _
theorem atk (h:I) (x:bC):ie ds 29 1 [(0,.agg (bh x))] h=some (.bj h.n 0 1 1,h.push (.cells (bh x) 48 none)):=by rw [lY Ca];rfl
section
variable {h:I} {ow:cG} {id k:Nat} {w:oO} {d:hE} {s:e5}
theorem atl {h:I} {v:V} {l:List Int} (o:Own h 3 1 v (ar l)) (bR:v≠.z0) (aw:l.length≤2 ^ 40):Pure ds 38 [v] h (.ah l.length (ar l)) :=
 Pure.acc (wV _) (by rw [gi];exact (VU _).symm) (by decide) (asT o bR aw)
theorem atm (t:fe h ow id k w d s) (al:qU s.kept) (yc:s.offs.length≤2 ^ 20) (aw:s.kept.length≤2 ^ 35) (uM:s.order.length≤2 ^ 20):Pure ds 12 [.ptr k 0] h (.ah (Hw d s).length ((Hw d s).flatMap bh)):=by
 refine Pure.of (a7.ah (atj _)) ?_;have g:=t.get;unfold gE at g;have ne:=Hs k;have lo:=VD t.ro;refine af.au (c:=_) Tryz.func12 rfl (by kernel_rfl) (by simp) ?_
 by_cases aN:s.order=[]
 ·have bb:(((s.order.length:Nat):Int)==0)=true:=by rw [aN];rfl
  have e:Hw d s=[]:=if_pos aN;simp only [ae,vt,AS,By,reduceCtorEq,DQ,hz,ne,g,lo,bb,aS,aya,ac];rw [e];exact ax ⟨h,aA.kI h,J.refl _ _⟩
 have bb:(((s.order.length:Nat):Int)==0)=false:=by
  have:s.order.length≠0:=fun U=>aN (List.length_eq_zero_iff.1 U);simpa using this
 have e:Hw d s=s.kept++[fm d s]:=if_neg aN;rw [e];simp only [ae,vt,AS,By,reduceCtorEq,DQ,hz,ne,g,lo,bb];refine aZ.bB none_ [20,21] (.q 0 (.q 1 (.q 2 (.q 3 (.q 4 (.q 5 (.q 6 (.q 7 (.q 8 (.q 9 (.q 10 (.q 11 (.q 12 (.c 13 (.q 14 (.q 15 (.q 16 (.q 17 (.c 18 (.q 19 (.e 20 (.a 21 .done) .stop))))))))))))))))))))) (by kernel_rfl) (by kernel_rfl) (by kernel_rfl) ?_
 simp only [ae,bM,vt,AS,By,reduceCtorEq,YJ,YK,SN,aW,g];have qg:∀ h',(J h h' none_∨h'=h)→fe h' ow id k w d s:=fun h' hk=>by rcases hk with hk | rfl;exact t.br hk;exact t
 refine j6 rfl rfl rfl (fun h' hk=>VE (qg h' hk) yc) ?_;simp only [ae,bM,vt,AS,By,reduceCtorEq,DQ,hz,g];refine j6 rfl rfl rfl (fun h' hk=>atl (qg h' hk).ro t.ER (by omega)) ?_
 have au5:(V.agg (bh (fm d s))).cells=some (bh (fm d s)):=rfl;simp only [ae,bM,vt,AS,By,NW,Jw,Zc];obtain ⟨H,hH⟩:∃ y,y=h.push (.cells (bh (fm d s)) 48 none):=⟨_,rfl⟩;have bw:J h H none_:=by rw [hH];exact J.push _ _ _
 have iR:H.get h.n=.cells (bh (fm d s)) 48 none:=by rw [hH];exact ck
 have ju:H.n=h.n+1:=by rw [hH];rfl
 unfold bh fm Bg at hH;simp only at hH;rw [←hH];clear hH;have jO:=t.br bw;have g2:=jO.get;unfold gE at g2;have nP:(if 11≤(bh (fm d s)).length then some (V.agg (avB 11 (bh (fm d s)))) else none)=some (.agg (bh (fm d s))):=rfl
 have VK:cO (some (some 11)) (some (bh (fm d s)))=some (.agg (bh (fm d s))):=rfl;have UI:cP (aO.cells (bh (fm d s)) 48 none) 0=some (bh (fm d s)):=rfl;have zn:=fun U=>atk U (fm d s);have auD:∀ (a b:I),J a b none_→J a b none_:=fun _ _ h=>h;have fin:∀ {ab ad:I} {v:V},J h ab none_→Acc ab ad 48 11 v (s.kept.flatMap en++bh (fm d s))→∃ aD,aA v ad (.ah (s.kept++[fm d s]).length ((s.kept++[fm d s]).flatMap bh)) aD∧J h aD none_:=fun {ab ad v} kq a=>by
  have cI:aq (s.kept.flatMap en++bh (fm d s)) ad ((s.kept++[fm d s]).flatMap bh) ad:=by
   rw [avH,avj,axc,avq];exact O8 ad (aq.refl _ _) s.kept al
  have hlen:(s.kept.flatMap en++bh (fm d s)).length=(s.kept++[fm d s]).length * 11:=by rw [IS,gM yJ,EE,IS,List.length_singleton,atY]
  rcases a.own with ⟨_,U⟩ | ⟨i,len,cap,c,ex,rfl,hi,az,hle,bY,dp⟩
  ·exact absurd U (by simp [bh])
  ·have el:len=(s.kept++[fm d s]).length:=awk (show 0<11 by decide) (hle.symm.trans hlen)
   obtain ⟨aD,c3,b2⟩:=aA.iz a.own cI (J.refl ad none_) (by simp [none_]) (by rw [hlen,gM EE])
   rw [←el];have:=a.new i rfl;have:=kq.n;exact ⟨aD,c3,(kq.trans' a.ai).trans b2 fun q ab e=>by omega⟩
 refine aZ.bB none_ [4,6,7] (.q 0 (.q 1 (.q 2 (.q 3 (.q 5 (.e 4 (.e 6 (.a 7 (.q 8 .done)) .stop) (.e 6 (.e 4 (.a 7 (.q 8 .done)) .stop) .stop))))))) (by kernel_rfl) (by kernel_rfl) (by kernel_rfl) ?_
 have eh:∀ q,¬none_ q:=fun _ h=>h;simp only [ae,bM,eH,vt,AS,By,reduceCtorEq,NR,YP,DV,g2,iR,VK,UI,zn,eh];have Mi:∀ m,m * 11=(s.kept.flatMap en).length+11→m * 120≤lim∧m≤lim:=fun m hm=>by
  rw [gM yJ] at hm;have:m=s.kept.length+1:=by omega
  subst this;exact ⟨by simp only [lim];omega,by simp only [lim];omega⟩
 refine ⟨?_,?_⟩
 ·refine cB Yf (aeQ jO.ug t.C4 (by omega)) fun r ad a2=>?_
  have ba:=a2.ai;obtain ⟨v4,bn,jr,a4⟩:=a2.xb (P:=ds) (t:=29) (T:=⟨48,[.int .i64 0,.int .i64 0,.int .i64 0,.int .i64 0,.int .i64 0,.int .i64 0,.int .i64 0,.int .i64 0,.bool false,.ag,.ag],11,120⟩) Ca (by decide) (xs:=bh (fm d s)) rfl (aff _) Mi
  have zW:=(ba.get h.n (by omega) (by simp [none_])).trans iR
  have Mj:J H (ad.push (.cells (bh (fm d s)) 48 none)) none_:=ba.trans' (J.push _ _ _);simp only [ae,bM,eH,vt,zn,ba,Mj,jr,aS,aya,ac];exact ax (fin bw a4)
 ·have sq:J H (H.push (.cells (bh (fm d s)) 48 none)) none_:=J.push _ _ _;refine cB Yf (aeQ (jO.br sq).ug t.C4 (by omega)) fun r ad a2=>?_
  have ba:=a2.ai;have b2:=sq.trans' ba;have gK:Own ad 48 11 (.bj H.n 0 1 1) (bh (fm d s)):=(Own.eZ (h:=H) (bh (fm d s)) 1 rfl (by decide)).br ba
  have dR:=vJ (P:=ds) (t:=29) AH gK (n:=1) rfl (by decide) (aff _)
  obtain ⟨v4,bn,jr,a4⟩:=a2.qs (P:=ds) (t:=29) (tx:=29) (T:=⟨48,[.int .i64 0,.int .i64 0,.int .i64 0,.int .i64 0,.int .i64 0,.int .i64 0,.int .i64 0,.int .i64 0,.bool false,.ag,.ag],11,120⟩) Ca (by decide) dR rfl Mi
  simp only [ae,bM,eH,vt,b2,jr,aS,aya,ac];exact ax (fin (bw.trans' sq) a4)
end
end Go.Proofs.YtemdgidnhgcafaaGreatDoor.Pk
