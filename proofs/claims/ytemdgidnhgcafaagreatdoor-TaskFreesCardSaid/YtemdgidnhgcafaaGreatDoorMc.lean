/-
  What functions of the program do, told of abstract states. Conditions: as each theorem says.
-/
import Derived.Test.YtemdgidnhgcafaaGreatDoorMb
import Derived.Test.YtemdgidnhgcafaaGreatDoorMa
import Derived.Test.YtemdgidnhgcafaaGreatDoorAbD
import Derived.Shelf.SlSortCmp.WholeK
import Derived.Test.YtemdgidnhgcafaaGreatDoorProg
open Nat renaming lt_of_lt_of_le->MC,reduceEqDiff->vt,reduceAdd->AS,reduceLeDiff->By,le_refl->BY,le_trans->OF,mul_one->VU,zero_le->Dc
open Go.Proofs.Tryz renaming prog->ds,results174->axU,results132->aBg,underlying259->aBh,underlying262->aBi,results173->aBl,results146->ayU,results144->awG,results185->ayV,results167->axZ,results141->ax0
open List renaming cons_append->avx,nil_append->avG,pairwise_cons->avf,filter_cons_of_pos->axV,filter_cons_of_neg->axn,filter_eq_nil_iff->awQ,filter_eq_self->axo,mem_of_getElem?->avK,getElem?_drop->avC,mem_filter->afP,Pairwise->avV,mem_cons->IN,any_eq_false->awE,any_eq_true->awu,getElem?_eq_some_iff->VX,drop_eq_getElem_cons->avk,pairwise_append->aBb,mem_append->avs,filter_congr->axp,all_eq_true->avh,all_eq_false->aBc,filter_filter->axO,length_filter_le->awv,getElem?_eq_getElem->ME,mem_cons_self->aBd,mem_map->MF,Perm->ayA,map_nil->avw,map_cons->au9,mergeSort_perm->ayT,pairwise_map->awf,length_map->VY,length_append->IS,append_assoc->au8,getElem_mem->avb,length_take->VV,length_drop->avJ,length_cons->ave
open Int renaming tmod_eq_emod_of_nonneg->awD,le_refl->av1,le_trans->awF,min_eq_left->ayR,reduceLE->awi,reduceNeg->MD,emod_eq_of_lt->aBo
open Bool renaming not_false->axT,true_and->avR,or_eq_false_iff->axq,and_comm->aBe,not_eq_false'->ayS,not_eq_true'->awT,eq_iff_iff->avv
open Option renaming isSome_iff_exists->axC
set_option linter.unusedVariables false
set_option linter.unusedSimpArgs false
set_option maxHeartbeats 2000000
set_option maxRecDepth 20000
namespace Go.Proofs.YtemdgidnhgcafaaGreatDoor.Pk
open Go Go.Proofs Go.Proofs.YtemdgidnhgcafaaGreatDoor.Ab
def qz (c:Int):V:=.tuple [.agg [.int .i64 0,.int .i64 0,.int .i64 0],.ag,.int .i64 c]
def mb (k n t:Int) (c:V):V:=.tuple [.agg [.int .i64 k,.int .i64 n,.int .i64 t],c,.int .i64 0]
structure yb (h:I) (a:Nat) (T:TypeId) (i:Nat) (e:b4) (n:Int):Prop where
 lt:a<h.n
 get:h.get a=.cells (aE e++[.int .i64 n,.iface T (.ptr i 0)]) 218 none
theorem yb.ai {h h':I} {a i:Nat} {T:TypeId} {e:b4} {n:Int} {own:Nat→Prop} (s:yb h a T i e n) (hk:J h h' own) (aK:¬own a):yb h' a T i e n :=
 ⟨MC s.lt hk.n,(hk.get a s.lt aK).trans s.get⟩
theorem Of {h:I} {a i:Nat} {T:TypeId} {e:b4} {n:Int} (s:yb h a T i e n):Pure ds 120 [.ptr a 0] h (.bool false):=by
 obtain ⟨o,m,aQ⟩:=e;have g:=s.get;rw [nu] at g;refine af.au (c:=_) Tryz.func120 rfl (by kernel_rfl) (by simp) ?_
 simp only [avx,avG] at g;simp only [ae,vt,AS,By,reduceCtorEq,GF,YL,GN,g];exact ax ⟨rfl,rfl⟩
theorem aoG {h:I} {a i:Nat} {T:TypeId} {e:b4} {n:Int} (s:yb h a T i e n) (hm:c1 e=true) (az:gN h) (r:Rec) (acc:Int) (M:Nat→Prop) (aar:¬M a) (J9:∀ q,h.n≤q→¬M q)
  (Q:I→I→Int→V→Int→Int→Prop)
  (PZ:∀ h',J h h' none_→mU r.t=true→Pure ds 198 [.iface T (.ptr i 0),.agg (aI r)] h' (.int .i64 acc))
  (pv:∀ h' N,J h h' none_→mU r.t=true→cM r.k r.v r.t acc 16 e=some N→af ds 199 [.iface T (.ptr i 0),.agg (aI r),.int .i64 N] h' (fun q ad=>∃ c t ia,q=.tuple [c,.int .i64 t,.int .i64 ia]∧J h' ad M∧Q h' ad N c t ia)) :
  af ds 174 [.ptr a 0,.agg (aI r)] h (fun q U=>∃ h1 ad,J h h1 none_∧h1.n=h.n+2∧J ad U (fun q=>q=h.n+1) ∧
   if mU r.t=false then ad=h1∧q=qz 2 else match cM r.k r.v r.t acc 16 e with
   | none=>ad=h1∧q=qz 10
   | some N=>∃ c t ia,J h1 ad M∧Q h1 ad N c t ia∧q=if ia=0 then mb r.k N t c else qz ia):=by
 obtain ⟨cF,rv,rt⟩:=r;obtain ⟨o,m,aQ⟩:=e;have bL:aE (.mk o m aQ)=[.int .i64 o,.int .i64 m,.ah aQ.length (aQ.flatMap aE)]:=nu _ _ _;refine af.au (c:=_) Tryz.func174 rfl (by kernel_rfl) (by simp) ?_
 unfold aI at *;obtain ⟨H,hH⟩:∃ y,y=(h.push (.cells [.int .i64 cF,.int .i64 rv,.int .i64 rt] 45 none)).push (.cells [.int .i64 0,.int .i64 0,.int .i64 0] 45 none):=⟨_,rfl⟩;have gz:J h H none_:=by rw [hH];exact (J.push _ _ _).bH _
 have g0:H.get h.n=.cells [.int .i64 cF,.int .i64 rv,.int .i64 rt] 45 none:=by rw [hH];exact xD
 have g1:H.get (h.n+1)=.cells [.int .i64 0,.int .i64 0,.int .i64 0] 45 none:=by rw [hH];exact y5
 have ot:H.n=h.n+2:=by rw [hH];rfl
 have Ed:=s.ai gz (by simp [none_])
 have mM:=Ed.get;rw [bL] at mM;simp only [avx,avG] at mM;have halt:=s.lt;have Ka:∀ h',gN h'→Pure ds 175 [.agg [.int .i64 o,.int .i64 m,.ah aQ.length (aQ.flatMap aE)],.agg [.int .i64 cF,.int .i64 rv,.int .i64 rt],.int .i64 acc] h' (ox (cM cF rv rt acc 16 (.mk o m aQ))):=fun h' Kb=>by
  have:=aoh (.mk o m aQ) cF rv rt acc _ hm rfl h' Kb;rw [bL] at this;exact this
 simp only at PZ pv;simp only [ae,vt,reduceCtorEq,s0];rw [←hH];clear hH;refine bW GA (Of Ed) ?_;simp only [ae,vt,AS,By,AG,du,g0];refine bW X5 (aap rt H) ?_;cases cd:mU rt with
 | false=>
  rw [show decide (0≤rt∧rt≤1099511627776)=false from cd]
  simp only [ae,vt,AS,dG,AN,s0,w0,g1,aS,axU,Ng,ij,fB,Nf];exact ax ⟨H,H,gz,ot,J.set _ _ _,by rw [if_pos rfl];exact ⟨rfl,rfl⟩⟩
 | true=>
  rw [show decide (0≤rt∧rt≤1099511627776)=true from cd]
  simp only [ae,vt];refine aZ.bB none_ [] (.q 0 (.q 1 (.q 2 (.q 3 (.q 4 (.q 5 (.q 6 (.q 7 (.q 8 (.q 9 (.c 10 (.c 11 (.q 12 (.q 13 (.q 14 (.q 15 (.q 16 .done))))))))))))))))) (by kernel_rfl) (by kernel_rfl) (by kernel_rfl) ?_
  simp only [ae,bM,vt,AS,By,reduceCtorEq,amF,GF,GN,dG,fM,mM,g0];refine j6 rfl rfl rfl (fun h' hk=>PZ h' (by rcases hk with hk | rfl;exact gz.trans' hk;exact gz) cd) ?_
  simp only [bM];refine j6 rfl rfl rfl (fun h' hk=>Ka h' ((az.ai gz).or (az.ai gz) hk)) ?_;cases aH:cM cF rv rt acc 16 (.mk o m aQ) with
  | none=>
   simp only [ae,bM,Int.reduceBNe,vt,AS,dG,AN,s0,w0,ox,g1,aS,axU,Ng,ij,fB,Nf];exact ax ⟨H,H,gz,ot,J.set _ _ _,by rw [if_neg (by decide)];exact ⟨rfl,rfl⟩⟩
  | some N=>
   simp only [ae,bM,vt,ox];refine aZ.bB (fun x=>M x) [6] (.q 0 (.q 1 (.q 2 (.q 3 (.q 4 (.q 5 (.a 6 (.q 7 (.q 8 (.q 9 (.q 10 (.q 11 (.q 12 (.q 13 .done)))))))))))))) (by kernel_rfl) (by kernel_rfl) (by kernel_rfl) ?_
   have f1:M a=False:=eq_false aar;have f2:M h.n=False:=eq_false (J9 _ (BY _));simp only [ae,bM,eH,vt,AS,By,reduceCtorEq,GF,GN,dG,mM,g0,f1,f2];refine cB alR (pv H N gz cd aH) fun q ad ⟨c,t,ia,bd,b9,dz⟩=>?_;subst bd;have TI:=b9.n;have gc:=b9.get (h.n+1) (by omega) (J9 _ (by omega))
   have qk:=b9.get h.n (by omega) (J9 _ (by omega))
   rw [g0] at qk;rw [g1] at gc;simp only [ae,bM,eH,vt];by_cases he:ia=0
   ·have ab:(ia !=0)=false:=by simp [he]
    simp only [ae,eH,vt,AS,By,B4,du,dG,AN,s0,w0,gc,qk,ab,aS,axU,Ng,ij,fB,Nf];exact ax ⟨H,ad,gz,ot,J.set _ _ _,by rw [if_neg (by decide)];exact ⟨c,t,ia,b9,dz,by rw [if_pos he];rfl⟩⟩
   ·have ab:(ia !=0)=true:=by simp [he]
    simp only [ae,eH,vt,AS,dG,AN,s0,w0,gc,ab,aS,axU,Ng,ij,fB,Nf];exact ax ⟨H,ad,gz,ot,J.set _ _ _,by rw [if_neg (by decide)];exact ⟨c,t,ia,b9,dz,by rw [if_neg he];rfl⟩⟩
theorem aoH (x:bD) (hm:c1 x.e=true) (aY:h7 x.e) (h:I) (az:gN h) (T:TypeId) (Ee:I→I→Nat→Prop)
  (hk:∀ H,J h H none_→af ds 113 [.agg (an x)] H (fun r h'=>∃ i,r=.tuple [.iface T (.ptr i 0),.int .i64 0]∧J H h' none_∧Ee H h' i)) :
  af ds 75 [.agg (an x)] h (fun r h'=>∃ a i H h1,r=.tuple [.ptr a 0,.int .i64 0]∧J h H none_∧Ee H h1 i∧J h1 h' none_∧J h h' none_∧h.n≤a∧h1.n≤a∧yb h' a T i x.e x.n):=by
 refine af.au (c:=_) Tryz.func75 rfl (by kernel_rfl) (by simp) ?_
 obtain ⟨er,bg,⟨o,m,aQ⟩,n⟩:=x;have fT:an ⟨er,bg,.mk o m aQ,n⟩=[.int .i64 er,.ah bg.length (ar bg),.int .i64 o,.int .i64 m,.ah aQ.length (aQ.flatMap aE),.int .i64 n]:=by simp [an,nu]
 have bL:aE (.mk o m aQ)=[.int .i64 o,.int .i64 m,.ah aQ.length (aQ.flatMap aE)]:=nu _ _ _;obtain ⟨H,hH⟩:∃ y,y=h.push (.cells [.int .i64 er,.ah bg.length (ar bg),.int .i64 o,.int .i64 m,.ah aQ.length (aQ.flatMap aE),.int .i64 n] 68 none):=⟨_,rfl⟩;have gz:J h H none_:=by rw [hH];exact J.push _ _ _
 have g0:H.get h.n=.cells [.int .i64 er,.ah bg.length (ar bg),.int .i64 o,.int .i64 m,.ah aQ.length (aQ.flatMap aE),.int .i64 n] 68 none:=by rw [hH];exact ck
 have ot:H.n=h.n+1:=by rw [hH];rfl
 have dK:Pure ds 63 [.agg [.int .i64 o,.int .i64 m,.ah aQ.length (aQ.flatMap aE)]] H (sb (.mk o m aQ)):=by rw [←bL];exact Ty _ aY H (az.ai gz)
 have gF:c1 (.mk o m aQ)=true:=hm;rw [fT];simp only [ae,vt,AS,By,qu,fM];rw [←hH];clear hH;refine bW SA dK ?_;unfold sb ja;rw [if_pos gF,if_pos gF];simp only [ae,vt,AS,om,g0];have b9:=hk H gz;rw [fT] at b9;refine cB XY b9 fun r h1 ⟨i,aC,bJ,dz⟩=>?_;subst aC;have g1:=(bJ.get h.n (by omega) (by simp [none_])).trans g0
 simp only [ae,vt];have yc:=PV (.ah (cS (.mk o m aQ)).length (e9 (cS (.mk o m aQ)))) (cS (.mk o m aQ)) h1 ((az.ai gz).ai bJ) (Rd.ah _ _) (TG _) (by have:=Tu _ (.mk o m aQ) rfl aY;have:=Tx gF;omega)
 have Fi:se (cS (.mk o m aQ))=.tuple [.agg (aE (.mk o m aQ)),.int .i64 0]:=by unfold se ov nI;rw [Z5 gF aY];rfl
 rw [Fi,bL] at yc;refine bW XZ yc ?_;have fv:=bJ.n;obtain ⟨bK,bs⟩:∃ y,y=h1.push (.cells [.int .i64 o,.int .i64 m,.ah aQ.length (aQ.flatMap aE)] 66 none):=⟨_,rfl⟩;have ba:J h1 bK none_:=by rw [bs];exact J.push _ _ _
 have g2:=(ba.get h.n (by omega) (by simp [none_])).trans g1
 have g3:bK.get h1.n=.cells [.int .i64 o,.int .i64 m,.ah aQ.length (aQ.flatMap aE)] 66 none:=by rw [bs];exact ck
 have dy:bK.n=h1.n+1:=by rw [bs];rfl
 simp only [ae,vt,AS,B7,du,fM,oV,nt];rw [←bs];clear bs;simp only [ae,vt,AS,By,am5,anp,g2,aS,Tryz.results75,c9];have b2:J bK (bK.push (.cells [.int .i64 o,.int .i64 m,.ah aQ.length (aQ.flatMap aE),.int .i64 n,.iface T (.ptr i 0)] 218 none)) none_:=J.push _ _ _;refine ax ⟨_,i,H,h1,rfl,gz,dz,ba.trans' b2,(gz.trans' bJ).trans' (ba.trans' b2),by omega,by omega,⟨by rw [dq];omega,?_⟩⟩
 rw [bL];exact ck
theorem aoI {time size:Int} (aK:0≤time) (h1:1≤size):0≤time.tmod size∧time.tmod size<size∧time.tmod size≤time:=by
 rw [awD aK];exact ⟨Int.emod_nonneg _ (by omega),Int.emod_lt_of_pos _ (by omega),by
  have ad:=Int.emod_add_mul_ediv time size;have aD:0≤size * (time / size):=Int.mul_nonneg (by omega) (Int.ediv_nonneg aK (by omega))
  omega⟩
structure sO (h:I) (i m:Nat) (room size:Int) (es:List (Nat×V×V)) (cl:Nat):Prop where
 get:h.get i=.cells [.int .i64 room,.int .i64 size,.map m] 287 none
 map:h.get m=.map es cl
 ne:i≠m
 lt:i<h.n
 Og:m<h.n
 s1:1≤size
 s2:size≤1048576
theorem sO.br {h h':I} {i m cl:Nat} {room size:Int} {es:List (Nat×V×V)} (k:sO h i m room size es cl) (hk:J h h' none_):sO h' i m room size es cl :=
 ⟨(hk.get i k.lt (by simp [none_])).trans k.get,(hk.get m k.Og (by simp [none_])).trans k.map,k.ne,MC k.lt hk.n,MC k.Og hk.n,k.s1,k.s2⟩
def o7 (size time:Int):Int:=time - time.tmod size
theorem aas {size time:Int} (aK:0≤time) (h1:1≤size):0≤o7 size time∧o7 size time≤time∧time<o7 size time+size:=by
 obtain ⟨a,b,c⟩:=aoI aK h1;unfold o7;omega
abbrev p5:=List (Nat×(Int×Int)×Int)
def f64 (n:Int):Nat:=FloatKind.nearest .f64 n
def fw (a b:aF):Prop:=a.key<b.key∨a.key=b.key∧(a.bg<b.bg∨a.bg=b.bg∧a.to<b.to)
instance (a b:aF):Decidable (fw a b):=by unfold fw;infer_instance
def hg (a b:aF):Bool:=decide (a.key=b.key∧a.bg=b.bg∧a.to=b.to)
theorem oW {a b:aF}:hg a b=true↔a.key=b.key∧a.bg=b.bg∧a.to=b.to:=by simp [hg]
theorem aat {a b:aF}:hg a b=false↔¬(a.key=b.key∧a.bg=b.bg∧a.to=b.to):=by simp [hg]
theorem G1 {a b:aF} (h:hg a b=true):¬fw a b:=by have:=oW.1 h;unfold fw;omega
theorem aau {a b c:aF} (h:fw a b) (k:fw b c):fw a c:=by unfold fw at *;omega
theorem aoJ {a b:aF} (h:fw a b):¬fw b a:=by unfold fw at *;omega
theorem aav {a b:aF} (h:¬fw a b) (k:¬fw b a):hg a b=true:=by rw [oW];unfold fw at *;omega
abbrev fx (l:List aF):Prop:=l.Pairwise fw
def low (l:List aF) (x:aF):List aF:=l.filter fun y=>decide (fw y x)
def high (l:List aF) (x:aF):List aF:=l.filter fun y=>!decide (fw y x)
def iB (l:List aF) (x:aF):Nat:=(low l x).length
def e2 (l:List aF) (x:aF):Bool:=l.any fun y=>hg y x
def iP (l:List aF) (x:aF):List aF:=l.filter fun y=>!hg y x
def mA (l:List aF) (x:aF):List aF:=low l x++x::high l x
theorem fx.split:∀ {l:List aF},fx l→∀ x,low l x++high l x=l
 | [],_,x=>rfl
 | a::l,aa,x=>by
  have hy:=avf.1 aa;have ih:=fx.split hy.2 x;unfold low high at ih⊢;by_cases h:fw a x
  ·rw [axV (by simpa using h),axn (by simpa using h),avx,ih]
  ·have aG:∀ b ∈ l,¬fw b x:=fun b al iJ=>h (aau (hy.1 b al) iJ);rw [axn (by simpa using h),axV (by simpa using h),awQ.2 (by simpa using aG),axo.2 (by simpa using aG)]
   rfl
theorem fx.take {l:List aF} (h:fx l) (x:aF):l.take (iB l x)=low l x:=by
 have:=congrArg (List.take (low l x).length) (h.split x);rw [List.take_left' rfl] at this;exact this.symm
theorem fx.drop {l:List aF} (h:fx l) (x:aF):l.drop (iB l x)=high l x:=by
 have:=congrArg (List.drop (low l x).length) (h.split x);rw [List.drop_left' rfl] at this;exact this.symm
theorem fx.Cw {l:List aF} (h:fx l) {x:aF} {t:Nat} {p:aF} (bE:iB l x≤t) (aU:l[t]?=some p):¬fw p x:=by
 have:p ∈ l.drop (iB l x):=avK (i:=t - iB l x) (by rw [avC,show iB l x+(t - iB l x)=t by omega];exact aU)
 rw [h.drop] at this;simpa using (afP.1 this).2
theorem fx.filter {l:List aF} (h:fx l) (p:aF→Bool):fx (l.filter p):=avV.filter p h
theorem fx.uniq {l:List aF} (h:fx l) {a b:aF} (aP:a ∈ l) (al:b ∈ l) (aa:hg a b=true):a=b:=by
 induction l with
 | nil=>cases aP
 | cons c l ih=>
  have h':=avf.1 h;rcases IN.1 aP with e | aP
  ·rcases IN.1 al with bd | al
   ·rw [e,bd]
   ·have h1:=h'.1 b al;rw [←e] at h1;exact absurd h1 (G1 aa)
  ·rcases IN.1 al with e | al
   ·have h1:=h'.1 a aP;rw [←e] at h1;exact absurd h1 (G1 (by rw [oW] at *;omega))
   ·exact ih h'.2 aP al
theorem fx.oy {l:List aF} (h:fx l) (x:aF):(e2 l x=true∧∃ p,l[iB l x]?=some p∧hg p x=true∧p ∈ l)∨(e2 l x=false∧∀ p,l[iB l x]?=some p→¬fw p x∧hg p x=false):=by
 cases U:e2 l x
 ·refine .inr ⟨rfl,fun p aU=>⟨h.Cw (BY _) aU,?_⟩⟩;have:=awE.1 U p (avK aU);simpa using this
 ·refine .inl ⟨rfl,?_⟩;obtain ⟨q,ab,aa⟩:=awu.1 U;have Cx:q ∈ high l x:=afP.2 ⟨ab,by simpa using G1 aa⟩
  rw [←h.drop] at Cx;cases bf:l.drop (iB l x) with
  | nil=>rw [bf] at Cx;cases Cx
  | cons p r=>
   have aU:l[iB l x]?=some p:=by
    have:=congrArg (fun z=>z[0]?) bf;simpa [avC] using this
   refine ⟨p,aU,?_,avK aU⟩;have rX:fx (l.drop (iB l x)):=avV.sublist (List.drop_sublist ..) h;rw [bf] at Cx rX;rcases IN.1 Cx with rfl | aaw
   ·exact aa
   ·have h1:=(avf.1 rX).1 q aaw;have ad:=h.Cw (BY _) aU;exact absurd (show fw p x by have:=oW.1 aa;unfold fw at *;omega) ad
theorem IT {l:List aF} {x:aF} (h:x ∈ l):e2 l x=true:=awu.2 ⟨x,h,oW.2 ⟨rfl,rfl,rfl⟩⟩
theorem fx.rm {l:List aF} (h:fx l) {x:aF} (aj:e2 l x=true):iP l x=l.take (iB l x)++l.drop (iB l x+1):=by
 rcases h.oy x with ⟨_,p,aU,aa,hm⟩ | ⟨h',_⟩;rotate_left
 ·rw [aj] at h';cases h'
 have aM:=(VX.1 aU).1;have e:l=l.take (iB l x)++p::l.drop (iB l x+1):=by
  have:=List.take_append_drop (iB l x) l;rw [avk aM,(VX.1 aU).2] at this;exact this.symm
 have bI:∀ y,y ∈ l→hg y x=true→y=p:=fun y bp P0=>h.uniq bp hm (by rw [oW] at *;omega)
 unfold iP
 conv=>lhs;rw [e]
 have uT:=h;rw [e] at uT;have aG:=aBb.1 uT;rw [List.filter_append,axn (by simp [aa]),axo.2,axo.2]
 ·intro y bp;cases P0:hg y x
  ·rfl
  ·have:=(avf.1 aG.2.1).1 y bp;exact absurd this (G1 (by rw [oW] at *;omega))
 ·intro y bp;cases P0:hg y x
  ·rfl
  ·have:=aG.2.2 y bp p (by simp)
   exact absurd this (G1 (by rw [oW] at *;omega))
theorem fx.ins {l:List aF} (h:fx l) (x:aF):mA l x=l.take (iB l x)++[x]++l.drop (iB l x):=by rw [h.take,h.drop];simp [mA]
theorem Oh {l:List aF} {x y:aF}:y ∈ mA l x↔y=x∨y ∈ l:=by
 unfold mA low high;rw [avs,IN,afP,afP];by_cases h:fw y x<;>simp [h,or_comm]
theorem fx.G2 {l:List aF} (h:fx l) (x:aF):(mA l x).length=l.length+1:=by
 have:=congrArg List.length (h.split x);unfold mA;simp at this⊢;omega
theorem fx.AZ {l:List aF} (h:fx l) {x:aF} (aj:e2 l x=false):fx (mA l x):=by
 refine aBb.2 ⟨h.filter _,avf.2 ⟨fun y bp=>?_,h.filter _⟩,fun a aP b al=>?_⟩
 ·have nG:=afP.1 bp;have h1:=awE.1 aj y nG.1;have ad:¬fw y x:=by simpa using nG.2
  by_cases aD:fw x y
  ·exact aD
  ·exact absurd (aav ad aD) h1
 ·have oj:fw a x:=by simpa using (afP.1 aP).2
  rcases IN.1 al with rfl | al
  ·exact oj
  ·have iJ:=afP.1 al;have h1:=awE.1 aj b iJ.1;have ad:¬fw b x:=by simpa using iJ.2
   by_cases aD:fw x b
   ·exact aau oj aD
   ·exact absurd (aav ad aD) h1
theorem TJ (l:List aF) (x:aF):e2 (iP l x) x=false:=by
 refine awE.2 fun y bp=>?_;have:=(afP.1 bp).2;simpa using this
theorem aoK {l:List aF} (h:fx l) {x:aF} (aj:e2 l x=true):(iP l x).length+1=l.length:=by
 rcases h.oy x with ⟨_,p,aU,aa,hm⟩ | ⟨h',_⟩
 ·rw [h.rm aj];have aM:=(VX.1 aU).1;simp;omega
 ·rw [aj] at h';cases h'
def lF (l cs:List aF):List aF:=l.filter fun y=>cs.all fun x=>!hg y x
theorem aoL (l:List aF):lF l []=l:=axo.2 fun _ _=>rfl
theorem aoM {l:List aF} (h:fx l) (p:aF→Bool):lF l (l.filter p)=l.filter fun y=>!p y:=by
 refine axp fun y bp=>?_;cases aU:p y
 ·refine avh.2 fun x aj=>?_;have wy:=afP.1 aj;cases e:hg y x
  ·rfl
  ·have:=h.uniq bp wy.1 e;subst this;rw [aU] at wy;cases wy.2
 ·refine aBc.2 ⟨y,afP.2 ⟨bp,aU⟩,?_⟩;simp [oW.2 (show y.key=y.key∧y.bg=y.bg∧y.to=y.to from ⟨rfl,rfl,rfl⟩)]
theorem fx.lF {l:List aF} (h:fx l) (cs:List aF):fx (lF l cs):=h.filter _
structure tl (c:aF):Prop where
 lo:0≤c.bg
 le:c.bg≤c.to
 hi:c.to≤2 ^ 40
 del:c.del=false
def s3 (g k t:Int) (x:aF):Bool:=decide (x.key=k∧x.bg - g≤t∧t≤x.to+g)
theorem G3 {g k t:Int} {x:aF}:s3 g k t x=true↔x.key=k∧x.bg - g≤t∧t≤x.to+g:=by simp [s3]
theorem TK {g k t:Int} {x y:aF} (h:hg x y=true):s3 g k t x=s3 g k t y:=by
 obtain ⟨h1,ad,aD⟩:=oW.1 h;unfold s3;rw [h1,ad,aD]
def found (g:Int) (l:List aF) (k t:Int):List aF:=l.filter (s3 g k t)
def Kc (g:Int) (l:List aF) (k t:Int):List aF:=l.filter fun x=>!s3 g k t x
def me (t:Int) (cs:List aF):Int:=cs.foldl (fun a c=>min a c.bg) t
def mV (t:Int) (cs:List aF):Int:=cs.foldl (fun a c=>max a c.to) t
theorem Oi:∀ (cs:List aF) (t:Int),me t cs≤t∧∀ x ∈ cs,me t cs≤x.bg
 | [],t=>⟨av1 _,by simp⟩
 | c::cs,t=>by
  obtain ⟨h1,ad⟩:=Oi cs (min t c.bg);refine ⟨awF h1 (by omega),fun x aj=>?_⟩
  rcases IN.1 aj with rfl | aj
  ·exact awF h1 (by omega)
  ·exact ad x aj
theorem TL:∀ (cs:List aF) (t:Int),me t cs=t∨∃ x ∈ cs,me t cs=x.bg
 | [],t=>.inl rfl
 | c::cs,t=>by
  rcases TL cs (min t c.bg) with h | ⟨x,aj,h⟩
  ·by_cases hm:t≤c.bg
   ·left;rw [ayR hm] at h;show me (min t c.bg) cs=t;rw [ayR hm];exact h
   ·right;refine ⟨c,by simp,?_⟩;show me (min t c.bg) cs=c.bg;rw [h];omega
  ·exact .inr ⟨x,by simp [aj],h⟩
theorem Oj:∀ (cs:List aF) (t:Int),t≤mV t cs∧∀ x ∈ cs,x.to≤mV t cs
 | [],t=>⟨av1 _,by simp⟩
 | c::cs,t=>by
  obtain ⟨h1,ad⟩:=Oj cs (max t c.to);refine ⟨awF (by omega) h1,fun x aj=>?_⟩
  rcases IN.1 aj with rfl | aj
  ·exact awF (by omega) h1
  ·exact ad x aj
theorem TM:∀ (cs:List aF) (t:Int),mV t cs=t∨∃ x ∈ cs,mV t cs=x.to
 | [],t=>.inl rfl
 | c::cs,t=>by
  rcases TM cs (max t c.to) with h | ⟨x,aj,h⟩
  ·by_cases hm:c.to≤t
   ·left;show mV (max t c.to) cs=t;rw [h];omega
   ·right;refine ⟨c,by simp,?_⟩;show mV (max t c.to) cs=c.to;rw [h];omega
  ·exact .inr ⟨x,by simp [aj],h⟩
def hR (g:Int) (l:List aF) (k t v:Int):aF:=⟨k,me t (found g l k t),mV t (found g l k t),v,false⟩
def vT (g:Int) (l:List aF) (k t v:Int):List aF:=mA (Kc g l k t) (hR g l k t v)
def yd (x:aF):aF:=⟨x.key,x.bg,x.to,0,true⟩
def ip (c x:aF):Bool:=decide (x.bg≠c.bg)||decide (x.to≠c.to)
def Ef (g:Int) (l:List aF) (k t v:Int):List aF:=((found g l k t).filter (ip (hR g l k t v))).map yd++[hR g l k t v]
theorem aax {g:Int} (az:0≤g) (l:List aF) (k t v:Int):s3 g k t (hR g l k t v)=true:=by
 rw [G3];have h1:=(Oi (found g l k t) t).1;have ad:=(Oj (found g l k t) t).1;exact ⟨rfl,by show me _ _ - g≤t;omega,by show t≤mV _ _+g;omega⟩
theorem aoN {g:Int} (az:0≤g) (l:List aF) (k t v:Int):e2 (Kc g l k t) (hR g l k t v)=false:=by
 refine awE.2 fun y bp aa=>?_;have h1:=(afP.1 bp).2;rw [TK aa,aax az] at h1;cases h1
theorem aoO {g:Int} (az:0≤g) {l:List aF} (h:fx l) (k t v:Int):fx (vT g l k t v):=(h.filter _).AZ (aoN az l k t v)
theorem aay {g:Int} {l:List aF} (h:∀ x ∈ l,tl x) {k t:Int} (v:Int) (aK:0≤t) (h1:t≤2 ^ 40):tl (hR g l k t v):=by
 have av:∀ x ∈ found g l k t,tl x:=fun x aj=>h x (afP.1 aj).1;refine ⟨?_,?_,?_,rfl⟩
 ·rcases TL (found g l k t) t with e | ⟨x,aj,e⟩
  ·show 0≤me _ _;omega
  ·have:=(av x aj).lo;show 0≤me _ _;omega
 ·exact awF (Oi _ _).1 (Oj _ _).1
 ·rcases TM (found g l k t) t with e | ⟨x,aj,e⟩
  ·show mV _ _≤_;omega
  ·have:=(av x aj).hi;show mV _ _≤_;omega
theorem A0 {g:Int} {l:List aF} {k t v:Int} {x:aF}:x ∈ vT g l k t v↔x=hR g l k t v∨x ∈ l∧s3 g k t x=false:=by
 unfold vT;rw [Oh];unfold Kc;rw [afP];simp
theorem aoP {g:Int} {l:List aF} (h:∀ x ∈ l,tl x) {k t:Int} (v:Int) (aK:0≤t) (h1:t≤2 ^ 40):∀ x ∈ vT g l k t v,tl x:=fun x aj=>by
 rcases A0.1 aj with rfl | aj
 ·exact aay h v aK h1
 ·exact h x aj.1
theorem aoQ {g:Int} (az:0≤g) {l:List aF} (h:fx l) (k t v:Int):iP (lF l ((found g l k t).filter (ip (hR g l k t v)))) (hR g l k t v)=Kc g l k t:=by
 unfold iP lF Kc;rw [axO];refine axp fun y bp=>?_;cases bE:s3 g k t y
 ·have h1:hg y (hR g l k t v)=false:=by
   cases e:hg y (hR g l k t v)
   ·rfl
   ·rw [TK e,aax az] at bE;cases bE
  rw [h1];simp only [axT,avR];refine avh.2 fun x aj=>?_;have wy:=afP.1 (afP.1 aj).1;cases e:hg y x
  ·rfl
  ·rw [TK e,wy.2] at bE;cases bE
 ·cases e:hg y (hR g l k t v)
  ·simp only [axT,Bool.not_true,avR];refine aBc.2 ⟨y,afP.2 ⟨afP.2 ⟨bp,bE⟩,?_⟩,by simp [hg]⟩
   have hk:=(G3.1 bE).1;have ad:=aat.1 e;unfold ip;by_cases aD:y.bg=(hR g l k t v).bg
   ·have:y.to≠(hR g l k t v).to:=fun bn=>ad ⟨hk,aD,bn⟩;simp [this]
   ·simp [aD]
  ·simp
structure Good (g:Int) (l:List aF) (P:List (Int×Int)):Prop where
 tT:fx l
 ok:∀ x ∈ l,tl x
 sep:∀ x ∈ l,∀ y ∈ l,x.key=y.key→hg x y=false→x.to+g<y.bg∨y.to+g<x.bg
 bg:∀ x ∈ l,(x.key,x.bg) ∈ P
 to:∀ x ∈ l,(x.key,x.to) ∈ P
 aaz:∀ k t,(k,t) ∈ P→∃ x ∈ l,x.key=k∧x.bg≤t∧t≤x.to
 Kd:∀ x ∈ l,∀ t,x.bg<t→t≤x.to→∃ p,(x.key,p) ∈ P∧t - g≤p∧p<t
theorem Good.nil (g:Int):Good g [] []:=⟨avV.nil,by simp,by simp,by simp,by simp,by simp,by simp⟩
theorem Good.put {g:Int} (az:1≤g) {l:List aF} {P:List (Int×Int)} (w:Good g l P) {k t:Int} (v:Int) (aK:0≤t) (h1:t≤2 ^ 40):Good g (vT g l k t v) ((k,t)::P):=by
 obtain ⟨cb,a2⟩:=Oi (found g l k t) t;obtain ⟨dK,b7⟩:=Oj (found g l k t) t;have a3:=TL (found g l k t) t;have gx:=TM (found g l k t) t;have hW:∀ x,x ∈ found g l k t↔x ∈ l∧x.key=k∧x.bg - g≤t∧t≤x.to+g:=fun x=>by unfold found;rw [afP,G3]
 have cd:∀ x,s3 g k t x=false↔¬(x.key=k∧x.bg - g≤t∧t≤x.to+g):=fun x=>by rw [←G3];cases s3 g k t x<;>simp
 have Ke:∀ x ∈ l,x.key=k→s3 g k t x=false→x.to+g<me t (found g l k t)∨mV t (found g l k t)+g<x.bg:=fun x aj aug aaA=>by
  have aG:t<x.bg - g∨x.to+g<t:=by have:=(cd x).1 aaA;omega
  have zK:=w.ok x aj;have hle:=zK.le;rcases aG with aG | aG
  ·right;rcases gx with e | ⟨y,bp,e⟩
   ·omega
   ·have nG:=(hW y).1 bp;have bI:hg y x=false:=by
     cases bd:hg y x
     ·rfl
     ·have:=oW.1 bd;omega
    have:=w.sep y nG.1 x aj (by omega) bI
    have:=(w.ok y nG.1).le;omega
  ·left;rcases a3 with e | ⟨y,bp,e⟩
   ·omega
   ·have nG:=(hW y).1 bp;have bI:hg y x=false:=by
     cases bd:hg y x
     ·rfl
     ·have:=oW.1 bd;omega
    have:=w.sep y nG.1 x aj (by omega) bI
    have:=(w.ok y nG.1).le;omega
 refine ⟨aoO (by omega) w.tT k t v,aoP w.ok v aK h1,fun x aj y bp hk bI=>?_,fun x aj=>?_,fun x aj=>?_,fun k' iW aU=>?_,fun x aj iW h1 ad=>?_⟩
 ·rcases A0.1 aj with rfl | aj<;>rcases A0.1 bp with rfl | bp
  ·rw [aat] at bI;exact absurd ⟨rfl,rfl,rfl⟩ bI
  ·have:=Ke y bp.1 hk.symm bp.2;show mV _ _+g<y.bg∨y.to+g<me _ _;omega
  ·have:=Ke x aj.1 hk aj.2;show x.to+g<me _ _∨mV _ _+g<x.bg;omega
  ·exact w.sep x aj.1 y bp.1 hk bI
 ·rcases A0.1 aj with rfl | aj
  ·rcases a3 with e | ⟨y,bp,e⟩
   ·exact IN.2 (.inl (by show (k,me _ _)=_;rw [e]))
   ·have nG:=(hW y).1 bp;refine IN.2 (.inr ?_);show (k,me _ _) ∈ P;rw [e,←nG.2.1];exact w.bg y nG.1
  ·exact IN.2 (.inr (w.bg x aj.1))
 ·rcases A0.1 aj with rfl | aj
  ·rcases gx with e | ⟨y,bp,e⟩
   ·exact IN.2 (.inl (by show (k,mV _ _)=_;rw [e]))
   ·have nG:=(hW y).1 bp;refine IN.2 (.inr ?_);show (k,mV _ _) ∈ P;rw [e,←nG.2.1];exact w.to y nG.1
  ·exact IN.2 (.inr (w.to x aj.1))
 ·rcases IN.1 aU with e | aU
  ·cases e;exact ⟨hR g l k t v,A0.2 (.inl rfl),rfl,cb,dK⟩
  ·obtain ⟨x,aj,aC,bd,ev⟩:=w.aaz k' iW aU;cases bE:s3 g k t x
   ·exact ⟨x,A0.2 (.inr ⟨aj,bE⟩),aC,bd,ev⟩
   ·have P1:x ∈ found g l k t:=afP.2 ⟨aj,bE⟩;have:=a2 x P1;have:=b7 x P1;exact ⟨hR g l k t v,A0.2 (.inl rfl),by rw [←aC];exact (G3.1 bE).1.symm,by show me _ _≤iW;omega,by show iW≤mV _ _;omega⟩
 ·rcases A0.1 aj with rfl | aj
  ·replace h1:me t (found g l k t)<iW:=h1
   replace ad:iW≤mV t (found g l k t):=ad
   have key:∀ p,(k,p) ∈ P∨p=t→iW - g≤p→p<iW→∃ p,((hR g l k t v).key,p) ∈ (k,t)::P∧iW - g≤p∧p<iW:=fun p aU aC bd=>by
    refine ⟨p,IN.2 ?_,aC,bd⟩;rcases aU with aU | rfl
    ·exact .inr aU
    ·exact .inl rfl
   by_cases hle:iW≤t
   ·rcases a3 with e | ⟨z,bR,e⟩
    ·omega
    ·have ye:=(hW z).1 bR;by_cases aaB:iW≤z.to
     ·obtain ⟨p,aU,aC,bd⟩:=w.Kd z ye.1 iW (by omega) aaB
      rw [ye.2.1] at aU;exact key p (.inl aU) aC bd
     ·have:=w.to z ye.1;rw [ye.2.1] at this;exact key z.to (.inl this) (by omega) (by omega)
   ·rcases gx with e | ⟨z,bR,e⟩
    ·omega
    ·have ye:=(hW z).1 bR;by_cases aaC:z.bg<iW
     ·obtain ⟨p,aU,aC,bd⟩:=w.Kd z ye.1 iW aaC (by omega)
      rw [ye.2.1] at aU;exact key p (.inl aU) aC bd
     ·exact key t (.inr rfl) (by omega) (by omega)
  ·obtain ⟨p,aU,aC,bd⟩:=w.Kd x aj.1 iW h1 ad;exact ⟨p,IN.2 (.inr aU),aC,bd⟩
theorem fx.wI:∀ {a b:List aF},fx a→fx b→(∀ x,x ∈ a↔x ∈ b)→a=b
 | [],[],_,_,_=>rfl
 | [],q::r,_,_,h=>by have:=(h q).2 (by simp);cases this
 | q::r,[],_,_,h=>by have:=(h q).1 (by simp);cases this
 | p::r,q::s,aP,al,h=>by
  have oj:=avf.1 aP;have iJ:=avf.1 al;have P2:∀ x:aF,¬fw x x:=fun x=>G1 (oW.2 ⟨rfl,rfl,rfl⟩);have Cy:p=q:=by
   rcases IN.1 ((h p).1 (by simp)) with h1 | h1
   ·exact h1
   ·rcases IN.1 ((h q).2 (by simp)) with ad | ad
    ·exact ad.symm
    ·exact absurd (iJ.1 p h1) (aoJ (oj.1 q ad))
  subst Cy
  congr 1
  refine fx.wI oj.2 iJ.2 fun x=>⟨fun aj=>?_,fun aj=>?_⟩
  ·rcases IN.1 ((h x).1 (by simp [aj])) with e | e
   ·subst e;exact absurd (oj.1 x aj) (P2 x)
   ·exact e
  ·rcases IN.1 ((h x).2 (by simp [aj])) with e | e
   ·subst e;exact absurd (iJ.1 x aj) (P2 x)
   ·exact e
def yf (c:aF):List V:=[.int .i64 c.key,.complex .f64 (f64 c.bg) (f64 c.to),.int .i64 c.val]
theorem aaD (c:aF):(yf c).length=3:=rfl
theorem aoR {h h':I} {v:V} {l:List aF} (o:Own h 308 3 v (l.flatMap yf)):dS ds 288 v h'=some (.int .i64 (l.length:Nat)):=by
 have aL:(l.flatMap yf).length=l.length * 3:=gM aaD l;have:=o.length (by decide) ds DR
 rw [aL,Nat.mul_div_cancel _ (by decide)] at this
 rw [←this];rcases o with ⟨rfl | rfl,_⟩ | ⟨j,n,c,_,_,rfl,_⟩
 ·rw [xC DR,xC DR]
 ·rw [y1 DR,y1 DR]
 ·rw [y0 DR,y0 DR]
structure kJ (h:I) (i:Nat) (v:V) (room g:Int) (l:List aF):Prop where
 lt:i<h.n
 get:h.get i=.cells [.int .i64 room,.int .i64 g,v] 290 none
 own:Own h 308 3 v (l.flatMap yf)
 ne:a8 v≠some i
 tT:fx l
 ok:∀ x ∈ l,tl x
 len:l.length≤1024
 g1:1≤g
 g2:g≤2 ^ 20
section
variable {h h':I} {i:Nat} {v:V} {room g:Int} {l:List aF}
theorem kJ.rows (k:kJ h i v room g l):(l.flatMap yf).length=l.length * 3:=gM aaD l
theorem kJ.ai {own:Nat→Prop} (k:kJ h i v room g l) (hk:J h h' own) (h1:¬own i) (ad:∀ j,a8 v=some j→¬own j):kJ h' i v room g l :=
 ⟨MC k.lt hk.n,(hk.get i k.lt h1).trans k.get,k.own.ai hk ad,k.ne,k.tT,k.ok,k.len,k.g1,k.g2⟩
theorem kJ.br (k:kJ h i v room g l) (hk:J h h' none_):kJ h' i v room g l:=k.ai hk (by simp [none_]) (by simp [none_])
theorem kJ.Eb (k:kJ h i v room g l) (H:I):dS ds 288 v H=some (.int .i64 (l.length:Nat)):=aoR k.own
end
theorem kJ.new {h:I} {room g:Int} (aD:1≤g) (bn:g≤2 ^ 20):kJ (h.push (.cells [.int .i64 room,.int .i64 g,.ag] 290 none)) h.n .ag room g [] :=
 ⟨Nat.lt_succ_self _,ck,Own.ag _ _ _,by simp [a8],avV.nil,by simp,by simp,aD,bn⟩
theorem aoS (g:Int) (l:List aF) (k t:Int):(found g l k t).length≤l.length:=awv ..
theorem dm.after {h H:I} {v v':V} (d:dm H v v') (aG:h.n≤H.n):dm h v v':=by
 rcases d with d | d
 ·exact .inl d
 ·exact .inr fun q ab=>OF aG (d q ab)
theorem sO.ai {h h':I} {i m cl:Nat} {room size:Int} {es:List (Nat×V×V)} {M:Nat→Prop} (k:sO h i m room size es cl) (hk:J h h' M) (h1:¬M i) (ad:¬M m):sO h' i m room size es cl :=
 ⟨(hk.get i k.lt h1).trans k.get,(hk.get m k.Og ad).trans k.map,k.ne,MC k.lt hk.n,MC k.Og hk.n,k.s1,k.s2⟩
def TN (cs:List aF):Int:=cs.foldl (fun a c=>ma (a+c.val)) 0
theorem aoT {l:List aF} {k:Nat} {kk:IntKind} (h:k<l.length):∃ r,hG ds 52 (.ah l.length (l.flatMap bu)) (.int kk (k:Int))=some (.at (bu l[k]++r)) :=
 Nr zf rfl (ME h) Y2
def Cz (a b:aF):Bool:=decide (a.bg<b.bg∨(a.bg=b.bg∧a.key<b.key))
def G4 (l:List aF):Prop:=l.Pairwise fun a b=>Cz b a=false
def vU (size:Int) (e:Nat×(Int×Int)×Int):aF:=⟨e.2.1.1,e.2.1.2,e.2.1.2+size,e.2.2,false⟩
def aaE (size before:Int) (e:Nat×(Int×Int)×Int):Bool:=decide (e.2.1.2+size≤before)
def sf (c:aF):Int×Int:=(c.key,c.bg)
theorem aoU {a b:aF} (h:sf a≠sf b) (aG:Cz b a=false):Cz a b=true:=by
 unfold Cz at *;simp only [decide_eq_false_iff_not,decide_eq_true_eq] at *;have:¬(a.key=b.key∧a.bg=b.bg):=fun e=>h (Prod.ext e.1 e.2);omega
theorem aaF:∀ {a b:List aF},a.Perm b→G4 a→G4 b→(a.map sf).Nodup→a=b
 | [],b,aU,_,_,_=>(List.nil_perm.1 aU).symm
 | x::a,b,aU,aP,al,bf=>by
  cases b with
  | nil=>exact absurd (List.perm_nil.1 aU) (by simp)
  | cons y b=>
   have wJ:=List.nodup_cons.1 bf;have oj:=avf.1 aP;have iJ:=avf.1 al;have aaG:x=y:=by
    apply Classical.byContradiction;intro bI;have bp:y ∈ a:=by
     rcases IN.1 (aU.symm.subset (aBd (a:=y) (l:=b))) with h | h
     ·exact absurd h.symm bI
     ·exact h
    have aj:x ∈ b:=by
     rcases IN.1 (aU.subset (aBd (a:=x) (l:=a))) with h | h
     ·exact absurd h bI
     ·exact h
    have h1:=oj.1 y bp;have ad:=iJ.1 x aj;have ll:sf x≠sf y:=fun e=>wJ.1 (MF.2 ⟨y,bp,e.symm⟩);have aD:=aoU ll h1;rw [aD] at ad;cases ad
   subst aaG;rw [aaF (ayA.cons_inv aU) oj.2 iJ.2 wJ.2]
def ended (g t:Int) (x:aF):Bool:=decide (x.to+g≤t)
inductive eI where
 | kv
 | jo (g:Int)
 | kA (g:Int)
def Kf (g bg to:Int):Bool:=mU bg&&decide (o7 g bg=bg)&&decide (to=bg+g)
def pB (c:aF):Bool:=c.del&&decide (c.val≠0)
def hN:eI→aF→Bool
 | .kv,c=>decide (c.bg≠0)||decide (c.to≠0)||pB c
 | .jo g,c=>!Kf g c.bg c.to||pB c
 | .kA _,c=>!mU c.bg||!mU c.to||decide (c.to<c.bg)||pB c
def TO:eI→Prop
 | .kv=>True
 | .jo g=>1≤g∧g≤1048576
 | .kA g=>1≤g∧g≤1048576
structure dP (K:eI) (l:List aF):Prop where
 tT:fx l
 len:l.length≤1024
 ok:∀ x ∈ l,x.del=false∧hN K x=false
 g:TO K
theorem dP.nil {K:eI} (az:TO K):dP K []:=⟨avV.nil,by simp,by simp,az⟩
def tm (K:eI) (l:List aF) (c:aF):List aF×Int :=
 if hN K c then (l,5) else
 if c.del then (if e2 l c then (iP l c,0) else (l,6)) else
 if !e2 l c&&decide (1024≤l.length) then (l,3) else (mA (iP l c) c,0)
def kU (K:eI):List aF→List aF→Option (List aF)
 | l,[]=>some l
 | l,c::r=>if (tm K l c).2=0 then kU K (tm K l c).1 r else none
theorem aaH (K:eI):∀ (l a b:List aF),kU K l (a++b)=(kU K l a).bind fun m=>kU K m b
 | l,[],b=>rfl
 | l,c::r,b=>by
  simp only [avx,kU];split
  ·exact aaH K _ r b
  ·rfl
theorem Kg {l:List aF} {x y:aF}:y ∈ iP l x↔y ∈ l∧hg y x=false:=by simp [iP]
theorem Kh {l:List aF} (h:fx l) (x:aF):fx (iP l x):=h.filter _
theorem aaI (l:List aF) (x:aF):(iP l x).length≤l.length:=awv _ _
theorem dP.rm {K:eI} {l:List aF} (w:dP K l) (x:aF):dP K (iP l x) :=
 ⟨Kh w.tT x,OF (aaI l x) w.len,fun y bp=>w.ok y (Kg.1 bp).1,w.g⟩
theorem dP.filter {K:eI} {l:List aF} (w:dP K l) (p:aF→Bool):dP K (l.filter p) :=
 ⟨w.tT.filter p,OF (awv _ _) w.len,fun y bp=>w.ok y (afP.1 bp).1,w.g⟩
theorem dP.ins {K:eI} {l:List aF} (w:dP K l) {x:aF} (U:e2 l x=false) (hlen:l.length<1024) (bf:x.del=false) (al:hN K x=false):dP K (mA l x) :=
 ⟨w.tT.AZ U,by have:=w.tT.G2 x;omega,fun y bp=>by
  rcases Oh.1 bp with rfl | bp
  ·exact ⟨bf,al⟩
  ·exact w.ok y bp,w.g⟩
theorem Ol {l:List aF} {x:aF}:e2 l x=true↔∃ y ∈ l,hg y x=true:=by simp [e2]
theorem aoV {l:List aF} (h:fx l) {x:aF} (aj:e2 l x=true):(iP l x).length<l.length:=by have:=aoK h aj;omega
theorem dP.set {K:eI} {l:List aF} (w:dP K l) {x:aF} (av:(!e2 l x&&decide (1024≤l.length))=false) (bf:x.del=false) (al:hN K x=false):dP K (mA (iP l x) x):=by
 refine (w.rm x).ins (TJ l x) ?_ bf al;cases U:e2 l x
 ·rw [U] at av;have:=aaI l x;simp at av;omega
 ·have:=aoV w.tT U;have:=w.len;omega
theorem dP.aaJ {K:eI} {l:List aF} (w:dP K l) (c:aF):dP K (tm K l c).1:=by
 unfold tm;split
 ·exact w
 rename_i al;split
 ·split
  ·exact w.rm c
  ·exact w
 rename_i bf;split
 ·exact w
 rename_i av;exact w.set (by simpa using av) (by simpa using bf) (by simpa using al)
theorem dP.kU {K:eI}:∀ {cs l m:List aF},dP K l→kU K l cs=some m→dP K m
 | [],l,m,w,h=>by cases h;exact w
 | c::r,l,m,w,h=>by
  unfold Pk.kU at h;split at h
  ·exact dP.kU (w.aaJ c) h
  ·cases h
theorem aoW {K:eI} {l:List aF} {c:aF} (al:hN K c=false) (bf:c.del=false) (av:(!e2 l c&&decide (1024≤l.length))=false):tm K l c=(mA (iP l c) c,0):=by
 unfold tm;rw [if_neg (by simp [al]),if_neg (by simp [bf]),if_neg (by rw [av];decide)]
theorem aoX {K:eI} {l:List aF} {c:aF} (al:hN K c=false) (bf:c.del=true) (U:e2 l c=true):tm K l c=(iP l c,0):=by
 unfold tm;rw [if_neg (by simp [al]),if_pos bf,if_pos U]
theorem aoY (l:List aF) (x:aF):e2 l (yd x)=e2 l x:=rfl
theorem aoZ (l:List aF) (x:aF):iP l (yd x)=iP l x:=rfl
theorem ao0 {K:eI} {x:aF} (h:hN K x=false):hN K (yd x)=false:=by
 have aH:pB (yd x)=false:=by simp [pB,yd]
 cases K<;>simp only [hN,axq] at h⊢<;>simp_all [yd]<;>exact decide_eq_false (by show ¬x.to<x.bg;omega)
theorem aaK {K:eI}:∀ (A:List aF) {l:List aF},fx l→(∀ x ∈ A,x ∈ l∧hN K x=false)→A.Pairwise (fun a b=>hg b a=false)→kU K l (A.map yd)=some (lF l A)
 | [],l,_,_,_=>by rw [avw,aoL];rfl
 | x::A,l,aa,jD,aU=>by
  have aj:=jD x (by simp)
  have P3:=avf.1 aU;rw [au9,kU,aoX (ao0 aj.2) rfl (by rw [aoY];exact IT aj.1),if_pos rfl,aoZ]
  rw [aaK A (Kh aa x) (fun y bp=>⟨Kg.2 ⟨(jD y (by simp [bp])).1,P3.1 y bp⟩,(jD y (by simp [bp])).2⟩) P3.2]
  congr 1
  unfold lF iP;rw [axO];refine axp fun y _=>?_;simp only [List.all_cons];rw [aBe]
def valOf (l:List aF) (x:aF):Int:=((l.filter fun y=>hg y x).map (·.val)).headD 0
def o8:eI→Int→Int→Int→aF
 | .kv,k,_,v=>⟨k,0,0,v,false⟩
 | .jo g,k,t,v=>⟨k,o7 g t,o7 g t+g,v,false⟩
 | .kA _,k,t,v=>⟨k,t,t,v,false⟩
def sg (l:List aF) (x:aF):List aF:=mA (iP l x) x
def si:eI→List aF→Int→Int→Int→List aF
 | .kv,_,k,t,v=>[o8 .kv k t v]
 | .jo g,_,k,t,v=>[o8 (.jo g) k t v]
 | .kA g,l,k,t,v=>Ef g l k t v
def sj:eI→List aF→Int→Int→Int→List aF
 | .kv,l,k,t,v=>sg l (o8 .kv k t v)
 | .jo g,l,k,t,v=>sg l (o8 (.jo g) k t v)
 | .kA g,l,k,t,v=>vT g l k t v
def yg:eI→List aF→Int→Int→Bool
 | .kv,l,k,t=>!e2 l (o8 .kv k t 0)&&decide (1024≤l.length)
 | .jo g,l,k,t=>!e2 l (o8 (.jo g) k t 0)&&decide (1024≤l.length)
 | .kA g,l,k,t=>(found g l k t).isEmpty&&decide (1024≤l.length)
def A1:eI→List aF→Int→Int→Int
 | .kv,_,_,t=>t
 | .jo g,_,_,t=>o7 g t
 | .kA g,l,k,t=>me t (found g l k t)
def Ki:eI→List aF→Int→Int→Int
 | .kv,l,k,t=>valOf l (o8 .kv k t 0)
 | .jo g,l,k,t=>valOf l (o8 (.jo g) k t 0)
 | .kA g,l,k,t=>TN (found g l k t)
theorem ao1 {n t:Int} (aK:0≤t) (h1:1≤n):o7 n (o7 n t)=o7 n t:=by
 have aL:=aas aK h1;unfold o7 at *;have ad:t.tmod n=t % n:=awD aK;rw [ad] at aL⊢;have aD:(t - t % n).tmod n=(t - t % n) % n:=awD (by omega)
 rw [aD,Int.sub_emod,Int.emod_emod_of_dvd _ (Int.dvd_refl n),Int.sub_self];simp
theorem aaL {K:eI} (az:TO K) {k t v:Int} (bE:mU t=true):hN K (o8 K k t v)=false:=by
 have oc:=bE;simp only [mU,decide_eq_true_eq] at oc;cases K with
 | kv=>simp [hN,o8,pB]
 | jo g=>
  have aL:=aas oc.1 az.1;have:mU (o7 g t)=true:=by simp only [mU,decide_eq_true_eq];omega
  simp [hN,o8,pB,Kf,ao1 oc.1 az.1,this]
 | kA g=>simp [hN,o8,pB,bE]
theorem ao2 {g:Int} {x:aF} (h:x.del=false∧hN (.kA g) x=false):tl x:=by
 obtain ⟨h1,ad⟩:=h;simp only [hN,axq,ayS,mU,decide_eq_true_eq,decide_eq_false_iff_not] at ad;exact ⟨by omega,by omega,by omega,h1⟩
theorem ao3 {g:Int} {x:aF} (h:tl x):hN (.kA g) x=false:=by
 have h1:=h.lo;have ad:=h.le;have aD:=h.hi;simp only [hN,axq,ayS,mU,decide_eq_true_eq,decide_eq_false_iff_not,pB,h.del,Bool.false_and,and_true];omega
theorem TP {K:eI} {l:List aF} {x:aF} (al:hN K x=false) (bf:x.del=false) (av:(!e2 l x&&decide (1024≤l.length))=false):kU K l [x]=some (sg l x):=by
 rw [kU,aoW al bf av,if_pos rfl];rfl
theorem dP.qA {K:eI} {l:List aF} (w:dP K l) {k t v:Int} (bE:mU t=true) (av:yg K l k t=false):Pk.kU K l (si K l k t v)=some (sj K l k t v):=by
 have oc:=bE;simp only [mU,decide_eq_true_eq] at oc;cases K with
 | kv=>exact TP (aaL w.g bE) rfl av
 | jo g=>exact TP (aaL w.g bE) rfl av
 | kA g=>
  have az:0≤g:=by have:=w.g.1;omega
  have TQ:∀ x ∈ l,tl x:=fun x aj=>ao2 (w.ok x aj);have s9:=aay (g:=g) TQ (k:=k) v oc.1 (by omega)
  unfold si Ef;rw [aaH];have rX:∀ x ∈ (found g l k t).filter (ip (hR g l k t v)),x ∈ l:=fun x aj=>(afP.1 (afP.1 aj).1).1;have aaM:fx ((found g l k t).filter (ip (hR g l k t v))):=(w.tT.filter _).filter _;rw [aaK _ w.tT (fun x aj=>⟨rX x aj,(w.ok x (rX x aj)).2⟩) (aaM.imp fun {a b} h=>by
   cases aa:hg b a
   ·rfl
   ·rw [oW] at aa;unfold fw at h;omega)]
  rw [Option.bind_some];have rJ:lF l ((found g l k t).filter (ip (hR g l k t v)))=l.filter fun y=>!((s3 g k t y)&&ip (hR g l k t v) y):=by
   have:(found g l k t).filter (ip (hR g l k t v))=l.filter fun y=>(s3 g k t y)&&ip (hR g l k t v) y:=by
    unfold found;rw [axO];refine axp fun y _=>?_;rw [aBe]
   rw [this,aoM w.tT]
  have pv:=aoQ az w.tT k t v;generalize eC:lF l ((found g l k t).filter (ip (hR g l k t v)))=R at *;have auh:fx R:=by rw [←eC];exact w.tT.lF _
  have Fj:R.length≤l.length:=by rw [rJ];exact awv _ _
  rw [TP (ao3 s9) s9.del ?_]
  ·unfold sg;rw [pv];rfl
  ·cases U:e2 R (hR g l k t v)
   ·simp only [axT,avR,decide_eq_false_iff_not];intro ay;have B1:=w.len;have lj:yg (.kA g) l k t=false:=av;simp only [yg,Bool.and_eq_false_iff,List.isEmpty_eq_false_iff,decide_eq_false_iff_not] at lj;rcases lj with lj | lj
    ·
     have P4:R.length=l.length:=by omega
     have dr:∀ x ∈ l,x ∈ R:=fun x aj=>by
      rw [rJ] at P4⊢;have:=List.length_filter_eq_length_iff.1 P4 x aj;exact afP.2 ⟨aj,this⟩
     obtain ⟨x,aj⟩:=List.exists_mem_of_ne_nil _ lj;have uA:=(afP.1 aj);have P5:=dr x uA.1;rw [rJ] at P5;have zK:=(afP.1 P5).2;rw [uA.2,avR] at zK;have A3:=(G3.1 uA.2).1;have:hg x (hR g l k t v)=true:=oW.2 (by
      simp only [ip,awT,axq,decide_eq_false_iff_not,Decidable.not_not] at zK;exact ⟨A3,zK.1,zK.2⟩)
     have eR:e2 R (hR g l k t v)=true:=Ol.2 ⟨x,dr x uA.1,this⟩;rw [eR] at U;cases U
    ·omega
   ·rfl
theorem dP.lE {K:eI} {l:List aF} (w:dP K l) {k t:Int} (v:Int) (bE:mU t=true) (av:yg K l k t=false):dP K (sj K l k t v):=dP.kU w (w.qA bE av)
def Eg:eI→Int→aF→Bool
 | .kv,_,_=>false
 | .jo g,m,x=>decide (0≤m)&&decide (x.to≤m - g)
 | .kA g,m,x=>decide (x.to+g≤m)
def Kj (l:List aF):List aF:=l.mergeSort fun a b=>!Cz b a
def Kk:eI→List aF→List aF
 | .kv,l=>l
 | .jo _,l=>Kj l
 | .kA _,l=>l
def je (K:eI) (m:Int) (l:List aF):List aF:=Kk K ((l.filter (Eg K m)).map yd)
def jN (K:eI) (m:Int) (l:List aF):List aF:=l.filter fun x=>!Eg K m x
theorem aaN (K:eI) (l:List aF):(Kk K l).Perm l:=by cases K<;>first | exact .refl _ | exact ayT _ _
theorem dP.jN {K:eI} {l:List aF} (w:dP K l) (m:Int):dP K (Pk.jN K m l):=w.filter _
theorem ao4 (l:List aF):G4 (Kj l):=by
 unfold G4 Kj;have:=List.pairwise_mergeSort (le:=fun a b=>!Cz b a) (l:=l) (fun a b c h1 ad=>?_) (fun a b=>?_)
 ·exact this.imp fun {a b} h=>by simpa using h
 ·simp only [Cz,awT,decide_eq_false_iff_not] at *;omega
 ·simp only [Cz,Bool.or_eq_true,awT,decide_eq_false_iff_not];omega
theorem ao5 {l lc:List aF} (aU:lc.Perm l) (aa:G4 lc) (aG:(l.map sf).Nodup):lc=Kj l :=
 aaF (aU.trans (ayT _ _).symm) aa (ao4 l) ((aU.map sf).nodup_iff.2 aG)
def aaO:eI→Int→Int→Bool
 | .kv,_,_=>false
 | .jo g,t,m=>decide (o7 g t+g≤m)
 | .kA g,t,m=>decide (t+g≤m)
def fO (g:Int) (e:p5) (l:List aF):Prop:=(e.map (vU g)).Perm l
def nx (g k bg v:Int):aF:=⟨k,bg,bg+g,v,false⟩
theorem fO.mem {g:Int} {e:p5} {l:List aF} (h:fO g e l) (x:aF):x ∈ l↔∃ s k bg v,(s,(k,bg),v) ∈ e∧x=nx g k bg v:=by
 rw [←h.mem_iff,MF]
 constructor
 ·rintro ⟨⟨s,⟨k,bg⟩,v⟩,h1,rfl⟩;exact ⟨s,k,bg,v,h1,rfl⟩
 ·rintro ⟨s,k,bg,v,h1,rfl⟩;exact ⟨_,h1,rfl⟩
theorem Om {e:p5} (aG:dt e) {k bg v:Int}:bZ e (k,bg)=some v↔∃ s,(s,(k,bg),v) ∈ e:=by
 constructor
 ·intro h;clear aG
  induction e with
  | nil=>cases h
  | cons a r ih=>
   unfold bZ at h;split at h
   ·rename_i hk;obtain ⟨s,kk,cv⟩:=a;simp only at hk h;subst hk;cases h;exact ⟨s,by simp⟩
   ·obtain ⟨s,aa⟩:=ih h;exact ⟨s,by simp [aa]⟩
 ·rintro ⟨s,aa⟩
  exact px aG aa
theorem fO.tU {g:Int} {e:p5} {l:List aF} (h:fO g e l) (aG:dt e) (x:aF):x ∈ l↔∃ k bg v,bZ e (k,bg)=some v∧x=nx g k bg v:=by
 rw [h.mem x]
 constructor
 ·rintro ⟨s,k,bg,v,h1,ad⟩;exact ⟨k,bg,v,(Om aG).2 ⟨s,h1⟩,ad⟩
 ·rintro ⟨k,bg,v,h1,ad⟩
  obtain ⟨s,aa⟩:=(Om aG).1 h1;exact ⟨s,k,bg,v,aa,ad⟩
theorem ao6 {l:List aF} (h:fx l):l.Nodup:=h.imp fun {a b} aw e=>by subst e;unfold fw at aw;omega
theorem ao7 {g:Int} {e:p5} (aG:dt e):(e.map (vU g)).Nodup:=by
 have:((e.map (vU g)).map sf).Nodup:=by
  rw [List.map_map];have aC:(sf ∘ vU g)=fun x:Nat×(Int×Int)×Int=>x.2.1:=rfl;rw [aC];exact aG
 exact avV.of_map sf (fun a b h e=>h (by rw [e])) this
theorem fO.of {g:Int} {e:p5} {l:List aF} (aG:dt e) (aa:fx l) (h:∀ x,x ∈ l↔∃ k bg v,bZ e (k,bg)=some v∧x=nx g k bg v):fO g e l:=by
 refine (List.perm_ext_iff_of_nodup (ao7 aG) (ao6 aa)).2 fun x=>?_;rw [h x,MF]
 constructor
 ·rintro ⟨⟨s,⟨k,bg⟩,v⟩,h1,rfl⟩;exact ⟨k,bg,v,(Om aG).2 ⟨s,h1⟩,rfl⟩
 ·rintro ⟨k,bg,v,h1,rfl⟩
  obtain ⟨s,aa⟩:=(Om aG).1 h1;exact ⟨_,aa,rfl⟩
theorem Eh {g:Int} {k bg v ba q7 v2:Int}:hg (nx g k bg v) (nx g ba q7 v2)=decide (k=ba∧bg=q7):=by
 rw [avv,oW,decide_eq_true_eq];simp only [nx]
 constructor
 ·rintro ⟨h1,ad,_⟩;exact ⟨h1,ad⟩
 ·rintro ⟨rfl,rfl⟩;exact ⟨rfl,rfl,rfl⟩
theorem fO.len {g:Int} {e:p5} {l:List aF} (h:fO g e l):e.length=l.length:=by have:=h.length_eq;simpa using this
theorem fO.has {g:Int} {e:p5} {l:List aF} (h:fO g e l) (aG:dt e) {x:aF} {k bg v:Int} (aj:x=nx g k bg v):e2 l x=(bZ e (k,bg)).isSome:=by
 subst aj;rw [avv,Ol]
 constructor
 ·rintro ⟨y,bp,aa⟩
  obtain ⟨ba,q7,v2,h1,rfl⟩:=(h.tU aG y).1 bp;rw [Eh,decide_eq_true_eq] at aa;obtain ⟨rfl,rfl⟩:=aa;rw [h1];rfl
 ·intro aa;obtain ⟨v2,aH⟩:=axC.1 aa;exact ⟨nx g k bg v2,(h.tU aG _).2 ⟨k,bg,v2,aH,rfl⟩,by rw [Eh];simp⟩
theorem ao8 {l:List aF} (aa:fx l) {x y:aF} (bp:y ∈ l) (h:hg y x=true):l.filter (fun z=>hg z x)=[y]:=by
 induction l with
 | nil=>cases bp
 | cons a r ih=>
  have aU:=avf.1 aa;rcases IN.1 bp with rfl | bp
  ·rw [axV (p:=fun z=>hg z x) h]
   congr 1
   rw [awQ];intro z bR Kl;have aw:=aU.1 z bR;rw [oW] at h Kl;unfold fw at aw;omega
  ·rw [axn (p:=fun z=>hg z x)]
   ·exact ih aU.2 bp
   ·intro aP;have aw:=aU.1 y bp;rw [oW] at h aP;unfold fw at aw;omega
theorem aaP {l:List aF} (aa:fx l) {x y:aF} (bp:y ∈ l) (h:hg y x=true):valOf l x=y.val:=by
 unfold valOf;rw [ao8 aa bp h];rfl
theorem aaQ {l:List aF} {x:aF} (h:e2 l x=false):valOf l x=0:=by
 unfold valOf;have:l.filter (fun z=>hg z x)=[]:=by
  rw [awQ];intro z bR Kl;have:=Ol.2 ⟨z,bR,Kl⟩;rw [this] at h;cases h
 rw [this];rfl
theorem fO.val {g:Int} {e:p5} {l:List aF} (h:fO g e l) (aG:dt e) (aa:fx l) {k bg v:Int}:valOf l (nx g k bg v)=(bZ e (k,bg)).getD 0:=by
 cases hk:bZ e (k,bg) with
 | none=>rw [aaQ (by rw [h.has aG rfl,hk];rfl)];rfl
 | some u=>rw [aaP aa ((h.tU aG (nx g k bg u)).2 ⟨k,bg,u,hk,rfl⟩) (by rw [Eh];simp)];rfl
theorem fO.set {g:Int} {e:p5} {l:List aF} (h:fO g e l) (aG:dt e) (aa:fx l) (cl:Nat) (k bg v:Int):fO g (cW cl e (k,bg) v) (sg l (nx g k bg v)):=by
 refine fO.of (aG.set _ _ _) ((Kh aa _).AZ (TJ _ _)) fun x=>?_;unfold sg;rw [Oh,Kg]
 constructor
 ·rintro (rfl | ⟨h1,ad⟩)
  ·exact ⟨k,bg,v,by rw [wX,if_pos rfl],rfl⟩
  ·obtain ⟨ba,q7,v2,aD,rfl⟩:=(h.tU aG x).1 h1;rw [Eh,decide_eq_false_iff_not] at ad;exact ⟨ba,q7,v2,by rw [wX,if_neg (fun q=>ad (by cases q;exact ⟨rfl,rfl⟩))];exact aD,rfl⟩
 ·rintro ⟨ba,q7,v2,aD,rfl⟩
  rw [wX] at aD;by_cases hk:(ba,q7)=(k,bg)
  ·rw [if_pos hk] at aD;cases hk;cases aD;exact .inl rfl
  ·rw [if_neg hk] at aD;refine .inr ⟨(h.tU aG _).2 ⟨ba,q7,v2,aD,rfl⟩,?_⟩;rw [Eh,decide_eq_false_iff_not]
   rintro ⟨rfl,rfl⟩
   exact hk rfl
theorem ao9 {l:List aF} {x y:aF} (h:hg x y=true):iP l x=iP l y:=by
 unfold iP;refine axp fun z _=>?_;rw [oW] at h;have:hg z x=hg z y:=by rw [avv,oW,oW,h.1,h.2.1,h.2.2]
 rw [this]
theorem fO.del {g:Int} {e:p5} {l:List aF} (h:fO g e l) (aG:dt e) (aa:fx l) {k bg:Int} {c:aF} (ay:hg c (nx g k bg 0)=true):fO g (lA e (k,bg)) (iP l c):=by
 rw [ao9 ay];refine fO.of (aG.del _) (Kh aa _) fun x=>?_;rw [Kg]
 constructor
 ·rintro ⟨h1,ad⟩
  obtain ⟨ba,q7,v2,aD,rfl⟩:=(h.tU aG x).1 h1;rw [Eh,decide_eq_false_iff_not] at ad;exact ⟨ba,q7,v2,by rw [Sc aG,if_neg (fun q=>ad (by cases q;exact ⟨rfl,rfl⟩))];exact aD,rfl⟩
 ·rintro ⟨ba,q7,v2,aD,rfl⟩
  rw [Sc aG] at aD;split at aD
  ·cases aD
  ·rename_i hk;refine ⟨(h.tU aG _).2 ⟨ba,q7,v2,aD,rfl⟩,?_⟩;rw [Eh,decide_eq_false_iff_not]
   rintro ⟨rfl,rfl⟩
   exact hk rfl
theorem fO.filter {g b:Int} {e:p5} {l:List aF} (h:fO g e l):fO g (e.filter fun x=>!aaE g b x) (l.filter fun x=>!decide (x.to≤b)):=by
 unfold fO;have:=ayA.filter (fun x:aF=>!decide (x.to≤b)) (show (e.map (vU g)).Perm l from h)
 rw [List.filter_map] at this;exact this
theorem apa {g:Int} {l:List aF} (w:dP (.jo g) l):(l.map sf).Nodup:=by
 refine awf.2 (w.tT.imp_of_mem fun {a b} aP al aw ll=>?_);have h1:=w.ok a aP;have ad:=w.ok b al;simp only [hN,Kf,axq,ayS,Bool.and_eq_true,decide_eq_true_eq] at h1 ad;have aC:a.key=b.key:=congrArg Prod.fst ll;have bd:a.bg=b.bg:=congrArg Prod.snd ll;unfold fw at aw;omega
theorem fO.list {g:Int} {e:p5} {l lc:List aF} (w:dP (.jo g) l) (h:fO g e l) (aU:lc.Perm (e.map (vU g))) (aa:G4 lc):lc=Kj l:=ao5 (aU.trans h) aa (apa w)
def tp (p:eo):aF:=⟨p.1,0,0,p.2,false⟩
theorem aaR {l:List eo} (aa:mS l) {k v:Int}:(k,v) ∈ l↔look l k=some v:=⟨fun h=>aae aa h,aaf⟩
theorem G5 {l:List eo} (aa:mS l) {x:aF}:x ∈ l.map tp↔∃ k v,look l k=some v∧x=⟨k,0,0,v,false⟩:=by
 rw [MF]
 constructor
 ·rintro ⟨⟨k,v⟩,h1,rfl⟩;exact ⟨k,v,(aaR aa).1 h1,rfl⟩
 ·rintro ⟨k,v,h1,rfl⟩;exact ⟨_,(aaR aa).2 h1,rfl⟩
theorem On {l:List eo} (aa:mS l):fx (l.map tp):=by
 refine awf.2 (aa.imp fun {a b} h=>?_);exact .inl h
theorem Km {k ba v v2:Int} {d d2:Bool}:hg ⟨k,0,0,v,d⟩ ⟨ba,0,0,v2,d2⟩=decide (k=ba):=by
 rw [avv,oW,decide_eq_true_eq];simp
theorem aaS {l:List eo} (aa:mS l) {k v:Int} {d:Bool}:e2 (l.map tp) ⟨k,0,0,v,d⟩=has l k:=by
 rw [avv,Ol];unfold has
 constructor
 ·rintro ⟨y,bp,h⟩
  obtain ⟨ba,v2,h1,rfl⟩:=(G5 aa).1 bp;rw [Km,decide_eq_true_eq] at h;subst h;rw [h1];rfl
 ·intro h;obtain ⟨v2,aH⟩:=axC.1 h;exact ⟨_,(G5 aa).2 ⟨k,v2,aH,rfl⟩,by rw [Km];simp⟩
theorem aaT {l:List eo} (aa:mS l) {k v:Int} {d:Bool}:valOf (l.map tp) ⟨k,0,0,v,d⟩=(look l k).getD 0:=by
 cases hk:look l k with
 | none=>rw [aaQ (by rw [aaS aa,has,hk];rfl)];rfl
 | some u=>rw [aaP (On aa) ((G5 aa).2 ⟨k,u,hk,rfl⟩) (by rw [Km];simp)];rfl
theorem apb {l:List eo} (aa:mS l) (k v:Int):(put l k v).map tp=sg (l.map tp) ⟨k,0,0,v,false⟩:=by
 refine fx.wI (On (J4 aa k v)) ((Kh (On aa) _).AZ (TJ _ _)) fun x=>?_;unfold sg;rw [G5 (J4 aa k v),Oh,Kg,G5 aa]
 constructor
 ·rintro ⟨ba,v2,h1,rfl⟩
  rw [Oe l k v ba aa] at h1;split at h1
  ·rename_i e;subst e;cases h1;exact .inl rfl
  ·rename_i e;exact .inr ⟨⟨ba,v2,h1,rfl⟩,by rw [Km,decide_eq_false_iff_not];exact e⟩
 ·rintro (rfl | ⟨⟨ba,v2,h1,rfl⟩,ad⟩)
  ·exact ⟨k,v,by rw [Oe l k v k aa,if_pos rfl],rfl⟩
  ·rw [Km,decide_eq_false_iff_not] at ad;exact ⟨ba,v2,by rw [Oe l k v ba aa,if_neg ad];exact h1,rfl⟩
open Go Go.Proofs Go.Proofs.YtemdgidnhgcafaaGreatDoor.Ab Go.Sort
theorem then_eq {K:e7} {x:Option V} {v:V} {d:Option Tmp} {f:ak} {h:I} (e:x=some v) (g:@lv (some v) d K f h):@lv x d K f h:=e ▸ g
theorem apc (h:I) (n:Int) (aG:n=0∨n=1):Pure ds 132 [.int .u64 n] h (.int .i64 n):=by
 refine Pure.val (a7.int _ _) ?_;refine af.au (c:=_) Tryz.func132 rfl (by kernel_rfl) (by simp) ?_
 have aaU:IntKind.u8.wrap 0=0:=by decide
 have aaV:IntKind.u8.wrap 1=1:=by decide
 have cV:IntKind.i64.wrap 1=1:=by decide
 have aJ:IntKind.i64.wrap 0=0:=by decide
 have bS:IntKind.i64.wrap (0+0)=0:=by decide
 have j7:IntKind.i64.wrap (0+1)=1:=by decide
 rcases aG with rfl | rfl
 ·simp only [ae,awi,vt,reduceCtorEq,ns,mv,aaU];refine then_eq (v:=.int .u8 0) (by kernel_rfl) ?_
  simp only [ae,vt,iA,mv,aJ,bS,aS,aBg,ac];exact ax ⟨rfl,J.refl _ _⟩
 ·simp only [ae,awi,vt,reduceCtorEq,ns,mv,aaV];refine then_eq (v:=.int .u8 1) (by kernel_rfl) ?_
  simp only [ae,vt,iA,mv,cV,j7,aS,aBg,ac];exact ax ⟨rfl,J.refl _ _⟩
theorem Kn (h:I) (n:Int) (aG:n=0∨n=1):Pure ds 97 [.int .u64 n] h (.int .i64 n):=by
 refine Pure.val (a7.int _ _) ?_;refine af.au (c:=_) Tryz.func97 rfl (by kernel_rfl) (by simp) ?_
 have hw:IntKind.u64.wrap n=n:=by rcases aG with rfl | rfl<;>decide
 simp only [ae,vt,reduceCtorEq];refine bW alE (apc h n aG) ?_;simp only [ae,vt,aS,Tryz.results97,ac];exact ax ⟨rfl,J.refl _ _⟩
open Go.Shelf
theorem TR {t:Int}:mU t=true↔0≤t∧t≤1099511627776:=by simp [mU]
def sk:eI→TypeId
 | .kv=>256
 | .jo _=>259
 | .kA _=>262
inductive kb (h:I) (i:Nat):List Nat→eI→List aF→Prop
 | kv {v:V} {l:List eo} (k:fk h i v 1024 l):kb h i (i::(a8 v).toList) .kv (l.map tp)
theorem mem_io {i:Nat} {v:V} {q:Nat}:q ∈ i::(a8 v).toList↔q=i∨a8 v=some q:=by
 cases h:a8 v<;>simp [eq_comm]
def gk (h:I) (O fa:List Nat):Prop:=∀ x ∈ fa,x ∈ O∨h.n≤x
theorem gk.refl (h:I) (O:List Nat):gk h O O:=fun _ aj=>.inl aj
theorem gk.of {h:I} {i:Nat} {v v':V} (d:dm h v v'):gk h (i::(a8 v).toList) (i::(a8 v').toList):=fun x aj=>by
 rcases mem_io.1 aj with rfl | aj
 ·exact .inl (by simp)
 ·rcases d with d | d
  ·exact .inl (mem_io.2 (.inr (by rw [←d];exact aj)))
  ·exact .inr (d x aj)
section
variable {h h':I} {i:Nat} {O:List Nat} {K:eI} {l:List aF}
theorem kb.lt (k:kb h i O K l):∀ q ∈ O,q<h.n:=by
 cases k with
 | kv k=>intro q ab;rcases mem_io.1 ab with rfl | ab;exact k.lt;exact k.own.lt q ab
theorem kb.ai {M:Nat→Prop} (k:kb h i O K l) (hk:J h h' M) (hm:∀ q ∈ O,¬M q):kb h' i O K l:=by
 cases k with
 | kv k=>exact .kv (k.ai hk (hm _ (by simp)) fun j aV=>hm j (mem_io.2 (.inr aV)))
theorem kb.br (k:kb h i O K l) (hk:J h h' none_):kb h' i O K l:=k.ai hk fun _ _=>by simp [none_]
theorem kb.wf (k:kb h i O K l):dP K l:=by
 cases k with
 | kv k=>
  refine ⟨On k.mT,by rw [VY];have:=k.len;omega,fun x aj=>?_,trivial⟩
  obtain ⟨a,b,_,rfl⟩:=(G5 k.mT).1 aj;exact ⟨rfl,by simp [hN,pB]⟩
theorem apd (k:kb h i O K l) (r:Rec) (bE:mU r.t=true):Pure ds 198 [.iface (sk K) (.ptr i 0),.agg (aI r)] h (.int .i64 (Ki K l r.k r.t)):=by
 have oc:=TR.1 bE;cases k with
 | kv k=>
  have:=aoD k r;rw [←aaT (v:=0) (d:=false) k.mT] at this;exact this
def iz (cs:List aF):V:=.ah cs.length (cs.flatMap bu)
theorem ape {h':I} {j:Nat} {c:aF} (o:Own h' 110 5 (.bj j 0 1 1) (bu c)) (t ia:Int):∃ ad,aA (.tuple [.bj j 0 1 1,.int .i64 t,.int .i64 ia]) h' (.tuple [iz [c],.int .i64 t,.int .i64 ia]) ad∧J h' ad (fun q=>q=j):=by
 obtain ⟨ad,bb,bJ⟩:=aA.own o (n:=1) rfl (by decide)
 refine ⟨ad,aA.tuple (aq.cons ?_ (aq.refl _ _)),bJ.mono fun q ab=>by simpa [a6,a8,eq_comm] using ab⟩
 have:iz [c]=.ah 1 (bu c):=by simp [iz]
 rw [this];exact bb
theorem apf (k:kb h i O K l) (r:Rec) (n:Int) (bE:mU r.t=true) :
  af ds 199 [.iface (sk K) (.ptr i 0),.agg (aI r),.int .i64 n] h (fun q h'=>∃ c t ia fa,q=.tuple [c,.int .i64 t,.int .i64 ia]∧J h h' (· ∈ O)∧gk h O fa ∧
   if yg K l r.k r.t=true then ia=3∧kb h' i fa K l else ia=0∧t=A1 K l r.k r.t∧c=iz (si K l r.k r.t n)∧kb h' i fa K (sj K l r.k r.t n)):=by
 have oc:=TR.1 bE;cases k with
 | @kv v l k=>
  have P6:yg .kv (l.map tp) r.k r.t=full 1024 l r.k:=by
   simp only [yg,o8,aaS k.mT,full,VY]
   congr 1
   rw [avv,decide_eq_true_eq,decide_eq_true_eq];omega
  refine af.cast ((aoF k r n).mono fun q h' ⟨v',j,e,bJ,b9,d,o,aV,cL,aaW⟩=>?_);subst e;have Fl:J h h' (· ∈ i::(a8 v).toList):=b9.mono fun q ab=>mem_io.2 ab;cases av:full 1024 l r.k with
  | true=>
   refine ⟨_,h',aA.refl _ _,_,_,_,_,rfl,Fl,gk.of d,?_⟩;rw [if_pos (by rw [P6];exact av)]
   refine ⟨by simp [oz,av],?_⟩
   have:lE 1024 l r.k n=l:=by simp [lE,av]
   rw [this] at bJ;exact .kv bJ
  | false=>
   have fT:jd 1024 l r.k n=⟨r.k,0,0,n,false⟩:=by simp [jd,av]
   have gH:lE 1024 l r.k n=put l r.k n:=by simp [lE,av]
   rw [fT] at o;rw [gH] at bJ;obtain ⟨ad,bt,da⟩:=ape o r.t (oz 1024 l r.k);refine ⟨_,ad,bt,_,_,_,_,rfl,Fl.trans da fun q ab U=>by omega,gk.of d,?_⟩
   rw [if_neg (by rw [P6,av];decide)]
   refine ⟨by simp [oz,av],rfl,rfl,?_⟩
   have bd:sj .kv (l.map tp) r.k r.t n=(put l r.k n).map tp:=(apb k.mT r.k n).symm;rw [bd];exact .kv (bJ.ai da cL.symm fun q ab U=>aaW (by rw [ab,U]))
end
section
variable {h h':I} {i:Nat} {O:List Nat} {K:eI} {l:List aF}
def Fm:eI→Int→Prop
 | .kv,_=>True
 | .jo g,n=>n=g
 | .kA g,n=>n=g
theorem apg (k:kb h i O K l) (n mark:Int) (aG:Fm K n) (hm:-2 ^ 63≤mark∧mark<2 ^ 63) :
  af ds 121 [.iface (sk K) (.ptr i 0),.int .i64 n,.int .i64 mark] h (fun r h'=>∃ fa,Own h' 110 5 r ((je K mark l).flatMap bu)∧(∀ j,a8 r=some j→h.n≤j∧j ∉ fa)∧J h h' (· ∈ O)∧gk h O fa∧kb h' i fa K (jN K mark l)):=by
 have P7:∀ l:List aF,je .kv mark l=[]∧jN .kv mark l=l:=fun l=>⟨by simp [je,Kk,Eg],by simp [jN,Eg]⟩
 cases k with
 | @kv v l k=>
  refine af.au (c:=_) Tryz.func121 rfl (by kernel_rfl) (by simp) ?_
  have cb:d6 ds (.iface (sk .kv) (.ptr i 0)) 259 true=some (.tuple [.c8,.bool false]):=by unfold d6;rw [aBh];rfl
  have a2:d6 ds (.iface (sk .kv) (.ptr i 0)) 262 true=some (.tuple [.c8,.bool false]):=by unfold d6;rw [aBi];rfl
  simp only [ae,vt,reduceCtorEq,cb,a2,aS,Tryz.results121,ac];refine ax ⟨_,?_,by simp [a8],J.refl _ _,gk.refl _ _,?_⟩
  ·rw [(P7 _).1];exact Own.ag _ _ _
  ·rw [(P7 _).2];exact .kv k
theorem aph (k:kb h i O K l) (n t mark:Int) (aG:Fm K n) (bE:mU t=true) :
  Pure ds 197 [.iface (sk K) (.ptr i 0),.int .i64 n,.int .i64 t,.int .i64 mark] h (.bool (aaO K t mark)):=by
 have oc:=TR.1 bE;refine Pure.val (a7.bool _) ?_;cases k with
 | @kv v l k=>
  refine af.au (c:=_) Tryz.func197 rfl (by kernel_rfl) (by simp) ?_
  have cb:d6 ds (.iface (sk .kv) (.ptr i 0)) 259 true=some (.tuple [.c8,.bool false]):=by unfold d6;rw [aBh];rfl
  have a2:d6 ds (.iface (sk .kv) (.ptr i 0)) 262 true=some (.tuple [.c8,.bool false]):=by unfold d6;rw [aBi];rfl
  simp only [ae,vt,reduceCtorEq,cb,a2,aS,Tryz.results197,ac];exact ax ⟨rfl,J.refl _ _⟩
end
def hS (h:I) (a:Nat) (O:List Nat) (K:eI) (e:b4) (n:Int) (l:List aF):Prop :=
 ∃ i oX,O=a::oX∧yb h a (sk K) i e n∧kb h i oX K l∧a ∉ oX∧Fm K n
section
variable {h h':I} {a:Nat} {O:List Nat} {K:eI} {e:b4} {n:Int} {l:List aF}
theorem hS.lt (s:hS h a O K e n l):∀ q ∈ O,q<h.n:=by
 obtain ⟨i,oX,rfl,hX,k,ne,mW⟩:=s;intro q ab;rcases IN.1 ab with rfl | ab
 ·exact hX.lt
 ·exact k.lt q ab
theorem hS.ai {M:Nat→Prop} (s:hS h a O K e n l) (hk:J h h' M) (hm:∀ q ∈ O,¬M q):hS h' a O K e n l:=by
 obtain ⟨i,oX,rfl,hX,k,ne,mW⟩:=s;exact ⟨i,oX,rfl,hX.ai hk (hm _ (by simp)),k.ai hk (fun q ab=>hm q (by simp [ab])),ne,mW⟩
theorem hS.br (s:hS h a O K e n l) (hk:J h h' none_):hS h' a O K e n l:=s.ai hk fun _ _=>by simp [none_]
theorem hS.wf (s:hS h a O K e n l):dP K l:=by obtain ⟨i,oX,rfl,hX,k,ne,mW⟩:=s;exact k.wf
def mf (K:eI) (e:b4) (l:List aF) (r:Rec):Except Int Int :=
 if mU r.t=false then .error 2 else
 match cM r.k r.v r.t (Ki K l r.k r.t) 16 e with
 | none=>.error 10
 | some N=>if yg K l r.k r.t then .error 3 else .ok N
def p6 (K:eI) (e:b4) (l:List aF) (r:Rec):V :=
 match mf K e l r with
 | .error c=>qz c
 | .ok N=>mb r.k N (A1 K l r.k r.t) (iz (si K l r.k r.t N))
def mX (K:eI) (e:b4) (l:List aF) (r:Rec):List aF :=
 match mf K e l r with
 | .error _=>l
 | .ok N=>sj K l r.k r.t N
theorem api (w:dP K l) (r:Rec):dP K (mX K e l r):=by
 unfold mX mf;cases bE:mU r.t with
 | false=>simpa using w
 | true=>
  rw [if_neg (by decide)]
  cases cM r.k r.v r.t (Ki K l r.k r.t) 16 e with
  | none=>exact w
  | some N=>
   cases av:yg K l r.k r.t with
   | true=>simpa [av] using w
   | false=>simpa [av] using w.lE N bE av
theorem apj (s:hS h a O K e n l) (hm:c1 e=true) (az:gN h) (r:Rec) :
  af ds 174 [.ptr a 0,.agg (aI r)] h (fun q h'=>∃ fa,q=p6 K e l r∧J h h' (· ∈ O)∧gk h O fa∧hS h' a fa K e n (mX K e l r)):=by
 have aM:=s.lt;obtain ⟨i,oX,rfl,hX,k,ne,mW⟩:=s;have l8:=hX.lt;have sl:=k.lt;refine (aoG hX hm az r (Ki K l r.k r.t) (· ∈ oX) ne (fun q ab U=>by have:=sl q U;omega)
  (fun H ad N c t ia=>∃ fa,gk H oX fa∧if yg K l r.k r.t=true then ia=3∧kb ad i fa K l else ia=0∧t=A1 K l r.k r.t∧c=iz (si K l r.k r.t N)∧kb ad i fa K (sj K l r.k r.t N))
  (fun h' TS cd=>apd (k.br TS) r cd)
  (fun h' N TS cd _=>(apf (k.br TS) r N cd).mono fun q ad ⟨c,t,ia,fa,aC,b9,nl,ay⟩=>⟨c,t,ia,aC,b9,fa,nl,ay⟩)).mono fun q U ⟨wz,ad,bJ,fv,ba,P⟩=>?_
 have up:∀ {fa:List Nat},gk wz oX fa→gk h (a::oX) (a::fa):=fun nl x aj=>by
  rcases IN.1 aj with rfl | aj
  ·exact .inl (by simp)
  ·rcases nl x aj with aj | aj
   ·exact .inl (by simp [aj])
   ·exact .inr (by omega)
 cases bE:mU r.t with
 | false=>
  have aC:p6 K e l r=qz 2:=by unfold p6 mf;rw [if_pos bE]
  have bd:mX K e l r=l:=by unfold mX mf;rw [if_pos bE]
  rw [if_pos bE] at P;obtain ⟨rfl,rfl⟩:=P;rw [aC,bd];refine ⟨a::oX,rfl,(bJ.trans ba fun q ab U=>by omega).up,gk.refl _ _,i,oX,rfl,(hX.ai bJ (by simp [none_])).ai ba (by omega),(k.br bJ).ai ba fun q ab=>by have:=sl q ab;omega,ne,mW⟩
 | true=>
  rw [if_neg (by rw [bE];decide)] at P
  cases aH:cM r.k r.v r.t (Ki K l r.k r.t) 16 e with
  | none=>
   have e6:mf K e l r=.error 10:=by unfold mf;rw [if_neg (by rw [bE];decide),aH]
   have aC:p6 K e l r=qz 10:=by unfold p6;rw [e6]
   have bd:mX K e l r=l:=by unfold mX;rw [e6]
   rw [aH] at P;obtain ⟨rfl,rfl⟩:=P;rw [aC,bd];exact ⟨a::oX,rfl,(bJ.trans ba fun q ab U=>by omega).up,gk.refl _ _,i,oX,rfl,(hX.ai bJ (by simp [none_])).ai ba (by omega),(k.br bJ).ai ba fun q ab=>by have:=sl q ab;omega,ne,mW⟩
  | some N=>
   rw [aH] at P;obtain ⟨c,t,ia,b9,⟨fa,nl,ay⟩,eq⟩:=P;have tV:J h U (· ∈ a::oX):=((bJ.up).trans' (b9.mono fun q ab=>by simp [ab])).trans ba fun q ab e=>by omega
   have P8:=((hX.ai bJ (by simp [none_])).ai b9 ne).ai ba (by omega)
   have Nz:∀ {x},x ∈ fa→x≠h.n+1:=fun {x} aj=>by
    rcases nl x aj with aj | aj
    ·have:=sl x aj;omega
    ·omega
   have gW:a ∉ fa:=fun aj=>by
    rcases nl a aj with aj | aj
    ·exact ne aj
    ·omega
   cases av:yg K l r.k r.t with
   | true=>
    rw [av,if_pos rfl] at ay;obtain ⟨rfl,hk⟩:=ay;have e6:mf K e l r=.error 3:=by unfold mf;rw [if_neg (by rw [bE];decide),aH];simp only [av,if_true]
    have aC:p6 K e l r=qz 3:=by unfold p6;rw [e6]
    have bd:mX K e l r=l:=by unfold mX;rw [e6]
    rw [if_neg (by decide)] at eq
    rw [aC,bd,eq];exact ⟨a::fa,rfl,tV,up nl,i,fa,rfl,P8,hk.ai ba fun q ab=>Nz ab,gW,mW⟩
   | false=>
    rw [av,if_neg (by decide)] at ay
    obtain ⟨rfl,rfl,rfl,hk⟩:=ay;have e6:mf K e l r=.ok N:=by unfold mf;rw [if_neg (by rw [bE];decide),aH];simp only [av,Bool.false_eq_true,if_false]
    have aC:p6 K e l r=mb r.k N (A1 K l r.k r.t) (iz (si K l r.k r.t N)):=by unfold p6;rw [e6]
    have bd:mX K e l r=sj K l r.k r.t N:=by unfold mX;rw [e6]
    rw [if_pos rfl] at eq;rw [aC,bd,eq];exact ⟨a::fa,rfl,tV,up nl,i,fa,rfl,P8,hk.ai ba fun q ab=>Nz ab,gW,mW⟩
theorem aaX (s:hS h a O K e n l) (mark:Int) (hm:-2 ^ 63≤mark∧mark<2 ^ 63) :
  af ds 89 [.ptr a 0,.int .i64 mark] h (fun r h'=>∃ fa,Own h' 110 5 r ((je K mark l).flatMap bu)∧(∀ j,a8 r=some j→h.n≤j∧j ∉ fa)∧J h h' (· ∈ O)∧gk h O fa∧hS h' a fa K e n (jN K mark l)):=by
 obtain ⟨i,oX,rfl,hX,k,ne,mW⟩:=s;have l8:=hX.lt;have sl:=k.lt;refine af.au (c:=_) Tryz.func89 rfl (by kernel_rfl) (by simp) ?_
 have mM:=hX.get;obtain ⟨o,m,aQ⟩:=e;rw [nu] at mM;simp only [avx,avG] at mM;simp only [ae,vt,reduceCtorEq];refine bW GA (Of hX) ?_;simp only [ae,vt];have f1:(a ∈ oX)=False:=eq_false ne;refine aZ.bB (fun x=>x ∈ oX) [9] (.q 0 (.q 1 (.q 2 (.q 3 (.q 4 (.q 5 (.q 6 (.q 7 (.q 8 (.a 9 (.q 10 .done))))))))))) (by kernel_rfl) (by kernel_rfl) (by kernel_rfl) ?_
 simp only [ae,bM,eH,vt,AS,By,reduceCtorEq,YA,GF,du,GN,mM,f1];refine cB alC (apg k n mark mW hm) fun r ad ⟨fa,dZ,dy,b9,nl,ba⟩=>?_;simp only [ae,bM,eH,vt,aS,Tryz.results89,ac];refine ax ⟨a::fa,dZ,fun j aV=>⟨(dy j aV).1,fun aj=>?_⟩,b9.mono fun q ab=>by simp [ab],fun x aj=>?_,i,fa,rfl,hX.ai b9 ne,ba,fun aj=>?_,mW⟩
 ·rcases IN.1 aj with rfl | aj
  ·have:=(dy _ aV).1;omega
  ·exact (dy j aV).2 aj
 ·rcases IN.1 aj with rfl | aj
  ·exact .inl (by simp)
  ·rcases nl x aj with aj | aj
   ·exact .inl (by simp [aj])
   ·exact .inr (by omega)
 ·rcases nl a aj with aj | aj
  ·exact ne aj
  ·omega
def Oo (K:eI) (r:Rec) (mark:Int):Bool:=mU r.t&&aaO K r.t mark
theorem apk (s:hS h a O K e n l) (r:Rec) (mark:Int):Pure ds 173 [.ptr a 0,.agg (aI r),.int .i64 mark] h (.bool (Oo K r mark)):=by
 obtain ⟨i,oX,rfl,hX,k,ne,mW⟩:=s;refine Pure.val (a7.bool _) ?_;obtain ⟨cF,rv,rt⟩:=r;refine af.au (c:=_) Tryz.func173 rfl (by kernel_rfl) (by simp) ?_
 unfold aI Oo;obtain ⟨H,hH⟩:∃ y,y=h.push (.cells [.int .i64 cF,.int .i64 rv,.int .i64 rt] 45 none):=⟨_,rfl⟩;have gz:J h H none_:=by rw [hH];exact J.push _ _ _
 have g0:H.get h.n=.cells [.int .i64 cF,.int .i64 rv,.int .i64 rt] 45 none:=by rw [hH];exact ck
 have Ed:=hX.ai gz (by simp [none_])
 have P9:=k.br gz;have mM:=Ed.get;obtain ⟨o,m,aQ⟩:=e;rw [nu] at mM;simp only [avx,avG] at mM;simp only [ae,vt,reduceCtorEq];rw [←hH];clear hH;refine bW GA (Of Ed) ?_;simp only [ae,vt,AS,By,AG,du,g0];refine bW X5 (aap rt H) ?_;cases cd:mU rt with
 | false=>
  rw [show decide (0≤rt∧rt≤1099511627776)=false from cd]
  simp only [ae,vt,aS,aBl,ac];exact ax ⟨rfl,gz⟩
 | true=>
  rw [show decide (0≤rt∧rt≤1099511627776)=true from cd]
  simp only [ae,vt];refine aZ.bB none_ [] (.q 0 (.q 1 (.q 2 (.q 3 (.q 4 (.q 5 (.q 6 (.q 7 (.q 8 (.q 9 (.q 10 (.c 11 (.q 12 .done))))))))))))) (by kernel_rfl) (by kernel_rfl) (by kernel_rfl) ?_
  simp only [ae,bM,vt,AS,By,reduceCtorEq,YA,GF,AG,du,GN,mM,g0];refine j6 rfl rfl rfl (fun h' hk=>aph (h:=h') (by rcases hk with hk | rfl;exact P9.br hk;exact P9) n rt mark mW cd) ?_
  simp only [ae,bM,vt,aS,aBl,ac];exact ax ⟨rfl,gz⟩
def A4 (K:eI) (l:List aF) (key:Int):Int:=match K with | .kv=>valOf l (o8 .kv key 0 0) | _=>0
theorem apl (s:hS h a O K e n l) (key:Int):Pure ds 176 [.ptr a 0,.int .i64 key] h (.int .i64 (A4 K l key)):=by
 obtain ⟨i,oX,rfl,hX,k,ne,mW⟩:=s;have mM:=hX.get;obtain ⟨o,m,aQ⟩:=e;rw [nu] at mM;simp only [avx,avG] at mM;have w2:Pure ds 202 [.iface (sk K) (.ptr i 0),.int .i64 key] h (.int .i64 (A4 K l key)):=by
  cases k with
  | @kv v l k=>
   have:=aoE k key;rw [←aaT (v:=0) (d:=false) k.mT] at this;exact this
 refine af.au (c:=_) Tryz.func176 rfl (by kernel_rfl) (by simp) ?_
 simp only [ae,vt,reduceCtorEq];refine bW GA (Of hX) ?_;simp only [ae,vt,AS,By,reduceCtorEq,GF,GN,mM];refine bW alT w2 ?_;simp only [ae,vt,aS,Tryz.results176,ac];exact ax ⟨rfl,rfl⟩
end
def o9 (kind n:Int):Option eI :=
 if kind=6 then some .kv else
 if kind=7 then (if 1≤n∧n≤1048576 then some (.jo n) else none) else
 if kind=8 then (if 1≤n∧n≤1048576 then some (.kA n) else none) else none
theorem apm (x:bD) (gV:x.kind≠7) (kh:x.kind≠8) {K:eI} (cq:o9 x.kind x.n=some K) (hm:c1 x.e=true) (aY:h7 x.e) (h:I) (az:gN h) :
  af ds 75 [.agg (an x)] h (fun r h'=>∃ a O,r=.tuple [.ptr a 0,.int .i64 0]∧J h h' none_∧(∀ q ∈ O,h.n≤q)∧hS h' a O K x.e x.n []):=by
 have fin:∀ (T:TypeId) (cd:T=sk K) (Qa:Fm K x.n) (Ee:I→I→Nat→Prop) (dz:∀ H h1 i,J h H none_→Ee H h1 i→∃ O,kb h1 i O K []∧∀ q ∈ O,H.n≤q)
   (hk:∀ H,J h H none_→af ds 113 [.agg (an x)] H (fun r h'=>∃ i,r=.tuple [.iface T (.ptr i 0),.int .i64 0]∧J H h' none_∧Ee H h' i)),
   af ds 75 [.agg (an x)] h (fun r h'=>∃ a O,r=.tuple [.ptr a 0,.int .i64 0]∧J h h' none_∧(∀ q ∈ O,h.n≤q)∧hS h' a O K x.e x.n []):=fun T cd Qa Ee dz hk=>by
  refine (aoH x hm aY h az T Ee hk).mono fun r h' ⟨a,i,H,h1,e,bw,q,bJ,kk,aP,zD,s⟩=>?_;obtain ⟨O,lB,zE⟩:=dz H h1 i bw q;subst cd;have aG:=bw.n;refine ⟨a,a::O,e,kk,fun q ab=>?_,i,O,rfl,s,lB.br bJ,fun U=>by have:=lB.lt a U;omega,Qa⟩
  rcases IN.1 ab with rfl | ab
  ·exact aP
  ·exact OF aG (zE q ab)
 unfold o9 at cq;split at cq
 ·rename_i hk;cases cq;refine fin 256 rfl trivial (fun H h1 i=>H.n≤i∧fk h1 i .ag 1024 []) (fun H h1 i _ ⟨cX,dT⟩=>⟨[i],.kv dT,by simpa using cX⟩) fun H _=>?_
  exact (aoC x hk H).mono fun r h' ⟨i,e,hi,k,b9⟩=>⟨i,e,b9,hi,k⟩
 cases cq
def zL (O vV:List Nat):Prop:=∀ q ∈ O,q ∉ vV
theorem zL.symm {O vV:List Nat} (d:zL O vV):zL vV O:=fun q ab U=>d q U ab
theorem zL.step {h:I} {b:Nat} {O fa vV:List Nat} {zh:eI} {bd:b4} {dy:Int} {ez:List aF} (s:hS h b vV zh bd dy ez) (nl:gk h O fa) (d:zL O vV):zL fa vV:=fun q ab U=>by
 rcases nl q ab with ab | ab
 ·exact d q ab U
 ·have:=s.lt q U;omega
theorem apn {l:List Rec} {k:Nat} {kk:IntKind} (h:k<l.length):∃ r,hG ds 25 (.ah l.length (l.flatMap aI)) (.int kk (k:Int))=some (.at (aI l[k]++r)) :=
 Nr zg rfl (ME h) S3
theorem apo (s x:V) (cs xs:List Nat) (h:I) (rd:Rd h s cs) (rx:Rd h x xs) (ay:cs.length+xs.length≤2 ^ 45) :
  Pure ds 64 [s,x] h (.ah (cs++ze xs).length (e9 (cs++ze xs))):=by
 refine Pure.acc (e:=5) (sz:=1) (Ce _) (by rw [p2,VU]) (by omega) ?_
 refine af.au (c:=_) Tryz.func64 rfl (by kernel_rfl) (by simp) ?_
 have hw:IntKind.i64.wrap (10+(xs.length:Int))=((10+xs.length:Nat):Int):=by rw [Go.IntWalk.i64_in _ (by omega)];omega
 have hu:=JH (n:=xs.length) (by omega)
 simp only [ae,vt,reduceCtorEq,rx.len h (J.refl _ _),hw];refine cB Gz (ZI s cs (10+xs.length) h rd (by omega)) fun cZ h1 cb=>?_
 simp only [ae,vt,rx.len h1 cb.ai,mq iA ns,hu];refine cB Jd (Ts cZ cs xs.length h1 cb (by omega) (by omega)) fun dI ad a2=>?_
 have aw:=(p3 xs.length (by omega)).2
 obtain ⟨v,aD,ev,a3⟩:=a2.app (P:=ds) (tx:=26) Jt (by decide) (rx.src ad a2.ai) (by rw [p2,VU]) (by simp only [p2,IS,lim];omega) (by simp only [p2,IS,lim];omega)
 simp only [ae,vt,ev,aS,Tryz.results64,ac];exact ax (a3.conv (by rw [←Tk,au8];rfl))
theorem apq (s:V) (cs:List Nat) (l:List Int) (h:I) (rd:Rd h s cs) (aw:∀ n ∈ l,-2 ^ 63≤n∧n<2 ^ 63) (ay:cs.length+10 * l.length≤2 ^ 45) :
  Pure ds 61 [s,.ah l.length (ar l)] h (.ah (cs++x4 l).length (e9 (cs++x4 l))):=by
 refine Pure.acc (e:=5) (sz:=1) (Ce _) (by rw [p2,VU]) (by omega) ?_
 refine af.au (c:=_) Tryz.func61 rfl (by kernel_rfl) (by simp) ?_
 have hw:IntKind.i64.wrap (10+(l.length:Int))=((10+l.length:Nat):Int):=by rw [Go.IntWalk.i64_in _ (by omega)];omega
 have hu:=JH (n:=l.length) (by omega)
 simp only [ae,vt,reduceCtorEq,gy,hw];refine cB Gz (ZI s cs (10+l.length) h rd (by omega)) fun cZ h1 cb=>?_
 simp only [ae,vt,gy,mq iA ns,hu];refine cB Jd (Ts cZ cs l.length h1 cb (by omega) (by omega)) fun dI ad a2=>?_
 simp only [ae,vt,gy];refine aZ.bQ (α:=V×Nat) (fun x f h'=>f 5=x.1∧f 17=.ah l.length (ar l)∧f 18=.int .i64 (l.length:Nat)∧f 19=.int .i64 (x.2:Nat)∧Acc h h' 5 1 x.1 (e9 (cs++enc l.length++(l.take x.2).flatMap fun n=>enc (jK n)))∧x.2≤l.length) (fun x=>l.length - x.2) (dI,0)
  ⟨rfl,rfl,rfl,rfl,by simpa using a2,Dc _⟩ ?_
 rintro ⟨v,i⟩ f aD ⟨f5,f17,f18,f19,a3,hi⟩
 simp only at f5 f19 a3 hi;refine ee (by kernel_rfl) ?_
 by_cases aM:i<l.length
 ·have bb:decide ((i:Int)<(l.length:Int))=true:=by simp;omega
  have hm:=aw _ (avb aM);have gX:IntKind.i64.wrap ((i:Int)+1)=((i+1:Nat):Int):=by rw [Go.IntWalk.i64_in _ (by omega)];rfl
  have hlen:(cs++enc l.length++(l.take i).flatMap fun n=>enc (jK n)).length≤2 ^ 46:=by
   have h1:=ZK (l:=l.take i) fun n aG=>aw n (List.mem_of_mem_take aG);have ad:=(p3 l.length (by omega)).2
   rw [VV] at h1;simp only [IS];omega
  simp only [ae,vt,aW,f5,f17,f18,f19,bb,N7 aM jI];refine bW XW (ZE _ aD hm.1 hm.2) ?_;simp only [ae,vt];refine cB Jd (Ts v _ _ aD a3 hlen (AU _ hm.1 hm.2)) fun AW bn a4=>?_;simp only [ae,vt,f19,gX];refine ax ⟨(AW,i+1),⟨rfl,f17,f18,rfl,?_,by simp only;omega⟩,by simp only;omega⟩
  refine a4.conv ?_
  rw [ZJ l _ aM,au8]
 ·have bb:decide ((i:Int)<(l.length:Int))=false:=by simp;omega
  simp only [ae,vt,f5,f18,f19,bb,aS,Tryz.results61,ac];refine ax (a3.conv ?_)
  rw [List.take_of_length_le (by omega),au8]
  rfl
theorem apr (p:V) (i:Nat) (ao:List Nat) (h:I) (aL:dA h p i ao) (al:∀ b ∈ ao,b<256) (ay:ao.length≤2 ^ 47) :
  af ds 146 [p] h (fun r h'=>r=.tuple [.ah (hM ao).1.length (e9 (hM ao).1),.int .i64 ((hM ao).2.2:Nat)]∧dA h' p i (hM ao).2.1∧J h h' (·=i)):=by
 refine af.cast ?_;refine af.au (c:=_) Tryz.func146 rfl (by kernel_rfl) (by simp) ?_
 simp only [ae,vt,reduceCtorEq];refine bW ww (rest h p i ao aL) ?_;simp only [ae,vt];refine bW X3 (number ao h al (by omega)) ?_
 by_cases h8:(dec ao 0 0).2.2=0
 ·have bI:((((dec ao 0 0).2.2:Nat):Int) !=0)=false:=by simp [h8]
  have N6:=Tq ao 0 0;have aM:=dec_lt ao 0 0 (by omega) (by decide) al
  obtain ⟨rfl,hi,az⟩:=aL;have qW:=ZM ao (dec ao 0 0).2.1 (by omega) (kk:=.i64)
  have Fo:=JH (n:=(ao.drop (dec ao 0 0).2.1).length) (by rw [avJ];omega)
  by_cases eW:(ao.drop (dec ao 0 0).2.1).length<(dec ao 0 0).1
  ·have bb:decide ((((ao.drop (dec ao 0 0).2.1).length:Nat):Int)<(((dec ao 0 0).1:Nat):Int))=true:=by simpa using eW
   have bk:hM ao=([],ao,4):=by unfold hM;rw [if_neg (by omega),if_pos eW]
   simp only [ae,vt,reduceCtorEq,Jg,r3,Jp,vQ,bI,az,qW,mq iA ns,Fo,bb,aS,ayU,c9];exact ax ⟨_,_,w1 _ _,by rw [bk];rfl,by rw [bk];exact ⟨rfl,hi,az⟩,J.refl _ _⟩
  ·have bb:decide ((((ao.drop (dec ao 0 0).2.1).length:Nat):Int)<(((dec ao 0 0).1:Nat):Int))=false:=by simp only [decide_eq_false_iff_not];omega
   have bk:hM ao=((ao.drop (dec ao 0 0).2.1).take (dec ao 0 0).1,(ao.drop (dec ao 0 0).2.1).drop (dec ao 0 0).1,0):=by unfold hM;rw [if_neg (by omega),if_neg eW]
   have h5:(ao.drop (dec ao 0 0).2.1).length≤2 ^ 47:=by rw [avJ];omega
   have s1:=ZM (ao.drop (dec ao 0 0).2.1) (dec ao 0 0).1 (by omega) (kk:=.u64)
   have s2:=an4 (ao.drop (dec ao 0 0).2.1) (dec ao 0 0).1 (by omega) (kk:=.u64)
   simp only [ae,vt,reduceCtorEq,Jg,r3,Jp,Ta,vQ,bI,az,qW,mq iA ns,Fo,bb,s1,s2];refine bW Gz (Zx _ _ 0 _ (Rd.ah _ _) (by rw [VV];omega)) ?_
   simp only [ae,vt,aS,ayU,c9];exact ax ⟨_,_,aA.refl _ _,by rw [bk];rfl,by rw [bk];exact ⟨rfl,by rw [lW];exact hi,aT⟩,J.set _ _ _⟩
 ·have bI:((((dec ao 0 0).2.2:Nat):Int) !=0)=true:=by simp;omega
  have bf:=Tp ao 0 0 h8;have bk:hM ao=([],ao,(dec ao 0 0).2.2):=by unfold hM;rw [if_pos h8]
  simp only [ae,vt,vQ,bI,aS,ayU,c9];exact ax ⟨_,_,w1 _ _,by rw [bk];rfl,by rw [bk];exact aL,J.refl _ _⟩
theorem aps (p:V) (i:Nat) (ao:List Nat) (most:Int) (h:I) (aL:dA h p i ao) (al:∀ b ∈ ao,b<256) (ay:ao.length≤2 ^ 47) (qY:ao.length≤2 ^ 40∨most≤2 ^ 40) (hm:-2 ^ 63≤most∧most<2 ^ 63) :
  af ds 144 [p,.int .i64 most] h (fun r h'=>r=.tuple [.ah (iZ ao most).1.length (ar (iZ ao most).1),.int .i64 ((iZ ao most).2.2:Nat)]∧dA h' p i (iZ ao most).2.1∧J h h' (·=i)):=by
 refine af.cast ?_;refine af.au (c:=_) Tryz.func144 rfl (by kernel_rfl) (by simp) ?_
 have cU:=aL.2.1;simp only [ae,MD,vt,reduceCtorEq];refine bW ww (rest h p i ao aL) ?_;simp only [ae,MD,vt,YT,Y7,anz];have gz:J h (h.push (.cells [.ah ao.length (e9 ao)] 198 none)) none_:=J.push _ _ _;have nY:dA (h.push (.cells [.ah ao.length (e9 ao)] 198 none)) (.ptr h.n 0) h.n ao:=⟨rfl,by rw [dq];omega,ck⟩
 refine cB ND (N5 _ h.n ao _ nY al (by omega)) fun r h1 ⟨aC,cZ,bJ⟩=>?_
 subst aC;have b9:J h h1 none_:=gz.trans bJ fun k hk hi=>by omega
 have TT:=aL.ai b9 (by simp [none_])
 have kZ:h.n<h1.n:=cZ.2.1;have aM:=dec_lt ao 0 0 (by omega) (by decide) al
 by_cases h8:(dec ao 0 0).2.2=0;rotate_left
 ·have bI:((((dec ao 0 0).2.2:Nat):Int) !=0)=true:=by simp;omega
  have bk:iZ ao most=([],ao,(dec ao 0 0).2.2):=by unfold iZ;rw [if_pos h8]
  simp only [ae,MD,vt,bI,aS,awG,c9];exact ax ⟨_,_,w1 _ _,by rw [bk];rfl,by rw [bk];exact TT,b9.up⟩
 ·have bI:((((dec ao 0 0).2.2:Nat):Int) !=0)=false:=by simp [h8]
  have c2:=ZN al h8;have DK:(decide (most<(0:Int))=true∨(decide (most<(0:Int))=false∧decide (IntKind.u64.wrap most<(((dec ao 0 0).1:Nat):Int))=decide (most<(((dec ao 0 0).1:Nat):Int)))):=by
   by_cases aK:most<0
   ·left;simpa using aK
   ·right;refine ⟨by simp;omega,?_⟩
    rw [IntKind.wrap_u64,aBo (by omega) (by omega)]
  by_cases sm:most<0∨most<(((dec ao 0 0).1:Nat):Int)
  ·have bk:iZ ao most=([],ao,2):=by unfold iZ;rw [if_neg (by omega),if_pos sm]
   rcases DK with bb | ⟨bb,bt⟩
   ·simp only [ae,MD,vt,bI,bb,aS,awG,c9];exact ax ⟨_,_,w1 _ _,by rw [bk];rfl,by rw [bk];exact TT,b9.up⟩
   ·have c3:decide (most<(((dec ao 0 0).1:Nat):Int))=true:=by
     rcases sm with aK | aK
     ·simp at bb;omega
     ·simpa using aK
    simp only [ae,MD,vt,bI,bb,bt,c3,mq iA ns,aS,awG,c9];exact ax ⟨_,_,w1 _ _,by rw [bk];rfl,by rw [bk];exact TT,b9.up⟩
  ·have bb:decide (most<(0:Int))=false:=by simp;omega
   have bt:decide (IntKind.u64.wrap most<(((dec ao 0 0).1:Nat):Int))=false:=by
    rw [IntKind.wrap_u64,aBo (by omega) (by omega)]
    simp;omega
   simp only [ae,MD,vt,bI,bb,bt,mq iA ns];refine aZ.bQ (α:=V×Nat×List Nat×List Int) (fun x f h'=>f 0=p∧f 6=.ptr h.n 0∧f 9=x.1∧f 30=.int .u64 ((dec ao 0 0).1:Nat)∧f 31=.int .u64 (x.2.1:Nat) ∧
     Own h' 3 1 x.1 (ar x.2.2.2)∧(∀ k,a8 x.1=some k→h1.n≤k)∧J h1 h' (·=h.n)∧dA h' (.ptr h.n 0) h.n x.2.2.1 ∧
     qw ((dec ao 0 0).1 - x.2.1) x.2.2.1 x.2.2.2=qw (dec ao 0 0).1 (ao.drop (dec ao 0 0).2.1) []∧x.2.1≤(dec ao 0 0).1∧(x.2.2.2.length+x.2.2.1.length≤ao.length∧x.2.2.2.length≤x.2.1)∧∀ b ∈ x.2.2.1,b<256)
    (fun x=>(dec ao 0 0).1 - x.2.1) (.ag,0,ao.drop (dec ao 0 0).2.1,[])
    ⟨rfl,rfl,rfl,rfl,rfl,Own.ag _ _ _,by simp [a8],J.refl _ _,cZ,by simp,Dc _,⟨by simp,by simp⟩,ZO al _⟩ ?_
   rintro ⟨v,k,rest,acc⟩ f ad ⟨f0,f6,f9,f30,f31,aN,dk,hk,Ko,og,uo,⟨hlen,Oq⟩,k1⟩
   simp only at f9 f31 aN dk Ko og uo hlen Oq k1;have apt:acc.length≤2 ^ 40:=by rcases qY with qY | qY<;>omega
   refine ee (by kernel_rfl) ?_
   have tV:J h ad none_:=b9.trans hk fun k hk hi=>by omega
   by_cases gw:k<(dec ao 0 0).1
   ·have d1:decide ((k:Int)<(((dec ao 0 0).1:Nat):Int))=true:=by simp;omega
    have gX:IntKind.u64.wrap ((k:Int)+1)=((k+1:Nat):Int):=by rw [IntKind.wrap_u64];omega
    rw [show (dec ao 0 0).1 - k=((dec ao 0 0).1 - (k+1))+1 by omega,qw] at og
    simp only [ae,MD,vt,f6,f30,f31,d1];refine cB St (D3 _ _ rest ad Ko k1 (by omega)) fun r aD ⟨ev,jB,b2⟩=>?_
    subst ev;have xd:J h aD none_:=tV.trans b2 fun k hk hi=>by omega
    have pR:Own aD 3 1 v (ar acc):=aN.ai b2 fun k hk hi=>by have:=dk k hk;omega
    have Kp:=aL.ai xd (by simp [none_])
    by_cases o6:(dec rest 0 0).2.2=0;rotate_left
    ·have yh:((((dec rest 0 0).2.2:Nat):Int) !=0)=true:=by simp;omega
     rw [if_pos o6] at og;have bk:iZ ao most=([],ao,(dec rest 0 0).2.2):=by
      unfold iZ;rw [if_neg (by omega),if_neg sm,←og,if_pos o6]
     simp only [ae,MD,vt,yh,aS,awG,c9];exact ax ⟨_,_,w1 _ _,by rw [bk];rfl,by rw [bk];exact Kp,xd.up⟩
    ·have yh:((((dec rest 0 0).2.2:Nat):Int) !=0)=false:=by simp [o6]
     rw [if_neg (by omega)] at og
     have apu:=ZN k1 o6;by_cases mY:fZ (dec rest 0 0).1 < -2147483648∨2147483647<fZ (dec rest 0 0).1
     ·rw [if_pos mY] at og;have bk:iZ ao most=([],ao,2):=by
       unfold iZ;rw [if_neg (by omega),if_neg sm,←og];rfl
      by_cases zv:fZ (dec rest 0 0).1 < -2147483648
      ·have g1:decide (fZ (dec rest 0 0).1<(-2147483648:Int))=true:=by simpa using zv
       simp only [ae,MD,vt,yh,g1,aS,awG,c9];exact ax ⟨_,_,w1 _ _,by rw [bk];rfl,by rw [bk];exact Kp,xd.up⟩
      ·have g1:decide (fZ (dec rest 0 0).1<(-2147483648:Int))=false:=by simpa using zv
       have g2:decide ((2147483647:Int)<fZ (dec rest 0 0).1)=true:=by simp;omega
       simp only [ae,MD,vt,yh,g1,g2,aS,awG,c9];exact ax ⟨_,_,w1 _ _,by rw [bk];rfl,by rw [bk];exact Kp,xd.up⟩
     ·rw [if_neg mY] at og;have g1:decide (fZ (dec rest 0 0).1<(-2147483648:Int))=false:=by simp;omega
      have g2:decide ((2147483647:Int)<fZ (dec rest 0 0).1)=false:=by simp;omega
      obtain ⟨v4,bn,cX,dT,e8,jt⟩:=M3 (P:=ds) oU (by decide) pR (xs:=[.int .i64 (fZ (dec rest 0 0).1)]) rfl rfl (by simp [gi,lim];omega) (by simp [gi,lim];omega)
      simp only [ae,MD,vt,f9,f31,yh,g1,g2,an5,cX,gX];have ta:¬a6 v h.n:=fun U=>by have:=dk _ U;omega
      refine ax ⟨(v4,k+1,rest.drop (dec rest 0 0).2.1,acc++[fZ (dec rest 0 0).1]),⟨f0,f6,rfl,f30,rfl,?_,?_,?_,jB.ai e8 ta,og,by simp only;omega,?_,ZO k1 _⟩,by simp only;omega⟩
      ·simp only [ar,List.map_append,au9,avw];exact dT
      ·intro k' eJ;rcases jt with jt | jt
       ·exact dk k' (by rw [←jt];exact eJ)
       ·have:=jt k' eJ;have:=hk.n;have:=b2.n;omega
      ·refine (hk.trans' b2).trans e8 fun k' eJ hi=>?_;have:=dk k' hi;omega
      ·simp only [IS,avJ,ave,List.length_nil];omega
   ·have d1:decide ((k:Int)<(((dec ao 0 0).1:Nat):Int))=false:=by simp;omega
    rw [show (dec ao 0 0).1 - k=0 by omega,qw] at og
    have bk:iZ ao most=(acc,rest,0):=by
     unfold iZ;rw [if_neg (by omega),if_neg sm,←og];rfl
    have aaY:=aL.ai tV (by simp [none_])
    obtain ⟨rfl,_,q0⟩:=aaY;obtain ⟨_,_,mZ⟩:=Ko;simp only [ae,MD,vt,reduceCtorEq,Jg,Jp,Ta,f0,f6,f9,f30,f31,d1,q0,mZ,aS,awG,c9];have Fp:J ad (ad.set i (.cells [.ah rest.length (e9 rest)] 198 none)) (·=i):=J.set _ _ _;have iH:Own (ad.set i (.cells [.ah rest.length (e9 rest)] 198 none)) 3 1 v (ar acc):=aN.ai Fp fun k' eJ hi=>by have:=dk k' eJ;omega
    obtain ⟨bN,c5,dW⟩:=aA.own iH (n:=acc.length) (by rw [gi,VU]) (by omega)
    have ta:¬a6 v i:=fun U=>by have:=dk _ U;omega
    have GY:dA (ad.set i (.cells [.ah rest.length (e9 rest)] 198 none)) (.ptr i 0) i rest:=⟨rfl,by rw [lW];exact MC cU tV.n,aT⟩
    refine ax ⟨_,bN,aA.tuple (aq.cons c5 (aq.refl _ _)),by rw [bk];rfl,by rw [bk];exact GY.ai dW ta,?_⟩
    refine (tV.up.trans' Fp).trans dW fun k' eJ hi=>?_;have:=dk k' hi;omega
theorem apv (op:Int):∀ (s:Nat) (e:b4) (h:I),e0 e=s→h7 e→Pure ds 185 [.agg (aE e),.int .i64 op] h (.bool (r9 op e)):=by
 intro s
 induction s using Nat.strongRecOn with
 | _ s ih=>
 intro e h aa aY;obtain ⟨o,n,aQ⟩:=e;refine Pure.val (a7.bool _) ?_;have hlen:=aY.len;simp only [b4.aQ] at hlen;refine af.au (c:=_) Tryz.func185 rfl (by kernel_rfl) (by simp) ?_
 have ay:(V.agg (aE (.mk o n aQ))).cells=some (aE (.mk o n aQ)):=rfl;have fN:cP (aO.cells (aE (.mk o n aQ)) 66 none) 0=some [.int .i64 o,.int .i64 n,.ah aQ.length (aQ.flatMap aE)]:=by rw [nu];rfl
 have kz:cP (aO.cells (aE (.mk o n aQ)) 66 none) 2=some [.ah aQ.length (aQ.flatMap aE)]:=by rw [nu];rfl
 by_cases aN:o=op
 ·have c:(o==op)=true:=by simp [aN]
  simp only [ae,vt,nW,aW,ay,fN,c,aS,ayV,ac];exact ax ⟨by simp [r9,aN],J.push _ _ _⟩
 have c:(o==op)=false:=by simp [aN]
 have bk:r9 op (.mk o n aQ)=sa op aQ:=by simp [r9,c]
 simp only [ae,vt,nW,rk,AJ,aW,sZ,ay,fN,kz,c];refine aZ.bQ (α:=Nat) (fun i f h'=>f 1=.int .i64 op∧f 12=.ah aQ.length (aQ.flatMap aE)∧f 13=.int .i64 ((aQ.length:Nat):Int)∧f 14=.int .i64 (i:Nat)∧i≤aQ.length∧J h h' none_∧sa op aQ=sa op (aQ.drop i)) (fun i=>aQ.length - i) 0 ⟨rfl,rfl,rfl,rfl,Dc _,J.push _ _ _,rfl⟩ ?_
 rintro i f h' ⟨f1,f12,f13,f14,hi,hk,bL⟩
 refine ee (by kernel_rfl) ?_
 by_cases aM:i<aQ.length;rotate_left
 ·have c3:decide ((i:Int)<((aQ.length:Nat):Int))=false:=by simp only [decide_eq_false_iff_not];omega
  rw [List.drop_of_length_le (by omega)] at bL
  simp only [ae,vt,f13,f14,c3,aS,ayV,ac];exact ax ⟨by rw [bk,bL];simp [sa],hk⟩
 ·have c3:decide ((i:Int)<((aQ.length:Nat):Int))=true:=by simp only [decide_eq_true_eq];omega
  rw [avk aM] at bL;have ft:=N3 (kk:=.i64) aM;have Kq:aQ[i] ∈ (b4.mk o n aQ).aQ:=avb aM;have iX:=Zu _ Kq;have TU:=aY.Fa _ Kq;generalize aQ[i]=A at *;have kg:∀ (q:List V),cO (some (some 3)) (some (aE A++q))=some (.agg (aE A)):=fun q=>lz (qv A);have cm:(V.agg (aE A)).cells=some (aE A):=rfl;have dV:bF (some 3) (aO.cells [.int .i64 0,.int .i64 0,.ag] 66 none) 0 (aE A)=some (.cells (aE A) 66 none):=by
   rw [sR (n:=3) (qv A) (Jz A),if_pos (by decide)];cases A;rfl
  have JA:cP (aO.cells (aE A) 66 none) 0=some (aE A):=by cases A;rfl
  have q3:cO (some (some 3)) (some (aE A))=some (.agg (aE A)):=by cases A;rfl
  have bS:IntKind.i64.wrap (((i:Nat):Int)+1)=((i+1:Nat):Int):=by rw [Go.IntWalk.i64_in _ (by omega)];omega
  simp only [ae,vt,fM,oV,nt,f1,f12,f13,f14,c3,ft,kg,cm,dV,JA,q3];refine bW X4 (ih (e0 A) (by omega) A _ rfl TU) ?_
  cases hu:r9 op A with
  | true=>
   simp only [ae,vt,aS,ayV,ac];exact ax ⟨by rw [bk,bL];simp [sa,hu],hk.bH _⟩
  | false=>
   simp only [ae,vt,f14,bS];exact ax ⟨i+1,⟨f1,f12,f13,rfl,by omega,hk.bH _,by rw [bL];simp [sa,hu]⟩,by omega⟩
theorem A5 (v:bD):(an v).all (·.one)=true:=by
 have:=Jz v.e;simp only [an,List.all_append,this];rfl
theorem qB (v:bD):an v=[.int .i64 v.kind,.ah v.bc.length (ar v.bc),.int .i64 v.e.op,.int .i64 v.e.num,.ah v.e.aQ.length (v.e.aQ.flatMap aE),.int .i64 v.n]:=by
 obtain ⟨k,f,⟨o,m,aQ⟩,n⟩:=v;simp [an,nu,b4.op,b4.num,b4.aQ]
def lG (x:Int):Prop:=-2 ^ 63≤x∧x<2 ^ 63
def zM (v:bD):Prop:=h7 v.e∧v.bc.length<2 ^ 47∧lG v.kind∧lG v.n∧∀ f ∈ v.bc,lG f
abbrev A6:=Int×Int×Int×Int
def kB:List A6:=[(0,0,0,0),(0,0,0,7),(1,1,0,0),(1,1,0,0),(1,1,0,0),(1,1,0,0),(1,2,0,0),(1,2,1,1048576),(1,2,1,1048576),(2,2,0,0),(1,0,0,7)]
def Ot (q:A6):List V:=[.int .i64 q.1,.int .i64 q.2.1,.int .i64 q.2.2.1,.int .i64 q.2.2.2]
def oB:List V:=kB.flatMap Ot
def jf (h:I):Prop:=gN h∧h.glob 1=some oB
theorem jf.ai {h h':I} {M:Nat→Prop} (az:jf h) (hk:J h h' M):jf h':=⟨az.1.ai hk,by rw [hk.glob];exact az.2⟩
theorem jf.or {h aa h':I} {M:Nat→Prop} (az:jf aa) (q0:jf h) (hk:J aa h' M∨h'=h):jf h':=by
 rcases hk with hk | rfl
 ·exact az.ai hk
 ·exact q0
def m9 (e:b4) (k:Int):Bool:=if k=0 then (e.op==0&&(e.num==0&&e.aQ.isEmpty)) else (c1 e&&(k==2||!r9 5 e))
def uU (v:bD) (q:A6):Bool:=decide ((v.bc.length:Int)=q.1)&&(m9 v.e q.2.1&&(decide (q.2.2.1≤v.n)&&decide (v.n≤q.2.2.2)))
def kj (v:bD):Bool:=uU v (kB.getD v.kind.toNat (0,0,0,0))
def gA (l:List bD) (f:Int):Int:=((l[f.toNat]?).map bD.kind).getD 0
def Ei (l:List bD) (i:Nat) (v:bD):Bool:=(v.kind==1||v.kind==10)&&(l.take i).any fun u=>u.kind==v.kind&&u.n==v.n
def dh (l:List bD) (i:Nat) (v:bD):Int :=
 if v.kind<1∨10<v.kind then 1 else
 if (v.bc.any fun f=>decide (f<0∨(i:Int)≤f))=true then 2 else
 if kj v=false then 5 else
 if Ei l i v=true then 12 else
 if (v.bc.any fun f=>gA l f==10)=true then 5 else
 if v.kind=9∧gA l (v.bc.getD 1 0)≠6 then 5 else 0
def oC (l:List bD):Nat→List bD→Int×Int
 | _,[]=>(-1,0)
 | i,v::r=>if dh l i v=0 then oC l (i+1) r else ((i:Int),dh l i v)
def ch (p:Int) (l:List bD):Int×Int:=if p<1∨8<p∨l.length=0∨24<l.length then (-1,2) else oC l 0 l
def ha (v:Int):Nat→List bD→List Int
 | _,[]=>[]
 | i,u::r=>(if u.bc.contains v then [(i:Int)] else [])++ha v (i+1) r
theorem aaZ (v:Int) (u:bD):∀ (l:List bD) (j:Nat),ha v j (l++[u])=ha v j l++(if u.bc.contains v then [((j+l.length:Nat):Int)] else [])
 | [],j=>by simp [ha]
 | a::r,j=>by
  simp only [avx,ha,aaZ v u r (j+1),ave,au8];rw [show j+1+r.length=j+(r.length+1) by omega]
theorem Ej {v k:Int}:∀ {l:List bD} {j:Nat},k ∈ ha v j l↔∃ (m:Nat) (u:bD),k=((j+m:Nat):Int)∧l[m]?=some u∧v ∈ u.bc
 | [],j=>by simp [ha]
 | a::r,j=>by
  simp only [ha,avs,Ej (l:=r)]
  constructor
  ·rintro (h | ⟨m,u,h1,ad,aD⟩)
   ·split at h
    ·rename_i ay;exact ⟨0,a,by simpa using h,rfl,by simpa using ay⟩
    ·simp at h
   ·exact ⟨m+1,u,by omega,by simpa using ad,aD⟩
  ·rintro ⟨m,u,h1,ad,aD⟩
   cases m with
   | zero=>
    left;simp at ad;subst ad;rw [if_pos (by simpa using aD)]
    simpa using h1
   | succ m=>exact .inr ⟨m,u,by omega,by simpa using ad,aD⟩
theorem Ek {v:Int}:∀ {l:List bD} {j:Nat},(ha v j l).length≤l.length
 | [],j=>by simp [ha]
 | a::r,j=>by
  have:=Ek (v:=v) (l:=r) (j:=j+1);simp only [ha,IS,ave];split<;>simp<;>omega
theorem TV {l:List bD}:∀ {a:List bD} {i:Nat},(oC l i a).2=0→oC l i a=(-1,0)∧∀ k v,a[k]?=some v→dh l (i+k) v=0
 | [],i,h=>⟨rfl,by simp⟩
 | u::a,i,h=>by
  unfold oC at h⊢;split at h
  ·rename_i aK;rw [if_pos aK];obtain ⟨h1,ad⟩:=TV h;refine ⟨h1,fun k v hk=>?_⟩;cases k with
   | zero=>simp at hk;subst hk;exact aK
   | succ k=>rw [show i+(k+1)=i+1+k by omega];exact ad k v (by simpa using hk)
  ·rename_i aK;exact absurd h aK
theorem apw (e:b4) (k:Int) (aY:h7 e) (h:I) (az:gN h):Pure ds 167 [.agg (aE e),.int .i64 k] h (.bool (m9 e k)):=by
 refine Pure.val (a7.bool _) ?_;have bL:aE e=[.int .i64 e.op,.int .i64 e.num,.ah e.aQ.length (e.aQ.flatMap aE)]:=by obtain ⟨o,n,l⟩:=e;rw [nu];rfl
 have jl:∀ a,gN (h.push a):=fun a=>by unfold gN;rw [DA];exact az
 have ay:(V.agg (aE e)).cells=some (aE e):=rfl;have ew:cO (some none) (some (aE e))=some (.int .i64 e.op):=by rw [bL];rfl
 have fN:cP (aO.cells (aE e) 66 none) 0=some (aE e):=by rw [bL];rfl
 have ga:cP (aO.cells (aE e) 66 none) 1=some [.int .i64 e.num,.ah e.aQ.length (e.aQ.flatMap aE)]:=by rw [bL];rfl
 have kz:cP (aO.cells (aE e) 66 none) 2=some [.ah e.aQ.length (e.aQ.flatMap aE)]:=by rw [bL];rfl
 have k4:cO (some (some 3)) (some (aE e))=some (.agg (aE e)):=by rw [bL];rfl
 refine af.au (c:=_) Tryz.func167 rfl (by kernel_rfl) (by simp) ?_
 by_cases hk:k=0
 ·have c:(k==0)=true:=by simp [hk]
  have aw:(((e.aQ.length:Nat):Int)==0)=e.aQ.isEmpty:=by cases e.aQ<;>simp;omega
  cases bb:(e.op==0)<;>cases bt:(e.num==0) <;>
  ·simp only [ae,vt,nW,GJ,rk,AJ,du,aW,sZ,ay,c,ew,fN,ga,kz,bb,bt,aw,aS,axZ,ac];exact ax ⟨by simp [m9,hk,bb,bt],J.push _ _ _⟩
 ·have c:(k==0)=false:=by simp [hk]
  have bk:m9 e k=(c1 e&&(k==2||!r9 5 e)):=by simp [m9,hk]
  simp only [ae,vt,fM,ay,c,fN,k4];refine bW Sp (DZ e _ (jl _)) ?_;cases bb:c1 e
  ·simp only [ae,vt,aS,axZ,ac];exact ax ⟨by rw [bk,bb];rfl,J.push _ _ _⟩
  ·cases bt:(k==2)
   ·simp only [ae,vt,fM,fN,k4,bt];refine bW X4 (apv 5 _ e _ rfl aY) ?_;simp only [ae,vt,aS,axZ,ac];exact ax ⟨by rw [bk,bb,bt];simp,J.push _ _ _⟩
   ·simp only [ae,vt,bt,aS,axZ,ac];exact ax ⟨by rw [bk,bb,bt];rfl,J.push _ _ _⟩
theorem apx (v:bD) (q:A6) (aY:h7 v.e) (h:I) (az:gN h):Pure ds 141 [.agg (an v),.agg (Ot q)] h (.bool (uU v q)):=by
 refine Pure.val (a7.bool _) ?_;obtain ⟨A7,cX,dT,e8⟩:=q;have fT:=qB v;have ay:(V.agg (an v)).cells=some (an v):=rfl;have tg:(V.agg (Ot (A7,cX,dT,e8))).cells=some [.int .i64 A7,.int .i64 cX,.int .i64 dT,.int .i64 e8]:=rfl;have ga:cP (aO.cells (an v) 68 none) 1=some [.ah v.bc.length (ar v.bc),.int .i64 v.e.op,.int .i64 v.e.num,.ah v.e.aQ.length (v.e.aQ.flatMap aE),.int .i64 v.n]:=by rw [fT];rfl
 have kz:cP (aO.cells (an v) 68 none) 2=some (aE v.e++[.int .i64 v.n]):=rfl;have uV:cP (aO.cells (an v) 68 none) 5=some [.int .i64 v.n]:=by rw [fT];rfl
 have k4:cO (some (some 3)) (some (aE v.e++[.int .i64 v.n]))=some (.agg (aE v.e)):=lz (qv v.e);refine af.au (c:=_) Tryz.func141 rfl (by kernel_rfl) (by simp) ?_
 obtain ⟨H,hH⟩:∃ x,x=(h.push (.cells (an v) 68 none)).push (.cells [.int .i64 A7,.int .i64 cX,.int .i64 dT,.int .i64 e8] 245 none):=⟨_,rfl⟩;have g3:H.get h.n=.cells (an v) 68 none:=by rw [hH];exact xD
 have g4:H.get (h.n+1)=.cells [.int .i64 A7,.int .i64 cX,.int .i64 dT,.int .i64 e8] 245 none:=by rw [hH];exact y5
 have bw:J h H none_:=by rw [hH];exact (J.push _ _ _).bH _
 have r8:gN H:=az.ai bw;cases mm:(((v.bc.length:Nat):Int)==A7)
 ·have d0:decide (((v.bc.length:Nat):Int)=A7)=false:=by simpa using mm
  simp only [ae,vt,AS,YB,rl,gy,aW,hz,ay,tg,←hH,g3,g4,ga,mm,aS,ax0,ac];exact ax ⟨by simp [uU,d0],bw⟩
 ·have d0:decide (((v.bc.length:Nat):Int)=A7)=true:=by simpa using mm
  simp only [ae,vt,AS,By,YB,amG,rl,qu,gy,aW,hz,fM,ay,tg,←hH,g3,g4,ga,kz,k4,mm];refine bW alM (apw v.e cX aY _ r8) ?_;cases bb:m9 v.e cX
  ·simp only [ae,vt,aS,ax0,ac];exact ax ⟨by simp [uU,bb],bw⟩
  cases bt:decide (dT≤v.n)
  ·simp only [ae,vt,AS,By,YC,B7,du,g3,g4,uV,bt,aS,ax0,ac];exact ax ⟨by simp [uU,bt],bw⟩
  ·simp only [ae,vt,AS,By,YC,amH,B7,du,g3,g4,uV,bt,aS,ax0,ac];exact ax ⟨by simp only [uU,d0,bb,bt,avR],bw⟩
end Go.Proofs.YtemdgidnhgcafaaGreatDoor.Pk
