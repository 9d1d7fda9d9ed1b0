/-
  What functions of the program do, told of abstract states. Conditions: as each theorem says.
-/
import Derived.Test.YtemdgidnhgcafaaGreatDoorQc
import Derived.Test.YtemdgidnhgcafaaGreatDoorQb
import Derived.Test.YtemdgidnhgcafaaGreatDoorAdD
import Derived.Shelf.SlSortCmp.WholeK
import Derived.Test.YtemdgidnhgcafaaGreatDoorProg
open Go.IntWalk renaming i64_in->kp
open Go.Proofs.YtemdgidnhgcafaaGreatDoor.Ab.V renaming int->kA,agg->kB
open Option renaming some->eL,none->eN
open Bool renaming true->e6,false->fr
open Go.IntKind renaming i64->gj
open Nat renaming eq_of_mul_eq_mul_right->aAf,add_mul->ayC,le_refl->BY,le_trans->UN,mul_one->axD,reduceEqDiff->ds,zero_le->D8,reduceAdd->AT,reduceLeDiff->By,lt_of_lt_of_le->IS,lt_succ_self->azK,mul_le_mul_right->ay6,zero_add->ayB,lt_or_ge->aAi,sub_self->aCG,mul_eq_zero->aAs
open List renaming flatMap_append->ay3,drop_eq_getElem_cons->ay0,all_eq_true->ayy,getElem_mem->ayz,take_succ_eq_append_getElem->ayY,all_append->aAt,take_length->azB,foldl_append->aAA,take_of_length_le->ajE,getD->ayX,getElem?_eq_getElem->Jt,length_map->ajD,length_cons->axF,length_nil->ayx,nil_append->aze,length_append->D9,flatMap_cons->ayW,append_assoc->axC,length_take->ajB,cons_append->aza,length_eq_zero_iff->aAc,reverse_eq_nil_iff->aDx,reverse_reverse->aCJ,reverse_cons->aCK,nodup_cons->azD,mem_map->OF,mem_cons->IN,pairwise_cons->ayA,Pairwise->azM,map_append->ay1,mem_append_left->aAd,mem_filter->ajA,pairwise_map->azt,length_singleton->az9,map_cons->ajF,sum_cons->aCF,map_nil->azd,map_map->azn,Nodup->aAy,findIdx_lt_length->aE5,getElem_of_mem->aDv,range->ajC,getElem?_append_left->azW,getElem?_append_right->azX,headD_cons->aE6,tail_cons->aE7,drop_of_length_le->azg,append_nil->axA,take->ay5,take_zero->az3,length_zip->aBk,flatMap_nil->aAK,getD_eq_getElem?_getD->aCL,replicate->azj
open Go.Proofs.Tryz renaming prog->mP,func42->aEV,underlying3->aAO,func53->aEW,func38->aCI,func54->aEX,func96->aEY,func97->aBi,func123->aEZ,func131->aBF,func132->aBh,func160->aBG,func161->aBH,underlying0->aBI,isAgg0->aBJ,sizeOf0->aBK,zeroValue0->aBL,isAgg3->aBM,sizeOf3->aBN,zeroValue3->aBO,underlying4->aBP,isAgg4->aBQ,sizeOf4->aBR,zeroValue4->aBS,underlying5->aBT,isAgg5->aBU,sizeOf5->aBV,zeroValue5->aBW,underlying9->aBX,isAgg9->aBY,sizeOf9->aBZ,zeroValue9->aB0,underlying189->aB1,isAgg189->aB2,sizeOf189->aB3,zeroValue189->aB4,underlying228->aB5,isAgg228->aB6,sizeOf228->aB7,zeroValue228->aB8,underlying229->aB9,isAgg229->aCa,sizeOf229->aCb,zeroValue229->aCc,underlying233->aCd,isAgg233->aCe,sizeOf233->aCf,zeroValue233->aCg,underlying236->aCh,isAgg236->aCi,sizeOf236->aCj,zeroValue236->aCk,underlying131->aCl,isAgg131->aCm,sizeOf131->aCn,zeroValue131->aCo,underlying270->aCp,isAgg270->aCq,sizeOf270->aCr,zeroValue270->aCs,underlying274->aCt,isAgg274->aCu,sizeOf274->aCv,zeroValue274->aCw,underlying310->aCx,isAgg310->aCy,sizeOf310->aCz,zeroValue310->aCA,underlying82->aCB,isAgg82->aCC,sizeOf82->aCD,zeroValue82->aCE,func57->aE0,func99->aE1,func133->aE2,func55->aE3,func58->aE4,func78->aDy,func79->aDz
open Int renaming toNat_natCast->ayw,reduceNeg->Js,reduceLT->aDA,toNat_of_nonneg->aDB,tmod_eq_emod_of_nonneg->az5,eq_ofNat_of_zero_le->aBj
open Bool renaming and_eq_true->are,eq_iff_iff->ay2,and_true->aBD
open Option renaming map_some->azi
open Prod renaming mk->ay9
open Go renaming TypeId->aPg,IntKind->aPh
set_option linter.unusedVariables false
set_option linter.unusedSimpArgs false
set_option maxHeartbeats 8000000
set_option maxRecDepth 20000
namespace Go.Proofs.YtemdgidnhgcafaaGreatDoor.Pk
open Go Go.Proofs Go.Proofs.YtemdgidnhgcafaaGreatDoor.Ab
def qs(x:eG):List V:=[.ag x.outs.length (x.outs.flatMap jf),.ag x.verts.length (ax x.verts),gU x.chgs,.ag x.deads.length (x.deads.flatMap rE)]
theorem auV{P:Program}{t:aPg}{T:mi}(A:gM P t=eL T)(u:0<T.sz){α:Type}{enc:α->List V}(i:∀a,(enc a).length=T.sz)(B:∀a,(enc a).all (·.one)=e6)(C:Ab.eJ P t=eL 1)(an:T.av<=1024)
  {h:I} {s:V} {j:List α} (o:Own h T.e T.sz s (j.flatMap enc)) (M:j.length<=2^36) (c:α) :
  ∃q h',kd P t t s (.bh h.n 0 1 1) (h.push (.cells (enc c) T.e eN))=eL (q,h')/\Own h' T.e T.sz q ((j++[c]).flatMap enc)/\J (h.push (.cells (enc c) T.e eN)) h' (bb s)/\b6 (h.push (.cells (enc c) T.e eN)) s q:=by
 have k:J h (h.push (.cells (enc c) T.e eN)) kR:=J.push _ _ _;have D:Own (h.push (.cells (enc c) T.e eN)) T.e T.sz (.bh h.n 0 1 1) (enc c):=Own.fz _ 1 (by rw[i];omega) (by decide);have E:=uc (P:=P) (t:=t) C D (n:=1) (by rw[i];omega) u (B c);obtain⟨q,h',F,G,H,L⟩:=be (P:=P) (t:=t) (tx:=t) A u (o.aY k) E (by rw[i];omega) (λm z=>by
  rw[ft i,i]at z;have:m=j.length+1:=aAf u (by rw[z,ayC];omega);subst this;have O:(j.length+1)*T.av<=(2^36+1)*1024:=Nat.mul_le_mul (by omega) an;exact⟨by simp only[lim];omega,by simp only[lim];omega⟩)
 refine⟨q,h',F,?_,H,L⟩;rw[ay3];simpa using G
structure AY(id m:Nat)(b:At)(c:bk)(h:I)(ow:cM)(s:cT)(x:eG)(t:Nat)(H:I)(ow':cM):Prop where
 ef:fJ H ow' id m b c s
 get:H.get t=.cells (qs x) 101 eN
 lt:t<H.n
 new:h.n<=t
 own:ow' t=(0,0)
 ai:J h H (λq=>(ow q).1=id)
 bH:∀q,q<h.n->ow' q=ow q
 aO:Fr H ow'
section
variable {id m:Nat} {b:At} {c:bk} {h bV:I} {ow eH:cM} {s:cT} {x:eG}
theorem AY.push(k:fJ bV eH id m b c s)(u:∀q,q<h.n->eH q=ow q)(f:Fr bV eH)(j:J h bV (λq=>(ow q).1=id)):AY id m b c h ow s x bV.n (bV.push (.cells (qs x) 101 eN)) eH:=by
 have i:J bV (bV.push (.cells (qs x) 101 eN)) kR:=J.push _ _ _;exact⟨k.aY i,ac,by rw[dn];omega,j.n,f _ (BY _),j.trans i λ_ _ e=>e.elim,u,λq z=>f q (UN i.n z)⟩
theorem AY.set{ob:aP}(B:id≠0)(aO:Fr h ow)(k:fJ bV eH id m b c s)(j:∀q,q<(h.push ob).n->eH q=ow q)(f:Fr bV eH)(u:J (h.push ob) bV (λq=>(ow q).1=id)):AY id m b c h ow s x h.n (bV.set h.n (.cells (qs x) 101 eN)) eH:=by
 have C:J h (h.push ob) kR:=J.push _ _ _;have D:=u.n;rw[dn]at D;have z:J bV (bV.set h.n (.cells (qs x) 101 eN)) (·=h.n):=J.set _ _ _;have A:eH h.n=(0,0):=(j _ (by rw[dn];omega)).trans (aO _ (BY _));exact⟨k.ai z (λq _ e=>by subst e;rw[A];exact λe=>B e.symm) λ_ _=>rfl,aM,by show h.n<bV.n;omega,BY _,A,((C.up.trans u λq _ e=>e).trans z λq i e=>by omega),λq i=>j q (by rw[dn];omega),λq i=>f q i⟩
end
theorem YN{i n:Nat}(h:i<n)(a:n<=2^62):aPh.i64.wrap ((i:Int)+1)=((i+1:Nat):Int):=by rw[kp _ (by omega)];rfl
theorem auW{l:List Int}{k:Nat}(a:k<l.length):(ax l).drop (k*1)=.int gj l[k]::ax (l.drop (k+1)):=by
 rw[axD];unfold ax;rw[<-List.map_drop,ay0 a];rfl
theorem auX{l:List Int}{k:Nat}(a:k<l.length){t:aPg}(i:dU mP t=eL 1):hC mP t (.ag l.length (ax l)) (.int gj (k:Int))=eL (.at (.int gj l[k]::ax (l.drop (k+1)))):=by
 rw[JW i (by omega) (by omega) (by rw[ht];omega),ayw,auW a]
structure tk where
 k:Int
 v:Int
 t:Int
 deriving DecidableEq
structure bz where
 kind:Int
 task:Int
 cN:Int
 gG:Int
 log:Int
 r:tk
 del:Bool
 offs:List Int
 order:List Int
 deriving DecidableEq
def ly(r:tk):List V:=[.int gj r.k,.int gj r.v,.int gj r.t]
def bo(x:bz):List V:=[.int gj x.kind,.int gj x.task,.int gj x.cN,.int gj x.gG,.int gj x.log,.int gj x.r.k,.int gj x.r.v,.int gj x.r.t,.bool x.del,.ag x.offs.length (ax x.offs),.ag x.order.length (ax x.order)]
theorem sZ(r:bz):(bo r).length=11:=rfl
theorem auY(r:tk):bc (ly r):=bc.cons (bf.int _ _) (bc.cons (bf.int _ _) (bc.cons (bf.int _ _) bc.nil))
theorem auZ(r:bz):bc (bo r):=bc.cons (bf.int _ _) (bc.cons (bf.int _ _) (bc.cons (bf.int _ _) (bc.cons (bf.int _ _) (bc.cons (bf.int _ _) (bc.cons (bf.int _ _) (bc.cons (bf.int _ _) (bc.cons (bf.int _ _) (bc.cons (bf.bool _) (bc.cons (bf.ag (y1 _)) (bc.cons (bf.ag (y1 _)) bc.nil))))))))))
def DU:tk:=⟨0,0,0⟩
def fit(n:Int):Bool:=decide (0<=n)&&decide (n<=1048576)
def AZ(t:Int):Bool:=decide (0<=t)&&decide (t<=1099511627776)
def uJ(x:bz):Bool :=
 (decide (2<=x.kind/\x.kind<=5)||(x.task==0&&x.cN==0))&&(decide (2<=x.kind/\x.kind<=4)||x.gG==0)&&(decide (x.kind<=2)||(x.log==0&&decide (x.r=DU))) &&
  (decide (x.kind=2)||!x.del)&&(decide (x.kind=3)||(x.offs.length==0&&x.order.length==0))
def ha(x:bz):Bool :=
 decide (1<=x.kind)&&decide (x.kind<=6)&&fit x.task&&fit x.cN&&fit x.gG&&fit x.log&&AZ x.r.t&&decide (x.offs.length<=8)&&x.offs.all fit&&decide (x.order.length<=256)&&x.order.all fit&&uJ x
theorem B3(x:bz):ha x=e6↔(1<=x.kind/\x.kind<=6)/\fit x.task=e6/\fit x.cN=e6/\fit x.gG=e6/\fit x.log=e6/\AZ x.r.t=e6/\x.offs.length<=8/\(∀n∈x.offs,fit n=e6)/\x.order.length<=256/\(∀n∈x.order,fit n=e6)/\uJ x=true:=by
 simp only[ha,are,ig,ayy,and_assoc]
theorem xk(n:Int):fit n=e6↔0<=n/\n<=1048576:=by simp[fit]
theorem YO(n:Int):AZ n=e6↔0<=n/\n<=1099511627776:=by simp[AZ]
theorem au0:Gz mP 179=eL (8,2,e6):=by kernel_rfl
theorem agv(l:List Int)(h:I)(F:l.length<=2^47):Pure mP 42 [.ag l.length (ax l)] h (.bool (l.all fit)):=by
 refine a7 aEV rfl ?_;simp only[ae,ds,reduceCtorEq,hI];refine aT.bG (α:=Nat) (λi f h'=>h'=h/\f 5=.ag l.length (ax l)/\f 6=.int gj l.length/\f 7=.int gj (i:Nat)/\i<=l.length/\(l.take i).all fit=e6) (λi=>l.length-i) 0
  ⟨rfl,rfl,rfl,rfl,D8 _,rfl⟩ ?_
 rintro i f h' ⟨rfl,s,a,u,hi,aW⟩
 refine wpS ?_;by_cases j:i<l.length
 .have m:=dK i l.length;have z:=auX (l:=l) j kE;have B:l.all fit=e6->fit l[i]=true:=λU=>ayy.1 U _ (ayz j);by_cases A:l[i]<0
  .have q:l.all fit=false:=by
    cases U:l.all fit with
    | false=>rfl
    | true=>have:=(xk _).1 (B U);omega
   simp only[ae,ds,al,s,a,u,m,z,A,aJ];exact ar ⟨by rw[q],rfl⟩
  by_cases C:1048576<l[i]
  .have q:l.all fit=false:=by
    cases U:l.all fit with
    | false=>rfl
    | true=>have:=(xk _).1 (B U);omega
   simp only[ae,ds,al,s,a,u,m,z,A,C,aJ];exact ar ⟨by rw[q],rfl⟩
  .have D:fit l[i]=true:=(xk _).2 (by omega);have E:=YN j (by omega);simp only[ae,ds,al,s,a,u,m,z,A,C,E];refine ar ⟨i+1,⟨rfl,s,a,rfl,j,?_⟩,by omega⟩;rw[ayY j,aAt,aW];simp[D]
 .have m:=dY i l.length;have q:l.all fit=true:=by rw[show i=l.length by omega,azB]at aW;exact aW
  simp only[ae,ds,a,u,m,aJ];exact ar ⟨by rw[q],rfl⟩
theorem au1(t:Int)(h:I):Pure mP 43 [.int gj t] h (.bool (AZ t)):=by
 refine a7 Tryz.func43 rfl ?_;by_cases a:0<=t
 .simp only[ae,ds,reduceCtorEq,a,aJ];exact ar ⟨by simp[AZ,a],rfl⟩
 .simp only[ae,ds,reduceCtorEq,a,aJ];exact ar ⟨by simp[AZ,a],rfl⟩
def KB(l:List Bool):List (Bool×Int):=[(l.getD 0 fr,1),(l.getD 1 fr,2),(l.getD 2 fr,4),(l.getD 3 fr,8),(l.getD 4 fr,16),(l.getD 5 fr,32),(l.getD 6 fr,64),(l.getD 7 fr,128)]
def uK(l:List (Bool×Int)):Int:=l.foldl (λa p=>if p.1 then wJ gj a p.2 else a) 0
def YP(l:List (Bool×Int)):List V:=l.flatMap λp=>[.bool p.1,.int gj p.2]
def KC(x:bz):List Bool:=[decide (x.task≠0),decide (x.cN≠0),decide (x.gG≠0),decide (x.log≠0),decide (x.r≠DU),x.del,decide (0<x.offs.length),decide (0<x.order.length)]
def lL:List Int:=[0,24,63,199,7,3,0]
def mA:List V:=lL.map (.int gj)
def qL(h:I):Prop:=h.glob 0=eL mA
theorem LE(k v t:Int){a i:Operand}:cB mP .neq 45 a i (.agg [.int gj k,.int gj v,.int gj t]) (.agg [.int gj 0,.int gj 0,.int gj 0])=eL (.bool (decide ((⟨k,v,t⟩:tk)≠DU))):=by
 have h:gl [0,0,0] [.int gj k,.int gj v,.int gj t] [.int gj 0,.int gj 0,.int gj 0]=eL (decide ((⟨k,v,t⟩:tk)=DU)):=by
  simp only[gl,jS,azi,Option.some.injEq];rw[ay2];simp[DU]
 rw[m7 Wf h];simp
theorem au2(x:bz)(h:I):Pure mP 44 [.agg (bo x)] h (.int gj (uK (KB (KC x)))):=by
 refine Pure.val (bf.int _ _) ?_;refine a7 Tryz.func44 rfl ?_;have aw:(kB (bo x)).cells=eL (bo x):=rfl;simp only[ae,aw];obtain⟨H,hH,L,M,_⟩:=bU h (.cells (bo x) 48 eN);rw[<-hH];refine aT.cL kR [] (.q 0 (.q 1 (.q 2 (.q 3 (.q 4 (.q 5 (.q 6 (.q 7 (.q 8 (.q 9 (.q 10 (.q 11 (.q 12 (.q 13 (.q 14 (.q 15 (.q 16 (.q 17 (.q 18 (.q 19 (.q 20 (.q 21 (.q 22 (.q 23 (.q 24 (.q 25 (.q 26 (.q 27 (.q 28 (.q 29 (.q 30 (.q 31 (.q 32 (.q 33 (.q 34 (.q 35 .done)))))))))))))))))))))))))))))))))))) ?_;have az:∀a:Int,(a !=0)=decide (a≠0):=λa=>by rw[ay2];simp
 have bd:∀l:List Int,decide ((0:Int)<(l.length:Int))=decide (0<l.length):=λl=>by rw[ay2];simp
 simp only[ae,bw,ds,AT,By,Nat.reduceMul,al,hI,M,bo,LE,az,bd];refine aT.bG (α:=Nat) (λi f h'=>J H h' kR/\f 40=.agg (YP (KB (KC x)))/\f 41=.int gj (i:Nat)/\f 3=.int gj (uK ((KB (KC x)).take i))/\i<=8) (λi=>8-i) 0
  ⟨J.refl _ _,rfl,rfl,rfl,D8 _⟩ ?_
 rintro i f h' ⟨z,j,m,s,hi⟩
 refine wpS ?_;generalize N:KB (KC x)=F at j s⊢;have D:F.length=8:=by rw[<-N];rfl
 by_cases A:i<8
 .have u:decide ((i:Int)<8)=true:=by simp;omega
  have E:i<F.length:=by omega
  have G:=YN A (by omega);have B:Gf mP 179 (.agg (YP F)) (.int gj (i:Int))=eL (.agg [.bool F[i].1,.int gj F[i].2]):=by
   rw[aoY au0];simp only[L0,ayw,jS];rw[gr ⟨by omega,by omega⟩,YP,xR (sz:=2) (λ_=>rfl),ay0 E];rfl
  have C:uK (F.take (i+1))=if F[i].1 then wJ gj (uK (F.take i)) F[i].2 else uK (F.take i):=by
   rw[ayY E,uK,aAA];rfl
  generalize F[i]=p at B C;obtain⟨b,n⟩:=p;cases b
  .simp only[ae,ds,AT,al,j,m,u,B,G];refine ar ⟨i+1,⟨z.bp _,j,rfl,?_,A⟩,by omega⟩;rw[C];exact s
  .simp only[ae,ds,AT,By,al,j,m,s,u,B,G];refine ar ⟨i+1,⟨z.bp _,j,rfl,?_,A⟩,by omega⟩;rw[C];rfl
 .have u:decide ((i:Int)<8)=false:=by simp;omega
  simp only[ae,ds,m,s,u,aJ];refine ar ⟨?_,L.trans' z⟩;rw[ajE (by omega)]
def agw:Nat->List Bool->Bool:=λk l=>
 (decide (2<=k/\k<=5)||(!l.getD 0 fr&&!l.getD 1 fr))&&(decide (2<=k/\k<=4)||!l.getD 2 fr)&&(decide (k<=2)||(!l.getD 3 fr&&!l.getD 4 fr)) &&
  (decide (k=2)||!l.getD 5 fr)&&(decide (k=3)||(!l.getD 6 fr&&!l.getD 7 fr))
theorem au3:∀k∈[1,2,3,4,5,6],∀a b c d e f g i:Bool,(JN gj (uK (KB [a,b,c,d,e,f,g,i])) (lL.getD k 0)==0)=agw k [a,b,c,d,e,f,g,i]:=by
 decide +kernel
theorem au4(x:bz){k:Nat}(i:x.kind=(k:Int))(C:1<=k)(D:k<=6):(JN gj (uK (KB (KC x))) (lL.getD k 0)==0)=uJ x:=by
 rw[KC,au3 k (by simp;omega)];have j:∀a:Int,(!decide (a≠0))=(a==0):=λa=>by rw[ay2];simp
 have m:∀l:List Int,(!decide (0<l.length))=(l.length==0):=λl=>by rw[ay2];simp
 have q:(!decide (x.r≠DU))=decide (x.r=DU):=by rw[ay2];simp
 have s:decide (2<=(k:Int)/\(k:Int)<=5)=decide (2<=k/\k<=5):=decide_eq_decide.2 (by omega);have u:decide (2<=(k:Int)/\(k:Int)<=4)=decide (2<=k/\k<=4):=decide_eq_decide.2 (by omega);have z:decide ((k:Int)<=2)=decide (k<=2):=decide_eq_decide.2 (by omega);have A:decide ((k:Int)=2)=decide (k=2):=decide_eq_decide.2 (by omega);have B:decide ((k:Int)=3)=decide (k=3):=decide_eq_decide.2 (by omega);unfold agw uJ;rw[i,s,u,z,A,B];simp only[List.getD_cons_zero,List.getD_cons_succ,j,m,q]
theorem au5(h:I)(a b c d:Int):am mP 46 4 [(0,.int gj a),(1,.int gj b),(2,.int gj c),(3,.int gj d)] h=eL (.bh h.n 0 4 4,h.push (.cells (ax [a,b,c,d]) 3 eN)):=by rw[nm pR];rfl
theorem au6(j:Nat)(l:List Int)(h:I)(R:l.length<=2^47)(H:h.get j=.cells (ax l) 3 eN)(L:j<h.n):Pure mP 42 [.bh j 0 l.length l.length] h (.bool (l.all fit)):=by
 have M:Own h 3 1 (.bh j 0 l.length l.length) (ax l):=.inr ⟨j,l.length,l.length,ax l,eN,rfl,L,H,by rw[ht,axD],by rw[axD,ajE (by rw[ht];exact BY _)],.inl ⟨by unfold b9;omega,by rw[ht];omega,BY _⟩⟩;refine a7 aEV rfl ?_;simp only[ae,ds,reduceCtorEq,hI];refine aT.bG (α:=Nat) (λi f h'=>h'=h/\f 5=.bh j 0 l.length l.length/\f 6=.int gj l.length/\f 7=.int gj (i:Nat)/\i<=l.length/\(l.take i).all fit=e6) (λi=>l.length-i) 0
  ⟨rfl,rfl,rfl,rfl,D8 _,rfl⟩ ?_
 rintro i f h' ⟨rfl,z,m,A,hi,aW⟩
 refine wpS ?_;by_cases a:i<l.length
 .have s:=dK i l.length;obtain⟨q,C,E,⟨r,B⟩,_⟩:=QM (P:=mP) (kk:=.i64) kE M (k:=i) (by rw[ht];exact a);simp only[aS,Option.some.injEq]at E;subst E;have N:(ax l)[i]'(by rw[ht];exact a)=.int gj l[i]:=by simp[ax]
  rw[N]at B;have F:l.all fit=e6->fit l[i]=true:=λU=>ayy.1 U _ (ayz a);by_cases D:l[i]<0
  .have u:l.all fit=false:=by
    cases U:l.all fit with
    | false=>rfl
    | true=>have:=(xk _).1 (F U);omega
   simp only[ae,ds,al,z,m,A,s,C,B,D,aJ];exact ar ⟨by rw[u],rfl⟩
  by_cases G:1048576<l[i]
  .have u:l.all fit=false:=by
    cases U:l.all fit with
    | false=>rfl
    | true=>have:=(xk _).1 (F U);omega
   simp only[ae,ds,al,z,m,A,s,C,B,D,G,aJ];exact ar ⟨by rw[u],rfl⟩
  .have O:fit l[i]=true:=(xk _).2 (by omega);have Q:=YN a (by omega);simp only[ae,ds,al,z,m,A,s,C,B,D,G,Q];refine ar ⟨i+1,⟨rfl,z,m,rfl,a,?_⟩,by omega⟩;rw[ayY a,aAt,aW];simp[O]
 .have s:=dY i l.length;have u:l.all fit=true:=by rw[show i=l.length by omega,azB]at aW;exact aW
  simp only[ae,ds,m,A,s,aJ];exact ar ⟨by rw[u],rfl⟩
def pq(x:bz):Prop:=x.offs.length<=2^47/\x.order.length<=2^47
theorem agx(x:bz)(h:I)(N:qL h)(i:pq x):Pure mP 15 [.agg (bo x)] h (.bool (ha x)):=by
 refine Pure.val (bf.bool _) ?_;refine a7 Tryz.func15 rfl ?_;have aw:(kB (bo x)).cells=eL (bo x):=rfl;by_cases A:x.kind<1
 .have s:ha x=false:=by cases U:ha x with|false=>rfl|true=>have:=((B3 x).1 U).1;omega
  simp only[ae,ds,AT,al,bo,A,aJ];exact ar ⟨by rw[s],J.push _ _ _⟩
 by_cases C:6<x.kind
 .have s:ha x=false:=by cases U:ha x with|false=>rfl|true=>have:=((B3 x).1 U).1;omega
  simp only[ae,ds,AT,al,bo,A,C,aJ];exact ar ⟨by rw[s],J.push _ _ _⟩
 simp only[ae,ds,AT,al,bo,A,C];obtain⟨H,hH,D,_,hx⟩:=bU h (.cells (bo x) 48 eN);have E:H.get h.n=.cells [.int gj x.kind,.int gj x.task,.int gj x.cN,.int gj x.gG,.int gj x.log,.int gj x.r.k,.int gj x.r.v,.int gj x.r.t,.bool x.del,.ag x.offs.length (ax x.offs),.ag x.order.length (ax x.order)] 48 none:=by rw[hH];exact ac
 have O:H.glob 0=eL mA:=by rw[D.glob];exact N
 unfold bo at hH;rw[<-hH];clear hH;obtain⟨k,F,Q,R⟩:∃k:Nat,x.kind=(k:Int)/\1<=k/\k<=6:=⟨x.kind.toNat,by omega,by omega,by omega⟩;generalize az:[x.task,x.cN,x.gG,x.log].all fit=B;generalize bd:AZ x.r.t=G;have s:ha x=(B&&G&&decide (x.offs.length<=8)&&x.offs.all fit&&decide (x.order.length<=256)&&x.order.all fit&&uJ x):=by
  have S:decide (1<=x.kind)=true:=hO (by omega);have T:decide (x.kind<=6)=true:=hO (by omega);simp only[ha,S,T,<-az,<-bd,List.all_cons,List.all_nil,Bool.true_and,aBD,Bool.and_assoc]
 have u:decide ((x.offs.length:Int)<=8)=decide (x.offs.length<=8):=decide_eq_decide.2 (by omega);have z:decide ((x.order.length:Int)<=256)=decide (x.order.length<=256):=decide_eq_decide.2 (by omega);rw[s];have W:∀h':I,(h'=H.push (.cells (ax [x.task,x.cN,x.gG,x.log]) 3 eN))->Pure mP 42 [.bh H.n 0 4 4] h' (.bool B):=λh' U=>by
  rw[<-az,U];exact au6 H.n [x.task,x.cN,x.gG,x.log] _ (by simp) ac (by rw[dn];omega)
 refine aT.cL kR [8,9] (.q 0 (.q 1 (.q 2 (.q 3 (.q 4 (.q 5 (.q 6 (.q 7 (.e 8 (.a 9 (.q 10 (.q 11 (.q 12 (.q 13 (.c 14 (.q 15 (.q 16 (.q 17 (.q 18 (.q 19 (.q 20 (.q 21 (.q 22 (.q 23 (.q 24 (.c 25 (.q 26 (.q 27 (.q 28 (.q 29 (.q 30 (.q 31 (.q 32 (.q 33 (.q 34 (.q 35 (.c 36 (.q 37 (.q 38 (.q 39 (.c 40 (.q 41 (.q 42 (.q 43 (.q 44 (.q 45 (.q 46 (.q 47 (.q 48 .done)))))))))))))))))))))))))))))))))))))))) .stop))))))))) ?_;have j:∀o,(H.push o).get h.n=.cells [.int gj x.kind,.int gj x.task,.int gj x.cN,.int gj x.gG,.int gj x.log,.int gj x.r.k,.int gj x.r.v,.int gj x.r.t,.bool x.del,.ag x.offs.length (ax x.offs),.ag x.order.length (ax x.order)] 48 none:=λo=>by rw[iZ (by omega)];exact E
 have X:∀(f:aj) (a:aP),aj.eval f (H.push a) (.global 0)=.at mA:=λf a=>Lj (by rw[Gp];exact O);have m:∀o,J h (H.push o) kR:=λo=>D.bp o;simp only[ae,bw,ds,AT,By,al,E,au5];refine bE (W _ rfl) ?_;cases B
 .simp only[ae,bw,ds];refine rZ rfl rfl ?_;simp only[ae,bw,ds];refine rZ rfl rfl ?_;simp only[ae,bw,ds];refine rZ rfl rfl ?_;simp only[ae,bw,ds];refine rZ rfl rfl ?_;simp only[ae,bw,ds,aJ];exact ar ⟨rfl,m _⟩
 simp only[ae,bw,ds,AT,By,al,j];refine gh rfl rfl rfl (λh' _=>au1 x.r.t h') ?_;rw[bd];cases G
 .simp only[ae,bw,ds];refine rZ rfl rfl ?_;simp only[ae,bw,ds];refine rZ rfl rfl ?_;simp only[ae,bw,ds];refine rZ rfl rfl ?_;simp only[ae,bw,ds,aJ];exact ar ⟨rfl,m _⟩
 by_cases L:x.offs.length<=8;rotate_left
 .have u:decide ((x.offs.length:Int)<=8)=false:=hK (by omega);simp only[ae,bw,ds,AT,By,al,hI,j,u];refine rZ rfl rfl ?_;simp only[ae,bw,ds];refine rZ rfl rfl ?_;simp only[ae,bw,ds];refine rZ rfl rfl ?_;simp only[ae,bw,ds,aJ];exact ar ⟨by simp[L],m _⟩
 have u:decide ((x.offs.length:Int)<=8)=true:=hO (by omega);simp only[ae,bw,ds,AT,By,al,hI,j,u];refine gh rfl rfl rfl (λh' _=>agv x.offs h' i.1) ?_;generalize x.offs.all fit=Y;cases Y
 .simp only[ae,bw,ds];refine rZ rfl rfl ?_;simp only[ae,bw,ds];refine rZ rfl rfl ?_;simp only[ae,bw,ds,aJ];exact ar ⟨by simp,m _⟩
 by_cases M:x.order.length<=256;rotate_left
 .have z:decide ((x.order.length:Int)<=256)=false:=hK (by omega);simp only[ae,bw,ds,AT,By,al,hI,j,z];refine rZ rfl rfl ?_;simp only[ae,bw,ds];refine rZ rfl rfl ?_;simp only[ae,bw,ds,aJ];exact ar ⟨by simp[M],m _⟩
 have z:decide ((x.order.length:Int)<=256)=true:=hO (by omega);simp only[ae,bw,ds,AT,By,al,hI,j,z];refine gh rfl rfl rfl (λh' _=>agv x.order h' i.2) ?_;generalize x.order.all fit=Z;cases Z
 .simp only[ae,bw,ds];refine rZ rfl rfl ?_;simp only[ae,bw,ds,aJ];exact ar ⟨by simp,m _⟩
 have gA:(if(0:Int)<=x.kind/\x.kind<((7:Nat):Int)/\(x.kind.toNat*1)<=mA.length then eL (V.at (mA.drop (x.kind.toNat*1)))else eN)=eL (.at (.int gj (lL.getD k 0)::mA.drop (k+1))):=by
  rw[F,gr ⟨by omega,by omega,by simp[mA,lL];omega⟩];have:mA.drop ((k:Int).toNat*1)=.int gj (lL.getD k 0)::mA.drop (k+1):=by
   rw[ayw,axD,ay0 (by simp[mA,lL];omega)];simp[mA,ayX,Jt (show k<lL.length by simp[lL];omega)]
  rw[this]
 simp only[ae,bw,ds,AT,al,j];refine gh rfl rfl rfl (λh' _=>au2 x h') ?_;simp only[ae,bw,ds,AT,al,j,X,gA,au4 x F Q R,aJ];exact ar ⟨by simp[L,M],m _⟩
end Go.Proofs.YtemdgidnhgcafaaGreatDoor.Pk
namespace Go.Proofs.Vw
variable {E R:Type}
structure KD(R:Type) where
 kind:Nat
 task:Int
 ep:Int
 tx:Int
 log:Int
 YQ:R
 offs:List Int
 ord:List Int
structure A0(R:Type) where
 ep:Int
 tx:Int
 offs:List Int
 ord:List Int
 opn:List (KD R×Nat)
def YR:A0 R:=⟨0,0,[],[],[]⟩
structure yQ(R:Type) where
 logs:Int->List R
 tasks:Int->Option (A0 R)
def OR:yQ R:=⟨λ_=>[],λ_=>eN⟩
def OS(f:Int->List R)(x:KD R):Int->List R:=λn=>if n=x.log then f n++[x.YQ]else f n
def DD(f:Int->List R)(l:List (KD R×Nat)):Int->List R:=l.foldl (λg p=>OS g p.1) f
def zm(s:yQ R)(t:Int):A0 R:=(s.tasks t).getD YR
def A1(s:yQ R)(t:Int)(j:A0 R):yQ R:={ s with tasks:=λn=>if n=t then eL j else s.tasks n }
def au7(j:A0 R)(ep:Int):A0 R:=if j.ep<ep then { j with ep:=ep,opn:=[] }else j
def step(s:yQ R)(x:KD R)(i:Nat):yQ R :=
 if x.kind=1 then { s with logs:=OS s.logs x }
 else if x.kind=5 then A1 s x.task (au7 (zm s x.task) x.ep)
 else if 2<=x.kind/\x.kind<=4 then
  (if x.ep≠(zm s x.task).ep\/x.tx≠(zm s x.task).tx then A1 s x.task (zm s x.task)
  else if x.kind=2 then A1 s x.task { zm s x.task with opn:=(zm s x.task).opn++[(x,i)] }
  else if x.kind=3 then
   { logs:=DD s.logs (zm s x.task).opn,tasks:=(A1 s x.task ⟨(zm s x.task).ep,(zm s x.task).tx+1,x.offs,(zm s x.task).ord++x.ord,[]⟩).tasks }
  else A1 s x.task { zm s x.task with tx:=(zm s x.task).tx+1,opn:=[] })
 else s
def run:yQ R->Nat->List (KD R)->yQ R
 | s,_,[]=>s
 | s,i,x::r=>run (step s x i) (i+1) r
variable {R:Type}
end Go.Proofs.Vw
namespace Go.Proofs.YtemdgidnhgcafaaGreatDoor.Pk
open Go Go.Proofs Go.Proofs.YtemdgidnhgcafaaGreatDoor.Ab Go.Proofs.Vw
abbrev ed:=tk×Bool
def YS(x:bz):KD ed:=⟨x.kind.toNat,x.task,x.cN,x.gG,x.log,(x.r,x.del),x.offs,x.order⟩
def hT(p:bz×Nat):List V:=bo p.1++[.int gj (p.2:Nat)]
theorem OT(p:bz×Nat):(hT p).length=12:=rfl
abbrev Tag:=Nat×Int×Nat
abbrev ho:=Nat->Option Tag
abbrev lz:=List (Nat×Int×Nat)
def iV(m:lz):List (Nat×V×V):=dH (kA gj) (λb:Nat=>V.ptr b 0) m
def pU(h:I)(a:ho)(b:Nat)(k:Int)(q:List ed):Prop:=∃i m,h.get b=.cells [.int gj k,i,m] 90 eN /\
 Own h 45 3 i (q.flatMap λp=>ly p.1)/\Own h 4 1 m (q.map λp=>V.bool p.2)/\a b=eL (0,k,0)/\(∀j,aS i=eL j->a j=eL (0,k,1))/\(∀j,aS m=eL j->a j=eL (0,k,2))
structure lA where
 ep:Int
 tx:Int
 offs:List Int
 ord:List Int
 opn:List (bz×Nat)
def lA.m(j:lA):A0 ed:=⟨j.ep,j.tx,j.offs,j.ord,j.opn.map λp=>(YS p.1,p.2)⟩
def OU(v:V)(l:List Int):Prop:=(v=.ah/\l=[])\/v=.ag l.length (ax l)
def n0(h:I)(a:ho)(b:Nat)(t:Int)(j:lA):Prop:=∃s i m,h.get b=.cells [.int gj t,.int gj j.ep,.int gj j.tx,s,i,.int gj 0,m] 125 eN/\OU s j.offs /\
 Own h 3 1 i (ax j.ord)/\Own h 186 12 m (j.opn.flatMap hT)/\a b=eL (1,t,0)/\(∀q,aS i=eL q->a q=eL (1,t,1))/\(∀q,aS m=eL q->a q=eL (1,t,2))
theorem pU.on{h h':I}{z u:ho}{b:Nat}{k:Int}{F:List ed}(a:pU h z b k F){own:Nat->Prop}(A:J h h' own)(B:∀q,own q->∀i,z q≠eL (0,k,i))(C:∀q bs,z q=eL bs->u q=eL bs)(an:∀q bs,z q=eL bs->q<h.n):pU h' u b k F:=by
 obtain⟨L,dv,M,N,O,D,G,H⟩:=a;exact⟨L,dv,(A.get b (an _ _ D) (λU=>B _ U _ D)).trans M,N.ai A (λj s U=>B _ U _ (G j s)),O.ai A (λj s U=>B _ U _ (H j s)),C _ _ D,λj s=>C _ _ (G j s),λj s=>C _ _ (H j s)⟩
theorem n0.on{h h':I}{z u:ho}{b:Nat}{t:Int}{j:lA}(a:n0 h z b t j){own:Nat->Prop}(A:J h h' own)(B:∀q,own q->∀i,z q≠eL (1,t,i))(C:∀q bs,z q=eL bs->u q=eL bs)(an:∀q bs,z q=eL bs->q<h.n):n0 h' u b t j:=by
 obtain⟨H,L,jG,M,N,O,Q,D,F,G⟩:=a;exact⟨H,L,jG,(A.get b (an _ _ D) (λU=>B _ U _ D)).trans M,N,O.ai A (λj s U=>B _ U _ (F j s)),Q.ai A (λj s U=>B _ U _ (G j s)),C _ _ D,λj s=>C _ _ (F j s),λj s=>C _ _ (G j s)⟩
structure kO(aG h:I)(lm cu:Nat)(logs:Int->List ed)(tasks:Int->Option lA)(L:lz)(lc:Nat)(T:lz)(eC:Nat)(ow:ho):Prop where
 ai:J aG h kR
 bH:∀q bs,ow q=eL bs->aG.n<=q/\q<h.n
 iw:ow lm=eL (2,0,0)
 jj:ow cu=eL (2,0,1)
 pX:h.get lm=.map (iV L) lc
 gt:h.get cu=.map (iV T) eC
 ou:dE (iV L) lc
 ov:dE (iV T) eC
 lU:de L
 lV:de T
 has:∀k b,bR L k=eL b->pU h ow b k (logs k)/\logs k≠[]
 lB:∀k,bR L k=eN->logs k=[]
 lC:∀t b,bR T t=eL b->∃j,tasks t=eL j/\n0 h ow b t j
 lD:∀t,bR T t=eN->tasks t=eN
theorem au8(h:I)(m:ho)(b:Nat)(t e:Int)(j:lA)(a:n0 h m b t j)(an:∀q H,m q=eL H->q<h.n) :
  au mP 52 [.ptr b 0,.int gj e] h (λr h'=>r=.tuple []/\J h h' (·=b)/\n0 h' m b t (if j.ep<e then { j with ep:=e,opn:=[] }else j)):=by
 obtain⟨B,C,M,g,D,F,N,s,u,O⟩:=a;refine a7 Tryz.func52 rfl ?_;by_cases i:j.ep<e
 .have z:decide (j.ep<e)=true:=hO i;rw[gr i];simp only[ae,ds,AT,By,reduceCtorEq,al,g,z,aJ];have G:∀o,J h (h.set b o) (·=b):=λo=>J.set _ _ _;refine ar ⟨rfl,G _,B,C,.ah,aM,D,F.ai (G _) (λq A U=>?_),Own.ah _ _ _,s,u,λq A=>by simp[aS]at A⟩;have:=u q A;rw[U,s]at this;simp at this
 .have z:decide (j.ep<e)=false:=hK i;rw[gQ i];simp only[ae,ds,AT,By,reduceCtorEq,al,g,z,aJ];exact ar ⟨rfl,J.refl _ _,B,C,M,g,D,F,N,s,u,O⟩
theorem YT:∃j,eQ mP 72=eL (3,j,.int gj)/\nh mP j=eL (.pointer eN):=by
 have h:(eQ mP 72).map (λq=>(q.1,q.2.1))=eL (3,115):=by kernel_rfl
 have m:mP.underlying 3=eL (.int gj):=aAO;cases i:eQ mP 72 with
 | none=>rw[i]at h;cases h
 | some q=>
  rw[i]at h;obtain⟨a,b,d⟩:=q;simp only[azi,Option.some.injEq,ay9.injEq]at h;obtain⟨rfl,rfl⟩:=h;have:=(zF i).2;rw[m]at this;cases this;exact⟨_,rfl,by kernel_rfl⟩
theorem YU:∃j,eQ mP 71=eL (3,j,.int gj)/\nh mP j=eL (.pointer eN):=by
 have h:(eQ mP 71).map (λq=>(q.1,q.2.1))=eL (3,119):=by kernel_rfl
 have m:mP.underlying 3=eL (.int gj):=aAO;cases i:eQ mP 71 with
 | none=>rw[i]at h;cases h
 | some q=>
  rw[i]at h;obtain⟨a,b,d⟩:=q;simp only[azi,Option.some.injEq,ay9.injEq]at h;obtain⟨rfl,rfl⟩:=h;have:=(zF i).2;rw[m]at this;cases this;exact⟨_,rfl,by kernel_rfl⟩
theorem au9{h:I}{i j:Nat}(m:lz)(k:Int)(q:h.get i=.map (iV m) j):ni mP 72 (.map i) (.int gj k) e6 h=eL (match bR m k with|some b=>.tuple [.ptr b 0,.bool e6]|none=>.tuple [.dA,.bool fr]):=by
 obtain⟨u,a,s⟩:=YT;have:=L1 (enc:=λb:Nat=>V.ptr b 0) (ok:=e6) (iL.ofInt a) (k:=k) a s q;rw[this];cases bR m k<;>simp[fY,gR]
theorem YV{h:I}{i a:Nat}(m:lz)(k:Int)(b:Nat)(q:h.get i=.map (iV m) a):vB mP 72 (.map i) (.int gj k) (.ptr b 0) h=eL (h.set i (.map (iV (cC a m k b)) (fb a m k))):=by
 obtain⟨s,j,_⟩:=YT;exact L2 (enc:=λb:Nat=>V.ptr b 0) (iL.ofInt j) (k:=k) j q rfl
theorem ava{h:I}{i j:Nat}(m:lz)(k:Int)(q:h.get i=.map (iV m) j):ni mP 71 (.map i) (.int gj k) e6 h=eL (match bR m k with|some b=>.tuple [.ptr b 0,.bool e6]|none=>.tuple [.dA,.bool fr]):=by
 obtain⟨u,a,s⟩:=YU;have:=L1 (enc:=λb:Nat=>V.ptr b 0) (ok:=e6) (iL.ofInt a) (k:=k) a s q;rw[this];cases bR m k<;>simp[fY,gR]
theorem YW{h:I}{i a:Nat}(m:lz)(k:Int)(b:Nat)(q:h.get i=.map (iV m) a):vB mP 71 (.map i) (.int gj k) (.ptr b 0) h=eL (h.set i (.map (iV (cC a m k b)) (fb a m k))):=by
 obtain⟨s,j,_⟩:=YU;exact L2 (enc:=λb:Nat=>V.ptr b 0) (iL.ofInt j) (k:=k) j q rfl
theorem kO.on{s h h':I}{lm cu u z:Nat}{logs:Int->List ed}{tasks:Int->Option lA}{L T:lz}{A:ho}(w:kO s h lm cu logs tasks L u T z A)(k:J h h' kR):kO s h' lm cu logs tasks L u T z A where
 ai:=w.ai.trans' k
 bH q bs i:=⟨(w.bH q bs i).1,IS (w.bH q bs i).2 k.n⟩
 iw:=w.iw
 jj:=w.jj
 pX:=(k.get lm (w.bH _ _ w.iw).2 (by simp[kR])).trans w.pX
 gt:=(k.get cu (w.bH _ _ w.jj).2 (by simp[kR])).trans w.gt
 ou:=w.ou
 ov:=w.ov
 lU:=w.lU
 lV:=w.lV
 has q b i:=⟨(w.has q b i).1.on k (λ_ U=>U.elim) (λ_ _ U=>U) λq bs U=>(w.bH q bs U).2,(w.has q b i).2⟩
 lB:=w.lB
 lC t b i:=by
  obtain⟨j,B,C⟩:=w.lC t b i;exact⟨j,B,C.on k (λ_ U=>U.elim) (λ_ _ U=>U) λq bs U=>(w.bH q bs U).2⟩
 lD:=w.lD
def xl:lA:=⟨0,0,[],[],[]⟩
def named(tasks:Int->Option lA)(t:Int):Int->Option lA:=λn=>if n=t then eL ((tasks t).getD xl)else tasks n
theorem agy{aG h:I}{C z lc D:Nat}{logs:Int->List ed}{tasks:Int->Option lA}{L T:lz}{F:ho}(t:Int)(w:kO aG h C z logs tasks L lc T D F) :
  au mP 51 [.agg [.map C,.map z],.int gj t] h (λr h'=>∃b N aa s,r=.ptr b 0/\bR N t=eL b/\kO aG h' C z logs (named tasks t) L lc N aa s/\J h h' (λq=>q=z)/\(∀q m,s q=eL m->F q=eL m\/h.n<=q)):=by
 refine a7 Tryz.func51 rfl ?_;obtain⟨H,hH,S,wi,hx⟩:=bU h (.cells [.map C,.map z] 74 eN);have oJ:=w.on S;have aw:(kB [.map C,.map z]).cells=eL [.map C,.map z]:=rfl;have W:=au9 T t oJ.gt;simp only[ae,ds,AT,By,al,aw];rw[<-hH];clear hH;cases O:bR T t with
 | some b=>
  rw[O]at W;obtain⟨j,aV,_⟩:=w.lC t b O;have N3:named tasks t=tasks:=by
   funext n
   unfold named;split
   .rename_i U;rw[U,aV];rfl
   .rfl
  simp only[ae,ds,W,aJ];exact ar ⟨b,T,D,F,rfl,O,by rw[N3];exact oJ,S.up,λ_ _ U=>.inl U⟩
 | none=>
  rw[O]at W;have bA:=w.lD t O;obtain⟨bZ,bN,X,sw,c6⟩:=bU H (.cells [.int gj t,.int gj 0,.int gj 0,.ah,.ah,.int gj 0,.ah] 125 eN);have G:=oJ.on X;have FA:=(X.get h.n (by omega) (by simp[kR])).trans wi;have r9:=YV T t H.n G.gt;simp only[ae,ds,AT,By,al,W];rw[<-bN];clear bN;simp only[ae,ds,AT,By,FA,r9,aJ];have M:J bZ (bZ.set z (.map (iV (cC D T t H.n)) (fb D T t))) (·=z):=J.set _ _ _;have SJ:=w.bH _ _ w.jj;have Ud:=w.bH _ _ w.iw;have mz:F H.n=none:=by
   cases a:F H.n with
   | none=>rfl
   | some m=>have:=(w.bH _ _ a).2;omega
  obtain⟨s,A⟩:∃g:ho,g=λq=>if q=H.n then eL (1,t,0)else F q:=⟨_,rfl⟩
  have Y:∀q m,F q=eL m->s q=eL m:=λq m a=>by
   rw[A];simp only;rw[gQ (λU=>by rw[U,mz]at a;cases a)];exact a
  have jt:s H.n=eL (1,t,0):=by rw[A];simp
  refine ar ⟨H.n,cC D T t H.n,fb D T t,s,rfl,by rw[y5,gr rfl],?_,((S.trans' X).up).trans M λq a U=>U,λq m a=>by
   rw[A]at a;simp only at a;split at a
   .exact .inr (by omega)
   .exact .inl a⟩
  refine⟨(w.ai.trans' (S.trans' X)).trans M λq a U=>by omega,λq m a=>?_,Y _ _ w.iw,Y _ _ w.jj,?_,aM,w.ou,dE.cC w.ov t H.n,w.lU,w.lV.set D t H.n,λk b a=>?_,w.lB,λu b a=>?_,λu a=>?_⟩
  .rw[A]at a;simp only at a;split at a
   .have:=w.ai.n;rw[jM];omega
   .have:=w.bH q m a;rw[jM];omega
  .exact(M.get C (by omega) (λU=>by have Z:=w.iw;have ad:=w.jj;rw[U,ad]at Z;simp at Z)).trans G.pX
  .refine⟨(G.has k b a).1.on M (λq U i Q=>?_) Y λq m U=>(G.bH q m U).2,(G.has k b a).2⟩;rw[U,w.jj]at Q;simp at Q
  .rw[y5]at a;by_cases B:u=t
   .rw[gr B]at a;injection a with a;subst a;subst B;refine⟨xl,by unfold named;rw[gr rfl,bA];rfl,.ah,.ah,.ah,(M.get H.n (by omega) (by omega)).trans sw,.inl ⟨rfl,rfl⟩,Own.ah _ _ _,Own.ah _ _ _,jt,λq U=>by simp[aS]at U,λq U=>by simp[aS]at U⟩
   .rw[gQ B]at a;obtain⟨j,Z,ad⟩:=G.lC u b a;refine⟨j,by unfold named;rw[gQ B];exact Z,ad.on M (λq U i Q=>?_) Y λq m U=>(G.bH q m U).2⟩;rw[U,w.jj]at Q;simp at Q
  .rw[y5]at a;by_cases B:u=t
   .rw[gr B]at a;cases a
   .rw[gQ B]at a;unfold named;rw[gQ B];exact w.lD u a
theorem kO.xm{H h h':I}{lm cu M N:Nat}{logs:Int->List ed}{tasks:Int->Option lA}{L T:lz}{F z:ho}(w:kO H h lm cu logs tasks L M T N F){t:Int}{b:Nat}{j:lA}{own:Nat->Prop}
  (an:bR T t=eL b) (k:J h h' own) (C:∀q,own q->∃i,F q=eL (1,t,i)) (G:∀q bs,F q=eL bs->z q=eL bs) (D:∀q bs,z q=eL bs->F q=eL bs\/(h.n<=q/\q<h'.n)) (a:n0 h' z b t j) :
  kO H h' lm cu logs (λn=>if n=t then eL j else tasks n) L M T N z where
 ai:=w.ai.trans k λq s U=>by
  obtain⟨i,hi⟩:=C q U;have:=(w.bH _ _ hi).1;omega
 bH q bs s:=by
  rcases D q bs s with U|U
  .have:=w.bH q bs U;have:=k.n;omega
  .have:=w.ai.n;omega
 iw:=G _ _ w.iw
 jj:=G _ _ w.jj
 pX:=(k.get lm (w.bH _ _ w.iw).2 (λU=>by obtain⟨i,hi⟩:=C _ U;rw[w.iw]at hi;simp at hi)).trans w.pX
 gt:=(k.get cu (w.bH _ _ w.jj).2 (λU=>by obtain⟨i,hi⟩:=C _ U;rw[w.jj]at hi;simp at hi)).trans w.gt
 ou:=w.ou
 ov:=w.ov
 lU:=w.lU
 lV:=w.lV
 has q c s:=⟨(w.has q c s).1.on k (λp U i A=>by obtain⟨O,hi⟩:=C _ U;rw[hi]at A;simp at A) G λq bs U=>(w.bH q bs U).2,(w.has q c s).2⟩
 lB:=w.lB
 lC u c s:=by
  by_cases B:u=t
  .subst B;rw[an]at s;injection s with s;subst s;exact⟨j,by simp,a⟩
  .obtain⟨iz,Q,S⟩:=w.lC u c s;exact⟨iz,by simp[B,Q],S.on k (λp U i A=>by obtain⟨O,hi⟩:=C _ U;rw[hi]at A;simp at A;exact B A.1.symm) G λq bs U=>(w.bH q bs U).2⟩
 lD u s:=by
  by_cases B:u=t
  .subst B;rw[an]at s;cases s
  .simp[B,w.lD u s]
def n1(j:lA)(e:Int):lA:=if j.ep<e then { j with ep:=e,opn:=[] }else j
theorem avb{z h:I}{A B C D:Nat}{logs:Int->List ed}{tasks:Int->Option lA}{L T:lz}{m:ho}(w:kO z h A B logs tasks L C T D m){t e:Int}{b:Nat}{j:lA}(an:bR T t=eL b)(G:tasks t=eL j) :
  au mP 52 [.ptr b 0,.int gj e] h (λr h'=>r=.tuple []/\kO z h' A B logs (λn=>if n=t then eL (n1 j e)else tasks n) L C T D m/\J h h' (λq=>∃u,m q=eL u)):=by
 obtain⟨M,s,a⟩:=w.lC t b an;rw[G]at s;injection s with s;subst s;refine(au8 h m b t e j a λq u i=>(w.bH q u i).2).mono λr h' ⟨az,k,H⟩=>?_;obtain⟨_,_,_,_,_,_,_,F,_⟩:=a;refine⟨az,?_,k.mono λq i=>⟨(1,t,0),i▸F⟩⟩;exact w.xm an k (λq i=>⟨0,by rw[i];exact F⟩) (λ_ _ U=>U) (λ_ _ U=>.inl U) H
theorem avc(r:tk):(ly r).all (·.one)=true:=rfl
def ek(a:List ed):List V:=a.flatMap λp=>ly p.1
theorem Hy(a:List ed):(ek a).length=a.length*3:=ft (enc:=λp:ed=>ly p.1) (sz:=3) (λ_=>rfl) a
theorem YX{h:I}{s:V}{j:List ed}(o:Own h 45 3 s (ek j))(H:j.length<=2^40)(p:ed) :
  ∃a h',kd mP 25 25 s (.bh h.n 0 1 1) (h.push (.cells (ly p.1) 45 eN))=eL (a,h')/\Own h' 45 3 a (ek (j++[p]))/\J h h' (bb s)/\b6 h s a:=by
 have u:J h (h.push (.cells (ly p.1) 45 eN)) kR:=J.push _ _ _;have A:Own (h.push (.cells (ly p.1) 45 eN)) 45 3 (.bh h.n 0 1 1) (ly p.1):=Own.fz (ly p.1) 1 rfl (by decide);have B:=uc (P:=mP) (t:=25) r4 A (n:=1) rfl (by decide) (avc p.1);obtain⟨a,h',C,D,F,i⟩:=be (P:=mP) (t:=25) (tx:=25) EN (by decide) (o.aY u) B rfl (λm z=>by
  change m*3=_ at z;rw[Hy]at z;change m*3=_+3 at z;exact⟨by simp only[lim];omega,by simp only[lim];omega⟩)
 refine⟨a,h',C,?_,(u.up).trans' F,?_⟩
 .unfold ek;rw[ay3];simpa [ek]using D
 .rcases i with i|i
  .exact .inl i
  .exact .inr λq G=>UN u.n (i q G)
def e2(a:List ed):List V:=a.map λp=>V.bool p.2
theorem YY{h:I}{s:V}{j:List ed}(o:Own h 4 1 s (e2 j))(H:j.length<=2^40)(p:ed) :
  ∃a h',kd mP 88 88 s (.bh h.n 0 1 1) (h.push (.cells [.bool p.2] 4 eN))=eL (a,h')/\Own h' 4 1 a (e2 (j++[p]))/\J h h' (bb s)/\b6 h s a:=by
 have u:J h (h.push (.cells [V.bool p.2] 4 eN)) kR:=J.push _ _ _;have A:Own (h.push (.cells [V.bool p.2] 4 eN)) 4 1 (.bh h.n 0 1 1) [V.bool p.2]:=Own.fz [V.bool p.2] 1 rfl (by decide);have B:=uc (P:=mP) (t:=88) Dn A (n:=1) rfl (by decide) rfl;obtain⟨a,h',C,D,F,i⟩:=be (P:=mP) (t:=88) (tx:=88) J6 (by decide) (o.aY u) B rfl (λm z=>by
  change m*1=_ at z;simp only[e2,ajD,axF,ayx]at z;exact⟨by simp only[lim];omega,by simp only[lim];omega⟩)
 refine⟨a,h',C,?_,(u.up).trans' F,?_⟩
 .simpa [e2]using D
 .rcases i with i|i
  .exact .inl i
  .exact .inr λq G=>UN u.n (i q G)
theorem agB(h:I)(r:tk):am mP 25 1 [(0,.agg [.int gj r.k,.int gj r.v,.int gj r.t])] h=eL (.bh h.n 0 1 1,h.push (.cells (ly r) 45 eN)):=by rw[nm EN];rfl
theorem agC(h:I)(b:Bool):am mP 88 1 [(0,.bool b)] h=eL (.bh h.n 0 1 1,h.push (.cells [.bool b] 4 eN)):=by rw[nm J6];rfl
theorem agD{h:I}{ow:ho}{b:Nat}{k:Int}{rs:List ed}{rv dv:V}(p:ed)(aB:rs.length<=2^40)(g:h.get b=.cells [.int gj k,rv,dv] 90 eN)(hr:Own h 45 3 rv (ek rs))(ec:Own h 4 1 dv (e2 rs))
  (O:ow b=eL (0,k,0)) (Q:∀j,aS rv=eL j->ow j=eL (0,k,1)) (M:∀j,aS dv=eL j->ow j=eL (0,k,2)) (C:∀q G,ow q=eL G->q<h.n) :
  ∃u s D z F,kd mP 25 25 rv (.bh h.n 0 1 1) (h.push (.cells (ly p.1) 45 eN))=eL (u,s)/\s.get b=.cells [.int gj k,rv,dv] 90 eN/\u.one=e6/\u.cells=eL [u] /\
   kd mP 88 88 dv (.bh s.n 0 1 1) ((s.set b (.cells [.int gj k,u,dv] 90 eN)).push (.cells [.bool p.2] 4 eN))=eL (D,z)/\z.get b=.cells [.int gj k,u,dv] 90 eN/\D.one=e6/\D.cells=eL [D] /\
   J h s (λq=>bb rv q)/\J (s.set b (.cells [.int gj k,u,dv] 90 eN)) z (λq=>bb dv q)/\J h s (λq=>∃i,ow q=eL (0,k,i))/\J h z (λq=>∃i,ow q=eL (0,k,i))/\J h (z.set b (.cells [.int gj k,u,D] 90 eN)) (λq=>∃i,ow q=eL (0,k,i)) /\
   (∀q G,ow q=eL G->F q=eL G)/\(∀q G,F q=eL G->ow q=eL G\/(h.n<=q/\q<z.n))/\pU (z.set b (.cells [.int gj k,u,D] 90 eN)) F b k (rs++[p]):=by
 obtain⟨u,s,az,OV,S,OW⟩:=YX hr aB p;have wB:=C _ _ O;have xn:¬bb rv b:=λU=>by have:=Q b U;rw[O]at this;simp at this
 have uL:¬bb dv b:=λU=>by have:=M b U;rw[O]at this;simp at this
 have g2:=(S.get b wB xn).trans g;have c6:=S.n;have aa:Own s 4 1 dv (e2 rs):=ec.ai S λj m U=>by have A:=Q j U;have s:=M j m;rw[A]at s;simp at s
 obtain⟨H,T⟩:∃y,y=s.set b (.cells [.int gj k,u,dv] 90 eN):=⟨_,rfl⟩;have k3:J s H (·=b):=by rw[T];exact J.set _ _ _
 have n3:H.n=s.n:=by rw[T];rfl
 have g3:H.get b=.cells [.int gj k,u,dv] 90 none:=by rw[T];exact aM
 have af:=aa.ai k3 λj m U=>uL (by rw[<-U];exact m);have W:∀j,aS u=eL j->j≠b/\(aS rv=eL j\/h.n<=j):=λj m=>by
  rcases OW with e|e
  .exact⟨λU=>xn (by rw[<-U,bb,<-e];exact m),.inl (by rw[<-e];exact m)⟩
  .have:=e j m;exact⟨by omega,.inr this⟩
 have Ue:=OV.ai k3 λj m U=>(W j m).1 U;obtain⟨D,z,hE,Y,X,kV⟩:=YY af aB p;have n4:=X.n;have g4:=(X.get b (by omega) uL).trans g3;have Uf:=Ue.ai X λj m U=>by
  rcases(W j m).2 with A|A
  .have A:=Q j A;have s:=M j U;rw[A]at s;simp at s
  .have:=C _ _ (M j U);omega
 have OX:∀j,aS D=eL j->j≠b/\(aS dv=eL j\/H.n<=j):=λj m=>by
  rcases kV with e|e
  .exact⟨λU=>uL (by rw[<-U,bb,<-e];exact m),.inl (by rw[<-e];exact m)⟩
  .have:=e j m;exact⟨by omega,.inr this⟩
 have c8:J z (z.set b (.cells [.int gj k,u,D] 90 eN)) (·=b):=J.set _ _ _;have c4:J h s (λq=>∃i,ow q=eL (0,k,i)):=S.mono λq B=>⟨1,Q q B⟩;have ez:J h H (λq=>∃i,ow q=eL (0,k,i)):=c4.trans k3 λq B U=>⟨0,by rw[U];exact O⟩;have lR:J h z (λq=>∃i,ow q=eL (0,k,i)):=ez.trans X λq B U=>⟨2,M q U⟩;have lh:=lR.trans c8 λq B U=>⟨0,by rw[U];exact O⟩;have N:∀j,aS u=eL j->aS D=eL j->False:=λj A s=>by
  rcases(OX j s).2 with H|H
  .rcases(W j A).2 with z|z
   .have a:=Q j z;have b:=M j H;rw[a]at b;simp at b
   .have:=C _ _ (M j H);omega
  .have:=Ue.lt j A;omega
 obtain⟨F,L⟩:∃f:ho,f=λq=>if q<h.n then ow q else if aS u=eL q then eL (0,k,1)else if aS D=eL q then eL (0,k,2)else ow q:=⟨_,rfl⟩
 have Z:∀q G,ow q=eL G->F q=eL G:=λq G B=>by rw[L];simp only;rw[gr (C _ _ B)];exact B
 have av:∀j,aS u=eL j->j<z.n:=λj m=>Uf.lt j m;have ay:∀j,aS D=eL j->j<z.n:=λj m=>Y.lt j m;refine⟨u,s,D,z,F,az,g2,?_,?_,by rw[<-T,<-n3];exact hE,g4,?_,?_,S,by rw[<-T];exact X,c4,lR,lh,Z,λq G B=>?_,u,D,aM,Uf.ai c8 (λj m U=>(W j m).1 U),Y.ai c8 (λj m U=>(OX j m).1 U),Z _ _ O,λj m=>?_,λj m=>?_⟩
 .rcases OV with⟨rfl|rfl,_⟩|⟨_,_,_,_,_,rfl,_⟩<;>rfl
 .rcases OV with⟨rfl|rfl,_⟩|⟨_,_,_,_,_,rfl,_⟩<;>rfl
 .rcases Y with⟨rfl|rfl,_⟩|⟨_,_,_,_,_,rfl,_⟩<;>rfl
 .rcases Y with⟨rfl|rfl,_⟩|⟨_,_,_,_,_,rfl,_⟩<;>rfl
 .rw[L]at B;simp only at B;split at B
  .exact .inl B
  .rename_i A;split at B
   .rename_i s;exact .inr ⟨by omega,av _ s⟩
   .split at B
    .rename_i H;exact .inr ⟨by omega,ay _ H⟩
    .exact .inl B
 .rcases(W j m).2 with A|A
  .exact Z _ _ (Q j A)
  .rw[L];simp only;rw[gQ (by omega),gr m]
 .rcases(OX j m).2 with A|A
  .exact Z _ _ (M j A)
  .rw[L];simp only;rw[gQ (by omega),gQ (λU=>N j U m),gr m]
theorem kO.OY{M h h':I}{lm cu N O:Nat}{logs:Int->List ed}{tasks:Int->Option lA}{L T:lz}{F s:ho}(w:kO M h lm cu logs tasks L N T O F){k:Int}{b:Nat}{H:List ed}{own:Nat->Prop}
  (an:bR L k=eL b) (z:J h h' own) (C:∀q,own q->∃i,F q=eL (0,k,i)) (G:∀q bs,F q=eL bs->s q=eL bs) (D:∀q bs,s q=eL bs->F q=eL bs\/(h.n<=q/\q<h'.n)) (a:pU h' s b k H) (Q:H≠[]) :
  kO M h' lm cu (λn=>if n=k then H else logs n) tasks L N T O s where
 ai:=w.ai.trans z λq j U=>by
  obtain⟨i,hi⟩:=C q U;have:=(w.bH _ _ hi).1;omega
 bH q bs j:=by
  rcases D q bs j with U|U
  .have:=w.bH q bs U;have:=z.n;omega
  .have:=w.ai.n;omega
 iw:=G _ _ w.iw
 jj:=G _ _ w.jj
 pX:=(z.get lm (w.bH _ _ w.iw).2 (λU=>by obtain⟨i,hi⟩:=C _ U;rw[w.iw]at hi;simp at hi)).trans w.pX
 gt:=(z.get cu (w.bH _ _ w.jj).2 (λU=>by obtain⟨i,hi⟩:=C _ U;rw[w.jj]at hi;simp at hi)).trans w.gt
 ou:=w.ou
 ov:=w.ov
 lU:=w.lU
 lV:=w.lV
 has u c j:=by
  by_cases A:u=k
  .subst A;rw[an]at j;injection j with j;subst j;simp only[jS];exact⟨a,Q⟩
  .simp only[A,iC];exact⟨(w.has u c j).1.on z (λp U i B=>by obtain⟨S,hi⟩:=C _ U;rw[hi]at B;simp at B;exact A B.1.symm) G λq bs U=>(w.bH q bs U).2,(w.has u c j).2⟩
 lB u j:=by
  by_cases A:u=k
  .subst A;rw[an]at j;cases j
  .simp only[A,iC];exact w.lB u j
 lC u c j:=by
  obtain⟨iz,W,X⟩:=w.lC u c j;exact⟨iz,W,X.on z (λp U i B=>by obtain⟨S,hi⟩:=C _ U;rw[hi]at B;simp at B) G λq bs U=>(w.bH q bs U).2⟩
 lD:=w.lD
theorem kO.OZ{Q h h':I}{lm cu C S:Nat}{logs:Int->List ed}{tasks:Int->Option lA}{L T:lz}{N z:ho}(w:kO Q h lm cu logs tasks L C T S N){k:Int}{b:Nat}{rs:List ed}{own:Nat->Prop}
  (an:bR L k=eN) (D:J h h' own) (G:∀q,own q->q=lm\/h.n<=q) (O:h'.get lm=.map (iV (cC C L k b)) (fb C L k)) (H:∀q bs,N q=eL bs->z q=eL bs) (F:∀q bs,z q=eL bs->N q=eL bs\/(h.n<=q/\q<h'.n)) (a:pU h' z b k rs) (W:rs≠[]) :
  kO Q h' lm cu (λn=>if n=k then rs else logs n) tasks (cC C L k b) (fb C L k) T S z where
 ai:=w.ai.trans D λq j U=>by
  have:=(w.bH _ _ w.iw).1;have:=w.ai.n;rcases G q U with s|s<;>omega
 bH q bs j:=by
  rcases F q bs j with U|U
  .have:=w.bH q bs U;have:=D.n;omega
  .have:=w.ai.n;omega
 iw:=H _ _ w.iw
 jj:=H _ _ w.jj
 pX:=O
 gt:=(D.get cu (w.bH _ _ w.jj).2 (λU=>by
  rcases G _ U with s|s
  .have M:=w.iw;rw[<-s,w.jj]at M;simp at M
  .have:=(w.bH _ _ w.jj).2;omega)).trans w.gt
 ou:=dE.cC w.ou k b
 ov:=w.ov
 lU:=w.lU.set C k b
 lV:=w.lV
 has u c j:=by
  rw[y5]at j;by_cases A:u=k
  .subst A;rw[gr rfl]at j;injection j with j;subst j;simp only[jS];exact⟨a,W⟩
  .rw[gQ A]at j;simp only[A,iC];exact⟨(w.has u c j).1.on D (λp U i B=>by
    rcases G _ U with s|s
    .rw[s,w.iw]at B;simp at B
    .have:=(w.bH _ _ B).2;omega) H λq bs U=>(w.bH q bs U).2,(w.has u c j).2⟩
 lB u j:=by
  rw[y5]at j;by_cases A:u=k
  .rw[gr A]at j;cases j
  .rw[gQ A]at j;simp only[A,iC];exact w.lB u j
 lC u c j:=by
  obtain⟨iz,s,M⟩:=w.lC u c j;exact⟨iz,s,M.on D (λp U i B=>by
   rcases G _ U with s|s
   .rw[s,w.iw]at B;simp at B
   .have:=(w.bH _ _ B).2;omega) H λq bs U=>(w.bH q bs U).2⟩
 lD:=w.lD
def jg(logs:Int->List ed)(x:bz):Int->List ed:=λn=>if n=x.log then logs x.log++[(x.r,x.del)]else logs n
theorem O0{aG h:I}{B cu N eC:Nat}{logs:Int->List ed}{tasks:Int->Option lA}{L T:lz}{F:ho}(x:bz)(w:kO aG h B cu logs tasks L N T eC F)(aa:(logs x.log).length<=2^40) :
  au mP 50 [.agg [.map B,.map cu],.agg (bo x)] h (λr h'=>r=.tuple []/\∃kZ A3 C,kO aG h' B cu (jg logs x) tasks kZ A3 T eC C/\(∀q m,F q=eL m->C q=eL m)/\J h h' (λq=>q=B\/∃k i,F q=eL (0,k,i))/\(∀q m,C q=eL m->F q=eL m\/h.n<=q)):=by
 refine a7 Tryz.func50 rfl ?_;obtain⟨np,jh,FC,O1,CI⟩:=bU h (.cells [.map B,.map cu] 74 eN);obtain⟨H,hH,vq,ky,_⟩:=bU np (.cells (bo x) 48 eN);have bl:=FC.trans' vq;have wi:=(vq.get h.n (by omega) (by simp[kR])).trans O1;have hx:H.n=h.n+2:=by rw[hH,dn];omega
 have oJ:=w.on bl;have aw:(kB [.map B,.map cu]).cells=eL [.map B,.map cu]:=rfl;have q2:(kB (bo x)).cells=eL (bo x):=rfl;have fR:=ava L x.log oJ.pX;have d4:cI (aP.cells (bo x) 48 eN) 4=eL ((bo x).drop 4):=rfl;simp only[ae,ds,AT,al,aw,q2];rw[<-jh,<-hH];clear jh hH;cases hk:bR L x.log with
 | some b=>
  rw[hk]at fR;obtain⟨⟨rv,D,g,hr,ec,t0,t1,t2⟩,bO⟩:=oJ.has x.log b hk;obtain⟨u,z,G,M,C,FD,g2,xE,xp,FE,g4,DV,xq,S,W,c4,lR,lh,dZ,A,Hz⟩:=agD (x.r,x.del) aa g hr ec t0 t1 t2 (λq m s=>(oJ.bH q m s).2);have X:∀q,h.n<=q->∀m,F q≠eL m:=λq s m he=>by have:=(w.bH _ _ he).2;omega
  have CJ:=(c4.get np.n (by omega) (λ⟨i,U⟩=>X _ (by omega) _ U)).trans ky;have O2:=agB H x.r;have Y:bD (eL 1) (aP.cells [kA gj x.log,rv,D] 90 eN) 1 [u]=eL (.cells [.int gj x.log,u,D] 90 eN):=by rw[rb xE];rfl
  have Z:bD (eL 1) (aP.cells [kA gj x.log,u,D] 90 eN) 2 [G]=eL (.cells [.int gj x.log,u,G] 90 eN):=by rw[rb DV];rfl
  simp only at FD FE;rw[CI]at ky CJ;have FA:=(c4.get h.n (by omega) (λ⟨i,U⟩=>X _ (by omega) _ U)).trans wi;have YZ:=agC (z.set b (.cells [.int gj x.log,u,D] 90 eN)) x.del;have ai:h.n+1≠b:=λU=>X (h.n+1) (by omega) _ (by rw[U];exact t0);have I1:(z.set b (.cells [.int gj x.log,u,D] 90 eN)).get (h.n+1)=.cells (bo x) 48 none:=((J.set z b _).get (h.n+1) (by have:=c4.n;omega) ai).trans CJ;simp only[ae,ds,AT,By,bo,fR];have f1:bb rv b=False:=eq_false λU=>by have:=t1 b U;rw[t0]at this;simp at this
  have f2:bb rv (h.n+1)=False:=eq_false λU=>X (h.n+1) (by omega) _ (t1 _ U);have f3:bb D b=False:=eq_false λU=>by have:=t2 b U;rw[t0]at this;simp at this
  have f4:bb D (h.n+1)=False:=eq_false λU=>X (h.n+1) (by omega) _ (t2 _ U);have jk:J H (H.push (.cells (ly x.r) 45 eN)) (λq=>bb rv q):=J.push _ _ _;have gm:J (z.set b (.cells [.int gj x.log,u,D] 90 eN)) ((z.set b (.cells [.int gj x.log,u,D] 90 eN)).push (.cells [.bool x.del] 4 eN)) (λq=>bb D q):=J.push _ _ _;refine aT.cL (λq=>bb rv q) [7,8,11] (.q 0 (.q 1 (.q 2 (.q 3 (.q 4 (.q 5 (.q 6 (.e 7 (.e 8 (.q 9 (.q 10 (.a 11 .done))) .stop) .stop)))))))) ?_;simp only[ae,bw,e4,ds,AT,By,al,g,ky,bo,O2,FD,g2,Y,xp,f1,f2,jk,S];refine aT.cL (λq=>bb D q) [7,8,11] (.q 0 (.q 1 (.q 2 (.q 3 (.q 4 (.q 5 (.q 6 (.e 7 (.e 8 (.q 9 (.q 10 (.a 11 .done))) .stop) .stop)))))))) ?_;simp only[ae,bw,e4,ds,AT,By,al,I1,bo,YZ,FE,g4,Z,xq,f3,f4,gm,W,aJ];refine ar ⟨rfl,L,N,C,oJ.OY hk lh (λq U=>U) dZ A Hz (by simp),dZ,(bl.up).trans lh λq s ⟨i,U⟩=>.inr ⟨_,i,U⟩,λq m s=>by
   rcases A q m s with U|U
   .exact .inl U
   .exact .inr (by omega)⟩
 | none=>
  rw[hk]at fR;have Y0:=w.lB x.log hk;have X:∀q,h.n<=q->∀m,F q≠eL m:=λq s m he=>by have:=(w.bH _ _ he).2;omega
  obtain⟨bZ,bN,k2,CK,c6⟩:=bU H (.cells [kA gj x.log,.ah,.ah] 90 eN);have FA:=(k2.get h.n (by omega) (by simp[kR])).trans wi;rw[CI]at ky;have CJ:=(k2.get (h.n+1) (by omega) (by simp[kR])).trans ky;have r9:=YW L x.log H.n (oJ.on k2).pX;obtain⟨O,gW⟩:∃y,y=bZ.set B (.map (iV (cC N L x.log H.n)) (fb N L x.log)):=⟨_,rfl⟩;have Ud:=w.bH _ _ w.iw;have k3:J bZ O (·=B):=by rw[gW];exact J.set _ _ _
  have n3:O.n=bZ.n:=by rw[gW];rfl
  have av:O.get B=.map (iV (cC N L x.log H.n)) (fb N L x.log):=by rw[gW];exact aM
  have I2:=(k3.get H.n (by omega) (by omega)).trans CK;have I1:=(k3.get (h.n+1) (by omega) (by omega)).trans CJ;have CL:=(k3.get h.n (by omega) (by omega)).trans FA;obtain⟨dz,HA⟩:∃f:ho,f=λq=>if q=H.n then eL (0,x.log,0)else F q:=⟨_,rfl⟩
  have Ug:∀q m,F q=eL m->dz q=eL m:=λq m s=>by rw[HA];simp only;rw[gQ (λU=>X q (by omega) m s)];exact s
  have oh:∀q m,dz q=eL m->F q=eL m\/q=H.n:=λq m s=>by
   rw[HA]at s;simp only at s;split at s
   .rename_i U;exact .inr U
   .exact .inl s
  obtain⟨u,z,G,M,C,FD,g2,xE,xp,FE,g4,DV,xq,S,W,c4,lR,lh,dZ,A,Hz⟩:=agD (h:=O) (ow:=dz) (b:=H.n) (k:=x.log) (rs:=[]) (rv:=.ah) (dv:=.ah) (x.r,x.del) (by simp) I2 (Own.ah _ _ _) (Own.ah _ _ _) (by rw[HA];simp) (λj aV=>by simp[aS]at aV) (λj aV=>by simp[aS]at aV) (λq m s=>by
   rcases oh q m s with U|U
   .have:=(w.bH _ _ U).2;omega
   .omega)
  simp only at FD FE;have c8:J z (z.set H.n (.cells [.int gj x.log,u,.ah] 90 eN)) (·=H.n):=J.set _ _ _;have af:J M (M.set H.n (.cells [.int gj x.log,u,G] 90 eN)) (·=H.n):=J.set _ _ _;have Q:∀q,¬bb .ah q:=λq U=>by simp[bb,aS]at U
  have aF:=S.n;have ay:=(c8.get (h.n+1) (by omega) (by omega)).trans ((S.get (h.n+1) (by omega) (Q _)).trans I1);have sX:J H (M.set H.n (.cells [.int gj x.log,u,G] 90 eN)) (λq=>q=B\/H.n<=q) :=
   (((((k2.up).trans k3 λq s U=>.inl U).trans S λq s U=>(Q _ U).elim).trans c8 λq s U=>.inr (by omega)).trans W λq s U=>(Q _ U).elim).trans af λq s U=>.inr (by omega)
  have aA:(M.set H.n (.cells [.int gj x.log,u,G] 90 eN)).get B=.map (iV (cC N L x.log H.n)) (fb N L x.log) :=
   (af.get B (by have:=W.n;have:(z.set H.n (.cells [.int gj x.log,u,.ah] 90 eN)).n=z.n:=rfl;omega) (by omega)).trans ((W.get B (by have:(z.set H.n (.cells [.int gj x.log,u,.ah] 90 eN)).n=z.n:=rfl;omega) (Q _)).trans ((c8.get B (by omega) (by omega)).trans ((S.get B (by omega) (Q _)).trans av)))
  have O2:=agB O x.r;have YZ:=agC (z.set H.n (.cells [.int gj x.log,u,.ah] 90 eN)) x.del;have Y:bD (eL 1) (aP.cells [kA gj x.log,.ah,.ah] 90 eN) 1 [u]=eL (.cells [.int gj x.log,u,.ah] 90 eN):=by rw[rb xE];rfl
  have Z:bD (eL 1) (aP.cells [kA gj x.log,u,.ah] 90 eN) 2 [G]=eL (.cells [.int gj x.log,u,G] 90 eN):=by rw[rb DV];rfl
  have f1:∀q,bb .ah q=False:=λq=>eq_false (Q q);have jk:J O (O.push (.cells (ly x.r) 45 eN)) (λq=>bb .ah q):=J.push _ _ _;have gm:J (z.set H.n (.cells [.int gj x.log,u,.ah] 90 eN)) ((z.set H.n (.cells [.int gj x.log,u,.ah] 90 eN)).push (.cells [.bool x.del] 4 eN)) (λq=>bb .ah q):=J.push _ _ _;simp only[ae,ds,AT,By,al,ky,bo,fR];rw[<-bN];clear bN;simp only[ae,ds,AT,By,al,FA,CJ,bo,r9];rw[<-gW];clear gW;have aB:J O z kR:=S.mono λq U=>(Q _ U).elim;have aC:J (z.set H.n (.cells [.int gj x.log,u,.ah] 90 eN)) M kR:=W.mono λq U=>(Q _ U).elim;refine aT.cL kR [7,8,11] (.q 0 (.q 1 (.q 2 (.q 3 (.q 4 (.q 5 (.q 6 (.e 7 (.e 8 (.q 9 (.q 10 (.a 11 .done))) .stop) .stop)))))))) ?_;simp only[ae,bw,ds,AT,By,al,I2,I1,bo,O2,FD,g2,Y,xp];refine⟨aB,?_⟩;refine aT.cL kR [7,8,11] (.q 0 (.q 1 (.q 2 (.q 3 (.q 4 (.q 5 (.q 6 (.e 7 (.e 8 (.q 9 (.q 10 (.a 11 .done))) .stop) .stop)))))))) ?_;simp only[ae,bw,ds,AT,By,al,ay,bo,YZ,FE,g4,Z,xq,aJ];refine⟨aC,?_⟩;have aD:=oJ.OZ (rs:=logs x.log++[(x.r,x.del)]) hk sX (λq U=>U) aA (λq m s=>dZ _ _ (Ug _ _ s)) (λq m s=>by
   rcases A q m s with U|U
   .rcases oh q m U with h1|h1
    .exact .inl h1
    .have:=sX.n;have:=W.n;have:(M.set H.n (.cells [.int gj x.log,u,G] 90 eN)).n=M.n:=rfl;have:(z.set H.n (.cells [.int gj x.log,u,.ah] 90 eN)).n=z.n:=rfl;exact .inr ⟨by omega,by omega⟩
   .have:(M.set H.n (.cells [.int gj x.log,u,G] 90 eN)).n=M.n:=rfl;exact .inr ⟨by omega,by omega⟩) (by rw[Y0];exact Hz) (by simp)
  exact ar ⟨rfl,_,_,C,aD,λq m s=>dZ _ _ (Ug _ _ s),(bl.up).trans sX λq s U=>by
   rcases U with U|U
   .exact .inl U
   .omega,λq m s=>by
   rcases A q m s with U|U
   .rcases oh q m U with h1|h1
    .exact .inl h1
    .exact .inr (by omega)
   .exact .inr (by omega)⟩
def rJ(l:List (bz×Nat)):List V:=l.flatMap hT
theorem Y1{h:I}{s:V}{l:List (bz×Nat)}(o:Own h 186 12 s (rJ l))(H:l.length<=2^30)(p:bz×Nat) :
  ∃a h',kd mP 123 123 s (.bh h.n 0 1 1) (h.push (.cells (hT p) 186 eN))=eL (a,h')/\Own h' 186 12 a (rJ (l++[p]))/\J h h' (bb s)/\b6 h s a:=by
 have j:J h (h.push (.cells (hT p) 186 eN)) kR:=J.push _ _ _;have z:Own (h.push (.cells (hT p) 186 eN)) 186 12 (.bh h.n 0 1 1) (hT p):=Own.fz (hT p) 1 rfl (by decide);have A:=uc (P:=mP) (t:=123) Ml z (n:=1) rfl (by decide) rfl;obtain⟨a,h',B,C,D,i⟩:=be (P:=mP) (t:=123) (tx:=123) ab8 (by decide) (o.aY j) A rfl (λm u=>by
  change m*12=_ at u;have:(rJ l).length=l.length*12:=ft (enc:=hT) (sz:=12) OT l;have M:m*12=l.length*12+12:=by rw[this]at u;exact u
  have F:m=l.length+1:=by omega
  subst F;refine⟨?_,?_⟩
  .exact UN (Nat.mul_le_mul_left (l.length+1) (show _<=1024 by decide)) (by simp only[lim];omega)
  .simp only[lim];omega)
 refine⟨a,h',B,?_,(j.up).trans' D,?_⟩
 .unfold rJ;rw[ay3];simpa [rJ]using C
 .rcases i with i|i
  .exact .inl i
  .exact .inr λq G=>UN j.n (i q G)
theorem ave(h:I)(x:bz)(a:Nat):am mP 123 1 [(0,.agg (hT (x,a)))] h=eL (.bh h.n 0 1 1,h.push (.cells (hT (x,a)) 186 eN)):=by rw[nm ab8];rfl
theorem avf{h:I}{A:ho}{b:Nat}{t:Int}{j:lA}(x:bz)(F:Nat)(Z:j.opn.length<=2^30){G B C:V}(g:h.get b=.cells [.int gj t,.int gj j.ep,.int gj j.tx,G,B,.int gj 0,C] 125 eN)(aA:OU G j.offs)(hr:Own h 3 1 B (ax j.ord))(ec:Own h 186 12 C (rJ j.opn))
  (L:A b=eL (1,t,0)) (T:∀q,aS B=eL q->A q=eL (1,t,1)) (N:∀q,aS C=eL q->A q=eL (1,t,2)) (D:∀q u,A q=eL u->q<h.n) :
  ∃z m s,kd mP 123 123 C (.bh h.n 0 1 1) (h.push (.cells (hT (x,F)) 186 eN))=eL (z,m)/\m.get b=.cells [.int gj t,.int gj j.ep,.int gj j.tx,G,B,.int gj 0,C] 125 eN/\z.one=e6/\z.cells=eL [z]/\J h m (λq=>bb C q) /\
   J h (m.set b (.cells [.int gj t,.int gj j.ep,.int gj j.tx,G,B,.int gj 0,z] 125 eN)) (λq=>∃i,A q=eL (1,t,i))/\(∀q u,A q=eL u->s q=eL u)/\(∀q u,s q=eL u->A q=eL u\/(h.n<=q/\q<m.n)) /\
   n0 (m.set b (.cells [.int gj t,.int gj j.ep,.int gj j.tx,G,B,.int gj 0,z] 125 eN)) s b t { j with opn:=j.opn++[(x,F)] }:=by
 obtain⟨z,m,az,O,M,OW⟩:=Y1 ec Z (x,F);have wB:=D _ _ L;have X:¬bb C b:=λU=>by have:=N b U;rw[L]at this;simp at this
 have uL:∀q,aS B=eL q->q≠b:=λq a U=>by have:=T q a;rw[U,L]at this;simp at this
 have g2:=(M.get b wB X).trans g;have c6:=M.n;have O3:=hr.ai M λq a U=>by have Q:=T q a;have m:=N q U;rw[Q]at m;simp at m
 have W:J m (m.set b (.cells [.int gj t,.int gj j.ep,.int gj j.tx,G,B,.int gj 0,z] 125 eN)) (·=b):=J.set _ _ _;have Y:∀q,aS z=eL q->q≠b/\(aS C=eL q\/h.n<=q):=λq a=>by
  rcases OW with e|e
  .exact⟨λU=>X (by rw[<-U,bb,<-e];exact a),.inl (by rw[<-e];exact a)⟩
  .have:=e q a;exact⟨by omega,.inr this⟩
 obtain⟨s,H⟩:∃f:ho,f=λq=>if q<h.n then A q else if aS z=eL q then eL (1,t,2)else A q:=⟨_,rfl⟩
 have S:∀q u,A q=eL u->s q=eL u:=λq u a=>by rw[H];simp only;rw[gr (D _ _ a)];exact a
 refine⟨z,m,s,az,g2,?_,?_,M,(M.mono (o':=λq=>∃i,A q=eL (1,t,i)) λq a=>⟨2,N q a⟩).trans W λq a U=>⟨0,by rw[U];exact L⟩,S,λq u a=>?_,G,B,z,aM,aA,O3.ai W uL,O.ai W (λq a U=>(Y q a).1 U),S _ _ L,λq a=>S _ _ (T q a),λq a=>?_⟩
 .rcases O with⟨rfl|rfl,_⟩|⟨_,_,_,_,_,rfl,_⟩<;>rfl
 .rcases O with⟨rfl|rfl,_⟩|⟨_,_,_,_,_,rfl,_⟩<;>rfl
 .rw[H]at a;simp only at a;split at a
  .exact .inl a
  .split at a
   .rename_i m;exact .inr ⟨by omega,O.lt _ m⟩
   .exact .inl a
 .rcases(Y q a).2 with Q|Q
  .exact S _ _ (N q Q)
  .rw[H];simp only;rw[gQ (by omega),gr a]
def n2(logs:Int->List ed)(l:List (bz×Nat)):Int->List ed:=l.foldl (λg p=>jg g p.1) logs
def qu(logs:Int->List ed)(j:lA)(x:bz):Int->List ed:=if x.cN≠j.ep\/x.gG≠j.tx then logs else if x.kind=3 then n2 logs j.opn else logs
def mN(j:lA)(x:bz)(a:Nat):lA :=
 if x.cN≠j.ep\/x.gG≠j.tx then j
 else if x.kind=2 then { j with opn:=j.opn++[(x,a)] }
 else if x.kind=3 then⟨j.ep,j.tx+1,x.offs,j.ord++x.order,[]⟩
 else { j with tx:=j.tx+1,opn:=[] }
theorem avg{aG h:I}{B D M eC:Nat}{logs:Int->List ed}{tasks:Int->Option lA}{L T:lz}{C:ho}(x:bz)(m:Nat)(w:kO aG h B D logs tasks L M T eC C){t:Int}{b:Nat}{j:lA}(an:bR T t=eL b)(aV:tasks t=eL j)(cy:j.opn.length<=2^30)(xt:-2^62<=j.tx/\j.tx<2^62)(hk:2<=x.kind/\x.kind<=4)(Y2:x.kind=3->x.cN≠j.ep\/x.gG≠j.tx) :
  au mP 53 [.agg [.map B,.map D],.ptr b 0,.agg (bo x),.int gj (m:Nat)] h (λr h'=>r=.tuple []/\∃kZ A3 z,kO aG h' B D (qu logs j x) (λn=>if n=t then eL (mN j x m)else tasks n) kZ A3 T eC z/\J h h' (λq=>q=B\/∃s,C q=eL s)/\(∀q s,z q=eL s->C q=eL s\/h.n<=q)):=by
 refine a7 aEW rfl ?_;obtain⟨np,jh,FC,_,CI⟩:=bU h (.cells [.map B,.map D] 74 eN);obtain⟨H,hH,vq,_,_⟩:=bU np (.cells (bo x) 48 eN);have N:=FC.trans' vq;have O:H.get (h.n+1)=.cells (bo x) 48 none:=by rw[<-CI,hH];exact ac
 have hx:H.n=h.n+2:=by rw[hH,dn];omega
 have F:=w.on N;have aw:(kB [.map B,.map D]).cells=eL [.map B,.map D]:=rfl;have q2:(kB (bo x)).cells=eL (bo x):=rfl;obtain⟨iz,Z,nB,jr,Q,g,aA,hr,ec,G,t1,t2⟩:=F.lC t b an;rw[aV]at Z;injection Z with Z;subst Z;simp only[ae,ds,aw,q2];rw[<-jh,<-hH];clear jh hH;refine aT.cL kR [] (.q 0 (.q 1 (.q 2 (.q 3 (.q 4 (.q 5 (.q 6 (.q 7 (.q 8 (.q 9 (.q 10 (.q 11 (.q 12 (.q 13 (.q 14 (.q 15 (.q 16 (.q 17 .done)))))))))))))))))) ?_;by_cases he:x.cN=j.ep;rotate_left
 .have S:(x.cN !=j.ep)=true:=by simpa using he
  have az:qu logs j x=logs:=by unfold qu;rw[gr (.inl he)]
  have bd:mN j x m=j:=by unfold mN;rw[gr (.inl he)]
  have c2:(λn=>if n=t then eL j else tasks n)=tasks:=by funext n;split;rename_i U;rw[U,aV];rfl
  simp only[ae,bw,ds,AT,By,al,O,g,bo,S,aJ];exact ar ⟨rfl,L,M,C,by rw[az,bd,c2];exact F,N.up,λ_ _ U=>.inl U⟩
 have S:(x.cN !=j.ep)=false:=by simpa using he
 by_cases af:x.gG=j.tx;rotate_left
 .have bt:(x.gG !=j.tx)=true:=by simpa using af
  have az:qu logs j x=logs:=by unfold qu;rw[gr (.inr af)]
  have bd:mN j x m=j:=by unfold mN;rw[gr (.inr af)]
  have c2:(λn=>if n=t then eL j else tasks n)=tasks:=by funext n;split;rename_i U;rw[U,aV];rfl
  simp only[ae,bw,ds,AT,By,al,O,g,bo,S,bt,aJ];exact ar ⟨rfl,L,M,C,by rw[az,bd,c2];exact F,N.up,λ_ _ U=>.inl U⟩
 have bt:(x.gG !=j.tx)=false:=by simpa using af
 have W:¬(x.cN≠j.ep\/x.gG≠j.tx):=by omega
 have mY:x.kind≠3:=λU=>W (Y2 U);by_cases X:x.kind=2
 .have c3:(x.kind==2)=true:=by simpa using X
  have az:qu logs j x=logs:=by unfold qu;rw[gQ W,gQ mY]
  have bd:mN j x m={ j with opn:=j.opn++[(x,m)] }:=by unfold mN;rw[gQ W,gr X]
  obtain⟨qt,X,z,dr,g2,one,Y,xr,xd,dZ,A,QR⟩:=avf x m cy g aA hr ec G t1 t2 (λq s u=>(F.bH q s u).2);have kS:∀q,h.n<=q->∀s,C q≠eL s:=λq u s U=>by have:=(w.bH _ _ U).2;omega
  have f1:bb Q b=False:=eq_false λU=>by have:=t2 b U;rw[G]at this;simp at this
  have f2:bb Q (h.n+1)=False:=eq_false λU=>kS (h.n+1) (by omega) _ (t2 _ U);have Y3:am mP 123 1 [(0,.agg [.int gj x.kind,.int gj x.task,.int gj x.cN,.int gj x.gG,.int gj x.log,.int gj x.r.k,.int gj x.r.v,.int gj x.r.t,.bool x.del,.ag x.offs.length (ax x.offs),.ag x.order.length (ax x.order),.int gj (m:Nat)])] H=eL (.bh H.n 0 1 1,H.push (.cells (hT (x,m)) 186 eN)):=ave H x m;have st:bD (eL 1) (aP.cells [kA gj t,.int gj j.ep,.int gj j.tx,nB,jr,.int gj 0,Q] 125 eN) 6 [qt]=eL (.cells [.int gj t,.int gj j.ep,.int gj j.tx,nB,jr,.int gj 0,qt] 125 eN):=by rw[rb one];rfl
  have bT:J H (H.push (.cells (hT (x,m)) 186 eN)) (λq=>bb Q q):=J.push _ _ _;simp only[ae,bw,ds,AT,By,al,O,g,bo,S,bt,c3];refine aT.cL (λq=>bb Q q) [8,9,12] (.q 0 (.q 1 (.q 2 (.q 3 (.q 4 (.q 5 (.q 6 (.q 7 (.e 8 (.e 9 (.q 10 (.q 11 (.a 12 .done))) .stop) .stop))))))))) ?_;simp only[ae,bw,e4,ds,AT,By,al,O,g,bo,Y3,dr,g2,st,Y,f1,f2,bT,xr,aJ];exact ar ⟨rfl,L,M,z,by rw[az,bd];exact F.xm an xd (λq U=>U) dZ A QR,(N.up).trans xd λq u ⟨i,U⟩=>.inr ⟨_,U⟩,λq s u=>(A q s u).imp id λU=>by omega⟩
 .have c3:(x.kind==2)=false:=by simpa using X
  have eb:(x.kind==3)=false:=by simpa using mY
  have az:qu logs j x=logs:=by unfold qu;rw[gQ W,gQ mY]
  have bd:mN j x m={ j with tx:=j.tx+1,opn:=[] }:=by unfold mN;rw[gQ W,gQ X,gQ mY]
  have cH:aPh.i64.wrap (j.tx+1)=j.tx+1:=kp _ (by omega);simp only[ae,bw,ds,AT,By,al,O,g,bo,S,bt,c3,eb,cH,aJ];have c8:∀o,J H (H.set b o) (·=b):=λo=>J.set _ _ _;have uL:∀q,aS jr=eL q->q≠b:=λq u U=>by have:=t1 q u;rw[U,G]at this;simp at this
  exact ar ⟨rfl,L,M,C,by rw[az,bd];exact F.xm an (c8 _) (λq U=>⟨0,by rw[U];exact G⟩) (λ_ _ U=>U) (λ_ _ U=>.inl U) ⟨nB,jr,.ah,aM,aA,hr.ai (c8 _) uL,Own.ah _ _ _,G,t1,λq u=>by simp[aS]at u⟩,(N.up).trans (c8 _) λq u U=>.inr ⟨(1,t,0),U▸G⟩,λ_ _ U=>.inl U⟩
open Go Go.Proofs Go.Proofs.YtemdgidnhgcafaaGreatDoor.Ab
theorem Y4(h:I):am mP 46 0 [] h=eL (.bh h.n 0 0 0,h.push (.cells [] 3 eN)):=by rw[nm pR];rfl
theorem Y5(h:I):Acc h (h.push (.cells [] 3 eN)) 3 1 (.bh h.n 0 0 0) (ax []) :=
 ⟨.inr ⟨h.n,0,0,[],eN,rfl,azK _,ac,rfl,rfl,.inl ⟨by simp[b9],BY _,BY _⟩⟩,J.push _ _ _,λk a=>by simp[aS]at a;omega⟩
theorem Y6(l:List Int)(C:l.length<=2^40)(h:I):Pure mP 38 [.ag l.length (ax l)] h (.ag l.length (ax l)):=by
 refine Pure.of (bf.ag (y1 _)) ?_;cases l with
 | nil=>
  refine au.vK ?_ ?_
  .refine a7 aCI rfl ?_;have e:=L8 (xo:=.tmp 3) (yo:=.const (.slice eN 0 0)) hI;simp only[ae,ds,reduceCtorEq,e,aJ];exact ar ⟨h,aK.lI h,J.refl _ _⟩
  .refine a7 aCI rfl ?_;have e:∀a i,cB mP .eql 46 a i .fX .ah=eL (.bool fr):=λa i=>V1 hI;obtain⟨D,F,az,s⟩:=Acc.sD (P:=mP) (tx:=46) pR (Y5 h) (by decide) (V3 hI) rfl (λm j=>by
    change m*1=_ at j;simp[ax]at j;subst j;exact⟨by decide,by decide⟩)
   have u:=Y4 h;simp only[ae,ds,reduceCtorEq,e,u,az,aJ];obtain⟨z,A,B⟩:=s.cast (n:=0) rfl (by decide);exact ar ⟨z,A,B⟩
 | cons x l=>
  refine a7 aCI rfl ?_;have e:∀a i,cB mP .eql 46 a i (.ag (x::l).length (ax (x::l))) .ah=eL (.bool fr):=λa i=>V2 hI (by simp);obtain⟨D,F,az,s⟩:=Acc.sD (P:=mP) (tx:=46) pR (Y5 h) (by decide) (JQ hI (by rw[ht,axD]) (Ly (x::l))) (by rw[ht];exact(axD _).symm) (λm j=>by
   change m*1=(ax []).length+(ax (x::l)).length at j;rw[ht,ht,ayx]at j;exact⟨by simp only[lim];omega,by simp only[lim];omega⟩)
  have u:=Y4 h;generalize(x::l)=q at e az s C⊢;simp only[ae,ds,reduceCtorEq,e,u,az,aJ];obtain⟨z,A,B⟩:=s.cast (n:=q.length) (by rw[show ax []=[]from rfl,aze,ht,axD]) (by decide);exact ar ⟨z,A,B⟩
theorem Y7{h:I}{e t:aPg}{v:V}{α:Type}{enc:α->List V}{sz:Nat}{l:List α}(z:∀a,(enc a).length=sz)(A:0<sz)(C:dU mP t=eL sz)(o:Own h e sz v (l.flatMap enc)){k:Nat}(D:k<l.length){kk:aPh} :
  ∃i q,hC mP t v (.int kk (k:Int))=eL (.ptr i (0+k*sz))/\aS v=eL i/\cI (h.get i) (0+k*sz)=eL (enc l[k]++q):=by
 have m:(l.flatMap enc).length=l.length*sz:=ft z l;rcases o with⟨_,aw⟩|⟨i,j,cap,c,H,rfl,hi,F,s,G,L⟩
 .rw[aw]at m;have:0<l.length*sz:=Nat.mul_pos (by omega) A;simp at m;omega
 .have hll:l.length=j:=aAf A (by rw[<-m,s]);have B:c=l.flatMap enc++c.drop (j*sz):=by rw[<-G,List.take_append_drop]
  have u:k*sz<=l.length*sz:=ay6 _ (by omega);have M:l.length*sz<=c.length:=by rw[B,D9,m];omega
  refine⟨i,(l.drop (k+1)).flatMap enc++c.drop (j*sz),?_,rfl,?_⟩
  .rw[Es,C,Vi,gr ⟨by omega,by omega⟩,ayw]
  .rw[F,i9,gr (by omega),ayB]
   conv=>lhs;rw[B]
   rw[List.drop_append_of_le_length (by rw[m];exact u),xR z,ay0 D,ayW,axC]
theorem avh(logs:Int->List ed)(l:List (bz×Nat))(p:bz×Nat):n2 logs (l++[p])=jg (n2 logs l) p.1:=by unfold n2;rw[aAA];rfl
theorem Sd(n:Int):∀(l:List (bz×Nat)) (logs:Int->List ed) (N:Nat),(logs n).length<=N->(n2 logs l n).length<=N+l.length
 | [],logs,N,h=>h
 | p::l,logs,N,h=>by
  have a:(jg logs p.1 n).length<=N+1:=by
   unfold jg;split
   .rename_i U;subst U;simp;omega
   .omega
  have:=Sd n l (jg logs p.1) (N+1) a;show(n2 (jg logs p.1) l n).length<=_;rw[axF];omega
theorem Y8{h:I}{s:V}{l:List Int}(o:Own h 3 1 s (ax l))(r:List Int)(A:l.length<=2^40)(B:r.length<=2^40) :
  ∃a h',kd mP 46 46 s (.ag r.length (ax r)) h=eL (a,h')/\Own h' 3 1 a (ax (l++r))/\J h h' (bb s)/\b6 h s a:=by
 obtain⟨a,h',j,q,u,z⟩:=be (P:=mP) (t:=46) (tx:=46) pR (by decide) o (JQ hI (by rw[ht,axD]) (Ly r)) (by rw[ht];exact(axD _).symm) (λm i=>by
  change m*1=_ at i;rw[ht,ht]at i;exact⟨by simp only[lim];omega,by simp only[lim];omega⟩)
 exact⟨a,h',j,by rw[VA];exact q,u,z⟩
theorem avi{aG h:I}{F W lc eC:Nat}{logs:Int->List ed}{tasks:Int->Option lA}{L T:lz}{N:ho}(x:bz)(Z:Nat)(w:kO aG h F W logs tasks L lc T eC N){t:Int}{b:Nat}{j:lA}(an:bR T t=eL b)(aV:tasks t=eL j)(cy:j.opn.length<=2^30)(A5:∀n,(logs n).length<=2^30)(xt:-2^62<=j.tx/\j.tx<2^62)(mY:x.kind=3)(bm:x.offs.length<=8)(k4:x.order.length<=2^30)(vI:j.ord.length<=2^40)(he:x.cN=j.ep)(af:x.gG=j.tx) :
  au mP 53 [.agg [.map F,.map W],.ptr b 0,.agg (bo x),.int gj (Z:Nat)] h (λr h'=>r=.tuple []/\∃kZ A3 B,kO aG h' F W (qu logs j x) (λn=>if n=t then eL (mN j x Z)else tasks n) kZ A3 T eC B/\J h h' (λq=>q=F\/∃s,N q=eL s)/\(∀q s,B q=eL s->N q=eL s\/h.n<=q)):=by
 refine a7 aEW rfl ?_;obtain⟨np,jh,FC,O1,CI⟩:=bU h (.cells [.map F,.map W] 74 eN);obtain⟨H,hH,vq,_,_⟩:=bU np (.cells (bo x) 48 eN);have bl:=FC.trans' vq;have ky:H.get (h.n+1)=.cells (bo x) 48 none:=by rw[<-CI,hH];exact ac
 have wi:=(vq.get h.n (by omega) (by simp[kR])).trans O1;have hx:H.n=h.n+2:=by rw[hH,dn];omega
 have oJ:=w.on bl;have aw:(kB [.map F,.map W]).cells=eL [.map F,.map W]:=rfl;have q2:(kB (bo x)).cells=eL (bo x):=rfl;obtain⟨iz,z,nB,C,G,g,aA,hr,ec,t0,t1,t2⟩:=oJ.lC t b an;rw[aV]at z;injection z with z;subst z;have ba:(x.cN !=j.ep)=false:=by simpa using he
 have bt:(x.gG !=j.tx)=false:=by simpa using af
 have c3:(x.kind==2)=false:=by rw[mY];rfl
 have eb:(x.kind==3)=true:=by rw[mY];rfl
 have aH:dX mP 123 G H=eL (.int gj (j.opn.length:Nat)):=by
  have bP:(j.opn.flatMap hT).length=j.opn.length*12:=ft OT _;rcases ec with⟨rfl|rfl,fU⟩|⟨i0,aI,cap,mC,ex,rfl,_,_,uU,_,_⟩
  .rw[fU]at bP;have:j.opn.length=0:=by simp at bP;omega
   rw[this];exact yY Ml
  .rw[fU]at bP;have:j.opn.length=0:=by simp at bP;omega
   rw[this];exact zN Ml
  .rw[bP]at uU;obtain rfl:aI=j.opn.length:=by omega
   exact zM Ml
 have kS:∀q,h.n<=q->∀s,N q≠eL s:=λq m s U=>by have:=(w.bH _ _ U).2;omega
 simp only[ae,ds,aw,q2];rw[<-jh,<-hH];clear jh hH;refine aT.cL kR [] (.q 0 (.q 1 (.q 2 (.q 3 (.q 4 (.q 5 (.q 6 (.q 7 (.q 8 (.q 9 (.q 10 (.q 11 (.q 12 (.q 13 (.q 14 (.q 15 (.q 16 (.q 17 .done)))))))))))))))))) ?_;simp only[ae,bw,ds,AT,By,al,ky,g,bo,ba,bt,c3,eb,aH];refine aT.bG (α:=Nat×(lz×Nat×ho)) (λy f h'=>f 1=.ptr b 0/\f 4=.ptr h.n 0/\f 6=.ptr (h.n+1) 0/\f 49=G/\f 50=.int gj (j.opn.length:Nat)/\f 51=.int gj (y.1:Nat)/\y.1<=j.opn.length /\
   kO aG h' F W (n2 logs (j.opn.take y.1)) tasks y.2.1 y.2.2.1 T eC y.2.2.2/\(∀q s,N q=eL s->y.2.2.2 q=eL s)/\(∀q s,y.2.2.2 q=eL s->N q=eL s\/H.n<=q) /\
   Own h' 186 12 G (j.opn.flatMap hT)/\Own h' 3 1 C (ax j.ord)/\h'.get b=.cells [.int gj t,.int gj j.ep,.int gj j.tx,nB,C,.int gj 0,G] 125 eN/\h'.get h.n=.cells [.map F,.map W] 74 eN/\h'.get (h.n+1)=.cells (bo x) 48 eN/\H.n<=h'.n/\J H h' (λq=>q=F\/∃s,N q=eL s))
   (λy=>j.opn.length-y.1) (0,L,lc,N)
  ⟨rfl,rfl,rfl,rfl,rfl,rfl,D8 _,oJ,λ_ _ U=>U,λ_ _ U=>.inl U,ec,hr,g,wi,ky,BY _,J.refl _ _⟩ ?_
 rintro⟨i,aO,aQ,O⟩ f z ⟨f1,f4,f6,aB,aa,Q,hi,cH,kl,ye,op,hQ,sw,gs,ge,wK,Uh⟩
 simp only at Q hi cH kl ye;refine wpS ?_;by_cases aC:i<j.opn.length
 .have d1:=dK i j.opn.length;have l8:=iM i;obtain⟨O4,Y9,k1,_,xu⟩:=Y7 (kk:=.i64) OT (by decide) Wi op aC;rw[Es,Wi]at k1;rw[ayB]at k1 xu;have k1:p3 (eL 12) eN G (i:Int)=eL (.ptr O4 (i*12)):=k1;have fx:j.opn.take (i+1)=j.opn.take i++[j.opn[i]]:=ayY aC;generalize j.opn[i]=P at *;obtain⟨D,A⟩:=P;have iO:cw (eL (eL 12)) (eL (hT (D,A)++Y9))=eL (.agg (hT (D,A))):=j1 (OT _);have aU:(kB (hT (D,A))).cells=eL (hT (D,A)):=rfl;have aX:bD (eL 12) (aP.cells [kA gj 0,.int gj 0,.int gj 0,.int gj 0,.int gj 0,.int gj 0,.int gj 0,.int gj 0,.bool fr,.ah,.ah,.int gj 0] 186 eN) 0 (hT (D,A))=eL (.cells (hT (D,A)) 186 eN):=rfl;obtain⟨bZ,bN,k2,vY,c6⟩:=bU z (.cells (hT (D,A)) 186 eN);have aY:cI (aP.cells (hT (D,A)) 186 eN) 0=eL (bo D++[.int gj (A:Nat)]):=rfl;have Y3:cw (eL (eL 11)) (eL (bo D++[kA gj (A:Nat)]))=eL (.agg (bo D)):=j1 (sZ D);have xf:=(k2.get h.n (by omega) (by simp[kR])).trans gs;have HB:(n2 logs (j.opn.take i) D.log).length<=2^40:=by
   have z:=Sd D.log (j.opn.take i) logs (2^30) (A5 _);rw[ajB]at z;omega
  simp only[ae,ds,al,Wi,f4,aB,aa,Q,d1,k1,xu,iO,aU,aX];rw[<-bN];clear bN;simp only[ae,ds,AT,al,xf,vY,aY,Y3];refine cp (O0 D (cH.on k2) HB) λr aD ⟨jc,O5,FG,h6,jn,OL,X,rQ⟩=>?_;subst jc;have av:∀q,(q=F\/∃k i,O q=eL (0,k,i))->∀u i,N q≠eL (1,u,i):=λq m u i U=>by
   rcases m with m|⟨k,i2,m⟩
   .rw[m,w.iw]at U;simp at U
   .rw[kl _ _ U]at m;simp at m
  have CM:=(k2.up).trans' X;have bn:=X.n;have M:∀q,h.n<=q->q<H.n->¬(q=F\/∃k i,O q=eL (0,k,i)):=λq z ad m=>by
   rcases m with m|⟨k,i2,m⟩
   .have:=(w.bH _ _ w.iw).2;omega
   .rcases ye q _ m with U|U
    .exact kS q z _ U
    .omega
  have bp:=(oJ.bH _ _ t0).2;simp only[ae,ds,Q,l8];exact ar ⟨(i+1,O5,FG,h6),⟨f1,f4,f6,aB,aa,rfl,aC,by simp only[fx,avh];exact jn,λq s m=>OL _ _ (kl _ _ m),λq s m=>by
   rcases rQ q s m with U|U
   .exact ye q s U
   .exact .inr (by omega),op.ai CM (λq m U=>av q U _ _ (t2 q m)),hQ.ai CM (λq m U=>av q U _ _ (t1 q m)),(CM.get b (by omega) (λU=>av b U _ _ t0)).trans sw,(CM.get h.n (by omega) (M _ (by omega) (by omega))).trans gs,(CM.get (h.n+1) (by omega) (M _ (by omega) (by omega))).trans ge,by omega,Uh.trans CM λq m U=>by
   rcases U with U|⟨k,i2,U⟩
   .exact .inl U
   .rcases ye q _ U with U|U
    .exact .inr ⟨_,U⟩
    .omega⟩,by simp only;omega⟩
 .obtain rfl:i=j.opn.length:=by omega
  have d1:decide ((j.opn.length:Int)<(j.opn.length:Int))=false:=hK (by omega);rw[azB]at cH;have I4:=kl _ _ t0;have Ui:∀q,aS C=eL q->O q=eL (1,t,1):=λq m=>kl _ _ (t1 q m);have wB:=(cH.bH _ _ I4).2;have I5:¬bb C b:=λU=>by have:=t1 b U;rw[t0]at this;simp at this
  have Uj:¬bb C (h.n+1):=λU=>kS (h.n+1) (by omega) _ (t1 _ U);have KT:h.n+1≠b:=λU=>kS (h.n+1) (by omega) _ (by rw[U];exact t0);obtain⟨ad,fV⟩:∃y,y=z.set b (.cells [.int gj t,.int gj j.ep,.int gj j.tx,.ag x.offs.length (ax x.offs),C,.int gj 0,G] 125 eN):=⟨_,rfl⟩;have k2:J z ad (·=b):=by rw[fV];exact J.set _ _ _
  have c6:ad.n=z.n:=by rw[fV];rfl
  have CK:ad.get b=.cells [.int gj t,.int gj j.ep,.int gj j.tx,.ag x.offs.length (ax x.offs),C,.int gj 0,G] 125 none:=by rw[fV];exact aM
  have Uk:=(k2.get (h.n+1) (by omega) KT).trans ge;have O3:=hQ.ai k2 λq m U=>I5 (by rw[<-U];exact m);obtain⟨S,aD,dr,I6,X,DC⟩:=Y8 O3 x.order vI (by omega);have n3:=X.n;have I2:=(X.get b (by omega) I5).trans CK;have Ul:=(X.get (h.n+1) (by omega) Uj).trans Uk;have one:S.one=true:=by rcases I6 with⟨rfl|rfl,_⟩|⟨_,_,_,_,_,rfl,_⟩<;>rfl
  have aF:S.cells=eL [S]:=by rcases I6 with⟨rfl|rfl,_⟩|⟨_,_,_,_,_,rfl,_⟩<;>rfl
  have O6:bD (eL 1) (aP.cells [kA gj t,.int gj j.ep,.int gj j.tx,nB,C,.int gj 0,G] 125 eN) 3 [.ag x.offs.length (ax x.offs)]=eL (.cells [.int gj t,.int gj j.ep,.int gj j.tx,.ag x.offs.length (ax x.offs),C,.int gj 0,G] 125 eN):=rfl;have Fq:bD (eL 1) (aP.cells [kA gj t,.int gj j.ep,.int gj j.tx,.ag x.offs.length (ax x.offs),C,.int gj 0,G] 125 eN) 4 [S]=eL (.cells [.int gj t,.int gj j.ep,.int gj j.tx,.ag x.offs.length (ax x.offs),S,.int gj 0,G] 125 eN):=by rw[rb one];rfl
  have aZ:bb C b=False:=eq_false I5;have a1:bb C (h.n+1)=False:=eq_false Uj;have a6:aPh.i64.wrap (j.tx+1)=j.tx+1:=kp _ (by omega);have d9:cI (aP.cells (bo x) 48 eN) 9=eL [.ag x.offs.length (ax x.offs),.ag x.order.length (ax x.order)]:=rfl;have bg:cI (aP.cells (bo x) 48 eN) 10=eL [.ag x.order.length (ax x.order)]:=rfl;have lk:J ad aD (λq=>bb C q):=X;have FF:∀q,aS S=eL q->q≠b/\(aS C=eL q\/z.n<=q):=λq m=>by
   rcases DC with e|e
   .exact⟨λU=>I5 (by rw[<-U,bb,<-e];exact m),.inl (by rw[<-e];exact m)⟩
   .have:=e q m;exact⟨by omega,.inr (by omega)⟩
  have c8:∀o,J aD (aD.set b o) (·=b):=λo=>J.set _ _ _;have xd:∀o,J z (aD.set b o) (λq=>∃i,O q=eL (1,t,i)):=λo=>((k2.mono (o':=λq=>∃i,O q=eL (1,t,i)) λq U=>⟨0,by rw[U];exact I4⟩).trans X λq m U=>⟨1,Ui q U⟩).trans (c8 o) λq m U=>⟨0,by rw[U];exact I4⟩;obtain⟨B,ay⟩:∃f:ho,f=λq=>if q<z.n then O q else if aS S=eL q then eL (1,t,1)else O q:=⟨_,rfl⟩
  have dZ:∀q s,O q=eL s->B q=eL s:=λq s m=>by rw[ay];simp only;rw[gr (cH.bH _ _ m).2];exact m
  have az:qu logs j x=n2 logs j.opn:=by unfold qu;rw[gQ (by omega),gr mY]
  have bd:mN j x Z=⟨j.ep,j.tx+1,x.offs,j.ord++x.order,[]⟩:=by unfold mN;rw[gQ (by omega),gQ (by omega),gr mY]
  simp only[ae,ds,al,f1,f6,aa,Q,d1,ge,d9];refine bE (Y6 x.offs (by omega) z) ?_;simp only[ae,ds,al,sw,O6];rw[<-fV];clear fV;refine aT.cL (λq=>bb C q) [8,12] (.q 0 (.q 1 (.q 2 (.q 3 (.q 4 (.q 5 (.q 6 (.q 7 (.e 8 (.q 9 (.q 10 (.q 11 (.a 12 .done)))) .stop))))))))) ?_;simp only[ae,bw,e4,ds,AT,By,al,f1,f6,CK,Uk,bg,dr,I2,aF,Fq,aZ,a1,lk,a6,aJ];have Y:∀q s,B q=eL s->O q=eL s\/(z.n<=q/\q<aD.n):=λq s m=>by
   rw[ay]at m;simp only at m;split at m
   .exact .inl m
   .split at m
    .rename_i ad;exact .inr ⟨by omega,I6.lt _ ad⟩
    .exact .inl m
  have lx:∀q,aS S=eL q->B q=eL (1,t,1):=λq m=>by
   rcases(FF q m).2 with z|z
   .exact dZ _ _ (Ui q z)
   .rw[ay];simp only;rw[gQ (by omega),gr m]
  refine ar ⟨rfl,aO,aQ,B,?_,(bl.up).trans (Uh.trans (xd _) λq m ⟨i,U⟩=>?_) λq m U=>U,λq s m=>?_⟩;rotate_left
  .rcases ye q _ U with U|U
   .exact .inr ⟨_,U⟩
   .omega
  .rcases Y q s m with U|U
   .rcases ye q _ U with U|U
    .exact .inl U
    .exact .inr (by omega)
   .exact .inr (by omega)
  rw[az,bd];exact cH.xm an (xd _) (λq U=>U) dZ Y ⟨_,S,.ah,aM,.inr rfl,I6.ai (c8 _) (λq m=>(FF q m).1),Own.ah _ _ _,dZ _ _ I4,lx,λq m=>by simp[aS]at m⟩
structure oK where
 logs:Int->List ed
 tasks:Int->Option lA
def O7:oK:=⟨λ_=>[],λ_=>eN⟩
def bB(s:oK)(t:Int):lA:=(s.tasks t).getD xl
def lM(s:oK)(x:bz)(i:Nat):oK :=
 if ha x=fr then s
 else if x.kind=1 then { s with logs:=jg s.logs x }
 else if x.kind=5 then { s with tasks:=λn=>if n=x.task then eL (n1 (bB s x.task) x.cN)else s.tasks n }
 else if x.kind=6 then s
 else⟨qu s.logs (bB s x.task) x,λn=>if n=x.task then eL (mN (bB s x.task) x i)else s.tasks n⟩
def wj:oK->Nat->List bz->oK
 | s,_,[]=>s
 | s,i,x::r=>wj (lM s x i) (i+1) r
theorem agY:∀(a b:List bz) (s:oK) (i:Nat),wj s i (a++b)=wj (wj s i a) (i+a.length) b
 | [],b,s,i=>rfl
 | x::a,b,s,i=>by
  rw[aza,wj,wj,agY a b,axF,show i+1+a.length=i+(a.length+1)by omega]
def en(l:List bz):oK:=wj O7 0 l
theorem FH(l:List bz)(x:bz):en (l++[x])=lM (en l) x l.length:=by
 unfold en;rw[agY,ayB];rfl
structure FI(N:Nat)(s:oK):Prop where
 oL:∀n,(s.logs n).length<=N*N
 op:∀t j,s.tasks t=eL j->j.opn.length<=N
 tx:∀t j,s.tasks t=eL j->0<=j.tx/\j.tx<=N
 ord:∀t j,s.tasks t=eL j->j.ord.length<=256*N
theorem agZ{N:Nat}{s:oK}(b:FI N s)(t:Int):(bB s t).opn.length<=N/\(0<=(bB s t).tx/\(bB s t).tx<=N)/\(bB s t).ord.length<=256*N:=by
 unfold bB;cases h:s.tasks t with
 | none=>exact⟨D8 _,⟨Int.le_refl _,by show(0:Int)<=N;omega⟩,D8 _⟩
 | some j=>exact⟨b.op t j h,b.tx t j h,b.ord t j h⟩
theorem avm{N:Nat}{s:oK}(b:FI N s)(x:bz)(i:Nat):FI (N+1) (lM s x i):=by
 have u:(N+1)*(N+1)=N*N+(N+N)+1:=by rw[ayC,Nat.mul_add];omega
 obtain⟨z,A,B⟩:=agZ b x.task;have a:FI (N+1) s:=⟨λn=>by have:=b.oL n;omega,λt j h=>by have:=b.op t j h;omega,λt j h=>by have:=b.tx t j h;omega,λt j h=>by have:=b.ord t j h;omega⟩;unfold lM;split
 .exact a
 rename_i m;split
 .refine⟨λn=>?_,a.op,a.tx,a.ord⟩;show(jg s.logs x n).length<=_;unfold jg;split
  .rw[D9];have:=b.oL x.log;simp;omega
  .exact a.oL n
 split
 .refine⟨a.oL,λt j h=>?_,λt j h=>?_,λt j h=>?_⟩<;>simp only at h<;>split at h
  .injection h with h;subst h;unfold n1;split
   .exact D8 _
   .omega
  .exact a.op t j h
  .injection h with h;subst h;unfold n1;split
   .exact⟨by show(0:Int)<=(bB s x.task).tx;omega,by show(bB s x.task).tx<=_;omega⟩
   .omega
  .exact a.tx t j h
  .injection h with h;subst h;unfold n1;split
   .show(bB s x.task).ord.length<=_;omega
   .omega
  .exact a.ord t j h
 split
 .exact a
 have q:ha x=true:=by simpa using m
 have C:=((B3 x).1 q).2.2.2.2.2.2.2.2.1;refine⟨λn=>?_,λt j h=>?_,λt j h=>?_,λt j h=>?_⟩
 .show(qu s.logs _ x n).length<=_;unfold qu;split
  .exact a.oL n
  split
  .have:=Sd n (bB s x.task).opn s.logs (N*N) (b.oL n);omega
  .exact a.oL n
 all_goals
  simp only at h;split at h
 .injection h with h;subst h;unfold mN;split
  .omega
  split
  .simp only[D9,axF,ayx];omega
  split<;>exact D8 _
 .exact a.op t j h
 .injection h with h;subst h;unfold mN;split
  .omega
  split
  .simp only;omega
  split<;>simp only<;>omega
 .exact a.tx t j h
 .injection h with h;subst h;unfold mN;split
  .omega
  split
  .simp only;omega
  split
  .simp only[D9];omega
  .simp only;omega
 .exact a.ord t j h
theorem Za:∀(n:Nat) (l:List bz),l.length=n->FI n (en l)
 | 0,l,h=>by
  rw[aAc.1 h];exact⟨λ_=>D8 _,(by intro t j h;cases h),(by intro t j h;cases h),(by intro t j h;cases h)⟩
 | n+1,l,h=>by
  obtain⟨a,x,rfl⟩:∃a x,l=a++[x]:=by
   cases i:l.reverse with
   | nil=>rw[aDx]at i;rw[i]at h;simp at h
   | cons x a=>exact⟨a.reverse,x,by rw[<-aCJ l,i,aCK]⟩
  rw[FH];exact avm (Za n a (by rw[D9]at h;simp at h;exact h)) x _
def cq(p:Int×List ed):List V:=[.int gj p.1,.ag p.2.length (ek p.2),.ag p.2.length (e2 p.2)]
def wk(t:Int)(j:lA):List V:=[.int gj t,.int gj j.ep,.int gj j.tx,.ag j.offs.length (ax j.offs),.ag j.ord.length (ax j.ord),.int gj 0,.ag j.opn.length (rJ j.opn)]
theorem KE(p:Int×List ed):(cq p).length=3:=rfl
theorem KF(a:List ed):(e2 a).length=a.length*1:=by simp[e2]
theorem avn(l:List (bz×Nat)):(rJ l).length=l.length*12:=ft OT l
theorem Um{v j:V}{h i:I}(a:aK v h j i):aE [v] h [j] i:=aE.cons a (aE.refl [] i)
theorem avo{h:I}{u:ho}{b:Nat}{k:Int}{m:List ed}(a:pU h u b k m)(s:∀q L,u q=eL L->q<h.n) :
  ∃h',(∀r,aK r h r h')/\J h h' (λq=>∃i,u q=eL (0,k,i))/\h'.get b=.cells (cq (k,m)) 90 none:=by
 obtain⟨F,G,g,M,N,z,B,C⟩:=a;obtain⟨h1,O,A⟩:=aK.own (cs:=ek m) M (n:=m.length) (Hy m) (by decide);have S:=N.ai A λj T U=>by have a:=B j U;have b:=C j T;rw[a]at b;simp at b
 obtain⟨D,W,H⟩:=aK.own (cs:=e2 m) S (n:=m.length) (KF m) (by decide);have an:=s _ _ z;have X:¬bb F b:=λU=>by have:=B b U;rw[z]at this;simp at this
 have Y:¬bb G b:=λU=>by have:=C b U;rw[z]at this;simp at this
 have Z:D.get b=_:=(H.get b (by have:=A.n;omega) Y).trans ((A.get b an X).trans g);have c9:aE [.int gj k,F,G] h [.int gj k,.ag m.length (ek m),.ag m.length (e2 m)] D:=aE.cons (aK.refl _ _) (aE.cons O (Um W));refine⟨D.set b (.cells (cq (k,m)) 90 eN),λr=>aK.zq g c9 Z rfl r,?_,aM⟩;exact((A.mono (o':=λq=>∃i,u q=eL (0,k,i)) λq U=>⟨1,B q U⟩).trans H λq ab U=>⟨2,C q U⟩).trans (J.set _ _ _) λq ab U=>⟨0,by rw[U];exact z⟩
theorem avp{h:I}{s:ho}{b:Nat}{t:Int}{j:lA}(a:n0 h s b t j)(m:∀q L,s q=eL L->q<h.n) :
  ∃h',(∀r,aK r h r h')/\J h h' (λq=>∃i,s q=eL (1,t,i))/\h'.get b=.cells (wk t j) 125 none:=by
 obtain⟨D,F,G,g,M,N,O,u,A,B⟩:=a;obtain⟨h1,Q,z⟩:=aK.own N (n:=j.ord.length) (by rw[ht,axD]) (by decide);have S:=O.ai z λq T U=>by have a:=A q U;have b:=B q T;rw[a]at b;simp at b
 obtain⟨C,W,H⟩:=aK.own (cs:=rJ j.opn) S (n:=j.opn.length) (avn j.opn) (by decide);have an:=m _ _ u;have X:¬bb F b:=λU=>by have:=A b U;rw[u]at this;simp at this
 have Y:¬bb G b:=λU=>by have:=B b U;rw[u]at this;simp at this
 have Z:C.get b=_:=(H.get b (by have:=z.n;omega) Y).trans ((z.get b an X).trans g);have cf:aK D h (.ag j.offs.length (ax j.offs)) h:=by
  rcases M with⟨rfl,e⟩|rfl
  .rw[e];exact aK.h3 h
  .exact aK.refl _ h
 have c9:aE [.int gj t,.int gj j.ep,.int gj j.tx,D,F, .int gj 0,G] h [.int gj t,.int gj j.ep,.int gj j.tx,.ag j.offs.length (ax j.offs),.ag j.ord.length (ax j.ord),.int gj 0,.ag j.opn.length (rJ j.opn)] C:=aE.cons (aK.refl _ _) (aE.cons (aK.refl _ _) (aE.cons (aK.refl _ _) (aE.cons cf (aE.cons Q (aE.cons (aK.refl _ _) (Um W))))));refine⟨C.set b (.cells (wk t j) 125 eN),λr=>aK.zq g c9 Z rfl r,?_,aM⟩;exact((z.mono (o':=λq=>∃i,s q=eL (1,t,i)) λq U=>⟨1,A q U⟩).trans H λq ab U=>⟨2,B q U⟩).trans (J.set _ _ _) λq ab U=>⟨0,by rw[U];exact u⟩
theorem ag0{m:ho}{logs:Int->List ed}:∀(j:lz) (h:I),de j->(∀e∈j,pU h m e.2.2 e.2.1 (logs e.2.1))->(∀q s,m q=eL s->q<h.n) ->
  ∃h',(∀r,aK r h r h')/\J h h' (λq=>∃e∈j,∃i,m q=eL (0,e.2.1,i))/\∀e∈j,h'.get e.2.2=.cells (cq (e.2.1,logs e.2.1)) 90 eN
 | [],h,_,_,_=>⟨h,λr=>aK.refl r h,J.refl _ _,by simp⟩
 | e::j,h,N,aW,z=>by
  have C:=azD.1 N;have D:∀x∈j,x.2.1≠e.2.1:=λx a U=>C.1 (OF.2 ⟨x,a,U⟩);have F:=aW e (by simp);have u:=F;obtain⟨_,_,_,_,_,u,_⟩:=u;obtain⟨G,O,A,Q⟩:=avo F z;have H:∀q s,m q=eL s->q<G.n:=λq s L=>IS (z q s L) A.n;obtain⟨S,T,M,W⟩:=ag0 j G C.2 (λx a=>(aW x (by simp[a])).on A (λq ⟨i,U⟩ Y B=>by rw[U]at B;simp at B;exact D x a B.1.symm) (λ_ _ U=>U) z) H;refine⟨S,λr=>(O r).trans (T r),(A.mono (o':=λq=>∃x∈e::j,∃i,m q=eL (0,x.2.1,i)) λq ⟨i,U⟩=>⟨e,by simp,i,U⟩).trans M λq L ⟨x,a,i,U⟩=>⟨x,by simp[a],i,U⟩,λx a=>?_⟩;rcases IN.1 a with rfl|a
  .rw[M.get _ (H _ _ u) (λ⟨y,X,i,U⟩=>by rw[u]at U;simp at U;exact D y X U.1.symm)];exact Q
  .exact W x a
theorem ag1{m:ho}{jobs:Int->lA}:∀(j:lz) (h:I),de j->(∀e∈j,n0 h m e.2.2 e.2.1 (jobs e.2.1))->(∀q s,m q=eL s->q<h.n) ->
  ∃h',(∀r,aK r h r h')/\J h h' (λq=>∃e∈j,∃i,m q=eL (1,e.2.1,i))/\∀e∈j,h'.get e.2.2=.cells (wk e.2.1 (jobs e.2.1)) 125 eN
 | [],h,_,_,_=>⟨h,λr=>aK.refl r h,J.refl _ _,by simp⟩
 | e::j,h,N,aW,z=>by
  have C:=azD.1 N;have D:∀x∈j,x.2.1≠e.2.1:=λx a U=>C.1 (OF.2 ⟨x,a,U⟩);have F:=aW e (by simp);have u:=F;obtain⟨_,_,_,_,_,_,_,u,_⟩:=u;obtain⟨G,O,A,Q⟩:=avp F z;have H:∀q s,m q=eL s->q<G.n:=λq s L=>IS (z q s L) A.n;obtain⟨S,T,M,W⟩:=ag1 j G C.2 (λx a=>(aW x (by simp[a])).on A (λq ⟨i,U⟩ Y B=>by rw[U]at B;simp at B;exact D x a B.1.symm) (λ_ _ U=>U) z) H;refine⟨S,λr=>(O r).trans (T r),(A.mono (o':=λq=>∃x∈e::j,∃i,m q=eL (1,x.2.1,i)) λq ⟨i,U⟩=>⟨e,by simp,i,U⟩).trans M λq L ⟨x,a,i,U⟩=>⟨x,by simp[a],i,U⟩,λx a=>?_⟩;rcases IN.1 a with rfl|a
  .rw[M.get _ (H _ _ u) (λ⟨y,X,i,U⟩=>by rw[u]at U;simp at U;exact D y X U.1.symm)];exact Q
  .exact W x a
structure yf(aG h:I)(lm cu:Nat)(s:oK)(L:lz)(lc:Nat)(T:lz)(eC:Nat):Prop where
 ai:J aG h kR
 FJ:lm<h.n
 FK:cu<h.n
 pX:h.get lm=.map (iV L) lc
 gt:h.get cu=.map (iV T) eC
 ou:dE (iV L) lc
 ov:dE (iV T) eC
 lU:de L
 lV:de T
 has:∀k b,bR L k=eL b->h.get b=.cells (cq (k,s.logs k)) 90 eN/\s.logs k≠[]/\b<h.n
 lB:∀k,bR L k=eN->s.logs k=[]
 lC:∀t b,bR T t=eL b->∃j,s.tasks t=eL j/\h.get b=.cells (wk t j) 125 eN/\b<h.n
 lD:∀t,bR T t=eN->s.tasks t=eN
theorem yf.on{u h h':I}{lm cu z A:Nat}{s:oK}{L T:lz}(w:yf u h lm cu s L z T A)(k:J h h' kR):yf u h' lm cu s L z T A where
 ai:=w.ai.trans' k
 FJ:=IS w.FJ k.n
 FK:=IS w.FK k.n
 pX:=(k.get lm w.FJ (by simp[kR])).trans w.pX
 gt:=(k.get cu w.FK (by simp[kR])).trans w.gt
 ou:=w.ou
 ov:=w.ov
 lU:=w.lU
 lV:=w.lV
 has q b i:=⟨(k.get b (w.has q b i).2.2 (by simp[kR])).trans (w.has q b i).1,(w.has q b i).2.1,IS (w.has q b i).2.2 k.n⟩
 lB:=w.lB
 lC t b i:=by
  obtain⟨j,C,D,B⟩:=w.lC t b i;exact⟨j,C,(k.get b B (by simp[kR])).trans D,IS B k.n⟩
 lD:=w.lD
theorem kO.freeze{N h:I}{lm cu O Q:Nat}{s:oK}{L T:lz}{B:ho}(w:kO N h lm cu s.logs s.tasks L O T Q B):∃h',(∀r,aK r h r h')/\yf N h' lm cu s L O T Q:=by
 have u:∀q bs,B q=eL bs->q<h.n:=λq bs D=>(w.bH q bs D).2;obtain⟨A,Y,G,g1⟩:=ag0 (logs:=s.logs) L h w.lU (λe z=>(w.has _ _ (rj w.lU z)).1) u;have Z:∀e∈T,n0 h B e.2.2 e.2.1 (bB s e.2.1):=λe z=>by
  obtain⟨j,A,C⟩:=w.lC _ _ (rj w.lV z);unfold bB;rw[A];exact C
 have S:∀q bs,B q=eL bs->q<A.n:=λq bs D=>IS (u q bs D) G.n;obtain⟨C,bt,H,g2⟩:=ag1 (jobs:=bB s) T A w.lV (λe z=>(Z e z).on G (λq ⟨x,M,i,U⟩ i2 X=>by rw[U]at X;simp at X) (λ_ _ U=>U) u) S;have kk:J h C (λq=>∃a k i,B q=eL (a,k,i)/\a<2):=(G.mono (o':=λq=>∃a k i,B q=eL (a,k,i)/\a<2) λq ⟨x,M,i,U⟩=>⟨0,_,i,U,by decide⟩).trans H λq D ⟨x,M,i,U⟩=>⟨1,_,i,U,by decide⟩;have eh:=G.n;have c6:=H.n;refine⟨C,λr=>(Y r).trans (bt r),w.ai.trans kk (λq D ⟨a,k,i,U,_⟩=>by have:=(w.bH _ _ U).1;omega),by have:=u _ _ w.iw;omega,by have:=u _ _ w.jj;omega,
  (kk.get lm (u _ _ w.iw) (λ⟨a,k,i,U,C⟩=>by rw[w.iw]at U;simp at U;omega)).trans w.pX,(kk.get cu (u _ _ w.jj) (λ⟨a,k,i,U,C⟩=>by rw[w.jj]at U;simp at U;omega)).trans w.gt,
  w.ou,w.ov,w.lU,w.lV,λk b an=>?_,w.lB,λt b an=>?_,w.lD⟩
 .obtain⟨e,z,bd⟩:=L7 an;obtain⟨DW,Zb,wG⟩:=e;simp only[ay9.injEq]at bd;obtain⟨rfl,rfl⟩:=bd;obtain⟨⟨_,_,_,_,_,F,_⟩,bO⟩:=w.has _ _ an;exact⟨(H.get _ (S _ _ F) (λ⟨x,M,i,U⟩=>by rw[F]at U;simp at U)).trans (g1 _ z),bO,by have:=u _ _ F;omega⟩
 .obtain⟨e,z,bd⟩:=L7 an;obtain⟨DW,Zb,wG⟩:=e;simp only[ay9.injEq]at bd;obtain⟨rfl,rfl⟩:=bd;obtain⟨j,A,a⟩:=w.lC _ _ an;obtain⟨_,_,_,_,_,_,_,F,_⟩:=a;refine⟨j,A,?_,by have:=u _ _ F;omega⟩;have:=g2 _ z;simp only[bB,A,Option.getD_some]at this;exact this
structure oM where
 t:Int
 ep:Int
 tx:Int
 offs:List Int
 ord:List Int
 opn:Nat
 deriving DecidableEq
structure sn where
 logs:List (Int×List ed)
 tasks:List oM
 looked:Nat
def cQ(x:oM):List V:=[.int gj x.t,.int gj x.ep,.int gj x.tx,.ag x.offs.length (ax x.offs),.ag x.ord.length (ax x.ord),.int gj (x.opn:Nat)]
theorem KG(x:oM):(cQ x).length=6:=rfl
def ca(t:sn):List V:=[.ag t.logs.length (t.logs.flatMap cq),.ag t.tasks.length (t.tasks.flatMap cQ),.int gj (t.looked:Nat)]
theorem ag2(a:List ed):bc (ek a):=xS (enc:=λp:ed=>ly p.1) (λp=>auY p.1) a
theorem Zc:∀a:List ed,bc (e2 a)
 | []=>bc.nil
 | p::a=>bc.cons (bf.bool _) (Zc a)
theorem Se(p:Int×List ed):bc (cq p):=bc.cons (bf.int _ _) (bc.cons (bf.ag (ag2 _)) (bc.cons (bf.ag (Zc _)) bc.nil))
theorem Zd(x:oM):bc (cQ x):=bc.cons (bf.int _ _) (bc.cons (bf.int _ _) (bc.cons (bf.int _ _) (bc.cons (bf.ag (y1 _)) (bc.cons (bf.ag (y1 _)) (bc.cons (bf.int _ _) bc.nil)))))
theorem avq(t:sn):bc (ca t):=bc.cons (bf.ag (xS Se _)) (bc.cons (bf.ag (xS Zd _)) (bc.cons (bf.int _ _) bc.nil))
def mO(t:Int)(j:lA):oM:=⟨t,j.ep,j.tx,j.offs,j.ord,j.opn.length⟩
def qv(n:Int):List Int->List Int
 | []=>[n]
 | x::l=>if x=n then x::l else if n<x then n::x::l else x::qv n l
theorem Ze{n a:Int}:∀{l:List Int},a∈qv n l↔a=n\/a∈l
 | []=>by simp[qv]
 | x::l=>by
  unfold qv;split
  .rename_i h;subst h;simp
  split
  .simp
  .rw[IN,Ze (l:=l),IN]
   constructor
   .rintro(h|h|h)<;>simp[h]
   .rintro(h|h|h)<;>simp[h]
theorem ag3{n:Int}:∀{l:List Int},l.Pairwise (·<·)->(qv n l).Pairwise (·<·)
 | [],_=>by simp[qv]
 | x::l,h=>by
  have h':=ayA.1 h;unfold qv;split
  .exact h
  rename_i j;split
  .rename_i i;refine ayA.2 ⟨λa aW=>?_,h⟩;rcases IN.1 aW with rfl|aW
   .exact i
   .have:=h'.1 a aW;omega
  .rename_i i;refine ayA.2 ⟨λa aW=>?_,ag3 h'.2⟩;rcases Ze.1 aW with rfl|aW
   .omega
   .exact h'.1 a aW
def Pa(l:List Int):List Int:=l.foldl (λa n=>qv n a) []
theorem Zf:∀(l a:List Int),(∀x,x∈l.foldl (λa n=>qv n a) a↔x∈a\/x∈l)/\(a.Pairwise (·<·)->(l.foldl (λa n=>qv n a) a).Pairwise (·<·))
 | [],a=>⟨λx=>by simp,λh=>h⟩
 | y::l,a=>by
  obtain⟨i,j⟩:=Zf l (qv y a);refine⟨λx=>?_,λh=>j (ag3 h)⟩;rw[List.foldl_cons,i,Ze,IN]
  constructor
  .rintro((h|h)|h)<;>simp[h]
  .rintro(h|h|h)<;>simp[h]
theorem ag4{l:List Int}{x:Int}:x∈Pa l↔x∈l:=by rw[Pa,(Zf l []).1];simp
theorem ag5(l:List Int):(Pa l).Pairwise (·<·):=(Zf l []).2 azM.nil
structure avr(s:oK)(logs:List (Int×List ed))(tasks:List oM):Prop where
 lm:∀p,p∈logs↔p.2=s.logs p.1/\p.2≠[]
 ag6:logs.Pairwise λa b=>a.1<b.1
 cu:∀x,x∈tasks↔∃j,s.tasks x.t=eL j/\x=mO x.t j
 ag7:tasks.Pairwise λa b=>a.t<b.t
theorem Zg{α:Type}{key:α->Int}:∀{a b:List α},(∀x,x∈a↔x∈b)->a.Pairwise (λx y=>key x<key y)->b.Pairwise (λx y=>key x<key y)->a=b
 | [],[],_,_,_=>rfl
 | [],y::b,h,_,_=>by have:=(h y).2 (by simp);cases this
 | x::a,[],h,_,_=>by have:=(h x).1 (by simp);cases this
 | x::a,y::b,h,aW,an=>by
  have m:=ayA.1 aW;have q:=ayA.1 an;have e:x=y:=by
   rcases IN.1 ((h x).1 (by simp))with e|i
   .exact e
   rcases IN.1 ((h y).2 (by simp))with e|s
   .exact e.symm
   have:=q.1 x i;have:=m.1 y s;omega
  subst e
  congr 1
  refine Zg (λz=>⟨λj=>?_,λj=>?_⟩) m.2 q.2
  .rcases IN.1 ((h z).1 (by simp[j]))with rfl|i
   .have:=m.1 z j;omega
   .exact i
  .rcases IN.1 ((h z).2 (by simp[j]))with rfl|i
   .have:=q.1 z j;omega
   .exact i
def yg(l:List bz):List (Int×List ed):=((Pa (l.map (·.log))).map λk=>(k,(en l).logs k)).filter λp=>!p.2.isEmpty
def yh(l:List bz):List oM:=(Pa (l.map (·.task))).filterMap λt=>((en l).tasks t).map (mO t)
def toldOf(l:List bz):sn:=⟨yg l,yh l,l.length⟩
structure Sf(l:List bz)(s:oK):Prop where
 oL:∀k,s.logs k≠[]->k∈l.map (·.log)
 ka:∀t j,s.tasks t=eL j->t∈l.map (·.task)/\∀p∈j.opn,p.1.log∈l.map (·.log)
theorem wl{A:Int->Prop}:∀(o:List (bz×Nat)) (f:Int->List ed),(∀p∈o,A p.1.log)->(∀k,f k≠[]->A k)->∀k,n2 f o k≠[]->A k
 | [],f,_,a,k,h=>a k h
 | p::o,f,j,a,k,h=>by
  refine wl o (jg f p.1) (λq m=>j q (by simp[m])) (λk i=>?_) k h;unfold jg at i;split at i
  .rename_i e;subst e;exact j p (by simp)
  .exact a k i
theorem avs{l:List bz}{s:oK}(h:Sf l s)(x:bz)(i:Nat):Sf (l++[x]) (lM s x i):=by
 have up:∀{k},k∈l.map (·.log)->k∈(l++[x]).map (·.log):=λu=>by rw[ay1];exact aAd _ u
 have B:∀{k},k∈l.map (·.task)->k∈(l++[x]).map (·.task):=λu=>by rw[ay1];exact aAd _ u
 have z:x.log∈(l++[x]).map (·.log):=by simp
 have C:x.task∈(l++[x]).map (·.task):=by simp
 have a:Sf (l++[x]) s:=⟨λk u=>up (h.oL k u),λt j D=>⟨B (h.ka t j D).1,λp m=>up ((h.ka t j D).2 p m)⟩⟩;have A:∀p∈(bB s x.task).opn,p.1.log∈(l++[x]).map (·.log):=λp m=>by
  unfold bB at m;cases q:s.tasks x.task with
  | none=>rw[q]at m;cases m
  | some j=>rw[q]at m;exact(a.ka _ _ q).2 p m
 unfold lM;split
 .exact a
 split
 .refine⟨λk u=>?_,a.ka⟩;simp only[jg]at u;split at u
  .rename_i e;rw[e];exact z
  .exact a.oL k u
 split
 .refine⟨a.oL,λt j q=>?_⟩;simp only at q;split at q
  .rename_i e;subst e;injection q with q;subst q;refine⟨C,λp m=>?_⟩;unfold n1 at m;split at m
   .cases m
   .exact A p m
  .exact a.ka t j q
 split
 .exact a
 refine⟨λk u=>?_,λt j q=>?_⟩
 .simp only[qu]at u;split at u
  .exact a.oL k u
  split at u
  .exact wl _ _ A a.oL k u
  .exact a.oL k u
 .simp only at q;split at q
  .rename_i e;subst e;injection q with q;subst q;refine⟨C,λp m=>?_⟩;unfold mN at m;split at m
   .exact A p m
   split at m
   .rcases List.mem_append.1 m with m|m
    .exact A p m
    .rw[List.mem_singleton.1 m];exact z
   split at m<;>cases m
  .exact a.ka t j q
theorem Sg:∀(n:Nat) (l:List bz),l.length=n->Sf l (en l)
 | 0,l,h=>by
  rw[aAc.1 h];exact⟨λk m=>absurd rfl m,λt j q=>by cases q⟩
 | n+1,l,h=>by
  obtain⟨a,x,rfl⟩:∃a x,l=a++[x]:=by
   cases i:l.reverse with
   | nil=>rw[aDx]at i;rw[i]at h;simp at h
   | cons x a=>exact⟨a.reverse,x,by rw[<-aCJ l,i,aCK]⟩
  rw[FH];exact avs (Sg n a (by rw[D9]at h;simp at h;exact h)) x _
theorem HD(l:List bz):avr (en l) (yg l) (yh l):=by
 have A:=Sg _ l rfl;refine⟨λp=>?_,?_,λx=>?_,?_⟩
 .unfold yg;rw[ajA,OF]
  constructor
  .rintro⟨⟨k,z,rfl⟩,m⟩
   exact⟨rfl,by simpa using m⟩
  .rintro⟨i,m⟩
   refine⟨⟨p.1,ag4.2 (A.oL _ (i▸m)),?_⟩,by simpa using m⟩;rw[<-i]
 .unfold yg;refine azM.filter _ (azt.2 ?_);exact ag5 _
 .unfold yh;rw[List.mem_filterMap]
  constructor
  .rintro⟨t,C,i⟩
   cases q:(en l).tasks t with
   | none=>rw[q]at i;cases i
   | some j=>
    rw[q]at i;injection i with i;subst i;exact⟨j,q,rfl⟩
  .rintro⟨j,i,m⟩
   refine⟨x.t,ag4.2 (A.ka _ _ i).1,?_⟩;rw[i];exact iy eL m.symm
 .unfold yh;refine azM.filterMap _ (λa b B x s y u=>?_) (ag5 _);cases q:(en l).tasks a with
  | none=>rw[q]at s;cases s
  | some j=>
   cases z:(en l).tasks b with
   | none=>rw[z]at u;cases u
   | some k=>
    rw[q]at s;rw[z]at u;injection s with s;injection u with u;subst s u;exact B
def uM(n:Int)(K:List Int)(s:oK):Nat:=(s.logs n).length+(K.map λt=>(bB s t).opn.length).sum
theorem avt(s:oK)(x:bz)(i:Nat)(n:Int):((lM s x i).logs n).length+(bB (lM s x i) x.task).opn.length<=(s.logs n).length+(bB s x.task).opn.length+1:=by
 unfold lM;split
 .omega
 split
 .have:(jg s.logs x n).length<=(s.logs n).length+1:=by
   unfold jg;split
   .rename_i e;subst e;simp
   .omega
  show(jg s.logs x n).length+(bB s x.task).opn.length<=_;omega
 split
 .show(s.logs n).length+((if x.task=x.task then eL (n1 (bB s x.task) x.cN)else s.tasks x.task).getD xl).opn.length<=_;rw[gr rfl];show _+(n1 (bB s x.task) x.cN).opn.length<=_;unfold n1;split
  .simp only[ayx];omega
  .omega
 split
 .omega
 show(qu s.logs (bB s x.task) x n).length+((if x.task=x.task then eL (mN (bB s x.task) x i)else s.tasks x.task).getD xl).opn.length<=_;rw[gr rfl];show _+(mN (bB s x.task) x i).opn.length<=_;unfold qu mN;split
 .omega
 .split
  .rename_i a;rw[gQ (by omega)];have:=Sd n (bB s x.task).opn s.logs (s.logs n).length (BY _);simp only[ayx];omega
  .split
   .simp only[D9,az9];omega
   .simp only[ayx];omega
theorem avu(s:oK)(x:bz)(i:Nat){u:Int}(a:u≠x.task):(bB (lM s x i) u).opn=(bB s u).opn:=by
 unfold lM;split
 .rfl
 split
 .rfl
 split
 .show((if u=x.task then eL (n1 (bB s x.task) x.cN)else s.tasks u).getD xl).opn=_;rw[gQ a];rfl
 split
 .rfl
 show((if u=x.task then eL (mN (bB s x.task) x i)else s.tasks u).getD xl).opn=_;rw[gQ a];rfl
theorem avv{s:oK}{N:Nat}(ih:∀n K,K.Nodup->uM n K s<=N)(x:bz)(i:Nat)(n:Int)(K:List Int)(q:K.Nodup):uM n K (lM s x i)<=N+1:=by
 have a:∀j:List Int,(x.task::j).Nodup->uM n (x.task::j) (lM s x i)<=N+1:=λj z=>by
  have m:=ih n _ z;have A:=avt s x i n;have D:j.map (λt=>(bB (lM s x i) t).opn.length)=j.map λt=>(bB s t).opn.length:=List.map_congr_left λu F=>by
   rw[avu s x i λe=>(azD.1 z).1 (e▸F)]
  unfold uM at *;rw[ajF,aCF]at *;rw[D];omega
 by_cases B:x.task∈K
 .have C:=List.perm_cons_erase B;have m:=a _ (C.nodup_iff.1 q);have A:uM n K (lM s x i)=uM n (x.task::K.erase x.task) (lM s x i):=by
   unfold uM;rw[(C.map _).sum_nat]
  rw[A];exact m
 .have m:=a K (azD.2 ⟨B,q⟩);unfold uM at *;rw[ajF,aCF]at m;omega
theorem aha:∀(m:Nat) (l:List bz),l.length=m->∀n K,K.Nodup->uM n K (en l)<=m
 | 0,l,h=>by
  rw[aAc.1 h];intro n K _;unfold uM;show 0+_<=0;have:∀K:List Int,(K.map λt=>(bB (en []) t).opn.length).sum=0:=λK=>by
   induction K with
   | nil=>rfl
   | cons a K ih=>rw[ajF,aCF,ih];rfl
  rw[this];omega
 | m+1,l,h=>by
  obtain⟨a,x,rfl⟩:∃a x,l=a++[x]:=by
   cases i:l.reverse with
   | nil=>rw[aDx]at i;rw[i]at h;simp at h
   | cons x a=>exact⟨a.reverse,x,by rw[<-aCJ l,i,aCK]⟩
  rw[FH];exact avv (aha m a (by rw[D9]at h;simp at h;exact h)) x _
theorem Zh(l:List bz)(n:Int):((en l).logs n).length<=l.length:=by
 have:=aha _ l rfl n [] List.nodup_nil;unfold uM at this;simpa using this
theorem ahb{l:List bz}{k:Nat}(a:k<l.length){i:aPh}:hC mP 29 (.ag l.length (l.flatMap bo)) (.int i (k:Int))=eL (.at (bo l[k]++(l.drop (k+1)).flatMap bo)):=r0 (enc:=bo) (sz:=11) sZ a EP
theorem avw(x:bz)(r:List V):cw (eL (eL 11)) (eL (bo x++r))=eL (.agg (bo x)):=j1 (sZ x)
def CN(a b:Nat):ho:=λq=>if q=a then eL (2,0,0)else if q=b then eL (2,0,1)else eN
theorem ahc{a b q:Nat}{i:Tag}(h:CN a b q=eL i):q=a\/q=b:=by
 unfold CN at h;split at h
 .exact .inl ‹_›
 .split at h
  .exact .inr ‹_›
  .cases h
theorem kO.cast{j h:I}{lm cu u z:Nat}{s i:oK}{L T:lz}{A:ho}(w:kO j h lm cu s.logs s.tasks L u T z A)(e:s=i):kO j h lm cu i.logs i.tasks L u T z A:=e▸w
def FL(h:I)(a:ho)(q:Nat):Prop:=q=h.n+1\/q=h.n+2\/∃i,a q=eL i
theorem Un(j h:I)(a i:Nat)(k:J j h kR)(A:j.n<=a/\a<h.n)(B:j.n<=i/\i<h.n)(m:a≠i)(s:h.get a=.map [] 0)(u:h.get i=.map [] 0):kO j h a i O7.logs O7.tasks [] 0 [] 0 (CN a i) :=
 ⟨k,λq C z=>by rcases ahc z with e|e<;>subst e<;>assumption,by simp[CN],by simp[CN,Ne.symm m],s,u,dE.nil 0,dE.nil 0,de.nil,de.nil,λ_ _ U=>(by cases U),λ_ _=>rfl,λ_ _ U=>(by cases U),λ_ _=>rfl⟩
theorem kO.Sh{B h0' h h':I}{lm cu C D:Nat}{logs:Int->List ed}{tasks:Int->Option lA}{L T:lz}{z:ho}(w:kO B h lm cu logs tasks L C T D z){own:Nat->Prop}(k:J h h' own)(u:∀q,own q->∀bs,z q≠eL bs)(F:J h0' h' kR)(G:h0'.n<=B.n):kO h0' h' lm cu logs tasks L C T D z where
 ai:=F
 bH q bs s:=⟨UN G (w.bH q bs s).1,IS (w.bH q bs s).2 k.n⟩
 iw:=w.iw
 jj:=w.jj
 pX:=(k.get lm (w.bH _ _ w.iw).2 (λU=>u _ U _ w.iw)).trans w.pX
 gt:=(k.get cu (w.bH _ _ w.jj).2 (λU=>u _ U _ w.jj)).trans w.gt
 ou:=w.ou
 ov:=w.ov
 lU:=w.lU
 lV:=w.lV
 has q b s:=⟨(w.has q b s).1.on k (λq U i A=>u q U _ A) (λ_ _ U=>U) λq bs U=>(w.bH q bs U).2,(w.has q b s).2⟩
 lB:=w.lB
 lC t b s:=by
  obtain⟨j,H,M⟩:=w.lC t b s;exact⟨j,H,M.on k (λq U i A=>u q U _ A) (λ_ _ U=>U) λq bs U=>(w.bH q bs U).2⟩
 lD:=w.lD
open Go.Shelf
def avx:Go.Shelf.Ren:=⟨λ| 6=>54|15=>97|14=>96|28=>131|29=>132|20=>123|21=>124|22=>125|23=>126|24=>127|25=>128|26=>129|27=>130|46=>159|47=>160|48=>161|49=>162|50=>163|57=>183|n=>n,λ| 22=>31|24=>90|25=>122|3=>3|39=>189|0=>0|53=>236|55=>131|4=>4|46=>229|45=>228|50=>233|5=>5|9=>9|66=>270|70=>274|76=>310|77=>82|n=>n,λ| n=>n⟩
theorem ahd:Go.Proofs.SlLaysF0.n6 mP avx:={
 mixed:=by kernel_rfl
 f6:=⟨Tryz.f54.name,by decide,aEX.trans (iy eL (by kernel_rfl))⟩
 f14:=⟨Tryz.f96.name,by decide,aEY.trans (iy eL (by kernel_rfl))⟩
 f15:=aBi.trans (iy eL (by kernel_rfl))
 f20:=⟨Tryz.f123.name,by decide,aEZ.trans (iy eL (by kernel_rfl))⟩
 f21:=⟨Tryz.f124.name,by decide,Tryz.func124.trans (iy eL (by kernel_rfl))⟩
 f22:=⟨Tryz.f125.name,by decide,Tryz.func125.trans (iy eL (by kernel_rfl))⟩
 f23:=⟨Tryz.f126.name,by decide,Tryz.func126.trans (iy eL (by kernel_rfl))⟩
 f24:=⟨Tryz.f127.name,by decide,Tryz.func127.trans (iy eL (by kernel_rfl))⟩
 f25:=⟨Tryz.f128.name,by decide,Tryz.func128.trans (iy eL (by kernel_rfl))⟩
 f26:=⟨Tryz.f129.name,by decide,Tryz.func129.trans (iy eL (by kernel_rfl))⟩
 f27:=⟨Tryz.f130.name,by decide,Tryz.func130.trans (iy eL (by kernel_rfl))⟩
 f28:=aBF.trans (iy eL (by kernel_rfl))
 f29:=aBh.trans (iy eL (by kernel_rfl))
 f46:=⟨Tryz.f159.name,by decide,Tryz.func159.trans (iy eL (by kernel_rfl))⟩
 f47:=aBG.trans (iy eL (by kernel_rfl))
 f48:=aBH.trans (iy eL (by kernel_rfl))
 f49:=⟨Tryz.f162.name,by decide,Tryz.func162.trans (iy eL (by kernel_rfl))⟩
 f50:=⟨Tryz.f163.name,by decide,Tryz.func163.trans (iy eL (by kernel_rfl))⟩
 f57:=⟨Tryz.f183.name,by decide,Tryz.func183.trans (iy eL (by kernel_rfl))⟩
 t0:=aBI
 a0:=aBJ
 z0:=aBK
 v0:=aBL
 t3:=aAO
 a3:=aBM
 z3:=aBN
 v3:=aBO
 t4:=aBP
 a4:=aBQ
 z4:=aBR
 v4:=aBS
 t5:=aBT
 a5:=aBU
 z5:=aBV
 v5:=aBW
 t9:=aBX
 a9:=aBY
 z9:=aBZ
 v9:=aB0
 t22:=Tryz.underlying31
 a22:=Tryz.isAgg31
 z22:=Tryz.sizeOf31
 v22:=Tryz.zeroValue31
 t25:=Tryz.underlying122
 a25:=Tryz.isAgg122
 z25:=Tryz.sizeOf122
 v25:=Tryz.zeroValue122
 t39:=aB1
 a39:=aB2
 z39:=aB3
 v39:=aB4
 t45:=aB5
 a45:=aB6
 z45:=aB7
 v45:=aB8
 t46:=aB9
 a46:=aCa
 z46:=aCb
 v46:=aCc
 t50:=aCd
 a50:=aCe
 z50:=aCf
 v50:=aCg
 t53:=aCh
 a53:=aCi
 z53:=aCj
 v53:=aCk
 t55:=aCl
 a55:=aCm
 z55:=aCn
 v55:=aCo
 t66:=aCp
 a66:=aCq
 z66:=aCr
 v66:=aCs
 t70:=aCt
 a70:=aCu
 z70:=aCv
 v70:=aCw
 t76:=aCx
 a76:=aCy
 z76:=aCz
 v76:=aCA
 t77:=aCB
 a77:=aCC
 z77:=aCD
 v77:=aCE }
open Go Go.Proofs Go.Proofs.YtemdgidnhgcafaaGreatDoor.Ab Go.Sort
theorem avy(h:I)(x c:V)(n lim:Int)(q:n<=1)(s:0<=n):Pure mP 123 [x,.int gj 0,.int gj n,c] h (.tuple []):=by
 refine Pure.val (bf.tuple bc.nil) ?_;refine a7 aEZ rfl ?_;have a:aPh.i64.wrap (0+1)=1:=by decide
 simp only[ae,ds,a];refine aT.bG (α:=Unit) (λ_ f h'=>f 8=.int gj 1/\f 2=.int gj n/\h'=h) (λ_=>0) () ⟨rfl,rfl,rfl⟩ ?_
 rintro _ f h' ⟨i,j,rfl⟩
 refine wpS ?_;have m:decide (1<n)=false:=hK (by omega);simp only[ae,ds,i,j,m,aJ];exact ar ⟨rfl,J.refl _ _⟩
theorem avz(h:I)(x c:V)(n l:Int)(a:n<=1)(i:0<=n):Pure mP 96 [x,.int gj 0,.int gj n,.int gj l,c] h (.tuple []):=by
 refine Pure.val (bf.tuple bc.nil) ?_;refine a7 aEY rfl ?_;simp only[ae];refine aT.bG (α:=Unit) (λ_ f h'=>f 0=x/\f 1=.int gj 0/\f 2=.int gj n/\f 4=c/\h'=h) (λ_=>0) () ⟨rfl,rfl,rfl,rfl,rfl⟩ ?_
 rintro _ f h' ⟨j,m,q,s,rfl⟩
 refine wpS ?_;have u:aPh.i64.wrap (n-0)=n:=by rw[kp _ (by omega)];omega
 have z:decide (n<=12)=true:=hO (by omega);simp only[ae,ds,reduceCtorEq,j,m,q,s,u,z];refine bE (avy _ x c n 0 a i) ?_;simp only[ae,aJ];exact ar ⟨rfl,J.refl _ _⟩
theorem avA(h:I)(x c:V)(n:Int)(a:n=0\/n=1)(i:dX mP 31 x h=eL (.int gj n)):Pure mP 54 [x,c] h (.tuple []):=by
 refine Pure.val (bf.tuple bc.nil) ?_;refine a7 aEX rfl ?_;have j:aPh.u64.wrap n=n:=by rcases a with rfl|rfl<;>decide
 simp only[ae,ds,reduceCtorEq,GD,hP,i,j];refine bE (Hb h n a) ?_;simp only[ae,ds];refine bE (avz h x c n n (by omega) (by omega)) ?_;simp only[ae,aJ];exact ar ⟨rfl,J.refl _ _⟩
theorem avB{g:FuncId}{cf:(Int×List ed)->(Int×List ed)->Int}(m:SWO (ltOf cf))(A:∀a b,au mP g [.agg (cq a),.agg (cq b)] y0 λr _=>r=.int gj (cf a b))
  (B:∀args w,(callFunc g args).run mP w=.ok (.enter g args) w) (h:I) (x:V) (l:List (Int×List ed)) (u:Own h 90 3 x (l.flatMap cq)) (z:l.length<=2^40) :
  au mP 54 [x,.func (.func g) [] []] h λr h'=>r=.tuple []/\J h h' (bb x)/\∃q:List (Int×List ed),q.Perm l/\(q.Pairwise λa b=>ltOf cf b a=fr)/\Own h' 90 3 x (q.flatMap cq):=by
 refine V0 (by decide) KE (λx=>rfl) Se m A
  (λn enc C D cf m h2 cap d w aw hH an F=>AnyQ.slices_SortFunc ahd 3 Tryz.isAgg90 Tryz.sizeOf90 enc C D cf m g #[] h2 0 cap d w B aw hH an F) (λG=>?_) u (by omega)
 subst G;have j:dX mP 31 x h=eL (.int gj 0):=by
  rcases u with⟨rfl|rfl,_⟩|⟨i,s,cap,c,H,rfl,_,_,z,_⟩
  .exact yY Q6
  .exact zN Q6
  .have:s=0:=by simp at z;omega
   subst this;exact zM Q6
 exact avA h x _ 0 (.inl rfl) j
def avC:Go.Shelf.Ren:=⟨λ| 6=>57|15=>97|14=>99|28=>131|29=>132|20=>133|21=>134|22=>135|23=>136|24=>137|25=>138|26=>139|27=>140|46=>164|47=>160|48=>161|49=>165|50=>166|57=>184|n=>n,λ| 22=>32|24=>57|25=>127|3=>3|39=>189|0=>0|53=>236|55=>131|4=>4|46=>229|45=>228|50=>233|5=>5|9=>9|66=>270|70=>274|76=>310|77=>82|n=>n,λ| n=>n⟩
theorem ahe:Go.Proofs.SlLaysF0.n6 mP avC:={
 mixed:=by kernel_rfl
 f6:=⟨Tryz.f57.name,by decide,aE0.trans (iy eL (by kernel_rfl))⟩
 f14:=⟨Tryz.f99.name,by decide,aE1.trans (iy eL (by kernel_rfl))⟩
 f15:=aBi.trans (iy eL (by kernel_rfl))
 f20:=⟨Tryz.f133.name,by decide,aE2.trans (iy eL (by kernel_rfl))⟩
 f21:=⟨Tryz.f134.name,by decide,Tryz.func134.trans (iy eL (by kernel_rfl))⟩
 f22:=⟨Tryz.f135.name,by decide,Tryz.func135.trans (iy eL (by kernel_rfl))⟩
 f23:=⟨Tryz.f136.name,by decide,Tryz.func136.trans (iy eL (by kernel_rfl))⟩
 f24:=⟨Tryz.f137.name,by decide,Tryz.func137.trans (iy eL (by kernel_rfl))⟩
 f25:=⟨Tryz.f138.name,by decide,Tryz.func138.trans (iy eL (by kernel_rfl))⟩
 f26:=⟨Tryz.f139.name,by decide,Tryz.func139.trans (iy eL (by kernel_rfl))⟩
 f27:=⟨Tryz.f140.name,by decide,Tryz.func140.trans (iy eL (by kernel_rfl))⟩
 f28:=aBF.trans (iy eL (by kernel_rfl))
 f29:=aBh.trans (iy eL (by kernel_rfl))
 f46:=⟨Tryz.f164.name,by decide,Tryz.func164.trans (iy eL (by kernel_rfl))⟩
 f47:=aBG.trans (iy eL (by kernel_rfl))
 f48:=aBH.trans (iy eL (by kernel_rfl))
 f49:=⟨Tryz.f165.name,by decide,Tryz.func165.trans (iy eL (by kernel_rfl))⟩
 f50:=⟨Tryz.f166.name,by decide,Tryz.func166.trans (iy eL (by kernel_rfl))⟩
 f57:=⟨Tryz.f184.name,by decide,Tryz.func184.trans (iy eL (by kernel_rfl))⟩
 t0:=aBI
 a0:=aBJ
 z0:=aBK
 v0:=aBL
 t3:=aAO
 a3:=aBM
 z3:=aBN
 v3:=aBO
 t4:=aBP
 a4:=aBQ
 z4:=aBR
 v4:=aBS
 t5:=aBT
 a5:=aBU
 z5:=aBV
 v5:=aBW
 t9:=aBX
 a9:=aBY
 z9:=aBZ
 v9:=aB0
 t22:=Tryz.underlying32
 a22:=Tryz.isAgg32
 z22:=Tryz.sizeOf32
 v22:=Tryz.zeroValue32
 t25:=Tryz.underlying127
 a25:=Tryz.isAgg127
 z25:=Tryz.sizeOf127
 v25:=Tryz.zeroValue127
 t39:=aB1
 a39:=aB2
 z39:=aB3
 v39:=aB4
 t45:=aB5
 a45:=aB6
 z45:=aB7
 v45:=aB8
 t46:=aB9
 a46:=aCa
 z46:=aCb
 v46:=aCc
 t50:=aCd
 a50:=aCe
 z50:=aCf
 v50:=aCg
 t53:=aCh
 a53:=aCi
 z53:=aCj
 v53:=aCk
 t55:=aCl
 a55:=aCm
 z55:=aCn
 v55:=aCo
 t66:=aCp
 a66:=aCq
 z66:=aCr
 v66:=aCs
 t70:=aCt
 a70:=aCu
 z70:=aCv
 v70:=aCw
 t76:=aCx
 a76:=aCy
 z76:=aCz
 v76:=aCA
 t77:=aCB
 a77:=aCC
 z77:=aCD
 v77:=aCE }
theorem avD(h:I)(x c:V)(n lim:Int)(q:n<=1)(s:0<=n):Pure mP 133 [x,.int gj 0,.int gj n,c] h (.tuple []):=by
 refine Pure.val (bf.tuple bc.nil) ?_;refine a7 aE2 rfl ?_;have a:aPh.i64.wrap (0+1)=1:=by decide
 simp only[ae,ds,a];refine aT.bG (α:=Unit) (λ_ f h'=>f 8=.int gj 1/\f 2=.int gj n/\h'=h) (λ_=>0) () ⟨rfl,rfl,rfl⟩ ?_
 rintro _ f h' ⟨i,j,rfl⟩
 refine wpS ?_;have m:decide (1<n)=false:=hK (by omega);simp only[ae,ds,i,j,m,aJ];exact ar ⟨rfl,J.refl _ _⟩
theorem avE(h:I)(x c:V)(n l:Int)(a:n<=1)(i:0<=n):Pure mP 99 [x,.int gj 0,.int gj n,.int gj l,c] h (.tuple []):=by
 refine Pure.val (bf.tuple bc.nil) ?_;refine a7 aE1 rfl ?_;simp only[ae];refine aT.bG (α:=Unit) (λ_ f h'=>f 0=x/\f 1=.int gj 0/\f 2=.int gj n/\f 4=c/\h'=h) (λ_=>0) () ⟨rfl,rfl,rfl,rfl,rfl⟩ ?_
 rintro _ f h' ⟨j,m,q,s,rfl⟩
 refine wpS ?_;have u:aPh.i64.wrap (n-0)=n:=by rw[kp _ (by omega)];omega
 have z:decide (n<=12)=true:=hO (by omega);simp only[ae,ds,reduceCtorEq,j,m,q,s,u,z];refine bE (avD _ x c n 0 a i) ?_;simp only[ae,aJ];exact ar ⟨rfl,J.refl _ _⟩
theorem avF(h:I)(x c:V)(n:Int)(a:n=0\/n=1)(i:dX mP 32 x h=eL (.int gj n)):Pure mP 57 [x,c] h (.tuple []):=by
 refine Pure.val (bf.tuple bc.nil) ?_;refine a7 aE0 rfl ?_;have j:aPh.u64.wrap n=n:=by rcases a with rfl|rfl<;>decide
 simp only[ae,ds,reduceCtorEq,GD,hP,i,j];refine bE (Hb h n a) ?_;simp only[ae,ds];refine bE (avE h x c n n (by omega) (by omega)) ?_;simp only[ae,aJ];exact ar ⟨rfl,J.refl _ _⟩
theorem avG{g:FuncId}{cf:oM->oM->Int}(m:SWO (ltOf cf))(A:∀a b,au mP g [.agg (cQ a),.agg (cQ b)] y0 λr _=>r=.int gj (cf a b))
  (B:∀args w,(callFunc g args).run mP w=.ok (.enter g args) w) (h:I) (x:V) (l:List oM) (u:Own h 57 6 x (l.flatMap cQ)) (z:l.length<=2^40) :
  au mP 57 [x,.func (.func g) [] []] h λr h'=>r=.tuple []/\J h h' (bb x)/\∃q:List oM,q.Perm l/\(q.Pairwise λa b=>ltOf cf b a=fr)/\Own h' 57 6 x (q.flatMap cQ):=by
 refine V0 (by decide) KG (λx=>rfl) Zd m A
  (λn enc C D cf m h2 cap d w aw hH an F=>AnyQ.slices_SortFunc ahe 6 Tryz.isAgg57 Tryz.sizeOf57 enc C D cf m g #[] h2 0 cap d w B aw hH an F) (λG=>?_) u (by omega)
 subst G;have j:dX mP 32 x h=eL (.int gj 0):=by
  rcases u with⟨rfl|rfl,_⟩|⟨i,s,cap,c,H,rfl,_,_,z,_⟩
  .exact yY Q7
  .exact zN Q7
  .have:s=0:=by simp at z;omega
   subst this;exact zM Q7
 exact avF h x _ 0 (.inl rfl) j
def zn(x y:Int):Int:=if x<y then -1 else if y<x then 1 else 0
theorem ahf(h:I)(x:Int):Pure mP 98 [.int gj x] h (.bool fr):=by
 refine Pure.val (bf.bool _) ?_;refine a7 Tryz.func98 rfl ?_;have e:(x !=x)=false:=by simp
 simp only[ae,ds,reduceCtorEq,aJ];exact ar ⟨rfl,J.refl _ _⟩
theorem ahg(h:I)(x y:Int):Pure mP 56 [.int gj x,.int gj y] h (.int gj (zn x y)):=by
 refine Pure.val (bf.int _ _) ?_;refine a7 Tryz.func56 rfl ?_;simp only[ae,Js,ds,reduceCtorEq];refine bE (ahf h x) ?_;simp only[ae,Js,ds];refine bE (ahf h y) ?_;by_cases a:x<y
 .have i:decide (x<y)=true:=hO a;simp only[ae,Js,ds,reduceCtorEq,i,aJ];exact ar ⟨by rw[zn,gr a],J.refl _ _⟩
 .have i:decide (x<y)=false:=hK a;by_cases j:y<x
  .have m:decide (y<x)=true:=hO j;simp only[ae,Js,ds,reduceCtorEq,i,m,aJ];exact ar ⟨by rw[zn,gQ a,gr j],J.refl _ _⟩
  .have m:decide (y<x)=false:=hK j;simp only[ae,Js,ds,reduceCtorEq,i,m,aJ];exact ar ⟨by rw[zn,gQ a,gQ j],J.refl _ _⟩
theorem avH(a b:(Int×List ed))(h:I):Pure mP 55 [.agg (cq a),.agg (cq b)] h (.int gj (zn a.1 b.1)):=by
 refine Pure.val (bf.int _ _) ?_;refine a7 aE3 rfl ?_;have i:(kB (cq a)).cells=eL (cq a):=rfl;have j:(kB (cq b)).cells=eL (cq b):=rfl;have m:cI (aP.cells (cq a) 90 eN) 0=eL (cq a):=rfl;have q:cI (aP.cells (cq b) 90 eN) 0=eL (cq b):=rfl;have s:cw (eL eN) (eL (cq a))=eL (.int gj a.1):=rfl;have u:cw (eL eN) (eL (cq b))=eL (.int gj b.1):=rfl;have z:J h ((h.push (.cells (cq a) 90 eN)).push (.cells (cq b) 90 eN)) kR:=(J.push _ _ _).trans' (J.push _ _ _);simp only[ae,ds,al,i,j,m,q,s,u];refine bE (ahg _ a.1 b.1) ?_;simp only[ae,ds,aJ];exact ar ⟨rfl,z⟩
theorem avI(h:I)(x:V)(l:List (Int×List ed))(j:Own h 90 3 x (l.flatMap cq))(u:l.length<=2^40) :
  au mP 54 [x,.func (.func 55) [] []] h λr h'=>r=.tuple []/\J h h' (bb x)/\∃i:List (Int×List ed),i.Perm l/\(i.Pairwise λa b=>¬b.1<a.1)/\Own h' 90 3 x (i.flatMap cq):=by
 have e:∀a b:(Int×List ed),ltOf (λa b:(Int×List ed)=>zn a.1 b.1) a b=decide (a.1<b.1):=λa b=>by
  unfold ltOf zn;rw[ay2];simp only[ig];split<;>(try split)<;>omega
 refine(avB (cf:=λa b=>zn a.1 b.1) ⟨λa=>by rw[e];simp,λa b c m q=>by rw[e]at *;simp at *;omega,λa b c m q=>by rw[e]at *;simp at *;omega⟩
  (λa b=>(avH a b y0).mono λr h' U=>U.1) (enters_of aE3 (by kernel_rfl) rfl) h x l j u).mono λr h' ⟨m,q,i,z,A,j⟩=>⟨m,q,i,z,A.imp λ{a b} s=>by rw[e]at s;simpa using s,j⟩
theorem avJ(a b:oM)(h:I):Pure mP 58 [.agg (cQ a),.agg (cQ b)] h (.int gj (zn a.t b.t)):=by
 refine Pure.val (bf.int _ _) ?_;refine a7 aE4 rfl ?_;have i:(kB (cQ a)).cells=eL (cQ a):=rfl;have j:(kB (cQ b)).cells=eL (cQ b):=rfl;have m:cI (aP.cells (cQ a) 57 eN) 0=eL (cQ a):=rfl;have q:cI (aP.cells (cQ b) 57 eN) 0=eL (cQ b):=rfl;have s:cw (eL eN) (eL (cQ a))=eL (.int gj a.t):=rfl;have u:cw (eL eN) (eL (cQ b))=eL (.int gj b.t):=rfl;have z:J h ((h.push (.cells (cQ a) 57 eN)).push (.cells (cQ b) 57 eN)) kR:=(J.push _ _ _).trans' (J.push _ _ _);simp only[ae,ds,al,i,j,m,q,s,u];refine bE (ahg _ a.t b.t) ?_;simp only[ae,ds,aJ];exact ar ⟨rfl,z⟩
theorem avK(h:I)(x:V)(l:List oM)(j:Own h 57 6 x (l.flatMap cQ))(u:l.length<=2^40) :
  au mP 57 [x,.func (.func 58) [] []] h λr h'=>r=.tuple []/\J h h' (bb x)/\∃i:List oM,i.Perm l/\(i.Pairwise λa b=>¬b.t<a.t)/\Own h' 57 6 x (i.flatMap cQ):=by
 have e:∀a b:oM,ltOf (λa b:oM=>zn a.t b.t) a b=decide (a.t<b.t):=λa b=>by
  unfold ltOf zn;rw[ay2];simp only[ig];split<;>(try split)<;>omega
 refine(avG (cf:=λa b=>zn a.t b.t) ⟨λa=>by rw[e];simp,λa b c m q=>by rw[e]at *;simp at *;omega,λa b c m q=>by rw[e]at *;simp at *;omega⟩
  (λa b=>(avJ a b y0).mono λr h' U=>U.1) (enters_of aE4 (by kernel_rfl) rfl) h x l j u).mono λr h' ⟨m,q,i,z,A,j⟩=>⟨m,q,i,z,A.imp λ{a b} s=>by rw[e]at s;simpa using s,j⟩
theorem avL(h:I)(p:Int×List ed):am mP 31 1 [(0,.agg (cq p))] h=eL (.bh h.n 0 1 1,h.push (.cells (cq p) 90 eN)):=by rw[nm ab9];rfl
theorem avM(h:I)(p:oM):am mP 32 1 [(0,.agg (cQ p))] h=eL (.bh h.n 0 1 1,h.push (.cells (cQ p) 57 eN)):=by rw[nm aca];rfl
theorem avN{aG h:I}{j D B eC:Nat}{s:oK}{L T:lz}(w:yf aG h j D s L B T eC)(fL:L.length<=2^30) :
  au mP 28 [.agg [.map j,.map D]] h (λr h'=>∃z:List (Int×List ed),z.Perm (L.map λe=>(e.2.1,s.logs e.2.1))/\(z.Pairwise λa b=>¬b.1<a.1)/\Acc h h' 90 3 r (z.flatMap cq)):=by
 obtain⟨q,Y⟩:∃q,eQ mP 71=eL q:=by
  obtain⟨jm,F,_⟩:=YU;exact⟨_,F⟩
 refine a7 Tryz.func28 rfl ?_;have aw:(kB [.map j,.map D]).cells=eL [.map j,.map D]:=rfl;have Pb:(h.push (.cells [.map j,.map D] 74 eN)).get j=.map (iV L) B:=(iZ w.FJ).trans w.pX;have mj:=JU Y Pb;have fx:(L.map (·.1)).Nodup:=by
  have:=w.ou.2;rwa[show(iV L).map (·.1)=L.map (·.1)from abJ L]at this
 have Z:=w.FJ;simp only[ae,ds,AT,al,aw,mj];refine aT.bG (α:=lz) (λA f h'=>f 8=.ptr (h.n+1) 0/\h.n+1<h'.n/\h'.get (h.n+1)=.iter j B (A.map (·.1)) B/\Acc h h' 90 3 (f 3) ((A.map λe=>(e.2.1,s.logs e.2.1)).flatMap cq) /\
  aS (f 3)≠eL (h.n+1)/\(∀e∈A,e∈L)/\(A.map (·.1)).Nodup) (λA=>(nj (iV L) (A.map (·.1))).length) []
  ⟨rfl,by simp only[dn];omega,by simp[I.push],Acc.nil ((J.push _ _ _).trans' (J.push _ _ _)),(show aS V.ah≠eL (h.n+1)by simp[aS]),by simp,by simp⟩ ?_
 rintro A f G ⟨O,c6,ns,u,Q,lQ,qV⟩
 have fe:G.get j=.map (iV L) B:=(u.ai.get j Z (by simp[kR])).trans w.pX;refine wpS ?_;simp only[ae,O];refine JS ns fe w.ou (λiH=>?_) λe M=>?_
 .have aX:=abL fx qV lQ (abM iH);have k6:=aX.length_eq;simp only[ae,ds];refine cp (avI G (f 3) _ u.own (by rw[ajD];omega)) λr aD ⟨az,k3,z,pl,lx,ec⟩=>?_;subst az;simp only[ae,ds,aJ];exact ar ⟨z,pl.trans (aX.map _),lx,ec,u.ai.trans k3 λq Y e=>by have:=u.new q e;omega,u.new⟩
 .obtain⟨x,af,rfl,ta⟩:=abN M;have C:=Lr M;obtain⟨n3,vZ,IF⟩:=abO qV lQ af ta;obtain⟨ny,eo,FM⟩:=w.has x.2.1 x.2.2 (rj w.lU af);obtain⟨xs,i,S⟩:=x;simp only at C M ta ny eo FM;generalize hH:G.set (h.n+1) (.iter j B (A.map (·.1)++[xs]) B)=H;have N:Acc h H 90 3 (f 3) ((A.map λe=>(e.2.1,s.logs e.2.1)).flatMap cq):=by rw[<-hH];exact u.set (by omega) Q _
  have hx:H.n=G.n:=by rw[<-hH];rfl
  have je:H.get (h.n+1)=.iter j B (A.map (·.1)++[xs]) B:=by rw[<-hH];exact aM
  have Cx:H.get j=.map (iV L) B:=(N.ai.get j Z (by simp[kR])).trans w.pX;have sb:=JT je Cx w.ou (ajA.1 M).1;simp only at sb;have B4:H.get S=.cells (cq (i,s.logs i)) 90 none:=(N.ai.get S FM (by simp[kR])).trans ny;have Dz:cI (aP.cells (cq (i,s.logs i)) 90 eN) 0=eL (cq (i,s.logs i)):=rfl;have ka:(cq (i,s.logs i)).take 3=cq (i,s.logs i):=rfl;have JC:=KE (i,s.logs i);have W:=avL H (i,s.logs i);obtain⟨b3,br,dr,mK,X,d4⟩:=Gy (P:=mP) ab9 (by decide) N.own (xs:=cq (i,s.logs i)) rfl rfl (λm F=>by
   change m*3=_+3 at F;rw[ft KE,ajD]at F;exact⟨by simp only[lim];omega,by simp only[lim];omega⟩)
  have a4:=N.step mK X d4;have Uo:=X.n;simp only[ae,ds,al,O,sb,B4,Dz,ka,JC,W,dr];refine ar ⟨A++[(xs,i,S)],⟨O,by omega,?_,a4.conv ?_,?_,vZ,n3⟩,?_⟩
  .rw[X.get (h.n+1) (by omega) (λU=>Q U),je];simp
  .rw[ay1,ay3,ajF,azd];simp
  .intro U;rcases d4 with d|d
   .exact Q (d▸U)
   .have:=d _ U;omega
  .rw[ay1];exact C
theorem avO{aG h:I}{G i lc z:Nat}{s:oK}{L T:lz}(w:yf aG h G i s L lc T z)(fL:T.length<=2^30) :
  au mP 29 [.agg [.map G,.map i]] h (λr h'=>∃B:List oM,B.Perm (T.map λe=>mO e.2.1 (bB s e.2.1))/\(B.Pairwise λa b=>¬b.t<a.t)/\Acc h h' 57 6 r (B.flatMap cQ)):=by
 obtain⟨q,ab⟩:∃q,eQ mP 72=eL q:=by
  obtain⟨jm,M,_⟩:=YT;exact⟨_,M⟩
 refine a7 Tryz.func29 rfl ?_;have aw:(kB [.map G,.map i]).cells=eL [.map G,.map i]:=rfl;have Pb:(h.push (.cells [.map G,.map i] 74 eN)).get i=.map (iV T) z:=(iZ w.FK).trans w.gt;have mj:=JU ab Pb;have fx:(T.map (·.1)).Nodup:=by
  have:=w.ov.2;rwa[show(iV T).map (·.1)=T.map (·.1)from abJ T]at this
 have aC:=w.FK;simp only[ae,ds,AT,By,al,aw,mj];refine aT.bG (α:=lz) (λA f h'=>f 9=.ptr (h.n+1) 0/\h.n+1<h'.n/\h'.get (h.n+1)=.iter i z (A.map (·.1)) z/\Acc h h' 57 6 (f 3) ((A.map λe=>mO e.2.1 (bB s e.2.1)).flatMap cQ) /\
  aS (f 3)≠eL (h.n+1)/\(∀e∈A,e∈T)/\(A.map (·.1)).Nodup) (λA=>(nj (iV T) (A.map (·.1))).length) []
  ⟨rfl,by simp only[dn];omega,by simp[I.push],Acc.nil ((J.push _ _ _).trans' (J.push _ _ _)),(show aS V.ah≠eL (h.n+1)by simp[aS]),by simp,by simp⟩ ?_
 rintro A f N ⟨W,c6,ns,u,X,lQ,qV⟩
 have fe:N.get i=.map (iV T) z:=(u.ai.get i aC (by simp[kR])).trans w.gt;refine wpS ?_;simp only[ae,W];refine JS ns fe w.ov (λiH=>?_) λe O=>?_
 .have aX:=abL fx qV lQ (abM iH);have k6:=aX.length_eq;simp only[ae,ds];refine cp (avK N (f 3) _ u.own (by rw[ajD];omega)) λr aD ⟨az,k3,B,pl,lx,ec⟩=>?_;subst az;simp only[ae,ds,aJ];exact ar ⟨B,pl.trans (aX.map _),lx,ec,u.ai.trans k3 λq ab e=>by have:=u.new q e;omega,u.new⟩
 .obtain⟨x,af,rfl,ta⟩:=abN O;have D:=Lr O;obtain⟨n3,vZ,IF⟩:=abO qV lQ af ta;obtain⟨j,ny,eo,FM⟩:=w.lC x.2.1 x.2.2 (rj w.lV af);obtain⟨xs,C,Q⟩:=x;simp only at D O ta ny eo FM;have I8:bB s C=j:=by unfold bB;rw[ny];rfl
  generalize hH:N.set (h.n+1) (.iter i z (A.map (·.1)++[xs]) z)=H;have S:Acc h H 57 6 (f 3) ((A.map λe=>mO e.2.1 (bB s e.2.1)).flatMap cQ):=by rw[<-hH];exact u.set (by omega) X _
  have hx:H.n=N.n:=by rw[<-hH];rfl
  have je:H.get (h.n+1)=.iter i z (A.map (·.1)++[xs]) z:=by rw[<-hH];exact aM
  have Cx:H.get i=.map (iV T) z:=(S.ai.get i aC (by simp[kR])).trans w.gt;have sb:=JT je Cx w.ov (ajA.1 O).1;simp only at sb;have B4:H.get Q=.cells (wk C j) 125 none:=(S.ai.get Q FM (by simp[kR])).trans eo;obtain⟨F,bN,k2,vY,Ry⟩:=bU H (.cells (cQ (mO C j)) 57 eN);have G6:=S.on k2;have Y:am mP 32 1 [(0,.agg [.int gj C,.int gj j.ep,.int gj j.tx,.ag j.offs.length (ax j.offs),.ag j.ord.length (ax j.ord),.int gj (j.opn.length:Nat)])] F=eL (.bh F.n 0 1 1,F.push (.cells (cQ (mO C j)) 57 eN)):=avM F (mO C j);have fW:H.push (.cells [.int gj C,.int gj j.ep,.int gj j.tx,.ag j.offs.length (ax j.offs),.ag j.ord.length (ax j.ord),.int gj (j.opn.length:Nat)] 57 eN)=F:=by rw[bN];rfl
  obtain⟨b3,br,dr,mK,Z,d4⟩:=Gy (P:=mP) aca (by decide) G6.own (xs:=cQ (mO C j)) rfl rfl (λm M=>by
   change m*6=_+6 at M;rw[ft KG,ajD]at M;exact⟨by simp only[lim];omega,by simp only[lim];omega⟩)
  have a4:=G6.step mK Z d4;have Uo:=Z.n;have g1:F.get (h.n+1)=.iter i z (A.map (·.1)++[xs]) z:=(k2.get (h.n+1) (by omega) (by simp[kR])).trans je;have ay:=S.ai.n;have aa:F.get H.n=.cells [.int gj C,.int gj j.ep,.int gj j.tx,.ag j.offs.length (ax j.offs),.ag j.ord.length (ax j.ord),.int gj (j.opn.length:Nat)] 57 none:=vY;have av:∀o,(H.push o).get Q=.cells (wk C j) 125 none:=λo=>(iZ (by omega)).trans B4;simp only[ae,ds,AT,By,al,Ml,W,sb,B4,av,aa,wk,fW,Y,dr];refine ar ⟨A++[(xs,C,Q)],⟨W,by omega,?_,a4.conv ?_,?_,vZ,n3⟩,?_⟩
  .rw[Z.get (h.n+1) (by omega) (λU=>X U),g1];simp
  .rw[ay1,ay3,ajF,azd,I8];simp
  .intro U;rcases d4 with d|d
   .exact X (d▸U)
   .have:=d _ U;omega
  .rw[ay1];exact D
theorem HF{l i:List V}{h j:I}(a:aE l h i j):aK (.agg l) h (.agg i) j:=fun ρ B m w F q s=>by
 cases s with
 | agg u z=>
  rename_i xs;obtain⟨ρ1,A,C,D⟩:=a ρ B m w xs.toList q ⟨by simpa using u,by simpa using z⟩;exact⟨ρ1,A,C,D.lW.agg⟩
theorem v6{α:Type}{key:α->Int}{l:List α}(j:(l.map key).Nodup)(m:l.Pairwise λa b=>¬key b<key a):l.Pairwise λa b=>key a<key b:=by
 have i:l.Pairwise λa b=>key a≠key b:=azt.1 j;exact(i.and m).imp λ⟨i,q⟩=>by omega
theorem yf.KH{z h:I}{lm cu A B:Nat}{l:List bz}{L T:lz}(w:yf z h lm cu (en l) L A T B){out:List (Int×List ed)}(j:out.Perm (L.map λe=>(e.2.1,(en l).logs e.2.1)))(C:out.Pairwise λa b=>¬b.1<a.1):out=yg l:=by
 have D:(out.map (·.1)).Nodup:=by
  refine(j.map (·.1)).nodup_iff.2 ?_;rw[azn];exact w.lU
 refine Zg (key:=(·.1)) (λp=>?_) (v6 (key:=λp:Int×List ed=>p.1) D C) (HD l).ag6;rw[j.mem_iff,(HD l).lm,OF]
 constructor
 .rintro⟨e,i,rfl⟩
  exact⟨rfl,(w.has _ _ (rj w.lU i)).2.1⟩
 .rintro⟨s,F⟩
  cases u:bR L p.1 with
  | none=>exact absurd (w.lB _ u) (s▸F)
  | some b=>
   obtain⟨e,i,bd⟩:=L7 u;refine⟨e,i,?_⟩;rw[bd,<-s]
theorem yf.wm{A h:I}{lm cu B C:Nat}{l:List bz}{L T:lz}(w:yf A h lm cu (en l) L B T C){out:List oM}(u:out.Perm (T.map λe=>mO e.2.1 (bB (en l) e.2.1)))(D:out.Pairwise λa b=>¬b.t<a.t):out=yh l:=by
 have F:(out.map (·.t)).Nodup:=by
  refine(u.map (·.t)).nodup_iff.2 ?_;rw[azn];exact w.lV
 refine Zg (key:=(·.t)) (λp=>?_) (v6 (key:=λp:oM=>p.t) F D) (HD l).ag7;rw[u.mem_iff,(HD l).cu,OF]
 constructor
 .rintro⟨e,s,rfl⟩
  obtain⟨j,i,_⟩:=w.lC _ _ (rj w.lV s);exact⟨j,i,by unfold bB;rw[show(mO e.2.1 ((en l).tasks e.2.1 |>.getD xl)).t=e.2.1 from rfl,i];rfl⟩
 .rintro⟨j,i,G⟩
  cases z:bR T p.t with
  | none=>rw[w.lD _ z]at i;cases i
  | some b=>
   obtain⟨e,s,bd⟩:=L7 z;refine⟨e,s,?_⟩;rw[bd];unfold bB;rw[i];exact G.symm
theorem yf.len{z h:I}{lm cu A B:Nat}{l:List bz}{L T:lz}(w:yf z h lm cu (en l) L A T B):L.length<=l.length/\T.length<=l.length:=by
 have aO:=Sg _ l rfl;have i:(L.map (·.2.1)).length<=(l.map (·.log)).length:=aAy.length_le_of_subset w.lU λk s=>by
  obtain⟨e,u,rfl⟩:=OF.1 s;exact aO.oL _ (w.has _ _ (rj w.lU u)).2.1
 have C:(T.map (·.2.1)).length<=(l.map (·.task)).length:=aAy.length_le_of_subset w.lV λk s=>by
  obtain⟨e,u,rfl⟩:=OF.1 s;obtain⟨j,i,_⟩:=w.lC _ _ (rj w.lV u);exact(aO.ka _ _ i).1
 simpa using And.intro i C
theorem ahj:∀a:List ed,(ek a).all (·.one)=e6
 | []=>rfl
 | p::a=>by
  show(ly p.1++ek a).all (·.one)=e6;rw[aAt,ahj a];rfl
theorem ahk:∀a:List ed,(e2 a).all (·.one)=e6
 | []=>rfl
 | p::a=>by
  show((V.bool p.2).one&&(e2 a).all (·.one))=e6;rw[ahk a];rfl
theorem ahl(h:I):am mP 25 0 [] h=eL (.bh h.n 0 0 0,h.push (.cells [] 45 eN)):=by rw[nm EN];rfl
theorem ahm(h:I):Acc h (h.push (.cells [] 45 eN)) 45 3 (.bh h.n 0 0 0) (ek []) :=
 ⟨.inr ⟨h.n,0,0,[],eN,rfl,azK _,ac,rfl,rfl,.inl ⟨by simp[b9],BY _,BY _⟩⟩,J.push _ _ _,λk a=>by simp[aS]at a;omega⟩
theorem avP(l:List ed)(C:l.length<=2^40)(h:I):Pure mP 78 [.ag l.length (ek l)] h (.ag l.length (ek l)):=by
 refine Pure.of (bf.ag (ag2 _)) ?_;cases l with
 | nil=>
  refine au.vK ?_ ?_
  .refine a7 aDy rfl ?_;have e:=L8 (xo:=.tmp 3) (yo:=.const (.slice eN 0 0)) r4;simp only[ae,ds,reduceCtorEq,e,aJ];exact ar ⟨h,aK.lI h,J.refl _ _⟩
  .refine a7 aDy rfl ?_;have e:∀a i,cB mP .eql 25 a i .fX .ah=eL (.bool fr):=λa i=>V1 r4;obtain⟨D,F,az,s⟩:=Acc.sD (P:=mP) (tx:=25) EN (ahm h) (by decide) (V3 r4) rfl (λm j=>by
    change m*3=_ at j;obtain rfl:m=0:=by simp[ek]at j;omega
    exact⟨by decide,by decide⟩)
   have u:=ahl h;simp only[ae,ds,reduceCtorEq,e,u,az,aJ];obtain⟨z,A,B⟩:=s.cast (n:=0) rfl (by decide);exact ar ⟨z,A,B⟩
 | cons x l=>
  refine a7 aDy rfl ?_;have e:∀a i,cB mP .eql 25 a i (.ag (x::l).length (ek (x::l))) .ah=eL (.bool fr):=λa i=>V2 r4 (by simp);obtain⟨D,F,az,s⟩:=Acc.sD (P:=mP) (tx:=25) EN (ahm h) (by decide) (JQ r4 (Hy _) (ahj (x::l))) (Hy _) (λm j=>by
   change m*3=(ek []).length+(ek (x::l)).length at j;rw[Hy,Hy,ayx]at j;exact⟨by simp only[lim];omega,by simp only[lim];omega⟩)
  have u:=ahl h;generalize(x::l)=q at e az s C⊢;simp only[ae,ds,reduceCtorEq,e,u,az,aJ];obtain⟨z,A,B⟩:=s.cast (n:=q.length) (by rw[show ek []=[]from rfl,aze,Hy]) (by decide);exact ar ⟨z,A,B⟩
theorem ahn(h:I):am mP 88 0 [] h=eL (.bh h.n 0 0 0,h.push (.cells [] 4 eN)):=by rw[nm J6];rfl
theorem aho(h:I):Acc h (h.push (.cells [] 4 eN)) 4 1 (.bh h.n 0 0 0) (e2 []) :=
 ⟨.inr ⟨h.n,0,0,[],eN,rfl,azK _,ac,rfl,rfl,.inl ⟨by simp[b9],BY _,BY _⟩⟩,J.push _ _ _,λk a=>by simp[aS]at a;omega⟩
theorem avQ(l:List ed)(C:l.length<=2^40)(h:I):Pure mP 79 [.ag l.length (e2 l)] h (.ag l.length (e2 l)):=by
 refine Pure.of (bf.ag (Zc _)) ?_;cases l with
 | nil=>
  refine au.vK ?_ ?_
  .refine a7 aDz rfl ?_;have e:=L8 (xo:=.tmp 3) (yo:=.const (.slice eN 0 0)) Dn;simp only[ae,ds,reduceCtorEq,e,aJ];exact ar ⟨h,aK.lI h,J.refl _ _⟩
  .refine a7 aDz rfl ?_;have e:∀a i,cB mP .eql 88 a i .fX .ah=eL (.bool fr):=λa i=>V1 Dn;obtain⟨D,F,az,s⟩:=Acc.sD (P:=mP) (tx:=88) J6 (aho h) (by decide) (V3 Dn) rfl (λm j=>by
    change m*1=_ at j;obtain rfl:m=0:=by simp[e2]at j;omega
    exact⟨by decide,by decide⟩)
   have u:=ahn h;simp only[ae,ds,reduceCtorEq,e,u,az,aJ];obtain⟨z,A,B⟩:=s.cast (n:=0) rfl (by decide);exact ar ⟨z,A,B⟩
 | cons x l=>
  refine a7 aDz rfl ?_;have e:∀a i,cB mP .eql 88 a i (.ag (x::l).length (e2 (x::l))) .ah=eL (.bool fr):=λa i=>V2 Dn (by simp);obtain⟨D,F,az,s⟩:=Acc.sD (P:=mP) (tx:=88) J6 (aho h) (by decide) (JQ Dn (KF _) (ahk (x::l))) (KF _) (λm j=>by
   change m*1=(e2 []).length+(e2 (x::l)).length at j;rw[KF,KF,ayx]at j;exact⟨by simp only[lim];omega,by simp only[lim];omega⟩)
  have u:=ahn h;generalize(x::l)=q at e az s C⊢;simp only[ae,ds,reduceCtorEq,e,u,az,aJ];obtain⟨z,A,B⟩:=s.cast (n:=q.length) (by rw[show e2 []=[]from rfl,aze,KF]) (by decide);exact ar ⟨z,A,B⟩
theorem ahp{l:List (Int×List ed)}{k:Nat}(a:k<l.length){kk:aPh}:hC mP 31 (.ag l.length (l.flatMap cq)) (.int kk (k:Int))=eL (.at (cq l[k]++(l.drop (k+1)).flatMap cq)):=r0 (enc:=cq) (sz:=3) KE a apV
theorem avR(x:Int×List ed)(r:List V):cw (eL (eL 3)) (eL (cq x++r))=eL (.agg (cq x)):=j1 (KE x)
theorem ahq{l:List oM}{k:Nat}(a:k<l.length){kk:aPh}:hC mP 32 (.ag l.length (l.flatMap cQ)) (.int kk (k:Int))=eL (.at (cQ l[k]++(l.drop (k+1)).flatMap cQ)):=r0 (enc:=cQ) (sz:=6) KG a apW
theorem ahr(x:oM)(r:List V):cw (eL (eL 6)) (eL (cQ x++r))=eL (.agg (cQ x)):=j1 (KG x)
theorem avS(c:Int×List ed)(n:Int)(h:I)(i:Nat)(a:i<h.n)(j:h.get i=.cells [.int gj n] 3 eN):Pure mP 77 [.agg (cq c),.ptr i 0] h (.bool (c.1==n)):=by
 refine Pure.val (bf.bool _) ?_;refine a7 Tryz.func77 rfl ?_;have cc:(kB (cq c)).cells=eL (cq c):=rfl;have m:(h.push (.cells (cq c) 90 eN)).get i=.cells [.int gj n] 3 none:=(iZ a).trans j;have q:cI (aP.cells (cq c) 90 eN) 0=eL (cq c):=rfl;have s:cw (eL eN) (eL (cq c))=eL (.int gj c.1):=rfl;simp only[ae,ds,al,cc,m,q,s,aJ];exact ar ⟨rfl,J.push _ _ _⟩
theorem avT(c:oM)(n:Int)(h:I)(i:Nat)(a:i<h.n)(j:h.get i=.cells [.int gj n] 3 eN):Pure mP 48 [.agg (cQ c),.ptr i 0] h (.bool (c.t==n)):=by
 refine Pure.val (bf.bool _) ?_;refine a7 Tryz.func48 rfl ?_;have cc:(kB (cQ c)).cells=eL (cQ c):=rfl;have m:(h.push (.cells (cQ c) 57 eN)).get i=.cells [.int gj n] 3 none:=(iZ a).trans j;have q:cI (aP.cells (cQ c) 57 eN) 0=eL (cQ c):=rfl;have s:cw (eL eN) (eL (cQ c))=eL (.int gj c.t):=rfl;simp only[ae,ds,al,cc,m,q,s,aJ];exact ar ⟨rfl,J.push _ _ _⟩
def rK{α:Type}(p:α->Bool)(l:List α):Int:=if l.findIdx p<l.length then(l.findIdx p:Int)else -1
theorem ahs{α:Type}{p:α->Bool}{l:List α}{j:Nat}(a:j<l.length)(m:p l[j]=e6)(q:∀k (i:k<j),p (l[k]'(by omega))=fr):rK p l=(j:Int):=by
 have e:l.findIdx p=j:=(List.findIdx_eq a).2 ⟨m,λk i=>q k i⟩;unfold rK;rw[e,gr a]
theorem aht{α:Type}{p:α->Bool}{l:List α}(a:∀x∈l,p x=fr):rK p l=-1:=by
 unfold rK;rw[gQ];rw[aE5]
 rintro⟨x,i,h⟩
 rw[a x i]at h;cases h
theorem Zj(l:List (Int×List ed))(O:l.length<=2^30)(n:Int)(h:I)(i:Nat)(hi:i<h.n)(D:h.get i=.cells [.int gj n] 3 eN) :
  Pure mP 76 [.ag l.length (l.flatMap cq),.func (.func 77) [] [.ptr i 0]] h (.int gj (rK (λc=>c.1==n) l)):=by
 refine Pure.val (bf.int _ _) ?_;refine a7 Tryz.func76 rfl ?_;simp only[ae,Js,ds,reduceCtorEq,Q6];refine aT.bG (α:=Nat) (λj f h'=>f 0=.ag l.length (l.flatMap cq)/\f 1=.func (.func 77) [] [.ptr i 0]/\f 7=.int gj (l.length:Int)/\f 8=.int gj (j:Nat)/\j<=l.length/\h'=h/\(∀k (a:k<l.length),k<j->(l[k].1==n)=fr)) (λj=>l.length-j) 0 ⟨rfl,rfl,rfl,rfl,D8 _,rfl,λk _ a=>by omega⟩ ?_
 rintro j f F ⟨z,A,m,q,Q,rfl,s⟩
 refine wpS ?_;by_cases B:j<l.length
 .have u:=dK j l.length;have G:=ahp (kk:=.i64) B;have H:=avR;have L:=iM j;simp only[ae,ds,reduceCtorEq,al,z,A,m,q,u,G,H];refine bE (avS l[j] n F i hi D) ?_;cases C:(l[j].1==n)
  .simp only[ae,Js,ds,q,L];exact ar ⟨j+1,⟨z,A,m,rfl,by omega,rfl,λk a M=>by
    by_cases e:k=j
    .subst e;exact C
    .exact s k a (by omega)⟩,by omega⟩
  .simp only[ae,Js,ds,aJ];exact ar ⟨by rw[ahs B C (λk a=>s k (by omega) a)],J.refl _ _⟩
 .have u:=dY j l.length;simp only[ae,Js,ds,m,q,u,aJ];exact ar ⟨by rw[aht λx N=>by obtain⟨k,a,rfl⟩:=aDv N;exact s k a (by omega)],J.refl _ _⟩
theorem Zk(l:List oM)(O:l.length<=2^30)(n:Int)(h:I)(i:Nat)(hi:i<h.n)(D:h.get i=.cells [.int gj n] 3 eN) :
  Pure mP 47 [.ag l.length (l.flatMap cQ),.func (.func 48) [] [.ptr i 0]] h (.int gj (rK (λc=>c.t==n) l)):=by
 refine Pure.val (bf.int _ _) ?_;refine a7 Tryz.func47 rfl ?_;simp only[ae,Js,ds,reduceCtorEq,Q7];refine aT.bG (α:=Nat) (λj f h'=>f 0=.ag l.length (l.flatMap cQ)/\f 1=.func (.func 48) [] [.ptr i 0]/\f 7=.int gj (l.length:Int)/\f 8=.int gj (j:Nat)/\j<=l.length/\h'=h/\(∀k (a:k<l.length),k<j->(l[k].t==n)=fr)) (λj=>l.length-j) 0 ⟨rfl,rfl,rfl,rfl,D8 _,rfl,λk _ a=>by omega⟩ ?_
 rintro j f F ⟨z,A,m,q,Q,rfl,s⟩
 refine wpS ?_;by_cases B:j<l.length
 .have u:=dK j l.length;have G:=ahq (kk:=.i64) B;have H:=ahr;have L:=iM j;simp only[ae,ds,reduceCtorEq,al,z,A,m,q,u,G,H];refine bE (avT l[j] n F i hi D) ?_;cases C:(l[j].t==n)
  .simp only[ae,Js,ds,q,L];exact ar ⟨j+1,⟨z,A,m,rfl,by omega,rfl,λk a M=>by
    by_cases e:k=j
    .subst e;exact C
    .exact s k a (by omega)⟩,by omega⟩
  .simp only[ae,Js,ds,aJ];exact ar ⟨by rw[ahs B C (λk a=>s k (by omega) a)],J.refl _ _⟩
 .have u:=dY j l.length;simp only[ae,Js,ds,m,q,u,aJ];exact ar ⟨by rw[aht λx N=>by obtain⟨k,a,rfl⟩:=aDv N;exact s k a (by omega)],J.refl _ _⟩
def logAt(l:List (Int×List ed))(n:Int):List ed:=((l.find? λc=>c.1==n).map (·.2)).getD []
def qx(l:List oM)(n:Int):oM:=(l.find? λc=>c.t==n).getD ⟨n,0,0,[],[],0⟩
theorem ahv{α:Type}{p:α->Bool}{l:List α}:(rK p l=-1/\l.find? p=eN)\/∃k,∃m:k<l.length,rK p l=(k:Int)/\l.find? p=eL l[k]:=by
 by_cases h:l.findIdx p<l.length
 .refine .inr ⟨_,h,by unfold rK;rw[gr h],?_⟩;rw[List.find?_eq_some_iff_getElem];exact⟨List.findIdx_getElem,_,h,rfl,λj a=>by have:=List.not_of_lt_findIdx a;simpa using this⟩
 .refine .inl ⟨by unfold rK;rw[gQ h],?_⟩;rw[aE5]at h;rw[List.find?_eq_none];exact λx i U=>h ⟨x,i,U⟩
def pr(t:sn):Prop:=t.logs.length<=2^30/\t.tasks.length<=2^30/\(∀p∈t.logs,p.2.length<=2^30)/\∀x∈t.tasks,x.offs.length<=2^30/\x.ord.length<=2^40
theorem ahw(t:sn)(s:pr t)(n:Int)(h:I):Pure mP 36 [.agg (ca t),.int gj n] h (.agg (cq (n,logAt t.logs n))):=by
 refine Pure.of (bf.agg (Se _)) ?_;refine a7 Tryz.func36 rfl ?_;have Z:(kB (ca t)).cells=eL (ca t):=rfl;obtain⟨H,hH⟩:∃y,y=(((h.push (.cells (ca t) 34 eN)).push (.cells [.int gj n] 3 eN)).push (.cells [.int gj 0,.ah,.ah] 90 eN)).push (.cells [.int gj n,.ah,.ah] 90 eN):=⟨_,rfl⟩;have M:J h H kR:=by rw[hH];exact(((J.push _ _ _).trans' (J.push _ _ _)).trans' (J.push _ _ _)).trans' (J.push _ _ _)
 have hx:H.n=h.n+4:=by rw[hH];simp only[dn]
 have N:H.get h.n=.cells (ca t) 34 none:=by rw[hH,iZ (by simp only[dn];omega),iZ (by simp only[dn];omega),iZ (by simp only[dn];omega)];exact ac
 have g1:H.get (h.n+1)=.cells [.int gj n] 3 none:=by rw[hH];simp[I.push]
 have O:H.get (h.n+2)=.cells [.int gj 0,.ah,.ah] 90 none:=by rw[hH];simp[I.push]
 have Q:H.get (h.n+3)=.cells [.int gj n,.ah,.ah] 90 none:=by rw[hH];simp[I.push]
 have st:bD (eL 3) (aP.cells [kA gj 0,.ah,.ah] 90 eN) 0 [.int gj n,.ah,.ah]=eL (.cells [.int gj n,.ah,.ah] 90 eN):=rfl;have S:cI (aP.cells (ca t) 34 eN) 0=eL (ca t):=rfl;have u:cw (eL eN) (eL (ca t))=eL (.ag t.logs.length (t.logs.flatMap cq)):=rfl;simp only[ae,ds,AT,By,al,Z,st];rw[<-hH];clear hH;simp only[ae,ds,u];refine bE (Zj t.logs s.1 n H (h.n+1) (by omega) g1) ?_;rcases ahv (p:=λc:Int×List ed=>c.1==n) (l:=t.logs)with⟨az,bd⟩|⟨k,T,az,bd⟩
 .have z:logAt t.logs n=[]:=by unfold logAt;rw[bd];rfl
  have W:decide (-1 >= (0:Int))=false:=rfl;rw[z];have A:bD (eL 3) (aP.cells [kA gj 0,.ah,.ah] 90 eN) 0 [.int gj n,.ah,.ah]=eL (.cells [.int gj n,.ah,.ah] 90 eN):=rfl;simp only[ae,Int.reduceLE,Js,ds,AT,al,az,Q,O,A,aJ];refine ar ⟨_,HF (aE.cons (aK.refl _ _) (aE.cons (aK.h3 _) (aE.cons (aK.h3 _) (aE.refl _ _)))),M.trans (J.set _ _ _) λq B U=>by omega⟩
 .have z:logAt t.logs n=t.logs[k].2:=by unfold logAt;rw[bd];rfl
  have fy:=s.2.2.1 _ (ayz T);have hll:=s.1;have C:=ahp (kk:=.i64) T;rw[z];generalize t.logs[k]=c at *;obtain⟨X,a⟩:=c;have Ie:a.length<=2^30:=fy;have ex:cq (X,a)=[.int gj X,.ag a.length (ek a),.ag a.length (e2 a)]:=rfl;rw[ex]at C;have W:decide ((k:Int) >= 0)=true:=hO (by omega);have O6:bD (eL 1) (aP.cells [kA gj n,.ah,.ah] 90 eN) 1 [.ag a.length (ek a)]=eL (.cells [.int gj n,.ag a.length (ek a),.ah] 90 eN):=rfl;have Fq:bD (eL 1) (aP.cells [kA gj n,.ag a.length (ek a),.ah] 90 eN) 2 [.ag a.length (e2 a)]=eL (.cells [.int gj n,.ag a.length (ek a),.ag a.length (e2 a)] 90 eN):=rfl;simp only[ae,ds,By,al,az,W,N,S,u,C];refine bE (avP a (by omega) _) ?_;obtain⟨i,j⟩:∃y,y=H.set (h.n+3) (.cells [.int gj n,.ag a.length (ek a),.ah] 90 eN):=⟨_,rfl⟩;have m:J H i (·=h.n+3):=by rw[j];exact J.set _ _ _
  have Na:=(m.get h.n (by omega) (by omega)).trans N;have D:=(m.get (h.n+2) (by omega) (by omega)).trans O;have F:i.get (h.n+3)=.cells [.int gj n,.ag a.length (ek a),.ah] 90 none:=by rw[j];exact aM
  simp only[ae,ds,al,Q,O6];rw[<-j];clear j;simp only[ae,ds,By,al,Na,S,u,C];refine bE (avQ a (by omega) _) ?_;have Y:∀o,J i (i.set (h.n+3) o) (·=h.n+3):=λo=>J.set _ _ _;have G:∀o,(i.set (h.n+3) o).get (h.n+2)=.cells [.int gj 0,.ah,.ah] 90 none:=λo=>((Y o).get (h.n+2) (by have:=m.n;omega) (by omega)).trans D;have L:bD (eL 3) (aP.cells [kA gj 0,.ah,.ah] 90 eN) 0 [.int gj n,.ag a.length (ek a),.ag a.length (e2 a)]=eL (.cells [.int gj n,.ag a.length (ek a),.ag a.length (e2 a)] 90 eN):=rfl;simp only[ae,ds,AT,al,F,Fq,G,L,aJ];refine ar ⟨_,aK.refl _ _,((M.trans m λq B U=>by omega).trans (Y _) λq B U=>by omega).trans (J.set _ _ _) λq B U=>by omega⟩
theorem ahz(t:sn)(m:pr t)(n:Int)(h:I):Pure mP 21 [.agg (ca t),.int gj n] h (.agg (cQ (qx t.tasks n))):=by
 refine Pure.of (bf.agg (Zd _)) ?_;refine a7 Tryz.func21 rfl ?_;have Zl:(kB (ca t)).cells=eL (ca t):=rfl;obtain⟨H,hH⟩:∃y,y=((h.push (.cells (ca t) 34 eN)).push (.cells [.int gj n] 3 eN)).push (.cells [.int gj 0,.int gj 0,.int gj 0,.ah,.ah,.int gj 0] 57 eN):=⟨_,rfl⟩;have N:J h H kR:=by rw[hH];exact((J.push _ _ _).trans' (J.push _ _ _)).trans' (J.push _ _ _)
 have hx:H.n=h.n+3:=by rw[hH];simp only[dn]
 have g0:H.get h.n=.cells (ca t) 34 none:=by rw[hH,iZ (by simp only[dn];omega),iZ (by simp only[dn];omega)];exact ac
 have O:H.get (h.n+1)=.cells [.int gj n] 3 none:=by rw[hH];simp[I.push]
 have Q:H.get (h.n+2)=.cells [.int gj 0,.int gj 0,.int gj 0,.ah,.ah,.int gj 0] 57 none:=by rw[hH];simp[I.push]
 have S:cI (aP.cells (ca t) 34 eN) 1=eL ((ca t).drop 1):=rfl;have T:cw (eL eN) (eL ((ca t).drop 1))=eL (.ag t.tasks.length (t.tasks.flatMap cQ)):=rfl;simp only[ae,ds,al,Zl,S,T];rw[<-hH];clear hH;refine bE (Zk t.tasks m.2.1 n H (h.n+1) (by omega) O) ?_;rcases ahv (p:=λc:oM=>c.t==n) (l:=t.tasks)with⟨az,bd⟩|⟨k,W,az,bd⟩
 .have s:qx t.tasks n=⟨n,0,0,[],[],0⟩:=by unfold qx;rw[bd];rfl
  have X:decide (-1<(0:Int))=true:=rfl;rw[s];have u:bD (eL 6) (aP.cells [kA gj 0,.int gj 0,.int gj 0,.ah,.ah,.int gj 0] 57 eN) 0 [.int gj n,.int gj 0,.int gj 0,.ah,.ah,.int gj 0]=eL (.cells [.int gj n,.int gj 0,.int gj 0,.ah,.ah,.int gj 0] 57 eN):=rfl;simp only[ae,aDA,Js,ds,AT,By,al,az,O,Q,u,aJ];refine ar ⟨_,HF (aE.cons (aK.refl _ _) (aE.cons (aK.refl _ _) (aE.cons (aK.refl _ _) (aE.cons (aK.h3 _) (aE.cons (aK.h3 _) (aE.refl _ _)))))),N.trans (J.set _ _ _) λq z U=>by omega⟩
 .have s:qx t.tasks n=t.tasks[k]:=by unfold qx;rw[bd];rfl
  have Y:=m.2.2.2 _ (ayz W);have hll:=m.2.1;have b0:=ahq (kk:=.i64) W;rw[s];generalize t.tasks[k]=c at *;have X:decide ((k:Int)<0)=false:=hK (by omega);have ld:=ahr;have yl:=Y.1;have px:=Y.2;have cc:(kB (cQ c)).cells=eL (cQ c):=rfl;have st:bD (eL 6) (aP.cells [kA gj 0,.int gj 0,.int gj 0,.ah,.ah,.int gj 0] 57 eN) 0 (cQ c)=eL (.cells (cQ c) 57 eN):=rfl;have d3:cI (aP.cells (cQ c) 57 eN) 3=eL ((cQ c).drop 3):=rfl;have wI:cw (eL eN) (eL ((cQ c).drop 3))=eL (.ag c.offs.length (ax c.offs)):=rfl;simp only[ae,ds,al,az,X,g0,S,T,b0,ld,cc,st,d3,wI];obtain⟨Z,bN,k2,Si,c6⟩:=bU H (.cells (cQ c) 57 eN);have A:=(k2.get (h.n+2) (by omega) (by simp[kR])).trans Q;have d4:cI (aP.cells (cQ c) 57 eN) 4=eL ((cQ c).drop 4):=rfl;have B:cw (eL eN) (eL ((cQ c).drop 4))=eL (.ag c.ord.length (ax c.ord)):=rfl;have jN:bD (eL 1) (aP.cells (cQ c) 57 eN) 3 [.ag c.offs.length (ax c.offs)]=eL (.cells (cQ c) 57 eN):=rfl;have rp:bD (eL 1) (aP.cells (cQ c) 57 eN) 4 [.ag c.ord.length (ax c.ord)]=eL (.cells (cQ c) 57 eN):=rfl;have pV:bD (eL 6) (aP.cells [kA gj 0,.int gj 0,.int gj 0,.ah,.ah,.int gj 0] 57 eN) 0 (cQ c)=eL (.cells (cQ c) 57 eN):=rfl;have ka:(cQ c).take 6=cQ c:=rfl;have JC:=KG c;have C:cI (aP.cells (cQ c) 57 eN) 0=eL (cQ c):=rfl;rw[<-bN];clear bN;refine bE (Y6 c.offs (by omega) _) ?_;have c8:∀(U:I) o,J U (U.set H.n o) (·=H.n):=λU o=>J.set _ _ _;obtain⟨a,i⟩:∃y,y=Z.set H.n (.cells (cQ c) 57 eN):=⟨_,rfl⟩;have D:J Z a (·=H.n):=by rw[i];exact J.set _ _ _
  have n3:=D.n;have F:a.get H.n=.cells (cQ c) 57 none:=by rw[i];exact aM
  have G:=(D.get (h.n+2) (by omega) (by omega)).trans A;simp only[ae,ds,al,Si,jN,d4,B];rw[<-i];clear i;refine bE (Y6 c.ord (by omega) _) ?_;obtain⟨lJ,j⟩:∃y,y=a.set H.n (.cells (cQ c) 57 eN):=⟨_,rfl⟩;have L:J a lJ (·=H.n):=by rw[j];exact J.set _ _ _
  have n4:=L.n;have aa:lJ.get H.n=.cells (cQ c) 57 none:=by rw[j];exact aM
  have M:=(L.get (h.n+2) (by omega) (by omega)).trans G;simp only[ae,ds,al,F,rp];rw[<-j];clear j;simp only[ae,ds,al,M,C,ka,JC,cc,pV,aJ];refine ar ⟨_,aK.refl _ _,?_⟩;exact(((N.trans' k2).trans D λq z U=>by omega).trans L λq z U=>by omega).trans (J.set _ _ _) λq z U=>by omega
def Sj(l:List bC)(a b:Nat):Prop:=∃x,l[b]?=eL x/\(a:Int)∈x.bn/\gK l (a:Int)≠5
inductive DX(l:List bC):Nat->Nat->Prop
 | refl (a:Nat):DX l a a
 | step {a b c:Nat}:DX l a b->(Sj l b c\/Sj l c b)->DX l a c
def Pc(l:List bC):Prop:=∀(v:Nat) (x:bC),l[v]?=eL x->∀f∈x.bn,0<=f/\f<(v:Int)
theorem ahC{l:List bC}{L:List Nat}{v:Nat}:∀{r:List Int},pJ l L v r=eN->∀f∈r,gK l f≠5->L.getD v 0=L.getD f.toNat 0
 | [],_,f,a,_=>by simp at a
 | g::r,h,f,a,i=>by
  unfold pJ at h;split at h
  .cases h
  .rename_i aw;rcases IN.1 a with rfl|a
   .exact Classical.byContradiction λe=>aw ⟨i,e⟩
   .exact ahC h f a i
theorem ahD{l:List bC}{L:List Nat}:∀{r:List bC} {v:Nat},pK l L v r=eN->∀(k:Nat) (x:bC),r[k]?=eL x->pJ l L (v+k) x.bn=eN
 | [],_,_,k,x,a=>by simp at a
 | y::r,v,h,k,x,a=>by
  unfold pK at h;split at h
  .cases h
  .rename_i q;cases k with
   | zero=>simp at a;subst a;exact q
   | succ k=>rw[show v+(k+1)=v+1+k by omega];exact ahD h k x (by simpa using a)
theorem ahE{l:List bC}{L:List Nat}{v:Nat}:∀{r:List Int} {a:List Nat},pJ l L v r=eL a->∃f∈r,gK l f≠5/\L.getD v 0≠L.getD f.toNat 0/\a=(L.set v (min (L.getD v 0) (L.getD f.toNat 0))).set f.toNat (min (L.getD v 0) (L.getD f.toNat 0))
 | [],_,h=>by cases h
 | f::r,a,h=>by
  unfold pJ at h;split at h
  .rename_i aw;exact⟨f,by simp,aw.1,aw.2,(Option.some.inj h).symm⟩
  .obtain⟨g,i,j,m⟩:=ahE h;exact⟨g,List.mem_cons_of_mem _ i,j,m⟩
theorem ahF{l:List bC}(s:Pc l){L j:List Nat}(h:pK l L 0 l=eL j):∃v f,f<v/\v<l.length/\Sj l f v/\L.getD v 0≠L.getD f 0/\j=(L.set v (min (L.getD v 0) (L.getD f 0))).set f (min (L.getD v 0) (L.getD f 0)):=by
 obtain⟨k,x,i,u⟩:=X2 h;obtain⟨f,m,z,q,e⟩:=ahE u;obtain⟨a,b⟩:=s k x i f m;rw[ayB]at q e;refine⟨k,f.toNat,by omega,(List.getElem?_eq_some_iff.1 i).1,⟨x,i,?_,?_⟩,q,e⟩
 .rw[aDB a];exact m
 .rw[aDB a];exact z
theorem ahG{l:List bC}(i:Pc l):∀(k:Nat) (L:List Nat),L.length=l.length->L.sum<k->pK l (q3 l k L) 0 l=eN/\(q3 l k L).length=l.length
 | 0,L,_,h=>by omega
 | k+1,L,j,h=>by
  unfold q3;cases m:pK l L 0 l with
  | none=>exact⟨m,j⟩
  | some q=>
   obtain⟨v,f,a,b,_,c,e⟩:=ahF i m;have:=afc (L:=L) (v:=v) (f:=f) (by omega) (by omega) (by omega) c;rw[<-e]at this;exact ahG i k q (by rw[e];simp[j]) (by omega)
theorem ahH{l:List bC}(m:Pc l):∀(k:Nat) (L:List Nat),L.length=l.length->(∀j,j<l.length->DX l (L.getD j 0) j)->∀j,j<l.length->DX l ((q3 l k L).getD j 0) j
 | 0,L,_,h=>h
 | k+1,L,A,h=>by
  unfold q3;cases B:pK l L 0 l with
  | none=>exact h
  | some C=>
   obtain⟨v,f,a,b,q,c,e⟩:=ahF m B;refine ahH m k C (by rw[e];simp[A]) λj D=>?_;have s:=h v b;have u:=h f (by omega);have z:DX l (min (L.getD v 0) (L.getD f 0)) v/\DX l (min (L.getD v 0) (L.getD f 0)) f:=by
    rcases Nat.le_total (L.getD v 0) (L.getD f 0)with i|i
    .rw[Nat.min_eq_left i];exact⟨s,s.step (.inr q)⟩
    .rw[Nat.min_eq_right i];exact⟨u.step (.inl q),u⟩
   rw[e,RO,RO];split
   .rename_i U;rw[<-U.1];exact z.2
   .split
    .rename_i U;rw[<-U.1];exact z.1
    .exact h j D
structure A7(l:List bC)(R:List Nat):Prop where
 len:R.length=l.length
 le:∀j,R.getD j 0<=j
 jl:∀j,j<l.length->DX l (R.getD j 0) j
 Pd:∀a b,Sj l a b->R.getD a 0=R.getD b 0
theorem A7.same{l:List bC}{R:List Nat}(h:A7 l R){a b:Nat}(c:DX l a b):R.getD a 0=R.getD b 0:=by
 induction c with
 | refl=>rfl
 | step _ e ih=>
          rcases e with e|e
          .rw[ih];exact h.Pd _ _ e
          .rw[ih];exact(h.Pd _ _ e).symm
theorem A7.root{l:List bC}{R:List Nat}(h:A7 l R){a:Nat}(aW:a<l.length):R.getD (R.getD a 0) 0=R.getD a 0:=h.same (h.jl a aW)
theorem avV{l:List bC}(i:Pc l)(m:l.length<=24):A7 l (pL l):=by
 have q:(ajC l.length).sum<600:=by
  have:∀n:Nat,n<=24->(ajC n).sum<600:=by decide
  exact this _ m
 obtain⟨s,u⟩:=ahG i 600 (ajC l.length) (by simp) q;refine⟨u,afg l,ahH i _ _ (by simp) λj z=>?_,λa b ⟨x,A,B,C⟩=>?_⟩
 .rw[ayX,List.getElem?_range z];exact .refl _
 .have:=ahC (ahD s b x A) (a:Int) B C;rw[ayB,ayw]at this;exact this.symm
def kb(R:List Nat)(i:Nat):Nat:=(e1 R i).2
theorem Zm(R:List Nat)(i:Nat):kb R (i+1)=if R.getD i 0=i then kb R i+1 else kb R i:=by
 unfold kb;show(if R.getD i 0=i then _ else _:List Int×Nat).2=_;split<;>rfl
theorem ahI(R:List Nat){i:Nat}:∀{j:Nat},i<=j->kb R i<=kb R j
 | 0,h=>by rw[Nat.le_zero.1 h];exact BY _
 | j+1,h=>by
  rcases aAi j i with a|a
  .rw[show i=j+1 by omega];exact BY _
  .have:=ahI R (i:=i) a;rw[Zm];split<;>omega
theorem avW{R:List Nat}{r j:Nat}(a:R.getD r 0=r)(h:r<j):kb R r<kb R j:=by
 have:=ahI R (i:=r+1) (j:=j) h;rw[Zm,gr a]at this;omega
theorem Zn{l:List bC}{R:List Nat}(a:A7 l R):∀{i:Nat},i<=l.length->∀v,v<i->(e1 R i).1.getD v 0=((kb R (R.getD v 0):Nat):Int)
 | 0,_,v,h=>by omega
 | i+1,hi,v,h=>by
  have ih:=Zn a (i:=i) (by omega);have m:=AN R i;unfold e1;rcases aAi v i with j|j
  .split
   .rw[<-ih v j];simp only[ayX];rw[azW (by omega)]
   .rw[<-ih v j];simp only[ayX];rw[azW (by omega)]
  .have u:v=i:=(by omega);subst u;split
   .rename_i q;rw[q];simp only[ayX];rw[azX (by omega),m,aCG];rfl
   .rename_i q;have z:R.getD v 0<v:=by have:=a.le v;omega
    have s:=ih _ z;rw[a.root (by omega)]at s;show((e1 R v).1++[(e1 R v).1.getD (R.getD v 0) 0]).getD v 0=_;rw[s];simp only[ayX];rw[azX (by omega),m,aCG];rfl
theorem ahJ(R:List Nat){l:List bC}(j:A7 l R):∀i,i<l.length->mx ((e1 R (i+1)).1.headD 0) (e1 R (i+1)).1.tail=((kb R (i+1):Nat):Int)-1
 | 0,h=>by
  have z:R.getD 0 0=0:=by have:=j.le 0;omega
  have:e1 R 1=([0],1):=by unfold e1;rw[gr z];rfl
  rw[show(0+1:Nat)=1 from rfl,kb,this];rfl
 | i+1,h=>by
  have ih:=ahJ R j i (by omega);have q:=AN R (i+1);obtain⟨x,A,B⟩:∃x,(e1 R (i+1+1)).1=(e1 R (i+1)).1++[x]/\max (((kb R (i+1):Nat):Int)-1) x=((kb R (i+2):Nat):Int)-1:=by
   have D:=Zn j (i:=i+1+1) (by omega) (i+1) (by omega);have aw:=Zm R (i+1);by_cases m:R.getD (i+1) 0=i+1
   .refine⟨((kb R (i+1):Nat):Int),by rw[show e1 R (i+1+1)=_ from rfl];unfold e1;rw[gr m];rfl,?_⟩;rw[gr m]at aw;rw[show i+2=i+1+1 from rfl,aw];omega
   .have s:R.getD (i+1) 0<i+1:=by have:=j.le (i+1);omega
    refine⟨((kb R (R.getD (i+1) 0):Nat):Int),?_,?_⟩
    .have C:(e1 R (i+1+1)).1=(e1 R (i+1)).1++[(e1 R (i+1)).1.getD (R.getD (i+1) 0) 0]:=by
      show(if R.getD (i+1) 0=i+1 then _ else _:List Int×Nat).1=_;rw[gQ m]
     rw[C,Zn j (i:=i+1) (by omega) _ s,j.root (by omega)]
    .rw[gQ m]at aw;rw[show i+2=i+1+1 from rfl,aw];have:=avW (j.root (a:=i+1) (by omega)) s;omega
  rw[A];cases u:(e1 R (i+1)).1 with
  | nil=>rw[u]at q;simp at q
  | cons a r=>
   rw[u]at ih;simp only[aE6,aE7]at ih;simp only[aza,aE6,aE7];rw[X5,ih,B]
theorem avX{p:Int}{l:List bC}(a:(cj p l).2=0):Pc l:=by
 obtain⟨_,_,_,_,_,i⟩:=DJ a;exact λv x j f m=>(XK (i v x j)).2.1 f m
theorem ahK(R:List Nat)(i:Nat):kb R i<=i:=X4 R i
theorem wm{p:Int}{l:List bC}(a:(cj p l).2=0):zi p l=((kb (pL l) l.length:Nat):Int)*p:=by
 obtain⟨_,u,z,j,_,_⟩:=DJ a;have m:=avV (avX a) j;have i:=ahJ (pL l) m (l.length-1) (by omega);rw[show l.length-1+1=l.length by omega]at i;have aw:=ahK (pL l) l.length;generalize kb (pL l) l.length=c at i aw⊢;have q:fo p l=(e1 (pL l) l.length).1:=gr a;rw[zi,gr a,q,i];have az:aPh.i64.wrap ((c:Int)-1+1)=c:=by rw[kp _ (by omega)];omega
 rw[az];have s:p=1\/p=2\/p=3\/p=4\/p=5\/p=6\/p=7\/p=8:=by omega
 refine kp _ ?_;rcases s with rfl|rfl|rfl|rfl|rfl|rfl|rfl|rfl<;>omega
def ct(p:Int)(l:List bC)(k v q:Int):Int:=if(cj p l).2=0/\0<=k/\k<=2/\0<=v/\v<l.length/\0<=q/\q<p then(k*(l.length:Int)+v)*p+q else -1
theorem Zo{n k v p:Int}(m:0<=k)(q:k<=2)(a:0<=n/\n<=24)(s:0<=v)(u:v<n)(z:1<=p/\p<=8):0<=k*n/\k*n<=48/\0<=(k*n+v)*p/\(k*n+v)*p<=600/\(0<=k*n*p/\k*n*p<=600)/\(0<=v*p/\v*p<=600):=by
 have i:k=0\/k=1\/k=2:=by omega
 have j:p=1\/p=2\/p=3\/p=4\/p=5\/p=6\/p=7\/p=8:=by omega
 rcases i with rfl|rfl|rfl<;>rcases j with rfl|rfl|rfl|rfl|rfl|rfl|rfl|rfl<;>omega
theorem DY(l:List bC)(p k v q:Int)(Q:jE l)(h:I)(S:iU h):Pure mP 25 [.agg (cx l p),.int gj k,.int gj v,.int gj q] h (.int gj (ct p l k v q)):=by
 refine Pure.val (bf.int _ _) ?_;have aw:(kB (cx l p)).cells=eL [.ag l.length (l.flatMap ao),.int gj p]:=rfl;obtain⟨H,hH,i,z,_⟩:=bU h (.cells [.ag l.length (l.flatMap ao),.int gj p] 24 eN);refine a7 Tryz.func25 rfl ?_;simp only[ae,Js,ds,AT,al,aw,<-hH,z];refine bE (afi l p Q H (S.ai i)) ?_;by_cases A:(cj p l).2=0;rotate_left
 .have j:((cj p l).2==0)=false:=by simp[A]
  have a:ct p l k v q=-1:=gQ (λU=>A U.1);simp only[ae,Js,ds,j,aJ];exact ar ⟨by rw[a],i⟩
 have j:((cj p l).2==0)=true:=by simp[A]
 by_cases F:k<0
 .have m:decide (k<0)=true:=by simpa using F
  have a:ct p l k v q=-1:=gQ (by omega);simp only[ae,Js,ds,j,m,aJ];exact ar ⟨by rw[a],i⟩
 have m:decide (k<0)=false:=by simpa using F
 by_cases G:3<=k
 .have s:decide (3<=k)=true:=by simpa using G
  have a:ct p l k v q=-1:=gQ (by omega);simp only[ae,Js,ds,j,m,s,aJ];exact ar ⟨by rw[a],i⟩
 have s:decide (3<=k)=false:=by simpa using G
 by_cases L:v<0
 .have u:decide (v<0)=true:=by simpa using L
  have a:ct p l k v q=-1:=gQ (by omega);simp only[ae,Js,ds,j,m,s,u,aJ];exact ar ⟨by rw[a],i⟩
 have u:decide (v<0)=false:=by simpa using L
 by_cases M:(l.length:Int)<=v
 .have B:decide ((l.length:Int)<=v)=true:=by simpa using M
  have a:ct p l k v q=-1:=gQ (by omega);simp only[ae,Js,ds,AT,al,d6,j,z,m,s,u,B,aJ];exact ar ⟨by rw[a],i⟩
 have B:decide ((l.length:Int)<=v)=false:=by simpa using M
 by_cases N:q<0
 .have C:decide (q<0)=true:=by simpa using N
  have a:ct p l k v q=-1:=gQ (by omega);simp only[ae,Js,ds,AT,al,d6,j,z,m,s,u,B,C,aJ];exact ar ⟨by rw[a],i⟩
 have C:decide (q<0)=false:=by simpa using N
 by_cases O:p<=q
 .have D:decide (p<=q)=true:=by simpa using O
  have a:ct p l k v q=-1:=gQ (by omega);simp only[ae,Js,ds,AT,By,al,d6,j,z,m,s,u,B,C,D,aJ];exact ar ⟨by rw[a],i⟩
 have D:decide (p<=q)=false:=by simpa using O
 obtain⟨_,Z,_,xc,_⟩:=DJ A;have a:ct p l k v q=(k*(l.length:Int)+v)*p+q:=gr ⟨A,by omega,by omega,by omega,by omega,by omega,by omega⟩;obtain⟨dL,ck,hM,pS,rG,uG⟩:=Zo (n:=(l.length:Int)) (k:=k) (v:=v) (p:=p) (by omega) (by omega) (by omega) (by omega) (by omega) (by omega);have T:aPh.i64.wrap (k*(l.length:Int))=k*(l.length:Int):=kp _ (by omega);have W:aPh.i64.wrap (k*(l.length:Int)+v)=k*(l.length:Int)+v:=kp _ (by omega);have X:aPh.i64.wrap ((k*(l.length:Int)+v)*p)=(k*(l.length:Int)+v)*p:=kp _ (by omega);have Y:aPh.i64.wrap ((k*(l.length:Int)+v)*p+q)=(k*(l.length:Int)+v)*p+q:=kp _ (by omega);simp only[ae,Js,ds,AT,By,al,d6,j,z,m,s,u,B,C,D,T,W,X,Y,aJ];exact ar ⟨by rw[a],i⟩
def fp(p:Int)(l:List bC)(a:Int):Int×Int:=if 0<=a/\a<zi p l then(a.tdiv p,a.tmod p)else(-1,-1)
theorem ahL{p:Int}{l:List bC}{task:Int}(q:0<=task)(a:task<zi p l):(cj p l).2=0/\(1<=p/\p<=8)/\zi p l<=192:=by
 have h:(cj p l).2=0:=Classical.byContradiction λi=>by
  rw[zi,gQ i]at a;omega
 obtain⟨_,j,s,u,_,_⟩:=DJ h;refine⟨h,j,?_⟩;rw[wm h];have aw:=ahK (pL l) l.length;generalize kb (pL l) l.length=c at aw⊢;have m:p=1\/p=2\/p=3\/p=4\/p=5\/p=6\/p=7\/p=8:=by omega
 rcases m with rfl|rfl|rfl|rfl|rfl|rfl|rfl|rfl<;>omega
theorem Pe(l:List bC)(p i:Int)(C:jE l)(h:I)(D:iU h):Pure mP 32 [.agg (cx l p),.int gj i] h (.tuple [.int gj (fp p l i).1,.int gj (fp p l i).2]):=by
 refine Pure.val (bf.tuple (bc.cons (bf.int _ _) (bc.cons (bf.int _ _) bc.nil))) ?_;have aw:(kB (cx l p)).cells=eL [.ag l.length (l.flatMap ao),.int gj p]:=rfl;obtain⟨H,hH,m,z,_⟩:=bU h (.cells [.ag l.length (l.flatMap ao),.int gj p] 24 eN);have F:=D.ai m;refine a7 Tryz.func32 rfl ?_;simp only[ae,Js,ds,aw,<-hH];by_cases A:i<0
 .have s:decide (i<0)=true:=by simpa using A
  have j:fp p l i=(-1,-1):=gQ (by omega);simp only[ae,Js,ds,s,aJ];exact ar ⟨by rw[j],m⟩
 have s:decide (i<0)=false:=by simpa using A
 simp only[ae,ds,AT,al,s,z];refine bE (atG l p C H F) ?_;by_cases B:zi p l<=i
 .have u:decide (zi p l<=i)=true:=by simpa using B
  have j:fp p l i=(-1,-1):=gQ (by omega);simp only[ae,Js,ds,u,aJ];exact ar ⟨by rw[j],m⟩
 have u:decide (zi p l<=i)=false:=by simpa using B
 obtain⟨M,N,G⟩:=ahL (p:=p) (l:=l) (task:=i) (by omega) (by omega);have j:fp p l i=(i.tdiv p,i.tmod p):=gr (by omega);have L:aPh.i64.wrap (i.tdiv p)=i.tdiv p:=by
  rw[Int.tdiv_eq_ediv_of_nonneg (by omega)];have a:=Int.ediv_nonneg (a:=i) (b:=p) (by omega) (by omega);have b:=Int.ediv_le_self (a:=i) p (by omega);exact kp _ (by omega)
 simp only[ae,Js,ds,u];refine aT.cL kR [] (.q 0 (.q 1 (.q 2 (.q 3 (.q 4 (.q 5 (.q 6 (.q 7 (.q 8 (.q 9 .done)))))))))) ?_;simp only[ae,bw,ds,AT,By,al,z,aaJ (show p≠0 by omega),BE (show p≠0 by omega),L,aJ];exact ar ⟨by rw[j],m⟩
theorem ahM(a b:Rec){i j:Operand}:cB mP .neq 45 i j (.agg (aR a)) (.agg (aR b))=eL (.bool (decide (a≠b))):=by
 have h:gl [0,0,0] (aR a) (aR b)=eL (decide (a=b)):=by
  simp only[aR,gl,jS,azi,Option.some.injEq];rw[ay2];simp only[are,beq_iff_eq,ig,aBD]
  constructor
  .rintro⟨m,q,s⟩;cases a;cases b;simp_all
  .rintro rfl;simp
 rw[m7 Wf h];simp
def uN(c:ak):Rec:=⟨c.key,c.to,c.aO⟩
def qM(c:ak):Rec:=⟨c.key,c.val,0⟩
theorem avZ(c:ak)(h:I):Pure mP 122 [.agg (aq c)] h (.agg (aR (uN c))):=by
 refine Pure.val (bf.agg (M1 _)) ?_;refine a7 Tryz.func122 rfl ?_;simp only[ae,ds,AT,By,al,aq,aJ];exact ar ⟨rfl,(J.push _ _ _).bp _⟩
theorem ahN(c:ak)(h:I):Pure mP 116 [.agg (aq c)] h (.agg (aR (qM c))):=by
 refine Pure.val (bf.agg (M1 _)) ?_;refine a7 Tryz.func116 rfl ?_;simp only[ae,ds,AT,By,al,aq,aJ];exact ar ⟨rfl,(J.push _ _ _).bp _⟩
theorem av0(h:I)(a b:Rec):am mP 25 2 [(0,.agg (aR a)),(1,.agg (aR b))] h=eL (.bh h.n 0 2 2,h.push (.cells ([a,b].flatMap aR) 45 eN)):=by rw[nm EN];rfl
theorem av1(h:I)(a b:Bool):am mP 88 2 [(0,.bool a),(1,.bool b)] h=eL (.bh h.n 0 2 2,h.push (.cells (ua [a,b]) 4 eN)):=by rw[nm J6];rfl
theorem ahO{h an:I}{r:List Rec}{d:List Bool}{i j:Nat}(s:Own an 45 3 (.bh i 0 2 2) (r.flatMap aR))(ob:Own an 4 1 (.bh j 0 2 2) (ua d))(u:r.length=2)(z:d.length=2)(B:i≠j)(a:J h an kR)(C:h.n<=i)(D:h.n<=j) :
  ∃q,aK (.tuple [.bh i 0 2 2,.bh j 0 2 2]) an (.tuple [.ag 2 (r.flatMap aR),.ag 2 (ua d)]) q/\J h q kR:=by
 obtain⟨q,c,k⟩:=Acc.QW (n:=2) (m:=2) ⟨s,a,λk a=>by simp[aS]at a;omega⟩ ⟨ob,a,λk a=>by simp[aS]at a;omega⟩ (λk A q=>by simp[aS]at A q;omega) (by rw[ft Av,u]) (by rw[aob,z]) (by omega) (by omega);exact⟨q,aK.tuple c,k⟩
theorem av2(c:ak)(h:I):Pure mP 92 [.agg (aq c)] h (.tuple [.ag 2 ([uN c,qM c].flatMap aR),.ag 2 (ua [fr,c.del])]):=by
 refine Pure.of (bf.tuple (bc.cons (bf.ag (xS M1 _)) (bc.cons (bf.ag (aoc _)) bc.nil))) ?_;refine a7 Tryz.func92 rfl ?_;have s:cw (eL (eL 5)) (eL (aq c))=eL (.agg (aq c)):=rfl;have aw:(kB (aq c)).cells=eL (aq c):=rfl;have C:∀i,JP (eL 4) (.ptr i 0)=eL (.ptr i 4):=λ_=>rfl;have an:∀h:I,cI ((h.push (.cells (aq c) 110 eN)).get h.n) 4=eL [.bool c.del]:=λh=>by rw[ac];rfl
 simp only[ae,aw];refine aT.cL kR [4,7] (.q 0 (.c 1 (.q 2 (.c 3 (.q 5 (.q 6 (.e 4 (.q 8 (.e 7 (.q 9 .done) .stop)) (.e 7 (.e 4 (.q 8 (.q 9 .done)) .stop) .stop)))))))) ?_;have u:cI (aP.cells (aq c) 110 eN) 0=eL (aq c):=rfl;have A:cI (aP.cells (aq c) 110 eN) 4=eL [.bool c.del]:=rfl;simp only[ae,bw,ds,al,u,s];refine gh rfl rfl rfl (λh' _=>avZ c h') ?_;simp only[ae,bw,ds,al,u,s];refine gh rfl rfl rfl (λh' _=>ahN c h') ?_;simp only[ae,bw,ds,al,A,av0,av1,aJ];have B:J h (h.push (.cells (aq c) 110 eN)) kR:=J.push _ _ _;have z:∀a b,J h (((h.push (.cells (aq c) 110 eN)).push a).push b) kR:=λa b=>(B.bp _).bp _;have j:∀(U:I),Own (U.push (.cells ([uN c,qM c].flatMap aR) 45 eN)) 45 3 (.bh U.n 0 2 2) ([uN c,qM c].flatMap aR):=λU=>Own.fz _ 2 rfl (by decide);have m:∀(U:I),Own (U.push (.cells (ua [fr,c.del]) 4 eN)) 4 1 (.bh U.n 0 2 2) (ua [fr,c.del]):=λU=>Own.fz _ 2 rfl (by decide);refine⟨ar ?_,ar ?_⟩
 .exact ahO (h:=h) ((j (h.push (.cells (aq c) 110 eN))).aY (J.push _ _ _)) (m _) rfl rfl (by omega) (z _ _) (by omega) (by omega)
 .exact ahO (h:=h) (j _) ((m (h.push (.cells (aq c) 110 eN))).aY (J.push _ _ _)) rfl rfl (by omega) (z _ _) (by omega) (by omega)
def chgs:List Rec->List Bool->Option (List ak)
 | [],[]=>eL []
 | a::b::r,d::e::s=>if d=e6\/a.k≠b.k\/b.t≠0 then eN else(chgs r s).map λl=>⟨a.k,a.t,a.v,b.v,e⟩::l
 | _,_=>eN
theorem Zq:∀(r:List Rec) (d:List Bool),r.length≠d.length\/r.length % 2=1->chgs r d=eN
 | [],[],h=>by simp at h
 | [],d::s,_=>rfl
 | [a],[],_=>rfl
 | [a],[d],_=>rfl
 | [a],d::e::s,_=>rfl
 | a::b::r,[],_=>rfl
 | a::b::r,[d],_=>rfl
 | a::b::r,d::e::s,h=>by
  unfold chgs;split
  .rfl
  .rw[Zq r s (by simp only[axF]at h;omega)];rfl
theorem ahR:∀(r:List Rec) (d:List Bool) (l:List ak),chgs r d=eL l->2*l.length=r.length
 | [],[],l,h=>by simp[chgs]at h;subst h;rfl
 | [],d::s,l,h=>by simp[chgs]at h
 | [a],[],l,h=>by simp[chgs]at h
 | [a],[d],l,h=>by simp[chgs]at h
 | [a],d::e::s,l,h=>by simp[chgs]at h
 | a::b::r,[],l,h=>by simp[chgs]at h
 | a::b::r,[d],l,h=>by simp[chgs]at h
 | a::b::r,d::e::s,l,h=>by
  unfold chgs at h;split at h
  .cases h
  .obtain⟨i,h',rfl⟩:=Option.map_eq_some_iff.1 h;have:=ahR r s i h';simp only[axF];omega
def Pf(o:Option (List ak)):V:=match o with
 | some l=>.tuple [.ag l.length (l.flatMap aq),.int gj 0]
 | none=>.tuple [.ag 0 [],.int gj 5]
theorem av3(o:Option (List ak)):bf (Pf o):=by
 cases o with
 | none=>exact bf.tuple (bc.cons (bf.ag bc.nil) (bc.cons (bf.int _ _) bc.nil))
 | some l=>exact bf.tuple (bc.cons (bf.ag (xS za _)) (bc.cons (bf.int _ _) bc.nil))
theorem Sk{l:List Rec}{k:Nat}(a:k<l.length){kk:aPh}:hC mP 25 (.ag l.length (l.flatMap aR)) (.int kk (k:Int))=eL (.at (aR l[k]++(l.drop (k+1)).flatMap aR)):=r0 Av a Wj
theorem ahS{α:Type}{l:List α}{i:Nat}(h:i+1<l.length):l.drop i=l[i]::l[i+1]::l.drop (i+2):=by
 rw[ay0 (by omega),ay0 h]
theorem ahT(r:List Rec)(d:List Bool)(h:I)(aH:r.length*24<=2^47)(a6:d.length<=2^47):Pure mP 81 [.ag r.length (r.flatMap aR),.ag d.length (ua d)] h (Pf (chgs r d)):=by
 refine Pure.of (av3 _) ?_;refine a7 Tryz.func81 rfl ?_;by_cases bO:r.length=d.length;rotate_left
 .have Q:((r.length:Int) !=(d.length:Int))=true:=by simp;omega
  have s:=Zq r d (.inl bO);simp only[ae,ds,reduceCtorEq,r4,Dn,Q,aJ];exact ar ⟨_,by rw[s];exact y9 _ _,J.refl _ _⟩
 have Q:((r.length:Int) !=(d.length:Int))=false:=by simp[bO]
 by_cases Zr:r.length % 2=1
 .have Z:((r.length:Int).tmod 2 !=0)=true:=by rw[az5 (by omega)];simp;omega
  have s:=Zq r d (.inr Zr);simp only[ae,ds,reduceCtorEq,r4,Dn,Q,BE (show(2:Int)≠0 by decide),Z,aJ];exact ar ⟨_,by rw[s];exact y9 _ _,J.refl _ _⟩
 have Z:((r.length:Int).tmod 2 !=0)=false:=by rw[az5 (by omega)];simp;omega
 simp only[ae,ds,reduceCtorEq,r4,Dn,Q,BE (show(2:Int)≠0 by decide),Z];refine aT.bG (α:=V×Nat×List ak) (λx f h'=>f 0=.ag r.length (r.flatMap aR)/\f 1=.ag d.length (ua d)/\f 6=x.1/\f 7=.int gj (2*x.2.1:Nat)/\Acc h h' 110 5 x.1 (x.2.2.flatMap aq)/\x.2.2.length=x.2.1/\2*x.2.1<=r.length/\chgs r d=(chgs (r.drop (2*x.2.1)) (d.drop (2*x.2.1))).map (x.2.2++·)) (λx=>r.length-x.2.1) (.ah,0,[])
  ⟨rfl,rfl,rfl,rfl,Acc.nil (J.refl _ _),rfl,D8 _,by simp⟩ ?_
 rintro⟨v,i,j⟩ f F ⟨G,H,L,z,bW,aB,hi,s⟩
 simp only at L z bW aB hi s;refine wpS ?_;by_cases aC:2*i<r.length;rotate_left
 .have c3:decide (((2*i:Nat):Int)<(r.length:Int))=false:=hK (by omega);rw[azg (by omega),azg (by omega)]at s;simp only[chgs,azi,axA]at s;obtain⟨u,c,k⟩:=bW.cast (n:=j.length) (ft jo j) (by omega);simp only[ae,ds,reduceCtorEq,r4,G,L,z,c3,aJ];exact ar ⟨u,by rw[s];exact aK.tuple (aE.cons c (aE.refl _ _)),k⟩
 .have c3:decide (((2*i:Nat):Int)<(r.length:Int))=true:=hO (by omega);have ie:2*i+1<r.length:=by omega
  have hj:2*i+1<d.length:=by omega
  have cH:aPh.i64.wrap (((2*i:Nat):Int)+1)=((2*i+1:Nat):Int):=by rw[kp _ (by omega)];omega
  have bY:aPh.i64.wrap (((2*i:Nat):Int)+2)=((2*(i+1):Nat):Int):=by rw[kp _ (by omega)];omega
  have iO:∀(x:Rec) (q:List V),cw (eL (eL 3)) (eL (aR x++q))=eL (.agg (aR x)):=λx q=>j1 (Av x);rw[ahS ie,ahS hj]at s;have eg:=Sk (kk:=.i64) (show 2*i<r.length by omega);have b0:=Sk (kk:=.i64) ie;have N:=VC (P:=mP) (kk:=.i64) (show 2*i<d.length by omega) Wk;have BP:=VC (P:=mP) (kk:=.i64) hj Wk;generalize r[2*i]=A at *;generalize r[2*i+1]=B at *;generalize d[2*i]=D at *;generalize d[2*i+1]=E at *;simp only[ae,ds,reduceCtorEq,r4,G,z,c3];refine aT.cut (λM h'=>∃p q,p≠q/\p<h'.n/\q<h'.n/\M 0=.ag r.length (r.flatMap aR)/\M 1=.ag d.length (ua d)/\M 6=v/\M 7=.int gj (2*i:Nat)/\M 8=.ptr p 0/\M 9=.ptr q 0/\h'.get p=.cells (aR A) 45 eN/\h'.get q=.cells (aR B) 45 eN/\Acc h h' 110 5 v (j.flatMap aq)) ?_ ?_
  .refine aT.cL kR [9,10,11,12] (.q 0 (.q 1 (.q 2 (.q 3 (.q 4 (.q 5 (.q 6 (.q 7 (.q 8 (.e 9 (.e 10 (.e 11 (.a 12 .done) .stop) .stop) (.e 10 (.e 9 (.e 11 (.a 12 .done) .stop) .stop) .stop))))))))))) ?_;have ch:∀x:Rec,(kB (aR x)).cells=eL (aR x):=λ_=>rfl;have dI:∀(x:Rec),bD (eL 3) (aP.cells [.int gj 0,.int gj 0,.int gj 0] 45 eN) 0 (aR x)=eL (.cells (aR x) 45 eN):=λx=>by
    rw[u0 (n:=3) (Av x) (aqT x),gr (by decide)];rfl
   simp only[ae,bw,ds,reduceCtorEq,al,G,z,cH,eg,b0,iO,ch,dI];have O:∀a b:aP,Acc h ((F.push a).push b) 110 5 v (j.flatMap aq):=λa b=>(bW.on (J.push _ _ _)).on (J.push _ _ _);refine⟨ar ⟨rfl,F.n,F.n+1,by omega,by simp only[dn];omega,by simp only[dn];omega,G,H,L,z,rfl,rfl,yZ,zO,O _ _⟩,
    ar ⟨rfl,F.n+1,F.n,by omega,by simp only[dn];omega,by simp only[dn];omega,G,H,L,z,rfl,rfl,zO,yZ,O _ _⟩⟩
  .rintro f u ⟨p,q,vh,aX,ab,G,H,L,z,f8,f9,nN,R1,a2⟩
   simp only[ae];refine aT.cL kR [14,15] (.q 0 (.q 1 (.q 2 (.q 3 (.q 4 (.q 5 (.q 6 (.q 7 (.q 8 (.q 9 (.q 10 (.q 11 (.q 12 (.q 13 (.e 14 (.a 15 .done) .stop))))))))))))))) ?_;simp only[ae,bw,ds,AT,By,al,H,z,f8,f9,nN,R1,aR,cH,BP];generalize fW:(aP.cells [.int gj A.k,.int gj A.t,.int gj A.v,.int gj B.v,.bool E] 110 eN)=X;have yM:(u.push X).get q=.cells (aR B) 45 none:=by rw[iZ ab];exact R1
   have S:(u.push X).get u.n=.cells (aq ⟨A.k,A.t,A.v,B.v,E⟩) 110 none:=(by rw[ac,<-fW];rfl);have W:Acc h (u.push X) 110 5 v (j.flatMap aq):=a2.on (J.push _ _ _);have n3:u.n<(u.push X).n:=by rw[dn];omega
   generalize u.push X=aD at yM S W n3⊢;have RN:cw (eL (eL 3)) (eL (aR B))=eL (.agg (aR B)):=rfl;have lc:cw (eL (eL 5)) (eL (aq ⟨A.k,A.t,A.v,B.v,E⟩))=eL (.agg (aq ⟨A.k,A.t,A.v,B.v,E⟩)):=rfl;generalize oB:(⟨A.k,A.t,A.v,B.v,E⟩:ak)=C at S lc;have x5:(decide (B≠qM C)=e6)↔(A.k≠B.k\/B.t≠0):=by
    subst oB;rw[decide_eq_true_iff]
    constructor
    .intro U;by_cases F:A.k=B.k
     .right;intro u;exact U (by cases B;simp_all[qM])
     .exact .inl F
    .intro U u;rw[u]at U;simp[qM]at U
   by_cases GB:D=e6
   .subst GB;have kY:chgs r d=none:=by rw[s,chgs,gr (.inl rfl)];rfl
    refine aT.cL kR [] (.q 0 (.q 1 (.q 2 (.q 3 (.q 4 (.q 5 (.q 6 (.c 7 (.q 8 (.q 9 .done)))))))))) ?_;simp only[ae,bw,ds,al,H,z,N];refine rZ rfl rfl ?_;simp only[ae,bw,ds,aJ];exact ar ⟨_,by rw[kY];exact y9 _ _,W.ai⟩
   .have aa:D=false:=(by simpa using GB);subst aa;refine aT.cL kR [] (.q 0 (.q 1 (.q 2 (.q 3 (.q 4 (.q 5 (.q 6 (.c 7 (.q 8 (.q 9 .done)))))))))) ?_;simp only[ae,bw,ds,al,H,z,f9,N,yM,S,RN,lc];refine gh rfl rfl rfl (λh' _=>ahN C h') ?_;by_cases Y:(A.k≠B.k\/B.t≠0)
    .have an:=x5.2 Y;have kY:chgs r d=none:=by rw[s,chgs,gr (.inr Y)];rfl
     simp only[ae,bw,ds,ahM,an,aJ];exact ar ⟨_,by rw[kY];exact y9 _ _,W.ai⟩
    .have an:decide (B≠qM C)=false:=by
      cases a6:decide (B≠qM C)with
      | false=>rfl
      | true=>exact absurd (x5.1 a6) Y
     rw[chgs,gQ (by simpa using Y),oB]at s;have ko:(j.flatMap aq).length=j.length*5:=ft jo j;obtain⟨v4,br,ku,a4⟩:=W.uV (P:=mP) (t:=52) (T:=⟨110,[.int gj 0,.int gj 0,.int gj 0,.int gj 0,.bool fr],5,40⟩) Ag (by decide) (xs:=aq C) rfl (WO C) (λm hm=>by
      have hd:m*5=(j.flatMap aq).length+5:=hm;rw[ko]at hd;show m*40<=lim/\m<=lim;unfold lim;omega)
     simp only[ae,bw,ds,al,L,z,S,lc,ahM,an,Rp,ku,bY];refine ar ⟨(v4,i+1,j++[C]),⟨G,H,rfl,rfl,a4.conv (by simp),by simp only[D9,axF,ayx];omega,by simp only;omega,?_⟩,by simp only;omega⟩;rw[s,Option.map_map,show 2*i+2=2*(i+1)by omega];simp[Function.comp_def]
def eS(x:bz):List V:=[.int gj x.kind,.int gj x.task,.int gj x.cN,.int gj x.gG,.int gj x.log,.int gj x.r.k,.int gj x.r.v,.int gj x.r.t,.bool x.del,.ah,.ah]
theorem B5(r:bz):(eS r).length=11:=rfl
structure fj where
 c:bk
 n:Int
 q:Int
structure dQ where
 m:cT
 ep:Int
 tx:Int
 offs:List Int
 kept:List bz
 order:List Int
structure mw where
 m:Nat
 b:At
 cE:V
 vk:V
 vr:V
def hy(w:mw)(d:fj)(s:dQ):List V:=[.ag d.c.l.length (d.c.l.flatMap ao),.int gj d.c.p,.int gj d.n,.int gj d.q,.ptr w.m 0,.ag d.c.ins.length (ax d.c.ins),.int gj s.ep,.int gj s.tx,w.cE,w.vk,w.vr]
structure eP(h:I)(ow:cM)(id k:Nat)(w:mw)(d:fj)(s:dQ):Prop where
 lt:k<h.n
 get:h.get k=.cells (hy w d s) 95 eN
 own:ow k=(id+1,1)
 ef:fJ h ow id w.m w.b d.c s.m
 o:Own h 3 1 w.cE (ax s.offs)
 uO:Own h 48 11 w.vk (s.kept.flatMap eS)
 ro:Own h 3 1 w.vr (ax s.order)
 hQ:nT ow (id+1,2) (gF w.cE)
 kk:nT ow (id+1,3) (gF w.vk)
 fO:nT ow (id+1,4) (gF w.vr)
 FN:w.vk≠.z0
 HG:w.vr≠.z0
section
variable {h h':I} {ow ow':cM} {id k:Nat} {w:mw} {d:fj} {s:dQ}
theorem eP.ai{M:Nat->Prop}(t:eP h ow id k w d s)(j:J h h' M)(u:∀q,q<h.n->M q->(ow q).1≠id/\(ow q).1≠id+1)(z:∀q,q<h.n->ow' q=ow q):eP h' ow' id k w d s :=
 ⟨IS t.lt j.n,(j.get k t.lt λU=>(u k t.lt U).2 (by rw[t.own])).trans t.get,(z _ t.lt).trans t.own,t.ef.ai j (λq i U=>(u q i U).1) z,
  t.o.ai j λq i U=>(u q (t.o.lt q i) U).2 (by rw[t.hQ q (cD.2 i)]),t.uO.ai j λq i U=>(u q (t.uO.lt q i) U).2 (by rw[t.kk q (cD.2 i)]),t.ro.ai j λq i U=>(u q (t.ro.lt q i) U).2 (by rw[t.fO q (cD.2 i)]),
  t.hQ.bH (λq i=>t.o.lt q (cD.1 i)) z,t.kk.bH (λq i=>t.uO.lt q (cD.1 i)) z,t.fO.bH (λq i=>t.ro.lt q (cD.1 i)) z,t.FN,t.HG⟩
theorem eP.aY(t:eP h ow id k w d s)(i:J h h' kR):eP h' ow id k w d s:=t.ai i (λ_ _ U=>by simp[kR]at U) λ_ _=>rfl
end
theorem eP.uF{h:I}{i:cM}{id k:Nat}{w:mw}{d:fj}{s:dQ}(lt:k<h.n)(own:i k=(id+1,1))(m:fJ h i id w.m w.b d.c s.m)
  (o:Own h 3 1 w.cE (ax s.offs)) (uO:Own h 48 11 w.vk (s.kept.flatMap eS)) (ro:Own h 3 1 w.vr (ax s.order)) (hQ:nT i (id+1,2) (gF w.cE)) (kk:nT i (id+1,3) (gF w.vk)) (fO:nT i (id+1,4) (gF w.vr)) (FN:w.vk≠.z0) (HG:w.vr≠.z0) :
  eP (h.set k (.cells (hy w d s) 95 eN)) i id k w d s:=by
 have u:J h (h.set k (.cells (hy w d s) 95 eN)) (·=k):=J.set _ _ _;refine⟨lt,aM,own,?_,o.ai u λq j U=>?_,uO.ai u λq j U=>?_,ro.ai u λq j U=>?_,hQ,kk,fO,FN,HG⟩
 .exact m.ai u (λq j U=>by subst U;rw[own];simp) λ_ _=>rfl
 .have:=hQ q (cD.2 j);rw[U,own]at this;simp at this
 .have:=kk q (cD.2 j);rw[U,own]at this;simp at this
 .have:=fO q (cD.2 j);rw[U,own]at this;simp at this
theorem ahX{h:I}{e:aPg}{sz:Nat}{v:V}{a:List V}(o:Own h e sz v a)(aw:a≠[]):v≠.z0:=by
 rcases o with⟨_,U⟩|⟨i,j,cap,c,m,rfl,_⟩
 .exact absurd U aw
 .exact V.noConfusion
theorem av4{h:I}{v:V}{l:List Int}(o:Own h 3 1 v (ax l))(u:v≠.z0)(B:l.length<=2^40):au mP 38 [v] h (λr h'=>Acc h h' 3 1 r (ax l)):=by
 obtain⟨C,D,az,z⟩:=Acc.sD (P:=mP) (t:=46) (tx:=46) pR (Y5 h) (by decide) (uc (P:=mP) (t:=46) hI (o.aY (J.push _ _ _)) (n:=l.length) (by rw[ht,axD]) (by decide) (Ly l)) (by rw[ht];exact(axD _).symm) (λm s=>by
   change m*1=(ax []).length+(ax l).length at s;rw[ht,ht,ayx]at s;exact⟨by simp only[lim];omega,by simp only[lim];omega⟩)
 have A:=Y4 h;refine a7 aCI rfl ?_;rcases o with⟨rfl|rfl,aw⟩|⟨i,q,cap,c,G,rfl,H⟩
 .have e:∀a j,cB mP .eql 46 a j .ah .ah=eL (.bool e6):=λa j=>L8 hI;simp only[ae,ds,reduceCtorEq,e,aJ];exact ar (by rw[aw];exact Acc.nil (J.refl _ _))
 .exact absurd rfl u
 .have e:∀a j,cB mP .eql 46 a j (.bh i 0 q cap) .ah=eL (.bool fr):=λa j=>ip hI (.inl rfl) (.inr ⟨rfl,rfl⟩);simp only[ae,ds,reduceCtorEq,e,A,az,aJ];exact ar (z.conv (by rfl))
theorem av5(h:I):am mP 29 0 [] h=eL (.bh h.n 0 0 0,h.push (.cells [] 48 eN)):=by rw[nm Dp];rfl
theorem av6(h:I):Acc h (h.push (.cells [] 48 eN)) 48 11 (.bh h.n 0 0 0) (([]:List bz).flatMap eS) :=
 ⟨.inr ⟨h.n,0,0,[],eN,rfl,azK _,ac,rfl,rfl,.inl ⟨by simp[b9],BY _,BY _⟩⟩,J.push _ _ _,λk a=>by simp[aS]at a;omega⟩
theorem Zs(r:bz):(eS r).all (·.one)=true:=rfl
theorem av7(l:List bz):(l.flatMap eS).all (·.one)=true:=by
 rw[List.all_flatMap];exact ayy.2 λx _=>Zs x
theorem Pg{h:I}{v:V}{l:List Int}{e:aPg}(o:Own h e 1 v (ax l)):zC v=eL l.length:=by
 obtain⟨n,i,a,_⟩:=wr o (by decide);rw[ht,axD]at a;rw[i,a]
theorem DZ{h:I}{v:V}{e t:aPg}{sz n:Nat}{u:List V}(o:Own h e sz v u)(j:Ab.eJ mP t=eL 1)(z:0<sz)(m:u.length=n*sz)(h':I):dX mP t v h'=eL (.int gj (n:Nat)):=by
 rcases o with⟨rfl|rfl,rfl⟩|⟨i,q,cap,c,A,rfl,hi,B,a,C,D⟩
 .have:n=0:=by
   have s:n*sz=0:=(by simpa using m.symm);rcases aAs.1 s with h|h
   .exact h
   .omega
  subst this;exact yY j
 .have:n=0:=by
   have s:n*sz=0:=(by simpa using m.symm);rcases aAs.1 s with h|h
   .exact h
   .omega
  subst this;exact zN j
 .have:n=q:=aAf z (m.symm.trans a);subst this;exact zM j
theorem Zt{h:I}{v:V}{e:aPg}{l:List Int}(o:Own h e 1 v (ax l))(h':I):dX mP 46 v h'=eL (.int gj (l.length:Nat)):=DZ o hI (by decide) (by rw[ht,axD]) h'
theorem ahY{h:I}{v:V}{l:List bz}(o:Own h 48 11 v (l.flatMap eS))(u:v≠.z0)(B:l.length<=2^36):au mP 39 [v] h (λr h'=>Acc h h' 48 11 r (l.flatMap eS)):=by
 obtain⟨C,D,az,z⟩:=Acc.sD (P:=mP) (t:=29) (tx:=29) Dp (av6 h) (by decide) (uc (P:=mP) (t:=29) ui (o.aY (J.push _ _ _)) (n:=l.length) (ft B5 l) (by decide) (av7 l)) (ft B5 l) (λm s=>by
   change m*11=_ at s;rw[ft B5,ft B5,ayx]at s;exact⟨by simp only[lim];omega,by simp only[lim];omega⟩)
 have A:=av5 h;refine a7 Tryz.func39 rfl ?_;rcases o with⟨rfl|rfl,aw⟩|⟨i,q,cap,c,G,rfl,H⟩
 .have e:∀a j,cB mP .eql 29 a j .ah .ah=eL (.bool e6):=λa j=>L8 ui;simp only[ae,ds,reduceCtorEq,e,aJ];exact ar (by rw[aw];exact Acc.nil (J.refl _ _))
 .exact absurd rfl u
 .have e:∀a j,cB mP .eql 29 a j (.bh i 0 q cap) .ah=eL (.bool fr):=λa j=>ip ui (.inl rfl) (.inr ⟨rfl,rfl⟩);simp only[ae,ds,reduceCtorEq,e,A,az,aJ];exact ar (z.conv (by rfl))
theorem FO(k:Nat)(a i:Operand):cB mP .eql 36 a i (.ptr k 0) .dA=eL (.bool fr):=aaL (by kernel_rfl)
section
variable {h h':I} {ow ow':cM} {id k:Nat} {w:mw} {d:fj} {s:dQ}
theorem Zu(t:eP h ow id k w d s)(O:s.offs.length<=2^20):Pure mP 17 [.ptr k 0] h (.ag s.offs.length (ax s.offs)):=by
 have a:=t.o;refine Pure.of (bf.ag (y1 _)) ?_;obtain⟨Q,S,q,u,z,A,B⟩:=ws (P:=mP) (t:=46) (tx:=46) (k:=.i64) (k':=.i64) (h:=h) pR (Pg a) (λh' C=>by
  obtain⟨m,i,X,D⟩:=wr (a.aY C) (by decide);rw[Pg a]at i;rw[Option.some.inj i];exact D) (Ly _) (by rw[ht];exact(axD _).symm) (by simp only;omega) (by omega)
 have g:=t.get;unfold hy at g;have F:=Zt a;have G:=(A.get k t.lt (by simp[kR])).trans g;have H:=FO k;refine a7 Tryz.func17 rfl ?_;simp only[ae,ds,AT,By,reduceCtorEq,al,H,g,F,q,G,u,aJ];obtain⟨L,c,M⟩:=aK.own z (n:=s.offs.length) (by rw[ht];exact(axD _).symm) (by decide);exact ar ⟨L,c,B.trans M λj Y N=>by simp[bb,aS]at N;omega⟩
def Zv(s:dQ):dQ:={ s with kept:=[],order:=[],tx:=aPh.i64.wrap (s.tx+1) }
theorem ahZ(t:eP h ow id k w d s):au mP 13 [.ptr k 0] h (λr h'=>r=.tuple []/\eP h' ow id k { w with vk:=.ah,vr:=.ah } d (Zv s)/\J h h' (·=k)):=by
 have g:=t.get;unfold hy at g;have z:=FO k;refine a7 Tryz.func13 rfl ?_;have i:∀a b:V,bD (eL 1) (aP.cells [.ag d.c.l.length (d.c.l.flatMap ao),.int gj d.c.p,.int gj d.n,.int gj d.q,.ptr w.m 0,.ag d.c.ins.length (ax d.c.ins),.int gj s.ep,.int gj s.tx,w.cE,a,b] 95 eN) 9 [.ah]=eL (.cells [.ag d.c.l.length (d.c.l.flatMap ao),.int gj d.c.p,.int gj d.n,.int gj d.q,.ptr w.m 0,.ag d.c.ins.length (ax d.c.ins),.int gj s.ep,.int gj s.tx,w.cE,.ah,b] 95 eN):=λ_ _=>rfl;simp only[ae,ds,AT,By,reduceCtorEq,al,z,g,i,aJ];exact ar ⟨rfl,eP.uF (w:={ w with vk:=.ah,vr:=.ah }) (s:=Zv s) t.lt t.own t.ef t.o (Own.ah _ _ _) (Own.ah _ _ _) t.hQ (λq j=>by cases cD.1 j) (λq j=>by cases cD.1 j) V.noConfusion V.noConfusion,J.set _ _ _⟩
end
def wo(r:Rec):tk:=⟨r.k,r.v,r.t⟩
def oN(d:fj)(s:dQ)(k v q:Int)(r:Rec)(a:Bool):bz:=⟨2,d.n,s.ep,s.tx,ct d.c.p d.c.l k v q,wo r,a,[],[]⟩
def wq(d:fj)(s:dQ)(x:bz):dQ:={ s with kept:=s.kept++[x] }
theorem Zw(h:I)(x:bz):am mP 29 1 [(0,.agg (eS x))] h=eL (.bh h.n 0 1 1,h.push (.cells (eS x) 48 eN)):=by rw[nm Dp];rfl
structure iW(id:Nat)(h:I)(ow:cM)(h':I)(ow':cM):Prop where
 ai:J h h' (λq=>(ow q).1=id+1)
 bH:∀q,q<h.n->ow' q=ow q
 aO:Fr h' ow'
theorem iW.refl{id:Nat}{h:I}{i:cM}(f:Fr h i):iW id h i h i:=⟨J.refl _ _,λ_ _=>rfl,f⟩
theorem iW.trans{id:Nat}{h j s:I}{u z A:cM}(a:iW id h u j z)(b:iW id j z s A):iW id h u s A :=
 ⟨a.ai.trans b.ai λq i B=>by rw[<-a.bH q i];exact B,λq i=>(b.bH q (IS i a.ai.n)).trans (a.bH q i),b.aO⟩
theorem iW.push{id:Nat}{h h':I}{i:cM}(f:Fr h i)(k:J h h' kR):iW id h i h' i:=⟨k.up,λ_ _=>rfl,λq j=>f q (UN k.n j)⟩
section
variable {h:I} {ow:cM} {id k:Nat} {w:mw} {d:fj} {s:dQ}
theorem av8(t:eP h ow id k w d s)(f:Fr h ow)(F:s.kept.length<=2^36)(x:bz) :
  ∃v i,kd mP 29 29 w.vk (.bh h.n 0 1 1) (h.push (.cells (eS x) 48 eN))=eL (v,i)/\i.get k=.cells (hy w d s) 95 eN/\v.one=e6/\v.cells=eL [v]/\J h i (λq=>bb w.vk q) /\
   ∃m,eP (i.set k (.cells (hy { w with vk:=v } d (wq d s x)) 95 eN)) m id k { w with vk:=v } d (wq d s x)/\iW id h ow (i.set k (.cells (hy { w with vk:=v } d (wq d s x)) 95 eN)) m:=by
 have C:J h (h.push (.cells (eS x) 48 eN)) kR:=J.push _ _ _;obtain⟨v,i,G,u,D,H⟩:=auV (P:=mP) (t:=29) (T:=⟨48,[.int gj 0,.int gj 0,.int gj 0,.int gj 0,.int gj 0,.int gj 0,.int gj 0,.int gj 0,.bool fr,.ah,.ah],11,120⟩) Dp (by decide) (enc:=eS) B5 Zs ui (by decide) t.uO F x;have B:J h i (λq=>(ow q).1=id+1):=C.up.trans D λq a U=>by rw[t.kk q (cD.2 U)]
 have L:=B.n;have z:∀q,q<h.n->dS ow h.n i.n (id+1,3) q=ow q:=λq a=>zj a;have M:¬bb w.vk k:=λU=>by have:=t.kk k (cD.2 U);rw[t.own]at this;simp at this
 have N:v≠.z0:=ahX u (by simp[eS]);have O:nT (dS ow h.n i.n (id+1,3)) (id+1,3) (gF v):=λq a=>by
  rcases H with e|e
  .have j:aS w.vk=eL q:=(by rw[<-e];exact cD.1 a);rw[zj (t.uO.lt q j)];exact t.kk q (cD.2 j)
  .have j:=e q (cD.1 a);have i:=u.lt q (cD.1 a);rw[dn]at j;exact Oc (by omega) i
 have Q:∀q,q<h.n->bb w.vk q->(ow q)=(id+1,3):=λq _ U=>t.kk q (cD.2 U);have A:J h i (bb w.vk):=C.up.trans' D;have S:Fr i (dS ow h.n i.n (id+1,3)):=λq a=>by unfold dS;rw[gQ (by omega)];exact f q (by omega)
 refine⟨v,i,G,(A.get k t.lt M).trans t.get,?_,?_,A,dS ow h.n i.n (id+1,3),?_,?_⟩
 .rcases u with⟨rfl|rfl,_⟩|⟨_,_,_,_,_,rfl,_⟩<;>rfl
 .rcases u with⟨rfl|rfl,_⟩|⟨_,_,_,_,_,rfl,_⟩<;>rfl
 .refine eP.uF (w:={ w with vk:=v }) (s:=wq d s x) (IS t.lt L) ((z _ t.lt).trans t.own) (t.ef.ai B (λq a U=>by rw[U];simp) z) (t.o.ai A λq a U=>?_) u (t.ro.ai A λq a U=>?_) (t.hQ.bH (λq a=>t.o.lt q (cD.1 a)) z) O (t.fO.bH (λq a=>t.ro.lt q (cD.1 a)) z) N t.HG
  .have j:=t.hQ q (cD.2 a);rw[t.kk q (cD.2 U)]at j;simp at j
  .have j:=t.fO q (cD.2 a);rw[t.kk q (cD.2 U)]at j;simp at j
 .exact⟨B.trans (J.set _ _ _) λq a U=>by rw[U,t.own],z,S⟩
theorem Zx(o:et d.c)(t:eP h ow id k w d s)(S:iU h)(f:Fr h ow){u:Nat}(T:h.get u=.cells [.ptr k 0] 36 eN)(an:u<h.n)(ob:ow u=(0,0))(W:s.kept.length<=2^36)(z v q:Int)(r:Rec)(i:Bool) :
  au mP 91 [.int gj z,.int gj v,.int gj q,.agg (aR r),.bool i,.ptr u 0] h (λX h'=>X=.tuple []/\∃w' j,eP h' j id k w' d (wq d s (oN d s z v q r i))/\iW id h ow h' j):=by
 refine a7 Tryz.func91 rfl ?_;have aw:(kB (aR r)).cells=eL (aR r):=rfl;obtain⟨H,hH,B,Y,hx⟩:=bU h (.cells (aR r) 45 eN);have L:=t.aY B;have Z:Fr H ow:=λq M=>f q (by omega);have j2:=(B.get u an (by simp[kR])).trans T;have g:=L.get;unfold hy at g;have h9:kB [.ag d.c.l.length (d.c.l.flatMap ao),.int gj d.c.p]=.agg (cx d.c.l d.c.p):=rfl;obtain⟨N,ad,C,O,v1,v2,ql,j,t2,D⟩:=av8 L Z W (oN d s z v q r i);simp only[ae,aw];rw[<-hH];clear hH;have BU:¬bb w.vk u:=λU=>by have:=t.kk u (cD.2 U);rw[ob]at this;simp at this
 have WX:¬bb w.vk k:=λU=>by have:=t.kk k (cD.2 U);rw[t.own]at this;simp at this
 have nr:¬bb w.vk h.n:=λU=>by have:=t.uO.lt h.n U;omega
 have Q:=S.ai B;have F:∀h',(J H h' (λq=>bb w.vk q)\/h'=H)->iU h':=λh' A=>by rcases A with A|rfl;exact Q.ai A;exact Q
 refine aT.cL (λq=>bb w.vk q) [28,29,32] (.q 0 (.q 1 (.q 2 (.q 3 (.q 4 (.q 5 (.q 6 (.q 7 (.q 8 (.q 9 (.q 10 (.q 11 (.q 12 (.q 13 (.q 14 (.q 15 (.q 16 (.q 17 (.q 18 (.q 19 (.q 20 (.q 21 (.q 22 (.q 23 (.c 24 (.q 25 (.q 26 (.q 27 (.e 28 (.e 29 (.q 30 (.q 31 (.a 32 .done))) .stop) .stop))))))))))))))))))))))))))))) ?_;simp only[ae,bw,e4,ds,AT,By,reduceCtorEq,al,j2,g,BU,WX];refine gh rfl rfl rfl (λh' A=>DY d.c.l d.c.p z v q o.ok h' (F h' A)) ?_;have ld:(if 3<=(aR r).length then eL (kB (ay5 3 (aR r)))else eN)=eL (kB [.int gj r.k,.int gj r.v,.int gj r.t]):=rfl;have G:=Zw H (oN d s z v q r i);have KV:bD (eL 1) (aP.cells [.ag d.c.l.length (d.c.l.flatMap ao),.int gj d.c.p,.int gj d.n,.int gj d.q,.ptr w.m 0,.ag d.c.ins.length (ax d.c.ins),.int gj s.ep,.int gj s.tx,w.cE,w.vk,w.vr] 95 eN) 9 [N]=eL (.cells [.ag d.c.l.length (d.c.l.flatMap ao),.int gj d.c.p,.int gj d.n,.int gj d.q,.ptr w.m 0,.ag d.c.ins.length (ax d.c.ins),.int gj s.ep,.int gj s.tx,w.cE,N,w.vr] 95 eN):=by
  rw[rb v1];rfl
 unfold oN wo eS at G C;simp only at G C;unfold hy at O;simp only[ae,bw,e4,ds,AT,By,al,Y,nr,ld,G,C,O,KV,v2,ql,aJ];exact ar (show _/\_ from⟨rfl,_,j,t2,⟨B.up.trans D.ai λq M e=>e,λq M=>D.bH q (by omega),D.aO⟩⟩)
end
def rL(x:bX):Prop:=x.2.verts.length=x.2.chgs.length
theorem Sl{α:Type}(f:bX->α->bX):∀(l:List α),(∀a x,rL x->rL (f x a))->∀x,rL x->rL (l.foldl f x)
 | [],_=>λx i=>i
 | a::r,h=>λx i=>Sl f r h (f x a) (h a x i)
theorem ah2(u:Int)(a:List ak){x:bX}(i:rL x):rL (kL u a x):=by
 unfold rL kL at *;simp[i]
theorem ah3{v:bC}{u:Int}{r:Rec}{th:Rec->bX->bX}(h:∀y x,rL x->rL (th y x)){x:bX}(i:rL x):rL (qn v u th r x):=by
 unfold qn;split
 .exact i
 .exact Sl (λx y=>th y x) _ h x i
theorem av9{c:bk}{j:Int->Rec->bX->bX}(h:∀u y x,rL x->rL (j u y x))(f:Int)(u:Nat)(r:Rec){x:bX}(i:rL x):rL (qo c j f u r x):=by
 unfold qo;split
 .exact i
 .have a:rL (dC x):=i;split
  .exact a
  .split
   .exact ah3 (th:=nS (u:Int)) (λy x i=>by exact i) a
   .split
    .exact ah3 (λy x i=>h u y x i) a
    .split
     .split
      .unfold tB;split
       .exact a
       .split
        .exact a
        .exact h _ _ _ (ah2 _ _ a)
      .exact a
     .split
      .split
       .unfold wh;split
        .split
         .exact h _ _ _ a
         .exact a
        .exact a
       .exact a
      .exact a
theorem ah4{c:bk}:∀(k:Nat) (v:Int) (r:Rec) (x:bX),rL x->rL (oH c k v r x)
 | 0,v,r=>λx i=>i
 | k+1,v,r=>λx i=>Sl (λx u=>qo c (oH c k) v u r x) (c.us v) (λu x i=>av9 (λa y x i=>ah4 k a y x i) v u r i) x i
theorem awa{c:bk}(u:Nat)(x:bX)(i:rL x):rL (cS c u x):=by
 unfold cS;split
 .exact ah2 _ _ i
 .exact i
theorem awb{c:bk}(s:cT)(v:Int)(r:Rec):rL (stepT c s v r).1:=by
 unfold stepT;split
 .rfl
 .split
  .rfl
  .refine Sl (λx u=>cS c u x) _ awa _ (ah4 24 v r _ ?_);split<;>rfl
theorem awc{c:bk}(s:cT){v:Int}(r:Rec)(h:c.ins.contains v=e6):(stepT c s v r).2=0:=by
 unfold stepT;rw[gQ (by rw[h];decide)];split<;>rfl
def oO(s:dQ)(L:List bz):dQ:={ s with kept:=s.kept++L }
theorem awd(s:dQ):oO s []=s:=by cases s;simp[oO]
theorem Sm(d:fj)(s:dQ)(L:List bz)(x:bz):wq d (oO s L) x=oO s (L++[x]):=by simp[oO,wq]
def partOf(d:fj)(u key:Int):Int:=if gK d.c.l u=5 then rC d.c.p d.c.l key else d.q
def B7(d:fj)(s:dQ)(o:Int×Rec):bz:=oN d s 0 o.1 (partOf d o.1 o.2.k) o.2 fr
def so(d:fj)(s:dQ)(p:Int×ak):List bz:=[oN d s 1 p.1 d.q (uN p.2) fr,oN d s 1 p.1 d.q (qM p.2) p.2.del]
def Pj(d:fj)(s:dQ)(x:Int×Rec×Int):bz:=oN d s 2 x.1 d.q x.2.1 fr
def s0(d:fj)(s:dQ)(x:eG):List bz:=x.outs.map (B7 d s)++(x.verts.zip x.chgs).flatMap (so d s)++x.deads.map (Pj d s)
theorem Pl{α β:Type}{enc:α->List β}{sz:Nat}(h:∀a,(enc a).length=sz):∀l:List α,(l.flatMap enc).length=l.length*sz
 | []=>by simp
 | a::l=>by rw[ayW,D9,h,Pl h l,axF,ayC];omega
section
variable {h:I} {ow:cM} {id k:Nat} {w:mw} {d:fj} {s:dQ}
theorem awe(o:et d.c)(t:eP h ow id k w d s)(ay:iU h)(f:Fr h ow)(x:eG)(aU:∀p∈x.outs,∃(u:Nat) (v:bC),p.1=(u:Int)/\d.c.l[u]?=eL v/\(v.kind=10\/v.kind=5))(aI:x.verts.length=x.chgs.length)
  (Rn:x.outs.length<=2^22) (z2:x.chgs.length<=2^22) (z3:x.deads.length<=2^22) (aB:s.kept.length<=2^35) :
  au mP 41 [.ptr k 0,.agg (qs x)] h (λfO h'=>fO=.tuple []/\∃w' X,eP h' X id k w' d (oO s (s0 d s x))/\iW id h ow h' X):=by
 refine a7 Tryz.func41 rfl ?_;have aw:(kB (qs x)).cells=eL [.ag x.outs.length (x.outs.flatMap jf),.ag x.verts.length (ax x.verts),.ag x.chgs.length (x.chgs.flatMap aq),.ag x.deads.length (x.deads.flatMap rE)]:=rfl;obtain⟨H,hH⟩:∃y,y=(h.push (.cells [.ptr k 0] 36 eN)).push (.cells [.ag x.outs.length (x.outs.flatMap jf),.ag x.verts.length (ax x.verts),.ag x.chgs.length (x.chgs.flatMap aq),.ag x.deads.length (x.deads.flatMap rE)] 101 eN):=⟨_,rfl⟩;have bl:J h H kR:=by rw[hH];exact(J.push _ _ _).bp _
 have hx:H.n=h.n+2:=by rw[hH];rfl
 have aH:H.get h.n=.cells [.ptr k 0] 36 none:=by rw[hH,iZ (by rw[dn];omega)];exact ac
 have aQ:H.get (h.n+1)=.cells [.ag x.outs.length (x.outs.flatMap jf),.ag x.verts.length (ax x.verts),.ag x.chgs.length (x.chgs.flatMap aq),.ag x.deads.length (x.deads.flatMap rE)] 101 none:=by rw[hH];exact ac
 have jq:=t.aY bl;have AU:Fr H ow:=λq ab=>f q (by omega);have tl:=ay.ai bl;have ob:ow h.n=(0,0):=f _ (BY _);have aX:ow (h.n+1)=(0,0):=f _ (by omega);have x3:∀{h':I} {X:cM},iW id H ow h' X->h'.get h.n=.cells [.ptr k 0] 36 none:=λbT=>(bT.ai.get h.n (by omega) (by rw[ob];simp)).trans aH;have Pm:∀{h':I} {X:cM},iW id H ow h' X->h'.get (h.n+1)=.cells [.ag x.outs.length (x.outs.flatMap jf),.ag x.verts.length (ax x.verts),.ag x.chgs.length (x.chgs.flatMap aq),.ag x.deads.length (x.deads.flatMap rE)] 101 none:=λbT=>(bT.ai.get (h.n+1) (by omega) (by rw[aX];simp)).trans aQ;simp only[ae,ds,AT,al,ab6,aw];rw[<-hH];clear hH;refine aT.bG (α:=Nat×mw×cM) (λy f h'=>f 2=.ptr h.n 0/\f 3=.ptr (h.n+1) 0/\f 4=.func (.func 91) [] [.ptr h.n 0]/\f 18=.ag x.outs.length (x.outs.flatMap jf)/\f 19=.int gj (x.outs.length:Nat)/\f 20=.int gj (y.1:Nat)/\y.1<=x.outs.length /\
   eP h' y.2.2 id k y.2.1 d (oO s ((x.outs.take y.1).map (B7 d s)))/\iW id H ow h' y.2.2) (λy=>x.outs.length-y.1) (0,w,ow)
  ⟨rfl,rfl,rfl,rfl,rfl,rfl,D8 _,by rw[az3,azd,awd];exact jq,iW.refl AU⟩ ?_
 rintro⟨i,cH,dz⟩ f h1 ⟨F,L,M,aa,Z,Y,hi,O,A⟩
 simp only at Y hi O A;refine wpS ?_;have dL:=x3 A;have bW:=Pm A;have eh:=A.ai.n;by_cases Q:i<x.outs.length
 .have ba:=dK i x.outs.length;have l8:=km Q (by omega);have eg:=r0 (P:=mP) (kk:=.i64) RS Q apX;obtain⟨u,v,HI,hu,hk⟩:=aU _ (ayz Q);have qy:(x.outs.take (i+1)).map (B7 d s)=(x.outs.take i).map (B7 d s)++[B7 d s x.outs[i]]:=by rw[ayY Q,ay1];rfl
  generalize x.outs[i]=q at eg HI qy;obtain⟨D0,⟨z,B,C⟩⟩:=q;simp only at HI;subst HI;have ld:∀r,cw (eL (eL 4)) (eL (jf ((u:Int),⟨z,B,C⟩)++r))=eL (.agg (jf ((u:Int),⟨z,B,C⟩))):=λr=>j1 (RS _);have co:(kB (jf ((u:Int),⟨z,B,C⟩))).cells=eL [.int gj (u:Int),.int gj z,.int gj B,.int gj C]:=rfl;have Ax:bD (eL 4) (aP.cells [.int gj 0,.int gj 0,.int gj 0,.int gj 0] 173 eN) 0 [.int gj (u:Int),.int gj z,.int gj B,.int gj C]=eL (.cells [.int gj (u:Int),.int gj z,.int gj B,.int gj C] 173 eN):=rfl;have cU:gK d.c.l (u:Int)=v.kind:=by unfold gK;rw[ayw,hu];rfl
  obtain⟨fO,qG⟩:=Hr (kk:=.i64) hu;obtain⟨bZ,bN,k2,S,_⟩:=bU h1 (.cells [.int gj (u:Int),.int gj z,.int gj B,.int gj C] 173 eN);have N:iW id H ow bZ dz:=A.trans (iW.push A.aO k2);have t2:=O.aY k2;have ck:=x3 N;have a2:=Pm N;have g2:=t2.get;unfold hy at g2;have c6:=N.ai.n;have A8:iU bZ:=tl.ai N.ai;have KI:=Zx o t2 A8 N.aO ck (by omega) ((N.bH _ (by omega)).trans ob) (by simp only[oO,D9,ajD,ajB];omega) 0 (u:Int);have h9:kB [.ag d.c.l.length (d.c.l.flatMap ao),.int gj d.c.p]=.agg (cx d.c.l d.c.p):=rfl;have lx:(if 3<=[kA gj z,.int gj B,.int gj C].length then eL (kB (ay5 3 [kA gj z,.int gj B,.int gj C]))else eN)=eL (kB (aR ⟨z,B,C⟩)):=rfl;have xu:cI (aP.cells [.int gj (u:Int),.int gj z,.int gj B,.int gj C] 173 eN) 1=eL [.int gj z,.int gj B,.int gj C]:=rfl;have bm:JP (eL 0) (.at (ao v++fO))=eL (.at (ao v++fO)):=rfl;simp only[ae,ds,al,F,aa,Z,Y,ba,eg,ld,co,Ax];rw[<-bN];clear bN;simp only[ae,ds,AT,By,al,ck,g2];refine aT.cL kR [] (.q 0 (.q 1 (.q 2 (.q 3 (.q 4 (.q 5 (.q 6 (.q 7 (.q 8 (.q 9 (.q 10 .done))))))))))) ?_;have hX:cw (eL eN) (eL (ao v++fO))=eL (.int gj v.kind):=rfl;by_cases EL:v.kind=5
  .have c5:(v.kind==5)=true:=(by simpa using EL);have M5:partOf d (u:Int) z=rC d.c.p d.c.l z:=(by unfold partOf;rw[cU,gr EL]);simp only[ae,bw,ds,AT,al,F,ck,g2,S,qG,hX,c5];refine aT.cL kR [] (.q 0 (.q 1 (.q 2 (.q 3 (.q 4 (.q 5 (.q 6 (.c 7 (.q 8 .done))))))))) ?_;simp only[ae,bw,ds,AT,By,al,F,ck,g2,S];refine gh rfl rfl rfl (λh' hk=>afk d.c.l d.c.p z o.ok h' (by rcases hk with hk|rfl;exact A8.ai hk;exact A8)) ?_;simp only[ae,bw,ds,AT,al,M,S,xu];refine cp (KI (rC d.c.p d.c.l z) ⟨z,B,C⟩ fr) λr bV ⟨hN,r3,eH,t5,xw⟩=>?_;subst hN;simp only[ae,ds,Y,l8];exact ar ⟨(i+1,r3,eH),⟨F,L,M,aa,Z,rfl,Q,by
    rw[qy,<-Sm d];unfold B7;simp only[M5];exact t5,N.trans xw⟩,by simp only;omega⟩
  .have c5:(v.kind==5)=false:=(by simpa using EL);have M5:partOf d (u:Int) z=d.q:=(by unfold partOf;rw[cU,gQ EL]);simp only[ae,bw,ds,AT,By,al,F,M,ck,g2,S,qG,hX,c5];refine cp (KI (d.q) ⟨z,B,C⟩ fr) λr bV ⟨hN,r3,eH,t5,xw⟩=>?_;subst hN;simp only[ae,ds,Y,l8];exact ar ⟨(i+1,r3,eH),⟨F,L,M,aa,Z,rfl,Q,by
    rw[qy,<-Sm d];unfold B7;simp only[M5];exact t5,N.trans xw⟩,by simp only;omega⟩
 have ba:=dY i x.outs.length;have DW:i=x.outs.length:=by omega
 subst DW;rw[ajE (BY _)]at O;simp only[ae,ds,AT,By,al,rl,L,Z,Y,ba,bW];clear dL eh aa Z Y hi Q;refine aT.bG (α:=Nat×mw×cM) (λy f h'=>f 2=.ptr h.n 0/\f 3=.ptr (h.n+1) 0/\f 4=.func (.func 91) [] [.ptr h.n 0]/\f 56=.ag x.chgs.length (x.chgs.flatMap aq)/\f 57=.int gj (x.chgs.length:Nat)/\f 58=.int gj (y.1:Nat)/\y.1<=x.chgs.length /\
   eP h' y.2.2 id k y.2.1 d (oO s (x.outs.map (B7 d s)++((x.verts.zip x.chgs).take y.1).flatMap (so d s)))/\iW id H ow h' y.2.2) (λy=>x.chgs.length-y.1) (0,cH,dz)
  ⟨F,L,M,rfl,rfl,rfl,D8 _,by simpa using O,A⟩ ?_
 clear O A bW F L M
 rintro⟨i,cH,dz⟩ f h1 ⟨F,L,M,W,T,G,hi,O,A⟩
 simp only at G hi O A;refine wpS ?_;have dL:=x3 A;have bW:=Pm A;have eh:=A.ai.n;by_cases Q:i<x.chgs.length
 .have ba:=dK i x.chgs.length;have l8:=km Q (by omega);have eg:=M0 (kk:=.i64) Q;have lQ:i<x.verts.length:=by omega
  have qG:=My lQ kE;have qy:(x.verts.zip x.chgs).take (i+1)=(x.verts.zip x.chgs).take i++[(x.verts[i],x.chgs[i])]:=by rw[ayY (by rw[aBk];omega)];simp
  have aZ:(((x.verts.zip x.chgs).take i).flatMap (so d s)).length<=i*2:=by rw[Pl (enc:=so d s) (sz:=2) (λ_=>rfl),ajB];exact ay6 _ (Nat.min_le_left _ _)
  generalize x.verts[i]=rM at qG qy;generalize x.chgs[i]=m at eg qy;have ld:∀r,cw (eL (eL 5)) (eL (aq m++r))=eL (.agg (aq m)):=λr=>j1 (jo m);have co:(kB (aq m)).cells=eL (aq m):=rfl;have Ax:bD (eL 5) (aP.cells [.int gj 0,.int gj 0,.int gj 0,.int gj 0,.bool fr] 110 eN) 0 (aq m)=eL (.cells (aq m) 110 eN):=rfl;have dc:∀U:I,cI (aP.cells (aq m) 110 eN) 0=eL (aq m):=λ_=>rfl;have bn:cw (eL (eL 5)) (eL (aq m))=eL (.agg (aq m)):=rfl;obtain⟨bZ,bN,k2,S,_⟩:=bU h1 (.cells (aq m) 110 eN);have N:iW id H ow bZ dz:=A.trans (iW.push A.aO k2);have t2:=O.aY k2;simp only[ae,ds,al,W,T,G,ba,eg,ld,co,Ax];rw[<-bN];clear bN;have a1:(if 5<=(aq m).length then eL (kB (ay5 5 (aq m)))else eN)=eL (.agg (aq m)):=rfl;simp only[ae,ds,a1];refine bE (av2 m bZ) ?_;simp only[ae,ds,r4];clear S dL bW eh k2 O A;refine aT.bG (α:=Nat×mw×cM) (λy f h'=>f 2=.ptr h.n 0/\f 3=.ptr (h.n+1) 0/\f 4=.func (.func 91) [] [.ptr h.n 0]/\f 56=.ag x.chgs.length (x.chgs.flatMap aq)/\f 57=.int gj (x.chgs.length:Nat)/\f 58=.int gj (i:Nat)/\f 8=.int gj (i:Nat) /\
    f 11=.ag 2 (ua [fr,m.del])/\f 68=.ag 2 ([uN m,qM m].flatMap aR)/\f 69=.int gj 2/\f 70=.int gj (y.1:Nat)/\y.1<=2 /\
    eP h' y.2.2 id k y.2.1 d (oO s ((x.outs.map (B7 d s)++((x.verts.zip x.chgs).take i).flatMap (so d s))++(so d s (rM,m)).take y.1))/\iW id H ow h' y.2.2) (λy=>2-y.1) (0,cH,dz)
   ⟨F,L,M,W,T,G,rfl,rfl,rfl,rfl,rfl,D8 _,by rw[az3,axA];exact t2,N⟩ ?_
  clear t2 N F L M W T G
  rintro⟨j,jn,h6⟩ f aD ⟨F,L,M,W,T,G,f8,aA,aF,kV,ad,aV,t3,nZ⟩
  simp only at ad aV t3 nZ;refine wpS ?_;have hM:=x3 nZ;have a3:=Pm nZ;have n3:=nZ.ai.n;by_cases tg:j<2
  .have bt:decide ((j:Int)<2)=true:=hO (by omega);have wu:=km tg (by omega);have b0:hC mP 25 (.ag 2 ([uN m,qM m].flatMap aR)) (.int gj (j:Int))=eL (.at (aR [uN m,qM m][j]++([uN m,qM m].drop (j+1)).flatMap aR)):=Sk (l:=[uN m,qM m]) (kk:=.i64) (k:=j) tg;have BP:=VC (P:=mP) (l:=[fr,m.del]) (kk:=.i64) (k:=j) tg Wk;rw[show [fr,m.del].length=2 from rfl]at BP;have E2:(so d s (rM,m)).take (j+1)=(so d s (rM,m)).take j++[oN d s 1 rM d.q [uN m,qM m][j] [fr,m.del][j]]:=by
    rw[ayY (show j<(so d s (rM,m)).length from tg)];have:j=0\/j=1:=by omega
    rcases this with rfl|rfl<;>rfl
   have br:((so d s (rM,m)).take j).length<=2:=(by rw[ajB];exact Nat.min_le_right _ _);generalize [uN m,qM m][j]=R at b0 E2;generalize [fr,m.del][j]=D at BP E2;have iO:∀q,cw (eL (eL 3)) (eL (aR R++q))=eL (.agg (aR R)):=λq=>j1 (Av R);have vR:(kB (aR R)).cells=eL (aR R):=rfl;have Pn:bD (eL 3) (aP.cells [.int gj 0,.int gj 0,.int gj 0] 45 eN) 0 (aR R)=eL (.cells (aR R) 45 eN):=rfl;have eZ:(if 3<=(aR R).length then eL (kB (ay5 3 (aR R)))else eN)=eL (.agg (aR R)):=rfl;have a6:cw (eL (eL 3)) (eL (aR R))=eL (.agg (aR R)):=rfl;have xu:cI (aP.cells (aR R) 45 eN) 0=eL (aR R):=rfl;obtain⟨lJ,jU,cg,bg,_⟩:=bU aD (.cells (aR R) 45 eN);have qw:iW id H ow lJ h6:=nZ.trans (iW.push nZ.aO cg);have t4:=t3.aY cg;have pS:=x3 qw;have a4:=Pm qw;have n4:=qw.ai.n;have g4:=t4.get;unfold hy at g4;have KI:=Zx o t4 (tl.ai qw.ai) qw.aO pS (by omega) ((qw.bH _ (by omega)).trans ob) (by simp only[oO,D9,ajD];omega) 1 rM d.q R D;simp only[ae,ds,al,aF,kV,ad,bt,b0,iO,vR,Pn];rw[<-jU];clear jU;refine aT.xI (λq=>(h6 q).1=id+1) [15] (.q 0 (.q 1 (.q 2 (.q 3 (.q 4 (.q 5 (.q 6 (.q 7 (.q 8 (.q 9 (.q 10 (.q 11 (.q 12 (.q 13 (.q 14 (.a 15 .done)))))))))))))))) ?_;simp only[ae,bw,e4,ds,AT,By,al,F,L,M,f8,aA,a4,pS,g4,bg,qG,BP,a6,xu];refine cp KI λr bV ⟨hN,r3,eH,t5,xw⟩=>?_;subst hN;have lh:=xw.ai;simp only[ae,bw,e4,ds,ad,wu];exact ar ⟨(j+1,r3,eH),⟨F,L,M,W,T,G,f8,aA,aF,kV,rfl,tg,by
    rw[E2,<-axC,<-Sm d];exact t5,qw.trans xw⟩,by simp only;omega⟩
  have bt:decide ((j:Int)<2)=false:=hK (by omega);have D1:j=2:=by omega
  subst D1;simp only[ae,ds,al,L,G,kV,ad,bt,l8];exact ar ⟨(i+1,jn,h6),⟨F,L,M,W,T,rfl,Q,by
   rw[show(so d s (rM,m)).take 2=so d s (rM,m)from rfl]at t3;rw[qy,ay3,<-axC,ayW,aAK,axA];exact t3,nZ⟩,by simp only;omega⟩
 have ba:=dY i x.chgs.length;have DW:i=x.chgs.length:=by omega
 subst DW;rw[ajE (by rw[aBk];omega)]at O;simp only[ae,ds,AT,By,al,ab7,L,T,G,ba,bW];clear dL eh W T G hi Q;refine aT.bG (α:=Nat×mw×cM) (λy f h'=>f 2=.ptr h.n 0/\f 3=.ptr (h.n+1) 0/\f 4=.func (.func 91) [] [.ptr h.n 0]/\f 94=.ag x.deads.length (x.deads.flatMap rE)/\f 95=.int gj (x.deads.length:Nat)/\f 96=.int gj (y.1:Nat)/\y.1<=x.deads.length /\
   eP h' y.2.2 id k y.2.1 d (oO s (x.outs.map (B7 d s)++(x.verts.zip x.chgs).flatMap (so d s)++(x.deads.take y.1).map (Pj d s)))/\iW id H ow h' y.2.2) (λy=>x.deads.length-y.1) (0,cH,dz)
  ⟨F,L,M,rfl,rfl,rfl,D8 _,by simpa using O,A⟩ ?_
 clear O A bW F L M
 rintro⟨i,cH,dz⟩ f h1 ⟨F,L,M,aG,av,af,hi,O,A⟩
 simp only at af hi O A;refine wpS ?_;by_cases Q:i<x.deads.length
 .have ba:=dK i x.deads.length;have l8:=km Q (by omega);have eg:=r0 (P:=mP) (kk:=.i64) RT Q apY;have qy:(x.deads.take (i+1)).map (Pj d s)=(x.deads.take i).map (Pj d s)++[Pj d s x.deads[i]]:=by rw[ayY Q,ay1];rfl
  generalize x.deads[i]=q at eg qy;obtain⟨D0,⟨z,B,C⟩,HJ⟩:=q;have ld:∀r,cw (eL (eL 5)) (eL (rE (D0,⟨z,B,C⟩,HJ)++r))=eL (.agg (rE (D0,⟨z,B,C⟩,HJ))):=λr=>j1 (RT _);have co:(kB (rE (D0,⟨z,B,C⟩,HJ))).cells=eL [.int gj D0,.int gj z,.int gj B,.int gj C,.int gj HJ]:=rfl;have Ax:bD (eL 5) (aP.cells [.int gj 0,.int gj 0,.int gj 0,.int gj 0,.int gj 0] 177 eN) 0 [.int gj D0,.int gj z,.int gj B,.int gj C,.int gj HJ]=eL (.cells [.int gj D0,.int gj z,.int gj B,.int gj C,.int gj HJ] 177 eN):=rfl;obtain⟨bZ,bN,k2,S,_⟩:=bU h1 (.cells [.int gj D0,.int gj z,.int gj B,.int gj C,.int gj HJ] 177 eN);have N:iW id H ow bZ dz:=A.trans (iW.push A.aO k2);have t2:=O.aY k2;have ck:=x3 N;have g2:=t2.get;unfold hy at g2;have c6:=N.ai.n;have aZ:((x.verts.zip x.chgs).flatMap (so d s)).length<=2^23:=by rw[Pl (enc:=so d s) (sz:=2) (λ_=>rfl),aBk];omega
  have KI:=Zx o t2 (tl.ai N.ai) N.aO ck (by omega) ((N.bH _ (by omega)).trans ob) (by simp only[oO,D9,ajD,ajB];omega) 2 D0 d.q ⟨z,B,C⟩ fr;simp only[ae,ds,al,aG,av,af,ba,eg,ld,co,Ax];rw[<-bN];clear bN;refine aT.xI (λq=>(dz q).1=id+1) [9] (.q 0 (.q 1 (.q 2 (.q 3 (.q 4 (.q 5 (.q 6 (.q 7 (.q 8 (.a 9 .done)))))))))) ?_;simp only[ae,bw,e4,ds,AT,By,al,F,M,ck,g2,S];refine cp KI λr bV ⟨hN,r3,eH,t5,xw⟩=>?_;subst hN;have lh:=xw.ai;simp only[ae,bw,e4,ds,af,l8];exact ar ⟨(i+1,r3,eH),⟨F,L,M,aG,av,rfl,Q,by
   rw[qy,<-axC,<-Sm d];exact t5,N.trans xw⟩,by simp only;omega⟩
 have ba:=dY i x.deads.length;have DW:i=x.deads.length:=by omega
 subst DW;rw[ajE (BY _)]at O;simp only[ae,av,af,ba,aJ];exact ar ⟨rfl,cH,dz,O,⟨bl.up.trans A.ai λq ab e=>e,λq ab=>A.bH q (by omega),A.aO⟩⟩
end
structure sq(id:Nat)(h:I)(ow:cM)(h':I)(ow':cM):Prop where
 ai:J h h' (λq=>(ow q).1=id\/(ow q).1=id+1)
 bH:∀q,q<h.n->ow' q=ow q
 aO:Fr h' ow'
theorem sq.trans{id:Nat}{h j s:I}{u z A:cM}(a:sq id h u j z)(b:sq id j z s A):sq id h u s A :=
 ⟨a.ai.trans b.ai λq i B=>by rw[<-a.bH q i];exact B,λq i=>(b.bH q (IS i a.ai.n)).trans (a.bH q i),b.aO⟩
theorem sq.push{id:Nat}{h h':I}{i:cM}(f:Fr h i)(k:J h h' kR):sq id h i h' i:=⟨k.up,λ_ _=>rfl,λq j=>f q (UN k.n j)⟩
theorem iW.Uq{id:Nat}{h h':I}{j i:cM}(a:iW id h j h' i):sq id h j h' i:=⟨a.ai.mono λ_ e=>.inr e,a.bH,a.aO⟩
section
variable {h h':I} {ow ow':cM} {id k:Nat} {w:mw} {d:fj} {s:dQ}
theorem eP.Sn(t:eP h ow id k w d s)(j:J h h' (λq=>(ow q).1=id))(u:∀q,q<h.n->ow' q=ow q){z:cT}(A:fJ h' ow' id w.m w.b d.c z):eP h' ow' id k w d { s with m:=z } :=
 ⟨IS t.lt j.n,(j.get k t.lt (by rw[t.own];simp)).trans t.get,(u _ t.lt).trans t.own,A,
  t.o.ai j (λq i U=>by rw[t.hQ q (cD.2 i)]at U;simp at U),t.uO.ai j (λq i U=>by rw[t.kk q (cD.2 i)]at U;simp at U),t.ro.ai j (λq i U=>by rw[t.fO q (cD.2 i)]at U;simp at U),
  t.hQ.bH (λq i=>t.o.lt q (cD.1 i)) u,t.kk.bH (λq i=>t.uO.lt q (cD.1 i)) u,t.fO.bH (λq i=>t.ro.lt q (cD.1 i)) u,t.FN,t.HG⟩
theorem eP.su(t:eP h ow id k w d s)(i:J h h' (bb w.cE)){A:List Int}(B:Own h' 3 1 w.cE (ax A)):eP h' ow id k w d { s with offs:=A }:=by
 have u:∀q,bb w.cE q->ow q=(id+1,2):=λq U=>t.hQ q (cD.2 U);exact⟨IS t.lt i.n,(i.get k t.lt λU=>by have:=u k U;rw[t.own]at this;simp at this).trans t.get,t.own,t.ef.ai i (λq z U=>by rw[u q U];simp) λ_ _=>rfl,
  B,t.uO.ai i (λq z U=>by have j:=t.kk q (cD.2 z);rw[u q U]at j;simp at j),t.ro.ai i (λq z U=>by have j:=t.fO q (cD.2 z);rw[u q U]at j;simp at j),t.hQ,t.kk,t.fO,t.FN,t.HG⟩
theorem awh(h:I)(a:Int):am mP 46 1 [(0,.int gj a)] h=eL (.bh h.n 0 1 1,h.push (.cells [.int gj a] 3 eN)):=by rw[nm pR];rfl
theorem awi(t:eP h ow id k w d s)(f:Fr h ow)(X:s.order.length<=2^36)(x:Int) :
  ∃v a,kd mP 46 46 w.vr (.bh h.n 0 1 1) (h.push (.cells [.int gj x] 3 eN))=eL (v,a)/\a.get k=.cells (hy w d s) 95 eN/\v.one=e6/\v.cells=eL [v]/\J h a (λq=>bb w.vr q) /\
   ∃ow',eP (a.set k (.cells (hy { w with vr:=v } d { s with order:=s.order++[x] }) 95 eN)) ow' id k { w with vr:=v } d { s with order:=s.order++[x] }/\iW id h ow (a.set k (.cells (hy { w with vr:=v } d { s with order:=s.order++[x] }) 95 eN)) ow':=by
 have D:J h (h.push (.cells [.int gj x] 3 eN)) kR:=J.push _ _ _;have lo:(ax s.order).length=s.order.length:=ht _;have G:Own (h.push (.cells [kA gj x] 3 eN)) 3 1 (.bh h.n 0 1 1) [kA gj x]:=Own.fz [kA gj x] 1 rfl (by decide);have H:=uc (P:=mP) (t:=46) hI G (n:=1) rfl (by decide) rfl;obtain⟨v,a,L,u,M,N⟩:=be (P:=mP) (t:=46) (tx:=46) pR (by decide) (t.ro.aY D) H rfl (λm C=>by
  change m*1=_ at C;rw[lo]at C;simp at C;exact⟨by simp only[lim];omega,by simp only[lim];omega⟩)
 have u:Own a 3 1 v (ax (s.order++[x])):=by rw[show ax (s.order++[x])=ax s.order++[kA gj x]from ay1];exact u
 have z:J h a (bb w.vr):=D.up.trans' M;have O:=z.n;have A:∀q,q<h.n->dS ow h.n a.n (id+1,4) q=ow q:=λq i=>zj i;have B:∀q,bb w.vr q->ow q=(id+1,4):=λq U=>t.fO q (cD.2 U);have Q:¬bb w.vr k:=λU=>by have:=B k U;rw[t.own]at this;simp at this
 have F:J h a (λq=>(ow q).1=id+1):=z.mono λq U=>by rw[B q U]
 have S:v≠.z0:=ahX u (by simp[ax]);have T:nT (dS ow h.n a.n (id+1,4)) (id+1,4) (gF v):=λq i=>by
  rcases N with e|e
  .have j:aS w.vr=eL q:=(by rw[<-e];exact cD.1 i);rw[zj (t.ro.lt q j)];exact B q j
  .have j:=e q (cD.1 i);have a:=u.lt q (cD.1 i);rw[dn]at j;exact Oc (by omega) a
 have W:Fr a (dS ow h.n a.n (id+1,4)):=λq i=>by unfold dS;rw[gQ (by omega)];exact f q (by omega)
 refine⟨v,a,L,(z.get k t.lt Q).trans t.get,?_,?_,z,dS ow h.n a.n (id+1,4),?_,?_⟩
 .rcases u with⟨rfl|rfl,_⟩|⟨_,_,_,_,_,rfl,_⟩<;>rfl
 .rcases u with⟨rfl|rfl,_⟩|⟨_,_,_,_,_,rfl,_⟩<;>rfl
 .refine eP.uF (w:={ w with vr:=v }) (s:={ s with order:=s.order++[x] }) (IS t.lt O) ((A _ t.lt).trans t.own) (t.ef.ai F (λq i U=>by rw[U];simp) A) (t.o.ai z λq i U=>?_) (t.uO.ai z λq i U=>?_) u (t.hQ.bH (λq i=>t.o.lt q (cD.1 i)) A) (t.kk.bH (λq i=>t.uO.lt q (cD.1 i)) A) T t.FN S
  .have j:=t.hQ q (cD.2 i);rw[B q U]at j;simp at j
  .have j:=t.kk q (cD.2 i);rw[B q U]at j;simp at j
 .exact⟨F.trans (J.set _ _ _) λq i U=>by rw[U,t.own],A,W⟩
end
def tD(r:tk):Rec:=⟨r.k,r.v,r.t⟩
def CO(d:fj)(a:sn)(v:Int):List ed:=logAt a.logs (ct d.c.p d.c.l 0 v d.q)
def KJ(d:fj)(s:dQ)(i v a:Int)(r:Rec):dQ :=
 { s with m:=(stepT d.c s.m v r).1.1,offs:=s.offs.set i.toNat (a+1),order:=s.order++[i],kept:=s.kept++s0 d s (stepT d.c s.m v r).1.2 }
def oP(d:fj)(s:dQ)(a:sn)(i:Int):dQ×Bool×Int :=
 if i<0\/(d.c.ins.length:Int)<=i then(s,fr,1)else
 match(CO d a (d.c.ins.getD i.toNat 0))[(s.offs.getD i.toNat 0).toNat]? with
 | none=>(s,fr,0)
 | some r=>if s.offs.getD i.toNat 0<0 then(s,fr,0)else if 256<=s.order.length then(s,fr,3)else(KJ d s i (d.c.ins.getD i.toNat 0) (s.offs.getD i.toNat 0) (tD r.1),e6,0)
theorem VB{l:List Int}{k:Nat}(a:k<(ax l).length):(ax l)[k]=.int gj (l[k]'(by rwa[ht]at a)):=by simp[ax]
theorem QP(l:List Int)(k:Nat)(x:Int):(ax l).set k (.int gj x)=ax (l.set k x):=by unfold ax;rw[List.map_set]
theorem awj{l:List ed}{k:Nat}(a:k<l.length){kk:aPh}:hC mP 25 (.ag l.length (ek l)) (.int kk (k:Int))=eL (.at (aR (tD l[k].1)++ek (l.drop (k+1)))):=r0 (enc:=λp:ed=>ly p.1) (λ_=>rfl) a Wj
section
variable {h h':I} {ow ow':cM} {id k:Nat} {w:mw} {d:fj} {s:dQ}
theorem Po(o:et d.c)(t:eP h ow id k w d s)(T:yd d.c s.m)(ay:iU h)(aO:Fr h ow)(aG:id≠0)(j:sn)(q6:pr j)(Pp:s.offs.length=d.c.ins.length)(aB:s.kept.length<=2^34)(p8:s.order.length<=256)(i:Int) :
  au mP 14 [.ptr k 0,.agg (ca j),.int gj i] h (λr h'=>r=.tuple [.bool (oP d s j i).2.1,.int gj (oP d s j i).2.2]/\∃w' ow',eP h' ow' id k w' d (oP d s j i).1/\sq id h ow h' ow'):=by
 refine a7 Tryz.func14 rfl ?_;have aw:(kB (ca j)).cells=eL (ca j):=rfl;obtain⟨H,hH,bl,ad,hx⟩:=bU h (.cells (ca j) 34 eN);have z:=t.aY bl;have AU:Fr H ow:=λq ab=>aO q (by omega);have W:=ay.ai bl;have Q:sq id h ow H ow:=sq.push aO bl;have g:=z.get;unfold hy at g;have ne:=FO k;have bu:=KA o;simp only[ae,ds,reduceCtorEq,al,aw];rw[<-hH];clear hH;by_cases i0:i<0
 .have mC:decide (i<0)=true:=hO i0;have e:oP d s j i=(s,fr,1):=by unfold oP;rw[gr (.inl i0)]
  simp only[ae,ds,mC,aJ];exact ar ⟨by rw[e],w,ow,by rw[e];exact z,Q⟩
 have mC:decide (i<0)=false:=hK i0;by_cases i1:(d.c.ins.length:Int)<=i
 .have ba:decide ((d.c.ins.length:Int)<=i)=true:=hO i1;have e:oP d s j i=(s,fr,1):=by unfold oP;rw[gr (.inr i1)]
  simp only[ae,ds,AT,By,reduceCtorEq,al,hI,mC,g,ba,aJ];exact ar ⟨by rw[e],w,ow,by rw[e];exact z,Q⟩
 have ba:decide ((d.c.ins.length:Int)<=i)=false:=hK i1;obtain⟨n,rfl⟩:=aBj (show 0<=i by omega);have aF:n<d.c.ins.length:=by omega
 have eD:n<s.offs.length:=by omega
 have u:oP d s j n=(match(CO d j d.c.ins[n])[(s.offs[n]).toNat]? with
  | none=>(s,fr,0)
  | some r=>if s.offs[n]<0 then(s,fr,0)else if 256<=s.order.length then(s,fr,3)else(KJ d s n d.c.ins[n] s.offs[n] (tD r.1),e6,0)):=by
  unfold oP;rw[gQ (by omega),ayw,aCL,aCL,Jt aF,Jt eD];rfl
 have b7:d.c.ins.contains d.c.ins[n]=true:=List.contains_iff_mem.2 (ayz aF);have X:=My aF kE;obtain⟨io,cY,dD,⟨qr,fP⟩,_⟩:=QM (P:=mP) (kk:=.i64) kE z.o (k:=n) (by rw[ht];exact eD);rw[VB]at fP;obtain⟨B,qc⟩:∃x,x=d.c.ins[n]:=⟨_,rfl⟩;obtain⟨L,Jb⟩:∃x,x=s.offs[n]:=⟨_,rfl⟩;rw[<-qc]at X u b7;rw[<-Jb]at fP u;simp only[ae,ds,AT,By,reduceCtorEq,al,hI,mC,g,ba];refine aT.cL kR [] (.q 0 (.q 1 (.q 2 (.q 3 (.q 4 (.q 5 (.q 6 (.q 7 (.q 8 (.q 9 (.q 10 (.q 11 (.q 12 (.q 13 (.q 14 (.q 15 .done)))))))))))))))) ?_;simp only[ae,bw,ds,AT,By,reduceCtorEq,al,g,X,cY,fP];refine aT.cL kR [] (.q 0 (.q 1 (.q 2 (.q 3 (.q 4 (.q 5 (.q 6 (.q 7 (.q 8 (.q 9 (.c 10 (.c 11 (.q 12 (.q 13 .done)))))))))))))) ?_;have qK:(if 3<=(ca j).length then eL (kB (ay5 3 (ca j)))else eN)=eL (.agg (ca j)):=rfl;have d0:cI (aP.cells (ca j) 34 eN) 0=eL (ca j):=rfl;have q7:cw (eL (eL 3)) (eL (ca j))=eL (.agg (ca j)):=rfl;simp only[ae,bw,ds,AT,By,reduceCtorEq,al,g,ad,d0,q7];refine gh rfl rfl rfl (λh' hk=>DY d.c.l d.c.p 0 B d.q o.ok h' (by rcases hk with hk|rfl;exact W.ai hk;exact W)) ?_;simp only[bw];refine gh rfl rfl rfl (λh' hk=>ahw j q6 (ct d.c.p d.c.l 0 B d.q) h') ?_;obtain⟨C,mT⟩:∃x,x=CO d j B:=⟨_,rfl⟩;have Zy:logAt j.logs (ct d.c.p d.c.l 0 B d.q)=C:=mT.symm;have Ie:C.length<=2^30:=by
  rw[mT];unfold CO logAt;cases aA:j.logs.find? (λc=>c.1==ct d.c.p d.c.l 0 B d.q)with
  | none=>simp
  | some c=>exact q6.2.2.1 c (List.mem_of_find?_eq_some aA)
 rw[<-mT]at u;have af:∀q,(cq (q,C))[1]?=eL (.ag C.length (ek C)):=λ_=>rfl;simp only[ae,bw,ds,al,Zy,af];by_cases a0:L<0
 .have Z:decide (L<0)=true:=hO a0;have e:oP d s j n=(s,fr,0):=by
   rw[u];split
   .rfl
   .rw[gr a0]
  simp only[ae,ds,Z,aJ];exact ar ⟨by rw[e],w,ow,by rw[e];exact z,Q⟩
 have Z:decide (L<0)=false:=hK a0;by_cases bW:(C.length:Int)<=L
 .have p1:decide ((C.length:Int)<=L)=true:=hO bW;have e:oP d s j n=(s,fr,0):=by rw[u,List.getElem?_eq_none (by omega)]
  simp only[ae,ds,r4,Z,p1,aJ];exact ar ⟨by rw[e],w,ow,by rw[e];exact z,Q⟩
 have p1:decide ((C.length:Int)<=L)=false:=hK bW;obtain⟨a,aW⟩:=aBj (show 0<=L by omega);have tH:a<C.length:=by omega
 rw[aW]at Z p1 u fP;rw[ayw,Jt tH]at u;simp only[gQ (show ¬((a:Int)<0)by omega)]at u;have lo:=Zt z.ro;simp only[ae,ds,AT,By,reduceCtorEq,al,r4,aW,Z,p1,g,lo];by_cases or:256<=s.order.length
 .have cc:decide ((256:Int)<=(s.order.length:Int))=true:=hO (by omega);have e:oP d s j n=(s,fr,3):=by rw[u,gr or]
  simp only[ae,ds,cc,aJ];exact ar ⟨by rw[e],w,ow,by rw[e];exact z,Q⟩
 have cc:decide ((256:Int)<=(s.order.length:Int))=false:=hK (by omega);rw[gQ or]at u;have aa:=awj (kk:=.i64) tH;obtain⟨R,e8⟩:∃R,R=tD C[a].1:=⟨_,rfl⟩;rw[<-e8]at u aa;have O2:∀q,cw (eL (eL 3)) (eL (aR R++q))=eL (.agg (aR R)):=λq=>j1 (Av R);obtain⟨Y,M⟩:∃Y,Y=stepT d.c s.m B R:=⟨_,rfl⟩;have Ur:Y.2=0:=by rw[M];exact awc s.m R b7
 simp only[ae,cc];refine aT.cut (λb2 BX=>b2 0=.ptr k 0/\b2 2=.int gj (n:Int) /\
   ∃F D,b2 11=.ptr F 0/\b2 12=.int gj 0/\AY id w.m w.b d.c H ow Y.1.1 Y.1.2 F BX D) ?_ ?_
 .refine aT.cL (λq=>(ow q).1=id) [9,13,14] (.q 0 (.q 1 (.q 2 (.q 3 (.q 4 (.q 5 (.q 6 (.q 7 (.q 8 (.e 9 (.q 10 (.q 11 (.q 12 (.e 13 (.e 14 (.q 15 .done) .stop) .stop)))) (.e 13 (.e 9 (.q 10 (.q 11 (.q 12 (.e 14 (.q 15 .done) .stop)))) .stop) .stop))))))))))) ?_;have mk:¬(ow k).1=id:=by rw[t.own];simp
  have pM:(if 3<=(aR R).length then eL (kB (ay5 3 (aR R)))else eN)=eL (.agg (aR R)):=rfl;simp only[ae,bw,e4,ds,AT,By,reduceCtorEq,al,g,aa,O2,mk];refine⟨?_,?_⟩
  .have dq:=afZ o z.ef T.aQ T.wf AU W.1 aG B R;rw[<-M]at dq;refine cp dq λr G ⟨hN,D,Pq,CG,f5,N⟩=>?_;subst hN;have HL:(R4 Y.1.2).cells=eL (qs Y.1.2):=rfl;have Pr:bD (eL 4) (aP.cells [V.ah,V.ah,V.ah,V.ah] 101 eN) 0 (qs Y.1.2)=eL (.cells (qs Y.1.2) 101 eN):=Oy rfl rfl rfl rfl;have lK:J H G (λq=>(ow q).1=id):=N;have A:=AY.push (x:=Y.1.2) Pq CG f5 N;have av:J H (G.push (.cells [V.ah,V.ah,V.ah,V.ah] 101 eN)) (λq=>(ow q).1=id):=N.trans (J.push _ _ kR) λ_ _ e=>e.elim;have Ps:J H (G.push (.cells (qs Y.1.2) 101 eN)) (λq=>(ow q).1=id):=A.ai;simp only[ae,bw,e4,ds,al,lK,av,Ps,HL,Pr,Ur];exact ar ⟨rfl,rfl,rfl,G.n,D,rfl,rfl,A⟩
  .have Pt:J H (H.push (.cells [.ah,.ah,.ah,.ah] 101 eN)) kR:=J.push _ _ _;have bA:(H.push (.cells [.ah,.ah,.ah,.ah] 101 eN)).n=H.n+1:=rfl;have dq:=afZ o (z.ef.aY Pt) T.aQ T.wf (λq ab=>AU q (by omega)) (W.ai Pt).1 aG B R;rw[<-M]at dq;refine cp dq λr G ⟨hN,D,Pq,CG,f5,N⟩=>?_;subst hN;have HL:(R4 Y.1.2).cells=eL (qs Y.1.2):=rfl;have Pr:bD (eL 4) (aP.cells [V.ah,V.ah,V.ah,V.ah] 101 eN) 0 (qs Y.1.2)=eL (.cells (qs Y.1.2) 101 eN):=Oy rfl rfl rfl rfl;have lK:J H G (λq=>(ow q).1=id):=Pt.up.trans N λ_ _ e=>e;have RK:G.get H.n=.cells [V.ah,V.ah,V.ah,V.ah] 101 none:=(N.get H.n (by omega) (by rw[AU _ (BY _)];exact λe=>aG e.symm)).trans ac;have A:=AY.set (x:=Y.1.2) aG AU Pq CG f5 N;have Ps:J H (G.set H.n (.cells (qs Y.1.2) 101 eN)) (λq=>(ow q).1=id):=A.ai;simp only[ae,bw,e4,ds,al,lK,Ps,HL,Pr,RK,Ur];exact ar ⟨rfl,rfl,rfl,H.n,D,rfl,rfl,A⟩
 .rintro f BX ⟨f0,f2,F,D,aC,aD,A⟩
  have t6:=z.Sn A.ai A.bH A.ef;have g6:=t6.get;unfold hy at g6;have aH:iU BX:=W.ai A.ai;have aI:sq id h ow BX D:=Q.trans ⟨A.ai.mono λ_ e=>.inl e,A.bH,A.aO⟩;obtain⟨aV,jL,oX,⟨bF,wg⟩,aX⟩:=QM (P:=mP) (kk:=.i64) kE t6.o (k:=n) (by rw[ht];exact eD);rw[VB]at wg;have KK:s.offs[n]=(a:Int):=Jb.symm.trans aW;simp only[KK]at wg;have aZ:aPh.i64.wrap ((a:Int)+1)=(a:Int)+1:=kp _ (by omega);obtain⟨ob,s1,hr,O⟩:=aX (.int gj ((a:Int)+1)) rfl;rw[QP]at hr;have z0:((0:Int) !=0)=false:=rfl;obtain⟨u7,sm⟩:∃y,y=BX.set aV ob:=⟨_,rfl⟩;rw[<-sm]at hr O;have t7:=t6.su O hr;have g7:=t7.get;unfold hy at g7;have aU:∀q,bb w.cE q->D q=(id+1,2):=λq U=>t6.hQ q (cD.2 U);have Us:sq id h ow u7 D:=aI.trans ⟨O.mono λq U=>.inr (by rw[aU q U]),λ_ _=>rfl,λq ab=>A.aO q (by have:=O.n;omega)⟩;have vW:=(O.get F A.lt λU=>by have:=aU F U;rw[A.own]at this;simp at this).trans A.get;simp only[ae,ds,AT,By,reduceCtorEq,al,f0,f2,aD,g6,jL,wg,aZ,s1];rw[<-sm];clear sm;simp only[ae,ds,AT,By,f2,g7];obtain⟨Pu,a1,dr,g8,v1,v2,jO,vt,t8,S⟩:=awi t7 Us.aO (by simp only;omega) (n:Int);have a6:=awh u7 (n:Int);unfold hy at g8;have KV:bD (eL 1) (aP.cells [.ag d.c.l.length (d.c.l.flatMap ao),.int gj d.c.p,.int gj d.n,.int gj d.q,.ptr w.m 0,.ag d.c.ins.length (ax d.c.ins),.int gj s.ep,.int gj s.tx,w.cE,w.vk,w.vr] 95 eN) 10 [Pu]=eL (.cells [.ag d.c.l.length (d.c.l.flatMap ao),.int gj d.c.p,.int gj d.n,.int gj d.q,.ptr w.m 0,.ag d.c.ins.length (ax d.c.ins),.int gj s.ep,.int gj s.tx,w.cE,w.vk,Pu] 95 eN):=by
   rw[rb v1];rfl
  have T5:(if 4<=(qs Y.1.2).length then eL (kB (ay5 4 (qs Y.1.2)))else eN)=eL (.agg (qs Y.1.2)):=rfl;have xI:cI (aP.cells (qs Y.1.2) 101 eN) 0=eL (qs Y.1.2):=rfl;have Zz:cw (eL (eL 4)) (eL (qs Y.1.2))=eL (.agg (qs Y.1.2)):=rfl;have Pv:=Us.trans S.Uq;have bg:D F=(0,0):=A.own;have Jc:=(S.ai.get F (IS A.lt O.n) (by rw[bg];simp)).trans vW;have Pw:iU _:=(aH.ai O).ai S.ai;obtain⟨bG,lx,bm,_⟩:=Sa o b7;have mJ:rH d.c Y.1:=by rw[M];exact af7 s.m bm lx R
  have bq:sz Y.1<=2^22:=by rw[M];exact agt o T B R
  have bn:Y.1.2.verts.length=Y.1.2.chgs.length:=by have:=awb (c:=d.c) s.m B R;rw[<-M]at this;exact this
  have xK:Y.1.2.outs.length<=2^22/\Y.1.2.chgs.length<=2^22/\Y.1.2.deads.length<=2^22:=by unfold sz at bq;omega
  have qQ:(s0 d s Y.1.2).length<=2^25:=by
   unfold s0;rw[D9,D9,ajD,ajD,Pl (enc:=so d s) (sz:=2) (λ_=>rfl),aBk];omega
  obtain⟨MR,ur⟩:∃y,y=a1.set k (.cells (hy { w with vr:=Pu } d { s with m:=Y.1.1,offs:=s.offs.set n ((a:Int)+1),order:=s.order++[(n:Int)] }) 95 eN):=⟨_,rfl⟩;simp only at t8 S Jc Pw Pv;rw[<-ur]at t8 S Jc Pw Pv;unfold hy at ur;simp only at ur;have Ix:=awe o t8 Pw S.aO Y.1.2 mJ.outs bn xK.1 xK.2.1 xK.2.2 (by simp only;omega);have bI:cI (MR.get F) 0=eL (qs Y.1.2):=by rw[Jc];rfl
  simp only[ae,ds,reduceCtorEq,al,f0,aC,a6,dr,g8,KV,v2];rw[<-ur];clear ur;simp only[ae,ds,Jc,xI,Zz];refine cp Ix λr hv ⟨bp,br,bs,t9,bt⟩=>?_;subst bp;have e:oP d s j n=(KJ d s n B (a:Int) R,e6,0):=u;simp only[ae,ds,aJ];exact ar ⟨by rw[e],br,bs,by rw[e];unfold KJ;rw[<-M];exact t9,Pv.trans bt.Uq⟩
end
def fq(d:fj)(s:dQ):bz:=⟨3,d.n,s.ep,s.tx,0,DU,fr,s.offs,s.order⟩
def my(d:fj)(s:dQ):List bz:=if s.order=[]then []else s.kept++[fq d s]
def pt(l:List bz):Prop:=∀x∈l,x.offs=[]/\x.order=[]
theorem ZA(h:I){i j:List V}(m:aE i h j h):∀l:List bz,pt l->aE (l.flatMap eS++i) h (l.flatMap bo++j) h
 | [],_=>m
 | x::l,an=>by
  obtain⟨az,bd⟩:=an x (by simp);have ih:=ZA h m l λy q=>an y (by simp[q]);obtain⟨a,b,c,e,g,⟨db,ea,jI⟩,s,u,z⟩:=x;simp only at az bd;subst az bd;rw[ayW,ayW,axC,axC];exact aE.cons (aK.refl _ _) (aE.cons (aK.refl _ _) (aE.cons (aK.refl _ _) (aE.cons (aK.refl _ _) (aE.cons (aK.refl _ _) (aE.cons (aK.refl _ _) (aE.cons (aK.refl _ _) (aE.cons (aK.refl _ _) (aE.cons (aK.refl _ _) (aE.cons (aK.h3 _) (aE.cons (aK.h3 _) ih))))))))))
theorem ZB(r:bz):(bo r).all (·.one)=true:=rfl
theorem awq(l:List bz):bc (l.flatMap bo):=xS auZ _
theorem awr(h:I)(x:bz):am mP 29 1 [(0,.agg (bo x))] h=eL (.bh h.n 0 1 1,h.push (.cells (bo x) 48 eN)):=by rw[nm Dp];rfl
section
variable {h:I} {ow:cM} {id k:Nat} {w:mw} {d:fj} {s:dQ}
theorem aws{h:I}{v:V}{l:List Int}(o:Own h 3 1 v (ax l))(a:v≠.z0)(i:l.length<=2^40):Pure mP 38 [v] h (.ag l.length (ax l)) :=
 Pure.acc (y1 _) (by rw[ht];exact(axD _).symm) (by decide) (av4 o a i)
theorem ii(t:eP h ow id k w d s)(an:pt s.kept)(pF:s.offs.length<=2^20)(aB:s.kept.length<=2^35)(p8:s.order.length<=2^20):Pure mP 12 [.ptr k 0] h (.ag (my d s).length ((my d s).flatMap bo)):=by
 refine Pure.of (bf.ag (awq _)) ?_;have g:=t.get;unfold hy at g;have Z:=FO k;have lo:=Zt t.ro;refine a7 Tryz.func12 rfl ?_;by_cases D:s.order=[]
 .have L:((s.order.length:Int)==0)=true:=by rw[D];rfl
  have e:my d s=[]:=gr D;simp only[ae,ds,AT,By,reduceCtorEq,al,Z,g,lo,L,aJ];rw[e];exact ar ⟨h,aK.lI h,J.refl _ _⟩
 have L:((s.order.length:Int)==0)=false:=by
  have:s.order.length≠0:=λU=>D (aAc.1 U);simpa using this
 have e:my d s=s.kept++[fq d s]:=gQ D;rw[e];simp only[ae,ds,AT,By,reduceCtorEq,al,Z,g,lo,L];refine aT.cL kR [20,21] (.q 0 (.q 1 (.q 2 (.q 3 (.q 4 (.q 5 (.q 6 (.q 7 (.q 8 (.q 9 (.q 10 (.q 11 (.q 12 (.c 13 (.q 14 (.q 15 (.q 16 (.q 17 (.c 18 (.q 19 (.e 20 (.a 21 .done) .stop))))))))))))))))))))) ?_;simp only[ae,bw,ds,AT,By,reduceCtorEq,al,g];have ka:∀h',(J h h' kR\/h'=h)->eP h' ow id k w d s:=λh' z=>by rcases z with z|rfl;exact t.aY z;exact t
 refine gh rfl rfl rfl (λh' z=>Zu (ka h' z) pF) ?_;simp only[ae,bw,ds,AT,By,reduceCtorEq,al,g];refine gh rfl rfl rfl (λh' z=>aws (ka h' z).ro t.HG (by omega)) ?_;have aa:(kB (bo (fq d s))).cells=eL (bo (fq d s)):=rfl;simp only[ae,bw,ds,AT,By,al];obtain⟨H,hH,M,ky,hx⟩:=bU h (.cells (bo (fq d s)) 48 eN);unfold bo fq DU at hH;simp only at hH;rw[<-hH];clear hH;have N:=t.aY M;have g2:=N.get;unfold hy at g2;have pM:(if 11<=(bo (fq d s)).length then eL (kB (ay5 11 (bo (fq d s))))else eN)=eL (.agg (bo (fq d s))):=rfl;have ZC:cw (eL (eL 11)) (eL (bo (fq d s)))=eL (.agg (bo (fq d s))):=rfl;have Yn:cI (aP.cells (bo (fq d s)) 48 eN) 0=eL (bo (fq d s)):=rfl;have B6:=λU=>awr U (fq d s);have af:∀(a b:I),J a b kR->J a b kR:=λ_ _ h=>h;have B:∀{F j:I} {v:V},J h F kR->Acc F j 48 11 v (s.kept.flatMap eS++bo (fq d s))->∃G,aK v j (.ag (s.kept++[fq d s]).length ((s.kept++[fq d s]).flatMap bo)) G/\J h G kR:=λ{F j v} kq a=>by
  have c9:aE (s.kept.flatMap eS++bo (fq d s)) j ((s.kept++[fq d s]).flatMap bo) j:=by
   rw[ay3,ayW,aAK,axA];exact ZA j (aE.refl _ _) s.kept an
  have u:(s.kept.flatMap eS++bo (fq d s)).length=(s.kept++[fq d s]).length*11:=by rw[D9,ft B5,sZ,D9,az9,ayC]
  rcases a.own with⟨_,U⟩|⟨i,O,cap,c,ex,rfl,hi,ay,Q,b1,dF⟩
  .exact absurd U (by simp[bo])
  .have el:O=(s.kept++[fq d s]).length:=aAf (show 0<11 by decide) (Q.symm.trans u);obtain⟨G,c3,S⟩:=aK.gU a.own c9 (J.refl j kR) (by simp[kR]) (by rw[u,ft sZ]);rw[<-el];have:=a.new i rfl;have:=kq.n;exact⟨G,c3,(kq.trans' a.ai).trans S λq F e=>by omega⟩
 refine aT.cL kR [4,6,7] (.q 0 (.q 1 (.q 2 (.q 3 (.q 5 (.e 4 (.e 6 (.a 7 (.q 8 .done)) .stop) (.e 6 (.e 4 (.a 7 (.q 8 .done)) .stop) .stop))))))) ?_;have eD:∀q,¬kR q:=λ_ h=>h;simp only[ae,bw,e4,ds,AT,By,reduceCtorEq,al,g2,ky,ZC,Yn,B6,eD];have Px:∀m,m*11=(s.kept.flatMap eS).length+11->m*120<=lim/\m<=lim:=λm hm=>by
  rw[ft B5]at hm;have:m=s.kept.length+1:=by omega
  subst this;exact⟨by simp only[lim];omega,by simp only[lim];omega⟩
 refine⟨?_,?_⟩
 .refine cp (ahY N.uO t.FN (by omega)) λr j C=>?_;have A:=C.ai;obtain⟨v4,br,W,X⟩:=C.uV (P:=mP) (t:=29) (T:=⟨48,[.int gj 0,.int gj 0,.int gj 0,.int gj 0,.int gj 0,.int gj 0,.int gj 0,.int gj 0,.bool fr,.ah,.ah],11,120⟩) Dp (by decide) (xs:=bo (fq d s)) rfl (ZB _) Px;have CJ:=(A.get h.n (by omega) (by simp[kR])).trans ky;have Ba:J H (j.push (.cells (bo (fq d s)) 48 eN)) kR:=A.trans' (J.push _ _ _);simp only[ae,bw,e4,ds,B6,A,Ba,W,aJ];exact ar (B M X)
 .have Y:J H (H.push (.cells (bo (fq d s)) 48 eN)) kR:=J.push _ _ _;refine cp (ahY (N.aY Y).uO t.FN (by omega)) λr j C=>?_;have A:=C.ai;have S:=Y.trans' A;have hs:Own j 48 11 (.bh H.n 0 1 1) (bo (fq d s)):=(Own.fz (h:=H) (bo (fq d s)) 1 rfl (by decide)).aY A;have di:=uc (P:=mP) (t:=29) ui hs (n:=1) rfl (by decide) (ZB _);obtain⟨v4,br,W,X⟩:=C.sD (P:=mP) (t:=29) (tx:=29) (T:=⟨48,[.int gj 0,.int gj 0,.int gj 0,.int gj 0,.int gj 0,.int gj 0,.int gj 0,.int gj 0,.bool fr,.ah,.ah],11,120⟩) Dp (by decide) di rfl Px;simp only[ae,bw,e4,ds,S,W,aJ];exact ar (B (M.trans' Y) X)
end
section
variable {h:I} {ow:cM} {id m:Nat} {b:At} {c:bk} {s:cT}
theorem aiq(o:et c)(M:iU h)(i:sn)(N:pr i)(q v:Int){A B C:Nat}(O:A<h.n)(Q:B<h.n)(S:C<h.n)(D:h.get A=.cells (ca i) 34 eN)(F:h.get B=.cells [.ag c.l.length (c.l.flatMap ao),.int gj c.p] 24 eN)(G:h.get C=.cells [.int gj q] 3 eN) :
  Pure mP 35 [.int gj v,.ptr A 0,.ptr B 0,.ptr C 0] h (.agg (cq (ct c.p c.l 1 v q,logAt i.logs (ct c.p c.l 1 v q)))):=by
 refine Pure.of (bf.agg (Se _)) ?_;refine a7 Tryz.func35 rfl ?_;have T:cI (aP.cells (ca i) 34 eN) 0=eL (ca i):=rfl;have qK:(if 3<=(ca i).length then eL (kB (ay5 3 (ca i)))else eN)=eL (.agg (ca i)):=rfl;have W:cw (eL (eL 3)) (eL (ca i))=eL (.agg (ca i)):=rfl;simp only[ae,al];obtain⟨H,hH,z,X,_⟩:=bU h (.cells [.int gj 0,.ah,.ah] 90 eN);have D:=(z.get A O (by simp[kR])).trans D;have F:=(z.get B Q (by simp[kR])).trans F;have G:=(z.get C S (by simp[kR])).trans G;have L:=M.ai z;rw[<-hH];clear hH;have Y:∀h',(J H h' kR\/h'=H)->iU h':=λh' u=>by rcases u with u|rfl;exact L.ai u;exact L
 refine aT.cL kR [6] (.q 0 (.q 1 (.q 2 (.q 3 (.c 4 (.c 5 (.a 6 .done))))))) ?_;simp only[ae,bw,ds,AT,reduceCtorEq,al,D,F,G,T,W];refine gh rfl rfl rfl (λh' u=>DY c.l c.p 1 v q o.ok h' (Y h' u)) ?_;simp only[bw];refine gh rfl rfl rfl (λh' u=>ahw i N (ct c.p c.l 1 v q) h') ?_;obtain⟨j,Z⟩:∃x,x=logAt i.logs (ct c.p c.l 1 v q):=⟨_,rfl⟩;have cc:∀q,(kB (cq (q,j))).cells=eL (cq (q,j)):=λ_=>rfl;have st:∀q,bD (eL 3) (aP.cells [kA gj 0,.ah,.ah] 90 eN) 0 (cq (q,j))=eL (.cells (cq (q,j)) 90 eN):=λ_=>rfl;have lt:∀q,(if 3<=(cq (q,j)).length then eL (kB (ay5 3 (cq (q,j))))else eN)=eL (.agg (cq (q,j))):=λ_=>rfl;rw[<-Z];simp only[ae,bw,ds,al,X,cc,st,lt,aJ];exact ar ⟨_,aK.refl _ _,z.trans (J.set _ _ _) λq ab U=>by omega⟩
theorem awt(o:et c)(k:fJ h ow id m b c s)(hk:sj c s)(Z:iU h)(N:sn)(q6:pr N)(q:Int){i0 i1 i2:Nat}(nq:i0<h.n)(eh:i1<h.n)(c6:i2<h.n)(g0:h.get i0=.cells (ca N) 34 eN)(g1:h.get i1=.cells [.ag c.l.length (c.l.flatMap ao),.int gj c.p] 24 eN)(g2:h.get i2=.cells [.int gj q] 3 eN)
  (he:∀v,logAt N.logs (ct c.p c.l 1 v q)=[]) :
  Pure mP 37 [.ptr m 0,.agg (cx c.l c.p),.int gj c.part,.func (.func 35) [] [.ptr i0 0,.ptr i1 0,.ptr i2 0]] h (.int gj 0):=by
 refine Pure.val (bf.int _ _) ?_;refine a7 Tryz.func37 rfl ?_;have mo:(kB (cx c.l c.p)).cells=eL [.ag c.l.length (c.l.flatMap ao),.int gj c.p]:=rfl;have h9:kB [.ag c.l.length (c.l.flatMap ao),.int gj c.p]=.agg (cx c.l c.p):=rfl;obtain⟨H,hH,bl,gt,hx⟩:=bU h (.cells [.ag c.l.length (c.l.flatMap ao),.int gj c.p] 24 eN);simp only[ae,ds,AT,al,mo,<-hH,gt,h9];clear hH;refine bE (N6 c.l c.p o.ok H (Z.ai bl)) ?_;have IV:(fo c.p c.l).length=c.l.length:=Fm o.ti;have rA:c.l.length<=24:=o.len;have ZD:=KA o;simp only[ae,ds,AT,al,d6,gt];refine aT.bG (α:=Nat) (λy f h'=>f 0=.ptr m 0/\f 2=.int gj c.part/\f 3=.func (.func 35) [] [.ptr i0 0,.ptr i1 0,.ptr i2 0]/\f 9=.ag (fo c.p c.l).length (ax (fo c.p c.l))/\f 26=.ag c.l.length (c.l.flatMap ao)/\f 27=.int gj (c.l.length:Nat)/\f 28=.int gj (y:Nat)/\y<=c.l.length/\J h h' kR) (λy=>c.l.length-y) 0
  ⟨rfl,rfl,rfl,rfl,rfl,rfl,rfl,D8 _,bl⟩ ?_
 rintro i f h1 ⟨D,z,B,A,u,a,j,hi,bx⟩
 refine wpS ?_;by_cases L:i<c.l.length;rotate_left
 .have S:=dY i c.l.length;simp only[ae,ds,a,j,S,aJ];exact ar ⟨rfl,bx⟩
 have S:=dK i c.l.length;have O:=km L (by omega);obtain⟨x,af⟩:∃x,c.l[i]?=eL x:=⟨_,Jt L⟩;obtain⟨fO,qG⟩:=Hr (kk:=.i64) af;have ld:cw (eL (eL 6)) (eL (ao x++fO))=eL (.agg (ao x)):=j1 (lp x);have jP:(kB (ao x)).cells=eL (ao x):=rfl;have Hs:bD (eL 6) (aP.cells [kA gj 0,.ah,.int gj 0,.int gj 0,.ah,.int gj 0] 68 eN) 0 (ao x)=eL (.cells (ao x) 68 eN):=by
  obtain⟨c0,aO,⟨o,q,aQ⟩,n⟩:=x;rfl
 have T:=My (show i<(fo c.p c.l).length by omega) kE;have k6:((fo c.p c.l).length:Int)=(c.l.length:Int):=by rw[IV]
 simp only[ae,ds,reduceCtorEq,al,D,u,a,j,S,qG,ld,jP,Hs];obtain⟨bZ,bN,Ba,B4,_⟩:=bU h1 (.cells (ao x) 68 eN);have C:=bx.trans' Ba;have y7:cI (aP.cells (ao x) 68 eN) 0=eL (ao x):=rfl;have hX:cw (eL eN) (eL (ao x))=eL (.int gj x.kind):=rfl;rw[<-bN];clear bN;refine bE (Yt o (k.aY C) hk) ?_;simp only[ae,ds];refine bE (ls c.ins i (by omega) bZ) ?_;have A8:=Z.ai C;have W:=aiq o A8 N q6 q (i:Int) (show i0<bZ.n from IS nq C.n) (IS eh C.n) (IS c6 C.n) ((C.get i0 nq (by simp[kR])).trans g0) ((C.get i1 eh (by simp[kR])).trans g1) ((C.get i2 c6 (by simp[kR])).trans g2);rw[he (i:Int)]at W;have Py:∀q,(kB (cq (q,[]))).cells=eL [.int gj q,.ag 0 [],.ag 0 []]:=λ_=>rfl;have Pz:∀q,bD (eL 3) (aP.cells [kA gj 0,.ah,.ah] 90 eN) 0 [.int gj q,.ag 0 [],.ag 0 []]=eL (.cells [.int gj q,.ag 0 [],.ag 0 []] 90 eN):=λ_=>rfl;have Bb:∀{U:I},Pure mP 81 [.ag 0 [],.ag 0 []] U (.tuple [.ag 0 [],.int gj 0]):=λ{U}=>ahT [] [] U (by decide) (by decide);obtain⟨PA,b7⟩:∃b,b=c.ins.contains (i:Int):=⟨_,rfl⟩;rw[<-b7];cases PA
 .have M:(!false)=true:=rfl;by_cases aX:(fo c.p c.l)[i]'(by omega)=c.part;rotate_left
  .have Q:((fo c.p c.l)[i]'(by omega) !=c.part)=true:=(by simpa using aX);simp only[ae,ds,reduceCtorEq,al,z,A,j,T,M,Q,O];exact ar ⟨i+1,⟨D,z,B,A,u,a,rfl,L,C⟩,by omega⟩
  have Q:((fo c.p c.l)[i]'(by omega) !=c.part)=false:=by simpa using aX
  by_cases bV:x.kind=5
  .have X:(x.kind==5)=true:=(by simpa using bV);simp only[ae,ds,reduceCtorEq,al,z,A,j,T,B4,y7,hX,M,Q,X,O];exact ar ⟨i+1,⟨D,z,B,A,u,a,rfl,L,C⟩,by omega⟩
  have X:(x.kind==5)=false:=by simpa using bV
  simp only[ae,ds,al,z,B,A,T,B4,y7,hX,M,Q,X];refine bE W ?_;simp only[ae,ds,AT,By,al,Py,Pz];refine bE Bb ?_;simp only[ae,ds,rl];refine aT.bG (α:=Nat) (λy f h'=>f 0=.ptr m 0/\f 2=.int gj c.part/\f 3=.func (.func 35) [] [.ptr i0 0,.ptr i1 0,.ptr i2 0]/\f 9=.ag (fo c.p c.l).length (ax (fo c.p c.l))/\f 26=.ag c.l.length (c.l.flatMap ao)/\f 27=.int gj (c.l.length:Nat)/\f 28=.int gj (i:Nat)/\f 67=.int gj 0/\f 68=.int gj 0/\J h h' kR) (λy=>y) 0
   ⟨D,z,B,A,u,a,j,rfl,rfl,C.trans' (J.push _ _ _)⟩ ?_
  clear D z B A u a j
  rintro y f aD ⟨D,z,B,A,u,a,j,F,G,Y⟩
  refine wpS ?_;have mC:decide ((0:Int)<0)=false:=rfl;simp only[ae,aDA,ds,reduceCtorEq,j,F,G,O];exact ar ⟨i+1,⟨D,z,B,A,u,a,rfl,L,Y⟩,by omega⟩
 .have M:(!true)=false:=rfl;simp only[ae,ds,B,M];refine bE W ?_;simp only[ae,ds,AT,By,al,Py,Pz];refine bE Bb ?_;simp only[ae,ds,rl];refine aT.bG (α:=Nat) (λy f h'=>f 0=.ptr m 0/\f 2=.int gj c.part/\f 3=.func (.func 35) [] [.ptr i0 0,.ptr i1 0,.ptr i2 0]/\f 9=.ag (fo c.p c.l).length (ax (fo c.p c.l))/\f 26=.ag c.l.length (c.l.flatMap ao)/\f 27=.int gj (c.l.length:Nat)/\f 28=.int gj (i:Nat)/\f 67=.int gj 0/\f 68=.int gj 0/\J h h' kR) (λy=>y) 0
   ⟨D,z,B,A,u,a,j,rfl,rfl,C.trans' (J.push _ _ _)⟩ ?_
  clear D z B A u a j
  rintro y f aD ⟨D,z,B,A,u,a,j,F,G,Y⟩
  refine wpS ?_;have mC:decide ((0:Int)<0)=false:=rfl;simp only[ae,aDA,ds,reduceCtorEq,j,F,G,O];exact ar ⟨i+1,⟨D,z,B,A,u,a,rfl,L,Y⟩,by omega⟩
end
def sr(l:List bC)(p n:Int):Int:=if(cj p l).2≠0 then(cj p l).2 else if(fp p l n).1<0 then 1 else if 8<(oG p l (fp p l n).1).length then 2 else kN ⟨l,p,(fp p l n).1⟩
def hz(l:List bC)(p n:Int):fj:=⟨⟨l,p,(fp p l n).1⟩,n,(fp p l n).2⟩
def Bc(a:List Int)(n:Nat):List Int:=if a=[]then azj n 0 else a
def wv(a:sn)(d:fj):dQ:=⟨cT.new d.c,(qx a.tasks d.n).ep,(qx a.tasks d.n).tx,Bc (qx a.tasks d.n).offs d.c.ins.length,[],[]⟩
theorem air(a:List Int)(n:Nat)(u:a=[]\/a.length=n)(A:n<=24)(h:I) :
  ∃i j v,Bx mP 46 (.int gj (n:Int)) (.int gj (n:Int)) h=eL (.bh h.n 0 n n,i)/\xH mP 46 (.bh h.n 0 n n) (.ag a.length (ax a)) i=eL (v,j)/\Own j 3 1 (.bh h.n 0 n n) (ax (Bc a n))/\J h i kR/\J h j kR:=by
 by_cases m:a=[]
 .subst m;have az:=QK (P:=mP) (t:=46) (k:=.i64) (k':=.i64) (h:=h) pR (BY n) (by simp only;omega) (by omega);have q:J h (h.push (.cells (made [kA gj 0] n) 3 eN)) kR:=J.push _ _ _;have z:made [kA gj 0] n=ax (azj n 0):=by
   unfold ax;rw[List.map_replicate];clear az q A u
   induction n with
   | zero=>rfl
   | succ n ih=>simp[made,List.replicate_succ]at ih⊢
  refine⟨_,h.push (.cells (made [kA gj 0] n) 3 eN),.int gj 0,az,?_,?_,q,q⟩
  .obtain⟨C,S,bq,T,W,_⟩:=tr (P:=mP) pR;unfold xH;have D:∀n,Nat.min 0 n=0:=λn=>Nat.zero_min n;have F:∀U,vy 1 0 (V.ag 0 []) U=eL []:=λ_=>rfl;have s:zC (V.ag 0 [])=eL 0:=rfl;simp only[C,bq,show(V.ag ([]:List Int).length (ax []))=V.ag 0 []from rfl,s,D,F,jS]
  .rw[show Bc [] n=azj n 0 from gr rfl,<-z];have:=Own.fz (h:=h) (e:=3) (sz:=1) (made [kA gj 0] n) n (by rw[z,ht,List.length_replicate,axD]) (by unfold b9;omega);exact this
 .have G:a.length=n:=u.resolve_left m;subst G;obtain⟨i,j,H,L,M,N,O⟩:=ws (P:=mP) (t:=46) (tx:=46) (k:=.i64) (k':=.i64) (h:=h) (src:=.ag a.length (ax a)) (n:=a.length) (cs:=ax a) pR rfl (λh' _=>by
   show(if a.length<=a.length/\a.length*1<=(ax a).length then eL ((ax a).take (a.length*1))else eN)=_;rw[gr ⟨BY _,by rw[ht,axD];exact BY _⟩,ajE (by rw[ht,axD];exact BY _)]) (Ly _) (by rw[ht];exact(axD _).symm) (by simp only;omega) (by omega)
  exact⟨i,j,_,H,L,by rw[show Bc a a.length=a from gQ m];exact M,N,O⟩
def awv(id:Nat)(l:List bC)(p n:Int)(i:sn)(h:I)(j:cM):V->I->Prop:=λr h'=>J h h' kR /\
 ((sr l p n≠0/\r=.tuple [.dA,.int gj (sr l p n)])\/(sr l p n=0/\∃k w a,r=.tuple [.ptr k 0,.int gj 0]/\eP h' a id k w (hz l p n) (wv i (hz l p n))/\(∀q,q<h.n->a q=j q)/\Fr h' a))
theorem ais(id:Nat)(l:List bC)(p n:Int)(u:jE l)(i:sn)(q6:pr i)(h:I)(ay:iU h)(Q:cM)(f:Fr h Q)(aG:id≠0)(S:(qx i.tasks n).offs=[]\/(qx i.tasks n).offs.length=(oG p l (fp p l n).1).length)
  (he:∀v,logAt i.logs (ct p l 1 v (fp p l n).2)=[]) :
  au mP 11 [.agg (cx l p),.int gj n,.agg (ca i)] h (awv id l p n i h Q):=by
 have mo:∀(l:List bC) (p:Int),(kB (cx l p)).cells=eL [.ag l.length (l.flatMap ao),.int gj p]:=λ_ _=>rfl;have G:∀(l:List bC) (p:Int),kB [.ag l.length (l.flatMap ao),.int gj p]=.agg (cx l p):=λ_ _=>rfl;have yK:∀(l:List bC) (p:Int),bD (eL 2) (aP.cells [V.ah,.int gj 0] 24 eN) 0 [.ag l.length (l.flatMap ao),.int gj p]=eL (.cells [.ag l.length (l.flatMap ao),.int gj p] 24 eN):=λ_ _=>rfl;have Bd:(kB (ca i)).cells=eL (ca i):=rfl;refine a7 Tryz.func11 rfl ?_;obtain⟨H,hH⟩:∃x,x=(h.push (.cells [.ag l.length (l.flatMap ao),.int gj p] 24 eN)).push (.cells (ca i) 34 eN):=⟨_,rfl⟩;have gt:H.get h.n=.cells [.ag l.length (l.flatMap ao),.int gj p] 24 none:=by rw[hH,iZ (by rw[dn];omega)];exact ac
 have j9:H.get (h.n+1)=.cells (ca i) 34 none:=by rw[hH];exact ac
 have bl:J h H kR:=by rw[hH];exact(J.push _ _ _).bp _
 have hx:H.n=h.n+2:=by rw[hH];rfl
 have jq:=ay.ai bl;simp only[ae,ds,AT,al,mo,Bd,<-hH,gt,G];clear hH;refine bE (XM l p u H jq) ?_;unfold DK;by_cases A:(cj p l).2=0;rotate_left
 .have ba:((cj p l).2 !=0)=true:=by simpa using A
  have z:sr l p n=(cj p l).2:=by unfold sr;rw[gr A]
  simp only[ae,ds,ba,aJ];exact ar ⟨bl,.inl ⟨by rw[z];exact A,by rw[z]⟩⟩
 have ba:((0:Int) !=0)=false:=rfl;have s:sr l p n=if(fp p l n).1<0 then 1 else if 8<(oG p l (fp p l n).1).length then 2 else kN ⟨l,p,(fp p l n).1⟩:=by unfold sr;rw[gQ (by omega)]
 simp only[ae,ds,A];refine bE (Hj _ (l3 p l) H jq (Rd.ag _ _) (YJ u) (by have:=YK (p:=p) u;omega)) ?_;have kI:pI (l3 p l)=.tuple [.agg (cx l p),.int gj 0]:=by unfold pI;rw[XT u A]
 rw[kI];obtain⟨L,bN,k2,nQ,c6⟩:=bU H (.cells [.ag l.length (l.flatMap ao),.int gj p] 24 eN);have t2:=jq.ai k2;have c4:=bl.trans' k2;simp only[ae,ds,AT,al,mo,yK,<-bN,nQ,G];clear bN;refine bE (Pe l p n u L t2) ?_;obtain⟨ZE,vh⟩:∃x,x=fp p l n:=⟨_,rfl⟩;rw[<-vh]at s S he⊢;obtain⟨j,q⟩:=ZE;simp only at s S he⊢;have yE:hz l p n=⟨⟨l,p,j⟩,n,q⟩:=by unfold hz;rw[<-vh]
 obtain⟨hb,gW,T,yM,n3⟩:=bU L (.cells [.int gj q] 3 eN);have t3:=t2.ai T;have ez:=c4.trans' T;have iu:=(T.get H.n (by omega) (by simp[kR])).trans nQ;simp only[ae,ds,al];rw[<-gW];clear gW;by_cases W:j<0
 .have bI:decide (j<0)=true:=hO W;have z:sr l p n=1:=by rw[s,gr W]
  simp only[ae,ds,bI,aJ];exact ar ⟨ez,.inl ⟨by rw[z];decide,by rw[z]⟩⟩
 have bI:decide (j<0)=false:=hK W;rw[gQ W]at s;simp only[ae,ds,AT,al,bI,iu,G];refine bE (X8 l p j u hb t3) ?_;by_cases kt:8<(oG p l j).length
 .have l1:decide ((8:Int)<(((oG p l j).length:Nat):Int))=true:=hO (by omega);have z:sr l p n=2:=by rw[s,gr kt]
  simp only[ae,ds,hI,l1,aJ];exact ar ⟨ez,.inl ⟨by rw[z];decide,by rw[z]⟩⟩
 have l1:decide ((8:Int)<(((oG p l j).length:Nat):Int))=false:=hK (by omega);rw[gQ kt]at s;simp only[ae,ds,AT,hI,al,l1,iu,G];have f3:Fr hb Q:=λq m=>f q (by omega);refine cp (agj id ⟨l,p,j⟩ u hb t3 Q f3 aG) λr M ⟨B,a6⟩=>?_;have lR:=ez.trans' B;have n4:=B.n;have uH:=(B.get H.n (by omega) (by simp[kR])).trans iu;have Be:=(B.get L.n (by omega) (by simp[kR])).trans yM;have uq:=(((k2.trans' T).trans' B).get (h.n+1) (by omega) (by simp[kR])).trans j9;have t4:=t3.ai B;rcases a6 with⟨X,hE⟩|⟨X,m1,dL,e5,hE,kH,FP,f4⟩
 .subst hE;have jl:(kN ⟨l,p,j⟩ !=0)=true:=by simpa using X
  simp only[ae,ds,jl,aJ];exact ar ⟨lR,.inl ⟨by rw[s];exact X,by rw[s]⟩⟩
 subst hE;have o:et ⟨l,p,j⟩:=⟨A,u⟩;have mT:=awt o kH (YD _) t4 i q6 q (i0:=h.n+1) (i1:=H.n) (i2:=L.n) (by omega) (by omega) (by omega) uq uH Be he;simp only[ae,ds,AT,al,uH,G];refine bE mT ?_;have qK:(if 3<=(ca i).length then eL (kB (ay5 3 (ca i)))else eN)=eL (.agg (ca i)):=rfl;have d0:cI (aP.cells (ca i) 34 eN) 0=eL (ca i):=rfl;have q7:cw (eL (eL 3)) (eL (ca i))=eL (.agg (ca i)):=rfl;simp only[ae,ds,al,uq,d0,q7];refine bE (ahz i q6 n M) ?_;obtain⟨a,FQ⟩:∃x,x=qx i.tasks n:=⟨_,rfl⟩;rw[<-FQ]at S⊢;have ZF:(kB (cQ a)).cells=eL [.int gj a.t,.int gj a.ep,.int gj a.tx,.ag a.offs.length (ax a.offs),.ag a.ord.length (ax a.ord),.int gj (a.opn:Nat)]:=rfl;have ZG:bD (eL 6) (aP.cells [kA gj 0,.int gj 0,.int gj 0,.ah,.ah,.int gj 0] 57 eN) 0 [.int gj a.t,.int gj a.ep,.int gj a.tx,.ag a.offs.length (ax a.offs),.ag a.ord.length (ax a.ord),.int gj (a.opn:Nat)]=eL (.cells [.int gj a.t,.int gj a.ep,.int gj a.tx,.ag a.offs.length (ax a.offs),.ag a.ord.length (ax a.ord),.int gj (a.opn:Nat)] 57 eN):=rfl;obtain⟨C,im,Y,FR,u5⟩:=bU M (.cells [.int gj a.t,.int gj a.ep,.int gj a.tx,.ag a.offs.length (ax a.offs),.ag a.ord.length (ax a.ord),.int gj (a.opn:Nat)] 57 eN);obtain⟨cX,D,aa,ya,u4,DS,gv,F⟩:=air a.offs (oG p l j).length S (by omega) C;have PB:=(gv.get M.n (by omega) (by simp[kR])).trans FR;have PC:=(F.get M.n (by omega) (by simp[kR])).trans FR;have FT:=((Y.trans' F).get H.n (by omega) (by simp[kR])).trans uH;have PD:=((Y.trans' F).get L.n (by omega) (by simp[kR])).trans Be;have n7:=DS.lt C.n rfl;simp only[ae,ds,hI,al,ZF,ZG];rw[<-im];clear im;simp only[ae,ds,AT,By,al,ya,PB,u4,FT,PD,PC,aJ];obtain⟨N,Z⟩:∃x,x=rI (rI e5 C.n (id+1,2)) D.n (id+1,1):=⟨_,rfl⟩;have cH:N D.n=(id+1,1):=by rw[Z];exact Fy _ _ _
 have bY:N C.n=(id+1,2):=by rw[Z,sl (by omega)];exact Fy _ _ _
 have DT:∀q,q<M.n->N q=e5 q:=λq m=>by rw[Z,sl (by omega),sl (by omega)]
 have ZH:∀O,Fr (D.push O) N:=λO q m=>by rw[dn]at m;rw[Z,sl (by omega),sl (by omega)];exact f4 q (by have:=F.n;omega)
 have cv:wv i (hz l p n)=⟨cT.new ⟨l,p,j⟩,a.ep,a.tx,Bc a.offs (oG p l j).length,[],[]⟩:=by unfold wv;rw[yE,<-FQ];rfl
 have hc:∀O,J D (D.push O) kR:=λO=>J.push _ _ _;refine ar ⟨(lR.trans' (Y.trans' F)).trans' (hc _),.inr ⟨by rw[s];exact X,D.n,⟨m1,dL,.bh C.n 0 (oG p l j).length (oG p l j).length,.ah,.ah⟩,N,rfl,?_,λq m=>(DT q (by omega)).trans (FP q (by omega)),ZH _⟩⟩;rw[cv,yE];exact⟨azK _,ac,cH,kH.ai ((Y.trans' F).trans' (hc _)) (λ_ _ U=>by simp[kR]at U) DT,DS.aY (hc _),Own.ah _ _ _,Own.ah _ _ _,(λq m=>by
  have:C.n=q:=Option.some.inj (cD.1 m);rw[<-this];exact bY),(λq m=>by cases cD.1 m),(λq m=>by cases cD.1 m),V.noConfusion,V.noConfusion⟩
theorem awx(h:I):au mP 23 [] h (λr h'=>∃F,r=.agg [.bh F 0 3 3,.int gj 1]/\h.n<=F/\F<h'.n/\h'.get F=.cells (e0.flatMap ao) 68 eN/\J h h' kR):=by
 refine au.cast ?_;refine a7 Tryz.func23 rfl ?_;obtain⟨L,M,N,O,Q,S,T⟩:=atb h (.cells [.ah,.int gj 0] 24 eN) (.cells [.int gj 5,.int gj 0,.ah,.int gj 3,.int gj 0,.ah] 66 eN) (.cells [.int gj 6,.int gj 0,.bh (h.n+1) 0 2 2] 66 eN) (.cells [.int gj 0] 3 eN) (.cells [.int gj 1] 3 eN) (.cells [.int gj 1,.ah,.int gj 0,.int gj 0,.ah,.int gj 0,.int gj 6,.bh (h.n+1+1+1) 0 1 1,.int gj 6,.int gj 0,.bh (h.n+1) 0 2 2,.int gj 0,.int gj 10,.bh (h.n+1+1+1+1) 0 1 1,.int gj 0,.int gj 0,.ah,.int gj 0] 68 eN);simp only[ae,ds,AT,By,reduceCtorEq,al,as9,NS,ata];generalize(((((h.push (.cells [.ah,.int gj 0] 24 eN)).push (.cells [.int gj 5,.int gj 0,.ah,.int gj 3,.int gj 0,.ah] 66 eN)).push (.cells [.int gj 6,.int gj 0,.bh (h.n+1) 0 2 2] 66 eN)).push (.cells [.int gj 0] 3 eN)).push (.cells [.int gj 1] 3 eN)).push (.cells [.int gj 1,.ah,.int gj 0,.int gj 0,.ah,.int gj 0,.int gj 6,.bh (h.n+1+1+1) 0 1 1,.int gj 6,.int gj 0,.bh (h.n+1) 0 2 2,.int gj 0,.int gj 10,.bh (h.n+1+1+1+1) 0 1 1,.int gj 0,.int gj 0,.ah,.int gj 0] 68 eN)=H at L M N O Q S T⊢;simp only[ae,AT,reduceCtorEq,al,M,aJ];obtain⟨m,s⟩:∃x,x=H.set h.n (.cells [.bh (h.n+1+1+1+1+1) 0 3 3,.int gj 1] 24 eN):=⟨_,rfl⟩;have a:J H m (·=h.n):=by rw[s];exact J.set _ _ _
 have n7:m.n=h.n+6:=by rw[s];exact L
 have u:=(a.get (h.n+1) (by omega) (by omega)).trans N;have z:=(a.get (h.n+3) (by omega) (by omega)).trans O;have A:=(a.get (h.n+4) (by omega) (by omega)).trans Q;have W:=(a.get (h.n+5) (by omega) (by omega)).trans S;obtain⟨Z,bt,i⟩:=aK.own (DI (e:=3) (sz:=1) (n:=1) (by omega) z rfl (by simp[b9])) (n:=1) rfl (by decide);have c6:=i.n;have CK:=(i.get (h.n+1) (by omega) (by simp[bb,aS])).trans u;obtain⟨aD,c3,j⟩:=aK.gU (es:=[cd.mk 5 0 [],cd.mk 3 0 []].flatMap aN) (DI (h:=Z) (e:=66) (sz:=3) (n:=2) (by omega) CK rfl (by simp[b9])) (aE.cons (aK.refl _ _) (aE.cons (aK.refl _ _) (aE.cons (aK.lI _) (aE.cons (aK.refl _ _) (aE.cons (aK.refl _ _) (aE.cons (aK.lI _) (aE.refl _ _))))))) (J.refl _ kR) (λh=>h) rfl;have n3:=j.n;have Ul:=(j.get (h.n+4) (by omega) (by omega)).trans ((i.get (h.n+4) (by omega) (by simp[bb,aS])).trans A);obtain⟨B,eb,C⟩:=aK.own (DI (h:=aD) (e:=3) (sz:=1) (n:=1) (by omega) Ul rfl (by simp[b9])) (n:=1) rfl (by decide);have n4:=C.n;have D:=(C.get (h.n+5) (by omega) (by simp[bb,aS])).trans ((j.get (h.n+5) (by omega) (by omega)).trans ((i.get (h.n+5) (by omega) (by simp[bb,aS])).trans W));have X:e0.flatMap ao=[.int gj 1,.ag 0 [],.int gj 0,.int gj 0,.ag 0 [],.int gj 0,.int gj 6,.ag 1 [.int gj 0],.int gj 6,.int gj 0,.ag 2 ([cd.mk 5 0 [],cd.mk 3 0 []].flatMap aN),.int gj 0,.int gj 10,.ag 1 [.int gj 1],.int gj 0,.int gj 0,.ag 0 [],.int gj 0]:=by
  simp[e0,NT,ao,l0,ax]
 have c9:aE [.int gj 1,.ah,.int gj 0,.int gj 0,.ah,.int gj 0,.int gj 6,.bh (h.n+3) 0 1 1,.int gj 6,.int gj 0,.bh (h.n+1) 0 2 2,.int gj 0,.int gj 10,.bh (h.n+4) 0 1 1,.int gj 0,.int gj 0,.ah,.int gj 0] m (e0.flatMap ao) B:=by
  rw[X];exact aE.cons (aK.refl (.int gj 1) _) (aE.cons (aK.lI _) (aE.cons (aK.refl (.int gj 0) _) (aE.cons (aK.refl (.int gj 0) _) (aE.cons (aK.lI _) (aE.cons (aK.refl (.int gj 0) _) (aE.cons (aK.refl (.int gj 6) _) (aE.cons bt (aE.cons (aK.refl (.int gj 6) _) (aE.cons (aK.refl (.int gj 0) _) (aE.cons c3 (aE.cons (aK.refl (.int gj 0) _) (aE.cons (aK.refl (.int gj 10) _) (aE.cons eb (aE.cons (aK.refl (.int gj 0) _) (aE.cons (aK.refl (.int gj 0) _) (aE.cons (aK.lI _) (aE.cons (aK.refl (.int gj 0) _) (aE.refl [] _))))))))))))))))))
 have Rq:J h (B.set (h.n+5) (.cells (e0.flatMap ao) 68 eN)) kR:=by
  refine J.kj (J.trans (J.trans (J.trans (J.trans T a λq G e=>by omega) i λq G e=>?_) j λq G e=>by omega) C λq G e=>?_) (by omega) _
  .simp[bb,aS]at e;omega
  .simp[bb,aS]at e;omega
 have Y:=aK.zq W c9 D (by rw[X];rfl) (.agg [.bh (h.n+5) 0 3 3,.int gj 1]);rw[s]at Y;refine ar ⟨_,_,Y,h.n+5,rfl,by omega,by show h.n+5<B.n;omega,aM,Rq⟩
theorem awy(h:I):Pure mP 23 [] h (.agg (cx e0 1)):=by
 refine Pure.of (bf.agg (aeA e0 1)) ((awx h).mono λr A ⟨F,az,i,a,j,m⟩=>?_);subst az;obtain⟨s,u,z⟩:=aK.own (DI (e:=68) (sz:=6) (n:=3) a j (by rw[ft lp];rfl) (by simp[b9])) (n:=3) (by rw[ft lp];rfl) (by decide);exact⟨s,Pk.aK.agg (aE.cons u (aE.refl _ _)),m.trans z λq B e=>by simp[bb,aS]at e;omega⟩
end Go.Proofs.YtemdgidnhgcafaaGreatDoor.Pk
