/-
  What functions of the program do, told of abstract states. Conditions: as each theorem says.
-/
import Derived.Test.YtemdgidnhgcafaaGreatDoorQa
import Derived.Test.YtemdgidnhgcafaaGreatDoorAdD
import Derived.Shelf.SlSortCmp.WholeK
import Derived.Test.YtemdgidnhgcafaaGreatDoorProg
open Go.IntWalk renaming i64_in->kp
open Go.Proofs.YtemdgidnhgcafaaGreatDoor.Ab.V renaming int->kA,agg->kB
open Option renaming some->eL,none->eN
open Bool renaming true->e6,false->fr
open Go.IntKind renaming i64->gj
open Go.Proofs.Tryz renaming prog->mP,func249->aDn,func217->aEs,underlying256->aBb,underlying259->aAq,underlying262->aBg,func113->aBE,func198->aDh,func199->aBc,func280->aEt,func284->aEu,func132->aBh,func97->aBi,func179->aEy,func203->aEz,func219->aEA,func180->aEB,func121->aDr,func197->aDs,func202->aDi
open List renaming take_of_length_le->ajE,length_nil->ayx,length_take->ajB,length_drop->azk,all_eq_true->ayy,mem_of_mem_drop->azT,take_zero->az3,drop_of_length_le->azg,take_take->azz,length_cons->axF,append_nil->axA,length_append->D9,append_assoc->axC,drop_eq_getElem_cons->ay0,getElem?_eq_some_iff->axB,getElem?_eq_getElem->Jt,mem_of_getElem?->azc,mem_filter->ajA,Pairwise->azM,take->ay5,take_succ_eq_append_getElem->ayY,flatMap_append->ay3,filter_append->az0,length_filter_le->azu,drop->azE,map_append->ay1,mem_of_mem_take->aAM,take_append_drop->azL,eq_nil_of_length_eq_zero->azo,length_map->ajD,length_take_le->aBf,cons_append->aza,nil_append->aze,mem_map->OF,nodup_cons->azD,mem_cons->IN,pairwise_map->azt,perm_ext_iff_of_nodup->aA5,nodup_append->aAw,mem_append->axE,filter_cons_of_neg->azZ,filter_eq_self->aAn,filter_cons_of_pos->az6,contains_iff_mem->aAN,filter_sublist->az8,filter_filter->aAh,filter_congr->azy,filter_nil->aDo,pairwise_cons->ayA,mem_cons_self->aDp,Perm->aA4,mem_cons_of_mem->aAH,map_nil->azd,map_cons->ajF,isEmpty_eq_false_iff->aEv,mergeSort_perm->aDq,map_map->azn,filter_eq_nil_iff->aAe,filter_map->aEx,getElem_mem->ayz,any_append->aDt,any_cons->aDu,any_nil->aEH,any_eq_true->aAp,any_eq_false->aAo,getD->ayX,flatMap_cons->ayW,drop_left->aAm
open Nat renaming le_refl->BY,reduceEqDiff->ds,zero_add->ayB,min_eq_left->azb,reduceAdd->AT,zero_le->D8,lt_of_lt_of_le->IS,reduceLeDiff->By,lt_succ_self->azK,le_trans->UN,mul_one->axD
open Int renaming reduceBEq->azH,reduceNeg->Js,toNat->ay4,tmod_eq_emod_of_nonneg->az5,reduceLE->az2,emod_eq_of_lt->aEG,toNat_natCast->ayw,eq_ofNat_of_zero_le->aBj
open Bool renaming eq_iff_iff->ay2,false_eq_true->azf,not_false->aA7,or_eq_false_iff->azv,and_comm->aDl,not_eq_true'->azY,not_eq_false'->az1,true_and->azr,and_eq_false_iff->azV,and_eq_true->are,or_false->azx,eq_false_iff->aEI
open Option renaming isSome_iff_exists->aBl,map_some->azi
open Go renaming IntKind->aPh
set_option linter.unusedVariables false
set_option linter.unusedSimpArgs false
set_option maxHeartbeats 4000000
set_option maxRecDepth 20000
namespace Go.Proofs.YtemdgidnhgcafaaGreatDoor.Pk
open Go Go.Proofs Go.Proofs.YtemdgidnhgcafaaGreatDoor.Ab
theorem arw(v:V)(k j:Nat)(a xs:List V)(h:I)(o:Own h 308 3 v a)(aB:a.length<2^40)(X:k*3<=a.length)(G:h.get j=.cells xs 308 eN)(H:j<h.n)(Y:aS v≠eL j)
  (s:xs.length=3) (L:xs.all (·.one)=e6) (Z:a.all (·.one)=e6):au mP 249 [v,.int gj (k:Nat),.bh j 0 1 1] h
   (λr h'=>Own h' 308 3 r (a.take (k*3)++xs++a.drop (k*3))/\J h h' (bb v)/\b6 h v r):=by
 refine au.Dm o (by decide) (λA aw=>?_) λi B cap c ex ad A ok dF kk aF=>?_
 .subst aw;obtain rfl:k=0:=by simp at X;omega
  have mU:Own h 308 3 (.bh j 0 1 1) xs:=.inr ⟨j,1,1,xs,eN,rfl,H,G,by rw[s],by rw[ajE (by omega)],.inl ⟨by unfold b9;omega,by omega,BY _⟩⟩;have di:=uc (P:=mP) (t:=288) uh mU (n:=1) (by rw[s]) (by decide) L;obtain⟨M,h',N,gn,kH,fE⟩:=be (P:=mP) (t:=288) (tx:=288) y8 (by decide) o di (by rw[s];rfl) (λm C=>by
   change m*3=_ at C;rw[s]at C;simp only[ayx]at C;exact⟨by simp only[lim];omega,by simp only[lim];omega⟩)
  obtain⟨e,O,Q⟩:=BH (P:=mP) vL;have R:((1:Nat):Int)=1:=rfl;have S:((0:Nat):Int)=0:=rfl;have u:Own h' 308 3 M (([]:List V).take (0*3)++xs++([]:List V).drop (0*3))/\J h h' (bb v)/\b6 h v M:=⟨by simpa using gn,kH,fE⟩;rcases A with rfl|rfl
  .have D:kX mP 288 .ah (eL (.int gj 0)) eN eN=eL .ah:=(by unfold kX;rw[O];simp only[Q];rfl);refine a7 aDn rfl ?_;simp only[ae,azH,ds,reduceCtorEq,uh,S,D,R,N,aJ];exact ar u
  .have D:kX mP 288 .z0 (eL (.int gj 0)) eN eN=eL .z0:=(by unfold kX;rw[O];simp only[Q];rfl);refine a7 aDn rfl ?_;simp only[ae,azH,ds,reduceCtorEq,uh,S,D,R,N,aJ];exact ar u
 .have E:aS v=eL i:=by rcases A with rfl|rfl<;>rfl
  have T:j≠i:=λU=>Y (by rw[E,U]);have W:=ok.2.2.1;refine(arv i B cap k j c a xs ex ad ok (by omega) (by omega) ((kk.get j H T).trans G) (by omega) T s L Z).mono λr h' ⟨o',k',z⟩=>⟨o',(kk.trans' k').mono λq F=>by subst F;exact E,?_⟩;rcases z with z|z
  .exact .inl (by rw[z,E];rfl)
  .exact .inr λq F=>by have:=z q F;omega
theorem arx(i len cap k:Nat)(c j:List V)(s:Option Nat)(h:I)(o:sF h 308 3 i len cap c s j)(aB:len<2^40)(hk:k<len)(X:j.all (·.one)=e6) :
  au mP 248 [.bh i 0 len cap,.int gj (k:Nat),.int gj ((k+1:Nat):Int)] h
   (λr h'=>Own h' 308 3 r (j.take (k*3)++j.drop ((k+1)*3))/\J h h' (λq=>q=i)/\aS r=eL i):=by
 refine a7 Tryz.func248 rfl ?_;have Y:=o;obtain⟨hi,A,N,O,u,Q,F⟩:=Y;obtain⟨gJ,Z⟩:=abz (P:=mP) (t:=288) (i:=i) (o:=0) (len:=len) (cap:=cap) (k:=.i64) (k2:=.i64) (k3:=.i64) (l:=k) (m:=k+1) (n:=len) vL u (by omega) (by omega) F;have d1:((k:Int)==((k+1:Nat):Int))=false:=by simp;omega
 have s1:=J1 (P:=mP) (t:=288) (i:=i) (o:=0) (len:=len) (cap:=cap) (k:=.i64) (m:=k) vL u (by omega);have s2:=BK (P:=mP) (t:=288) (i:=i) (o:=0) (len:=len) (cap:=cap) (k:=.i64) (l:=k+1) vL u (by omega) F;have G:(j.take (k*3)).length=k*3:=by rw[ajB];omega
 have B:(j.drop ((k+1)*3)).length=(len-(k+1))*3:=by rw[azk];omega
 have b4:(c.drop ((k+1)*3)).take ((len-(k+1))*3)=j.drop ((k+1)*3):=by rw[<-O,List.drop_take];congr 1;omega
 have c9:len*3<=c.length:=by omega
 have Dw:∃b,kX mP 288 (.bh i 0 len cap) (eL (.int gj ((k+1:Nat):Int))) eN eN=eL b/\gS mP 3 288 b h=eL (len-(k+1),j.drop ((k+1)*3)):=by
  refine⟨_,s2,?_⟩;obtain⟨e,hZ,C⟩:=BH (P:=mP) vL;have ch:(j.drop ((k+1)*3)).all (·.one)=true:=ayy.2 λv aI=>ayy.1 X v (azT aI);unfold gS;simp only[hZ];by_cases R:cap=k+1
  .rw[gr R];have D:len-(k+1)=0:=by omega
   simp only[A,D,Nat.zero_mul,az3];rw[gr ⟨by omega,rfl⟩,azg (by omega)]
  .rw[gQ R,ayB];simp only[A];rw[b4,gr ⟨by omega,ch⟩]
 obtain⟨b,an,di⟩:=Dw;have kU:sF h 308 3 i k cap c s (j.take (k*3)):=⟨hi,A,G,by rw[<-O,azz,azb (by omega)],u,Q,by omega⟩;obtain⟨z,S,H,zH⟩:∃z,kd mP 288 288 (.bh i 0 k cap) b h=eL (.bh i 0 (len-1) cap,h.set i (.cells z 308 s))/\z.length=c.length/\z.take ((len-1)*3)=j.take (k*3)++j.drop ((k+1)*3):=by
  obtain⟨L,C,bq,T,fG,_⟩:=tr (P:=mP) y8;unfold kd;simp only[L,C,bq,T,di,axF,ayx,jS,ayB,AT];by_cases D:len-(k+1)=0
  .refine⟨c,?_,rfl,?_⟩
   .rw[gr D,show len-1=k by omega,QH A]
   .rw[show len-1=k by omega,kU.2.2.2.1,azg (by omega),axA]
  .refine⟨lay c (k*3) (j.drop ((k+1)*3)),?_,q9 _ _ _ (by rw[B];omega),?_⟩
   .rw[gQ D,gr ⟨by simp only[lim];omega,by simp only[lim];omega⟩];simp only[A];rw[gr u,gr (by omega),gr (by omega),show k+(len-(k+1))=len-1 by omega]
   .rw[Ql _ _ _ _ (by rw[B];omega) (by omega)];have:c.take ((len-1)*3)=j.take (k*3)++(c.drop (k*3)).take ((len-1-k)*3):=by
     rw[<-kU.2.2.2.1,show(len-1)*3=k*3+(len-1-k)*3 by omega,List.take_add]
    rw[this,W5 _ _ _ G,azg (l:=(c.drop (k*3)).take ((len-1-k)*3)) (by rw[ajB,azk,B];omega),axA]
 obtain⟨M,E⟩:∃y,y=h.set i (.cells z 308 s):=⟨_,rfl⟩;rw[<-E]at S;have g1:M.get i=.cells z 308 s:=by rw[E];exact aM
 have W:=aby (P:=mP) (t:=288) (i:=i) (o:=0) (len:=len-1) (cap:=cap) (k:=.i64) (k2:=.i64) (l:=len-1) (m:=len) vL u (by omega) F;rw[gQ (by omega),ayB]at W;have MX:BA mP 288 (.bh i ((len-1)*3) (len-(len-1)) (cap-(len-1))) M=eL (M.set i (.cells (lay z ((len-1)*3) (made [kA gj 0,V.complex .f64 0 0,kA gj 0] 1)) 308 s)):=by
  obtain⟨L,C,bq,T,fG,_⟩:=tr (P:=mP) y8;unfold BA;simp only[L,C,g1];rw[show len-(len-1)=1 by omega,gQ (by decide),gr ⟨rfl,by rw[C3,H];simp only[axF,ayx];omega⟩]
 simp only[ae,ds,reduceCtorEq,uh,Z,d1];refine aT.cL kR [6] (.q 0 (.q 1 (.q 2 (.q 3 (.q 4 (.q 5 (.a 6 (.q 7 .done)))))))) ?_;simp only[ae,bw,ds,reduceCtorEq,uh,s1,an,S,W,MX,aJ];refine ar ⟨.inr ⟨i,len-1,cap,_,s,rfl,by rw[jM,E,jM];exact hi,aM,?_,?_,.inl ⟨u,?_,by omega⟩⟩,?_,rfl⟩
 .rw[D9,G,B];omega
 .have hm:(made [kA gj 0,V.complex .f64 0 0,kA gj 0] 1).length=3:=rfl;unfold lay;rw[axC,List.take_append_of_le_length (by rw[ajB];omega),azz,Nat.min_self,zH]
 .rw[q9 _ _ _ (by rw[C3,H];simp only[axF,ayx];omega),H];exact Q
 .rw[E];exact(J.set _ _ _).trans' (J.set _ _ _)
theorem ary(v:V)(k:Nat)(a:List V)(h:I)(o:Own h 308 3 v a)(H:a.length<2^40)(z:(k+1)*3<=a.length)(A:a.all (·.one)=e6) :
  au mP 248 [v,.int gj (k:Nat),.int gj ((k+1:Nat):Int)] h
   (λr h'=>Own h' 308 3 r (a.take (k*3)++a.drop ((k+1)*3))/\J h h' (bb v)/\b6 h v r):=by
 refine au.Dm o (by decide) (λm aw=>?_) λi j cap c B C m ok L kk M=>?_
 .subst aw;simp at z
 .have s:aS v=eL i:=by rcases m with rfl|rfl<;>rfl
  have u:=ok.2.2.1;refine(arx i j cap k c a B C ok (by omega) (by omega) A).mono λr h' ⟨D,E,F⟩=>⟨D,(kk.trans' E).mono λq G=>by subst G;exact s,.inl (by rw[F,s])⟩
def j6(x y:Int):Int:=if x<y then -1 else if y<x then 1 else 0
theorem No(h:I)(x:Int):Pure mP 227 [.int gj x] h (.bool fr):=by
 refine Pure.val (bf.bool _) ?_;refine a7 Tryz.func227 rfl ?_;have e:(x !=x)=false:=by simp
 simp only[ae,ds,reduceCtorEq,aJ];exact ar ⟨rfl,J.refl _ _⟩
theorem Ng(h:I)(x y:Int):Pure mP 205 [.int gj x,.int gj y] h (.int gj (j6 x y)):=by
 refine Pure.val (bf.int _ _) ?_;refine a7 Tryz.func205 rfl ?_;simp only[ae,Js,ds,reduceCtorEq];refine bE (No h x) ?_;simp only[ae,Js,ds];refine bE (No h y) ?_;by_cases a:x<y
 .have i:decide (x<y)=true:=hO a;simp only[ae,Js,ds,reduceCtorEq,i,aJ];exact ar ⟨by rw[j6,gr a],J.refl _ _⟩
 .have i:decide (x<y)=false:=hK a;by_cases j:y<x
  .have m:decide (y<x)=true:=hO j;simp only[ae,Js,ds,reduceCtorEq,i,m,aJ];exact ar ⟨by rw[j6,gQ a,gr j],J.refl _ _⟩
  .have m:decide (y<x)=false:=hK j;simp only[ae,Js,ds,reduceCtorEq,i,m,aJ];exact ar ⟨by rw[j6,gQ a,gQ j],J.refl _ _⟩
def nL(l:List Int):Int:=match l with | []=>0|x::r=>if x=0 then nL r else x
theorem adC(h:I)(l:List Int)(C:l.length<=2^40):Pure mP 204 [.ag l.length (ax l)] h (.int gj (nL l)):=by
 refine Pure.val (bf.int _ _) ?_;refine a7 Tryz.func204 rfl ?_;simp only[ae,ds,reduceCtorEq,hI];refine aT.bG (α:=Nat) (λx f h'=>h'=h/\f 3=.int gj 0/\f 6=.ag l.length (ax l)/\f 7=.int gj (l.length:Nat)/\f 8=.int gj (x:Nat)/\x<=l.length/\nL l=nL (l.drop x)) (λx=>l.length-x) 0
  ⟨rfl,rfl,rfl,rfl,rfl,D8 _,rfl⟩ ?_
 rintro t f h' ⟨rfl,j,u,m,z,D,a⟩
 refine wpS ?_;by_cases A:t<l.length
 .have q:=dK t l.length;have B:=iM t;have i:∃r,hC mP 46 (.ag l.length (ax l)) (.int gj (t:Int))=eL (.at (.int gj l[t]::r)):=⟨_,JZ (kA gj) A kE⟩;obtain⟨r,i⟩:=i;rw[ay0 A,nL]at a;generalize l[t]=x at i a;by_cases s:x=0
  .have az:(x !=0)=false:=(by simp[s]);rw[gr s]at a;simp only[ae,ds,al,j,u,m,z,q,i,az,B];exact ar ⟨t+1,⟨rfl,j,u,m,rfl,A,a⟩,by omega⟩
  .have az:(x !=0)=true:=(by simp[s]);rw[gQ s]at a;simp only[ae,ds,al,j,u,m,z,q,i,az,aJ];exact ar ⟨by rw[a],J.refl _ _⟩
 .have q:=dY t l.length;rw[azg (by omega)]at a;simp only[ae,ds,j,m,z,q,aJ];exact ar ⟨by rw[a];rfl,J.refl _ _⟩
def Cv(a b:ak):Int:=nL [j6 a.key b.key,j6 a.aO b.aO,j6 a.to b.to]
theorem arz(a b:ak):decide (Cv a b<0)=decide (eZ a b):=by
 refine decide_eq_decide.2 ?_;unfold Cv nL nL nL nL j6 eZ
 repeat' split
 all_goals omega
theorem arA(a b:ak):(Cv a b==0)=gE a b:=by
 rw[ay2,nt];unfold Cv nL nL nL nL j6;simp only[beq_iff_eq]
 repeat' split
 all_goals omega
theorem adD(a b:ak)(aW:kW a)(an:kW b)(h:I):Pure mP 253 [.agg (bL a),.agg (bL b)] h (.int gj (Cv a b)):=by
 refine Pure.val (bf.int _ _) ?_;refine a7 Tryz.func253 rfl ?_;have s:=BS a;have u:=BS b;simp only[ae,ds,s,u];refine aT.cL kR [15,16] (.q 0 (.q 1 (.q 2 (.q 3 (.c 4 (.q 5 (.c 6 (.q 7 (.c 8 (.c 9 (.q 10 (.c 11 (.q 12 (.c 13 (.c 14 (.e 15 (.a 16 (.q 17 .done)) .stop)))))))))))))))) ?_;simp only[ae,bw,ds,AT,al];refine gh rfl rfl rfl (λh' _=>Ng h' a.key b.key) ?_;simp only[ae,bw,ds,AT,al];refine gh rfl rfl rfl (λh' _=>G2 a aW h') ?_;simp only[ae,bw,ds,AT,al];refine gh rfl rfl rfl (λh' _=>G2 b an h') ?_;simp only[bw];refine gh rfl rfl rfl (λh' _=>Ng h' a.aO b.aO) ?_;simp only[ae,bw,ds,AT,al];refine gh rfl rfl rfl (λh' _=>G3 a aW h') ?_;simp only[ae,bw,ds,AT,al];refine gh rfl rfl rfl (λh' _=>G3 b an h') ?_;simp only[bw];refine gh rfl rfl rfl (λh' _=>Ng h' a.to b.to) ?_;unfold Cv;generalize j6 a.key b.key=x;generalize j6 a.aO b.aO=y;generalize j6 a.to b.to=z;have A:∀H:I,am mP 46 3 [(0,.int gj x),(1,.int gj y),(2,.int gj z)] H=eL (.bh H.n 0 3 3,H.push (.cells (ax [x,y,z]) 3 eN)):=λH=>by rw[nm pR];rfl
 obtain⟨j,i⟩:∃y,y=(h.push (.cells (bL a) 308 eN)).push (.cells (bL b) 308 eN):=⟨_,rfl⟩;have B:J h j kR:=by rw[i];exact(J.push _ _ _).bp _
 unfold bL at i;simp only[ae,bw,ds,A];rw[<-i];obtain⟨C,m,D⟩:=aK.lit (h:=j) (c:=ax [x,y,z]) (e:=3) (n:=3) (sz:=1) rfl (by decide) (by decide);rw[show j.n=h.n+1+1 by rw[i];rfl]at m;refine cp (au.args (aE.cons m (aE.refl _ _)) (adC C [x,y,z] (by simp only[axF,ayx];omega))) λr G ⟨E,F⟩=>?_;subst E;simp only[ae,bw,ds,aJ];refine ar ⟨rfl,?_⟩;rw[F];exact B.trans' D
theorem arB(l:List ak)(k:Nat)(p:ak)(a:k<l.length):lay (l.flatMap bL) (k*3) (bL p)=(l.set k p).flatMap bL:=by
 unfold lay;rw[Di vV,show k*3+(bL p).length=(k+1)*3 by rw[vV];omega,xR vV,List.set_eq_take_append_cons_drop,gr a];simp
theorem x1{h:I}{v:V}{l:List ak}(o:Own h 308 3 v (l.flatMap bL)){t:Nat}{p:ak}(a:l[t]?=eL p) :
  ∃j r,hC mP 288 v (.int gj (t:Int))=eL (.ptr j (t*3))/\aS v=eL j/\j<h.n/\cI (h.get j) (t*3)=eL (bL p++r) /\
   ∀q:ak,∃ob,bD (eL 3) (h.get j) (t*3) (bL q)=eL ob/\Own (h.set j ob) 308 3 v ((l.set t q).flatMap bL)/\J h (h.set j ob) (bb v):=by
 have i:=(axB.1 a).1;have u:(l.flatMap bL).length=l.length*3:=ft vV l;have z:((l.flatMap bL).drop (t*3)).take 3=bL p:=by
  rw[xR vV,show 3=1*3 from rfl,Di vV,ay0 i,(axB.1 a).2];simp
 obtain⟨j,A,B,C,D,E⟩:=VV (P:=mP) (t:=288) (kk:=.i64) vL (by decide) o (k:=t) (by rw[u];omega);obtain⟨F,m⟩:=D h 0 rfl (by decide);rw[z,List.drop_zero,Nat.add_zero]at m;refine⟨j,F,A,B,C,m,λq=>?_⟩;obtain⟨ob,G,s,H⟩:=E (bL q) (vV q) (Rt q);rw[arB l t q i]at s;exact⟨ob,G,s,H⟩
theorem adE{h h':I}{v:V}{l:List ak}(o:Own h 308 3 v (l.flatMap bL)):dX mP 288 v h'=eL (.int gj (l.length:Nat)):=by
 have a:(l.flatMap bL).length=l.length*3:=ft vV l;have:=o.length (by decide) mP uh;rw[a,Nat.mul_div_cancel _ (by decide)]at this;rw[<-this];rcases o with⟨rfl|rfl,_⟩|⟨j,n,c,_,_,rfl,_⟩
 .rw[yY uh,yY uh]
 .rw[zN uh,zN uh]
 .rw[zM uh,zM uh]
theorem Nh(p:ak)(r:List V):cw (eL (eL 3)) (eL (bL p++r))=eL (.agg (bL p)):=j1 (vV p)
theorem W8(v:V)(l:List ak)(x:ak)(h:I)(o:Own h 308 3 v (l.flatMap bL))(A:fF l)(W:∀y∈l,kW y)(X:kW x)(aB:l.length<2^40) :
  Pure mP 252 [v,.agg (bL x),.func (.func 253) [] []] h (.tuple [.int gj (du l x:Nat),.bool (df l x)]):=by
 refine Pure.val (bf.tuple (bc.cons (bf.int _ _) (bc.cons (bf.bool _) bc.nil))) ?_;refine a7 Tryz.func252 rfl ?_;obtain⟨H,hH,L,Y,_⟩:=bU h (.cells (bL x) 308 eN);have M:=o.aY L;have AB:=BS x;have u:=adE (h':=H) M;have Z:cw (eL (eL 3)) (eL (bL x))=eL (.agg (bL x)):=rfl;have Dz:cI (aP.cells (bL x) 308 eN) 0=eL (bL x):=rfl;unfold bL at hH;simp only[ae,ds,reduceCtorEq,AB];rw[<-hH];clear hH;have GU:=adt l x;simp only[ae,ds,u];refine aT.bG (α:=Nat×Nat) (λz f h'=>h'=H/\f 0=v/\f 2=.func (.func 253) [] []/\f 4=.ptr h.n 0/\f 8=.int gj (l.length:Nat)/\f 9=.int gj (z.1:Nat)/\f 10=.int gj (z.2:Nat)/\z.1<=du l x/\du l x<=z.2/\z.2<=l.length) (λz=>z.2-z.1) (0,l.length)
  ⟨rfl,rfl,rfl,rfl,rfl,rfl,rfl,D8 _,GU,BY _⟩ ?_
 rintro⟨lo,hi⟩ f h' ⟨rfl,B,C,D,E,s,a,bW,a2,a3⟩
 simp only at s a bW a2 a3;refine wpS ?_;by_cases aC:lo<hi
 .have F:decide ((lo:Int)<(hi:Int))=true:=hO (by omega);have cH:aPh.i64.wrap ((lo:Int)+(hi:Int))=((lo+hi:Nat):Int):=by rw[kp _ (by omega)];omega
  have bY:=VD (n:=lo+hi) (by omega);have jn:(((lo+hi:Nat):Int)).fdiv (2^(min (ay4 1) aPh.u64.bits))=(((lo+hi) / 2:Nat):Int):=by
   rw[show(2:Int)^(min (ay4 1) aPh.u64.bits)=2 from rfl,Int.fdiv_eq_ediv_of_nonneg _ (by omega)];omega
  have ri:=abb (n:=(lo+hi) / 2) (by omega);have r3:=km (i:=(lo+hi) / 2) (n:=l.length) (by omega) (by omega);have xY:(lo+hi) / 2<l.length:=by omega
  have m:l[(lo+hi) / 2]?=eL l[(lo+hi) / 2]:=Jt xY;generalize l[(lo+hi) / 2]=p at m;obtain⟨j,r,N,eU,zb,O,_⟩:=x1 M m;have Q:=Nh p r;have R:=W p (azc m);simp only[ae,ds,s,a,F,cH,mF hP GD,bY,Ll (show(0:Int)<=1 by decide),jn,mF GD hP,ri];refine aT.cL kR [] (.q 0 (.q 1 (.q 2 (.q 3 (.q 4 (.q 5 (.c 6 (.q 7 .done)))))))) ?_;simp only[ae,bw,ds,reduceCtorEq,al,B,C,D,N,O,Q,Y,Dz,Z];refine gh rfl rfl rfl (λh' _=>adD p x R X h') ?_;have aw:=arz p x;cases G:decide (eZ p x)
  .rw[G]at aw;have S:¬eZ p x:=of_decide_eq_false G;have:¬(lo+hi) / 2<du l x:=λU=>S (A.Nb U m);simp only[ae,bw,ds,aw];exact ar ⟨(lo,(lo+hi) / 2),⟨rfl,B,C,D,E,s,rfl,bW,by simp only;omega,by simp only;omega⟩,by simp only;omega⟩
  .rw[G]at aw;have S:eZ p x:=of_decide_eq_true G;have:¬du l x<=(lo+hi) / 2:=λU=>A.Az U m S;simp only[ae,bw,ds,aw,r3];exact ar ⟨((lo+hi) / 2+1,hi),⟨rfl,B,C,D,E,rfl,a,by simp only;omega,a2,a3⟩,by simp only;omega⟩
 .have F:decide ((lo:Int)<(hi:Int))=false:=hK (by omega);obtain rfl:lo=du l x:=by omega
  by_cases Dr:du l x<l.length
  .have T:decide (((du l x:Nat):Int)<(l.length:Int))=true:=hO (by omega);have m:l[du l x]?=eL l[du l x]:=Jt Dr;generalize l[du l x]=p at m;obtain⟨j,r,N,eU,zb,O,_⟩:=x1 M m;have Q:=Nh p r;have R:=W p (azc m);have aw:=arA p x;have U:gE p x=df l x:=by
    rcases A.iR x with⟨az,q,bd,c2,_⟩|⟨az,bd⟩
    .rw[m]at bd;cases bd;rw[az,c2]
    .rw[az];exact(bd p m).2
   rw[U]at aw;simp only[ae,ds,s,a,F];refine aT.cL kR [] (.q 0 (.q 1 (.q 2 (.q 3 (.q 4 (.q 5 (.q 6 (.q 7 (.q 8 (.q 9 (.q 10 (.c 11 (.q 12 (.q 13 (.q 14 (.q 15 .done)))))))))))))))) ?_;simp only[ae,bw,ds,reduceCtorEq,al,B,C,D,E,s,T,N,O,Q,Y,Dz,Z];refine gh rfl rfl rfl (λh' _=>adD p x R X h') ?_;simp only[ae,bw,ds,aw,aJ];exact ar ⟨rfl,L⟩
  .have T:decide (((du l x:Nat):Int)<(l.length:Int))=false:=hK (by omega);have U:df l x=false:=by
    rcases A.iR x with⟨az,q,bd,c2,_⟩|⟨az,bd⟩
    .have:=(axB.1 bd).1;omega
    .exact az
   simp only[ae,ds,s,a,F];refine aT.cL kR [] (.q 0 (.q 1 (.q 2 (.q 3 (.q 4 (.q 5 (.q 6 (.q 7 (.q 8 (.q 9 (.q 10 (.c 11 (.q 12 (.q 13 (.q 14 (.q 15 .done)))))))))))))))) ?_;simp only[ae,bw,ds,E,s,T];refine rZ rfl rfl ?_;simp only[ae,bw,ds,aJ];exact ar ⟨by rw[U],L⟩
theorem Kj(h:I)(c:ak):am mP 52 1 [(0,.agg (aq c))] h=eL (.bh h.n 0 1 1,h.push (.cells (aq c) 110 eN)):=QF Ag rfl rfl (by decide)
theorem adF(h:I)(c:ak):am mP 288 1 [(0,.agg (bL c))] h=eL (.bh h.n 0 1 1,h.push (.cells (bL c) 308 eN)):=QF y8 rfl rfl (by decide)
structure dp(h:I)(i:Nat)(v:V)(room g:Int)(l:List ak):Prop where
 lt:i<h.n
 get:h.get i=.cells [.int gj room,.int gj g,v] 290 eN
 own:Own h 308 3 v (l.flatMap bL)
 ne:aS v≠eL i
 kJ:fF l
 ok:∀x∈l,kW x
 len:l.length<=1024
 g1:1<=g
 g2:g<=2^20
section
variable {h h':I} {i:Nat} {v:V} {room g:Int} {l:List ak}
theorem dp.rows(k:dp h i v room g l):(l.flatMap bL).length=l.length*3:=ft vV l
theorem dp.ai{own:Nat->Prop}(k:dp h i v room g l)(s:J h h' own)(u:¬own i)(z:∀j,aS v=eL j->¬own j):dp h' i v room g l :=
 ⟨IS k.lt s.n,(s.get i k.lt u).trans k.get,k.own.ai s z,k.ne,k.kJ,k.ok,k.len,k.g1,k.g2⟩
theorem dp.aY(k:dp h i v room g l)(j:J h h' kR):dp h' i v room g l:=k.ai j (by simp[kR]) (by simp[kR])
theorem dp.rq(k:dp h i v room g l)(H:I):dX mP 288 v H=eL (.int gj (l.length:Nat)):=adE k.own
end
def mL(i:Nat)(v:V):Nat->Prop:=λq=>q=i\/bb v q
theorem Rv(h:I)(i:Nat)(v:V)(a g:Int)(l:List ak)(x:ak)(s:kW x)(k:dp h i v a g l) :
  Pure mP 247 [.ptr i 0,.agg (bL x)] h (.tuple [.int gj (du l x:Nat),.bool (df l x)]):=by
 refine Pure.val (bf.tuple (bc.cons (bf.int _ _) (bc.cons (bf.bool _) bc.nil))) ?_;refine a7 Tryz.func247 rfl ?_;obtain⟨H,hH,m,u,_⟩:=bU h (.cells (bL x) 308 eN);have kk:=k.aY m;have z:=kk.get;have A:=BS x;have B:cw (eL (eL 3)) (eL (bL x))=eL (.agg (bL x)):=rfl;have C:cI (aP.cells (bL x) 308 eN) 0=eL (bL x):=rfl;unfold bL at hH;simp only[ae,A];rw[<-hH];clear hH;refine aT.cL kR [] (.q 0 (.q 1 (.q 2 (.q 3 (.q 4 (.c 5 (.q 6 (.q 7 (.q 8 (.q 9 .done)))))))))) ?_;simp only[ae,bw,ds,AT,By,reduceCtorEq,al,u,z,C,B];refine gh rfl rfl rfl (λh' j=>W8 v l x h' (by rcases j with j|j;exact kk.own.aY j;subst j;exact kk.own) k.kJ k.ok s (by have:=k.len;omega)) ?_;simp only[ae,bw,ds,aJ];exact ar ⟨rfl,m⟩
theorem adG(h:I)(i:Nat)(v:V)(a g:Int)(l:List ak)(x:ak)(F:kW x)(U:df l x=e6)(k:dp h i v a g l) :
  au mP 236 [.ptr i 0,.agg (bL x)] h (λr h'=>∃z,dp h' i z a g (fI l x)/\J h h' (mL i v)/\b6 h v z):=by
 refine a7 Tryz.func236 rfl ?_;obtain⟨H,hH,A,W,X⟩:=bU h (.cells (bL x) 308 eN);have kk:=k.aY A;have B:=kk.get;have G:=BS x;have Y:cw (eL (eL 3)) (eL (bL x))=eL (.agg (bL x)):=rfl;have Z:cI (aP.cells (bL x) 308 eN) 0=eL (bL x):=rfl;have b7:=k.lt;unfold bL at hH;simp only[ae,ds,AT,reduceCtorEq,al,G];rw[<-hH];clear hH;refine bE (Rv H i v a g l x F kk) ?_;rcases k.kJ.iR x with⟨az,p,bd,c2,hE⟩|⟨az,bd⟩;rotate_left
 .rw[U]at az;cases az
 have L:=(axB.1 bd).1;have M:=km L (by have:=k.len;omega);simp only[ae,ds,AT,By,reduceCtorEq,al,B,M];refine cp (ary v (du l x) (l.flatMap bL) H kk.own (by rw[k.rows];have:=k.len;omega) (by rw[k.rows];omega) (LN Rt l)) λr C ⟨s,u,j⟩=>?_;have N:(l.flatMap bL).take (du l x*3)++(l.flatMap bL).drop ((du l x+1)*3)=(fI l x).flatMap bL:=by
  rw[Di vV,xR vV,k.kJ.rm U];simp
 rw[N]at s;have O:=(u.get i (by omega) (λU=>k.ne U)).trans B;have Q:r.one=true:=by
  rcases s with⟨rfl|rfl,_⟩|⟨_,_,_,_,_,rfl,_⟩<;>rfl
 have R:r.cells=eL [r]:=by
  rcases s with⟨rfl|rfl,_⟩|⟨_,_,_,_,_,rfl,_⟩<;>rfl
 have S:bD (eL 1) (aP.cells [kA gj a,kA gj g,v] 290 eN) 2 [r]=eL (.cells [.int gj a,.int gj g,r] 290 eN):=by rw[rb Q];rfl
 have n3:=u.n;simp only[ae,ds,al,O,R,S,aJ];have D:aS r≠eL i:=λU=>by
  rcases j with j|j
  .rw[j]at U;exact k.ne U
  .have:=j i U;omega
 have E:J C (C.set i (.cells [kA gj a,kA gj g,r] 290 eN)) (λq=>q=i):=J.set _ _ _;refine ar ⟨r,⟨by rw[jM];omega,aM,s.ai E λq m U=>D (by rw[m,U]),D,k.kJ.filter _,λy T=>k.ok y (ajA.1 T).1,?_,k.g1,k.g2⟩,?_,?_⟩
 .have:=adw k.kJ U;have:=k.len;omega
 .exact((A.up (o:=mL i v)).trans u λq m U=>.inr U).trans E λq m U=>.inl U
 .rcases j with j|j
  .exact .inl j
  .exact .inr λq m=>by have:=j q m;omega
theorem adH(h:I)(i:Nat)(v:V)(j g:Int)(l:List ak)(x:ak)(D:kW x)(U:df l x=fr)(E:l.length<1024)(k:dp h i v j g l) :
  au mP 237 [.ptr i 0,.agg (bL x)] h (λr h'=>∃F,dp h' i F j g (lq l x)/\J h h' (mL i v)/\b6 h v F):=by
 refine a7 Tryz.func237 rfl ?_;obtain⟨H,hH,G,S,hx⟩:=bU h (.cells (bL x) 308 eN);have kk:=k.aY G;have T:=kk.get;have W:=BS x;have X:cw (eL (eL 3)) (eL (bL x))=eL (.agg (bL x)):=rfl;have Y:cI (aP.cells (bL x) 308 eN) 0=eL (bL x):=rfl;have b7:=k.lt;unfold bL at hH;simp only[ae,ds,AT,reduceCtorEq,al,W];rw[<-hH];clear hH;refine bE (Rv H i v j g l x D kk) ?_;simp only[ae,ds];have L:bb v i=False:=eq_false λU=>k.ne U;have Z:bb v h.n=False:=eq_false λU=>by have:=k.own.lt _ U;omega
 obtain⟨bZ,bN,z,dD,c6⟩:=bU H (.cells (bL x) 308 eN);have M:=kk.aY z;have N:=adF H x;rw[<-bN]at N;refine aT.cL (λx=>bb v x) [7,8,11] (.q 0 (.q 1 (.q 2 (.q 3 (.q 4 (.q 5 (.q 6 (.e 7 (.e 8 (.q 9 (.q 10 (.a 11 .done))) .stop) .stop)))))))) ?_;simp only[ae,bw,e4,ds,AT,By,reduceCtorEq,al,S,T,Y,X,L,Z,N];refine⟨z.up,?_⟩;refine cp (arw v (du l x) H.n (l.flatMap bL) (bL x) bZ M.own (by rw[k.rows];have:=k.len;omega) (by rw[k.rows];have:=adt l x;omega) dD (by omega) (λU=>by have:=k.own.lt _ U;omega) rfl rfl (LN Rt l)) λr A ⟨u,B,m⟩=>?_;have mI:(l.flatMap bL).take (du l x*3)++bL x++(l.flatMap bL).drop (du l x*3)=(lq l x).flatMap bL:=by
  rw[Di vV,xR vV,k.kJ.ins];simp
 rw[mI]at u;have vj:=(B.get i (by omega) (by rw[L];exact id)).trans M.get;have j5:r.one=true:=by
  rcases u with⟨rfl|rfl,_⟩|⟨_,_,_,_,_,rfl,_⟩<;>rfl
 have h5:r.cells=eL [r]:=by
  rcases u with⟨rfl|rfl,_⟩|⟨_,_,_,_,_,rfl,_⟩<;>rfl
 have dI:bD (eL 1) (aP.cells [kA gj j,kA gj g,v] 290 eN) 2 [r]=eL (.cells [.int gj j,.int gj g,r] 290 eN):=by rw[rb j5];rfl
 have O:J H A (λx=>bb v x):=(z.up).trans' B;have n3:=B.n;simp only[ae,bw,e4,ds,al,vj,h5,dI,O,aJ];have Q:aS r≠eL i:=λU=>by
  rcases m with m|m
  .rw[m]at U;exact k.ne U
  .have:=m i U;omega
 have R:J A (A.set i (.cells [kA gj j,kA gj g,r] 290 eN)) (λq=>q=i):=J.set _ _ _;refine ar ⟨r,⟨by rw[jM];omega,aM,u.ai R λq s U=>Q (by rw[s,U]),Q,k.kJ.AA U,λy C=>?_,?_,k.g1,k.g2⟩,?_,?_⟩
 .rcases Nc.1 C with rfl|C
  .exact D
  .exact k.ok y C
 .rw[k.kJ.Cu];omega
 .exact((G.up (o:=mL i v)).trans O λq s U=>.inr U).trans R λq s U=>.inl U
 .rcases m with m|m
  .exact .inl m
  .exact .inr λq s=>by have:=m q s;omega
theorem arC(a g:Int)(s:1<=a)(u:a<=1024)(z:1<=g)(A:g<=2^20)(h:I) :
  au mP 149 [.int gj a,.int gj g] h (λr h'=>r=.tuple [.ptr h.n 0,.int gj 0]/\h'=h.push (.cells [.int gj a,.int gj g,.ah] 290 eN)):=by
 refine a7 Tryz.func149 rfl ?_;have i:decide (a<1)=false:=hK (by omega);have j:decide (1024<a)=false:=hK (by omega);have m:decide (g<1)=false:=hK (by omega);have q:decide (1048576<g)=false:=hK (by omega);simp only[ae,ds,AT,By,reduceCtorEq,al,i,j,m,q,aJ];exact ar ⟨rfl,rfl⟩
theorem dp.new{h:I}{room g:Int}(i:1<=g)(j:g<=2^20):dp (h.push (.cells [.int gj room,.int gj g,.ah] 290 eN)) h.n .ah room g [] :=
 ⟨azK _,ac,Own.ah _ _ _,by simp[aS],azM.nil,by simp,by simp,i,j⟩
theorem Kk(p:ak):(if 3<=(bL p).length then eL (kB (ay5 3 (bL p)))else eN)=eL (.agg (bL p)):=rfl
theorem Kl(p:ak):bD (eL 3) (aP.cells [kA gj 0,V.complex .f64 0 0,kA gj 0] 308 eN) 0 (bL p)=eL (.cells (bL p) 308 eN):=rfl
theorem Km(p:ak):(kB (bL p)).cells=eL (bL p):=rfl
theorem arD(h:I)(i:Nat)(v:V)(z g:Int)(l:List ak)(k:dp h i v z g l):Pure mP 286 [.ptr i 0] h (.ag l.length (l.flatMap aq)):=by
 refine Pure.acc (xS za _) (ft jo _) (by decide) (e:=110) (sz:=5) ?_;refine a7 Tryz.func286 rfl ?_;have M:=k.get;have N:=k.rq h;have Im:=k.len;simp only[ae,ds,AT,By,reduceCtorEq,al,M,N];refine aT.bG (α:=Nat×V) (λx f h'=>f 3=x.2/\f 11=v/\f 12=.int gj (l.length:Nat)/\f 13=.int gj (x.1:Nat)/\x.1<=l.length/\Acc h h' 110 5 x.2 ((l.take x.1).flatMap aq)) (λx=>l.length-x.1) (0,.ah)
  ⟨rfl,rfl,rfl,rfl,D8 _,Acc.nil (J.refl _ _)⟩ ?_
 rintro⟨t,s⟩ f G ⟨C,A,u,q,O,a⟩
 simp only at C q O a;refine wpS ?_;by_cases B:t<l.length
 .have D:=dK t l.length;have Q:=km B (by omega);have R:=k.aY a.ai;have E:l[t]?=eL l[t]:=Jt B;have H:l.take (t+1)=l.take t++[l[t]]:=ayY B;generalize l[t]=p at E H;obtain⟨j,r,S,eU,zb,T,_⟩:=x1 R.own E;have W:=k.ok p (azc E);have X:=Nh p r;have Y:=Km p;have Z:=Kk p;have st:=Kl p;have GV:=a.on (J.push G (.cells (bL p) 308 eN) kR);obtain⟨b3,ad,L,a2⟩:=GV.uV Ag (by decide) (xs:=aq p) rfl rfl (λm F=>by
   change m*5=_+5 at F;rw[ft jo]at F;simp only[ajB]at F;exact⟨by simp only[lim];omega,by simp only[lim];omega⟩)
  simp only[ae,ds,al,C,A,u,q,D,S,T,X,Y,st,Z];refine bE (Nf p W _) ?_;have eY:=Kj (G.push (.cells (bL p) 308 eN)) p;rw[dn]at L;simp only[ae,ds,q,eY,L,Q];refine ar ⟨(t+1,b3),⟨rfl,A,u,rfl,B,a2.conv ?_⟩,by simp only;omega⟩;rw[H,ay3];simp
 .have D:=dY t l.length;rw[ajE (by omega)]at a;simp only[ae,ds,C,u,q,D,aJ];exact ar a
def x2(g:Int)(l:List ak)(k t:Int):List ak:=if kK t=e6 then found g l k t else []
theorem arE(g:Int)(l:List ak)(k t:Int)(p:ak):found g (l++[p]) k t=found g l k t++(if rr g k t p=e6 then [p]else []):=by
 unfold found;rw[az0];cases h:rr g k t p<;>simp[h]
theorem Ni(g:Int)(l:List ak)(k t:Int):(found g l k t).length<=l.length:=azu ..
theorem Xa(h:I)(i:Nat)(v:V)(Q g key time:Int)(l:List ak)(k:dp h i v Q g l):Pure mP 214 [.ptr i 0,.int gj key,.int gj time] h (.ag (x2 g l key time).length ((x2 g l key time).flatMap aq)):=by
 refine Pure.acc (xS za _) (ft jo _) (by decide) (e:=110) (sz:=5) ?_;refine a7 Tryz.func214 rfl ?_;have ay:=k.get;have aB:=k.rq h;have Im:=k.len;simp only[ae,ds,reduceCtorEq,al];refine bE (G4 time h) ?_;unfold x2;cases qf:kK time
 .simp only[ae,ds,aJ];exact ar (Acc.nil (J.refl _ _))
 have Nj:=Ki.1 qf;rw[gr rfl];simp only[ae,ds,AT,By,reduceCtorEq,al,ay,aB];refine aT.bG (α:=Nat×V) (λx f h'=>f 0=.ptr i 0/\f 1=.int gj key/\f 2=.int gj time/\f 7=x.2/\f 20=v/\f 21=.int gj (l.length:Nat)/\f 22=.int gj (x.1:Nat)/\x.1<=l.length/\Acc h h' 110 5 x.2 ((found g (l.take x.1) key time).flatMap aq)) (λx=>l.length-x.1) (0,.ah)
  ⟨rfl,rfl,rfl,rfl,rfl,rfl,rfl,D8 _,Acc.nil (J.refl _ _)⟩ ?_
 rintro⟨t,s⟩ f h1 ⟨D,E,F,N,B,u,a,bA,C⟩
 simp only at N a bA C;refine wpS ?_;by_cases G:t<l.length
 .have Y:=dK t l.length;have S:=km G (by omega);have bx:=k.aY C.ai;have Z:l[t]?=eL l[t]:=Jt G;have lP:l.take (t+1)=l.take t++[l[t]]:=ayY G;have z:=arE g (l.take t) key time l[t];rw[<-lP]at z;generalize l[t]=p at Z lP z;obtain⟨j,r,b0,eU,zb,x0,_⟩:=x1 bx.own Z;have A:=k.ok p (azc Z);have ld:=Nh p r;have vR:=Km p;have O:=Kk p;have st:=Kl p;have T:cw (eL eN) (eL (bL p))=eL (.int gj p.key):=rfl;obtain⟨H,hH,bl,L,_⟩:=bU h1 (.cells (bL p) 308 eN);have kk:=bx.aY bl;have R:=kk.get;have W:=C.on bl;have cH:aPh.i64.wrap (p.aO-g)=p.aO-g:=kp _ (by have:=A.lo;have:=A.le;have:=A.hi;have:=k.g1;have:=k.g2;omega);have bY:aPh.i64.wrap (p.to+g)=p.to+g:=kp _ (by have:=A.lo;have:=A.le;have:=A.hi;have:=k.g1;have:=k.g2;omega);simp only[ae,ds,al,B,u,a,Y,b0,x0,ld,vR,st];rw[<-hH];cases az:(p.key==key)
  .have M:rr g key time p=false:=by
    cases e:rr g key time p
    .rfl
    .have:=(G0.1 e).1;simp at az;omega
   rw[M]at z;simp only[azf,iC,axA]at z;refine aT.cL kR [] (.q 0 (.q 1 (.q 2 (.q 3 (.q 4 (.q 5 (.c 6 (.q 7 (.q 8 (.q 9 (.q 10 (.q 11 (.q 12 (.q 13 (.q 14 (.q 15 (.q 16 (.q 17 (.c 18 (.q 19 (.q 20 (.q 21 (.q 22 (.q 23 (.q 24 (.q 25 .done)))))))))))))))))))))))))) ?_;simp only[ae,bw,ds,al,E,L,T,az];refine rZ rfl rfl ?_;simp only[ae,bw,ds];refine rZ rfl rfl ?_;simp only[ae,bw,ds,a,S];exact ar ⟨(t+1,s),⟨D,E,F,N,B,u,rfl,G,by simp only;rw[z];exact W⟩,by simp only;omega⟩
  have aa:p.key=key:=by simpa using az
  cases bd:decide (p.aO-g<=time)
  .have M:rr g key time p=false:=by
    cases e:rr g key time p
    .rfl
    .have:=(G0.1 e).2.1;have:=of_decide_eq_false bd;omega
   rw[M]at z;simp only[azf,iC,axA]at z;refine aT.cL kR [] (.q 0 (.q 1 (.q 2 (.q 3 (.q 4 (.q 5 (.c 6 (.q 7 (.q 8 (.q 9 (.q 10 (.q 11 (.q 12 (.q 13 (.q 14 (.q 15 (.q 16 (.q 17 (.c 18 (.q 19 (.q 20 (.q 21 (.q 22 (.q 23 (.q 24 (.q 25 .done)))))))))))))))))))))))))) ?_;simp only[ae,bw,ds,al,E,L,T,az,O];refine gh rfl rfl rfl (λh' _=>G2 p A h') ?_;simp only[ae,bw,ds,AT,By,reduceCtorEq,al,D,F,R,cH,bd];refine rZ rfl rfl ?_;simp only[ae,bw,ds,a,S];exact ar ⟨(t+1,s),⟨D,E,F,N,B,u,rfl,G,by simp only;rw[z];exact W⟩,by simp only;omega⟩
  cases X:decide (time<=p.to+g)
  .have M:rr g key time p=false:=by
    cases e:rr g key time p
    .rfl
    .have:=(G0.1 e).2.2;have:=of_decide_eq_false X;omega
   rw[M]at z;simp only[azf,iC,axA]at z;refine aT.cL kR [] (.q 0 (.q 1 (.q 2 (.q 3 (.q 4 (.q 5 (.c 6 (.q 7 (.q 8 (.q 9 (.q 10 (.q 11 (.q 12 (.q 13 (.q 14 (.q 15 (.q 16 (.q 17 (.c 18 (.q 19 (.q 20 (.q 21 (.q 22 (.q 23 (.q 24 (.q 25 .done)))))))))))))))))))))))))) ?_;simp only[ae,bw,ds,al,E,L,T,az,O];refine gh rfl rfl rfl (λh' _=>G2 p A h') ?_;simp only[ae,bw,ds,AT,By,reduceCtorEq,al,D,F,L,R,O,cH,bd];refine gh rfl rfl rfl (λh' _=>G3 p A h') ?_;simp only[ae,bw,ds,AT,By,reduceCtorEq,al,D,a,R,bY,X,S];exact ar ⟨(t+1,s),⟨D,E,F,N,B,u,rfl,G,by simp only;rw[z];exact W⟩,by simp only;omega⟩
  .have M:rr g key time p=true:=G0.2 ⟨aa,of_decide_eq_true bd,of_decide_eq_true X⟩;rw[M,gr rfl]at z;obtain⟨b3,ad,dr,a2⟩:=W.uV Ag (by decide) (xs:=aq p) rfl rfl (λm hm=>by
    change m*5=_+5 at hm;rw[ft jo]at hm;have:=Ni g (l.take t) key time;simp only[ajB]at this;exact⟨by simp only[lim];omega,by simp only[lim];omega⟩)
   have eY:=Kj H p;refine aT.cL kR [] (.q 0 (.q 1 (.q 2 (.q 3 (.q 4 (.q 5 (.c 6 (.q 7 (.q 8 (.q 9 (.q 10 (.q 11 (.q 12 (.q 13 (.q 14 (.q 15 (.q 16 (.q 17 (.c 18 (.q 19 (.q 20 (.q 21 (.q 22 (.q 23 (.q 24 (.q 25 .done)))))))))))))))))))))))))) ?_;simp only[ae,bw,ds,al,E,L,T,az,O];refine gh rfl rfl rfl (λh' _=>G2 p A h') ?_;simp only[ae,bw,ds,AT,By,reduceCtorEq,al,D,F,L,R,O,cH,bd];refine gh rfl rfl rfl (λh' _=>G3 p A h') ?_;simp only[ae,bw,ds,AT,By,reduceCtorEq,al,D,N,L,R,O,bY,X];refine bE (Nf p A _) ?_;simp only[ae,ds,a,eY,dr,S];refine ar ⟨(t+1,b3),⟨D,E,F,rfl,B,u,rfl,G,a2.conv ?_⟩,by simp only;omega⟩;rw[z,ay3];simp
 .have Y:=dY t l.length;rw[ajE (by omega)]at C;simp only[ae,ds,N,u,a,Y,aJ];exact ar C
theorem b6.after{h H:I}{v i:V}(d:b6 H v i)(j:h.n<=H.n):b6 h v i:=by
 rcases d with d|d
 .exact .inl d
 .exact .inr λq s=>UN j (d q s)
theorem Rw{h:I}{s:V}{i:List ak}(o:Own h 110 5 s (i.flatMap aq))(E:i.length<=2^40)(c:ak) :
  ∃a h',kd mP 52 52 s (.bh h.n 0 1 1) (h.push (.cells (aq c) 110 eN))=eL (a,h')/\Own h' 110 5 a ((i++[c]).flatMap aq)/\J h h' (bb s)/\b6 h s a:=by
 have j:J h (h.push (.cells (aq c) 110 eN)) kR:=J.push _ _ _;have u:Own (h.push (.cells (aq c) 110 eN)) 110 5 (.bh h.n 0 1 1) (aq c):=Own.fz (aq c) 1 rfl (by decide);have z:=uc (P:=mP) (t:=52) rl u (n:=1) rfl (by decide) (WO c);obtain⟨a,h',A,B,C,D⟩:=be (P:=mP) (t:=52) (tx:=52) Ag (by decide) (o.aY j) z rfl (λm q=>by
  change m*5=_+5 at q;rw[ft jo]at q;exact⟨by simp only[lim];omega,by simp only[lim];omega⟩)
 refine⟨a,h',A,?_,(j.up).trans' C,b6.after D j.n⟩;rw[ay3];simpa using B
theorem adJ(p:ak)(r:List V):cw (eL (eL 5)) (eL (aq p++r))=eL (.agg (aq p)):=j1 (jo p)
theorem Nk(p:ak):(if 5<=(aq p).length then eL (kB (ay5 5 (aq p)))else eN)=eL (.agg (aq p)):=rfl
theorem Xb(p:ak):bD (eL 5) (aP.cells [kA gj 0,kA gj 0,kA gj 0,kA gj 0,V.bool fr] 110 eN) 0 (aq p)=eL (.cells (aq p) 110 eN):=rfl
theorem Nl(p:ak):(kB (aq p)).cells=eL (aq p):=rfl
theorem adK(p:ak):azE 1 (aq p)=[.int gj p.aO,.int gj p.to,.int gj p.val,.bool p.del]:=rfl
theorem adL(p:ak):azE 2 (aq p)=[.int gj p.to,.int gj p.val,.bool p.del]:=rfl
theorem arF(c:ak)(a:List ak)(p:ak):((a++[p]).filter (nK c)).map jd=((a.filter (nK c)).map jd)++(if nK c p=e6 then [jd p]else []):=by
 rw[az0,ay1];cases h:nK c p<;>simp[h]
theorem AI{g:Int}{l:List ak}(i:fF l)(k t:Int){j:Nat}{p:ak}(a:(found g l k t)[j]?=eL p):p∈hl l ((found g l k t).take j):=by
 have m:fF (found g l k t):=i.filter _;have q:p∈found g l k t:=azc a;refine ark i (ajA.1 q).1 (λs=>?_) λy u=>(ajA.1 (aAM u)).1;have z:=(axB.1 a).1;have e:found g l k t=(found g l k t).take j++p::(found g l k t).drop (j+1):=by
  have:=azL j (found g l k t);rw[ay0 z,(axB.1 a).2]at this;exact this.symm
 rw[e]at m;exact absurd ((List.pairwise_append.1 m).2.2 p s p (by simp)) (E8 (nt.2 ⟨rfl,rfl,rfl⟩))
theorem arG(h:I)(i:Nat)(v:V)(u g key time val:Int)(l:List ak)(qf:kK time=e6)(fD:found g l key time≠[]\/(l.length:Int)<u)(aB:found g l key time≠[]\/l.length<1024)(k:dp h i v u g l) :
  au mP 217 [.ptr i 0,.int gj key,.int gj time,.int gj val] h (λr h'=>∃v',r=.tuple [.ag (jD g l key time val).length ((jD g l key time val).flatMap aq),.int gj 0]/\dp h' i v' u g (G1 g l key time val)/\J h h' (mL i v)/\b6 h v v'):=by
 refine au.cast ?_;refine a7 aEs rfl ?_;have ay:=k.get;have ko:=k.rq h;have Nj:=Ki.1 qf;have b7:=k.lt;have gk:=k.g1;simp only[ae,ds,reduceCtorEq,al];refine bE (G4 time h) ?_;simp only[ae,ds,reduceCtorEq,qf];refine bE (Xa h i v u g key time l k) ?_;have Nn:x2 g l key time=found g l key time:=by rw[x2,gr qf]
 rw[Nn];obtain⟨a,dh⟩:∃y,y=found g l key time:=⟨_,rfl⟩;have c9:a.length<=1024:=by rw[dh];have:=Ni g l key time;have:=k.len;omega
 have d0:((a.length:Int)==0)=e6->decide (u<=(l.length:Int))=false:=λbP=>hK (by
  rcases fD with aH|aH
  .exfalso;rw[<-dh]at aH;have:a.length=0:=by simpa using bP
   exact aH (azo this)
  .omega)
 have aB:(BR g l key time).length<1024:=by
  have kS:=arp g l key time;have lx:=k.len;rcases aB with aB|aB
  .have:0<(found g l key time).length:=List.length_pos_iff.2 aB;omega
  .omega
 rw[<-dh];obtain⟨c,aw⟩:∃y,y=gX g l key time val:=⟨_,rfl⟩;have yE:c.aO=pG time a:=by rw[aw,dh];rfl
 have Np:c.to=qe time a:=by rw[aw,dh];rfl
 have tZ:c.key=key:=by rw[aw];rfl
 have aA:c.val=val:=by rw[aw];rfl
 have aF:c.del=false:=by rw[aw];rfl
 have Xc:kW c:=by rw[aw];exact Rs k.ok val Nj.1 Nj.2
 simp only[ae,ds];cases an:((a.length:Int)==0)
 all_goals
  refine aT.cL kR [] (.q 0 (.q 1 (.q 2 (.q 3 (.q 4 (.q 5 (.q 6 (.q 7 (.q 8 (.q 9 (.q 10 (.q 11 (.q 12 (.q 13 (.q 14 .done))))))))))))))) ?_;simp only[ae,bw,ds,AT,By,reduceCtorEq,al,rl,an,ay,ko,d0];refine aT.bG (α:=Nat) (λt f h'=>f 0=.ptr i 0/\f 1=.int gj key/\f 3=.int gj val/\f 10=.ag a.length (a.flatMap aq)/\f 11=.int gj (pG time (a.take t))/\f 12=.int gj (qe time (a.take t))/\f 46=.ag a.length (a.flatMap aq)/\f 47=.int gj (a.length:Nat)/\f 48=.int gj (t:Nat)/\t<=a.length/\J h h' kR) (λt=>a.length-t) 0
   ⟨rfl,rfl,rfl,rfl,rfl,rfl,rfl,rfl,rfl,D8 _,J.refl _ _⟩ ?_
  rintro t f F ⟨f0,f1,f3,af,z,A,av,aa,ad,bA,bx⟩
  refine wpS ?_;by_cases M:t<a.length
  .have d1:=dK t a.length;have hw:=km M (by omega);have b0:=M0 (kk:=.i64) M;have lP:a.take (t+1)=a.take t++[a[t]]:=ayY M;have W:=arl time (a.take t) a[t];have wG:=arn time (a.take t) a[t];rw[<-lP]at W wG;generalize a[t]=p at b0 lP W wG;have ld:=adJ p;have il:=Nk p;have st:=Xb p;have cc:=Nl p;have ba:=adK p;have bt:=adL p;simp only[ae,ds,al,av,aa,ad,d1,b0,ld,st,cc];refine aT.cL kR [] (.q 0 (.q 1 (.q 2 (.q 3 (.q 4 (.q 5 (.q 6 (.q 7 (.q 8 (.q 9 .done)))))))))) ?_;simp only[ae,bw,ds,By,al,z,A,ad,ba,bt,jo,hw];exact ar ⟨t+1,⟨f0,f1,f3,af,by rw[W];rfl,by rw[wG];rfl,av,aa,rfl,M,bx.bp _⟩,by omega⟩
  .have d1:=dY t a.length;rw[ajE (by omega)]at z A;rw[<-yE]at z;rw[<-Np]at A;simp only[ae,ds,rl,af,aa,ad,d1];have aG:=k.aY bx;refine aT.bG (α:=Nat×V×V) (λx f h'=>f 0=.ptr i 0/\f 1=.int gj key/\f 3=.int gj val/\f 11=.int gj c.aO/\f 12=.int gj c.to/\f 15=x.2.2/\f 61=.ag a.length (a.flatMap aq)/\f 62=.int gj (a.length:Nat)/\f 63=.int gj (x.1:Nat)/\x.1<=a.length/\dp h' i x.2.1 u g (hl l (a.take x.1)) /\
     Own h' 110 5 x.2.2 ((((a.take x.1).filter (nK c)).map jd).flatMap aq)/\J h h' (mL i v)/\b6 h v x.2.1/\(∀j,aS x.2.2=eL j->h.n<=j/\aS x.2.1≠eL j)) (λx=>a.length-x.1) (0,v,.ah)
    ⟨f0,f1,f3,z,A,rfl,rfl,rfl,rfl,D8 _,by rw[az3,wd];exact aG,Own.ah _ _ _,bx.up,.inl rfl,by simp[aS]⟩ ?_
   rintro⟨t,v1,s⟩ f F ⟨f0,f1,f3,z,A,N,X,O,L,bA,R,os,kk,C,Y⟩
   simp only at N L bA R os C Y;refine wpS ?_;by_cases M:t<a.length
   .have d1:=dK t a.length;have hw:=km M (by omega);have b0:=M0 (kk:=.i64) M;have lP:a.take (t+1)=a.take t++[a[t]]:=ayY M;have aX:a[t]?=eL a[t]:=Jt M;have pZ:=arj l (a.take t) a[t];have Q:=arF c (a.take t) a[t];rw[<-lP]at pZ Q;have Xd:∀p,a[t]?=eL p->p∈hl l (a.take t):=by
     rw[dh];exact λp aX=>AI k.kJ key time aX
    have G5:=Xd _ aX;generalize a[t]=p at b0 lP aX pZ Q G5;have gu:kW p:=R.ok p G5;have ld:=adJ p;have il:=Nk p;have st:=Xb p;have cc:=Nl p;have ba:=adK p;have bt:=adL p;obtain⟨H,hH⟩:∃y,y=(F.push (.cells (aq p) 110 eN)).push (.cells (bL p) 308 eN):=⟨_,rfl⟩;have vW:H.get F.n=.cells (aq p) 110 none:=by rw[hH];exact yZ
    have x3:H.get (F.n+1)=.cells (bL p) 308 none:=(by rw[hH];exact zO);have bl:J F H kR:=(by rw[hH];exact(J.push _ _ _).bp _);have hx:H.n=F.n+2:=(by rw[hH];rfl);have Nq:=R.aY bl;have vn:=Kk p;have Fa:=Kl p;have aI:=Km p;simp only[ae,ds,al,X,O,L,d1,b0,ld,il,st,cc];refine bE (Ru p _) ?_;simp only[ae,ds,reduceCtorEq,al,f0,Fa,aI,vn];rw[<-hH];clear hH;refine cp (adG H i v1 u g _ p gu (adu G5) Nq) λr aD ⟨S,Z,T,B⟩=>?_;rw[<-pZ]at Z;have DB:∀q,aS v1=eL q->q<F.n:=λq D=>R.own.lt q D;have z1:=R.lt;have Nr:=(T.get F.n (by omega) (by rintro(U|U);omega;have:=DB _ U;omega)).trans vW;have Ts:=(T.get (F.n+1) (by omega) (by rintro(U|U);omega;have:=DB _ U;omega)).trans x3;have Xe:=T.n;have h0:∀j,aS s=eL j->j<F.n:=λj m=>os.lt j m;have Fb:=(os.aY bl).ai T (λj m U=>by
     rcases U with U|U
     .have:=(Y j m).1;omega
     .exact(Y j m).2 U)
    have ez:J h aD (mL i v):=((kk.trans' bl.up).trans T λq D U=>by
     rcases U with U|U
     .exact .inl U
     .rcases C with C|C
      .exact .inr (by show aS v=eL q;rw[<-C];exact U)
      .have:=C q U;omega)
    have Fc:b6 h v S:=by
     rcases B with B|B
     .rcases C with C|C
      .exact .inl (B.trans C)
      .exact .inr λq D=>C q (by rw[<-B];exact D)
     .exact .inr λq D=>by have:=B q D;have:=kk.n;omega
    have G:∀j,aS s=eL j->h.n<=j/\aS S≠eL j:=λj m=>by
     refine⟨(Y j m).1,λU=>?_⟩;rcases B with B|B
     .rw[B]at U;exact(Y j m).2 U
     .have:=B j U;have:=h0 j m;omega
    cases az:(p.aO !=c.aO)
    .cases bd:(p.to !=c.to)
     .have aU:nK c p=false:=by
       simp at az bd;simp[nK,az,bd]
      rw[aU]at Q;simp only[azf,iC,axA]at Q;simp only[ae,ds,By,al,z,A,L,Nr,ba,bt,jo,az,bd,hw];exact ar ⟨(t+1,S,s),⟨f0,f1,f3,z,A,N,X,O,rfl,M,Z,by simp only;rw[Q];exact Fb,ez,Fc,G⟩,by simp only;omega⟩
     .have aU:nK c p=true:=by
       simp at az bd;simp[nK,az,bd]
      rw[aU,gr rfl]at Q;obtain⟨b3,br,W,mK,cg,E⟩:=Rw Fb (by simp only[ajD];have:=azu (nK c) (a.take t);have:=aBf t a;omega) (jd p);have eY:=Kj aD (jd p);simp only[ae,ds,By,al,z,A,N,Nr,Ts,ba,bt,jo,vn,az,bd];refine bE (W4 p gu _) ?_;simp only[ae,ds,L,eY,W,hw];refine ar ⟨(t+1,S,b3),⟨f0,f1,f3,z,A,rfl,X,O,rfl,M,Z.ai cg (λU=>?_) (λj m U=>(G j U).2 m),by simp only;rw[Q];exact mK,ez.trans cg λq D U=>?_,Fc,λj m=>?_⟩,by simp only;omega⟩
      .have:=(G i U).1;omega
      .have:=(G q U).1;omega
      .rcases E with E|E
       .rw[E]at m;exact G j m
       .have bV:=E j m;have cX:=ez.n;exact⟨by omega,λU=>by have:=Z.own.lt j U;omega⟩
    .have aU:nK c p=true:=by
      simp at az;simp[nK,az]
     rw[aU,gr rfl]at Q;obtain⟨b3,br,W,mK,cg,E⟩:=Rw Fb (by simp only[ajD];have:=azu (nK c) (a.take t);have:=aBf t a;omega) (jd p);have eY:=Kj aD (jd p);simp only[ae,ds,By,al,z,N,Nr,Ts,ba,jo,vn,az];refine bE (W4 p gu _) ?_;simp only[ae,ds,L,eY,W,hw];refine ar ⟨(t+1,S,b3),⟨f0,f1,f3,z,A,rfl,X,O,rfl,M,Z.ai cg (λU=>?_) (λj m U=>(G j U).2 m),by simp only;rw[Q];exact mK,ez.trans cg λq D U=>?_,Fc,λj m=>?_⟩,by simp only;omega⟩
     .have:=(G i U).1;omega
     .have:=(G q U).1;omega
     .rcases E with E|E
      .rw[E]at m;exact G j m
      .have bV:=E j m;have cX:=ez.n;exact⟨by omega,λU=>by have:=Z.own.lt j U;omega⟩
   .have d1:=dY t a.length;rw[ajE (by omega)]at R os;have iJ:hl l a=BR g l key time:=(by rw[dh];exact adx k.kJ _);rw[iJ]at R;have Lo:(BR g l key time).length<1024:=aB;have aZ:df (BR g l key time) c=false:=by rw[aw];exact aro (by omega) l key time val
    have il:=Nk c;have st:=Xb c;have cc:=Nl c;have a1:(kB [.int gj key,.int gj c.aO,.int gj c.to,.int gj val,.bool fr])=.agg (aq c):=by unfold aq;rw[tZ,aA,aF]
    obtain⟨H,hH,bl,j2,hx⟩:=bU F (.cells (aq c) 110 eN);have Nq:=R.aY bl;simp only[ae,ds,AT,By,reduceCtorEq,al,f0,f1,f3,z,A,O,L,d1,a1,st,cc,il];rw[<-hH];clear hH;refine bE (Ru c _) ?_;simp only[ae,ds];refine cp (adH H i v1 u g _ c Xc aZ Lo Nq) λr aD ⟨S,Z,T,B⟩=>?_;have DB:∀q,aS v1=eL q->q<F.n:=λq D=>R.own.lt q D;have z1:=R.lt;have a6:=(T.get F.n (by omega) (by rintro(U|U);omega;have:=DB _ U;omega)).trans j2;have Xe:=T.n;have h0:∀j,aS s=eL j->j<F.n:=λj m=>os.lt j m;have Fb:=(os.aY bl).ai T (λj m U=>by
     rcases U with U|U
     .have:=(Y j m).1;omega
     .exact(Y j m).2 U)
    have ez:J h aD (mL i v):=((kk.trans' bl.up).trans T λq D U=>by
     rcases U with U|U
     .exact .inl U
     .rcases C with C|C
      .exact .inr (by show aS v=eL q;rw[<-C];exact U)
      .have:=C q U;omega)
    have Fc:b6 h v S:=by
     rcases B with B|B
     .rcases C with C|C
      .exact .inl (B.trans C)
      .exact .inr λq D=>C q (by rw[<-B];exact D)
     .exact .inr λq D=>by have:=B q D;have:=kk.n;omega
    have G:∀j,aS s=eL j->h.n<=j/\aS S≠eL j:=λj m=>by
     refine⟨(Y j m).1,λU=>?_⟩;rcases B with B|B
     .rw[B]at U;exact(Y j m).2 U
     .have:=B j U;have:=h0 j m;omega
    obtain⟨b3,br,W,mK,cg,E⟩:=Rw Fb (by simp only[ajD];have:=azu (nK c) a;omega) c;have eY:=Kj aD c;simp only[ae,ds,al,N,a6,il,eY,W,aJ];have bg:=Z.ai cg (λU=>by have:=(G i U).1;omega) (λj m U=>(G j U).2 m);have lR:J h br (mL i v):=ez.trans cg λq D U=>by have:=(G q U).1;omega
    have Ns:∀j,aS b3=eL j->h.n<=j/\aS S≠eL j:=λj m=>by
     rcases E with E|E
     .rw[E]at m;exact G j m
     .have bV:=E j m;have cX:=ez.n;exact⟨by omega,λU=>by have:=Z.own.lt j U;omega⟩
    have Q:((a.filter (nK c)).map jd)++[c]=jD g l key time val:=(by rw[aw,dh];rfl);rw[Q]at mK;obtain⟨bV,c5,dN⟩:=aK.own mK (n:=(jD g l key time val).length) (ft jo _) (by decide);refine ar ⟨_,bV,aK.tuple (aE.cons c5 (aE.refl _ _)),S,rfl,?_,lR.trans dN λq D U=>by have:=(Ns q U).1;omega,Fc⟩;have:=bg.ai dN (λU=>by have:=(Ns i U).1;omega) (λj m U=>(Ns j U).2 m);rw[aw]at this;exact this
theorem Xf(i:Nat):jJ mP (.iface 259 (.ptr i 0)) 256 e6=eL (.tuple [.dA,.bool fr]):=by
 unfold jJ;rw[aBb];rfl
theorem Xg(i:Nat):jJ mP (.iface 259 (.ptr i 0)) 259 e6=eL (.tuple [.ptr i 0,.bool e6]):=by
 unfold jJ;rw[aAq];rfl
theorem Xh(i:Nat):jJ mP (.iface 262 (.ptr i 0)) 256 e6=eL (.tuple [.dA,.bool fr]):=by
 unfold jJ;rw[aBb];rfl
theorem Xi(i:Nat):jJ mP (.iface 262 (.ptr i 0)) 259 e6=eL (.tuple [.dA,.bool fr]):=by
 unfold jJ;rw[aAq];rfl
theorem Xj(i:Nat):jJ mP (.iface 262 (.ptr i 0)) 262 e6=eL (.tuple [.ptr i 0,.bool e6]):=by
 unfold jJ;rw[aBg];rfl
theorem dx.ai{h h':I}{i m cl:Nat}{room size:Int}{es:List (Nat×V×V)}{M:Nat->Prop}(k:dx h i m room size es cl)(j:J h h' M)(s:¬M i)(u:¬M m):dx h' i m room size es cl :=
 ⟨(j.get i k.lt s).trans k.get,(j.get m k.qJ u).trans k.map,k.ne,IS k.lt j.n,IS k.qJ j.n,k.s1,k.s2⟩
theorem arH(x:bC)(a:x.kind=7)(s:1<=x.n)(u:x.n<=1048576)(h:I):au mP 113 [.agg (ao x)] h (λr h'=>∃i,r=.tuple [.iface 259 (.ptr i 0),.int gj 0]/\J h h' kR/\∃m,h.n<=i/\h.n<=m/\dx h' i m 1024 x.n [] 0):=by
 refine a7 aBE rfl ?_;obtain⟨z,j,⟨o,m,q⟩,n⟩:=x;have a:z=7:=a;subst a;have a:ao ⟨7,j,.mk o m q,n⟩=[.int gj 7,.ag j.length (ax j),.int gj o,.int gj m,.ag q.length (q.flatMap aN),.int gj n]:=by simp[ao,l0]
 rw[a];have A:J h (h.push (.cells [.int gj 7,.ag j.length (ax j),.int gj o,.int gj m,.ag q.length (q.flatMap aN),.int gj n] 68 eN)) kR:=J.push _ _ _;simp only[ae,azH,ds,AT,By,al];refine cp (aq5 _ 1024 n (by decide) (by decide) s u) λr s ⟨az,B,C⟩=>?_;subst az;simp only[ae,ds,al,aJ];exact ar ⟨h.n+1+1,rfl,A.trans' C,h.n+1,by omega,by omega,B⟩
theorem arI(x:bC)(a:x.kind=8)(s:1<=x.n)(u:x.n<=1048576)(h:I):au mP 113 [.agg (ao x)] h (λr h'=>∃i,r=.tuple [.iface 262 (.ptr i 0),.int gj 0]/\J h h' kR/\h.n<=i/\dp h' i .ah 1024 x.n []):=by
 refine a7 aBE rfl ?_;obtain⟨z,j,⟨o,m,q⟩,n⟩:=x;have a:z=8:=a;subst a;have a:ao ⟨8,j,.mk o m q,n⟩=[.int gj 8,.ag j.length (ax j),.int gj o,.int gj m,.ag q.length (q.flatMap aN),.int gj n]:=by simp[ao,l0]
 rw[a];have A:J h (h.push (.cells [.int gj 8,.ag j.length (ax j),.int gj o,.int gj m,.ag q.length (q.flatMap aN),.int gj n] 68 eN)) kR:=J.push _ _ _;simp only[ae,azH,ds,AT,By,al];refine cp (arC 1024 n (by decide) (by decide) s u _) λr s ⟨az,bd⟩=>?_;subst az bd;simp only[ae,ds,al,aJ];exact ar ⟨_,rfl,A.trans' (J.push _ _ _),by omega,dp.new s u⟩
theorem arJ{h:I}{i m j:Nat}{a size:Int}{l:eO}(k:dx h i m a size (hW l) j)(r:Rec)(z:0<=r.t)(A:r.t<=1099511627776):Pure mP 198 [.iface 259 (.ptr i 0),.agg (aR r)] h (.int gj ((bR l (r.k,er size r.t)).getD 0)):=by
 refine Pure.val (bf.int _ _) ?_;obtain⟨q,B,s⟩:=r;refine a7 aDh rfl ?_;unfold aR;have u:J h (h.push (.cells [.int gj q,.int gj B,.int gj s] 45 eN)) kR:=J.push _ _ _;simp only[ae,ds,AT,By,reduceCtorEq,al,Xf,Xg];refine bE (aq8 _ i m j a size q s l (k.aY u) z A) ?_;simp only[ae,ds,aJ];exact ar ⟨rfl,u⟩
theorem arK{h:I}{i m u:Nat}{a size:Int}{l:eO}(k:dx h i m a size (hW l) u)(r:Rec)(n:Int)(O:0<=r.t)(Q:r.t<=1099511627776)(R:(bR l (r.k,er size r.t)).isSome=e6\/(l.length:Int)<a) :
  au mP 199 [.iface 259 (.ptr i 0),.agg (aR r),.int gj n] h (λq h'=>∃j,q=.tuple [.bh j 0 1 1,.int gj (er size r.t),.int gj 0]/\dx h' i m a size (hW (cC u l (r.k,er size r.t) n)) (fb u l (r.k,er size r.t))/\J h h' (λq=>q=m) /\
   Own h' 110 5 (.bh j 0 1 1) (aq ⟨r.k,er size r.t,er size r.t+size,n,fr⟩)/\h.n<=j):=by
 obtain⟨A,S,s⟩:=r;refine a7 aBc rfl ?_;unfold aR;obtain⟨H,hH,D,g0,nq⟩:=bU h (.cells [.int gj A,.int gj S,.int gj s] 45 eN);simp only[ae,ds,AT,By,reduceCtorEq,al,Xf,Xg];rw[<-hH];clear hH;have gB:=k.qJ;refine cp (adp H i m u a size A s n l (k.aY D) R O Q) λq T ⟨az,W,F⟩=>?_;subst az;obtain⟨C,G⟩:∃y,y=(⟨A,er size s,er size s+size,n,fr⟩:ak):=⟨_,rfl⟩;rw[<-G];have B:C.aO=er size s:=by rw[G]
 have cc:∀c:ak,(kB (aq c)).cells=eL (aq c):=λ_=>rfl;have X:∀c:ak,bD (eL 5) (aP.cells [kA gj 0,kA gj 0,kA gj 0,kA gj 0,V.bool fr] 110 eN) 0 (aq c)=eL (.cells (aq c) 110 eN):=λ_=>rfl;obtain⟨z,L,M,Y,c6⟩:=bU T (.cells (aq C) 110 eN);simp only[ae,ds,al,cc,X];rw[<-L];clear L;have Z:=Ke z C;have ld:cw (eL (eL 5)) (eL (aq C))=eL (.agg (aq C)):=rfl;have d0:cI (.cells (aq C) 110 eN) 0=eL (aq C):=rfl;have d1:cI (.cells (aq C) 110 eN) 1=eL [.int gj (er size s),.int gj C.to,.int gj C.val,.bool C.del]:=by rw[<-B];rfl
 have M3:(aq C).length=5:=rfl;have wK:=F.n;generalize bM:aq C=E at *;refine aT.cL kR [1] (.q 0 (.q 2 (.q 3 (.q 4 (.e 1 (.q 5 (.q 6 (.q 7 .done))) .stop))))) ?_;simp only[ae,bw,ds,al,Y,Z,ld,d0,d1,aJ];have N:J z (z.push (.cells E 110 eN)) kR:=J.push _ _ _;refine ar ⟨z.n,rfl,(W.aY M).aY N,((D.up).trans' F).trans' ((M.trans' N).up),Own.fz _ 1 M3 (by decide),by omega⟩
def ru(i:List ak):Int:=i.foldl (λa c=>mZ (a+c.val)) 0
theorem arM(a:List ak)(c:ak):ru (a++[c])=mZ (ru a+c.val):=by simp[ru,List.foldl_append]
theorem Xk{l:List ak}{k:Nat}{kk:aPh}(h:k<l.length):∃r,hC mP 52 (.ag l.length (l.flatMap aq)) (.int kk (k:Int))=eL (.at (aq l[k]++r)) :=
 QV jo rfl (Jt h) J7
theorem arN{h:I}{i:Nat}{v:V}{j g:Int}{l:List ak}(k:dp h i v j g l)(r:Rec):Pure mP 198 [.iface 262 (.ptr i 0),.agg (aR r)] h (.int gj (ru (x2 g l r.k r.t))):=by
 refine Pure.val (bf.int _ _) ?_;obtain⟨q,Q,s⟩:=r;refine a7 aDh rfl ?_;unfold aR;have kk:J h (h.push (.cells [.int gj q,.int gj Q,.int gj s] 45 eN)) kR:=J.push _ _ _;simp only[ae,ds,AT,By,reduceCtorEq,al,Xh,Xi,Xj];refine bE (Xa _ i v j g q s l (k.ai kk (by simp[kR]) (by simp[kR]))) ?_;have E:(x2 g l q s).length<=1024:=by
  unfold x2;split
  .exact UN (Ni g l q s) k.len
  .exact D8 _
 show _;generalize x2 g l q s=a at *;simp only[ae,ds,rl];refine aT.bG (α:=Nat) (λx f h'=>f 42=.ag a.length (a.flatMap aq)/\f 43=.int gj (a.length:Nat)/\f 5=.int gj (ru (a.take x))/\f 44=.int gj (x:Nat)/\x<=a.length/\J h h' kR) (λx=>a.length-x) 0
  ⟨rfl,rfl,rfl,rfl,D8 _,kk⟩ ?_
 rintro t f h' ⟨u,m,F,z,W,G⟩
 refine wpS ?_;by_cases A:t<a.length
 .have B:=dK t a.length;have R:=km A (by omega);obtain⟨X,C⟩:=Xk (kk:=.i64) A;have H:ru (a.take (t+1))=mZ (ru (a.take t)+a[t].val):=by rw[ayY A,arM]
  generalize a[t]=c at C H;obtain⟨L,M,N,D,O⟩:=c;simp only[ae,al,J7,aq]at C;have S:aPh.i64.wrap (ru (a.take t)+D)=ru (a.take (t+1)):=H.symm;have T:bD (eL 5) (aP.cells [kA gj 0,kA gj 0,kA gj 0,kA gj 0,V.bool fr] 110 eN) 0 [.int gj L,.int gj M,.int gj N,.int gj D,.bool O]=eL (.cells [.int gj L,.int gj M,.int gj N,.int gj D,.bool O] 110 eN):=rfl;simp only[ae,ds,AT,By,al,J7,u,m,F,z,B,C,T,S,R];exact ar ⟨t+1,⟨u,m,rfl,rfl,by omega,G.bp _⟩,by omega⟩
 .have B:=dY t a.length;simp only[ae,ds,reduceCtorEq,m,F,z,B,aJ];exact ar ⟨by rw[ajE (by omega)],G⟩
theorem arO{h:I}{i:Nat}{v:V}{g:Int}{l:List ak}(k:dp h i v 1024 g l)(r:Rec)(n:Int)(C:kK r.t=e6)(z:found g l r.k r.t≠[]\/l.length<1024) :
  au mP 199 [.iface 262 (.ptr i 0),.agg (aR r),.int gj n] h (λq h'=>∃m,q=.tuple [.ag (jD g l r.k r.t n).length ((jD g l r.k r.t n).flatMap aq),.int gj (gX g l r.k r.t n).aO,.int gj 0]/\dp h' i m 1024 g (G1 g l r.k r.t n)/\J h h' (mL i v)/\b6 h v m):=by
 obtain⟨a,D,j⟩:=r;refine a7 aBc rfl ?_;unfold aR;obtain⟨H,hH,A,_,Q⟩:=bU h (.cells [.int gj a,.int gj D,.int gj j] 45 eN);simp only[ae,ds,AT,By,reduceCtorEq,al,Xh,Xi,Xj];rw[<-hH];clear hH;refine cp (arG H i v 1024 g a j n l C (z.imp id λq=>by omega) z (k.ai A (by simp[kR]) (by simp[kR]))) λq R ⟨m,az,E,F,G⟩=>?_;subst az;have L:=Ni g l a j;have S:=k.len;have M:(jD g l a j n).length=((found g l a j).filter (nK (gX g l a j n))).length+1:=by simp[jD]
 have N:=azu (nK (gX g l a j n)) (found g l a j);have B:(jD g l a j n)[(jD g l a j n).length-1]'(by omega)=gX g l a j n:=by
  simp[jD]
 have u:aPh.i64.wrap (((jD g l a j n).length:Int)-1)=(((jD g l a j n).length-1:Nat):Int):=by rw[kp _ (by omega)];omega
 obtain⟨T,s⟩:=Xk (l:=jD g l a j n) (k:=(jD g l a j n).length-1) (kk:=.i64) (by omega);rw[B]at s;clear B M N L;have O:aq (gX g l a j n)=[.int gj (gX g l a j n).key,.int gj (gX g l a j n).aO,.int gj (gX g l a j n).to,.int gj (gX g l a j n).val,.bool (gX g l a j n).del]:=rfl;rw[O]at s;simp only[aza,aze]at s;generalize X:jD g l a j n=Y at *;simp only[ae,ds];refine aT.cL kR [] (.q 0 (.q 1 (.q 2 (.q 3 (.q 4 (.q 5 (.q 6 (.q 7 (.q 8 (.q 9 (.q 10 .done))))))))))) ?_;simp only[ae,bw,ds,By,al,rl,u,s,aJ];exact ar ⟨m,rfl,E,(A.up).trans' F,b6.later G (by omega)⟩
theorem adU(h:I)(i m q:Nat)(j size a:Int)(s:List (Nat×V×V))(k:dx h i m j size s q)(u:0<=a)(z:a<=1099511627776)(A:er size a=a) :
  Pure mP 283 [.ptr i 0,.int gj a,.int gj (a+size)] h (.bool e6):=by
 refine Pure.val (bf.bool _) ?_;refine a7 Tryz.func283 rfl ?_;have B:=k.get;have C:decide (0<=a)=true:=hO u;simp only[ae,ds,reduceCtorEq,C];refine bE (M7 h i m q j size a s k) ?_;rw[li u z,A];have D:aPh.i64.wrap (a+size)=a+size:=kp _ (by have:=k.s1;have:=k.s2;omega);have az:(a==a)=true:=by simp
 have bd:(a+size==a+size)=true:=by simp
 simp only[ae,ds,AT,By,reduceCtorEq,al,B,D,aJ];exact ar ⟨rfl,J.refl _ _⟩
theorem arP(h:I)(i m s:Nat)(a size key j val:Int)(l:eO)(k:dx h i m a size (hW l) s)(A:0<=j)(B:j<=1099511627776)(u:er size j=j)(D:(bR l (key,j)).isSome=e6\/(l.length:Int)<a) :
  au mP 280 [.ptr i 0,.agg (aq ⟨key,j,j+size,val,fr⟩)] h (λr h'=>r=.int gj 0/\dx h' i m a size (hW (cC s l (key,j) val)) (fb s l (key,j))/\J h h' (λq=>q=m)):=by
 refine a7 aEt rfl ?_;have E:(kB (aq ⟨key,j,j+size,val,fr⟩)).cells=eL [.int gj key,.int gj j,.int gj (j+size),.int gj val,.bool fr]:=rfl;simp only[ae,ds,reduceCtorEq,E];have C:J h (h.push (.cells [.int gj key,.int gj j,.int gj (j+size),.int gj val,.bool fr] 110 eN)) kR:=J.push _ _ _;have z:=k.aY C;refine bE (GZ _ i m s a size _ z) ?_;simp only[ae,ds,AT,By,reduceCtorEq,al];refine bE (adU _ i m s a size j _ z A B u) ?_;simp only[ae,ds,AT,By,reduceCtorEq,al];refine cp (adp _ i m s a size key j val l z (by rw[u];exact D) A B) λr L ⟨bd,F,G⟩=>?_;subst bd;rw[u]at *;have H:∀c:ak,bD (eL 5) (aP.cells [.int gj 0,.int gj 0,.int gj 0,.int gj 0,.bool fr] 110 eN) 0 (aq c)=eL (.cells (aq c) 110 eN):=λ_=>rfl;have cc:∀c:ak,(kB (aq c)).cells=eL (aq c):=λ_=>rfl;simp only[ae,ds,al,H,cc,aJ];exact ar ⟨rfl,F.aY (J.push _ _ _),((C.up).trans' G).bp _⟩
theorem arQ(h:I)(i m u:Nat)(s size key j:Int)(l:eO)(k:dx h i m s size (hW l) u)(N:0<=j)(O:j<=1099511627776)(Q:er size j=j)(R:(bR l (key,j)).isSome=e6) :
  au mP 280 [.ptr i 0,.agg (aq ⟨key,j,j+size,0,e6⟩)] h (λr h'=>r=.int gj 0/\dx h' i m s size (hW (gT l (key,j))) u/\J h h' (λq=>q=m)):=by
 refine a7 aEt rfl ?_;have S:(kB (aq ⟨key,j,j+size,0,e6⟩)).cells=eL [.int gj key,.int gj j,.int gj (j+size),.int gj 0,.bool e6]:=rfl;simp only[ae,ds,reduceCtorEq,S];have C:J h (h.push (.cells [.int gj key,.int gj j,.int gj (j+size),.int gj 0,.bool e6] 110 eN)) kR:=J.push _ _ _;have D:=k.aY C;refine bE (GZ _ i m u s size _ D) ?_;simp only[ae,ds,AT,By,reduceCtorEq,al];refine bE (adU _ i m u s size j _ D N O Q) ?_;have X:((0:Int) !=0)=false:=rfl;have T:∀a b:Int,(kB [.int gj a,.int gj b]).cells=eL [.int gj a,.int gj b]:=λ_ _=>rfl;simp only[ae,ds,AT,By,al,T];generalize hH:(h.push (.cells [.int gj key,.int gj j,.int gj (j+size),.int gj 0,.bool e6] 110 eN)).push (.cells [.int gj key,.int gj j] 302 eN)=H;have z:J h H kR:=by rw[<-hH];exact C.bp _
 have A:=k.aY z;have B:=A.get;have E:=A.map;have F:H.get (h.n+1)=.cells [.int gj key,.int gj j] 302 none:=by rw[<-hH];exact ac
 have G:cw (eL (eL 2)) (eL [.int gj key,.int gj j])=eL (.agg [.int gj key,.int gj j]):=rfl;have L:=lookW l key j E;rw[R]at L;have W:=M8 l key j E;refine aT.cL kR [] (.q 0 (.q 1 (.q 2 (.q 3 (.q 4 (.q 5 (.q 6 (.q 7 (.q 8 (.q 9 (.q 10 .done))))))))))) ?_;simp only[ae,bw,ds,AT,By,reduceCtorEq,al,B,F,G,L];refine aT.cL kR [5] (.q 0 (.q 1 (.q 2 (.q 3 (.q 4 (.a 5 .done)))))) ?_;simp only[ae,bw,ds,AT,By,reduceCtorEq,al,B,F,G,W,aJ];have M:J H (H.set m (.map (hW (gT l (key,j))) u)) (λq=>q=m):=J.set _ _ _;exact ar ⟨rfl,⟨(M.get i A.lt (by exact k.ne)).trans B,aM,k.ne,A.lt,A.qJ,k.s1,k.s2⟩,(z.up).trans' M⟩
def ry(a b:ak):Bool:=decide (a.aO<b.aO\/(a.aO=b.aO/\a.key<b.key))
def AE(l:List ak):Prop:=l.Pairwise λa b=>ry b a=fr
def Rx(i:V):Prop:=∀(h:I) (x:V) (l:List ak),Own h 110 5 x (l.flatMap aq)->l.length<=2^40 ->
 au mP 179 [x,i] h (λr h'=>r=.tuple []/\J h h' (bb x)/\∃a,a.Perm l/\AE a/\Own h' 110 5 x (a.flatMap aq))
abbrev Is:V:=.func (.func 180) [] []
def mM(size:Int)(e:Nat×(Int×Int)×Int):ak:=⟨e.2.1.1,e.2.1.2,e.2.1.2+size,e.2.2,fr⟩
theorem Xm{l:eO}{e:Nat×V×V}(h:e∈hW l):∃x∈l,e=(x.1,vm x.2.1,.int gj x.2.2):=by
 obtain⟨x,a,rfl⟩:=OF.1 h;exact⟨x,a,rfl⟩
theorem Xn(l:eO):(hW l).map (·.1)=l.map (·.1):=by simp[hW,dH]
theorem Nt:∀{q:eO},(q.map (·.1)).Nodup->∀{x y},x∈q->y∈q->x.1=y.1->x=y
 | [],_,x,y,j,_,_=>by cases j
 | z::q,u,x,y,j,s,e=>by
  have m:=azD.1 u;rcases IN.1 j with i|i
  .rcases IN.1 s with a|a
   .rw[i,a]
   .exact absurd (OF.2 ⟨y,a,by rw[<-e,i]⟩) m.1
  .rcases IN.1 s with a|a
   .exact absurd (OF.2 ⟨x,i,by rw[e,a]⟩) m.1
   .exact Nt m.2 i a e
theorem arR{j h:I}{e:TypeId}{sz:Nat}{v:V}{m:List V}(a:Acc j h e sz v m){i:Nat}(q:j.n<=i)(s:aS v≠eL i)(o:aP):Acc j (h.set i o) e sz v m :=
 ⟨a.own.ai (J.set _ _ _) λk u z=>s (by rw[u,z]),a.ai.kj q o,a.new⟩
theorem arS{l i:eO}(j:(l.map (·.1)).Nodup)(q:(i.map (·.1)).Nodup)(m:∀e∈i,e∈l)(s:∀e∈l,e.1∈i.map (·.1)):i.Perm l:=by
 have u:l.Nodup:=(azt.1 j).imp λh e=>h (by rw[e]);have z:i.Nodup:=(azt.1 q).imp λh e=>h (by rw[e]);rw[aA5 z u];intro a;refine⟨m a,λaW=>?_⟩;obtain⟨b,an,A⟩:=OF.1 (s a aW);have B:=m b an;rw[<-Nt j B aW A];exact an
theorem arT(Nu:Rx Is)(h:I)(i m z:Nat)(A size:Int)(l:eO)(k:dx h i m A size (hW l) z)(L:dE (hW l) z)(aB:l.length<=2^30)(aA:∀e∈l,0<=e.2.1.2/\e.2.1.2<=2^41) :
  au mP 282 [.ptr i 0] h (λr h'=>J h h' kR/\∃D,D.Perm (l.map (mM size))/\AE D/\Own h' 110 5 r (D.flatMap aq)/\(∀j,aS r=eL j->h.n<=j)):=by
 refine a7 Tryz.func282 rfl ?_;have ns:=k.get;have fe:=k.map;simp only[ae,ds,reduceCtorEq];refine bE (GZ h i m z A size _ k) ?_;obtain⟨q,W⟩:=ado;have mj:=JU W fe;simp only[ae,ds,AT,By,reduceCtorEq,al,ns,mj];refine aT.bG (α:=eO) (λs f h'=>f 0=.ptr i 0/\f 12=.ptr h.n 0/\h.n<h'.n/\h'.get h.n=.iter m z (s.map (·.1)) z/\Acc h h' 110 5 (f 3) ((s.map (mM size)).flatMap aq)/\aS (f 3)≠eL h.n/\(∀e∈s,e∈l)/\(s.map (·.1)).Nodup)
  (λs=>(nj (hW l) (s.map (·.1))).length) []
  ⟨rfl,rfl,by simp only[dn];omega,ac,Acc.nil (J.push _ _ _),(show aS V.ah≠eL h.n by simp[aS]),by simp,by simp⟩ ?_
 rintro s f h' ⟨X,C,aF,aH,u,M,N,O⟩
 refine wpS ?_;have bx:=k.aY u.ai;simp only[ae,C];refine JS aH bx.map L (λiH=>?_) λe B=>?_
 .have dt:∀e∈l,e.1∈s.map (·.1):=λe B=>by
   apply Classical.byContradiction;intro lO;have:(e.1,vm e.2.1,kA gj e.2.2)∈nj (hW l) (s.map (·.1)):=by
    unfold nj;exact ajA.2 ⟨OF.2 ⟨e,B,rfl⟩,by simpa using lO⟩
   rw[iH]at this;simp at this
  have Y:s.Perm l:=arS (by rw[<-Xn];exact L.2) O N dt;have k6:=Y.length_eq;simp only[ae,ds];refine cp (Nu h' (f 3) (s.map (mM size)) u.own (by rw[ajD];omega)) λr ad ⟨az,Q,D,pl,lx,R⟩=>?_;subst az;simp only[ae,ds,aJ];refine ar ⟨u.ai.trans Q λq W e=>by have:=u.new q e;omega,D,pl.trans (Y.map _),lx,R,u.new⟩
 .obtain⟨x,S,rfl⟩:=Xm (ajA.1 B).1;have Z:x.1∉s.map (·.1):=by
   have:=(ajA.1 B).2;simpa using this
  have E:=Lr B;generalize hH:h'.set h.n (.iter m z (s.map (·.1)++[x.1]) z)=H;have vX:Acc h H 110 5 (f 3) ((s.map (mM size)).flatMap aq):=by rw[<-hH];exact arR u (BY _) M _
  have hx:H.n=h'.n:=by rw[<-hH];rfl
  have je:H.get h.n=.iter m z (s.map (·.1)++[x.1]) z:=by rw[<-hH];exact aM
  have Q:=k.aY vX.ai;have sb:=JT je Q.map L (ajA.1 B).1;obtain⟨Nv,Nw⟩:=aA x S;have av:s.length<l.length:=by
   have eh:((s++[x]).map (·.1)).Nodup:=by
    rw[ay1,aAw];exact⟨O,by simp,λa aW b an=>by simp at an;subst an;exact λU=>Z (U▸aW)⟩
   have c6:(s++[x]).Nodup:=(azt.1 eh).imp λh e=>h (by rw[e]);have:=c6.length_le_of_subset (l₂:=l) λe B=>by
    rcases axE.1 B with h|h
    .exact N e h
    .simp at h;subst h;exact S
   rw[D9]at this;simp at this;omega
  have Ay:(vm x.2.1).cells=eL [.int gj x.2.1.1,.int gj x.2.1.2]:=rfl;have w4:cw (eL (eL 2)) (eL [.int gj x.2.1.1,.int gj x.2.1.2])=eL (.agg [.int gj x.2.1.1,.int gj x.2.1.2]):=rfl;simp only[ae,ds,AT,reduceCtorEq,al,X,C,sb,Ay,w4];have F:=vX.on (J.push H (.cells [.int gj x.2.1.1,.int gj x.2.1.2] 302 eN) kR);have vY:(H.push (.cells [.int gj x.2.1.1,.int gj x.2.1.2] 302 eN)).get h.n=.iter m z (s.map (·.1)++[x.1]) z:=(iZ (by omega)).trans je;have Ry:(H.push (.cells [.int gj x.2.1.1,.int gj x.2.1.2] 302 eN)).n=H.n+1:=rfl;generalize H.push (.cells [.int gj x.2.1.1,.int gj x.2.1.2] 302 eN)=Nx at F vY Ry⊢;have k3:=k.aY F.ai;refine bE (adn Nx i m z A size x.2.1.1 x.2.1.2 x.2.2 _ k3 Nv Nw) ?_;obtain⟨b3,ad,dr,R,T,d2⟩:=Gy (P:=mP) Ag (by decide) F.own (xs:=aq (mM size x)) rfl rfl (λm hm=>by
   change m*5=_+5 at hm;rw[ft jo,ajD]at hm;exact⟨by simp only[lim];omega,by simp only[lim];omega⟩)
  have eY:=Rp Nx (mM size x);have a2:=F.step R T d2;have g2:=(T.get h.n (by omega) (λU=>M U)).trans vY;have c6:=T.n;have G7:aS b3≠eL h.n:=λU=>by
   rcases d2 with d|d
   .exact M (d▸U)
   .have:=d _ U;omega
  unfold mM at eY dr;simp only[ae,ds,eY,dr];refine ar ⟨s++[x],⟨X,C,by omega,by rw[g2];simp,a2.conv ?_,G7,?_,?_⟩,?_⟩
  .simp
  .intro e B;rcases axE.1 B with G|G
   .exact N e G
   .simp at G;subst G;exact S
  .rw[ay1,aAw];exact⟨O,by simp,λa aW b an=>by simp at an;subst an;exact λU=>Z (U▸aW)⟩
  .rw[ay1];exact E
def ml(size a:Int)(e:Nat×(Int×Int)×Int):Bool:=decide (e.2.1.2+size<=a)
def BT(size:Int)(e:Nat×(Int×Int)×Int):ak:=⟨e.2.1.1,e.2.1.2,e.2.1.2+size,0,e6⟩
def rz(size a:Int)(l i:eO):eO:=l.filter λe=>!(ml size a e&&(i.map (·.1)).contains e.1)
theorem adW:∀{l:eO},de l->∀k,gT l k=l.filter λe=>decide (e.2.1≠k)
 | [],_,k=>rfl
 | e::l,j,k=>by
  have i:=azD.1 j;unfold gT;by_cases a:k=e.2.1
  .rw[gr a,azZ (by simp[a])];symm;rw[aAn];intro y m;simp only[ig];exact λU=>i.1 (OF.2 ⟨y,m,by rw[U,a]⟩)
  .rw[gQ a,az6 (by simp[Ne.symm a]),adW i.2]
theorem key_inj:∀{q:eO},de q->∀{x y},x∈q->y∈q->x.2.1=y.2.1->x=y
 | [],_,x,y,j,_,_=>by cases j
 | z::q,u,x,y,j,s,e=>by
  have m:=azD.1 u;rcases IN.1 j with i|i
  .rcases IN.1 s with a|a
   .rw[i,a]
   .exact absurd (OF.2 ⟨y,a,by rw[<-e,i]⟩) m.1
  .rcases IN.1 s with a|a
   .exact absurd (OF.2 ⟨x,i,by rw[e,a]⟩) m.1
   .exact key_inj m.2 i a e
theorem adX{a:eO}{x e:Nat×(Int×Int)×Int}(h:e.1≠x.1):((a++[x]).map (·.1)).contains e.1=(a.map (·.1)).contains e.1:=by
 rw[ay2,aAN,aAN,ay1,axE];simp[h]
theorem arU{size a:Int}{l j:eO}{x:Nat×(Int×Int)×Int}(m:de l)(u:(l.map (·.1)).Nodup)(q:x∈l)(z:ml size a x=e6):gT (rz size a l j) x.2.1=rz size a l (j++[x]):=by
 unfold rz;rw[adW (List.Nodup.sublist ((az8).map _) m),aAh];apply azy;intro e s;by_cases i:e=x
 .subst i;simp[z]
 .have A:e.2.1≠x.2.1:=λU=>i (key_inj m s q U);have B:e.1≠x.1:=λU=>i (Nt u s q U);rw[adX B];simp[A]
theorem arV{size a:Int}{l j:eO}{x:Nat×(Int×Int)×Int}(m:(l.map (·.1)).Nodup)(q:x∈l)(s:ml size a x=fr):rz size a l j=rz size a l (j++[x]):=by
 unfold rz;apply azy;intro e u;by_cases i:e=x
 .subst i;simp[s]
 .have z:e.1≠x.1:=λU=>i (Nt m u q U);rw[adX z]
theorem arW{size a:Int}{l i:eO}(z:(l.map (·.1)).Nodup)(u:∀e∈rz size a l i,e.1∈i.map (·.1)):rz size a l i=l.filter (λe=>!ml size a e)/\∀e∈l,ml size a e=e6->e.1∈i.map (·.1):=by
 have q:∀e∈l,ml size a e=e6->e.1∈i.map (·.1):=λe j m=>by
  apply Classical.byContradiction;intro s;have aw:(i.map (·.1)).contains e.1=false:=by simpa using s
  exact s (u e (ajA.2 ⟨j,by rw[m,aw];rfl⟩))
 refine⟨?_,q⟩;unfold rz;apply azy;intro e j;cases m:ml size a e
 .rfl
 .have aw:(i.map (·.1)).contains e.1=true:=by simpa using q e j m
  rw[aw];rfl
theorem arX{size before:Int}{l i:eO}(m:(l.map (·.1)).Nodup)(s:(i.map (·.1)).Nodup)(q:∀e∈i,e∈l)(u:∀e∈l,ml size before e=e6->e.1∈i.map (·.1)):(i.filter (ml size before)).Perm (l.filter (ml size before)):=by
 have z:l.Nodup:=(azt.1 m).imp λh e=>h (by rw[e]);have A:i.Nodup:=(azt.1 s).imp λh e=>h (by rw[e]);rw[aA5 (A.sublist az8) (z.sublist az8)];intro a;simp only[ajA];refine⟨λ⟨aW,j⟩=>⟨q a aW,j⟩,λ⟨aW,j⟩=>⟨?_,j⟩⟩;obtain⟨b,an,B⟩:=OF.1 (u a aW j);rw[<-Nt m (q b an) aW B];exact an
theorem arY(h:I)(i m u:Nat)(j size key s:Int)(z:List (Nat×V×V))(k:dx h i m j size z u)(G:0<=s)(H:s<=2^41):Pure mP 178 [.ptr i 0,BQ key s] h (.agg (aq ⟨key,s,s+size,0,e6⟩)):=by
 refine Pure.val (bf.agg (za _)) ?_;refine a7 Tryz.func178 rfl ?_;have C:=k.get;have D:=k.lt;have E:∀A B,((h.push A).push B).get i=.cells [.int gj j,.int gj size,.map m] 287 none:=λA B=>(iZ (by simp only[dn];omega)).trans ((iZ D).trans C);have F:aPh.i64.wrap (s+size)=s+size:=kp _ (by have:=k.s1;have:=k.s2;omega);simp only[ae,al,adm];refine aT.cL kR [12] (.q 0 (.q 1 (.q 2 (.q 3 (.q 4 (.q 5 (.q 6 (.q 7 (.q 8 (.q 9 (.q 10 (.q 11 (.a 12 .done))))))))))))) ?_;simp only[ae,bw,ds,AT,By,reduceCtorEq,al,E,F,aJ];exact ar ⟨rfl,(J.push _ _ _).bp _⟩
theorem arZ(Nu:Rx Is)(h:I)(i m B:Nat)(z size s:Int)(l:eO)(k:dx h i m z size (hW l) B)(aa:dE (hW l) B)(tI:de l)(aB:l.length<=2^30)(aA:∀e∈l,0<=e.2.1.2/\e.2.1.2<=2^41) :
  au mP 157 [.ptr i 0,.int gj s] h (λr h'=>J h h' (λq=>q=m)/\dx h' i m z size (hW (l.filter λe=>!ml size s e)) B /\
   ∃Q,Q.Perm ((l.filter (ml size s)).map (BT size))/\AE Q/\Own h' 110 5 r (Q.flatMap aq)/\(∀j,aS r=eL j->h.n<=j)):=by
 refine a7 Tryz.func157 rfl ?_;have ns:=k.get;have fe:=k.map;have R:(l.map (·.1)).Nodup:=by rw[<-Xn];exact aa.2
 simp only[ae,ds,reduceCtorEq];refine bE (GZ h i m B z size _ k) ?_;obtain⟨q,ab⟩:=ado;have mj:=JU ab fe;simp only[ae,ds,AT,By,reduceCtorEq,al,ns,mj];have Kh:=k.lt;have qJ:=k.qJ;refine aT.bG (α:=eO) (λu f h'=>f 0=.ptr i 0/\f 1=.int gj s/\f 13=.ptr h.n 0/\h.n<h'.n/\h'.get h.n=.iter m B (u.map (·.1)) B/\J h h' (λq=>q=m)/\dx h' i m z size (hW (rz size s l u)) B /\
   Own h' 110 5 (f 5) (((u.filter (ml size s)).map (BT size)).flatMap aq)/\(∀j,aS (f 5)=eL j->h.n<=j)/\aS (f 5)≠eL h.n/\(∀e∈u,e∈l)/\(u.map (·.1)).Nodup)
  (λu=>l.length-u.length) []
  ⟨rfl,rfl,rfl,by simp only[dn];omega,ac,J.push _ _ _,by
   have:rz size s l []=l:=by unfold rz;simp
   rw[this];exact k.aY (J.push _ _ _),Own.ah _ _ _,(show ∀j,aS V.ah=eL j->h.n<=j by simp[aS]),(show aS V.ah≠eL h.n by simp[aS]),by simp,by simp⟩ ?_
 rintro u f h' ⟨S,f1,E,aF,aH,bT,C,ow,T,dm,lQ,qV⟩
 refine wpS ?_;have pg:(rz size s l u).Sublist l:=az8;have Tt:dE (hW (rz size s l u)) B:=by
  refine⟨λe F=>?_,?_⟩
  .obtain⟨x,M,rfl⟩:=Xm F;exact aa.1 _ (OF.2 ⟨x,pg.subset M,rfl⟩)
  .rw[Xn];exact R.sublist (pg.map _)
 simp only[ae,E];refine JS aH C.map Tt (λiH=>?_) λe F=>?_
 .have dt:∀e∈rz size s l u,e.1∈u.map (·.1):=λe F=>by
   apply Classical.byContradiction;intro lO;have:(e.1,vm e.2.1,kA gj e.2.2)∈nj (hW (rz size s l u)) (u.map (·.1)):=by
    unfold nj;exact ajA.2 ⟨OF.2 ⟨e,F,rfl⟩,by simpa using lO⟩
   rw[iH]at this;simp at this
  obtain⟨av,Io⟩:=arW R dt;have aX:=arX (size:=size) (before:=s) R qV lQ Io;have k6:=aX.length_eq;have lN:=(az8 (p:=ml size s) (l:=l)).length_le;simp only[ae,ds];refine cp (Nu h' (f 5) _ ow (by rw[ajD];omega)) λr W ⟨az,k2,Q,pl,lx,ec⟩=>?_;subst az;simp only[ae,ds,aJ];have L:∀j,bb (f 5) j->h.n<=j:=λj D=>T j D;refine ar ⟨bT.trans k2 λq ab e=>by have:=L q e;omega,?_,Q,pl.trans (aX.map _),lx,ec,T⟩;rw[<-av];have c6:=k2.n;exact⟨(k2.get i C.lt (λe=>by have:=L i e;omega)).trans C.get,(k2.get m C.qJ (λe=>by have:=L m e;omega)).trans C.map,k.ne,by have:=C.lt;omega,by have:=C.qJ;omega,k.s1,k.s2⟩
 .obtain⟨x,pz,rfl⟩:=Xm (ajA.1 F).1;have M:=pg.subset pz;have ta:x.1∉u.map (·.1):=by
   have:=(ajA.1 F).2;simpa using this
  generalize hH:h'.set h.n (.iter m B (u.map (·.1)++[x.1]) B)=H;have Xo:J h' H (λq=>q=h.n):=by rw[<-hH];exact J.set _ _ _
  have Tu:J h H (λq=>q=m):=by rw[<-hH];exact bT.kj (BY _) _
  have hx:H.n=h'.n:=by rw[<-hH];rfl
  have je:H.get h.n=.iter m B (u.map (·.1)++[x.1]) B:=by rw[<-hH];exact aM
  have X:dx H i m z size (hW (rz size s l u)) B:=⟨(Xo.get i C.lt (by omega)).trans C.get,(Xo.get m C.qJ (by omega)).trans C.map,k.ne,by have:=C.lt;omega,by have:=C.qJ;omega,k.s1,k.s2⟩;have eT:Own H 110 5 (f 5) (((u.filter (ml size s)).map (BT size)).flatMap aq):=ow.ai Xo λj D e=>dm (by rw[D,e]);have sb:=JT je X.map Tt (ajA.1 F).1;obtain⟨Nv,Nw⟩:=aA x M;have eh:((u++[x]).map (·.1)).Nodup:=by
   rw[ay1,aAw];exact⟨qV,by simp,λa aW b an=>by simp at an;subst an;exact λU=>ta (U▸aW)⟩
  have vZ:∀e∈u++[x],e∈l:=λe F=>by
   rcases axE.1 F with h|h
   .exact lQ e h
   .simp at h;subst h;exact M
  have aC:u.length<l.length:=by
   have c6:(u++[x]).Nodup:=(azt.1 eh).imp λh e=>h (by rw[e]);have:=c6.length_le_of_subset (l₂:=l) vZ;rw[D9]at this;simp at this;omega
  have yC:=X.get;have Ay:(vm x.2.1).cells=eL [.int gj x.2.1.1,.int gj x.2.1.2]:=rfl;have w4:cw (eL (eL 2)) (eL [.int gj x.2.1.1,.int gj x.2.1.2])=eL (.agg [.int gj x.2.1.1,.int gj x.2.1.2]):=rfl;have hw:aPh.i64.wrap (x.2.1.2+size)=x.2.1.2+size:=kp _ (by have:=k.s1;have:=k.s2;omega);simp only[ae,ds,AT,al,E,sb,Ay];have vj:∀A,(H.push A).get i=.cells [.int gj z,.int gj size,.map m] 287 none:=λA=>(iZ X.lt).trans yC;have pC:ml size s x=decide (x.2.1.2+size<=s):=rfl;cases N:ml size s x
  .have d1:decide (x.2.1.2+size<=s)=false:=(by rw[<-pC,N]);refine aT.cL kR [] (.q 0 (.q 1 (.q 2 (.q 3 (.q 4 (.q 5 (.q 6 (.q 7 (.q 8 .done))))))))) ?_;simp only[ae,bw,ds,AT,By,reduceCtorEq,al,S,f1,vj,hw,d1];refine ar ⟨u++[x],⟨S,f1,E,by simp only[dn];omega,(iZ (by omega)).trans (by rw[je];simp),Tu.bp _,?_,?_,T,dm,vZ,eh⟩,by simp only[D9,axF,ayx];omega⟩
   .rw[<-arV R M N];exact X.aY (J.push _ _ _)
   .rw[az0,azZ (by simp[N]),aDo,axA];exact eT.aY (J.push _ _ _)
  .have d1:decide (x.2.1.2+size<=s)=true:=(by rw[<-pC,N]);refine aT.cL kR [] (.q 0 (.q 1 (.q 2 (.q 3 (.q 4 (.q 5 (.q 6 (.q 7 (.q 8 .done))))))))) ?_;simp only[ae,bw,ds,AT,By,reduceCtorEq,al,S,f1,vj,hw,d1];have hc:=Tu.bp (.cells [.int gj x.2.1.1,.int gj x.2.1.2] 302 eN);have vY:(H.push (.cells [.int gj x.2.1.1,.int gj x.2.1.2] 302 eN)).get h.n=.iter m B (u.map (·.1)++[x.1]) B:=(iZ (by omega)).trans je;have Tv:(H.push (.cells [.int gj x.2.1.1,.int gj x.2.1.2] 302 eN)).get H.n=.cells [.int gj x.2.1.1,.int gj x.2.1.2] 302 none:=ac;have Ry:(H.push (.cells [.int gj x.2.1.1,.int gj x.2.1.2] 302 eN)).n=H.n+1:=rfl;have G:=X.aY (J.push H (.cells [.int gj x.2.1.1,.int gj x.2.1.2] 302 eN) kR);have h6:=eT.aY (J.push H (.cells [.int gj x.2.1.1,.int gj x.2.1.2] 302 eN) kR);generalize H.push (.cells [.int gj x.2.1.1,.int gj x.2.1.2] 302 eN)=Nx at hc vY Tv Ry G h6⊢;refine bE (arY Nx i m B z size x.2.1.1 x.2.1.2 _ G Nv Nw) ?_;have aD:=(az8 (p:=ml size s) (l:=u)).length_le;obtain⟨b3,W,dr,ec,O,d2⟩:=Gy (P:=mP) Ag (by decide) h6 (xs:=aq (BT size x)) rfl rfl (λm hm=>by
    change m*5=_+5 at hm;rw[ft jo,ajD]at hm;exact⟨by simp only[lim];omega,by simp only[lim];omega⟩)
   have L:∀j,bb (f 5) j->h.n<=j:=λj D=>T j D;have g2:=(O.get h.n (by omega) (λU=>dm U)).trans vY;have Ny:=(O.get H.n (by omega) (λU=>by have:=eT.lt _ U;omega)).trans Tv;have c6:=O.n;have G7:aS b3≠eL h.n:=λU=>by
    rcases d2 with d|d
    .exact dm (d▸U)
    .have:=d _ U;omega
   have Nz:∀j,aS b3=eL j->h.n<=j:=λj D=>by
    rcases d2 with d|d
    .exact T j (d▸D)
    .have:=d _ D;omega
   have Y:dx W i m z size (hW (rz size s l u)) B:=⟨(O.get i G.lt (λe=>by have:=L i e;omega)).trans G.get,(O.get m G.qJ (λe=>by have:=L m e;omega)).trans G.map,k.ne,by have:=G.lt;omega,by have:=G.qJ;omega,k.s1,k.s2⟩;have Tw:=Y.get;have eY:=Rp Nx (BT size x);have w6:=M8 _ x.2.1.1 x.2.1.2 Y.map;unfold BT at eY dr;simp only[ae,ds,eY,dr];refine aT.cL kR [5] (.q 0 (.q 1 (.q 2 (.q 3 (.q 4 (.a 5 .done)))))) ?_;simp only[ae,bw,ds,AT,By,reduceCtorEq,al,S,Tw,Ny,w4,w6];have Z:J W (W.set m (.map (hW (gT (rz size s l u) (x.2.1.1,x.2.1.2))) B)) (λq=>q=m):=J.set _ _ _;have eE:gT (rz size s l u) (x.2.1.1,x.2.1.2)=rz size s l (u++[x]):=arU tI R M N;refine ar ⟨u++[x],⟨S,f1,E,by show h.n<W.n;omega,(Z.get h.n (by omega) (by omega)).trans (by rw[g2];simp),(hc.trans O λq ab e=>by have:=L q e;omega).trans' Z,?_,?_,Nz,G7,vZ,eh⟩,by simp only[D9,axF,ayx];omega⟩
   .rw[eE]at Z⊢;exact⟨(Z.get i Y.lt (by exact k.ne)).trans Tw,aM,k.ne,Y.lt,Y.qJ,k.s1,k.s2⟩
   .rw[az0,az6 (by simp[N]),aDo,ay1,ay3];have iS:=ec.ai Z λj D e=>by have:=Nz j D;omega
    rw[show List.flatMap aq (List.map (BT size) [x])=aq (BT size x)by simp];exact iS
def sc(c:ak):Int×Int:=(c.key,c.aO)
theorem ar0{a b:ak}(h:sc a≠sc b)(i:ry b a=fr):ry a b=true:=by
 unfold ry at *;simp only[hS,ig]at *;have:¬(a.key=b.key/\a.aO=b.aO):=λe=>h (Prod.ext e.1 e.2);omega
theorem adY:∀{a b:List ak},a.Perm b->AE a->AE b->(a.map sc).Nodup->a=b
 | [],b,i,_,_,_=>(List.nil_perm.1 i).symm
 | x::a,b,i,aW,an,B=>by
  cases b with
  | nil=>exact absurd (List.perm_nil.1 i) (by simp)
  | cons y b=>
   have m:=azD.1 B;have q:=ayA.1 aW;have s:=ayA.1 an;have j:x=y:=by
    apply Classical.byContradiction;intro u;have z:y∈a:=by
     rcases IN.1 (i.symm.subset (aDp (a:=y) (l:=b)))with h|h
     .exact absurd h.symm u
     .exact h
    have C:x∈b:=by
     rcases IN.1 (i.subset (aDp (a:=x) (l:=a)))with h|h
     .exact absurd h u
     .exact h
    have D:=q.1 y z;have A:=s.1 x C;have E:sc x≠sc y:=λe=>m.1 (OF.2 ⟨y,z,e.symm⟩);have F:=ar0 E D;rw[F]at A;cases A
   subst j;rw[adY (aA4.cons_inv i) q.2 s.2 m.2]
theorem ar1(z:Rx Is)(h:I)(i m u:Nat)(a size:Int)(l:eO)(k:dx h i m a size (hW l) u)(A:dE (hW l) u)(B:l.length<=2^30)(C:∀e∈l,0<=e.2.1.2/\e.2.1.2<=2^41) :
  au mP 282 [.ptr i 0] h (λr h'=>J h h' kR/\∃j,j.Perm (l.map (mM size))/\AE j/\r=.ag j.length (j.flatMap aq)) :=
 au.cast ((arT z h i m u a size l k A B C).mono λr h' ⟨D,j,p,s,o,E⟩=>by
  obtain⟨F,c,G⟩:=aK.own o (n:=j.length) (ft jo _) (by decide);exact⟨_,F,c,D.trans G λq H e=>by have:=E q e;omega,j,p,s,rfl⟩)
structure ad0(h:I)(i m:Nat)(n:Int)(l:eO)(cl:Nat):Prop where
 k:dx h i m 1024 n (hW l) cl
 st:dE (hW l) cl
 x4:de l
 aO:∀e∈l,0<=e.2.1.2/\e.2.1.2<=2^41
theorem Xp:∀{l:eO} {i:Nat} {k:Int×Int} {a:Int} {e:Nat×(Int×Int)×Int},e∈cC i l k a->e.2.1=k\/e∈l
 | [],i,k,a,e,h=>by simp[cC]at h;exact .inl (by rw[h])
 | x::l,i,k,a,e,h=>by
  unfold cC at h;split at h
  .rcases IN.1 h with rfl|h
   .exact .inl rfl
   .exact .inr (aAH _ h)
  .rcases IN.1 h with rfl|h
   .exact .inr aDp
   .rcases Xp h with h|h
    .exact .inl h
    .exact .inr (aAH _ h)
theorem ar2(h:I)(n:Int):aK (.tuple [.ah,.int gj n]) h (.tuple [.ag 0 [],.int gj n]) h:=aK.tuple (aE.cons (aK.lI h) (aE.refl _ _))
theorem ar3{h:I}{s:V}{i:List ak}(o:Own h 308 3 s (i.flatMap bL))(E:i.length<=2^40)(c:ak) :
  ∃a h',kd mP 288 288 s (.bh h.n 0 1 1) (h.push (.cells (bL c) 308 eN))=eL (a,h')/\Own h' 308 3 a ((i++[c]).flatMap bL)/\J h h' (bb s)/\b6 h s a:=by
 have j:J h (h.push (.cells (bL c) 308 eN)) kR:=J.push _ _ _;have u:Own (h.push (.cells (bL c) 308 eN)) 308 3 (.bh h.n 0 1 1) (bL c):=Own.fz (bL c) 1 rfl (by decide);have z:=uc (P:=mP) (t:=288) uh u (n:=1) rfl (by decide) (Rt c);obtain⟨a,h',A,B,C,D⟩:=be (P:=mP) (t:=288) (tx:=288) y8 (by decide) (o.aY j) z rfl (λm q=>by
  change m*3=_+3 at q;rw[ft vV]at q;exact⟨by simp only[lim];omega,by simp only[lim];omega⟩)
 refine⟨a,h',A,?_,(j.up).trans' C,b6.after D j.n⟩;rw[ay3];simpa using B
def ended(g t:Int)(x:ak):Bool:=decide (x.to+g<=t)
theorem ad1(q:ak->Bool)(a:List ak)(p:ak):(a++[p]).filter q=a.filter q++(if q p=e6 then [p]else []):=by
 rw[az0];cases h:q p<;>simp[h]
theorem ar4(h:I)(i:Nat)(v:V)(m g time:Int)(l:List ak)(k:dp h i v m g l) :
  au mP 158 [.ptr i 0,.int gj time] h (λr h'=>∃v',Own h' 110 5 r (((l.filter (ended g time)).map jd).flatMap aq)/\(∀j,aS r=eL j->h.n<=j/\aS v'≠eL j)/\dp h' i v' m g (l.filter λx=>!ended g time x)/\J h h' (mL i v)/\b6 h v v'):=by
 refine a7 Tryz.func158 rfl ?_;have ay:=k.get;have ko:=k.rq h;have Im:=k.len;have b7:=k.lt;simp only[ae,ds,AT,By,reduceCtorEq,al,ay,ko];refine aT.bG (α:=Nat×V×V) (λx f h'=>f 0=.ptr i 0/\f 1=.int gj time/\f 5=x.2.1/\f 6=x.2.2/\f 14=v/\f 15=.int gj (l.length:Nat)/\f 16=.int gj (x.1:Nat)/\x.1<=l.length/\J h h' kR /\
   Own h' 110 5 x.2.1 ((((l.take x.1).filter (ended g time)).map jd).flatMap aq)/\Own h' 308 3 x.2.2 (((l.take x.1).filter λy=>!ended g time y).flatMap bL) /\
   (∀j,aS x.2.1=eL j->h.n<=j/\aS x.2.2≠eL j)/\(∀j,aS x.2.2=eL j->h.n<=j)) (λx=>l.length-x.1) (0,.ah,.ah)
  ⟨rfl,rfl,rfl,rfl,rfl,rfl,rfl,D8 _,J.refl _ _,Own.ah _ _ _,Own.ah _ _ _,by simp[aS],by simp[aS]⟩ ?_
 rintro⟨t,a,b⟩ f R ⟨M,S,T,W,F,A,z,bA,N,X,L,B,G⟩
 simp only at T W z bA X L B G;refine wpS ?_;by_cases O:t<l.length
 .have d1:=dK t l.length;have hw:=km O (by omega);have Y:=k.aY N;have aX:l[t]?=eL l[t]:=Jt O;have lP:l.take (t+1)=l.take t++[l[t]]:=ayY O;have D:=ad1 (ended g time) (l.take t) l[t];have E:=ad1 (λy=>!ended g time y) (l.take t) l[t];rw[<-lP]at D E;generalize l[t]=p at aX lP D E;obtain⟨j,r,b0,eU,zb,x0,_⟩:=x1 Y.own aX;have Q:=k.ok p (azc aX);have ld:=Nh p r;have vR:=Km p;have il:=Kk p;have st:=Kl p;obtain⟨H,hH,Z,j2,_⟩:=bU R (.cells (bL p) 308 eN);have gk:=(Y.aY Z).get;have NA:=X.aY Z;have NB:=L.aY Z;have ji:=N.trans' Z;have bY:aPh.i64.wrap (p.to+g)=p.to+g:=kp _ (by have:=Q.lo;have:=Q.le;have:=Q.hi;have:=k.g1;have:=k.g2;omega);simp only[ae,ds,al,F,A,z,d1,b0,x0,ld,vR,st];rw[<-hH];clear hH;refine aT.cL kR [] (.q 0 (.c 1 (.q 2 (.q 3 (.q 4 (.q 5 (.q 6 (.q 7 (.q 8 .done))))))))) ?_;simp only[ae,bw,ds,al,j2,il];refine gh rfl rfl rfl (λh' _=>G3 p Q h') ?_;cases e:decide (p.to+g<=time)
  .have eB:ended g time p=false:=e;rw[eB]at D E;simp only[azf,iC,axA,aA7,jS]at D E;obtain⟨da,br,dr,mK,C,u⟩:=ar3 NB (by have:=azu (λy=>!ended g time y) (l.take t);have:=aBf t l;omega) p;have eY:=adF H p;simp only[ae,bw,ds,AT,By,reduceCtorEq,al,M,S,W,z,j2,gk,bY,e,il,eY,dr,hw];refine ar ⟨(t+1,a,da),⟨M,S,T,rfl,F,A,rfl,O,ji.trans C λq s U=>by have:=G q U;omega,by simp only;rw[D];exact NA.ai C λq s U=>(B q s).2 U,by simp only;rw[E];exact mK,λq s=>⟨(B q s).1,λU=>?_⟩,λq s=>?_⟩,by simp only;omega⟩
   .rcases u with u|u
    .rw[u]at U;exact(B q s).2 U
    .have:=u q U;have:=NA.lt q s;omega
   .rcases u with u|u
    .exact G q (by rw[<-u];exact s)
    .have:=u q s;have:=ji.n;omega
  .have eB:ended g time p=true:=e;rw[eB]at D E;simp only[Bool.not_true,azf,iC,axA,jS]at D E;obtain⟨jK,br,dr,mK,C,u⟩:=Rw NA (by simp only[ajD];have:=azu (ended g time) (l.take t);have:=aBf t l;omega) (jd p);have eY:=Kj H (jd p);simp only[ae,bw,ds,AT,By,reduceCtorEq,al,M,S,T,j2,gk,bY,e,il];refine bE (W4 p Q _) ?_;simp only[ae,ds,z,eY,dr,hw];refine ar ⟨(t+1,jK,b),⟨M,S,rfl,W,F,A,rfl,O,ji.trans C λq s U=>by have:=(B q U).1;omega,by simp only;rw[D,ay1];exact mK,by simp only;rw[E];exact NB.ai C λq s U=>(B q U).2 s,λq s=>?_,G⟩,by simp only;omega⟩;rcases u with u|u
   .exact B q (by rw[<-u];exact s)
   .exact⟨by have:=u q s;have:=ji.n;omega,λU=>by have:=u q s;have:=NB.lt q U;omega⟩
 .have d1:=dY t l.length;rw[ajE (by omega)]at X L;have gk:=(k.aY N).get;have j5:b.one=true:=by
   rcases L with⟨rfl|rfl,_⟩|⟨_,_,_,_,_,rfl,_⟩<;>rfl
  have h5:b.cells=eL [b]:=by
   rcases L with⟨rfl|rfl,_⟩|⟨_,_,_,_,_,rfl,_⟩<;>rfl
  have dI:bD (eL 1) (aP.cells [kA gj m,kA gj g,v] 290 eN) 2 [b]=eL (.cells [.int gj m,.int gj g,b] 290 eN):=by rw[rb j5];rfl
  simp only[ae,ds,reduceCtorEq,al,M,T,W,A,z,d1,gk,h5,dI,aJ];have C:J R (R.set i (.cells [kA gj m,kA gj g,b] 290 eN)) (λq=>q=i):=J.set _ _ _;have Ey:aS b≠eL i:=λU=>by have:=G i U;omega
  have af:=N.n;have aa:=X.ai C λq s U=>by have:=(B q s).1;omega
  have ad:=L.ai C λq s U=>by have:=G q s;omega
  have Y:dp (R.set i (.cells [kA gj m,kA gj g,b] 290 eN)) i b m g (l.filter λx=>!ended g time x) :=
   ⟨by rw[jM];omega,aM,ad,Ey,k.kJ.filter _,λy bg=>k.ok y (ajA.1 bg).1,UN (azu ..) Im,k.g1,k.g2⟩
  refine ar ⟨b,aa,B,Y,?_,.inr λq s=>G q s⟩;exact(N.up (o:=mL i v)).trans C λq s U=>.inl U
theorem ar6{l:List ak}{x y:ak}(h:gE x y=e6):df l x=df l y:=by
 obtain⟨a,i,j⟩:=nt.1 h;unfold df gE;rw[a,i,j]
theorem ar7{l:List ak}{x y:ak}(h:gE x y=e6):fI l x=fI l y:=by
 obtain⟨a,i,j⟩:=nt.1 h;unfold fI gE;rw[a,i,j]
theorem ar8(h:I)(i:Nat)(v:V)(a g:Int)(l:List ak)(x:ak)(m:kW x)(U:df l x=e6)(k:dp h i v a g l) :
  au mP 284 [.ptr i 0,.agg (aq (jd x))] h (λr h'=>∃C,r=.int gj 0/\dp h' i C a g (fI l x)/\J h h' (mL i v)/\b6 h v C):=by
 refine a7 aEu rfl ?_;have cc:=Nl (jd x);have D:azE 1 (aq (jd x))=[.int gj x.aO,.int gj x.to,.int gj 0,.bool e6]:=rfl;have E:azE 2 (aq (jd x))=[.int gj x.to,.int gj 0,.bool e6]:=rfl;have T:azE 3 (aq (jd x))=[.int gj 0,.bool e6]:=rfl;have F:azE 4 (aq (jd x))=[.bool e6]:=rfl;have il:=Nk (jd x);have G:=m.lo;have W:=m.le;have L:=m.hi;have X:kK x.aO=true:=Ki.2 ⟨G,by omega⟩;have Y:kK x.to=true:=Ki.2 ⟨by omega,L⟩;have Z:decide (x.to<x.aO)=false:=hK (by omega);have b7:=k.lt;obtain⟨y,q⟩:∃y:ak,y=⟨x.key,x.aO,x.to,0,fr⟩:=⟨_,rfl⟩;have M:kW y:=by rw[q];exact⟨G,W,L,rfl⟩
 have N:gE x y=true:=by rw[q];exact nt.2 ⟨rfl,rfl,rfl⟩
 have s:kB (bL (jd x))=.agg (bL y):=by rw[q];rfl
 have O:df l y=true:=by rw[<-ar6 N];exact U
 rw[ar7 N];obtain⟨H,hH,u,z,hx⟩:=bU h (.cells (aq (jd x)) 110 eN);simp only[ae,ds,By,reduceCtorEq,al,cc,D,jo];rw[<-hH];clear hH;refine bE (G4 x.aO H) ?_;simp only[ae,ds,By,al,X,z,E,jo];refine bE (G4 x.to H) ?_;simp only[ae,ds,By,al,Y,z,D,E,T,F,jo,Z];refine bE (Ru (jd x) H) ?_;rw[s];have Q:=Kk y;have Fa:=Kl y;have A:=Km y;obtain⟨B,R,j,x3,_⟩:=bU H (.cells (bL y) 308 eN);have It:B.get h.n=.cells (aq (jd x)) 110 none:=(j.get h.n (by omega) (by simp[kR])).trans z;have S:=(k.aY u).aY j;simp only[ae,ds,reduceCtorEq,al,Q,Fa,A];rw[<-R];clear R;refine bE (Rv B i v a g l y M S) ?_;simp only[ae,ds,By,reduceCtorEq,al,O,It,x3,F,jo,Q];refine cp (adG B i v a g l y M O S) λr aD ⟨v2,sa,k3,n3⟩=>?_;simp only[ae,ds,aJ];exact ar ⟨v2,rfl,sa,((u.up).trans' j.up).trans' k3,b6.after n3 (UN u.n j.n)⟩
theorem IT(h:I)(i:Nat)(v:V)(m g:Int)(l:List ak)(x:ak)(u:kW x)(Z:(l.length:Int)<m\/df l x=e6)(aB:l.length<1024\/df l x=e6)(k:dp h i v m g l) :
  au mP 284 [.ptr i 0,.agg (aq x)] h (λr h'=>∃Q,r=.int gj 0/\dp h' i Q m g (lq (fI l x) x)/\J h h' (mL i v)/\b6 h v Q):=by
 refine a7 aEu rfl ?_;have cc:=Nl x;have E:=u.del;have R:azE 1 (aq x)=[.int gj x.aO,.int gj x.to,.int gj x.val,.bool fr]:=by rw[<-E];rfl
 have S:azE 2 (aq x)=[.int gj x.to,.int gj x.val,.bool fr]:=by rw[<-E];rfl
 have c3:azE 3 (aq x)=[.int gj x.val,.bool fr]:=by rw[<-E];rfl
 have G:azE 4 (aq x)=[.bool fr]:=by rw[<-E];rfl
 have il:=Nk x;have aG:=u.lo;have h1:=u.le;have ad:=u.hi;have m1:kK x.aO=true:=Ki.2 ⟨aG,by omega⟩;have m2:kK x.to=true:=Ki.2 ⟨by omega,ad⟩;have d1:decide (x.to<x.aO)=false:=hK (by omega);have b7:=k.lt;obtain⟨H,hH,F,L,hx⟩:=bU h (.cells (aq x) 110 eN);simp only[ae,ds,By,reduceCtorEq,al,cc,R,jo];rw[<-hH];clear hH;refine bE (G4 x.aO H) ?_;simp only[ae,ds,By,al,m1,L,S,jo];refine bE (G4 x.to H) ?_;simp only[ae,ds,By,al,m2,L,R,S,G,jo,d1];refine bE (Ru x H) ?_;have M:=Kk x;have Fa:=Kl x;have C:=Km x;obtain⟨B,T,D,W,_⟩:=bU H (.cells (bL x) 308 eN);have X:B.get h.n=.cells (aq x) 110 none:=(D.get h.n (by omega) (by simp[kR])).trans L;have A:=(k.aY F).aY D;have N:=A.get;have Xq:=A.rq B;simp only[ae,ds,reduceCtorEq,al,M,Fa,C];rw[<-T];clear T;refine bE (Rv B i v m g l x u A) ?_;rcases k.kJ.iR x with⟨az,p,bd,c2,hE⟩|⟨az,bd⟩
 .obtain⟨j,r,b0,Y,zb,x0,ND⟩:=x1 A.own bd;obtain⟨ob,BP,WU,y3⟩:=ND x;have iD:j≠i:=λU=>A.ne (by rw[Y,U]);simp only[ae,ds,By,al,az,X,G,jo];refine aT.cL kR [7] (.q 0 (.q 1 (.q 2 (.q 3 (.q 4 (.q 5 (.q 6 (.a 7 .done)))))))) ?_;simp only[ae,bw,ds,AT,By,reduceCtorEq,al,W,N,M,C,b0,BP,aJ];have u6:J B (B.set j ob) (λq=>q=j):=J.set _ _ _;refine ar ⟨v,rfl,⟨A.lt,(nk (by omega)).trans N,by rw[<-k.kJ.Nd az];exact WU,k.ne,(k.kJ.filter _).AA (Rr l x),λz O=>?_,?_,k.g1,k.g2⟩,?_,.inl rfl⟩
  .rcases Nc.1 O with rfl|O
   .exact u
   .exact k.ok z (ajA.1 O).1
  .rw[<-k.kJ.Nd az,List.length_set];exact k.len
  .exact((F.up (o:=mL i v)).trans' D.up).trans u6 λq ab U=>.inr (by subst U;exact Y)
 .have s:(l.length:Int)<m:=by rcases Z with s|s;exact s;rw[az]at s;cases s
  have hll:l.length<1024:=by rcases aB with s|s;exact s;rw[az]at s;cases s
  have d2:decide (m<=(l.length:Int))=false:=hK (by omega);rw[ari az];simp only[ae,ds,By,al,az,X,G,jo];refine aT.cL kR [] (.q 0 (.q 1 (.q 2 (.q 3 (.q 4 (.q 5 (.q 6 (.q 7 (.q 8 (.q 9 (.q 10 .done))))))))))) ?_;simp only[ae,bw,ds,AT,By,reduceCtorEq,al,W,N,Xq,M,d2];refine cp (adH B i v m g l x u az hll A) λr aD ⟨v2,sa,k3,n3⟩=>?_;simp only[ae,ds,aJ];exact ar ⟨v2,rfl,sa,((F.up).trans' D.up).trans' k3,b6.after n3 (UN F.n D.n)⟩
inductive ej where
 | kv
 | dy (g:Int)
 | eA (g:Int)
def Cw(g a i:Int):Bool:=kx a&&decide (er g a=a)&&decide (i=a+g)
def nM(c:ak):Bool:=c.del&&decide (c.val≠0)
def ff:ej->ak->Bool
 | .kv,c=>decide (c.aO≠0)||decide (c.to≠0)||nM c
 | .dy g,c=>!Cw g c.aO c.to||nM c
 | .eA _,c=>!kx c.aO||!kx c.to||decide (c.to<c.aO)||nM c
def Xr:ej->Prop
 | .kv=>True
 | .dy g=>1<=g/\g<=1048576
 | .eA g=>1<=g/\g<=1048576
structure dw(K:ej)(l:List ak):Prop where
 kJ:fF l
 len:l.length<=1024
 ok:∀x∈l,x.del=fr/\ff K x=fr
 g:Xr K
theorem dw.nil{K:ej}(i:Xr K):dw K []:=⟨azM.nil,by simp,by simp,i⟩
def hJ(K:ej)(l:List ak)(c:ak):List ak×Int :=
 if ff K c then(l,5)else
 if c.del then(if df l c then(fI l c,0)else(l,6))else
 if !df l c&&decide (1024<=l.length)then(l,3)else(lq (fI l c) c,0)
def h7(K:ej):List ak->List ak->Option (List ak)
 | l,[]=>eL l
 | l,c::r=>if(hJ K l c).2=0 then h7 K (hJ K l c).1 r else eN
theorem ad5(K:ej):∀(l a b:List ak),h7 K l (a++b)=(h7 K l a).bind λm=>h7 K m b
 | l,[],b=>rfl
 | l,c::r,b=>by
  simp only[aza,h7];split
  .exact ad5 K _ r b
  .rfl
theorem Ko{l:List ak}{x y:ak}:y∈fI l x↔y∈l/\gE y x=false:=by simp[fI]
theorem Kp{l:List ak}(h:fF l)(x:ak):fF (fI l x):=h.filter _
theorem ad6(l:List ak)(x:ak):(fI l x).length<=l.length:=azu _ _
theorem dw.rm{K:ej}{l:List ak}(w:dw K l)(x:ak):dw K (fI l x) :=
 ⟨Kp w.kJ x,UN (ad6 l x) w.len,λy i=>w.ok y (Ko.1 i).1,w.g⟩
theorem dw.filter{K:ej}{l:List ak}(w:dw K l)(p:ak->Bool):dw K (l.filter p) :=
 ⟨w.kJ.filter p,UN (azu _ _) w.len,λy i=>w.ok y (ajA.1 i).1,w.g⟩
theorem dw.ins{K:ej}{l:List ak}(w:dw K l){x:ak}(U:df l x=fr)(j:l.length<1024)(s:x.del=fr)(an:ff K x=fr):dw K (lq l x) :=
 ⟨w.kJ.AA U,by have:=w.kJ.Cu x;omega,λy i=>by
  rcases Nc.1 i with rfl|i
  .exact⟨s,an⟩
  .exact w.ok y i,w.g⟩
theorem Rz{l:List ak}{x:ak}:df l x=e6↔∃y∈l,gE y x=true:=by simp[df]
theorem ar9{l:List ak}(h:fF l){x:ak}(a:df l x=e6):(fI l x).length<l.length:=by have:=adw h a;omega
theorem dw.set{K:ej}{l:List ak}(w:dw K l){x:ak}(i:(!df l x&&decide (1024<=l.length))=fr)(j:x.del=fr)(an:ff K x=fr):dw K (lq (fI l x) x):=by
 refine(w.rm x).ins (Rr l x) ?_ j an;cases U:df l x
 .rw[U]at i;have:=ad6 l x;simp at i;omega
 .have:=ar9 w.kJ U;have:=w.len;omega
theorem dw.ad7{K:ej}{l:List ak}(w:dw K l)(c:ak):dw K (hJ K l c).1:=by
 unfold hJ;split
 .exact w
 rename_i an;split
 .split
  .exact w.rm c
  .exact w
 rename_i i;split
 .exact w
 rename_i j;exact w.set (by simpa using j) (by simpa using i) (by simpa using an)
theorem dw.h7{K:ej}:∀{i l m:List ak},dw K l->h7 K l i=eL m->dw K m
 | [],l,m,w,h=>by cases h;exact w
 | c::r,l,m,w,h=>by
  unfold Pk.h7 at h;split at h
  .exact dw.h7 (w.ad7 c) h
  .cases h
theorem ad8{K:ej}{l:List ak}{c:ak}(an:ff K c=fr)(a:c.del=fr)(i:(!df l c&&decide (1024<=l.length))=fr):hJ K l c=(lq (fI l c) c,0):=by
 unfold hJ;rw[gQ (by simp[an]),gQ (by simp[a]),gQ (by rw[i];decide)]
theorem ad9{K:ej}{l:List ak}{c:ak}(an:ff K c=fr)(a:c.del=e6)(U:df l c=e6):hJ K l c=(fI l c,0):=by
 unfold hJ;rw[gQ (by simp[an]),gr a,gr U]
theorem asa(l:List ak)(x:ak):df l (jd x)=df l x:=rfl
theorem asb(l:List ak)(x:ak):fI l (jd x)=fI l x:=rfl
theorem asc{K:ej}{x:ak}(h:ff K x=fr):ff K (jd x)=false:=by
 have a:nM (jd x)=false:=by simp[nM,jd]
 cases K<;>simp only[ff,azv]at h⊢<;>simp_all[jd]<;>exact hK (by show ¬x.to<x.aO;omega)
theorem Xs{K:ej}:∀(A:List ak) {l:List ak},fF l->(∀x∈A,x∈l/\ff K x=fr)->A.Pairwise (λa b=>gE b a=fr)->h7 K l (A.map jd)=eL (hl l A)
 | [],l,_,_,_=>by rw[azd,wd];rfl
 | x::A,l,s,i,u=>by
  have m:=i x (by simp);have q:=ayA.1 u;rw[ajF,h7,ad9 (asc m.2) rfl (by rw[asa];exact adu m.1),gr rfl,asb];rw[Xs A (Kp s x) (λy j=>⟨Ko.2 ⟨(i y (by simp[j])).1,q.1 y j⟩,(i y (by simp[j])).2⟩) q.2]
  congr 1
  unfold hl fI;rw[aAh];refine azy λy _=>?_;simp only[List.all_cons];rw[aDl]
theorem asd{K:ej}{l:List ak}(w:dw K l)(p:ak->Bool){u:List ak}(aw:u.Perm ((l.filter p).map jd)):h7 K l u=eL (l.filter λy=>!p y):=by
 have:∃A:List ak,A.Perm (l.filter p)/\u=A.map jd:=by
  clear w;generalize l.filter p=B at aw;obtain⟨C,i⟩:∃C,C=B.map jd:=⟨_,rfl⟩;rw[<-i]at aw
  induction aw generalizing B with
  | nil=>
   have:B=[]:=by simpa using i.symm
   subst this;exact⟨[],.refl _,rfl⟩
  | cons x h ih=>
   cases B with
   | nil=>cases i
   | cons b B=>
    rw[ajF]at i;obtain⟨z,D⟩:=List.cons.inj i;obtain⟨A,j,e⟩:=ih B D;exact⟨b::A,j.cons b,by rw[ajF,e,z]⟩
  | swap x y t=>
   cases B with
   | nil=>cases i
   | cons b B=>
    cases B with
    | nil=>rw[ajF]at i;have:=(List.cons.inj i).2;cases this
    | cons M B=>
     rw[ajF,ajF]at i;obtain⟨z,D⟩:=List.cons.inj i;obtain⟨N,O⟩:=List.cons.inj D;exact⟨M::b::B,aA4.swap _ _ _,by rw[ajF,ajF,z,N,O]⟩
  | trans H s Q S=>
   obtain⟨A,j,e⟩:=S B i;obtain⟨T,W,bd⟩:=Q A e;exact⟨T,W.trans j,bd⟩
 obtain⟨A,j,rfl⟩:=this;have m:∀x,x∈A↔x∈l/\p x=true:=λx=>by rw[j.mem_iff,ajA]
 have E:A.Pairwise (λa b=>gE b a=fr):=by
  refine(j.pairwise_iff (R:=λa b=>gE b a=fr) λ{a b} h=>?_).2 ?_
  .rw[<-h,ay2,nt,nt];constructor<;>(rintro⟨H,s,X⟩;exact⟨H.symm,s.symm,X.symm⟩)
  .refine(w.kJ.filter p).imp λ{a b} h=>?_;cases F:gE b a
   .rfl
   .rw[nt]at F;unfold eZ at h;omega
 rw[Xs A w.kJ (λx q=>⟨((m x).1 q).1,(w.ok x ((m x).1 q).1).2⟩) E]
 congr 1
 unfold hl;refine azy λy L=>?_;rw[ay2,ayy,azY]
 constructor
 .intro h;cases G:p y
  .rfl
  .have:=h y ((m y).2 ⟨L,G⟩);rw[azY]at this;have s:gE y y=true:=nt.2 ⟨rfl,rfl,rfl⟩;rw[s]at this;cases this
 .intro h x q;rw[azY];cases F:gE y x
  .rfl
  .have:=w.kJ.uniq L ((m x).1 q).1 F;subst this;rw[((m y).1 q).2]at h;cases h
def valOf(l:List ak)(x:ak):Int:=((l.filter λy=>gE y x).map (·.val)).headD 0
def qh:ej->Int->Int->Int->ak
 | .kv,k,_,v=>⟨k,0,0,v,fr⟩
 | .dy g,k,t,v=>⟨k,er g t,er g t+g,v,fr⟩
 | .eA _,k,t,v=>⟨k,t,t,v,fr⟩
def sK(l:List ak)(x:ak):List ak:=lq (fI l x) x
def sL:ej->List ak->Int->Int->Int->List ak
 | .kv,_,k,t,v=>[qh .kv k t v]
 | .dy g,_,k,t,v=>[qh (.dy g) k t v]
 | .eA g,l,k,t,v=>jD g l k t v
def sd:ej->List ak->Int->Int->Int->List ak
 | .kv,l,k,t,v=>sK l (qh .kv k t v)
 | .dy g,l,k,t,v=>sK l (qh (.dy g) k t v)
 | .eA g,l,k,t,v=>G1 g l k t v
def tA:ej->List ak->Int->Int->Bool
 | .kv,l,k,t=>!df l (qh .kv k t 0)&&decide (1024<=l.length)
 | .dy g,l,k,t=>!df l (qh (.dy g) k t 0)&&decide (1024<=l.length)
 | .eA g,l,k,t=>(found g l k t).isEmpty&&decide (1024<=l.length)
def BV:ej->List ak->Int->Int->Int
 | .kv,_,_,t=>t
 | .dy g,_,_,t=>er g t
 | .eA g,l,k,t=>pG t (found g l k t)
def Kq:ej->List ak->Int->Int->Int
 | .kv,l,k,t=>valOf l (qh .kv k t 0)
 | .dy g,l,k,t=>valOf l (qh (.dy g) k t 0)
 | .eA g,l,k,t=>ru (found g l k t)
theorem ase{n t:Int}(a:0<=t)(i:1<=n):er n (er n t)=er n t:=by
 have j:=E7 a i;unfold er at *;have m:t.tmod n=t % n:=az5 a;rw[m]at j⊢;have q:(t-t % n).tmod n=(t-t % n) % n:=az5 (by omega);rw[q,Int.sub_emod,Int.emod_emod_of_dvd _ (Int.dvd_refl n),Int.sub_self];simp
theorem RA{K:ej}(i:Xr K){k t v:Int}(j:kx t=e6):ff K (qh K k t v)=false:=by
 have a:=j;simp only[kx,ig]at a;cases K with
 | kv=>simp[ff,qh,nM]
 | dy g=>
  have m:=E7 a.1 i.1;have:kx (er g t)=true:=by simp only[kx,ig];omega
  simp[ff,qh,nM,Cw,ase a.1 i.1,this]
 | eA g=>simp[ff,qh,nM,j]
theorem Xt{g:Int}{x:ak}(h:x.del=fr/\ff (.eA g) x=fr):kW x:=by
 obtain⟨a,i⟩:=h;simp only[ff,azv,az1,kx,ig,hS]at i;exact⟨by omega,by omega,by omega,a⟩
theorem RB{g:Int}{x:ak}(h:kW x):ff (.eA g) x=false:=by
 have a:=h.lo;have i:=h.le;have j:=h.hi;simp only[ff,azv,az1,kx,ig,hS,nM,h.del,Bool.false_and,and_true];omega
theorem Xu{K:ej}{l:List ak}{x:ak}(an:ff K x=fr)(a:x.del=fr)(i:(!df l x&&decide (1024<=l.length))=fr):h7 K l [x]=eL (sK l x):=by
 rw[h7,ad8 an a i,gr rfl];rfl
theorem dw.DD{K:ej}{l:List ak}(w:dw K l){k t v:Int}(z:kx t=e6)(A:tA K l k t=fr):Pk.h7 K l (sL K l k t v)=eL (sd K l k t v):=by
 have D:=z;simp only[kx,ig]at D;cases K with
 | kv=>exact Xu (RA w.g z) rfl A
 | dy g=>exact Xu (RA w.g z) rfl A
 | eA g=>
  have M:0<=g:=by have:=w.g.1;omega
  have N:∀x∈l,kW x:=λx i=>Xt (w.ok x i);have E:=Rs (g:=g) N (k:=k) v D.1 (by omega);unfold sL jD;rw[ad5];have F:∀x∈(found g l k t).filter (nK (gX g l k t v)),x∈l:=λx i=>(ajA.1 (ajA.1 i).1).1;have B:fF ((found g l k t).filter (nK (gX g l k t v))):=(w.kJ.filter _).filter _;rw[Xs _ w.kJ (λx i=>⟨F x i,(w.ok x (F x i)).2⟩) (B.imp λ{a b} h=>by
   cases O:gE b a
   .rfl
   .rw[nt]at O;unfold eZ at h;omega)]
  rw[Option.bind_some];have C:hl l ((found g l k t).filter (nK (gX g l k t v)))=l.filter λy=>!((rr g k t y)&&nK (gX g l k t v) y):=by
   have:(found g l k t).filter (nK (gX g l k t v))=l.filter λy=>(rr g k t y)&&nK (gX g l k t v) y:=by
    unfold found;rw[aAh];refine azy λy _=>?_;rw[aDl]
   rw[this,adx w.kJ]
  have Q:=arq M w.kJ k t v;generalize S:hl l ((found g l k t).filter (nK (gX g l k t v)))=R at *;have T:fF R:=by rw[<-S];exact w.kJ.hl _
  have Y:R.length<=l.length:=by rw[C];exact azu _ _
  rw[Xu (RB E) E.del ?_]
  .unfold sK;rw[Q];rfl
  .cases U:df R (gX g l k t v)
   .simp only[aA7,azr,hS];intro aw;have Z:=w.len;have j:tA (.eA g) l k t=false:=A;simp only[tA,azV,aEv,hS]at j;rcases j with j|j
    .
     have G:R.length=l.length:=(by omega);have H:∀x∈l,x∈R:=λx i=>by
      rw[C]at G⊢;have:=List.length_filter_eq_length_iff.1 G x i;exact ajA.2 ⟨i,this⟩
     obtain⟨x,i⟩:=List.exists_mem_of_ne_nil _ j;have s:=(ajA.1 i);have L:=H x s.1;rw[C]at L;have u:=(ajA.1 L).2;rw[s.2,azr]at u;have W:=(G0.1 s.2).1;have:gE x (gX g l k t v)=true:=nt.2 (by
      simp only[nK,azY,azv,hS,Decidable.not_not]at u;exact⟨W,u.1,u.2⟩)
     have X:df R (gX g l k t v)=true:=Rz.2 ⟨x,H x s.1,this⟩;rw[X]at U;cases U
    .omega
   .rfl
theorem dw.ll{K:ej}{l:List ak}(w:dw K l){k t:Int}(v:Int)(i:kx t=e6)(j:tA K l k t=fr):dw K (sd K l k t v):=dw.h7 w (w.DD i j)
def zd:ej->Int->ak->Bool
 | .kv,_,_=>fr
 | .dy g,m,x=>decide (0<=m)&&decide (x.to<=m-g)
 | .eA g,m,x=>decide (x.to+g<=m)
def G8(l:List ak):List ak:=l.mergeSort λa b=>!ry b a
def AF:ej->List ak->List ak
 | .kv,l=>l
 | .dy _,l=>G8 l
 | .eA _,l=>l
def NF(K:ej)(l:List ak):List ak:=AF K l
def h8(K:ej)(m:Int)(l:List ak):List ak:=AF K ((l.filter (zd K m)).map jd)
def iB(K:ej)(m:Int)(l:List ak):List ak:=l.filter λx=>!zd K m x
theorem NG(K:ej)(l:List ak):(AF K l).Perm l:=by cases K<;>first|exact .refl _|exact aDq _ _
theorem dw.Xw{K:ej}{l:List ak}(w:dw K l)(m:Int):Pk.h7 K l (h8 K m l)=eL (iB K m l):=asd w _ (NG K _)
theorem dw.iB{K:ej}{l:List ak}(w:dw K l)(m:Int):dw K (Pk.iB K m l):=w.filter _
theorem asf(l:List ak):AE (G8 l):=by
 unfold AE G8;have:=List.pairwise_mergeSort (le:=λa b=>!ry b a) (l:=l) (λa b c j m=>?_) (λa b=>?_)
 .exact this.imp λ{a b} h=>by simpa using h
 .simp only[ry,azY,hS]at *;omega
 .simp only[ry,Bool.or_eq_true,azY,hS];omega
theorem aed{l a:List ak}(i:a.Perm l)(j:AE a)(m:(l.map sc).Nodup):a=G8 l :=
 adY (i.trans (aDq _ _).symm) j (asf l) ((i.map sc).nodup_iff.2 m)
def aee:ej->Int->Int->Bool
 | .kv,_,_=>fr
 | .dy g,t,m=>decide (er g t+g<=m)
 | .eA g,t,m=>decide (t+g<=m)
def fA(g:Int)(e:eO)(l:List ak):Prop:=(e.map (mM g)).Perm l
def oD(g k a v:Int):ak:=⟨k,a,a+g,v,fr⟩
theorem fA.mem{g:Int}{e:eO}{l:List ak}(h:fA g e l)(x:ak):x∈l↔∃s k aO v,(s,(k,aO),v)∈e/\x=oD g k aO v:=by
 rw[<-h.mem_iff,OF]
 constructor
 .rintro⟨⟨s,⟨k,aO⟩,v⟩,i,rfl⟩;exact⟨s,k,aO,v,i,rfl⟩
 .rintro⟨s,k,aO,v,i,rfl⟩;exact⟨_,i,rfl⟩
theorem RC{e:eO}(j:de e){k m v:Int}:bR e (k,m)=eL v↔∃s,(s,(k,m),v)∈e:=by
 constructor
 .intro h;clear j
  induction e with
  | nil=>cases h
  | cons a r ih=>
   unfold bR at h;split at h
   .rename_i q;obtain⟨s,kk,u⟩:=a;simp only at q h;subst q;cases h;exact⟨s,by simp⟩
   .obtain⟨s,i⟩:=ih h;exact⟨s,by simp[i]⟩
 .rintro⟨s,i⟩
  exact rj j i
theorem fA.v7{g:Int}{e:eO}{l:List ak}(h:fA g e l)(u:de e)(x:ak):x∈l↔∃k aO v,bR e (k,aO)=eL v/\x=oD g k aO v:=by
 rw[h.mem x]
 constructor
 .rintro⟨s,k,aO,v,i,j⟩;exact⟨k,aO,v,(RC u).2 ⟨s,i⟩,j⟩
 .rintro⟨k,aO,v,i,j⟩
  obtain⟨s,z⟩:=(RC u).1 i;exact⟨s,k,aO,v,z,j⟩
theorem asg{l:List ak}(h:fF l):l.Nodup:=h.imp λ{a b} i e=>by subst e;unfold eZ at i;omega
theorem ash{g:Int}{e:eO}(i:de e):(e.map (mM g)).Nodup:=by
 have:((e.map (mM g)).map sc).Nodup:=by
  rw[azn];have az:(sc∘mM g)=λx:Nat×(Int×Int)×Int=>x.2.1:=rfl;rw[az];exact i
 exact azM.of_map sc (λa b h e=>h (by rw[e])) this
theorem fA.of{g:Int}{e:eO}{l:List ak}(i:de e)(j:fF l)(h:∀x,x∈l↔∃k aO v,bR e (k,aO)=eL v/\x=oD g k aO v):fA g e l:=by
 refine(aA5 (ash i) (asg j)).2 λx=>?_;rw[h x,OF]
 constructor
 .rintro⟨⟨s,⟨k,aO⟩,v⟩,u,rfl⟩;exact⟨k,aO,v,(RC i).2 ⟨s,u⟩,rfl⟩
 .rintro⟨k,aO,v,u,rfl⟩
  obtain⟨s,j⟩:=(RC i).1 u;exact⟨_,j,rfl⟩
theorem G9{g:Int}{k a v i j m:Int}:gE (oD g k a v) (oD g i j m)=decide (k=i/\a=j):=by
 rw[ay2,nt,ig];simp only[oD]
 constructor
 .rintro⟨q,s,_⟩;exact⟨q,s⟩
 .rintro⟨rfl,rfl⟩;exact⟨rfl,rfl,rfl⟩
theorem fA.len{g:Int}{e:eO}{l:List ak}(h:fA g e l):e.length=l.length:=by have:=h.length_eq;simpa using this
theorem fA.has{g:Int}{e:eO}{l:List ak}(h:fA g e l)(s:de e){x:ak}{k aO v:Int}(u:x=oD g k aO v):df l x=(bR e (k,aO)).isSome:=by
 subst u;rw[ay2,Rz]
 constructor
 .rintro⟨y,z,i⟩
  obtain⟨C,D,j,A,rfl⟩:=(h.v7 s y).1 z;rw[G9,ig]at i;obtain⟨rfl,rfl⟩:=i;rw[A];rfl
 .intro i;obtain⟨j,B⟩:=aBl.1 i;exact⟨oD g k aO j,(h.v7 s _).2 ⟨k,aO,j,B,rfl⟩,by rw[G9];simp⟩
theorem asi{l:List ak}(q:fF l){x y:ak}(i:y∈l)(h:gE y x=e6):l.filter (λz=>gE z x)=[y]:=by
 induction l with
 | nil=>cases i
 | cons a r ih=>
  have j:=ayA.1 q;rcases IN.1 i with rfl|i
  .rw[az6 (p:=λz=>gE z x) h]
   congr 1
   rw[aAe];intro z s u;have m:=j.1 z s;rw[nt]at h u;unfold eZ at m;omega
  .rw[azZ (p:=λz=>gE z x)]
   .exact ih j.2 i
   .intro aW;have m:=j.1 y i;rw[nt]at h aW;unfold eZ at m;omega
theorem un{l:List ak}(a:fF l){x y:ak}(i:y∈l)(h:gE y x=e6):valOf l x=y.val:=by
 unfold valOf;rw[asi a i h];rfl
theorem aef{l:List ak}{x:ak}(h:df l x=fr):valOf l x=0:=by
 unfold valOf;have:l.filter (λz=>gE z x)=[]:=by
  rw[aAe];intro z a i;have:=Rz.2 ⟨z,a,i⟩;rw[this]at h;cases h
 rw[this];rfl
theorem fA.val{g:Int}{e:eO}{l:List ak}(h:fA g e l)(i:de e)(s:fF l){k aO v:Int}:valOf l (oD g k aO v)=(bR e (k,aO)).getD 0:=by
 cases j:bR e (k,aO)with
 | none=>rw[aef (by rw[h.has i rfl,j];rfl)];rfl
 | some u=>rw[un s ((h.v7 i (oD g k aO u)).2 ⟨k,aO,u,j,rfl⟩) (by rw[G9];simp)];rfl
theorem fA.set{g:Int}{e:eO}{l:List ak}(h:fA g e l)(z:de e)(C:fF l)(cl:Nat)(k aO v:Int):fA g (cC cl e (k,aO) v) (sK l (oD g k aO v)):=by
 refine fA.of (z.set _ _ _) ((Kp C _).AA (Rr _ _)) λx=>?_;unfold sK;rw[Nc,Ko]
 constructor
 .rintro(rfl|⟨D,B⟩)
  .exact⟨k,aO,v,by rw[y5,gr rfl],rfl⟩
  .obtain⟨j,s,A,i,rfl⟩:=(h.v7 z x).1 D;rw[G9,hS]at B;exact⟨j,s,A,by rw[y5,gQ (λq=>B (by cases q;exact⟨rfl,rfl⟩))];exact i,rfl⟩
 .rintro⟨j,s,A,i,rfl⟩
  rw[y5]at i;by_cases u:(j,s)=(k,aO)
  .rw[gr u]at i;cases u;cases i;exact .inl rfl
  .rw[gQ u]at i;refine .inr ⟨(h.v7 z _).2 ⟨j,s,A,i,rfl⟩,?_⟩;rw[G9,hS]
   rintro⟨rfl,rfl⟩
   exact u rfl
theorem asj{l:List ak}{x y:ak}(h:gE x y=e6):fI l x=fI l y:=by
 unfold fI;refine azy λz _=>?_;rw[nt]at h;have:gE z x=gE z y:=by rw[ay2,nt,nt,h.1,h.2.1,h.2.2]
 rw[this]
theorem fA.del{g:Int}{e:eO}{l:List ak}(h:fA g e l)(j:de e)(B:fF l){k aO:Int}{c:ak}(aw:gE c (oD g k aO 0)=e6):fA g (gT e (k,aO)) (fI l c):=by
 rw[asj aw];refine fA.of (j.del _) (Kp B _) λx=>?_;rw[Ko]
 constructor
 .rintro⟨C,A⟩
  obtain⟨s,u,z,i,rfl⟩:=(h.v7 j x).1 C;rw[G9,hS]at A;exact⟨s,u,z,by rw[VZ j,gQ (λq=>A (by cases q;exact⟨rfl,rfl⟩))];exact i,rfl⟩
 .rintro⟨s,u,z,i,rfl⟩
  rw[VZ j]at i;split at i
  .cases i
  .rename_i D;refine⟨(h.v7 j _).2 ⟨s,u,z,i,rfl⟩,?_⟩;rw[G9,hS]
   rintro⟨rfl,rfl⟩
   exact D rfl
theorem fA.filter{g b:Int}{e:eO}{l:List ak}(h:fA g e l):fA g (e.filter λx=>!ml g b x) (l.filter λx=>!decide (x.to<=b)):=by
 unfold fA;have:=aA4.filter (λx:ak=>!decide (x.to<=b)) (show(e.map (mM g)).Perm l from h);rw[aEx]at this;exact this
theorem fA.gone{g b:Int}{e:eO}{l i:List ak}(h:fA g e l)(j:i.Perm ((e.filter (ml g b)).map (BT g))):i.Perm ((l.filter λx=>decide (x.to<=b)).map jd):=by
 refine j.trans ?_;have:=(aA4.filter (λx:ak=>decide (x.to<=b)) (show(e.map (mM g)).Perm l from h)).map jd;rw[aEx,azn]at this;exact this
theorem aeg{g:Int}{l:List ak}(w:dw (.dy g) l):(l.map sc).Nodup:=by
 refine azt.2 (w.kJ.imp_of_mem λ{a b} aW an j i=>?_);have m:=w.ok a aW;have q:=w.ok b an;simp only[ff,Cw,azv,az1,are,ig]at m q;have az:a.key=b.key:=iy Prod.fst i;have bd:a.aO=b.aO:=iy Prod.snd i;unfold eZ at j;omega
theorem fA.list{g:Int}{e:eO}{l i:List ak}(w:dw (.dy g) l)(h:fA g e l)(j:i.Perm (e.map (mM g)))(s:AE i):i=G8 l:=aed (j.trans h) s (aeg w)
theorem fA.exp{g b:Int}{e:eO}{l i:List ak}(w:dw (.dy g) l)(h:fA g e l)(j:i.Perm ((e.filter (ml g b)).map (BT g)))(s:AE i):i=G8 ((l.filter λx=>decide (x.to<=b)).map jd):=by
 refine aed (h.gone j) s ?_;rw[azn];have az:(sc∘jd)=sc:=rfl;rw[az];exact(aeg w).sublist (az8.map _)
def qY(p:dM):ak:=⟨p.1,0,0,p.2,fr⟩
theorem aeh{l:List dM}(a:jB l){k v:Int}:(k,v)∈l↔look l k=eL v:=⟨λh=>Rk a h,Rl⟩
theorem Fg{l:List dM}(i:jB l){x:ak}:x∈l.map qY↔∃k v,look l k=eL v/\x=⟨k,0,0,v,fr⟩:=by
 rw[OF]
 constructor
 .rintro⟨⟨k,v⟩,a,rfl⟩;exact⟨k,v,(aeh i).1 a,rfl⟩
 .rintro⟨k,v,a,rfl⟩;exact⟨_,(aeh i).2 a,rfl⟩
theorem Kr{l:List dM}(i:jB l):fF (l.map qY):=by
 refine azt.2 (i.imp λ{a b} h=>?_);exact .inl h
theorem Ha{k a v i:Int}{d j:Bool}:gE ⟨k,0,0,v,d⟩ ⟨a,0,0,i,j⟩=decide (k=a):=by
 rw[ay2,nt,ig];simp
theorem NI{l:List dM}(a:jB l){k v:Int}{d:Bool}:df (l.map qY) ⟨k,0,0,v,d⟩=has l k:=by
 rw[ay2,Rz];unfold has
 constructor
 .rintro⟨y,j,h⟩
  obtain⟨s,i,m,rfl⟩:=(Fg a).1 j;rw[Ha,ig]at h;subst h;rw[m];rfl
 .intro h;obtain⟨i,q⟩:=aBl.1 h;exact⟨_,(Fg a).2 ⟨k,i,q,rfl⟩,by rw[Ha];simp⟩
theorem aei{l:List dM}(a:jB l){k v:Int}{d:Bool}:valOf (l.map qY) ⟨k,0,0,v,d⟩=(look l k).getD 0:=by
 cases i:look l k with
 | none=>rw[aef (by rw[NI a,has,i];rfl)];rfl
 | some u=>rw[un (Kr a) ((Fg a).2 ⟨k,u,i,rfl⟩) (by rw[Ha];simp)];rfl
theorem aej{l:List dM}(a:jB l)(k v:Int):(put l k v).map qY=sK (l.map qY) ⟨k,0,0,v,fr⟩:=by
 refine fF.uy (Kr (MY a k v)) ((Kp (Kr a) _).AA (Rr _ _)) λx=>?_;unfold sK;rw[Fg (MY a k v),Nc,Ko,Fg a]
 constructor
 .rintro⟨j,m,i,rfl⟩
  rw[Ri l k v j a]at i;split at i
  .rename_i e;subst e;cases i;exact .inl rfl
  .rename_i e;exact .inr ⟨⟨j,m,i,rfl⟩,by rw[Ha,hS];exact e⟩
 .rintro(rfl|⟨⟨j,m,i,rfl⟩,q⟩)
  .exact⟨k,v,by rw[Ri l k v k a,gr rfl],rfl⟩
  .rw[Ha,hS]at q;exact⟨j,m,by rw[Ri l k v j a,gQ q];exact i,rfl⟩
theorem asl{l:List dM}(a:jB l)(k v:Int)(d:Bool):(rm l k).map qY=fI (l.map qY) ⟨k,0,0,v,d⟩:=by
 refine fF.uy (Kr (MZ a k)) (Kp (Kr a) _) λx=>?_;rw[Fg (MZ a k),Ko,Fg a]
 constructor
 .rintro⟨j,m,i,rfl⟩
  rw[Rj l k j a]at i;split at i
  .cases i
  .rename_i e;exact⟨⟨j,m,i,rfl⟩,by rw[Ha,hS];exact e⟩
 .rintro⟨⟨j,m,i,rfl⟩,q⟩
  rw[Ha,hS]at q;exact⟨j,m,by rw[Rj l k j a,gQ q];exact i,rfl⟩
open Go Go.Proofs Go.Proofs.YtemdgidnhgcafaaGreatDoor.Ab Go.Sort
theorem then_eq{K:fS}{x:Option V}{v:V}{d:Option Tmp}{f:aj}{h:I}(e:x=eL v)(g:@mh (eL v) d K f h):@mh x d K f h:=e▸g
theorem asm(h:I)(n:Int)(j:n=0\/n=1):Pure mP 132 [.int .u64 n] h (.int gj n):=by
 refine Pure.val (bf.int _ _) ?_;refine a7 aBh rfl ?_;have a:aPh.u8.wrap 0=0:=by decide
 have i:aPh.u8.wrap 1=1:=by decide
 have m:aPh.i64.wrap 1=1:=by decide
 have q:aPh.i64.wrap 0=0:=by decide
 have s:aPh.i64.wrap (0+0)=0:=by decide
 have u:aPh.i64.wrap (0+1)=1:=by decide
 rcases j with rfl|rfl
 .simp only[ae,az2,ds,reduceCtorEq,ph,lZ,a];refine then_eq (v:=.int .u8 0) (by kernel_rfl) ?_;simp only[ae,ds,hP,lZ,q,s,aJ];exact ar ⟨rfl,J.refl _ _⟩
 .simp only[ae,az2,ds,reduceCtorEq,ph,lZ,i];refine then_eq (v:=.int .u8 1) (by kernel_rfl) ?_;simp only[ae,ds,hP,lZ,m,u,aJ];exact ar ⟨rfl,J.refl _ _⟩
theorem Hb(h:I)(n:Int)(a:n=0\/n=1):Pure mP 97 [.int .u64 n] h (.int gj n):=by
 refine Pure.val (bf.int _ _) ?_;refine a7 aBi rfl ?_;have i:aPh.u64.wrap n=n:=by rcases a with rfl|rfl<;>decide
 simp only[ae,ds,reduceCtorEq];refine bE (asm h n a) ?_;simp only[ae,ds,aJ];exact ar ⟨rfl,J.refl _ _⟩
open Go.Shelf
def asn:Go.Shelf.Ren:=⟨λ| 6=>179|15=>97|14=>203|28=>131|29=>132|20=>219|21=>220|22=>221|23=>222|24=>223|25=>224|26=>225|27=>226|46=>240|47=>160|48=>161|49=>241|50=>242|57=>250|n=>n,λ| 22=>52|24=>110|25=>305|3=>3|39=>189|0=>0|53=>236|55=>131|4=>4|46=>229|45=>228|50=>233|5=>5|9=>9|66=>270|70=>274|76=>310|77=>82|n=>n,λ| n=>n⟩
theorem aem:Go.Proofs.SlLaysF0.n6 mP asn:={
 mixed:=by kernel_rfl
 f6:=⟨Tryz.f179.name,by decide,aEy.trans (iy eL (by kernel_rfl))⟩
 f14:=⟨Tryz.f203.name,by decide,aEz.trans (iy eL (by kernel_rfl))⟩
 f15:=aBi.trans (iy eL (by kernel_rfl))
 f20:=⟨Tryz.f219.name,by decide,aEA.trans (iy eL (by kernel_rfl))⟩
 f21:=⟨Tryz.f220.name,by decide,Tryz.func220.trans (iy eL (by kernel_rfl))⟩
 f22:=⟨Tryz.f221.name,by decide,Tryz.func221.trans (iy eL (by kernel_rfl))⟩
 f23:=⟨Tryz.f222.name,by decide,Tryz.func222.trans (iy eL (by kernel_rfl))⟩
 f24:=⟨Tryz.f223.name,by decide,Tryz.func223.trans (iy eL (by kernel_rfl))⟩
 f25:=⟨Tryz.f224.name,by decide,Tryz.func224.trans (iy eL (by kernel_rfl))⟩
 f26:=⟨Tryz.f225.name,by decide,Tryz.func225.trans (iy eL (by kernel_rfl))⟩
 f27:=⟨Tryz.f226.name,by decide,Tryz.func226.trans (iy eL (by kernel_rfl))⟩
 f28:=Tryz.func131.trans (iy eL (by kernel_rfl))
 f29:=aBh.trans (iy eL (by kernel_rfl))
 f46:=⟨Tryz.f240.name,by decide,Tryz.func240.trans (iy eL (by kernel_rfl))⟩
 f47:=Tryz.func160.trans (iy eL (by kernel_rfl))
 f48:=Tryz.func161.trans (iy eL (by kernel_rfl))
 f49:=⟨Tryz.f241.name,by decide,Tryz.func241.trans (iy eL (by kernel_rfl))⟩
 f50:=⟨Tryz.f242.name,by decide,Tryz.func242.trans (iy eL (by kernel_rfl))⟩
 f57:=⟨Tryz.f250.name,by decide,Tryz.func250.trans (iy eL (by kernel_rfl))⟩
 t0:=Tryz.underlying0
 a0:=Tryz.isAgg0
 z0:=Tryz.sizeOf0
 v0:=Tryz.zeroValue0
 t3:=Tryz.underlying3
 a3:=Tryz.isAgg3
 z3:=Tryz.sizeOf3
 v3:=Tryz.zeroValue3
 t4:=Tryz.underlying4
 a4:=Tryz.isAgg4
 z4:=Tryz.sizeOf4
 v4:=Tryz.zeroValue4
 t5:=Tryz.underlying5
 a5:=Tryz.isAgg5
 z5:=Tryz.sizeOf5
 v5:=Tryz.zeroValue5
 t9:=Tryz.underlying9
 a9:=Tryz.isAgg9
 z9:=Tryz.sizeOf9
 v9:=Tryz.zeroValue9
 t22:=Tryz.underlying52
 a22:=Tryz.isAgg52
 z22:=Tryz.sizeOf52
 v22:=Tryz.zeroValue52
 t25:=Tryz.underlying305
 a25:=Tryz.isAgg305
 z25:=Tryz.sizeOf305
 v25:=Tryz.zeroValue305
 t39:=Tryz.underlying189
 a39:=Tryz.isAgg189
 z39:=Tryz.sizeOf189
 v39:=Tryz.zeroValue189
 t45:=Tryz.underlying228
 a45:=Tryz.isAgg228
 z45:=Tryz.sizeOf228
 v45:=Tryz.zeroValue228
 t46:=Tryz.underlying229
 a46:=Tryz.isAgg229
 z46:=Tryz.sizeOf229
 v46:=Tryz.zeroValue229
 t50:=Tryz.underlying233
 a50:=Tryz.isAgg233
 z50:=Tryz.sizeOf233
 v50:=Tryz.zeroValue233
 t53:=Tryz.underlying236
 a53:=Tryz.isAgg236
 z53:=Tryz.sizeOf236
 v53:=Tryz.zeroValue236
 t55:=Tryz.underlying131
 a55:=Tryz.isAgg131
 z55:=Tryz.sizeOf131
 v55:=Tryz.zeroValue131
 t66:=Tryz.underlying270
 a66:=Tryz.isAgg270
 z66:=Tryz.sizeOf270
 v66:=Tryz.zeroValue270
 t70:=Tryz.underlying274
 a70:=Tryz.isAgg274
 z70:=Tryz.sizeOf274
 v70:=Tryz.zeroValue274
 t76:=Tryz.underlying310
 a76:=Tryz.isAgg310
 z76:=Tryz.sizeOf310
 v76:=Tryz.zeroValue310
 t77:=Tryz.underlying82
 a77:=Tryz.isAgg82
 z77:=Tryz.sizeOf82
 v77:=Tryz.zeroValue82 }
theorem aso(h:I)(x c:V)(n lim:Int)(q:n<=1)(s:0<=n):Pure mP 219 [x,.int gj 0,.int gj n,c] h (.tuple []):=by
 refine Pure.val (bf.tuple bc.nil) ?_;refine a7 aEA rfl ?_;have a:aPh.i64.wrap (0+1)=1:=by decide
 simp only[ae,ds,a];refine aT.bG (α:=Unit) (λ_ f h'=>f 8=.int gj 1/\f 2=.int gj n/\h'=h) (λ_=>0) () ⟨rfl,rfl,rfl⟩ ?_
 rintro _ f h' ⟨i,j,rfl⟩
 refine wpS ?_;have m:decide (1<n)=false:=hK (by omega);simp only[ae,ds,i,j,m,aJ];exact ar ⟨rfl,J.refl _ _⟩
theorem asp(h:I)(x c:V)(n l:Int)(a:n<=1)(i:0<=n):Pure mP 203 [x,.int gj 0,.int gj n,.int gj l,c] h (.tuple []):=by
 refine Pure.val (bf.tuple bc.nil) ?_;refine a7 aEz rfl ?_;simp only[ae];refine aT.bG (α:=Unit) (λ_ f h'=>f 0=x/\f 1=.int gj 0/\f 2=.int gj n/\f 4=c/\h'=h) (λ_=>0) () ⟨rfl,rfl,rfl,rfl,rfl⟩ ?_
 rintro _ f h' ⟨j,m,q,s,rfl⟩
 refine wpS ?_;have u:aPh.i64.wrap (n-0)=n:=by rw[kp _ (by omega)];omega
 have z:decide (n<=12)=true:=hO (by omega);simp only[ae,ds,reduceCtorEq,j,m,q,s,u,z];refine bE (aso _ x c n 0 a i) ?_;simp only[ae,aJ];exact ar ⟨rfl,J.refl _ _⟩
theorem asq(h:I)(x c:V)(n:Int)(a:n=0\/n=1)(i:dX mP 52 x h=eL (.int gj n)):Pure mP 179 [x,c] h (.tuple []):=by
 refine Pure.val (bf.tuple bc.nil) ?_;refine a7 aEy rfl ?_;have j:aPh.u64.wrap n=n:=by rcases a with rfl|rfl<;>decide
 simp only[ae,ds,reduceCtorEq,GD,hP,i,j];refine bE (Hb h n a) ?_;simp only[ae,ds];refine bE (asp h x c n n (by omega) (by omega)) ?_;simp only[ae,aJ];exact ar ⟨rfl,J.refl _ _⟩
theorem asr{g:FuncId}{cf:ak->ak->Int}(m:SWO (ltOf cf))(A:∀a b,au mP g [.agg (aq a),.agg (aq b)] y0 λr _=>r=.int gj (cf a b))
  (B:∀args w,(callFunc g args).run mP w=.ok (.enter g args) w) (h:I) (x:V) (l:List ak) (u:Own h 110 5 x (l.flatMap aq)) (z:l.length<=2^40) :
  au mP 179 [x,.func (.func g) [] []] h λr h'=>r=.tuple []/\J h h' (bb x)/\∃q:List ak,q.Perm l/\(q.Pairwise λa b=>ltOf cf b a=fr)/\Own h' 110 5 x (q.flatMap aq):=by
 refine V0 (by decide) jo (λx=>rfl) za m A
  (λn enc C D cf m h2 cap d w aw hH an E=>AnyQ.slices_SortFunc aem 5 Tryz.isAgg110 Tryz.sizeOf110 enc C D cf m g #[] h2 0 cap d w B aw hH an E) (λF=>?_) u (by omega)
 subst F;have j:dX mP 52 x h=eL (.int gj 0):=by
  rcases u with⟨rfl|rfl,_⟩|⟨i,s,cap,c,G,rfl,_,_,z,_⟩
  .exact yY rl
  .exact zN rl
  .have:s=0:=by simp at z;omega
   subst this;exact zM rl
 exact asq h x _ 0 (.inl rfl) j
theorem ass(h:I)(a b:ak):au mP 180 [.agg (aq a),.agg (aq b)] h (λr h'=>r=.int gj (nL [j6 a.aO b.aO,j6 a.key b.key])/\J h h' kR):=by
 refine a7 aEB rfl ?_;have cc:∀c:ak,(kB (aq c)).cells=eL (aq c):=λ_=>rfl;have m:∀c:ak,(aq c).length=5:=jo;have i:∀c:ak,azE 1 (aq c)=[.int gj c.aO,.int gj c.to,.int gj c.val,.bool c.del]:=λ_=>rfl;have j:∀c:ak,cw (eL eN) (eL (aq c))=eL (.int gj c.key):=λ_=>rfl;simp only[ae,ds,cc];refine aT.cL kR [10,11] (.q 0 (.q 1 (.q 2 (.q 3 (.c 4 (.q 5 (.q 6 (.q 7 (.q 8 (.c 9 (.e 10 (.a 11 (.q 12 .done)) .stop))))))))))) ?_;simp only[ae,bw,ds,By,al,m,i];refine gh rfl rfl rfl (λh' _=>Ng h' a.aO b.aO) ?_;simp only[ae,bw,ds,al,m,j];refine gh rfl rfl rfl (λh' _=>Ng h' a.key b.key) ?_;generalize j6 a.aO b.aO=x;generalize j6 a.key b.key=y;have s:∀H:I,am mP 46 2 [(0,.int gj x),(1,.int gj y)] H=eL (.bh H.n 0 2 2,H.push (.cells (ax [x,y]) 3 eN)):=λH=>by rw[nm pR];rfl
 simp only[ae,bw,ds,s];obtain⟨u,z,A⟩:=aK.lit (h:=(h.push (.cells (aq a) 110 eN)).push (.cells (aq b) 110 eN)) (c:=ax [x,y]) (e:=3) (n:=2) (sz:=1) rfl (by decide) (by decide);refine cp (au.args (aE.cons z (aE.refl _ _)) (adC u [x,y] (by simp only[axF,ayx];omega))) λr D ⟨B,C⟩=>?_;subst B;simp only[ae,bw,ds,aJ];refine ar ⟨rfl,?_⟩;rw[C];exact((J.push _ _ _).bp _).trans' A
def Iv(a b:ak):Int:=nL [j6 a.aO b.aO,j6 a.key b.key]
theorem ast(a b:ak):decide (Iv a b<0)=ry a b:=by
 unfold Iv nL nL nL j6 ry;rw[ay2];simp only[ig];by_cases j:a.aO<b.aO
 .simp[j]
 .by_cases q:b.aO<a.aO
  .have:¬a.aO=b.aO:=by omega
   simp[j,q,this]
  .have e:a.aO=b.aO:=(by omega);by_cases i:a.key<b.key
   .simp[e,i]
   .by_cases m:b.key<a.key
    .simp[e,i,m]
    .simp[e,i,m]
theorem asu(a:ak):ry a a=false:=by unfold ry;exact hK (by omega)
theorem asv(a b c:ak)(i:ry a b=e6)(j:ry b c=e6):ry a c=true:=by
 unfold ry at *;simp only[ig]at *;omega
theorem asw(a b c:ak)(i:ry a b=fr)(j:ry b c=fr):ry a c=false:=by
 unfold ry at *;simp only[hS]at *;omega
theorem Iw(a b:ak):ltOf Iv a b=ry a b:=ast a b
theorem aep:Rx Is:=λh x l m q=>by
 refine(asr (cf:=Iv) ⟨λa=>by rw[Iw];exact asu a,λa b c i j=>by rw[Iw]at *;exact asv a b c i j,λa b c i j=>by rw[Iw]at *;exact asw a b c i j⟩
  (λa b=>(ass y0 a b).mono λr h' U=>U.1) (enters_of aEB (by kernel_rfl) rfl) h x l m q).mono λr h' ⟨i,j,s,u,z,m⟩=>⟨i,j,s,u,z.imp λ{a b} A=>by rwa[Iw]at A,m⟩
theorem Xy{t:Int}:kx t=e6↔0<=t/\t<=1099511627776:=by simp[kx]
def mm:ej->TypeId
 | .kv=>256
 | .dy _=>259
 | .eA _=>262
inductive iT(h:I)(i:Nat):List Nat->ej->List ak->Prop
 | kv {v:V} {l:List dM} (k:fc h i v 1024 l):iT h i (i::(aS v).toList) .kv (l.map qY)
 | dy {m cl:Nat} {g:Int} {e:eO} {l:List ak} (k:ad0 h i m g e cl) (r:fA g e l) (w:dw (.dy g) l):iT h i [i,m] (.dy g) l
 | eA {v:V} {g:Int} {l:List ak} (k:dp h i v 1024 g l):iT h i (i::(aS v).toList) (.eA g) l
theorem mem_io{i:Nat}{v:V}{q:Nat}:q∈i::(aS v).toList↔q=i\/aS v=eL q:=by
 cases h:aS v<;>simp[eq_comm]
def eF(h:I)(O a:List Nat):Prop:=∀x∈a,x∈O\/h.n<=x
theorem eF.refl(h:I)(O:List Nat):eF h O O:=λ_ i=>.inl i
theorem eF.of{h:I}{i:Nat}{v s:V}(d:b6 h v s):eF h (i::(aS v).toList) (i::(aS s).toList):=λx j=>by
 rcases mem_io.1 j with rfl|j
 .exact .inl (by simp)
 .rcases d with d|d
  .exact .inl (mem_io.2 (.inr (by rw[<-d];exact j)))
  .exact .inr (d x j)
section
variable {h h':I} {i:Nat} {O:List Nat} {K:ej} {l:List ak}
theorem iT.lt(k:iT h i O K l):∀q∈O,q<h.n:=by
 cases k with
 | kv k=>intro q j;rcases mem_io.1 j with rfl|j;exact k.lt;exact k.own.lt q j
 | dy k r w=>intro q j;simp at j;rcases j with rfl|rfl;exact k.k.lt;exact k.k.qJ
 | eA k=>intro q j;rcases mem_io.1 j with rfl|j;exact k.lt;exact k.own.lt q j
theorem iT.ai{M:Nat->Prop}(k:iT h i O K l)(u:J h h' M)(s:∀q∈O,¬M q):iT h' i O K l:=by
 cases k with
 | kv k=>exact .kv (k.ai u (s _ (by simp)) λj z=>s j (mem_io.2 (.inr z)))
 | dy k r w=>exact .dy ⟨k.k.ai u (s _ (by simp)) (s _ (by simp)),k.st,k.x4,k.aO⟩ r w
 | eA k=>exact .eA (k.ai u (s _ (by simp)) λj z=>s j (mem_io.2 (.inr z)))
theorem iT.aY(k:iT h i O K l)(j:J h h' kR):iT h' i O K l:=k.ai j λ_ _=>by simp[kR]
theorem iT.wf(k:iT h i O K l):dw K l:=by
 cases k with
 | kv k=>
  refine⟨Kr k.jC,by rw[ajD];have:=k.len;omega,λx j=>?_,trivial⟩;obtain⟨a,b,_,rfl⟩:=(Fg k.jC).1 j;exact⟨rfl,by simp[ff,nM]⟩
 | dy k r w=>exact w
 | eA k=>exact⟨k.kJ,k.len,λx j=>⟨(k.ok x j).del,RB (k.ok x j)⟩,k.g1,by have:=k.g2;omega⟩
theorem aeq{t:Int}:kK t=kx t:=by simp[kK,kx]
theorem asx(k:iT h i O K l)(r:Rec)(a:kx r.t=e6):Pure mP 198 [.iface (mm K) (.ptr i 0),.agg (aR r)] h (.int gj (Kq K l r.k r.t)):=by
 have j:=Xy.1 a;cases k with
 | kv k=>
  have:=aqX k r;rw[<-aei (v:=0) (d:=fr) k.jC]at this;exact this
 | dy k m w=>
  have:=arJ k.k r j.1 j.2;rw[<-m.val (v:=0) k.x4 w.kJ]at this;exact this
 | eA k=>
  have:=arN k r;rw[show x2 _ _ _ _=found _ _ _ _ from by rw[x2,gr (by rw[aeq];exact a)]]at this;exact this
def gU(a:List ak):V:=.ag a.length (a.flatMap aq)
theorem Xz(a:List ak):bf (gU a):=bf.ag (xS za _)
theorem aer{h':I}{j:Nat}{c:ak}(o:Own h' 110 5 (.bh j 0 1 1) (aq c))(t m:Int):∃a,aK (.tuple [.bh j 0 1 1,.int gj t,.int gj m]) h' (.tuple [gU [c],.int gj t,.int gj m]) a/\J h' a (λq=>q=j):=by
 obtain⟨a,s,u⟩:=aK.own o (n:=1) rfl (by decide);refine⟨a,aK.tuple (aE.cons ?_ (aE.refl _ _)),u.mono λq z=>by simpa [bb,aS,eq_comm]using z⟩;have:gU [c]=.ag 1 (aq c):=by simp[gU]
 rw[this];exact s
theorem Ok{m s:Nat}{a size:Int}{e:eO}(k:dx h i m a size (hW e) s)(r:Rec)(n:Int)(D:0<=r.t)(F:r.t<=1099511627776)(G:(bR e (r.k,er size r.t)).isSome=fr)(L:a<=(e.length:Int)) :
  au mP 199 [.iface 259 (.ptr i 0),.agg (aR r),.int gj n] h (λq h'=>∃c t,q=.tuple [c,.int gj t,.int gj 3]/\J h h' kR):=by
 obtain⟨u,M,z⟩:=r;refine a7 aBc rfl ?_;unfold aR;obtain⟨H,hH,A,_,nq⟩:=bU h (.cells [.int gj u,.int gj M,.int gj z] 45 eN);simp only[ae,ds,AT,By,reduceCtorEq,al,Xf,Xg];rw[<-hH];clear hH;refine cp (aq7 H i m s a size u z n e (k.aY A) G L D F) λq N ⟨az,Q⟩=>?_;subst az;obtain⟨C,R⟩:∃y,y=(⟨0,0,0,0,fr⟩:ak):=⟨_,rfl⟩;rw[<-R];have cc:∀c:ak,(kB (aq c)).cells=eL (aq c):=λ_=>rfl;have S:∀c:ak,bD (eL 5) (aP.cells [kA gj 0,kA gj 0,kA gj 0,kA gj 0,V.bool fr] 110 eN) 0 (aq c)=eL (.cells (aq c) 110 eN):=λ_=>rfl;obtain⟨j,B,T,W,c6⟩:=bU N (.cells (aq C) 110 eN);simp only[ae,ds,al,cc,S];rw[<-B];clear B;have X:=Ke j C;have Y:cw (eL (eL 5)) (eL (aq C))=eL (.agg (aq C)):=rfl;have Z:cI (.cells (aq C) 110 eN) 0=eL (aq C):=rfl;have d1:cI (.cells (aq C) 110 eN) 1=eL [.int gj C.aO,.int gj C.to,.int gj C.val,.bool C.del]:=rfl;generalize bM:aq C=E at *;refine aT.cL kR [1] (.q 0 (.q 2 (.q 3 (.q 4 (.e 1 (.q 5 (.q 6 (.q 7 .done))) .stop))))) ?_;simp only[ae,bw,ds,al,W,X,Y,Z,d1,aJ];have k3:J j (j.push (.cells E 110 eN)) kR:=J.push _ _ _;exact ar ⟨_,_,rfl,(A.trans' Q).trans' (T.trans' k3)⟩
theorem asy(h:I)(i:Nat)(v:V)(a g key time val:Int)(l:List ak)(j:kK time=e6)(m:found g l key time=[])(s:a<=(l.length:Int))(k:dp h i v a g l) :
  au mP 217 [.ptr i 0,.int gj key,.int gj time,.int gj val] h (λr h'=>r=.tuple [.ag 0 [],.int gj 3]/\h'=h):=by
 refine au.cast ?_;refine a7 aEs rfl ?_;have u:=k.get;have z:=k.rq h;have A:decide (a<=(l.length:Int))=true:=hO s;simp only[ae,ds,reduceCtorEq,al];refine bE (G4 time h) ?_;simp only[ae,ds,reduceCtorEq,j];refine bE (Xa h i v a g key time l k) ?_;have B:x2 g l key time=[]:=by rw[x2,gr j,m]
 rw[B];have C:(((0:Nat):Int)==0)=true:=rfl;simp only[ae,ds];refine aT.cL kR [] (.q 0 (.q 1 (.q 2 (.q 3 (.q 4 (.q 5 (.q 6 (.q 7 (.q 8 (.q 9 (.q 10 (.q 11 (.q 12 (.q 13 (.q 14 .done))))))))))))))) ?_;simp only[ae,bw,ds,AT,By,reduceCtorEq,al,rl,u,z,A,C,aJ];exact ar ⟨_,h,ar2 h 3,rfl,rfl⟩
theorem asz{v:V}{g:Int}(k:dp h i v 1024 g l)(r:Rec)(n:Int)(s:kK r.t=e6)(u:found g l r.k r.t=[])(B:1024<=l.length) :
  au mP 199 [.iface 262 (.ptr i 0),.agg (aR r),.int gj n] h (λq h'=>∃c t,q=.tuple [c,.int gj t,.int gj 3]/\J h h' kR):=by
 obtain⟨a,z,j⟩:=r;refine a7 aBc rfl ?_;unfold aR;obtain⟨H,hH,m,_,_⟩:=bU h (.cells [.int gj a,.int gj z,.int gj j] 45 eN);simp only[ae,ds,AT,By,reduceCtorEq,al,Xh,Xi,Xj];rw[<-hH];clear hH;refine cp (asy H i v 1024 g a j n l s u (by omega) (k.aY m)) λq C ⟨az,A⟩=>?_;subst az A;simp only[ae,Int.reduceBNe,ds,aJ];exact ar ⟨_,_,rfl,m⟩
theorem asA(k:iT h i O K l)(r:Rec)(n:Int)(F:kx r.t=e6) :
  au mP 199 [.iface (mm K) (.ptr i 0),.agg (aR r),.int gj n] h (λq h'=>∃c t G H,q=.tuple [c,.int gj t,.int gj G]/\J h h' (·∈O)/\eF h O H /\
   if tA K l r.k r.t=e6 then G=3/\iT h' i H K l else G=0/\t=BV K l r.k r.t/\c=gU (sL K l r.k r.t n)/\iT h' i H K (sd K l r.k r.t n)):=by
 have A:=Xy.1 F;cases k with
 | @kv v l k=>
  have Q:tA .kv (l.map qY) r.k r.t=full 1024 l r.k:=by
   simp only[tA,qh,NI k.jC,full,ajD]
   congr 1
   rw[ay2,ig,ig];omega
  refine au.cast ((aqZ k r n).mono λq h' ⟨R,j,e,z,s,d,o,Y,Z,L⟩=>?_);subst e;have S:J h h' (·∈i::(aS v).toList):=s.mono λq u=>mem_io.2 u;cases a:full 1024 l r.k with
  | true=>
   refine⟨_,h',aK.refl _ _,_,_,_,_,rfl,S,eF.of d,?_⟩;rw[gr (by rw[Q];exact a)];refine⟨by simp[oC,a],?_⟩;have:ll 1024 l r.k n=l:=by simp[ll,a]
   rw[this]at z;exact .kv z
  | false=>
   have fW:ln 1024 l r.k n=⟨r.k,0,0,n,fr⟩:=(by simp[ln,a]);have fL:ll 1024 l r.k n=put l r.k n:=(by simp[ll,a]);rw[fW]at o;rw[fL]at z;obtain⟨D,M,B⟩:=aer o r.t (oC 1024 l r.k);refine⟨_,D,M,_,_,_,_,rfl,S.trans B λq u U=>by omega,eF.of d,?_⟩;rw[gQ (by rw[Q,a];decide)];refine⟨by simp[oC,a],rfl,rfl,?_⟩;have bd:sd .kv (l.map qY) r.k r.t n=(put l r.k n).map qY:=(aej k.jC r.k n).symm;rw[bd];exact .kv (z.ai B Z.symm λq u U=>L (by rw[u,U]))
 | @dy m T g e l k E w=>
  have U:df l (qh (.dy g) r.k r.t 0)=(bR e (r.k,er g r.t)).isSome:=E.has k.x4 rfl;have W:=E.len;cases a:tA (.dy g) l r.k r.t with
  | true=>
   simp only[tA,U,are,azY,ig]at a;refine(Ok k.k r n A.1 A.2 a.1 (by omega)).mono λq h' ⟨c,t,az,s⟩=>⟨c,t,3,[i,m],az,s.up,eF.refl _ _,?_⟩;rw[gr rfl];exact⟨rfl,(iT.dy k E w).aY s⟩
  | false=>
   have Ac:=a;simp only[tA,U,azV,az1,hS]at a;refine au.cast ((arK k.k r n A.1 A.2 (a.imp id λq=>by omega)).mono λq h' ⟨j,az,z,s,o,Y⟩=>?_);subst az;obtain⟨D,M,B⟩:=aer o (er g r.t) 0;have qi:=k.k.lt;have gB:=k.k.qJ;refine⟨_,D,M,_,_,_,[i,m],rfl,(s.mono λq u=>by simp[u]).trans B λq u U=>by omega,eF.refl _ _,?_⟩;rw[gQ (by decide)];refine⟨rfl,rfl,rfl,?_⟩;have aH:=E7 (size:=g) A.1 k.k.s1;have N:ad0 D i m g (cC T e (r.k,er g r.t) n) (fb T e (r.k,er g r.t)):=⟨z.ai B (by omega) (by omega),k.st.cC _ _,k.x4.set _ _ _,λx C=>by
    rcases Xp C with C|C
    .rw[C];show 0<=er g r.t/\er g r.t<=2^41;omega
    .exact k.aO x C⟩
   exact .dy N (E.set k.x4 w.kJ _ _ _ _) (w.ll n F Ac)
 | @eA v g l k=>
  have X:kK r.t=true:=by rw[aeq];exact F
  cases a:tA (.eA g) l r.k r.t with
  | true=>
   simp only[tA,are,List.isEmpty_iff,ig]at a;refine(asz k r n X a.1 a.2).mono λq h' ⟨c,t,az,s⟩=>⟨c,t,3,i::(aS v).toList,az,s.up,eF.refl _ _,?_⟩;rw[gr rfl];exact⟨rfl,(iT.eA k).aY s⟩
  | false=>
   simp only[tA,azV,aEv,hS]at a;refine(arO k r n X (a.imp id λq=>by omega)).mono λq h' ⟨R,az,z,s,d⟩=>⟨_,_,_,i::(aS R).toList,az,s.mono λq u=>mem_io.2 u,eF.of d,?_⟩;rw[gQ (by decide)];exact⟨rfl,rfl,rfl,.eA z⟩
end
theorem asB{K:ej}{l:List ak}{c:ak}(a:(hJ K l c).2=0):ff K c=fr/\((c.del=e6/\df l c=e6/\hJ K l c=(fI l c,0))\/(c.del=fr/\(!df l c&&decide (1024<=l.length))=fr/\hJ K l c=(sK l c,0))):=by
 unfold hJ at a;split at a
 .cases a
 rename_i an;have an:ff K c=false:=by simpa using an
 refine⟨an,?_⟩;split at a
 .rename_i i;split at a
  .rename_i U;exact .inl ⟨i,U,ad9 an i U⟩
  .cases a
 .rename_i i;have i:c.del=false:=by simpa using i
  split at a
  .cases a
  .rename_i j;have j:(!df l c&&decide (1024<=l.length))=false:=by simpa using j
   exact .inr ⟨i,j,ad8 an i j⟩
theorem asC : gC mP 256 "Do" 275 := ⟨λv w => by kernel_rfl, by kernel_rfl⟩
theorem asD : gC mP 259 "Do" 280 := ⟨λv w => by kernel_rfl, by kernel_rfl⟩
theorem asE : gC mP 262 "Do" 284 := ⟨λv w => by kernel_rfl, by kernel_rfl⟩
theorem asF : gC mP 256 "List" 277 := ⟨λv w => by kernel_rfl, by kernel_rfl⟩
theorem asG : gC mP 259 "List" 282 := ⟨λv w => by kernel_rfl, by kernel_rfl⟩
theorem asH : gC mP 262 "List" 286 := ⟨λv w => by kernel_rfl, by kernel_rfl⟩
def NK:ej->Nat
 | .kv=>275
 | .dy _=>280
 | .eA _=>284
def NL:ej->Nat
 | .kv=>277
 | .dy _=>282
 | .eA _=>286
theorem TC(K : ej) : gC mP (mm K) "Do" (NK K) := by cases K; exact asC; exact asD; exact asE
theorem TD(K : ej) : gC mP (mm K) "List" (NL K) := by cases K; exact asF; exact asG; exact asH
section
variable {h h':I} {i:Nat} {O:List Nat} {K:ej} {l:List ak}
theorem asI{g a j:Int}:Cw g a j=e6↔(0<=a/\a<=1099511627776)/\er g a=a/\j=a+g:=by
 simp only[Cw,are,ig,kx,and_assoc]
theorem XA(k:iT h i O K l)(c:ak)(a6:(hJ K l c).2=0) :
  au mP (NK K) [.ptr i 0,.agg (aq c)] h (λr h'=>∃W,r=.int gj 0/\J h h' (·∈O)/\eF h O W/\iT h' i W K (hJ K l c).1):=by
 obtain⟨an,aw⟩:=asB a6;cases k with
 | @kv v l k=>
  refine(WV h i v 1024 c l k).mono λr h' ⟨L,e,D,E,d⟩=>⟨i::(aS L).toList,?_,E.mono λq F=>mem_io.2 F,eF.of d,?_⟩
  .subst e;have M:nJ c=false:=by
    simp only[ff,nM,azv,hS,Decidable.not_not,azV]at an;simp only[nJ,azv,bne_eq_false_iff_eq,azV];exact an
   obtain⟨a,s,G,u,N⟩:=c;simp only[ff,azv,hS,Decidable.not_not]at an;obtain⟨⟨rfl,rfl⟩,_⟩:=an;rcases aw with⟨z,j,_⟩|⟨z,j,_⟩
   .rw[NI k.jC]at j;simp only at z;subst z;simp[Au,M,vT,j]
   .rw[NI k.jC,ajD]at j;simp only at z;subst z;have:full 1024 l a=false:=by
     simp only[full];rw[azV]at j⊢;rcases j with j|j
     .exact .inl j
     .right;simp only[hS]at j⊢;omega
    simp[Au,M,oC,this]
  .have M:nJ c=false:=by
    simp only[ff,nM,azv,hS,Decidable.not_not,azV]at an;simp only[nJ,azv,bne_eq_false_iff_eq,azV];exact an
   obtain⟨a,s,G,u,N⟩:=c;simp only[ff,azv,hS,Decidable.not_not]at an;obtain⟨⟨rfl,rfl⟩,_⟩:=an;have e:(hJ .kv (l.map qY) ⟨a,0,0,u,N⟩).1=(vl 1024 l ⟨a,0,0,u,N⟩).map qY:=by
    rcases aw with⟨z,j,T⟩|⟨z,j,T⟩
    .rw[T];simp only at z;subst z;have:vl 1024 l ⟨a,0,0,u,e6⟩=rm l a:=by simp[vl,M]
     rw[this,asl k.jC a u e6]
    .rw[T];simp only at z;subst z;rw[NI k.jC,ajD]at j;have S:full 1024 l a=false:=by
      simp only[full];rw[azV]at j⊢;rcases j with j|j
      .exact .inl j
      .right;simp only[hS]at j⊢;omega
     have:vl 1024 l ⟨a,0,0,u,fr⟩=put l a u:=by simp[vl,M,ll,S]
     rw[this,aej k.jC a u]
   rw[e];exact .kv D
 | @dy m X g e l k Q w=>
  obtain⟨a,s,G,u,N⟩:=c;simp only[ff,azv,az1,nM]at an;obtain⟨Y,R⟩:=an;obtain⟨⟨Z,z⟩,S,rfl⟩:=asI.1 Y;have aa:=Q.len;rcases aw with⟨B,A,H⟩|⟨B,A,H⟩
  .simp only at B;subst B;simp only[azr,hS,Decidable.not_not]at R;subst R;rw[H];have C:(bR e (a,s)).isSome=true:=by rw[<-Q.has (x:=oD g a s 0) k.x4 rfl];exact A
   exact(arQ h i m X 1024 g a s e k.k Z z S C).mono λr h' ⟨az,D,E⟩=>⟨[i,m],az,E.mono λq F=>by simp[F],eF.refl _ _,
    .dy ⟨D,k.st.gT _,k.x4.del _,λx C=>k.aO x ((QZ _ _).subset C)⟩ (Q.del k.x4 w.kJ (nt.2 ⟨rfl,rfl,rfl⟩)) (w.rm _)⟩
  .simp only at B;subst B;rw[H];have C:df l ⟨a,s,s+g,u,fr⟩=(bR e (a,s)).isSome:=Q.has (v:=u) k.x4 rfl;have XB:=A;rw[C]at A;simp only[azV,az1,hS]at A;exact(arP h i m X 1024 g a s u e k.k Z z S (A.imp id λq=>by omega)).mono λr h' ⟨az,D,E⟩=>⟨[i,m],az,E.mono λq F=>by simp[F],eF.refl _ _,
    .dy ⟨D,k.st.cC _ _,k.x4.set _ _ _,λx C=>by
     rcases Xp C with C|C
     .rw[C];show 0<=s/\s<=2^41;omega
     .exact k.aO x C⟩ (Q.set k.x4 w.kJ _ _ _ _) (w.set XB rfl (by simp only[ff,Y];rfl))⟩
 | @eA v g l k=>
  obtain⟨a,s,G,u,N⟩:=c;have ic:=an;simp only[ff,azv,az1,kx,ig,hS,nM]at an;obtain⟨⟨⟨kf,mb⟩,Tg⟩,R⟩:=an;rcases aw with⟨B,A,H⟩|⟨B,A,H⟩
  .simp only at B;subst B;simp only[azr,hS,Decidable.not_not]at R;subst R;rw[H];exact(ar8 h i v 1024 g l ⟨a,s,G,0,fr⟩ ⟨kf.1,by show s<=G;omega,by show G<=2^40;omega,rfl⟩ A k).mono λr h' ⟨L,e,D,E,d⟩=>⟨i::(aS L).toList,e,E.mono λq F=>mem_io.2 F,eF.of d,.eA D⟩
  .simp only at B;subst B;rw[H];simp only[azV,az1,hS]at A;exact(IT h i v 1024 g l ⟨a,s,G,u,fr⟩ ⟨kf.1,by show s<=G;omega,by show G<=2^40;omega,rfl⟩ (A.symm.imp (λq=>by omega) id) (A.symm.imp (λq=>by omega) id) k).mono λr h' ⟨L,e,D,E,d⟩=>⟨i::(aS L).toList,e,E.mono λq F=>mem_io.2 F,eF.of d,.eA D⟩
theorem asJ(k:iT h i O K l):Pure mP (NL K) [.ptr i 0] h (gU (NF K l)):=by
 cases k with
 | @kv v l k=>
  have:=aqR h i v 1024 l k;exact this
 | @dy m q g e l k a w=>
  have j:=a.len;have B:=w.len;refine Pure.val (Xz _) ((ar1 aep h i m q 1024 g e k.k k.st (by omega) k.aO).mono λr h' ⟨s,C,u,z,A⟩=>⟨?_,s⟩);rw[A,a.list w u z];rfl
 | @eA v g l k=>exact arD h i v 1024 g l k
def Iy:ej->Int->Prop
 | .kv,_=>True
 | .dy g,n=>n=g
 | .eA g,n=>n=g
theorem asK(k:iT h i O K l)(n mark:Int)(W:Iy K n)(a:-2^63<=mark/\mark<2^63) :
  au mP 121 [.iface (mm K) (.ptr i 0),.int gj n,.int gj mark] h (λr h'=>∃C,Own h' 110 5 r ((h8 K mark l).flatMap aq)/\(∀j,aS r=eL j->h.n<=j/\j∉C)/\J h h' (·∈O)/\eF h O C/\iT h' i C K (iB K mark l)):=by
 have N:∀l:List ak,h8 .kv mark l=[]/\iB .kv mark l=l:=λl=>⟨by simp[h8,AF,zd],by simp[iB,zd]⟩;cases k with
 | @kv v l k=>
  refine a7 aDr rfl ?_;have s:jJ mP (.iface (mm .kv) (.ptr i 0)) 259 e6=eL (.tuple [.dA,.bool fr]):=by unfold jJ;rw[aAq];rfl
  have D:jJ mP (.iface (mm .kv) (.ptr i 0)) 262 e6=eL (.tuple [.dA,.bool fr]):=by unfold jJ;rw[aBg];rfl
  simp only[ae,ds,reduceCtorEq,s,D,aJ];refine ar ⟨_,?_,by simp[aS],J.refl _ _,eF.refl _ _,?_⟩
  .rw[(N _).1];exact Own.ah _ _ _
  .rw[(N _).2];exact .kv k
 | @dy m X g e l k A w=>
  obtain rfl:n=g:=W;have gk:=k.k.s1;have nA:=k.k.s2;have Q:=A.len;have aB:=w.len;refine a7 aDr rfl ?_;have s:jJ mP (.iface (mm (.dy n)) (.ptr i 0)) 259 e6=eL (.tuple [.ptr i 0,.bool e6]):=by unfold jJ;rw[aAq];rfl
  by_cases E:0<=mark
  .have F:decide (0<=mark)=true:=hO E;have Y:aPh.i64.wrap (mark-n)=mark-n:=kp _ (by omega);simp only[ae,ds,reduceCtorEq,s,F,Y];refine cp (arZ aep h i m X 1024 n (mark-n) e k.k k.st k.x4 (by omega) k.aO) λr Z ⟨G,cH,lc,jL,oX,B,u⟩=>?_;have R:∀x:ak,zd (.dy n) mark x=decide (x.to<=mark-n):=λx=>by simp[zd,E]
   have H:lc=h8 (.dy n) mark l:=by
    rw[A.exp w jL oX];unfold h8 AF
    congr 2
    exact azy λx _=>(R x).symm
   have DE:iB (.dy n) mark l=l.filter λx=>!decide (x.to<=mark-n):=azy λx _=>by rw[R x]
   rw[H]at B;simp only[ae,ds,aJ];have qi:=k.k.lt;have gB:=k.k.qJ;refine ar ⟨[i,m],B,λj z=>⟨u j z,λa=>by have:=u j z;simp at a;omega⟩,G.mono λq L=>by simp[L],eF.refl _ _,?_⟩;have S:=w.iB mark;rw[DE]at S⊢;refine .dy ⟨cH,?_,?_,λx M=>k.aO x (ajA.1 M).1⟩ A.filter S
   .have T:=k.st;exact⟨λx M=>T.1 x (by
     obtain⟨y,bg,rfl⟩:=OF.1 M;exact List.mem_map_of_mem (ajA.1 bg).1),T.2.sublist ((az8.map _).map _)⟩
   .exact k.x4.sublist (az8.map _)
  .have F:decide (0<=mark)=false:=hK E;have az:h8 (.dy n) mark l=[]:=by
    have:l.filter (zd (.dy n) mark)=[]:=by rw[aAe];intro x _;simp[zd];omega
    simp[h8,AF,this,G8]
   have bd:iB (.dy n) mark l=l:=by
    unfold iB;rw[aAn];intro x _;simp[zd];omega
   simp only[ae,ds,reduceCtorEq,s,F,aJ];refine ar ⟨_,?_,by simp[aS],J.refl _ _,eF.refl _ _,?_⟩
   .rw[az];exact Own.ah _ _ _
   .rw[bd];exact .dy k A w
 | @eA v g l k=>
  refine a7 aDr rfl ?_;have s:jJ mP (.iface (mm (.eA g)) (.ptr i 0)) 259 e6=eL (.tuple [.dA,.bool fr]):=by unfold jJ;rw[aAq];rfl
  have D:jJ mP (.iface (mm (.eA g)) (.ptr i 0)) 262 e6=eL (.tuple [.ptr i 0,.bool e6]):=by unfold jJ;rw[aBg];rfl
  simp only[ae,ds,reduceCtorEq,s,D];refine cp (ar4 h i v 1024 g mark l k) λr Z ⟨v',B,u,G,bT,d⟩=>?_;simp only[ae,ds,aJ];exact ar ⟨i::(aS v').toList,B,λj z=>⟨(u j z).1,λa=>by
   rcases mem_io.1 a with rfl|a
   .have:=(u j z).1;have:=k.lt;omega
   .exact(u j z).2 a⟩,bT.mono λq L=>mem_io.2 L,eF.of d,.eA G⟩
theorem asL(k:iT h i O K l)(n t mark:Int)(u:Iy K n)(A:kx t=e6) :
  Pure mP 197 [.iface (mm K) (.ptr i 0),.int gj n,.int gj t,.int gj mark] h (.bool (aee K t mark)):=by
 have j:=Xy.1 A;refine Pure.val (bf.bool _) ?_;cases k with
 | @kv v l k=>
  refine a7 aDs rfl ?_;have a:jJ mP (.iface (mm .kv) (.ptr i 0)) 259 e6=eL (.tuple [.dA,.bool fr]):=by unfold jJ;rw[aAq];rfl
  have q:jJ mP (.iface (mm .kv) (.ptr i 0)) 262 e6=eL (.tuple [.dA,.bool fr]):=by unfold jJ;rw[aBg];rfl
  simp only[ae,ds,reduceCtorEq,a,q,aJ];exact ar ⟨rfl,J.refl _ _⟩
 | @dy m B g e l k D w=>
  obtain rfl:n=g:=u;have z:=k.k.s1;have C:=k.k.s2;have E:=E7 (size:=n) j.1 z;refine a7 aDs rfl ?_;have a:jJ mP (.iface (mm (.dy n)) (.ptr i 0)) 259 e6=eL (.tuple [.ptr i 0,.bool e6]):=by unfold jJ;rw[aAq];rfl
  have s:aPh.i64.wrap (er n t+n)=er n t+n:=kp _ (by omega);simp only[ae,ds,reduceCtorEq,a];refine bE (M7 h i m B 1024 n t _ k.k) ?_;rw[li j.1 j.2];simp only[ae,ds,s,aJ];exact ar ⟨rfl,J.refl _ _⟩
 | @eA v g l k=>
  obtain rfl:n=g:=u;have z:=k.g1;have C:=k.g2;refine a7 aDs rfl ?_;have a:jJ mP (.iface (mm (.eA n)) (.ptr i 0)) 259 e6=eL (.tuple [.dA,.bool fr]):=by unfold jJ;rw[aAq];rfl
  have q:jJ mP (.iface (mm (.eA n)) (.ptr i 0)) 262 e6=eL (.tuple [.ptr i 0,.bool e6]):=by unfold jJ;rw[aBg];rfl
  have s:aPh.i64.wrap (t+n)=t+n:=kp _ (by omega);simp only[ae,ds,reduceCtorEq,a,q,s,aJ];exact ar ⟨rfl,J.refl _ _⟩
end
def iq(h:I)(a:Nat)(O:List Nat)(K:ej)(e:cd)(n:Int)(l:List ak):Prop :=
 ∃i j,O=a::j/\Aw h a (mm K) i e n/\iT h i j K l/\a∉j/\Iy K n
section
variable {h h':I} {a:Nat} {O:List Nat} {K:ej} {e:cd} {n:Int} {l:List ak}
theorem iq.lt(s:iq h a O K e n l):∀q∈O,q<h.n:=by
 obtain⟨i,z,rfl,u,k,ne,A⟩:=s;intro q j;rcases IN.1 j with rfl|j
 .exact u.lt
 .exact k.lt q j
theorem iq.ai{M:Nat->Prop}(s:iq h a O K e n l)(j:J h h' M)(u:∀q∈O,¬M q):iq h' a O K e n l:=by
 obtain⟨i,z,rfl,A,k,ne,B⟩:=s;exact⟨i,z,rfl,A.ai j (u _ (by simp)),k.ai j (λq C=>u q (by simp[C])),ne,B⟩
theorem iq.aY(s:iq h a O K e n l)(i:J h h' kR):iq h' a O K e n l:=s.ai i λ_ _=>by simp[kR]
theorem iq.wf(s:iq h a O K e n l):dw K l:=by obtain⟨i,j,rfl,u,k,ne,z⟩:=s;exact k.wf
def lT(K:ej)(e:cd)(l:List ak)(r:Rec):Except Int Int :=
 if kx r.t=fr then .error 2 else
 match c7 r.k r.v r.t (Kq K l r.k r.t) 16 e with
 | none=>.error 10
 | some N=>if tA K l r.k r.t then .error 3 else .ok N
def se(K:ej)(e:cd)(l:List ak)(r:Rec):V :=
 match lT K e l r with
 | .error c=>sJ c
 | .ok N=>kU r.k N (BV K l r.k r.t) (gU (sL K l r.k r.t N))
def na(K:ej)(e:cd)(l:List ak)(r:Rec):List ak :=
 match lT K e l r with
 | .error _=>l
 | .ok N=>sd K l r.k r.t N
theorem asM(w:dw K l)(r:Rec):dw K (na K e l r):=by
 unfold na lT;cases j:kx r.t with
 | false=>simpa using w
 | true=>
  rw[gQ (by decide)];cases c7 r.k r.v r.t (Kq K l r.k r.t) 16 e with
  | none=>exact w
  | some N=>
   cases i:tA K l r.k r.t with
   | true=>simpa [i]using w
   | false=>simpa [i]using w.ll N j i
theorem asN(w:dw K l)(r:Rec){N:Int}(i:lT K e l r=.ok N):h7 K l (sL K l r.k r.t N)=eL (na K e l r):=by
 have s:na K e l r=sd K l r.k r.t N:=by unfold na;rw[i]
 rw[s];unfold lT at i;cases j:kx r.t with
 | false=>rw[gr j]at i;cases i
 | true=>
  rw[gQ (by rw[j];decide)]at i;cases q:c7 r.k r.v r.t (Kq K l r.k r.t) 16 e with
  | none=>rw[q]at i;cases i
  | some M=>
   rw[q]at i;cases m:tA K l r.k r.t with
   | true=>simp[m]at i
   | false=>
    simp[m]at i;subst i;exact w.DD j m
theorem asO(s:iq h a O K e n l)(hm:dB e=e6)(ay:h4 h)(r:Rec) :
  au mP 174 [.ptr a 0,.agg (aR r)] h (λq h'=>∃j,q=se K e l r/\J h h' (·∈O)/\eF h O j/\iq h' a j K e n (na K e l r)):=by
 have aC:=s.lt;obtain⟨i,A,rfl,F,k,G,Q⟩:=s;have ko:=F.lt;have R:=k.lt;refine(aq0 F hm ay r (Kq K l r.k r.t) (·∈A) G (λq u U=>by have:=R q U;omega)
  (λH S N c t L=>∃j,eF H A j/\if tA K l r.k r.t=e6 then L=3/\iT S i j K l else L=0/\t=BV K l r.k r.t/\c=gU (sL K l r.k r.t N)/\iT S i j K (sd K l r.k r.t N))
  (λh' Y Z=>asx (k.aY Y) r Z)
  (λh' N Y Z _=>(asA (k.aY Y) r N Z).mono λq S ⟨c,t,L,j,az,T,B,aw⟩=>⟨c,t,L,az,T,j,B,aw⟩)).mono λq U ⟨yu,S,C,eh,z,P⟩=>?_
 have up:∀{j:List Nat},eF yu A j->eF h (a::A) (a::j):=λB x m=>by
  rcases IN.1 m with rfl|m
  .exact .inl (by simp)
  .rcases B x m with m|m
   .exact .inl (by simp[m])
   .exact .inr (by omega)
 cases E:kx r.t with
 | false=>
  have az:se K e l r=sJ 2:=by unfold se lT;rw[gr E]
  have bd:na K e l r=l:=by unfold na lT;rw[gr E]
  rw[gr E]at P;obtain⟨rfl,rfl⟩:=P;rw[az,bd];refine⟨a::A,rfl,(C.trans z λq u U=>by omega).up,eF.refl _ _,i,A,rfl,(F.ai C (by simp[kR])).ai z (by omega),(k.aY C).ai z λq u=>by have:=R q u;omega,G,Q⟩
 | true=>
  rw[gQ (by rw[E];decide)]at P;cases M:c7 r.k r.v r.t (Kq K l r.k r.t) 16 e with
  | none=>
   have D:lT K e l r=.error 10:=(by unfold lT;rw[gQ (by rw[E];decide),M]);have az:se K e l r=sJ 10:=(by unfold se;rw[D]);have bd:na K e l r=l:=(by unfold na;rw[D]);rw[M]at P;obtain⟨rfl,rfl⟩:=P;rw[az,bd];exact⟨a::A,rfl,(C.trans z λq u U=>by omega).up,eF.refl _ _,i,A,rfl,(F.ai C (by simp[kR])).ai z (by omega),(k.aY C).ai z λq u=>by have:=R q u;omega,G,Q⟩
  | some N=>
   rw[M]at P;obtain⟨c,t,L,T,⟨j,B,aw⟩,W⟩:=P;have wa:J h U (·∈a::A):=((C.up).trans' (T.mono λq u=>by simp[u])).trans z λq u e=>by omega
   have TF:=((F.ai C (by simp[kR])).ai T G).ai z (by omega);have nn:∀{x},x∈j->x≠h.n+1:=λ{x} m=>by
    rcases B x m with m|m
    .have:=R x m;omega
    .omega
   have fE:a∉j:=λm=>by
    rcases B a m with m|m
    .exact G m
    .omega
   cases X:tA K l r.k r.t with
   | true=>
    rw[X,gr rfl]at aw;obtain⟨rfl,hk⟩:=aw;have D:lT K e l r=.error 3:=by unfold lT;rw[gQ (by rw[E];decide),M];simp only[X,jS]
    have az:se K e l r=sJ 3:=(by unfold se;rw[D]);have bd:na K e l r=l:=(by unfold na;rw[D]);rw[gQ (by decide)]at W;rw[az,bd,W];exact⟨a::j,rfl,wa,up B,i,j,rfl,TF,hk.ai z λq u=>nn u,fE,Q⟩
   | false=>
    rw[X,gQ (by decide)]at aw;obtain⟨rfl,rfl,rfl,hk⟩:=aw;have D:lT K e l r=.ok N:=by unfold lT;rw[gQ (by rw[E];decide),M];simp only[X,azf,iC]
    have az:se K e l r=kU r.k N (BV K l r.k r.t) (gU (sL K l r.k r.t N)):=(by unfold se;rw[D]);have bd:na K e l r=sd K l r.k r.t N:=(by unfold na;rw[D]);rw[gr rfl]at W;rw[az,bd,W];exact⟨a::j,rfl,wa,up B,i,j,rfl,TF,hk.ai z λq u=>nn u,fE,Q⟩
theorem asP(s:iq h a O K e n l)(c:ak)(L:(hJ K l c).2=0) :
  au mP 117 [.ptr a 0,.agg (aq c)] h (λq h'=>∃u,q=.int gj 0/\J h h' (·∈O)/\eF h O u/\iq h' a u K e n (hJ K l c).1):=by
 obtain⟨i,z,rfl,E,k,A,M⟩:=s;have ko:=E.lt;have N:=k.lt;refine a7 Tryz.func117 rfl ?_;have cc:(kB (aq c)).cells=eL (aq c):=rfl;have Q:cw (eL (eL 5)) (eL (aq c))=eL (.agg (aq c)):=rfl;have R:cI (.cells (aq c) 110 eN) 0=eL (aq c):=rfl;obtain⟨H,hH,B,S,nq⟩:=bU h (.cells (aq c) 110 eN);have C:=E.ai B (by simp[kR]);have T:=k.aY B;have D:=C.get;obtain⟨o,m,aQ⟩:=e;rw[l0]at D;simp only[aza,aze]at D;have W:me mP (NK K)=true:=(TC K).2;simp only[ae,ds,reduceCtorEq,cc];rw[<-hH];clear hH;refine bE (Kf C) ?_;simp only[ae,ds];have X:(a∈z)=False:=eq_false A;have Y:(h.n∈z)=False:=eq_false λU=>by have:=N _ U;omega
 refine aT.cL (λx=>x∈z) [5] (.q 0 (.q 1 (.q 2 (.q 3 (.q 4 (.a 5 (.q 6 .done))))))) ?_;simp only[ae,bw,e4,ds,AT,By,reduceCtorEq,al,D,S,Q,R,X,Y,aaI (TC K)];refine QC W (XA T c L) λr ad ⟨u,bd,F,G,Z⟩=>?_;subst bd;simp only[ae,bw,e4,ds,aJ];refine ar ⟨a::u,rfl,(B.up).trans' (F.mono λq ab=>by simp[ab]),λx j=>?_,i,u,rfl,C.ai F A,Z,λj=>?_,M⟩
 .rcases IN.1 j with rfl|j
  .exact .inl (by simp)
  .rcases G x j with j|j
   .exact .inl (by simp[j])
   .exact .inr (by omega)
 .rcases G a j with j|j
  .exact A j
  .omega
theorem asQ(s:iq h a O K e n l):Pure mP 95 [.ptr a 0] h (gU (NF K l)):=by
 obtain⟨i,z,rfl,q,k,A,B⟩:=s;refine a7 Tryz.func95 rfl ?_;have j:=q.get;obtain⟨o,m,C⟩:=e;rw[l0]at j;simp only[aza,aze]at j;have u:me mP (NL K)=true:=(TD K).2;simp only[ae,ds,reduceCtorEq];refine bE (Kf q) ?_;simp only[ae,ds,AT,By,reduceCtorEq,al,j,aaI (TD K)];refine Vf u (asJ k) ?_;simp only[ae,ds,aJ];exact ar ⟨rfl,rfl⟩
theorem aeu(s:iq h a O K e n l)(mark:Int)(M:-2^63<=mark/\mark<2^63) :
  au mP 89 [.ptr a 0,.int gj mark] h (λr h'=>∃z,Own h' 110 5 r ((h8 K mark l).flatMap aq)/\(∀j,aS r=eL j->h.n<=j/\j∉z)/\J h h' (·∈O)/\eF h O z/\iq h' a z K e n (iB K mark l)):=by
 obtain⟨i,F,rfl,A,k,B,G⟩:=s;have T:=A.lt;have W:=k.lt;refine a7 Tryz.func89 rfl ?_;have C:=A.get;obtain⟨o,m,X⟩:=e;rw[l0]at C;simp only[aza,aze]at C;simp only[ae,ds,reduceCtorEq];refine bE (Kf A) ?_;simp only[ae,ds];have N:(a∈F)=False:=eq_false B;refine aT.cL (λx=>x∈F) [9] (.q 0 (.q 1 (.q 2 (.q 3 (.q 4 (.q 5 (.q 6 (.q 7 (.q 8 (.a 9 (.q 10 .done))))))))))) ?_;simp only[ae,bw,e4,ds,AT,By,reduceCtorEq,al,C,N];refine cp (asK k n mark G M) λr Y ⟨z,Q,D,H,L,R⟩=>?_;simp only[ae,bw,e4,ds,aJ];refine ar ⟨a::z,Q,λj E=>⟨(D j E).1,λu=>?_⟩,H.mono λq S=>by simp[S],λx u=>?_,i,z,rfl,A.ai H B,R,λu=>?_,G⟩
 .rcases IN.1 u with rfl|u
  .have:=(D _ E).1;omega
  .exact(D j E).2 u
 .rcases IN.1 u with rfl|u
  .exact .inl (by simp)
  .rcases L x u with u|u
   .exact .inl (by simp[u])
   .exact .inr (by omega)
 .rcases L a u with u|u
  .exact B u
  .omega
def RD(K:ej)(r:Rec)(mark:Int):Bool:=kx r.t&&aee K r.t mark
theorem asR(s:iq h a O K e n l)(r:Rec)(mark:Int):Pure mP 173 [.ptr a 0,.agg (aR r),.int gj mark] h (.bool (RD K r mark)):=by
 obtain⟨i,N,rfl,F,k,Q,G⟩:=s;refine Pure.val (bf.bool _) ?_;obtain⟨L,M,j⟩:=r;refine a7 Tryz.func173 rfl ?_;unfold aR RD;obtain⟨H,hH,u,C,_⟩:=bU h (.cells [.int gj L,.int gj M,.int gj j] 45 eN);have D:=F.ai u (by simp[kR]);have E:=k.aY u;have z:=D.get;obtain⟨o,m,R⟩:=e;rw[l0]at z;simp only[aza,aze]at z;simp only[ae,ds,reduceCtorEq];rw[<-hH];clear hH;refine bE (Kf D) ?_;simp only[ae,ds,AT,By,al,C];refine bE (adj j H) ?_;cases A:kx j with
 | false=>
  rw[show decide (0<=j/\j<=1099511627776)=fr from A];simp only[ae,ds,aJ];exact ar ⟨rfl,u⟩
 | true=>
  rw[show decide (0<=j/\j<=1099511627776)=e6 from A];simp only[ae,ds];refine aT.cL kR [] (.q 0 (.q 1 (.q 2 (.q 3 (.q 4 (.q 5 (.q 6 (.q 7 (.q 8 (.q 9 (.q 10 (.c 11 (.q 12 .done))))))))))))) ?_;simp only[ae,bw,ds,AT,By,reduceCtorEq,al,z,C];refine gh rfl rfl rfl (λh' B=>asL (h:=h') (by rcases B with B|rfl;exact E.aY B;exact E) n j mark G A) ?_;simp only[ae,bw,ds,aJ];exact ar ⟨rfl,u⟩
def DF(K:ej)(l:List ak)(key:Int):Int:=match K with | .kv=>valOf l (qh .kv key 0 0)|_=>0
theorem asS(s:iq h a O K e n l)(key:Int):Pure mP 176 [.ptr a 0,.int gj key] h (.int gj (DF K l key)):=by
 obtain⟨i,A,rfl,u,k,B,C⟩:=s;have j:=u.get;obtain⟨o,m,D⟩:=e;rw[l0]at j;simp only[aza,aze]at j;have z:Pure mP 202 [.iface (mm K) (.ptr i 0),.int gj key] h (.int gj (DF K l key)):=by
  cases k with
  | @kv v l k=>
   have:=aqY k key;rw[<-aei (v:=0) (d:=fr) k.jC]at this;exact this
  | @dy m E g e l k F w=>
   refine a7 aDi rfl ?_;have q:jJ mP (.iface (mm (.dy g)) (.ptr i 0)) 256 e6=eL (.tuple [.dA,.bool fr]):=by unfold jJ;rw[aBb];rfl
   simp only[ae,ds,reduceCtorEq,q,aJ];exact ar ⟨rfl,rfl⟩
  | @eA v g l k=>
   refine a7 aDi rfl ?_;have q:jJ mP (.iface (mm (.eA g)) (.ptr i 0)) 256 e6=eL (.tuple [.dA,.bool fr]):=by unfold jJ;rw[aBb];rfl
   simp only[ae,ds,reduceCtorEq,q,aJ];exact ar ⟨rfl,rfl⟩
 refine a7 Tryz.func176 rfl ?_;simp only[ae,ds,reduceCtorEq];refine bE (Kf u) ?_;simp only[ae,ds,AT,By,reduceCtorEq,al,j];refine bE z ?_;simp only[ae,ds,aJ];exact ar ⟨rfl,rfl⟩
end
theorem asT{Q:List V->Prop}{e:List V}(h:gO.fa Q (.cat (.int gj) (.cat (.int gj) (.cat (.int gj) .unit))) e):∃c:Rec,e=aR c:=by
 obtain⟨i,_,rfl,⟨a,rfl,_⟩,j,_,rfl,⟨b,rfl,_⟩,m,_,rfl,⟨c,rfl,_⟩,rfl⟩:=h;exact⟨⟨a,b,c⟩,rfl⟩
theorem aev{α:Type}{Q:List V->Prop}{s:gO}{enc:α->List V}(a:∀e,s.fa Q e->∃c,e=enc c):∀{es:List (List V)},(∀x∈es,s.fa Q x)->∃l:List α,es.length=l.length/\es.flatten=l.flatMap enc
 | [],_=>⟨[],rfl,rfl⟩
 | e::es,h=>by
  obtain⟨l,i,j⟩:=aev a (es:=es) λx m=>h x (by simp[m]);obtain⟨c,rfl⟩:=a e (h _ (by simp));exact⟨c::l,by simp[i],by simp[j]⟩
def qZ(a n:Int):Option ej :=
 if a=6 then eL .kv else
 if a=7 then(if 1<=n/\n<=1048576 then eL (.dy n)else eN)else
 if a=8 then(if 1<=n/\n<=1048576 then eL (.eA n)else eN)else eN
theorem asU(x:bC){K:ej}(u:qZ x.kind x.n=eL K)(G:dB x.e=e6)(W:ik x.e)(h:I)(X:h4 h) :
  au mP 75 [.agg (ao x)] h (λr h'=>∃a O,r=.tuple [.ptr a 0,.int gj 0]/\J h h' kR/\(∀q∈O,h.n<=q)/\iq h' a O K x.e x.n []):=by
 have B:∀(T:TypeId) (M:T=mm K) (N:Iy K x.n) (F:I->I->Nat->Prop) (Q:∀H j i,J h H kR->F H j i->∃O,iT j i O K []/\∀q∈O,H.n<=q)
   (z:∀H,J h H kR->au mP 113 [.agg (ao x)] H (λr h'=>∃i,r=.tuple [.iface T (.ptr i 0),.int gj 0]/\J H h' kR/\F H h' i)),
   au mP 75 [.agg (ao x)] h (λr h'=>∃a O,r=.tuple [.ptr a 0,.int gj 0]/\J h h' kR/\(∀q∈O,h.n<=q)/\iq h' a O K x.e x.n []):=λT M N F Q z=>by
  refine(aq1 x G W h X T F z).mono λr h' ⟨a,i,H,j,e,R,q,Y,kk,aW,Cn,s⟩=>?_;obtain⟨O,S,Z⟩:=Q H j i R q;subst M;have A:=R.n;refine⟨a,a::O,e,kk,λq L=>?_,i,O,rfl,s,S.aY Y,λU=>by have:=S.lt a U;omega,N⟩;rcases IN.1 L with rfl|L
  .exact aW
  .exact UN A (Z q L)
 unfold qZ at u;split at u
 .rename_i z;cases u;refine B 256 rfl trivial (λH j i=>H.n<=i/\fc j i .ah 1024 []) (λH j i _ ⟨C,D⟩=>⟨[i],.kv D,by simpa using C⟩) λH _=>?_;exact(aqW x z H).mono λr h' ⟨i,e,hi,k,E⟩=>⟨i,e,E,hi,k⟩
 split at u
 .rename_i z;split at u
  case isFalse=>cases u
  rename_i A;cases u;refine B 259 rfl rfl (λH j i=>∃m,H.n<=i/\H.n<=m/\dx j i m 1024 x.n [] 0) (λH j i _ ⟨m,C,D,fP⟩=>⟨[i,m],.dy (e:=[]) ⟨fP,⟨by simp[hW,dH],by simp[hW,dH]⟩,de.nil,by simp⟩ (by simp[fA]) (dw.nil A),by simp[C,D]⟩) λH _=>?_;exact(arH x z A.1 A.2 H).mono λr h' ⟨i,e,E,m,hi,G,k⟩=>⟨i,e,E,m,hi,G,k⟩
 split at u
 .rename_i z;split at u
  case isFalse=>cases u
  rename_i A;cases u;refine B 262 rfl rfl (λH j i=>H.n<=i/\dp j i .ah 1024 x.n []) (λH j i _ ⟨C,D⟩=>⟨[i],.eA D,by simpa using C⟩) λH _=>?_;exact(arI x z A.1 A.2 H).mono λr h' ⟨i,e,E,hi,k⟩=>⟨i,e,E,hi,k⟩
 .cases u
theorem asV{l:List Rec}{k:Nat}{kk:aPh}(h:k<l.length):∃r,hC mP 25 (.ag l.length (l.flatMap aR)) (.int kk (k:Int))=eL (.at (aR l[k]++r)) :=
 QV Av rfl (Jt h) Wj
theorem asW(s x:V)(i a:List Nat)(h:I)(rd:Rd h s i)(j:Rd h x a)(aw:i.length+a.length<=2^45) :
  Pure mP 64 [s,x] h (.ag (i++BN a).length (fN (i++BN a))):=by
 refine Pure.acc (e:=5) (sz:=1) (ET _) (by rw[r7,axD]) (by omega) ?_;refine a7 Tryz.func64 rfl ?_;have z:aPh.i64.wrap (10+(a.length:Int))=((10+a.length:Nat):Int):=by rw[kp _ (by omega)];omega
 have A:=Mz (n:=a.length) (by omega);simp only[ae,ds,reduceCtorEq,j.len h (J.refl _ _),z];refine cp (acI s i (10+a.length) h rd (by omega)) λdb m q=>?_;simp only[ae,ds,j.len m q.ai,mF hP ph,A];refine cp (ul db i a.length m q (by omega) (by omega)) λea B u=>?_;have E:=(r8 a.length (by omega)).2;obtain⟨v,F,C,D⟩:=u.app (P:=mP) (tx:=26) Mm (by decide) (j.src B u.ai) (by rw[r7,axD]) (by simp only[r7,D9,lim];omega) (by simp only[r7,D9,lim];omega);simp only[ae,ds,C,aJ];exact ar (D.conv (by rw[<-Ws,axC];rfl))
theorem asX(s:V)(j:List Nat)(l:List Int)(h:I)(rd:Rd h s j)(F:∀n∈l,-2^63<=n/\n<2^63)(aw:j.length+10*l.length<=2^45) :
  Pure mP 61 [s,.ag l.length (ax l)] h (.ag (j++Ak l).length (fN (j++Ak l))):=by
 refine Pure.acc (e:=5) (sz:=1) (ET _) (by rw[r7,axD]) (by omega) ?_;refine a7 Tryz.func61 rfl ?_;have H:aPh.i64.wrap (10+(l.length:Int))=((10+l.length:Nat):Int):=by rw[kp _ (by omega)];omega
 have L:=Mz (n:=l.length) (by omega);simp only[ae,ds,reduceCtorEq,hI,H];refine cp (acI s j (10+l.length) h rd (by omega)) λdb A M=>?_;simp only[ae,ds,hI,mF hP ph,L];refine cp (ul db j l.length A M (by omega) (by omega)) λea N O=>?_;simp only[ae,ds,hI];refine aT.bG (α:=V×Nat) (λx f h'=>f 5=x.1/\f 17=.ag l.length (ax l)/\f 18=.int gj (l.length:Nat)/\f 19=.int gj (x.2:Nat)/\Acc h h' 5 1 x.1 (fN (j++enc l.length++(l.take x.2).flatMap λn=>enc (lg n)))/\x.2<=l.length) (λx=>l.length-x.2) (ea,0)
  ⟨rfl,rfl,rfl,rfl,by simpa using O,D8 _⟩ ?_
 rintro⟨v,i⟩ f G ⟨B,q,m,a,C,hi⟩
 simp only at B a C hi;refine wpS ?_;by_cases D:i<l.length
 .have E:decide ((i:Int)<(l.length:Int))=true:=by simp;omega
  have z:=F _ (ayz D);have Q:aPh.i64.wrap ((i:Int)+1)=((i+1:Nat):Int):=by rw[kp _ (by omega)];rfl
  have u:(j++enc l.length++(l.take i).flatMap λn=>enc (lg n)).length<=2^46:=by
   have A:=acK (l:=l.take i) λn R=>F n (aAM R);have N:=(r8 l.length (by omega)).2;rw[ajB]at A;simp only[D9];omega
  simp only[ae,ds,al,B,q,m,a,E,My D kE];refine bE (acE _ G z.1 z.2) ?_;simp only[ae,ds];refine cp (ul v _ _ G C u (Dt _ z.1 z.2)) λDu T S=>?_;simp only[ae,ds,a,Q];refine ar ⟨(Du,i+1),⟨rfl,q,m,rfl,?_,by simp only;omega⟩,by simp only;omega⟩;refine S.conv ?_
  rw[acJ l _ D,axC]
 .have E:decide ((i:Int)<(l.length:Int))=false:=by simp;omega
  simp only[ae,ds,B,m,a,E,aJ];refine ar (C.conv ?_);rw[ajE (by omega),axC];rfl
theorem asY(p:V)(i:Nat)(a:List Nat)(h:I)(q:ei h p i a)(an:∀b∈a,b<256)(aw:a.length<=2^47) :
  au mP 146 [p] h (λr h'=>r=.tuple [.ag (jb a).1.length (fN (jb a).1),.int gj ((jb a).2.2:Nat)]/\ei h' p i (jb a).2.1/\J h h' (·=i)):=by
 refine au.cast ?_;refine a7 Tryz.func146 rfl ?_;simp only[ae,ds,reduceCtorEq];refine bE (rest h p i a q) ?_;simp only[ae,ds];refine bE (number a h an (by omega)) ?_;by_cases s:(dec a 0 0).2.2=0
 .have m:((((dec a 0 0).2.2:Nat):Int) !=0)=false:=by simp[s]
  have F:=Wy a 0 0;have G:=dec_lt a 0 0 (by omega) (by decide) an;obtain⟨rfl,hi,u⟩:=q;have B:=acM a (dec a 0 0).2.1 (by omega) (a:=.i64);have C:=Mz (n:=(a.drop (dec a 0 0).2.1).length) (by rw[azk];omega);by_cases z:(a.drop (dec a 0 0).2.1).length<(dec a 0 0).1
  .have A:decide ((((a.drop (dec a 0 0).2.1).length:Nat):Int)<(((dec a 0 0).1:Nat):Int))=true:=(by simpa using z);have j:jb a=([],a,4):=(by unfold jb;rw[gQ (by omega),gr z]);simp only[ae,ds,reduceCtorEq,al,qH,xX,m,u,B,mF hP ph,C,A,aJ];exact ar ⟨_,_,y9 _ _,by rw[j];rfl,by rw[j];exact⟨rfl,hi,u⟩,J.refl _ _⟩
  .have A:decide ((((a.drop (dec a 0 0).2.1).length:Nat):Int)<(((dec a 0 0).1:Nat):Int))=false:=hK (by omega);have j:jb a=((a.drop (dec a 0 0).2.1).take (dec a 0 0).1,(a.drop (dec a 0 0).2.1).drop (dec a 0 0).1,0):=(by unfold jb;rw[gQ (by omega),gQ z]);have H:(a.drop (dec a 0 0).2.1).length<=2^47:=(by rw[azk];omega);have D:=acM (a.drop (dec a 0 0).2.1) (dec a 0 0).1 (by omega) (a:=.u64);have E:=aqm (a.drop (dec a 0 0).2.1) (dec a 0 0).1 (by omega) (i:=.u64);simp only[ae,ds,reduceCtorEq,al,qH,xX,m,u,B,mF hP ph,C,A,D,E];refine bE (acz _ _ 0 _ (Rd.ag _ _) (by rw[ajB];omega)) ?_;simp only[ae,ds,aJ];exact ar ⟨_,_,aK.refl _ _,by rw[j];rfl,by rw[j];exact⟨rfl,by rw[jM];exact hi,aM⟩,J.set _ _ _⟩
 .have m:((((dec a 0 0).2.2:Nat):Int) !=0)=true:=by simp;omega
  have L:=Wx a 0 0 s;have j:jb a=([],a,(dec a 0 0).2.2):=by unfold jb;rw[gr s]
  simp only[ae,ds,xX,m,aJ];exact ar ⟨_,_,y9 _ _,by rw[j];rfl,by rw[j];exact q,J.refl _ _⟩
theorem asZ(p:V)(i:Nat)(j:List Nat)(a:Int)(h:I)(G:ei h p i j)(an:∀b∈j,b<256)(aw:j.length<=2^47)(p0:j.length<=2^40\/a<=2^40)(hm:-2^63<=a/\a<2^63) :
  au mP 144 [p,.int gj a] h (λr h'=>r=.tuple [.ag (kF j a).1.length (ax (kF j a).1),.int gj ((kF j a).2.2:Nat)]/\ei h' p i (kF j a).2.1/\J h h' (·=i)):=by
 refine au.cast ?_;refine a7 Tryz.func144 rfl ?_;have b7:=G.2.1;simp only[ae,Js,ds,reduceCtorEq];refine bE (rest h p i j G) ?_;simp only[ae,Js,ds,al];have eW:J h (h.push (.cells [.ag j.length (fN j)] 198 eN)) kR:=J.push _ _ _;have pk:ei (h.push (.cells [.ag j.length (fN j)] 198 eN)) (.ptr h.n 0) h.n j:=⟨rfl,by rw[dn];omega,ac⟩;refine cp (Rb _ h.n j _ pk an (by omega)) λr S ⟨az,db,bx⟩=>?_;subst az;have H:J h S kR:=eW.trans bx λk z hi=>by omega
 have XC:=G.ai H (by simp[kR]);have jQ:h.n<S.n:=db.2.1;have aC:=dec_lt j 0 0 (by omega) (by decide) an;by_cases jz:(dec j 0 0).2.2=0;rotate_left
 .have L:((((dec j 0 0).2.2:Nat):Int) !=0)=true:=by simp;omega
  have m:kF j a=([],j,(dec j 0 0).2.2):=by unfold kF;rw[gr jz]
  simp only[ae,Js,ds,L,aJ];exact ar ⟨_,_,y9 _ _,by rw[m];rfl,by rw[m];exact XC,H.up⟩
 .have L:((((dec j 0 0).2.2:Nat):Int) !=0)=false:=by simp[jz]
  have dq:=acN an jz;have GA:(decide (a<(0:Int))=e6\/(decide (a<(0:Int))=fr/\decide (aPh.u64.wrap a<(((dec j 0 0).1:Nat):Int))=decide (a<(((dec j 0 0).1:Nat):Int)))):=by
   by_cases T:a<0
   .left;simpa using T
   .right;refine⟨by simp;omega,?_⟩;rw[aPh.wrap_u64,aEG (by omega) (by omega)]
  by_cases M:a<0\/a<(((dec j 0 0).1:Nat):Int)
  .have m:kF j a=([],j,2):=(by unfold kF;rw[gQ (by omega),gr M]);rcases GA with D|⟨D,bt⟩
   .simp only[ae,Js,ds,L,D,aJ];exact ar ⟨_,_,y9 _ _,by rw[m];rfl,by rw[m];exact XC,H.up⟩
   .have c3:decide (a<(((dec j 0 0).1:Nat):Int))=true:=by
     rcases M with T|T
     .simp at D;omega
     .simpa using T
    simp only[ae,Js,ds,L,D,bt,c3,mF hP ph,aJ];exact ar ⟨_,_,y9 _ _,by rw[m];rfl,by rw[m];exact XC,H.up⟩
  .have D:decide (a<(0:Int))=false:=(by simp;omega);have bt:decide (aPh.u64.wrap a<(((dec j 0 0).1:Nat):Int))=false:=by
    rw[aPh.wrap_u64,aEG (by omega) (by omega)];simp;omega
   simp only[ae,Js,ds,L,D,bt,mF hP ph];refine aT.bG (α:=V×Nat×List Nat×List Int) (λx f h'=>f 0=p/\f 6=.ptr h.n 0/\f 9=x.1/\f 30=.int .u64 ((dec j 0 0).1:Nat)/\f 31=.int .u64 (x.2.1:Nat) /\
     Own h' 3 1 x.1 (ax x.2.2.2)/\(∀k,aS x.1=eL k->S.n<=k)/\J S h' (·=h.n)/\ei h' (.ptr h.n 0) h.n x.2.2.1 /\
     sH ((dec j 0 0).1-x.2.1) x.2.2.1 x.2.2.2=sH (dec j 0 0).1 (j.drop (dec j 0 0).2.1) []/\x.2.1<=(dec j 0 0).1/\(x.2.2.2.length+x.2.2.1.length<=j.length/\x.2.2.2.length<=x.2.1)/\∀b∈x.2.2.1,b<256)
    (λx=>(dec j 0 0).1-x.2.1) (.ah,0,j.drop (dec j 0 0).2.1,[])
    ⟨rfl,rfl,rfl,rfl,rfl,Own.ah _ _ _,by simp[aS],J.refl _ _,db,by simp,D8 _,⟨by simp,by simp⟩,acO an _⟩ ?_
   rintro⟨v,k,rest,q⟩ f E ⟨f0,f6,f9,C,u,aU,A,z,NM,s,tI,⟨N,RE⟩,W⟩
   simp only at f9 u aU A NM s tI N RE W;have ab:q.length<=2^40:=by rcases p0 with p0|p0<;>omega
   refine wpS ?_;have X:J h E kR:=H.trans z λk z hi=>by omega
   by_cases gw:k<(dec j 0 0).1
   .have d1:decide ((k:Int)<(((dec j 0 0).1:Nat):Int))=true:=(by simp;omega);have ib:aPh.u64.wrap ((k:Int)+1)=((k+1:Nat):Int):=(by rw[aPh.wrap_u64];omega);rw[show(dec j 0 0).1-k=((dec j 0 0).1-(k+1))+1 by omega,sH]at s;simp only[ae,Js,ds,f6,C,u,d1];refine cp (GK _ _ rest E NM W (by omega)) λr aD ⟨c2,jI,Y⟩=>?_;subst c2;have Z:J h aD kR:=X.trans Y λk z hi=>by omega
    have rQ:Own aD 3 1 v (ax q):=aU.ai Y λk z hi=>by have:=A k z;omega
    have NN:=G.ai Z (by simp[kR]);by_cases qW:(dec rest 0 0).2.2=0;rotate_left
    .have O:((((dec rest 0 0).2.2:Nat):Int) !=0)=true:=(by simp;omega);rw[gr qW]at s;have m:kF j a=([],j,(dec rest 0 0).2.2):=by
      unfold kF;rw[gQ (by omega),gQ M,<-s,gr qW]
     simp only[ae,Js,ds,O,aJ];exact ar ⟨_,_,y9 _ _,by rw[m];rfl,by rw[m];exact NN,Z.up⟩
    .have O:((((dec rest 0 0).2.2:Nat):Int) !=0)=false:=(by simp[qW]);rw[gQ (by omega)]at s;have af:=acN W qW;by_cases mj:hh (dec rest 0 0).1 < -2147483648\/2147483647<hh (dec rest 0 0).1
     .rw[gr mj]at s;have m:kF j a=([],j,2):=by
       unfold kF;rw[gQ (by omega),gQ M,<-s];rfl
      by_cases Cc:hh (dec rest 0 0).1 < -2147483648
      .have Q:decide (hh (dec rest 0 0).1<(-2147483648:Int))=true:=(by simpa using Cc);simp only[ae,Js,ds,O,Q,aJ];exact ar ⟨_,_,y9 _ _,by rw[m];rfl,by rw[m];exact NN,Z.up⟩
      .have Q:decide (hh (dec rest 0 0).1<(-2147483648:Int))=false:=(by simpa using Cc);have g2:decide ((2147483647:Int)<hh (dec rest 0 0).1)=true:=(by simp;omega);simp only[ae,Js,ds,O,Q,g2,aJ];exact ar ⟨_,_,y9 _ _,by rw[m];rfl,by rw[m];exact NN,Z.up⟩
     .rw[gQ mj]at s;have Q:decide (hh (dec rest 0 0).1<(-2147483648:Int))=false:=by simp;omega
      have g2:decide ((2147483647:Int)<hh (dec rest 0 0).1)=false:=(by simp;omega);obtain⟨v4,br,cY,dD,fP,R⟩:=QG (P:=mP) pR (by decide) rQ (xs:=[.int gj (hh (dec rest 0 0).1)]) rfl rfl (by simp[ht,lim];omega) (by simp[ht,lim];omega);simp only[ae,Js,ds,f9,u,O,Q,g2,aqn,cY,ib];have vb:¬bb v h.n:=λU=>by have:=A _ U;omega
      refine ar ⟨(v4,k+1,rest.drop (dec rest 0 0).2.1,q++[hh (dec rest 0 0).1]),⟨f0,f6,rfl,C,rfl,?_,?_,?_,jI.ai fP vb,s,by simp only;omega,?_,acO W _⟩,by simp only;omega⟩
      .simp only[ax,ay1,ajF,azd];exact dD
      .intro B F;rcases R with R|R
       .exact A B (by rw[<-R];exact F)
       .have:=R B F;have:=z.n;have:=Y.n;omega
      .refine(z.trans' Y).trans fP λB F hi=>?_;have:=A B hi;omega
      .simp only[D9,azk,axF,ayx];omega
   .have d1:decide ((k:Int)<(((dec j 0 0).1:Nat):Int))=false:=(by simp;omega);rw[show(dec j 0 0).1-k=0 by omega,sH]at s;have m:kF j a=(q,rest,0):=by
     unfold kF;rw[gQ (by omega),gQ M,<-s];rfl
    have aa:=G.ai X (by simp[kR]);obtain⟨rfl,_,nA⟩:=aa;obtain⟨_,_,nO⟩:=NM;simp only[ae,Js,ds,reduceCtorEq,al,f0,f6,f9,C,u,d1,nA,nO,aJ];have IB:J E (E.set i (.cells [.ag rest.length (fN rest)] 198 eN)) (·=i):=J.set _ _ _;have k4:Own (E.set i (.cells [.ag rest.length (fN rest)] 198 eN)) 3 1 v (ax q):=aU.ai IB λB F hi=>by have:=A B F;omega
    obtain⟨bV,c5,dN⟩:=aK.own k4 (n:=q.length) (by rw[ht,axD]) (by omega);have vb:¬bb v i:=λU=>by have:=A _ U;omega
    have Kc:ei (E.set i (.cells [.ag rest.length (fN rest)] 198 eN)) (.ptr i 0) i rest:=⟨rfl,by rw[jM];exact IS b7 X.n,aM⟩;refine ar ⟨_,bV,aK.tuple (aE.cons c5 (aE.refl _ _)),by rw[m];rfl,by rw[m];exact Kc.ai dN vb,?_⟩;refine(X.up.trans' IB).trans dN λB F hi=>?_;have:=A B hi;omega
theorem as2(op:Int):∀(s:Nat) (e:cd) (h:I),fs e=s->ik e->Pure mP 185 [.agg (aN e),.int gj op] h (.bool (uk op e)):=by
 intro s
 induction s using Nat.strongRecOn with
 | _ s ih=>
 intro e h aa G;obtain⟨o,n,a⟩:=e;refine Pure.val (bf.bool _) ?_;have u:=G.len;simp only[cd.aQ]at u;refine a7 Tryz.func185 rfl ?_;have aw:(kB (aN (.mk o n a))).cells=eL (aN (.mk o n a)):=rfl;have H:cI (aP.cells (aN (.mk o n a)) 66 eN) 0=eL [.int gj o,.int gj n,.ag a.length (a.flatMap aN)]:=by rw[l0];rfl
 have Q:cI (aP.cells (aN (.mk o n a)) 66 eN) 2=eL [.ag a.length (a.flatMap aN)]:=by rw[l0];rfl
 by_cases C:o=op
 .have c:(o==op)=true:=by simp[C]
  simp only[ae,ds,al,aw,H,c,aJ];exact ar ⟨by simp[uk,C],J.push _ _ _⟩
 have c:(o==op)=false:=by simp[C]
 have L:uk op (.mk o n a)=um op a:=by simp[uk,c]
 simp only[ae,ds,al,Ae,aw,H,Q,c];refine aT.bG (α:=Nat) (λi f h'=>f 1=.int gj op/\f 12=.ag a.length (a.flatMap aN)/\f 13=.int gj (a.length:Int)/\f 14=.int gj (i:Nat)/\i<=a.length/\J h h' kR/\um op a=um op (a.drop i)) (λi=>a.length-i) 0 ⟨rfl,rfl,rfl,rfl,D8 _,J.push _ _ _,rfl⟩ ?_
 rintro i f h' ⟨M,z,j,m,hi,D,B⟩
 refine wpS ?_;by_cases E:i<a.length;rotate_left
 .have F:=dY i a.length;rw[azg (by omega)]at B;simp only[ae,ds,j,m,F,aJ];exact ar ⟨by rw[L,B];simp[um],D⟩
 .have F:=dK i a.length;rw[ay0 E]at B;have R:=Mr (kk:=.i64) E;have N:a[i]∈(cd.mk o n a).aQ:=ayz E;have jY:=Wp _ N;have S:=G.ES _ N;generalize a[i]=A at *;have T:∀(q:List V),cw (eL (eL 3)) (eL (aN A++q))=eL (.agg (aN A)):=λq=>j1 (r5 A);have W:(kB (aN A)).cells=eL (aN A):=rfl;have X:bD (eL 3) (aP.cells [.int gj 0,.int gj 0,.ah] 66 eN) 0 (aN A)=eL (.cells (aN A) 66 eN):=by
   rw[u0 (n:=3) (r5 A) (Mq A),gr (by decide)];cases A;rfl
  have Y:cI (aP.cells (aN A) 66 eN) 0=eL (aN A):=by cases A;rfl
  have Z:cw (eL (eL 3)) (eL (aN A))=eL (.agg (aN A)):=by cases A;rfl
  have bY:=iM i;simp only[ae,ds,al,M,z,j,m,F,R,T,W,X,Y,Z];refine bE (ih (fs A) (by omega) A _ rfl S) ?_;cases O:uk op A with
  | true=>
   simp only[ae,ds,aJ];exact ar ⟨by rw[L,B];simp[um,O],D.bp _⟩
  | false=>
   simp only[ae,ds,m,bY];exact ar ⟨i+1,⟨M,z,j,rfl,by omega,D.bp _,by rw[B];simp[um,O]⟩,by omega⟩
theorem DG(v:bC):(ao v).all (·.one)=true:=by
 have:=Mq v.e;simp only[ao,List.all_append,this];rfl
theorem sM(v:bC):ao v=[.int gj v.kind,.ag v.bn.length (ax v.bn),.int gj v.e.op,.int gj v.e.num,.ag v.e.aQ.length (v.e.aQ.flatMap aN),.int gj v.n]:=by
 obtain⟨k,f,⟨o,m,a⟩,n⟩:=v;simp[ao,l0,cd.op,cd.num,cd.aQ]
def nb(x:Int):Prop:=-2^63<=x/\x<2^63
def yH(v:bC):Prop:=ik v.e/\v.bn.length<2^47/\nb v.kind/\nb v.n/\∀f∈v.bn,nb f
abbrev DH:=Int×Int×Int×Int
def mn:List DH:=[(0,0,0,0),(0,0,0,7),(1,1,0,0),(1,1,0,0),(1,1,0,0),(1,1,0,0),(1,2,0,0),(1,2,1,1048576),(1,2,1,1048576),(2,2,0,0),(1,0,0,7)]
def RF(q:DH):List V:=[.int gj q.1,.int gj q.2.1,.int gj q.2.2.1,.int gj q.2.2.2]
def qj:List V:=mn.flatMap RF
def iU(h:I):Prop:=h4 h/\h.glob 1=eL qj
theorem iU.ai{h h':I}{M:Nat->Prop}(i:iU h)(j:J h h' M):iU h':=⟨i.1.ai j,by rw[j.glob];exact i.2⟩
theorem iU.or{h j h':I}{M:Nat->Prop}(s:iU j)(u:iU h)(i:J j h' M\/h'=h):iU h':=by
 rcases i with i|rfl
 .exact s.ai i
 .exact u
def BW(e:cd)(k:Int):Bool:=if k=0 then(e.op==0&&(e.num==0&&e.aQ.isEmpty))else(dB e&&(k==2||!uk 5 e))
def w7(v:bC)(q:DH):Bool:=decide ((v.bn.length:Int)=q.1)&&(BW v.e q.2.1&&(decide (q.2.2.1<=v.n)&&decide (v.n<=q.2.2.2)))
def l2(v:bC):Bool:=w7 v (mn.getD v.kind.toNat (0,0,0,0))
def gK(l:List bC)(f:Int):Int:=((l[f.toNat]?).map bC.kind).getD 0
def Hc(l:List bC)(i:Nat)(v:bC):Bool:=(v.kind==1||v.kind==10)&&(l.take i).any λu=>u.kind==v.kind&&u.n==v.n
def dV(l:List bC)(i:Nat)(v:bC):Int :=
 if v.kind<1\/10<v.kind then 1 else
 if(v.bn.any λf=>decide (f<0\/(i:Int)<=f))=e6 then 2 else
 if l2 v=fr then 5 else
 if Hc l i v=e6 then 12 else
 if(v.bn.any λf=>gK l f==10)=e6 then 5 else
 if v.kind=9/\gK l (v.bn.getD 1 0)≠6 then 5 else 0
def qk(l:List bC):Nat->List bC->Int×Int
 | _,[]=>(-1,0)
 | i,v::r=>if dV l i v=0 then qk l (i+1) r else((i:Int),dV l i v)
def cj(p:Int)(l:List bC):Int×Int:=if p<1\/8<p\/l.length=0\/24<l.length then(-1,2)else qk l 0 l
def ir(v:Int):Nat->List bC->List Int
 | _,[]=>[]
 | i,u::r=>(if u.bn.contains v then [(i:Int)]else [])++ir v (i+1) r
theorem aex(v:Int)(u:bC):∀(l:List bC) (j:Nat),ir v j (l++[u])=ir v j l++(if u.bn.contains v then [((j+l.length:Nat):Int)]else [])
 | [],j=>by simp[ir]
 | a::r,j=>by
  simp only[aza,ir,aex v u r (j+1),axF,axC];rw[show j+1+r.length=j+(r.length+1)by omega]
theorem Hd{v k:Int}:∀{l:List bC} {j:Nat},k∈ir v j l↔∃(m:Nat) (u:bC),k=((j+m:Nat):Int)/\l[m]?=eL u/\v∈u.bn
 | [],j=>by simp[ir]
 | a::r,j=>by
  simp only[ir,axE,Hd (l:=r)]
  constructor
  .rintro(h|⟨m,u,s,i,q⟩)
   .split at h
    .rename_i aw;exact⟨0,a,by simpa using h,rfl,by simpa using aw⟩
    .simp at h
   .exact⟨m+1,u,by omega,by simpa using i,q⟩
  .rintro⟨m,u,s,i,q⟩
   cases m with
   | zero=>
    left;simp at i;subst i;rw[gr (by simpa using q)];simpa using s
   | succ m=>exact .inr ⟨m,u,by omega,by simpa using i,q⟩
theorem He{v:Int}:∀{l:List bC} {j:Nat},(ir v j l).length<=l.length
 | [],j=>by simp[ir]
 | a::r,j=>by
  have:=He (v:=v) (l:=r) (j:=j+1);simp only[ir,D9,axF];split<;>simp<;>omega
theorem XD{l:List bC}:∀{a:List bC} {i:Nat},(qk l i a).2=0->qk l i a=(-1,0)/\∀k v,a[k]?=eL v->dV l (i+k) v=0
 | [],i,h=>⟨rfl,by simp⟩
 | u::a,i,h=>by
  unfold qk at h⊢;split at h
  .rename_i j;rw[gr j];obtain⟨q,s⟩:=XD h;refine⟨q,λk v m=>?_⟩;cases k with
   | zero=>simp at m;subst m;exact j
   | succ k=>rw[show i+(k+1)=i+1+k by omega];exact s k v (by simpa using m)
  .rename_i j;exact absurd h j
theorem as3(e:cd)(k:Int)(A:ik e)(h:I)(B:h4 h):Pure mP 167 [.agg (aN e),.int gj k] h (.bool (BW e k)):=by
 refine Pure.val (bf.bool _) ?_;have m:aN e=[.int gj e.op,.int gj e.num,.ag e.aQ.length (e.aQ.flatMap aN)]:=by obtain⟨o,n,l⟩:=e;rw[l0];rfl
 have C:∀a,h4 (h.push a):=λa=>by unfold h4;rw[Gp];exact B
 have aw:(kB (aN e)).cells=eL (aN e):=rfl;have D:cw (eL eN) (eL (aN e))=eL (.int gj e.op):=by rw[m];rfl
 have s:cI (aP.cells (aN e) 66 eN) 0=eL (aN e):=by rw[m];rfl
 have E:cI (aP.cells (aN e) 66 eN) 1=eL [.int gj e.num,.ag e.aQ.length (e.aQ.flatMap aN)]:=by rw[m];rfl
 have F:cI (aP.cells (aN e) 66 eN) 2=eL [.ag e.aQ.length (e.aQ.flatMap aN)]:=by rw[m];rfl
 have z:cw (eL (eL 3)) (eL (aN e))=eL (.agg (aN e)):=by rw[m];rfl
 refine a7 Tryz.func167 rfl ?_;by_cases q:k=0
 .have c:(k==0)=true:=by simp[q]
  have G:((e.aQ.length:Int)==0)=e.aQ.isEmpty:=by cases e.aQ<;>simp;omega
  cases j:(e.op==0)<;>cases i:(e.num==0) <;>
  .simp only[ae,ds,al,Ae,aw,c,D,s,E,F,j,i,G,aJ];exact ar ⟨by simp[BW,q,j,i],J.push _ _ _⟩
 .have c:(k==0)=false:=by simp[q]
  have u:BW e k=(dB e&&(k==2||!uk 5 e)):=by simp[BW,q]
  simp only[ae,ds,al,aw,c,s,z];refine bE (GG e _ (C _)) ?_;cases j:dB e
  .simp only[ae,ds,aJ];exact ar ⟨by rw[u,j];rfl,J.push _ _ _⟩
  .cases i:(k==2)
   .simp only[ae,ds,al,s,z,i];refine bE (as2 5 _ e _ rfl A) ?_;simp only[ae,ds,aJ];exact ar ⟨by rw[u,j,i];simp,J.push _ _ _⟩
   .simp only[ae,ds,i,aJ];exact ar ⟨by rw[u,j,i];rfl,J.push _ _ _⟩
theorem as4(v:bC)(q:DH)(M:ik v.e)(h:I)(N:h4 h):Pure mP 141 [.agg (ao v),.agg (RF q)] h (.bool (w7 v q)):=by
 refine Pure.val (bf.bool _) ?_;obtain⟨a,i,j,s⟩:=q;have D:=sM v;have aw:(kB (ao v)).cells=eL (ao v):=rfl;have E:(kB (RF (a,i,j,s))).cells=eL [.int gj a,.int gj i,.int gj j,.int gj s]:=rfl;have F:cI (aP.cells (ao v) 68 eN) 1=eL [.ag v.bn.length (ax v.bn),.int gj v.e.op,.int gj v.e.num,.ag v.e.aQ.length (v.e.aQ.flatMap aN),.int gj v.n]:=by rw[D];rfl
 have O:cI (aP.cells (ao v) 68 eN) 2=eL (aN v.e++[.int gj v.n]):=rfl;have G:cI (aP.cells (ao v) 68 eN) 5=eL [.int gj v.n]:=by rw[D];rfl
 have Q:cw (eL (eL 3)) (eL (aN v.e++[.int gj v.n]))=eL (.agg (aN v.e)):=j1 (r5 v.e);refine a7 Tryz.func141 rfl ?_;obtain⟨H,hH⟩:∃x,x=(h.push (.cells (ao v) 68 eN)).push (.cells [.int gj a,.int gj i,.int gj j,.int gj s] 245 eN):=⟨_,rfl⟩;have u:H.get h.n=.cells (ao v) 68 none:=by rw[hH];exact yZ
 have z:H.get (h.n+1)=.cells [.int gj a,.int gj i,.int gj j,.int gj s] 245 none:=by rw[hH];exact zO
 have m:J h H kR:=by rw[hH];exact(J.push _ _ _).bp _
 have R:h4 H:=N.ai m;cases A:((v.bn.length:Int)==a)
 .have C:decide ((v.bn.length:Int)=a)=false:=by simpa using A
  simp only[ae,ds,AT,al,hI,aw,E,<-hH,u,z,F,A,aJ];exact ar ⟨by simp[w7,C],m⟩
 .have C:decide ((v.bn.length:Int)=a)=true:=by simpa using A
  simp only[ae,ds,AT,By,al,hI,aw,E,<-hH,u,z,F,O,Q,A];refine bE (as3 v.e i M _ R) ?_;cases L:BW v.e i
  .simp only[ae,ds,aJ];exact ar ⟨by simp[w7,L],m⟩
  cases B:decide (j<=v.n)
  .simp only[ae,ds,AT,By,al,u,z,G,B,aJ];exact ar ⟨by simp[w7,B],m⟩
  .simp only[ae,ds,AT,By,al,u,z,G,B,aJ];exact ar ⟨by simp only[w7,C,L,B,azr],m⟩
def AJ(p:Int×Int):V:=.agg [.int gj p.1,.int gj p.2]
theorem PP:ED mP 248=eL [0,0]:=by kernel_rfl
theorem as5(e:Bool)(a b:Int):yW mP e 248 (AJ (a,b))=true:=by
 cases e<;>kernel_rfl
theorem NO:∃d,eQ mP 191=eL (248,3,d)/\wD d=false:=by
 have h:(eQ mP 191).map (λq=>(q.1,q.2.1,wD q.2.2))=eL (248,3,fr):=by kernel_rfl
 cases i:eQ mP 191 with
 | none=>rw[i]at h;cases h
 | some q=>
  rw[i]at h;obtain⟨a,b,d⟩:=q;simp only[azi,Option.some.injEq,Prod.mk.injEq]at h;obtain⟨rfl,rfl,h⟩:=h;exact⟨d,rfl,h⟩
theorem NP:nh mP 3=eL (.int gj 0):=by kernel_rfl
theorem TH{d:TypeDesc}(m:wD d=fr):iL mP 248 d AJ where
 eq a b:=by
  have h:gl [0,0] [.int gj a.1,.int gj a.2] [.int gj b.1,.int gj b.2]=eL (a.1==b.1&&a.2==b.2):=by simp[gl]
  obtain⟨gJ,s,i,j⟩:=LM h;obtain⟨q,_⟩:=QU PP h i j;have:wE mP 248 d (AJ a) (AJ b)=eL (a.1==b.1&&a.2==b.2):=by
   unfold wE AJ;simp only[pd,i,j,azi,m,q];rfl
  rw[this,Option.some.injEq,ay2];simp only[are,beq_iff_eq,ig];exact⟨λh=>Prod.ext h.1 h.2,λh=>⟨iy Prod.fst h,iy Prod.snd h⟩⟩
 ok b a:=as5 b a.1 a.2
 bits a:=by
  refine⟨_,rfl,?_⟩;simp[Instr.sameBits]
abbrev uB:=List (Nat×(Int×Int)×Int)
def x6(l:uB):List (Nat×V×V):=dH AJ (kA gj) l
theorem as6{h:I}{i j:Nat}(l:uB)(a b:Int)(m:h.get i=.map (x6 l) j):ni mP 191 (.map i) (.agg [.int gj a,.int gj b]) e6 h=eL (.tuple [.int gj ((bR l (a,b)).getD 0),.bool (bR l (a,b)).isSome]):=by
 obtain⟨d,q,s⟩:=NO;have:=L1 (enc:=kA gj) (ok:=e6) (TH s) (k:=(a,b)) q NP m;rw[show(kB [.int gj a,.int gj b])=AJ (a,b)from rfl,this];cases bR l (a,b)<;>simp[fY,gR]
theorem XE{h:I}{i j:Nat}(l:uB)(a b v:Int)(m:h.get i=.map (x6 l) j):vB mP 191 (.map i) (.agg [.int gj a,.int gj b]) (.int gj v) h=eL (h.set i (.map (x6 (cC j l (a,b) v)) (fb j l (a,b)))):=by
 obtain⟨d,q,s⟩:=NO;exact L2 (enc:=kA gj) (TH s) (k:=(a,b)) q m rfl
def w9(l:List bC)(a:uB):Prop:=∀k n,(k=1\/k=10)->(bR a (k,n)).isSome=l.any λu=>u.kind==k&&u.n==n
theorem w9.nil:w9 [] []:=λk n _=>rfl
theorem w9.set{l:List bC}{es:uB}(a:w9 l es)(v:bC)(cl:Nat)(x:Int):w9 (l++[v]) (cC cl es (v.kind,v.n) x):=λk n j=>by
 rw[y5,aDt];simp only[aDu,aEH,azx];by_cases i:(k,n)=(v.kind,v.n)
 .rw[gr i];cases i;simp
 .rw[gQ i,a k n j];have:(v.kind==k&&v.n==n)=false:=by
   rw[aEI];intro U;simp only[are,beq_iff_eq]at U;exact i (by rw[U.1,U.2])
  rw[this,azx]
theorem w9.skip{l:List bC}{es:uB}(a:w9 l es){v:bC}(j:¬(v.kind=1\/v.kind=10)):w9 (l++[v]) es:=λk n i=>by
 rw[a k n i,aDt];simp only[aDu,aEH,azx];have:(v.kind==k&&v.n==n)=false:=by
  rw[aEI];intro U;simp only[are,beq_iff_eq]at U;exact j (by rw[U.1];exact i)
 rw[this,azx]
theorem RG{α:Type}{l:List α}{j:Nat}(p:α->Bool)(a:j<l.length):(l.take (j+1)).any p=((l.take j).any p||p l[j]):=by
 rw[ayY a,aDt];simp
theorem Fi{l:List bC}{q:Nat}(a:q<l.length):hC mP 22 (.ag l.length (l.flatMap ao)) (.int gj (q:Int))=eL (.at (ao l[q]++(l.drop (q+1)).flatMap ao))/\(∀r,cw (eL eN) (eL (ao l[q]++r))=eL (.int gj (gK l (q:Int))))/\gK l (q:Int)=l[q].kind:=by
 have i:gK l (q:Int)=l[q].kind:=by unfold gK;rw[ayw,Jt a];rfl
 refine⟨r0 lp a EO,λr=>?_,i⟩;rw[i,sM];rfl
theorem Hf{v:bC}(i:v.kind=9)(a:l2 v=e6):v.bn.length=2:=by
 simp only[l2,i,w7,are,ig]at a;have:=a.1;simp[mn]at this;omega
theorem XF{l:List Int}(a:1<l.length):(if(1:Int)<(l.length:Int)/\ay4 1*1<=(ax l).length then eL (V.at (azE (ay4 1*1) (ax l)))else eN)=eL (V.at (kA gj l[1]::ax (l.drop 2))):=by
 rw[gr ⟨by omega,by rw[ht];show 1*1<=_;omega⟩];show eL (V.at ((l.map (kA gj)).drop 1))=_;rw[<-List.map_drop,ay0 a];rfl
theorem as7:∀q:Nat,q<11->cw (eL (eL 4)) (eL (qj.drop (q*4)))=eL (.agg (RF (mn.getD q (0,0,0,0))))
 | 0,_=>rfl
 | 1,_=>rfl
 | 2,_=>rfl
 | 3,_=>rfl
 | 4,_=>rfl
 | 5,_=>rfl
 | 6,_=>rfl
 | 7,_=>rfl
 | 8,_=>rfl
 | 9,_=>rfl
 | 10,_=>rfl
 | q+11,h=>by omega
theorem as8(l:List bC)(i m cl:Nat)(Z:uB)(hi:i<l.length)(rA:l.length<=24)(v:bC)(aI:l[i]=v)(a1:ik v.e)(lN:v.bn.length<2^47)(h:I)(ay:iU h)(hm:m<h.n)(fe:h.get m=.map (x6 Z) cl)(cv:w9 (l.take i) Z) :
  au mP 100 [.ag l.length (l.flatMap ao),.int gj (i:Nat),.map m] h (λr h'=>r=.int gj (dV l i v)/\J h h' (·=m)/\(dV l i v=0->∃gL AK,h'.get m=.map (x6 gL) AK/\w9 (l.take (i+1)) gL)):=by
 have fW:=sM v;have eg:=r0 (kk:=.i64) (P:=mP) lp hi EO;rw[aI]at eg;have TJ:l.take (i+1)=l.take i++[v]:=by rw[ayY hi,aI]
 have iO:∀(q:List V),cw (eL (eL 6)) (eL (ao v++q))=eL (.agg (ao v)):=λq=>j1 (lp v);have ch:(kB (ao v)).cells=eL (ao v):=rfl;have dI:bD (eL 6) (aP.cells [.int gj 0,.ah,.int gj 0,.int gj 0,.ah,.int gj 0] 68 eN) 0 (ao v)=eL (.cells (ao v) 68 eN):=by
  rw[u0 (n:=6) (lp v) (DG v),gr (by decide),fW];rfl
 have E:cw (eL eN) (eL (ao v))=eL (.int gj v.kind):=by rw[fW];rfl
 have F:cI (aP.cells (ao v) 68 eN) 0=eL (ao v):=by rw[fW];rfl
 have hj:cI (aP.cells (ao v) 68 eN) 1=eL [.ag v.bn.length (ax v.bn),.int gj v.e.op,.int gj v.e.num,.ag v.e.aQ.length (v.e.aQ.flatMap aN),.int gj v.n]:=by rw[fW];rfl
 have w8:cI (aP.cells (ao v) 68 eN) 5=eL [.int gj v.n]:=by rw[fW];rfl
 have mX:cw (eL (eL 6)) (eL (ao v))=eL (.agg (ao v)):=by rw[fW];rfl
 obtain⟨H,hH,bl,wb,hx⟩:=bU h (.cells (ao v) 68 eN);have j2:iU H:=ay.ai bl;have Cx:H.get m=.map (x6 Z) cl:=(bl.get m hm (by simp[kR])).trans fe;refine a7 Tryz.func100 rfl ?_;by_cases X:v.kind<1
 .have ba:decide (v.kind<1)=true:=by simpa using X
  have a:dV l i v=1:=by unfold dV;rw[gr (.inl X)]
  simp only[ae,ds,reduceCtorEq,al,eg,iO,ch,dI,<-hH,wb,E,F,ba,aJ];exact ar ⟨by rw[a],bl.up,λU=>by rw[a]at U;cases U⟩
 have ba:decide (v.kind<1)=false:=by simpa using X
 by_cases ad:10<v.kind
 .have bt:decide (10<v.kind)=true:=by simpa using ad
  have a:dV l i v=1:=by unfold dV;rw[gr (.inr ad)]
  simp only[ae,ds,reduceCtorEq,al,eg,iO,ch,dI,<-hH,wb,E,F,ba,bt,aJ];exact ar ⟨by rw[a],bl.up,λU=>by rw[a]at U;cases U⟩
 have bt:decide (10<v.kind)=false:=by simpa using ad
 simp only[ae,ds,reduceCtorEq,al,hI,eg,iO,ch,dI,<-hH,wb,E,F,hj,ba,bt];refine aT.bG (α:=Nat) (λj f h'=>f 0=.ag l.length (l.flatMap ao)/\f 1=.int gj (i:Nat)/\f 2=.map m/\f 7=.ptr h.n 0/\f 28=.ag v.bn.length (ax v.bn)/\f 29=.int gj (v.bn.length:Int)/\f 30=.int gj (j:Nat)/\j<=v.bn.length/\h'=H/\((v.bn.take j).any λf=>decide (f<0\/(i:Int)<=f))=fr) (λj=>v.bn.length-j) 0 ⟨rfl,rfl,rfl,rfl,rfl,rfl,rfl,D8 _,rfl,rfl⟩ ?_
 rintro j f h' ⟨f0,f1,f2,f7,av,ab,aA,aV,rfl,jZ⟩
 refine wpS ?_;by_cases aC:j<v.bn.length
 .have c3:=dK j v.bn.length;have u:=vH (P:=mP) (kk:=.i64) aC kE;have bY:=iM j;have fx:=RG (λf=>decide (f<0\/(i:Int)<=f)) aC;have z:v.bn[j]∈v.bn:=ayz aC;generalize v.bn[j]=A at u fx z;have aB:∀an:A<0\/(i:Int)<=A,dV l i v=2:=λan=>by
   unfold dV;rw[gQ (by omega),gr (aAp.2 ⟨A,z,by simpa using an⟩)]
  by_cases eh:A<0
  .have d1:decide (A<0)=true:=(by simpa using eh);simp only[ae,ds,al,av,ab,aA,c3,u,d1,aJ];exact ar ⟨by rw[aB (.inl eh)],bl.up,λU=>by rw[aB (.inl eh)]at U;cases U⟩
  have d1:decide (A<0)=false:=by simpa using eh
  by_cases c6:(i:Int)<=A
  .have d2:decide ((i:Int)<=A)=true:=(by simpa using c6);simp only[ae,ds,al,f1,av,ab,aA,c3,u,d1,d2,aJ];exact ar ⟨by rw[aB (.inr c6)],bl.up,λU=>by rw[aB (.inr c6)]at U;cases U⟩
  have d2:decide ((i:Int)<=A)=false:=by simpa using c6
  simp only[ae,ds,al,f1,av,ab,aA,c3,u,d1,d2,bY];exact ar ⟨j+1,⟨f0,f1,f2,f7,av,ab,rfl,by omega,rfl,by rw[fx,jZ];simp[eh,c6]⟩,by omega⟩
 have c3:=dY j v.bn.length;rw[ajE (by omega)]at jZ;have mj:∀x∈v.bn,0<=x/\x<i:=λx af=>by
  rw[aAo]at jZ;have:=jZ x af;simp only[ig]at this;omega
 simp only[ae,ab,aA,c3];have ug:∀f:aj,aj.eval f h' (.global 1)=.at qj:=λf=>Lj j2.2;have gA:(if(0:Int)<=v.kind/\v.kind<((11:Nat):Int)/\(v.kind.toNat*4)<=qj.length then eL (V.at (qj.drop (v.kind.toNat*4)))else eN)=eL (.at (qj.drop (v.kind.toNat*4))):=gr ⟨by omega,by omega,by show _<=44;omega⟩;have XG:=as7 v.kind.toNat (by omega);have eD:¬(v.kind<1\/10<v.kind):=by omega
 have o1:¬((v.bn.any λf=>decide (f<0\/(i:Int)<=f))=e6):=by rw[jZ];simp
 refine aT.cL kR [] (.q 0 (.q 1 (.q 2 (.q 3 (.q 4 (.c 5 (.q 6 .done))))))) ?_;simp only[ae,bw,ds,al,f7,wb,F,E,mX,ug,gA,XG];refine gh rfl rfl rfl (λyI hk=>as4 v _ a1 yI (j2.or j2 hk).1) ?_;have NQ:w7 v (mn.getD v.kind.toNat (0,0,0,0))=l2 v:=rfl;cases eb:l2 v
 .have a:dV l i v=5:=by unfold dV;rw[gQ eD,gQ o1,gr eb]
  simp only[ae,bw,ds,NQ,eb,aJ];exact ar ⟨by rw[a],bl.up,λU=>by rw[a]at U;cases U⟩
 simp only[ae,bw,ds,al,NQ,eb];have rB:¬(l2 v=fr):=by rw[eb];simp
 have aF:(kB [.int gj v.kind,.int gj v.n]).cells=eL [.int gj v.kind,.int gj v.n]:=rfl;by_cases aa:v.kind=1\/v.kind=10
 .obtain⟨RH,Fj,bT,nN,_⟩:=bU h' (.cells [.int gj v.kind,.int gj v.n] 248 eN);have aG:RH.get h.n=.cells (ao v) 68 none:=(bT.get h.n (by omega) (by simp[kR])).trans wb;have TK:RH.get m=.map (x6 Z) cl:=(bT.get m (by omega) (by simp[kR])).trans Cx;have fR:=as6 Z v.kind v.n TK;have r9:=XE Z v.kind v.n (i:Nat) TK;have XH:(bR Z (v.kind,v.n)).isSome=Hc l i v:=by
   rw[cv v.kind v.n aa];unfold Hc;rcases aa with aa|aa<;>rw[aa]<;>rfl
  rw[XH]at fR;have TL:((v.kind==1)=e6/\(v.kind==10)=fr)\/((v.kind==1)=fr/\(v.kind==10)=e6):=by
   rcases aa with aa|aa<;>rw[aa]<;>simp
  cases S:Hc l i v
  .rw[S]at fR;obtain⟨Y,xa⟩:∃x,x=RH.set m (.map (x6 (cC cl Z (v.kind,v.n) (i:Nat))) (fb cl Z (v.kind,v.n))):=⟨_,rfl⟩;have c8:J RH Y (·=m):=by rw[xa];exact J.set _ _ _
   have T:Y.get h.n=.cells (ao v) 68 none:=(c8.get h.n (by rw[Fj,dn];omega) (by omega)).trans aG;have aH:Y.get m=.map (x6 (cC cl Z (v.kind,v.n) (i:Nat))) (fb cl Z (v.kind,v.n)):=(by rw[xa];exact aM);have W:J h Y (·=m):=((bl.trans' bT).up).trans' c8;have mJ:∃gL AK,Y.get m=.map (x6 gL) AK/\w9 (l.take (i+1)) gL:=⟨_,_,aH,by rw[TJ];exact cv.set v _ _⟩;rcases TL with⟨c5,jy⟩|⟨c5,jy⟩
   .simp only[ae,ds,AT,By,al,hI,f1,f2,f7,wb,E,F,hj,w8,c5,aF,<-Fj,nN,fR,r9,<-xa,T];refine aT.bG (α:=Nat) (λj f X=>f 0=.ag l.length (l.flatMap ao)/\f 7=.ptr h.n 0/\f 73=.ag v.bn.length (ax v.bn)/\f 74=.int gj (v.bn.length:Int)/\f 75=.int gj (j:Nat)/\j<=v.bn.length/\X=Y/\((v.bn.take j).any λf=>gK l f==10)=fr) (λj=>v.bn.length-j) 0 ⟨f0,f7,rfl,rfl,rfl,D8 _,rfl,rfl⟩ ?_
    rintro B TM X ⟨G,Q,uD,C,L,tg,rfl,b4⟩
    refine wpS ?_;by_cases jY:B<v.bn.length
    .have D:=dK B v.bn.length;have u:=vH (P:=mP) (kk:=.i64) jY kE;have bY:=iM B;have fx:=RG (λf=>gK l f==10) jY;have z:v.bn[B]∈v.bn:=ayz jY;generalize v.bn[B]=A at u fx z;obtain⟨jL,oX⟩:=mj A z;obtain⟨q,rfl⟩:∃q:Nat,A=(q:Int):=⟨A.toNat,by omega⟩;obtain⟨M,N,hX⟩:=Fi (l:=l) (q:=q) (by omega);cases s:(gK l (q:Int)==10)
     .simp only[ae,ds,reduceCtorEq,al,G,uD,C,L,D,u,M,N,s,bY];exact ar ⟨B+1,⟨G,Q,uD,C,rfl,by omega,rfl,by rw[fx,b4,s];rfl⟩,by omega⟩
     .have a:dV l i v=5:=by
       unfold dV;rw[gQ eD,gQ o1,gQ rB,gQ (by rw[S];simp),gr (aAp.2 ⟨_,z,s⟩)]
      simp only[ae,ds,reduceCtorEq,al,G,uD,C,L,D,u,M,N,s,aJ];exact ar ⟨by rw[a],W,λU=>by rw[a]at U;cases U⟩
    have D:=dY B v.bn.length;rw[ajE (by omega)]at b4;have oj:¬((v.bn.any λf=>gK l f==10)=e6):=(by rw[b4];simp);by_cases O:v.kind=9
    .have s:(v.kind==9)=true:=(by simp[O]);have aD:v.bn.length=2:=Hf O eb;have u:=XF (l:=v.bn) (by omega);have rP:v.bn.getD 1 0=v.bn[1]:=(by rw[ayX,Jt (by omega)];rfl);have z:v.bn[1]∈v.bn:=ayz _;have a:dV l i v=if v.kind=9/\gK l v.bn[1]≠6 then 5 else 0:=by
      unfold dV;rw[gQ eD,gQ o1,gQ rB,gQ (by rw[S];simp),gQ oj,rP]
     generalize v.bn[1]=A at u z a;obtain⟨jL,oX⟩:=mj A z;obtain⟨q,rfl⟩:∃q:Nat,A=(q:Int):=⟨A.toNat,by omega⟩;obtain⟨M,N,hX⟩:=Fi (l:=l) (q:=q) (by omega);by_cases R:gK l (q:Int)=6
     .have ij:(gK l (q:Int) !=6)=false:=(by simp[R]);rw[gQ (by simp[R])]at a;simp only[ae,az2,ds,reduceCtorEq,al,kE,G,Q,C,L,D,s,T,E,F,hj,u,M,N,ij,aJ];exact ar ⟨by rw[a],W,λ_=>mJ⟩
     .have ij:(gK l (q:Int) !=6)=true:=(by simp[R]);rw[gr ⟨O,R⟩]at a;simp only[ae,az2,ds,reduceCtorEq,al,kE,G,Q,C,L,D,s,T,E,F,hj,u,M,N,ij,aJ];exact ar ⟨by rw[a],W,λU=>by rw[a]at U;cases U⟩
    .have s:(v.kind==9)=false:=(by simp[O]);have a:dV l i v=0:=by
      unfold dV;rw[gQ eD,gQ o1,gQ rB,gQ (by rw[S];simp),gQ oj,gQ (by simp[O])]
     simp only[ae,ds,al,Q,C,L,D,s,T,E,F,aJ];exact ar ⟨by rw[a],W,λ_=>mJ⟩
   .simp only[ae,ds,AT,By,al,hI,f1,f2,f7,wb,E,F,hj,w8,c5,jy,aF,<-Fj,nN,fR,r9,<-xa,T];refine aT.bG (α:=Nat) (λj f X=>f 0=.ag l.length (l.flatMap ao)/\f 7=.ptr h.n 0/\f 73=.ag v.bn.length (ax v.bn)/\f 74=.int gj (v.bn.length:Int)/\f 75=.int gj (j:Nat)/\j<=v.bn.length/\X=Y/\((v.bn.take j).any λf=>gK l f==10)=fr) (λj=>v.bn.length-j) 0 ⟨f0,f7,rfl,rfl,rfl,D8 _,rfl,rfl⟩ ?_
    rintro B TM X ⟨G,Q,uD,C,L,tg,rfl,b4⟩
    refine wpS ?_;by_cases jY:B<v.bn.length
    .have D:=dK B v.bn.length;have u:=vH (P:=mP) (kk:=.i64) jY kE;have bY:=iM B;have fx:=RG (λf=>gK l f==10) jY;have z:v.bn[B]∈v.bn:=ayz jY;generalize v.bn[B]=A at u fx z;obtain⟨jL,oX⟩:=mj A z;obtain⟨q,rfl⟩:∃q:Nat,A=(q:Int):=⟨A.toNat,by omega⟩;obtain⟨M,N,hX⟩:=Fi (l:=l) (q:=q) (by omega);cases s:(gK l (q:Int)==10)
     .simp only[ae,ds,reduceCtorEq,al,G,uD,C,L,D,u,M,N,s,bY];exact ar ⟨B+1,⟨G,Q,uD,C,rfl,by omega,rfl,by rw[fx,b4,s];rfl⟩,by omega⟩
     .have a:dV l i v=5:=by
       unfold dV;rw[gQ eD,gQ o1,gQ rB,gQ (by rw[S];simp),gr (aAp.2 ⟨_,z,s⟩)]
      simp only[ae,ds,reduceCtorEq,al,G,uD,C,L,D,u,M,N,s,aJ];exact ar ⟨by rw[a],W,λU=>by rw[a]at U;cases U⟩
    have D:=dY B v.bn.length;rw[ajE (by omega)]at b4;have oj:¬((v.bn.any λf=>gK l f==10)=e6):=(by rw[b4];simp);by_cases O:v.kind=9
    .have s:(v.kind==9)=true:=(by simp[O]);have aD:v.bn.length=2:=Hf O eb;have u:=XF (l:=v.bn) (by omega);have rP:v.bn.getD 1 0=v.bn[1]:=(by rw[ayX,Jt (by omega)];rfl);have z:v.bn[1]∈v.bn:=ayz _;have a:dV l i v=if v.kind=9/\gK l v.bn[1]≠6 then 5 else 0:=by
      unfold dV;rw[gQ eD,gQ o1,gQ rB,gQ (by rw[S];simp),gQ oj,rP]
     generalize v.bn[1]=A at u z a;obtain⟨jL,oX⟩:=mj A z;obtain⟨q,rfl⟩:∃q:Nat,A=(q:Int):=⟨A.toNat,by omega⟩;obtain⟨M,N,hX⟩:=Fi (l:=l) (q:=q) (by omega);by_cases R:gK l (q:Int)=6
     .have ij:(gK l (q:Int) !=6)=false:=(by simp[R]);rw[gQ (by simp[R])]at a;simp only[ae,az2,ds,reduceCtorEq,al,kE,G,Q,C,L,D,s,T,E,F,hj,u,M,N,ij,aJ];exact ar ⟨by rw[a],W,λ_=>mJ⟩
     .have ij:(gK l (q:Int) !=6)=true:=(by simp[R]);rw[gr ⟨O,R⟩]at a;simp only[ae,az2,ds,reduceCtorEq,al,kE,G,Q,C,L,D,s,T,E,F,hj,u,M,N,ij,aJ];exact ar ⟨by rw[a],W,λU=>by rw[a]at U;cases U⟩
    .have s:(v.kind==9)=false:=(by simp[O]);have a:dV l i v=0:=by
      unfold dV;rw[gQ eD,gQ o1,gQ rB,gQ (by rw[S];simp),gQ oj,gQ (by simp[O])]
     simp only[ae,ds,al,Q,C,L,D,s,T,E,F,aJ];exact ar ⟨by rw[a],W,λ_=>mJ⟩
  .rw[S]at fR;have a:dV l i v=12:=by unfold dV;rw[gQ eD,gQ o1,gQ rB,gr S]
   rcases TL with⟨c5,jy⟩|⟨c5,jy⟩
   .simp only[ae,ds,AT,By,al,f2,f7,wb,E,F,w8,c5,aF,<-Fj,nN,fR,aJ];exact ar ⟨by rw[a],(bl.trans' bT).up,λU=>by rw[a]at U;cases U⟩
   .simp only[ae,ds,AT,By,al,f2,f7,wb,E,F,w8,c5,jy,aF,<-Fj,nN,fR,aJ];exact ar ⟨by rw[a],(bl.trans' bT).up,λU=>by rw[a]at U;cases U⟩
 .have c5:(v.kind==1)=false:=by simp;omega
  have jy:(v.kind==10)=false:=by simp;omega
  have S:Hc l i v=false:=by unfold Hc;rw[c5,jy];rfl
  obtain⟨Y,xa⟩:∃x,x=h':=⟨_,rfl⟩;have mJ:∃gL AK,Y.get m=.map (x6 gL) AK/\w9 (l.take (i+1)) gL:=⟨_,_,by rw[xa];exact Cx,by rw[TJ];exact cv.skip aa⟩;have W:J h Y (·=m):=by rw[xa];exact bl.up
  have T:Y.get h.n=.cells (ao v) 68 none:=by rw[xa];exact wb
  simp only[ae,ds,al,hI,f7,<-xa,T,E,F,hj,c5,jy];refine aT.bG (α:=Nat) (λj f X=>f 0=.ag l.length (l.flatMap ao)/\f 7=.ptr h.n 0/\f 73=.ag v.bn.length (ax v.bn)/\f 74=.int gj (v.bn.length:Int)/\f 75=.int gj (j:Nat)/\j<=v.bn.length/\X=Y/\((v.bn.take j).any λf=>gK l f==10)=fr) (λj=>v.bn.length-j) 0 ⟨f0,f7,rfl,rfl,rfl,D8 _,rfl,rfl⟩ ?_
  rintro B TM X ⟨G,Q,uD,C,L,tg,rfl,b4⟩
  refine wpS ?_;by_cases jY:B<v.bn.length
  .have D:=dK B v.bn.length;have u:=vH (P:=mP) (kk:=.i64) jY kE;have bY:=iM B;have fx:=RG (λf=>gK l f==10) jY;have z:v.bn[B]∈v.bn:=ayz jY;generalize v.bn[B]=A at u fx z;obtain⟨jL,oX⟩:=mj A z;obtain⟨q,rfl⟩:∃q:Nat,A=(q:Int):=⟨A.toNat,by omega⟩;obtain⟨M,N,hX⟩:=Fi (l:=l) (q:=q) (by omega);cases s:(gK l (q:Int)==10)
   .simp only[ae,ds,reduceCtorEq,al,G,uD,C,L,D,u,M,N,s,bY];exact ar ⟨B+1,⟨G,Q,uD,C,rfl,by omega,rfl,by rw[fx,b4,s];rfl⟩,by omega⟩
   .have a:dV l i v=5:=by
     unfold dV;rw[gQ eD,gQ o1,gQ rB,gQ (by rw[S];simp),gr (aAp.2 ⟨_,z,s⟩)]
    simp only[ae,ds,reduceCtorEq,al,G,uD,C,L,D,u,M,N,s,aJ];exact ar ⟨by rw[a],W,λU=>by rw[a]at U;cases U⟩
  have D:=dY B v.bn.length;rw[ajE (by omega)]at b4;have oj:¬((v.bn.any λf=>gK l f==10)=e6):=by rw[b4];simp
  by_cases O:v.kind=9
  .have s:(v.kind==9)=true:=(by simp[O]);have aD:v.bn.length=2:=Hf O eb;have u:=XF (l:=v.bn) (by omega);have rP:v.bn.getD 1 0=v.bn[1]:=(by rw[ayX,Jt (by omega)];rfl);have z:v.bn[1]∈v.bn:=ayz _;have a:dV l i v=if v.kind=9/\gK l v.bn[1]≠6 then 5 else 0:=by
    unfold dV;rw[gQ eD,gQ o1,gQ rB,gQ (by rw[S];simp),gQ oj,rP]
   generalize v.bn[1]=A at u z a;obtain⟨jL,oX⟩:=mj A z;obtain⟨q,rfl⟩:∃q:Nat,A=(q:Int):=⟨A.toNat,by omega⟩;obtain⟨M,N,hX⟩:=Fi (l:=l) (q:=q) (by omega);by_cases R:gK l (q:Int)=6
   .have ij:(gK l (q:Int) !=6)=false:=(by simp[R]);rw[gQ (by simp[R])]at a;simp only[ae,az2,ds,reduceCtorEq,al,kE,G,Q,C,L,D,s,T,E,F,hj,u,M,N,ij,aJ];exact ar ⟨by rw[a],W,λ_=>mJ⟩
   .have ij:(gK l (q:Int) !=6)=true:=(by simp[R]);rw[gr ⟨O,R⟩]at a;simp only[ae,az2,ds,reduceCtorEq,al,kE,G,Q,C,L,D,s,T,E,F,hj,u,M,N,ij,aJ];exact ar ⟨by rw[a],W,λU=>by rw[a]at U;cases U⟩
  .have s:(v.kind==9)=false:=(by simp[O]);have a:dV l i v=0:=by
    unfold dV;rw[gQ eD,gQ o1,gQ rB,gQ (by rw[S];simp),gQ oj,gQ (by simp[O])]
   simp only[ae,ds,al,Q,C,L,D,s,T,E,F,aJ];exact ar ⟨by rw[a],W,λ_=>mJ⟩
def cx(l:List bC)(p:Int):List V:=[.ag l.length (l.flatMap ao),.int gj p]
theorem aeA(l:List bC)(p:Int):bc (cx l p):=bc.cons (bf.ag (xS aqU _)) (bc.cons (bf.int _ _) bc.nil)
def jE(l:List bC):Prop:=l.length<2^47/\∀v∈l,yH v
def sN(q:Int×Int):V:=.tuple [.int gj q.1,.int gj q.2]
theorem RI(l:List bC)(p:Int)(a1:jE l)(h:I)(ay:iU h):Pure mP 59 [.agg (cx l p)] h (sN (cj p l)):=by
 have sC:bf (sN (cj p l)):=bf.tuple (bc.cons (bf.int _ _) (bc.cons (bf.int _ _) bc.nil));refine Pure.val sC ?_;have aw:(kB (cx l p)).cells=eL [.ag l.length (l.flatMap ao),.int gj p]:=rfl;obtain⟨H,hH,z,s,hx⟩:=bU h (.cells [.ag l.length (l.flatMap ao),.int gj p] 24 eN);refine a7 Tryz.func59 rfl ?_;by_cases A:p<1
 .have u:decide (p<1)=true:=by simpa using A
  have a:cj p l=(-1,2):=gr (.inl A);simp only[ae,Js,ds,AT,By,al,aw,<-hH,s,u,aJ];exact ar ⟨by rw[a];rfl,z⟩
 have u:decide (p<1)=false:=by simpa using A
 by_cases B:8<p
 .have C:decide (8<p)=true:=by simpa using B
  have a:cj p l=(-1,2):=gr (.inr (.inl B));simp only[ae,Js,ds,AT,By,al,aw,<-hH,s,u,C,aJ];exact ar ⟨by rw[a];rfl,z⟩
 have C:decide (8<p)=false:=by simpa using B
 by_cases T:l.length=0
 .have F:((l.length:Int)==0)=true:=by simp[T]
  have a:cj p l=(-1,2):=gr (.inr (.inr (.inl T)));simp only[ae,Js,ds,AT,By,al,d6,aw,<-hH,s,u,C,F,aJ];exact ar ⟨by rw[a];rfl,z⟩
 have F:((l.length:Int)==0)=false:=by simp only[beq_eq_false_iff_ne,ne_eq];omega
 by_cases br:24<l.length
 .have L:decide ((24:Int)<(l.length:Int))=true:=hO (by omega);have a:cj p l=(-1,2):=gr (.inr (.inr (.inr br)));simp only[ae,Js,ds,AT,By,al,d6,aw,<-hH,s,u,C,F,L,aJ];exact ar ⟨by rw[a];rfl,z⟩
 have L:decide ((24:Int)<(l.length:Int))=false:=hK (by omega);have a:cj p l=qk l 0 l:=gQ (by omega);obtain⟨G,D⟩:∃x,x=H.push (.map [] 0):=⟨_,rfl⟩;have W:G.get h.n=.cells [.ag l.length (l.flatMap ao),.int gj p] 24 none:=by rw[D];exact(iZ (by omega)).trans s
 have qg:J h G kR:=by rw[D];exact z.bp _
 have M:G.get H.n=.map (x6 []) 0:=by rw[D];exact ac
 have aa:G.n=H.n+1:=by rw[D];rfl
 simp only[ae,Js,ds,AT,By,al,d6,aw,<-hH,s,u,C,F,L,<-D,W];refine aT.bG (α:=Nat×uB×Nat) (λx f h'=>f 1=.ptr h.n 0/\f 4=.map H.n/\f 30=.int gj (l.length:Int)/\f 31=.int gj (x.1:Nat)/\x.1<=l.length/\J h h' kR/\H.n<h'.n/\h'.get h.n=.cells [.ag l.length (l.flatMap ao),.int gj p] 24 eN/\h'.get H.n=.map (x6 x.2.1) x.2.2/\w9 (l.take x.1) x.2.1/\qk l 0 l=qk l x.1 (l.drop x.1)) (λx=>l.length-x.1) (0,[],0) ⟨rfl,rfl,rfl,rfl,D8 _,qg,by omega,W,M,w9.nil,rfl⟩ ?_
 rintro⟨i,es,cl⟩ f A ⟨X,Y,q,m,hi,N,eh,Z,fe,cv,j⟩
 simp only at m hi fe cv j;refine wpS ?_;by_cases O:i<l.length
 .have Q:=dK i l.length;rw[ay0 O]at j;obtain⟨TO,NR,_⟩:=a1.2 _ (ayz O);have bY:=iM i;simp only[ae,ds,AT,al,X,Y,q,m,Q,Z];refine cp (as8 l i H.n cl es O (by omega) _ rfl TO NR A (ay.ai N) eh fe cv) λr B ⟨az,R,mJ⟩=>?_;subst az;have k3:J h B kR:=N.trans R λk hk Cl=>by omega
  have Et:=R.n;have g2:=(R.get h.n (by omega) (by omega)).trans Z
  replace j:qk l 0 l=if dV l i l[i]=0 then qk l (i+1) (l.drop (i+1))else((i:Int),dV l i l[i]):=j
  by_cases E:dV l i l[i]=0
  .have S:(dV l i l[i] !=0)=false:=(by simp[E]);obtain⟨gL,AK,cY,dD⟩:=mJ E;rw[gr E]at j;simp only[ae,Js,ds,m,S,bY];exact ar ⟨(i+1,gL,AK),⟨X,Y,q,rfl,by simp only;omega,k3,by omega,g2,cY,dD,j⟩,by simp only;omega⟩
  .have S:(dV l i l[i] !=0)=true:=(by simp[E]);rw[gQ E]at j;simp only[ae,Js,ds,S,aJ];exact ar ⟨by rw[a,j];rfl,k3⟩
 .have Q:=dY i l.length;rw[azg (by omega)]at j;simp only[ae,Js,ds,q,m,Q,aJ];exact ar ⟨by rw[a,j];rfl,N⟩
theorem NS(h:I)(x:Int):am mP 46 1 [(0,.int gj x)] h=eL (.bh h.n 0 1 1,h.push (.cells [.int gj x] 3 eN)):=by rw[nm pR];rfl
theorem ls(l:List Int)(x:Int)(H:l.length<2^47)(h:I):Pure mP 73 [.ag l.length (ax l),.int gj x] h (.bool (l.contains x)):=by
 have D:au mP 112 [.ag l.length (ax l),.int gj x] h (λr h'=>(∃k:Int,r=.int gj k/\(decide (0<=k))=l.contains x)/\h'=h):=by
  refine a7 Tryz.func112 rfl ?_;simp only[ae,Js,ds,reduceCtorEq,hI];refine aT.bG (α:=Nat) (λj f h'=>f 0=.ag l.length (ax l)/\f 1=.int gj x/\f 7=.int gj (l.length:Int)/\f 8=.int gj (j:Nat)/\j<=l.length/\h'=h/\l.contains x=(l.drop j).contains x) (λj=>l.length-j) 0 ⟨rfl,rfl,rfl,rfl,D8 _,rfl,rfl⟩ ?_
  rintro j f E ⟨s,u,i,z,L,rfl,a⟩
  refine wpS ?_;by_cases B:j<l.length
  .have m:=dK j l.length;rw[ay0 B,List.contains_cons]at a;have C:=vH (P:=mP) (kk:=.i64) B kE;generalize l[j]=A at *;have F:=iM j;cases q:(x==A)
   .simp only[ae,Js,ds,reduceCtorEq,al,s,u,i,z,m,C,q,F];rw[q,Bool.false_or]at a;exact ar ⟨j+1,⟨s,u,i,rfl,by omega,rfl,a⟩,by omega⟩
   .simp only[ae,Js,ds,reduceCtorEq,al,s,u,i,z,m,C,q,aJ];rw[q,Bool.true_or]at a;exact ar ⟨⟨_,rfl,by rw[a];simp⟩,rfl⟩
  .have m:=dY j l.length;rw[azg (by omega)]at a;simp only[ae,Js,ds,i,z,m,aJ];exact ar ⟨⟨_,rfl,by rw[a];rfl⟩,rfl⟩
 refine a7 Tryz.func73 rfl ?_;simp only[ae,ds,reduceCtorEq];refine cp D λr E ⟨⟨k,az,bd⟩,G⟩=>?_;subst az G;simp only[ae,ds,aJ];exact ar ⟨by rw[bd],rfl⟩
theorem aeC(l:List bC)(p v:Int)(Q:jE l)(aB:l.length<=2^40)(h:I):Pure mP 71 [.agg (cx l p),.int gj v] h (.ag (ir v 0 l).length (ax (ir v 0 l))):=by
 refine Pure.acc (e:=3) (sz:=1) (y1 _) (by rw[ht,axD]) (by have:=He (v:=v) (l:=l) (j:=0);omega) ?_;have aw:(kB (cx l p)).cells=eL [.ag l.length (l.flatMap ao),.int gj p]:=rfl;obtain⟨H,hH,R,S,_⟩:=bU h (.cells [.ag l.length (l.flatMap ao),.int gj p] 24 eN);refine a7 Tryz.func71 rfl ?_;simp only[ae,ds,AT,al,d6,aw,<-hH,S];refine aT.bG (α:=V×Nat) (λx f h'=>f 1=.int gj v/\f 5=x.1/\f 9=.ag l.length (l.flatMap ao)/\f 10=.int gj (l.length:Int)/\f 11=.int gj (x.2:Nat)/\x.2<=l.length/\Acc h h' 3 1 x.1 (ax (ir v 0 (l.take x.2)))) (λx=>l.length-x.2) (.ah,0) ⟨rfl,rfl,rfl,rfl,rfl,D8 _,Acc.nil R⟩ ?_
 rintro⟨u,i⟩ f T ⟨C,z,D,m,a,hi,B⟩
 simp only at z a hi B;refine wpS ?_;by_cases E:i<l.length
 .have F:=dK i l.length;obtain⟨TO,W,_⟩:=Q.2 _ (ayz E);have X:=r0 (kk:=.i64) (P:=mP) lp E EO;have s:=aex v l[i] (l.take i) 0;rw[<-ayY E,ajB,azb (by omega),ayB]at s;generalize l[i]=A at *;have G:=sM A;have Y:∀(q:List V),cw (eL (eL 6)) (eL (ao A++q))=eL (.agg (ao A)):=λq=>j1 (lp A);have Z:(kB (ao A)).cells=eL (ao A):=rfl;have dI:bD (eL 6) (aP.cells [.int gj 0,.ah,.int gj 0,.int gj 0,.ah,.int gj 0] 68 eN) 0 (ao A)=eL (.cells (ao A) 68 eN):=by
   rw[u0 (n:=6) (lp A) (DG A),gr (by decide),G];rfl
  have hj:cI (aP.cells (ao A) 68 eN) 1=eL [.ag A.bn.length (ax A.bn),.int gj A.e.op,.int gj A.e.num,.ag A.e.aQ.length (A.e.aQ.flatMap aN),.int gj A.n]:=by rw[G];rfl
  have L:=iM i;have M:=B.on (J.push T (.cells (ao A) 68 eN) _);simp only[ae,ds,al,C,D,m,a,F,X,Y,Z,dI,hj];refine bE (ls A.bn v W _) ?_;cases N:A.bn.contains v
  .rw[N,gQ (by simp),axA]at s;simp only[ae,ds,a,L];exact ar ⟨(u,i+1),⟨C,z,D,m,rfl,by simp only;omega,by simp only;rw[s];exact M⟩,by simp only;omega⟩
  .rw[N,gr rfl]at s;obtain⟨v2,ad,O,a2⟩:=M.elem (P:=mP) pR (by decide) (xs:=[.int gj (i:Nat)]) rfl rfl (by have:=He (v:=v) (l:=l.take i) (j:=0);simp[ht,lim]at this⊢;omega) (by have:=He (v:=v) (l:=l.take i) (j:=0);simp[ht,lim]at this⊢;omega);simp only[dn]at O;simp only[ae,ds,z,a,NS,O,L];exact ar ⟨(v2,i+1),⟨C,rfl,D,m,rfl,by simp only;omega,by simp only;rw[s,VA];exact a2⟩,by simp only;omega⟩
 .have F:=dY i l.length;rw[ajE (by omega)]at B;simp only[ae,ds,z,m,a,F,aJ];exact ar B
theorem as9(h:I)(a i j m:Int):am mP 64 2 [(0,.agg [.int gj a,.int gj i,.ah]),(1,.agg [.int gj j,.int gj m,.ah])] h=eL (.bh h.n 0 2 2,h.push (.cells [.int gj a,.int gj i,.ah,.int gj j,.int gj m,.ah] 66 eN)):=by rw[nm Wh];rfl
theorem ata(h:I)(i j b:Nat):am mP 22 3 [(0,.agg [.int gj 1,.ah,.int gj 0,.int gj 0,.ah,.int gj 0]),(1,.agg [.int gj 6,.bh i 0 1 1,.int gj 6,.int gj 0,.bh b 0 2 2,.int gj 0]),(2,.agg [.int gj 10,.bh j 0 1 1,.int gj 0,.int gj 0,.ah,.int gj 0])] h=eL (.bh h.n 0 3 3,h.push (.cells [.int gj 1,.ah,.int gj 0,.int gj 0,.ah,.int gj 0,.int gj 6,.bh i 0 1 1,.int gj 6,.int gj 0,.bh b 0 2 2,.int gj 0,.int gj 10,.bh j 0 1 1,.int gj 0,.int gj 0,.ah,.int gj 0] 68 eN)):=by rw[nm Wg];rfl
def NT:cd:=.mk 6 0 [.mk 5 0 [],.mk 3 0 []]
def e0:List bC:=[⟨1,[],.mk 0 0 [],0⟩,⟨6,[0],NT,0⟩,⟨10,[1],.mk 0 0 [],0⟩]
theorem DI{h:I}{i n:Nat}{a:List V}{e:TypeId}{sz:Nat}(m:i<h.n)(q:h.get i=.cells a e eN)(j:a.length=n*sz)(s:n<b9):Own h e sz (.bh i 0 n n) a :=
 .inr ⟨i,n,n,a,eN,rfl,m,q,j,by rw[<-j];exact List.take_length,.inl ⟨s,by omega,BY _⟩⟩
theorem atb(h:I)(a b c d e f:aP):let H:=(((((h.push a).push b).push c).push d).push e).push f
  H.n=h.n+6/\H.get h.n=a/\H.get (h.n+1)=b/\H.get (h.n+3)=d/\H.get (h.n+4)=e/\H.get (h.n+5)=f/\J h H kR:=by
 intro H;refine⟨rfl,?_,?_,?_,?_,?_,(((((J.push _ _ _).bp _).bp _).bp _).bp _).bp _⟩<;>simp only[H,I.push]<;>repeat first|rfl|rw[gr trivial]|rw[gr rfl]|rw[gQ (by omega)]
def XI:List bC:=e0++[⟨10,[2],.mk 0 0 [],1⟩]
theorem x8(o n:Int)(a:-2^63<=o/\o<2^63)(i:-2^63<=n/\n<2^63):ik (.mk o n []):=.mk o n [] (by simp) (by simp) a i
theorem XJ:ik NT:=.mk 6 0 _ (by simp) (by
 intro k a;simp at a;rcases a with rfl|rfl
 .exact x8 5 0 (by omega) (by omega)
 .exact x8 3 0 (by omega) (by omega)) (by omega) (by omega)
theorem atc:jE XI:=by
 refine⟨by decide,?_⟩;intro v i;simp only[XI,e0,aza,aze,IN,List.not_mem_nil,or_false]at i;rcases i with rfl|rfl|rfl|rfl
 .exact⟨x8 0 0 (by omega) (by omega),by decide,by unfold nb;decide,by unfold nb;decide,by intro f a;simp at a<;>(subst a;unfold nb;omega)⟩
 .exact⟨XJ,by decide,by unfold nb;decide,by unfold nb;decide,by intro f a;simp at a<;>(subst a;unfold nb;omega)⟩
 .exact⟨x8 0 0 (by omega) (by omega),by decide,by unfold nb;decide,by unfold nb;decide,by intro f a;simp at a<;>(subst a;unfold nb;omega)⟩
 .exact⟨x8 0 0 (by omega) (by omega),by decide,by unfold nb;decide,by unfold nb;decide,by intro f a;simp at a<;>(subst a;unfold nb;omega)⟩
theorem aeD:jE e0:=⟨by decide,λv a=>atc.2 v (by simp only[XI];exact List.mem_append_left _ a)⟩
theorem XK{l:List bC}{i:Nat}{v:bC}(h:dV l i v=0):(1<=v.kind/\v.kind<=10)/\(∀f∈v.bn,0<=f/\f<i)/\l2 v=e6/\Hc l i v=fr/\(∀f∈v.bn,gK l f≠10):=by
 unfold dV at h;split at h
 .cases h
 rename_i A;split at h
 .cases h
 rename_i m;split at h
 .cases h
 rename_i q;split at h
 .cases h
 rename_i s;split at h
 .cases h
 rename_i u;refine⟨by omega,λf a=>?_,by simpa using q,by simpa using s,λf a z=>?_⟩
 .have j:(v.bn.any λf=>decide (f<0\/(i:Int)<=f))=false:=by simpa using m
  rw[aAo]at j;have:=j f a;simp only[ig]at this;omega
 .exact u (aAp.2 ⟨f,a,by simp[z]⟩)
theorem DJ{p:Int}{l:List bC}(h:(cj p l).2=0):cj p l=(-1,0)/\(1<=p/\p<=8)/\1<=l.length/\l.length<=24/\qk l 0 l=(-1,0)/\∀k v,l[k]?=eL v->dV l k v=0:=by
 unfold cj at h⊢;split at h
 .cases h
 rename_i i;rw[gQ i];obtain⟨a,b⟩:=XD h;exact⟨a,by omega,by omega,by omega,a,λk v j=>by simpa using b k v j⟩
def gY(v:bC):List Nat:=enc v.kind.toNat++Ak v.bn++enc (lg v.n)++BN (kG v.e)
def sO(p:Int)(l:List bC):List Nat:=enc p.toNat++enc l.length++l.flatMap gY
def l3(p:Int)(l:List bC):List Nat:=if(cj p l).2=0 then sO p l else []
theorem atd:∀k,k<11->(mn.getD k (0,0,0,0)).1<=2:=by decide
theorem zg{p:Int}{l:List bC}(h:(cj p l).2=0):(1<=p/\p<=8)/\1<=l.length/\l.length<=24/\∀v∈l,(1<=v.kind/\v.kind<=10)/\v.bn.length<=2/\(∀f∈v.bn,0<=f/\f<24)/\l2 v=true:=by
 unfold cj at h;split at h
 .cases h
 rename_i an;refine⟨by omega,by omega,by omega,λv m=>?_⟩;obtain⟨i,hi,rfl⟩:=List.getElem_of_mem m;have a:=(XD h).2 i l[i] (Jt hi);rw[ayB]at a;obtain⟨q,s,j,_,_⟩:=XK a;refine⟨q,?_,λf u=>by have:=s f u;omega,j⟩;have:=j;unfold l2 w7 at this;simp only[are,ig]at this;have z:=atd l[i].kind.toNat (by omega);omega
theorem XL{e:cd}(a:ik e):(kG e).length<=1280:=by
 unfold kG;split
 .rename_i i;have j:=WB (fs e) e rfl a;have m:=WE i;omega
 .simp
theorem aeE{l:List Int}(h:∀n∈l,-2^63<=n/\n<2^63)(a:l.length<=2):(Ak l).length<=30:=by
 unfold Ak;rw[D9];have i:=acK h;have j:=(r8 l.length (by omega)).2;omega
theorem aeF{v:bC}(a:yH v)(j:1<=v.kind/\v.kind<=10)(i:v.bn.length<=2):(gY v).length<=1400:=by
 unfold gY BN;simp only[D9];have m:=aeE a.2.2.2.2 i;have q:=(r8 v.kind.toNat (by omega)).2;have s:=(r8 (lg v.n) (Dt _ a.2.2.2.1.1 a.2.2.2.1.2)).2;have u:=XL a.1;have z:=(r8 (kG v.e).length (by omega)).2;omega
theorem aeG{l:List bC}(h:∀v∈l,(gY v).length<=1400):(l.flatMap gY).length<=1400*l.length:=by
 induction l with
 | nil=>simp
 | cons v l ih=>
  have i:=h v (by simp);have j:=ih λu a=>h u (by simp[a]);simp only[ayW,D9,axF];omega
def DK(p:Int)(l:List bC):V:=.tuple [.ag (l3 p l).length (fN (l3 p l)),.int gj (cj p l).2]
theorem ate(p:Int)(l:List bC):bf (DK p l):=bf.tuple (bc.cons (bf.ag (ET _)) (bc.cons (bf.int _ _) bc.nil))
theorem XM(l:List bC)(p:Int)(G:jE l)(h:I)(Y:iU h):Pure mP 30 [.agg (cx l p)] h (DK p l):=by
 refine Pure.of (ate p l) ?_;have aw:(kB (cx l p)).cells=eL [.ag l.length (l.flatMap ao),.int gj p]:=rfl;obtain⟨H,hH,L,D,_⟩:=bU h (.cells [.ag l.length (l.flatMap ao),.int gj p] 24 eN);have hx:h.n<H.n:=by rw[hH];exact azK _
 refine a7 Tryz.func30 rfl ?_;simp only[ae,ds,AT,al,aw,<-hH,D];refine bE (RI l p G H (Y.ai L)) ?_;by_cases s:(cj p l).2=0;rotate_left
 .have M:((cj p l).2 !=0)=true:=by simpa using s
  have N:DK p l=.tuple [.ag 0 [],.int gj (cj p l).2]:=by unfold DK l3;rw[gQ s];rfl
  rw[N];simp only[ae,ds,sN,M,aJ];exact ar ⟨_,aK.tuple (aE.cons (aK.lI _) (aE.refl _ _)),L⟩
 .have M:((cj p l).2 !=0)=false:=by simpa using s
  obtain⟨aX,ie,iK,O⟩:=zg s;obtain⟨P,rfl⟩:=aBj (show 0<=p by omega);have N:DK P l=.tuple [.ag (sO P l).length (fN (sO P l)),.int gj 0]:=by unfold DK l3;rw[gr s,s]
  have zh:=Mz (n:=P) (by omega);have Ks:=Mz (n:=l.length) (by omega);simp only[ae,ds,AT,By,al,sN,M,D,mF hP ph,zh];refine bE (Ra .ah [] P H (Rd.ah _) (by simp) (by omega)) ?_;simp only[ae,ds,AT,al,d6,D,mF hP ph,Ks];have az:=(r8 P (by omega)).2;have bd:=(r8 l.length (by omega)).2;refine bE (Ra _ _ l.length H (Rd.ag _ _) (by omega) (by omega)) ?_;simp only[ae,ds,AT,al,d6,D];have u:∀v∈l,(gY v).length<=1400:=λv z=>aeF (G.2 v z) (O v z).1 (O v z).2.1;refine aT.bG (α:=Nat) (λi f h'=>f 1=.ptr h.n 0/\f 6=.ag (enc P++enc l.length++(l.take i).flatMap gY).length (fN (enc P++enc l.length++(l.take i).flatMap gY))/\f 30=.ag l.length (l.flatMap ao)/\f 31=.int gj (l.length:Int)/\f 32=.int gj (i:Nat)/\i<=l.length/\J h h' kR) (λi=>l.length-i) 0
   ⟨rfl,by simp only[az3,List.flatMap_nil,axA];rfl,rfl,rfl,rfl,D8 _,L⟩ ?_
  rintro i f h1 ⟨f1,E,B,a,j,hi,Q⟩
  refine wpS ?_;by_cases F:i<l.length
  .have R:=dK i l.length;have kU:=G.2 _ (ayz F);obtain⟨ql,w0,aa,_⟩:=O _ (ayz F);have eg:=r0 (kk:=.i64) (P:=mP) lp F EO;have fx:(l.take (i+1)).flatMap gY=(l.take i).flatMap gY++gY l[i]:=acJ l gY F;have c9:((l.take i).flatMap gY).length<=1400*24:=by
    have:=aeG (l:=l.take i) λv z=>u v (aAM z);rw[ajB]at this;have:(l.take i).length<=24:=by rw[ajB];omega
    omega
   generalize l[i]=A at *;have C:=sM A;have iO:∀(q:List V),cw (eL (eL 6)) (eL (ao A++q))=eL (.agg (ao A)):=λq=>j1 (lp A);have ch:(kB (ao A)).cells=eL (ao A):=rfl;have dI:bD (eL 6) (aP.cells [.int gj 0,.ah,.int gj 0,.int gj 0,.ah,.int gj 0] 68 eN) 0 (ao A)=eL (.cells (ao A) 68 eN):=by
    rw[u0 (n:=6) (lp A) (DG A),gr (by decide),C];rfl
   have gV:cI (aP.cells (ao A) 68 eN) 0=eL [.int gj A.kind,.ag A.bn.length (ax A.bn),.int gj A.e.op,.int gj A.e.num,.ag A.e.aQ.length (A.e.aQ.flatMap aN),.int gj A.n]:=(by rw[C];rfl);have hj:cI (aP.cells (ao A) 68 eN) 1=eL [.ag A.bn.length (ax A.bn),.int gj A.e.op,.int gj A.e.num,.ag A.e.aQ.length (A.e.aQ.flatMap aN),.int gj A.n]:=(by rw[C];rfl);have kT:cI (aP.cells (ao A) 68 eN) 2=eL (aN A.e++[.int gj A.n]):=by obtain⟨k,aO,⟨o,m,aQ⟩,n⟩:=A;rw[C,l0];rfl
   have w8:cI (aP.cells (ao A) 68 eN) 5=eL [.int gj A.n]:=(by rw[C];rfl);have bY:=iM i;have S:aPh.u64.wrap A.kind=(A.kind.toNat:Int):=by rw[aPh.wrap_u64];omega
   have T:=WC A.e;obtain⟨Z,W⟩:∃y,y=enc P++enc l.length++(l.take i).flatMap gY:=⟨_,rfl⟩;have XN:enc P++enc l.length++(l.take (i+1)).flatMap gY=(((Z++enc A.kind.toNat)++Ak A.bn)++enc (lg A.n))++BN (kG A.e):=by rw[fx,W,gY];simp only[axC]
   have ve:Z.length<=40000:=(by rw[W];simp only[D9];omega);rw[<-W]at E;have g1:=(r8 A.kind.toNat (by omega)).2;have g2:=aeE kU.2.2.2.2 w0;have g3:=(r8 (lg A.n) (Dt _ kU.2.2.2.1.1 kU.2.2.2.1.2)).2;have g4:=XL kU.1;have X:iU (h1.push (.cells (ao A) 68 eN)):=Y.ai (Q.trans' (J.push _ _ _));simp only[ae,ds,al,E,B,a,j,R,eg,iO,ch,dI,gV,mF hP ph,S];refine bE (Ra _ _ A.kind.toNat _ (Rd.ag _ _) (by omega) (by omega)) ?_;simp only[ae,ds,al,hj];refine bE (asX _ _ A.bn _ (Rd.ag _ _) kU.2.2.2.2 (by rw[D9];omega)) ?_;simp only[ae,ds,al,w8];refine bE (Mx _ _ A.n _ (Rd.ag _ _) (by simp only[D9];omega) kU.2.2.2.1.1 kU.2.2.2.1.2) ?_;simp only[ae,ds,al,kT,T];refine bE (WG A.e kU.1 _ X.1) ?_;simp only[ae,ds,uo];refine bE (asW _ _ _ (kG A.e) _ (Rd.ag _ _) (Rd.ag _ _) (by simp only[D9];omega)) ?_;simp only[ae,ds,j,bY];exact ar ⟨i+1,⟨f1,by rw[XN];rfl,B,a,rfl,by omega,Q.trans' (J.push _ _ _)⟩,by omega⟩
  .have R:=dY i l.length;rw[ajE (by omega)]at E;rw[N];simp only[ae,ds,E,a,j,R,aJ];exact ar ⟨_,aK.refl _ _,Q⟩
theorem Hg(i:Nat)(a:List Nat)(h:I)(j:ei h (.ptr i 0) i a)(an:∀b∈a,b<256)(aw:a.length<=2^47) :
  au mP 106 [.ptr i 0] h (λr h'=>r=.tuple [.int gj ((min (dec a 0 0).1 1000:Nat):Int),.int gj ((dec a 0 0).2.2:Nat)]/\ei h' (.ptr i 0) i (a.drop (dec a 0 0).2.1)/\J h h' (·=i)):=by
 refine a7 Tryz.func106 rfl ?_;simp only[ae,ds,reduceCtorEq];refine cp (Rb _ i a h j an aw) λr s ⟨az,db,m⟩=>?_;subst az;have q:aPh.i64.wrap (min ((dec a 0 0).1:Int) 1000)=((min (dec a 0 0).1 1000:Nat):Int):=by rw[kp _ (by omega)];omega
 simp only[ae,ds,mF ph hP,q,aJ];exact ar ⟨rfl,db,m⟩
def sP(k:Nat)(i:List Int)(n:Int)(a:List Nat):Except Nat (bC×List Nat) :=
 if(jb a).2.2≠0 then .error (jb a).2.2
 else if(jb a).1.length=0 then .ok (⟨(k:Int),i,.mk 0 0 [],n⟩,(jb a).2.1)
 else if pE (jb a).1≠0 then .error (pE (jb a).1)
 else .ok (⟨(k:Int),i,qa (jb a).1,n⟩,(jb a).2.1)
def sQ(k:Nat)(i:List Int)(a:List Nat):Except Nat (bC×List Nat) :=
 if(dec a 0 0).2.2≠0 then .error (dec a 0 0).2.2 else sP k i (hh (dec a 0 0).1) (a.drop (dec a 0 0).2.1)
def sR(k:Nat)(a:List Nat):Except Nat (bC×List Nat) :=
 if(kF a 2).2.2≠0 then .error (kF a 2).2.2 else sQ k (kF a 2).1 (kF a 2).2.1
def pH(a:List Nat):Except Nat (bC×List Nat) :=
 if(dec a 0 0).2.2≠0 then .error (dec a 0 0).2.2 else sR (min (dec a 0 0).1 1000) (a.drop (dec a 0 0).2.1)
def Hh:bC:=⟨0,[],.mk 0 0 [],0⟩
def XO:Except Nat (bC×List Nat)->V
 | .error c=>.tuple [.agg (ao Hh),.int gj (c:Nat)]
 | .ok (v,_)=>.tuple [.agg (ao v),.int gj 0]
def Sub(a b:List Nat):Prop:=(∀x∈a,x∈b)/\a.length<=b.length
theorem Sub.rfl'(a:List Nat):Sub a a:=⟨λ_ h=>h,BY _⟩
theorem Sub.nil(a:List Nat):Sub [] a:=⟨λ_ h=>(by cases h),D8 _⟩
theorem Sub.trans{a b c:List Nat}(x:Sub a b)(y:Sub b c):Sub a c:=⟨λq h=>y.1 q (x.1 q h),UN x.2 y.2⟩
theorem Sub.drop(a:List Nat)(k:Nat):Sub (a.drop k) a:=⟨λ_ h=>azT h,by rw[azk];omega⟩
theorem Sub.take(a:List Nat)(k:Nat):Sub (a.take k) a:=⟨λ_ h=>aAM h,by rw[ajB];omega⟩
theorem Sub.lt{a b:List Nat}(x:Sub a b)(h:∀q∈b,q<256):∀q∈a,q<256:=λq i=>h q (x.1 q i)
theorem aeJ:∀(m:Nat) (r:List Nat) (a:List Int),Sub (sH m r a).2.1 r
 | 0,r,a=>Sub.rfl' r
 | m+1,r,a=>by
  unfold sH;split
  .exact Sub.nil _
  .split
   .exact Sub.nil _
   .exact(aeJ m _ _).trans (Sub.drop _ _)
theorem aeK(a:List Nat)(m:Int):Sub (kF a m).2.1 a:=by
 unfold kF;split
 .exact Sub.rfl' _
 .split
  .exact Sub.rfl' _
  .split
   .exact Sub.rfl' _
   .exact(aeJ _ _ _).trans (Sub.drop _ _)
theorem XP(a:List Nat):Sub (jb a).2.1 a/\Sub (jb a).1 a:=by
 unfold jb;split
 .exact⟨Sub.rfl' _,Sub.nil _⟩
 .split
  .exact⟨Sub.rfl' _,Sub.nil _⟩
  .exact⟨(Sub.drop _ _).trans (Sub.drop _ _),(Sub.take _ _).trans (Sub.drop _ _)⟩
theorem NU(h:I)(c:Nat):aK (.tuple [.agg [.int gj 0,.ah,.int gj 0,.int gj 0,.ah,.int gj 0],.int gj (c:Nat)]) h (.tuple [.agg (ao Hh),.int gj (c:Nat)]) h:=by
 refine aK.tuple (aE.cons ?_ (aE.refl _ _));rw[sM];exact Pk.aK.agg (aE.skip (aE.cons (aK.h3 h) (aE.skip (aE.skip (aE.cons (aK.h3 h) (aE.refl _ _))))))
theorem atg(h:I)(k:Nat)(a:List Int)(n:Int):aK (.tuple [.agg [.int gj (k:Int),.ag a.length (ax a),.int gj 0,.int gj 0,.ah,.int gj n],.int gj 0]) h (.tuple [.agg (ao ⟨(k:Int),a,.mk 0 0 [],n⟩),.int gj 0]) h:=by
 refine aK.tuple (aE.cons ?_ (aE.refl _ _));rw[sM];exact Pk.aK.agg (aE.skip (aE.skip (aE.skip (aE.skip (aE.cons (aK.h3 h) (aE.refl _ _))))))
theorem ath(i:Nat)(a:List Nat)(h:I)(ay:h4 h)(aH:ei h (.ptr i 0) i a)(an:∀b∈a,b<256)(aw:a.length<=2^47) :
  au mP 107 [.ptr i 0] h (λr h'=>r=XO (pH a)/\J h h' (·=i)/\∀v D,pH a=.ok (v,D)->ei h' (.ptr i 0) i D):=by
 refine au.cast ?_;refine a7 Tryz.func107 rfl ?_;have b7:=aH.2.1;obtain⟨np,Y,IC,g0,nq⟩:=bU h (.cells [kA gj 0,.ah,.int gj 0,.int gj 0,.ah,.int gj 0] 68 eN);have eW:J h np (·=i):=by rw[Y];exact J.push _ _ _
 have pk:=ei.ai aH IC (by simp[kR]);have M:bD (eL 6) (aP.cells [kA gj 0,.ah,.int gj 0,.int gj 0,.ah,.int gj 0] 68 eN) 0 [kA gj 0,.ah,.int gj 0,.int gj 0,.ah,.int gj 0]=eL (.cells [kA gj 0,.ah,.int gj 0,.int gj 0,.ah,.int gj 0] 68 eN):=rfl;have R:(((0:Nat):Int) !=0)=false:=rfl;simp only[ae,ds,reduceCtorEq,al];rw[<-Y];clear Y;refine cp (Hg i a np pk an (by omega)) λr H1 ⟨az,db,Z⟩=>?_;subst az;have s1:Sub (a.drop (dec a 0 0).2.1) a:=Sub.drop _ _;have g1:=(Z.get h.n (by omega) (by omega)).trans g0;have pB:=eW.trans' Z;have eh:=Z.n;by_cases az:(dec a 0 0).2.2=0;rotate_left
 .have z:(((dec a 0 0).2.2:Int) !=0)=true:=by simp;omega
  have H:pH a=.error (dec a 0 0).2.2:=by unfold pH;rw[gr az]
  simp only[ae,ds,AT,al,z,g1,M,aJ];rw[H];exact ar ⟨_,_,NU _ _,rfl,pB.trans (J.set _ h.n _) λq F U=>by omega,λv D U=>by cases U⟩
 have B:pH a=sR (min (dec a 0 0).1 1000) (a.drop (dec a 0 0).2.1):=by unfold pH;rw[gQ (by omega)]
 rw[az]at *;rw[B];generalize min (dec a 0 0).1 1000=K at *;generalize a.drop (dec a 0 0).2.1=C at *;clear B;simp only[ae,ds,reduceCtorEq,R];refine cp (asZ _ i C 2 H1 db (s1.lt an) (by have:=s1.2;omega) (.inr (by decide)) (by decide)) λr bZ ⟨bd,ea,k2⟩=>?_;subst bd;have s2:=(aeK C 2).trans s1;have g2:=(k2.get h.n (by omega) (by omega)).trans g1;have c4:=pB.trans' k2;have c6:=k2.n;by_cases bd:(kF C 2).2.2=0;rotate_left
 .have z:(((kF C 2).2.2:Int) !=0)=true:=by simp;omega
  have H:sR K C=.error (kF C 2).2.2:=by unfold sR;rw[gr bd]
  simp only[ae,ds,AT,al,z,g2,M,aJ];rw[H];exact ar ⟨_,_,NU _ _,rfl,c4.trans (J.set _ h.n _) λq F U=>by omega,λv D U=>by cases U⟩
 have B:sR K C=sQ K (kF C 2).1 (kF C 2).2.1:=by unfold sR;rw[gQ (by omega)]
 rw[bd]at *;rw[B];generalize(kF C 2).1=s at *;generalize(kF C 2).2.1=u at *;clear B;simp only[ae,ds,reduceCtorEq,R];refine cp (GK _ i u bZ ea (s2.lt an) (by have:=s2.2;omega)) λr hb ⟨S,jI,k3⟩=>?_;subst S;have jN:=(Sub.drop u (dec u 0 0).2.1).trans s2;have g3:=(k3.get h.n (by omega) (by omega)).trans g2;have ez:=c4.trans' k3;have n3:=k3.n;by_cases S:(dec u 0 0).2.2=0;rotate_left
 .have z:(((dec u 0 0).2.2:Int) !=0)=true:=by simp;omega
  have H:sQ K s u=.error (dec u 0 0).2.2:=by unfold sQ;rw[gr S]
  simp only[ae,ds,AT,al,z,g3,M,aJ];rw[H];exact ar ⟨_,_,NU _ _,rfl,ez.trans (J.set _ h.n _) λq F U=>by omega,λv D U=>by cases U⟩
 have B:sQ K s u=sP K s (hh (dec u 0 0).1) (u.drop (dec u 0 0).2.1):=by unfold sQ;rw[gQ (by omega)]
 rw[S]at *;rw[B];generalize hh (dec u 0 0).1=N at *;generalize u.drop (dec u 0 0).2.1=j at *;clear B;simp only[ae,ds,reduceCtorEq,R];refine cp (asY _ i j hb jI (jN.lt an) (by have:=jN.2;omega)) λr L ⟨T,Du,cg⟩=>?_;subst T;have rp:=(XP j).2.trans jN;have g4:=(cg.get h.n (by omega) (by omega)).trans g3;have lR:=ez.trans' cg;have n4:=cg.n;by_cases T:(jb j).2.2=0;rotate_left
 .have z:(((jb j).2.2:Int) !=0)=true:=by simp;omega
  have H:sP K s N j=.error (jb j).2.2:=by unfold sP;rw[gr T]
  simp only[ae,ds,AT,al,z,g4,M,aJ];rw[H];exact ar ⟨_,_,NU _ _,rfl,lR.trans (J.set _ h.n _) λq F U=>by omega,λv D U=>by cases U⟩
 have B:sP K s N j=if(jb j).1.length=0 then .ok (⟨(K:Int),s,.mk 0 0 [],N⟩,(jb j).2.1)else if pE (jb j).1≠0 then .error (pE (jb j).1)else .ok (⟨(K:Int),s,qa (jb j).1,N⟩,(jb j).2.1):=by unfold sP;rw[gQ (by omega)]
 rw[B];clear B;rw[T]at *;have O:∀(k:Int) (m:Nat) (x:List V) (n:Int),bD (eL 6) (aP.cells [kA gj 0,.ah,.int gj 0,.int gj 0,.ah,.int gj 0] 68 eN) 0 [.int gj k,.ag m x,.int gj 0,.int gj 0,.ah,.int gj n]=eL (.cells [.int gj k,.ag m x,.int gj 0,.int gj 0,.ah,.int gj n] 68 eN):=λ_ _ _ _=>rfl;obtain⟨G,im,aa,NV,u5⟩:=bU L (.cells [kA gj (K:Int),.ag s.length (ax s),.int gj 0,.int gj 0,.ah,.int gj N] 68 eN);have dN:J L G (·=i):=by rw[im];exact J.push _ _ _
 have g5:=(dN.get h.n (by omega) (by omega)).trans g4;have W:=lR.trans' dN;have Kc:=ei.ai Du aa (by simp[kR]);simp only[ae,ds,AT,By,qH,al,R,O];rw[<-im];clear im;by_cases dT:(jb j).1.length=0
 .have z:decide ((0:Int)<(((jb j).1.length:Nat):Int))=false:=hK (by omega);rw[gr dT];simp only[ae,ds,AT,al,z,NV,g5,O,aJ];have Q:J G (G.set h.n (.cells [kA gj (K:Int),.ag s.length (ax s),.int gj 0,.int gj 0,.ah,.int gj N] 68 eN)) (·=h.n):=J.set _ h.n _;exact ar ⟨_,_,atg _ _ _ _,rfl,W.trans Q λq F U=>by omega,λv D U=>by injection U with U;injection U with h1 ad;subst ad;exact Kc.ai Q (by omega)⟩
 .have z:decide ((0:Int)<(((jb j).1.length:Nat):Int))=true:=hO (by omega);simp only[ae,ds,z];refine bE (Tn _ (jb j).1 G (ay.ai W) (Rd.ag _ _) (rp.lt an) (by have:=rp.2;omega)) ?_;rw[gQ dT];generalize(jb j).1=xs at *;unfold uw;have TP:=fd (qa xs);obtain⟨A,jZ⟩:∃y,y=(⟨(K:Int),s,qa xs,N⟩:bC):=⟨_,rfl⟩;have TQ:bD (eL 3) (aP.cells [kA gj (K:Int),.ag s.length (ax s),.int gj 0,.int gj 0,.ah,.int gj N] 68 eN) 2 (aN (qa xs))=eL (.cells (ao A) 68 eN):=by
   rw[u0 (n:=3) (r5 _) (Mq _),gr (by simp),jZ];simp only[ao];generalize qa xs=E;cases E;rfl
  have ch:(kB (ao A)).cells=eL (ao A):=rfl;have dI:bD (eL 6) (aP.cells [kA gj 0,.ah,.int gj 0,.int gj 0,.ah,.int gj 0] 68 eN) 0 (ao A)=eL (.cells (ao A) 68 eN):=by
   rw[u0 (n:=6) (lp A) (DG A),gr (by decide),sM];rfl
  have gV:cI (aP.cells (ao A) 68 eN) 0=eL (ao A):=by rw[sM];rfl
  have mX:cw (eL (eL 6)) (eL (ao A))=eL (.agg (ao A)):=by rw[sM];rfl
  have af:(if 6<=(ao A).length then eL (kB (ay5 6 (ao A)))else eN)=eL (.agg (ao A)):=by rw[sM];rfl
  have X:J G (G.set L.n (.cells (ao A) 68 eN)) (·=L.n):=J.set _ _ _;have g6:=(X.get h.n (by omega) (by omega)).trans g5;by_cases hN:pE xs=0
  .have bt:((pE xs:Int) !=0)=false:=(by simp[hN]);rw[gQ (by omega)];simp only[ae,ds,al,TP,NV,TQ,bt,gV,mX,g6,ch,dI,aJ];have Q:J (G.set L.n (.cells (ao A) 68 eN)) ((G.set L.n (.cells (ao A) 68 eN)).set h.n (.cells (ao A) 68 eN)) (·=h.n):=J.set _ h.n _;exact ar ⟨_,_,aK.refl _ _,by rw[jZ];rfl,(W.trans X λq F U=>by omega).trans Q λq F U=>by omega,λv D U=>by injection U with U;injection U with h1 ad;subst ad;exact(Kc.ai X (by omega)).ai Q (by omega)⟩
  .have bt:((pE xs:Int) !=0)=true:=(by simp;omega);rw[gr hN];simp only[ae,ds,AT,al,TP,NV,TQ,bt,g6,M,aJ];exact ar ⟨_,_,NU _ _,rfl,(W.trans X λq F U=>by omega).trans (J.set _ h.n _) λq F U=>by omega,λv D U=>by cases U⟩
def j7:Nat->List Nat->List bC->Except Nat (List bC×List Nat)
 | 0,i,a=>.ok (a,i)
 | m+1,i,a=>match pH i with
  | .error c=>.error c
  | .ok (v,j)=>j7 m j (a++[v])
def sS(p n:Nat)(a:List Nat):Except Nat (Nat×List bC×List Nat):=match j7 n a []with
 | .error c=>.error c
 | .ok (l,r)=>.ok (p,l,r)
def sT(p:Nat)(a:List Nat):Except Nat (Nat×List bC×List Nat) :=
 if(dec a 0 0).2.2≠0 then .error (dec a 0 0).2.2 else if 24<min (dec a 0 0).1 1000 then .error 2 else sS p (min (dec a 0 0).1 1000) (a.drop (dec a 0 0).2.1)
def q1(a:List Nat):Except Nat (Nat×List bC×List Nat) :=
 if(dec a 0 0).2.2≠0 then .error (dec a 0 0).2.2 else sT (min (dec a 0 0).1 1000) (a.drop (dec a 0 0).2.1)
def XQ:Except Nat (Nat×List bC×List Nat)->V
 | .error c=>.tuple [.agg (cx [] 0),.int gj (c:Nat)]
 | .ok (p,l,_)=>.tuple [.agg (cx l (p:Int)),.int gj 0]
theorem ati{xs:List Nat}(h:pE xs≠0->False)(i:xs≠[]):∃e,pD xs=.ok e/\qa xs=e:=by
 unfold pE at h;unfold qa;cases a:pD xs with
 | ok e=>exact⟨e,rfl,rfl⟩
 | error c=>rw[a]at h;exact(h (aqx a)).elim
theorem aeM:∀(m:Nat) (r:List Nat) (a:List Int),(∀b∈r,b<256)->(sH m r a).2.2=0->∃l,(sH m r a).1=a++l/\l.length=m/\r=(l.flatMap λn=>enc (lg n))++(sH m r a).2.1/\∀n∈l,-2147483648<=n/\n<=2147483647
 | 0,r,a,_,_=>⟨[],by simp[sH],rfl,by simp[sH],by simp⟩
 | m+1,r,a,an,h=>by
  unfold sH at h⊢;split at h
  .rename_i i;exact absurd h i
  .rename_i i;rw[gQ i];split at h
   .cases h
   .rename_i q;rw[gQ q];obtain⟨s,u⟩:=Am an (by omega);obtain⟨l,z,A,B,C⟩:=aeM m _ _ (λb D=>an b (azT D)) h;refine⟨hh (dec r 0 0).1::l,by rw[z];simp,by simp[A],?_,?_⟩
    .rw[ayW,WH _ u,axC,<-B];exact s
    .intro n j;rcases IN.1 j with rfl|j
     .omega
     .exact C n j
theorem atj{a:List Nat}(an:∀b∈a,b<256)(h:(kF a 2).2.2=0):a=Ak (kF a 2).1++(kF a 2).2.1/\(kF a 2).1.length<=2/\∀n∈(kF a 2).1,-2147483648<=n/\n<=2147483647:=by
 unfold kF at h⊢;split at h
 .rename_i i;exact absurd h i
 rename_i i;rw[gQ i];split at h
 .cases h
 rename_i q;rw[gQ q];split at h
 .rename_i j;exact absurd h j
 rename_i j;rw[gQ j];obtain⟨s,C⟩:=Am an (by omega);obtain⟨l,m,u,z,A⟩:=aeM _ _ [] (λb B=>an b (azT B)) h;rw[aze]at m;rw[m];refine⟨?_,by omega,A⟩;unfold Ak;rw[u,axC,<-z];exact s
theorem atk{a:List Nat}(an:∀b∈a,b<256)(h:(jb a).2.2=0):a=BN (jb a).1++(jb a).2.1:=by
 unfold jb at h⊢;split at h
 .rename_i i;exact absurd h i
 rename_i i;rw[gQ i];split at h
 .cases h
 rename_i j;rw[gQ j];obtain⟨m,q⟩:=Am an (by omega);unfold BN;simp only;rw[ajB,azb (by omega),axC,azL];exact m
theorem aeN{a:List Nat}(an:∀b∈a,b<256){v:bC}{q:List Nat}(h:pH a=.ok (v,q)):yH v/\Sub q a/\(v.kind<1000->a=gY v++q):=by
 unfold pH at h;split at h
 .cases h
 rename_i az;obtain⟨F,gp⟩:=Am an (by omega);have G:=Sub.drop a (dec a 0 0).2.1;generalize bQ:(dec a 0 0).1=K at *;generalize a.drop (dec a 0 0).2.1=s at *;unfold sR at h;split at h
 .cases h
 rename_i bd;obtain⟨H,gI,ea⟩:=atj (G.lt an) (by omega);have L:=(aeK s 2).trans G;generalize(kF s 2).1=W at *;generalize(kF s 2).2.1=i at *;unfold sQ at h;split at h
 .cases h
 rename_i c2;obtain⟨M,O⟩:=Am (L.lt an) (by omega);have u:=(Sub.drop i (dec i 0 0).2.1).trans L;have j:=acL _ O;have Q:=WH _ O;generalize(dec i 0 0).1=N at *;generalize i.drop (dec i 0 0).2.1=m at *;unfold sP at h;split at h
 .cases h
 rename_i hE;have R:=atk (u.lt an) (by omega);have S:=(XP m).1.trans u;have X:=(XP m).2.trans u;generalize(jb m).1=xs at *;generalize(jb m).2.1=pS at *;have T:∀f∈W,nb f:=λf Y=>by have:=ea f Y;unfold nb;omega
 split at h
 .rename_i z;injection h with h;injection h with A B;subst A;subst B;have Z:xs=[]:=azo z;refine⟨⟨x8 0 0 (by decide) (by decide),by simp only;omega,by simp only[nb];omega,j,T⟩,S,λC=>?_⟩;simp only at C;have D:min K 1000=K:=by omega
  have E:kG (.mk 0 0 [])=[]:=by decide
  unfold gY;simp only;rw[D,ayw,E,Q];subst Z
  conv=>lhs;rw[F,H,M,R]
  simp only[axC]
 .rename_i z;split at h
  .cases h
  rename_i cX;injection h with h;injection h with A B;subst A;subst B;obtain⟨e,cY,dD⟩:=ati (xs:=xs) (λU=>cX U) (λU=>z (by rw[U];rfl));obtain⟨fP,ku,vN⟩:=aqy (X.lt an) cY;rw[dD];refine⟨⟨vN,by simp only;omega,by simp only[nb];omega,j,T⟩,S,λC=>?_⟩;simp only at C;have D:min K 1000=K:=by omega
  have E:kG e=xs:=by unfold kG;rw[gr ku,<-fP]
  unfold gY;simp only;rw[D,ayw,E,Q]
  conv=>lhs;rw[F,H,M,R]
  simp only[axC]
theorem atl{v:bC}(j:yH v)(C:1<=v.kind/\v.kind<=10)(D:v.bn.length<=2)(A:∀f∈v.bn,0<=f/\f<24)(a:v.e=.mk 0 0 []\/dB v.e=e6)(r:List Nat):pH (gY v++r)=.ok (v,r):=by
 obtain⟨i,s,e,n⟩:=v;simp only at C D A a;obtain⟨K,rfl⟩:=aBj (show 0<=i by omega);have u:=j.2.2.2.1;simp only at u;unfold gY;simp only[ayw,axC];unfold pH;rw[BM K (by omega)];simp only[aAm];rw[gQ (by simp),azb (by omega)];unfold sR;have E:∀q,kF (Ak s++q) 2=(s,q,0):=λq=>by
  unfold kF Ak;rw[axC,BM _ (by omega)];simp only[aAm];rw[gQ (by simp),gQ (by omega),acP q s [] (λf F=>by have:=A f F;omega),gQ (by simp)];simp
 rw[E];simp only;rw[gQ (by simp)];unfold sQ;rw[BM _ (Dt _ u.1 u.2)];simp only[aAm];rw[gQ (by simp),WA];unfold sP;have G:=XL j.1;simp only at G;rw[aqo _ _ (by omega)];simp only;rw[gQ (by simp)];rcases a with rfl|a
 .have z:kG (.mk 0 0 [])=[]:=by decide
  rw[z,ayx,gr rfl]
 .have z:kG e=dj e:=by unfold kG;rw[gr a]
  rw[z];have B:=ac4 a j.1;have H:(dj e).length≠0:=by
   obtain⟨o,m,N⟩:=e;rw[J9];simp only[D9];have:=(r8 o.toNat (by have:=j.1;cases this;omega)).1;omega
  have L:pE (dj e)=0:=by unfold pE;rw[B]
  have M:qa (dj e)=e:=by unfold qa;rw[B]
  rw[gQ H,L,gQ (by simp),M]
end Go.Proofs.YtemdgidnhgcafaaGreatDoor.Pk
