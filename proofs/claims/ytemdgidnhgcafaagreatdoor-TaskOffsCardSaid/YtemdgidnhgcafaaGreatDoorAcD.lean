/-
  Rules of the machine on abstract states. Conditions: as each theorem says.
-/
import Derived.Test.YtemdgidnhgcafaaGreatDoorAcC
import Derived.Recover
import Derived.Lib.LaidTab
import Derived.OpenShut
import Derived.Shelf.SlSortCmp.InsertionK
open List renaming length_append->Dx,map_cons->axU,mem_append->ayN,take_add->aBv,drop_drop->aAo,getElem?_eq_getElem->IA,mem_cons_of_mem->aAM,mem_map->OF,mem_of_getElem?->azq,drop_zero->azC,take_length->azG,getElem?_map->aBx,take_append_drop->azU,getElem?_take->azf,getElem?_drop->azF,getElem?_eq_some_iff->are,length->azx,length_take->TY,replicate->azr,take_of_length_le->ajz,getElem?_append_left->aAc,getElem?_append_right->aAd,drop_take->aBz,take_take->azY,length_drop->azD,map->aBA,map_map->azM,map_append->azp,nodup_append->aBu,nodup_cons->azQ,mem_cons->Iz,flatMap_cons->azh,length_cons->axW,getElem!_eq_getElem?_getD->aDV,getElem?_cons_succ->aB3,ext_getElem->aB0,length_pos_iff->aDW,take_left'->aAO,finRange->aDX,append_nil->axX,pairwise_map->azW,mem_filter->ajA,map_nil->azu,range->ajB
open Nat renaming le_refl->BY,eq_zero_or_pos->aCd,eq_of_mul_eq_mul_right->aAx,zero_add->ayP,add_mul->axY,min_eq_left->azt,zero_le->Dy,one_mul->aAJ
open Array renaming getElem?_eq_some_iff->azj,getElem?_append->aDT,getElem?_modify->azP,getElem?_toList->azI,getElem?_eq_getElem->azd,length_toList->az6,getD_eq_getD_getElem?->aB5,eq_empty_of_size_eq_zero->aAY,toList_inj->aB4,replicate->azZ
open Bool renaming and_eq_true->ajC,false_eq_true->azs
open Option renaming bind_some->azJ,map_eq_some_iff->azL,isSome_none->aBm,map_some->azE
open Prod renaming fst->aAf,mk->azn
open And renaming intro->AT
open Go renaming IntKind->aOT,Program->aOR,TypeId->aOS,Value->aOU,World->aOV,DataW->aO0,MemPlace->aO7,FuncId->aOZ,Code->aO4,PanicEntry->aPb,Operand->aOW,FloatKind->aO5
set_option linter.unusedVariables false
set_option linter.unusedSimpArgs false
set_option maxRecDepth 10000
namespace Go.Proofs.YtemdgidnhgcafaaGreatDoor.Ab
open Go Go.RowKit
inductive ix where
 | bool|int (k:aOT)|str|bg (s:ix)|unit|cat (a b:ix)|ext (n:Nat)
def ix.width:ix->Nat
 | .unit=>0
 | .cat a b=>a.width+b.width
 | .ext n=>n
 | _=>1
def ix.hJ(Q:List V->Prop):ix->List V->Prop
 | .ext n,l=>Q l/\l.length=n
 | .bool,l=>∃b,l=[.bool b]
 | .int k,l=>∃n,l=[.int k n]/\(Lit.int k n).wf=true
 | .str,l=>∃s,l=[.string s]
 | .bg s,l=>∃es:List (List V),l=[.af es.length es.flatten]/\es.length<2^47/\∀e∈es,s.hJ Q e
 | .unit,l=>l=[]
 | .cat a b,l=>∃i j,l=i++j/\a.hJ Q i/\b.hJ Q j
theorem ix.mS{Q:List V->Prop}:∀{s:ix} {l:List V},s.hJ Q l->l.length=s.width
 | .ext _,_,⟨_,h⟩=>h
 | .bool,_,⟨_,h⟩=>by subst h;rfl
 | .int _,_,⟨_,h,_⟩=>by subst h;rfl
 | .str,_,⟨_,h⟩=>by subst h;rfl
 | .bg _,_,⟨_,h,_⟩=>by subst h;rfl
 | .unit,_,h=>by have:_=[]:=h;subst this;rfl
 | .cat a b,_,⟨u,z,h,i,j⟩=>by subst h;rw[Dx,ix.mS i,ix.mS j];rfl
def D3(P:aOR)(g:aOS->Option ix):Nat->List Field->Option ix
 | _,[]=>some .unit
 | o,f::a=>
  if f.offset=o then
   match g f.type,D3 P g (o+P.cellsOf f.type) a with
   | some s,some r=>if s.width=P.cellsOf f.type then some (.cat s r)else none
   | _,_=>none
  else none
def A5(P:aOR)(a:aOS):Nat->aOS->Option ix
 | 0,_=>none
 | n+1,t=>
  if t=a then some (.ext (P.cellsOf t))else
  match P.underlying t with
  | some .bool=>some .bool
  | some (.int k)=>some (.int k)
  | some .string=>some .str
  | some (.slice e)=>match A5 P a n e with|some s=>if s.width=P.cellsOf e/\0<s.width/\1<=P.bytesOf e then some (.bg s)else none|none=>none
  | some (.struct i)=>match D3 P (A5 P a n) 0 i.toList with|some s=>if s.width=P.cellsOf t then some s else none|none=>none
  | _=>none
section
variable {H:Type} {enc:aOS×aOU->H} {P:aOR} {w:aOV} {base:Nat} {spare:Nat->Bool} {held:Bool} {Q:List V->Prop} {T0:aOS}
theorem UZ{g:aOS->Option ix}{cs:List aOU}{fu:Nat}(z:∀t s cs x,g t=some s->aO0.trod enc P w base spare held fu t cs=some x->(∀n∈x.1.weights P t,n<=reachBytes)->∃l,s.hJ Q l/\a6 (kl w) l cs) :
  ∀(j:List Field) (o:Nat) (s:ix) (xs:List (aO0 H×List aO7)),D3 P g o j=some s->xs.length=j.length ->
   (∀(i:Nat) (f:Field),j[i]?=some f->aO0.trod enc P w base spare held fu f.type ((cs.drop f.offset).take (P.cellsOf f.type))=xs[i]?)->(∀n∈aO0.weightsEach P (j.map (·.type)) (xs.map (·.1)),n<=reachBytes)->∃l,s.hJ Q l/\a6 (kl w) l ((cs.drop o).take s.width)
 | [],o,s,xs,a,_,_,_=>by
  simp[D3]at a;subst a;exact⟨[],rfl,by simpa [ix.width]using a6.nil _⟩
 | f::j,o,s,xs,a,A,B,ak=>by
  unfold D3 at a;split at a
  case isFalse=>cases a
  rename_i E;split at a
  case h_2=>cases a
  rename_i m q F G;split at a
  case isFalse=>cases a
  rename_i L;obtain rfl:=Option.some.inj a;cases xs with
  | nil=>simp at A
  | cons x xs=>
   have M:=B 0 f rfl;obtain⟨C,N,cL⟩:=z _ _ _ _ F M (λn u=>ak n (by simp only[axU,aO0.weightsEach,ayN];exact .inl u))
   obtain⟨D,O,dB⟩:=UZ z j _ q xs G (by simpa using A) (λi R S=>B (i+1) R (by simpa using S)) (λn u=>ak n (by simp only[axU,aO0.weightsEach,ayN];exact .inr u))
   refine⟨C++D,⟨C,D,rfl,N,O⟩,?_⟩;have:=cL.append dB;rw[E,<-L]at this;have e:((cs.drop o).take m.width)++((cs.drop (o+m.width)).take q.width)=(cs.drop o).take (m.width+q.width):=by
    rw[aBv,aAo]
   rw[e]at this;exact this
theorem P6:∀(n:Nat) (t:aOS) (s:ix) (A:Nat) (cs:List aOU) (x:aO0 H×List aO7),(∀k,k<=A->∀cs x,aO0.trod enc P w base spare held k T0 cs=some x->(∀n∈x.1.weights P T0,n<=reachBytes)->∃l,Q l/\l.length=P.cellsOf T0/\a6 (kl w) l cs)->A5 P T0 n t=some s->aO0.trod enc P w base spare held A t cs=some x->(∀n∈x.1.weights P t,n<=reachBytes)->∃l,s.hJ Q l/\a6 (kl w) l cs
 | 0,_,_,_,_,_,_,q,_,_=>by simp[A5]at q
 | n+1,t,s,A,cs,x,dn,q,h,S=>by
  unfold A5 at q;by_cases bB:t=T0
  ·rw[if_pos bB]at q;obtain rfl:=Option.some.inj q;subst bB;obtain⟨l,D,M,aC⟩:=dn A (BY _) cs x h S;exact⟨l,⟨D,M⟩,aC⟩
  rw[if_neg bB]at q;split at q
  ·rename_i B;obtain rfl:=Option.some.inj q;obtain⟨b,rfl,_⟩:=aO0.trod_bool B h;exact⟨[.bool b],⟨b,rfl⟩,.cons (.bool b) (.nil _)⟩
  ·rename_i k B;obtain rfl:=Option.some.inj q;obtain⟨m,rfl,_,E⟩:=aO0.trod_int B h;exact⟨[.int k m],⟨m,rfl,E⟩,.cons (.int k m) (.nil _)⟩
  ·rename_i B;obtain rfl:=Option.some.inj q;obtain⟨b,rfl,_⟩:=aO0.trod_string B h;exact⟨[.string b],⟨b,rfl⟩,.cons (.string b) (.nil _)⟩
  ·rename_i e B;split at q
   case h_2=>cases q
   rename_i u gb;split at q
   case isFalse=>cases q
   rename_i E;obtain rfl:=Option.some.inj q;rcases aO0.trod_slice B h with⟨rfl,_⟩|⟨a,z,cap,C,rest,m,R7,rfl,T,_,lG,_,ru,qN,_⟩
   ·exact⟨[.af 0 []],⟨[],rfl,by decide,by simp⟩,.cons (.fD none 0 (by simp)) (.nil _)⟩
   ·rcases aCd z with aG|dp
    ·subst aG;exact⟨[.af 0 []],⟨[],rfl,by decide,by simp⟩,.cons (.fD (some a) cap (by simp)) (.nil _)⟩
    ·have R:∀i,i<z->∃l:List V,u.hJ Q l/\∃F:List aOU,a6 (kl w) l F/\∀j,j<u.width->w.cell? ((a.add (i*u.width)).add j)=F[j]?/\j<F.length:=λi hi=>by
      have D:=qN i hi;have M:∃y,C[i]?=some y:=⟨_,IA (by omega)⟩
      obtain⟨y,bk⟩:=M;rw[bk,Option.bind_eq_some_iff]at D;obtain⟨F,qt,qp⟩:=D;obtain⟨l,f1,cL⟩:=P6 n e u m F y (λk hk=>dn k (by omega)) gb qp (λn aB=>S n (by
       rw[T];simp only[aO0.weights,B];exact aAM _ (List.mem_append_left _ (UL (OF.2 ⟨y,azq bk,rfl⟩) aB))))
      rw[<-E.1]at qt;obtain⟨g1,g2⟩:=UK qt;exact⟨l,f1,F,cL,λj W=>⟨g2 j W,by omega⟩⟩
     obtain⟨N,tQ,X⟩:=PR z R;have e3:∀e∈N,u.hJ Q e:=λe he=>by
      obtain⟨i,hi⟩:=List.getElem?_of_mem he;exact(X i e hi).1
     have O:∀e∈N,e.length=u.width:=λe he=>ix.mS (e3 e he);obtain⟨b,off,sp⟩:=a;have jy:∃v,w.cell? ⟨b,off,sp⟩=some v:=by
      obtain⟨_,F,_,av⟩:=(X 0 N[0] (IA (by omega)))
      obtain⟨G,Y⟩:=av 0 E.2.1;rw[Nat.zero_mul]at G;simp only[Addr.add,if_true]at G;exact⟨_,G.trans (IA Y)⟩
     obtain⟨v0,Z⟩:=jy;have ak:∃L gG gh,w.heap[b]?=some (.cells L gG gh)/\sp=none:=by
      unfold aOV.cell? at Z;split at Z
      ·rename_i c gG gh ab;refine⟨c,gG,gh,ab,?_⟩;cases sp with
       | none=>rfl
       | some _=>simp at Z
      ·cases Z
     obtain⟨L,gG,gh,ak,rfl⟩:=ak;have wa:∀m,w.cell? (Addr.add ⟨b,off,none⟩ m)=L[off+m]?:=λm=>by
      rw[Addr.add_mid];simp[aOV.cell?,ak]
     have rE:∀i j,j<u.width->w.cell? ((Addr.add ⟨b,off,none⟩ (i*u.width)).add j)=L[off+(i*u.width+j)]?:=λi j _=>by
      rw[Addr.add_mid,Addr.add_mid];simp[aOV.cell?,ak,Nat.add_assoc]
     have bl:N.length<2^47:=by
      have aG:=S ((C.length+rest.length)*P.bytesOf e) (by rw[T];simp[aO0.weights,B])
      have D:=Nat.le_trans (Nat.le_mul_of_pos_right _ E.2.2) aG;have M:=reachBytes_lt;omega
     refine⟨[.af N.length N.flatten],⟨N,rfl,bl,e3⟩,.cons ?_ (.nil _)⟩;rw[tQ];refine .af off z cap (KF ak) lG ?_ λk v v' D M=>?_
     ·rw[PT O,tQ];obtain⟨_,F,_,av⟩:=(X (z-1) N[z-1] (IA (by omega)))
      obtain⟨G,Y⟩:=av (u.width-1) (by omega)
      rw[rE _ _ (by omega),IA Y]at G
      have fp:=(azj.1 G).1;have:(z-1)*u.width+u.width=z*u.width:=by
       rw[<-Nat.succ_mul];congr 1;omega
      omega
     ·obtain⟨ay,g1,g2⟩:=PS E.2.1 O D;obtain⟨_,F,aJ,av⟩:=X _ ay g1;have W:k % u.width<u.width:=Nat.mod_lt _ E.2.1;obtain⟨G,Y⟩:=av _ W;rw[rE _ _ W,show k / u.width*u.width+k % u.width=k by rw[Nat.mul_comm];exact Nat.div_add_mod k u.width,M]at G
      exact aJ.2 _ _ _ g2 G.symm
  ·rename_i dr B;split at q
   case h_2=>cases q
   rename_i u gb;split at q
   case isFalse=>cases q
   rename_i E;obtain rfl:=Option.some.inj q;obtain⟨xs,m,R7,T,cM,ot,ah⟩:=aO0.trod_struct B h;obtain⟨l,f1,cL⟩:=UZ (fu:=m) (λt s cs x D M aC=>P6 n t s m cs x (λk hk=>dn k (by omega)) D M aC) dr.toList 0 u xs gb (by simpa using ot) (λi f az=>ah i f (by simpa using az)) (λn aB=>S n (by rw[T];simp only[aO0.weights,B];exact aB))
   rw[azC,E,<-cM,azG]at cL;exact⟨l,f1,cL⟩
  ·cases q
theorem aou{n:Nat}{q:Array Field}{j:ix}(u:P.underlying T0=some (.struct q))(B:D3 P (A5 P T0 n) 0 q.toList=some j)(z:j.width=P.cellsOf T0)(C:∀l,j.hJ Q l->Q l) :
  ∀(a:Nat) (cs:List aOU) (x:aO0 H×List aO7),aO0.trod enc P w base spare held a T0 cs=some x->(∀n∈x.1.weights P T0,n<=reachBytes)->∃l,Q l/\l.length=P.cellsOf T0/\a6 (kl w) l cs:=by
 intro a
 induction a using Nat.strongRecOn with
 | _ a ih=>
  intro cs x h D;obtain⟨E,m,W,F,G,L,M⟩:=aO0.trod_struct u h;obtain⟨l,A,cL⟩:=UZ (Q:=Q) (fu:=m) (λt s cs x N O R=>P6 (Q:=Q) n t s m cs x (λk Y=>ih k (by omega)) N O R) q.toList 0 j E B (by simpa using L) (λi f S=>M i f (by simpa using S)) (λn T=>D n (by rw[F];simp only[aO0.weights,u];exact T))
  rw[azC,z,<-G,azG]at cL;exact⟨l,C l A,by rw[ix.mS A,z],cL⟩
theorem aov{n m:Nat}{q:Array Field}{i:ix}(u:P.underlying T0=some (.struct q))(z:D3 P (A5 P T0 n) 0 q.toList=some i)(A:i.width=P.cellsOf T0)(B:∀l,i.hJ Q l->Q l)
  {t:aOS} {s:ix} (C:A5 P T0 m t=some s) {a:Nat} {cs:List aOU} {x:aO0 H×List aO7} (h:aO0.trod enc P w base spare held a t cs=some x) (j:∀n∈x.1.weights P t,n<=reachBytes):∃l,s.hJ Q l/\a6 (kl w) l cs :=
 P6 m t s a cs x (λk _ cs x h j=>aou u z A B k cs x h j) C h j
end
def aaE(P:aOR)(g:aOZ)(args:List V)(h:I)(R:I->Prop):Prop :=
 ∀(ρ:Ren) (B:Nat) (i w:aOV) (a:Array aOU),a1 ρ B i h w->a6 ρ args a.toList ->
  CallsD P g a .returning w λe j w'=>e=.returned (.tuple #[])/\j=.returning/\∃(ρ':Ren) (h':I),a1 ρ' B i h' w'/\ρ.le ρ'/\R h'
def aaF(P:aOR)(g:aOZ)(args:List V)(h:I)(R:I->Prop):Prop :=
 ∀(ρ:Ren) (B:Nat) (j w:aOV) (i:Array aOU) (t:aOS) (v:aOU),a1 ρ B j h w->a6 ρ args i.toList ->
  CallsD P g i (.panicking [{ v:=.iface t v,recovered:=false }]) w λe m w'=>e=.returned (.tuple #[])/\m=.panicking [{ v:=.iface t v,recovered:=true }]/\∃(ρ':Ren) (h':I),a1 ρ' B j h' w'/\ρ.le ρ'/\R h'
def D4(P:aOR)(fn:Func)(R:V->I->Prop)(f:aj)(h:I):Prop:=match sb P fn.results.toList f h with|some r=>R r h|none=>False
theorem au.K4{P:aOR}{bE g:aOZ}{fn:Func}{A A2 C:aO4}{R8:Nat}{t x y:Tmp}{ai aq:aOS}{U0 U1}{U2 U3}{az:Array aOS}(oq:P.funcs[bE]?=some fn)
  (ak:fn.body=some (.seq A (.seq A2 (.seq (.region R8 #[⟨some t,.makeFunc (.func g) #[] #[.tmp x,.tmp y],ai,U0,U2,none⟩,⟨none,.defer ⟨.value (.tmp t),#[],az⟩,aq,U1,U3,none⟩] false) C))))
  (bB:t<fn.ntmps) (T:mC P g=true) {args:List V} (X:args.length<=fn.ntmps) {h:I} {R:V->I->Prop} {M:aj->I->Prop} {KR KP:V->V->aj->I->Prop}
  (h1:aS P fn.ntmps A (λz f h=>z=.normal/\aS P fn.ntmps A2 (λz f h=>(z=.ret/\D4 P fn R f h)\/(z=.normal/\M f h)) f h) (iO args) h)
  (aC:∀f h,M f h->aS P fn.ntmps C (λz L h'=>((z=.ret\/z=.normal)/\KR (f x) (f y) L h')\/(z=.panic/\KP (f x) (f y) L h')) (f.put (some t) .top) h)
  (eF:∀gH s L h',KR gH s L h'->aaE P g [gH,s] h' (D4 P fn R L))
  (mA:∀gH s L h',KP gH s L h'->aaF P g [gH,s] h' (D4 P fn R L)):au P bE args h R:=by
 intro ρ B D w aB hw aT;refine calls_of_wp_defers oq ak ?_;have Q:∀(ρ':Ren) (f:aj) (h':I) (iD:Act) (w':aOV),Ren.le { ρ with dfr:=[] } { ρ' with dfr:=[] }->a1 ρ' B D h' w'->eE ρ' fn.ntmps f iD->D4 P fn R f h' ->
   ∃v,(results fn iD.tmps).run P w'=.ok v w'/\((∃(ρ':Ren) (r:V) (E:aOU) (h':I),Ending.returned v=.returned E/\aE ρ' r E/\a1 ρ' B D h' w'/\ρ.le ρ'/\R r h') \/
    (∃(ρ':Ren) (G:List aPb) (h':I),Ending.returned v=.panicked G/\DP G/\a1 ρ' B D h' w'/\ρ.le ρ'/\False)):=by
  intro ρ' f h' iD w' ax b5 cm dn;unfold D4 at dn;cases qo:sb P fn.results.toList f h' with
  | none=>simp[qo]at dn
  | some r=>
  simp only[qo]at dn;obtain⟨E,cB,de⟩:=Um b5 cm qo;exact⟨E,cB,.inl ⟨{ ρ' with dfr:=ρ.dfr },r,E,h',rfl,de.dfr ρ.dfr,b5.dfr ρ.dfr,⟨ax.ren,ax.frz,rfl⟩,dn⟩⟩
 apply wp_seq;refine wp_mono (h1 { ρ with dfr:=[] } B D _ w (hw.dfr []) (Un (aT.dfr []) X rfl)) ?_
 rintro e bZ cE ⟨ρ1,z,f1,D5,N,hO,zM,hP,rfl,ad⟩
 cases e<;>simp only[r9]at N;show(aO4.seq A2 _).wp P _ bZ cE;apply wp_seq;refine wp_mono (ad ρ1 B D bZ cE hO zM) ?_
 rintro e u Y ⟨ρ2,z,Z,fx,N,jM,S,h6,bS⟩
 have dw:Ren.le { ρ with dfr:=[] } { ρ2 with dfr:=[] }:=⟨(hP.trans h6).ren,(hP.trans h6).frz,rfl⟩;rcases bS with⟨rfl,bS⟩|⟨rfl,bS⟩
 ·cases e<;>simp only[r9]at N;show Leaves P fn u.tmps _ u.defers .returning Y;rw[show u.defers=[]from(S.defers.trans h6.dfr).trans hP.dfr]
  exact Q ρ2 Z fx u Y dw jM S bS
 ·cases e<;>simp only[r9]at N;show(aO4.seq (.region R8 _ false) C).wp P _ u Y;apply wp_seq;apply wp_region;have bl:=S.size;have aD:u.defers=[]:=(S.defers.trans h6.dfr).trans hP.dfr;have ht:=aC Z fx bS;obtain⟨gH,yf⟩:∃v,v=u.tmps.getD x undef:=⟨_,rfl⟩;obtain⟨s,K5⟩:∃v,v=u.tmps.getD y undef:=⟨_,rfl⟩;have rx:=S.tmps x;have aa:=S.tmps y;rw[<-yf]at rx;rw[<-K5]at aa;have qP:=S.put (v:=.top) (v':=.func (.func g) #[] #[gH,s]) (.top _) (some t) (by simpa [s7]using bB)
  let d:Deferred:={ target:=.fn (.func g) #[gH,s],args:=#[] }
  have nO:C.wp P (bodyPostD P fn λe w'=>(∃(ρ':Ren) (r:V) (E:aOU) (h':I),e=.returned E/\aE ρ' r E/\a1 ρ' B D h' w'/\ρ.le ρ'/\R r h') \/
    (∃(ρ':Ren) (G:List aPb) (h':I),e=.panicked G/\DP G/\a1 ρ' B D h' w'/\ρ.le ρ'/\False)) { tmps:=(u.put (some t) (.func (.func g) #[] #[gH,s])).tmps,defers:=[d] } Y:=by
   have iF:eE { ρ2 with dfr:=[d] } fn.ntmps (Z.put (some t) .top) { tmps:=(u.put (some t) (.func (.func g) #[] #[gH,s])).tmps,defers:=[d] } :=
    ⟨λk=>(qP.tmps k).dfr [d],qP.size,rfl⟩
   refine wp_mono (ht { ρ2 with dfr:=[d] } B D _ Y (jM.dfr [d]) iF) ?_
   rintro e F W ⟨ρ3,z,f3,zN,N,BI,wz,pI,K6⟩
   have Hw:F.defers=[d]:=wz.defers.trans pI.dfr;have K7:ρ2.le { ρ3 with dfr:=ρ2.dfr }:=pI.r5;have IW:a6 { ρ3 with dfr:=ρ2.dfr } [Z x,Z y] #[gH,s].toList:=a6.cons (rx.mono K7) (a6.cons (aa.mono K7) (a6.nil _));have wk:Ren.le { ρ with dfr:=[] } { ρ3 with dfr:=[] }:=⟨λi q j=>pI.ren i q (dw.ren i q j),λi q j=>pI.frz i q (dw.frz i q j),rfl⟩;have O:(invoke d.target d.args).run P W=.ok (.enter g #[gH,s]) W:=by
    unfold mC at T;cases aw:P.funcs[g]? with
    | none=>simp[aw]at T
    | some aG=>
     simp only[aw,ajC,bne_iff_ne,ne_eq]at T;simp[d,invoke,callFunc,aw,T.1,T.2,Option.isSome_iff_ne_none.1 T.1]
   rcases K6 with⟨K6,hk⟩|⟨rfl,hk⟩
   ·have U4:Leaves P fn F.tmps (λe w'=>(∃(ρ':Ren) (r:V) (E:aOU) (h':I),e=.returned E/\aE ρ' r E/\a1 ρ' B D h' w'/\ρ.le ρ'/\R r h') \/
      (∃(ρ':Ren) (G:List aPb) (h':I),e=.panicked G/\DP G/\a1 ρ' B D h' w'/\ρ.le ρ'/\False)) F.defers .returning W:=by
     rw[Hw];refine⟨by simp,_,_,g,#[gH,s],rfl,O,?_⟩
     refine((eF _ _ _ _ hk) { ρ3 with dfr:=ρ2.dfr } B D W #[gH,s] (BI.dfr ρ2.dfr) IW).mono ?_
     rintro e vg wA ⟨rfl,rfl,ρ4,bn,u3,H,he⟩
     have K8:eE { ρ4 with dfr:=[d] } fn.ntmps f3 F:=⟨λk=>aE.za (ρ:=ρ3) (ρ':={ ρ4 with dfr:=[d] }) (λi q j=>H.ren i q j) (λi q j=>H.frz i q j) (wz.tmps k),wz.size,Hw⟩;exact Q { ρ4 with dfr:=[d] } f3 bn F wA ⟨λi q j=>H.ren i q (wk.ren i q j),λi q j=>H.frz i q (wk.frz i q j),rfl⟩ (u3.dfr [d]) K8 he
    rcases K6 with rfl|rfl<;>cases e<;>simp only[r9]at N<;>exact U4
   ·cases e with
    | panic G=>
     obtain⟨zO,cG,rfl⟩:=N;show Leaves P fn F.tmps _ F.defers (.panicking _) W;rw[Hw];refine⟨by simp,_,_,g,#[gH,s],rfl,O,?_⟩
     refine((mA _ _ _ _ hk) { ρ3 with dfr:=ρ2.dfr } B D W #[gH,s] zO cG (BI.dfr ρ2.dfr) IW).mono ?_
     rintro e vg wA ⟨rfl,rfl,ρ4,bn,u3,H,he⟩
     have K8:eE { ρ4 with dfr:=[d] } fn.ntmps f3 F:=⟨λk=>aE.za (ρ:=ρ3) (ρ':={ ρ4 with dfr:=[d] }) (λi q j=>H.ren i q j) (λi q j=>H.frz i q j) (wz.tmps k),wz.size,Hw⟩;show Leaves P fn F.tmps _ [] (settle _) wA;simp only[settle,List.dropWhile_nil];exact Q { ρ4 with dfr:=[d] } f3 bn F wA ⟨λi q j=>H.ren i q (wk.ren i q j),λi q j=>H.frz i q (wk.frz i q j),rfl⟩ (u3.dfr [d]) K8 he
    | _=>simp only[r9]at N
  have ay:u.eval (.tmp x)=gH:=by simp[Act.eval,yf]
  have bc:u.eval (.tmp y)=s:=by simp[Act.eval,K5]
  simp[wpOps,go_sem];refine .inl (.inl ?_);rw[if_pos (show t<u.tmps.size from bl.symm▸bB)]
  subst yf K5;simpa [Act.put,aD,d,go_sem,Oper.upon]using nO
section
variable {h:I} {a b c d o:aR}
theorem aow:(((h.push a).push b).push c).get h.n=a:=by simp[AY,df];intro U;omega
theorem aox:(((h.push a).push b).push c).get (h.n+1)=b:=by simp[AY,df]
theorem aoy:(((h.push a).push b).push c).get (h.n+1+1)=c:=by simp[AY,df]
theorem aoz:((((h.push a).push b).push c).push d).get h.n=a:=by
 simp only[AY,df];rw[if_neg (by omega),if_neg (by omega),if_neg (by omega),if_pos trivial]
theorem aoA:((((h.push a).push b).push c).push d).get (h.n+1+1)=c:=by
 simp only[AY,df];rw[if_neg (by omega),if_pos trivial]
theorem aoB:((((h.push a).push b).push c).push d).get (h.n+1+1+1)=d:=by
 simp only[AY,df];rw[if_pos trivial]
theorem aoC:(((h.push a).push b).push c).set (h.n+1+1) o=((h.push a).push b).push o:=by
 rw[show h.n+1+1=((h.push a).push b).n from rfl,set_push]
theorem aoD:((((h.push a).push b).push c).push d).set (h.n+1+1+1) o=(((h.push a).push b).push c).push o:=by
 rw[show h.n+1+1+1=(((h.push a).push b).push c).n from rfl,set_push]
end
def K9(g:Nat->Option (List V)):I:={ n:=0,get:=λ_=>.dead,glob:=g }
def La(g:Nat->Option (List V))(w:aOV):Prop:=∀k i,g k=some i->∃a e j,w.heap[k]?=some (.cells a e j)/\er (kl w) i a
theorem aoE{g:Nat->Option (List V)}{w:aOV}(q:La g w):a1 (kl w) w.heap.size w (K9 g) w:=by
 have m:=UD w;refine⟨⟨m.heap.me,λi j b c B h=>by simp[K9]at h,λ_=>trivial,m.heap.frz,λk s u=>?_,BY _⟩,hN.refl _ _⟩
 obtain⟨a,e,C,z,A⟩:=q k s u;exact⟨a,KF z,A⟩
theorem au.Lb{P:aOR}{bE:aOZ}{args:List V}{v:V}{a:aOU}{g:Nat->Option (List V)}(av:au P bE args (K9 g) λr _=>r=v)(j:nW v=some a){w:aOV}(s:La g w)
  {args':Array aOU} (aT:a6 (kl w) args args'.toList):Calls P bE args' w λe w'=>e=.returned a/\Below w.heap.size w w' :=
 (av (kl w) w.heap.size w w args' (aoE s) aT).mono λe w' U=>by
  rcases U with⟨ρ',r,C,h',i,u,z,_,A⟩|⟨_,_,_,_,_,_,_,B⟩
  ·subst A;rw[zf u j]at i;exact⟨i,z.below.below⟩
  ·exact B.elim
theorem U5{P:aOR}{w:aOV}{name:String}{k:aOT}{zs:List Int}{g:Nat}(u:P.globalNamed name=some g)(h:Lib.TabIs P w name k zs):∃arr e a,w.heap[g]?=some (.cells arr e a)/\er (kl w) (zs.map (V.int k)) arr:=by
 unfold Lib.TabIs aOV.var? at h;rw[u]at h;simp only[azJ]at h;split at h
 ·rename_i B e a z;obtain rfl:=Option.some.inj h;refine⟨_,e,a,z,by simp,λi v C j q=>?_⟩
  simp only[aBx,azL,List.getElem?_toArray]at j q;obtain⟨n,A,rfl⟩:=j;obtain⟨m,s,rfl⟩:=q;rw[A]at s;cases s;exact .int k n
 ·cases h
section
variable {H:Type} {enc:aOS×aOU->H} {P:aOR} {w:aOV} {base:Nat} {spare:Nat->Bool} {held:Bool} {Q:List V->Prop} {T0:aOS}
theorem aoF{n m:Nat}{i:Array Field}{a:ix}{t:aOS}{s:ix}{xs:Array aOU}{d:aO0 H}{q:List aO7}(u:P.underlying T0=some (.struct i))(z:D3 P (A5 P T0 n) 0 i.toList=some a)(A:a.width=P.cellsOf T0)(B:∀l,a.hJ Q l->Q l)
  (C:A5 P T0 m t=some s) (D:∀n∈d.weights P t,n<=reachBytes) (h:aO0.Trod enc P w base spare held t (.agg xs) d q):∃l:List V,s.hJ Q l/\aE (kl w) (.agg l) (.agg xs):=by
 obtain⟨j,E⟩:=h;obtain⟨l,F,G⟩:=aov (Q:=Q) u z A B C E D;exact⟨l,F,G.j0.agg⟩
end
section
variable {P:aOR} {t:aOS}
def F3(P:aOR)(t:aOS):Option (Nat×Nat×Bool):=match P.underlying t with
 | some (.array n e)=>match nX P e,cH P e with
  | some r,some sz=>some (n,sz,r)
  | _,_=>none
 | _=>none
def Lc(q:Option (Nat×Nat×Bool))(cs:List V)(i:Int):Option V:=match q with
 | some (n,sz,r)=>if 0<=i/\i<n then(if r then some (.agg ((cs.drop (i.toNat*sz)).take sz))else cs[i.toNat*sz]?)else none
 | none=>none
theorem aoG{q:Nat×Nat×Bool}(h:F3 P t=some q){cs:List V}{kk:aOT}{i:Int}:FK P t (.agg cs) (.int kk i)=Lc (some q) cs i:=by
 unfold F3 at h;cases a:P.underlying t with
 | none=>simp[a]at h
 | some d=>
  cases d<;>simp only[a]at h<;>try (exact absurd h (by simp))
  rename_i n e;unfold FK ul Lc;simp only[a];cases j:nX P e with
  | none=>simp[j]at h
  | some r=>
   cases m:cH P e with
   | none=>simp[j,m]at h
   | some sz=>
    simp only[j,m,Option.some.injEq]at h;subst h;simp only[];cases r<;>simp
end
def kD(v i:V):Prop:=∀ ρ a,aE ρ v a->aE ρ i a
def kE(l i:List V):Prop:=∀ ρ a,a6 ρ l a->a6 ρ i a
theorem kD.refl(v:V):kD v v:=λ_ _ h=>h
theorem kE.refl(l:List V):kE l l:=λ_ _ h=>h
theorem kE.cons{v i:V}{l j:List V}(a:kD v i)(b:kE l j):kE (v::l) (i::j):=fun ρ B h=>by
 obtain⟨s,u,rfl,z,A⟩:=h.dT;exact a6.cons (a ρ s z) (b ρ u A)
theorem kE.append{a i b j:List V}(aT:kE a i)(z:a.length=i.length)(ak:kE b j):kE (a++b) (i++j):=fun ρ A h=>by
 have s:=h.take a.length;have u:=h.drop a.length;rw[List.take_left]at s;rw[List.drop_left]at u;have:=(aT ρ _ s).append (ak ρ _ u);rwa[azU]at this
theorem kD.ag:kD .ag (.af 0 []):=fun ρ i h=>by cases h;exact .fD none 0 (by simp)
theorem kD.af{n:Nat}{cs j:List V}(h:kE cs j)(u:cs.length=j.length):kD (.af n cs) (.af n j):=fun ρ s A=>by
 cases A with
 | af o n cap ak B H C=>
  rename_i b arr;have D:a6 ρ cs ((arr.toList.drop o).take cs.length):=by
   refine⟨by simp;omega,λk v s E i=>?_⟩
   rw[azf]at i;split at i
   ·rw[azF]at i;exact C k v s E (by simpa using i)
   ·cases i
  have i:=h ρ _ D;refine .af o n cap ak B (by omega) λk v s z F=>?_
  have G:k<cs.length:=by rw[u];exact(are.1 z).1
  refine i.2 k v s z ?_;rw[azf,if_pos G,azF];simpa using F
 | fD a c aT=>
  have:j=[]:=List.eq_nil_of_length_eq_zero (by simpa using u.symm)
  subst this;exact .fD a c aT
theorem kD.cast{v i:V}(a:kD v i)(h:I):aF v h i h:=fun ρ B z w j s u=>⟨ρ,Ren.le.refl ρ,s,a ρ j u⟩
theorem kD.agg{l i:List V}(h:kE l i):kD (.agg l) (.agg i):=fun ρ z j=>by
 cases j with
 | agg s u=>exact(h ρ _ (er.list ⟨s,u⟩)).j0.agg
theorem kD.tuple{l i:List V}(h:kE l i):kD (.tuple l) (.tuple i):=fun ρ z j=>by
 cases j with
 | tuple s u=>exact(h ρ _ (er.list ⟨s,u⟩)).j0.tuple
section
variable {P:aOR} {t:aOS} {T:lM}
theorem tc{h:I}{e:aOS}{sz:Nat}{v:V}{cs:List V}(u:et P t=some 1)(z:Own h e sz v cs){n:Nat}(m:cs.length=n*sz)(A:0<sz)(B:cs.all (·.one)=true):fS P sz t v h=some (n,cs):=by
 obtain⟨d,q,C⟩:=DR u;cases d<;>simp[xt]at C;rcases z with⟨D,rfl⟩|⟨i,j,cap,c,L,rfl,hi,E,a,s,M⟩
 ·have F:n=0:=by
   have:n*sz=0:=by simpa using m.symm
   rcases Nat.mul_eq_zero.1 this with h|h<;>omega
  subst F;rcases D with rfl|rfl<;>simp only[fS,q]
 ·have G:j=n:=aAx A (a.symm.trans m);subst G;have H:j*sz<=c.length:=by
   have:=congrArg azx s;rw[TY,a]at this;omega
  simp only[fS,q,E,azC,ayP];rw[s,if_pos ⟨H,B⟩]
end
section
variable {H:Type} {enc:aOS×aOU->H} {P:aOR} {w:aOV} {base:Nat} {spare:Nat->Bool} {held:Bool}
end
section
variable {M:Nat->Prop} {bF:aOW->V} {t s:aOS} {x y z:aOW} {k:Nat}
theorem aoH{h:I}{i:Nat}{o:aR}:J h (h.set i o) (λx=>x=i)=True:=eq_true (J.set h i o)
theorem U6{n:Nat}:(n+1+1=n)=False:=eq_false (by omega)
theorem U7{n:Nat}:(n+1+1+1=n)=False:=eq_false (by omega)
theorem U8{n:Nat}:(n+1+1+1+1=n)=False:=eq_false (by omega)
theorem aoI{n:Nat}:(n=n+1)=False:=eq_false (by omega)
theorem aoJ{n:Nat}:(n=n+1+1)=False:=eq_false (by omega)
theorem aoK{n:Nat}:(n=n+1+1+1)=False:=eq_false (by omega)
def xC(M:Nat->Prop)(v:V):Prop:=nM M (j2 v)
theorem aoL:nM M (rF bF (.move x))=True:=eq_true (by intro i hi;cases hi)
theorem aoM:nM M (rF bF (.assign x))=True:=eq_true (by intro i hi;cases hi)
theorem aoN:nM M (rF bF (.pick x y z))=True:=eq_true (by intro i hi;cases hi)
theorem aoO{ps:Array (Nat×aOW)}:nM M (rF bF (.build t ps))=True:=eq_true (by intro i hi;cases hi)
theorem aoP:nM M (rF bF (.nilCheck x))=True:=eq_true (by intro i hi;cases hi)
theorem aoQ{op:BinOp}:nM M (rF bF (.binOp op t x y s))=True:=eq_true (by intro i hi;cases hi)
theorem aoR{op:UnOp}:nM M (rF bF (.unOp op t x))=True:=eq_true (by intro i hi;cases hi)
theorem aoS:nM M (rF bF (.fieldAddr t x k))=True:=eq_true (by intro i hi;cases hi)
theorem aoT:nM M (rF bF (.indexAddr t x y))=True:=eq_true (by intro i hi;cases hi)
theorem aoU:nM M (rF bF (.extract x k))=True:=eq_true (by intro i hi;cases hi)
theorem aoV:nM M (rF bF (.load t x))=xC M (bF x):=rfl
theorem aoW{i o:Nat}:xC M (.ptr i o)=¬M i:=propext ⟨λh=>h i rfl,λh j a=>by cases a;exact h⟩
theorem aoX{i:Nat}:xC M (.map i)=¬M i:=propext ⟨λh=>h i rfl,λh j a=>by cases a;exact h⟩
theorem aoY{cs:List V}:xC M (.at cs)=True:=eq_true (by intro i hi;cases hi)
end
section
variable {P:aOR} {d:Option Tmp} {K:fz} {f:aj} {h:I}
end
section
variable {P:aOR} {t:aOS} {T:lM}
def vu(h:I)(e:aOS)(sz:Nat)(i len cap:Nat)(c:List V)(ex:Option Nat)(cs:List V):Prop :=
 i<h.n/\h.get i=.cells c e ex/\cs.length=len*sz/\c.take (len*sz)=cs/\cap<b7/\cap*sz<=c.length/\len<=cap
theorem vu.own{h:I}{e:aOS}{sz i len cap:Nat}{c cs:List V}{ex:Option Nat}(o:vu h e sz i len cap c ex cs):Own h e sz (.bg i 0 len cap) cs :=
 .inr ⟨i,len,cap,c,ex,rfl,o.1,o.2.1,o.2.2.1,o.2.2.2.1,.inl ⟨o.2.2.2.2.1,o.2.2.2.2.2.1,o.2.2.2.2.2.2⟩⟩
theorem aoZ{h:I}{i len sz:Nat}{c:List V}{e:aOS}(u:h.get i=.cells c e (some sz)){ρ:Ren}{B:Nat}{z w:aOV}(R:a1 ρ B z h w){A:aOU}(H:aE ρ (.bg i 0 len b7) A) :
  ∃C,len<=C/\C<2^63/\c.length<=C*sz/\a1 ρ B z (h.set i (.cells (c++azr (C*sz-c.length) .top) e none)) w/\aE ρ (.bg i 0 len C) A:=by
 obtain⟨b,a,hi,s,rfl⟩:=H.gW;have D:=R.heap.obj i;rw[u]at D;obtain⟨Z,tr,j,E,L,M,N,av,O,bl,Q⟩:=D;rw[hi]at E;cases E;have S:gg a b7=a:=by simp[gg,b7]
 rw[S]at s⊢;have W:c.length<=a*sz:=by omega
 refine⟨a,s,Q,W,R.r4 hi (by rw[u];simp) (λk _=>rfl) (BY _) (hN.refl _ _) ?_,?_⟩
 ·have m:(c++azr (a*sz-c.length) V.top).length=j.size:=by simp;omega
  refine⟨b,a,j,hi,L,M,N,by omega,?_,by rw[m];rfl⟩
  rw[m,show j.toList.take j.size=j.toList from by rw[ajz (by simp)]]
  refine⟨by rw[m];simp,λk v X q Y=>?_⟩
  by_cases F:k<c.length
  ·rw[aAc F]at q;exact O.2 k v X q (by rw[azf,if_pos F];exact Y)
  ·rw[aAd (by omega)]at q
   have:=azq q;rw[List.mem_replicate]at this;rw[this.2];exact .top _
 ·have G:gg a a=a:=by unfold gg;rw[if_pos (show a<b7 by unfold b7;omega)]
  have:=aE.bg (ρ:=ρ) hi 0 len a (by rw[G];exact s)
  rw[G]at this;exact this
theorem au.F4{P:aOR}{bE:aOZ}{h:I}{e:aOS}{sz:Nat}{v:V}{cs rest:List V}{R:V->I->Prop}(F:Own h e sz v cs)(bl:0<sz)
  (G:(v=.ag\/v=.z0)->cs=[]->au P bE (v::rest) h R)
  (z:∀i len cap c ex h',(v=.bg i 0 len cap\/v=.bg i 0 len b7)->vu h' e sz i len cap c ex cs->cap<2^63\/v=.bg i 0 len cap->J h h' (·=i)->h'.n=h.n->au P bE (.bg i 0 len cap::rest) h' R):au P bE (v::rest) h R:=by
 rcases F with⟨H,L⟩|⟨i,len,cap,c,ex,rfl,hi,A,j,u,⟨M,N,O⟩|⟨rfl,rfl⟩⟩
 ·exact G H L
 ·exact z i len cap c ex h (.inl rfl) ⟨hi,A,j,u,M,N,O⟩ (.inr rfl) (J.refl _ _) rfl
 ·intro ρ B Q w s S aT;cases s with
  | mk l=>
  cases l with
  | nil=>have:=aT.1;simp at this
  | cons a l=>
  have W:aE ρ (.bg i 0 len b7) a:=aT.2 0 _ _ rfl rfl;obtain⟨C,X,Y,k3,Z,dB⟩:=aoZ A S W;have cM:len*sz<=c.length:=by
   have:=congrArg azx u;rw[TY,j]at this;omega
  refine z i len C _ none _ (.inr rfl) ⟨by rw[kj];exact hi,aL,j,?_,by unfold b7;omega,?_,X⟩ (.inl Y) (J.set _ _ _) (kj) ρ B Q w _ Z ?_
  ·rw[List.take_append_of_le_length cM,u]
  ·simp;omega
  ·refine⟨by have:=aT.1;simpa using this,λk v v' D E=>?_⟩
   cases k with
   | zero=>cases D;cases E;exact dB
   | succ k=>exact aT.2 (k+1) v v' (by simpa using D) (by simpa using E)
theorem U9{sz:Nat}{kk:aOT}(D:dC P t=some sz)(E:0<sz){h:I}{e:aOS}{v:V}{cs:List V}(u:Own h e sz v cs){k:Nat}(q:(k+1)*sz<=cs.length) :
  ∃i,gP P t v (.int kk (k:Int))=some (.ptr i (k*sz))/\aU v=some i/\i<h.n/\(∀(h':I) (d:Nat),h'.get i=h.get i->d<=sz->∃r,cO (h'.get i) (k*sz+d)=some (((cs.drop (k*sz)).take sz).drop d++r)) /\
   ∀xs:List V,xs.length=sz->xs.all (·.one)=true->∃ob,bA (some sz) (h.get i) (k*sz) xs=some ob/\Own (h.set i ob) e sz v (lay cs (k*sz) xs)/\J h (h.set i ob) (a7 v):=by
 rcases u with⟨_,rfl⟩|⟨i,m,cap,c,A,rfl,hi,B,j,z,F⟩
 ·have:sz<=(k+1)*sz:=Nat.le_mul_of_pos_left _ (by omega)
  simp at q;omega
 ·have G:m*sz<=c.length:=by
   have:=congrArg azx z;rw[TY,j]at this;omega
  have H:k<m:=by
   rw[j]at q;have:=Nat.le_of_mul_le_mul_right q E;omega
  have C:k*sz+sz=(k+1)*sz:=by rw[axY];omega
  refine⟨i,?_,rfl,hi,λh' d U L=>⟨c.drop (k*sz+sz),?_⟩,λxs s u=>⟨.cells (lay c (k*sz) xs) e A,?_,.inr ⟨i,m,cap,lay c (k*sz) xs,A,rfl,by rw[kj];exact hi,aL,?_,?_,?_⟩,(J.set h i _).mono λk q=>by subst q;rfl⟩⟩
  ·rw[d6,D,Ut,if_pos ⟨by omega,by omega⟩]
   simp
  ·rw[U,B,Kw,if_pos (by omega),<-z]
   congr 1
   have ay:((c.take (m*sz)).drop (k*sz)).take sz=(c.drop (k*sz)).take sz:=by
    rw[aBz,azY,azt];have:(k+1)*sz<=m*sz:=Nat.mul_le_mul_right _ H;omega
   have bc:=azU (sz-d) (c.drop (k*sz+d));rw[aAo,show k*sz+d+(sz-d)=k*sz+sz by omega]at bc
   rw[ay,aBz,aAo];exact bc.symm
  ·rw[B];unfold bA;simp only;rw[if_pos ⟨s,u,by omega⟩]
  ·rw[r6 _ _ _ (by rw[s,j];omega),j]
  ·rw[T2 _ _ _ _ (by rw[s];omega) G,z]
  ·rcases F with⟨a,b,d⟩|⟨a,b⟩
   ·exact .inl ⟨a,by rw[r6 _ _ _ (by rw[s];omega)];exact b,d⟩
   ·exact .inr ⟨a,b⟩
theorem aaL{k:aOT}{n:Nat}:xp (.int k (n:Int))=some n:=by simp[xp]
theorem aaM(a:gp P t=some T){i o len cap:Nat}(av:cap<b7):vm P t (.bg i o len cap)=some (.int .i64 cap):=by
 unfold vm;rw[(uS a).2.2.2.2.2];simp only;rw[if_pos av]
theorem aaN{tn:aOS}{kn kq:aOT}(m:gp P t=some T)(j:lZ P tn=some kn)(q:0<T.sz){h:I}{i o len cap n:Nat}{c:List V}{bc:aOS}{ex:Option Nat}(s:h.get i=.cells c bc ex)
  (L:0<n) (u:cap<b7) (av:cap<len+n) (z:(len+n)*T.aq<=lim) (A:len+n<=lim) (B:o+len*T.sz<=c.length) :
  ki P t tn (.bg i o len cap) (.int kq (n:Int)) h=some (.bg h.n 0 (len+n) b7,h.push (.cells ((c.drop o).take (len*T.sz)++made T.zs n) T.e (some T.sz))):=by
 obtain⟨C,D,bl,E,F,_⟩:=uS m;have a:∃k,P.underlying tn=some (.int k):=by
  unfold lZ at j;split at j
  ·rename_i k G;exact⟨k,G⟩
  ·cases j
 obtain⟨k,a⟩:=a;have H:fS P T.sz tn (.int kq (n:Int)) h=none:=by unfold fS;rw[a]
 unfold ki;simp only[C,D,bl,E,if_pos F,H];unfold T7;simp only[a,s];rw[if_pos ⟨by omega,u,by simpa using av,by simpa using z,by simpa using A,B,q⟩]
 simp
section
variable {sz:Nat} {i o len cap:Nat} {k k2 k3:aOT}
theorem CC(a:dC P t=some sz)(j:cap<b7){l:Nat}(m:l<=len)(av:len<=cap) :
  kx P t (.bg i o len cap) (some (.int k (l:Int))) none none=some (.bg i (if cap=l then o else o+l*sz) (len-l) (cap-l)):=by
 obtain⟨e,q,s⟩:=Cv a;unfold kx;simp only[q,s,PQ,eV,aBm,azs,false_and,if_false];unfold yG;rw[if_pos j,if_pos ⟨m,av,BY _⟩]
theorem Le(a:dC P t=some sz)(j:cap<b7){m:Nat}(q:m<=cap) :
  kx P t (.bg i o len cap) none (some (.int k (m:Int))) none=some (.bg i o m cap):=by
 obtain⟨e,s,u⟩:=Cv a;unfold kx;simp only[s,u,lY,eV,aaL,aBm,azs,false_and,if_false];unfold yG;rw[if_pos j,if_pos ⟨Dy _,q,BY _⟩];simp
theorem ao0(a:dC P t=some sz)(j:cap<b7){l m:Nat}(q:l<=m)(s:m<=cap) :
  kx P t (.bg i o len cap) (some (.int k (l:Int))) (some (.int k2 (m:Int))) none=some (.bg i (if cap=l then o else o+l*sz) (m-l) (cap-l)):=by
 obtain⟨e,u,z⟩:=Cv a;unfold kx;simp only[u,z,PQ,eV,aaL,aBm,azs,false_and,if_false];unfold yG;rw[if_pos j,if_pos ⟨q,s,BY _⟩]
theorem ao1(a:dC P t=some sz)(j:cap<b7){l m n:Nat}(q:l<=m)(s:m<=n)(u:n<=cap) :
  ∃v,kx P t (.bg i o len cap) (some (.int k (l:Int))) (some (.int k2 (m:Int))) (some (.int k3 (n:Int)))=some v:=by
 obtain⟨e,z,A⟩:=Cv a;refine⟨.bg i (if n=l then o else o+l*sz) (m-l) (n-l),?_⟩
 unfold kx;simp only[z,A,PQ,anM,Option.isSome_some,Option.isNone_some,azs,and_false,false_or];rw[if_neg (by omega),if_neg (by omega)]
 unfold yG;rw[if_pos j,if_pos ⟨q,s,u⟩]
theorem P7(j:dC P t=some sz){a:Nat}{l:Nat}(m:l<len) :
  kx P t (.bg i o len (b7+a)) (some (.int k (l:Int))) none none=some (.bg i (o+l*sz) (len-l) (b7+a+l)):=by
 obtain⟨e,q,s⟩:=Cv j;unfold kx;simp only[q,s,PQ,eV,aBm,azs,false_and,if_false];unfold yG;rw[if_neg (by omega),if_pos ⟨rfl,by omega,BY _⟩,if_pos (.inr m)]
end
theorem D6(s:gp P t=some T){tx:aOS}{h:I}{i o dl dc j p n d:Nat}{c a:List V}{bc u:aOS}{ex q:Option Nat}(z:h.get i=.cells c bc ex)(A:h.get j=.cells a u q)
  {m:Nat} (B:Nat.min n dl=m) (H:0<m) (C:p+m*T.sz<=a.length) (D:o+m*T.sz<=c.length) (E:((a.drop p).take (m*T.sz)).all (·.one)=true) :
  xq P t (.bg i o dl dc) (.bg j p n d) h=some (.int .i64 m,h.set i (.cells (lay c o ((a.drop p).take (m*T.sz))) bc ex)):=by
 obtain⟨F,L,bl,M,N,_⟩:=uS s;have G:((a.drop p).take (m*T.sz)).length=m*T.sz:=by rw[TY,azD];omega
 unfold xq;simp only[F,bl,zm,B];simp only[vh,A,if_pos C];rw[if_neg (by omega),z]
 simp only;rw[if_pos ⟨by rw[G];exact D,E⟩]
end
structure h8(P:aOR)(c0:aOS)(d:TypeDesc){κ:Type}[DecidableEq κ](ke:κ->V):Prop where
 eq:∀a b,wg P c0 d (ke a) (ke b)=some (decide (a=b))
 ok:∀b a,yI P b c0 (ke a)=true
 bits:∀a,∃v,p7 (ke a)=some v/\Instr.sameBits 10000 v v=true
section
variable {P:aOR} {t c0 gG:aOS} {d:TypeDesc} {κ:Type} [DecidableEq κ] {ke:κ->V} {α:Type} {enc:α->V}
def dz(ke:κ->V)(enc:α->V)(l:List (Nat×κ×α)):List (Nat×V×V):=l.map λe=>(e.1,ke e.2.1,enc e.2.2)
def bQ(l:List (Nat×κ×α))(k:κ):Option α :=
 match l with
 | []=>none
 | e::r=>if k=e.2.1 then some e.2.2 else bQ r k
def cz(cl:Nat)(l:List (Nat×κ×α))(k:κ)(a:α):List (Nat×κ×α) :=
 match l with
 | []=>[(cl,k,a)]
 | e::r=>if k=e.2.1 then(e.1,k,a)::r else e::cz cl r k a
def eY(cl:Nat)(l:List (Nat×κ×α))(k:κ):Nat:=if(bQ l k).isSome then cl else cl+1
def im(l:List (Nat×κ×α))(k:κ):List (Nat×κ×α) :=
 match l with
 | []=>[]
 | e::r=>if k=e.2.1 then r else e::im r k
theorem P8(H:h8 P c0 d ke)(k:κ):∀(l:List (Nat×κ×α)),
  (bQ l k=none/\p8 P c0 d (ke k) (dz ke enc l)=some none/\(∀cl a,cz cl l k a=l++[(cl,k,a)])/\im l k=l) \/
  (∃j e,p8 P c0 d (ke k) (dz ke enc l)=some (some j)/\l[j]?=some e/\e.2.1=k/\bQ l k=some e.2.2 /\
   (∀cl a,dz ke enc (cz cl l k a)=(dz ke enc l).modify j λe=>(e.1,ke k,enc a))/\dz ke enc (im l k)=(dz ke enc l).eraseIdx j)
 | []=>.inl ⟨rfl,rfl,λ_ _=>rfl,rfl⟩
 | e::l=>by
  have m:p8 P c0 d (ke k) (dz ke enc (e::l))=if k=e.2.1 then some (some 0)else(p8 P c0 d (ke k) (dz ke enc l)).map λ(q:Option Nat)=>q.map (·+1):=by
   show(match wg P c0 d (ke k) (ke e.2.1)with|some true=>some (some 0)|some false=>(p8 P c0 d (ke k) (dz ke enc l)).map λ(q:Option Nat)=>q.map (·+1)|none=>none)=_
   rw[H.eq];by_cases i:k=e.2.1
   ·simp[i]
   ·simp[i]
  by_cases i:k=e.2.1
  ·refine .inr ⟨0,e,by rw[m,if_pos i],rfl,i.symm,by rw[bQ,if_pos i],λcl a=>by rw[cz,if_pos i];rfl,by rw[im,if_pos i];rfl⟩
  ·rcases P8 H k l with⟨s,u,z,A⟩|⟨j,B,s,u,z,A,C,D⟩
   ·refine .inl ⟨by rw[bQ,if_neg i,s],by rw[m,if_neg i,u];rfl,λcl a=>by rw[cz,if_neg i,z];rfl,by rw[im,if_neg i,A]⟩
   ·refine .inr ⟨j+1,B,by rw[m,if_neg i,s];rfl,by simpa using u,z,by rw[bQ,if_neg i,A],λcl a=>?_,?_⟩
    ·rw[cz,if_neg i];show(e.1,ke e.2.1,enc e.2.2)::dz ke enc (cz cl l k a)=_;rw[C];rfl
    ·rw[im,if_neg i];show(e.1,ke e.2.1,enc e.2.2)::dz ke enc (im l k)=_;rw[D];rfl
theorem Lf(H:h8 P c0 d ke){z:aOU}{h:I}{i:Nat}{l:List (Nat×κ×α)}{cl:Nat}{k:κ}{ok:Bool}(s:eA P t=some (c0,gG,d))(u:mz P gG=some z)(A:h.get i=.map (dz ke enc l) cl) :
  nB P t (.map i) (ke k) ok h=some (match bQ l k with|some a=>(if ok then .tuple [enc a,.bool true]else enc a)|none=>(if ok then .tuple [fC z,.bool false]else fC z)):=by
 unfold nB;simp only[s,u,A,H.ok,if_true];rcases P8 (enc:=enc) H k l with⟨m,q,_⟩|⟨j,e,m,q,C,B,_⟩
 ·rw[q,m]
 ·have:(dz ke enc l)[j]?=some (e.1,ke e.2.1,enc e.2.2):=by simp[dz,q]
  rw[m,B];simp only[this];rfl
theorem Lg(H:h8 P c0 d ke){h:I}{i:Nat}{l:List (Nat×κ×α)}{cl:Nat}{k:κ}{a:α}{v:V}(z:eA P t=some (c0,gG,d))(A:h.get i=.map (dz ke enc l) cl)(m:v=enc a) :
  vl P t (.map i) (ke k) v h=some (h.set i (.map (dz ke enc (cz cl l k a)) (eY cl l k))):=by
 subst m;unfold vl eY;simp only[z,A,H.ok,if_true];rcases P8 (enc:=enc) H k l with⟨q,s,u,_⟩|⟨j,e,q,s,u,B,C,_⟩
 ·rw[s,q,u];simp[dz]
 ·have:(dz ke enc l)[j]?=some (e.1,ke e.2.1,enc e.2.2):=by simp[dz,s]
  obtain⟨v,m,D⟩:=H.bits k;rw[q,B];simp only[this,azJ,u,m,D,if_true,C];rfl
theorem ao2(H:h8 P c0 d ke){h:I}{i:Nat}{l:List (Nat×κ×α)}{cl:Nat}{k:κ}(u:eA P t=some (c0,gG,d))(a:h.get i=.map (dz ke enc l) cl) :
  Cn P t (.map i) (ke k) h=some (h.set i (.map (dz ke enc (im l k)) cl)):=by
 unfold Cn;simp only[u,a,H.ok,if_true];rcases P8 (enc:=enc) H k l with⟨m,q,_,s⟩|⟨j,e,m,q,A,s,_,z⟩
 ·rw[q,s];simp only;rw[Uy a]
 ·rw[m,z]
theorem Va:∀{l:List (Nat×κ×α)} {k:κ},(bQ l k).isSome=true->∀(cl:Nat) (a:α),(cz cl l k a).map (λe=>(e.1,e.2.1))=l.map (λe=>(e.1,e.2.1))
 | [],k,h,cl,a=>by simp[bQ]at h
 | e::l,k,h,cl,a=>by
  unfold cz;by_cases i:k=e.2.1
  ·rw[if_pos i];simp[i]
  ·rw[bQ,if_neg i]at h;rw[if_neg i,axU,axU,Va h]
theorem Vb:∀{l:List (Nat×κ×α)} {k:κ},bQ l k=none->∀(cl:Nat) (a:α),cz cl l k a=l++[(cl,k,a)]
 | [],k,h,cl,a=>rfl
 | e::l,k,h,cl,a=>by
  unfold cz;by_cases i:k=e.2.1
  ·rw[bQ,if_pos i]at h;cases h
  ·rw[bQ,if_neg i]at h;rw[if_neg i,Vb h];rfl
theorem Vc:∀{l:List (Nat×κ×α)} {k:κ},bQ l k=none↔∀e∈l,e.2.1≠k
 | [],k=>by simp[bQ]
 | e::l,k=>by
  unfold bQ;by_cases a:k=e.2.1
  ·simp[a]
  ·rw[if_neg a,Vc];simp[Ne.symm a]
theorem yO:∀(l:List (Nat×κ×α)) (cl:Nat) (k:κ) (a:α) (x:κ),bQ (cz cl l k a) x=if x=k then some a else bQ l x
 | [],cl,k,a,x=>by simp[cz,bQ]
 | e::l,cl,k,a,x=>by
  unfold cz;by_cases j:k=e.2.1
  ·rw[if_pos j];unfold bQ;by_cases i:x=k
   ·simp[i]
   ·have:x≠e.2.1:=j▸i;simp[i,this]
  ·rw[if_neg j];unfold bQ;by_cases i:x=e.2.1
   ·have:x≠k:=λU=>j (U▸i);simp[i,Ne.symm j]
   ·rw[if_neg i,yO l cl k a x,if_neg i]
def c1(l:List (Nat×κ×α)):Prop:=(l.map (·.2.1)).Nodup
omit [DecidableEq κ] in
theorem c1.nil:c1 ([]:List (Nat×κ×α)):=List.nodup_nil
theorem c1.set{l:List (Nat×κ×α)}(j:c1 l)(cl:Nat)(k:κ)(a:α):c1 (cz cl l k a):=by
 unfold c1 at *;cases i:bQ l k with
 | some b=>
  have h:=Va (l:=l) (k:=k) (by rw[i];rfl) cl a
  have s:=congrArg (aBA Prod.snd) h;rw[azM,azM]at s;have z:(cz cl l k a).map (·.2.1)=l.map (·.2.1):=s;rw[z];exact j
 | none=>
  rw[Vb i,azp,aBu];refine⟨j,by simp,λx A y u=>?_⟩
  obtain⟨e,B,rfl⟩:=OF.1 A;simp at u;subst u;exact Vc.1 i e B
theorem aaP:∀(l:List (Nat×κ×α)) (k:κ),(im l k).Sublist l
 | [],k=>List.Sublist.refl _
 | e::l,k=>by
  unfold im;split
  ·exact List.sublist_cons_self _ _
  ·exact(aaP l k).cons_cons _
theorem c1.del{l:List (Nat×κ×α)}(i:c1 l)(k:κ):c1 (im l k):=List.Nodup.sublist ((aaP l k).map _) i
theorem Vd:∀{l:List (Nat×κ×α)},c1 l->∀(k x:κ),bQ (im l k) x=if x=k then none else bQ l x
 | [],_,k,x=>by simp[im,bQ]
 | e::l,m,k,x=>by
  have j:=azQ.1 m;unfold im;by_cases i:k=e.2.1
  ·rw[if_pos i];by_cases a:x=k
   ·rw[if_pos a,Vc];intro y q U;exact j.1 (OF.2 ⟨y,q,by rw[U,a,i]⟩)
   ·rw[if_neg a,bQ,if_neg λU=>a (U.trans i.symm)]
  ·rw[if_neg i];unfold bQ;by_cases a:x=e.2.1
   ·rw[if_pos a,if_pos a,if_neg λU=>i (U.symm.trans a)]
   ·rw[if_neg a,if_neg a,Vd j.2 k x]
theorem ao3{l:List (Nat×κ×α)}{cl:Nat}{k:κ}{a:α}(i:aBA (aAf∘λe=>(e.1,e.2.1)) (cz cl l k a)=aBA (aAf∘λe=>(e.1,e.2.1)) l):(dz ke enc (cz cl l k a)).map (·.1)=(dz ke enc l).map (·.1):=by
 unfold dz;rw[azM,azM];exact i
theorem eg.cz{l:List (Nat×κ×α)}{cl:Nat}(j:eg (dz ke enc l) cl)(k:κ)(a:α):eg (dz ke enc (cz cl l k a)) (eY cl l k):=by
 cases i:bQ l k with
 | none=>
  have:eY cl l k=cl+1:=by unfold eY;rw[i];rfl
  rw[this,Vb i];have:=j.snoc (ke k) (enc a);simpa [dz]using this
 | some b=>
  have:eY cl l k=cl:=by unfold eY;rw[i];rfl
  rw[this];have h:=Va (l:=l) (k:=k) (by rw[i];rfl) cl a
  have s:=congrArg (aBA aAf) h;rw[azM,azM]at s;have u:=ao3 (ke:=ke) (enc:=enc) s;refine⟨λe z=>?_,by rw[u];exact j.2⟩
  have:e.1∈(dz ke enc l).map (·.1):=by rw[<-u];exact OF.2 ⟨e,z,rfl⟩
  obtain⟨A,B,C⟩:=OF.1 this;rw[<-C];exact j.1 A B
theorem qQ:∀{l:List (Nat×κ×α)},c1 l->∀{e:Nat×κ×α},e∈l->bQ l e.2.1=some e.2.2
 | [],_,e,a=>by cases a
 | x::l,m,e,a=>by
  have i:=azQ.1 m;unfold bQ;rcases Iz.1 a with rfl|j
  ·rw[if_pos rfl]
  ·rw[if_neg λU=>i.1 (OF.2 ⟨e,j,U⟩)];exact qQ i.2 j
end
open Go Go.Sort Go.Proofs
theorem hN.grow{W w':aOV}(h:hN W.heap.size W w'):∃q i,w'=Sort.grow (W.drewN q) i:=by
 refine⟨w'.drawn-W.drawn,w'.heap.extract W.heap.size w'.heap.size,?_⟩;obtain⟨j,u,z,bl,ak,A⟩:=h;have e:w'.heap=W.heap++w'.heap.extract W.heap.size w'.heap.size:=by
  apply Array.ext_getElem?;intro k;rw[aDT];by_cases s:k<W.heap.size
  ·rw[if_pos s];exact ak k s
  ·rw[if_neg s,Array.getElem?_extract];by_cases B:k<w'.heap.size
   ·rw[if_pos (by omega),show W.heap.size+(k-W.heap.size)=k by omega]
   ·rw[if_neg (by omega),Array.getElem?_eq_none (by omega)]
 have bc:W.drawn+(w'.drawn-W.drawn)=w'.drawn:=by omega
 cases w';cases W;simp only[Sort.grow,aOV.drewN]at *;subst j u z;rw[<-e,bc]
section
variable {ρ:Ren} {B:Nat} {aV:aOV} {h:I} {w:aOV}
theorem a1.Jb(R:a1 ρ B aV h w){i b F:Nat}{c vs:List V}{e:aOS}{ex:Option Nat}(G:h.get i=.cells c e ex)(hi:ρ.ren i=some (b,F)){d:Array aOU}(H:a6 ρ vs d.toList)(Y:vs.length<=c.length) :
  a1 ρ B aV (h.set i (.cells (vs++c.drop vs.length) e ex)) (Sort.putRow id w b 0 d):=by
 have L:=R.heap.obj i;rw[G]at L;obtain⟨Z,tr,arr,M,O,Q,N,u,S,T⟩:=L;rw[hi]at M;cases M;have aD:=(azj.1 N).1;have yg:d.size=vs.length:=by have:=H.1;simp at this;omega
 have D:∀j,(Sort.putRow id w b 0 d).heap[j]?=if b=j then(w.heap[j]?).map (Sort.onCells (Sort.putCells id 0 d))else w.heap[j]?:=λj=>by
  show(w.heap.modify b _)[j]?=_;rw[azP]
 refine R.r4 hi (by rw[G];simp) (λj z=>by rw[D,if_neg (Ne.symm z)]) (by rw[Sort.size_putRow];exact BY _) ⟨rfl,rfl,rfl,by rw[Sort.size_putRow];exact BY _,λj z=>by rw[D,if_neg (by omega)],BY _⟩ ?_
 have E:(vs++c.drop vs.length).length=c.length:=by simp;omega
 refine⟨b,F,Sort.putCells id 0 d arr,hi,O,Q,by rw[D,if_pos rfl,N];rfl,by rw[E];simpa [Sort.putCells]using u,?_,by rw[E];simpa [Sort.putCells]using T⟩
 rw[E];refine⟨by simp[Sort.putCells];omega,λj v v' A s=>?_⟩
 rw[azf]at s;split at s
 case isFalse=>cases s
 rename_i z;rw[azI]at s;unfold Sort.putCells at s;rw[Array.getElem?_mapIdx,azL]at s;obtain⟨x,W,C⟩:=s;by_cases X:j<vs.length
 ·rw[if_pos ⟨Dy _,by omega⟩]at C
  subst C;rw[aAc X]at A;refine H.2 j v _ A ?_;rw[azI,Nat.sub_zero,azd (by omega),getElem!_pos d j (by omega)]
  rfl
 ·rw[if_neg (by omega)]at C
  subst C;rw[aAd (by omega),azF,show vs.length+(j-vs.length)=j by omega]at A
  refine S.2 j v x A ?_;rw[azf,if_pos z,azI];exact W
theorem a1.Lh(R:a1 ρ B aV h w){i b D:Nat}{c vs:List V}{e:aOS}{ex:Option Nat}(E:h.get i=.cells c e ex)(hi:ρ.ren i=some (b,D))(av:c.take vs.length=vs) :
  ∃d:Array aOU,a6 ρ vs d.toList/\Sort.Holds id w b 0 d/\b<w.heap.size:=by
 have u:=R.heap.obj i;rw[E]at u;obtain⟨L,M,arr,z,N,O,A,C,F,Q⟩:=u;rw[hi]at z;cases z;have G:vs.length<=c.length:=by
  have:=congrArg azx av;rw[TY]at this;omega
 refine⟨(arr.toList.take vs.length).toArray,?_,λj H=>?_,(azj.1 A).1⟩
 ·have:=F.take vs.length;rw[av,azY,azt G]at this;simpa using this
 ·simp only[List.size_toArray,TY,az6]at H;have s:j<arr.size:=by omega
  rw[getElem!_pos _ j (by simp;omega)]
  simp[aOV.cell?,aOV.frozen?,A,azd s]
theorem a1.Jc(R:a1 ρ B aV h w){i b C:Nat}(D:h.get i≠.dead)(hi:ρ.ren i=some (b,C)){α:Type}[Inhabited α](enc:α->List aOU)(k m:Nat)(u:Array α)(os:Array Obj) :
  ∀j a,ρ.frz j=some a->(kl (sortWorldK enc k w b 0 m u os)).frz j=some a:=by
 intro j a s;obtain⟨e,L,z⟩:=R.heap.frz j a s;obtain⟨M,N,A,O,_,E,_⟩:=R.heap.live D;rw[hi]at A;cases A;have F:b≠j:=λU=>by subst U;rw[E]at s;cases s
 have G:=(azj.1 z).1;have H:(sortWorldK enc k w b 0 m u os).heap[j]?=w.heap[j]?:=by
  show((w.heap.modify b _)++os)[j]?=_;rw[aDT,if_pos (by simpa using G),azP,if_neg F]
 exact KF (H.trans z)
end
theorem au.Li{P:aOR}{bE:aOZ}{args:List V}{v:V}{a:aOU}(av:au P bE args xz λr _=>r=v)(j:nW v=some a){w:aOV}
  {args':Array aOU} (aT:a6 (kl w) args args'.toList):Calls P bE args' w λe w'=>e=.returned a/\hN w.heap.size w w' :=
 (av (kl w) w.heap.size w w args' (UD w) aT).mono λe w' U=>by
  rcases U with⟨ρ',r,B,h',i,s,u,_,z⟩|⟨_,_,_,_,_,_,_,A⟩
  ·subst z;rw[zf s j]at i;exact⟨i,u.below⟩
  ·exact A.elim
theorem ao4{P:aOR}{g:aOZ}{β:Type}{E:β->List V}{cf:β->β->Int}(F:∀a b,au P g [.agg (E a),.agg (E b)] xz λr _=>r=.int .i64 (cf a b))(G:∀x,bb (E x))
  {ρ:Ren} {B:Nat} {H:aOV} {h:I} {w:aOV} (R:a1 ρ B H h w) {i b L:Nat} (M:h.get i≠.dead) (N:ρ.ren i=some (b,L))
  {α:Type} [Inhabited α] (q:α->β) (enc:α->List aOU) (z:∀x,a6 ρ (E (q x)) (enc x)) (size k:Nat):CmpLays P g #[] enc k (λx y=>cf (q x) (q y)) b 0 size w:=by
 intro m os s S x y;have O:=R.Jc M N enc k m s os;have A:∀x,aE (kl (sortWorldK enc k w b 0 m s os)) (.agg (E (q x))) (.agg (enc x).toArray):=λx=>.agg (by simpa using(z x).1) λj v C D Q=>by
  refine G (q x) v (azq D) ρ _ C ((z x).2 j v C D ?_) O;simpa using Q
 have av:=(F (q x) (q y)).Li (a:=.int .i64 (cf (q x) (q y))) rfl (w:=sortWorldK enc k w b 0 m s os) (args':=#[.agg (enc x).toArray,.agg (enc y).toArray]) (a6.cons (A x) (a6.cons (A y) (a6.nil _)));rw[Array.append_empty];exact av.mono λe w' U=>⟨U.1,U.2.grow⟩
theorem aaT{α:Type}[Inhabited α](enc:α->List aOU)(k:Nat)(m:∀x,(enc x).length=k)(d:Array α):(flatK enc k d).toList=d.toList.flatMap enc:=by
 have i:∀l:List α,(l.flatMap enc).length=l.length*k:=λl=>by
  induction l with
  | nil=>simp
  | cons x l ih=>rw[azh,Dx,m,ih,axW,axY];omega
 have s:∀(l:List α) (t:Nat),t<l.length*k->(l.flatMap enc)[t]! = (enc l[t / k]!)[t % k]!:=λl=>by
  induction l with
  | nil=>intro t a;simp at a
  | cons x l ih=>
   intro t a;have z:0<k:=by
    rcases aCd k with q|q
    ·subst q;simp at a
    ·exact q
   rw[azh];by_cases j:t<k
   ·rw[Nat.div_eq_of_lt j,Nat.mod_eq_of_lt j];simp[aDV,aAc (show t<(enc x).length by rw[m];exact j)]
   ·obtain⟨u,rfl⟩:∃u,t=u+k:=⟨t-k,by omega⟩
    rw[axW,axY,aAJ]at a;have:=ih u (by omega)
    rw[Nat.add_div_right _ z,Nat.add_mod_right];simp only[aDV,aB3]at this⊢;rw[aAd (by rw[m];omega),m,Nat.add_sub_cancel]
    exact this
 apply aB0
 ·rw[i];simp
 ·intro t j A;have a:t<d.size*k:=by simpa using j
  have ay:=get_flatK enc k d t a;have bc:=s d.toList t (by simpa using a)
  rw[getElem!_pos _ t (by simpa using a)]at ay
  rw[getElem!_pos _ t A]at bc;rw[Array.getElem_toList,ay,bc]
  congr 2
  simp[Array.getElem!_eq_getD,aDV,aB5]
theorem Ve{P:aOR}{f:aOZ}{g:aOZ}{e:aOS}{k:Nat}{β:Type}{E:β->List V}{cf:β->β->Int}(Hx:0<k)
  (C:∀x,(E x).length=k) (W:∀x,(E x).all (·.one)=true) (si:∀x,bb (E x)) (O:SWO (ltOf cf))
  (sm:∀a b,au P g [.agg (E a),.agg (E b)] xz λr _=>r=.int .i64 (cf a b))
  (fI:∀(n:Nat) (enc:Fin (n+1)->List aOU) (C:∀x,(enc x).length=k) (W:∀x,∀v∈enc x,v.oneCell'=true) (cf:Fin (n+1)->Fin (n+1)->Int) (O:SWO (ltOf cf)) (hz cap:Nat) (d:Array (Fin (n+1))) (w:aOV),
   CmpLays P g #[] enc k cf hz 0 d.size w->HoldsK enc k w hz 0 d->hz<w.heap.size->d.size<4611686018427387904 ->
   Calls P f #[.slice (some ⟨hz,0,none⟩) d.size cap,.func (.func g) #[] #[]] w λe w'=>e=.returned (.tuple #[])/\∃A n os,PermIn 0 d.size d A/\SortedIn (ltOf cf) 0 d.size A/\w'=sortWorldK enc k w hz 0 n A os)
  {h:I} {v:V} {l:List β} (CB:l=[]->au P f [v,.func (.func g) [] []] h λr h'=>r=.tuple []/\h'=h)
  (aO:Own h e k v (l.flatMap E)) (ax:l.length<4611686018427387904) :
  au P f [v,.func (.func g) [] []] h λr h'=>r=.tuple []/\J h h' (a7 v)/\∃X:List β,X.Perm l/\(X.Pairwise λa b=>ltOf cf b a=false)/\Own h' e k v (X.flatMap E):=by
 by_cases Q:l=[]
 ·refine(CB Q).mono λr h' ⟨aJ,U⟩=>?_;subst U;exact⟨aJ,J.refl _ _,l,List.Perm.refl _,by rw[Q];exact List.Pairwise.nil,aO⟩
 have u:=fJ C l;rcases aO with⟨_,dg⟩|⟨i,Y,cap,c,ex,rfl,zL,Z,lG,bW,dt⟩
 ·rw[dg]at u;have:0<l.length:=aDW.2 Q;have:=Nat.mul_pos this Hx;simp at u;omega
 rw[u]at lG;have tw:l.length=Y:=aAx Hx lG;subst tw;obtain⟨n,aB⟩:∃n,l.length=n+1:=⟨l.length-1,by have:=aDW.2 Q;omega⟩
 intro ρ B aV w F R aT;obtain⟨v1,t1,mT,D7,BJ⟩:=aT.dT;obtain⟨v2,t2,KA,zv,D8⟩:=BJ.dT;have ag:=D8.eq_nil;subst ag;have bc:v2=.func (.func g) #[] #[]:=by
  cases zv with
  | func fn aa bB _ _=>
   rename_i fE ze _ _;have ay:=aAY (xs:=fE) aa.symm;have bc:=aAY (xs:=ze) bB.symm;rw[ay,bc]
 subst bc;cases D7 with
 | bg hi _ _ _ aG=>
 rename_i b bG;have dy:F=#[.slice (some ⟨b,0,none⟩) l.length (gg bG cap),.func (.func g) #[] #[]]:=by
  apply aB4.1;rw[mT,KA]
 subst dy;obtain⟨D,F6,hH,aD⟩:=R.Lh Z hi (vs:=l.flatMap E) (by rw[u];exact bW)
 have ai:D.size=l.length*k:=by have:=F6.1;simp only[az6]at this;omega
 let s:Fin (n+1)->β:=λx=>l[x.1]'(by omega)
 let enc:Fin (n+1)->List aOU:=λx=>(D.toList.drop (x.1*k)).take k
 have pK:∀x:Fin (n+1),((l.flatMap E).drop (x.1*k)).take k=E (s x):=λx=>by
  rw[yN C,List.drop_eq_getElem_cons (show x.1<l.length by omega),azh,aAO (C _)]
 have S:∀x,a6 ρ (E (s x)) (enc x):=λx=>by
  have:=(F6.drop (x.1*k)).take k;rwa[pK x]at this
 have gX:∀x,(enc x).length=k:=λx=>by rw[<-(S x).1,C]
 have aq:∀x,∀v∈enc x,v.oneCell'=true:=λx=>(S x).one (W _)
 let d:Array (Fin (n+1)):=(aDX (n+1)).toArray
 have G:d.size=l.length:=by simp[d,aB]
 have P9:flatK enc k d=D:=by
  apply aB4.1;rw[aaT enc k gX];have az:∀(m:Nat) (hm:m<=n+1),(((aDX (n+1)).take m).flatMap enc)=D.toList.take (m*k):=λm=>by
   induction m with
   | zero=>intro _;simp
   | succ m ih=>
    intro hm;rw[List.take_add_one,List.flatMap_append,ih (by omega),IA (by simp;omega)]
    simp only[Option.toList_some,azh,List.flatMap_nil,axX,List.getElem_finRange,enc];rw[axY,aAJ];simp[aBv]
  have:=az (n+1) (BY _);rw[ajz (by simp)]at this
  show(aDX (n+1)).flatMap enc=_;rw[this,ajz (by rw[az6,ai,aB];exact BY _)]
 have BK:SWO (ltOf λx y=>cf (s x) (s y)):=⟨λx=>O.irrefl _,λx y z=>O.trans _ _ _,λx y z=>O.ntrans _ _ _⟩;have Qa:h.get i≠.dead:=by rw[Z];simp
 have cM:=ao4 sm si R Qa hi s enc S d.size k;have Lk:=fI n enc gX aq (λx y=>cf (s x) (s y)) BK b (gg bG cap) d w cM (by unfold HoldsK;rw[P9];exact hH) aD (by rw[G];exact ax)
 rw[G]at Lk;refine Lk.mono λx w' ⟨ah,A,m,os,L,aa,b5⟩=>.inl ⟨ρ,.tuple [],.tuple #[],h.set i (.cells ((A.toList.map s).flatMap E++c.drop ((A.toList.map s).flatMap E).length) e ex),ah,.tuple rfl (by simp),?_,Ren.le.refl ρ,rfl,?_,A.toList.map s,?_,?_,?_⟩
 ·subst b5;have H:A.size=l.length:=by rw[L.1,G]
  have M:((A.toList.map s).flatMap E).length=l.length*k:=by rw[fJ C];simp[H]
  have Ll:l.length*k<=c.length:=by
   have:=congrArg azx bW;rw[TY,u]at this;omega
  have aI:a6 ρ ((A.toList.map s).flatMap E) (flatK enc k A).toList:=by
   rw[aaT enc k gX];have:∀q:List (Fin (n+1)),a6 ρ ((q.map s).flatMap E) (q.flatMap enc):=λq=>by
    induction q with
    | nil=>exact a6.nil ρ
    | cons a q ih=>
     rw[axU,azh,azh];exact(S a).append ih
   exact this _
  exact((R.ahead m).Jb Z hi aI (by rw[M];exact Ll)).grow os
 ·exact(J.set h i _).mono λq ab=>by simp[a7,aU,ab]
 ·have H:A.size=l.length:=by rw[L.1,G]
  have N:=L.2.2;have ay:A.extract 0 l.length=A:=by rw[<-H];simp
  have bc:d.extract 0 l.length=d:=by rw[<-G];simp
  rw[ay,bc]at N;have bn:=N.map s;have cW:d.toList.map s=l:=by
   apply aB0
   ·simp[d,aB]
   ·intro j W T;simp[d,s]
  rwa[cW]at bn
 ·have H:A.size=l.length:=by rw[L.1,G]
  rw[azW,List.pairwise_iff_getElem];intro a cX aT ak jR;have:=aa a cX (Dy _) jR (by simp at ak;omega)
  rw[getElem!_pos A cX (by simpa using ak),getElem!_pos A a (by simpa using aT)]at this
  simpa [ltOf]using this
 ·have H:A.size=l.length:=by rw[L.1,G]
  have M:((A.toList.map s).flatMap E).length=l.length*k:=by rw[fJ C];simp[H]
  have Ll:l.length*k<=c.length:=by
   have:=congrArg azx bW;rw[TY,u]at this;omega
  refine .inr ⟨i,l.length,cap,_,ex,rfl,zL,aL,by rw[M],?_,?_⟩
  ·rw[aAO M]
  ·rcases dt with⟨T,N,bn⟩|⟨T,N⟩
   ·refine .inl ⟨T,?_,bn⟩;rw[Dx,azD,M];omega
   ·exact .inr ⟨T,N⟩
open Go
section
variable {κ α:Type} {ke:κ->V} {enc:α->V}
theorem ao5{l:List (Nat×κ×α)}{e:Nat×V×V}(h:e∈dz ke enc l):∃x∈l,e=(x.1,ke x.2.1,enc x.2.2):=by
 obtain⟨x,a,rfl⟩:=OF.1 h;exact⟨x,a,rfl⟩
theorem ao6{l:List (Nat×κ×α)}{x:Nat×κ×α}(h:x∈l):(x.1,ke x.2.1,enc x.2.2)∈dz ke enc l:=OF.2 ⟨x,h,rfl⟩
theorem aaX(l:List (Nat×κ×α)):(dz ke enc l).map (·.1)=l.map (·.1):=by
 unfold dz;rw[azM];rfl
theorem aaY:∀{q:List (Nat×κ×α)},(q.map (·.1)).Nodup->∀{x y},x∈q->y∈q->x.1=y.1->x=y
 | [],_,x,y,j,_,_=>by cases j
 | z::q,u,x,y,j,s,e=>by
  have m:=azQ.1 u;rcases Iz.1 j with i|i
  ·rcases Iz.1 s with a|a
   ·rw[i,a]
   ·exact absurd (OF.2 ⟨y,a,by rw[<-e,i]⟩) m.1
  ·rcases Iz.1 s with a|a
   ·exact absurd (OF.2 ⟨x,i,by rw[e,a]⟩) m.1
   ·exact aaY m.2 i a e
theorem aaZ{l i:List (Nat×κ×α)}(j:(l.map (·.1)).Nodup)(q:(i.map (·.1)).Nodup)(m:∀e∈i,e∈l)(s:∀e∈l,e.1∈i.map (·.1)):i.Perm l:=by
 have u:l.Nodup:=(azW.1 j).imp λh e=>h (by rw[e])
 have z:i.Nodup:=(azW.1 q).imp λh e=>h (by rw[e])
 rw[List.perm_ext_iff_of_nodup z u];intro a;refine⟨m a,λaT=>?_⟩;obtain⟨b,ak,A⟩:=OF.1 (s a aT);have B:=m b ak;rw[<-aaY j B aT A];exact ak
theorem aa0{l a:List (Nat×κ×α)}(i:nZ (dz ke enc l) (a.map (·.1))=[]):∀e∈l,e.1∈a.map (·.1):=λe j=>by
 apply Classical.byContradiction;intro m;have:(e.1,ke e.2.1,enc e.2.2)∈nZ (dz ke enc l) (a.map (·.1)):=by
  unfold nZ;exact ajA.2 ⟨ao6 j,by simpa using m⟩
 rw[i]at this;simp at this
theorem aa1{l a:List (Nat×κ×α)}{e:Nat×V×V}(i:e∈nZ (dz ke enc l) (a.map (·.1))):∃x∈l,e=(x.1,ke x.2.1,enc x.2.2)/\x.1∉a.map (·.1):=by
 obtain⟨j,m⟩:=ajA.1 i;obtain⟨x,q,rfl⟩:=ao5 j;exact⟨x,q,rfl,by simpa using m⟩
theorem aa2{l i:List (Nat×κ×α)}{x:Nat×κ×α}(q:(i.map (·.1)).Nodup)(s:∀e∈i,e∈l)(u:x∈l)(z:x.1∉i.map (·.1)) :
  ((i++[x]).map (·.1)).Nodup/\(∀e∈i++[x],e∈l)/\i.length<l.length:=by
 have j:((i++[x]).map (·.1)).Nodup:=by
  rw[azp,aBu];exact⟨q,by simp,λa aT b ak=>by simp at ak;subst ak;exact λU=>z (U▸aT)⟩
 have m:∀e∈i++[x],e∈l:=λe A=>by
  rcases ayN.1 A with h|h
  ·exact s e h
  ·simp at h;subst h;exact u
 have B:(i++[x]).Nodup:=(azW.1 j).imp λh e=>h (by rw[e])
 have:=B.length_le_of_subset m;rw[Dx]at this;simp at this;exact⟨j,m,by omega⟩
theorem Lm{κ α:Type}[DecidableEq κ]:∀{l:List (Nat×κ×α)} {k:κ} {v:α},bQ l k=some v->∃e∈l,e.2=(k,v)
 | [],k,v,h=>by simp[bQ]at h
 | e::l,k,v,h=>by
  unfold bQ at h;split at h
  ·rename_i a;exact⟨e,by simp,Prod.ext a.symm (Option.some.inj h)⟩
  ·obtain⟨x,i,j⟩:=Lm h;exact⟨x,aAM _ i,j⟩
end
theorem Acc.set{j h:I}{e:aOS}{sz:Nat}{v:V}{cs:List V}(a:Acc j h e sz v cs){i:Nat}(hi:j.n<=i)(s:aU v≠some i)(o:aR):Acc j (h.set i o) e sz v cs :=
 ⟨a.own.ai (J.set _ _ _) λk u z=>s (by rw[u,z]),a.ai.kB hi o,a.new⟩
theorem aE.vw{ρ:Ren}{v':aOU}(h:aE ρ (.af 0 []) v'):aE ρ .ag v'\/aE ρ .fk v':=by
 rcases h.k1 with⟨_,_,a,i,aT,rfl⟩|⟨b,o,cap,arr,ak,j,s,u,rfl⟩
 ·cases a with
  | none=>rw[aT rfl];exact .inl .ag
  | some a=>exact .inr (.fk a i)
 ·exact .inr (.fk _ _)
theorem b4.vw{P:aOR}{f:aOZ}{rest:List V}{h:I}{R:V->I->Prop}{E:I->Prop}(C:b4 P f (.ag::rest) h R E)(D:b4 P f (.fk::rest) h R E):b4 P f (.af 0 []::rest) h R E:=by
 intro ρ B s w i u aT;obtain⟨F,t,z,j,A⟩:=aT.dT;rcases j.vw with j|j
 ·exact C ρ B s w i u (by rw[z];exact a6.cons j A)
 ·exact D ρ B s w i u (by rw[z];exact a6.cons j A)
theorem au.vw{P:aOR}{f:aOZ}{rest:List V}{h:I}{R:V->I->Prop}(i:au P f (.ag::rest) h R)(j:au P f (.fk::rest) h R):au P f (.af 0 []::rest) h R:=b4.vw i j
theorem aF.k7(h:I):aF .ag h (.af 0 []) h:=fun ρ B s w u i j=>⟨ρ,Ren.le.refl ρ,i,by cases j;exact .fD none 0 λ_=>rfl⟩
theorem aF.fk(h:I):aF .fk h (.af 0 []) h:=fun ρ B s w u i j=>⟨ρ,Ren.le.refl ρ,i,by cases j;exact .fD _ _ λe=>by cases e⟩
section
variable {P:aOR} {t:aOS} {xo yo:aOW}
theorem Vf(h:et P t=some 1):cV P .eql t xo yo .fk .ag=some (.bool false):=Kv h (.inl rfl) (.inr ⟨rfl,rfl⟩)
theorem Vg{n:Nat}{cs:List V}(h:et P t=some 1)(a:n≠0):cV P .eql t xo yo (.af n cs) .ag=some (.bool false):=Kv h (.inl rfl) (.inr ⟨by simp[FH,a],rfl⟩)
theorem ao7(h:et P t=some 1):ed P (Op.equal t (.slice none 0 0) (.slice none 0 0))=some true:=by
 obtain⟨d,a,i⟩:=DR h;unfold Op.equal Op.maxDepth Op.equalIn;rw[mB,zx a];cases d<;>simp[xt]at i;rfl
theorem Ln(h:et P t=some 1):cV P .eql t xo yo .ag .ag=some (.bool true):=by
 refine Kt (v:=.bool true) rfl rfl rfl ?_;show ed P (do pure (aOU.bool (<-Op.equal t (.slice none 0 0) (.slice none 0 0))))=_;rw[mB,ao7 h];rfl
theorem Vh{h:I}{sz:Nat}(a:et P t=some 1):fS P sz t .fk h=some (0,[]):=by
 obtain⟨d,j,m⟩:∃d,P.underlying t=some d/\xt d=some 1:=by
  unfold et at a;cases i:P.underlying t with
  | none=>rw[i]at a;cases a
  | some d=>rw[i]at a;exact⟨d,rfl,a⟩
 cases d<;>simp[xt]at m;simp only[fS,j]
end
theorem h8.ofInt{P:aOR}{t i j:aOS}{kk:aOT}(s:eA P t=some (i,j,.int kk)):h8 P i (.int kk) (V.int kk) where
 eq a b:=by rw[aad rfl];rfl
 ok b a:=Uz (ip s).2 rfl
 bits a:=⟨_,rfl,by simp[Instr.sameBits]⟩
section
variable {M:Nat->Prop} {bF:aOW->V} {t:aOS} {m k:aOW} {b:Bool}
theorem Lo:nM M (rF bF (.lookup t m k b))=xC M (bF m):=rfl
end
theorem aF.kF{h s:I}{e:aOS}{sz i len cap:Nat}{cs es:List V}{L:Nat->Prop}(X:Own h e sz (.bg i 0 len cap) cs)(Y:aA cs h es s)(Z:J h s L)(bH:¬L i)(z:es.length=cs.length) :
  ∃u,aF (.bg i 0 len cap) h (.af len es) u/\J s u (·=i):=by
 rcases X with⟨q|q,_⟩|⟨FI,aa,ab,c,ex,q,hi,M,j,C,dt⟩
 ·cases q
 ·cases q
 simp only[V.bg.injEq]at q;obtain⟨rfl,_,rfl,rfl⟩:=q;have fy:s.get i=.cells c e ex:=(Z.get i hi bH).trans M;have iN:len*sz<=c.length:=by
  have:=congrArg azx C;rw[TY,j]at this;omega
 refine⟨s.set i .dead,fun ρ B aV w di N aI=>?_,J.set s i .dead⟩;obtain⟨ρ0,_,D,b,bG,arr,O,az,av,Q⟩:=N.freeze M;have Lq:a6 ρ cs (arr.toList.take (len*sz)):=by
  have kd:=Q.1;refine⟨by rw[<-C];simp only[TY]at kd⊢;omega,λk v E s u=>?_⟩
  have A:k<len*sz:=by rw[<-j];exact(are.1 s).1
  rw[<-C,azf,if_pos A]at s;rw[azf,if_pos A]at u;refine Q.2 k v E s ?_;rw[azf,if_pos (by omega)]
  exact u
 obtain⟨ρ1,R,hO,hP⟩:=Y ρ B aV w _ N Lq;obtain⟨ρ2,S,T,cX,tr,j0,F,W,DK,gI⟩:=hO.freeze fy;have BC:=R.ren _ _ O;rw[BC]at F;simp only[Option.some.injEq,azn.injEq]at F;obtain⟨rfl,rfl⟩:=F;obtain⟨b8,ka,G,h6,rfl⟩:=aI.gW;rw[O]at G;simp only[Option.some.injEq,azn.injEq]at G;obtain⟨rfl,rfl⟩:=G;have l0:j0=arr:=by
  obtain⟨ay,f1,cB⟩:=D.heap.frz _ _ az;obtain⟨bc,f2,H⟩:=T.heap.frz _ _ W;rw[cB]at H;simp only[Option.some.injEq,Obj.cells.injEq]at H;exact H.1.symm
 subst l0;refine⟨ρ2,R.trans S,T,.af 0 len _ W h6 (by rw[z,j];omega) λk v E s u=>?_⟩
 have A:k<len*sz:=by rw[<-j,<-z];exact(are.1 s).1
 refine(hP.2 k v E s ?_).mono S;rw[azf,if_pos A,azI];simpa using u
theorem aF.uO{h s:I}{X:Nat}{c A:List V}{e:aOS}{ex:Option Nat}(W:h.get X=.cells c e ex)(Y:aA c h A s)(L:s.get X=.cells c e ex)(C:A.length=c.length)(r:V) :
  aF r h r (s.set X (.cells A e ex)):=fun ρ B Z w di M aI=>by
 have N:=M.heap.obj X;rw[W]at N;obtain⟨b,bG,arr,aJ,az,b3,E,av,ax,ah⟩:=N;obtain⟨ρ1,F,u,O⟩:=Y ρ B Z w _ M ax;have Q:=u.heap.obj X;rw[L]at Q;obtain⟨dH,ZR,FL,R,zM,G,S,qt,h6,mL⟩:=Q;have ay:=F.ren _ _ aJ;rw[R]at ay;simp only[Option.some.injEq,azn.injEq]at ay;obtain⟨rfl,rfl⟩:=ay;rw[S]at E;simp only[Option.some.injEq,Obj.cells.injEq]at E;obtain⟨rfl,-,-⟩:=E;have D:∀j,j≠X->(s.set X (.cells A e ex)).get j=s.get j:=λj z=>by simp[I.set,z]
 have H:(s.set X (.cells A e ex)).get X=.cells A e ex:=by simp[I.set]
 have live:∀j,(s.set X (.cells A e ex)).get j≠.dead->s.get j≠.dead:=λj z=>by
  by_cases T:j=X
  ·subst T;rw[L];intro q;cases q
  ·rwa[D j T]at z
 refine⟨ρ1,F,⟨⟨u.heap.me,λi j b c py hi z ad aC=>u.heap.inj i j b c py (live i hi) (live j z) ad aC,λj=>?_,u.heap.frz,u.heap.glob,u.heap.base⟩,u.below⟩,aI.mono F⟩;by_cases z:j=X
 ·subst z;rw[H];rw[<-C]at O;exact⟨_,_,_,R,zM,G,S,by rw[C];exact qt,O,by rw[C];exact mL⟩
 ·rw[D j z];exact u.heap.obj j
theorem Pure.uO{P:aOR}{f:aOZ}{args:List V}{h i:I}{v:V}(u:Pure P f args h v){X:Nat}{c j:List V}{e:aOS}{ex:Option Nat}(z:h.get X=.cells c e ex)(A:aA c h j i)(B:i.get X=.cells c e ex)(s:j.length=c.length) :
  au P f args h (λr h'=>r=v/\h'=i.set X (.cells j e ex)) :=
 au.cast (u.mono λr h' ⟨ay,bc⟩=>⟨v,_,by subst ay;subst bc;exact aF.uO z A B s _,rfl,rfl⟩)
section
variable {P:aOR} {h:I} {s:aOS}
end
section
variable {P:aOR} {d:Option Tmp} {ty:aOS} {pos:String} {cw:Array Edge} {g:Option (Nat×Bool)} {f:aj} {h:I} [K:fz] {x y:aOW}
def BM(P:aOR)(a:Builtin)(ts:Array aOS)(ty:aOS)(cs:Array Bool)(x:V):Option V :=
 match jv [x]with
 | some i=>match ed P (builtin a ts ty cs i.toArray)with
  | some (.value v)=>some (gy v)
  | _=>none
 | none=>none
theorem apb{t a:aOS}:@eW P ⟨d,.call ⟨.builtin .complex,#[x,y],#[t,a]⟩,ty,pos,cw,g⟩ K f h=@lK (rz P .complex #[t,a] ty (wj #[x,y]) (f.eval h x) (f.eval h y)) d K f h :=
 tI (by
  unfold ey k4 p9 rz hh;simp only[axU,azu];cases jv [f.eval h x,f.eval h y]with
  | none=>rfl
  | some i=>
   simp only;generalize ed P _=r;cases r with
   | none=>rfl
   | some n=>cases n<;>rfl)
theorem apc{t:aOS}:@eW P ⟨d,.call ⟨.builtin .real,#[x],#[t]⟩,ty,pos,cw,g⟩ K f h=@lK (BM P .real #[t] ty (wj #[x]) (f.eval h x)) d K f h :=
 tI (by
  unfold ey k4 p9 BM hh;simp only[axU,azu];cases jv [f.eval h x]with
  | none=>rfl
  | some a=>
   simp only;generalize ed P _=r;cases r with
   | none=>rfl
   | some n=>cases n<;>rfl)
theorem apd{t:aOS}:@eW P ⟨d,.call ⟨.builtin .imag,#[x],#[t]⟩,ty,pos,cw,g⟩ K f h=@lK (BM P .imag #[t] ty (wj #[x]) (f.eval h x)) d K f h :=
 tI (by
  unfold ey k4 p9 BM hh;simp only[axU,azu];cases jv [f.eval h x]with
  | none=>rfl
  | some a=>
   simp only;generalize ed P _=r;cases r with
   | none=>rfl
   | some n=>cases n<;>rfl)
end
section
variable {P:aOR} {ty:aOS}
theorem ape{ts:Array aOS}{cs:Array Bool}{a b:Nat}:rz P .complex ts ty cs (.float .f64 a) (.float .f64 b)=some (.complex .f64 a b):=rfl
theorem apf{ts:Array aOS}{cs:Array Bool}{k:aO5}{a b:Nat}:BM P .real ts ty cs (.complex k a b)=some (.float k a):=rfl
theorem apg{ts:Array aOS}{cs:Array Bool}{k:aO5}{a b:Nat}:BM P .imag ts ty cs (.complex k a b)=some (.float k b):=rfl
def Lr(P:aOR)(t:aOS):Option aO5:=match P.underlying t with|some (.float k)=>some k|_=>none
theorem aa6{t:aOS}{k:aO5}(h:Lr P t=some k):P.underlying t=some (.float k):=by
 unfold Lr at h;split at h
 ·rename_i a;simp at h;subst h;exact a
 ·cases h
theorem aa7{t:aOS}{k:aOT}(h:lZ P t=some k):P.underlying t=some (.int k):=by
 unfold lZ at h;split at h
 ·rename_i a;simp at h;subst h;exact a
 ·cases h
theorem Vi{src i:aOS}{h:I}{k:aOT}{k2:aO5}{a:Int}(j:lZ P src=some k)(m:Lr P i=some k2):oL P src i (.int k a) h=some (.float k2 (k2.nearest a)):=by
 unfold oL;have e:(nW (.int k a)).bind (λx=>ed P (convert src i x))=some (.float k2 (k2.nearest a)):=by
  show ed P (convert src i (.int k a))=_;unfold convert;rw[mB,zx (aa7 j),azJ,mB,zx (aa6 m)];rfl
 rw[e];rfl
theorem aph{src a:aOS}{h:I}{k:aO5}{k2:aOT}{b:Nat}{n:Int}(i:Lr P src=some k)(j:lZ P a=some k2)(m:(k.decode b).toInt .zero=some n)(q:k2.min<=n)(s:n<=k2.max):oL P src a (.float k b) h=some (.int k2 n):=by
 unfold oL;have e:(nW (.float k b)).bind (λx=>ed P (convert src a x))=some (.int k2 n):=by
  show ed P (convert src a (.float k b))=_;unfold convert;rw[mB,zx (aa6 i),azJ,mB,zx (aa7 j)];show ed P (Conv.floatToInt k b k2)=_;unfold Conv.floatToInt;simp only[m,if_pos (show k2.min<=n/\n<=k2.max from⟨q,s⟩)]
  rfl
 rw[e];rfl
theorem api{k:aO5}{a b:Nat}:(V.complex k a b).cells=some [.complex k a b]:=rfl
theorem apj{k:aO5}{a b:Nat}:(V.complex k a b).one=true:=rfl
theorem a8.complex(k:aO5)(a b:Nat):a8 (.complex k a b):=a8.flat rfl
end
section
variable {P:aOR} {t c0 gG:aOS} {d:TypeDesc} {κ:Type} [DecidableEq κ] {ke:κ->V} {α:Type} {enc:α->V}
end
def n5(P:aOR)(n l:Nat)(c:aO4)(Q:cC->aj->I->Prop)(f:aj)(h:I):Prop :=
 ∀(ρ:Ren) (B:Nat) (i:aOV) (a:Act) (w:aOV),a1 ρ B i h w->eE ρ n f a->c.wpIn (Fence.wide.inRound l) 0 P (mM n B i ρ Q) a w
section
variable {P:aOR} {n l:Nat} {Q:cC->aj->I->Prop} {f:aj} {h:I}
theorem n5.mono{i:cC->aj->I->Prop}{c:aO4}(j:n5 P n l c Q f h)(s:∀e f h,Q e f h->i e f h):n5 P n l c i f h :=
 fun ρ B u a w z A=>wpIn_mono (j ρ B u a w z A) λ_ _ _ ⟨ρ',x,C,h',D,E,F,G,H⟩=>⟨ρ',x,C,h',D,E,F,G,s _ _ _ H⟩
theorem n5.region{id:Nat}{ops:Array Oper}(i:ops.toList.all (λo=>s7 n o.dst)=true)
  (j:n0 P ops.toList ops.toList (Q .normal) (Q .panic) f h):n5 P n l (.region id ops false) Q f h:=by
 intro ρ B z a w s u;refine wpIn_region ?_;have:=PE (u2.inRound l) (rm:=0) (P:=P) i (ρ0:=ρ) ops.toList 0 (by simp) ρ f h a w (Ren.le.refl ρ) s u j
 rwa[az6,<-List.range_eq_range']at this
theorem n5.block{id:Nat}{c:aO4}(D:n5 P n l c (IX id Q) f h):n5 P n l (.block id c) Q f h:=by
 intro ρ B E a w F G;refine wpIn_block (wpIn_mono (D ρ B E a w F G) λe H w' ⟨ρ',x,j,h',A,s,u,z,i⟩=>?_);cases x<;>cases e<;>simp only[r9]at A
 ·exact⟨ρ',.normal,j,h',trivial,s,u,z,i⟩
 ·subst A;simp only[IX]at i;simp only[Exit.inBlock];split
  ·rename_i C;simp only[C,if_true]at i;exact⟨ρ',.normal,j,h',trivial,s,u,z,i⟩
  ·rename_i C;simp only[C,if_false]at i;exact⟨ρ',.exit _,j,h',rfl,s,u,z,i⟩
 ·exact⟨ρ',.goto _,j,h',A,s,u,z,i⟩
 ·exact⟨ρ',.ret,j,h',trivial,s,u,z,i⟩
 ·exact⟨ρ',.panic,j,h',A,s,u,z,i⟩
end
theorem apk{ρ:Ren}{n:Nat}{f:aj}{a:Act}(j:eE ρ n f a):a6 ρ ((ajB n).map f) a.tmps.toList:=by
 refine⟨by simp[j.size],λk v q i s=>?_⟩
 have u:k<n:=by have:=(are.1 i).1;simpa using this
 have m:=j.tmps k;simp only[aBx,List.getElem?_range u,azE,Option.some.injEq]at i;have z:a.tmps[k]?=some q:=by simpa using s
 rw[aB5,z]at m;subst i;exact m
theorem apl{ρ:Ren}{n:Nat}{f:aj}{arr:List aOU}(i:a6 ρ ((ajB n).map f) arr)(j:ρ.dfr=[]):eE ρ n (λt=>if t<n then f t else .top) { tmps:=arr.toArray,defers:=[] }:=by
 have m:arr.length=n:=by have:=i.1;simpa using this.symm
 refine⟨λt=>?_,by simpa using m,j.symm⟩
 simp only;split
 ·rename_i q;obtain⟨s,u,z⟩:=i.get (k:=t) (v:=f t) (by simp[q])
  have:(arr.toArray).getD t undef=s:=by rw[aB5];simp[u]
  rw[this];exact z
 ·exact .top _
theorem a1.tT{ρ:Ren}{B:Nat}{s:aOV}{h:I}{w:aOV}(R:a1 ρ B s h w){i l:Nat}{mk:List aOU->Obj}{vs:List V}(u:h.get i=.kt l mk vs) :
  ∃arr,w.heap[l]?=some (mk arr)/\a6 ρ vs arr/\∀j,a1 ρ B s (h.set i (.kt l j vs)) (w.putObj l (j arr)):=by
 have z:=R.heap.obj i;rw[u]at z;obtain⟨F,arr,A,G,H,C,D⟩:=z;have L:=(azj.1 C).1;refine⟨arr,C,D,λj=>R.r4 A (by rw[u];simp) (λk E=>aOV.putObj_heap_other E) (by simp) ⟨rfl,rfl,rfl,by simp,λk E=>aOV.putObj_heap_other (by omega),BY _⟩ ?_⟩
 exact⟨F,arr,A,G,H,aOV.putObj_heap_same L,D⟩
theorem a1.Ea{ρ:Ren}{B:Nat}{s:aOV}{h:I}{w:aOV}(R:a1 ρ B s h w)(mk:List aOU->Obj){vs:List V}{arr:List aOU}(u:a6 ρ vs arr) :
  ∃ ρ',ρ.le ρ'/\a1 ρ' B s (h.push (.kt w.heap.size mk vs)) (w.alloc (mk arr)):=by
 have j:=Ren.tq (R.heap.me _ (BY _)) w.heap.size 0;have z:ρ.frz w.heap.size=none:=by
  cases A:ρ.frz w.heap.size with
  | none=>rfl
  | some a=>
   obtain⟨e,G,C⟩:=R.heap.frz _ _ A;have:=(azj.1 C).1;omega
 have i:∀k,k<w.heap.size->(w.alloc (mk arr)).heap[k]?=w.heap[k]?:=λk D=>Below.heap_alloc _ _ _ D;obtain⟨E,F⟩:=R.Cf (w':=w.alloc (mk arr)) (o:=.kt w.heap.size mk vs) 0 (by simp) i ((hN.refl _ _).alloc R.heap.base _) ⟨0,arr,Ren.nY,z,R.heap.base,aOV.alloc_heap_new _ _,u.mono j⟩
 exact⟨_,E,F⟩
def xE(fn:aOZ)(p:Tmp)(assign body:aO4)(D:Nat)(st:LoopState):List aOU->Obj:=λm=>.loop { state:=st,pending:=none,fn,tmps:=m.toArray,params:=#[p],assign,body,defers:=D }
def Vj(n:Nat)(f:aj)(p:Tmp)(v:V):aj:=aj.put (λt=>if t<n then f t else .top) (some p) v
theorem lI.of{P:aOR}{n l i:Nat}{fn:aOZ}{p:Tmp}{assign body:aO4}{D:Nat}{f:aj}{v:V}{h:I}{R:V->I->Prop}(O:p<n)
  (Q:h.get i=.kt l (xE fn p assign body D .ready) ((ajB n).map f)) (M:aj->I->Prop)
  (aT:n5 P n l assign (λz s h'=>z=.normal/\h'.get i=.kt l (xE fn p assign body D .ready) ((ajB n).map f)/\M s h') (Vj n f p v) h)
  (ak:∀s h',M s h'->n5 P n l body (λz _ G=>z=.normal/\G.get i=.kt l (xE fn p assign body D .busy) ((ajB n).map f)/\R (.bool true) (G.set i (.kt l (xE fn p assign body D .ready) ((ajB n).map f)))) s (h'.set i (.kt l (xE fn p assign body D .busy) ((ajB n).map f)))) :
  lI P l [v] h R:=by
 intro ρ B H w j L S;obtain⟨arr,T,W,_⟩:=L.tT Q;obtain⟨u,jZ,X,Y,Z⟩:=S.dT;obtain rfl:=Z.eq_nil;have qn:j=#[u]:=by apply Array.ext';simpa using X
 subst qn;have bk:=run_yield (P:=P) (args:=#[u]) T rfl;refine⟨fn,_,assign,body,bk,roundIn_of_wpIn trivial ?_⟩;have kf:eE { ρ with dfr:=[] } n (Vj n f p v) { tmps:=((#[p].zip #[u]).foldl (λtmps (t,a)=>tmps.setIfInBounds t a) arr.toArray),defers:=[] }:=by
  have:=(apl (ρ:={ ρ with dfr:=[] }) (W.dfr []) rfl).put (Y.dfr []) (some p) (by simp[s7,O])
  simpa [Act.put,Vj]using this
 refine wpIn_mono (aT { ρ with dfr:=[] } B H _ w (L.dfr []) kf) λe bZ cE ⟨ρ1,x,f1,h1,A,hO,zM,hP,C⟩=>?_;obtain⟨rfl,fy,lv⟩:=C;cases e<;>simp only[r9]at A;obtain⟨FL,E,aa,dA⟩:=hO.tT fy;refine⟨_,run_beginRound E rfl,?_⟩;have jM:=dA (xE fn p assign body D .busy);refine wpIn_mono (ak f1 h1 lv ρ1 B H bZ _ jM zM) λe a3 iI ⟨ρ3,x,f3,aC,A,BI,wz,pI,C⟩=>?_;obtain⟨rfl,F,eF⟩:=C;cases e<;>simp only[r9]at A;obtain⟨ab,Ls,ag,Qb⟩:=BI.tT F;refine⟨_,_,run_endRound none Ls,?_⟩;have u3:=Qb (xE fn p assign body D .ready);have N:=hP.trans pI;exact⟨{ ρ3 with dfr:=ρ.dfr },.bool true,.bool true,_,rfl,.bool _,u3.dfr ρ.dfr,⟨N.ren,N.frz,rfl⟩,eF⟩
theorem au.iO{P:aOR}{bE gf:aOZ}{fn:Func}{A A2 assign body:aO4}{id:Nat}{g p:Tmp}(oq:P.funcs[bE]?=some fn)
  (ak:fn.body=some (.seq A (.seq A2 (.block id (.rangeFunc (.tmp g) #[p] assign body))))) (Z:mC P gf=true) {args:List V} (Q:args.length<=fn.ntmps) {h:I} {R:V->I->Prop} {K:aj->I->Prop} {caps:aj->List V}
  (H:aS P fn.ntmps A (λz f h=>z=.normal/\aS P fn.ntmps A2 (λz f h=>z=.normal/\K f h) f h) (iO args) h)
  (aw:∀f h,K f h->f g=.func (.func gf) [] (caps f))
  (fI:∀f H,K f H->∀(l D:Nat) (q:aOZ) (M:I),M=(H.push (.kt D (λ_=>.deferred (some [])) [])).push (.kt l (xE q p assign body D .ready) ((ajB fn.ntmps).map f)) ->
   au P gf (.func (.yield l) [] []::caps f) M (λ_ aC=>aC.get (H.n+1)=.kt l (xE q p assign body D .ready) ((ajB fn.ntmps).map f)/\aC.get H.n=.kt D (λ_=>.deferred (some [])) [] /\
    (∃r,sb P fn.results.toList f ((aC.set (H.n+1) .dead).set H.n .dead)=some r/\R r ((aC.set (H.n+1) .dead).set H.n .dead)))):au P bE args h R:=by
 intro ρ B aV w aa hw aT;refine callsIn_wide.1 (callsIn_of_wp_marks (n:=0) oq ak trivial ?_);apply wpIn_seq;refine wpIn_mono (wpIn_wide.2 (H { ρ with dfr:=[] } B aV _ w (hw.dfr []) (Un (aT.dfr []) Q rfl))) ?_
 rintro e bZ cE ⟨ρ1,z,f1,D5,ah,hO,zM,hP,rfl,M⟩
 cases e<;>simp only[r9]at ah;show(aO4.seq A2 _).wpIn Fence.wide 0 P _ bZ cE;apply wpIn_seq;refine wpIn_mono (wpIn_wide.2 (M ρ1 B aV bZ cE hO zM)) ?_
 rintro e F s ⟨ρ2,z,N,E,ah,jM,iM,h6,rfl,ct⟩
 cases e<;>simp only[r9]at ah;show(aO4.block id _).wpIn Fence.wide 0 P _ F s;apply wpIn_block;have Vk:=hP.trans h6;have kg:F.defers=[]:=(iM.defers.trans h6.dfr).trans hP.dfr;refine wpIn_rangeFunc ?_;intro q ab;obtain⟨ρ3,pI,BI⟩:=jM.Ea (λ_=>.deferred (some [])) (a6.nil ρ2);have lf:a6 ρ3 ((ajB fn.ntmps).map N) F.tmps.toList:=(apk iM).mono pI;obtain⟨ρ4,pJ,u3⟩:=BI.Ea (xE q p assign body s.heap.size .ready) lf;have bl:(s.alloc (Obj.deferred (some []))).heap.size=s.heap.size+1:=by simp
 rw[bl]at u3;have cM:=fI N E ct (s.heap.size+1) s.heap.size q _ rfl;have Lu:=iM.tmps g;rw[aw N E ct]at Lu;obtain⟨O,Qc,Vl⟩:∃O:Array aOU,a6 ρ4 (caps N) O.toList/\F.eval (.tmp g)=.func (.func gf) #[] O:=by
  have he:F.eval (.tmp g)=F.tmps.getD g undef:=rfl;rw[he];generalize F.tmps.getD g undef=x at Lu;cases Lu with
  | func aJ gb gd ah bk=>
   rename_i fE ze;have:fE=#[]:=aAY gb.symm;subst this;exact⟨ze,((er.list ⟨gd,bk⟩).mono pI).mono pJ,rfl⟩
 have qn:a6 ρ4 (.func (.yield (s.heap.size+1)) [] []::caps N) (#[aOU.func (.yield (s.heap.size+1)) #[] #[]]++O).toList:=by
  have aG:aE ρ4 (.func (.yield (s.heap.size+1)) [] []) (.func (.yield (s.heap.size+1)) #[] #[]):=.func _ rfl rfl (by simp) (by simp)
  simpa using a6.cons aG Qc
 have cR:=run_enterLoop_outer (P:=P) (w:=s) q F.tmps #[p] assign body;have ag:xE q p assign body s.heap.size .ready F.tmps.toList=.loop { state:=.ready,pending:=none,fn:=q,tmps:=F.tmps,params:=#[p],assign,body,defers:=s.heap.size }:=by simp[xE]
 rw[ag]at u3;obtain⟨W,D9⟩:∃W,W=(s.alloc (.deferred (some []))).alloc (.loop { state:=.ready,pending:=none,fn:=q,tmps:=F.tmps,params:=#[p],assign,body,defers:=s.heap.size }):=⟨_,rfl⟩;rw[<-D9]at u3 cR;obtain⟨L, Vm, Sd⟩ : ∃L, P.funcs[gf]? = some L /\ (L.body.isSome && L.name != "runtime.NumGoroutine") = true := by
  unfold mC at Z;split at Z
  ·rename_i L zQ;exact⟨L,zQ,Z⟩
  ·cases Z
 simp only[ajC,bne_iff_ne,ne_eq]at Sd;have v8:L.body.isNone=false:=by cases ak:L.body<;>simp_all
 refine⟨s.heap.size+1,[{ target:=.collected s.heap.size,args:=#[] }],W,{ target:=.fn (.func gf) O,args:=#[.func (.yield (s.heap.size+1)) #[] #[]] },W,gf,
  #[.func (.yield (s.heap.size+1)) #[] #[]]++O,W,cR,?_,?_,?_,(λU=>by cases U),?_⟩
 ·simp only[resolve,Vl];simp[go_sem]
 ·intro bU cm;trivial
 ·simp only[invoke,callFunc];simp[Vm,Sd.2];intro U;simp[U]at v8
 ·refine callsIn_wide.2 ((cM ρ4 B aV _ _ u3 qn).mono λe rI U=>?_);rcases U with⟨ρ5,r,di,S,rfl,aM,T,Se,tU,Sf,ai,aq,eF⟩|⟨_,_,_,_,_,_,_,bN⟩
  case inr=>exact bN.elim
  obtain⟨X,Sg,_,_⟩:=T.tT tU;have Eb:=(T.kill (E.n+1));have Sh:=T.heap.obj E.n;rw[Sf]at Sh;obtain⟨aN,aO,aW,aX,aZ,ax,_⟩:=Sh;have Lv:=T.heap.obj (E.n+1);rw[tU]at Lv;obtain⟨az,ba,Hy,Vn,aB,Ec,_⟩:=Lv;have Vo:=(azj.1 Sg).1;refine⟨none,_,run_endLoop Sg (by simp[xE]),?_⟩
  have bH:s.heap.size≠s.heap.size+1:=by omega
  have Vp:(rI.putObj (s.heap.size+1) (.loop { state:=.exhausted,pending:=none,fn:=q,tmps:=X.toArray,params:=#[p],assign,body,defers:=s.heap.size })).heap[s.heap.size]?=some (.deferred (some [])):=(aOV.putObj_heap_other bH).trans ax;have Si:a1 ρ5 B aV ((S.set (E.n+1) .dead).set E.n .dead) ((rI.putObj (s.heap.size+1) (.loop { state:=.exhausted,pending:=none,fn:=q,tmps:=X.toArray,params:=#[p],assign,body,defers:=s.heap.size })).putObj s.heap.size (.deferred none)):=by
   have s1:=T.r4 (o:=.kt (s.heap.size+1) (λ_=>.loop { state:=.exhausted,pending:=none,fn:=q,tmps:=X.toArray,params:=#[p],assign,body,defers:=s.heap.size }) []) Hy (by rw[tU];simp) (w':=rI.putObj (s.heap.size+1) (.loop { state:=.exhausted,pending:=none,fn:=q,tmps:=X.toArray,params:=#[p],assign,body,defers:=s.heap.size })) (λk hk=>aOV.putObj_heap_other hk) (by simp)
    ⟨rfl,rfl,rfl,by simp,λk hk=>aOV.putObj_heap_other (by omega),BY _⟩ ⟨az,[],Hy,Vn,aB,aOV.putObj_heap_same Vo,a6.nil _⟩
   have Vq:(S.set (E.n+1) (.kt (s.heap.size+1) (λ_=>.loop { state:=.exhausted,pending:=none,fn:=q,tmps:=X.toArray,params:=#[p],assign,body,defers:=s.heap.size }) [])).get E.n=.kt s.heap.size (λ_=>.deferred (some [])) []:=by
    show(if E.n=E.n+1 then _ else S.get E.n)=_
    rw[if_neg (by omega),Sf]
   obtain⟨bf,_,_,Qd⟩:=s1.tT Vq;have s2:=Qd λ_=>.deferred none;have l2:=(s2.kill (E.n+1)).kill E.n;have aD:∀x y,((((S.set (E.n+1) x).set E.n y).set (E.n+1) .dead).set E.n .dead)=(S.set (E.n+1) .dead).set E.n .dead:=λx y=>by
    simp only[I.set]
    congr 1
    funext j
    by_cases H:j=E.n
    ·simp[H]
    ·by_cases M:j=E.n+1
     ·simp[M]
     ·simp[H,M]
   rw[aD]at l2;exact l2
  show LeavesInM _ _ P fn F.tmps _ ([{ target:=.collected s.heap.size,args:=#[] }]++F.defers) .returning _;rw[kg];refine⟨by simp,.inl ⟨s.heap.size,_,rfl,run_takeDeferred Vp,?_⟩⟩
  show ∃v,(results fn F.tmps).run P _=.ok v _/\_;have Lw:Ren.le { ρ with dfr:=[] } ρ5:=((Vk.trans pI).trans pJ).trans Se;have aI:eE ρ5 fn.ntmps N F:=iM.mono ((pI.trans pJ).trans Se);obtain⟨Y,cB,de⟩:=Um Si aI aq;exact⟨Y,cB,.inl ⟨{ ρ5 with dfr:=ρ.dfr },ai,Y,_,rfl,de.dfr ρ.dfr,Si.dfr ρ.dfr,⟨Lw.ren,Lw.frz,rfl⟩,eF⟩⟩
theorem bd{P:aOR}{bE:aOZ}{fn:Func}{c:aO4}(i:P.funcs[bE]?=some fn)(ak:fn.body=some c){args:List V}{h:I}{R:V->I->Prop}(j:@lJ P fn.ntmps c (.fn (vo P fn (λr h=>@r8 ⟨R r h⟩) λ_=>False)) (iO args) h)(m:codeOk fn.ntmps c=true:=by kernel_rfl)(a:args.length<=fn.ntmps:=by simp):au P bE args h R:=au.tG i ak m a j
theorem cA{P:aOR}{K:fz}{bE:aOZ}{args:List V}{h:I}{d:Option Tmp}{f:aj}{R:V->I->Prop}(a:au P bE args h R)(i:∀r h',R r h'->@jq K (f.put d r) h')(av:mC P bE=true:=by kernel_rfl):@m8 P bE args h d K f:=Uq av a i
theorem bO{P:aOR}{K:fz}{bE:aOZ}{args:List V}{h:I}{d:Option Tmp}{f:aj}{v:V}(a:Pure P bE args h v)(i:@jq K (f.put d v) h)(av:mC P bE=true:=by kernel_rfl):@m8 P bE args h d K f:=wd av a i
theorem wpS{P:aOR}{n:Nat}{c:aO4}{Q:cC->aj->I->Prop}{f:aj}{h:I}(a:@lJ P n c (.fn Q) f h)(i:codeOk n c=true:=by kernel_rfl):aS P n c Q f h:=IY i a
theorem aS.cS{P:aOR}{n id:Nat}{ops:Array Oper}(M:Nat->Prop)(es:List Nat)(s:ea){Q:sc}{f:aj}{h:I}(i:gq P ops.toList M h (.out Q) s true f h)(j:P.follows .mixedOrders=true:=by kernel_rfl)(u:s.ok ops es ops.size true true true (azZ ops.size false)=true:=by kernel_rfl)(z:ops.toList.all (λo=>s7 n o.dst)=true:=by kernel_rfl):aS P n (.region id ops true) Q.go f h:=aS.K0 M es s j u z i
theorem aS.xr{P:aOR}{n id:Nat}{ops:Array Oper}(M:Nat->Prop)(es:List Nat)(s:ea){Q:sc}{f:aj}{h:I}(i:gq P ops.toList M h (.out Q) s false f h)(j:P.follows .mixedOrders=true:=by kernel_rfl)(u:s.ok ops es ops.size true false true (azZ ops.size false)=true:=by kernel_rfl)(z:ops.toList.all (λo=>s7 n o.dst)=true:=by kernel_rfl):aS P n (.region id ops true) Q.go f h:=aS.K3 M es s j u z i
theorem dV{a b:Nat}(h:a<b):decide ((a:Int)<((b:Nat):Int))=true:=decide_eq_true (by omega)
theorem eC{a b:Nat}(h:¬a<b):decide ((a:Int)<((b:Nat):Int))=false:=decide_eq_false (by omega)
theorem hR{i:Nat}(h:i+1<2^63):aOT.i64.wrap ((i:Int)+1)=((i+1:Nat):Int):=by rw[Go.IntWalk.i64_in _ (by omega)];omega
theorem b0(h:I)(a:aR):∃H,H=h.push a/\J h H none_/\H.get h.n=a/\H.n=h.n+1:=⟨_,rfl,J.push _ _ _,fv,rfl⟩
def Lx:=PLift.up (AT (AT (AT (AT (AT (AT (AT (AT @akv @akw) (AT @akx @akA)) (AT (AT @akB @akC) (AT @akD @akE))) (AT (AT (AT @akF @akG) (AT @akH @aky)) (AT (AT @akz @akI) @akJ))) (AT (AT (AT (AT @akK @akL) (AT @akM @akN)) (AT (AT @akO @akP) (AT @akQ @akR))) (AT (AT (AT @ZV @akW) (AT @akX @akY)) (AT (AT @akZ @ak0) @akS)))) (AT (AT (AT (AT (AT @akT @akU) (AT @akV @GT)) (AT (AT @ak4 @ak5) (AT @ak6 @ak7))) (AT (AT (AT @ak8 @ak9) (AT @ala @alb)) (AT (AT @alc @ald) @alg))) (AT (AT (AT (AT @alh @ali) (AT @alj @alk)) (AT (AT @alm @ws) @alo)) (AT (AT (AT @alp @alr) (AT @als @alu)) (AT (AT @alv @alw) @alx))))) (AT (AT (AT (AT (AT (AT @aly @alz) (AT @alA @alB)) (AT (AT @alC @alD) (AT @alE @alH))) (AT (AT (AT @alJ @wt) (AT @alL @alM)) (AT (AT @alN @alO) @alP))) (AT (AT (AT (AT @alQ @alR) (AT @alS @alT)) (AT (AT @alV @alW) @alX)) (AT (AT (AT @alK @alI) (AT @ak1 @alq)) (AT (AT @ak2 @ak3) @ale)))) (AT (AT (AT (AT (AT @alf @aln) (AT @alF @alG)) (AT (AT @al1 @eval_const) (AT @eval_func @alZ))) (AT (AT (AT @al0 @al2) (AT @al3 @amc)) (AT (AT @amd @ame) @amf))) (AT (AT (AT (AT @amg @amh) (AT @ami @amj)) (AT (AT @amk @aml) @amm)) (AT (AT (AT @amn @amo) (AT @amp @amq)) (AT (AT @ams @amt) @lL)))))) (AT (AT (AT (AT (AT (AT (AT @NE @alU) (AT @Z0 @amv)) (AT (AT @al4 @al5) (AT @al6 @al7))) (AT (AT (AT @al8 @al9) (AT @ama @amb)) (AT (AT @amw @amx) @amy))) (AT (AT (AT (AT @amz @amA) (AT @amB @amC)) (AT (AT @amD @amE) (AT @PJ @amF))) (AT (AT (AT @amG @amH) (AT @amI @amJ)) (AT (AT @all_nil @all_cons) @amK)))) (AT (AT (AT (AT (AT @amL @amM) (AT @Z1 @amN)) (AT (AT @Z2 @amO) (AT @amP @Kw))) (AT (AT (AT @amQ @amR) (AT @uR @amU)) (AT (AT @amV @amW) @amX))) (AT (AT (AT (AT @d6 @Z3) (AT @amY @zy)) (AT (AT @Z5 @yK) @zz)) (AT (AT (AT @anz @anD) (AT @anG @anH)) (AT (AT @anI @anJ) @anK))))) (AT (AT (AT (AT (AT (AT @anE @anF) (AT @df @kj)) (AT (AT @fv @aL) (AT @set_set @set_push))) (AT (AT (AT @zA @yL) (AT @anv @anw)) (AT (AT @aow @aox) @aoy))) (AT (AT (AT (AT @aoz @aoA) (AT @aoB @aoC)) (AT (AT @aoD @List.getElem?_cons_zero.{0}) @aB3.{0})) (AT (AT (AT @bne_self_eq_false.{0} @beq_self_eq_true.{0}) (AT @Option.some.injEq.{0} @azs)) (AT (AT @decide_true @decide_false) @axU.{0,0})))) (AT (AT (AT (AT (AT @azu.{0,0} @azE.{0,0}) (AT @Option.map_none.{0,0} @Nat.add_zero)) (AT (AT @ayP @Dy) (AT @axW.{0} @List.length_nil.{0}))) (AT (AT (AT @azC.{0} @List.drop_succ_cons.{0}) (AT @List.take_succ_cons.{0} @List.take_zero.{0})) (AT (AT @List.take_nil.{0} @List.set_cons_zero.{0}) @List.set_cons_succ.{0}))) (AT (AT (AT (AT @List.nil_append.{0} @axX.{0}) (AT @List.cons_append.{0} @and_true)) (AT (AT @true_and @and_self) @if_true.{1})) (AT (AT (AT @if_false.{1} @Bool.and_true) (AT @Bool.true_and @Bool.and_self)) (AT (AT @Bool.not_true @Bool.not_false) @BY)))))))
theorem ae:type_of% Lx.down:=Lx.down
def Ly:=PLift.up (AT (AT (AT (AT (AT (AT @false_implies @aoc) @aod) (AT @aoe @aof)) (AT (AT (AT @aog @aoh) @aoi) (AT @aoj @aoa))) (AT (AT (AT (AT @aok @aol) @aom) (AT @aon @implies_true.{0})) (AT (AT (AT @am5 @am6) @am7) (AT @am8 @am9)))) (AT (AT (AT (AT (AT @ana @anb) @anc) (AT @ane @anf)) (AT (AT (AT @ang @anh) @ani) (AT @anj @ank))) (AT (AT (AT (AT @anl @anm) @ann) (AT @ano @anp)) (AT (AT (AT @anq @anr) @ans) (AT @ant @anu)))))
theorem bt:type_of% Ly.down:=Ly.down
def Lz:=PLift.up (AT (AT (AT (AT (AT @aoH @aoL) @aoM) (AT (AT @aoN @aoO) @aoP)) (AT (AT (AT @aoQ @aoR) @aoS) (AT @aoT @aoU))) (AT (AT (AT (AT @aoV @aoW) @aoX) (AT (AT @aoY @U6) @U7)) (AT (AT (AT @U8 @aoI) @aoJ) (AT @aoK @not_false_eq_true))))
theorem fo:type_of% Lz.down:=Lz.down
end Go.Proofs.YtemdgidnhgcafaaGreatDoor.Ab
