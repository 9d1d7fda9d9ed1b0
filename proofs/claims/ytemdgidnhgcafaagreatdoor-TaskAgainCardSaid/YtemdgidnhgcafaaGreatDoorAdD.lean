/-
  Rules of the machine on abstract states. Conditions: as each theorem says.
-/
import Derived.Test.YtemdgidnhgcafaaGreatDoorAdC
import Derived.Recover
import Derived.Lib.LaidTab
import Derived.OpenShut
import Derived.Shelf.SlSortCmp.InsertionK
open Go.IntWalk renaming i64_in->kp
open Go.Proofs.YtemdgidnhgcafaaGreatDoor.Ab.V renaming int->kA
open Option renaming some->eL,none->eN
open Bool renaming true->e6,false->fr
open Go.IntKind renaming i64->gj
open List renaming length_append->D9,map_cons->ajF,mem_append->axE,take_add->aBA,drop_drop->aAu,getElem?_eq_getElem->Jt,mem_cons_of_mem->aAH,mem_map->OF,mem_of_getElem?->azc,drop_zero->azw,take_length->azB,getElem?_map->aA1,mem_cons->IN,length->azl,length_take->ajB,replicate->azj,take_of_length_le->ajE,getElem?_append_left->azW,getElem?_take->ay7,getElem?_append_right->azX,drop_take->aAJ,take_take->azz,length_drop->azk,map->aA3,map_map->azn,map_append->ay1,nodup_append->aAw,Nodup->aAy,nodup_cons->azD,flatMap_cons->ayW,length_cons->axF,getElem!_eq_getElem?_getD->aC9,getElem?_cons_succ->aBp,ext_getElem->aBm,length_pos_iff->aDa,take_left'->aAj,finRange->aDb,append_nil->axA,pairwise_map->azt,mem_filter->ajA,getElem?_eq_some_iff->axB,map_nil->azd,range->ajC
open Nat renaming le_refl->BY,eq_zero_or_pos->aD5,eq_of_mul_eq_mul_right->aAf,zero_add->ayB,add_mul->ayC,min_eq_left->azb,zero_le->D8,one_mul->aAv
open Array renaming getElem?_eq_some_iff->ay8,getElem?_append->aC5,getElem?_modify->azA,getElem?_toList->azq,getElem?_eq_getElem->ayZ,length_toList->azP,getD_eq_getD_getElem?->aBs,eq_empty_of_size_eq_zero->aAB,toList_inj->aBq,replicate->azJ
open Bool renaming and_eq_true->are,false_eq_true->azf
open Option renaming bind_some->azm,map_eq_some_iff->azs,isSome_none->aAR,map_some->azi
open Prod renaming fst->aAk,mk->ay9
open And renaming intro->AS
open Go renaming IntKind->aPh,Program->aPf,TypeId->aPg,Field->aPB,Value->aPi,World->aPj,DataW->aPo,MemPlace->aPy,FuncId->aPn,Code->aPs,PanicEntry->aPx,Operand->aPk,FloatKind->aPr
set_option linter.unusedVariables false
set_option linter.unusedSimpArgs false
set_option maxRecDepth 10000
namespace Go.Proofs.YtemdgidnhgcafaaGreatDoor.Ab
open Go Go.RowKit
inductive gO where
 | bool|int (k:aPh)|str|bh (s:gO)|unit|cat (a b:gO)|ext (n:Nat)
def gO.width:gO->Nat
 | .unit=>0
 | .cat a b=>a.width+b.width
 | .ext n=>n
 | _=>1
def gO.fa(Q:List V->Prop):gO->List V->Prop
 | .ext n,l=>Q l/\l.length=n
 | .bool,l=>∃b,l=[.bool b]
 | .int k,l=>∃n,l=[.int k n]/\(Lit.int k n).wf=e6
 | .str,l=>∃s,l=[.string s]
 | .bh s,l=>∃es:List (List V),l=[.ag es.length es.flatten]/\es.length<2^47/\∀e∈es,s.fa Q e
 | .unit,l=>l=[]
 | .cat a b,l=>∃i j,l=i++j/\a.fa Q i/\b.fa Q j
theorem gO.nF{Q:List V->Prop}:∀{s:gO} {l:List V},s.fa Q l->l.length=s.width
 | .ext _,_,⟨_,h⟩=>h
 | .bool,_,⟨_,h⟩=>by subst h;rfl
 | .int _,_,⟨_,h,_⟩=>by subst h;rfl
 | .str,_,⟨_,h⟩=>by subst h;rfl
 | .bh _,_,⟨_,h,_⟩=>by subst h;rfl
 | .unit,_,h=>by have:_=[]:=h;subst this;rfl
 | .cat a b,_,⟨u,z,h,i,j⟩=>by subst h;rw[D9,gO.nF i,gO.nF j];rfl
def Dk(P:aPf)(g:aPg->Option gO):Nat->List aPB->Option gO
 | _,[]=>eL .unit
 | o,f::a=>
  if f.offset=o then
   match g f.type,Dk P g (o+P.cellsOf f.type) a with
   | some s,eL r=>if s.width=P.cellsOf f.type then eL (.cat s r)else eN
   | _,_=>eN
  else eN
def y2(P:aPf)(a:aPg):Nat->aPg->Option gO
 | 0,_=>eN
 | n+1,t=>
  if t=a then eL (.ext (P.cellsOf t))else
  match P.underlying t with
  | some .bool=>eL .bool
  | some (.int k)=>eL (.int k)
  | some .string=>eL .str
  | some (.slice e)=>match y2 P a n e with|some s=>if s.width=P.cellsOf e/\0<s.width/\1<=P.bytesOf e then eL (.bh s)else eN|none=>eN
  | some (.struct i)=>match Dk P (y2 P a n) 0 i.toList with|some s=>if s.width=P.cellsOf t then eL s else eN|none=>eN
  | _=>eN
section
variable {H:Type} {enc:aPg×aPi->H} {P:aPf} {w:aPj} {base:Nat} {spare:Nat->Bool} {held:Bool} {Q:List V->Prop} {T0:aPg}
theorem VL{g:aPg->Option gO}{j:List aPi}{fu:Nat}(A:∀t s j x,g t=eL s->aPo.trod enc P w base spare held fu t j=eL x->(∀n∈x.1.weights P t,n<=reachBytes)->∃l,s.fa Q l/\bj (oY w) l j) :
  ∀(m:List aPB) (o:Nat) (s:gO) (xs:List (aPo H×List aPy)),Dk P g o m=eL s->xs.length=m.length ->
   (∀(i:Nat) (f:aPB),m[i]?=eL f->aPo.trod enc P w base spare held fu f.type ((j.drop f.offset).take (P.cellsOf f.type))=xs[i]?)->(∀n∈aPo.weightsEach P (m.map (·.type)) (xs.map (·.1)),n<=reachBytes)->∃l,s.fa Q l/\bj (oY w) l ((j.drop o).take s.width)
 | [],o,s,xs,a,_,_,_=>by
  simp[Dk]at a;subst a;exact⟨[],rfl,by simpa [gO.width]using bj.nil _⟩
 | f::m,o,s,xs,a,B,C,an=>by
  unfold Dk at a;split at a
  case isFalse=>cases a
  rename_i F;split at a
  case h_2=>cases a
  rename_i q u G L;split at a
  case isFalse=>cases a
  rename_i M;obtain rfl:=Option.some.inj a;cases xs with
  | nil=>simp at B
  | cons x xs=>
   have N:=C 0 f rfl;obtain⟨D,O,db⟩:=A _ _ _ _ G N (λn z=>an n (by simp only[ajF,aPo.weightsEach,axE];exact .inl z));obtain⟨E,R,ea⟩:=VL A m _ u xs L (by simpa using B) (λi S T=>C (i+1) S (by simpa using T)) (λn z=>an n (by simp only[ajF,aPo.weightsEach,axE];exact .inr z));refine⟨D++E,⟨D,E,rfl,O,R⟩,?_⟩;have:=db.append ea;rw[F,<-M]at this;have e:((j.drop o).take q.width)++((j.drop (o+q.width)).take u.width)=(j.drop o).take (q.width+u.width):=by
    rw[aBA,aAu]
   rw[e]at this;exact this
theorem QX:∀(n:Nat) (t:aPg) (s:gO) (A:Nat) (D:List aPi) (x:aPo H×List aPy),(∀k,k<=A->∀D x,aPo.trod enc P w base spare held k T0 D=eL x->(∀n∈x.1.weights P T0,n<=reachBytes)->∃l,Q l/\l.length=P.cellsOf T0/\bj (oY w) l D)->y2 P T0 n t=eL s->aPo.trod enc P w base spare held A t D=eL x->(∀n∈x.1.weights P t,n<=reachBytes)->∃l,s.fa Q l/\bj (oY w) l D
 | 0,_,_,_,_,_,_,q,_,_=>by simp[y2]at q
 | n+1,t,s,A,D,x,dW,q,h,T=>by
  unfold y2 at q;by_cases bA:t=T0
  .rw[gr bA]at q;obtain rfl:=Option.some.inj q;subst bA;obtain⟨l,E,N,aD⟩:=dW A (BY _) D x h T;exact⟨l,⟨E,N⟩,aD⟩
  rw[gQ bA]at q;split at q
  .rename_i B;obtain rfl:=Option.some.inj q;obtain⟨b,rfl,_⟩:=aPo.trod_bool B h;exact⟨[.bool b],⟨b,rfl⟩,.cons (.bool b) (.nil _)⟩
  .rename_i k B;obtain rfl:=Option.some.inj q;obtain⟨m,rfl,_,F⟩:=aPo.trod_int B h;exact⟨[.int k m],⟨m,rfl,F⟩,.cons (.int k m) (.nil _)⟩
  .rename_i B;obtain rfl:=Option.some.inj q;obtain⟨b,rfl,_⟩:=aPo.trod_string B h;exact⟨[.string b],⟨b,rfl⟩,.cons (.string b) (.nil _)⟩
  .rename_i e B;split at q
   case h_2=>cases q
   rename_i u h0;split at q
   case isFalse=>cases q
   rename_i F;obtain rfl:=Option.some.inj q;rcases aPo.trod_slice B h with⟨rfl,_⟩|⟨a,z,cap,C,rest,m,SY,rfl,W,_,mc,_,rV,xQ,_⟩
   .exact⟨[.ag 0 []],⟨[],rfl,by decide,by simp⟩,.cons (.kC eN 0 (by simp)) (.nil _)⟩
   .rcases aD5 z with aG|dG
    .subst aG;exact⟨[.ag 0 []],⟨[],rfl,by decide,by simp⟩,.cons (.kC (eL a) cap (by simp)) (.nil _)⟩
    .have S:∀i,i<z->∃l:List V,u.fa Q l/\∃G:List aPi,bj (oY w) l G/\∀j,j<u.width->w.cell? ((a.add (i*u.width)).add j)=G[j]?/\j<G.length:=λi hi=>by
      have E:=xQ i hi;have N:∃y,C[i]?=eL y:=⟨_,Jt (by omega)⟩;obtain⟨y,bg⟩:=N;rw[bg,Option.bind_eq_some_iff]at E;obtain⟨G,mW,la⟩:=E;obtain⟨l,f1,db⟩:=QX n e u m G y (λk hk=>dW k (by omega)) h0 la (λn aF=>T n (by
       rw[W];simp only[aPo.weights,B];exact aAH _ (List.mem_append_left _ (m8 (OF.2 ⟨y,azc bg,rfl⟩) aF))))
      rw[<-F.1]at mW;obtain⟨g1,g2⟩:=anY mW;exact⟨l,f1,G,db,λj X=>⟨g2 j X,by omega⟩⟩
     obtain⟨O,LQ,Y⟩:=aa7 z S;have fy:∀e∈O,u.fa Q e:=λe he=>by
      obtain⟨i,hi⟩:=List.getElem?_of_mem he;exact(Y i e hi).1
     have R:∀e∈O,e.length=u.width:=λe he=>gO.nF (fy e he);obtain⟨b,off,sp⟩:=a;have mC:∃v,w.cell? ⟨b,off,sp⟩=eL v:=by
      obtain⟨_,G,_,aw⟩:=(Y 0 O[0] (Jt (by omega)));obtain⟨L,Z⟩:=aw 0 F.2.1;rw[Nat.zero_mul]at L;simp only[Addr.add,jS]at L;exact⟨_,L.trans (Jt Z)⟩
     obtain⟨v0,tJ⟩:=mC;have an:∃M jm ix,w.heap[b]?=eL (.cells M jm ix)/\sp=none:=by
      unfold aPj.cell? at tJ;split at tJ
      .rename_i c jm ix ab;refine⟨c,jm,ix,ab,?_⟩;cases sp with
       | none=>rfl
       | some _=>simp at tJ
      .cases tJ
     obtain⟨M,jm,ix,an,rfl⟩:=an;have CZ:∀m,w.cell? (Addr.add ⟨b,off,eN⟩ m)=M[off+m]?:=λm=>by
      rw[Addr.add_mid];simp[aPj.cell?,an]
     have r1:∀i j,j<u.width->w.cell? ((Addr.add ⟨b,off,eN⟩ (i*u.width)).add j)=M[off+(i*u.width+j)]?:=λi j _=>by
      rw[Addr.add_mid,Addr.add_mid];simp[aPj.cell?,an,Nat.add_assoc]
     have bq:O.length<2^47:=by
      have aG:=T ((C.length+rest.length)*P.bytesOf e) (by rw[W];simp[aPo.weights,B]);have E:=Nat.le_trans (Nat.le_mul_of_pos_right _ F.2.2) aG;have N:=reachBytes_lt;omega
     refine⟨[.ag O.length O.flatten],⟨O,rfl,bq,fy⟩,.cons ?_ (.nil _)⟩;rw[LQ];refine .ag off z cap (Vs an) mc ?_ λk v v' E N=>?_
     .rw[aa9 R,LQ];obtain⟨_,G,_,aw⟩:=(Y (z-1) O[z-1] (Jt (by omega)));obtain⟨L,Z⟩:=aw (u.width-1) (by omega);rw[r1 _ _ (by omega),Jt Z]at L;have fP:=(ay8.1 L).1;have:(z-1)*u.width+u.width=z*u.width:=by
       rw[<-Nat.succ_mul];congr 1;omega
      omega
     .obtain⟨az,g1,g2⟩:=aa8 F.2.1 R E;obtain⟨_,G,aH,aw⟩:=Y _ az g1;have X:k % u.width<u.width:=Nat.mod_lt _ F.2.1;obtain⟨L,Z⟩:=aw _ X;rw[r1 _ _ X,show k / u.width*u.width+k % u.width=k by rw[Nat.mul_comm];exact Nat.div_add_mod k u.width,N]at L;exact aH.2 _ _ _ g2 L.symm
  .rename_i e3 B;split at q
   case h_2=>cases q
   rename_i u h0;split at q
   case isFalse=>cases q
   rename_i F;obtain rfl:=Option.some.inj q;obtain⟨xs,m,SY,W,c9,pz,af⟩:=aPo.trod_struct B h;obtain⟨l,f1,db⟩:=VL (fu:=m) (λt s D x E N aD=>QX n t s m D x (λk hk=>dW k (by omega)) E N aD) e3.toList 0 u xs h0 (by simpa using pz) (λi f aA=>af i f (by simpa using aA)) (λn aF=>T n (by rw[W];simp only[aPo.weights,B];exact aF));rw[azw,F,<-c9,azB]at db;exact⟨l,f1,db⟩
  .cases q
theorem aoN{n:Nat}{u:Array aPB}{q:gO}(z:P.underlying T0=eL (.struct u))(C:Dk P (y2 P T0 n) 0 u.toList=eL q)(A:q.width=P.cellsOf T0)(D:∀l,q.fa Q l->Q l) :
  ∀(a:Nat) (j:List aPi) (x:aPo H×List aPy),aPo.trod enc P w base spare held a T0 j=eL x->(∀n∈x.1.weights P T0,n<=reachBytes)->∃l,Q l/\l.length=P.cellsOf T0/\bj (oY w) l j:=by
 intro a
 induction a using Nat.strongRecOn with
 | _ a ih=>
  intro j x h E;obtain⟨F,m,X,G,L,M,N⟩:=aPo.trod_struct z h;obtain⟨l,B,db⟩:=VL (Q:=Q) (fu:=m) (λt s j x O R S=>QX (Q:=Q) n t s m j x (λk Z=>ih k (by omega)) O R S) u.toList 0 q F C (by simpa using M) (λi f T=>N i f (by simpa using T)) (λn W=>E n (by rw[G];simp only[aPo.weights,z];exact W));rw[azw,A,<-L,azB]at db;exact⟨l,D l B,by rw[gO.nF B,A],db⟩
theorem abl{n q:Nat}{u:Array aPB}{j:gO}(z:P.underlying T0=eL (.struct u))(A:Dk P (y2 P T0 n) 0 u.toList=eL j)(B:j.width=P.cellsOf T0)(C:∀l,j.fa Q l->Q l)
  {t:aPg} {s:gO} (D:y2 P T0 q t=eL s) {a:Nat} {i:List aPi} {x:aPo H×List aPy} (h:aPo.trod enc P w base spare held a t i=eL x) (m:∀n∈x.1.weights P t,n<=reachBytes):∃l,s.fa Q l/\bj (oY w) l i :=
 QX q t s a i x (λk _ i x h m=>aoN z A B C k i x h m) D h m
end
def abm(P:aPf)(g:aPn)(args:List V)(h:I)(R:I->Prop):Prop :=
 ∀(ρ:Ren) (B:Nat) (i w:aPj) (a:Array aPi),a8 ρ B i h w->bj ρ args a.toList ->
  CallsD P g a .returning w λe j w'=>e=.returned (.tuple #[])/\j=.returning/\∃(ρ':Ren) (h':I),a8 ρ' B i h' w'/\ρ.le ρ'/\R h'
def abn(P:aPf)(g:aPn)(args:List V)(h:I)(R:I->Prop):Prop :=
 ∀(ρ:Ren) (B:Nat) (j w:aPj) (i:Array aPi) (t:aPg) (v:aPi),a8 ρ B j h w->bj ρ args i.toList ->
  CallsD P g i (.panicking [{ v:=.iface t v,recovered:=fr }]) w λe m w'=>e=.returned (.tuple #[])/\m=.panicking [{ v:=.iface t v,recovered:=e6 }]/\∃(ρ':Ren) (h':I),a8 ρ' B j h' w'/\ρ.le ρ'/\R h'
def EE(P:aPf)(fn:Func)(R:V->I->Prop)(f:aj)(h:I):Prop:=match uZ P fn.results.toList f h with|some r=>R r h|none=>False
theorem au.LR{P:aPf}{bJ g:aPn}{fn:Func}{A A2 C:aPs}{SZ:Nat}{t x y:Tmp}{ai av:aPg}{VM VN}{VO VP}{aA:Array aPg}(oW:P.funcs[bJ]?=eL fn)
  (an:fn.body=eL (.seq A (.seq A2 (.seq (.region SZ #[⟨eL t,.makeFunc (.func g) #[] #[.tmp x,.tmp y],ai,VM,VO,eN⟩,⟨eN,.defer ⟨.value (.tmp t),#[],aA⟩,av,VN,VP,eN⟩] fr) C))))
  (bA:t<fn.ntmps) (T:me P g=e6) {args:List V} (X:args.length<=fn.ntmps) {h:I} {R:V->I->Prop} {M:aj->I->Prop} {KR KP:V->V->aj->I->Prop}
  (h1:aT P fn.ntmps A (λz f h=>z=.normal/\aT P fn.ntmps A2 (λz f h=>(z=.ret/\EE P fn R f h)\/(z=.normal/\M f h)) f h) (jw args) h)
  (aD:∀f h,M f h->aT P fn.ntmps C (λz L h'=>((z=.ret\/z=.normal)/\KR (f x) (f y) L h')\/(z=.panic/\KP (f x) (f y) L h')) (f.put (eL t) .top) h)
  (e8:∀gJ s L h',KR gJ s L h'->abm P g [gJ,s] h' (EE P fn R L))
  (kc:∀gJ s L h',KP gJ s L h'->abn P g [gJ,s] h' (EE P fn R L)):au P bJ args h R:=by
 intro ρ B D w aC hw aW;refine calls_of_wp_defers oW an ?_;have Q:∀(ρ':Ren) (f:aj) (h':I) (jK:Act) (w':aPj),Ren.le { ρ with dfr:=[] } { ρ' with dfr:=[] }->a8 ρ' B D h' w'->fw ρ' fn.ntmps f jK->EE P fn R f h' ->
   ∃v,(results fn jK.tmps).run P w'=.ok v w'/\((∃(ρ':Ren) (r:V) (E:aPi) (h':I),Ending.returned v=.returned E/\aL ρ' r E/\a8 ρ' B D h' w'/\ρ.le ρ'/\R r h') \/
    (∃(ρ':Ren) (G:List aPx) (h':I),Ending.returned v=.panicked G/\i7 G/\a8 ρ' B D h' w'/\ρ.le ρ'/\False)):=by
  intro ρ' f h' jK w' aB cz cG dW;unfold EE at dW;cases qS:uZ P fn.results.toList f h' with
  | none=>simp[qS]at dW
  | some r=>
  simp only[qS]at dW;obtain⟨E,cY,dD⟩:=Vb cz cG qS;exact⟨E,cY,.inl ⟨{ ρ' with dfr:=ρ.dfr },r,E,h',rfl,dD.dfr ρ.dfr,cz.dfr ρ.dfr,⟨aB.ren,aB.frz,rfl⟩,dW⟩⟩
 apply wp_seq;refine wp_mono (h1 { ρ with dfr:=[] } B D _ w (hw.dfr []) (Vc (aW.dfr []) X rfl)) ?_
 rintro e bW cH ⟨ρ1,z,f1,EF,N,ib,z6,ie,rfl,ad⟩
 cases e<;>simp only[tq]at N;show(aPs.seq A2 _).wp P _ bW cH;apply wp_seq;refine wp_mono (ad ρ1 B D bW cH ib z6) ?_
 rintro e u Y ⟨ρ2,z,Z,fV,N,kh,S,iK,bP⟩
 have gI:Ren.le { ρ with dfr:=[] } { ρ2 with dfr:=[] }:=⟨(ie.trans iK).ren,(ie.trans iK).frz,rfl⟩;rcases bP with⟨rfl,bP⟩|⟨rfl,bP⟩
 .cases e<;>simp only[tq]at N;show Leaves P fn u.tmps _ u.defers .returning Y;rw[show u.defers=[]from(S.defers.trans iK.dfr).trans ie.dfr];exact Q ρ2 Z fV u Y gI kh S bP
 .cases e<;>simp only[tq]at N;show(aPs.seq (.region SZ _ fr) C).wp P _ u Y;apply wp_seq;apply wp_region;have bq:=S.size;have aF:u.defers=[]:=(S.defers.trans iK.dfr).trans ie.dfr;have fl:=aD Z fV bP;obtain⟨gJ,yv⟩:∃v,v=u.tmps.getD x undef:=⟨_,rfl⟩;obtain⟨s,LS⟩:∃v,v=u.tmps.getD y undef:=⟨_,rfl⟩;have rx:=S.tmps x;have aa:=S.tmps y;rw[<-yv]at rx;rw[<-LS]at aa;have rh:=S.put (v:=.top) (v':=.func (.func g) #[] #[gJ,s]) (.top _) (eL t) (by simpa [tm]using bA)
  let d:Deferred:={ target:=.fn (.func g) #[gJ,s],args:=#[] }
  have oo:C.wp P (bodyPostD P fn λe w'=>(∃(ρ':Ren) (r:V) (E:aPi) (h':I),e=.returned E/\aL ρ' r E/\a8 ρ' B D h' w'/\ρ.le ρ'/\R r h') \/
    (∃(ρ':Ren) (G:List aPx) (h':I),e=.panicked G/\i7 G/\a8 ρ' B D h' w'/\ρ.le ρ'/\False)) { tmps:=(u.put (eL t) (.func (.func g) #[] #[gJ,s])).tmps,defers:=[d] } Y:=by
   have k9:fw { ρ2 with dfr:=[d] } fn.ntmps (Z.put (eL t) .top) { tmps:=(u.put (eL t) (.func (.func g) #[] #[gJ,s])).tmps,defers:=[d] } :=
    ⟨λk=>(rh.tmps k).dfr [d],rh.size,rfl⟩
   refine wp_mono (fl { ρ2 with dfr:=[d] } B D _ Y (kh.dfr [d]) k9) ?_
   rintro e F W ⟨ρ3,z,f3,z7,N,Cm,wS,pA,LU⟩
   have Ic:F.defers=[d]:=wS.defers.trans pA.dfr;have LV:ρ2.le { ρ3 with dfr:=ρ2.dfr }:=pA.sv;have JJ:bj { ρ3 with dfr:=ρ2.dfr } [Z x,Z y] #[gJ,s].toList:=bj.cons (rx.mono LV) (bj.cons (aa.mono LV) (bj.nil _));have wI:Ren.le { ρ with dfr:=[] } { ρ3 with dfr:=[] }:=⟨λi q j=>pA.ren i q (gI.ren i q j),λi q j=>pA.frz i q (gI.frz i q j),rfl⟩;have O:(invoke d.target d.args).run P W=.ok (.enter g #[gJ,s]) W:=by
    unfold me at T;cases ay:P.funcs[g]? with
    | none=>simp[ay]at T
    | some aG=>
     simp only[ay,are,bne_iff_ne,ne_eq]at T;simp[d,invoke,callFunc,ay,T.1,T.2,Option.isSome_iff_ne_none.1 T.1]
   rcases LU with⟨LU,hk⟩|⟨rfl,hk⟩
   .have VQ:Leaves P fn F.tmps (λe w'=>(∃(ρ':Ren) (r:V) (E:aPi) (h':I),e=.returned E/\aL ρ' r E/\a8 ρ' B D h' w'/\ρ.le ρ'/\R r h') \/
      (∃(ρ':Ren) (G:List aPx) (h':I),e=.panicked G/\i7 G/\a8 ρ' B D h' w'/\ρ.le ρ'/\False)) F.defers .returning W:=by
     rw[Ic];refine⟨by simp,_,_,g,#[gJ,s],rfl,O,?_⟩;refine((e8 _ _ _ _ hk) { ρ3 with dfr:=ρ2.dfr } B D W #[gJ,s] (Cm.dfr ρ2.dfr) JJ).mono ?_
     rintro e vx ri ⟨rfl,rfl,ρ4,br,vd,H,he⟩
     have LW:fw { ρ4 with dfr:=[d] } fn.ntmps f3 F:=⟨λk=>aL.zp (ρ:=ρ3) (ρ':={ ρ4 with dfr:=[d] }) (λi q j=>H.ren i q j) (λi q j=>H.frz i q j) (wS.tmps k),wS.size,Ic⟩;exact Q { ρ4 with dfr:=[d] } f3 br F ri ⟨λi q j=>H.ren i q (wI.ren i q j),λi q j=>H.frz i q (wI.frz i q j),rfl⟩ (vd.dfr [d]) LW he
    rcases LU with rfl|rfl<;>cases e<;>simp only[tq]at N<;>exact VQ
   .cases e with
    | panic G=>
     obtain⟨z8,cK,rfl⟩:=N;show Leaves P fn F.tmps _ F.defers (.panicking _) W;rw[Ic];refine⟨by simp,_,_,g,#[gJ,s],rfl,O,?_⟩;refine((kc _ _ _ _ hk) { ρ3 with dfr:=ρ2.dfr } B D W #[gJ,s] z8 cK (Cm.dfr ρ2.dfr) JJ).mono ?_
     rintro e vx ri ⟨rfl,rfl,ρ4,br,vd,H,he⟩
     have LW:fw { ρ4 with dfr:=[d] } fn.ntmps f3 F:=⟨λk=>aL.zp (ρ:=ρ3) (ρ':={ ρ4 with dfr:=[d] }) (λi q j=>H.ren i q j) (λi q j=>H.frz i q j) (wS.tmps k),wS.size,Ic⟩;show Leaves P fn F.tmps _ [] (settle _) ri;simp only[settle,List.dropWhile_nil];exact Q { ρ4 with dfr:=[d] } f3 br F ri ⟨λi q j=>H.ren i q (wI.ren i q j),λi q j=>H.frz i q (wI.frz i q j),rfl⟩ (vd.dfr [d]) LW he
    | _=>simp only[tq]at N
  have az:u.eval (.tmp x)=gJ:=by simp[Act.eval,yv]
  have bd:u.eval (.tmp y)=s:=by simp[Act.eval,LS]
  simp[wpOps,go_sem];refine .inl (.inl ?_);rw[gr (show t<u.tmps.size from bq.symm▸bA)];subst yv LS;simpa [Act.put,aF,d,go_sem,Oper.upon]using oo
section
variable {h:I} {a b c d o:aP}
theorem aoO:(((h.push a).push b).push c).get h.n=a:=by simp[BF,dn];intro U;omega
theorem aoP:(((h.push a).push b).push c).get (h.n+1)=b:=by simp[BF,dn]
theorem aoQ:(((h.push a).push b).push c).get (h.n+1+1)=c:=by simp[BF,dn]
theorem aoR:((((h.push a).push b).push c).push d).get h.n=a:=by
 simp only[BF,dn];rw[gQ (by omega),gQ (by omega),gQ (by omega),gr trivial]
theorem aoS:((((h.push a).push b).push c).push d).get (h.n+1+1)=c:=by
 simp only[BF,dn];rw[gQ (by omega),gr trivial]
theorem aoT:((((h.push a).push b).push c).push d).get (h.n+1+1+1)=d:=by
 simp only[BF,dn];rw[gr trivial]
theorem aoU:(((h.push a).push b).push c).set (h.n+1+1) o=((h.push a).push b).push o:=by
 rw[show h.n+1+1=((h.push a).push b).n from rfl,set_push]
theorem aoV:((((h.push a).push b).push c).push d).set (h.n+1+1+1) o=(((h.push a).push b).push c).push o:=by
 rw[show h.n+1+1+1=(((h.push a).push b).push c).n from rfl,set_push]
end
def LX(g:Nat->Option (List V)):I:={ n:=0,get:=λ_=>.dead,glob:=g }
def LY(g:Nat->Option (List V))(w:aPj):Prop:=∀k i,g k=eL i->∃a e j,w.heap[k]?=eL (.cells a e j)/\eV (oY w) i a
theorem aoW{g:Nat->Option (List V)}{w:aPj}(q:LY g w):a8 (oY w) w.heap.size w (LX g) w:=by
 have m:=aa0 w;refine⟨⟨m.heap.mQ,λi j b c B h=>by simp[LX]at h,λ_=>trivial,m.heap.frz,λk s u=>?_,BY _⟩,ia.refl _ _⟩;obtain⟨a,e,C,z,A⟩:=q k s u;exact⟨a,Vs z,A⟩
theorem au.LZ{P:aPf}{bJ:aPn}{args:List V}{v:V}{a:aPi}{g:Nat->Option (List V)}(aw:au P bJ args (LX g) λr _=>r=v)(s:oT v=eL a){w:aPj}(u:LY g w)
  {i:Array aPi} (aW:bj (oY w) args i.toList):Calls P bJ i w λe w'=>e=.returned a/\Below w.heap.size w w' :=
 (aw (oY w) w.heap.size w w i (aoW u) aW).mono λe w' U=>by
  rcases U with⟨ρ',r,D,h',j,z,A,_,B⟩|⟨_,_,_,_,_,_,_,C⟩
  .subst B;rw[Bv z s]at j;exact⟨j,A.below.below⟩
  .exact C.elim
theorem VR{P:aPf}{w:aPj}{name:String}{k:aPh}{zs:List Int}{g:Nat}(z:P.globalNamed name=eL g)(h:Lib.TabIs P w name k zs):∃a e j,w.heap[g]?=eL (.cells a e j)/\eV (oY w) (zs.map (kA k)) a:=by
 unfold Lib.TabIs aPj.var? at h;rw[z]at h;simp only[azm]at h;split at h
 .rename_i C e j A;obtain rfl:=Option.some.inj h;refine⟨_,e,j,A,by simp,λi v D q s=>?_⟩;simp only[aA1,azs,List.getElem?_toArray]at q s;obtain⟨n,B,rfl⟩:=q;obtain⟨m,u,rfl⟩:=s;rw[B]at u;cases u;exact .int k n
 .cases h
section
variable {H:Type} {enc:aPg×aPi->H} {P:aPf} {w:aPj} {base:Nat} {spare:Nat->Bool} {held:Bool} {Q:List V->Prop} {T0:aPg}
theorem aoX{n q:Nat}{i:Array aPB}{a:gO}{t:aPg}{s:gO}{j:Array aPi}{d:aPo H}{u:List aPy}(z:P.underlying T0=eL (.struct i))(A:Dk P (y2 P T0 n) 0 i.toList=eL a)(B:a.width=P.cellsOf T0)(C:∀l,a.fa Q l->Q l)
  (D:y2 P T0 q t=eL s) (E:∀n∈d.weights P t,n<=reachBytes) (h:aPo.Trod enc P w base spare held t (.agg j) d u):∃l:List V,s.fa Q l/\aL (oY w) (.agg l) (.agg j):=by
 obtain⟨m,F⟩:=h;obtain⟨l,G,L⟩:=abl (Q:=Q) z A B C D F E;exact⟨l,G,L.lW.agg⟩
theorem abu{n u:Nat}{m:Array aPB}{j:gO}{t:aPg}{s:gO}{a:Option Addr}{len cap:Nat}{d:aPo H}{z:List aPy}(A:P.underlying T0=eL (.struct m))(B:Dk P (y2 P T0 n) 0 m.toList=eL j)(C:j.width=P.cellsOf T0)(D:∀l,j.fa Q l->Q l)
  (E:y2 P T0 u t=eL (.bh s)) (F:∀n∈d.weights P t,n<=reachBytes) (h:aPo.Trod enc P w base spare held t (.slice a len cap) d z) :
  ∃i:List (List V),(∀x∈i,s.fa Q x)/\aL (oY w) (.ag i.length i.flatten) (.slice a len cap)/\i.length<2^47:=by
 obtain⟨q,G⟩:=h;obtain⟨l,⟨i,rfl,L,M⟩,N⟩:=abl (Q:=Q) A B C D E G F;exact⟨i,M,N.2 0 _ _ rfl rfl,L⟩
end
theorem abv{Q:List V->Prop}{k:aPh}:∀{es:List (List V)},(∀x∈es,gO.fa Q (.int k) x)->∃l:List Int,es=(l.map λn=>[kA k n])/\∀n∈l,(Lit.int k n).wf=e6
 | [],_=>⟨[],rfl,by simp⟩
 | e::es,h=>by
  obtain⟨l,rfl,i⟩:=abv (es:=es) λx j=>h x (by simp[j]);obtain⟨n,rfl,q⟩:=h e (by simp);exact⟨n::l,rfl,λm a=>by
   rcases IN.1 a with rfl|a
   .exact q
   .exact i m a⟩
section
variable {P:aPf} {t:aPg}
def Gz(P:aPf)(t:aPg):Option (Nat×Nat×Bool):=match P.underlying t with
 | some (.array n e)=>match ox P e,cO P e with
  | some r,eL sz=>eL (n,sz,r)
  | _,_=>eN
 | _=>eN
def L0(q:Option (Nat×Nat×Bool))(a:List V)(i:Int):Option V:=match q with
 | some (n,sz,r)=>if 0<=i/\i<n then(if r then eL (.agg ((a.drop (i.toNat*sz)).take sz))else a[i.toNat*sz]?)else eN
 | none=>eN
theorem aoY{q:Nat×Nat×Bool}(h:Gz P t=eL q){m:List V}{kk:aPh}{i:Int}:Gf P t (.agg m) (.int kk i)=L0 (eL q) m i:=by
 unfold Gz at h;cases a:P.underlying t with
 | none=>simp[a]at h
 | some d=>
  cases d<;>simp only[a]at h<;>try (exact absurd h (by simp))
  rename_i n e;unfold Gf Ge L0;simp only[a];cases j:ox P e with
  | none=>simp[j]at h
  | some r=>
   cases s:cO P e with
   | none=>simp[j,s]at h
   | some sz=>
    simp only[j,s,Option.some.injEq]at h;subst h;simp only[];cases r<;>simp
end
section
variable {P:aPf} {t:aPg} {T:mi}
theorem uc{h:I}{e:aPg}{sz:Nat}{v:V}{m:List V}(z:eJ P t=eL 1)(A:Own h e sz v m){n:Nat}(q:m.length=n*sz)(B:0<sz)(C:m.all (·.one)=e6):gS P sz t v h=eL (n,m):=by
 obtain⟨d,s,D⟩:=Er z;cases d<;>simp[yV]at D;rcases A with⟨E,rfl⟩|⟨i,j,cap,c,M,rfl,hi,F,a,u,N⟩
 .have G:n=0:=by
   have:n*sz=0:=by simpa using q.symm
   rcases Nat.mul_eq_zero.1 this with h|h<;>omega
  subst G;rcases E with rfl|rfl<;>simp only[gS,s]
 .have H:j=n:=aAf B (a.symm.trans q);subst H;have L:j*sz<=c.length:=by
   have:=iy azl u;rw[ajB,a]at this;omega
  simp only[gS,s,F,azw,ayB];rw[u,gr ⟨L,C⟩]
end
section
variable {H:Type} {enc:aPg×aPi->H} {P:aPf} {w:aPj} {base:Nat} {spare:Nat->Bool} {held:Bool}
end
section
variable {M:Nat->Prop} {bK:aPk->V} {t s:aPg} {x y z:aPk} {k:Nat}
theorem aoZ{h:I}{i:Nat}{o:aP}:J h (h.set i o) (λx=>x=i)=True:=eq_true (J.set h i o)
theorem VS{n:Nat}:(n+1+1=n)=False:=eq_false (by omega)
theorem VT{n:Nat}:(n+1+1+1=n)=False:=eq_false (by omega)
theorem VU{n:Nat}:(n+1+1+1+1=n)=False:=eq_false (by omega)
theorem ao0{n:Nat}:(n=n+1)=False:=eq_false (by omega)
theorem ao1{n:Nat}:(n=n+1+1)=False:=eq_false (by omega)
theorem ao2{n:Nat}:(n=n+1+1+1)=False:=eq_false (by omega)
def ud(M:Nat->Prop)(v:V):Prop:=nE M (kD v)
theorem ao3:nE M (rf bK (.move x))=True:=eq_true (by intro i hi;cases hi)
theorem ao4:nE M (rf bK (.assign x))=True:=eq_true (by intro i hi;cases hi)
theorem ao5:nE M (rf bK (.pick x y z))=True:=eq_true (by intro i hi;cases hi)
theorem ao6{ps:Array (Nat×aPk)}:nE M (rf bK (.build t ps))=True:=eq_true (by intro i hi;cases hi)
theorem ao7:nE M (rf bK (.nilCheck x))=True:=eq_true (by intro i hi;cases hi)
theorem ao8{op:BinOp}:nE M (rf bK (.binOp op t x y s))=True:=eq_true (by intro i hi;cases hi)
theorem ao9{op:UnOp}:nE M (rf bK (.unOp op t x))=True:=eq_true (by intro i hi;cases hi)
theorem apa:nE M (rf bK (.fieldAddr t x k))=True:=eq_true (by intro i hi;cases hi)
theorem apb:nE M (rf bK (.indexAddr t x y))=True:=eq_true (by intro i hi;cases hi)
theorem apc:nE M (rf bK (.extract x k))=True:=eq_true (by intro i hi;cases hi)
theorem apd:nE M (rf bK (.load t x))=ud M (bK x):=rfl
theorem ape:nE M (rf bK (.convert s t x))=ud M (bK x):=rfl
theorem apf{i o:Nat}:ud M (.ptr i o)=¬M i:=propext ⟨λh=>h i rfl,λh j a=>by cases a;exact h⟩
theorem apg{i:Nat}:ud M (.map i)=¬M i:=propext ⟨λh=>h i rfl,λh j a=>by cases a;exact h⟩
theorem aph{a:List V}:ud M (.at a)=True:=eq_true (by intro i hi;cases hi)
theorem api{k:aPh}{n:Int}:ud M (.int k n)=True:=eq_true (by intro i hi;cases hi)
end
section
variable {P:aPf} {d:Option Tmp} {K:fS} {f:aj} {h:I}
end
section
variable {P:aPf} {t:aPg} {T:mi}
def sF(h:I)(e:aPg)(sz:Nat)(i len cap:Nat)(c:List V)(j:Option Nat)(a:List V):Prop :=
 i<h.n/\h.get i=.cells c e j/\a.length=len*sz/\c.take (len*sz)=a/\cap<b9/\cap*sz<=c.length/\len<=cap
theorem sF.own{h:I}{e:aPg}{sz i len cap:Nat}{c cs:List V}{j:Option Nat}(o:sF h e sz i len cap c j cs):Own h e sz (.bh i 0 len cap) cs :=
 .inr ⟨i,len,cap,c,j,rfl,o.1,o.2.1,o.2.2.1,o.2.2.2.1,.inl ⟨o.2.2.2.2.1,o.2.2.2.2.2.1,o.2.2.2.2.2.2⟩⟩
theorem apj{h:I}{i len sz:Nat}{c:List V}{e:aPg}(u:h.get i=.cells c e (eL sz)){ρ:Ren}{B:Nat}{z w:aPj}(R:a8 ρ B z h w){A:aPi}(H:aL ρ (.bh i 0 len b9) A) :
  ∃C,len<=C/\C<2^63/\c.length<=C*sz/\a8 ρ B z (h.set i (.cells (c++azj (C*sz-c.length) .top) e eN)) w/\aL ρ (.bh i 0 len C) A:=by
 obtain⟨b,a,hi,s,rfl⟩:=H.hB;have D:=R.heap.obj i;rw[u]at D;obtain⟨Z,tF,j,E,L,M,N,aw,O,bq,Q⟩:=D;rw[hi]at E;cases E;have S:gH a b9=a:=by simp[gH,b9]
 rw[S]at s⊢;have W:c.length<=a*sz:=by omega
 refine⟨a,s,Q,W,R.su hi (by rw[u];simp) (λk _=>rfl) (BY _) (ia.refl _ _) ?_,?_⟩
 .have m:(c++azj (a*sz-c.length) V.top).length=j.size:=by simp;omega
  refine⟨b,a,j,hi,L,M,N,by omega,?_,by rw[m];rfl⟩;rw[m,show j.toList.take j.size=j.toList from by rw[ajE (by simp)]];refine⟨by rw[m];simp,λk v X q Y=>?_⟩;by_cases F:k<c.length
  .rw[azW F]at q;exact O.2 k v X q (by rw[ay7,gr F];exact Y)
  .rw[azX (by omega)]at q;have:=azc q;rw[List.mem_replicate]at this;rw[this.2];exact .top _
 .have G:gH a a=a:=by unfold gH;rw[gr (show a<b9 by unfold b9;omega)]
  have:=aL.bh (ρ:=ρ) hi 0 len a (by rw[G];exact s);rw[G]at this;exact this
theorem au.Dm{P:aPf}{bJ:aPn}{h:I}{e:aPg}{sz:Nat}{v:V}{u rest:List V}{R:V->I->Prop}(H:Own h e sz v u)(bq:0<sz)
  (L:(v=.ah\/v=.z0)->u=[]->au P bJ (v::rest) h R)
  (D:∀i len cap c z h',(v=.bh i 0 len cap\/v=.bh i 0 len b9)->sF h' e sz i len cap c z u->cap<2^63\/v=.bh i 0 len cap->J h h' (·=i)->h'.n=h.n->au P bJ (.bh i 0 len cap::rest) h' R):au P bJ (v::rest) h R:=by
 rcases H with⟨M,N⟩|⟨i,len,cap,c,z,rfl,hi,E,j,A,⟨O,Q,S⟩|⟨rfl,rfl⟩⟩
 .exact L M N
 .exact D i len cap c z h (.inl rfl) ⟨hi,E,j,A,O,Q,S⟩ (.inr rfl) (J.refl _ _) rfl
 .intro ρ B W w s X aW;cases s with
  | mk l=>
  cases l with
  | nil=>have:=aW.1;simp at this
  | cons a l=>
  have Y:aL ρ (.bh i 0 len b9) a:=aW.2 0 _ _ rfl rfl;obtain⟨C,Z,k2,k3,UX,ea⟩:=apj E X Y;have c9:len*sz<=c.length:=by
   have:=iy azl A;rw[ajB,j]at this;omega
  refine D i len C _ eN _ (.inr rfl) ⟨by rw[jM];exact hi,aM,j,?_,by unfold b9;omega,?_,Z⟩ (.inl k2) (J.set _ _ _) (jM) ρ B W w _ UX ?_
  .rw[List.take_append_of_le_length c9,A]
  .simp;omega
  .refine⟨by have:=aW.1;simpa using this,λk v v' F G=>?_⟩;cases k with
   | zero=>cases F;cases G;exact ea
   | succ k=>exact aW.2 (k+1) v v' (by simpa using F) (by simpa using G)
theorem VV{sz:Nat}{kk:aPh}(E:dU P t=eL sz)(F:0<sz){h:I}{e:aPg}{v:V}{s:List V}(z:Own h e sz v s){k:Nat}(q:(k+1)*sz<=s.length) :
  ∃i,hC P t v (.int kk (k:Int))=eL (.ptr i (k*sz))/\aS v=eL i/\i<h.n/\(∀(h':I) (d:Nat),h'.get i=h.get i->d<=sz->∃r,cI (h'.get i) (k*sz+d)=eL (((s.drop (k*sz)).take sz).drop d++r)) /\
   ∀xs:List V,xs.length=sz->xs.all (·.one)=e6->∃ob,bD (eL sz) (h.get i) (k*sz) xs=eL ob/\Own (h.set i ob) e sz v (lay s (k*sz) xs)/\J h (h.set i ob) (bb v):=by
 rcases z with⟨_,rfl⟩|⟨i,m,cap,c,B,rfl,hi,C,j,A,G⟩
 .have:sz<=(k+1)*sz:=Nat.le_mul_of_pos_left _ (by omega);simp at q;omega
 .have H:m*sz<=c.length:=by
   have:=iy azl A;rw[ajB,j]at this;omega
  have L:k<m:=by
   rw[j]at q;have:=Nat.le_of_mul_le_mul_right q F;omega
  have D:k*sz+sz=(k+1)*sz:=by rw[ayC];omega
  refine⟨i,?_,rfl,hi,λh' d U M=>⟨c.drop (k*sz+sz),?_⟩,λxs u z=>⟨.cells (lay c (k*sz) xs) e B,?_,.inr ⟨i,m,cap,lay c (k*sz) xs,B,rfl,by rw[jM];exact hi,aM,?_,?_,?_⟩,(J.set h i _).mono λk q=>by subst q;rfl⟩⟩
  .rw[Es,E,Vi,gr ⟨by omega,by omega⟩];simp
  .rw[U,C,i9,gr (by omega),<-A]
   congr 1
   have az:((c.take (m*sz)).drop (k*sz)).take sz=(c.drop (k*sz)).take sz:=by
    rw[aAJ,azz,azb];have:(k+1)*sz<=m*sz:=Nat.mul_le_mul_right _ L;omega
   have bd:=List.take_append_drop (sz-d) (c.drop (k*sz+d));rw[aAu,show k*sz+d+(sz-d)=k*sz+sz by omega]at bd;rw[az,aAJ,aAu];exact bd.symm
  .rw[C];unfold bD;simp only;rw[gr ⟨u,z,by omega⟩]
  .rw[q9 _ _ _ (by rw[u,j];omega),j]
  .rw[Ql _ _ _ _ (by rw[u];omega) H,A]
  .rcases G with⟨a,b,d⟩|⟨a,b⟩
   .exact .inl ⟨a,by rw[q9 _ _ _ (by rw[u];omega)];exact b,d⟩
   .exact .inr ⟨a,b⟩
theorem wt{k:aPh}{n:Nat}:xG (.int k (n:Int))=eL n:=by simp[xG]
theorem abw(a:gM P t=eL T){i o len cap:Nat}(aw:cap<b9):vC P t (.bh i o len cap)=eL (.int gj cap):=by
 unfold vC;rw[(tr a).2.2.2.2.2];simp only;rw[gr aw]
theorem abx{tn:aPg}{kn kq:aPh}(m:gM P t=eL T)(j:mE P tn=eL kn)(q:0<T.sz){h:I}{i o len cap n:Nat}{c:List V}{bd:aPg}{s:Option Nat}(u:h.get i=.cells c bd s)
  (M:0<n) (z:cap<b9) (aw:cap<len+n) (A:(len+n)*T.av<=lim) (B:len+n<=lim) (C:o+len*T.sz<=c.length) :
  kd P t tn (.bh i o len cap) (.int kq (n:Int)) h=eL (.bh h.n 0 (len+n) b9,h.push (.cells ((c.drop o).take (len*T.sz)++made T.zs n) T.e (eL T.sz))):=by
 obtain⟨D,E,bq,F,G,_⟩:=tr m;have a:∃k,P.underlying tn=eL (.int k):=by
  unfold mE at j;split at j
  .rename_i k H;exact⟨k,H⟩
  .cases j
 obtain⟨k,a⟩:=a;have L:gS P T.sz tn (.int kq (n:Int)) h=none:=by unfold gS;rw[a]
 unfold kd;simp only[D,E,bq,F,gr G,L];unfold UU;simp only[a,u];rw[gr ⟨by omega,z,by simpa using aw,by simpa using A,by simpa using B,C,q⟩];simp
section
variable {sz:Nat} {i o len cap:Nat} {k k2 k3:aPh}
theorem BK(a:dU P t=eL sz)(j:cap<b9){l:Nat}(m:l<=len)(aw:len<=cap) :
  kX P t (.bh i o len cap) (eL (.int k (l:Int))) eN eN=eL (.bh i (if cap=l then o else o+l*sz) (len-l) (cap-l)):=by
 obtain⟨e,q,s⟩:=BH a;unfold kX;simp only[q,s,QL,fk,aAR,azf,false_and,iC];unfold yT;rw[gr j,gr ⟨m,aw,BY _⟩]
theorem J1(a:dU P t=eL sz)(j:cap<b9){m:Nat}(q:m<=cap) :
  kX P t (.bh i o len cap) eN (eL (.int k (m:Int))) eN=eL (.bh i o m cap):=by
 obtain⟨e,s,u⟩:=BH a;unfold kX;simp only[s,u,mB,fk,wt,aAR,azf,false_and,iC];unfold yT;rw[gr j,gr ⟨D8 _,q,BY _⟩];simp
theorem aby(a:dU P t=eL sz)(j:cap<b9){l m:Nat}(q:l<=m)(s:m<=cap) :
  kX P t (.bh i o len cap) (eL (.int k (l:Int))) (eL (.int k2 (m:Int))) eN=eL (.bh i (if cap=l then o else o+l*sz) (m-l) (cap-l)):=by
 obtain⟨e,u,z⟩:=BH a;unfold kX;simp only[u,z,QL,fk,wt,aAR,azf,false_and,iC];unfold yT;rw[gr j,gr ⟨q,s,BY _⟩]
theorem abz(a:dU P t=eL sz)(j:cap<b9){l m n:Nat}(q:l<=m)(s:m<=n)(u:n<=cap) :
  ∃v,kX P t (.bh i o len cap) (eL (.int k (l:Int))) (eL (.int k2 (m:Int))) (eL (.int k3 (n:Int)))=eL v:=by
 obtain⟨e,z,A⟩:=BH a;refine⟨.bh i (if n=l then o else o+l*sz) (m-l) (n-l),?_⟩;unfold kX;simp only[z,A,QL,anX,Option.isSome_some,Option.isNone_some,azf,and_false,false_or];rw[gQ (by omega),gQ (by omega)];unfold yT;rw[gr j,gr ⟨q,s,u⟩]
theorem pu(j:dU P t=eL sz){a:Nat}{l:Nat}(m:l<len) :
  kX P t (.bh i o len (b9+a)) (eL (.int k (l:Int))) eN eN=eL (.bh i (o+l*sz) (len-l) (b9+a+l)):=by
 obtain⟨e,q,s⟩:=BH j;unfold kX;simp only[q,s,QL,fk,aAR,azf,false_and,iC];unfold yT;rw[gQ (by omega),gr ⟨rfl,by omega,BY _⟩,gr (.inr m)]
end
theorem EG(u:gM P t=eL T){tx:aPg}{h:I}{i o dl dc j p n d:Nat}{c a:List V}{bd z:aPg}{s q:Option Nat}(A:h.get i=.cells c bd s)(B:h.get j=.cells a z q)
  {m:Nat} (C:Nat.min n dl=m) (L:0<m) (D:p+m*T.sz<=a.length) (E:o+m*T.sz<=c.length) (F:((a.drop p).take (m*T.sz)).all (·.one)=e6) :
  xH P t (.bh i o dl dc) (.bh j p n d) h=eL (.int gj m,h.set i (.cells (lay c o ((a.drop p).take (m*T.sz))) bd s)):=by
 obtain⟨G,M,bq,N,O,_⟩:=tr u;have H:((a.drop p).take (m*T.sz)).length=m*T.sz:=by rw[ajB,azk];omega
 unfold xH;simp only[G,bq,zC,C];simp only[vy,B,gr D];rw[gQ (by omega),A];simp only;rw[gr ⟨by rw[H];exact E,F⟩]
end
structure iL(P:aPf)(cU:aPg)(d:TypeDesc){κ:Type}[DecidableEq κ](ke:κ->V):Prop where
 eq:∀a b,wE P cU d (ke a) (ke b)=eL (decide (a=b))
 ok:∀b a,yW P b cU (ke a)=e6
 bits:∀a,∃v,pd (ke a)=eL v/\Instr.sameBits 10000 v v=e6
section
variable {P:aPf} {t cU jm:aPg} {d:TypeDesc} {κ:Type} [DecidableEq κ] {ke:κ->V} {α:Type} {enc:α->V}
def dH(ke:κ->V)(enc:α->V)(l:List (Nat×κ×α)):List (Nat×V×V):=l.map λe=>(e.1,ke e.2.1,enc e.2.2)
def bR(l:List (Nat×κ×α))(k:κ):Option α :=
 match l with
 | []=>eN
 | e::r=>if k=e.2.1 then eL e.2.2 else bR r k
def cC(i:Nat)(l:List (Nat×κ×α))(k:κ)(a:α):List (Nat×κ×α) :=
 match l with
 | []=>[(i,k,a)]
 | e::r=>if k=e.2.1 then(e.1,k,a)::r else e::cC i r k a
def fb(a:Nat)(l:List (Nat×κ×α))(k:κ):Nat:=if(bR l k).isSome then a else a+1
def gT(l:List (Nat×κ×α))(k:κ):List (Nat×κ×α) :=
 match l with
 | []=>[]
 | e::r=>if k=e.2.1 then r else e::gT r k
theorem QY(H:iL P cU d ke)(k:κ):∀(l:List (Nat×κ×α)),
  (bR l k=eN/\qC P cU d (ke k) (dH ke enc l)=eL eN/\(∀m a,cC m l k a=l++[(m,k,a)])/\gT l k=l) \/
  (∃j e,qC P cU d (ke k) (dH ke enc l)=eL (eL j)/\l[j]?=eL e/\e.2.1=k/\bR l k=eL e.2.2 /\
   (∀m a,dH ke enc (cC m l k a)=(dH ke enc l).modify j λe=>(e.1,ke k,enc a))/\dH ke enc (gT l k)=(dH ke enc l).eraseIdx j)
 | []=>.inl ⟨rfl,rfl,λ_ _=>rfl,rfl⟩
 | e::l=>by
  have s:qC P cU d (ke k) (dH ke enc (e::l))=if k=e.2.1 then eL (eL 0)else(qC P cU d (ke k) (dH ke enc l)).map λ(q:Option Nat)=>q.map (·+1):=by
   show(match wE P cU d (ke k) (ke e.2.1)with|some e6=>eL (eL 0)|some fr=>(qC P cU d (ke k) (dH ke enc l)).map λ(q:Option Nat)=>q.map (·+1)|none=>eN)=_;rw[H.eq];by_cases i:k=e.2.1
   .simp[i]
   .simp[i]
  by_cases i:k=e.2.1
  .refine .inr ⟨0,e,by rw[s,gr i],rfl,i.symm,by rw[bR,gr i],λm a=>by rw[cC,gr i];rfl,by rw[gT,gr i];rfl⟩
  .rcases QY H k l with⟨u,z,A,B⟩|⟨j,C,u,z,A,B,D,E⟩
   .refine .inl ⟨by rw[bR,gQ i,u],by rw[s,gQ i,z];rfl,λm a=>by rw[cC,gQ i,A];rfl,by rw[gT,gQ i,B]⟩
   .refine .inr ⟨j+1,C,by rw[s,gQ i,u];rfl,by simpa using z,A,by rw[bR,gQ i,B],λm a=>?_,?_⟩
    .rw[cC,gQ i];show(e.1,ke e.2.1,enc e.2.2)::dH ke enc (cC m l k a)=_;rw[D];rfl
    .rw[gT,gQ i];show(e.1,ke e.2.1,enc e.2.2)::dH ke enc (gT l k)=_;rw[E];rfl
theorem L1(H:iL P cU d ke){z:aPi}{h:I}{i:Nat}{l:List (Nat×κ×α)}{s:Nat}{k:κ}{ok:Bool}(u:eQ P t=eL (cU,jm,d))(A:nh P jm=eL z)(B:h.get i=.map (dH ke enc l) s) :
  ni P t (.map i) (ke k) ok h=eL (match bR l k with|some a=>(if ok then .tuple [enc a,.bool e6]else enc a)|none=>(if ok then .tuple [fY z,.bool fr]else fY z)):=by
 unfold ni;simp only[u,A,B,H.ok,jS];rcases QY (enc:=enc) H k l with⟨m,q,_⟩|⟨j,e,m,q,D,C,_⟩
 .rw[q,m]
 .have:(dH ke enc l)[j]?=eL (e.1,ke e.2.1,enc e.2.2):=by simp[dH,q]
  rw[m,C];simp only[this];rfl
theorem L2(H:iL P cU d ke){h:I}{i:Nat}{l:List (Nat×κ×α)}{m:Nat}{k:κ}{a:α}{v:V}(A:eQ P t=eL (cU,jm,d))(B:h.get i=.map (dH ke enc l) m)(q:v=enc a) :
  vB P t (.map i) (ke k) v h=eL (h.set i (.map (dH ke enc (cC m l k a)) (fb m l k))):=by
 subst q;unfold vB fb;simp only[A,B,H.ok,jS];rcases QY (enc:=enc) H k l with⟨s,u,z,_⟩|⟨j,e,s,u,z,C,D,_⟩
 .rw[u,s,z];simp[dH]
 .have:(dH ke enc l)[j]?=eL (e.1,ke e.2.1,enc e.2.2):=by simp[dH,u]
  obtain⟨v,q,E⟩:=H.bits k;rw[s,C];simp only[this,azm,z,q,E,jS,D];rfl
theorem apk(H:iL P cU d ke){h:I}{i:Nat}{l:List (Nat×κ×α)}{a:Nat}{k:κ}(z:eQ P t=eL (cU,jm,d))(m:h.get i=.map (dH ke enc l) a) :
  C8 P t (.map i) (ke k) h=eL (h.set i (.map (dH ke enc (gT l k)) a)):=by
 unfold C8;simp only[z,m,H.ok,jS];rcases QY (enc:=enc) H k l with⟨q,s,_,u⟩|⟨j,e,q,s,B,u,_,A⟩
 .rw[s,u];simp only;rw[QH m]
 .rw[q,A]
theorem VW:∀{l:List (Nat×κ×α)} {k:κ},(bR l k).isSome=e6->∀(j:Nat) (a:α),(cC j l k a).map (λe=>(e.1,e.2.1))=l.map (λe=>(e.1,e.2.1))
 | [],k,h,j,a=>by simp[bR]at h
 | e::l,k,h,j,a=>by
  unfold cC;by_cases i:k=e.2.1
  .rw[gr i];simp[i]
  .rw[bR,gQ i]at h;rw[gQ i,ajF,ajF,VW h]
theorem VX:∀{l:List (Nat×κ×α)} {k:κ},bR l k=eN->∀(i:Nat) (a:α),cC i l k a=l++[(i,k,a)]
 | [],k,h,i,a=>rfl
 | e::l,k,h,i,a=>by
  unfold cC;by_cases j:k=e.2.1
  .rw[bR,gr j]at h;cases h
  .rw[bR,gQ j]at h;rw[gQ j,VX h];rfl
theorem VY:∀{l:List (Nat×κ×α)} {k:κ},bR l k=eN↔∀e∈l,e.2.1≠k
 | [],k=>by simp[bR]
 | e::l,k=>by
  unfold bR;by_cases a:k=e.2.1
  .simp[a]
  .rw[gQ a,VY];simp[Ne.symm a]
theorem y5:∀(l:List (Nat×κ×α)) (m:Nat) (k:κ) (a:α) (x:κ),bR (cC m l k a) x=if x=k then eL a else bR l x
 | [],m,k,a,x=>by simp[cC,bR]
 | e::l,m,k,a,x=>by
  unfold cC;by_cases j:k=e.2.1
  .rw[gr j];unfold bR;by_cases i:x=k
   .simp[i]
   .have:x≠e.2.1:=j▸i;simp[i,this]
  .rw[gQ j];unfold bR;by_cases i:x=e.2.1
   .have:x≠k:=λU=>j (U▸i);simp[i,Ne.symm j]
   .rw[gQ i,y5 l m k a x,gQ i]
def de(l:List (Nat×κ×α)):Prop:=(l.map (·.2.1)).Nodup
omit [DecidableEq κ] in
theorem de.nil:de ([]:List (Nat×κ×α)):=List.nodup_nil
theorem de.set{l:List (Nat×κ×α)}(j:de l)(cl:Nat)(k:κ)(a:α):de (cC cl l k a):=by
 unfold de at *;cases i:bR l k with
 | some b=>
  have h:=VW (l:=l) (k:=k) (by rw[i];rfl) cl a;have s:=iy (aA3 Prod.snd) h;rw[azn,azn]at s;have z:(cC cl l k a).map (·.2.1)=l.map (·.2.1):=s;rw[z];exact j
 | none=>
  rw[VX i,ay1,aAw];refine⟨j,by simp,λx A y u=>?_⟩;obtain⟨e,B,rfl⟩:=OF.1 A;simp at u;subst u;exact VY.1 i e B
theorem QZ:∀(l:List (Nat×κ×α)) (k:κ),(gT l k).Sublist l
 | [],k=>List.Sublist.refl _
 | e::l,k=>by
  unfold gT;split
  .exact List.sublist_cons_self _ _
  .exact(QZ l k).cons_cons _
theorem de.del{l:List (Nat×κ×α)}(i:de l)(k:κ):de (gT l k):=aAy.sublist ((QZ l k).map _) i
theorem VZ:∀{l:List (Nat×κ×α)},de l->∀(k x:κ),bR (gT l k) x=if x=k then eN else bR l x
 | [],_,k,x=>by simp[gT,bR]
 | e::l,m,k,x=>by
  have j:=azD.1 m;unfold gT;by_cases i:k=e.2.1
  .rw[gr i];by_cases a:x=k
   .rw[gr a,VY];intro y q U;exact j.1 (OF.2 ⟨y,q,by rw[U,a,i]⟩)
   .rw[gQ a,bR,gQ λU=>a (U.trans i.symm)]
  .rw[gQ i];unfold bR;by_cases a:x=e.2.1
   .rw[gr a,gr a,gQ λU=>i (U.symm.trans a)]
   .rw[gQ a,gQ a,VZ j.2 k x]
theorem apl{l:List (Nat×κ×α)}{i:Nat}{k:κ}{a:α}(j:aA3 (aAk∘λe=>(e.1,e.2.1)) (cC i l k a)=aA3 (aAk∘λe=>(e.1,e.2.1)) l):(dH ke enc (cC i l k a)).map (·.1)=(dH ke enc l).map (·.1):=by
 unfold dH;rw[azn,azn];exact j
theorem dE.cC{l:List (Nat×κ×α)}{cl:Nat}(j:dE (dH ke enc l) cl)(k:κ)(a:α):dE (dH ke enc (cC cl l k a)) (fb cl l k):=by
 cases i:bR l k with
 | none=>
  have:fb cl l k=cl+1:=by unfold fb;rw[i];rfl
  rw[this,VX i];have:=j.snoc (ke k) (enc a);simpa [dH]using this
 | some b=>
  have:fb cl l k=cl:=by unfold fb;rw[i];rfl
  rw[this];have h:=VW (l:=l) (k:=k) (by rw[i];rfl) cl a;have s:=iy (aA3 aAk) h;rw[azn,azn]at s;have u:=apl (ke:=ke) (enc:=enc) s;refine⟨λe z=>?_,by rw[u];exact j.2⟩;have:e.1∈(dH ke enc l).map (·.1):=by rw[<-u];exact OF.2 ⟨e,z,rfl⟩
  obtain⟨A,B,C⟩:=OF.1 this;rw[<-C];exact j.1 A B
theorem dE.gT{l:List (Nat×κ×α)}{cl:Nat}(i:dE (dH ke enc l) cl)(k:κ):dE (dH ke enc (gT l k)) cl:=by
 have h:=(QZ l k).map λe:Nat×κ×α=>(e.1,ke e.2.1,enc e.2.2);exact⟨λe j=>i.1 e (h.subset j),aAy.sublist (h.map _) i.2⟩
theorem rj:∀{l:List (Nat×κ×α)},de l->∀{e:Nat×κ×α},e∈l->bR l e.2.1=eL e.2.2
 | [],_,e,a=>by cases a
 | x::l,m,e,a=>by
  have i:=azD.1 m;unfold bR;rcases IN.1 a with rfl|j
  .rw[gr rfl]
  .rw[gQ λU=>i.1 (OF.2 ⟨e,j,U⟩)];exact rj i.2 j
end
open Go Go.Sort Go.Proofs
theorem ia.grow{W w':aPj}(h:ia W.heap.size W w'):∃q i,w'=Sort.grow (W.drewN q) i:=by
 refine⟨w'.drawn-W.drawn,w'.heap.extract W.heap.size w'.heap.size,?_⟩;obtain⟨j,u,z,bq,an,A⟩:=h;have e:w'.heap=W.heap++w'.heap.extract W.heap.size w'.heap.size:=by
  apply Array.ext_getElem?;intro k;rw[aC5];by_cases s:k<W.heap.size
  .rw[gr s];exact an k s
  .rw[gQ s,Array.getElem?_extract];by_cases B:k<w'.heap.size
   .rw[gr (by omega),show W.heap.size+(k-W.heap.size)=k by omega]
   .rw[gQ (by omega),Array.getElem?_eq_none (by omega)]
 have bd:W.drawn+(w'.drawn-W.drawn)=w'.drawn:=by omega
 cases w';cases W;simp only[Sort.grow,aPj.drewN]at *;subst j u z;rw[<-e,bd]
section
variable {ρ:Ren} {B:Nat} {aZ:aPj} {h:I} {w:aPj}
theorem a8.J2(R:a8 ρ B aZ h w){i b G:Nat}{c s:List V}{e:aPg}{H:Option Nat}(L:h.get i=.cells c e H)(hi:ρ.ren i=eL (b,G)){d:Array aPi}(M:bj ρ s d.toList)(aF:s.length<=c.length) :
  a8 ρ B aZ (h.set i (.cells (s++c.drop s.length) e H)) (Sort.putRow id w b 0 d):=by
 have N:=R.heap.obj i;rw[L]at N;obtain⟨da,tF,arr,O,S,T,Q,z,W,X⟩:=N;rw[hi]at O;cases O;have aC:=(ay8.1 Q).1;have yw:d.size=s.length:=by have:=M.1;simp at this;omega
 have E:∀j,(Sort.putRow id w b 0 d).heap[j]?=if b=j then(w.heap[j]?).map (Sort.onCells (Sort.putCells id 0 d))else w.heap[j]?:=λj=>by
  show(w.heap.modify b _)[j]?=_;rw[azA]
 refine R.su hi (by rw[L];simp) (λj A=>by rw[E,gQ (Ne.symm A)]) (by rw[Sort.size_putRow];exact BY _) ⟨rfl,rfl,rfl,by rw[Sort.size_putRow];exact BY _,λj A=>by rw[E,gQ (by omega)],BY _⟩ ?_;have F:(s++c.drop s.length).length=c.length:=by simp;omega
 refine⟨b,G,Sort.putCells id 0 d arr,hi,S,T,by rw[E,gr rfl,Q];rfl,by rw[F];simpa [Sort.putCells]using z,?_,by rw[F];simpa [Sort.putCells]using X⟩;rw[F];refine⟨by simp[Sort.putCells];omega,λj v v' C u=>?_⟩;rw[ay7]at u;split at u
 case isFalse=>cases u
 rename_i A;rw[azq]at u;unfold Sort.putCells at u;rw[Array.getElem?_mapIdx,azs]at u;obtain⟨x,Y,D⟩:=u;by_cases Z:j<s.length
 .rw[gr ⟨D8 _,by omega⟩]at D;subst D;rw[azW Z]at C;refine M.2 j v _ C ?_;rw[azq,Nat.sub_zero,ayZ (by omega),getElem!_pos d j (by omega)];rfl
 .rw[gQ (by omega)]at D;subst D;rw[azX (by omega),List.getElem?_drop,show s.length+(j-s.length)=j by omega]at C;refine W.2 j v x C ?_;rw[ay7,gr A,azq];exact Y
theorem a8.L3(R:a8 ρ B aZ h w){i b D:Nat}{c vs:List V}{e:aPg}{E:Option Nat}(F:h.get i=.cells c e E)(hi:ρ.ren i=eL (b,D))(aw:c.take vs.length=vs) :
  ∃d:Array aPi,bj ρ vs d.toList/\Sort.Holds id w b 0 d/\b<w.heap.size:=by
 have u:=R.heap.obj i;rw[F]at u;obtain⟨M,N,arr,z,O,Q,A,C,G,S⟩:=u;rw[hi]at z;cases z;have H:vs.length<=c.length:=by
  have:=iy azl aw;rw[ajB]at this;omega
 refine⟨(arr.toList.take vs.length).toArray,?_,λj L=>?_,(ay8.1 A).1⟩
 .have:=G.take vs.length;rw[aw,azz,azb H]at this;simpa using this
 .simp only[List.size_toArray,ajB,azP]at L;have s:j<arr.size:=by omega
  rw[getElem!_pos _ j (by simp;omega)];simp[aPj.cell?,aPj.frozen?,A,ayZ s]
theorem a8.J3(R:a8 ρ B aZ h w){i b C:Nat}(D:h.get i≠.dead)(hi:ρ.ren i=eL (b,C)){α:Type}[Inhabited α](enc:α->List aPi)(k m:Nat)(u:Array α)(os:Array Obj) :
  ∀j a,ρ.frz j=eL a->(oY (sortWorldK enc k w b 0 m u os)).frz j=eL a:=by
 intro j a s;obtain⟨e,L,z⟩:=R.heap.frz j a s;obtain⟨M,N,A,O,_,E,_⟩:=R.heap.live D;rw[hi]at A;cases A;have F:b≠j:=λU=>by subst U;rw[E]at s;cases s
 have G:=(ay8.1 z).1;have H:(sortWorldK enc k w b 0 m u os).heap[j]?=w.heap[j]?:=by
  show((w.heap.modify b _)++os)[j]?=_;rw[aC5,gr (by simpa using G),azA,gQ F]
 exact Vs (H.trans z)
end
theorem au.L4{P:aPf}{bJ:aPn}{args:List V}{v:V}{a:aPi}(aw:au P bJ args y0 λr _=>r=v)(j:oT v=eL a){w:aPj}
  {args':Array aPi} (aW:bj (oY w) args args'.toList):Calls P bJ args' w λe w'=>e=.returned a/\ia w.heap.size w w' :=
 (aw (oY w) w.heap.size w w args' (aa0 w) aW).mono λe w' U=>by
  rcases U with⟨ρ',r,B,h',i,s,u,_,z⟩|⟨_,_,_,_,_,_,_,A⟩
  .subst z;rw[Bv s j]at i;exact⟨i,u.below⟩
  .exact A.elim
theorem apm{P:aPf}{g:aPn}{β:Type}{E:β->List V}{u:β->β->Int}(G:∀a b,au P g [.agg (E a),.agg (E b)] y0 λr _=>r=.int gj (u a b))(H:∀x,bc (E x))
  {ρ:Ren} {B:Nat} {L:aPj} {h:I} {w:aPj} (R:a8 ρ B L h w) {i b M:Nat} (N:h.get i≠.dead) (O:ρ.ren i=eL (b,M))
  {α:Type} [Inhabited α] (q:α->β) (enc:α->List aPi) (C:∀x,bj ρ (E (q x)) (enc x)) (size k:Nat):CmpLays P g #[] enc k (λx y=>u (q x) (q y)) b 0 size w:=by
 intro m os z T x y;have Q:=R.J3 N O enc k m z os;have s:∀x,aL (oY (sortWorldK enc k w b 0 m z os)) (.agg (E (q x))) (.agg (enc x).toArray):=λx=>.agg (by simpa using(C x).1) λj v D F S=>by
  refine H (q x) v (azc F) ρ _ D ((C x).2 j v D F ?_) Q;simpa using S
 have aw:=(G (q x) (q y)).L4 (a:=.int gj (u (q x) (q y))) rfl (w:=sortWorldK enc k w b 0 m z os) (args':=#[.agg (enc x).toArray,.agg (enc y).toArray]) (bj.cons (s x) (bj.cons (s y) (bj.nil _)));rw[Array.append_empty];exact aw.mono λe w' U=>⟨U.1,U.2.grow⟩
theorem abF{α:Type}[Inhabited α](enc:α->List aPi)(k:Nat)(m:∀x,(enc x).length=k)(d:Array α):(flatK enc k d).toList=d.toList.flatMap enc:=by
 have i:∀l:List α,(l.flatMap enc).length=l.length*k:=λl=>by
  induction l with
  | nil=>simp
  | cons x l ih=>rw[ayW,D9,m,ih,axF,ayC];omega
 have s:∀(l:List α) (t:Nat),t<l.length*k->(l.flatMap enc)[t]! = (enc l[t / k]!)[t % k]!:=λl=>by
  induction l with
  | nil=>intro t a;simp at a
  | cons x l ih=>
   intro t a;have z:0<k:=by
    rcases aD5 k with q|q
    .subst q;simp at a
    .exact q
   rw[ayW];by_cases j:t<k
   .rw[Nat.div_eq_of_lt j,Nat.mod_eq_of_lt j];simp[aC9,azW (show t<(enc x).length by rw[m];exact j)]
   .obtain⟨u,rfl⟩:∃u,t=u+k:=⟨t-k,by omega⟩;rw[axF,ayC,aAv]at a;have:=ih u (by omega);rw[Nat.add_div_right _ z,Nat.add_mod_right];simp only[aC9,aBp]at this⊢;rw[azX (by rw[m];omega),m,Nat.add_sub_cancel];exact this
 apply aBm
 .rw[i];simp
 .intro t j A;have a:t<d.size*k:=by simpa using j
  have az:=get_flatK enc k d t a;have bd:=s d.toList t (by simpa using a);rw[getElem!_pos _ t (by simpa using a)]at az;rw[getElem!_pos _ t A]at bd;rw[Array.getElem_toList,az,bd]
  congr 2
  simp[Array.getElem!_eq_getD,aC9,aBs]
theorem V0{P:aPf}{f:aPn}{g:aPn}{e:aPg}{k:Nat}{β:Type}{E:β->List V}{C:β->β->Int}(yx:0<k)
  (F:∀x,(E x).length=k) (X:∀x,(E x).all (·.one)=e6) (sC:∀x,bc (E x)) (Q:SWO (ltOf C))
  (sG:∀a b,au P g [.agg (E a),.agg (E b)] y0 λr _=>r=.int gj (C a b))
  (gd:∀(n:Nat) (enc:Fin (n+1)->List aPi) (F:∀x,(enc x).length=k) (X:∀x,∀v∈enc x,v.oneCell'=e6) (C:Fin (n+1)->Fin (n+1)->Int) (Q:SWO (ltOf C)) (h2 cap:Nat) (d:Array (Fin (n+1))) (w:aPj),
   CmpLays P g #[] enc k C h2 0 d.size w->HoldsK enc k w h2 0 d->h2<w.heap.size->d.size<4611686018427387904 ->
   Calls P f #[.slice (eL ⟨h2,0,eN⟩) d.size cap,.func (.func g) #[] #[]] w λe w'=>e=.returned (.tuple #[])/\∃A n os,PermIn 0 d.size d A/\SortedIn (ltOf C) 0 d.size A/\w'=sortWorldK enc k w h2 0 n A os)
  {h:I} {v:V} {l:List β} (Dj:l=[]->au P f [v,.func (.func g) [] []] h λr h'=>r=.tuple []/\h'=h)
  (aU:Own h e k v (l.flatMap E)) (aB:l.length<4611686018427387904) :
  au P f [v,.func (.func g) [] []] h λr h'=>r=.tuple []/\J h h' (bb v)/\∃Y:List β,Y.Perm l/\(Y.Pairwise λa b=>ltOf C b a=fr)/\Own h' e k v (Y.flatMap E):=by
 by_cases S:l=[]
 .refine(Dj S).mono λr h' ⟨aH,U⟩=>?_;subst U;exact⟨aH,J.refl _ _,l,List.Perm.refl _,by rw[S];exact List.Pairwise.nil,aU⟩
 have u:=ft F l;rcases aU with⟨_,dh⟩|⟨i,Z,cap,c,ex,rfl,z1,ay,mc,b1,dF⟩
 .rw[dh]at u;have:0<l.length:=aDa.2 S;have:=Nat.mul_pos this yx;simp at u;omega
 rw[u]at mc;have qO:l.length=Z:=aAf yx mc;subst qO;obtain⟨n,aF⟩:∃n,l.length=n+1:=⟨l.length-1,by have:=aDa.2 S;omega⟩;intro ρ B aZ w G R aW;obtain⟨v1,t1,lP,EH,Cn⟩:=aW.eM;obtain⟨v2,t2,Lp,zJ,EI⟩:=Cn.eM;have kV:=EI.eq_nil;subst kV;have bd:v2=.func (.func g) #[] #[]:=by
  cases zJ with
  | func fn aa bA _ _=>
   rename_i fZ zu _ _;have az:=aAB (xs:=fZ) aa.symm;have bd:=aAB (xs:=zu) bA.symm;rw[az,bd]
 subst bd;cases EH with
 | bh hi _ _ _ aG=>
 rename_i b bI;have dr:G=#[.slice (eL ⟨b,0,eN⟩) l.length (gH bI cap),.func (.func g) #[] #[]]:=by
  apply aBq.1;rw[lP,Lp]
 subst dr;obtain⟨D,GB,hH,aC⟩:=R.L3 ay hi (vs:=l.flatMap E) (by rw[u];exact b1);have ai:D.size=l.length*k:=by have:=GB.1;simp only[azP]at this;omega
 let s:Fin (n+1)->β:=λx=>l[x.1]'(by omega)
 let enc:Fin (n+1)->List aPi:=λx=>(D.toList.drop (x.1*k)).take k
 have mI:∀x:Fin (n+1),((l.flatMap E).drop (x.1*k)).take k=E (s x):=λx=>by
  rw[xR F,List.drop_eq_getElem_cons (show x.1<l.length by omega),ayW,aAj (F _)]
 have T:∀x,bj ρ (E (s x)) (enc x):=λx=>by
  have:=(GB.drop (x.1*k)).take k;rwa[mI x]at this
 have hD:∀x,(enc x).length=k:=λx=>by rw[<-(T x).1,F]
 have av:∀x,∀v∈enc x,v.oneCell'=true:=λx=>(T x).one (X _)
 let d:Array (Fin (n+1)):=(aDb (n+1)).toArray
 have H:d.size=l.length:=by simp[d,aF]
 have Q0:flatK enc k d=D:=by
  apply aBq.1;rw[abF enc k hD];have aA:∀(m:Nat) (hm:m<=n+1),(((aDb (n+1)).take m).flatMap enc)=D.toList.take (m*k):=λm=>by
   induction m with
   | zero=>intro _;simp
   | succ m ih=>
    intro hm;rw[List.take_add_one,List.flatMap_append,ih (by omega),Jt (by simp;omega)];simp only[Option.toList_some,ayW,List.flatMap_nil,axA,List.getElem_finRange,enc];rw[ayC,aAv];simp[aBA]
  have:=aA (n+1) (BY _);rw[ajE (by simp)]at this;show(aDb (n+1)).flatMap enc=_;rw[this,ajE (by rw[azP,ai,aF];exact BY _)]
 have Co:SWO (ltOf λx y=>C (s x) (s y)):=⟨λx=>Q.irrefl _,λx y z=>Q.trans _ _ _,λx y z=>Q.ntrans _ _ _⟩;have Q1:h.get i≠.dead:=by rw[ay];simp
 have c9:=apm sG sC R Q1 hi s enc T d.size k;have L5:=gd n enc hD av (λx y=>C (s x) (s y)) Co b (gH bI cap) d w c9 (by unfold HoldsK;rw[Q0];exact hH) aC (by rw[H];exact aB);rw[H]at L5;refine L5.mono λx w' ⟨af,A,m,os,M,aa,cz⟩=>.inl ⟨ρ,.tuple [],.tuple #[],h.set i (.cells ((A.toList.map s).flatMap E++c.drop ((A.toList.map s).flatMap E).length) e ex),af,.tuple rfl (by simp),?_,Ren.le.refl ρ,rfl,?_,A.toList.map s,?_,?_,?_⟩
 .subst cz;have L:A.size=l.length:=by rw[M.1,H]
  have N:((A.toList.map s).flatMap E).length=l.length*k:=by rw[ft F];simp[L]
  have L6:l.length*k<=c.length:=by
   have:=iy azl b1;rw[ajB,u]at this;omega
  have aI:bj ρ ((A.toList.map s).flatMap E) (flatK enc k A).toList:=by
   rw[abF enc k hD];have:∀q:List (Fin (n+1)),bj ρ ((q.map s).flatMap E) (q.flatMap enc):=λq=>by
    induction q with
    | nil=>exact bj.nil ρ
    | cons a q ih=>
     rw[ajF,ayW,ayW];exact(T a).append ih
   exact this _
  exact((R.ahead m).J2 ay hi aI (by rw[N];exact L6)).grow os
 .exact(J.set h i _).mono λq ab=>by simp[bb,aS,ab]
 .have L:A.size=l.length:=by rw[M.1,H]
  have O:=M.2.2;have az:A.extract 0 l.length=A:=by rw[<-L];simp
  have bd:d.extract 0 l.length=d:=by rw[<-H];simp
  rw[az,bd]at O;have br:=O.map s;have c2:d.toList.map s=l:=by
   apply aBm
   .simp[d,aF]
   .intro j X W;simp[d,s]
  rwa[c2]at br
 .have L:A.size=l.length:=by rw[M.1,H]
  rw[azt,List.pairwise_iff_getElem];intro a da aW an jx;have:=aa a da (D8 _) jx (by simp at an;omega);rw[getElem!_pos A da (by simpa using an),getElem!_pos A a (by simpa using aW)]at this;simpa [ltOf]using this
 .have L:A.size=l.length:=by rw[M.1,H]
  have N:((A.toList.map s).flatMap E).length=l.length*k:=by rw[ft F];simp[L]
  have L6:l.length*k<=c.length:=by
   have:=iy azl b1;rw[ajB,u]at this;omega
  refine .inr ⟨i,l.length,cap,_,ex,rfl,z1,aM,by rw[N],?_,?_⟩
  .rw[aAj N]
  .rcases dF with⟨W,O,br⟩|⟨W,O⟩
   .refine .inl ⟨W,?_,br⟩;rw[D9,azk,N];omega
   .exact .inr ⟨W,O⟩
open Go
section
variable {κ α:Type} {ke:κ->V} {enc:α->V}
theorem apn{l:List (Nat×κ×α)}{e:Nat×V×V}(h:e∈dH ke enc l):∃x∈l,e=(x.1,ke x.2.1,enc x.2.2):=by
 obtain⟨x,a,rfl⟩:=OF.1 h;exact⟨x,a,rfl⟩
theorem apo{l:List (Nat×κ×α)}{x:Nat×κ×α}(h:x∈l):(x.1,ke x.2.1,enc x.2.2)∈dH ke enc l:=OF.2 ⟨x,h,rfl⟩
theorem abJ(l:List (Nat×κ×α)):(dH ke enc l).map (·.1)=l.map (·.1):=by
 unfold dH;rw[azn];rfl
theorem abK:∀{q:List (Nat×κ×α)},(q.map (·.1)).Nodup->∀{x y},x∈q->y∈q->x.1=y.1->x=y
 | [],_,x,y,j,_,_=>by cases j
 | z::q,u,x,y,j,s,e=>by
  have m:=azD.1 u;rcases IN.1 j with i|i
  .rcases IN.1 s with a|a
   .rw[i,a]
   .exact absurd (OF.2 ⟨y,a,by rw[<-e,i]⟩) m.1
  .rcases IN.1 s with a|a
   .exact absurd (OF.2 ⟨x,i,by rw[e,a]⟩) m.1
   .exact abK m.2 i a e
theorem abL{l i:List (Nat×κ×α)}(j:(l.map (·.1)).Nodup)(q:(i.map (·.1)).Nodup)(m:∀e∈i,e∈l)(s:∀e∈l,e.1∈i.map (·.1)):i.Perm l:=by
 have u:l.Nodup:=(azt.1 j).imp λh e=>h (by rw[e]);have z:i.Nodup:=(azt.1 q).imp λh e=>h (by rw[e]);rw[List.perm_ext_iff_of_nodup z u];intro a;refine⟨m a,λaW=>?_⟩;obtain⟨b,an,A⟩:=OF.1 (s a aW);have B:=m b an;rw[<-abK j B aW A];exact an
theorem abM{l a:List (Nat×κ×α)}(i:nj (dH ke enc l) (a.map (·.1))=[]):∀e∈l,e.1∈a.map (·.1):=λe j=>by
 apply Classical.byContradiction;intro m;have:(e.1,ke e.2.1,enc e.2.2)∈nj (dH ke enc l) (a.map (·.1)):=by
  unfold nj;exact ajA.2 ⟨apo j,by simpa using m⟩
 rw[i]at this;simp at this
theorem abN{l a:List (Nat×κ×α)}{e:Nat×V×V}(i:e∈nj (dH ke enc l) (a.map (·.1))):∃x∈l,e=(x.1,ke x.2.1,enc x.2.2)/\x.1∉a.map (·.1):=by
 obtain⟨j,m⟩:=ajA.1 i;obtain⟨x,q,rfl⟩:=apn j;exact⟨x,q,rfl,by simpa using m⟩
theorem abO{l i:List (Nat×κ×α)}{x:Nat×κ×α}(q:(i.map (·.1)).Nodup)(s:∀e∈i,e∈l)(u:x∈l)(z:x.1∉i.map (·.1)) :
  ((i++[x]).map (·.1)).Nodup/\(∀e∈i++[x],e∈l)/\i.length<l.length:=by
 have j:((i++[x]).map (·.1)).Nodup:=by
  rw[ay1,aAw];exact⟨q,by simp,λa aW b an=>by simp at an;subst an;exact λU=>z (U▸aW)⟩
 have m:∀e∈i++[x],e∈l:=λe A=>by
  rcases axE.1 A with h|h
  .exact s e h
  .simp at h;subst h;exact u
 have B:(i++[x]).Nodup:=(azt.1 j).imp λh e=>h (by rw[e]);have:=B.length_le_of_subset m;rw[D9]at this;simp at this;exact⟨j,m,by omega⟩
theorem L7{κ α:Type}[DecidableEq κ]:∀{l:List (Nat×κ×α)} {k:κ} {v:α},bR l k=eL v->∃e∈l,e.2=(k,v)
 | [],k,v,h=>by simp[bR]at h
 | e::l,k,v,h=>by
  unfold bR at h;split at h
  .rename_i a;exact⟨e,by simp,Prod.ext a.symm (Option.some.inj h)⟩
  .obtain⟨x,i,j⟩:=L7 h;exact⟨x,aAH _ i,j⟩
end
theorem Acc.set{j h:I}{e:aPg}{sz:Nat}{v:V}{s:List V}(a:Acc j h e sz v s){i:Nat}(hi:j.n<=i)(u:aS v≠eL i)(o:aP):Acc j (h.set i o) e sz v s :=
 ⟨a.own.ai (J.set _ _ _) λk z A=>u (by rw[z,A]),a.ai.kj hi o,a.new⟩
theorem aL.vK{ρ:Ren}{i:aPi}(h:aL ρ (.ag 0 []) i):aL ρ .ah i\/aL ρ .fX i:=by
 rcases h.lF with⟨_,_,a,j,aW,rfl⟩|⟨b,o,cap,arr,an,s,u,z,rfl⟩
 .cases a with
  | none=>rw[aW rfl];exact .inl .ah
  | some a=>exact .inr (.fX a j)
 .exact .inr (.fX _ _)
theorem cn.vK{P:aPf}{f:aPn}{rest:List V}{h:I}{R:V->I->Prop}{E:I->Prop}(C:cn P f (.ah::rest) h R E)(D:cn P f (.fX::rest) h R E):cn P f (.ag 0 []::rest) h R E:=by
 intro ρ B s w i u aW;obtain⟨F,t,z,j,A⟩:=aW.eM;rcases j.vK with j|j
 .exact C ρ B s w i u (by rw[z];exact bj.cons j A)
 .exact D ρ B s w i u (by rw[z];exact bj.cons j A)
theorem au.vK{P:aPf}{f:aPn}{rest:List V}{h:I}{R:V->I->Prop}(i:au P f (.ah::rest) h R)(j:au P f (.fX::rest) h R):au P f (.ag 0 []::rest) h R:=cn.vK i j
theorem aK.lI(h:I):aK .ah h (.ag 0 []) h:=fun ρ B s w u i j=>⟨ρ,Ren.le.refl ρ,i,by cases j;exact .kC eN 0 λ_=>rfl⟩
section
variable {P:aPf} {t:aPg} {xo yo:aPk}
theorem V1(h:eJ P t=eL 1):cB P .eql t xo yo .fX .ah=eL (.bool fr):=ip h (.inl rfl) (.inr ⟨rfl,rfl⟩)
theorem V2{n:Nat}{a:List V}(h:eJ P t=eL 1)(i:n≠0):cB P .eql t xo yo (.ag n a) .ah=eL (.bool fr):=ip h (.inl rfl) (.inr ⟨by simp[C4,i],rfl⟩)
theorem apq(h:eJ P t=eL 1):eu P (Op.equal t (.slice eN 0 0) (.slice eN 0 0))=eL true:=by
 obtain⟨d,a,i⟩:=Er h;unfold Op.equal Op.maxDepth Op.equalIn;rw[lY,zL a];cases d<;>simp[yV]at i;rfl
theorem L8(h:eJ P t=eL 1):cB P .eql t xo yo .ah .ah=eL (.bool e6):=by
 refine Lk (v:=.bool e6) rfl rfl rfl ?_;show eu P (do pure (aPi.bool (<-Op.equal t (.slice eN 0 0) (.slice eN 0 0))))=_;rw[lY,apq h];rfl
theorem V3{h:I}{sz:Nat}(a:eJ P t=eL 1):gS P sz t .fX h=eL (0,[]):=by
 obtain⟨d,j,m⟩:∃d,P.underlying t=eL d/\yV d=eL 1:=by
  unfold eJ at a;cases i:P.underlying t with
  | none=>rw[i]at a;cases a
  | some d=>rw[i]at a;exact⟨d,rfl,a⟩
 cases d<;>simp[yV]at m;simp only[gS,j]
end
theorem iL.ofInt{P:aPf}{t i j:aPg}{kk:aPh}(s:eQ P t=eL (i,j,.int kk)):iL P i (.int kk) (kA kk) where
 eq a b:=by rw[aaX rfl];rfl
 ok b a:=Vo (zF s).2 rfl
 bits a:=⟨_,rfl,by simp[Instr.sameBits]⟩
section
variable {M:Nat->Prop} {bK:aPk->V} {t:aPg} {m k:aPk} {b:Bool}
theorem L9:nE M (rf bK (.lookup t m k b))=ud M (bK m):=rfl
end
theorem aK.gU{h s:I}{e:aPg}{sz i len cap:Nat}{A es:List V}{M:Nat->Prop}(Y:Own h e sz (.bh i 0 len cap) A)(Z:aE A h es s)(hg:J h s M)(bO:¬M i)(z:es.length=A.length) :
  ∃u,aK (.bh i 0 len cap) h (.ag len es) u/\J s u (·=i):=by
 rcases Y with⟨q|q,_⟩|⟨Gc,aa,ab,c,ex,q,hi,N,j,D,dF⟩
 .cases q
 .cases q
 simp only[V.bh.injEq]at q;obtain⟨rfl,_,rfl,rfl⟩:=q;have gk:s.get i=.cells c e ex:=(hg.get i hi bO).trans N;have fU:len*sz<=c.length:=by
  have:=iy azl D;rw[ajB,j]at this;omega
 refine⟨s.set i .dead,fun ρ B aZ w dO O aI=>?_,J.set s i .dead⟩;obtain⟨ρ0,_,E,b,bI,arr,Q,aA,aw,R⟩:=O.freeze N;have Mb:bj ρ A (arr.toList.take (len*sz)):=by
  have ko:=R.1;refine⟨by rw[<-D];simp only[ajB]at ko⊢;omega,λk v F s u=>?_⟩;have C:k<len*sz:=by rw[<-j];exact(axB.1 s).1
  rw[<-D,ay7,gr C]at s;rw[ay7,gr C]at u;refine R.2 k v F s ?_;rw[ay7,gr (by omega)];exact u
 obtain⟨ρ1,S,ib,ie⟩:=Z ρ B aZ w _ O Mb;obtain⟨ρ2,T,W,da,tF,lW,G,X,zH,hf⟩:=ib.freeze gk;have Ce:=S.ren _ _ Q;rw[Ce]at G;simp only[Option.some.injEq,ay9.injEq]at G;obtain⟨rfl,rfl⟩:=G;obtain⟨ck,kP,H,iK,rfl⟩:=aI.hB;rw[Q]at H;simp only[Option.some.injEq,ay9.injEq]at H;obtain⟨rfl,rfl⟩:=H;have mG:lW=arr:=by
  obtain⟨az,f1,cY⟩:=E.heap.frz _ _ aA;obtain⟨bd,f2,L⟩:=W.heap.frz _ _ X;rw[cY]at L;simp only[Option.some.injEq,Obj.cells.injEq]at L;exact L.1.symm
 subst mG;refine⟨ρ2,S.trans T,W,.ag 0 len _ X iK (by rw[z,j];omega) λk v F s u=>?_⟩;have C:k<len*sz:=by rw[<-j,<-z];exact(axB.1 s).1
 refine(ie.2 k v F s ?_).mono T;rw[ay7,gr C,azq];simpa using u
theorem aK.zq{h s:I}{X:Nat}{c A:List V}{e:aPg}{C:Option Nat}(Y:h.get X=.cells c e C)(Z:aE c h A s)(M:s.get X=.cells c e C)(D:A.length=c.length)(r:V) :
  aK r h r (s.set X (.cells A e C)):=fun ρ B aZ w dO N aI=>by
 have O:=N.heap.obj X;rw[Y]at O;obtain⟨b,bI,arr,aH,aA,b4,F,aw,aB,af⟩:=O;obtain⟨ρ1,G,u,Q⟩:=Z ρ B aZ w _ N aB;have R:=u.heap.obj X;rw[M]at R;obtain⟨dL,aa,Gg,S,z6,H,T,mW,iK,ny⟩:=R;have az:=G.ren _ _ aH;rw[S]at az;simp only[Option.some.injEq,ay9.injEq]at az;obtain⟨rfl,rfl⟩:=az;rw[T]at F;simp only[Option.some.injEq,Obj.cells.injEq]at F;obtain⟨rfl,-,-⟩:=F;have E:∀j,j≠X->(s.set X (.cells A e C)).get j=s.get j:=λj z=>by simp[I.set,z]
 have L:(s.set X (.cells A e C)).get X=.cells A e C:=by simp[I.set]
 have live:∀j,(s.set X (.cells A e C)).get j≠.dead->s.get j≠.dead:=λj z=>by
  by_cases W:j=X
  .subst W;rw[M];intro q;cases q
  .rwa[E j W]at z
 refine⟨ρ1,G,⟨⟨u.heap.mQ,λi j b c ng hi z ad aD=>u.heap.inj i j b c ng (live i hi) (live j z) ad aD,λj=>?_,u.heap.frz,u.heap.glob,u.heap.base⟩,u.below⟩,aI.mono G⟩;by_cases z:j=X
 .subst z;rw[L];rw[<-D]at Q;exact⟨_,_,_,S,z6,H,T,by rw[D];exact mW,Q,by rw[D];exact ny⟩
 .rw[E j z];exact u.heap.obj j
section
variable {P:aPf} {h:I} {s:aPg}
end
theorem aT.V4{P:aPf}{n:Nat}{c:aPs}{f:aj}{h:I}{X:cR}(R:aj->I->Prop){Q:qF}(i:aT P n c (qF.go (.fn λx f h=>@sx ⟨x=X/\R f h⟩)) f h)(j:∀f h,R f h->@gq X Q f h):aT P n c (qF.go Q) f h :=
 i.mono λe f h s=>by
  have u:e=X/\R f h:=s;obtain⟨rfl,z⟩:=u;exact j f h z
section
variable {P:aPf} {d:Option Tmp} {ty:aPg} {pos:String} {cA:Array Edge} {g:Option (Nat×Bool)} {f:aj} {h:I} [K:fS] {x y:aPk}
def Cq(P:aPf)(a:Builtin)(ts:Array aPg)(ty:aPg)(i:Array Bool)(x:V):Option V :=
 match jX [x]with
 | some j=>match eu P (builtin a ts ty i j.toArray)with
  | some (.value v)=>eL (gR v)
  | _=>eN
 | none=>eN
theorem apu{t a:aPg}:@e9 P ⟨d,.call ⟨.builtin .complex,#[x,y],#[t,a]⟩,ty,pos,cA,g⟩ K f h=@mh (rX P .complex #[t,a] ty (wH #[x,y]) (f.eval h x) (f.eval h y)) d K f h :=
 tS (by
  unfold eI k7 qD rX hL;simp only[ajF,azd];cases jX [f.eval h x,f.eval h y]with
  | none=>rfl
  | some i=>
   simp only;generalize eu P _=r;cases r with
   | none=>rfl
   | some n=>cases n<;>rfl)
theorem apv{t:aPg}:@e9 P ⟨d,.call ⟨.builtin .real,#[x],#[t]⟩,ty,pos,cA,g⟩ K f h=@mh (Cq P .real #[t] ty (wH #[x]) (f.eval h x)) d K f h :=
 tS (by
  unfold eI k7 qD Cq hL;simp only[ajF,azd];cases jX [f.eval h x]with
  | none=>rfl
  | some a=>
   simp only;generalize eu P _=r;cases r with
   | none=>rfl
   | some n=>cases n<;>rfl)
theorem apw{t:aPg}:@e9 P ⟨d,.call ⟨.builtin .imag,#[x],#[t]⟩,ty,pos,cA,g⟩ K f h=@mh (Cq P .imag #[t] ty (wH #[x]) (f.eval h x)) d K f h :=
 tS (by
  unfold eI k7 qD Cq hL;simp only[ajF,azd];cases jX [f.eval h x]with
  | none=>rfl
  | some a=>
   simp only;generalize eu P _=r;cases r with
   | none=>rfl
   | some n=>cases n<;>rfl)
end
section
variable {P:aPf} {ty:aPg}
theorem apx{ts:Array aPg}{i:Array Bool}{a b:Nat}:rX P .complex ts ty i (.float .f64 a) (.float .f64 b)=eL (.complex .f64 a b):=rfl
theorem apy{ts:Array aPg}{i:Array Bool}{k:aPr}{a b:Nat}:Cq P .real ts ty i (.complex k a b)=eL (.float k a):=rfl
theorem apz{ts:Array aPg}{i:Array Bool}{k:aPr}{a b:Nat}:Cq P .imag ts ty i (.complex k a b)=eL (.float k b):=rfl
def Mc(P:aPf)(t:aPg):Option aPr:=match P.underlying t with|some (.float k)=>eL k|_=>eN
theorem abS{t:aPg}{k:aPr}(h:Mc P t=eL k):P.underlying t=eL (.float k):=by
 unfold Mc at h;split at h
 .rename_i a;simp at h;subst h;exact a
 .cases h
theorem abT{t:aPg}{k:aPh}(h:mE P t=eL k):P.underlying t=eL (.int k):=by
 unfold mE at h;split at h
 .rename_i a;simp at h;subst h;exact a
 .cases h
theorem V5{i j:aPg}{h:I}{k:aPh}{m:aPr}{a:Int}(q:mE P i=eL k)(s:Mc P j=eL m):oc P i j (.int k a) h=eL (.float m (m.nearest a)):=by
 unfold oc;have e:(oT (.int k a)).bind (λx=>eu P (convert i j x))=eL (.float m (m.nearest a)):=by
  show eu P (convert i j (.int k a))=_;unfold convert;rw[lY,zL (abT q),azm,lY,zL (abS s)];rfl
 rw[e];rfl
theorem apA{a i:aPg}{h:I}{k:aPr}{j:aPh}{b:Nat}{n:Int}(m:Mc P a=eL k)(q:mE P i=eL j)(s:(k.decode b).toInt .zero=eL n)(u:j.min<=n)(z:n<=j.max):oc P a i (.float k b) h=eL (.int j n):=by
 unfold oc;have e:(oT (.float k b)).bind (λx=>eu P (convert a i x))=eL (.int j n):=by
  show eu P (convert a i (.float k b))=_;unfold convert;rw[lY,zL (abS m),azm,lY,zL (abT q)];show eu P (Conv.floatToInt k b j)=_;unfold Conv.floatToInt;simp only[s,gr (show j.min<=n/\n<=j.max from⟨u,z⟩)];rfl
 rw[e];rfl
theorem apB{k:aPr}{a b:Nat}:(V.complex k a b).cells=eL [.complex k a b]:=rfl
theorem apC{k:aPr}{a b:Nat}:(V.complex k a b).one=true:=rfl
theorem bf.complex(k:aPr)(a b:Nat):bf (.complex k a b):=bf.flat rfl
end
section
variable {P:aPf} {t cU jm:aPg} {d:TypeDesc} {κ:Type} [DecidableEq κ] {ke:κ->V} {α:Type} {enc:α->V}
end
def rk(P:aPf)(n l:Nat)(c:aPs)(Q:cR->aj->I->Prop)(f:aj)(h:I):Prop :=
 ∀(ρ:Ren) (B:Nat) (i:aPj) (a:Act) (w:aPj),a8 ρ B i h w->fw ρ n f a->c.wpIn (Fence.wide.inRound l) 0 P (oR n B i ρ Q) a w
section
variable {P:aPf} {n l:Nat} {Q:cR->aj->I->Prop} {f:aj} {h:I}
theorem rk.region{id:Nat}{ops:Array Oper}(i:ops.toList.all (λo=>tm n o.dst)=e6)
  (j:oz P ops.toList ops.toList (Q .normal) (Q .panic) f h):rk P n l (.region id ops fr) Q f h:=by
 intro ρ B z a w s u;refine wpIn_region ?_;have:=Qy (vc.inRound l) (rm:=0) (P:=P) i (ρ0:=ρ) ops.toList 0 (by simp) ρ f h a w (Ren.le.refl ρ) s u j;rwa[azP,<-List.range_eq_range']at this
theorem rk.block{id:Nat}{c:aPs}(D:rk P n l c (JL id Q) f h):rk P n l (.block id c) Q f h:=by
 intro ρ B E a w F G;refine wpIn_block (wpIn_mono (D ρ B E a w F G) λe H w' ⟨ρ',x,j,h',A,s,u,z,i⟩=>?_);cases x<;>cases e<;>simp only[tq]at A
 .exact⟨ρ',.normal,j,h',trivial,s,u,z,i⟩
 .subst A;simp only[JL]at i;simp only[Exit.inBlock];split
  .rename_i C;simp only[C,jS]at i;exact⟨ρ',.normal,j,h',trivial,s,u,z,i⟩
  .rename_i C;simp only[C,iC]at i;exact⟨ρ',.exit _,j,h',rfl,s,u,z,i⟩
 .exact⟨ρ',.goto _,j,h',A,s,u,z,i⟩
 .exact⟨ρ',.ret,j,h',trivial,s,u,z,i⟩
 .exact⟨ρ',.panic,j,h',A,s,u,z,i⟩
end
theorem apD{ρ:Ren}{n:Nat}{f:aj}{a:Act}(j:fw ρ n f a):bj ρ ((ajC n).map f) a.tmps.toList:=by
 refine⟨by simp[j.size],λk v q i s=>?_⟩;have u:k<n:=by have:=(axB.1 i).1;simpa using this
 have m:=j.tmps k;simp only[aA1,List.getElem?_range u,azi,Option.some.injEq]at i;have z:a.tmps[k]?=eL q:=by simpa using s
 rw[aBs,z]at m;subst i;exact m
theorem apE{ρ:Ren}{n:Nat}{f:aj}{a:List aPi}(j:bj ρ ((ajC n).map f) a)(m:ρ.dfr=[]):fw ρ n (λt=>if t<n then f t else .top) { tmps:=a.toArray,defers:=[] }:=by
 have q:a.length=n:=by have:=j.1;simpa using this.symm
 refine⟨λt=>?_,by simpa using q,m.symm⟩;simp only;split
 .rename_i s;obtain⟨u,z,A⟩:=j.get (k:=t) (v:=f t) (by simp[s]);have:(a.toArray).getD t undef=u:=by rw[aBs];simp[z]
  rw[this];exact A
 .exact .top _
theorem a8.uf{ρ:Ren}{B:Nat}{u:aPj}{h:I}{w:aPj}(R:a8 ρ B u h w){i l:Nat}{mk:List aPi->Obj}{s:List V}(z:h.get i=.k0 l mk s) :
  ∃arr,w.heap[l]?=eL (mk arr)/\bj ρ s arr/\∀j,a8 ρ B u (h.set i (.k0 l j s)) (w.putObj l (j arr)):=by
 have A:=R.heap.obj i;rw[z]at A;obtain⟨G,arr,C,H,L,D,E⟩:=A;have M:=(ay8.1 D).1;refine⟨arr,D,E,λj=>R.su C (by rw[z];simp) (λk F=>aPj.putObj_heap_other F) (by simp) ⟨rfl,rfl,rfl,by simp,λk F=>aPj.putObj_heap_other (by omega),BY _⟩ ?_⟩;exact⟨G,arr,C,H,L,aPj.putObj_heap_same M,E⟩
theorem a8.EK{ρ:Ren}{B:Nat}{u:aPj}{h:I}{w:aPj}(R:a8 ρ B u h w)(mk:List aPi->Obj){j:List V}{arr:List aPi}(z:bj ρ j arr) :
  ∃ ρ',ρ.le ρ'/\a8 ρ' B u (h.push (.k0 w.heap.size mk j)) (w.alloc (mk arr)):=by
 have s:=Ren.tE (R.heap.mQ _ (BY _)) w.heap.size 0;have A:ρ.frz w.heap.size=none:=by
  cases C:ρ.frz w.heap.size with
  | none=>rfl
  | some a=>
   obtain⟨e,H,D⟩:=R.heap.frz _ _ C;have:=(ay8.1 D).1;omega
 have i:∀k,k<w.heap.size->(w.alloc (mk arr)).heap[k]?=w.heap[k]?:=λk E=>Below.heap_alloc _ _ _ E;obtain⟨F,G⟩:=R.CX (w':=w.alloc (mk arr)) (o:=.k0 w.heap.size mk j) 0 (by simp) i ((ia.refl _ _).alloc R.heap.base _) ⟨0,arr,Ren.oy,A,R.heap.base,aPj.alloc_heap_new _ _,z.mono s⟩;exact⟨_,F,G⟩
def xU(fn:aPn)(p:Tmp)(assign body:aPs)(D:Nat)(st:LoopState):List aPi->Obj:=λm=>.loop { state:=st,pending:=eN,fn,tmps:=m.toArray,params:=#[p],assign,body,defers:=D }
def V6(n:Nat)(f:aj)(p:Tmp)(v:V):aj:=aj.put (λt=>if t<n then f t else .top) (eL p) v
theorem mf.of{P:aPf}{n l i:Nat}{fn:aPn}{p:Tmp}{assign body:aPs}{D:Nat}{f:aj}{v:V}{h:I}{R:V->I->Prop}(O:p<n)
  (Q:h.get i=.k0 l (xU fn p assign body D .ready) ((ajC n).map f)) (M:aj->I->Prop)
  (aW:rk P n l assign (λz s h'=>z=.normal/\h'.get i=.k0 l (xU fn p assign body D .ready) ((ajC n).map f)/\M s h') (V6 n f p v) h)
  (an:∀s h',M s h'->rk P n l body (λz _ G=>z=.normal/\G.get i=.k0 l (xU fn p assign body D .busy) ((ajC n).map f)/\R (.bool e6) (G.set i (.k0 l (xU fn p assign body D .ready) ((ajC n).map f)))) s (h'.set i (.k0 l (xU fn p assign body D .busy) ((ajC n).map f)))) :
  mf P l [v] h R:=by
 intro ρ B H w j L S;obtain⟨arr,T,W,_⟩:=L.uf Q;obtain⟨u,uY,X,Y,Z⟩:=S.eM;obtain rfl:=Z.eq_nil;have qR:j=#[u]:=by apply Array.ext';simpa using X
 subst qR;have bg:=run_yield (P:=P) (args:=#[u]) T rfl;refine⟨fn,_,assign,body,bg,roundIn_of_wpIn trivial ?_⟩;have kS:fw { ρ with dfr:=[] } n (V6 n f p v) { tmps:=((#[p].zip #[u]).foldl (λtmps (t,a)=>tmps.setIfInBounds t a) arr.toArray),defers:=[] }:=by
  have:=(apE (ρ:={ ρ with dfr:=[] }) (W.dfr []) rfl).put (Y.dfr []) (eL p) (by simp[tm,O]);simpa [Act.put,V6]using this
 refine wpIn_mono (aW { ρ with dfr:=[] } B H _ w (L.dfr []) kS) λe bW cH ⟨ρ1,x,f1,h1,A,ib,z6,ie,C⟩=>?_;obtain⟨rfl,gk,lb⟩:=C;cases e<;>simp only[tq]at A;obtain⟨Gg,E,aa,dI⟩:=ib.uf gk;refine⟨_,run_beginRound E rfl,?_⟩;have kh:=dI (xU fn p assign body D .busy);refine wpIn_mono (an f1 h1 lb ρ1 B H bW _ kh z6) λe a3 jn ⟨ρ3,x,f3,aD,A,Cm,wS,pA,C⟩=>?_;obtain⟨rfl,F,e8⟩:=C;cases e<;>simp only[tq]at A;obtain⟨ab,Md,kV,Q2⟩:=Cm.uf F;refine⟨_,_,run_endRound eN Md,?_⟩;have vd:=Q2 (xU fn p assign body D .ready);have N:=ie.trans pA;exact⟨{ ρ3 with dfr:=ρ.dfr },.bool e6,.bool e6,_,rfl,.bool _,vd.dfr ρ.dfr,⟨N.ren,N.frz,rfl⟩,e8⟩
theorem au.jw{P:aPf}{bJ gf:aPn}{fn:Func}{A A2 assign body:aPs}{id:Nat}{g p:Tmp}(oW:P.funcs[bJ]?=eL fn)
  (an:fn.body=eL (.seq A (.seq A2 (.block id (.rangeFunc (.tmp g) #[p] assign body))))) (Z:me P gf=e6) {args:List V} (Q:args.length<=fn.ntmps) {h:I} {R:V->I->Prop} {K:aj->I->Prop} {caps:aj->List V}
  (H:aT P fn.ntmps A (λz f h=>z=.normal/\aT P fn.ntmps A2 (λz f h=>z=.normal/\K f h) f h) (jw args) h)
  (ay:∀f h,K f h->f g=.func (.func gf) [] (caps f))
  (gd:∀f H,K f H->∀(l D:Nat) (q:aPn) (M:I),M=(H.push (.k0 D (λ_=>.deferred (eL [])) [])).push (.k0 l (xU q p assign body D .ready) ((ajC fn.ntmps).map f)) ->
   au P gf (.func (.yield l) [] []::caps f) M (λ_ aD=>aD.get (H.n+1)=.k0 l (xU q p assign body D .ready) ((ajC fn.ntmps).map f)/\aD.get H.n=.k0 D (λ_=>.deferred (eL [])) [] /\
    (∃r,uZ P fn.results.toList f ((aD.set (H.n+1) .dead).set H.n .dead)=eL r/\R r ((aD.set (H.n+1) .dead).set H.n .dead)))):au P bJ args h R:=by
 intro ρ B aZ w aa hw aW;refine callsIn_wide.1 (callsIn_of_wp_marks (n:=0) oW an trivial ?_);apply wpIn_seq;refine wpIn_mono (wpIn_wide.2 (H { ρ with dfr:=[] } B aZ _ w (hw.dfr []) (Vc (aW.dfr []) Q rfl))) ?_
 rintro e bW cH ⟨ρ1,z,f1,EF,af,ib,z6,ie,rfl,M⟩
 cases e<;>simp only[tq]at af;show(aPs.seq A2 _).wpIn Fence.wide 0 P _ bW cH;apply wpIn_seq;refine wpIn_mono (wpIn_wide.2 (M ρ1 B aZ bW cH ib z6)) ?_
 rintro e F s ⟨ρ2,z,N,E,af,kh,jv,iK,rfl,bQ⟩
 cases e<;>simp only[tq]at af;show(aPs.block id _).wpIn Fence.wide 0 P _ F s;apply wpIn_block;have V7:=ie.trans iK;have kT:F.defers=[]:=(jv.defers.trans iK.dfr).trans ie.dfr;refine wpIn_rangeFunc ?_;intro q ab;obtain⟨ρ3,pA,Cm⟩:=kh.EK (λ_=>.deferred (eL [])) (bj.nil ρ2);have lN:bj ρ3 ((ajC fn.ntmps).map N) F.tmps.toList:=(apD jv).mono pA;obtain⟨ρ4,p7,vd⟩:=Cm.EK (xU q p assign body s.heap.size .ready) lN;have bq:(s.alloc (Obj.deferred (eL []))).heap.size=s.heap.size+1:=by simp
 rw[bq]at vd;have c9:=gd N E bQ (s.heap.size+1) s.heap.size q _ rfl;have Mf:=jv.tmps g;rw[ay N E bQ]at Mf;obtain⟨O,Q3,V8⟩:∃O:Array aPi,bj ρ4 (caps N) O.toList/\F.eval (.tmp g)=.func (.func gf) #[] O:=by
  have he:F.eval (.tmp g)=F.tmps.getD g undef:=rfl;rw[he];generalize F.tmps.getD g undef=x at Mf;cases Mf with
  | func aI h0 gD af bg=>
   rename_i fZ zu;have:fZ=#[]:=aAB h0.symm;subst this;exact⟨zu,((eV.list ⟨gD,bg⟩).mono pA).mono p7,rfl⟩
 have qR:bj ρ4 (.func (.yield (s.heap.size+1)) [] []::caps N) (#[aPi.func (.yield (s.heap.size+1)) #[] #[]]++O).toList:=by
  have aG:aL ρ4 (.func (.yield (s.heap.size+1)) [] []) (.func (.yield (s.heap.size+1)) #[] #[]):=.func _ rfl rfl (by simp) (by simp);simpa using bj.cons aG Q3
 have cZ:=run_enterLoop_outer (P:=P) (w:=s) q F.tmps #[p] assign body;have kV:xU q p assign body s.heap.size .ready F.tmps.toList=.loop { state:=.ready,pending:=eN,fn:=q,tmps:=F.tmps,params:=#[p],assign,body,defers:=s.heap.size }:=by simp[xU]
 rw[kV]at vd;obtain⟨W,EJ⟩:∃W,W=(s.alloc (.deferred (eL []))).alloc (.loop { state:=.ready,pending:=eN,fn:=q,tmps:=F.tmps,params:=#[p],assign,body,defers:=s.heap.size }):=⟨_,rfl⟩;rw[<-EJ]at vd cZ;obtain⟨L, V9, S4⟩ : ∃L, P.funcs[gf]? = eL L /\ (L.body.isSome && L.name != "runtime.NumGoroutine") = true := by
  unfold me at Z;split at Z
  .rename_i L Ac;exact⟨L,Ac,Z⟩
  .cases Z
 simp only[are,bne_iff_ne,ne_eq]at S4;have wB:L.body.isNone=false:=by cases an:L.body<;>simp_all
 refine⟨s.heap.size+1,[{ target:=.collected s.heap.size,args:=#[] }],W,{ target:=.fn (.func gf) O,args:=#[.func (.yield (s.heap.size+1)) #[] #[]] },W,gf,
  #[.func (.yield (s.heap.size+1)) #[] #[]]++O,W,cZ,?_,?_,?_,(λU=>by cases U),?_⟩
 .simp only[resolve,V8];simp[go_sem]
 .intro b2 cG;trivial
 .simp only[invoke,callFunc];simp[V9,S4.2];intro U;simp[U]at wB
 .refine callsIn_wide.2 ((c9 ρ4 B aZ _ _ vd qR).mono λe r3 U=>?_);rcases U with⟨ρ5,r,dO,S,rfl,aO,T,S5,ug,S6,ai,av,e8⟩|⟨_,_,_,_,_,_,_,bM⟩
  case inr=>exact bM.elim
  obtain⟨X,S7,_,_⟩:=T.uf ug;have EL:=(T.kill (E.n+1));have S8:=T.heap.obj E.n;rw[S6]at S8;obtain⟨aQ,aU,aV,aX,aY,aA,_⟩:=S8;have Mg:=T.heap.obj (E.n+1);rw[ug]at Mg;obtain⟨aB,a1,Ie,Wa,aC,EM,_⟩:=Mg;have Wb:=(ay8.1 S7).1;refine⟨eN,_,run_endLoop S7 (by simp[xU]),?_⟩;have bO:s.heap.size≠s.heap.size+1:=by omega
  have Wc:(r3.putObj (s.heap.size+1) (.loop { state:=.exhausted,pending:=eN,fn:=q,tmps:=X.toArray,params:=#[p],assign,body,defers:=s.heap.size })).heap[s.heap.size]?=eL (.deferred (eL [])):=(aPj.putObj_heap_other bO).trans aA;have S9:a8 ρ5 B aZ ((S.set (E.n+1) .dead).set E.n .dead) ((r3.putObj (s.heap.size+1) (.loop { state:=.exhausted,pending:=eN,fn:=q,tmps:=X.toArray,params:=#[p],assign,body,defers:=s.heap.size })).putObj s.heap.size (.deferred eN)):=by
   have s1:=T.su (o:=.k0 (s.heap.size+1) (λ_=>.loop { state:=.exhausted,pending:=eN,fn:=q,tmps:=X.toArray,params:=#[p],assign,body,defers:=s.heap.size }) []) Ie (by rw[ug];simp) (w':=r3.putObj (s.heap.size+1) (.loop { state:=.exhausted,pending:=eN,fn:=q,tmps:=X.toArray,params:=#[p],assign,body,defers:=s.heap.size })) (λk hk=>aPj.putObj_heap_other hk) (by simp)
    ⟨rfl,rfl,rfl,by simp,λk hk=>aPj.putObj_heap_other (by omega),BY _⟩ ⟨aB,[],Ie,Wa,aC,aPj.putObj_heap_same Wb,bj.nil _⟩
   have Wd:(S.set (E.n+1) (.k0 (s.heap.size+1) (λ_=>.loop { state:=.exhausted,pending:=eN,fn:=q,tmps:=X.toArray,params:=#[p],assign,body,defers:=s.heap.size }) [])).get E.n=.k0 s.heap.size (λ_=>.deferred (eL [])) []:=by
    show(if E.n=E.n+1 then _ else S.get E.n)=_;rw[gQ (by omega),S6]
   obtain⟨a6,_,_,Q4⟩:=s1.uf Wd;have s2:=Q4 λ_=>.deferred eN;have jN:=(s2.kill (E.n+1)).kill E.n;have aF:∀x y,((((S.set (E.n+1) x).set E.n y).set (E.n+1) .dead).set E.n .dead)=(S.set (E.n+1) .dead).set E.n .dead:=λx y=>by
    simp only[I.set]
    congr 1
    funext j
    by_cases H:j=E.n
    .simp[H]
    .by_cases M:j=E.n+1
     .simp[M]
     .simp[H,M]
   rw[aF]at jN;exact jN
  show LeavesInM _ _ P fn F.tmps _ ([{ target:=.collected s.heap.size,args:=#[] }]++F.defers) .returning _;rw[kT];refine⟨by simp,.inl ⟨s.heap.size,_,rfl,run_takeDeferred Wc,?_⟩⟩;show ∃v,(results fn F.tmps).run P _=.ok v _/\_;have Mh:Ren.le { ρ with dfr:=[] } ρ5:=((V7.trans pA).trans p7).trans S5;have aH:fw ρ5 fn.ntmps N F:=jv.mono ((pA.trans p7).trans S5);obtain⟨Y,cY,dD⟩:=Vb S9 aH av;exact⟨Y,cY,.inl ⟨{ ρ5 with dfr:=ρ.dfr },ai,Y,_,rfl,dD.dfr ρ.dfr,S9.dfr ρ.dfr,⟨Mh.ren,Mh.frz,rfl⟩,e8⟩⟩
theorem a7{P:aPf}{bJ:aPn}{fn:Func}{c:aPs}(i:P.funcs[bJ]?=eL fn)(an:fn.body=eL c){args:List V}{h:I}{R:V->I->Prop}(j:@mg P fn.ntmps c (.fn (vG P fn (λr h=>@sx ⟨R r h⟩) λ_=>False)) (jw args) h)(m:codeOk fn.ntmps c=true:=by kernel_rfl)(a:args.length<=fn.ntmps:=by simp):au P bJ args h R:=au.tQ i an m a j
theorem cp{P:aPf}{K:fS}{bJ:aPn}{args:List V}{h:I}{d:Option Tmp}{f:aj}{R:V->I->Prop}(a:au P bJ args h R)(i:∀r h',R r h'->@jT K (f.put d r) h')(aw:me P bJ=true:=by kernel_rfl):@xM P bJ args h d K f:=QC aw a i
theorem bE{P:aPf}{K:fS}{bJ:aPn}{args:List V}{h:I}{d:Option Tmp}{f:aj}{v:V}(a:Pure P bJ args h v)(i:@jT K (f.put d v) h)(aw:me P bJ=true:=by kernel_rfl):@xM P bJ args h d K f:=Vf aw a i
theorem wpS{P:aPf}{n:Nat}{c:aPs}{Q:cR->aj->I->Prop}{f:aj}{h:I}(a:@mg P n c (.fn Q) f h)(i:codeOk n c=true:=by kernel_rfl):aT P n c Q f h:=jp i a
theorem aT.cL{P:aPf}{n id:Nat}{ops:Array Oper}(M:Nat->Prop)(es:List Nat)(s:ey){Q:qF}{f:aj}{h:I}(i:gN P ops.toList M h (.out Q) s e6 f h)(j:P.follows .mixedOrders=true:=by kernel_rfl)(u:s.ok ops es ops.size e6 e6 e6 (azJ ops.size fr)=true:=by kernel_rfl)(z:ops.toList.all (λo=>tm n o.dst)=true:=by kernel_rfl):aT P n (.region id ops e6) Q.go f h:=aT.LJ M es s j u z i
theorem aT.xI{P:aPf}{n id:Nat}{ops:Array Oper}(M:Nat->Prop)(es:List Nat)(s:ey){Q:qF}{f:aj}{h:I}(i:gN P ops.toList M h (.out Q) s fr f h)(j:P.follows .mixedOrders=true:=by kernel_rfl)(u:s.ok ops es ops.size e6 fr e6 (azJ ops.size fr)=true:=by kernel_rfl)(z:ops.toList.all (λo=>tm n o.dst)=true:=by kernel_rfl):aT P n (.region id ops e6) Q.go f h:=aT.LO M es s j u z i
theorem dK(a b:Nat)(h:a<b:=by omega):decide ((a:Int)<((b:Nat):Int))=true:=hO (by omega)
theorem dY(a b:Nat)(h:¬a<b:=by omega):decide ((a:Int)<((b:Nat):Int))=false:=hK (by omega)
theorem iM(i:Nat)(h:i+1<2^63:=by omega):aPh.i64.wrap ((i:Int)+1)=((i+1:Nat):Int):=by rw[kp _ (by omega)];omega
theorem bU(h:I)(a:aP):∃H,H=h.push a/\J h H kR/\H.get h.n=a/\H.n=h.n+1:=⟨_,rfl,J.push _ _ _,ac,rfl⟩
def Mi:=PLift.up (AS (AS (AS (AS (AS (AS (AS (AS @akw @akx) (AS @aky @akB)) (AS (AS @akC @akD) (AS @akE @akF))) (AS (AS (AS @akG @akH) (AS @akI @akz)) (AS (AS @akA @akJ) @akK))) (AS (AS (AS (AS @akL @akM) (AS @akN @akO)) (AS (AS @akP @akQ) (AS @akR @akS))) (AS (AS (AS @aaG @akX) (AS @akY @akZ)) (AS (AS @ak0 @ak1) @akT)))) (AS (AS (AS (AS (AS @akU @akV) (AS @akW @ak5)) (AS (AS @ak6 @ak7) (AS @ak8 @ak9))) (AS (AS (AS @ala @alb) (AS @alc @ald)) (AS (AS @ale @alf) @ali))) (AS (AS (AS (AS @alj @alk) (AS @alm @aln)) (AS (AS @alo @alq) @alr)) (AS (AS (AS @als @alv) (AS @alw @alx)) (AS (AS @aly @alz) @alA))))) (AS (AS (AS (AS (AS (AS @alB @alC) (AS @alD @alE)) (AS (AS @alF @alG) (AS @alH @alK))) (AS (AS (AS @alM @alN) (AS @alP @alQ)) (AS (AS @alR @alS) @alT))) (AS (AS (AS (AS @alU @alV) (AS @alW @alX)) (AS (AS @al0 @al1) (AS @al2 @al4))) (AS (AS (AS @alO @alL) (AS @ak2 @alu)) (AS (AS @ak3 @ak4) @alg)))) (AS (AS (AS (AS (AS @alh @alp) (AS @alI @alJ)) (AS (AS @al8 @eval_const) (AS @eval_func @al6))) (AS (AS (AS @al7 @al9) (AS @ama @amm)) (AS (AS @amn @amo) @amp))) (AS (AS (AS (AS @amq @amr) (AS @ams @amt)) (AS (AS @amu @amv) @amw)) (AS (AS (AS @amx @amy) (AS @amz @amA)) (AS (AS @amC @amD) @mF)))))) (AS (AS (AS (AS (AS (AS (AS @alY @alZ) (AS @aaL @amF)) (AS (AS @amH @amb) (AS @amc @amd))) (AS (AS (AS @ame @amf) (AS @amg @amh)) (AS (AS @ami @amI) @amJ))) (AS (AS (AS (AS @amK @amL) (AS @amM @amN)) (AS (AS @amO @amP) (AS @amQ @QE))) (AS (AS (AS @amR @amS) (AS @amT @amU)) (AS (AS @amV @all_nil) @all_cons)))) (AS (AS (AS (AS (AS @amW @amX) (AS @amY @aaM)) (AS (AS @amZ @aaN) (AS @am0 @am1))) (AS (AS (AS @i9 @am2) (AS @am3 @u0)) (AS (AS @am6 @am7) @GE))) (AS (AS (AS (AS @am8 @Es) (AS @aaO @am9)) (AS (AS @zM @aaQ) @yY)) (AS (AS (AS @zN @anK) (AS @anO @anR)) (AS (AS @anS @anT) @anU))))) (AS (AS (AS (AS (AS (AS @anV @anP) (AS @anQ @dn)) (AS (AS @jM @ac) (AS @aM @set_set))) (AS (AS (AS @set_push @zO) (AS @yZ @Fd)) (AS (AS @anI @aoO) @aoP))) (AS (AS (AS (AS @aoQ @aoR) (AS @aoS @aoT)) (AS (AS @aoU @aoV) (AS @List.getElem?_cons_zero.{0} @aBp.{0}))) (AS (AS (AS @bne_self_eq_false.{0} @beq_self_eq_true.{0}) (AS @Option.some.injEq.{0} @azf)) (AS (AS @decide_true @decide_false) @ajF.{0,0})))) (AS (AS (AS (AS (AS @azd.{0,0} @azi.{0,0}) (AS @Option.map_none.{0,0} @Nat.add_zero)) (AS (AS @ayB @D8) (AS @axF.{0} @List.length_nil.{0}))) (AS (AS (AS @azw.{0} @List.drop_succ_cons.{0}) (AS @List.take_succ_cons.{0} @List.take_zero.{0})) (AS (AS @List.take_nil.{0} @List.set_cons_zero.{0}) @List.set_cons_succ.{0}))) (AS (AS (AS (AS @List.nil_append.{0} @axA.{0}) (AS @List.cons_append.{0} @and_true)) (AS (AS @true_and @and_self) @if_true.{1})) (AS (AS (AS @if_false.{1} @Bool.and_true) (AS @Bool.true_and @Bool.and_self)) (AS (AS @Bool.not_true @Bool.not_false) @BY)))))))
theorem ae:type_of% Mi.down:=Mi.down
def Mj:=PLift.up (AS (AS (AS (AS (AS (AS @false_implies @aou) @aov) (AS (AS @aow @aox) @aoy)) (AS (AS (AS @aoz @aoA) @aoB) (AS @aos @aoC))) (AS (AS (AS (AS @aoD @aoE) @aoF) (AS @implies_true.{0} @anh)) (AS (AS (AS @ani @anj) @ank) (AS @anl @anm)))) (AS (AS (AS (AS (AS @ann @ano) @anp) (AS @anq @anr)) (AS (AS (AS @ans @ant) @anu) (AS @anv @anw))) (AS (AS (AS (AS @anx @anz) @anA) (AS @anB @anC)) (AS (AS (AS @anD @anE) @anF) (AS @anG @anH)))))
theorem bw:type_of% Mj.down:=Mj.down
def Mk:=PLift.up (AS (AS (AS (AS (AS @aoZ @ao3) @ao4) (AS (AS @ao5 @ao6) @ao7)) (AS (AS (AS @ao8 @ao9) @apa) (AS (AS @apb @apc) @apd))) (AS (AS (AS (AS @ape @apf) @apg) (AS (AS @aph @api) @VS)) (AS (AS (AS @VT @VU) @ao0) (AS (AS @ao1 @ao2) @not_false_eq_true))))
theorem e4:type_of% Mk.down:=Mk.down
end Go.Proofs.YtemdgidnhgcafaaGreatDoor.Ab
