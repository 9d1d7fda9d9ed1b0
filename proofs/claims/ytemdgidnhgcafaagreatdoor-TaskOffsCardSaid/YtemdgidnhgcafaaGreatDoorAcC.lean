/-
  Rules of the machine on abstract states. Conditions: as each theorem says.
-/
import Derived.Test.YtemdgidnhgcafaaGreatDoorAcB
import Derived.SizedLaws
import Derived.Laws.StructEq
import Derived.Sort.Row
import Derived.Sort.Grow
import Derived.Sort.Statements
open Nat renaming mul_le_mul_right->azl,le_refl->BY,zero_le->Dy,zero_add->ayP,mul_one->ajD,add_mul->axY,eq_zero_or_pos->aCd,zero_mul->aA2,add_assoc->aAk,succ_mul->aBp,mod_lt->aAG,mul_comm->aAz,div_add_mod->aDS,le_trans->ajy,lt_or_ge->aAy,one_mul->aAJ
open List renaming take_of_length_le->ajz,length_drop->azD,length_take->TY,length_map->axT,take_length->azG,length->azx,getElem?_take->azf,getElem?_eq_getElem->IA,drop_eq_getElem_cons->azg,length_append->Dx,getElem?_append_left->aAc,getElem?_append_right->aAd,getElem?_eq_some_iff->are,flatten_cons->aDQ,length_cons->axW,take_add->aBv,drop_drop->aAo,getElem?_of_mem->aBo,drop_zero->azC,mem_append->ayN,mem_cons->Iz,map_cons->axU,mem_map->OF,all_eq_true->ayL,getElem?_drop->azF,eq_nil_of_length_eq_zero->azB,flatMap_cons->azh,take_left'->aAO,getElem?_map->aBx,length_mergeSort->aCf
open Option renaming bind_eq_some_iff->aDR,bind_some->azJ,map_eq_some_iff->azL,map_some->azE
open Array renaming getElem?_eq_some_iff->azj,size_eq_one_iff->aFd,setIfInBounds_comm->aDO,replicate->azZ,getElem?_replicate->aDP,getElem?_toList->azI
open Int renaming toNat_natCast->ayQ
open Bool renaming and_eq_true->ajC,false_or->aCe,or_eq_true->az2,true_and->azR,not_eq_true'->aAL
open Go renaming Program->aOR,TypeId->aOS,IntKind->aOT,FuncId->aOZ,Field->aPa,Value->aOU,World->aOV,Addr->aO2,DataW->aO0,MemPlace->aO7,ResultVar->aO8,Operand->aOW,Oper->aOX,TypeDesc->aO1
set_option linter.unusedVariables false
set_option linter.unusedSimpArgs false
namespace Go.Proofs.YtemdgidnhgcafaaGreatDoor.Ab
open Go Go.RowKit
section
variable {P:aOR} {t e:aOS} {x y v:V} {h:I}
def eX(P:aOR)(t:aOS):Option (List (Nat×Nat) ⊕ Nat) :=
 match Pu P t with
 | some a=>some (.inl a)
 | none=>match Ck P t with
  | some (_,e)=>(cH P e).map .inr
  | none=>none
def PN(zs:Option (List V))(b:Option (List (Nat×Nat) ⊕ Nat))(a:List (Nat×V)):Option V :=
 match zs,b with
 | some zs,some (.inl j)=>(rp (λi=>j[i]?) zs a).map .agg
 | some zs,some (.inr sz)=>(rp (λi=>some (i*sz,sz)) zs a).map .agg
 | _,_=>none
theorem anD{a:List (Nat×V)}:FJ P t a=PN (gV P t) (eX P t) a:=by
 unfold FJ PN eX;cases gV P t with
 | none=>rfl
 | some zs=>
  cases Pu P t with
  | some i=>rfl
  | none=>
   simp only;cases Ck P t with
   | none=>rfl
   | some p=>
    obtain⟨n,e⟩:=p;simp only;cases cH P e<;>rfl
theorem anE{zs:List V}{j:List (Nat×Nat)}{a:List (Nat×V)}:PN (some zs) (some (.inl j)) a=(rp (λi=>j[i]?) zs a).map .agg:=nr rfl
theorem anF{zs:List V}{sz:Nat}{a:List (Nat×V)}:PN (some zs) (some (.inr sz)) a=(rp (λi=>some (i*sz,sz)) zs a).map .agg:=nr rfl
theorem anG{a:Nat->Option (Nat×Nat)}{cs:List V}:rp a cs []=some cs:=nr rfl
def UH(a:Nat->Option (Nat×Nat))(cs:List V)(p:Option (Nat×Nat))(vs:Option (List V))(r:List (Nat×V)):Option (List V) :=
 match p,vs with
 | some (off,size),some vs=>if vs.length=size/\off+size<=cs.length then rp a (tA cs off vs) r else none
 | _,_=>none
theorem anH{a:Nat->Option (Nat×Nat)}{cs:List V}{i:Nat}{r:List (Nat×V)}:rp a cs ((i,v)::r)=UH a cs (a i) v.cells r:=by
 show(match a i,v.cells with|some (off,size),some j=>_|_,_=>none)=_
 unfold UH;rfl
theorem anI{a:Nat->Option (Nat×Nat)}{cs vs:List V}{off size:Nat}{r:List (Nat×V)}:UH a cs (some (off,size)) (some vs) r=if vs.length=size/\off+size<=cs.length then rp a (tA cs off vs) r else none:=nr rfl
def UI(P:aOR)(t:aOS)(k:Nat):Option (Nat×Option Nat) :=
 match P.underlying t with
 | some (.struct a)=>match a[k]? with
  | some f=>match nX P f.type,cH P f.type with
   | some true,some n=>some (f.offset,some n)
   | some false,some _=>some (f.offset,none)
   | _,_=>none
  | none=>none
 | _=>none
def UJ(p:Option (Nat×Option Nat))(x:V):Option V :=
 match p,x with
 | some (off,some n),.agg a=>some (.agg ((a.drop off).take n))
 | some (off,none),.agg a=>a[off]?
 | _,_=>none
theorem anJ{k:Nat}:IM P t x k=UJ (UI P t k) x:=by
 unfold IM UJ UI;cases P.underlying t with
 | none=>rfl
 | some d=>
  cases d<;>try rfl
  rename_i j;cases a:j[k]? with
  | none=>cases x<;>simp[a]
  | some f=>
   cases i:nX P f.type with
   | none=>cases x<;>simp[a,i,ul]
   | some b=>cases b<;>cases m:cH P f.type<;>cases x<;>simp[a,i,m,ul]
theorem anK{off:Nat}{cs:List V}:UJ (some (off,none)) (.agg cs)=cs[off]?:=nr rfl
theorem Cv{sz:Nat}(h:dC P t=some sz):∃e,P.underlying t=some (.slice e)/\cH P e=some sz:=by
 unfold dC at h;split at h
 ·rename_i e a;exact⟨e,a,h⟩
 ·cases h
theorem aaj{sz n:Nat}{cs:List V}{a i:Option V}{l m:Nat}(j:dC P t=some sz)(q:lY a=some l)(s:eV n i=some m)(u:l<=m)(z:m<=n)(av:cs.length=n*sz) :
  kx P t (.af n cs) a i none=some (.af (m-l) ((cs.drop (l*sz)).take ((m-l)*sz))):=by
 obtain⟨e,A,B⟩:=Cv j;unfold kx;have C:eV n (none:Option V)=some n:=rfl;simp only[A,B,q,s,C];have:l*sz<=cs.length:=by rw[av];exact azl _ (by omega)
 simp[Ch,u,z,this]
theorem aak{sz n:Nat}{cs:List V}{k:aOT}{l:Int}(a:dC P t=some sz)(i:0<=l)(j:l<=n)(av:cs.length=n*sz) :
  kx P t (.af n cs) (some (.int k l)) none none=some (.af (n-l.toNat) (cs.drop (l.toNat*sz))):=by
 rw[aaj a (l:=l.toNat) (m:=n) (by simp[lY,xp,i]) rfl (by omega) (BY _) av]
 rw[ajz];rw[azD,av,Nat.sub_mul]
 first|done|exact BY _
theorem anL{sz n:Nat}{cs:List V}{k:aOT}{m:Int}(a:dC P t=some sz)(i:0<=m)(j:m<=n)(av:cs.length=n*sz) :
  kx P t (.af n cs) none (some (.int k m)) none=some (.af m.toNat (cs.take (m.toNat*sz))):=by
 rw[aaj a (l:=0) (m:=m.toNat) rfl (by simp[eV,xp,i]) (Dy _) (by omega) av]
 simp
theorem I6{sz n:Nat}{cs:List V}{k:aOT}{i:Int}(a:dC P t=some sz)(j:0<=i)(m:i<n)(av:cs.length=n*sz) :
  gP P t (.af n cs) (.int k i)=some (.at (cs.drop (i.toNat*sz))):=by
 rw[d6,a,Z3,if_pos ⟨j,m,by rw[av];exact azl _ (by omega)⟩]
def KK(T:Option lM)(len:Nat)(a:List (Nat×V))(h:I):Option (V×I) :=
 match T with
 | some T=>if len*T.sz<=2^24/\len<=2^24 then(rp (λi=>some (i*T.sz,T.sz)) (made T.zs len) a).map λj=>(.bg h.n 0 len len,h.push (.cells j T.e none))else none
 | none=>none
theorem mD{len:Nat}{a:List (Nat×V)}{T:lM}(j:gp P t=some T):h3 P t len a h=KK (some T) len a h:=by
 obtain⟨m,q,bl,u,s,_⟩:=uS j;unfold h3 KK;simp only[m,bl,q,s,true_and];split
 ·cases rp (λi=>some (i*T.sz,T.sz)) (made T.zs len) a<;>rfl
 ·rfl
theorem PO{T:lM}{l c:Nat}{k k':aOT}(a:gp P t=some T)(i:l<=c)(j:T.aq*c<=140737488355328)(m:c<=140737488355328) :
  AQ P t (.int k (l:Int)) (.int k' (c:Int)) h=some (.bg h.n 0 l c,h.push (.cells (made T.zs c) T.e none)):=by
 obtain⟨q,s,bl,u,z,_⟩:=uS a;unfold AQ;simp[q,xp,s,u,bl,z,i,j,m]
theorem aal{T:lM}{tx:aOS}{i cap n:Nat}{c cs:List V}{src:V}{h:I}(u:gp P t=some T)(m:h.get i=.cells c T.e none)(a:zm src=some n)(q:vh T.sz n src h=some cs)
  (z:cs.all (·.one)=true) (A:cs.length<=c.length) :
  ∃h',xq P t (.bg i 0 n cap) src h=some (.int .i64 n,h')/\h'=h.set i (.cells (lay c 0 cs) T.e none):=by
 obtain⟨B,F,bl,G,H,_⟩:=uS u;have C:Nat.min n n=n:=Nat.min_self _;unfold xq;simp only[B,bl,a,C,q];by_cases j:n=0
 ·subst j;have D:cs=[]:=by
   have:=(E q);simpa using this
  subst D;refine⟨h,by simp,?_⟩
  rw[show lay c 0 []=c by simp[lay]]
  exact(Uy m).symm
 ·rw[if_neg j];simp only[m,ayP];rw[if_pos ⟨A,z⟩];exact⟨_,rfl,rfl⟩
where
 E {sz n:Nat} {x:V} {h:I} {s:List V} (a:vh sz n x h=some s):s.length=n*sz:=by
  unfold vh at a;split at a
  ·split at a
   ·rename_i j;simp at a;subst a;simp[j]
   ·cases a
  ·split at a
   ·rename_i j;simp at a;subst a;simp[j]
   ·cases a
  ·split at a
   ·split at a
    ·simp at a;subst a;simp;omega
    ·cases a
   ·cases a
  ·split at a
   ·simp at a;subst a;simp;omega
   ·cases a
  ·split at a
   ·rename_i av;simp at a;subst a;have:=byteCells_length;rw[TY,axT,this];rw[av.1];omega
   ·cases a
  ·cases a
end
theorem sa.refl(f:aj)(h:I):sa f h f h:=fun ρ B s w n a i j=>⟨ρ,Ren.le.refl ρ,i,j⟩
theorem sa.trans{f i j:aj}{h s u:I}(a:sa f h i s)(b:sa i s j u):sa f h j u:=fun ρ B z w n x A C=>
 let ⟨ρ1,D,E,F⟩:=a ρ B z w n x A C
 let ⟨ρ2,G,H,L⟩:=b ρ1 B z w n x E F
 ⟨ρ2,D.trans G,H,L⟩
theorem b4.args{P:aOR}{bE:aOZ}{args z:List V}{h A:I}{R:V->I->Prop}{E:I->Prop}(av:aA args h z A)(F:b4 P bE z A R E):b4 P bE args h R E:=by
 intro ρ B C w i G aT;obtain⟨ρ1,D,H,L⟩:=av ρ B C w _ G aT;refine(F ρ1 B C w i H L).mono λe w' U=>?_;rcases U with⟨ρ',r,M,h',s,N,u,j,O⟩|⟨ρ',Q,h',s,S,u,j,T⟩
 ·exact .inl ⟨ρ',r,M,h',s,N,u,D.trans j,O⟩
 ·exact .inr ⟨ρ',Q,h',s,S,u,D.trans j,T⟩
theorem au.args{P:aOR}{bE:aOZ}{args i:List V}{h j:I}{R:V->I->Prop}(av:aA args h i j)(s:au P bE i j R):au P bE args h R:=b4.args av s
theorem aF.lit{h:I}{c:List V}{e:aOS}{n sz:Nat}(av:c.length=n*sz)(s:n<b7)(bl:0<sz):∃i,aF (.bg h.n 0 n n) (h.push (.cells c e none)) (.af n c) i/\J h i none_:=by
 have j:=Own.fresh (h:=h) (e:=e) c n n av (BY _) s;rw[<-av,azG]at j;obtain⟨i,u,z⟩:=aF.own j av bl;exact⟨i,u,(J.push h _ none_).trans z λk B A=>by simp[a7,aU]at A;omega⟩
variable {P:aOR} {t:aOS} {T:lM}
theorem PQ{k:aOT}{n:Nat}:lY (some (.int k (n:Int)))=some n:=by simp[lY,xp]
theorem anM{k:aOT}{l n:Nat}:eV l (some (.int k (n:Int)))=some n:=by simp[eV,xp]
theorem KL{kk:aOT}(D:dC P t=some 1){h:I}{e:aOS}{v:V}{cs:List V}(s:Own h e 1 v cs){k:Nat}(m:k<cs.length) :
  ∃i,gP P t v (.int kk (k:Int))=some (.ptr i k)/\aU v=some i/\(∃r,cO (h.get i) k=some (cs[k]::r)) /\
   ∀x,x.one=true->∃ob,bA (some 1) (h.get i) k [x]=some ob/\Own (h.set i ob) e 1 v (cs.set k x)/\J h (h.set i ob) (a7 v):=by
 rcases s with⟨_,rfl⟩|⟨i,j,cap,c,z,rfl,hi,A,a,q,B⟩
 ·simp at m
 ·simp only[ajD]at a q B;have F:j<=c.length:=by
   have:=congrArg azx q;rw[TY,a]at this;omega
  have C:cs[k]?=c[k]?:=by rw[<-q,azf,if_pos (by omega)]
  have u:k<c.length:=by omega
  have E:cs[k]=c[k]:=by
   rw[IA m,IA u]at C;exact Option.some.inj C
  refine⟨i,?_,rfl,⟨c.drop (k+1),?_⟩,λx s=>?_⟩
  ·rw[d6,D,Ut,if_pos ⟨by omega,by omega⟩]
   simp
  ·rw[A,Kw,if_pos (by omega),azg u,E]
  ·refine⟨.cells (c.set k x) e z,?_,.inr ⟨i,j,cap,c.set k x,z,rfl,hi,by simp[I.set],by simp[a],?_,?_⟩,(J.set h i _).mono λk m=>by subst m;rfl⟩
   ·rw[A,rA s,if_pos u]
   ·rw[ajD,<-q,List.take_set]
   ·simpa using B
theorem aam{h:I}{e:aOS}{v:V}{cs:List V}{sz:Nat}(q:Own h e sz v cs)(z:0<sz):∃n,zm v=some n/\cs.length=n*sz/\vh sz n v h=some cs:=by
 rcases q with⟨rfl|rfl,rfl⟩|⟨i,j,cap,c,A,rfl,hi,s,a,m,B⟩
 ·exact⟨0,rfl,by simp,rfl⟩
 ·exact⟨0,rfl,by simp,rfl⟩
 ·have u:j*sz<=c.length:=by
   have:=congrArg azx m;rw[TY,a]at this;omega
  exact⟨j,rfl,a,by simp[vh,s,u,m]⟩
theorem aan{tx:aOS}(q:gp P t=some T){h:I}{src:V}{n:Nat}{cs:List V}{k k':aOT}(u:zm src=some n)(z:∀h',J h h' none_->vh T.sz n src h'=some cs)(A:cs.all (·.one)=true)(a:cs.length=n*T.sz)
  (j:T.aq*n<=140737488355328) (m:n<=140737488355328) :
  ∃j m,AQ P t (.int k (n:Int)) (.int k' (n:Int)) h=some (.bg h.n 0 n n,j)/\xq P t (.bg h.n 0 n n) src j=some (.int .i64 n,m)/\Own m T.e T.sz (.bg h.n 0 n n) cs/\J h j none_/\J h m none_:=by
 obtain⟨D,E,bl,F,B,_⟩:=uS q;have C:(made T.zs n).length=n*T.sz:=by rw[FE,B]
 have s:J h (h.push (.cells (made T.zs n) T.e none)) none_:=J.push _ _ _;obtain⟨G,av,rfl⟩:=aal (P:=P) (t:=t) (T:=T) (tx:=t) (i:=h.n) (cap:=n) (c:=made T.zs n) (src:=src) (h:=h.push (.cells (made T.zs n) T.e none)) q fv u (z _ s) A (by omega)
 refine⟨_,_,PO q (BY _) j m,av,.inr ⟨h.n,n,n,_,none,rfl,?_,aL,a,?_,.inl ⟨by unfold b7;omega,?_,BY _⟩⟩,s,s.kB (BY _) _⟩
 ·rw[kj,df];omega
 ·simp[lay,a]
 ·rw[r6 _ _ _ (by omega),C];exact BY _
inductive j1 where
 | bool|int (k:aOT)|str|bg (s:j1)|unit|cat (a b:j1)
def j1.width:j1->Nat
 | .unit=>0
 | .cat a b=>a.width+b.width
 | _=>1
def j1.fits:j1->List V->Prop
 | .bool,l=>∃b,l=[.bool b]
 | .int k,l=>∃n,l=[.int k n]/\(Lit.int k n).wf=true
 | .str,l=>∃s,l=[.string s]
 | .bg s,l=>∃es:List (List V),l=[.af es.length es.flatten]/\∀e∈es,s.fits e
 | .unit,l=>l=[]
 | .cat a b,l=>∃i j,l=i++j/\a.fits i/\b.fits j
theorem j1.qO:∀{s:j1} {l:List V},s.fits l->l.length=s.width
 | .bool,_,⟨_,h⟩=>by subst h;rfl
 | .int _,_,⟨_,h,_⟩=>by subst h;rfl
 | .str,_,⟨_,h⟩=>by subst h;rfl
 | .bg _,_,⟨_,h,_⟩=>by subst h;rfl
 | .unit,_,h=>by have:_=[]:=h;subst this;rfl
 | .cat a b,_,⟨u,z,h,i,j⟩=>by subst h;rw[Dx,j1.qO i,j1.qO j];rfl
def Cx(P:aOR)(g:aOS->Option j1):Nat->List aPa->Option j1
 | _,[]=>some .unit
 | o,f::a=>
  if f.offset=o then
   match g f.type,Cx P g (o+P.cellsOf f.type) a with
   | some s,some r=>if s.width=P.cellsOf f.type then some (.cat s r)else none
   | _,_=>none
  else none
def shapeOf(P:aOR):Nat->aOS->Option j1
 | 0,_=>none
 | n+1,t=>
  match P.underlying t with
  | some .bool=>some .bool
  | some (.int k)=>some (.int k)
  | some .string=>some .str
  | some (.slice e)=>match shapeOf P n e with|some s=>if s.width=P.cellsOf e/\0<s.width then some (.bg s)else none|none=>none
  | some (.struct a)=>match Cx P (shapeOf P n) 0 a.toList with|some s=>if s.width=P.cellsOf t then some s else none|none=>none
  | _=>none
theorem PR{α:Type}{eL:Nat->α->Prop}:∀(n:Nat),(∀i,i<n->∃e,eL i e)->∃es:List α,es.length=n/\∀i e,es[i]?=some e->eL i e
 | 0,_=>⟨[],rfl,by simp⟩
 | n+1,h=>by
  obtain⟨es,j,m⟩:=PR n λi hi=>h i (by omega)
  obtain⟨e,q⟩:=h n (by omega)
  refine⟨es++[e],by simp[j],λi x a=>?_⟩
  by_cases hi:i<es.length
  ·rw[aAc hi]at a;exact m i x a
  ·rw[aAd (by omega)]at a
   have:i-es.length=0:=by
    have:=(are.1 a).1;simp at this;omega
   rw[this]at a;simp at a;subst a;rw[show i=n by omega]
   exact q
theorem PS{α:Type}{sz:Nat}(a:0<sz):∀{es:List (List α)} {k:Nat} {v:α},(∀e∈es,e.length=sz)->es.flatten[k]?=some v->∃e,es[k / sz]?=some e/\e[k % sz]?=some v
 | [],k,v,_,h=>by simp at h
 | e::es,k,v,i,h=>by
  have m:=i e (by simp)
  rw[aDQ]at h;by_cases j:k<sz
  ·rw[aAc (by omega)]at h
   exact⟨e,by rw[Nat.div_eq_of_lt j];rfl,by rw[Nat.mod_eq_of_lt j];exact h⟩
  ·rw[aAd (by omega),m]at h
   obtain⟨x,q,s⟩:=PS a (λe h=>i e (by simp[h])) h
   refine⟨x,?_,?_⟩
   ·rw[show k / sz=(k-sz) / sz+1 by rw[Nat.div_eq_sub_div a (by omega)]]
    simpa using q
   ·rw[Nat.mod_eq_sub_mod (by omega)];exact s
theorem PT{α:Type}{sz:Nat}:∀{es:List (List α)},(∀e∈es,e.length=sz)->es.flatten.length=es.length*sz
 | [],_=>by simp
 | e::es,h=>by
  rw[aDQ,Dx,h e (by simp),PT λe a=>h e (by simp[a]),axW,axY]
  omega
section
variable {H:Type} {enc:aOS×aOU->H} {P:aOR} {w:aOV} {base:Nat} {spare:Nat->Bool} {held:Bool}
theorem UK{a:aO2}{n:Nat}{cs:List aOU}(h:w.cells? base a n=some cs):cs.length=n/\∀j,j<n->w.cell? (a.add j)=cs[j]?:=by
 unfold aOV.cells? at h;split at h
 case isFalse=>cases h
 exact⟨by simpa using mapM_some_length h,λj i=>by simpa using mapM_some_get h j j (by simp[i])⟩
theorem aao{g:aOS->Option j1}{cs:List aOU}{fu:Nat}(z:∀t s j cs x,g t=some s->aO0.trod enc P w base spare held j t cs=some x->∃l,s.fits l/\a6 (kl w) l cs) :
  ∀(m:List aPa) (o:Nat) (s:j1) (xs:List (aO0 H×List aO7)),Cx P g o m=some s->xs.length=m.length ->
   (∀(i:Nat) (f:aPa),m[i]?=some f->aO0.trod enc P w base spare held fu f.type ((cs.drop f.offset).take (P.cellsOf f.type))=xs[i]?)->∃l,s.fits l/\a6 (kl w) l ((cs.drop o).take s.width)
 | [],o,s,xs,a,_,_=>by
  simp[Cx]at a;subst a;exact⟨[],rfl,by simpa [j1.width]using a6.nil _⟩
 | f::m,o,s,xs,a,A,B=>by
  unfold Cx at a;split at a
  case isFalse=>cases a
  rename_i E;split at a
  case h_2=>cases a
  rename_i q u F G;split at a
  case isFalse=>cases a
  rename_i L;obtain rfl:=Option.some.inj a;cases xs with
  | nil=>simp at A
  | cons x xs=>
   have M:=B 0 f rfl;obtain⟨C,N,cL⟩:=z _ _ _ _ _ F M;obtain⟨D,O,dB⟩:=aao z m _ u xs G (by simpa using A) λi Q R=>B (i+1) Q (by simpa using R)
   refine⟨C++D,⟨C,D,rfl,N,O⟩,?_⟩;have:=cL.append dB;rw[E,<-L]at this;have e:((cs.drop o).take q.width)++((cs.drop (o+q.width)).take u.width)=(cs.drop o).take (q.width+u.width):=by
    rw[aBv,aAo]
   rw[e]at this;exact this
theorem reads:∀(n:Nat) (t:aOS) (s:j1) (A:Nat) (cs:List aOU) (x:aO0 H×List aO7),shapeOf P n t=some s->aO0.trod enc P w base spare held A t cs=some x->∃l,s.fits l/\a6 (kl w) l cs
 | 0,_,_,_,_,_,u,_=>by simp[shapeOf]at u
 | n+1,t,s,A,cs,x,u,h=>by
  unfold shapeOf at u;split at u
  ·rename_i B;obtain rfl:=Option.some.inj u;obtain⟨b,rfl,_⟩:=aO0.trod_bool B h;exact⟨[.bool b],⟨b,rfl⟩,.cons (.bool b) (.nil _)⟩
  ·rename_i k B;obtain rfl:=Option.some.inj u;obtain⟨m,rfl,_,F⟩:=aO0.trod_int B h;exact⟨[.int k m],⟨m,rfl,F⟩,.cons (.int k m) (.nil _)⟩
  ·rename_i B;obtain rfl:=Option.some.inj u;obtain⟨b,rfl,_⟩:=aO0.trod_string B h;exact⟨[.string b],⟨b,rfl⟩,.cons (.string b) (.nil _)⟩
  ·rename_i e B;split at u
   case h_2=>cases u
   rename_i q gb;split at u
   case isFalse=>cases u
   rename_i F;obtain rfl:=Option.some.inj u;rcases aO0.trod_slice B h with⟨rfl,_⟩|⟨a,z,cap,L,rest,m,_,rfl,_,_,lG,_,ru,qN,_⟩
   ·exact⟨[.af 0 []],⟨[],rfl,by simp⟩,.cons (.fD none 0 (by simp)) (.nil _)⟩
   ·rcases aCd z with aG|dp
    ·subst aG;exact⟨[.af 0 []],⟨[],rfl,by simp⟩,.cons (.fD (some a) cap (by simp)) (.nil _)⟩
    ·have O:∀i,i<z->∃l:List V,q.fits l/\∃C:List aOU,a6 (kl w) l C/\∀j,j<q.width->w.cell? ((a.add (i*q.width)).add j)=C[j]?/\j<C.length:=λi hi=>by
      have N:=qN i hi;have Q:∃y,L[i]?=some y:=⟨_,IA (by omega)⟩
      obtain⟨y,bk⟩:=Q;rw[bk,aDR]at N;obtain⟨C,qt,qp⟩:=N;obtain⟨l,f1,cL⟩:=reads n e q m C y gb qp;rw[<-F.1]at qt;obtain⟨g1,g2⟩:=UK qt;exact⟨l,f1,C,cL,λj R=>⟨g2 j R,by omega⟩⟩
     obtain⟨M,tQ,S⟩:=PR z O;have e3:∀e∈M,q.fits e:=λe he=>by
      obtain⟨i,hi⟩:=aBo he;exact(S i e hi).1
     have G:∀e∈M,e.length=q.width:=λe he=>j1.qO (e3 e he);obtain⟨b,off,sp⟩:=a;have jy:∃v,w.cell? ⟨b,off,sp⟩=some v:=by
      obtain⟨_,C,_,av⟩:=(S 0 M[0] (IA (by omega)))
      obtain⟨D,W⟩:=av 0 F.2;rw[aA2]at D;simp only[aO2.add,if_true]at D;exact⟨_,D.trans (IA W)⟩
     obtain⟨v0,X⟩:=jy;have ak:∃E Y Z,w.heap[b]?=some (.cells E Y Z)/\sp=none:=by
      unfold aOV.cell? at X;split at X
      ·rename_i c Y Z ab;refine⟨c,Y,Z,ab,?_⟩;cases sp with
       | none=>rfl
       | some _=>simp at X
      ·cases X
     obtain⟨E,Y,Z,ak,rfl⟩:=ak;have wa:∀m,w.cell? (aO2.add ⟨b,off,none⟩ m)=E[off+m]?:=λm=>by
      rw[aO2.add_mid];simp[aOV.cell?,ak]
     have rE:∀i j,j<q.width->w.cell? ((aO2.add ⟨b,off,none⟩ (i*q.width)).add j)=E[off+(i*q.width+j)]?:=λi j _=>by
      rw[aO2.add_mid,aO2.add_mid];simp[aOV.cell?,ak,aAk]
     refine⟨[.af M.length M.flatten],⟨M,rfl,e3⟩,.cons ?_ (.nil _)⟩;rw[tQ];refine .af off z cap (KF ak) lG ?_ λk v v' N Q=>?_
     ·rw[PT G,tQ];obtain⟨_,C,_,av⟩:=(S (z-1) M[z-1] (IA (by omega)))
      obtain⟨D,W⟩:=av (q.width-1) (by omega)
      rw[rE _ _ (by omega),IA W]at D
      have fp:=(azj.1 D).1;have:(z-1)*q.width+q.width=z*q.width:=by
       rw[<-aBp];congr 1;omega
      omega
     ·obtain⟨ay,g1,g2⟩:=PS F.2 G N;obtain⟨_,C,aJ,av⟩:=S _ ay g1;have R:k % q.width<q.width:=aAG _ F.2;obtain⟨D,W⟩:=av _ R;rw[rE _ _ R,show k / q.width*q.width+k % q.width=k by rw[aAz];exact aDS k q.width,Q]at D
      exact aJ.2 _ _ _ g2 D.symm
  ·rename_i dr B;split at u
   case h_2=>cases u
   rename_i q gb;split at u
   case isFalse=>cases u
   rename_i F;obtain rfl:=Option.some.inj u;obtain⟨xs,m,_,_,cM,ot,ah⟩:=aO0.trod_struct B h;obtain⟨l,f1,cL⟩:=aao (fu:=m) (λt s A cs x N Q=>reads n t s A cs x N Q) dr.toList 0 q xs gb (by simpa using ot) λi f az=>ah i f (by simpa using az)
   rw[azC,F,<-cM,azG]at cL;exact⟨l,f1,cL⟩
  ·cases u
end
def j1.h7:j1->List V->Prop
 | .bool,l=>∃b,l=[.bool b]
 | .int k,l=>∃n,l=[.int k n]/\(Lit.int k n).wf=true
 | .str,l=>∃s,l=[.string s]
 | .bg s,l=>∃es:List (List V),l=[.af es.length es.flatten]/\es.length<2^47/\∀e∈es,s.h7 e
 | .unit,l=>l=[]
 | .cat a b,l=>∃i j,l=i++j/\a.h7 i/\b.h7 j
theorem j1.pG:∀{s:j1} {l:List V},s.h7 l->l.length=s.width
 | .bool,_,⟨_,h⟩=>by subst h;rfl
 | .int _,_,⟨_,h,_⟩=>by subst h;rfl
 | .str,_,⟨_,h⟩=>by subst h;rfl
 | .bg _,_,⟨_,h,_⟩=>by subst h;rfl
 | .unit,_,h=>by have:_=[]:=h;subst this;rfl
 | .cat a b,_,⟨u,z,h,i,j⟩=>by subst h;rw[Dx,j1.pG i,j1.pG j];rfl
def FX(P:aOR):Nat->aOS->Option j1
 | 0,_=>none
 | n+1,t=>
  match P.underlying t with
  | some .bool=>some .bool
  | some (.int k)=>some (.int k)
  | some .string=>some .str
  | some (.slice e)=>match FX P n e with|some s=>if s.width=P.cellsOf e/\0<s.width/\1<=P.bytesOf e then some (.bg s)else none|none=>none
  | some (.struct a)=>match Cx P (FX P n) 0 a.toList with|some s=>if s.width=P.cellsOf t then some s else none|none=>none
  | _=>none
theorem UL{H:Type}{P:aOR}{e:aOS}{n:Nat}:∀{l:List (aO0 H)} {d:aO0 H},d∈l->n∈d.weights P e->n∈aO0.weightsAll P e l
 | [],_,h,_=>by simp at h
 | x::l,d,h,a=>by
  simp only[aO0.weightsAll,ayN];rcases Iz.1 h with rfl|h
  ·exact .inl a
  ·exact .inr (UL h a)
section
variable {H:Type} {enc:aOS×aOU->H} {P:aOR} {w:aOV} {base:Nat} {spare:Nat->Bool} {held:Bool}
theorem aap{g:aOS->Option j1}{cs:List aOU}{fu:Nat}(A:∀t s m cs x,g t=some s->aO0.trod enc P w base spare held m t cs=some x->(∀n∈x.1.weights P t,n<=reachBytes)->∃l,s.h7 l/\a6 (kl w) l cs) :
  ∀(j:List aPa) (o:Nat) (s:j1) (xs:List (aO0 H×List aO7)),Cx P g o j=some s->xs.length=j.length ->
   (∀(i:Nat) (f:aPa),j[i]?=some f->aO0.trod enc P w base spare held fu f.type ((cs.drop f.offset).take (P.cellsOf f.type))=xs[i]?)->(∀n∈aO0.weightsEach P (j.map (·.type)) (xs.map (·.1)),n<=reachBytes)->∃l,s.h7 l/\a6 (kl w) l ((cs.drop o).take s.width)
 | [],o,s,xs,a,_,_,_=>by
  simp[Cx]at a;subst a;exact⟨[],rfl,by simpa [j1.width]using a6.nil _⟩
 | f::j,o,s,xs,a,B,C,ak=>by
  unfold Cx at a;split at a
  case isFalse=>cases a
  rename_i F;split at a
  case h_2=>cases a
  rename_i q u G L;split at a
  case isFalse=>cases a
  rename_i M;obtain rfl:=Option.some.inj a;cases xs with
  | nil=>simp at B
  | cons x xs=>
   have N:=C 0 f rfl;obtain⟨D,O,cL⟩:=A _ _ _ _ _ G N (λn z=>ak n (by simp only[axU,aO0.weightsEach,ayN];exact .inl z))
   obtain⟨E,Q,dB⟩:=aap A j _ u xs L (by simpa using B) (λi R S=>C (i+1) R (by simpa using S)) (λn z=>ak n (by simp only[axU,aO0.weightsEach,ayN];exact .inr z))
   refine⟨D++E,⟨D,E,rfl,O,Q⟩,?_⟩;have:=cL.append dB;rw[F,<-M]at this;have e:((cs.drop o).take q.width)++((cs.drop (o+q.width)).take u.width)=(cs.drop o).take (q.width+u.width):=by
    rw[aBv,aAo]
   rw[e]at this;exact this
theorem UM:∀(n:Nat) (t:aOS) (s:j1) (A:Nat) (cs:List aOU) (x:aO0 H×List aO7),FX P n t=some s->aO0.trod enc P w base spare held A t cs=some x->(∀n∈x.1.weights P t,n<=reachBytes)->∃l,s.h7 l/\a6 (kl w) l cs
 | 0,_,_,_,_,_,u,_,_=>by simp[FX]at u
 | n+1,t,s,A,cs,x,u,h,b3=>by
  unfold FX at u;split at u
  ·rename_i B;obtain rfl:=Option.some.inj u;obtain⟨b,rfl,_⟩:=aO0.trod_bool B h;exact⟨[.bool b],⟨b,rfl⟩,.cons (.bool b) (.nil _)⟩
  ·rename_i k B;obtain rfl:=Option.some.inj u;obtain⟨m,rfl,_,D⟩:=aO0.trod_int B h;exact⟨[.int k m],⟨m,rfl,D⟩,.cons (.int k m) (.nil _)⟩
  ·rename_i B;obtain rfl:=Option.some.inj u;obtain⟨b,rfl,_⟩:=aO0.trod_string B h;exact⟨[.string b],⟨b,rfl⟩,.cons (.string b) (.nil _)⟩
  ·rename_i e B;split at u
   case h_2=>cases u
   rename_i q gb;split at u
   case isFalse=>cases u
   rename_i D;obtain rfl:=Option.some.inj u;rcases aO0.trod_slice B h with⟨rfl,_⟩|⟨a,z,cap,C,rest,m,_,rfl,R,_,lG,_,ru,qN,_⟩
   ·exact⟨[.af 0 []],⟨[],rfl,by decide,by simp⟩,.cons (.fD none 0 (by simp)) (.nil _)⟩
   ·rcases aCd z with aG|dp
    ·subst aG;exact⟨[.af 0 []],⟨[],rfl,by decide,by simp⟩,.cons (.fD (some a) cap (by simp)) (.nil _)⟩
    ·have Q:∀i,i<z->∃l:List V,q.h7 l/\∃E:List aOU,a6 (kl w) l E/\∀j,j<q.width->w.cell? ((a.add (i*q.width)).add j)=E[j]?/\j<E.length:=λi hi=>by
      have N:=qN i hi;have O:∃y,C[i]?=some y:=⟨_,IA (by omega)⟩
      obtain⟨y,bk⟩:=O;rw[bk,aDR]at N;obtain⟨E,qt,qp⟩:=N;obtain⟨l,f1,cL⟩:=UM n e q m E y gb qp (λn aB=>b3 n (by
       rw[R];simp only[aO0.weights,B];exact List.mem_cons_of_mem _ (List.mem_append_left _ (UL (OF.2 ⟨y,List.mem_of_getElem? bk,rfl⟩) aB))))
      rw[<-D.1]at qt;obtain⟨g1,g2⟩:=UK qt;exact⟨l,f1,E,cL,λj S=>⟨g2 j S,by omega⟩⟩
     obtain⟨L,tQ,W⟩:=PR z Q;have e3:∀e∈L,q.h7 e:=λe he=>by
      obtain⟨i,hi⟩:=aBo he;exact(W i e hi).1
     have M:∀e∈L,e.length=q.width:=λe he=>j1.pG (e3 e he);obtain⟨b,off,sp⟩:=a;have jy:∃v,w.cell? ⟨b,off,sp⟩=some v:=by
      obtain⟨_,E,_,av⟩:=(W 0 L[0] (IA (by omega)))
      obtain⟨F,X⟩:=av 0 D.2.1;rw[aA2]at F;simp only[aO2.add,if_true]at F;exact⟨_,F.trans (IA X)⟩
     obtain⟨v0,Y⟩:=jy;have ak:∃G Z gh,w.heap[b]?=some (.cells G Z gh)/\sp=none:=by
      unfold aOV.cell? at Y;split at Y
      ·rename_i c Z gh ab;refine⟨c,Z,gh,ab,?_⟩;cases sp with
       | none=>rfl
       | some _=>simp at Y
      ·cases Y
     obtain⟨G,Z,gh,ak,rfl⟩:=ak;have wa:∀m,w.cell? (aO2.add ⟨b,off,none⟩ m)=G[off+m]?:=λm=>by
      rw[aO2.add_mid];simp[aOV.cell?,ak]
     have rE:∀i j,j<q.width->w.cell? ((aO2.add ⟨b,off,none⟩ (i*q.width)).add j)=G[off+(i*q.width+j)]?:=λi j _=>by
      rw[aO2.add_mid,aO2.add_mid];simp[aOV.cell?,ak,aAk]
     have bl:L.length<2^47:=by
      have aG:=b3 ((C.length+rest.length)*P.bytesOf e) (by rw[R];simp[aO0.weights,B])
      have N:=ajy (Nat.le_mul_of_pos_right _ D.2.2) aG;have O:=reachBytes_lt;omega
     refine⟨[.af L.length L.flatten],⟨L,rfl,bl,e3⟩,.cons ?_ (.nil _)⟩;rw[tQ];refine .af off z cap (KF ak) lG ?_ λk v v' N O=>?_
     ·rw[PT M,tQ];obtain⟨_,E,_,av⟩:=(W (z-1) L[z-1] (IA (by omega)))
      obtain⟨F,X⟩:=av (q.width-1) (by omega)
      rw[rE _ _ (by omega),IA X]at F
      have fp:=(azj.1 F).1;have:(z-1)*q.width+q.width=z*q.width:=by
       rw[<-aBp];congr 1;omega
      omega
     ·obtain⟨ay,g1,g2⟩:=PS D.2.1 M N;obtain⟨_,E,aJ,av⟩:=W _ ay g1;have S:k % q.width<q.width:=aAG _ D.2.1;obtain⟨F,X⟩:=av _ S;rw[rE _ _ S,show k / q.width*q.width+k % q.width=k by rw[aAz];exact aDS k q.width,O]at F
      exact aJ.2 _ _ _ g2 F.symm
  ·rename_i dr B;split at u
   case h_2=>cases u
   rename_i q gb;split at u
   case isFalse=>cases u
   rename_i D;obtain rfl:=Option.some.inj u;obtain⟨xs,m,_,R,cM,ot,ah⟩:=aO0.trod_struct B h;obtain⟨l,f1,cL⟩:=aap (fu:=m) (λt s A cs x N O aC=>UM n t s A cs x N O aC) dr.toList 0 q xs gb (by simpa using ot) (λi f az=>ah i f (by simpa using az)) (λn aB=>b3 n (by rw[R];simp only[aO0.weights,B];exact aB))
   rw[azC,D,<-cM,azG]at cL;exact⟨l,f1,cL⟩
  ·cases u
theorem wl{n:Nat}{t e:aOS}{s:j1}{a:Option aO2}{len cap:Nat}{d:aO0 H}{j:List aO7}(m:P.underlying t=some (.slice e))(q:FX P n e=some s)(u:s.width=P.cellsOf e/\0<s.width/\1<=P.bytesOf e)(z:∀n∈d.weights P t,n<=reachBytes)
  (h:aO0.Trod enc P w base spare held t (.slice a len cap) d j) :
  ∃es:List (List V),(∀x∈es,s.h7 x)/\aE (kl w) (.af es.length es.flatten) (.slice a len cap)/\es.length<2^47:=by
 obtain⟨i,A⟩:=h;obtain⟨l,⟨es,rfl,B,C⟩,D⟩:=UM (n+1) t (.bg s) i _ _ (by simp only[FX,m,q,if_pos u]) A z
 exact⟨es,C,D.2 0 _ _ rfl rfl,B⟩
end
variable {P:aOR} {t:aOS} {T:lM}
theorem anN{tx:aOS}(q:gp P t=some T){h:I}{src:V}{n c:Nat}{cs:List V}{k k':aOT}(z:zm src=some n)(A:∀h',J h h' none_->vh T.sz n src h'=some cs)(B:cs.all (·.one)=true)(a:cs.length=n*T.sz)
  (s:n<=c) (j:T.aq*c<=140737488355328) (m:c<=140737488355328) :
  ∃j m,AQ P t (.int k (n:Int)) (.int k' (c:Int)) h=some (.bg h.n 0 n c,j)/\xq P t (.bg h.n 0 n c) src j=some (.int .i64 n,m)/\Own m T.e T.sz (.bg h.n 0 n c) cs/\J h j none_/\J h m none_:=by
 obtain⟨F,G,bl,H,C,_⟩:=uS q;have D:(made T.zs c).length=c*T.sz:=by rw[FE,C]
 have E:=azl T.sz s;have u:J h (h.push (.cells (made T.zs c) T.e none)) none_:=J.push _ _ _;obtain⟨L,av,rfl⟩:=aal (P:=P) (t:=t) (T:=T) (tx:=t) (i:=h.n) (cap:=c) (c:=made T.zs c) (src:=src) (h:=h.push (.cells (made T.zs c) T.e none)) q fv z (A _ u) B (by omega)
 refine⟨_,_,PO q s j m,av,.inr ⟨h.n,n,c,_,none,rfl,?_,aL,a,?_,.inl ⟨by unfold b7;omega,?_,s⟩⟩,u,u.kB (BY _) _⟩
 ·rw[kj,df];omega
 ·unfold lay;rw[List.take_zero,List.nil_append,List.take_append_of_le_length (by omega),ajz (by omega)]
 ·rw[r6 _ _ _ (by omega),D];exact BY _
def li(P:aOR)(l:Nat)(rest:Code)(Q:Exit->Act->aOV->Prop):Nat->Act->aOV->Prop
 | 0,_,_=>False
 | m+1,a,w=>rest.wp P (Exit.jump l (li P l rest Q m) Q) a w
theorem anO{P:aOR}{c rest:Code}{l:Nat}{Q:Exit->Act->aOV->Prop}{a:Act}{w:aOV}(N:findLabel c l=some rest)(m:Nat)
  (first:c.wp P (Exit.jump l (li P l rest Q m) Q) a w):(Code.scope c).wp P Q a w:=by
 intro b k A;have L:gotoIn l (.inScope c::k)=some (.code rest::.inScope c::k):=by simp[gotoIn,N]
 have B:∀m a w,li P l rest Q m a w->∃e M w',Q e M w'/\Arrives P (lone (b.at a (.code rest::.inScope c::k)) A w) b k A e M w':=by
  intro m
  induction m with
  | zero=>intro a w h;exact h.elim
  | succ m ih=>
   intro a w O;obtain⟨e,j,q,s,u⟩:=O b (.inScope c::k) A;cases e with
   | normal=>exact⟨.normal,j,q,s,Steps.trans u (.one step_inScope)⟩
   | exit id=>exact⟨.exit id,j,q,s,λC D=>u C (by simp[exitTo,D])⟩
   | goto R=>
    obtain⟨rfl,E⟩:=s;obtain⟨F,G,H,z,i⟩:=ih j q E;exact⟨F,G,H,z,.of_steps (u _ L) i⟩
   | ret=>exact⟨_,j,q,s,u⟩
   | panic S=>exact⟨_,j,q,s,u⟩
   | outgrown=>exact⟨_,j,q,s,u⟩
 obtain⟨e,j,q,s,u⟩:=first b (.inScope c::k) A
 cases e with
 | normal=>exact⟨.normal,j,q,s,.head step_scope (Steps.trans u (.one step_inScope))⟩
 | exit id=>exact⟨.exit id,j,q,s,λC D=>.head step_scope (u C (by simp[exitTo,D]))⟩
 | goto R=>
  obtain⟨rfl,E⟩:=s;obtain⟨F,G,H,z,i⟩:=B m j q E;exact⟨F,G,H,z,.of_steps (.head step_scope (u _ L)) i⟩
 | ret=>exact⟨_,j,q,s,.of_steps (.one step_scope) u⟩
 | panic S=>exact⟨_,j,q,s,.of_steps (.one step_scope) u⟩
 | outgrown=>exact⟨_,j,q,s,.of_steps (.one step_scope) u⟩
def I7(l:Nat)(a:aj->I->Prop)(Q:cC->aj->I->Prop):cC->aj->I->Prop
 | .goto i,f,h=>i=l/\a f h
 | e,f,h=>Q e f h
section
variable {l:Nat} {A0:aj->I->Prop} {Q:cC->aj->I->Prop} {f:aj} {h:I}
theorem Cy:I7 l A0 Q .ret f h=Q .ret f h:=nr rfl
theorem anP{j:Nat}:I7 l A0 Q (.goto j) f h=(j=l/\A0 f h):=nr rfl
end
theorem aS.DY{P:aOR}{n l:Nat}{c b:Code}{α:Type}(O:findLabel c l=some (.seq .skip b)){Q:cC->aj->I->Prop}{f:aj}{h:I}(C:α->aj->I->Prop)(μ:α->Nat)
  (hμ:∀x f h,C x f h->μ x<1000000000000000000000)
  (E:∀x f h,C x f h->aS P n b (I7 l (λi h'=>@r8 ⟨∃y,C y i h'/\μ y<μ x⟩) Q) f h)
  (first:(∀x f h,C x f h->aS P n b (I7 l (λi h'=>∃y,C y i h') Q) f h)->aS P n c (I7 l (λi h'=>∃y,C y i h') Q) f h):aS P n (.scope c) Q f h:=by
 have R:∀x f h,C x f h->aS P n b (I7 l (λi h'=>∃y,C y i h') Q) f h:=λx f h S=>(E x f h S).mono λe i h' H=>by
  cases e with
  | goto Z=>exact⟨H.1,let ⟨y,F,_⟩:=H.2;⟨y,F⟩⟩
  | _=>exact H
 intro ρ B G a w L M;have key:∀m x f h,C x f h->μ x<m->∀ ρ1:Ren,ρ.le ρ1->∀a w,a1 ρ1 B G h w->eE ρ1 n f a->li P l (.seq .skip b) (mM n B G ρ Q) m a w:=by
  intro m
  induction m with
  | zero=>intro x f h _ W;omega
  | succ m ih=>
   intro x f h X W ρ1 j a w L M;refine wp_mono ((aS.seq (.skip (E x f h X))) ρ1 B G a w L M) λe N w' ⟨ρ',Y,i,h',D,s,u,z,A⟩=>?_;cases Y<;>cases e<;>simp only[r9]at D
   ·exact⟨ρ',.normal,i,h',trivial,s,u,j.trans z,A⟩
   ·exact⟨ρ',.exit _,i,h',D,s,u,j.trans z,A⟩
   ·obtain⟨rfl,y,F,aD⟩:=A;exact⟨D.symm,ih y i h' F (by omega) ρ' (j.trans z) N w' s u⟩
   ·exact⟨ρ',.ret,i,h',trivial,s,u,j.trans z,A⟩
   ·exact⟨ρ',.panic,i,h',D,s,u,j.trans z,A⟩
 refine anO O 1000000000000000000000 (wp_mono (first R ρ B G a w L M) λe N w' ⟨ρ',x,i,h',D,s,u,z,A⟩=>?_)
 cases x<;>cases e<;>simp only[r9]at D
 ·exact⟨ρ',.normal,i,h',trivial,s,u,z,A⟩
 ·exact⟨ρ',.exit _,i,h',D,s,u,z,A⟩
 ·obtain⟨rfl,y,F⟩:=A;exact⟨D.symm,key _ y i h' F (hμ y i h' F) ρ' z N w' s u⟩
 ·exact⟨ρ',.ret,i,h',trivial,s,u,z,A⟩
 ·exact⟨ρ',.panic,i,h',D,s,u,z,A⟩
def FY{α:Type}(b:α->Nat):List α->Nat
 | []=>0
 | x::r=>b x+FY b r
structure anQ{H:Type}(b:aO0 H->Nat):Prop where
 lit:∀l,1<=b (.lit l)
 str:∀aq:List UInt8,aq.length+1<=b (.lit (.string aq))
 nil:1<=b .nil
 slice:∀es sp,FY b es+1<=b (.slice es sp)
 agg:∀ps,FY b ps+1<=b (.agg ps)
section
variable {H:Type} {anR:aO0 H->Nat} (aaq:anQ anR)
include aaq
variable {enc:aOS×aOU->H} {P:aOR} {w:aOV} {base:Nat} {spare:Nat->Bool} {held:Bool}
end
section
variable {H:Type} {enc:aOS×aOU->H} {P:aOR} {w:aOV} {base:Nat} {spare:Nat->Bool} {held:Bool}
end
theorem Acc.step{u h h':I}{e:aOS}{sz:Nat}{s r:V}{cs cs':List V}(a:Acc u h e sz s cs)(o:Own h' e sz r cs')(k:J h h' (a7 s))(d:cu h s r):Acc u h' e sz r cs' :=
 ⟨o,a.ai.trans k λj i hi=>by have:=a.new j hi;omega,λj i=>by
  rcases d with d|d
  ·exact a.new j (d▸i)
  ·exact ajy a.ai.n (d j i)⟩
theorem Acc.on{i h h':I}{e:aOS}{sz:Nat}{s:V}{cs:List V}(a:Acc i h e sz s cs)(k:J h h' none_):Acc i h' e sz s cs :=
 ⟨a.own.ba k,a.ai.trans' k,a.new⟩
theorem Acc.conv{j h:I}{e:aOS}{sz:Nat}{s:V}{cs i:List V}(a:Acc j h e sz s cs)(av:cs=i):Acc j h e sz s i:=av▸a
theorem Pure.acc{P:aOR}{bE:aOZ}{args:List V}{h:I}{e:aOS}{sz n:Nat}{cs:List V}(i:bb cs)(j:cs.length=n*sz)(bl:0<sz)
  (av:au P bE args h λr h'=>Acc h h' e sz r cs):Pure P bE args h (.af n cs) :=
 Pure.of (a8.af i) (av.mono λr h' a=>a.cast j bl)
section
variable {P:aOR} {f:aj} {h:I}
theorem iG{t:Tmp}:qa P f h (.tmp t)=some (f t):=rfl
theorem fq{a:Tmp}{t:aOS}:qa P f h (.cell a t)=m9 P t (f a) h:=rfl
def FZ(x y:Option V):Option V:=match x,y with|some a,some b=>some (.tuple [a,b])|_,_=>none
def F0(x y z:Option V):Option V:=match x,y,z with|some a,some b,some c=>some (.tuple [a,b,c])|_,_,_=>none
theorem iQ{a b:V}:FZ (some a) (some b)=some (.tuple [a,b]):=rfl
theorem PV{a b c:V}:F0 (some a) (some b) (some c)=some (.tuple [a,b,c]):=rfl
theorem tb{r:aO8}:sb P [r] f h=qa P f h r:=rfl
theorem iR{r s:aO8}:sb P [r,s] f h=FZ (qa P f h r) (qa P f h s):=by
 cases a:qa P f h r<;>cases i:qa P f h s<;>simp[sb,FZ,a,i]
theorem PW{r s t:aO8}:sb P [r,s,t] f h=F0 (qa P f h r) (qa P f h s) (qa P f h t):=by
 cases a:qa P f h r<;>cases i:qa P f h s<;>cases j:qa P f h t<;>simp[sb,F0,a,i,j]
end
def ao(l:List Int):List V:=l.map (V.int .i64)
def vp(l:List Bool):List V:=l.map V.bool
theorem am(l:List Int):(ao l).length=l.length:=by simp[ao]
theorem anS(l:List Bool):(vp l).length=l.length:=by simp[vp]
theorem yM(l:List Int):bb (ao l):=bb.map λ_ _=>a8.int _ _
theorem anT(l:List Bool):bb (vp l):=bb.map λ_ _=>a8.bool _
theorem KN(l:List Int):(ao l).all (·.one)=true:=by
 rw[ayL];intro x a;obtain⟨n,_,rfl⟩:=OF.1 a;rfl
theorem UN(a b:List Int):ao (a++b)=ao a++ao b:=by simp[ao]
theorem UO{l:List Int}{k:Nat}(a:k<l.length):(ao l)[k]'(by rw[am];exact a)=.int .i64 l[k]:=by simp[ao]
theorem PX(l:List Int)(k:Nat)(x:Int):(ao l).set k (.int .i64 x)=ao (l.set k x):=by simp[ao,List.map_set]
theorem A1{P:aOR}{α:Type}(f:α->V){l:List α}{k:Nat}(a:k<l.length){t:aOS}{kk:aOT}(i:dC P t=some 1) :
  gP P t (.af l.length (l.map f)) (.int kk (k:Int))=some (.at (f l[k]::(l.drop (k+1)).map f)):=by
 rw[I6 i (by omega) (by omega) (by simp),ayQ,ajD,<-List.map_drop,azg a]
 rfl
theorem vq{P:aOR}{l:List Int}{k:Nat}(a:k<l.length){t:aOS}{kk:aOT}(i:dC P t=some 1) :
  gP P t (.af l.length (ao l)) (.int kk (k:Int))=some (.at (.int .i64 l[k]::ao (l.drop (k+1)))):=A1 _ a i
theorem UP{P:aOR}{l:List Bool}{k:Nat}(a:k<l.length){t:aOS}{kk:aOT}(i:dC P t=some 1) :
  gP P t (.af l.length (vp l)) (.int kk (k:Int))=some (.at (.bool l[k]::vp (l.drop (k+1)))):=A1 _ a i
theorem mQ{i n:Nat}(h:i<n)(a:n<=2^62):aOT.i64.wrap ((i:Int)+1)=((i+1:Nat):Int):=by rw[Go.IntWalk.i64_in _ (by omega)];rfl
theorem aar{n:Nat}(h:n<2^63):aOT.i64.wrap (n:Int)=(n:Int):=Go.IntWalk.i64_in _ (by omega)
theorem UQ{n:Nat}(h:n<2^64):aOT.u64.wrap (n:Int)=(n:Int):=by rw[aOT.wrap_u64];omega
theorem aas{k:aOT}:∀{es:List (List V)},(∀x∈es,j1.h7 (.int k) x)->∃l:List Int,es=(l.map λn=>[V.int k n])/\∀n∈l,(Lit.int k n).wf=true
 | [],_=>⟨[],rfl,by simp⟩
 | e::es,h=>by
  obtain⟨l,rfl,i⟩:=aas (es:=es) λx j=>h x (by simp[j])
  obtain⟨n,rfl,q⟩:=h e (by simp)
  exact⟨n::l,rfl,λm a=>by
   rcases Iz.1 a with rfl|a
   ·exact q
   ·exact i m a⟩
theorem anU{α:Type}(f:α->V)(l:List α):(l.map λn=>[f n]).flatten=l.map f:=by
 induction l with
 | nil=>rfl
 | cons n l ih=>simp[ih]
theorem wf_i64{a:Int}(h:(Lit.int .i64 a).wf=true):-2^63<=a/\a<2^63:=by
 simp only[Lit.wf,ajC,decide_eq_true_eq]at h;have i:aOT.i64.min=-2^63:=rfl;have j:aOT.i64.max=2^63-1:=rfl;omega
theorem wf_u8{a:Int}(h:(Lit.int .u8 a).wf=true):∃n:Nat,a=n/\n<256:=by
 simp only[Lit.wf,ajC,decide_eq_true_eq]at h;have i:aOT.u8.min=0:=rfl;have j:aOT.u8.max=255:=rfl;exact⟨a.toNat,by omega,by omega⟩
theorem aF.il(h:I):aF .ag h (.af 0 []) h:=fun ρ B s w u i j=>by
 cases j;exact⟨ρ,Ren.le.refl ρ,i,.fD none 0 (by simp)⟩
theorem Pure.args{P:aOR}{bE:aOZ}{args i:List V}{h:I}{v:V}(av:aA args h i h)(j:Pure P bE i h v):Pure P bE args h v:=au.args av j
theorem aA.skip{v:V}{l i:List V}{h:I}(b:aA l h i h):aA (v::l) h (v::i) h:=aA.cons (aF.refl v h) b
theorem aA.last{v i:V}{h:I}(a:aF v h i h):aA [v] h [i] h:=aA.cons a (aA.refl [] h)
theorem Own.e4{h:I}{e:aOS}{sz:Nat}(c:List V)(n:Nat)(av:c.length=n*sz)(i:n<b7):Own (h.push (.cells c e none)) e sz (.bg h.n 0 n n) c:=by
 have j:=Own.fresh (h:=h) (e:=e) c n n av (BY _) i;rwa[<-av,azG]at j
def j2:V->Option Nat
 | .ptr i _=>some i
 | .bg i _ _ _=>some i
 | .map i=>some i
 | _=>none
def rF(bF:aOW->V):Op->Option Nat
 | .load _ a=>j2 (bF a)
 | .lookup _ m _ _=>j2 (bF m)
 | .convert _ _ x=>j2 (bF x)
 | .call ⟨.builtin .len,args,_⟩=>(args.toList.map bF).head?.bind j2
 | _=>none
def A3:Op->Bool
 | .entry _=>false
 | .call ⟨.builtin .len,args,ts⟩=>args.size==1&&ts.size==1
 | o=>pk o
def F1(h:I):Prop:=∀j,h.n<=j->h.get j=.dead
theorem a1.wf{ρ:Ren}{B:Nat}{D w:aOV}{h:I}(R:a1 ρ B D h w):F1 h:=λj E=>by
 have z:=R.heap.me j E;have u:=R.heap.obj j;cases A:h.get j with
 | dead=>rfl
 | cells c e F=>rw[A]at u;obtain⟨b,C,arr,i,_⟩:=u;rw[z]at i;cases i
 | map es c=>rw[A]at u;obtain⟨b,C,arr,i,_⟩:=u;rw[z]at i;cases i
 | iter m s l st=>rw[A]at u;obtain⟨b,C,G,H,i,_⟩:=u;rw[z]at i;cases i
 | kt b mk L=>rw[A]at u;obtain⟨C,arr,i,_⟩:=u;rw[z]at i;cases i
section
variable {P:aOR} {h h':I} {M:Nat->Prop}
theorem J.live(j:F1 h)(s:J h h' M){i:Nat}(u:¬M i)(z:h.get i≠.dead):h'.get i=h.get i:=by
 rcases aAy i h.n with A|B
 ·exact s.get i A u
 ·exact absurd (j i B) z
theorem anV(a:J h h' M)(f:aj)(x:aOW):f.eval h' x=f.eval h x:=by
 cases x<;>simp[aj.eval,a.glob]
theorem anW(j:F1 h)(m:J h h' M){x:V}(q:∀i,j2 x=some i->¬M i){cs:List V}(a:s8 h x=some cs):s8 h' x=some cs:=by
 cases x<;>simp[s8]at a⊢
 case ptr i o=>
  have s:h.get i≠.dead:=λU=>by rw[U]at a;simp at a
  rw[m.live j (q i rfl) s];exact a
 case «at» cs'=>exact a
theorem anX(m:F1 h)(q:J h h' M){t:aOS}{x:V}(s:∀i,j2 x=some i->¬M i){v:V}(a:m9 P t x h=some v):m9 P t x h'=some v:=by
 rw[Z1]at a⊢;cases j:s8 h x with
 | none=>rw[j]at a;unfold cJ at a;split at a<;>simp_all
 | some u=>rw[j]at a;rw[anW m q s j];exact a
theorem anY{t:aOS}{m k:V}{ok:Bool}(e:∀i,j2 m=some i->h'.get i=h.get i):nB P t m k ok h'=nB P t m k ok h:=by
 unfold nB;cases eA P t with
 | none=>rfl
 | some q=>
  obtain⟨a,j,d⟩:=q;simp only;split
  ·rfl
  ·rw[e _ rfl]
  ·rfl
theorem anZ{s d:aOS}{x:V}(e:∀i,j2 x=some i->h'.get i=h.get i):oL P s d x h'=oL P s d x h:=by
 unfold oL;cases(nW x).bind λa=>ed P (convert s d a)with
 | some v=>rfl
 | none=>
  simp only;split
  ·rfl
  ·rw[e _ rfl]
  ·rfl
  ·rfl
theorem an0{t:aOS}{x:V}(e:∀i,j2 x=some i->h'.get i=h.get i):dJ P t x h'=dJ P t x h:=by
 unfold dJ;split
 all_goals first|rfl|rw[e _ rfl]
theorem an1{t:aOS}{m k:V}{ok:Bool}(s:∀i,j2 m=some i->h.get i=.dead){v:V}(a:nB P t m k ok h=some v):nB P t m k ok h'=some v:=by
 unfold nB at a⊢;cases j:eA P t with
 | none=>rw[j]at a;cases a
 | some q=>
  rw[j]at a;obtain⟨u,z,d⟩:=q;simp only at a⊢;split at a
  ·exact a
  ·rw[s _ rfl]at a;cases a
  ·cases a
theorem an2{s d:aOS}{x:V}(q:∀i,j2 x=some i->h.get i=.dead){v:V}(j:oL P s d x h=some v):oL P s d x h'=some v:=by
 unfold oL at j⊢;cases m:(nW x).bind λa=>ed P (convert s d a)with
 | some u=>rw[m]at j;exact j
 | none=>
  rw[m]at j;simp only at j⊢;split at j
  ·exact j
  ·split at j
   ·rw[q _ rfl]at j;cases j
   ·cases j
  ·exact j
  ·cases j
theorem an3{t:aOS}{x:V}(j:∀i,j2 x=some i->h.get i=.dead){v:V}(a:dJ P t x h=some v):dJ P t x h'=some v:=by
 unfold dJ at a⊢;split at a
 all_goals first|exact a|(rw[j _ rfl]at a;cases a)|skip
 all_goals (cases a;done)
theorem UR(m:F1 h)(q:J h h' M){x:V}(s:∀i,j2 x=some i->¬M i):(∀i,j2 x=some i->h'.get i=h.get i)\/(∀i,j2 x=some i->h.get i=.dead):=by
 cases u:j2 x with
 | none=>left;intro i hi;cases hi
 | some j=>
  by_cases a:h.get j=.dead
  ·right;intro i hi;simp at hi;subst hi;exact a
  ·left;intro i hi;simp at hi;subst hi;exact q.live m (s j u) a
theorem an4{c:Call}(h:A3 (.call c)=true):c.callee=.builtin .len\/c.callee=.builtin .min\/c.callee=.builtin .max:=by
 obtain⟨callee,args,ts⟩:=c;cases callee with
 | builtin b=>cases b<;>simp[A3,pk]at h⊢
 | _=>simp[A3,pk]at h
theorem an5(B:F1 h)(C:J h h' M){o:aOX}{bF:aOW->V}(hi:A3 o.op=true)(D:∀i,rF bF o.op=some i->¬M i){v:V}(j:ey P o bF h=some (.val v h)):ey P o bF h'=some (.val v h'):=by
 have E:∀{x y:Option V},hh x h=some (.val v h)->(∀u,x=some u->y=some u)->hh y h'=some (.val v h'):=λ{x y} F W=>by
  obtain⟨ay,_⟩:=vn F;rw[W _ ay];rfl
 obtain⟨X,op,type,pos,G,guard⟩:=o;have Q:=hi;cases op<;>simp[A3,pk]at hi<;>simp only[ey]at j⊢
 case move x=>simp at j;rw[j]
 case assign x=>simp at j;rw[j]
 case pick c a b=>split at j<;>simp at j⊢;exact j
 case nilCheck x=>split at j<;>simp at j⊢<;>exact j
 case makeInterface t x=>split at j<;>simp at j⊢;exact j
 case makeFunc fn xs ys=>simp at j⊢;exact j
 case extract t k=>
  split at j
  ·exact E j λ_ h=>h
  ·cases j
 case load t a=>exact E j λu q=>anX B C D q
 case lookup t m k ok=>
  refine E j λu q=>?_;rcases UR B C D with e|e
  ·rw[anY e];exact q
  ·exact an1 e q
 case convert s d x=>
  cases av:oL P s d (bF x) h with
  | none=>
   rw[av]at j;cases A:AU P s d (bF x) h with
   | none=>rw[A]at j;cases j
   | some p=>
    obtain⟨u,H⟩:=p;rw[A]at j;have Y:H=h:=by
     have:some (Step.val u H)=some (Step.val v h):=j;simp only[Option.some.injEq,Step.val.injEq]at this;exact this.2
    exact absurd Y (aki A)
  | some u=>
   rw[av]at j;have q:oL P s d (bF x) h'=some u:=by
    rcases UR B C D with e|e
    ·rw[anZ e];exact av
    ·exact an2 e av
   rw[q];have:some (Step.val u h)=some (Step.val v h):=j;simp only[Option.some.injEq,Step.val.injEq]at this;rw[this.1]
 case call c=>
  have ak:=an4 Q;have z:∀b,(b=.min\/b=.max)->c.callee=.builtin b->k4 P c type bF h'=some (.val v h'):=λb R av=>by
   have aT:∀U:I,p9 P b c.argTypes.toList type (wj c.args) (c.args.toList.map bF) U=(match jv (c.args.toList.map bF)with
     | some as=>match ed P (builtin b c.argTypes.toList.toArray type (wj c.args) as.toArray)with
      | some (.value v)=>some (gy v,U)
      | _=>none
     | none=>none):=λU=>by
    rcases R with rfl|rfl<;>rfl
   have L:∀U:I,k4 P c type bF U=(match p9 P b c.argTypes.toList type (wj c.args) (c.args.toList.map bF) U with|some (v,h')=>some (.val v h')|none=>none):=λU=>by
    unfold k4;rw[av];rcases R with rfl|rfl<;>rfl
   rw[L,aT]at j⊢;cases S:jv (c.args.toList.map bF)with
   | none=>rw[S]at j;cases j
   | some as=>
    rw[S]at j;simp only at j⊢;split at j
    ·rename_i v' H A;split at A
     ·simp at A j;obtain⟨rfl,rfl⟩:=A;rw[j.1]
     ·cases A
    ·cases j
  rcases ak with ak|ak|ak
  ·obtain⟨callee,args,N⟩:=c;simp only at ak;subst ak;have O:(args.size==1&&N.size==1)=true:=Q;simp at O;obtain⟨x,rfl⟩:=aFd.1 O.1;obtain⟨t,rfl⟩:=aFd.1 O.2;have L:∀U:I,k4 P ⟨.builtin .len,#[x],#[t]⟩ type bF U=(match dJ P t (bF x) U with|some v=>some (.val v U)|none=>none):=λU=>by
    show(match(match dJ P t (bF x) U with|some v=>some (v,U)|none=>none)with|some (v,h')=>some (Step.val v h')|none=>none)=_
    cases dJ P t (bF x) U<;>rfl
   rw[L]at j⊢;have Z:∀i,j2 (bF x)=some i->¬M i:=λi F=>D i (by simp[rF,F])
   cases q:dJ P t (bF x) h with
   | none=>rw[q]at j;cases j
   | some u=>
    rw[q]at j;simp at j;subst j;have aB:dJ P t (bF x) h'=some u:=by
     rcases UR B C Z with e|e
     ·rw[an0 e];exact q
     ·exact an3 e q
    rw[aB]
  ·exact z _ (.inl rfl) ak
  ·exact z _ (.inr rfl) ak
 all_goals exact E j λ_ h=>h
end
def zJ(P:aOR)(a:Array aOX)(M:Nat->Prop)(i:I)(o:aOX)(f:aj)(v:V):Prop:=∀h',J i h' M->gY P a.toList h' o v f
def KO(j:Array aOX)(es:List Nat)(a:Array Bool)(i:Nat):Bool:=es.all λe=>a.getD e true||pF j j.size e i
def US(a:Array aOX)(k:Nat):Bool:=(List.range a.size).all λi=>i==k||pF a a.size k i||pF a a.size i k
def anyS(P:aOR)(j:Array aOX)(es:List Nat)(M:Nat->Prop)(m:I)(K:aj->I->Prop)(X:I->Prop):Nat->Array Bool->aj->I->Prop
 | 0,a,f,h=>Region.ready .any j a=[]/\K f h
 | n+1,a,f,h=>(Region.ready .any j a=[]->K f h) /\
  ∀i∈Region.ready .any j a,∀o,j[i]?=some o ->
   if es.contains i then(match h4 j.toList o.guard f with
    | some true=>iE P o (λq h'=>(US j i=true\/J m h' M)/\anyS P j es M m K X n (a.setIfInBounds i true) q h') (λ_ h=>X h) f h
    | some false=>anyS P j es M m K X n (a.setIfInBounds i true) (f.put o.dst (.tuple [])) h
    | none=>False)
   else ∃v,((J m h M/\zJ P j M m o f v)\/(KO j es a i=true/\gY P j.toList h o v f))/\anyS P j es M m K X n (a.setIfInBounds i true) (f.put o.dst v) h
theorem KQ{P:aOR}{o:aOX}{K j E m:aj->I->Prop}(i:∀f h,K f h->j f h){f:aj}{h:I}(q:∀f h,E f h->m f h)(a:iE P o K E f h):iE P o j m f h:=by
 unfold iE at *;split at a
 ·exact i _ _ a
 ·exact a.mono (λ_ _ h=>i _ _ h) λ_ h=>q _ _ h
 ·exact λv h' s=>i _ _ (a v h' s)
 ·exact q _ _ a
 ·exact a.mono (λ_ _ h=>i _ _ h)
 ·exact a.elim
section
variable {P:aOR} {ops:Array aOX} {es:List Nat} {M:Nat->Prop} {aa:I} {K E:aj->I->Prop} {X:I->Prop}
theorem KS(m:∀f h,X h->E f h):∀(n:Nat) (a:Array Bool) (f:aj) (h:I),anyS P ops es M aa K X n a f h->tN P ops es K E n a f h
 | 0,_,_,_,q=>q
 | n+1,a,f,h,q=>by
  refine⟨q.1,λi hi o z=>?_⟩;have j:=q.2 i hi o z;by_cases s:es.contains i=true
  ·rw[if_pos s]at j⊢;cases u:h4 ops.toList o.guard f with
   | none=>rw[u]at j;exact j
   | some b=>
    rw[u]at j;cases b with
    | true=>exact KQ (λA h' U=>KS m n _ A h' U.2) (λf h U=>m f h U) j
    | false=>exact KS m n _ _ _ j
  ·rw[if_neg s]at j⊢;obtain⟨v,B,C⟩:=j;refine⟨v,?_,KS m n _ _ _ C⟩;rcases B with⟨D,F⟩|⟨_,G⟩
   ·exact F h D
   ·exact G
theorem an6{o:aOX}{a:Option Tmp}{v:V}{f:aj}{h:I}{K q:aj->I->Prop}(s:∀d,a=some d->d∉o.looksAt ops)(av:∀d,a=some d->o.dst≠some d)
  (m:∀r h',K ((f.put o.dst r).put a v) h'->q (f.put o.dst r) h') (aa:iE P o K (λ_ h=>X h) (f.put a v) h):iE P o q (λ_ h=>X h) f h:=by
 unfold iE at *;rw[Uw o f a v s]at aa;split at aa
 ·exact m _ _ (by rw[aj.put_comm f _ _ λd i j=>av d j i];exact aa)
 ·exact aa.mono (λr h' U=>m r h' (by rw[aj.put_comm f _ _ λd i j=>av d j i];exact U)) λ_ h=>h
 ·exact λr h' u=>m r h' (by rw[aj.put_comm f _ _ λd i j=>av d j i];exact aa r h' u)
 ·exact aa
 ·exact aa.mono (λr h' U=>m r h' (by rw[aj.put_comm f _ _ λd i j=>av d j i];exact U))
 ·exact aa
theorem UT{a:Array Bool}(q:Down ops a){i j:Nat}(s:j∈Region.ready .any ops a)(h:pF ops ops.size j i=true):a.getD i false=true:=by
 obtain⟨_,o,u,z⟩:=mem_ready.1 s;exact UE q ops.size j i (λA m=>by
                           rw[u]at m;obtain rfl:o=A:=by simpa using m
                           exact z) h
theorem PY{a:Array Bool}{i:Nat}(hi:i∈Region.ready .any ops a):a.getD i false=false:=by
 have j:=(mem_ready.1 hi).1;rcases aAy i a.size with h'|h'
 ·simp[h']at j⊢;exact j
 ·simp[Array.getElem?_eq_none h']
theorem UU{i:Nat}{z:aOX}{v:V}(hi:ops[i]?=some z)(Z:es.contains i=false) :
  ∀(m:Nat) (a:Array Bool) (f:aj) (h:I),
   (∀j s,ops[j]?=some s->j≠i->a.getD j true=false->(∀e∈s.after,Region.binds .any e=true->e.on≠i)->z.apart ops s=true) ->
   i∈Region.ready .any ops a->Down ops a->((J aa h M/\zJ P ops M aa z f v)\/(KO ops es a i=true/\gY P ops.toList h z v f)) ->
   anyS P ops es M aa K X m (a.setIfInBounds i true) (f.put z.dst v) h->anyS P ops es M aa K X (m+1) a f h:=by
 intro m
 induction m with
 | zero=>
  intro a f h _ B Q N H;refine⟨λh=>(by rw[h]at B;cases B),λj G o L=>?_⟩
  by_cases C:j=i
  ·subst C;rw[hi]at L;obtain rfl:z=o:=by simpa using L
   rw[Z];exact⟨v,N,H⟩
  ·have:=ready_mono G C;rw[H.1]at this;cases this
 | succ m ih=>
  intro a f h lW B Q N H;refine⟨λh=>(by rw[h]at B;cases B),λj G s R=>?_⟩
  by_cases C:j=i
  ·subst C;rw[hi]at R;obtain rfl:z=s:=by simpa using R
   rw[Z];exact⟨v,N,H⟩
  ·have D:=H.2 j (ready_mono G C) s R;obtain⟨tO,KH,zC,dq⟩:=mem_ready.1 G;rw[R]at zC;obtain rfl:s=KH:=by simpa using zC
   have xB:∀e∈s.after,Region.binds .any e=true->e.on≠i:=λe O ak ab=>by
    have q:=dq e O ak;have aG:=PY B;rw[ab,aG]at q;cases q
   obtain⟨Y,a2,a3⟩:=aOX.apart_spec (lW j s R C tO xB);have wu:∀k ok,ops[k]?=some ok->k≠i->(a.setIfInBounds j true).getD k true=false ->
     (∀e∈ok.after,Region.binds .any e=true->e.on≠i)->z.apart ops ok=true:=λk ok A qk qq eR=>by
    refine lW k ok A qk ?_ eR;by_cases DU:j=k
    ·subst DU;exact tO
    ·rw[getD_set_ne true DU]at qq;exact qq
   have lj:=ready_mono B (Ne.symm C);have zB:=Q.add G;have qP:∀(h':I) (r:V),J aa h' M->zJ P ops M aa z f v->anyS P ops es M aa K X m ((a.setIfInBounds i true).setIfInBounds j true) ((f.put s.dst r).put z.dst v) h'->anyS P ops es M aa K X (m+1) (a.setIfInBounds j true) (f.put s.dst r) h':=λh' r A F U=>
    ih (a.setIfInBounds j true) (f.put s.dst r) h' wu lj zB (.inl ⟨A,λS W=>(F S W).put s.dst r a3⟩) (by rw[aDO _ _ C];exact U)
   by_cases DT:es.contains j=true
   ·rw[if_pos DT]at D⊢;have F:J aa h M/\zJ P ops M aa z f v:=by
     rcases N with N|⟨L,_⟩
     ·exact N
     ·exfalso;have q:=(ayL.1 L) j (by simpa using DT)
      rw[tO,aCe]at q;have:=UT Q G q;rw[PY B]at this;cases this
    rw[Ux s f z.dst v Y]at D;cases hw:h4 ops.toList s.guard f with
    | none=>rw[hw]at D;exact D
    | some b=>
     rw[hw]at D;cases b with
     | true=>
      refine an6 Y a2 (λr h' U=>?_) D;have A:J aa h' M:=by
       rcases U.1 with kd|A
       ·exfalso;have q:=(ayL.1 kd) i (by
         have:=(azj.1 hi).1;simpa using this)
        simp only[az2,beq_iff_eq]at q;rcases q with(q|q)|q
        ·exact C q.symm
        ·have:=UT Q G q;rw[PY B]at this;cases this
        ·have:=UT Q B q;rw[PY G]at this;cases this
       ·exact A
      exact⟨.inr A,qP h' r A F.2 U.2⟩
     | false=>
      refine qP h (.tuple []) F.1 F.2 ?_;rw[<-aj.put_comm f v (.tuple []) a2];exact D
   ·rw[if_neg DT]at D⊢;obtain⟨u,KI,h5⟩:=D;refine⟨u,?_,?_⟩
    ·rcases KI with⟨A,F⟩|⟨L,KT⟩
     ·exact .inl ⟨A,λS W=>(F S W).Cu z.dst v Y⟩
     ·refine .inr ⟨?_,KT.Cu z.dst v Y⟩;refine ayL.2 λe O=>?_;have q:=(ayL.1 L) e O;have ag:i≠e:=λU=>by
       subst U;have:es.contains i=true:=by simpa using O
       rw[Z]at this;cases this
      rwa[getD_set_ne true ag]at q
    ·have o5:((J aa h M/\zJ P ops M aa z (f.put s.dst u) v)\/(KO ops es (a.setIfInBounds j true) i=true/\gY P ops.toList h z v (f.put s.dst u))):=by
      rcases N with⟨A,F⟩|⟨L,KT⟩
      ·exact .inl ⟨A,λS W=>(F S W).put s.dst u a3⟩
      ·refine .inr ⟨ayL.2 λe O=>?_,KT.put s.dst u a3⟩;have q:=(ayL.1 L) e O;simp only[az2]at q⊢;rcases q with q|q
       ·exact .inl (aag q)
       ·exact .inr q
     refine ih (a.setIfInBounds j true) (f.put s.dst u) h wu lj zB o5 ?_;rw[aDO _ _ C,<-aj.put_comm f v u a2];exact h5
end
def UW:Op->Bool
 | .move _ | .assign _ | .pick .. | .build .. | .nilCheck _ | .binOp .. | .unOp .. | .makeInterface .. | .makeFunc .. | .slice .. | .fieldAddr .. | .field .. | .indexAddr .. | .index .. | .typeAssert .. | .extract ..=>true
 | _=>false
section
variable {P:aOR} {h h':I}
theorem an7{o:aOX}{bF:aOW->V}(hi:UW o.op=true){v:V}(i:ey P o bF h=some (.val v h)):ey P o bF h'=some (.val v h'):=by
 have m:∀{x:Option V},hh x h=some (.val v h)->hh x h'=some (.val v h'):=λ{x} q=>by
  obtain⟨ay,_⟩:=vn q;rw[ay];rfl
 obtain⟨s,op,type,pos,j,guard⟩:=o;cases op<;>simp[UW]at hi<;>simp only[ey]at i⊢
 case move x=>simp at i;rw[i]
 case assign x=>simp at i;rw[i]
 case pick c a b=>split at i<;>simp at i⊢;exact i
 case nilCheck x=>split at i<;>simp at i⊢<;>exact i
 case makeInterface t x=>split at i<;>simp at i⊢;exact i
 case makeFunc fn xs ys=>simp at i⊢;exact i
 case extract t k=>
  split at i
  ·exact m i
  ·cases i
 all_goals exact m i
theorem an8{o:aOX}{bF:aOW->V}{g:aOZ}{args:List V}(a:ey P o bF h=some (.call g args)):ey P o bF h'=some (.call g args):=by
 obtain⟨A,op,type,pos,q,guard⟩:=o;have j:∀{x:Option V},hh x h≠some (.call g args):=λ{x} i=>by obtain⟨v,B⟩:=UG i;cases B
 have z:∀{x:Option (V×I)},gz x≠some (.call g args):=λ{x} i=>by unfold gz at i;split at i<;>simp at i
 have u:∀{x:Option I},tD x≠some (.call g args):=λ{x} i=>by unfold tD at i;split at i<;>simp at i
 cases op<;>simp only[ey]at a⊢
 case call c=>
  obtain⟨callee,C,ts⟩:=c;unfold k4 at a⊢;cases callee with
  | value f=>
   simp only at a⊢;split at a
   case h_2=>simp at a
   case h_3=>cases a
   split at a
   ·rename_i av;rw[if_pos av];exact a
   ·exfalso;split at a<;>simp at a
  | builtin b=>
   exfalso;cases b
   case panic=>simp only at a;split at a<;>simp at a
   all_goals
    simp only at a;split at a<;>simp at a
  | invoke r m=>exact a
 case next it s=>
  cases s
  ·simp only at a;split at a<;>simp at a
  ·cases a
 all_goals first
  | exact absurd a j
  | exact absurd a z
  | exact absurd a u
  | (simp at a;done)
  | (split at a<;>first|(simp at a;done)|exact absurd a j|exact absurd a z)
  | (cases a;done)
end
inductive ea where
 | done
 | stop
 | q (k:Nat) (s:ea)
 | c (k:Nat) (s:ea)
 | a (k:Nat) (s:ea)
 | e (k:Nat) (s alt:ea)
def ea.keys:ea->List Nat
 | .e k _ i=>k::i.keys
 | _=>[]
def ea.ok(ops:Array aOX)(es:List Nat):ea->Nat->Bool->Bool->Bool->Array Bool->Bool
 | .done,n,top,p,u,j=>top&&n==0&&(Region.ready .any ops j).isEmpty
 | .stop,_,top,_,_,_=>!top
 | .q k s,n,top,p,u,j=>match n,ops[k]? with
  | n+1,some o=>top&&!es.contains k&&(Region.ready .any ops j).contains k&&Region.free .any ops j k&&A3 o.op&&((p&&u)||(u&&UW o.op)||KO ops es j k)&&s.ok ops es n true p u (j.setIfInBounds k true)
  | _,_=>false
 | .c k s,n,top,p,u,j=>match n,ops[k]? with
  | n+1,some o=>top&&!es.contains k&&(Region.ready .any ops j).contains k&&Region.free .any ops j k&&((p&&u)||KO ops es j k)&&s.ok ops es n true p u (j.setIfInBounds k true)
  | _,_=>false
 | .a k s,n,top,p,u,j=>match n with
  | n+1=>top&&es.contains k&&Region.ready .any ops j==[k]&&US ops k&&s.ok ops es n true false false (j.setIfInBounds k true)
  | 0=>false
 | .e k s z,n,top,p,u,j=>match n with
  | n+1=>(!top||((Region.ready .any ops j).contains k&&(Region.ready .any ops j).all λi=>(k::z.keys).contains i))&&es.contains k&&s.ok ops es n true false true (j.setIfInBounds k true)&&z.ok ops es (n+1) false p u j
  | 0=>false
section
variable {P:aOR} {ops:Array aOX} {es:List Nat} {M:Nat->Prop} {aa:I} {K:aj->I->Prop} {X:I->Prop}
def ml(P:aOR)(j:List aOX)(M:Nat->Prop)(aa:I)(K:aj->I->Prop)(X:I->Prop):ea->Bool->aj->I->Prop
 | .done,_,f,h=>K f h
 | .stop,_,_,_=>True
 | .q k s,p,f,h=>match j[k]? with
  | some o=>(match h4 j o.guard f with
   | some true=>∃v,(ey P o (f.eval h) h=some (.val v h)/\(p=true->∀i,rF (f.eval h) o.op=some i->¬M i))/\ml P j M aa K X s p (f.put o.dst v) h
   | some false=>ml P j M aa K X s p (f.put o.dst (.tuple [])) h
   | none=>False)
  | none=>False
 | .c k s,p,f,h=>match j[k]? with
  | some o=>(match h4 j o.guard f with
   | some true=>∃g args v,ey P o (f.eval h) h=some (.call g args)/\(∀h',J aa h' M\/h'=h->Pure P g args h' v)/\ml P j M aa K X s p (f.put o.dst v) h
   | some false=>ml P j M aa K X s p (f.put o.dst (.tuple [])) h
   | none=>False)
  | none=>False
 | .a k s,p,f,h=>match j[k]? with
  | some o=>(match h4 j o.guard f with
   | some true=>iE P o (λm h'=>ml P j M aa K X s false m h') (λ_ h=>X h) f h
   | some false=>ml P j M aa K X s false (f.put o.dst (.tuple [])) h
   | none=>False)
  | none=>False
 | .e k s u,p,f,h=>(match j[k]? with
  | some o=>(match h4 j o.guard f with
   | some true=>iE P o (λm h'=>J aa h' M/\ml P j M aa K X s false m h') (λ_ h=>X h) f h
   | some false=>J aa h M/\ml P j M aa K X s false (f.put o.dst (.tuple [])) h
   | none=>False)
  | none=>False)/\ml P j M aa K X u p f h
def Clause(P:aOR)(ops:Array aOX)(es:List Nat)(M:Nat->Prop)(aa:I)(K:aj->I->Prop)(X:I->Prop)(n:Nat)(a:Array Bool)(f:aj)(h:I)(i:Nat):Prop :=
 ∀o,ops[i]?=some o->(match h4 ops.toList o.guard f with
    | some true=>iE P o (λj h'=>(US ops i=true\/J aa h' M)/\anyS P ops es M aa K X n (a.setIfInBounds i true) j h') (λ_ h=>X h) f h
    | some false=>anyS P ops es M aa K X n (a.setIfInBounds i true) (f.put o.dst (.tuple [])) h
    | none=>False)
theorem P0{l:List Nat}{k:Nat}(h:l.contains k=true):k∈l:=by simpa using h
theorem P1{h':I}(a:J aa h' M)(f:aj):f.eval h'=f.eval aa:=funext λx=>anV a f x
theorem aaw(sU:F1 aa):∀(s:ea) (n:Nat) (p E:Bool) (j:Array Bool) (f:aj) (h:I),(p=true->h=aa)->(E=true->J aa h M)->Down ops j->ml P ops.toList M aa K X s p f h ->
  (s.ok ops es n true p E j=true->anyS P ops es M aa K X n j f h) /\
  (∀m,n=m+1->s.ok ops es n false p E j=true->∀i∈s.keys,i∈Region.ready .any ops j->es.contains i=true/\Clause P ops es M aa K X m j f h i):=by
 intro s
 induction s with
 | done=>
  intro n p E j f h H F D z;refine⟨λu=>?_,λm B u=>by simp[ea.ok]at u⟩
  simp only[ea.ok,azR,ajC,beq_iff_eq,List.isEmpty_iff]at u;obtain⟨rfl,L⟩:=u;exact⟨L,z⟩
 | stop=>
  intro n p E j f h H F D z;exact⟨λu=>by simp[ea.ok]at u,λm B u i hi=>by simp[ea.keys]at hi⟩
 | q k s ih=>
  intro n p E j f h H F D z;refine⟨λu=>?_,λm B u i hi=>by simp[ea.keys]at hi⟩
  cases n with
  | zero=>simp[ea.ok]at u
  | succ n=>
   cases A:ops[k]? with
   | none=>simp[ea.ok,A]at u
   | some o=>
    simp only[ea.ok,A,azR,ajC,aAL]at u;obtain⟨⟨⟨⟨⟨Y,L⟩,kf⟩,dm⟩,BH⟩,N⟩:=u;have O:=P0 L;have mR:ops.toList[k]?=some o:=by simpa using A
    simp only[ml,mR]at z;have ag:∀v,gY P ops.toList h o v f->(h4 ops.toList o.guard f=some false\/(p=true->∀i,rF (f.eval h) o.op=some i->¬M i)/\ey P o (f.eval h) h=some (.val v h))->ml P ops.toList M aa K X s p (f.put o.dst v) h->anyS P ops es M aa K X (n+1) j f h:=λv G B h5=>by
     refine UU A Y n j f h (Region.free_spec A kf) O D ?_ ((ih n p E _ _ h H F (D.add O) h5).1 N);simp only[az2,ajC]at BH;rcases BH with(⟨DZ,Z⟩|⟨Z,pH⟩)|vt
     ·refine .inl ⟨F Z,λh' fe=>?_⟩;have U:=H DZ;subst U;rcases B with B|⟨B,R⟩
      ·rcases G with⟨S,_⟩|G
       ·rw[B]at S;cases S
       ·exact .inr G
      ·rcases G with⟨S,_⟩|G
       ·exact .inl ⟨S,.inl (by rw[P1 fe];exact an5 sU fe dm (B DZ) R)⟩
       ·exact .inr G
     ·refine .inl ⟨F Z,λh' fe=>?_⟩;rcases B with B|⟨B,R⟩
      ·rcases G with⟨S,_⟩|G
       ·rw[B]at S;cases S
       ·exact .inr G
      ·rcases G with⟨S,_⟩|G
       ·exact .inl ⟨S,.inl (by rw[P1 fe,<-P1 (F Z)];exact an7 pH R)⟩
       ·exact .inr G
     ·exact .inr ⟨vt,G⟩
    cases C:h4 ops.toList o.guard f with
    | none=>rw[C]at z;exact z.elim
    | some b=>
     rw[C]at z;cases b with
     | true=>
      obtain⟨v,⟨R,B⟩,h5⟩:=z;exact ag v (.inl ⟨C,.inl R⟩) (.inr ⟨B,R⟩) h5
     | false=>exact ag (.tuple []) (.inr ⟨C,rfl⟩) (.inl C) z
 | c k s ih=>
  intro n p E j f h H F D z;refine⟨λu=>?_,λm B u i hi=>by simp[ea.keys]at hi⟩
  cases n with
  | zero=>simp[ea.ok]at u
  | succ n=>
   cases A:ops[k]? with
   | none=>simp[ea.ok,A]at u
   | some o=>
    simp only[ea.ok,A,azR,ajC,aAL]at u;obtain⟨⟨⟨⟨Y,L⟩,kf⟩,BH⟩,N⟩:=u;have O:=P0 L;have mR:ops.toList[k]?=some o:=by simpa using A
    simp only[ml,mR]at z;simp only[az2,ajC]at BH;cases C:h4 ops.toList o.guard f with
    | none=>rw[C]at z;exact z.elim
    | some b=>
     rw[C]at z;cases b with
     | true=>
      obtain⟨g,args,v,R,R4,h5⟩:=z;refine UU (v:=v) A Y n j f h (Region.free_spec A kf) O D ?_ ((ih n p E _ _ h H F (D.add O) h5).1 N);rcases BH with⟨DZ,Z⟩|vt
      ·refine .inl ⟨F Z,λh' fe=>.inl ⟨C,.inr ⟨g,args,?_,R4 h' (.inl fe)⟩⟩⟩;have U:=H DZ;subst U;rw[P1 fe];exact an8 R
      ·exact .inr ⟨vt,.inl ⟨C,.inr ⟨g,args,R,R4 h (.inr rfl)⟩⟩⟩
     | false=>
      refine UU (v:=.tuple []) A Y n j f h (Region.free_spec A kf) O D ?_ ((ih n p E _ _ h H F (D.add O) z).1 N);rcases BH with⟨DZ,Z⟩|vt
      ·exact .inl ⟨F Z,λh' fe=>.inr ⟨C,rfl⟩⟩
      ·exact .inr ⟨vt,.inr ⟨C,rfl⟩⟩
 | a k s ih=>
  intro n p E j f h H F D z;refine⟨λu=>?_,λm B u i hi=>by simp[ea.keys]at hi⟩
  cases n with
  | zero=>simp[ea.ok]at u
  | succ n=>
   simp only[ea.ok,azR,ajC,beq_iff_eq]at u;obtain⟨⟨⟨Y,L⟩,kd⟩,N⟩:=u;have O:k∈Region.ready .any ops j:=by rw[L];simp
   refine⟨λaG=>(by rw[aG]at L;cases L),λi hi o A=>?_⟩
   rw[L]at hi;simp at hi;subst hi;rw[if_pos Y];have mR:ops.toList[i]?=some o:=by simpa using A
   simp only[ml,mR]at z;cases C:h4 ops.toList o.guard f with
   | none=>rw[C]at z;exact z.elim
   | some b=>
    rw[C]at z;cases b with
    | true=>exact KQ (λbU h' U=>⟨.inl kd,(ih n false false _ _ h' (by simp) (by simp) (D.add O) U).1 N⟩) (λ_ _ h=>h) z
    | false=>exact(ih n false false _ _ h (by simp) (by simp) (D.add O) z).1 N
 | e k s W D0 KU=>
  intro n p E j f h H F D z;have ab:∀(m:Nat) (ah:Bool),n=m+1->(ea.e k s W).ok ops es n ah p E j=true->∀i∈(ea.e k s W).keys,i∈Region.ready .any ops j->es.contains i=true/\Clause P ops es M aa K X m j f h i:=by
   intro m ah aB u i hi KV;subst aB;simp only[ea.ok,ajC]at u;obtain⟨⟨⟨_,Y⟩,N⟩,ai⟩:=u;simp only[ml]at z;simp only[ea.keys,Iz]at hi;by_cases R5:i=k
   ·subst R5;refine⟨Y,λo A=>?_⟩;have mR:ops.toList[i]?=some o:=by simpa using A
    have Q:=z.1;rw[mR]at Q;simp only at Q;cases C:h4 ops.toList o.guard f with
    | none=>rw[C]at Q;exact Q.elim
    | some b=>
     rw[C]at Q;cases b with
     | true=>exact KQ (λbU h' U=>⟨.inr U.1,(D0 m false true _ _ h' (by simp) (λ_=>U.1) (D.add KV) U.2).1 N⟩) (λ_ _ h=>h) Q
     | false=>exact(D0 m false true _ _ h (by simp) (λ_=>Q.1) (D.add KV) Q.2).1 N
   ·rcases hi with hi|hi
    ·exact absurd hi R5
    ·exact(KU (m+1) p E j f h H F D z.2).2 m rfl ai i hi KV
  refine⟨λu=>?_,λm B u=>ab m false B u⟩;cases n with
  | zero=>simp[ea.ok]at u
  | succ m=>
   have KW:(Region.ready .any ops j).all (λi=>(k::W.keys).contains i)=true/\(Region.ready .any ops j).contains k=true:=by
    simp only[ea.ok,ajC,Bool.not_true,aCe]at u;exact⟨u.1.1.1.2,u.1.1.1.1⟩
   have cQ:∀i∈Region.ready .any ops j,i∈(ea.e k s W).keys:=λi hi=>by
    have:=(ayL.1 KW.1) i hi;exact P0 this
   refine⟨λaG=>?_,λi hi o A=>?_⟩
   ·have:=P0 KW.2;rw[aG]at this;cases this
   ·obtain⟨Q,ad⟩:=ab m true rfl u i (cQ i hi) hi;rw[if_pos Q];exact ad o A
end
def nM(M:Nat->Prop)(r:Option Nat):Prop:=∀i,r=some i->¬M i
theorem aoa{r:Option Nat}:nM none_ r=True:=eq_true λ_ _ h=>h
theorem aob{o:Op}(h:A3 o=true):pk o=true:=by
 cases o
 case entry=>simp[A3]at h
 case call c=>
  obtain⟨callee,args,ts⟩:=c;cases callee with
  | builtin b=>cases b<;>simp[A3,pk]at h⊢
  | _=>simp[A3,pk]at h
 all_goals exact h
def gq(P:aOR)(i:List aOX)(M:Nat->Prop)(j:I)(K:fz):ea->Bool->aj->I->Prop
 | .done,_,f,h=>@jq K f h
 | .stop,_,_,_=>True
 | .q k s,p,f,h=>match i[k]? with
  | some o=>(p=true->nM M (rF (f.eval h) o.op))/\@s9 P i [o] ⟨h⟩ (.fn (λm _=>gq P i M j K s p m h) (λ_ _=>False)) f
  | none=>False
 | .c k s,p,f,h=>match i[k]? with
  | some o=>(match h4 i o.guard f with
   | some true=>∃g args v,ey P o (f.eval h) h=some (.call g args)/\(∀h',J j h' M\/h'=h->Pure P g args h' v)/\gq P i M j K s p (f.put o.dst v) h
   | some false=>gq P i M j K s p (f.put o.dst (.tuple [])) h
   | none=>False)
  | none=>False
 | .a k s,p,f,h=>match i[k]? with
  | some o=>@ik P i [o] (.fn (λm h'=>gq P i M j K s false m h') (λ_ h'=>∀f,fz.exc K f h')) f h
  | none=>False
 | .e k s u,p,f,h=>(match i[k]? with
  | some o=>@ik P i [o] (.fn (λm h'=>J j h' M/\gq P i M j K s false m h') (λ_ h'=>∀f,fz.exc K f h')) f h
  | none=>False)/\gq P i M j K u p f h
section
variable {P:aOR} {ol:List aOX} {M:Nat->Prop} {aa h:I} {K:fz} {f:aj} {k:Nat} {s alt:ea} {p:Bool} {o:aOX}
def KX(P:aOR)(ol:List aOX)(M:Nat->Prop)(aa:I)(K:fz)(s:ea)(p:Bool)(f:aj)(h:I):Option aOX->Prop
 | some o=>(p=true->nM M (rF (f.eval h) o.op))/\@s9 P ol [o] ⟨h⟩ (.fn (λa _=>gq P ol M aa K s p a h) (λ_ _=>False)) f
 | none=>False
def KY(P:aOR)(ol:List aOX)(M:Nat->Prop)(aa:I)(K:fz)(s:ea)(f:aj)(h:I):Option aOX->Prop
 | some o=>@ik P ol [o] (.fn (λa h'=>gq P ol M aa K s false a h') (λ_ h'=>∀f,fz.exc K f h')) f h
 | none=>False
def KZ(P:aOR)(ol:List aOX)(M:Nat->Prop)(aa:I)(K:fz)(s:ea)(f:aj)(h:I):Option aOX->Prop
 | some o=>@ik P ol [o] (.fn (λa h'=>J aa h' M/\gq P ol M aa K s false a h') (λ_ h'=>∀f,fz.exc K f h')) f h
 | none=>False
theorem aoc:gq P ol M aa K .done p f h=@jq K f h:=nr rfl
theorem aod:gq P ol M aa K .stop p f h=True:=nr rfl
theorem aoe:gq P ol M aa K (.q k s) p f h=KX P ol M aa K s p f h ol[k]?:=by
 unfold gq KX;cases ol[k]?<;>rfl
theorem aof:gq P ol M aa K (.a k s) p f h=KY P ol M aa K s f h ol[k]?:=by
 unfold gq KY;cases ol[k]?<;>rfl
theorem aog:gq P ol M aa K (.e k s alt) p f h=(KZ P ol M aa K s f h ol[k]?/\gq P ol M aa K alt p f h):=by
 conv=>lhs;unfold gq
 unfold KZ;cases ol[k]?<;>rfl
theorem aoh:KX P ol M aa K s p f h (some o)=((p=true->nM M (rF (f.eval h) o.op))/\@s9 P ol [o] ⟨h⟩ (.fn (λa _=>gq P ol M aa K s p a h) (λ_ _=>False)) f):=nr rfl
theorem aoi:KY P ol M aa K s f h (some o)=@ik P ol [o] (.fn (λa h'=>gq P ol M aa K s false a h') (λ_ h'=>∀f,fz.exc K f h')) f h:=nr rfl
theorem aoj:KZ P ol M aa K s f h (some o)=@ik P ol [o] (.fn (λa h'=>J aa h' M/\gq P ol M aa K s false a h') (λ_ h'=>∀f,fz.exc K f h')) f h:=nr rfl
theorem aok{A E:aj->I->Prop}{f:aj}{h:I}:fz.exc (.fn A E) f h=E f h:=nr rfl
theorem fA{bE:aOZ}{args:List V}{v:V}(a:ol[k]?=some o)(i:h4 ol o.guard f=some true)(av:ey P o (f.eval h) h=some (.call bE args))(j:∀h',J aa h' M\/h'=h->Pure P bE args h' v)
  (m:gq P ol M aa K s p (f.put o.dst v) h):gq P ol M aa K (.c k s) p f h:=by
 unfold gq;rw[a];simp only;rw[i];exact⟨_,_,_,av,j,m⟩
theorem rG(a:ol[k]?=some o)(i:h4 ol o.guard f=some false)(j:gq P ol M aa K s p (f.put o.dst (.tuple [])) h):gq P ol M aa K (.c k s) p f h:=by
 unfold gq;rw[a];simp only;rw[i];exact j
theorem aol{M:Nat->Prop}{h:I}:J h h M=True:=eq_true (J.refl _ _)
theorem aom{M:Nat->Prop}{h:I}{a:aR}:J h (h.push a) M=True:=eq_true (J.push _ _ _)
theorem aon{M:Nat->Prop}{h:I}{a b:aR}:J h ((h.push a).push b) M=True:=eq_true ((J.push _ _ _).bp _)
end
theorem aax{P:aOR}{m:Array aOX}{es:List Nat}{M:Nat->Prop}{Q:I}{K:fz}:∀(s:ea) (n:Nat) (A p C:Bool) (i:Array Bool) (f:aj) (h:I),
  s.ok m es n A p C i=true->gq P m.toList M Q K s p f h->ml P m.toList M Q K.go (λh=>∀f,fz.exc K f h) s p f h:=by
 intro s
 induction s with
 | done=>intro n A p C i f h _ j;exact j
 | stop=>intro n A p C i f h _ j;trivial
 | q k s ih=>
  intro n A p C i f h z j;cases n with
  | zero=>simp[ea.ok]at z
  | succ n=>
   cases G:m[k]? with
   | none=>simp[ea.ok,G]at z
   | some o=>
    simp only[ea.ok,G,ajC]at z;have S:=z.1.1.2;have D:=z.2;have E:m.toList[k]?=some o:=by simpa using G
    simp only[gq,E]at j;simp only[ml,E];obtain⟨W,H⟩:=j;unfold s9 I4 at H;cases F:h4 m.toList o.guard f with
    | none=>rw[F]at H;exact H.elim
    | some b=>
     rw[F]at H;cases b with
     | true=>
      obtain⟨v,L,X⟩:=H;have Y:ey P o (f.eval h) h=some (.val v h):=by
       rcases L with L|⟨g,args,L,_⟩
       ·exact L
       ·obtain⟨u,Z⟩:=FV (aob S) L;cases Z
      exact⟨v,⟨Y,W⟩,ih n true p C _ _ h D X⟩
     | false=>exact ih n true p C _ _ h D H
 | c k s ih=>
  intro n A p C i f h z j;cases n with
  | zero=>simp[ea.ok]at z
  | succ n=>
   cases G:m[k]? with
   | none=>simp[ea.ok,G]at z
   | some o=>
    simp only[ea.ok,G,ajC]at z;have D:=z.2;have E:m.toList[k]?=some o:=by simpa using G
    simp only[gq,E]at j;simp only[ml,E];cases F:h4 m.toList o.guard f with
    | none=>rw[F]at j;exact j
    | some b=>
     rw[F]at j;cases b with
     | true=>
      obtain⟨g,args,v,B,ad,aC⟩:=j;exact⟨g,args,v,B,ad,ih n true p C _ _ h D aC⟩
     | false=>exact ih n true p C _ _ h D j
 | a k s ih=>
  intro n A p C i f h z j;cases n with
  | zero=>simp[ea.ok]at z
  | succ n=>
   simp only[ea.ok,ajC]at z;have D:=z.2;simp only[gq]at j;simp only[ml];cases E:m.toList[k]? with
   | none=>rw[E]at j;exact j
   | some o=>
    rw[E]at j;simp only at j⊢;unfold ik n0 at j;cases F:h4 m.toList o.guard f with
    | none=>rw[F]at j;exact j
    | some b=>
     rw[F]at j;cases b with
     | true=>exact KQ (λO h' U=>ih n true false false _ O h' D U) (λ_ _ U=>U) j
     | false=>exact ih n true false false _ _ h D j
 | e k s ag R KU=>
  intro n A p C i f h z j;cases n with
  | zero=>simp[ea.ok]at z
  | succ n=>
   simp only[ea.ok,ajC]at z;obtain⟨⟨⟨_,_⟩,D⟩,N⟩:=z;simp only[gq]at j;simp only[ml];refine⟨?_,KU (n+1) false p C _ f h N j.2⟩;have B:=j.1;cases E:m.toList[k]? with
   | none=>rw[E]at B;exact B
   | some o=>
    rw[E]at B;simp only at B⊢;unfold ik n0 at B;cases F:h4 m.toList o.guard f with
    | none=>rw[F]at B;exact B
    | some b=>
     rw[F]at B;cases b with
     | true=>exact KQ (λO h' U=>⟨U.1,R n true false true _ O h' D U.2⟩) (λ_ _ U=>U) B
     | false=>exact⟨B.1,R n true false true _ _ h D B.2⟩
theorem aS.K0{P:aOR}{n id:Nat}{ops:Array aOX}(M:Nat->Prop)(es:List Nat)(s:ea)(z:P.follows .mixedOrders=true)(i:s.ok ops es ops.size true true true (azZ ops.size false)=true)(A:ops.toList.all (λo=>s7 n o.dst)=true){Q:sc}{f:aj}{h:I}
  (C:gq P ops.toList M h (.out Q) s true f h):aS P n (.region id ops true) Q.go f h:=by
 intro ρ B F a w j D;refine wpIn_wide.1 (wpIn_region_any (n:=0) z (FU (ρ0:=ρ) (es:=es) A _ _ f h ρ a _ (Ren.le.refl ρ) j.drew D ?_));have:=(aaw (es:=es) j.wf s _ true true _ f h (λ_=>rfl) (λ_=>J.refl _ _) (λk o G u=>by simp[aDP]at u;split at u<;>simp_all) (aax s _ true true true _ f h i C)).1 i
 exact KS (λf h E=>E f) _ _ _ _ this
def F2(P:aOR):Nat->List aPa->Option (List Nat)
 | _,[]=>some []
 | o, f :: a => if f.name ≠ "_" /\ f.offset = o then
   match P.underlying f.type,F2 P (o+1) a with
   | some (.int _),some l=>some (0::l)
   | some .bool,some l=>some (1::l)
   | some .string,some l=>some (2::l)
   | _,_=>none
  else none
def I8(P:aOR)(t:aOS):Option (List Nat):=match P.underlying t with
 | some (.struct a)=>if P.stoodInHeld t=false/\P.eqGuardType P.depth t=false then F2 P 0 a.toList else none
 | _=>none
def ha:List Nat->List V->List V->Option Bool
 | [],[],[]=>some true
 | 0::i,.int k a::r,.int j b::s=>if k=j then(ha i r s).map λx=>(a==b)&&x else none
 | 1::i,.bool a::r,.bool b::s=>(ha i r s).map λx=>(a==b)&&x
 | 2::i,.string a::r,.string b::s=>(ha i r s).map λx=>(a.toList==b.toList)&&x
 | _,_,_=>none
section
variable {P:aOR}
theorem CA{α:Type}{a:α}:ed P (pure a:Sem α)=some a:=rfl
theorem aay:ed P program=some P:=rfl
theorem K1{t:aOS}{d:aO1}(h:P.underlying t=some d):ed P (underlying t)=some d:=zx h
theorem aaz{t:aOS}{d:aO1}{cs:Array aOU}{o:Nat}{v:aOU}(a:P.underlying t=some d)(j:d.isRow=false)(i:cs[o]?=some v):ed P (part t cs o)=some v:=by
 have aT:ed P (isAgg t)=some false:=by
  unfold isAgg;rw[mB,K1 a];cases d<;>simp_all[aO1.isRow,CA]
 unfold part;rw[mB,aT];simp[i,CA]
theorem aoo{d:Nat}{t:aOS}{k k':aOT}{a b:Int}(h:P.underlying t=some (.int k')):ed P (Op.equalIn (d+1) t (.int k a) (.int k b))=some (a==b):=by
 unfold Op.equalIn;rw[mB,K1 h];simp[CA]
theorem aop{d:Nat}{t:aOS}{a b:Bool}(h:P.underlying t=some .bool):ed P (Op.equalIn (d+1) t (.bool a) (.bool b))=some (a==b):=by
 unfold Op.equalIn;rw[mB,K1 h];simp[CA]
theorem aoq{d:Nat}{t:aOS}{a b:ByteArray}(h:P.underlying t=some .string):ed P (Op.equalIn (d+1) t (.string a) (.string b))=some (a.toList==b.toList):=by
 unfold Op.equalIn;rw[mB,K1 h];simp[CA,beq_toListBytes]
theorem drop_cons{α:Type}{l:List α}{o:Nat}{a:α}{r:List α}(h:l.drop o=a::r):l[o]?=some a/\l.drop (o+1)=r:=by
 have i:(l.drop o)[0]?=some a:=by rw[h];rfl
 rw[azF]at i;refine⟨by simpa using i,?_⟩
 rw[<-aAo,h];rfl
theorem aaA{d:Nat}{X Y:Array aOU}:∀(F:List aPa) (o:Nat) (N:List Nat) (xs ys:List V) (O Q:List aOU) (b:Bool),F2 P o F=some N->ha N xs ys=some b->jv xs=some O->jv ys=some Q ->
  X.toList.drop o=O->Y.toList.drop o=Q->ed P (Op.eqFields (d+1) X Y F)=some b
 | [],o,N,xs,ys,O,Q,b,i,s,j,m,R,S=>by
  simp[F2]at i;subst i;cases xs<;>cases ys<;>simp[ha]at s;subst s;rfl
 | f::F,o,N,xs,ys,O,Q,b,i,s,j,m,R,S=>by
  unfold F2 at i;split at i
  case isFalse=>cases i
  rename_i aB;have go:∀(W Z:aOU) (cL dB:List V) (B C:List aOU) (q x:Bool) (D:List Nat) (G:aO1),P.underlying f.type=some G->G.isRow=false->X.toList.drop o=W::B->Y.toList.drop o=Z::C->F2 P (o+1) F=some D->ha D cL dB=some x->jv cL=some B->jv dB=some C ->
    ed P (Op.equalIn (d+1) f.type W Z)=some q->ed P (Op.eqFields (d+1) X Y (f::F))=some (q&&x):=λW Z cL dB B C q x D G A bh h1 ad aC bn u z l1=>by
   obtain⟨g1,g2⟩:=drop_cons h1;obtain⟨g3,g4⟩:=drop_cons ad;have ih:=aaA (d:=d) F (o+1) D cL dB B C x aC bn u z g2 g4;unfold Op.eqFields;rw[if_pos aB.1,mB,aB.2,aaz A bh (by rw[<-azI];exact g1)]
   simp only[azJ];rw[mB,aaz A bh (by rw[<-azI];exact g3)]
   simp only[azJ];rw[mB,l1];simp only[azJ];cases q
   ·rfl
   ·simpa using ih
  cases H:F2 P (o+1) F with
  | none=>rw[H]at i;split at i<;>simp_all
  | some D=>
   rw[H]at i;cases A:P.underlying f.type with
   | none=>rw[A]at i;cases i
   | some G=>
    rw[A]at i;cases G<;>simp only at i<;>try (cases i;done)
    case int kk=>
     obtain rfl:=Option.some.inj i;cases xs with
     | nil=>simp[ha]at s
     | cons E cL=>
      cases ys with
      | nil=>cases E<;>simp[ha]at s
      | cons L dB=>
       cases E<;>cases L<;>first|(simp[ha]at s;done)|skip
       rename_i bx a k2 c;have hr:(if bx=k2 then(ha D cL dB).map (λx=>(a==c)&&x)else none)=some b:=s
       split at hr
       case isFalse=>cases hr
       rename_i D1;subst D1;obtain⟨x,M,rfl⟩:=azL.1 hr;simp only[jv,nW]at j m;cases u:jv cL with
       | none=>rw[u]at j;cases j
       | some B=>
        cases z:jv dB with
        | none=>rw[z]at m;cases m
        | some C=>
         rw[u]at j;rw[z]at m;obtain rfl:=Option.some.inj j;obtain rfl:=Option.some.inj m;exact go _ _ cL dB B C _ x D _ A rfl R S H M u z (aoo A)
    case bool=>
     obtain rfl:=Option.some.inj i;cases xs with
     | nil=>simp[ha]at s
     | cons E cL=>
      cases ys with
      | nil=>cases E<;>simp[ha]at s
      | cons L dB=>
       cases E<;>cases L<;>first|(simp[ha]at s;done)|skip
       rename_i a c;obtain⟨x,M,rfl⟩:=azL.1 s;simp only[jv,nW]at j m;cases u:jv cL with
       | none=>rw[u]at j;cases j
       | some B=>
        cases z:jv dB with
        | none=>rw[z]at m;cases m
        | some C=>
         rw[u]at j;rw[z]at m;obtain rfl:=Option.some.inj j;obtain rfl:=Option.some.inj m;exact go _ _ cL dB B C _ x D _ A rfl R S H M u z (aop A)
    case string=>
     obtain rfl:=Option.some.inj i;cases xs with
     | nil=>simp[ha]at s
     | cons E cL=>
      cases ys with
      | nil=>cases E<;>simp[ha]at s
      | cons L dB=>
       cases E<;>cases L<;>first|(simp[ha]at s;done)|skip
       rename_i a c;obtain⟨x,M,rfl⟩:=azL.1 s;simp only[jv,nW]at j m;cases u:jv cL with
       | none=>rw[u]at j;cases j
       | some B=>
        cases z:jv dB with
        | none=>rw[z]at m;cases m
        | some C=>
         rw[u]at j;rw[z]at m;obtain rfl:=Option.some.inj j;obtain rfl:=Option.some.inj m;exact go _ _ cL dB B C _ x D _ A rfl R S H M u z (aoq A)
theorem P2:∀{u:List Nat} {xs ys:List V} {b:Bool},ha u xs ys=some b->∃z A,jv xs=some z/\jv ys=some A
 | [],xs,ys,b,h=>by
  cases xs<;>cases ys<;>simp[ha]at h;exact⟨[],[],rfl,rfl⟩
 | k::u,[],ys,b,h=>by unfold ha at h;split at h<;>simp_all
 | k::u,x::xs,[],b,h=>by unfold ha at h;split at h<;>simp_all
 | k::u,x::xs,y::ys,b,h=>by
  have s:∀{a c:aOU} {q:Option Bool},nW x=some a->nW y=some c->ha u xs ys≠none->∃z A,jv (x::xs)=some z/\jv (y::ys)=some A:=λ{a c q} C D E=>by
   cases B:ha u xs ys with
   | none=>exact absurd B E
   | some F=>
    obtain⟨z,A,ay,bc⟩:=P2 B;exact⟨a::z,c::A,by simp[jv,C,ay],by simp[jv,D,bc]⟩
  unfold ha at h;split at h
  ·simp_all
  ·rename_i i j m;simp only[List.cons.injEq]at i j m;obtain⟨rfl,rfl⟩:=i;obtain⟨rfl,rfl⟩:=j;obtain⟨rfl,rfl⟩:=m;split at h
   ·exact s (q:=none) rfl rfl (by intro U;rw[U]at h;cases h)
   ·cases h
  ·rename_i i j m;simp only[List.cons.injEq]at i j m;obtain⟨rfl,rfl⟩:=i;obtain⟨rfl,rfl⟩:=j;obtain⟨rfl,rfl⟩:=m;exact s (q:=none) rfl rfl (by intro U;rw[U]at h;cases h)
  ·rename_i i j m;simp only[List.cons.injEq]at i j m;obtain⟨rfl,rfl⟩:=i;obtain⟨rfl,rfl⟩:=j;obtain⟨rfl,rfl⟩:=m;exact s (q:=none) rfl rfl (by intro U;rw[U]at h;cases h)
  ·cases h
theorem UX{t:aOS}{z:List Nat}{xs ys:List V}{j m:List aOU}{b:Bool}(s:I8 P t=some z)(C:ha z xs ys=some b)(D:jv xs=some j)(E:jv ys=some m) :
  ed P (Op.equal t (.agg j.toArray) (.agg m.toArray))=some b/\P.eqGuardType P.depth t=false:=by
 unfold I8 at s;split at s
 case h_2=>cases s
 rename_i i F;split at s
 case isFalse=>cases s
 rename_i B;refine⟨?_,B.2⟩;show ed P (Op.equalIn (9999+1) t _ _)=some b;have G : ∀i : List aPa, ed P (forIn i ((none, ()) : Option Bool × Unit) λf r => if f.name ≠ "_" then do
   let a <-part f.type j.toArray f.offset
   let c <-part f.type m.toArray f.offset
   let q <-Op.equalIn 9999 f.type a c
   if(!q)=true then pure (ForInStep.done (some false,()))else pure (ForInStep.yield (none,()))
   else pure (ForInStep.yield (none,())))=(ed P (Op.eqFields 9999 j.toArray m.toArray i)).map λr=>if r then(none,())else(some false,()):=λi=>by
  induction i with
  | nil=>rfl
  | cons f i ih=>
   rw[List.forIn_cons];unfold Op.eqFields;by_cases u : f.name ≠ "_"
   ·rw[if_pos u,if_pos u];simp only[mB,Option.bind_assoc];cases ed P (part f.type j.toArray f.offset)with
    | none=>rfl
    | some a=>
     simp only[azJ];cases ed P (part f.type m.toArray f.offset)with
     | none=>rfl
     | some c=>
      simp only[azJ];cases ed P (Op.equalIn 9999 f.type a c)with
      | none=>rfl
      | some q=>
       cases q
       ·rfl
       ·simpa [CA]using ih
   ·rw[if_neg u,if_neg u];simp only[mB,CA,azJ];exact ih
 have H:=aaA (P:=P) (d:=9998) (X:=j.toArray) (Y:=m.toArray) i.toList 0 z xs ys j m b s C D E (by simp) (by simp)
 unfold Op.equalIn;simp only[mB,K1 F,azJ,aay,B.1,Bool.false_eq_true,if_false];rw[<-Array.forIn_toList];have A:=G i.toList;rw[H]at A
 first
  | (simp only[mB]at *;rw[A]<;>cases b<;>rfl)
  | (erw[A]<;>cases b<;>rfl)
theorem aaB{t:aOS}{a:List Nat}{xs i:List V}{b:Bool}{xo yo:aOW}(s:I8 P t=some a)(j:ha a xs i=some b):cV P .neq t xo yo (.agg xs) (.agg i)=some (.bool (!b)):=by
 obtain⟨u,z,m,q⟩:=P2 j;obtain⟨A,B⟩:=UX s j m q;unfold cV;simp only[p7,m,q,azE];have C:ed P (eqGuard .neq t xo yo (.agg u.toArray) (.agg z.toArray))=some ():=by
  simp[eqGuard,mB,aay,B,CA]
 rw[mB,C];simp only[azJ,binOp,mB,A,CA,azE];rfl
end
theorem sj{P:aOR}{t tx:aOS}{T:lM}(W:gp P t=some T)(dp:0<T.sz)
  {h:I} {s x:V} {cs:List V} (X:Own h T.e T.sz s cs) {n:Nat} {a:List V} (Y:fS P T.sz tx x h=some (n,a)) (z:a.length=n*T.sz)
  (M:∀m,m*T.sz=cs.length+a.length->m*T.aq<=lim/\m<=lim) :
  ∃v h',ki P t tx s x h=some (v,h')/\Own h' T.e T.sz v (cs++a)/\J h h' (a7 s)/\cu h s v:=by
 obtain⟨Z,bS,bl,jn,fw,_⟩:=uS W;unfold ki;simp only[Z,bS,bl,jn,fw,if_true,Y];have start:∀s:V,(s=.ag\/s=.z0)->cs=[]->∃v h',(if n=0 then some (s,h)else if n*T.aq<=lim/\n<=lim then some (.bg h.n 0 n b7,h.push (.cells a T.e (some T.sz)))else none)=some (v,h')/\Own h' T.e T.sz v (cs++a)/\J h h' (a7 s)/\cu h s v:=λs aa D=>by
  subst D;by_cases A:n=0
  ·subst A;have:a=[]:=azB (by simpa using z)
   subst this;exact⟨s,h,by simp,.inl ⟨aa,rfl⟩,J.refl _ _,.inl rfl⟩
  ·obtain⟨F,G⟩:=M n (by simp[z])
   exact⟨.bg h.n 0 n b7,h.push (.cells a T.e (some T.sz)),by simp[A,F,G],Own.grown (by simp[I.push]) (by simp[I.push]) (by simpa using z),J.push _ _ _,.inr λk B=>by simp[aU]at B;omega⟩
 rcases X with⟨rfl|rfl,D⟩|⟨i,q,cap,c,N,rfl,hi,O,u,C,Q⟩
 ·exact start _ (.inl rfl) D
 ·exact start _ (.inr rfl) D
 ·by_cases A:n=0
  ·subst A;have:a=[]:=azB (by simpa using z)
   subst this;exact⟨.bg i 0 q cap,h,by simp,by rw[List.append_nil];exact .inr ⟨i,q,cap,c,N,rfl,hi,O,u,C,Q⟩,J.refl _ _,.inl rfl⟩
  ·obtain⟨F,G⟩:=M (q+n) (by rw[axY,u,z])
   have cM:q*T.sz<=c.length:=by
    have:=congrArg azx C;rw[TY,u]at this;omega
   simp only[A,F,G,and_self,if_true,if_false,O];rcases Q with⟨R,S,ab⟩|⟨rfl,rfl⟩
   ·simp only[R,if_true];by_cases E:q+n<=cap
    ·have fG:0+(q+n)*T.sz<=c.length:=by rw[ayP];exact ajy (azl _ E) S
     have hll:(lay c (q*T.sz) a).length=c.length:=r6 _ _ _ (by rw[z,<-axY];omega)
     simp only[E,if_true,fG];refine⟨_,_,rfl,.inr ⟨i,q+n,cap,lay c (0+q*T.sz) a,N,rfl,hi,by simp[I.set],by simp[u,z,axY],?_,.inl ⟨R,?_,E⟩⟩,⟨BY _,λj aN H=>?_,rfl⟩,.inl rfl⟩
     ·simp only[ayP,lay,C,axY,<-z];have:(cs++a).length=q*T.sz+a.length:=by simp[u]
      rw[<-this];exact List.take_left
     ·rw[ayP,hll];exact S
     ·simp only[I.set];rw[if_neg (by intro L;subst L;simp[a7,aU]at H)]
    ·simp only[E,if_false];have Ct:0+q*T.sz<=c.length:=by omega
     simp only[Ct,if_true,azC,C];exact⟨_,_,rfl,Own.grown (by simp[I.push]) (by simp[I.push]) (by simp[u,z,axY]),J.push _ _ _,.inr λk B=>by simp[aU]at B;omega⟩
   ·simp only[Nat.lt_irrefl,if_false,true_and,cM,and_self,if_true];refine⟨_,_,rfl,Own.grown (by simp[I.push,I.set]) (by simp[I.push,I.set,C]) (by simp[u,z,axY]),⟨by simp[I.push,I.set],λj aN H=>?_,rfl⟩,.inr λk B=>by simp[aU]at B;omega⟩
    have h1:j≠i:=by intro L;subst L;simp[a7,aU]at H
    have ad:j≠h.n:=by omega
    simp[I.push,I.set,h1,ad]
theorem I9{P:aOR}{t:aOS}{T:lM}(a:gp P t=some T)(j:0<T.sz)
  {h:I} {s:V} {cs xs:List V} (q:Own h T.e T.sz s cs) (u:xs.length=T.sz) (z:xs.all (·.one)=true)
  (A:∀m,m*T.sz=cs.length+T.sz->m*T.aq<=lim/\m<=lim) :
  ∃v h',ki P t t s (.bg h.n 0 1 1) (h.push (.cells xs T.e none))=some (v,h')/\Own h' T.e T.sz v (cs++xs)/\J h h' (a7 s)/\cu h s v:=by
 obtain⟨H,L,bl,M,N,B⟩:=uS a;have i:=J.push h (.cells xs T.e none) none_;have C:fS P T.sz t (.bg h.n 0 1 1) (h.push (.cells xs T.e none))=some (1,xs):=by
  simp only[fS,B,I.push,if_true,aAJ,ayP,azC];rw[ajz (by omega),if_pos ⟨by omega,z⟩]
 obtain⟨v,h',aT,D,E,F⟩:=sj (tx:=t) a j (q.ba i) C (by omega) (by rw[u];exact A)
 refine⟨v,h',aT,D,(i.up).trans' E,F.imp id λU k G=>?_⟩;have:=U k G;simp[I.push]at this;omega
theorem Acc.sk{P:aOR}{t tx:aOS}{T:lM}(u:gp P t=some T){j h:I}{s x:V}{cs i:List V}(a:Acc j h T.e T.sz s cs)(z:0<T.sz){n:Nat}(A:fS P T.sz tx x h=some (n,i))(B:i.length=n*T.sz)
  (C:∀m,m*T.sz=cs.length+i.length->m*T.aq<=lim/\m<=lim) :
  ∃v h',ki P t tx s x h=some (v,h')/\Acc j h' T.e T.sz v (cs++i):=by
 obtain⟨v,h',aT,D,E,F⟩:=sj u z a.own A B C;exact⟨v,h',aT,a.step D E F⟩
theorem Acc.zb{P:aOR}{t:aOS}{T:lM}(j:gp P t=some T){i h:I}{s:V}{cs xs:List V}(a:Acc i h T.e T.sz s cs)(u:0<T.sz)(z:xs.length=T.sz)(A:xs.all (·.one)=true)
  (B:∀m,m*T.sz=cs.length+T.sz->m*T.aq<=lim/\m<=lim) :
  ∃v h',ki P t t s (.bg h.n 0 1 1) (h.push (.cells xs T.e none))=some (v,h')/\Acc i h' T.e T.sz v (cs++xs):=by
 obtain⟨v,h',aT,C,D,E⟩:=I9 j u a.own z A B;exact⟨v,h',aT,a.step C D E⟩
section
variable {P:aOR} {α:Type} {enc:α->List V} {sz:Nat}
theorem fJ(a:∀x,(enc x).length=sz):∀l:List α,(l.flatMap enc).length=l.length*sz
 | []=>by simp
 | x::l=>by rw[azh,Dx,a,fJ a l,axW,axY];omega
theorem P3(a:∀x,(enc x).all (·.one)=true):∀l:List α,(l.flatMap enc).all (·.one)=true
 | []=>rfl
 | x::l=>by rw[azh,List.all_append,a,P3 a l];rfl
theorem yN(a:∀x,(enc x).length=sz):∀(l:List α) (k:Nat),(l.flatMap enc).drop (k*sz)=(l.drop k).flatMap enc
 | l,0=>by simp
 | [],k+1=>by simp
 | x::l,k+1=>by
  rw[azh,axY,aAJ,Nat.add_comm,<-aAo,List.drop_left' (a x),yN a l k,List.drop_succ_cons]
theorem D2(a:∀x,(enc x).length=sz):∀(l:List α) (k:Nat),(l.flatMap enc).take (k*sz)=(l.take k).flatMap enc
 | l,0=>by simp
 | [],k+1=>by simp
 | x::l,k+1=>by
  rw[azh,axY,aAJ,List.take_append,a,Nat.add_sub_cancel,D2 a l k,List.take_succ_cons,azh,ajz (by rw[a];omega)]
theorem tR(a:∀x,(enc x).length=sz){l:List α}{k:Nat}(i:k<l.length){t:aOS}{kk:aOT}(j:dC P t=some sz) :
  gP P t (.af l.length (l.flatMap enc)) (.int kk (k:Int))=some (.at (enc l[k]++(l.drop (k+1)).flatMap enc)):=by
 rw[I6 j (by omega) (by omega) (fJ a l),ayQ,yN a,azg i,azh]
theorem P4(a:∀x,(enc x).length=sz){l:List α}{n:Nat}(i:l.length=n){k:Nat}{x:α}(j:l[k]?=some x){t:aOS}{kk:aOT}(m:dC P t=some sz) :
  ∃r,gP P t (.af n (l.flatMap enc)) (.int kk (k:Int))=some (.at (enc x++r)):=by
 subst i;obtain⟨q,rfl⟩:=are.1 j;exact⟨_,tR a q m⟩
theorem be{e r:List V}(a:e.length=sz):cJ (some (some sz)) (some (e++r))=some (.agg e):=by
 rw[Z2,if_pos (by rw[Dx];omega),aAO a]
theorem A4(a:∀x,bb (enc x))(l:List α):bb (l.flatMap enc):=bb.flatMap λx _=>a x
end
theorem aS.cut{P:aOR}{n:Nat}{c:Code}{f:aj}{h:I}(R:aj->I->Prop){Q:sc}(i:aS P n c (sc.go (.fn λx f h=>@r8 ⟨x=.normal/\R f h⟩)) f h)(j:∀f h,R f h->@gi .normal Q f h):aS P n c (sc.go Q) f h :=
 i.mono λe f h s=>by
  have u:e=.normal/\R f h:=s;obtain⟨rfl,z⟩:=u;exact j f h z
theorem aor{h:I}{B C:aOS}{j q n m:Nat}{a b:V}{s u:List V}(D:Own h B j a s)(ob:Own h C q b u)(E:∀k,aU a=some k->aU b≠some k)(F:s.length=n*j)(G:u.length=m*q)(aT:0<j)(ak:0<q) :
  ∃i,aA [a,b] h [.af n s,.af m u] i/\J h i (λk=>a7 a k\/a7 b k):=by
 obtain⟨Q,H,A⟩:=aF.own D F aT;have z:=ob.ai A λk L M=>E k M L;obtain⟨i,N,O⟩:=aF.own z G ak;exact⟨i,aA.cons H (aA.cons N (aA.refl [] _)),(A.mono λ_ h=>.inl h).trans (O.mono λ_ h=>.inr h) λ_ _ h=>h⟩
theorem Acc.P5{s h:I}{D E:aOS}{u z n m:Nat}{a b:V}{A B:List V}(C:Acc s h D u a A)(ob:Acc s h E z b B)(F:∀k,aU a=some k->aU b≠some k)(G:A.length=n*u)(H:B.length=m*z)(aT:0<u)(ak:0<z) :
  ∃i,aA [a,b] h [.af n A,.af m B] i/\J s i none_:=by
 obtain⟨i,c,k⟩:=aor C.own ob.own F G H aT ak;exact⟨i,c,C.ai.trans k λj L hi=>by
  rcases hi with hi|hi
  ·have:=C.new j hi;omega
  ·have:=ob.new j hi;omega⟩
open Go
section
variable {H:Type} {enc:aOS×aOU->H} {P:aOR} {w:aOV} {base:Nat} {spare:Nat->Bool} {held:Bool}
theorem aos{t e:aOS}{a:Option aO2}{len cap:Nat}{d:aO0 H}{ps:List aO7}{es:List (List V)}{k:Nat}(u:P.underlying t=some (.slice e))(C:P.bytesOf e=k)(D:∀n∈d.weights P t,n<=reachBytes)
  (h:aO0.Trod enc P w base spare held t (.slice a len cap) d ps) (j:aE (kl w) (.af es.length es.flatten) (.slice a len cap)):es.length*k<=2^47:=by
 obtain⟨z,E⟩:=h;have A:es.length=len:=by
  generalize es.length=n at j;generalize es.flatten=c at j;cases j<;>rfl
 rcases aO0.trod_slice u E with⟨q,_⟩|⟨F,G,L,i,rest,m,_,q,B,_,_,_,M,_,_⟩
 ·cases q;rw[A];omega
 ·cases q;simp only[Prod.mk.injEq]at B;have s:=D ((i.length+rest.length)*P.bytesOf e) (by rw[B.1];simp[aO0.weights,u])
  have N:=reachBytes_lt;have O:len*k<=(i.length+rest.length)*k:=azl _ (by omega)
  rw[C]at s;rw[A];omega
end
theorem aS.K3{P:aOR}{n id:Nat}{ops:Array aOX}(M:Nat->Prop)(es:List Nat)(s:ea)(z:P.follows .mixedOrders=true)(i:s.ok ops es ops.size true false true (azZ ops.size false)=true)(A:ops.toList.all (λo=>s7 n o.dst)=true){Q:sc}{f:aj}{h:I}
  (C:gq P ops.toList M h (.out Q) s false f h):aS P n (.region id ops true) Q.go f h:=by
 intro ρ B G a w j D;refine wpIn_wide.1 (wpIn_region_any (n:=0) z (FU (ρ0:=ρ) (es:=es) A _ _ f h ρ a _ (Ren.le.refl ρ) j.drew D ?_));have:=(aaw (es:=es) j.wf s _ false true _ f h (λE=>by cases E) (λ_=>J.refl _ _) (λk o H u=>by simp[aDP]at u;split at u<;>simp_all) (aax s _ true false true _ f h i C)).1 i
 exact KS (λf h F=>F f) _ _ _ _ this
section
variable {ρ:Ren} {B:Nat} {aV:aOV} {h:I} {w:aOV}
theorem a1.grow(R:a1 ρ B aV h w)(os:Array Obj):a1 ρ B aV h (Sort.grow w os):=by
 have j:∀k,k<w.heap.size->(Sort.grow w os).heap[k]?=w.heap[k]?:=λk s=>by
  show(w.heap++os)[k]?=_;rw[Array.getElem?_append,if_pos s]
 have bl:w.heap.size<=(Sort.grow w os).heap.size:=by
  show w.heap.size<=(w.heap++os).size;rw[Array.size_append];omega
 refine⟨⟨R.heap.me,R.heap.inj,λi=>?_,λb arr C=>?_,R.heap.glob,ajy R.heap.base bl⟩,R.below.trans ⟨rfl,rfl,rfl,bl,λk s=>j k (Nat.lt_of_lt_of_le s R.heap.base),BY _⟩⟩
 ·by_cases u:h.get i=.dead
  ·rw[u];trivial
  ·refine(R.heap.obj i).ai (Ren.le.refl ρ) λb G z=>⟨j b ?_,λh=>h⟩;obtain⟨H,L,D,E,_⟩:=R.heap.live u;rw[D]at z;cases z;exact E
 ·obtain⟨e,F,A⟩:=R.heap.frz b arr C;exact⟨e,F,(j b (azj.1 A).1).trans A⟩
theorem a1.ahead(R:a1 ρ B aV h w):∀n:Nat,a1 ρ B aV h (Sort.ahead w n)
 | 0=>R
 | n+1=>by rw[<-Sort.ahead_drew];exact(R.ahead n).drew
theorem a1.Ja(R:a1 ρ B aV h w){k:aOT}{i b F n:Nat}{c:List V}{e:aOS}{ex:Option Nat}(G:h.get i=.cells c e ex)(hi:ρ.ren i=some (b,F))(Y:n<=c.length)(d:Array Int)(N:d.size=n) :
  a1 ρ B aV (h.set i (.cells (d.toList.map (.int k)++c.drop n) e ex)) (Sort.putRow (aOU.int k) w b 0 d):=by
 have H:=R.heap.obj i;rw[G]at H;obtain⟨Z,tr,arr,L,O,Q,M,z,S,W⟩:=H;rw[hi]at L;cases L;have aD:=(azj.1 M).1;have D:∀j,(Sort.putRow (aOU.int k) w b 0 d).heap[j]?=if b=j then(w.heap[j]?).map (Sort.onCells (Sort.putCells (aOU.int k) 0 d))else w.heap[j]?:=λj=>by
  show(w.heap.modify b _)[j]?=_;rw[Array.getElem?_modify]
 refine R.r4 hi (by rw[G];simp) (λj A=>by rw[D,if_neg (Ne.symm A)]) (by rw[Sort.size_putRow];exact BY _) ⟨rfl,rfl,rfl,by rw[Sort.size_putRow];exact BY _,λj A=>by rw[D,if_neg (by omega)],BY _⟩ ?_
 have E:(d.toList.map (V.int k)++c.drop n).length=c.length:=by simp;omega
 refine⟨b,F,Sort.putCells (aOU.int k) 0 d arr,hi,O,Q,by rw[D,if_pos rfl,M];rfl,by rw[E];simpa [Sort.putCells]using z,?_,by rw[E];simpa [Sort.putCells]using W⟩
 rw[E];refine⟨by simp[Sort.putCells];omega,λj v v' s u=>?_⟩
 rw[azf]at u;split at u
 case isFalse=>cases u
 rename_i A;rw[azI]at u;unfold Sort.putCells at u;rw[Array.getElem?_mapIdx,azL]at u;obtain⟨x,X,C⟩:=u;by_cases jk:j<n
 ·rw[if_pos ⟨Dy _,by omega⟩]at C
  subst C;rw[aAc (by simp;omega),aBx,azI,Array.getElem?_eq_getElem (by omega)]at s
  simp only[azE,Option.some.injEq]at s;subst s;rw[Nat.sub_zero,getElem!_pos d j (by omega)]
  exact .int k _
 ·rw[if_neg (by omega)]at C
  subst C;rw[aAd (by simp;omega),azF]at s
  simp only[axT,Array.length_toList]at s;rw[N,show n+(j-n)=j by omega]at s
  refine S.2 j v x s ?_;rw[azf,if_pos A,azI];exact X
theorem a1.holds(R:a1 ρ B aV h w){k:aOT}{i b E:Nat}{c:List V}{e:aOS}{ex:Option Nat}(F:h.get i=.cells c e ex)(hi:ρ.ren i=some (b,E)){l:List Int}(av:c.take l.length=l.map (.int k)) :
  Sort.Holds (aOU.int k) w b 0 l.toArray/\b<w.heap.size:=by
 have A:=R.heap.obj i;rw[F]at A;obtain⟨M,N,arr,C,O,Q,z,D,G,S⟩:=A;rw[hi]at C;cases C;refine⟨λj u=>?_,(azj.1 z).1⟩;simp only[List.size_toArray]at u;have W:l.length<=c.length:=by
  have:=congrArg azx av;rw[TY,axT]at this;omega
 have H:c[j]?=some (.int k l[j]):=by
  have:(c.take l.length)[j]?=some (.int k l[j]):=by rw[av,aBx,IA u];rfl
  rwa[azf,if_pos u]at this
 obtain⟨X,s,L⟩:=G.get H;cases L;rw[azf]at s;split at s
 case isFalse=>cases s
 rw[azI]at s;have ay:l.toArray[j]! = l[j]:=by rw[getElem!_pos _ j (by simpa using u)];simp
 rw[ay];exact⟨by simp[aOV.cell?,z,s],by simp[aOV.frozen?,z]⟩
end
theorem aot{P:aOR}{f:aOZ}{e:aOS}
  (R:∀(hz off cap:Nat) (zs:List Int) (w:aOV),Sort.Holds (aOU.int .i64) w hz off zs.toArray->hz<w.heap.size->zs.length<4611686018427387904->Calls P f #[.slice (some ⟨hz,off,none⟩) zs.length cap] w λx w'=>
   x=.returned (.tuple #[])/\∃n os,w'=Sort.grow (Sort.putRow (aOU.int .i64) (Sort.ahead w n) hz off (zs.mergeSort λx y=>decide (x<=y)).toArray) os)
  (S:∀(p:Option aO2) (cap:Nat) (w:aOV),Calls P f #[.slice p 0 cap] w λx w'=>x=.returned (.tuple #[])/\w'=w)
  {h:I} {v:V} {l:List Int} (G:Own h e 1 v (l.map (.int .i64))) (W:l.length<4611686018427387904) :
  au P f [v] h (λr h'=>r=.tuple []/\Own h' e 1 v ((l.mergeSort λx y=>decide (x<=y)).map (.int .i64))/\J h h' (a7 v)):=by
 have nil:∀(p:Option aO2) (cap:Nat) (ρ:Ren) (B:Nat) (j w:aOV),a1 ρ B j h w->l=[]->Calls P f #[.slice p 0 cap] w λH w'=>(∃(ρ':Ren) (r:V) (L:aOU) (h':I),H=.returned L/\aE ρ' r L/\a1 ρ' B j h' w'/\ρ.le ρ'/\(r=.tuple []/\Own h' e 1 v ((l.mergeSort λx y=>decide (x<=y)).map (.int .i64))/\J h h' (a7 v))) \/
   (∃(ρ':Ren) (M:List PanicEntry) (h':I),H=.panicked M/\DP M/\a1 ρ' B j h' w'/\ρ.le ρ'/\False):=λp cap ρ B j w s X=>by
  subst X;refine(S p cap w).mono λx w' ⟨u,z⟩=>.inl ⟨ρ,.tuple [],.tuple #[],h,u,.tuple rfl (by simp),by rw[z];exact s,Ren.le.refl ρ,rfl,?_,J.refl _ _⟩
  simpa using G
 intro ρ B j w q s aT;obtain⟨Y,t,Z,A,UY⟩:=aT.dT;have C:t=[]:=by
  have:=UY.1;cases t with
  | nil=>rfl
  | cons _ _=>simp at this
 subst C;have dy:q=#[Y]:=by
  apply Array.toList_inj.1;rw[Z]
 subst dy;rcases G with⟨lH,dg⟩|⟨i,D,cap,c,N,rfl,zL,O,a,E,dt⟩
 ·have Q:l=[]:=List.map_eq_nil_iff.1 dg;rcases lH with rfl|rfl
  ·cases A;exact nil _ _ ρ B j w s Q
  ·cases A;exact nil _ _ ρ B j w s Q
 ·rw[ajD]at a E;have tw:l.length=D:=by rw[<-a,axT]
  subst tw;have cM:l.length<=c.length:=by
   have:=congrArg azx E;rw[TY,axT]at this;omega
  cases A with
  | bg hi _ _ _ aa=>
   rename_i b bG;obtain⟨hH,aD⟩:=s.holds (k:=.i64) O hi E;refine(R b 0 (gg bG cap) l w hH aD W).mono λx w' ⟨u,m,os,z⟩=>.inl ⟨ρ,.tuple [],.tuple #[],h.set i (.cells ((l.mergeSort λx y=>decide (x<=y)).map (.int .i64)++c.drop l.length) e N),u,.tuple rfl (by simp),?_,Ren.le.refl ρ,rfl,?_,?_⟩
   ·subst z;exact((s.ahead m).Ja O hi cM (l.mergeSort λx y=>decide (x<=y)).toArray (by simp[aCf])).grow os
   ·refine .inr ⟨i,l.length,cap,_,N,rfl,zL,aL,by simp[aCf],?_,?_⟩
    ·rw[ajD,aAO (by simp[aCf])]
    ·rcases dt with⟨F,ad,aC⟩|F
     ·refine .inl ⟨F,?_,aC⟩;simp only[Dx,axT,aCf,azD];omega
     ·exact .inr F
   ·exact(J.set h i _).mono λk hk=>by simp[a7,aU,hk]
end Go.Proofs.YtemdgidnhgcafaaGreatDoor.Ab
