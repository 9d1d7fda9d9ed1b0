/-
  Rules of the machine on abstract states. Conditions: as each theorem says.
-/
import Derived.Test.YtemdgidnhgcafaaGreatDoorAdA
import Derived.Lib.Overlaps
import Derived.Laws.LoneSync
import Derived.LoopN
import Derived.ScopeJumps
import Derived.Deep.Quiet
import Derived.OrdersIn
import Derived.RangeFuncIn
import Derived.RangeFuncLeaves
import Derived.RangeFuncRecord
import Derived.IntWalk
open Go renaming run_underlying->ki
open Go.Proofs.YtemdgidnhgcafaaGreatDoor.Ab.V renaming int->kA,agg->kB
open Option renaming some->eL,none->eN
open Bool renaming true->e6,false->fr
open Go.IntKind renaming i64->gj
open Array renaming ext'->azp,getElem?_eq_getElem->ayZ,getElem?_modify->azA,getElem?_toList->azq,getElem?_eq_some_iff->ay8,getElem?_append_left->aDR,eq_empty_of_size_eq_zero->aAB,replicate->azJ,getElem?_eq_none->aBx
open List renaming getElem?_eq_some_iff->axB,getElem?_take->ay7,length_take->ajB,getElem?_eq_getElem->Jt,findIdx?_map->aDQ,getElem?_modify->aCU,take_of_length_le->ajE,length_nil->ayx,all_eq_true->ayy,mem_of_getElem?->azc,length_cons->axF,mapM_cons->aDT,getD->ayX,map_cons->ajF,map_nil->azd,set_eq_take_append_cons_drop->aAY,eq_nil_of_length_eq_zero->azo,length->azl,drop_zero->azw,mem_cons->IN,mem_append->axE,mem_map->OF,map_congr_left->aAF,findIdx?_cons->aBv,find?_cons->azC
open Prod renaming mk->ay9
open Nat renaming one_ne_zero->azQ,le_refl->BY,le_trans->UN,lt_of_lt_of_le->IS,mul_le_mul_right->ay6,le_mul_of_pos_right->aCZ,add_mul->ayC,zero_add->ayB,one_mul->aAv,mul_eq_zero->aAs,lt_or_ge->aAi
open Bool renaming and_eq_true->are,false_eq_true->azf,or_eq_true->azG,false_ne_true->aDZ
open Option renaming bind_some->azm
open Go renaming FuncId->aPn,Program->aPf,TypeId->aPg,Value->aPi,World->aPj,Builtin->aPm,IntKind->aPh,Operand->aPk,Result->aPq,Oper->aPl,PanicEntry->aPx,Fence->aPz,Code->aPs,ResultVar->aPv,TypeDesc->aPp
set_option linter.unusedVariables false
set_option linter.unusedSimpArgs false
namespace Go.Proofs.YtemdgidnhgcafaaGreatDoor.Ab
open Go Go.RowKit
inductive Step where
 | val (v:V) (h:I)
 | call (f:aPn) (args:List V)
 | alts (l:List (V×I))
 | panic
 | round (l:Nat) (args:List V)
def me(P:aPf)(f:aPn):Bool :=
 match P.funcs[f]? with
 | some fn => fn.body.isSome && fn.name != "runtime.NumGoroutine"
 | none=>fr
def Em(P:aPf)(t:aPg):Option Bool:=match P.underlying t with|some (.interface _)=>eL e6|some _=>eL fr|none=>eN
def BA(P:aPf)(t:aPg)(x:V)(h:I):Option I :=
 match wA P t,x with
 | some _,.ah=>eL h
 | some _,.z0=>eL h
 | some _,.ag n _=>if n=0 then eL h else eN
 | some e,.bh i o a _=>
  match hA P e,h.get i with
  | some zs,.cells c bd j=>
   if a=0 then eL h
   else if zs.all (·.one)=e6/\o+(made zs a).length<=c.length then eL (h.set i (.cells (lay c o (made zs a)) bd j))else eN
  | _,_=>eN
 | _,_=>eN
theorem akd{α:Type}(p:α->Bool)(z:List α)(n:Nat)(h:z.all p=e6):(made z n).all p=true:=by
 induction n with
 | zero=>rfl
 | succ n ih=>rw[JA,List.all_append,ih,h];rfl
theorem ake{P:aPf}{t ty:aPg}{x:V}{D:aPi}{h h':I}(j:BA P t x h=eL h'){ρ:Ren}{B:Nat}{E w:aPj}(R:a8 ρ B E h w)(A:aL ρ x D) :
  ∃w',(aPm.clear_ #[t] ty #[D]).run P w=.ok (.tuple #[]) w'/\a8 ρ B E h' w':=by
 unfold BA at j;have s:∀e,wA P t=eL e->P.underlying t=eL (.slice e):=λe q=>by
  unfold wA at q;split at q
  .rename_i F;rw[F];simpa using q
  .cases q
 split at j
 .rename_i e q;obtain rfl:h=h':=by simpa using j
  cases A;exact⟨w,by simp[aPm.clear_,ki (s _ q)],R⟩
 .rename_i e q;obtain rfl:h=h':=by simpa using j
  cases A with
  | z0 a aW=>cases a<;>exact⟨w,by simp[aPm.clear_,ki (s _ q)],R⟩
 .rename_i e n T q;split at j
  case isFalse=>cases j
  rename_i C;subst C;obtain rfl:h=h':=by simpa using j
  rcases A.lF with⟨_,rfl,a,W,aW,rfl⟩|⟨b,o,cap,G,an,X,Y,Z,rfl⟩
  .cases a with
   | none=>
    obtain rfl:=aW rfl;exact⟨w,by simp[aPm.clear_,ki (s _ q)],R⟩
   | some a=>exact⟨w,by simp[aPm.clear_,ki (s _ q)],R⟩
  .exact⟨w,by simp[aPm.clear_,ki (s _ q)],R⟩
 .rename_i e i o u cap q;split at j
  case h_2=>cases j
  rename_i zs c bd ex H L;obtain⟨b,bI,hi,aB,rfl⟩:=A.hB;split at j
  .rename_i C;subst C;obtain rfl:h=h':=by simpa using j
   exact⟨w,by simp[aPm.clear_,ki (s _ q)],R⟩
  .rename_i C;split at j
   case isFalse=>cases j
   rename_i aw;obtain rfl:_=h':=by simpa using j
   obtain⟨z,M,N⟩:=Jx H;obtain⟨w',O,Q⟩:=i8 (P:=P) L R hi o ((N ρ).made u) (akd _ _ _ aw.1) aw.2;refine⟨w',?_,Q⟩;obtain⟨m,rfl⟩:∃m,u=m+1:=⟨u-1,by omega⟩;have S:(aPm.zeroCells z.cells (m+1)).toList=made z.cells.toList (m+1):=Qn z.cells (m+1);simp[aPm.clear_,ki (s _ q),pp M,S,O]
 .cases j
def vC(P:aPf)(t:aPg)(x:V):Option V :=
 match P.underlying t,x with
 | some (.slice _),.bh _ _ _ cap=>if cap<b9 then eL (.int gj cap)else eN
 | some (.slice _),.ah=>eL (.int gj 0)
 | some (.slice _),.z0=>eL (.int gj 0)
 | _,_=>eN
theorem akf{P:aPf}{t ty:aPg}{x v:V}{q:aPi}{h:I}(a:vC P t x=eL v){ρ:Ren}{B:Nat}{s w:aPj}(R:a8 ρ B s h w)(m:aL ρ x q) :
  b5 P (aPm.cap_ #[t] ty #[q]) ρ w v:=by
 unfold vC at a;split at a
 .rename_i e i o u cap j;split at a
  case isFalse=>cases a
  rename_i aw;obtain rfl:=Option.some.inj a;obtain⟨b,z,hi,C,rfl⟩:=m.hB;have A:gH z cap=cap:=by simp[gH,aw]
  exact .mk (by simp[aPm.cap_,ki j,A];rfl) (.int _ _)
 .rename_i e j;obtain rfl:=Option.some.inj a;cases m;exact .mk (by simp[aPm.cap_,ki j];rfl) (.int _ _)
 .rename_i e j;obtain rfl:=Option.some.inj a;cases m;exact .mk (by simp[aPm.cap_,ki j];rfl) (.int _ _)
 .cases a
def qD(P:aPf)(b:aPm)(a:List aPg)(ty:aPg)(i:Array Bool)(args:List V)(h:I):Option (V×I) :=
 match b,a,args with
 | .len,[t],[x]=>match dX P t x h with
  | some v=>eL (v,h)
  | none=>eN
 | .append,[t,j],[s,x]=>kd P t j s x h
 | .copy,[t,_],[d,s]=>xH P t d s h
 | .delete,[t,_],[m,k]=>(C8 P t m k h).map λh'=>(.tuple [],h')
 | .clear,[t],[x]=>(BA P t x h).map λh'=>(.tuple [],h')
 | .cap,[t],[x]=>match vC P t x with
  | some v=>eL (v,h)
  | none=>eN
 | _,_,_=>
  match jX args with
  | some as=>match eu P (builtin b a.toArray ty i as.toArray)with
   | some (.value v)=>eL (gR v,h)
   | _=>eN
  | none=>eN
theorem K6{ρ:Ren}{x y:V}{a:Array aPi}(aW:bj ρ [x,y] a.toList):∃i j,a=#[i,j]/\aL ρ x i/\aL ρ y j:=by
 obtain⟨q,D,s,u,z⟩:=aW.eM;obtain⟨i,A,m,B,C⟩:=z.eM;rw[C.eq_nil]at m;exact⟨q,i,by apply azp;rw[s,m],u,B⟩
theorem Qt{ρ:Ren}{x:V}{a:Array aPi}(aW:bj ρ [x] a.toList):∃i,a=#[i]/\aL ρ x i:=by
 obtain⟨i,s,j,m,q⟩:=aW.eM;rw[q.eq_nil]at j;exact⟨i,by apply azp;simpa using j,m⟩
def xL(P : aPf)(bJ : aPn) : Prop := ∃fn, P.funcs[bJ]? = eL fn /\ (fn.name == "runtime.NumGoroutine") = fr /\ fn.body.isNone = e6 /\ Extern.findNext fn = eN /\ Extern.find fn = eL (Extern.SlicesOverlaps.overlaps fn.params fn.resultTypes) /\
 ∃t e sz u,fn.params=#[t,t]/\fn.resultTypes=#[u]/\P.underlying t=eL (.slice e)/\cO P e=eL sz
def wF(h:I):List V->Option V
 | [.bh i _ _ _,.bh j _ _ _]=>match h.get i,h.get j with
  | .cells _ _ _,.cells (_::_) _ _=>if i≠j then eL (.bool fr)else eN
  | _,_=>eN
 | _=>eN
theorem akg{P:aPf}{bJ:aPn}{args:List V}{a:Array aPi}{v:V}{h:I}(S:xL P bJ)(q:wF h args=eL v){ρ:Ren}{B:Nat}{T w:aPj}(R:a8 ρ B T h w)(aW:bj ρ args a.toList) :
  ∃F,(callFunc bJ a).run P w=.ok (.value F) w/\aL ρ v F:=by
 obtain⟨fn,W,X,Y,Z,bV,t,e,sz,u,aX,aH,hu,s⟩:=S;unfold wF at q;split at q
 case h_2=>cases q
 rename_i i o n c j p m d;split at q
 case h_2=>cases q
 rename_i lX dr af kV p1 wG vD G H;split at q
 case isFalse=>cases q
 rename_i iD;obtain rfl:=Option.some.inj q;obtain⟨jK,da,rfl,JJ,JH⟩:=K6 aW;obtain⟨z,A,L,ai,rfl⟩:=JJ.hB;obtain⟨M,C,N,av,rfl⟩:=JH.hB;have O:=R.heap.obj i;rw[G]at O;obtain⟨dL,ay,Gg,az,_,_,D,_⟩:=O;rw[L]at az;cases az;have Q:=R.heap.obj j;rw[H]at Q;obtain⟨ck,kP,pe,bd,_,_,bY,gI,_⟩:=Q;rw[N]at bd;cases bd;have bO:z≠M:=λU=>iD (R.heap.inj i j z A C (by rw[G];simp) (by rw[H];simp) L (by rw[U];exact N));refine⟨.bool fr,?_,.bool fr⟩;rw[run_callFunc_extern W X Y Z bV,aX,aH];rw[Lib.run_overlaps_apart w t u e hu sz (λw=>by
   unfold cO at s;cases E:P.info? e with
   | none=>simp[E]at s
   | some cm=>simp[E]at s;simp[sizeOf,typeInfo,E,s]) ⟨z,o,eN⟩ ⟨M,p,eN⟩ n _ m _ bO dr wG Gg.size pe.size (by simp[aPj.shape?,D]) (by simp[aPj.shape?,bY]) (by simp at gI;omega) (by simp[aPj.frozen?,D]) (by simp[aPj.frozen?,D])]
 rfl
def K8(P : aPf)(bJ : aPn) : Prop := ∃fn, P.funcs[bJ]? = eL fn /\ (fn.name == "runtime.NumGoroutine") = fr /\ fn.body.isNone = e6 /\ Extern.findNext fn = eN /\ Extern.find fn = eL (Extern.Atomic.loadT (.int gj)) /\ ∃a, fn.params = #[a]
def K9(P : aPf)(bJ : aPn) : Prop := ∃fn, P.funcs[bJ]? = eL fn /\ (fn.name == "runtime.NumGoroutine") = fr /\ fn.body.isNone = e6 /\ Extern.findNext fn = eN /\ Extern.find fn = eL (Extern.Atomic.update (Op.intArith .add) gj e6) /\ ∃a b, fn.params = #[a, b] /\ a ≠ b
def La(h:I):List V->Option V
 | [.ptr i o]=>match h.get i with
  | .cells c _ _=>match c[o]? with
   | some (.int gj x)=>eL (.int gj x)
   | _=>eN
  | _=>eN
 | _=>eN
def Lb(h:I):List V->Option (V×I)
 | [.ptr i o,.int gj y]=>match h.get i with
  | .cells c e a=>match c[o]? with
   | some (.int gj x)=>eL (.int gj (aPh.i64.wrap (x+y)),h.set i (.cells (lay c o [.int gj (aPh.i64.wrap (x+y))]) e a))
   | _=>eN
  | _=>eN
 | _=>eN
theorem cell_of{ρ:Ren}{B:Nat}{h:I}{w:aPj}(H:q8 ρ B h w){i o:Nat}{c:List V}{e:aPg}{s:Option Nat}(u:h.get i=.cells c e s){k:aPh}{x:Int}(aw:c[o]?=eL (.int k x)){b z:Nat}(hi:ρ.ren i=eL (b,z)) :
  w.cell? ⟨b,o,eN⟩=eL (.int k x)/\w.frozen? ⟨b,o,eN⟩=false:=by
 have j:=H.obj i;rw[u]at j;obtain⟨L,M,a,A,N,O,m,Q,C,R⟩:=j;rw[A]at hi;simp at hi;obtain⟨rfl,rfl⟩:=hi;have D:o<c.length:=(axB.1 aw).1;have E:(a.toList.take c.length)[o]?=eL a[o]:=by
  rw[ay7,gr D];simp[ayZ (show o<a.size by omega)]
 have q:=C.2 o _ _ aw E;generalize F:a[o]=v at q;cases q;have G:a[o]?=eL (.int k x):=by rw[ayZ (show o<a.size by omega),F]
 exact⟨by simp[aPj.cell?,m,G],by simp[aPj.frozen?,m]⟩
theorem akh{P:aPf}{bJ:aPn}{args:List V}{a:Array aPi}{v:V}{h:I}(q:K8 P bJ)(j:La h args=eL v){ρ:Ren}{B:Nat}{s w:aPj}(R:a8 ρ B s h w)(aW:bj ρ args a.toList) :
  ∃m,(callFunc bJ a).run P w=.ok (.value m) w/\aL ρ v m:=by
 obtain⟨fn,u,z,A,C,D,_⟩:=q;unfold La at j;split at j
 case h_2=>cases j
 rename_i i o;split at j
 case h_2=>cases j
 rename_i c e H E;split at j
 case h_2=>cases j
 rename_i x aw;obtain rfl:=Option.some.inj j;obtain⟨L,rfl,F⟩:=Qt aW;cases F with
 | ptr hi o=>
 rename_i b M;obtain⟨G,_⟩:=cell_of R.heap E aw hi;exact⟨_,run_call_load u z A C gj D G,.int _ _⟩
theorem aki{P:aPf}{bJ:aPn}{args:List V}{a:Array aPi}{v:V}{h h':I}(C:K9 P bJ)(j:Lb h args=eL (v,h')){ρ:Ren}{B:Nat}{m w:aPj}(R:a8 ρ B m h w)(aW:bj ρ args a.toList) :
  ∃q w',(callFunc bJ a).run P w=.ok (.value q) w'/\aL ρ v q/\a8 ρ B m h' w':=by
 obtain⟨fn,D,E,F,G,H,_⟩:=C;unfold Lb at j;split at j
 case h_2=>cases j
 rename_i i o y;split at j
 case h_2=>cases j
 rename_i c e X s;split at j
 case h_2=>cases j
 rename_i x aw;simp only[Option.some.injEq,ay9.injEq]at j;obtain⟨rfl,rfl⟩:=j;obtain⟨Y,Z,rfl,L,M⟩:=K6 aW;cases M;cases L with
 | ptr hi o=>
 rename_i b bI;obtain⟨u,z⟩:=cell_of R.heap s aw hi;have N:o<c.length:=(axB.1 aw).1;have O:bj ρ [.int gj (aPh.i64.wrap (x+y))] [.int gj (aPh.i64.wrap (x+y))]:=.cons (.int _ _) (.nil ρ);obtain⟨w',A,Q⟩:=i8 (P:=P) s R hi o O rfl (show o+1<=c.length from N);have S:(storeCells ⟨b,o,eN⟩ [.int gj (aPh.i64.wrap (x+y))]).run P w=.ok () (w.setCell ⟨b,o,eN⟩ (.int gj (aPh.i64.wrap (x+y)))):=by
  have T:(store ⟨b,o,eN⟩ (.int gj (aPh.i64.wrap (x+y)))).run P w=.ok () (w.setCell ⟨b,o,eN⟩ (.int gj (aPh.i64.wrap (x+y)))):=by
   rw[run_store P w ⟨b,o,eN⟩ (.int gj (aPh.i64.wrap (x+y))) _ (by rfl),u];simp[z]
  simp[storeCells,Addr.add,T]
 rw[S]at A;injection A with _ W;subst W;exact⟨_,_,run_call_add D E F G gj H u z (by simp[Op.intArith]),.int _ _,Q⟩
open Classical in
noncomputable def yq(P:aPf)(bJ:aPn)(args:List V)(h:I):Option (V×I) :=
 if xL P bJ then(match wF h args with|some v=>eL (v,h)|none=>eN)
 else if K8 P bJ then(match La h args with|some v=>eL (v,h)|none=>eN)
 else if K9 P bJ then Lb h args else eN
theorem akj{P:aPf}{bJ:aPn}{args:List V}{h:I}{v:V}(a:xL P bJ)(aW:wF h args=eL v):yq P bJ args h=eL (v,h):=by
 unfold yq;rw[gr a,aW]
theorem akk{P:aPf}{bJ:aPn}{args:List V}{args':Array aPi}{v:V}{h h':I}(a:yq P bJ args h=eL (v,h')){ρ:Ren}{B:Nat}{q w:aPj}(R:a8 ρ B q h w)(aW:bj ρ args args'.toList) :
  ∃i w',(callFunc bJ args').run P w=.ok (.value i) w'/\aL ρ v i/\a8 ρ B q h' w':=by
 unfold yq at a;split at a
 .rename_i j;split at a
  case h_2=>cases a
  rename_i u m;simp only[Option.some.injEq,ay9.injEq]at a;obtain⟨rfl,rfl⟩:=a;obtain⟨i,az,bd⟩:=akg j m R aW;exact⟨i,w,az,bd,R⟩
 split at a
 .rename_i _ j;split at a
  case h_2=>cases a
  rename_i u m;simp only[Option.some.injEq,ay9.injEq]at a;obtain⟨rfl,rfl⟩:=a;obtain⟨i,az,bd⟩:=akh j m R aW;exact⟨i,w,az,bd,R⟩
 split at a
 .rename_i _ _ j;exact aki j a R aW
 .cases a
def wH(a:Array aPk):Array Bool:=a.map λ| .const _=>e6|_=>fr
def gC(P:aPf)(t:aPg)(name:String)(f:aPn):Prop:=(∀v w,(method (P.types.size+Made.depth) t v name).run P w=.ok (f,v) w)/\me P f=e6
theorem gC.uniq{P:aPf}{t:aPg}{name:String}{f g:aPn}(i:gC P t name f)(j:gC P t name g):f=g:=by
 have:=(i.1 .nilIface default).symm.trans (j.1 .nilIface default);injection this with s;injection s
open Classical in
noncomputable def vE(P:aPf)(x:V)(name:String)(args:List V):Option Step :=
 match x with
 | .iface t v=>if h:∃f,gC P t name f then eL (.call (Classical.choose h) (v::args))else eN
 | _=>eN
theorem Lc{P:aPf}{x:V}{name:String}{args:List V}{s:Step}(a:vE P x name args=eL s):∃t v f,x=.iface t v/\gC P t name f/\s=.call f (v::args):=by
 unfold vE at a;split at a
 case h_2=>cases a
 rename_i t v;split at a
 case isFalse=>cases a
 rename_i U;simp only[Option.some.injEq]at a;exact⟨t,v,_,rfl,Classical.choose_spec U,a.symm⟩
theorem akl{P:aPf}{t:aPg}{v:V}{name:String}{args:List V}{f:aPn}(a:gC P t name f):vE P (.iface t v) name args=eL (.call f (v::args)):=by
 have U:∃f,gC P t name f:=⟨f,a⟩;unfold vE;simp only[dif_pos U];rw[(Classical.choose_spec U).uniq a]
open Classical in
noncomputable def k7(P:aPf)(c:Call)(ty:aPg)(bK:aPk->V)(h:I):Option Step :=
 match c.callee with
 | .builtin .panic=>match c.args.toList.map bK with
  | [.iface _ _]=>eL .panic
  | _=>eN
 | .builtin b=>
  match qD P b c.argTypes.toList ty (wH c.args) (c.args.toList.map bK) h with
  | some (v,h')=>eL (.val v h')
  | none=>eN
 | .value f=>
  match bK f with
  | .func (.func bJ) first captured=>if me P bJ then eL (.call bJ (first++c.args.toList.map bK++captured))else(match yq P bJ (first++c.args.toList.map bK++captured) h with|some (v,h')=>eL (.val v h')|none=>eN)
  | .func (.yield l) [] []=>eL (.round l (c.args.toList.map bK))
  | _=>eN
 | .invoke r name=>vE P (bK r) name (c.args.toList.map bK)
def hL(o:Option V)(h:I):Option Step:=match o with|some v=>eL (.val v h)|none=>eN
def gb(o:Option (V×I)):Option Step:=match o with|some (v,h)=>eL (.val v h)|none=>eN
def tN(o:Option I):Option Step:=match o with|some h=>eL (.val .top h)|none=>eN
def yX(P:aPf)(s d:aPg)(x:V)(h:I):Option (V×I) :=
 match P.underlying s,x with
 | some (.slice e),.bh i o n _=>
  if s=d/\xJ P e=e6 then
   match h.get i with
   | .cells c _ _=>if o+n<=c.length then eL (.ag n ((c.drop o).take n),h.set i .dead)else eN
   | _=>eN
  else eN
 | _,_=>eN
theorem aaC{P:aPf}{s d:aPg}{x v:V}{h h':I}(a:yX P s d x h=eL (v,h')):h'≠h:=by
 unfold yX at a;split at a
 case h_2=>cases a
 split at a
 case isFalse=>cases a
 split at a
 case h_2=>cases a
 rename_i c bd q m;split at a
 case isFalse=>cases a
 simp only[Option.some.injEq,ay9.injEq]at a;intro e;rename_i i _ _ _ _ _ _ _;have j:(h.set i .dead).get i=h.get i:=by rw[a.2,e]
 rw[m]at j;simp[I.set]at j
theorem a8.mark{ρ:Ren}{B:Nat}{F:aPj}{h:I}{w:aPj}(R:a8 ρ B F h w){b:Nat}{arr:Array aPi}(M:ρ.frz b=eL arr)(T:B<=b)(k:Nat):a8 ρ B F h (w.freeze ⟨b,k,eN⟩ 1):=by
 have C:∀j,b≠j->(w.freeze ⟨b,k,eN⟩ 1).heap[j]?=w.heap[j]?:=λj s=>by
  simp only[aPj.freeze,azQ,iC,azA,gQ s]
 have D:∀c e z,w.heap[b]?=eL (.cells c e z)->∃E,(w.freeze ⟨b,k,eN⟩ 1).heap[b]?=eL (.cells c e E):=λc e z A=>by
  simp only[aPj.freeze,azQ,iC,azA,jS,A,Option.map_some];exact⟨_,rfl⟩
 have bq:(w.freeze ⟨b,k,eN⟩ 1).heap.size=w.heap.size:=by
  simp only[aPj.freeze,azQ,iC,Array.size_modify]
 refine⟨⟨R.heap.mQ,R.heap.inj,λi=>?_,λu N O=>?_,R.heap.glob,by rw[bq];exact R.heap.base⟩,R.below.trans ⟨?_,?_,?_,Nat.le_of_eq bq.symm,λj s=>C j (by omega),?_⟩⟩
 .by_cases G:h.get i=.dead
  .rw[G];trivial
  .refine(R.heap.obj i).ai (Ren.le.refl ρ) λu c Q=>⟨C u ?_,λh=>h⟩;obtain⟨W,X,H,_,_,L,_⟩:=R.heap.live G;rw[Q]at H;cases H;intro e;subst e;rw[M]at L;cases L
 .obtain⟨e,z,A⟩:=R.heap.frz u N O;by_cases s:b=u
  .subst s;obtain⟨E,S⟩:=D _ _ _ A;exact⟨e,E,S⟩
  .exact⟨e,z,(C u s).trans A⟩
 all_goals simp only[aPj.freeze,azQ,iC]
 exact BY _
theorem y4{P:aPf}{m q:aPg}{x v:V}{A:aPi}{h h':I}(a:yX P m q x h=eL (v,h')){ρ:Ren}{B:Nat}{C w:aPj}(R:a8 ρ B C h w)(L:aL ρ x A) :
  Yields P (convert m q A) ρ B C w v h':=by
 unfold yX at a;split at a
 case h_2=>cases a
 rename_i e i o n cap M;split at a
 case isFalse=>cases a
 rename_i aw;split at a
 case h_2=>cases a
 rename_i c bd ex D;split at a
 case isFalse=>cases a
 rename_i N;simp only[Option.some.injEq,ay9.injEq]at a;obtain⟨rfl,rfl⟩:=a;obtain⟨rfl,O⟩:=aw;have Q:=JD O;obtain⟨ρ',E,F,b,S,s,G,z,aB,T⟩:=R.freeze D;obtain⟨ck,kP,hi,W,rfl⟩:=L.hB;rw[G]at hi;cases hi;obtain⟨_,_,_,_,_,_,X⟩:=R.heap.live (i:=i) (by rw[D];simp);rename_i hM Y H _ _ _;rw[G]at H;cases H;obtain⟨Z,ix,hw⟩:=F.heap.frz _ _ z;have KZ:w.shape? b=eL (Z,s.size):=by simp[aPj.shape?,hw]
 refine⟨ρ',.slice (eL ⟨b,o,eN⟩) n (gH S cap),w.freeze ⟨b,s.size,eN⟩ 1,?_,.ag o n _ z W ?_ λk u vx j ad=>?_,F.mark z X _,E⟩
 .simp[convert,ki M,ki Q,markStringish,KZ]
 .rw[ajB,List.length_drop];omega
 .rw[ay7]at j;split at j
  case isFalse=>cases j
  rw[List.getElem?_drop]at j;refine(T.2 (o+k) u vx j ?_).mono E;have hk:o+k<c.length:=(axB.1 j).1;rw[ay7,gr hk,azq];exact ad
def U5(P:aPf)(t:aPg)(m k:V)(h:I):Option (V×I) :=
 match eQ P t,m with
 | some (u,A,d),.map i=>
  match h.get i with
  | .map q s=>
   if yW P fr u k then
    match qC P u d k q with
    | some (eL j)=>
     match q[j]?,(q[j]?).bind λe=>pd e.2.1,pd k with
     | some e,eL a,eL b=>if Instr.sameBits 10000 a b=e6 then eL (.tuple [e.2.2,.int gj (e.1:Nat)],h.set i (.map (q.modify j λe=>(e.1,k,e.2.2)) s))else eN
     | _,_,_=>eN
    | some eN=>
     match nh P A with
     | some z=>eL (.tuple [fY z,.int gj (s:Nat)],h.set i (.map (q++[(s,k,fY z)]) (s+1)))
     | none=>eN
    | none=>eN
   else eN
  | _=>eN
 | _,_=>eN
def U6(m s v:V)(h:I):Option I :=
 match m,s with
 | .map i,.int _ q=>
  match h.get i with
  | .map a u=>
   match a.findIdx? (λe=>(e.1:Int)==q)with
   | some j=>eL (h.set i (.map (a.modify j λe=>(e.1,e.2.1,v)) u))
   | none=>eN
  | _=>eN
 | _,_=>eN
theorem hp.find{ρ:Ren}{es:List (Nat×V×V)}{arr:Array MapEntry}(h:hp ρ es arr)(st:Int):arr.findIdx? (λe=>(e.born:Int)==st)=es.findIdx? (λe=>(e.1:Int)==st):=by
 have j:es.map (λe=>e.1)=arr.toList.map (λe=>e.born):=by
  apply List.ext_getElem
  .simp[h.1]
  .intro q i s;simp only[List.getElem_map,Array.getElem_toList];simp only[List.length_map]at i;exact(h.2 q _ _ (Jt i) (ayZ (by rw[<-h.1];exact i))).1
 have az:es.findIdx? (λe=>(e.1:Int)==st)=(es.map (λe=>e.1)).findIdx? (λn:Nat=>(n:Int)==st):=by rw[aDQ];rfl
 have bd:arr.toList.findIdx? (λe=>(e.born:Int)==st)=(arr.toList.map (λe=>e.born)).findIdx? (λn:Nat=>(n:Int)==st):=by rw[aDQ];rfl
 rw[az,j,<-bd];cases arr;simp
theorem sh{P:aPf}{t:aPg}{m k v:V}{gz H:aPi}{h h':I}(s:U5 P t m k h=eL (v,h')){ρ:Ren}{B:Nat}{aZ w:aPj}(R:a8 ρ B aZ h w)(hm:aL ρ m gz)(F:aL ρ k H) :
  Yields P (Instr.mapEntry t gz H) ρ B aZ w v h':=by
 unfold U5 at s;split at s
 case h_2=>cases s
 rename_i cU jm d i cv;obtain⟨hu,s7⟩:=zF cv;split at s
 case h_2=>cases s
 rename_i L E X;split at s
 case isFalse=>cases s
 rename_i oi;cases hm with
 | map hi=>
 have aU:=R.heap.obj i;rw[X]at aU;obtain⟨b,bI,A,M,oV,S,N,D⟩:=aU;rw[M]at hi;simp at hi;obtain⟨rfl,rfl⟩:=hi;have T:b<w.heap.size:=(ay8.1 N).1;split at s
 .rename_i j Y;split at s
  case h_2=>cases s
  rename_i lj a c Z aW aw;split at s
  case isFalse=>cases s
  rename_i K1;simp only[Option.some.injEq,ay9.injEq]at s;obtain⟨rfl,rfl⟩:=s;obtain⟨h1,ad⟩:=C6 (P:=P) (w:=w) s7 F D Y;have O:=ad j rfl;have W:j<L.length:=by rw[D.1];exact O
  obtain⟨af,hD,yn⟩:=D.2 j _ _ (Jt W) (ayZ O);rw[Jt W]at aW Z;simp at aW Z;subst Z;have az:=zv hD aW;have bd:=zv F aw;have e7:=R.setObj (o:=.map (L.modify j λe=>(e.1,k,e.2.2)) E) (ob:=.map (A.modify j λe=>{ e with key:=H }) E) M (by rw[X];simp) S T (by
   refine⟨b,bI,A.modify j (λe=>{ e with key:=H }),M,oV,S,by simp[T],by simp[D.1],λq e eB u C=>?_⟩;rw[aCU]at u;rw[azA]at C;by_cases yp:j=q
   .subst yp;rw[Jt W]at u;rw[ayZ O]at C;simp at u C;subst u;subst C;obtain⟨aD,_,bV⟩:=D.2 j _ _ (Jt W) (ayZ O);exact⟨aD,F,bV⟩
   .simp[yp]at u C;exact D.2 q e eB u C)
  refine⟨ρ,.tuple #[A[j].val,goInt (A[j].born:Int)],_,?_,?_,e7,Ren.le.refl ρ⟩
  .simp only[Instr.mapEntry,Sem.run_bind,ki hu,run_getObj_map N,aPq.andThen_ok];rw[C7 oi F w,aPq.andThen_ok,h1];have iG:(Instr.keyThatStays a c).run P w=.ok c w:=by unfold Instr.keyThatStays;rw[gr K1];rfl
   simp[ayZ O,az,bd,iG,run_setObj_map N]
  .rw[af];exact((bj.cons yn (.cons (.int _ _) (.nil ρ))).arr).tuple
 .rename_i Y;split at s
  case h_2=>cases s
  rename_i z bP;simp only[Option.some.injEq,ay9.injEq]at s;obtain⟨rfl,rfl⟩:=s;obtain⟨h1,ad⟩:=C6 (P:=P) (w:=w) s7 F D Y;have e7:=R.setObj (o:=.map (L++[(E,k,fY z)]) (E+1)) (ob:=.map (A.push { key:=H,val:=z,born:=E }) (E+1)) M (by rw[X];simp) S T (by
   refine⟨b,bI,A.push { key:=H,val:=z,born:=E },M,oV,S,by simp[T],by simp[D.1],λq e eB u C=>?_⟩;rw[List.getElem?_append]at u;rw[Array.getElem?_push]at C;by_cases Eh:q<L.length
   .rw[gr Eh]at u;rw[gQ (by rw[<-D.1];omega)]at C;exact D.2 q e eB u C
   .rw[gQ Eh]at u;have K2:q=L.length:=by
     have:=(axB.1 u).1;simp at this;omega
    subst K2;rw[gr D.1]at C;simp at u C;subst u;subst C;exact⟨rfl,F,F6 ρ z⟩)
  refine⟨ρ,.tuple #[z,goInt (E:Int)],_,?_,?_,e7,Ren.le.refl ρ⟩
  .simp only[Instr.mapEntry,Sem.run_bind,ki hu,run_getObj_map N,aPq.andThen_ok];rw[C7 oi F w,aPq.andThen_ok,h1];simp[pp bP,run_setObj_map N]
  .exact((bj.cons (F6 ρ z) (.cons (.int _ _) (.nil ρ))).arr).tuple
 .cases s
theorem akm{P:aPf}{t:aPg}{m s v:V}{H L D:aPi}{h h':I}(a:U6 m s v h=eL h'){ρ:Ren}{B:Nat}{M w:aPj}(R:a8 ρ B M h w)(hm:aL ρ m H)(dq:aL ρ s L)(aI:aL ρ v D) :
  ∃w',(Instr.entryStore t H L D).run P w=.ok () w'/\a8 ρ B M h' w':=by
 unfold U6 at a;split at a
 case h_2=>cases a
 rename_i i kk st;split at a
 case h_2=>cases a
 rename_i N O Q;split at a
 case h_2=>cases a
 rename_i j S;obtain rfl:_=h':=by simpa using a
 cases dq;cases hm with
 | map hi=>
 have T:=R.heap.obj i;rw[Q]at T;obtain⟨b,bI,u,E,oV,W,F,C⟩:=T;rw[E]at hi;simp at hi;obtain⟨rfl,rfl⟩:=hi;have X:b<w.heap.size:=(ay8.1 F).1;have Y:=C.find st;rw[S]at Y;have G:j<N.length:=by
  have:=List.findIdx?_eq_some_iff_findIdx_eq.1 S;omega
 have Z:j<u.size:=by rw[<-C.1];exact G
 have e7:=R.setObj (o:=.map (N.modify j λe=>(e.1,e.2.1,v)) O) (ob:=.map (u.modify j λe=>{ e with val:=D }) O) E (by rw[Q];simp) W X (by
  refine⟨b,bI,u.modify j (λe=>{ e with val:=D }),E,oV,W,by simp[X],by simp[C.1],λq e eB z A=>?_⟩;rw[aCU]at z;rw[azA]at A;by_cases yp:j=q
  .subst yp;rw[Jt G]at z;rw[ayZ Z]at A;simp at z A;subst z;subst A;obtain⟨aD,br,_⟩:=C.2 j _ _ (Jt G) (ayZ Z);exact⟨aD,br,aI⟩
  .simp[yp]at z A;exact C.2 q e eB z A)
 refine⟨_,?_,e7⟩;simp only[Instr.entryStore,Sem.run_bind,Sem.run_pure,run_getObj_map F,aPq.andThen_ok];simp[asInt,asIntOf,Y,run_setObj_map F]
noncomputable def eI(P:aPf)(o:aPl)(bK:aPk->V)(h:I):Option Step :=
 match o.op with
 | .move x=>eL (.val (bK x) h)
 | .assign x=>eL (.val (bK x) h)
 | .pick c a b=>match bK c with
  | .bool t=>eL (.val (if t then bK a else bK b) h)
  | _=>eN
 | .alloc e=>gb (Jy P e h)
 | .box e x=>gb (xF e (bK x) h)
 | .build t u=>hL (Gd P t (u.toList.map λp=>(p.1,bK p.2))) h
 | .buildSlice t z u=>gb (am P t z (u.toList.map λp=>(p.1,bK p.2)) h)
 | .load t a=>hL (zw P t (bK a) h) h
 | .store t a x=>tN (Jw P t (bK a) (bK x) h)
 | .nilCheck x=>match bK x with
  | .ptr i o=>eL (.val (.ptr i o) h)
  | .at B=>eL (.val (.at B) h)
  | .func (.func bJ) C D=>eL (.val (.func (.func bJ) C D) h)
  | _=>eN
 | .binOp op t x y _=>hL (cB P op t x y (bK x) (bK y)) h
 | .unOp op _ x=>hL (zD P op (bK x)) h
 | .convert s d x=>match oc P s d (bK x) h with
  | some v=>eL (.val v h)
  | none=>gb (yX P s d (bK x) h)
 | .makeInterface t x=>match Em P t with
  | some fr=>eL (.val (.iface t (bK x)) h)
  | _=>eN
 | .makeFunc fn first captured=>eL (.val (.func fn (first.toList.map bK) (captured.toList.map bK)) h)
 | .makeMap t r=>gb (K3 P t (r.map bK) h)
 | .makeSlice t l c=>gb (Bx P t (bK l) (bK c) h)
 | .slice t x E F mx=>hL (kX P t (bK x) (E.map bK) (F.map bK) (mx.map bK)) h
 | .fieldAddr s x k=>hL (F8 P s (bK x) k) h
 | .field t x k=>hL (JE P t (bK x) k) h
 | .indexAddr t x q=>hL (hC P t (bK x) (bK q)) h
 | .index t x q=>hL (Gf P t (bK x) (bK q)) h
 | .lookup t x q ok=>hL (ni P t (bK x) (bK q) ok h) h
 | .mapUpdate t m k x=>tN (vB P t (bK m) (bK k) (bK x) h)
 | .insert t m k x=>tN (vB P t (bK m) (bK k) (bK x) h)
 | .mapEntry t m k=>gb (U5 P t (bK m) (bK k) h)
 | .entryStore _ m s x=>tN (U6 (bK m) (bK s) (bK x) h)
 | .range t x=>gb (JF P t (bK x) h)
 | .next A fr=>match C9 (bK A) h with
  | some l=>eL (.alts l)
  | none=>eN
 | .entry A=>hL (JG (bK A) h) h
 | .typeAssert x _ j ok=>hL (jJ P (bK x) j ok) h
 | .extract t k=>match bK t with
  | .tuple G=>hL G[k]? h
  | _=>eN
 | .call c=>k7 P c o.type bK h
 | .panic x=>match bK x with
  | .iface _ _=>eL .panic
  | _=>eN
 | _=>eN
theorem Gh{ρ:Ren}{bK:aPk->V}{a:aPk->aPi}(i:∀x,aL ρ (bK x) (a x)):∀l:List aPk,bj ρ (l.map bK) (l.map a)
 | []=>.nil ρ
 | x::l=>.cons (i x) (Gh i l)
theorem aaE{ρ:Ren}{bK:aPk->V}{i:aPk->aPi}(j:∀x,aL ρ (bK x) (i x))(a:Array aPk):eV ρ (a.toList.map bK) (a.map i):=by
 have:=Gh j a.toList;exact bj.lW (by simpa using this)
theorem U7{ρ:Ren}{bK:aPk->V}{a:aPk->aPi}(i:∀x,aL ρ (bK x) (a x)):∀l:List (Nat×aPk),
  vz ρ (l.map λp=>(p.1,bK p.2)) (l.map λp=>(p.1,a p.2))
 | []=>trivial
 | x::l=>⟨rfl,i _,U7 i l⟩
def lH(P:aPf)(s:Sem Next)(ρ:Ren)(B:Nat)(i w:aPj)(v:V)(h':I):Prop :=
 ∃ ρ' a w',(s.run P w=.ok (.value a) w'\/(s.run P w=.ok .skip w'/\a=undef))/\aL ρ' v a/\a8 ρ' B i h' w'/\ρ.le ρ'
theorem Yields.next{P:aPf}{s:Sem aPi}{ρ:Ren}{B:Nat}{j w:aPj}{v:V}{h':I}(y:Yields P s ρ B j w v h') :
  lH P (do pure (.value (<-s))) ρ B j w v h':=by
 obtain⟨ρ',u,w',z,A,R,i⟩:=y;exact⟨ρ',u,w',.inl (by simp[z]),A,R,i⟩
theorem lH.same{P:aPf}{s:Sem Next}{ρ:Ren}{B:Nat}{i w:aPj}{v:V}{v':aPi}{h:I}(R:a8 ρ B i h w)(j:s.run P w=.ok (.value v') w)(u:aL ρ v v') :
  lH P s ρ B i w v h:=⟨ρ,v',w,.inl j,u,R,Ren.le.refl ρ⟩
theorem lH.skip{P:aPf}{s:Sem Unit}{ρ:Ren}{B:Nat}{i w:aPj}{h':I}(y:∃w',s.run P w=.ok () w'/\a8 ρ B i h' w'):lH P (do s;pure .skip) ρ B i w .top h':=by
 obtain⟨w',j,R⟩:=y;exact⟨ρ,undef,w',.inr ⟨by simp[j],rfl⟩,.top _,R,Ren.le.refl ρ⟩
theorem Le(ρ:Ren):aL ρ (.tuple []) (.tuple #[]):=.tuple rfl (by simp)
theorem akn{P:aPf}{b:aPm}{a:Array aPg}{ty:aPg}{j:Array Bool}{args:List V}{args':Array aPi}{h h':I}{v:V}
  (i:qD P b a.toList ty j args h=eL (v,h')) {ρ:Ren} {B:Nat} {M w:aPj} (R:a8 ρ B M h w) (aW:bj ρ args args'.toList) :
  lH P (builtin b a ty j args') ρ B M w v h':=by
 unfold qD at i;split at i
 .rename_i t x m;obtain⟨q,rfl,C⟩:=Qt aW;obtain rfl:a=#[t]:=by apply azp;simpa using m
  split at i
  case h_2=>cases i
  rename_i u D;simp at i;obtain⟨rfl,rfl⟩:=i;exact((aj3 D R C).iE R).next
 .rename_i t z s x m;obtain⟨G,q,rfl,E,F⟩:=K6 aW;obtain rfl:a=#[t,z]:=by apply azp;simpa using m
  exact(ajV i R E F).next
 .rename_i t z s x m;obtain⟨G,q,rfl,E,F⟩:=K6 aW;obtain rfl:a=#[t,z]:=by apply azp;simpa using m
  exact(ajW i R E F).next
 .rename_i t z s x m;obtain⟨G,q,rfl,E,F⟩:=K6 aW;obtain rfl:a=#[t,z]:=by apply azp;simpa using m
  cases A:C8 P t s x h with
  | none=>simp[A]at i
  | some N=>
   simp[A]at i;obtain⟨rfl,rfl⟩:=i;obtain⟨w',H,L⟩:=aj8 (P:=P) (ty:=ty) (ts:=#[t,z]) rfl A R E F;exact Yields.next (s:=aPm.delete_ #[t,z] ty #[G,q]) ⟨ρ,_,w',H,Le ρ,L,Ren.le.refl ρ⟩
 .rename_i t x m;obtain⟨q,rfl,C⟩:=Qt aW;obtain rfl:a=#[t]:=by apply azp;simpa using m
  cases A:BA P t x h with
  | none=>simp[A]at i
  | some N=>
   simp[A]at i;obtain⟨rfl,rfl⟩:=i;obtain⟨w',H,L⟩:=ake (P:=P) (ty:=ty) A R C;exact Yields.next (s:=aPm.clear_ #[t] ty #[q]) ⟨ρ,_,w',H,Le ρ,L,Ren.le.refl ρ⟩
 .rename_i t x m;obtain⟨q,rfl,C⟩:=Qt aW;obtain rfl:a=#[t]:=by apply azp;simpa using m
  split at i
  case h_2=>cases i
  rename_i u D;simp at i;obtain⟨rfl,rfl⟩:=i;exact((akf D R C).iE R).next
 .split at i
  case h_2=>cases i
  rename_i as has;have az:=UP aW has;split at i
  case h_2=>cases i
  rename_i u D;simp at i;obtain⟨rfl,rfl⟩:=i;refine .same R ?_ (i4 ρ u);have:=Ed D w;rw[<-az]at this;simpa using this
theorem i3{o:Option (V×I)}{v:V}{h:I}(a:gb o=eL (.val v h)):o=eL (v,h):=by
 unfold gb at a;split at a
 .simp at a;obtain⟨rfl,rfl⟩:=a;rfl
 .cases a
theorem vF{o:Option V}{v:V}{h h':I}(a:hL o h=eL (.val v h')):o=eL v/\h'=h:=by
 unfold hL at a;split at a
 .simp at a;obtain⟨rfl,rfl⟩:=a;exact⟨rfl,rfl⟩
 .cases a
theorem Qu{o:Option I}{v:V}{h':I}(a:tN o=eL (.val v h')):o=eL h'/\v=.top:=by
 unfold tN at a;split at a
 .simp at a;obtain⟨rfl,rfl⟩:=a;exact⟨rfl,rfl⟩
 .cases a
theorem Qv{ρ:Ren}{bK:aPk->V}{a:aPk->aPi}(i:∀x,aL ρ (bK x) (a x))(o:Option aPk):Option.Rel (aL ρ) (o.map bK) (o.map a):=by
 cases o with
 | none=>exact .none
 | some x=>exact .some (i x)
theorem ako{P:aPf}{o:aPl}{bK:aPk->V}{E:aPk->aPi}{h h':I}{v:V}(j:eI P o bK h=eL (.val v h')){ρ:Ren}{B:Nat}{T w:aPj}
  (R:a8 ρ B T h w) (z:∀x,aL ρ (bK x) (E x)):lH P (execOp E o) ρ B T w v h':=by
 unfold eI at j;unfold execOp;split at j
 .rename_i x q;simp only[q];simp at j;obtain⟨rfl,rfl⟩:=j;exact .same R (Sem.run_pure ..) (z x)
 .rename_i x q;simp only[q];simp at j;obtain⟨rfl,rfl⟩:=j;exact .same R (Sem.run_pure ..) (z x)
 .rename_i c a b q;simp only[q];split at j
  case h_2=>cases j
  rename_i t G;simp at j;obtain⟨rfl,rfl⟩:=j;have aw:=z c;rw[G]at aw;have fU:E c=.bool t:=Bv aw rfl;refine .same R (v':=if t then E a else E b) ?_ ?_
  .simp[fU,asBool]
  .cases t
   .exact z b
   .exact z a
 .rename_i e q;simp only[q];exact(ajL (i3 j) R).next
 .rename_i e x q;simp only[q];exact(ajM (i3 j) R (z x)).next
 .rename_i t ps q;simp only[q];obtain⟨A,C⟩:=vF j;subst C;refine((y6 A R ?_).iE R).next;have:=U7 z ps.toList;simpa using this
 .rename_i t ab ps q;simp only[q];refine(aj0 (i3 j) R ?_).next;have:=U7 z ps.toList;simpa using this
 .rename_i t a q;simp only[q];obtain⟨A,C⟩:=vF j;subst C;exact((aah A R (z a)).2.iE R).next
 .rename_i t a x q;simp only[q];obtain⟨A,C⟩:=Qu j;subst C;exact .skip (ajK A R (z a) (z x))
 .rename_i x q;simp only[q];have D:=z x;split at j
  .rename_i i o aW;simp at j;obtain⟨rfl,rfl⟩:=j;rw[aW]at D;generalize E x=Q at D;obtain⟨b,c,hi,rfl⟩:=D.rO;exact .same R (Sem.run_pure ..) (.ptr hi o)
  .rename_i cs aW;simp at j;obtain⟨rfl,rfl⟩:=j;rw[aW]at D;generalize E x=Q at D;obtain⟨b,o,kV,an,aU,eo,rfl⟩:=D.zy;exact .same R (Sem.run_pure ..) D
  .rename_i bJ xs ys aW;simp at j;obtain⟨rfl,rfl⟩:=j;rw[aW]at D;generalize E x=Q at D;have W:=D;cases D with
   | func fn S L aD br=>exact .same R (Sem.run_pure ..) W
  .cases j
 .rename_i op t x y Qw q;simp only[q];obtain⟨A,C⟩:=vF j;subst C;exact((ajX A R (z x) (z y)).iE R).next
 .rename_i op t x q;simp only[q];obtain⟨A,C⟩:=vF j;subst C;exact((ajY A R (z x)).iE R).next
 .rename_i s d x q;simp only[q];cases aw:oc P s d (bK x) h with
  | some u=>
   rw[aw]at j;cases j;exact(ajZ aw R (z x)).next
  | none=>
   rw[aw]at j;exact(y4 (i3 j) R (z x)).next
 .rename_i t x q;simp only[q];split at j
  case h_2=>cases j
  rename_i G;simp at j;obtain⟨rfl,rfl⟩:=j;refine Yields.next (.same R (v':=.iface t (E x)) ?_ (.iface t (z x)));unfold Em at G;split at G
  .simp at G
  .rename_i d vb M;cases d with
   | interface ms=>exact absurd rfl (vb ms)
   | _=>simp[Instr.makeInterface,ki M]
  .cases G
 .rename_i fn first captured q
  simp only[q];simp at j;obtain⟨rfl,rfl⟩:=j;have S:=aaE z first
  have L:=aaE z captured;exact Yields.next (.same R (v':=.func fn (first.map E) (captured.map E)) (Sem.run_pure ..) (.func fn S.1 L.1 S.2 L.2))
 .rename_i t r q;simp only[q];exact(aj9 (i3 j) R (Qv z r)).next
 .rename_i t l c q;simp only[q];exact(ajR (i3 j) R (z l) (z c)).next
 .rename_i t x lo hi mx q;simp only[q];obtain⟨A,C⟩:=vF j;subst C;exact((ajP A R (z x) (Qv z lo) (Qv z hi) (Qv z mx)).iE R).next
 .rename_i s x k q;simp only[q];obtain⟨A,C⟩:=vF j;subst C;exact((ajN A R (z x)).iE R).next
 .rename_i t x k q;simp only[q];obtain⟨A,C⟩:=vF j;subst C;exact((aj1 A R (z x)).iE R).next
 .rename_i t x N q;simp only[q];obtain⟨A,C⟩:=vF j;subst C;exact((ajO A R (z x) (z N)).iE R).next
 .rename_i t x N q;simp only[q];obtain⟨A,C⟩:=vF j;subst C;exact((aj2 A R (z x) (z N)).iE R).next
 .rename_i t x N ok q;simp only[q];obtain⟨A,C⟩:=vF j;subst C;exact((aj6 A R (z x) (z N)).iE R).next
 .rename_i t m k x q;simp only[q];obtain⟨A,C⟩:=Qu j;subst C;exact .skip (aav A R (z m) (z k) (z x))
 .rename_i t m k x q;simp only[q];obtain⟨A,C⟩:=Qu j;subst C;exact .skip (aav A R (z m) (z k) (z x))
 .rename_i t m k q;simp only[q];exact(sh (i3 j) R (z m) (z k)).next
 .rename_i t m s x q;simp only[q];obtain⟨A,C⟩:=Qu j;subst C;exact .skip (akm A R (z m) (z s) (z x))
 .rename_i t x q;simp only[q];exact(aka (i3 j) R (z x)).next
 .rename_i it q;split at j<;>simp at j
 .rename_i it q;simp only[q];obtain⟨A,C⟩:=vF j;subst C;exact((akb A R (z it)).iE R).next
 .rename_i x K0 H ok q;simp only[q];obtain⟨A,C⟩:=vF j;subst C;exact((aj4 A R (z x)).iE R).next
 .rename_i t k q;simp only[q];split at j
  case h_2=>cases j
  rename_i vs tG;obtain⟨A,C⟩:=vF j;subst C;have D:=z t;rw[tG]at D;generalize W:E t=Q at D;cases D with
  | tuple bq D=>
   rename_i X;have aC:k<vs.length:=(axB.1 A).1;have Y:k<X.size:=by rw[<-bq];exact aC
   refine Yields.next (.same R (v':=X[k]) ?_ (D k v _ A (ayZ Y)));simp[Instr.extract,ayZ Y]
 .rename_i c q;simp only[q];unfold k7 at j;split at j
  .split at j<;>simp at j
  .rename_i b SQ an;split at j
   case h_2=>cases j
   rename_i u L M;simp at j;obtain⟨rfl,rfl⟩:=j;have aW:=Gh z c.args.toList;have:=akn (args':=c.args.map E) M R (by simpa using aW);have az:(do let d <-resolve E c o.type;invoke d.target d.args)=builtin b c.argTypes o.type (wH c.args) (c.args.map E):=by
    simp[resolve,an,invoke];rfl
   rw[az];exact this
  .rename_i Z aA;split at j
   case h_2=>simp at j
   case h_3=>cases j
   rename_i bJ first captured zI
   split at j
   .cases j
   split at j
   case h_2=>cases j
   rename_i u L M;simp at j;obtain⟨rfl,rfl⟩:=j;have A:=z Z;rw[zI]at A;generalize yt:E Z=O at A;cases A with
   | func fn h0 gD D bg=>
   rename_i p2 k8;have aW:=Gh z c.args.toList;have gp:bj ρ first p2.toList:=eV.list ⟨h0,D⟩
   have gI:bj ρ captured k8.toList:=eV.list ⟨gD,bg⟩;have wI:=gp.append (aW.append gI);obtain⟨dO,w',aH,Eo,e7⟩:=akk (args':=p2++c.args.map E++k8) M R (by simpa using wI);refine⟨ρ,dO,w',.inl ?_,Eo,e7,Ren.le.refl ρ⟩;simp[resolve,aA,yt,Deferred.ofValue,invoke];simpa using aH
  .obtain⟨_,_,_,_,_,bV⟩:=Lc j;cases bV
 .split at j<;>simp at j
 .cases j
theorem akp{P:aPf}{o:aPl}{bK:aPk->V}{i:aPk->aPi}{h:I}{g:aPn}{args:List V}(a:eI P o bK h=eL (.call g args)){ρ:Ren}{B:Nat}{O w:aPj}
  (R:a8 ρ B O h w) (u:∀x,aL ρ (bK x) (i x)):∃m,(execOp i o).run P w=.ok (.enter g m) w/\bj ρ args m.toList:=by
 have A:∃c,o.op=.call c/\k7 P c o.type bK h=eL (.call g args):=by
  unfold eI at a;split at a
  all_goals first
   | (rename_i c z;exact⟨c,z,a⟩)
   | (simp[gb,hL,tN]at a;done)
   | (unfold gb at a;split at a<;>simp at a;done)
   | (unfold hL at a;split at a<;>simp at a;done)
   | (unfold tN at a;split at a<;>simp at a;done)
   | (split at a<;>(try (unfold gb at a;split at a))<;>simp at a;done)
   | (split at a<;>(try (unfold hL at a;split at a))<;>simp at a;done)
 obtain⟨c,z,aw⟩:=A;unfold k7 at aw;split at aw
 .split at aw<;>simp at aw
 .split at aw<;>simp at aw
 .rename_i G C;split at aw
  case h_2=>simp at aw
  case h_3=>cases aw
  rename_i bJ first captured Q
  split at aw
  case isFalse=>split at aw<;>simp at aw
  rename_i j;simp at aw;obtain⟨rfl,rfl⟩:=aw;have s:=u G;rw[Q]at s;generalize D:i G=S at s;cases s with
  | func fn T W E X=>
  rename_i H L;have aW:=Gh u c.args.toList;refine⟨H++c.args.map i++L,?_,?_⟩
  .unfold me at j;split at j
   case h_2=>cases j
   rename_i fn F;simp only[are,bne_iff_ne,ne_eq]at j;have an:fn.body.isNone=false:=by cases an:fn.body<;>simp_all
   unfold execOp;simp only[z];simp[resolve,C,D,Deferred.ofValue,invoke,callFunc,F,j.2];intro U;simp[U]at j
  .have Y:bj ρ first H.toList:=eV.list ⟨T,E⟩
   have Z:bj ρ captured L.toList:=eV.list ⟨W,X⟩;have:=Y.append (aW.append Z);simpa using this
 .rename_i r name hq;obtain⟨t,v,f,aH,M,N⟩:=Lc aw;simp only[Step.call.injEq]at N;obtain⟨rfl,rfl⟩:=N;have s:=u r;rw[aH]at s;generalize D:i r=S at s;cases s with
  | iface t E=>
  rename_i q;have aW:=Gh u c.args.toList;refine⟨#[q]++c.args.map i,?_,?_⟩
  .have j:=M.2;unfold me at j;split at j
   case h_2=>cases j
   rename_i fn F;simp only[are,bne_iff_ne,ne_eq]at j;have an:fn.body.isNone=false:=by cases an:fn.body<;>simp_all
   unfold execOp;simp only[z];have C:(callFunc g (#[q]++c.args.map i)).run P w=.ok (.enter g (#[q]++c.args.map i)) w:=by
    simp[callFunc,F,j.2];intro U;simp[U]at j
   have he:(Array.extract (#[aPi.iface t q]++c.args.map i) 1 (#[aPi.iface t q]++c.args.map i).size)=c.args.map i:=by
    apply azp;simp;exact ajE (by simp)
   have aG:(#[aPi.iface t q]++c.args.map i)[0]?=eL (.iface t q):=(by rw[aDR (show 0<1 by decide)];rfl);have az:(do let d <-resolve i c o.type;invoke d.target d.args)=callMethod (.iface t q) name (c.args.map i):=by
    simp only[resolve,hq,D,pure_bind,invoke,aG,he]
   rw[az];simp only[callMethod,Sem.run_bind,run_program,aPq.andThen_ok,M.1,C]
  .simpa using bj.cons E aW
theorem akq{P:aPf}{o:aPl}{bK:aPk->V}{j:aPk->aPi}{h:I}{l:Nat}{args:List V}(a:eI P o bK h=eL (.round l args)){ρ:Ren}{B:Nat}{A w:aPj}
  (R:a8 ρ B A h w) (u:∀x,aL ρ (bK x) (j x)):∃i,execOp j o=Instr.yield l i/\bj ρ args i.toList:=by
 have m:∃c,o.op=.call c/\k7 P c o.type bK h=eL (.round l args):=by
  unfold eI at a;split at a
  all_goals first
   | (rename_i c q;exact⟨c,q,a⟩)
   | (simp[gb,hL,tN]at a;done)
   | (unfold gb at a;split at a<;>simp at a;done)
   | (unfold hL at a;split at a<;>simp at a;done)
   | (unfold tN at a;split at a<;>simp at a;done)
   | (split at a<;>(try (unfold gb at a;split at a))<;>simp at a;done)
   | (split at a<;>(try (unfold hL at a;split at a))<;>simp at a;done)
 obtain⟨c,q,aw⟩:=m;unfold k7 at aw;split at aw
 .split at aw<;>simp at aw
 .split at aw<;>simp at aw
 .rename_i z C;split at aw
  case h_1=>split at aw<;>(try (split at aw))<;>simp at aw
  case h_3=>cases aw
  rename_i Q D;simp at aw;obtain⟨rfl,rfl⟩:=aw;have s:=u z;rw[D]at s;generalize E:j z=S at s;cases s with
  | func fn F G T W=>
  rename_i H L;have aW:=Gh u c.args.toList;have M:H=#[]:=aAB F.symm;have N:L=#[]:=aAB G.symm;subst M N;refine⟨c.args.map j,?_,by simpa using aW⟩;unfold execOp;simp only[q];simp[resolve,C,E,Deferred.ofValue,invoke]
 .obtain⟨_,_,_,_,_,O⟩:=Lc aw;cases O
theorem akr{P:aPf}{o:aPl}{bK:aPk->V}{q:aPk->aPi}{h:I}{l:List (V×I)}(a:eI P o bK h=eL (.alts l)){ρ:Ren}{B:Nat}{s w:aPj}
  (R:a8 ρ B s h w) (u:∀x,aL ρ (bK x) (q x)):∃v h',(v,h')∈l/\lH P (execOp q o) ρ B s w v h':=by
 have j:∃it,o.op=.next it fr/\C9 (bK it) h=eL l:=by
  unfold eI at a;split at a
  all_goals first
   | (rename_i it m;cases i:C9 (bK it) h with
     | none=>simp[i]at a
     | some D=>simp[i]at a;subst a;exact⟨it,m,i⟩)
   | (simp[gb,hL,tN]at a;done)
   | (unfold gb at a;split at a<;>simp at a;done)
   | (unfold hL at a;split at a<;>simp at a;done)
   | (unfold tN at a;split at a<;>simp at a;done)
   | (unfold k7 at a;split at a<;>(split at a)<;>simp at a;done)
   | (split at a<;>(try (unfold gb at a;split at a))<;>simp at a;done)
   | (split at a<;>(try (unfold hL at a;split at a))<;>simp at a;done)
   | (
     exfalso;unfold k7 at a;split at a
     .split at a<;>simp at a
     .split at a<;>simp at a
     .split at a
      .split at a
       .simp at a
       .split at a<;>simp at a
      .simp at a
      .cases a
     .obtain⟨_,_,_,_,_,z⟩:=Lc a;cases z)
 obtain⟨it,m,i⟩:=j;obtain⟨v,h',A,C⟩:=akc (P:=P) (ty:=o.type) i R (u it);refine⟨v,h',A,?_⟩;unfold execOp;simp only[m];exact C.next
theorem aks{P:aPf}{o:aPl}{bK:aPk->V}{s:aPk->aPi}{h:I}(a:eI P o bK h=eL .panic){ρ:Ren}{B:Nat}{F w:aPj}
  (R:a8 ρ B F h w) (G:∀x,aL ρ (bK x) (s x)):∃t j,(execOp s o).run P w=.halt (.panic (.iface t j)) w:=by
 have z:(∃x,o.op=.panic x/\∃t v,bK x=.iface t v)\/(∃c x,o.op=.call c/\c.callee=.builtin .panic/\c.args.toList=[x]/\∃t v,bK x=.iface t v):=by
  unfold eI at a;split at a
  all_goals first
   | (rename_i x m;cases q:bK x<;>simp[q]at a;exact .inl ⟨x,m,_,_,q⟩)
   | (simp[gb,hL,tN]at a;done)
   | (unfold gb at a;split at a<;>simp at a;done)
   | (unfold hL at a;split at a<;>simp at a;done)
   | (unfold tN at a;split at a<;>simp at a;done)
   | (split at a<;>(try (unfold gb at a;split at a))<;>simp at a;done)
   | (split at a<;>(try (unfold hL at a;split at a))<;>simp at a;done)
   | (
     rename_i c m;unfold k7 at a;split at a
     .rename_i A;split at a
      .rename_i t v i;cases C:c.args.toList with
       | nil=>simp[C]at i
       | cons x r=>
        rw[C]at i;simp at i;obtain⟨D,rfl⟩:=i;exact .inr ⟨c,x,m,A,C,t,v,D⟩
      .cases a
     .split at a<;>simp at a
     .split at a
      .split at a
       .simp at a
       .split at a<;>simp at a
      .simp at a
      .cases a
     .obtain⟨_,_,_,_,_,H⟩:=Lc a;cases H)
 have run:∀x t v,bK x=.iface t v->∃t j,s x=.iface t j/\(Instr.panic (s x)).run P w=.halt (.panic (.iface t j)) w:=λx t v u=>by
  have q:=G x;rw[u]at q;generalize s x=M at q;cases q with
  | iface t N=>exact⟨t,_,rfl,by simp[Instr.panic,goPanic,Sem.run]⟩
 rcases z with⟨x,m,t,v,u⟩|⟨c,x,m,A,L,t,v,u⟩
 .obtain⟨t,j,D,E⟩:=run x t v u;refine⟨t,j,?_⟩;unfold execOp;simp[m,E]
 .obtain⟨t,j,D,E⟩:=run x t v u;refine⟨t,j,?_⟩;have aW:c.args=#[x]:=by apply azp;simpa using L
  unfold execOp;simp[m,resolve,A,aW,invoke,builtin,E]
class Lf where
 prop:Prop
def sx[p:Lf]:Prop:=p.prop
theorem ar{p:Prop}(h:p):@sx ⟨p⟩:=h
inductive cR where
 | normal
 | exit (id:Nat)
 | goto (l:Nat)
 | ret
 | panic
def i7(i:List aPx):Prop:=∃t j,i=[{ v:=.iface t j,recovered:=fr }]
def tq:cR->Exit->Prop
 | .normal,.normal=>True
 | .exit i,.exit j=>i=j
 | .goto i,.goto j=>i=j
 | .ret,.ret=>True
 | .panic,.panic a=>i7 a
 | _,_=>False
def cn(P:aPf)(f:aPn)(args:List V)(h:I)(R:V->I->Prop)(E:I->Prop):Prop :=
 ∀(ρ:Ren) (B:Nat) (i w:aPj) (a:Array aPi),a8 ρ B i h w->bj ρ args a.toList ->
  Calls P f a w λe w'=>(∃(ρ':Ren) (r:V) (j:aPi) (h':I),e=.returned j/\aL ρ' r j/\a8 ρ' B i h' w'/\ρ.le ρ'/\R r h') \/
   (∃(ρ':Ren) (m:List aPx) (h':I),e=.panicked m/\i7 m/\a8 ρ' B i h' w'/\ρ.le ρ'/\E h')
def au(P:aPf)(f:aPn)(args:List V)(h:I)(R:V->I->Prop):Prop:=cn P f args h R λ_=>False
def mf(P:aPf)(l:Nat)(args:List V)(h:I)(R:V->I->Prop):Prop :=
 ∀(ρ:Ren) (B:Nat) (j w:aPj) (a:Array aPi),a8 ρ B j h w->bj ρ args a.toList ->
  ∃fn i assign body,(Instr.yield l a).run P w=.ok (.round l fn i assign body) w/\RoundIn aPz.wide 0 P l fn i assign body w λe w'=>
   ∃(ρ':Ren) (r:V) (m:aPi) (h':I),e=.returned m/\aL ρ' r m/\a8 ρ' B j h' w'/\ρ.le ρ'/\R r h'
theorem mf.mono{P:aPf}{l:Nat}{args:List V}{h:I}{R j:V->I->Prop}(aw:mf P l args h R)(s:∀r h',R r h'->j r h'):mf P l args h j :=
 fun ρ B u w i z aW=>let ⟨fn,tmps,assign,body,A,C⟩:=aw ρ B u w i z aW
  ⟨fn,tmps,assign,body,A,C.mono λ_ _ ⟨ρ',r,D,h',az,bd,E,F,G⟩=>⟨ρ',r,D,h',az,bd,E,F,s _ _ G⟩⟩
structure vc(F:aPz):Prop where
 fn:∀f,F.fn f
 depth:F.depth=eN
 calls:∀{n:Nat} {P:aPf} {f:aPn} {args:Array aPi} {w:aPj} {R:Ending->aPj->Prop},Calls P f args w R->CallsIn F n P f args w R
 round:∀{n:Nat} {P:aPf} {l:Nat} {f:aPn} {tmps:Array aPi} {a b:aPs} {w:aPj} {R:Ending->aPj->Prop},RoundIn aPz.wide 0 P l f tmps a b w R->RoundIn F n P l f tmps a b w R
theorem vc.wide:vc aPz.wide:=⟨λ_=>trivial,rfl,λh=>callsIn_wide.2 h,λh=>⟨trivial,λc i _=>h.2 c i (room_wide _)⟩⟩
theorem vc.inRound(l:Nat):vc (aPz.wide.inRound l):=⟨λ_=>trivial,rfl,λ{n P f args w R} h=>show CallsIn aPz.wide n P f args w R from callsIn_wide.2 h,λh=>⟨trivial,λc i _=>h.2 c i (room_wide _)⟩⟩
theorem cn.mono{P:aPf}{f:aPn}{args:List V}{h:I}{R C:V->I->Prop}{E D:I->Prop}(aw:cn P f args h R E)(F:∀r h',R r h'->C r h')(G:∀h',E h'->D h'):cn P f args h C D :=
 fun ρ B H w i L aW=>(aw ρ B H w i L aW).mono λ_ _ U=>by
  rcases U with⟨ρ',r,M,h',j,s,u,z,A⟩|⟨ρ',N,h',j,s,u,z,A⟩
  .exact .inl ⟨ρ',r,M,h',j,s,u,z,F _ _ A⟩
  .exact .inr ⟨ρ',N,h',j,s,u,z,G _ A⟩
theorem au.mono{P:aPf}{f:aPn}{args:List V}{h:I}{R i:V->I->Prop}(aw:au P f args h R)(j:∀r h',R r h'->i r h'):au P f args h i :=
 cn.mono aw j λ_ h=>h
theorem au.e{P:aPf}{f:aPn}{args:List V}{h:I}{R:V->I->Prop}{E:I->Prop}(aw:au P f args h R):cn P f args h R E :=
 cn.mono aw (λ_ _ h=>h) λ_ h=>h.elim
def oR(n:Nat)(B:Nat)(i:aPj)(ρ:Ren)(Q:cR->aj->I->Prop)(e:Exit)(a:Act)(w:aPj):Prop :=
 ∃(ρ':Ren) (x:cR) (f:aj) (h:I),tq x e/\a8 ρ' B i h w/\fw ρ' n f a/\ρ.le ρ'/\Q x f h
theorem oR.le{n B:Nat}{j:aPj}{ρ ρ1:Ren}(i:ρ.le ρ1){Q:cR->aj->I->Prop}{e:Exit}{a:Act}{w:aPj}(h:oR n B j ρ1 Q e a w):oR n B j ρ Q e a w :=
 let ⟨ρ',x,f,h',s,u,z,A,C⟩:=h
 ⟨ρ',x,f,h',s,u,z,i.trans A,C⟩
def aT(P:aPf)(n:Nat)(c:aPs)(Q:cR->aj->I->Prop)(f:aj)(h:I):Prop :=
 ∀(ρ:Ren) (B:Nat) (i:aPj) (a:Act) (w:aPj),a8 ρ B i h w->fw ρ n f a->c.wp P (oR n B i ρ Q) a w
theorem aT.mono{P:aPf}{n:Nat}{c:aPs}{Q i:cR->aj->I->Prop}{f:aj}{h:I}(j:aT P n c Q f h)(s:∀e f h,Q e f h->i e f h):aT P n c i f h :=
 fun ρ B u a w z A=>wp_mono (j ρ B u a w z A) λ_ _ _ ⟨ρ',x,C,h',D,E,F,G,H⟩=>⟨ρ',x,C,h',D,E,F,G,s _ _ _ H⟩
def aK(r:V)(h:I)(ea:V)(j:I):Prop :=
 ∀(ρ:Ren) (B:Nat) (a w:aPj) (i:aPi),a8 ρ B a h w->aL ρ r i->∃ ρ',ρ.le ρ'/\a8 ρ' B a j w/\aL ρ' ea i
theorem cn.cast{P:aPf}{f:aPn}{args:List V}{h:I}{R:V->I->Prop}{E:I->Prop}(aw:cn P f args h (λr h'=>∃ea j,aK r h' ea j/\R ea j) E):cn P f args h R E :=
 fun ρ B u w i A aW=>(aw ρ B u w i A aW).mono λ_ _ U=>by
  rcases U with⟨ρ',r,z,h',C,j,D,F,ea,G,H,L⟩|U
  .obtain⟨ρ2,s,M,N⟩:=H ρ' B u _ z D j;exact .inl ⟨ρ2,ea,z,G,C,N,M,F.trans s,L⟩
  .exact .inr U
theorem au.cast{P:aPf}{f:aPn}{args:List V}{h:I}{R:V->I->Prop}(aw:au P f args h (λr h'=>∃ea i,aK r h' ea i/\R ea i)):au P f args h R:=cn.cast aw
def andThen(K:aj->I->Prop)(Q:cR->aj->I->Prop):cR->aj->I->Prop
 | .normal,f,h=>K f h
 | e,f,h=>Q e f h
theorem aT.seq{P:aPf}{n:Nat}{x y:aPs}{Q:cR->aj->I->Prop}{f:aj}{h:I}(D:aT P n x (andThen (aT P n y Q) Q) f h):aT P n (.seq x y) Q f h:=by
 intro ρ B C a w E F;refine wp_seq (wp_mono (D ρ B C a w E F) λe G w' ⟨ρ',x,z,h',A,i,j,s,u⟩=>?_);cases x<;>cases e<;>simp only[tq]at A
 .exact wp_mono (u ρ' B C G w' i j) λ_ _ _ H=>H.le s
 .exact⟨ρ',_,z,h',by exact A,i,j,s,u⟩
 .exact⟨ρ',_,z,h',by exact A,i,j,s,u⟩
 .exact⟨ρ',.ret,z,h',trivial,i,j,s,u⟩
 .exact⟨ρ',.panic,z,h',by exact A,i,j,s,u⟩
theorem aT.cond{P:aPf}{n:Nat}{c:aPk}{x y:aPs}{Q:cR->aj->I->Prop}{f:aj}{h:I}{t:Bool}(aw:f.eval h c=.bool t)
  (u:aT P n (if t then x else y) Q f h):aT P n (.cond c x y) Q f h:=by
 intro ρ B z a w i j;have s:=j.eval i.heap c;rw[aw]at s;exact wp_cond (Bv s rfl) (u ρ B z a w i j)
def JL(id:Nat)(Q:cR->aj->I->Prop):cR->aj->I->Prop
 | .exit j,f,h=>if j=id then Q .normal f h else Q (.exit j) f h
 | e,f,h=>Q e f h
theorem aT.block{P:aPf}{n id:Nat}{c:aPs}{Q:cR->aj->I->Prop}{f:aj}{h:I}(D:aT P n c (JL id Q) f h):aT P n (.block id c) Q f h:=by
 intro ρ B E a w F G;refine wp_block (wp_mono (D ρ B E a w F G) λe H w' ⟨ρ',x,j,h',A,s,u,z,i⟩=>?_);cases x<;>cases e<;>simp only[tq]at A
 .exact⟨ρ',.normal,j,h',trivial,s,u,z,i⟩
 .subst A;simp only[JL]at i;simp only[Exit.inBlock];split
  .rename_i C;simp only[C,jS]at i;exact⟨ρ',.normal,j,h',trivial,s,u,z,i⟩
  .rename_i C;simp only[C,iC]at i;exact⟨ρ',.exit _,j,h',rfl,s,u,z,i⟩
 .exact⟨ρ',.goto _,j,h',A,s,u,z,i⟩
 .exact⟨ρ',.ret,j,h',trivial,s,u,z,i⟩
 .exact⟨ρ',.panic,j,h',A,s,u,z,i⟩
theorem aT.skip{P:aPf}{n:Nat}{Q:cR->aj->I->Prop}{f:aj}{h:I}(i:Q .normal f h):aT P n .skip Q f h :=
 fun ρ _ _ _ _ j s=>wp_skip ⟨ρ,.normal,f,h,trivial,j,s,Ren.le.refl ρ,i⟩
theorem aT.label{P:aPf}{n l:Nat}{Q:cR->aj->I->Prop}{f:aj}{h:I}(i:Q .normal f h):aT P n (.label l) Q f h :=
 fun ρ _ _ _ _ j s=>wp_label ⟨ρ,.normal,f,h,trivial,j,s,Ren.le.refl ρ,i⟩
theorem aT.exit{P:aPf}{n id:Nat}{Q:cR->aj->I->Prop}{f:aj}{h:I}(i:Q (.exit id) f h):aT P n (.exit id) Q f h :=
 fun ρ _ _ _ _ j s=>wp_exit ⟨ρ,.exit id,f,h,rfl,j,s,Ren.le.refl ρ,i⟩
theorem aT.goto{P:aPf}{n l:Nat}{Q:cR->aj->I->Prop}{f:aj}{h:I}(i:Q (.goto l) f h):aT P n (.goto l) Q f h :=
 fun ρ _ _ _ _ j s=>wp_goto ⟨ρ,.goto l,f,h,rfl,j,s,Ren.le.refl ρ,i⟩
theorem aT.ret{P:aPf}{n:Nat}{Q:cR->aj->I->Prop}{f:aj}{h:I}(i:Q .ret f h):aT P n .ret Q f h :=
 fun ρ _ _ _ _ j s=>wp_ret ⟨ρ,.ret,f,h,trivial,j,s,Ren.le.refl ρ,i⟩
theorem aT.bG{P:aPf}{n:Nat}{c:aPs}{Q:cR->aj->I->Prop}{f:aj}{h:I}{α:Type}(j:α->aj->I->Prop)(μ:α->Nat)(E:α)(L:j E f h)
  (round:∀x f h,j x f h->aT P n c (andThen (λs h'=>@sx ⟨∃y,j y s h'/\μ y<μ x⟩) Q) f h):aT P n (.loop c) Q f h:=by
 intro ρ B F a w G H;have key:∀m x f h,j x f h->μ x<m->∀ ρ1:Ren,ρ.le ρ1->∀a w,a8 ρ1 B F h w->fw ρ1 n f a->aPs.rounds P c (oR n B F ρ Q) m a w:=by
  intro m
  induction m with
  | zero=>intro x f h _ M;omega
  | succ m ih=>
   intro x f h N M ρ1 i a w G H;rw[rounds_succ];refine wp_mono (round x f h N ρ1 B F a w G H) λe O w' ⟨ρ',R,s,h',D,u,z,A,C⟩=>?_;cases R<;>cases e<;>simp only[tq]at D
   .obtain⟨y,S,T⟩:=C;exact ih y s h' S (by omega) ρ' (i.trans A) O w' u z
   .exact⟨ρ',.exit _,s,h',D,u,z,i.trans A,C⟩
   .exact⟨ρ',.goto _,s,h',D,u,z,i.trans A,C⟩
   .exact⟨ρ',.ret,s,h',trivial,u,z,i.trans A,C⟩
   .exact⟨ρ',.panic,s,h',D,u,z,i.trans A,C⟩
 exact wp_loop_rounds (μ E+1) (key _ E f h L (Nat.lt_succ_self _) ρ (Ren.le.refl ρ) a w G H)
def iI(i:List aPl)(g:Option (Nat×Bool))(f:aj):Option Bool :=
 match g with
 | none=>eL e6
 | some (j,a)=>match(i[j]?).bind (·.dst)with
  | some d=>match f d with
   | .top=>eN
   | .bool b=>eL (b==a)
   | _=>eL fr
  | none=>eL fr
theorem Qx{ρ:Ren}{n:Nat}{f:aj}{a:Act}(C:fw ρ n f a)(i:Array aPl)(o:aPl){b:Bool}(an:iI i.toList o.guard f=eL b):Region.wanted o (yielded i a.tmps)=b:=by
 unfold Region.wanted;unfold iI at an;cases z:o.guard with
 | none=>simp[z]at an;simp[an]
 | some p=>
  obtain⟨j,A⟩:=p;simp only[z]at an⊢;have e:i.toList[j]?=i[j]?:=by simp
  rw[e]at an;unfold yielded;cases B:(i[j]?).bind (·.dst)with
  | none=>simp[B]at an;subst an;rfl
  | some d=>
   simp only[B]at an⊢;have m:=C.tmps d;cases q:a.tmps[d]? with
   | none=>
    have s:a.tmps.getD d undef=undef:=(by simp[q]);rw[s]at m;generalize f d=x at m an;unfold undef at m;cases m with
    | top=>simp at an
    | tuple D E=>simp at an;subst an;simp[q]
   | some u=>
    have s:a.tmps.getD d undef=u:=(by simp[q]);rw[s]at m;generalize f d=x at m an;cases m<;>simp at an<;>subst an<;>simp[q]
def iX(P:aPf)(o:aPl)(next a:aj->I->Prop)(f:aj)(h:I):Prop :=
 match eI P o (f.eval h) h with
 | some (.val v h')=>next (f.put o.dst v) h'
 | some (.call g args)=>cn P g args h (λr h'=>next (f.put o.dst r) h') (λh'=>a f h')
 | some (.alts l)=>∀v h',(v,h')∈l->next (f.put o.dst v) h'
 | some .panic=>a f h
 | some (.round l args)=>mf P l args h (λr h'=>next (f.put o.dst r) h')
 | none=>False
def oz(P:aPf)(a:List aPl):List aPl->(aj->I->Prop)->(aj->I->Prop)->aj->I->Prop
 | [],K,_,f,h=>K f h
 | o::rest,K,E,f,h=>match iI a o.guard f with
  | some e6=>iX P o (oz P a rest K E) E f h
  | some fr=>oz P a rest K E (f.put o.dst (.tuple [])) h
  | none=>False
def codeOk(n:Nat):aPs->Bool
 | .region _ i _=>i.toList.all λo=>tm n o.dst
 | .seq a b=>codeOk n a&&codeOk n b
 | .cond c a b=>codeOk n a&&codeOk n b
 | .block _ b=>codeOk n b
 | .loop b=>codeOk n b
 | .scope b=>codeOk n b
 | .rangeFunc ..=>fr
 | .refuse _=>fr
 | _=>e6
theorem akt{P:aPf}{o:aPl}{bK:aPk->V}{h:I}{s:Step}(a:eI P o bK h=eL s)(j:Option Nat)(i:aPk->aPi):o.semAt j i=execOp i o :=
 aPl.semAt_eq j i o λc aw=>by unfold eI at a;rw[aw]at a;simp at a
theorem U9{F:aPz}(Q:vc F){rm:Nat}{P:aPf}{n:Nat}{o:aPl}(R:tm n o.dst=e6){ρ0 ρ:Ren}{B:Nat}{G w:aPj}{f:aj}{h:I}{a:Act}{next exc:aj->I->Prop}
  {i:Act->aPj->Prop} {W:Exit->Act->aPj->Prop} (m:ρ0.le ρ) (C:a8 ρ B G h w) (E:fw ρ n f a) (u:iX P o next exc f h)
  (S:∀ ρ f h a w,ρ0.le ρ->a8 ρ B G h w->fw ρ n f a->next f h->i a w) (Y:∀ ρ f h a w T,ρ0.le ρ->a8 ρ B G h w->fw ρ n f a->i7 T->exc f h->W (.panic T) a w) :
  o.wpIn F rm P a w i W:=by
 unfold iX at u;unfold aPl.wpIn;refine⟨λf _=>Q.fn f,?_⟩;have L:=E.eval C.heap;have Z:F.depth.isSome=e6->1<=rm:=λU=>by rw[Q.depth]at U;cases U
 have M:∀v h',lH P (execOp a.eval o) ρ B G w v h'->next (f.put o.dst v) h'->aPl.uponIn F rm P o a i W ((execOp a.eval o).run P w):=λv h' N aF=>by
  obtain⟨ρ',v',w',A,H,D,q⟩:=N;rcases A with A|⟨A,rfl⟩
  .rw[A,aPl.uponIn_value];exact S ρ' _ _ _ _ (m.trans q) D ((E.mono q).put H o.dst R) aF
  .rw[A,aPl.uponIn_skip];exact S ρ' _ _ _ _ (m.trans q) D ((E.mono q).put H o.dst R) aF
 cases z:eI P o (f.eval h) h with
 | none=>simp[z]at u
 | some s=>
  rw[akt z];cases s with
  | val v h'=>simp only[z]at u;exact M v h' (ako z C L) u
  | alts l=>
   simp only[z]at u;obtain⟨v,h',hm,N⟩:=akr z C L;exact M v h' N (u v h' hm)
  | panic=>
   simp only[z]at u;obtain⟨t,v',A⟩:=aks z C L;rw[A,aPl.uponIn_panic];exact Y ρ f h a w _ m C E ⟨t,v',rfl⟩ u
  | call g args=>
   simp only[z]at u;obtain⟨j,A,aW⟩:=akp z C L;rw[A,aPl.uponIn_enter];refine⟨Z,(Q.calls (u ρ B G w j C aW)).mono λe w' U=>?_⟩;rcases U with⟨ρ',r,dO,h',O,H,D,q,X⟩|⟨ρ',T,h',O,py,D,q,bM⟩
   .subst O;exact S ρ' _ _ _ _ (m.trans q) D ((E.mono q).put H o.dst R) X
   .subst O;exact Y ρ' f h' a w' T (m.trans q) D (E.mono q) py bM
  | round l args=>
   simp only[z]at u;obtain⟨j,A,aW⟩:=akq z C L;obtain⟨fn,aa,assign,body,N,aH⟩:=u ρ B G w j C aW;rw[A,N,aPl.uponIn_round];refine⟨Z,(Q.round aH).mono λe w' U=>?_⟩;obtain⟨ρ',r,dO,h',O,H,D,q,X⟩:=U;subst O;exact S ρ' _ _ _ _ (m.trans q) D ((E.mono q).put H o.dst R) X
theorem Qy{F:aPz}(u:vc F){rm:Nat}{P:aPf}{n:Nat}{i:Array aPl}(A:i.toList.all (λo=>tm n o.dst)=e6){Q:cR->aj->I->Prop}{ρ0:Ren}{B:Nat}{D:aPj} :
  ∀(l:List aPl) (k:Nat),l=i.toList.drop k->∀(ρ:Ren) (f:aj) (h:I) (a:Act) (w:aPj),ρ0.le ρ->a8 ρ B D h w->fw ρ n f a ->
   oz P i.toList l (Q .normal) (Q .panic) f h->wpOpsIn F rm P i (oR n B D ρ0 Q) (List.range' k l.length) a w
 | [],k,C,ρ,f,h,a,w,j,q,m,s=>by
  simp only[ayx,List.range'_zero,wpOpsIn];exact⟨ρ,.normal,f,h,trivial,q,m,j,s⟩
 | o::rest,k,C,ρ,f,h,a,w,j,q,m,s=>by
  have E:i.toList[k]?=eL o:=by
   have:=iy (·[0]?) C;simpa using this.symm
  have G:rest=i.toList.drop (k+1):=by
   have:=iy List.tail C;simpa [List.tail_drop]using this
  have L:i[k]?=eL o:=by simpa using E
  have H:tm n o.dst=true:=(ayy.1 A) o (azc E);simp only[axF,List.range'_succ,wpOpsIn,L];unfold oz at s;cases z:iI i.toList o.guard f with
  | none=>simp[z]at s
  | some b=>
   rw[Qx m i o z];cases b with
   | true=>
    simp only[z]at s;simp only[jS];exact U9 u H j q m s (fun ρ f h a w j q m M=>Qy u A rest (k+1) G ρ f h a w j q m M)
     (fun ρ f h a w R j q m N O=>⟨ρ,.panic,f,h,N,q,m,j,O⟩)
   | false=>
    simp only[z]at s;simp only[azf,iC];exact⟨λf _=>u.fn f,Qy u A rest (k+1) G ρ _ _ _ _ j q (m.put (Le _) o.dst H) s⟩
theorem aT.region{P:aPf}{n id:Nat}{ops:Array aPl}(i:ops.toList.all (λo=>tm n o.dst)=e6){Q:cR->aj->I->Prop}{f:aj}{h:I}
  (j:oz P ops.toList ops.toList (Q .normal) (Q .panic) f h):aT P n (.region id ops fr) Q f h:=by
 intro ρ B z a w s u;refine wpIn_wide.1 (wpIn_region (n:=0) ?_);have:=Qy vc.wide (rm:=0) (P:=P) i (ρ0:=ρ) ops.toList 0 (by simp) ρ f h a w (Ren.le.refl ρ) s u j;rwa[Array.length_toList,<-List.range_eq_range']at this
def Pure(P:aPf)(bJ:aPn)(args:List V)(h:I)(v:V):Prop:=au P bJ args h λr h'=>r=v/\h'=h
def Db(P:aPf)(o:aPl)(h:I)(f:aj)(v:V):Prop :=
 eI P o (f.eval h) h=eL (.val v h)\/∃g args,eI P o (f.eval h) h=eL (.call g args)/\Pure P g args h v
def nz(P:aPf)(a:List aPl)(i:List Nat)(K E:aj->I->Prop):Nat->List aPl->aj->I->Prop
 | _,[],f,h=>K f h
 | k,o::rest,f,h=>if i.contains k then(match iI a o.guard f with
   | some e6=>iX P o (λj h'=>nz P a i K E (k+1) rest j h') E f h
   | some fr=>nz P a i K E (k+1) rest (f.put o.dst (.tuple [])) h
   | none=>False)
  else(match iI a o.guard f with
   | some e6=>∃v,Db P o h f v/\nz P a i K E (k+1) rest (f.put o.dst v) h
   | some fr=>nz P a i K E (k+1) rest (f.put o.dst (.tuple [])) h
   | none=>False)
def s9(P:aPf)(n:Nat):aPs->(cR->aj->I->Prop)->aj->I->Prop
 | .skip,Q,f,h=>Q .normal f h
 | .region id i fr,Q,f,h=>oz P i.toList i.toList (Q .normal) (Q .panic) f h
 | .region id i e6,Q,f,h=>aT P n (.region id i e6) Q f h
 | .seq a b,Q,f,h=>s9 P n a (andThen (λf h=>s9 P n b Q f h) Q) f h
 | .cond c a b,Q,f,h=>match f.eval h c with
  | .bool e6=>s9 P n a Q f h
  | .bool fr=>s9 P n b Q f h
  | _=>False
 | .block id b,Q,f,h=>s9 P n b (JL id Q) f h
 | .loop b,Q,f,h=>aT P n (.loop b) Q f h
 | .scope b,Q,f,h=>aT P n (.scope b) Q f h
 | .exit id,Q,f,h=>Q (.exit id) f h
 | .goto l,Q,f,h=>Q (.goto l) f h
 | .label _,Q,f,h=>Q .normal f h
 | .ret,Q,f,h=>Q .ret f h
 | _,_,_,_=>False
theorem Gi{P:aPf}{n:Nat}:∀(c:aPs) (Q:cR->aj->I->Prop) (f:aj) (h:I),codeOk n c=e6->s9 P n c Q f h->aT P n c Q f h
 | .skip,Q,f,h,_,i=>.skip i
 | .region id m fr,Q,f,h,j,i=>.region (by simpa [codeOk]using j) i
 | .region id m e6,Q,f,h,_,i=>i
 | .seq a b,Q,f,h,j,i=>by
  simp only[codeOk,are]at j;refine .seq ((Gi a _ f h j.1 i).mono λe q h' U=>?_);cases e with
  | normal=>exact Gi b Q q h' j.2 U
  | _=>exact U
 | .cond c a b,Q,f,h,j,i=>by
  simp only[codeOk,are]at j;unfold s9 at i;split at i
  .rename_i aw;exact .cond aw (Gi a Q f h j.1 i)
  .rename_i aw;exact .cond aw (Gi b Q f h j.2 i)
  .exact i.elim
 | .block id b,Q,f,h,j,i=>.block (Gi b _ f h (by simpa [codeOk]using j) i)
 | .loop b,Q,f,h,_,i=>i
 | .scope b,Q,f,h,_,i=>i
 | .exit id,Q,f,h,_,i=>.exit i
 | .goto l,Q,f,h,_,i=>.goto i
 | .label _,Q,f,h,_,i=>.label i
 | .ret,Q,f,h,_,i=>.ret i
 | .rangeFunc ..,Q,f,h,j,_=>by simp[codeOk]at j
 | .refuse _,Q,f,h,j,_=>by simp[codeOk]at j
def jw(args:List V):aj:=λt=>args.getD t .top
def qE(P:aPf)(f:aj)(h:I):aPv->Option V
 | .tmp t=>eL (f t)
 | .cell a t=>zw P t (f a) h
def uZ(P:aPf)(a:List aPv)(f:aj)(h:I):Option V :=
 match a with
 | [r]=>qE P f h r
 | _=>match a.mapM (qE P f h)with
  | some i=>eL (.tuple i)
  | none=>eN
def vG(P:aPf)(fn:Func)(R:V->I->Prop)(E:I->Prop):cR->aj->I->Prop
 | .normal,f,h | .ret,f,h=>match uZ P fn.results.toList f h with
  | some r=>R r h
  | none=>False
 | .panic,f,h=>E h
 | _,_,_=>False
theorem aku{P:aPf}{ρ:Ren}{B n:Nat}{s w:aPj}{f:aj}{h:I}{a:Act}(u:a8 ρ B s h w)(m:fw ρ n f a){g:aPv->Sem aPi}
  (z:∀t,g (.tmp t)=pure (a.tmps.getD t undef)) (A:∀c t,g (.cell c t)=(do loadVar t (<-asAddr (a.tmps.getD c undef)))) {r:aPv} {v:V} (j:qE P f h r=eL v) :
  ∃i,(g r).run P w=.ok i w/\aL ρ v i:=by
 cases r with
 | tmp t=>
  obtain rfl:f t=v:=by simpa [qE]using j
  rw[z];exact⟨_,Sem.run_pure ..,m.tmps t⟩
 | cell c t=>
  simp only[qE]at j;obtain⟨⟨C,aW⟩,i,q,D⟩:=aah j u (m.tmps c);refine⟨i,?_,D⟩;rw[A];rw[aW]at q⊢;simpa [Instr.loadAt,Instr.sureAddr,asAddr]using q
theorem Va{P:aPf}{ρ:Ren}{B n:Nat}{F w:aPj}{f:aj}{h:I}{a:Act}(z:a8 ρ B F h w)(A:fw ρ n f a){g:aPv->Sem aPi}
  (C:∀t,g (.tmp t)=pure (a.tmps.getD t undef)) (D:∀c t,g (.cell c t)=(do loadVar t (<-asAddr (a.tmps.getD c undef)))):∀(j:List aPv) (m:List V),j.mapM (qE P f h)=eL m ->
  m.length=j.length/\∃E,(j.mapM g).run P w=.ok E w/\bj ρ m E
 | [],m,i=>by
  simp at i;subst i;exact⟨rfl,[],by simp,.nil ρ⟩
 | r::j,m,i=>by
  simp only[aDT,Option.bind_eq_bind,Option.pure_def]at i;cases q:qE P f h r with
  | none=>simp[q]at i
  | some v=>
   cases s:j.mapM (qE P f h)with
   | none=>simp[q,s]at i
   | some G=>
    simp[q,s]at i;subst i;obtain⟨H,L,M⟩:=aku z A C D q;obtain⟨N,u,O,Q⟩:=Va z A C D j G s;refine⟨by simp[N],H::u,?_,.cons M Q⟩;simp only[aDT,Sem.run_bind,L,O,aPq.andThen_ok,Sem.run_pure]
def Gj(tmps:Array aPi):aPv->Sem aPi
 | .tmp t=>pure (tmps.getD t undef)
 | .cell a t=>do loadVar t (<-asAddr (tmps.getD a undef))
theorem akv(fn:Func)(tmps:Array aPi):results fn tmps=(do let a <-fn.results.mapM (Gj tmps);pure (if h:a.size=1 then a[0]else .tuple a)):=rfl
theorem Vb{P:aPf}{ρ:Ren}{B n:Nat}{D w:aPj}{f:aj}{h:I}{a:Act}{fn:Func}(u:a8 ρ B D h w)(z:fw ρ n f a){r:V}(i:uZ P fn.results.toList f h=eL r) :
  ∃A,(results fn a.tmps).run P w=.ok A w/\aL ρ r A:=by
 rw[akv,Array.mapM_eq_mapM_toList];unfold uZ at i;split at i
 .rename_i C m;have E:[C].mapM (qE P f h)=eL [r]:=by simp[i]
  rw[m];obtain⟨_,q,s,j⟩:=Va u z (g:=Gj a.tmps) (λ_=>rfl) (λ_ _=>rfl) [C] [r] E;obtain⟨F,S,rfl,G,H⟩:=j.eM;obtain rfl:=H.eq_nil;refine⟨F,?_,G⟩;simp only[Sem.run_bind,Sem.run_map,s,aPq.andThen_ok];simp
 .rename_i L;split at i
  case h_2=>cases i
  rename_i M N;obtain rfl:_=r:=by simpa using i
  obtain⟨O,q,s,j⟩:=Va u z (g:=Gj a.tmps) (λ_=>rfl) (λ_ _=>rfl) _ M N;have Q:q.length≠1:=by
   rw[<-j.1,O];intro aw;obtain⟨r,R⟩:=List.length_eq_one_iff.1 aw;exact L r R
  refine⟨.tuple q.toArray,?_,.tuple j.arr.1 j.arr.2⟩;simp only[Sem.run_bind,Sem.run_map,s,aPq.andThen_ok];simp[Q]
theorem Vc{ρ:Ren}{n:Nat}{args:List V}{a:Array aPi}(aW:bj ρ args a.toList)(j:args.length<=n)(s:ρ.dfr=[]):fw ρ n (jw args) { tmps:=a++azJ (n-a.size) undef,defers:=[] }:=by
 have bq:a.size=args.length:=by have:=aW.1;simpa using this.symm
 refine⟨λt=>?_,by simp;omega,s.symm⟩;simp only[jw];by_cases m:t<args.length
 .obtain⟨q,u,z⟩:=aW.get (Jt m);have A:a[t]?=eL q:=by simpa using u
  simp only[ayX,Jt m,Option.getD_some];have:(a++azJ (n-a.size) undef).getD t undef=q:=by
   rw[Array.getD_eq_getD_getElem?,aDR (by omega),A];rfl
  rw[this];exact z
 .simp only[ayX,List.getElem?_eq_none (show args.length<=t by omega),Option.getD_none];exact .top _
theorem cn.enter{P:aPf}{bJ:aPn}{fn:Func}{c:aPs}(N:P.funcs[bJ]?=eL fn)(an:fn.body=eL c)(O:codeOk fn.ntmps c=e6){args:List V}(A:args.length<=fn.ntmps)
  {h:I} {R:V->I->Prop} {E:I->Prop} (Q:s9 P fn.ntmps c (vG P fn R E) (jw args) h):cn P bJ args h R E:=by
 intro ρ B F w G S aW;refine calls_of_wp N an ?_;have C:∀(ρ':Ren) (f:aj) (h':I) (j:Act) (w':aPj),Ren.le { ρ with dfr:=[] } ρ'->a8 ρ' B F h' w'->fw ρ' fn.ntmps f j->(match uZ P fn.results.toList f h' with|some r=>R r h'|none=>False) ->
   j.defers=[]/\∃v,(results fn j.tmps).run P w'=.ok v w'/\((∃(ρ':Ren) (r:V) (D:aPi) (h':I),Ending.returned v=.returned D/\aL ρ' r D/\a8 ρ' B F h' w'/\ρ.le ρ'/\R r h') \/
    (∃(ρ':Ren) (L:List aPx) (h':I),Ending.returned v=.panicked L/\i7 L/\a8 ρ' B F h' w'/\ρ.le ρ'/\E h')):=by
  intro ρ' f h' j w' s u z i;refine⟨z.defers.trans s.dfr,?_⟩;cases H:uZ P fn.results.toList f h' with
  | none=>simp[H]at i
  | some r=>
  simp only[H]at i;obtain⟨D,T,W⟩:=Vb u z H;exact⟨D,T,.inl ⟨_,r,D,h',rfl,W.dfr ρ.dfr,u.dfr ρ.dfr,s.sv,i⟩⟩
 refine wp_mono (Gi c _ _ h O Q { ρ with dfr:=[] } B F _ w (S.dfr []) (Vc (aW.dfr []) A rfl)) λe j w' ⟨ρ',x,f,h',M,u,z,s,i⟩=>?_;cases x<;>cases e<;>simp only[tq]at M
 .exact C ρ' f h' j w' s u z i
 .exact i.elim
 .exact i.elim
 .exact C ρ' f h' j w' s u z i
 .exact⟨z.defers.trans s.dfr,.inr ⟨_,_,h',rfl,M,u.dfr ρ.dfr,s.sv,i⟩⟩
theorem nr{α:Sort _}{a b:α}(h:a=b):a=b:=h
class inductive qF where
 | fn (run:cR->aj->I->Prop)
 | seq (P:aPf) (n:Nat) (b:aPs) (Q:qF)
 | h2 (id:Nat) (Q:qF)
def qF.go:qF->cR->aj->I->Prop
 | .fn r=>r
 | .seq P n b Q=>andThen (λf h=>s9 P n b Q.go f h) Q.go
 | .h2 id Q=>JL id Q.go
class inductive fS where
 | fn (run exc:aj->I->Prop)
 | out (Q:qF)
 | ops (P:aPf) (ol l:List aPl) (K:fS)
 | rest (P:aPf) (ol:List aPl) (es:List Nat) (k:Nat) (l:List aPl) (K:fS)
def fS.exc:fS->aj->I->Prop
 | .fn _ e=>e
 | .out Q=>Q.go .panic
 | .ops _ _ _ K=>K.exc
 | .rest _ _ _ _ _ K=>K.exc
def fS.go:fS->aj->I->Prop
 | .fn r _=>r
 | .out Q=>Q.go .normal
 | .ops P i l K=>oz P i l K.go K.exc
 | .rest P i es k l K=>nz P i es K.go K.exc k l
def mg(P:aPf)(n:Nat)(c:aPs)[Q:qF](f:aj)(h:I):Prop:=s9 P n c Q.go f h
def iY(P:aPf)(a l:List aPl)[K:fS](f:aj)(h:I):Prop:=oz P a l K.go K.exc f h
def e9(P:aPf)(o:aPl)[K:fS](f:aj)(h:I):Prop:=iX P o K.go K.exc f h
def gq(x:cR)[Q:qF](f:aj)(h:I):Prop:=Q.go x f h
def jT[K:fS](f:aj)(h:I):Prop:=K.go f h
def Qz(v:V)[p:Lf][q:Lf]:Prop:=match v with | .bool e6=>p.prop | .bool fr=>q.prop|_=>False
section
variable {P:aPf} {n id:Nat} {ops:Array aPl} {l:List aPl} {Q:qF} {K:fS} {f:aj} {h:I}
theorem akw:@mg P n .skip Q f h=@gq .normal Q f h:=nr rfl
theorem akx:@mg P n (.region id ops fr) Q f h=@iY P ops.toList ops.toList (.out Q) f h:=nr rfl
theorem aky{a b:aPs}:@mg P n (.seq a b) Q f h=@mg P n a (.seq P n b Q) f h:=nr rfl
theorem akz{p q:Lf}:@Qz (.bool e6) p q=p.prop:=nr rfl
theorem akA{p q:Lf}:@Qz (.bool fr) p q=q.prop:=nr rfl
theorem akB{c:aPk}{a b:aPs}:@mg P n (.cond c a b) Q f h=@Qz (f.eval h c) ⟨@mg P n a Q f h⟩ ⟨@mg P n b Q f h⟩:=by
 show(match f.eval h c with | .bool e6=>s9 P n a Q.go f h | .bool fr=>s9 P n b Q.go f h|_=>False)=_;unfold Qz;cases f.eval h c with
 | bool t=>cases t<;>rfl
 | _=>rfl
theorem akC{b:aPs}:@mg P n (.block id b) Q f h=@mg P n b (.h2 id Q) f h:=nr rfl
theorem akD:@mg P n (.exit id) Q f h=@gq (.exit id) Q f h:=nr rfl
theorem akE:@mg P n (.goto id) Q f h=@gq (.goto id) Q f h:=nr rfl
theorem akF:@mg P n .ret Q f h=@gq .ret Q f h:=nr rfl
theorem akG{b:aPs}:@mg P n (.loop b) Q f h=aT P n (.loop b) Q.go f h:=nr rfl
theorem akH{b:aPs}:@mg P n (.scope b) Q f h=aT P n (.scope b) Q.go f h:=nr rfl
theorem akI:@mg P n (.region id ops e6) Q f h=aT P n (.region id ops e6) Q.go f h:=nr rfl
theorem akJ{b:aPs}:@gq .normal (.seq P n b Q) f h=@mg P n b Q f h:=nr rfl
theorem akK{b:aPs}{j:Nat}:@gq (.exit j) (.seq P n b Q) f h=@gq (.exit j) Q f h:=nr rfl
theorem akL{b:aPs}{j:Nat}:@gq (.goto j) (.seq P n b Q) f h=@gq (.goto j) Q f h:=nr rfl
theorem akM{b:aPs}:@gq .ret (.seq P n b Q) f h=@gq .ret Q f h:=nr rfl
theorem akN{b:aPs}:@gq .panic (.seq P n b Q) f h=@gq .panic Q f h:=nr rfl
theorem akO:@gq .normal (.h2 id Q) f h=@gq .normal Q f h:=nr rfl
theorem akP{j:Nat}:@gq (.exit j) (.h2 id Q) f h=if j=id then @gq .normal Q f h else @gq (.exit j) Q f h:=nr rfl
theorem akQ:@gq .ret (.h2 id Q) f h=@gq .ret Q f h:=nr rfl
theorem akR:@gq .panic (.h2 id Q) f h=@gq .panic Q f h:=nr rfl
theorem akS{x:cR}{Q:cR->aj->I->Prop}:@gq x (.fn Q) f h=Q x f h:=nr rfl
theorem akT:@jT (.out Q) f h=@gq .normal Q f h:=nr rfl
theorem akU{a:List aPl}:@jT (.ops P a l K) f h=@iY P a l K f h:=nr rfl
theorem akV{K E:aj->I->Prop}:@jT (.fn K E) f h=K f h:=nr rfl
theorem akW{a:List aPl}:@iY P a [] K f h=@jT K f h:=nr rfl
theorem aaG{x:cR}:qF.go Q x f h=@gq x Q f h:=nr rfl
theorem akX:fS.exc (.out Q) f h=@gq .panic Q f h:=nr rfl
theorem akY{a:List aPl}:fS.exc (.ops P a l K) f h=fS.exc K f h:=nr rfl
theorem akZ{K:aj->I->Prop}{Q:cR->aj->I->Prop}:andThen K Q .normal f h=K f h:=nr rfl
theorem ak0{K:aj->I->Prop}{Q:cR->aj->I->Prop}:andThen K Q (.exit id) f h=Q (.exit id) f h:=nr rfl
theorem ak1{K:aj->I->Prop}{Q:cR->aj->I->Prop}:andThen K Q .ret f h=Q .ret f h:=nr rfl
theorem jp{c:aPs}{Q:cR->aj->I->Prop}(a:codeOk n c=e6)(i:@mg P n c (.fn Q) f h):aT P n c Q f h:=Gi c Q f h a i
theorem cn.tQ{bJ:aPn}{fn:Func}{c:aPs}(j:P.funcs[bJ]?=eL fn)(an:fn.body=eL c)(s:codeOk fn.ntmps c=e6){args:List V}(i:args.length<=fn.ntmps)
  {h:I} {R:V->I->Prop} {E:I->Prop} (u:@mg P fn.ntmps c (.fn (vG P fn (λr h=>@sx ⟨R r h⟩) (λh=>@sx ⟨E h⟩))) (jw args) h):cn P bJ args h R E:=cn.enter j an s i u
theorem au.tQ{bJ:aPn}{fn:Func}{c:aPs}(j:P.funcs[bJ]?=eL fn)(an:fn.body=eL c)(s:codeOk fn.ntmps c=e6){args:List V}(i:args.length<=fn.ntmps)
  {h:I} {R:V->I->Prop} (u:@mg P fn.ntmps c (.fn (vG P fn (λr h=>@sx ⟨R r h⟩) λ_=>False)) (jw args) h):au P bJ args h R:=cn.enter j an s i u
variable {d:Option Tmp} {ty:aPg} {pos:String} {cA:Array Edge} {ol:List aPl}
def mh(o:Option V)(d:Option Tmp)[K:fS](f:aj)(h:I):Prop:=match o with|some v=>K.go (f.put d v) h|none=>False
def tR(o:Option (V×I))(d:Option Tmp)[K:fS](f:aj):Prop:=match o with|some (v,h)=>K.go (f.put d v) h|none=>False
def thenS(o:Option I)(d:Option Tmp)[K:fS](f:aj):Prop:=match o with|some h=>K.go (f.put d .top) h|none=>False
theorem ak2{v:V}:@mh (eL v) d K f h=@jT K (f.put d v) h:=nr rfl
theorem ak3{v:V}{h':I}:@tR (eL (v,h')) d K f=@jT K (f.put d v) h':=nr rfl
theorem ak4{h':I}:@thenS (eL h') d K f=@jT K (f.put d .top) h':=nr rfl
theorem ak5{op:Op}:@iY P ol (⟨d,op,ty,pos,cA,eN⟩::l) K f h=@e9 P ⟨d,op,ty,pos,cA,eN⟩ (.ops P ol l K) f h:=nr rfl
def BB:List aPl->Nat->Option Tmp
 | [],_=>eN
 | o::_,0=>o.dst
 | _::r,j+1=>BB r j
theorem Vd:∀(l:List aPl) (j:Nat),BB l j=(l[j]?).bind (·.dst)
 | [],j=>by simp[BB]
 | o::r,0=>by simp[BB]
 | o::r,j+1=>by simp[BB,Vd r j]
def Cf(v:V)(o:aPl)(P:aPf)(ol l:List aPl)[K:fS](f:aj)(h:I):Prop :=
 match v,o.guard with
 | .bool c,eL (_,b)=>if c=b then @e9 P o (.ops P ol l K) f h else @iY P ol l K (f.put o.dst (.tuple [])) h
 | .top,_=>False
 | _,_=>@iY P ol l K (f.put o.dst (.tuple [])) h
theorem ak6{op:Op}{j:Nat}{b:Bool}:@iY P ol (⟨d,op,ty,pos,cA,eL (j,b)⟩::l) K f h =
  (match BB ol j with|some t=>@Cf (f t) ⟨d,op,ty,pos,cA,eL (j,b)⟩ P ol l K f h|none=>@iY P ol l K (f.put d (.tuple [])) h):=by
 rw[Vd];show oz P ol (⟨d,op,ty,pos,cA,eL (j,b)⟩::l) K.go K.exc f h=_;simp only[oz,iI];cases a:(ol[j]?).bind (·.dst)with
 | none=>rfl
 | some t=>
  simp only[Cf];cases i:f t<;>try rfl
  rename_i c;simp only;by_cases aw:c=b
  .subst aw;simp only[beq_self_eq_true,jS];rfl
  .have:(c==b)=false:=by simp[aw]
   simp only[this,gQ aw];rfl
theorem ak7{b:Bool}{op:Op}{j:Nat}:@Cf (.bool b) ⟨d,op,ty,pos,cA,eL (j,b)⟩ P ol l K f h=@e9 P ⟨d,op,ty,pos,cA,eL (j,b)⟩ (.ops P ol l K) f h:=gr rfl
theorem ak8{op:Op}{j:Nat}:@Cf (.bool e6) ⟨d,op,ty,pos,cA,eL (j,fr)⟩ P ol l K f h=@iY P ol l K (f.put d (.tuple [])) h:=nr rfl
theorem ak9{op:Op}{j:Nat}:@Cf (.bool fr) ⟨d,op,ty,pos,cA,eL (j,e6)⟩ P ol l K f h=@iY P ol l K (f.put d (.tuple [])) h:=nr rfl
theorem ala{op:Op}{j:Nat}{b:Bool}{a:List V}:@Cf (.tuple a) ⟨d,op,ty,pos,cA,eL (j,b)⟩ P ol l K f h=@iY P ol l K (f.put d (.tuple [])) h:=nr rfl
theorem alb{o:aPl}{r:List aPl}:BB (o::r) 0=o.dst:=nr rfl
theorem alc{o:aPl}{r:List aPl}{j:Nat}:BB (o::r) (j+1)=BB r j:=nr rfl
variable {g:Option (Nat×Bool)}
theorem tS{o:aPl}{x:Option V}(a:eI P o (f.eval h) h=hL x h):@e9 P o K f h=@mh x o.dst K f h:=by
 unfold e9 iX;rw[a]<;>cases x<;>rfl
theorem Gk{o:aPl}{x:Option (V×I)}(a:eI P o (f.eval h) h=gb x):@e9 P o K f h=@tR x o.dst K f:=by
 unfold e9 iX;rw[a]<;>cases x<;>rfl
theorem aaH{o:aPl}{x:Option I}(a:eI P o (f.eval h) h=tN x):@e9 P o K f h=@thenS x o.dst K f:=by
 unfold e9 iX;rw[a]<;>cases x<;>rfl
theorem ald{x:aPk}:@e9 P ⟨d,.move x,ty,pos,cA,g⟩ K f h=@jT K (f.put d (f.eval h x)) h:=nr rfl
theorem ale{x:aPk}:@e9 P ⟨d,.assign x,ty,pos,cA,g⟩ K f h=@jT K (f.put d (f.eval h x)) h:=nr rfl
def JM(c a b:V):Option V:=match c with | .bool t=>eL (if t then a else b)|_=>eN
theorem alf{c a b:aPk}:@e9 P ⟨d,.pick c a b,ty,pos,cA,g⟩ K f h=@mh (JM (f.eval h c) (f.eval h a) (f.eval h b)) d K f h:=by
 unfold e9 iX eI JM mh;simp only;cases f.eval h c<;>rfl
theorem alg{a b:V}:JM (.bool e6) a b=eL a:=nr rfl
theorem alh{a b:V}:JM (.bool fr) a b=eL b:=nr rfl
theorem ali{e:aPg}:@e9 P ⟨d,.alloc e,ty,pos,cA,g⟩ K f h=@tR (Jy P e h) d K f:=Gk rfl
theorem alj{e:aPg}{x:aPk}:@e9 P ⟨d,.box e x,ty,pos,cA,g⟩ K f h=@tR (xF e (f.eval h x) h) d K f:=Gk rfl
theorem alk{t:aPg}{a:Array (Nat×aPk)}:@e9 P ⟨d,.build t a,ty,pos,cA,g⟩ K f h=@mh (Gd P t (a.toList.map λp=>(p.1,f.eval h p.2))) d K f h:=tS rfl
theorem alm{t:aPg}{len:Nat}{a:Array (Nat×aPk)}:@e9 P ⟨d,.buildSlice t len a,ty,pos,cA,g⟩ K f h=@tR (am P t len (a.toList.map λp=>(p.1,f.eval h p.2)) h) d K f:=Gk rfl
theorem aln{t:aPg}{a:aPk}:@e9 P ⟨d,.load t a,ty,pos,cA,g⟩ K f h=@mh (zw P t (f.eval h a) h) d K f h:=tS rfl
theorem alo{t:aPg}{a x:aPk}:@e9 P ⟨d,.store t a x,ty,pos,cA,g⟩ K f h=@thenS (Jw P t (f.eval h a) (f.eval h x) h) d K f:=aaH rfl
def zK(x:V):Option V:=match x with | .ptr i o=>eL (.ptr i o) | .at a=>eL (.at a) | .func (.func bJ) j m=>eL (.func (.func bJ) j m)|_=>eN
theorem alp{i o:Nat}:zK (.ptr i o)=eL (.ptr i o):=nr rfl
theorem alq{x:aPk}:@e9 P ⟨d,.nilCheck x,ty,pos,cA,g⟩ K f h=@mh (zK (f.eval h x)) d K f h:=by
 unfold e9 iX eI zK mh;simp only;generalize f.eval h x=y;cases y<;>try rfl
 rename_i fn xs ys;cases fn<;>rfl
theorem alr{op:BinOp}{t a:aPg}{x y:aPk}:@e9 P ⟨d,.binOp op t x y a,ty,pos,cA,g⟩ K f h=@mh (cB P op t x y (f.eval h x) (f.eval h y)) d K f h:=tS rfl
theorem als{op:UnOp}{t:aPg}{x:aPk}:@e9 P ⟨d,.unOp op t x,ty,pos,cA,g⟩ K f h=@mh (zD P op (f.eval h x)) d K f h:=tS rfl
def Ve(o:Option V)(b:Option (V×I))(d:Option Tmp)[K:fS](f:aj)(h:I):Prop:=match o with|some v=>K.go (f.put d v) h|none=>@tR b d K f
theorem alu{v:V}{b:Option (V×I)}:@Ve (eL v) b d K f h=@jT K (f.put d v) h:=nr rfl
theorem alv{s t:aPg}{x:aPk}:@e9 P ⟨d,.convert s t x,ty,pos,cA,g⟩ K f h=@Ve (oc P s t (f.eval h x) h) (yX P s t (f.eval h x) h) d K f h:=by
 have a:eI P ⟨d,.convert s t x,ty,pos,cA,g⟩ (f.eval h) h=(match oc P s t (f.eval h x) h with|some v=>eL (.val v h)|none=>gb (yX P s t (f.eval h x) h)):=rfl;unfold Ve;cases aw:oc P s t (f.eval h x) h with
 | some v=>
  rw[aw]at a;exact tS (x:=eL v) a
 | none=>
  rw[aw]at a;exact Gk a
theorem alw{t:aPg}{r:Option aPk}:@e9 P ⟨d,.makeMap t r,ty,pos,cA,g⟩ K f h=@tR (K3 P t (r.map (f.eval h)) h) d K f:=Gk rfl
theorem alx{t:aPg}{x y:aPk}:@e9 P ⟨d,.makeSlice t x y,ty,pos,cA,g⟩ K f h=@tR (Bx P t (f.eval h x) (f.eval h y) h) d K f:=Gk rfl
theorem aly{t:aPg}{x:aPk}{a i mx:Option aPk}:@e9 P ⟨d,.slice t x a i mx,ty,pos,cA,g⟩ K f h=@mh (kX P t (f.eval h x) (a.map (f.eval h)) (i.map (f.eval h)) (mx.map (f.eval h))) d K f h:=tS rfl
theorem alz{t:aPg}{x:aPk}{k:Nat}:@e9 P ⟨d,.fieldAddr t x k,ty,pos,cA,g⟩ K f h=@mh (F8 P t (f.eval h x) k) d K f h:=tS rfl
theorem alA{t:aPg}{x y:aPk}:@e9 P ⟨d,.indexAddr t x y,ty,pos,cA,g⟩ K f h=@mh (hC P t (f.eval h x) (f.eval h y)) d K f h:=tS rfl
theorem alB{t:aPg}{x y:aPk}:@e9 P ⟨d,.index t x y,ty,pos,cA,g⟩ K f h=@mh (Gf P t (f.eval h x) (f.eval h y)) d K f h:=tS rfl
theorem alC{t:aPg}{x y:aPk}{ok:Bool}:@e9 P ⟨d,.lookup t x y ok,ty,pos,cA,g⟩ K f h=@mh (ni P t (f.eval h x) (f.eval h y) ok h) d K f h:=tS rfl
theorem alD{t:aPg}{m k x:aPk}:@e9 P ⟨d,.mapUpdate t m k x,ty,pos,cA,g⟩ K f h=@thenS (vB P t (f.eval h m) (f.eval h k) (f.eval h x) h) d K f:=aaH rfl
theorem alE{t:aPg}{x:aPk}:@e9 P ⟨d,.range t x,ty,pos,cA,g⟩ K f h=@tR (JF P t (f.eval h x) h) d K f:=Gk rfl
def QA(l:Option (List (V×I)))(d:Option Tmp)[K:fS](f:aj):Prop:=match l with|some l=>∀v h',(v,h')∈l->@jT K (f.put d v) h'|none=>False
theorem alF{it:aPk}:@e9 P ⟨d,.next it fr,ty,pos,cA,g⟩ K f h=@QA (C9 (f.eval h it) h) d K f:=by
 unfold e9 iX eI QA;simp only;cases C9 (f.eval h it) h<;>rfl
theorem alG{x:aPk}:@e9 P ⟨d,.entry x,ty,pos,cA,g⟩ K f h=@mh (JG (f.eval h x) h) d K f h:=tS rfl
theorem alH{x:aPk}{t e:aPg}{ok:Bool}:@e9 P ⟨d,.typeAssert x t e ok,ty,pos,cA,g⟩ K f h=@mh (jJ P (f.eval h x) e ok) d K f h:=tS rfl
def tT(x:V)(k:Nat):Option V:=match x with | .tuple a=>a[k]? | _=>eN
theorem alI{v:V}{a:List V}:tT (.tuple (v::a)) 0=eL v:=nr rfl
theorem alJ{v:V}{a:List V}{k:Nat}:tT (.tuple (v::a)) (k+1)=tT (.tuple a) k:=by simp[tT]
theorem alK{x:aPk}{k:Nat}:@e9 P ⟨d,.extract x k,ty,pos,cA,g⟩ K f h=@mh (tT (f.eval h x) k) d K f h:=by
 unfold e9 iX eI tT mh;simp only;cases f.eval h x with
 | tuple a=>simp only;cases a[k]?<;>rfl
 | _=>rfl
def Gl(b:Option Bool)(t:aPg)(x:V):Option V:=match b with|some fr=>eL (.iface t x)|_=>eN
theorem alL{t:aPg}{x:V}:Gl (eL fr) t x=eL (.iface t x):=nr rfl
theorem alM{t:aPg}{x:aPk}:@e9 P ⟨d,.makeInterface t x,ty,pos,cA,g⟩ K f h=@mh (Gl (Em P t) t (f.eval h x)) d K f h:=by
 unfold e9 iX eI Gl mh;simp only;cases Em P t with
 | none=>rfl
 | some b=>cases b<;>rfl
theorem alN{fn:Fn}{a i:Array aPk}:@e9 P ⟨d,.makeFunc fn a i,ty,pos,cA,g⟩ K f h=@jT K (f.put d (.func fn (a.toList.map (f.eval h)) (i.toList.map (f.eval h)))) h:=nr rfl
def Gm(x:V)[K:fS](f:aj)(h:I):Prop:=match x with | .iface _ _=>K.exc f h|_=>False
theorem alO{t:aPg}{v:V}:@Gm (.iface t v) K f h=K.exc f h:=nr rfl
theorem alP{x:aPk}:@e9 P ⟨d,.panic x,ty,pos,cA,g⟩ K f h=@Gm (f.eval h x) K f h:=by
 unfold e9 iX eI Gm;simp only;cases f.eval h x<;>rfl
theorem alQ{t:aPg}{x:aPk}:@e9 P ⟨d,.call ⟨.builtin .len,#[x],#[t]⟩,ty,pos,cA,g⟩ K f h=@mh (dX P t (f.eval h x) h) d K f h:=by
 unfold e9 iX eI k7 qD mh;simp only[ajF,azd];cases dX P t (f.eval h x) h<;>rfl
theorem alR{t tx:aPg}{x y:aPk}:@e9 P ⟨d,.call ⟨.builtin .append,#[x,y],#[t,tx]⟩,ty,pos,cA,g⟩ K f h=@tR (kd P t tx (f.eval h x) (f.eval h y) h) d K f:=by
 unfold e9 iX eI k7 qD tR;simp only[ajF,azd];cases kd P t tx (f.eval h x) (f.eval h y) h<;>rfl
theorem alS{t tx:aPg}{x y:aPk}:@e9 P ⟨d,.call ⟨.builtin .copy,#[x,y],#[t,tx]⟩,ty,pos,cA,g⟩ K f h=@tR (xH P t (f.eval h x) (f.eval h y) h) d K f:=by
 unfold e9 iX eI k7 qD tR;simp only[ajF,azd];cases xH P t (f.eval h x) (f.eval h y) h<;>rfl
theorem alT{t:aPg}{x:aPk}:@e9 P ⟨d,.call ⟨.builtin .cap,#[x],#[t]⟩,ty,pos,cA,g⟩ K f h=@mh (vC P t (f.eval h x)) d K f h:=by
 unfold e9 iX eI k7 qD mh;simp only[ajF,azd];cases vC P t (f.eval h x)<;>rfl
theorem alU{t tx:aPg}{x y:aPk}:@e9 P ⟨d,.call ⟨.builtin .delete,#[x,y],#[t,tx]⟩,ty,pos,cA,g⟩ K f h=@tR ((C8 P t (f.eval h x) (f.eval h y) h).map λh'=>(.tuple [],h')) d K f:=by
 unfold e9 iX eI k7 qD tR;simp only[ajF,azd];cases C8 P t (f.eval h x) (f.eval h y) h<;>rfl
theorem alV{t:aPg}{x:aPk}:@e9 P ⟨d,.call ⟨.builtin .clear,#[x],#[t]⟩,ty,pos,cA,g⟩ K f h=@tR ((BA P t (f.eval h x) h).map λh'=>(.tuple [],h')) d K f:=by
 unfold e9 iX eI k7 qD tR;simp only[ajF,azd];cases BA P t (f.eval h x) h<;>rfl
def rX(P:aPf)(a:aPm)(ts:Array aPg)(ty:aPg)(i:Array Bool)(x y:V):Option V :=
 match jX [x,y]with
 | some as=>match eu P (builtin a ts ty i as.toArray)with
  | some (.value v)=>eL (gR v)
  | _=>eN
 | none=>eN
theorem alW{t a:aPg}{x y:aPk}:@e9 P ⟨d,.call ⟨.builtin .min,#[x,y],#[t,a]⟩,ty,pos,cA,g⟩ K f h=@mh (rX P .min #[t,a] ty (wH #[x,y]) (f.eval h x) (f.eval h y)) d K f h :=
 tS (by
  unfold eI k7 qD rX hL;simp only[ajF,azd];cases jX [f.eval h x,f.eval h y]with
  | none=>rfl
  | some as=>
   simp only;generalize eu P _=r;cases r with
   | none=>rfl
   | some n=>cases n<;>rfl)
theorem alX{t a:aPg}{x y:aPk}:@e9 P ⟨d,.call ⟨.builtin .max,#[x,y],#[t,a]⟩,ty,pos,cA,g⟩ K f h=@mh (rX P .max #[t,a] ty (wH #[x,y]) (f.eval h x) (f.eval h y)) d K f h :=
 tS (by
  unfold eI k7 qD rX hL;simp only[ajF,azd];cases jX [f.eval h x,f.eval h y]with
  | none=>rfl
  | some as=>
   simp only;generalize eu P _=r;cases r with
   | none=>rfl
   | some n=>cases n<;>rfl)
theorem alY{ts:Array aPg}{i:Array Bool}{k:aPh}{a b:Int}:rX P .min ts ty i (.int k a) (.int k b)=eL (.int k (min a b)):=by
 have e:(if b<a then b else a)=min a b:=by rw[Int.min_def];split<;>split<;>omega
 rw[<-e];rfl
theorem alZ{ts:Array aPg}{i:Array Bool}{k:aPh}{a b:Int}:rX P .max ts ty i (.int k a) (.int k b)=eL (.int k (max a b)):=by
 have e:(if a<b then b else a)=max a b:=by rw[Int.max_def];split<;>split<;>omega
 rw[<-e];rfl
def Li(P:aPf)(bJ:aPn)(args:List V)(h:I)(d:Option Tmp)[K:fS](f:aj):Prop:=me P bJ=fr/\∃v h',yq P bJ args h=eL (v,h')/\K.go (f.put d v) h'
def xM(P:aPf)(bJ:aPn)(args:List V)(h:I)(d:Option Tmp)[K:fS](f:aj):Prop:=(me P bJ=e6/\cn P bJ args h (λr h'=>K.go (f.put d r) h') (λh'=>K.exc f h'))\/@Li P bJ args h d K f
open Classical in
theorem al0{bJ:aPn}{args:Array aPk}{ts:Array aPg}:@e9 P ⟨d,.call ⟨.value (.func bJ),args,ts⟩,ty,pos,cA,g⟩ K f h=@xM P bJ (args.toList.map (f.eval h)) h d K f:=by
 unfold e9 iX eI k7 xM Li;simp only[aj.eval];by_cases aw:me P bJ=e6
 .simp[aw]
 .cases aW:yq P bJ (args.toList.map (f.eval h)) h with
  | none=>simp[aw,aW]
  | some p=>obtain⟨v,h'⟩:=p;simp[aw,aW];exact⟨λU=>⟨v,h',⟨rfl,rfl⟩,U⟩,λ⟨_,_,⟨az,bd⟩,U⟩=>by subst az;subst bd;exact U⟩
def QB(P:aPf)(a:V)(args:List V)(h:I)(d:Option Tmp)[K:fS](f:aj):Prop:=match a with | .func (.func bJ) i j=>@xM P bJ (i++args++j) h d K f | .func (.yield l) [] []=>mf P l args h (λr h'=>K.go (f.put d r) h')|_=>False
theorem al1{t:Tmp}{args:Array aPk}{ts:Array aPg}:@e9 P ⟨d,.call ⟨.value (.tmp t),args,ts⟩,ty,pos,cA,g⟩ K f h=@QB P (f t) (args.toList.map (f.eval h)) h d K f:=by
 unfold e9 iX eI k7 QB xM Li;simp only[aj.eval];generalize f t=v;cases v<;>try rfl
 rename_i fn xs ys;cases fn<;>try rfl
 case yield l=>cases xs<;>cases ys<;>rfl
 rename_i bJ;simp only;by_cases aw:me P bJ=e6
 .simp[aw]
 .cases aW:yq P bJ (xs++args.toList.map (f.eval h)++ys) h with
  | none=>simp at aW;simp[aw,aW]
  | some p=>obtain⟨v,h'⟩:=p;simp at aW;simp[aw,aW];exact⟨λU=>⟨v,h',⟨rfl,rfl⟩,U⟩,λ⟨_,_,⟨az,bd⟩,U⟩=>by subst az;subst bd;exact U⟩
def Gn(P:aPf)(x:V)(name:String)(args:List V)(h:I)(d:Option Tmp)[K:fS](f:aj):Prop:=match x with | .iface t v=>∃g,gC P t name g/\@xM P g (v::args) h d K f|_=>False
theorem al2{r:aPk}{name:String}{args:Array aPk}{ts:Array aPg}:@e9 P ⟨d,.call ⟨.invoke r name,args,ts⟩,ty,pos,cA,g⟩ K f h=@Gn P (f.eval h r) name (args.toList.map (f.eval h)) h d K f:=by
 unfold e9 iX eI k7 Gn;simp only;generalize f.eval h r=v;cases v<;>try rfl
 rename_i t x;by_cases U:∃g,gC P t name g
 .obtain⟨g,a⟩:=U;rw[akl a];refine propext ⟨λi=>⟨g,a,.inl ⟨a.2,i⟩⟩,?_⟩
  rintro⟨j,m,aw⟩
  have e:=a.uniq m;subst e;rcases aw with⟨_,aw⟩|⟨aw,_⟩
  .exact aw
  .rw[a.2]at aw;cases aw
 .have:vE P (.iface t x) name (args.toList.map (f.eval h))=none:=by
   unfold vE;simp only[dif_neg U]
  rw[this];exact propext ⟨False.elim,λ⟨g,a,_⟩=>U ⟨g,a⟩⟩
theorem aaI{t:aPg}{x:V}{name:String}{args:List V}{bJ:aPn}(a:gC P t name bJ):@Gn P (.iface t x) name args h d K f=@xM P bJ (x::args) h d K f:=by
 refine propext ⟨?_,λaw=>⟨bJ,a,aw⟩⟩
 rintro⟨g,i,aw⟩
 have e:=a.uniq i;subst e;exact aw
theorem al4{bJ:aPn}{a i args:List V}:@QB P (.func (.func bJ) a i) args h d K f=@xM P bJ (a++args++i) h d K f:=nr rfl
theorem al5{l:Nat}{args:List V}{R:V->I->Prop}(a:mf P l args h R)(i:∀r h',R r h'->@jT K (f.put d r) h'):@QB P (.func (.yield l) [] []) args h d K f:=a.mono i
theorem QC{bJ:aPn}{args:List V}{R:V->I->Prop}(aw:me P bJ=e6)(a:au P bJ args h R)(i:∀r h',R r h'->@jT K (f.put d r) h'):@xM P bJ args h d K f :=
 .inl ⟨aw,a.e.mono i λ_ h=>h⟩
theorem BC{bJ:aPn}{args:List V}{R:V->I->Prop}{E:I->Prop}(aw:me P bJ=e6)(a:cn P bJ args h R E)(i:∀r h',R r h'->@jT K (f.put d r) h')(j:∀h',E h'->fS.exc K f h'):@xM P bJ args h d K f :=
 .inl ⟨aw,a.mono i j⟩
theorem Vf{bJ:aPn}{args:List V}{v:V}(aw:me P bJ=e6)(a:Pure P bJ args h v)(i:@jT K (f.put d v) h):@xM P bJ args h d K f :=
 QC aw a λr h' ⟨az,bd⟩=>by subst az;subst bd;exact i
theorem AC{bJ:aPn}{args:List V}{v:V}(aw:me P bJ=fr)(a:xL P bJ)(aW:wF h args=eL v)(i:@jT K (f.put d v) h):@xM P bJ args h d K f:=.inr ⟨aw,v,h,akj a aW,i⟩
theorem al6{t:Tmp}{v:V}{k:Nat}:aj.put f (eL t) v k=if k=t then v else f k:=nr rfl
theorem al7{v:V}{k:Nat}:aj.put f eN v k=f k:=nr rfl
theorem al8{t:Tmp}:aj.eval f h (.tmp t)=f t:=nr rfl
theorem eval_const{v:aPi}:aj.eval f h (.const v)=fY v:=nr rfl
theorem eval_func{k:aPn}:aj.eval f h (.func k)=.func (.func k) [] []:=nr rfl
theorem Lj{k:Nat}{a:List V}(i:h.glob k=eL a):aj.eval f h (.global k)=.at a:=by simp[aj.eval,i]
theorem al9{a:V}{l:List V}:jw (a::l) 0=a:=nr rfl
theorem ama{a:V}{l:List V}{n:Nat}:jw (a::l) (n+1)=jw l n:=nr rfl
end
theorem amb{k:aPh}{n:Int}:fY (.int k n)=.int k n:=nr rfl
theorem amc{b:Bool}:fY (.bool b)=.bool b:=nr rfl
theorem amd{s:ByteArray}:fY (.string s)=.string s:=nr rfl
theorem ame:fY (.pointer eN)=.dA:=nr rfl
theorem amf:fY (.slice eN 0 0)=.ah:=nr rfl
theorem amg:fY (.map eN)=.fK:=nr rfl
theorem amh:fY .nilFunc=.nilFunc:=nr rfl
theorem ami:fY .nilIface=.nilIface:=nr rfl
section
variable {P:aPf} {fn:Func} {R:V->I->Prop} {E:I->Prop} {f:aj} {h:I}
theorem amj:vG P fn R E .ret f h=(match uZ P fn.results.toList f h with|some r=>R r h|none=>False):=nr rfl
theorem amk:vG P fn R E .normal f h=(match uZ P fn.results.toList f h with|some r=>R r h|none=>False):=nr rfl
theorem BD:vG P fn R E .panic f h=E h:=nr rfl
theorem aml:uZ P [] f h=eL (.tuple []):=nr rfl
end
theorem zL{P:aPf}{t:aPg}{d:aPp}(h:P.underlying t=eL d):eu P (underlying t)=eL d:=by
 unfold underlying program;rw[lY];simp only[eu,azm,h];rfl
section
variable {P:aPf} {t:aPg} {xo yo:aPk} {k QD:aPh} {a b:Int}
theorem Lk{op:BinOp}{x y:V}{a b v:aPi}(i:pd x=eL a)(j:pd y=eL b)(m:eqGuard op t xo yo a b=pure ())(h:eu P (binOp op t a b)=eL v):cB P op t xo yo x y=eL (gR v):=by
 unfold cB;simp only[i,j];have e:(do eqGuard op t xo yo a b;binOp op t a b)=binOp op t a b:=by rw[m];rfl
 rw[e,h];rfl
theorem tU{op:BinOp}{v:aPi}(h:eu P (binOp op t (.int k a) (.int QD b))=eL v):cB P op t xo yo (.int k a) (.int QD b)=eL (gR v):=Lk rfl rfl (by cases op<;>rfl) h
theorem amm:cB P .add t xo yo (.int k a) (.int k b)=eL (.int k (k.wrap (a+b))):=tU (v:=.int k (k.wrap (a+b))) (by simp[binOp,Op.intArith];rfl)
theorem amn:cB P .sub t xo yo (.int k a) (.int k b)=eL (.int k (k.wrap (a-b))):=tU (v:=.int k (k.wrap (a-b))) (by simp[binOp,Op.intArith];rfl)
theorem amo:cB P .mul t xo yo (.int k a) (.int k b)=eL (.int k (k.wrap (a*b))):=tU (v:=.int k (k.wrap (a*b))) (by simp[binOp,Op.intArith];rfl)
theorem amp:cB P .eql t xo yo (.int k a) (.int k b)=eL (.bool (a==b)):=tU (v:=.bool (a==b)) (by simp[binOp,Op.intCmp];rfl)
theorem amq:cB P .neq t xo yo (.int k a) (.int k b)=eL (.bool (a !=b)):=tU (v:=.bool (a !=b)) (by simp[binOp,Op.intCmp];rfl)
theorem amr:cB P .lss t xo yo (.int k a) (.int k b)=eL (.bool (decide (a<b))):=tU (v:=.bool (decide (a<b))) (by simp[binOp,Op.intCmp];rfl)
theorem ams:cB P .leq t xo yo (.int k a) (.int k b)=eL (.bool (decide (a<=b))):=tU (v:=.bool (decide (a<=b))) (by simp[binOp,Op.intCmp];rfl)
theorem amt:cB P .gtr t xo yo (.int k a) (.int k b)=eL (.bool (decide (b<a))):=tU (v:=.bool (decide (b<a))) (by simp[binOp,Op.intCmp];rfl)
theorem amu:cB P .geq t xo yo (.int k a) (.int k b)=eL (.bool (decide (b<=a))):=tU (v:=.bool (decide (b<=a))) (by simp[binOp,Op.intCmp];rfl)
theorem i5(an:0<=b):cB P .shl t xo yo (.int k a) (.int QD b)=eL (.int k (k.wrap (a*2^(min b.toNat k.bits)))) :=
 tU (v:=.int k (k.wrap (a*2^(min b.toNat k.bits)))) (by simp only[binOp,Op.shift,gQ (show ¬b<0 by omega)];rfl)
theorem Ll(an:0<=b):cB P .shr t xo yo (.int k a) (.int QD b)=eL (.int k (a.fdiv (2^(min b.toNat k.bits)))) :=
 tU (v:=.int k (a.fdiv (2^(min b.toNat k.bits)))) (by simp only[binOp,Op.shift,gQ (show ¬b<0 by omega)];rfl)
theorem aaJ(an:b≠0):cB P .quo t xo yo (.int k a) (.int k b)=eL (.int k (k.wrap (a.tdiv b))) :=
 tU (v:=.int k (k.wrap (a.tdiv b))) (by simp only[binOp,Op.intDiv,ne_eq,not_true,iC,gQ an];rfl)
theorem BE(an:b≠0):cB P .rem t xo yo (.int k a) (.int k b)=eL (.int k (a.tmod b)) :=
 tU (v:=.int k (a.tmod b)) (by simp only[binOp,Op.intDiv,ne_eq,not_true,iC,gQ an];rfl)
def Dc(k:aPh)(a b:Int):Int:=k.wrap ((BitVec.ofInt k.bits a &&& BitVec.ofInt k.bits b).toNat:Int)
def wJ(k:aPh)(a b:Int):Int:=k.wrap ((BitVec.ofInt k.bits a ||| BitVec.ofInt k.bits b).toNat:Int)
def tV(k:aPh)(a b:Int):Int:=k.wrap ((BitVec.ofInt k.bits a ^^^ BitVec.ofInt k.bits b).toNat:Int)
def JN(k:aPh)(a b:Int):Int:=k.wrap ((BitVec.ofInt k.bits a &&& ~~~(BitVec.ofInt k.bits b)).toNat:Int)
theorem amv:cB P .and t xo yo (.int k a) (.int k b)=eL (.int k (Dc k a b)):=tU (v:=.int k (Dc k a b)) (by simp only[binOp,ne_eq,not_true,iC];rfl)
theorem amw:cB P .or t xo yo (.int k a) (.int k b)=eL (.int k (wJ k a b)):=tU (v:=.int k (wJ k a b)) (by simp only[binOp,ne_eq,not_true,iC];rfl)
theorem amx:cB P .xor t xo yo (.int k a) (.int k b)=eL (.int k (tV k a b)):=tU (v:=.int k (tV k a b)) (by simp only[binOp,ne_eq,not_true,iC];rfl)
theorem amy:cB P .andNot t xo yo (.int k a) (.int k b)=eL (.int k (JN k a b)):=tU (v:=.int k (JN k a b)) (by simp only[binOp,ne_eq,not_true,iC];rfl)
theorem amz{b:Bool}:zD P .not (.bool b)=eL (.bool (!b)):=nr rfl
theorem amA:zD P .neg (.int k a)=eL (.int k (k.wrap (0-a))):=nr rfl
def mE(P:aPf)(t:aPg):Option aPh:=match P.underlying t with|some (.int k)=>eL k|_=>eN
theorem mF{i j:aPg}{h:I}{z m:aPh}(q:mE P i=eL z)(s:mE P j=eL m):oc P i j (.int k a) h=eL (.int m (m.wrap a)):=by
 have A:P.underlying i=eL (.int z):=by
  unfold mE at q;split at q
  .rename_i u;simp at q;subst q;exact u
  .cases q
 have B:P.underlying j=eL (.int m):=by
  unfold mE at s;split at s
  .rename_i u;simp at s;subst s;exact u
  .cases s
 unfold oc;have e:(oT (.int k a)).bind (λx=>eu P (convert i j x))=eL (.int m (m.wrap a)):=by
  show eu P (convert i j (.int k a))=_;unfold convert;rw[lY,zL A,azm,lY,zL B];rfl
 rw[e];rfl
def JO(P:aPf)(t:aPg):Bool:=match P.underlying t with|some .bool=>e6|_=>fr
theorem amB{t:aPg}(h:JO P t=e6):P.underlying t=eL .bool:=by
 unfold JO at h;split at h
 .assumption
 .cases h
theorem aaK{t:aPg}(i:JO P t=e6)(x y:Bool):eu P (Op.equal t (.bool x) (.bool y))=eL (x==y):=by
 unfold Op.equal Op.maxDepth Op.equalIn;rw[lY,zL (amB i)];rfl
theorem amC{x y:Bool}(i:JO P t=e6):cB P .eql t xo yo (.bool x) (.bool y)=eL (.bool (x==y)):=by
 refine Lk (v:=.bool (x==y)) rfl rfl rfl ?_;show eu P (do pure (aPi.bool (<-Op.equal t (.bool x) (.bool y))))=_;rw[lY,aaK i];rfl
theorem amD{x y:Bool}(i:JO P t=e6):cB P .neq t xo yo (.bool x) (.bool y)=eL (.bool (x !=y)):=by
 refine Lk (v:=.bool (x !=y)) rfl rfl rfl ?_;show eu P (do pure (aPi.bool (!(<-Op.equal t (.bool x) (.bool y)))))=_;rw[lY,aaK i];rfl
end
def eJ(P:aPf)(t:aPg):Option Nat:=(P.underlying t).bind yV
section
variable {P:aPf} {t:aPg} {xo yo:aPk} {x y:V} {k:Nat}
theorem Er(h:eJ P t=eL k):∃d,P.underlying t=eL d/\yV d=eL k:=by
 unfold eJ at h;cases a:P.underlying t with
 | none=>simp[a]at h
 | some d=>simp[a]at h;exact⟨d,rfl,h⟩
theorem ip(h:eJ P t=eL k)(j:pd x=eN\/pd y=eN)(m:(Ee x=eL k/\C4 y=eL k)\/(C4 x=eL k/\Ee y=eL k)):cB P .eql t xo yo x y=eL (.bool fr):=by
 obtain⟨d,q,s⟩:=Er h;have aW:Ef d x y=true:=by
  unfold Ef;rw[s];rcases m with⟨a,i⟩|⟨a,i⟩<;>simp[a,i]
 unfold cB;split
 .rename_i a i;rw[a,i]at j;simp at j
 .rw[q];simp only[aW,jS]
theorem amE(h:eJ P t=eL k)(j:pd x=eN\/pd y=eN)(m:(Ee x=eL k/\C4 y=eL k)\/(C4 x=eL k/\Ee y=eL k)):cB P .neq t xo yo x y=eL (.bool e6):=by
 obtain⟨d,q,s⟩:=Er h;have aW:Ef d x y=true:=by
  unfold Ef;rw[s];rcases m with⟨a,i⟩|⟨a,i⟩<;>simp[a,i]
 unfold cB;split
 .rename_i a i;rw[a,i]at j;simp at j
 .rw[q];simp only[aW,jS]
theorem aaL{i o:Nat}(h:eJ P t=eL 0):cB P .eql t xo yo (.ptr i o) .dA=eL (.bool fr):=ip h (.inl rfl) (.inr ⟨rfl,rfl⟩)
theorem amF{i o:Nat}(h:eJ P t=eL 0):cB P .neq t xo yo (.ptr i o) .dA=eL (.bool e6):=amE h (.inl rfl) (.inr ⟨rfl,rfl⟩)
theorem amG(h:eJ P t=eL 0):eu P (Op.equal t (.pointer eN) (.pointer eN))=eL true:=by
 obtain⟨d,a,i⟩:=Er h;unfold Op.equal Op.maxDepth Op.equalIn;rw[lY,zL a];cases d<;>simp[yV]at i;rfl
theorem amH(h:eJ P t=eL 0):cB P .eql t xo yo .dA .dA=eL (.bool e6):=by
 refine Lk (v:=.bool e6) rfl rfl rfl ?_;show eu P (do pure (aPi.bool (<-Op.equal t (.pointer eN) (.pointer eN))))=_;rw[lY,amG h];rfl
end
theorem amI{k:aPh}{n:Int}:(kA k n).cells=eL [.int k n]:=nr rfl
theorem amJ{b:Bool}:(V.bool b).cells=eL [.bool b]:=nr rfl
theorem amK:V.ah.cells=eL [.ah]:=nr rfl
theorem amL{i o:Nat}:(V.ptr i o).cells=eL [.ptr i o]:=nr rfl
theorem amM{i o n m:Nat}:(V.bh i o n m).cells=eL [.bh i o n m]:=nr rfl
theorem amN{n:Nat}{a:List V}:(V.ag n a).cells=eL [.ag n a]:=nr rfl
theorem amO{i:Nat}:(V.map i).cells=eL [.map i]:=nr rfl
theorem amP{t:aPg}{v:V}:(V.iface t v).cells=eL [.iface t v]:=nr rfl
theorem amQ{a:List V}:(kB a).cells=eL a:=nr rfl
theorem QE{k:aPh}{n:Int}:(kA k n).one=true:=nr rfl
theorem amR{b:Bool}:(V.bool b).one=true:=nr rfl
theorem amS:V.ah.one=true:=nr rfl
theorem amT{i o n m:Nat}:(V.bh i o n m).one=true:=nr rfl
theorem amU{n:Nat}{a:List V}:(V.ag n a).one=true:=nr rfl
theorem amV{i:Nat}:(V.map i).one=true:=nr rfl
theorem all_nil:([]:List V).all (·.one)=true:=nr rfl
theorem all_cons{v:V}{l:List V}:(v::l).all (·.one)=(v.one&&l.all (·.one)):=nr rfl
section
variable {P:aPf} {t tx e:aPg} {x y v:V} {h:I} {k:Nat}
def dk(P:aPf)(s:aPg)(k:Nat):Option Nat :=
 match P.underlying s with
 | some (.struct a)=>match a[k]? with
  | some f=>match cO P f.type with
   | some (_+1)=>eL f.offset
   | _=>eN
  | none=>eN
 | _=>eN
def JP(off:Option Nat)(x:V):Option V :=
 match off,x with
 | some off,.ptr i o=>eL (.ptr i (o+off))
 | some off,.at a=>if off<=a.length then eL (.at (a.drop off))else eN
 | _,_=>eN
theorem amW:F8 P t x k=JP (dk P t k) x:=by
 unfold F8 dk;cases P.underlying t with
 | none=>rfl
 | some d=>
  cases d<;>try rfl
  rename_i a;simp only;cases a[k]? with
  | none=>rfl
  | some f=>
   simp only;cases cO P f.type with
   | none=>rfl
   | some n=>cases n<;>simp only[JP]<;>cases x<;>rfl
theorem amX{i o off:Nat}:JP (eL off) (.ptr i o)=eL (.ptr i (o+off)):=nr rfl
theorem amY{a:List V}{off:Nat}:JP (eL off) (.at a)=if off<=a.length then eL (.at (a.drop off))else none:=nr rfl
def loadT(P:aPf)(t:aPg):Option (Option Nat) :=
 match ox P t,cO P t with
 | some e6,eL n=>eL (eL n)
 | some fr,eL _=>eL eN
 | _,_=>eN
def cw(ty:Option (Option Nat))(p:Option (List V)):Option V :=
 match ty,p with
 | some (eL n),eL a=>if n<=a.length then eL (.agg (a.take n))else eN
 | some eN,eL (v::_)=>eL v
 | _,_=>eN
theorem aaM:zw P t x h=cw (loadT P t) (tp h x):=by
 unfold zw loadT;cases tp h x with
 | none=>cases ox P t with
  | none=>rfl
  | some b=>cases b<;>cases cO P t<;>rfl
 | some a=>cases ox P t with
  | none=>cases a<;>rfl
  | some b=>cases b<;>cases cO P t<;>cases a<;>rfl
theorem amZ{v:V}{r:List V}:cw (eL eN) (eL (v::r))=eL v:=nr rfl
theorem aaN{n:Nat}{a:List V}:cw (eL (eL n)) (eL a)=if n<=a.length then eL (.agg (a.take n))else none:=nr rfl
def cI(o:aP)(n:Nat):Option (List V):=match o with | .cells c _ _=>if n<=c.length then eL (c.drop n)else eN|_=>eN
theorem am0{i o:Nat}:tp h (.ptr i o)=cI (h.get i) o:=by
 simp only[tp,cI];cases h.get i<;>rfl
theorem am1{a:List V}:tp h (.at a)=eL a:=nr rfl
theorem i9{c:List V}{e:aPg}{a:Option Nat}{n:Nat}:cI (.cells c e a) n=if n<=c.length then eL (c.drop n)else none:=nr rfl
def bD(n:Option Nat)(ob:aP)(o:Nat)(a:List V):Option aP :=
 match n,ob with
 | some n,.cells c e i=>if a.length=n/\a.all (·.one)=e6/\o+n<=c.length then eL (.cells (lay c o a) e i)else eN
 | _,_=>eN
def Vg(n:Option Nat)(x:V)(a:Option (List V))(h:I):Option I :=
 match x,a with
 | .ptr i o,eL a=>(bD n (h.get i) o a).map λj=>h.set i j
 | _,_=>eN
theorem am2:Jw P t x v h=Vg (cO P t) x v.cells h:=by
 unfold Jw Vg;cases x<;>try rfl
 rename_i i o;cases v.cells with
 | none=>rfl
 | some a=>
  simp only[bD];cases h.get i<;>cases cO P t<;>simp;rename_i c e j n;by_cases U:a.length=n
  .subst U;split<;>rfl
  .simp[U]
theorem am3{i o:Nat}{n:Option Nat}{a:List V}:Vg n (.ptr i o) (eL a) h=(bD n (h.get i) o a).map λob=>h.set i ob:=nr rfl
theorem am4(c:List V)(o:Nat)(v:V)(a:o<c.length):lay c o [v]=c.set o v:=by
 unfold lay;rw[aAY,gr a];simp
theorem am5(v:V)(i c:List V)(o:Nat)(m:o+(i.length+1)<=c.length):lay c o (v::i)=lay (c.set o v) (o+1) i:=by
 have j:o<c.length:=by omega
 have aw:c.set o v=c.take o++v::c.drop (o+1):=by rw[aAY,gr j]
 have a:(c.take o).length=o:=by simp;omega
 unfold lay;rw[aw];have az:(c.take o++v::c.drop (o+1)).take (o+1)=c.take o++[v]:=by
  rw[List.take_append,a,ajE (by omega),show o+1-o=1 by omega];rfl
 have bd:(c.take o++v::c.drop (o+1)).drop (o+1+i.length)=c.drop (o+(i.length+1)):=by
  rw[List.drop_append,a,List.drop_eq_nil_of_le (by omega),show o+1+i.length-o=i.length+1 by omega];rw[List.drop_succ_cons,List.drop_drop,List.nil_append]
  congr 1
  omega
 rw[az,bd];simp
theorem Vh:∀(a c:List V) (o:Nat),o+a.length<=c.length->lay c o a=tL c o a
 | [],c,o,_=>by simp[lay,tL]
 | v::a,c,o,i=>by
  have j:o+(a.length+1)<=c.length:=by simpa using i
  unfold tL;rw[am5 v a c o j,Vh a (c.set o v) (o+1) (by simp;omega)]
theorem rb{c:List V}{e:aPg}{i:Option Nat}{o:Nat}(j:v.one=e6):bD (eL 1) (.cells c e i) o [v]=if o<c.length then eL (.cells (c.set o v) e i)else none:=by
 simp only[bD,axF,ayx,all_cons,all_nil,j,Bool.and_self,true_and];by_cases a:o<c.length
 .have:(0+1=1/\o+1<=c.length):=⟨rfl,a⟩;rw[gr a];simp[this.2,am4 _ _ _ a]
 .rw[gQ a];simp;omega
theorem u0{c vs:List V}{e:aPg}{i:Option Nat}{o n:Nat}(j:vs.length=n)(m:vs.all (·.one)=e6):bD (eL n) (.cells c e i) o vs=if o+n<=c.length then eL (.cells (tL c o vs) e i)else none:=by
 simp only[bD,j,m,true_and];by_cases a:o+n<=c.length
 .rw[gr a,gr a,Vh _ _ _ (by omega)]
 .rw[gQ a,gQ a]
theorem am6{c:List V}{o:Nat}:tL c o []=c:=nr rfl
theorem am7{c r:List V}{o:Nat}:tL c o (v::r)=tL (c.set o v) (o+1) r:=nr rfl
theorem GE:Jy P e h=(hA P e).map λzs=>(.ptr h.n 0,h.push (.cells zs e eN)):=by
 unfold Jy;cases hA P e<;>rfl
theorem am8:xF e x h=x.cells.map λa=>(.ptr h.n 0,h.push (.cells a e eN)):=by
 unfold xF;cases x.cells<;>rfl
def dU(P:aPf)(t:aPg):Option Nat:=match P.underlying t with|some (.slice e)=>cO P e|_=>eN
def sy(P:aPf)(t:aPg):Option (Nat×Nat):=match P.underlying t with|some (.array n e)=>(cO P e).map λs=>(n,s)|_=>eN
def p3(m:Option Nat)(q:Option (Nat×Nat))(x:V)(n:Int):Option V :=
 match m,q,x with
 | some sz,_,.bh i o a _=>if 0<=n/\n<a then eL (.ptr i (o+n.toNat*sz))else eN
 | some sz,_,.ag a j=>if 0<=n/\n<a/\n.toNat*sz<=j.length then eL (.at (j.drop (n.toNat*sz)))else eN
 | _,eL (a,sz),.ptr i o=>if 0<=n/\n<a then eL (.ptr i (o+n.toNat*sz))else eN
 | _,eL (a,sz),.at j=>if 0<=n/\n<a/\n.toNat*sz<=j.length then eL (.at (j.drop (n.toNat*sz)))else eN
 | _,_,_=>eN
theorem Es{kk:aPh}{n:Int}:hC P t x (.int kk n)=p3 (dU P t) (sy P t) x n:=by
 unfold hC dU sy;cases P.underlying t with
 | none=>rfl
 | some d=>
  cases d<;>try rfl
  .rename_i e;simp only;cases a:cO P e with
   | none=>cases x<;>simp[p3,a]
   | some sz=>cases x<;>simp[p3,a]
  .rename_i i e;simp only;cases a:cO P e with
   | none=>cases x<;>simp[p3,a]
   | some sz=>cases x<;>simp[p3,a]
theorem Vi{i o len cap sz:Nat}{a:Option (Nat×Nat)}{n:Int}:p3 (eL sz) a (.bh i o len cap) n=if 0<=n/\n<len then eL (.ptr i (o+n.toNat*sz))else none:=nr rfl
theorem aaO{len sz:Nat}{a:List V}{i:Option (Nat×Nat)}{n:Int}:p3 (eL sz) i (.ag len a) n=if 0<=n/\n<len/\n.toNat*sz<=a.length then eL (.at (a.drop (n.toNat*sz)))else none:=nr rfl
theorem am9{len sz:Nat}{a:List V}{n:Int}:p3 eN (eL (len,sz)) (.at a) n=if 0<=n/\n<len/\n.toNat*sz<=a.length then eL (.at (a.drop (n.toNat*sz)))else none:=nr rfl
def aaP(a:Option Nat)(x:V)(h:I):Option V :=
 match a,x with
 | some 1,.bh _ _ n _=>eL (.int gj n)
 | some 1,.ag n _=>eL (.int gj n)
 | some 1,.ah=>eL (.int gj 0)
 | some 1,.z0=>eL (.int gj 0)
 | some 2,.fK=>eL (.int gj 0)
 | some 2,.map i=>match h.get i with
  | .map j _=>eL (.int gj j.length)
  | _=>eN
 | _,_=>eN
theorem Ln{a:Nat}(j:eJ P t=eL a)(m:a=1\/a=2):dX P t x h=aaP (eL a) x h:=by
 obtain⟨d,q,i⟩:=Er j;unfold dX;rw[q];cases d<;>simp[yV]at i<;>subst i<;>simp at m
 all_goals cases x<;>try rfl
theorem zM(a:eJ P t=eL 1){i o n c:Nat}:dX P t (.bh i o n c) h=eL (.int gj n):=Ln a (.inl rfl)
theorem aaQ(a:eJ P t=eL 1){n:Nat}{i:List V}:dX P t (.ag n i) h=eL (.int gj n):=Ln a (.inl rfl)
theorem yY(a:eJ P t=eL 1):dX P t .ah h=eL (.int gj 0):=Ln a (.inl rfl)
theorem zN(a:eJ P t=eL 1):dX P t .z0 h=eL (.int gj 0):=Ln a (.inl rfl)
theorem Vj(j:eJ P t=eL 2){i:Nat}{a:List (Nat×V×V)}{c:Nat}(m:h.get i=.map a c):dX P t (.map i) h=eL (.int gj a.length):=by
 rw[Ln j (.inr rfl)];simp[aaP,m]
structure mi where
 e:aPg
 zs:List V
 sz:Nat
 av:Nat
def gM(P:aPf)(t:aPg):Option mi :=
 match wA P t with
 | none=>eN
 | some e=>match hA P e,cO P e,Ju P e with
  | some zs,eL sz,eL a=>if zs.length=sz then eL ⟨e,zs,sz,a⟩else eN
  | _,_,_=>eN
theorem tr{T:mi}(a:gM P t=eL T):wA P t=eL T.e/\hA P T.e=eL T.zs/\cO P T.e=eL T.sz/\Ju P T.e=eL T.av/\T.zs.length=T.sz/\P.underlying t=eL (.slice T.e):=by
 unfold gM at a;split at a
 .cases a
 .rename_i e i;split at a
  .rename_i zs sz z j m q;split at a
   .rename_i s;simp at a;subst a;refine⟨i,j,m,q,s,?_⟩;unfold wA at i;split at i
    .rename_i u;rw[u];simpa using i
    .cases i
   .cases a
  .cases a
end
structure J(h h':I)(own:Nat->Prop):Prop where
 n:h.n<=h'.n
 get:∀j,j<h.n->¬own j->h'.get j=h.get j
 glob:h'.glob=h.glob
def kR:Nat->Prop:=λ_=>False
theorem J.refl(h:I)(own:Nat->Prop):J h h own:=⟨BY _,λ_ _ _=>rfl,rfl⟩
theorem J.trans{h s u:I}{o z:Nat->Prop}(a:J h s o)(b:J s u z)(B:∀k,k<h.n->z k->o k):J h u o :=
 ⟨UN a.n b.n,λj i A=>(b.get j (IS i a.n) λaw=>A (B j i aw)).trans (a.get j i A),b.glob.trans a.glob⟩
theorem J.trans'{h i j:I}{o:Nat->Prop}(a:J h i o)(b:J i j o):J h j o:=a.trans b λ_ _ h=>h
theorem J.mono{h h':I}{o o':Nat->Prop}(a:J h h' o)(i:∀k,o k->o' k):J h h' o':=⟨a.n,λj s u=>a.get j s λaw=>u (i j aw),a.glob⟩
theorem J.up{h h':I}{o:Nat->Prop}(a:J h h' kR):J h h' o:=a.mono λ_ h=>h.elim
theorem J.push(h:I)(o:aP)(own:Nat->Prop):J h (h.push o) own:=⟨by simp[I.push],λj i _=>by simp[I.push,show j≠h.n by omega],rfl⟩
theorem J.set(h:I)(i:Nat)(o:aP):J h (h.set i o) (·=i):=⟨BY _,λj u s=>by simp[I.set];intro U;exact absurd U s,rfl⟩
theorem J.kj{s h:I}{own:Nat->Prop}(k:J s h own){i:Nat}(hi:s.n<=i)(o:aP):J s (h.set i o) own :=
 k.trans (J.set h i o) λj u aw=>by omega
theorem J.bp{i h:I}{own:Nat->Prop}(k:J i h own)(o:aP):J i (h.push o) own:=k.trans' (J.push h o own)
def aS:V->Option Nat
 | .bh i _ _ _=>eL i
 | _=>eN
def bb(v:V):Nat->Prop:=λk=>aS v=eL k
def Own(h:I)(e:aPg)(sz:Nat)(v:V)(j:List V):Prop :=
 ((v=.ah\/v=.z0)/\j=[]) \/
 ∃i a cap c m,v=.bh i 0 a cap/\i<h.n/\h.get i=.cells c e m/\j.length=a*sz/\c.take (a*sz)=j /\
  ((cap<b9/\cap*sz<=c.length/\a<=cap)\/(cap=b9/\m=eL sz))
theorem Own.ah(h:I)(e:aPg)(sz:Nat):Own h e sz .ah []:=.inl ⟨.inl rfl,rfl⟩
theorem Own.ai{h h':I}{e:aPg}{sz:Nat}{v:V}{s:List V}{own:Nat->Prop}(j:Own h e sz v s)(u:J h h' own)(z:∀k,aS v=eL k->¬own k):Own h' e sz v s:=by
 rcases j with j|⟨i,len,cap,c,A,rfl,hi,B,rest⟩
 .exact .inl j
 .exact .inr ⟨i,len,cap,c,A,rfl,IS hi u.n,(u.get i hi (z i rfl)).trans B,rest⟩
theorem Own.aY{h h':I}{e:aPg}{sz:Nat}{v:V}{i:List V}(j:Own h e sz v i)(s:J h h' kR):Own h' e sz v i:=j.ai s λ_ _ h=>h
theorem Own.lt{h:I}{e:aPg}{sz:Nat}{v:V}{s:List V}(u:Own h e sz v s):∀k,aS v=eL k->k<h.n:=by
 intro k j;rcases u with⟨rfl|rfl,_⟩|⟨i,len,cap,c,z,rfl,hi,_⟩
 .simp[aS]at j
 .simp[aS]at j
 .simp[aS]at j;omega
theorem Own.fresh{h:I}{e:aPg}{sz:Nat}(c:List V)(len cap:Nat)(aw:c.length=cap*sz)(i:len<=cap)(j:cap<b9) :
  Own (h.push (.cells c e eN)) e sz (.bh h.n 0 len cap) (c.take (len*sz)) :=
 .inr ⟨h.n,len,cap,c,eN,rfl,by simp[I.push],by simp[I.push],by rw[ajB,aw];exact Nat.min_eq_left (ay6 _ i),rfl,.inl ⟨j,by omega,i⟩⟩
theorem Own.grown{h:I}{e:aPg}{sz i len:Nat}{j:List V}(hi:i<h.n)(u:h.get i=.cells j e (eL sz))(s:j.length=len*sz) :
  Own h e sz (.bh i 0 len b9) j :=
 .inr ⟨i,len,b9,j,eL sz,rfl,hi,u,s,by rw[<-s];exact List.take_length,.inr ⟨rfl,rfl⟩⟩
def b6(h:I)(a b:V):Prop:=aS b=aS a\/∀k,aS b=eL k->h.n<=k
theorem aaR{P:aPf}{t tx:aPg}{T:mi}(Z:gM P t=eL T)(N:0<T.sz)
  {h:I} {s x:V} {z:List V} (aU:Own h T.e T.sz s z) {n:Nat} {a:List V} (di:gS P T.sz tx x h=eL (n,a)) (u:a.length=n*T.sz)
  (D:(z.length+a.length)*T.av<=lim) (O:z.length+a.length<=lim) :
  ∃v h',kd P t tx s x h=eL (v,h')/\Own h' T.e T.sz v (z++a)/\J h h' (bb s)/\b6 h s v:=by
 obtain⟨he,bP,bq,iF,fG,_⟩:=tr Z;unfold kd;simp only[he,bP,bq,iF,fG,jS,di];have start:∀s:V,(s=.ah\/s=.z0)->z=[]->∃v h',(if n=0 then eL (s,h)else if n*T.av<=lim/\n<=lim then eL (.bh h.n 0 n b9,h.push (.cells a T.e (eL T.sz)))else eN)=eL (v,h')/\Own h' T.e T.sz v (z++a)/\J h h' (bb s)/\b6 h s v:=λs aa E=>by
  subst E;by_cases A:n=0
  .subst A;have:a=[]:=azo (by simpa using u);subst this;exact⟨s,h,by simp,.inl ⟨aa,rfl⟩,J.refl _ _,.inl rfl⟩
  .have Q:n<=a.length:=(by rw[u];exact aCZ n N);have G:n*T.av<=lim:=UN (ay6 T.av (by omega)) D;have H:n<=lim:=(by omega);exact⟨.bh h.n 0 n b9,h.push (.cells a T.e (eL T.sz)),by simp[A,G,H],Own.grown (by simp[I.push]) (by simp[I.push]) (by simpa using u),J.push _ _ _,.inr λk B=>by simp[aS]at B;omega⟩
 rcases aU with⟨rfl|rfl,E⟩|⟨i,m,cap,c,R,rfl,hi,S,q,C,W⟩
 .exact start _ (.inl rfl) E
 .exact start _ (.inr rfl) E
 .by_cases A:n=0
  .subst A;have:a=[]:=azo (by simpa using u);subst this;exact⟨.bh i 0 m cap,h,by simp,by rw[List.append_nil];exact .inr ⟨i,m,cap,c,R,rfl,hi,S,q,C,W⟩,J.refl _ _,.inl rfl⟩
  .have Q:m+n<=z.length+a.length:=by
    rw[u,q,<-ayC];exact aCZ _ N
   have G:(m+n)*T.av<=lim:=UN (ay6 T.av Q) D;have H:m+n<=lim:=by omega
   have c9:m*T.sz<=c.length:=by
    have:=iy azl C;rw[ajB,q]at this;omega
   simp only[A,G,H,and_self,jS,iC,S];rcases W with⟨X,Y,ab⟩|⟨rfl,rfl⟩
   .simp only[X,jS];by_cases F:m+n<=cap
    .have ga:0+(m+n)*T.sz<=c.length:=(by rw[ayB];exact UN (ay6 _ F) Y);have hll:(lay c (m*T.sz) a).length=c.length:=q9 _ _ _ (by rw[u,<-ayC];omega);simp only[F,jS,ga];refine⟨_,_,rfl,.inr ⟨i,m+n,cap,lay c (0+m*T.sz) a,R,rfl,hi,by simp[I.set],by simp[q,u,ayC],?_,.inl ⟨X,?_,F⟩⟩,⟨BY _,λj aV L=>?_,rfl⟩,.inl rfl⟩
     .simp only[ayB,lay,C,ayC,<-u];have:(z++a).length=m*T.sz+a.length:=by simp[q]
      rw[<-this];exact List.take_left
     .rw[ayB,hll];exact Y
     .simp only[I.set];rw[gQ (by intro M;subst M;simp[bb,aS]at L)]
    .simp only[F,iC];have Dd:0+m*T.sz<=c.length:=by omega
     simp only[Dd,jS,azw,C];exact⟨_,_,rfl,Own.grown (by simp[I.push]) (by simp[I.push]) (by simp[q,u,ayC]),J.push _ _ _,.inr λk B=>by simp[aS]at B;omega⟩
   .simp only[Nat.lt_irrefl,iC,true_and,c9,and_self,jS];refine⟨_,_,rfl,Own.grown (by simp[I.push,I.set]) (by simp[I.push,I.set,C]) (by simp[q,u,ayC]),⟨by simp[I.push,I.set],λj aV L=>?_,rfl⟩,.inr λk B=>by simp[aS]at B;omega⟩;have D:j≠i:=(by intro M;subst M;simp[bb,aS]at L);have O:j≠h.n:=(by omega);simp[I.push,I.set,D,O]
theorem JQ{P:aPf}{t:aPg}{h:I}{sz n:Nat}{a:List V}(i:eJ P t=eL 1)(j:a.length=n*sz)(m:a.all (·.one)=e6):gS P sz t (.ag n a) h=eL (n,a):=by
 obtain⟨d,q,s⟩:=Er i;cases d<;>simp[yV]at s;simp only[gS,q];rw[gr ⟨j,m⟩]
theorem ana{α:Type}(z:List α):made z 1=z:=by simp[made]
theorem anb:∀(a c:List V),a.length=c.length->tL c 0 a=a:=by
 intro a c i;rw[<-Vh a c 0 (by omega)];unfold lay;simp[i]
theorem QF{P:aPf}{t:aPg}{T:mi}(i:gM P t=eL T){x:V}{a:List V}(j:x.cells=eL a)(m:a.length=T.sz)(z:T.sz<=16777216){h:I} :
  am P t 1 [(0,x)] h=eL (.bh h.n 0 1 1,h.push (.cells a T.e eN)):=by
 obtain⟨q,s,bq,A,u,_⟩:=tr i;unfold am;simp only[q,bq,s,u,ana,aAv];rw[gr ⟨trivial,by omega,by omega⟩];simp only[rS,j,Nat.zero_mul,ayB];rw[gr ⟨m,by omega⟩,anb _ _ (by omega)]
theorem QG{P:aPf}{t:aPg}{T:mi}(i:gM P t=eL T)(q:0<T.sz)
  {h:I} {s:V} {a xs:List V} (u:Own h T.e T.sz s a) (j:xs.length=T.sz) (z:xs.all (·.one)=e6)
  (A:(a.length+T.sz)*T.av<=lim) (B:a.length+T.sz<=lim) :
  ∃v h',kd P t t s (.bh h.n 0 1 1) (h.push (.cells xs T.e eN))=eL (v,h')/\Own h' T.e T.sz v (a++xs)/\J h h' (bb s)/\b6 h s v:=by
 obtain⟨L,M,bq,N,O,C⟩:=tr i;have m:=J.push h (.cells xs T.e eN) kR;have D:gS P T.sz t (.bh h.n 0 1 1) (h.push (.cells xs T.e eN))=eL (1,xs):=by
  simp only[gS,C,I.push,jS,aAv,ayB,azw];rw[ajE (by omega),gr ⟨by omega,z⟩]
 obtain⟨v,h',aW,E,F,G⟩:=aaR (tx:=t) i q (u.aY m) D (by omega) (by rw[j];exact A) (by rw[j];exact B);refine⟨v,h',aW,E,(m.up).trans' F,G.imp id λU k H=>?_⟩;have:=U k H;simp[I.push]at this;omega
structure Acc(aG h:I)(e:aPg)(sz:Nat)(v:V)(cs:List V):Prop where
 own:Own h e sz v cs
 ai:J aG h kR
 new:∀k,aS v=eL k->aG.n<=k
theorem Acc.nil{i h:I}{e:aPg}{sz:Nat}(k:J i h kR):Acc i h e sz .ah []:=⟨Own.ah _ _ _,k,by simp[aS]⟩
theorem Acc.elem{P:aPf}{t:aPg}{T:mi}(A:gM P t=eL T){z h:I}{s:V}{j xs:List V}(a:Acc z h T.e T.sz s j)(B:0<T.sz)(C:xs.length=T.sz)(D:xs.all (·.one)=e6)
  (E:(j.length+T.sz)*T.av<=lim) (F:j.length+T.sz<=lim) :
  ∃v h',kd P t t s (.bh h.n 0 1 1) (h.push (.cells xs T.e eN))=eL (v,h')/\Acc z h' T.e T.sz v (j++xs):=by
 obtain⟨v,h',aW,G,H,i⟩:=QG A B a.own C D E F;refine⟨v,h',aW,G,a.ai.trans H λk u aw=>?_,λk u=>?_⟩
 .have:=a.new k aw;omega
 .rcases i with i|i
  .exact a.new k (i▸u)
  .exact UN a.ai.n (i k u)
theorem Acc.app{P:aPf}{t tx:aPg}{T:mi}(B:gM P t=eL T){A h:I}{s x:V}{u i:List V}(a:Acc A h T.e T.sz s u)(C:0<T.sz){n:Nat}(D:gS P T.sz tx x h=eL (n,i))(E:i.length=n*T.sz)
  (F:(u.length+i.length)*T.av<=lim) (G:u.length+i.length<=lim) :
  ∃v h',kd P t tx s x h=eL (v,h')/\Acc A h' T.e T.sz v (u++i):=by
 obtain⟨v,h',aW,H,L,j⟩:=aaR B C a.own D E F G;refine⟨v,h',aW,H,a.ai.trans L λk z aw=>?_,λk z=>?_⟩
 .have:=a.new k aw;omega
 .rcases j with j|j
  .exact a.new k (j▸z)
  .exact UN a.ai.n (j k z)
theorem Own.length{h:I}{e:aPg}{v:V}{u:List V}{sz:Nat}(z:Own h e sz v u)(bq:0<sz)(P:aPf){t:aPg}(s:eJ P t=eL 1):dX P t v h=eL (.int gj (u.length / sz:Nat)):=by
 rcases z with⟨rfl|rfl,rfl⟩|⟨i,len,cap,c,A,rfl,hi,B,j,_⟩
 .rw[yY s];simp
 .rw[zN s];simp
 .rw[zM s,j,Nat.mul_div_cancel _ bq]
theorem aK.refl(r:V)(h:I):aK r h r h:=fun ρ B s w u i j=>⟨ρ,Ren.le.refl ρ,i,j⟩
theorem aK.trans{r db ea:V}{h i j:I}(a:aK r h db i)(b:aK db i ea j):aK r h ea j:=fun ρ B s w u z A=>
 let ⟨ρ1,C,D,E⟩:=a ρ B s w u z A
 let ⟨ρ2,F,G,H⟩:=b ρ1 B s w u D E
 ⟨ρ2,C.trans F,G,H⟩
theorem aK.own{h:I}{e:aPg}{sz:Nat}{v:V}{cs:List V}(N:Own h e sz v cs){n:Nat}(G:cs.length=n*sz)(bq:0<sz):∃A,aK v h (.ag n cs) A/\J h A (bb v):=by
 rcases N with⟨rfl|rfl,rfl⟩|⟨i,len,cap,c,Z,rfl,hi,O,j,H,dF⟩
 .have C:n=0:=by
   have:n*sz=0:=by simpa using G.symm
   rcases aAs.1 this with h|h<;>omega
  subst C;refine⟨h,fun ρ B L w M s u=>⟨ρ,Ren.le.refl ρ,s,?_⟩,J.refl _ _⟩;cases u;exact .kC eN 0 (by simp)
 .have C:n=0:=by
   have:n*sz=0:=by simpa using G.symm
   rcases aAs.1 this with h|h<;>omega
  subst C;exact⟨h,fun ρ B L w M s u=>by
   cases u with
   | z0 a aW=>exact⟨ρ,Ren.le.refl ρ,s,.kC a 0 (by simp)⟩,J.refl _ _⟩
 .have Q:n=len:=by
   have:n*sz=len*sz:=by omega
   exact Nat.eq_of_mul_eq_mul_right bq this
  subst Q;refine⟨h.set i .dead,fun ρ B L w M s u=>?_,(J.set h i .dead).mono λk D=>by subst D;rfl⟩;obtain⟨ρ',z,R,b,bI,arr,S,T,aw,W⟩:=s.freeze O;obtain⟨ck,kP,E,X,rfl⟩:=u.hB;rw[S]at E;simp at E;obtain⟨rfl,rfl⟩:=E;have c9:n*sz<=c.length:=by
   have:=iy azl H;rw[ajB,j]at this;omega
  refine⟨ρ',z,R,.ag 0 n _ T X (by rw[j];omega) λk v Y F A=>?_⟩;have D:k<n*sz:=by rw[<-j];exact(axB.1 F).1
  rw[<-H,ay7,gr D]at F;refine(W.2 k v Y F ?_).mono z;rw[ay7,gr (by omega),azq];simpa using A
def aE(l:List V)(h:I)(j:List V)(m:I):Prop :=
 ∀(ρ:Ren) (B:Nat) (a w:aPj) (i:List aPi),a8 ρ B a h w->bj ρ l i->∃ ρ',ρ.le ρ'/\a8 ρ' B a m w/\bj ρ' j i
theorem aE.refl(l:List V)(h:I):aE l h l h:=fun ρ B s w u i j=>⟨ρ,Ren.le.refl ρ,i,j⟩
theorem aE.cons{v j:V}{l i:List V}{h s u:I}(a:aK v h j s)(b:aE l s i u):aE (v::l) h (j::i) u:=fun ρ B z w O C D=>by
 obtain⟨E,F,rfl,G,H⟩:=D.eM;obtain⟨ρ1,A,L,M⟩:=a ρ B z w E C G;obtain⟨ρ2,i,N,j⟩:=b ρ1 B z w F L (H.mono A);exact⟨ρ2,A.trans i,N,.cons (M.mono i) j⟩
theorem aK.tuple{l i:List V}{h j:I}(a:aE l h i j):aK (.tuple l) h (.tuple i) j:=fun ρ B s w G u z=>by
 cases z with
 | tuple A C=>
  obtain⟨ρ1,D,E,F⟩:=a ρ B s w _ u (eV.list ⟨A,C⟩);exact⟨ρ1,D,E,F.lW.tuple⟩
def bf(v:V):Prop:=∀(ρ ρ':Ren) (i:aPi),aL ρ v i->(∀b a,ρ.frz b=eL a->ρ'.frz b=eL a)->aL ρ' v i
def bc(l:List V):Prop:=∀v∈l,bf v
theorem bc.nil:bc []:=by simp[bc]
theorem bc.cons{v:V}{l:List V}(h:bf v)(g:bc l):bc (v::l):=by
 intro x i;rcases IN.1 i with rfl|i
 .exact h
 .exact g x i
theorem bc.append{l m:List V}(h:bc l)(g:bc m):bc (l++m):=by
 intro x i;rcases axE.1 i with i|i
 .exact h x i
 .exact g x i
theorem bc.flatMap{α:Type}{f:α->List V}{l:List α}(h:∀x∈l,bc (f x)):bc (l.flatMap f):=by
 intro v i;obtain⟨x,j,i⟩:=List.mem_flatMap.1 i;exact h x j v i
theorem bc.map{α:Type}{f:α->V}{l:List α}(h:∀x∈l,bf (f x)):bc (l.map f):=by
 intro v i;obtain⟨x,j,rfl⟩:=OF.1 i;exact h x j
theorem bf.flat{v:V}{a:aPi}(h:oT v=eL a):bf v:=fun ρ ρ' s i _=>by
 have:=Bv i h;subst this;cases i<;>simp[oT]at h<;>first|(constructor;done)|skip
 rename_i xs u j z;cases xs with
 | nil=>exact .tuple j (by simp)
 | cons x t=>simp at h
theorem bf.int(k:aPh)(n:Int):bf (.int k n):=bf.flat rfl
theorem bf.bool(b:Bool):bf (.bool b):=bf.flat rfl
theorem bf.ag{n:Nat}{j:List V}(h:bc j):bf (.ag n j):=fun ρ ρ' i z s=>by
 rcases z.lF with⟨rfl,rfl,a,E,aW,rfl⟩|⟨b,o,cap,arr,an,A,B,C,rfl⟩
 .exact .kC a _ aW
 .exact .ag o n cap (s _ _ an) A B λk v i u D=>h v (azc u) ρ ρ' i (C k v i u D) s
theorem bf.agg{j:List V}(h:bc j):bf (.agg j):=fun ρ ρ' i u z=>by
 cases u with
 | agg A B=>exact .agg A λk v i s C=>h v (azc s) ρ ρ' i (B k v i s C) z
theorem bf.tuple{j:List V}(h:bc j):bf (.tuple j):=fun ρ ρ' i u z=>by
 cases u with
 | tuple A B=>exact .tuple A λk v i s C=>h v (azc s) ρ ρ' i (B k v i s C) z
theorem aL.join{ρ ρ':Ren}(A:ρ.le ρ'){v:V}{a:aPi}(h:aL ρ v a):∀{b:aPi},aL ρ' v b->aL ⟨ρ.ren,ρ'.frz,ρ.dfr⟩ v b:=by
 induction h with
 | ptr hi o=>
  intro b an;obtain⟨H,X,j,rfl⟩:=an.rO;rw[A.ren _ _ hi]at j;simp at j;obtain⟨rfl,rfl⟩:=j;exact aL.ptr (ρ:=⟨ρ.ren,ρ'.frz,ρ.dfr⟩) hi o
 | bh hi o len cap Y=>
  intro b an;obtain⟨H,X,j,iK,rfl⟩:=an.hB;rw[A.ren _ _ hi]at j;simp at j;obtain⟨rfl,rfl⟩:=j;exact aL.bh (ρ:=⟨ρ.ren,ρ'.frz,ρ.dfr⟩) hi o len cap Y
 | map hi=>
  intro b an;cases an with
  | map j=>
   rw[A.ren _ _ hi]at j;simp at j;obtain⟨rfl,rfl⟩:=j;exact .map hi
 | @ag Z o n cap arr M an aF aU L ih=>
  intro b N;rcases N.lF with⟨rfl,rfl,a,S,aW,rfl⟩|⟨H,B,O,T,C,Q,D,z,rfl⟩
  .exact .kC a _ aW
  .refine .ag B n O C Q D λk v s i u=>?_;have E:k<M.length:=(axB.1 i).1;exact ih k v _ i (ayZ (by omega)) (z k v s i u)
 | @«at» Z o arr M an aU L ih=>
  intro b N;obtain⟨H,B,T,C,D,z,rfl⟩:=N.zy;refine .at B C D λk v s i u=>?_;have E:k<M.length:=(axB.1 i).1;exact ih k v _ i (ayZ (by omega)) (z k v s i u)
 | func fn W bA L bg F UO=>
  intro b an;cases an with
  | func fn G Lp z R=>
   refine .func fn G Lp (λk v s i u=>?_) (λk v s i u=>?_)
   .have E:=(axB.1 i).1;exact F k v _ i (ayZ (by omega)) (z k v s i u)
   .have E:=(axB.1 i).1;exact UO k v _ i (ayZ (by omega)) (R k v s i u)
 | iface t h ih=>intro b an;cases an with|iface t g=>exact .iface t (ih g)
 | agg W L F=>
  intro b an;cases an with
  | agg G z=>
   refine .agg G λk v s i u=>?_;have E:=(axB.1 i).1;exact F k v _ i (ayZ (by omega)) (z k v s i u)
 | tuple W L F=>
  intro b an;cases an with
  | tuple G z=>
   refine .tuple G λk v s i u=>?_;have E:=(axB.1 i).1;exact F k v _ i (ayZ (by omega)) (z k v s i u)
 | kC a S aW=>
  intro b an;rcases an.lF with⟨_,_,a,S,aW,rfl⟩|⟨H,B,O,T,C,Q,D,z,rfl⟩
  .exact .kC a _ aW
  .exact .ag B 0 O C Q D (by simp)
 | z0 a aW=>intro b an;cases an with|z0 a aW=>exact .z0 a aW
 | top=>intro b an;exact .top _
 | _=>intro b an;cases an;constructor
theorem bj.join{ρ ρ':Ren}(i:ρ.le ρ'){l:List V}{a b:List aPi}(h:bj ρ l a)(g:bj ρ' l b):bj ⟨ρ.ren,ρ'.frz,ρ.dfr⟩ l b:=by
 refine⟨g.1,λk v s j u=>?_⟩;have z:k<l.length:=(axB.1 j).1;exact(h.2 k v _ j (Jt (by rw[<-h.1];exact z))).join i (g.2 k v s j u)
theorem a8.forget{ρ ρ':Ren}{B Y:Nat}{aZ Z w w':aPj}{h h':I}(R:a8 ρ Y Z h w)(F:a8 ρ' B aZ h' w')(j:ρ.le ρ')(N:J h h' kR):a8 ⟨ρ.ren,ρ'.frz,ρ.dfr⟩ B aZ h w':=by
 have T:∀i,h.get i≠.dead->i<h.n:=λi hi=>by obtain⟨_,_,_,_,U,_⟩:=R.heap.live hi;exact U
 refine⟨⟨R.heap.mQ,R.heap.inj,λi=>?_,F.heap.frz,λg cs u=>?_,F.heap.base⟩,F.below⟩
 .cases u:h.get i with
  | dead=>trivial
  | cells c e ex=>
   have hi:i<h.n:=T i (by rw[u];simp);have A:=R.heap.obj i;have C:=F.heap.obj i;rw[N.get i hi (by simp[kR]),u]at C;rw[u]at A;obtain⟨b,bI,arr,z,O,b4,hw,aw,aB,W⟩:=A;obtain⟨Q,G,H,E,D,L,M,la,iK,eo⟩:=C;have:=j.ren i _ z;rw[E]at this;simp at this;obtain⟨rfl,rfl⟩:=this;exact⟨Q,G,H,z,D,L,M,la,aB.join j iK,eo⟩
  | map es cl=>
   have hi:i<h.n:=T i (by rw[u];simp);have A:=R.heap.obj i;have C:=F.heap.obj i;rw[N.get i hi (by simp[kR]),u]at C;rw[u]at A;obtain⟨b,bI,arr,z,O,b4,hw,S⟩:=A;obtain⟨Q,G,H,E,D,L,M,X⟩:=C;have:=j.ren i _ z;rw[E]at this;simp at this;obtain⟨rfl,rfl⟩:=this;refine⟨Q,G,H,z,D,L,M,X.1,λk x y W bg=>?_⟩;have hg:k<es.length:=(axB.1 W).1;obtain⟨_,cY,dD⟩:=S.2 k x _ W (ayZ (by rw[<-S.1];exact hg));obtain⟨xN,jL,oX⟩:=X.2 k x y W bg;exact⟨xN,cY.join j jL,dD.join j oX⟩
  | k0 b mk vs=>
   have hi:i<h.n:=T i (by rw[u];simp);have A:=R.heap.obj i;have C:=F.heap.obj i;rw[N.get i hi (by simp[kR]),u]at C;rw[u]at A;obtain⟨bI,arr,z,O,b4,hw,aB⟩:=A;obtain⟨G,H,E,D,L,M,iK⟩:=C;have:=j.ren i _ z;rw[E]at this;simp at this;subst this;exact⟨G,H,z,D,L,M,aB.join j iK⟩
  | iter m s l st=>
   have hi:i<h.n:=T i (by rw[u];simp);have A:=R.heap.obj i;have C:=F.heap.obj i;rw[N.get i hi (by simp[kR]),u]at C;rw[u]at A;obtain⟨b,bI,bm,Bw,z,O,b4,S,hw⟩:=A;obtain⟨Q,G,aa,ab,E,D,L,X,M⟩:=C;have:=j.ren i _ z;rw[E]at this;simp at this;obtain⟨rfl,rfl⟩:=this;have:=j.ren m _ S;rw[X]at this;simp at this;obtain⟨rfl,rfl⟩:=this;exact⟨Q,G,aa,ab,z,D,L,S,M⟩
 .obtain⟨arr,O,z⟩:=R.heap.glob g cs u;obtain⟨H,D,E⟩:=F.heap.glob g cs (by rw[N.glob];exact u);have:=j.frz g _ O;rw[D]at this;simp at this;subst this;exact⟨H,D,(z.list.join j E.list).lW⟩
theorem cn.pure{P:aPf}{bJ:aPn}{args:List V}{h:I}{v:V}{E:I->Prop}(H:bf v)(aw:cn P bJ args h (λr h'=>∃s,aK r h' v s/\J h s kR) (λh'=>J h h' kR/\E h)) :
  cn P bJ args h (λr h'=>r=v/\h'=h) (λh'=>h'=h/\E h):=by
 intro ρ B D w j u aW;refine(aw ρ B D w j u aW).mono λe w' U=>?_;rcases U with⟨ρ',r,F,h',z,L,A,i,s,M,C⟩|⟨ρ',N,h',z,O,A,i,C,Q⟩
 .obtain⟨ρ2,R,S,T⟩:=M ρ' B D w' F A L;have G:=i.trans R;exact .inl ⟨⟨ρ.ren,ρ2.frz,ρ.dfr⟩,v,F,h,z,H _ _ _ T λ_ _ h=>h,u.forget S G C,⟨λ_ _ h=>h,G.frz,rfl⟩,rfl,rfl⟩
 .exact .inr ⟨⟨ρ.ren,ρ'.frz,ρ.dfr⟩,N,h,z,O,u.forget A i C,⟨λ_ _ h=>h,i.frz,rfl⟩,rfl,Q⟩
theorem Pure.of{P:aPf}{bJ:aPn}{args:List V}{h:I}{v:V}(j:bf v)(aw:au P bJ args h (λr h'=>∃i,aK r h' v i/\J h i kR)):Pure P bJ args h v:=by
 have:=cn.pure (E:=λ_=>False) j (aw.e);exact cn.mono this (λ_ _ h=>h) λ_ h=>h.2.elim
theorem Pure.val{P:aPf}{bJ:aPn}{args:List V}{h:I}{v:V}(i:bf v)(aw:au P bJ args h (λr h'=>r=v/\J h h' kR)):Pure P bJ args h v :=
 .of i (aw.mono λr h' ⟨e,k⟩=>⟨h',by subst e;exact aK.refl _ _,k⟩)
theorem Acc.cast{s h:I}{e:aPg}{sz:Nat}{v:V}{j:List V}(a:Acc s h e sz v j){n:Nat}(u:j.length=n*sz)(bq:0<sz):∃i,aK v h (.ag n j) i/\J s i kR:=by
 obtain⟨i,aw,z⟩:=aK.own a.own u bq;exact⟨i,aw,a.ai.trans z λk B A=>by have:=a.new k A;omega⟩
def JR(P:aPf)(a:List aPl)(h:I):List aPl->(aj->Prop)->aj->Prop
 | [],K,f=>K f
 | o::rest,K,f=>match iI a o.guard f with
  | some e6=>∃v,Db P o h f v/\JR P a h rest K (f.put o.dst v)
  | some fr=>JR P a h rest K (f.put o.dst (.tuple []))
  | none=>False
def hF(P:aPf)(a:List aPl)(h:I)(o:aPl)(v:V)(f:aj):Prop :=
 (iI a o.guard f=eL e6/\Db P o h f v)\/(iI a o.guard f=eL fr/\v=.tuple [])
theorem ane{P:aPf}{c:Call}{ty:aPg}{bK a:aPk->V}{h:I}(i:∀x∈c.operands,bK x=a x):k7 P c ty bK h=k7 P c ty a h:=by
 have s:c.args.toList.map bK=c.args.toList.map a:=aAF λx q=>i x (by simp at q;simp[Call.operands,q]);unfold k7;rw[s];cases aw:c.callee with
 | value f=>have j:bK f=a f:=i f (by simp[Call.operands,aw]);simp only[j]
 | invoke r m=>have j:bK r=a r:=i r (by simp[Call.operands,aw]);simp only[j]
 | builtin b=>cases b<;>rfl
theorem anf{P:aPf}{o:aPl}{bK j:aPk->V}{h:I}(i:∀x∈o.op.operands,bK x=j x):eI P o bK h=eI P o j h:=by
 obtain⟨u,op,type,pos,m,guard⟩:=o;have q:∀ps:Array (Nat×aPk),(∀x∈ps.toList.map (·.2),bK x=j x) ->
   (ps.toList.map λp=>(p.1,bK p.2))=(ps.toList.map λp=>(p.1,j p.2)):=λps z=>
  aAF λp A=>by rw[z p.2 (OF.2 ⟨p,A,rfl⟩)]
 cases op<;>simp only[Op.operands]at i<;>simp only[eI]
 case build t ps=>rw[q ps λx a=>i x (by simpa using a)]
 case buildSlice t n ps=>rw[q ps λx a=>i x (by simpa using a)]
 case makeFunc fn first captured=>
  rw[aAF (l:=first.toList) λx a=>i x (by simp at a;simp[a]),aAF (l:=captured.toList) λx a=>i x (by simp at a;simp[a])]
 case call c=>exact ane i
 case makeMap t r=>cases r<;>simp_all
 case slice t x lo hi mx=>cases lo<;>cases hi<;>cases mx<;>simp_all
 case next it s=>cases s<;>simp_all
 all_goals (first|rfl|(simp_all;done))
theorem aj.eval_put{f:aj}{h:I}{i:Option Tmp}{v:V}{x:aPk}(j:∀d,i=eL d->x≠.tmp d):(f.put i v).eval h x=f.eval h x:=by
 cases i with
 | none=>rfl
 | some d=>
  cases x with
  | tmp t=>
   have s:t≠d:=λe=>j d rfl (e▸rfl);simp[aj.eval,aj.put,s]
  | _=>rfl
theorem aj.put_comm(f:aj){x y:Option Tmp}(v u:V)(h:∀d,x=eL d->y≠eL d):(f.put x v).put y u=(f.put y u).put x v:=by
 cases x with
 | none=>rfl
 | some d=>
  cases y with
  | none=>rfl
  | some e=>
   have j:d≠e:=λs=>h d rfl (s▸rfl)
   funext t
   simp only[aj.put];by_cases i:t=e
   .subst i;simp[Ne.symm j]
   .simp[i]
section
variable {P:aPf} {ops:Array aPl} {h:I} {md:Region.Mode}
theorem Vl(o:aPl)(f:aj)(a:Option Tmp)(v:V)(i:∀d,a=eL d->d∉o.looksAt ops):eI P o ((f.put a v).eval h) h=eI P o (f.eval h) h :=
 anf λx j=>aj.eval_put λd m q=>i d m (by
  subst q;exact List.mem_append_left _ (List.mem_filterMap.2 ⟨.tmp d,by simpa using j,rfl⟩))
theorem Vm(o:aPl)(f:aj)(a:Option Tmp)(v:V)(m:∀d,a=eL d->d∉o.looksAt ops):iI ops.toList o.guard (f.put a v)=iI ops.toList o.guard f:=by
 cases a with
 | none=>rfl
 | some d=>
  unfold iI;cases q:o.guard with
  | none=>rfl
  | some i=>
   obtain⟨g,j⟩:=i;simp only;have e:ops.toList[g]?=ops[g]?:=by simp
   rw[e];cases s:(ops[g]?).bind (·.dst)with
   | none=>rfl
   | some t=>
    have u:t≠d:=λe=>m d rfl (by subst e;simp[aPl.looksAt,q,s]);simp[aj.put,u]
theorem hF.put{o:aPl}{v:V}{f:aj}(s:hF P ops.toList h o v f)(i:Option Tmp)(u:V)(j:∀d,i=eL d->d∉o.looksAt ops):hF P ops.toList h o v (f.put i u):=by
 unfold hF Db at *;rw[Vm o f i u j,Vl o f i u j];exact s
theorem hF.De{o:aPl}{v:V}{f:aj}(i:Option Tmp)(u:V)(j:∀d,i=eL d->d∉o.looksAt ops)(s:hF P ops.toList h o v (f.put i u)):hF P ops.toList h o v f:=by
 unfold hF Db at *;rwa[Vm o f i u j,Vl o f i u j]at s
end
class Lq where
 h:I
def tt(P:aPf)(a l:List aPl)[H:Lq][K:fS](f:aj):Prop:=JR P a H.h l (λf=>K.go f H.h) f
def pP(P:aPf)(o:aPl)(a l:List aPl)[H:Lq][K:fS](f:aj):Prop:=∃v,Db P o H.h f v/\@tt P a l H K (f.put o.dst v)
section
variable {P:aPf} {ol l:List aPl} {H:Lq} {K:fS} {f:aj} {d:Option Tmp} {ty:aPg} {pos:String} {cA:Array Edge} {op:Op} {g:Option (Nat×Bool)}
theorem anh:@tt P ol [] H K f=@jT K f H.h:=nr rfl
theorem ani:@tt P ol (⟨d,op,ty,pos,cA,eN⟩::l) H K f=@pP P ⟨d,op,ty,pos,cA,eN⟩ ol l H K f:=nr rfl
def Ci(v:V)(o:aPl)(P:aPf)(ol l:List aPl)[H:Lq][K:fS](f:aj):Prop :=
 match v,o.guard with
 | .bool c,eL (_,b)=>if c=b then @pP P o ol l H K f else @tt P ol l H K (f.put o.dst (.tuple []))
 | .top,_=>False
 | _,_=>@tt P ol l H K (f.put o.dst (.tuple []))
theorem anj{j:Nat}{b:Bool}:@tt P ol (⟨d,op,ty,pos,cA,eL (j,b)⟩::l) H K f =
  (match BB ol j with|some t=>@Ci (f t) ⟨d,op,ty,pos,cA,eL (j,b)⟩ P ol l H K f|none=>@tt P ol l H K (f.put d (.tuple []))):=by
 rw[Vd];show JR P ol H.h (⟨d,op,ty,pos,cA,eL (j,b)⟩::l) (λf=>K.go f H.h) f=_;simp only[JR,iI];cases a:(ol[j]?).bind (·.dst)with
 | none=>rfl
 | some t=>
  simp only[Ci];cases i:f t<;>try rfl
  rename_i c;simp only;by_cases aw:c=b
  .subst aw;simp only[beq_self_eq_true,jS];rfl
  .have:(c==b)=false:=by simp[aw]
   simp only[this,gQ aw];rfl
theorem ank{b:Bool}{j:Nat}:@Ci (.bool b) ⟨d,op,ty,pos,cA,eL (j,b)⟩ P ol l H K f=@pP P ⟨d,op,ty,pos,cA,eL (j,b)⟩ ol l H K f:=gr rfl
theorem anl{j:Nat}:@Ci (.bool e6) ⟨d,op,ty,pos,cA,eL (j,fr)⟩ P ol l H K f=@tt P ol l H K (f.put d (.tuple [])):=nr rfl
theorem anm{j:Nat}:@Ci (.bool fr) ⟨d,op,ty,pos,cA,eL (j,e6)⟩ P ol l H K f=@tt P ol l H K (f.put d (.tuple [])):=nr rfl
theorem ann{j:Nat}{b:Bool}{a:List V}:@Ci (.tuple a) ⟨d,op,ty,pos,cA,eL (j,b)⟩ P ol l H K f=@tt P ol l H K (f.put d (.tuple [])):=nr rfl
def re(o:Option V)(d:Option Tmp)(P:aPf)(ol l:List aPl)[H:Lq][K:fS](f:aj):Prop:=match o with|some v=>@tt P ol l H K (f.put d v)|none=>False
theorem ano{v:V}:@re (eL v) d P ol l H K f=@tt P ol l H K (f.put d v):=nr rfl
theorem tu{o:aPl}{x:Option V}(a:eI P o (f.eval H.h) H.h=hL x H.h):@pP P o ol l H K f=@re x o.dst P ol l H K f:=by
 unfold pP Db;rw[a];cases x with
 | none=>simp[hL,re]
 | some v=>
  simp[hL,re]
theorem anp{x:aPk}:@pP P ⟨d,.move x,ty,pos,cA,g⟩ ol l H K f=@tt P ol l H K (f.put d (f.eval H.h x)):=by
 rw[tu (x:=eL (f.eval H.h x)) rfl];rfl
theorem anq{x:aPk}:@pP P ⟨d,.assign x,ty,pos,cA,g⟩ ol l H K f=@tt P ol l H K (f.put d (f.eval H.h x)):=by
 rw[tu (x:=eL (f.eval H.h x)) rfl];rfl
theorem anr{c a b:aPk}:@pP P ⟨d,.pick c a b,ty,pos,cA,g⟩ ol l H K f=@re (JM (f.eval H.h c) (f.eval H.h a) (f.eval H.h b)) d P ol l H K f :=
 tu (by unfold eI JM hL;simp only;cases f.eval H.h c<;>rfl)
theorem ans{t:aPg}{a:aPk}:@pP P ⟨d,.load t a,ty,pos,cA,g⟩ ol l H K f=@re (zw P t (f.eval H.h a) H.h) d P ol l H K f:=tu rfl
theorem ant{t:aPg}{a:Array (Nat×aPk)}:@pP P ⟨d,.build t a,ty,pos,cA,g⟩ ol l H K f=@re (Gd P t (a.toList.map λp=>(p.1,f.eval H.h p.2))) d P ol l H K f:=tu rfl
theorem anu{x:aPk}:@pP P ⟨d,.nilCheck x,ty,pos,cA,g⟩ ol l H K f=@re (zK (f.eval H.h x)) d P ol l H K f :=
 tu (by
  unfold eI zK hL;simp only;generalize f.eval H.h x=y;cases y<;>try rfl
  rename_i fn xs ys;cases fn<;>rfl)
theorem anv{op:BinOp}{t a:aPg}{x y:aPk}:@pP P ⟨d,.binOp op t x y a,ty,pos,cA,g⟩ ol l H K f=@re (cB P op t x y (f.eval H.h x) (f.eval H.h y)) d P ol l H K f:=tu rfl
theorem anw{op:UnOp}{t:aPg}{x:aPk}:@pP P ⟨d,.unOp op t x,ty,pos,cA,g⟩ ol l H K f=@re (zD P op (f.eval H.h x)) d P ol l H K f:=tu rfl
theorem anx{s t:aPg}{x:aPk}:@pP P ⟨d,.convert s t x,ty,pos,cA,g⟩ ol l H K f=@re (oc P s t (f.eval H.h x) H.h) d P ol l H K f:=by
 have a:eI P ⟨d,.convert s t x,ty,pos,cA,g⟩ (f.eval H.h) H.h=(match oc P s t (f.eval H.h x) H.h with|some v=>eL (.val v H.h)|none=>gb (yX P s t (f.eval H.h x) H.h)):=rfl;cases aw:oc P s t (f.eval H.h x) H.h with
 | some v=>
  rw[aw]at a;exact tu (x:=eL v) a
 | none=>
  rw[aw]at a;unfold pP Db re;rw[a];cases i:yX P s t (f.eval H.h x) H.h with
  | none=>simp[gb]
  | some p=>
   obtain⟨v,h'⟩:=p;have:=aaC i;simp[gb,this]
theorem anz{t:aPg}{x:aPk}{a i mx:Option aPk}:@pP P ⟨d,.slice t x a i mx,ty,pos,cA,g⟩ ol l H K f=@re (kX P t (f.eval H.h x) (a.map (f.eval H.h)) (i.map (f.eval H.h)) (mx.map (f.eval H.h))) d P ol l H K f:=tu rfl
theorem anA{t:aPg}{x:aPk}{k:Nat}:@pP P ⟨d,.fieldAddr t x k,ty,pos,cA,g⟩ ol l H K f=@re (F8 P t (f.eval H.h x) k) d P ol l H K f:=tu rfl
theorem anB{t:aPg}{x:aPk}{k:Nat}:@pP P ⟨d,.field t x k,ty,pos,cA,g⟩ ol l H K f=@re (JE P t (f.eval H.h x) k) d P ol l H K f:=tu rfl
theorem anC{t:aPg}{x y:aPk}:@pP P ⟨d,.indexAddr t x y,ty,pos,cA,g⟩ ol l H K f=@re (hC P t (f.eval H.h x) (f.eval H.h y)) d P ol l H K f:=tu rfl
theorem anD{t:aPg}{x y:aPk}{ok:Bool}:@pP P ⟨d,.lookup t x y ok,ty,pos,cA,g⟩ ol l H K f=@re (ni P t (f.eval H.h x) (f.eval H.h y) ok H.h) d P ol l H K f:=tu rfl
theorem anE{x:aPk}{k:Nat}:@pP P ⟨d,.extract x k,ty,pos,cA,g⟩ ol l H K f=@re (tT (f.eval H.h x) k) d P ol l H K f :=
 tu (by unfold eI tT hL;simp only;cases f.eval H.h x<;>rfl)
theorem anF{t:aPg}{x:aPk}:@pP P ⟨d,.call ⟨.builtin .len,#[x],#[t]⟩,ty,pos,cA,g⟩ ol l H K f=@re (dX P t (f.eval H.h x) H.h) d P ol l H K f :=
 tu (by unfold eI k7 qD hL;simp only[ajF,azd];cases dX P t (f.eval H.h x) H.h<;>rfl)
theorem anG{t a:aPg}{x y:aPk}:@pP P ⟨d,.call ⟨.builtin .min,#[x,y],#[t,a]⟩,ty,pos,cA,g⟩ ol l H K f=@re (rX P .min #[t,a] ty (wH #[x,y]) (f.eval H.h x) (f.eval H.h y)) d P ol l H K f :=
 tu (by
  unfold eI k7 qD rX hL;simp only[ajF,azd];cases jX [f.eval H.h x,f.eval H.h y]with
  | none=>rfl
  | some as=>
   simp only;generalize eu P _=r;cases r with
   | none=>rfl
   | some n=>cases n<;>rfl)
theorem anH{t a:aPg}{x y:aPk}:@pP P ⟨d,.call ⟨.builtin .max,#[x,y],#[t,a]⟩,ty,pos,cA,g⟩ ol l H K f=@re (rX P .max #[t,a] ty (wH #[x,y]) (f.eval H.h x) (f.eval H.h y)) d P ol l H K f :=
 tu (by
  unfold eI k7 qD rX hL;simp only[ajF,azd];cases jX [f.eval H.h x,f.eval H.h y]with
  | none=>rfl
  | some as=>
   simp only;generalize eu P _=r;cases r with
   | none=>rfl
   | some n=>cases n<;>rfl)
end
section
variable {h:I} {o o':aP} {i j:Nat}
theorem dn:(h.push o).n=h.n+1:=nr rfl
theorem jM:(h.set i o).n=h.n:=nr rfl
theorem Gp:(h.push o).glob=h.glob:=nr rfl
theorem aaW:(h.set i o).glob=h.glob:=nr rfl
theorem ac:(h.push o).get h.n=o:=by simp[I.push]
theorem iZ(a:i<h.n):(h.push o).get i=h.get i:=by simp[I.push,show i≠h.n by omega]
theorem BF(i:Nat):(h.push o).get i=if i=h.n then o else h.get i:=nr rfl
theorem aM:(h.set i o).get i=o:=by simp[I.set]
theorem nk(a:i≠j):(h.set j o).get i=h.get i:=by simp[I.set,a]
theorem set_push:(h.push o).set h.n o'=h.push o':=by
 unfold I.push I.set;simp only
 congr 1
 funext k
 split<;>rfl
theorem set_set:(h.set i o).set i o'=h.set i o':=by
 unfold I.set;simp only
 congr 1
 funext k
 split<;>rfl
theorem QH(a:h.get i=o):h.set i o=h:=by
 unfold I.set;cases h with
 | mk n get m=>
  simp only at a⊢
  congr 1
  funext k
  by_cases q:k=i
  .subst q;simp[a]
  .simp[q]
theorem zO{a b:aP}:((h.push a).push b).get (h.n+1)=b:=by
 have:=ac (h:=h.push a) (o:=b);rwa[dn]at this
theorem yZ{a b:aP}:((h.push a).push b).get h.n=a:=by
 rw[iZ (by rw[dn];omega),ac]
theorem Fd{a b c:aP}:((h.push a).push b).set (h.n+1) c=(h.push a).push c:=by
 have:=set_push (h:=h.push a) (o:=b) (o':=c);rwa[dn]at this
theorem anI{a b c:aP}:((h.push a).push b).set h.n c=(h.push c).push b:=by
 simp only[I.push,I.set,I.mk.injEq,true_and,and_true]
 funext k
 by_cases m:k=h.n
 .subst m;simp
 .simp[m]
end
def mapOf{α:Type}(a:aPh)(enc:α->V)(l:List (Nat×Int×α)):List (Nat×V×V):=l.map λe=>(e.1,.int a e.2.1,enc e.2.2)
def cV{α:Type}(l:List (Nat×Int×α))(k:Int):Option α:=(l.find? λe=>e.2.1==k).map (·.2.2)
def ev{α:Type}(i:Nat)(l:List (Nat×Int×α))(k:Int)(a:α):List (Nat×Int×α) :=
 match l with
 | []=>[(i,k,a)]
 | e::r=>if e.2.1=k then(e.1,k,a)::r else e::ev i r k a
def pf{α:Type}(a:Nat)(l:List (Nat×Int×α))(k:Int):Nat:=if(cV l k).isSome then a else a+1
section
variable {P:aPf} {t cU jm:aPg} {kk:aPh} {α:Type} {enc:α->V}
theorem aaX{a b:Int}{d:aPp}(i:d=.int kk):wE P cU d (.int kk a) (.int kk b)=eL (a==b):=by
 subst i;simp[wE,pd,oT,wD,Instr.sameNow]
theorem Vn{k:Int}:∀(l:List (Nat×Int×α)),qC P cU (.int kk) (.int kk k) (mapOf kk enc l)=eL (l.findIdx? λe=>e.2.1==k)
 | []=>rfl
 | e::l=>by
  show(match wE P cU (.int kk) (.int kk k) (.int kk e.2.1)with|some e6=>eL (eL 0)|some fr=>(qC P cU (.int kk) (.int kk k) (mapOf kk enc l)).map (λ(o:Option Nat)=>o.map (·+1))|none=>eN)=_;rw[aaX rfl,Vn l,aBv];by_cases a:k=e.2.1
  .subst a;simp
  .have i:(k==e.2.1)=false:=(by simp[a]);have j:(e.2.1==k)=false:=(by simp[Ne.symm a]);simp[i,j]
theorem Vo{b:Bool}{k:Int}{d:aPp}(a:P.underlying cU=eL d)(i:d=.int kk):yW P b cU (.int kk k)=true:=by
 subst i;unfold yW;simp only[pd,oT];unfold Instr.checkKey;rw[lY,zL a];rfl
theorem Vp{l:List (Nat×Int×α)}{k:Int}:∀{j:Nat},(l.findIdx? λe=>e.2.1==k)=eL j->∃e,l[j]?=eL e/\e.2.1=k/\cV l k=eL e.2.2:=by
 induction l with
 | nil=>intro j h;simp at h
 | cons a l ih=>
  intro j h;rw[aBv]at h;unfold cV;rw[azC];by_cases i:a.2.1=k
  .have:(a.2.1==k)=true:=by simp[i]
   simp only[this,jS,Option.some.injEq]at h;subst h;rw[this];exact⟨a,rfl,i,rfl⟩
  .have:(a.2.1==k)=false:=by simp[i]
   simp[this]at h⊢;obtain⟨q,s,rfl⟩:=h;obtain⟨e,u,z,m⟩:=ih s;unfold cV at m;simp at m;exact⟨e.1,e.2.1,e.2.2,by simpa using u,z,by simpa using m⟩
theorem aaY{l:List (Nat×Int×α)}{k:Int}(h:(l.findIdx? λe=>e.2.1==k)=eN):cV l k=none:=by
 unfold cV;rw[List.findIdx?_eq_none_iff]at h;have:(l.find? λe=>e.2.1==k)=none:=by
  rw[List.find?_eq_none];intro e a;simp[h e a]
 rw[this];rfl
theorem aaZ{cl:Nat}{a:α}{k:Int}:∀{l:List (Nat×Int×α)} {j:Nat},(l.findIdx? λe=>e.2.1==k)=eL j->mapOf kk enc (ev cl l k a)=(mapOf kk enc l).modify j λe=>(e.1,.int kk k,enc a)
 | [],j,h=>by simp at h
 | e::l,j,h=>by
  rw[aBv]at h;unfold ev;by_cases i:e.2.1=k
  .have:(e.2.1==k)=true:=by simp[i]
   simp[this]at h;subst h;simp[i,mapOf]
  .have:(e.2.1==k)=false:=by simp[i]
   simp[this]at h;obtain⟨m,q,rfl⟩:=h;have:=aaZ (cl:=cl) (a:=a) (l:=l) q;simp only[mapOf]at this;simp[i,mapOf,this]
theorem Vq{cl:Nat}{a:α}{k:Int}:∀{l:List (Nat×Int×α)},(l.findIdx? λe=>e.2.1==k)=eN->ev cl l k a=l++[(cl,k,a)]
 | [],h=>rfl
 | e::l,h=>by
  rw[aBv]at h;unfold ev;by_cases i:e.2.1=k
  .have:(e.2.1==k)=true:=by simp[i]
   simp[this]at h
  .have:(e.2.1==k)=false:=by simp[i]
   simp[this]at h;simp[i,Vq (cl:=cl) (a:=a) (k:=k) (l:=l) (by simpa using h)]
theorem lookup_int{z:aPi}{h:I}{i:Nat}{l:List (Nat×Int×α)}{s:Nat}{k:Int}{ok:Bool}(m:eQ P t=eL (cU,jm,.int kk))(u:nh P jm=eL z)(A:h.get i=.map (mapOf kk enc l) s) :
  ni P t (.map i) (.int kk k) ok h=eL (match cV l k with|some a=>(if ok then .tuple [enc a,.bool e6]else enc a)|none=>(if ok then .tuple [fY z,.bool fr]else fY z)):=by
 obtain⟨_,B⟩:=zF m;unfold ni;simp only[m,u,A,Vo B rfl,jS,Vn];cases q:l.findIdx? λe=>e.2.1==k with
 | none=>rw[aaY q]
 | some j=>
  obtain⟨e,C,E,D⟩:=Vp q;rw[D];have:(mapOf kk enc l)[j]?=eL (e.1,.int kk e.2.1,enc e.2.2):=by simp[mapOf,C]
  simp only[this];rfl
theorem Vr{h:I}{i:Nat}{l:List (Nat×Int×α)}{q:Nat}{k:Int}{a:α}{v:V}(s:eQ P t=eL (cU,jm,.int kk))(u:h.get i=.map (mapOf kk enc l) q)(z:v=enc a) :
  vB P t (.map i) (.int kk k) v h=eL (h.set i (.map (mapOf kk enc (ev q l k a)) (pf q l k))):=by
 subst z;obtain⟨_,A⟩:=zF s;unfold vB pf;simp only[s,u,Vo A rfl,jS,Vn];cases m:l.findIdx? λe=>e.2.1==k with
 | none=>
  rw[aaY m,Vq m];simp[mapOf]
 | some j=>
  obtain⟨e,B,C,D⟩:=Vp m;have:(mapOf kk enc l)[j]?=eL (e.1,.int kk e.2.1,enc e.2.2):=by simp[mapOf,B]
  rw[D];simp only[this,azm,pd,oT];have E:Instr.sameBits 10000 (.int kk e.2.1) (.int kk k)=true:=by rw[C];simp[Instr.sameBits]
  rw[gr E,aaZ m];rfl
end
def dE(a:List (Nat×V×V))(i:Nat):Prop:=(∀e∈a,e.1<i)/\(a.map (·.1)).Nodup
theorem dE.nil(cl:Nat):dE [] cl:=⟨by simp,by simp⟩
theorem dE.snoc{es:List (Nat×V×V)}{cl:Nat}(h:dE es cl)(k v:V):dE (es++[(cl,k,v)]) (cl+1):=by
 refine⟨λe i=>?_,?_⟩
 .rcases axE.1 i with i|i
  .have:=h.1 e i;omega
  .simp at i;subst i;simp
 .rw[List.map_append,List.nodup_append];refine⟨h.2,by simp,λa aW b an=>?_⟩;obtain⟨e,i,rfl⟩:=OF.1 aW;have:=h.1 e i;simp at an;omega
theorem JS{r m j:Nat}{seen:List Nat}{i:List (Nat×V×V)}{h:I}{d:Option Tmp}{K:fS}{f:aj}(z:h.get r=.iter m j seen j)(A:h.get m=.map i j)(s:dE i j)
  (B:nj i seen=[]->@jT K (f.put d (.tuple [.bool fr])) h)
  (C:∀e∈nj i seen,@jT K (f.put d (.tuple [.bool e6,e.2.1,e.2.2])) (h.set r (.iter m j (seen++[e.1]) j))):@QA (C9 (.ptr r 0) h) d K f:=by
 unfold C9;simp only[z,A];have D:¬((!seen.isEmpty&&!i.isEmpty&&i.all (λe=>decide (j<=e.1)))=e6):=by
  intro U;simp only[are,Bool.not_eq_true',ayy,ig]at U;cases i with
  | nil=>simp at U
  | cons e r=>
   have u:=U.2 e (by simp);have E:=s.1 e (by simp);omega
 rw[gQ D];unfold QA;intro v h' a;rcases axE.1 a with a|a
 .split at a
  .rename_i F;simp at a;obtain⟨rfl,rfl⟩:=a;refine B ?_;cases G:nj i seen with
   | nil=>rfl
   | cons e r=>
    have a:e∈nj i seen:=(by rw[G];simp);have u:=ayy.1 F e a;have E:=s.1 e (List.mem_filter.1 a).1;simp at u;omega
  .simp at a
 .obtain⟨e,H,q⟩:=OF.1 a;simp at q;obtain⟨rfl,rfl⟩:=q;exact C e H
theorem JT{r m j:Nat}{seen:List Nat}{i:List (Nat×V×V)}{h:I}{e:Nat×V×V}(B:h.get r=.iter m j (seen++[e.1]) j)(s:h.get m=.map i j)(u:dE i j)(z:e∈i) :
  JG (.ptr r 0) h=eL (.tuple [e.2.1,e.2.2]):=by
 unfold JG;have C:(seen++[e.1]).getLast?=eL e.1:=by simp
 simp only[B,s,C,jS];have D:i.find? (λx=>x.1==e.1)=eL e:=by
  have q:=u.2;clear s u
  induction i with
  | nil=>simp at z
  | cons a i ih=>
   rw[azC];rw[ajF,List.nodup_cons]at q;rcases IN.1 z with rfl|A
   .simp
   .have:a.1≠e.1:=λU=>q.1 (by rw[U];exact OF.2 ⟨e,A,rfl⟩);rw[show(a.1==e.1)=fr by simp[this]];exact ih A q.2
 rw[D];rfl
theorem Lr{a:List (Nat×V×V)}{seen:List Nat}{e:Nat×V×V}(m:e∈nj a seen):(nj a (seen++[e.1])).length<(nj a seen).length:=by
 unfold nj at *;have i:(a.filter λx=>!(seen++[e.1]).contains x.1)=(a.filter λx=>!seen.contains x.1).filter λx=>x.1 !=e.1:=by
  rw[List.filter_filter]
  congr 1
  funext x
  by_cases i:seen.contains x.1=e6
  .simp at i;simp[i]
  .by_cases j:x.1=e.1
   .simp[j]
   .simp at i;simp[i,j]
 rw[i];have:=List.length_filter_lt_length_iff_exists (p:=λx:Nat×V×V=>x.1 !=e.1) (l:=a.filter λx=>!seen.contains x.1);exact this.2 ⟨e,m,by simp⟩
theorem JU{P:aPf}{t:aPg}{q:aPg×aPg×aPp}{i:Nat}{h:I}{j:List (Nat×V×V)}{a:Nat}(m:eQ P t=eL q)(s:h.get i=.map j a):JF P t (.map i) h=eL (.ptr h.n 0,h.push (.iter i a [] a)):=by
 unfold JF;simp[m,s]
theorem anK{P:aPf}{t:aPg}{h:I}:K3 P t eN h=eL (.map h.n,h.push (.map [] 0)):=nr rfl
def oY(w:aPj):Ren:={ ren:=λ_=>eN,frz:=λb=>match w.heap[b]? with|some (.cells c _ _)=>eL c|_=>eN }
def y0:I:={ n:=0,get:=λ_=>.dead,glob:=λ_=>eN }
theorem Vs{w:aPj}{b:Nat}{c:Array aPi}{e:aPg}{a:Nat×Nat}(h:w.heap[b]?=eL (.cells c e a)):(oY w).frz b=eL c:=by simp[oY,h]
theorem aa0(w:aPj):a8 (oY w) w.heap.size w y0 w:=by
 refine⟨⟨λ_ _=>rfl,λ_ _ _ _ _ h=>by simp[y0]at h,λ_=>trivial,λb a an=>?_,λg q i=>by simp[y0]at i,BY _⟩,ia.refl _ _⟩;simp only[oY]at an;split at an
 .rename_i c e j m;simp at an;subst an;exact⟨e,j,m⟩
 .cases an
def p5(a:Array aPl):Nat->Nat->Nat->Bool
 | 0,_,_=>fr
 | n+1,k,i=>match a[k]? with
  | some o=>o.after.any λe=>Region.binds .any e&&(e.on==i||p5 a n e.on i)
  | none=>fr
def Down(i:Array aPl)(a:Array Bool):Prop:=∀k o,i[k]?=eL o->a.getD k fr=e6->∀e∈o.after,Region.binds .any e=e6->a.getD e.on fr=e6
theorem Vt{m:Array aPl}{a:Array Bool}(u:Down m a):∀(n k i:Nat),(∀o,m[k]?=eL o->∀e∈o.after,Region.binds .any e=e6->a.getD e.on fr=e6)->p5 m n k i=e6->a.getD i fr=e6
 | 0,k,i,_,h=>by simp[p5]at h
 | n+1,k,i,A,h=>by
  unfold p5 at h;cases q:m[k]? with
  | none=>simp[q]at h
  | some o=>
   simp only[q]at h;obtain⟨j,B,U⟩:=Array.any_eq_true.1 h;simp only[are,azG,beq_iff_eq]at U;have C:o.after[j]∈o.after:=Array.getElem_mem B;have z:=A o q _ C U.1;rcases U.2 with s|s
   .rw[<-s];exact z
   .exact Vt u n _ i (λD E e F an=>u _ D E z e F an) s
theorem Down.add{ops:Array aPl}{j:Array Bool}(C:Down ops j){i:Nat}(D:i∈Region.ready .any ops j):Down ops (j.setIfInBounds i e6):=by
 obtain⟨_,o,E,F⟩:=mem_ready.1 D;intro k u s z e A an;by_cases B:k=i
 .subst B;rw[E]at s;obtain rfl:o=u:=by simpa using s
  exact getD_set_true (F e A an)
 .rw[getD_set_ne fr (Ne.symm B)]at z;exact getD_set_true (C k u s z e A an)
def tW(P:aPf)(j:Array aPl)(m:List Nat)(K E:aj->I->Prop):Nat->Array Bool->aj->I->Prop
 | 0,a,f,h=>Region.ready .any j a=[]/\K f h
 | n+1,a,f,h=>(Region.ready .any j a=[]->K f h) /\
  ∀i∈Region.ready .any j a,∀o,j[i]?=eL o ->
   if m.contains i then(match iI j.toList o.guard f with
    | some e6=>iX P o (λq h'=>tW P j m K E n (a.setIfInBounds i e6) q h') E f h
    | some fr=>tW P j m K E n (a.setIfInBounds i e6) (f.put o.dst (.tuple [])) h
    | none=>False)
   else ∃v,hF P j.toList h o v f/\tW P j m K E n (a.setIfInBounds i e6) (f.put o.dst v) h
theorem Gq{P:aPf}{n:Nat}{q:Array aPl}{es:List Nat}(E:q.toList.all (λo=>tm n o.dst)=e6){ρ0:Ren}{B:Nat}{W:aPj}{Q:cR->aj->I->Prop} :
  ∀(m:Nat) (j:Array Bool) (f:aj) (h:I) (ρ:Ren) (a:Act) (w:aPj),ρ0.le ρ->a8 ρ B W h w->fw ρ n f a->tW P q es (Q .normal) (Q .panic) m j f h->wpAnyIn aPz.wide 0 P .any q (oR n B W ρ0 Q) m j a w
 | 0,j,f,h,ρ,a,w,s,C,u,F=>⟨F.1,⟨ρ,.normal,f,h,trivial,C,u,s,F.2⟩⟩
 | m+1,j,f,h,ρ,a,w,s,C,u,F=>by
  refine⟨λZ=>⟨ρ,.normal,f,h,trivial,C,u,s,F.1 Z⟩,λi hi=>?_⟩;unfold wpOpIn;cases S:q[i]? with
  | none=>
   obtain⟨_,o,X,_⟩:=mem_ready.1 hi;rw[S]at X;cases X
  | some o=>
   simp only;have z:=F.2 i hi o S;have N:tm n o.dst=true:=(ayy.1 E) o (by rw[Array.mem_toList_iff];exact Array.mem_of_getElem? S);by_cases O:es.contains i=e6
   .rw[gr O]at z;cases A:iI q.toList o.guard f with
    | none=>simp[A]at z
    | some b=>
     rw[Qx u q o A];cases b with
     | true=>
      simp only[A]at z;simp only[jS];exact U9 vc.wide N s C u z (fun ρ' D h' R w' G H L T=>Gq E m _ D h' ρ' R w' G H L T)
       (fun ρ' D h' R w' j0 G H L py bM=>⟨ρ',.panic,D,h',py,H,L,G,bM⟩)
     | false=>
      simp only[A]at z;simp only[azf,iC];exact⟨λ_ _=>trivial,Gq E m _ _ h ρ _ w s C (u.put (Le _) o.dst N) z⟩
   .rw[gQ O]at z;obtain⟨v,bg,Y⟩:=z;rcases bg with⟨A,M⟩|⟨A,rfl⟩
    .rw[Qx u q o A];simp only[jS];refine U9 vc.wide (next:=λD h'=>D=f.put o.dst v/\h'=h) (exc:=λ_ _=>False) N s C u ?_ (fun ρ' D h' R w' G H L T=>?_) (λ_ _ _ _ _ _ _ _ _ _ O=>O.elim)
     .unfold iX;rcases M with M|⟨g,args,M,aX⟩
      .rw[M];exact⟨rfl,rfl⟩
      .rw[M];exact aX.e.mono (λr h' ⟨az,bd⟩=>⟨by rw[az],bd⟩) λ_ h=>h
     .obtain⟨rfl,rfl⟩:=T;exact Gq E m _ _ _ ρ' R w' G H L Y
    .rw[Qx u q o A];simp only[azf,iC];exact⟨λ_ _=>trivial,Gq E m _ _ h ρ _ w s C (u.put (Le _) o.dst N) Y⟩
section
variable {P:aPf} {ops:Array aPl} {es:List Nat} {K E:aj->I->Prop}
def xO(ops:Array aPl)(es:List Nat):Nat->Nat->Array Bool->Bool
 | 0,_,a=>(Region.ready .any ops a).isEmpty
 | i+1,k,a=>(if es.contains k then Region.ready .any ops a==[k]
   else(Region.ready .any ops a).contains k&&Region.free .any ops a k&&es.all λe=>a.getD e e6||p5 ops ops.size e k)&&xO ops es i (k+1) (a.setIfInBounds k e6)
theorem anL{o:aPl}{K j E:aj->I->Prop}(i:∀f h,K f h->j f h){f:aj}{h:I}(a:iX P o K E f h):iX P o j E f h:=by
 unfold iX at *;split at a
 .exact i _ _ a
 .exact a.mono (λ_ _ h=>i _ _ h) λ_ h=>h
 .exact λv h' m=>i _ _ (a v h' m)
 .exact a
 .exact a.mono (λ_ _ h=>i _ _ h)
 .exact a.elim
theorem aa1{a:Array Bool}{i e:Nat}(h:a.getD e e6=e6):(a.setIfInBounds i e6).getD e e6=true:=by
 by_cases j:i=e
 .subst j;by_cases m:i<a.size
  .simp[m]
  .simp[m]
 .rw[getD_set_ne e6 j];exact h
theorem QI:∀(l:List aPl) (k:Nat) (a:Array Bool) (f:aj) (h:I),(∀j,l[j]?=ops[k+j]?)->Down ops a ->
  xO ops es l.length k a=e6->nz P ops.toList es K E k l f h->tW P ops es K E l.length a f h
 | [],_,_,_,_,_,_,S,m=>⟨by simpa [xO]using S,m⟩
 | o::l,k,a,f,h,aB,G,S,m=>by
  have L:ops[k]?=eL o:=by simpa using(aB 0).symm
  have X:∀j,l[j]?=ops[k+1+j]?:=λj=>by have:=aB (j+1);simpa [Nat.add_assoc,Nat.add_comm 1 j]using this
  simp only[axF,xO,are]at S;obtain⟨aw,Y⟩:=S;unfold nz at m;by_cases B:es.contains k=e6
  .rw[gr B]at aw m;have z:Region.ready .any ops a=[k]:=by simpa using aw
   refine⟨λh=>(by rw[z]at h;cases h),λi hi Z O=>?_⟩;rw[z]at hi;obtain rfl:i=k:=by simpa using hi
   rw[L]at O;obtain rfl:o=Z:=by simpa using O
   rw[gr B];have zP:=G.add (show i∈Region.ready .any ops a by rw[z];simp);cases F:iI ops.toList o.guard f with
   | none=>simp[F]at m
   | some b=>
    cases b with
    | true=>
     simp only[F]at m⊢;exact anL (λb2 h' hk=>QI l (i+1) _ b2 h' X zP Y hk) m
    | false=>
     simp only[F]at m⊢;exact QI l (i+1) _ _ h X zP Y m
  .rw[gQ B]at aw m;simp only[are]at aw;obtain⟨⟨z,aA⟩,Vu⟩:=aw;have hY:k∈Region.ready .any ops a:=by simpa using z
   have:∃v,hF P ops.toList h o v f/\nz P ops.toList es K E (k+1) l (f.put o.dst v) h:=by
    split at m
    .rename_i F;obtain⟨v,aa,m⟩:=m;exact⟨v,.inl ⟨F,aa⟩,m⟩
    .rename_i F;exact⟨.tuple [],.inr ⟨F,rfl⟩,m⟩
    .exact m.elim
   obtain⟨v,Q,bQ⟩:=this;have rY:∀e∈es,a.getD e e6=e6\/p5 ops ops.size e k=true:=λe tM=>by
    have:=ayy.1 Vu e tM;simpa using this
   refine BG L (by simpa using B) rY l.length a f h G (Region.free_spec L aA) hY Q (λe s=>s)
    (QI l (k+1) _ _ h X (G.add hY) Y bQ)
where
 BG {i:Nat} {C:aPl} {v:V} (hi:ops[i]?=eL C) (rT:es.contains i=fr) {Cj:Array Bool} (rY:∀e∈es,Cj.getD e e6=e6\/p5 ops ops.size e i=e6)
   (q:Nat) (a:Array Bool) (f:aj) (h:I) (G:Down ops a) (mz:∀j A,ops[j]?=eL A->j≠i->a.getD j e6=fr->(∀e∈A.after,Region.binds .any e=e6->e.on≠i)->C.apart ops A=e6)
   (z:i∈Region.ready .any ops a) (Q:hF P ops.toList h C v f) (pg:∀e,Cj.getD e e6=e6->a.getD e e6=e6)
   (H:tW P ops es K E q (a.setIfInBounds i e6) (f.put C.dst v) h):tW P ops es K E (q+1) a f h:=by
  induction q generalizing a f with
  | zero=>
   refine⟨λh=>(by rw[h]at z;cases z),λj R o aU=>?_⟩;by_cases D:j=i
   .subst D;rw[hi]at aU;obtain rfl:C=o:=by simpa using aU
    rw[gQ (by rw[rT];exact aDZ)];exact⟨v,Q,H⟩
   .have:=ready_mono R D;rw[H.1]at this;cases this
  | succ q ih=>
   refine⟨λh=>(by rw[h]at z;cases z),λj R A M=>?_⟩;by_cases D:j=i
   .subst D;rw[hi]at M;obtain rfl:C=A:=by simpa using M
    rw[gQ (by rw[rT];exact aDZ)];exact⟨v,Q,H⟩
   .have N:=(mem_ready.1 z).1;obtain⟨T,Lt,zQ,dt⟩:=mem_ready.1 R;rw[M]at zQ;obtain rfl:A=Lt:=by simpa using zQ
    have Eu:¬es.contains j=true:=λaw=>by
     rcases rY j (by simpa using aw)with s|s
     .rw[pg j s]at T;cases T
     .have W:=Vt G _ j i (λZ O e B an=>by
                                   rw[M]at O;obtain rfl:A=Z:=by simpa using O
                                   exact dt e B an) s
      rcases aAi i a.size with h'|h'
      .simp[h']at N W;rw[N]at W;cases W
      .simp[aBx h']at W
    have hH:=H.2 j (ready_mono R D) A M;rw[gQ Eu]at hH⊢;obtain⟨u,Lu,iJ⟩:=hH;have xP:∀e∈A.after,Region.binds .any e=e6->e.on≠i:=λe B an af=>by
     have s:=dt e B an;have L:=N;rw[af]at s;rcases aAi i a.size with h'|h'
     .simp[h']at L s;rw[L]at s;cases s
     .simp[aBx h']at s
    obtain⟨bW,a2,a3⟩:=aPl.apart_spec (mz j A M D T xP);refine⟨u,Lu.De C.dst v bW,?_⟩;have wM:∀k ok,ops[k]?=eL ok->k≠i->(a.setIfInBounds j e6).getD k e6=fr ->
      (∀e∈ok.after,Region.binds .any e=e6->e.on≠i)->C.apart ops ok=true:=λk ok hk qN N eD=>by
     refine mz k ok hk qN ?_ eD;by_cases Ev:j=k
     .subst Ev;exact T
     .rw[getD_set_ne e6 Ev]at N;exact N
    refine ih (a.setIfInBounds j e6) (f.put A.dst u) (G.add R) wM (ready_mono z (Ne.symm D)) (Q.put A.dst u a3) (λe s=>aa1 (pg e s)) ?_;rw[Array.setIfInBounds_comm _ _ D,<-aj.put_comm f v u a2];exact iJ
end
theorem aT.drawn{P:aPf}{n id:Nat}{ops:Array aPl}(es:List Nat)(j:P.follows .mixedOrders=e6)(s:xO ops es ops.size 0 (azJ ops.size fr)=e6)(u:ops.toList.all (λo=>tm n o.dst)=e6){Q:cR->aj->I->Prop}{f:aj}{h:I}
  (z:nz P ops.toList es (Q .normal) (Q .panic) 0 ops.toList f h):aT P n (.region id ops e6) Q f h:=by
 intro ρ B D a w A C;refine wpIn_wide.1 (wpIn_region_any (n:=0) j (Gq (ρ0:=ρ) (es:=es) u _ _ f h ρ a _ (Ren.le.refl ρ) A.drew C ?_));have:=QI (P:=P) (es:=es) ops.toList 0 (azJ ops.size fr) f h (by simp) (λk o E i=>by simp[Array.getElem?_replicate]at i;split at i<;>simp_all) (by simpa using s) z;simpa using this
def Ew(P:aPf)(a:List aPl)(i:List Nat)(k:Nat)(l:List aPl)[K:fS](f:aj)(h:I):Prop:=nz P a i K.go K.exc k l f h
theorem aT.tY{P:aPf}{n id:Nat}{ops:Array aPl}(es:List Nat)(i:P.follows .mixedOrders=e6)(j:xO ops es ops.size 0 (azJ ops.size fr)=e6)(s:ops.toList.all (λo=>tm n o.dst)=e6){Q:qF}{f:aj}{h:I}
  (u:@Ew P ops.toList es 0 ops.toList (.out Q) f h):aT P n (.region id ops e6) Q.go f h:=aT.drawn es i j s u
section
variable {P:aPf} {ol l:List aPl} {es:List Nat} {k:Nat} {K:fS} {f:aj} {h:I} {d:Option Tmp} {ty:aPg} {pos:String} {cA:Array Edge} {op:Op} {g:Option (Nat×Bool)}
theorem JV:@Ew P ol es k [] K f h=@jT K f h:=nr rfl
theorem zR:@jT (fS.rest P ol es k l K) f h=@Ew P ol es k l K f h:=nr rfl
theorem Lv:fS.exc (fS.rest P ol es k l K) f h=fS.exc K f h:=nr rfl
theorem anM{o:aPl}{h:I}{f:aj}{X E:aj->I->Prop}(u:∀v h',eI P o (f.eval h) h=eL (.val v h')->h'=h)(j:iX P o X E f h)(z:∀g a,eI P o (f.eval h) h≠eL (.call g a))(m:∀l,eI P o (f.eval h) h≠eL (.alts l))(A:eI P o (f.eval h) h≠eL .panic)(q:∀l a,eI P o (f.eval h) h≠eL (.round l a)) :
  ∃v,Db P o h f v/\X (f.put o.dst v) h:=by
 unfold iX at j;cases i:eI P o (f.eval h) h with
 | none=>simp[i]at j
 | some s=>
  cases s with
  | val v h'=>simp only[i]at j;have:=u v h' i;subst this;exact⟨v,.inl i,j⟩
  | call g a=>exact absurd i (z g a)
  | alts l=>exact absurd i (m l)
  | panic=>exact absurd i A
  | round l a=>exact absurd i (q l a)
def pQ:Op->Bool
 | .move _ | .assign _ | .pick .. | .build .. | .load .. | .nilCheck _ | .binOp .. | .unOp .. | .makeInterface .. | .makeFunc .. | .slice .. | .fieldAddr .. | .field .. | .indexAddr .. | .index .. | .lookup .. | .entry _ | .typeAssert .. | .extract ..=>e6
 | .convert s d _=>s !=d
 | .call ⟨.builtin .len,_,_⟩ | .call ⟨.builtin .min,_,_⟩ | .call ⟨.builtin .max,_,_⟩=>e6
 | _=>fr
theorem Vv{x:Option V}{h:I}{s:Step}(a:hL x h=eL s):∃v,s=.val v h:=by
 unfold hL at a;split at a
 .simp at a;exact⟨_,a.symm⟩
 .cases a
theorem Gr{o:aPl}(hi:pQ o.op=e6){bK:aPk->V}{s:Step}(i:eI P o bK h=eL s):∃v,s=.val v h:=by
 obtain⟨u,op,type,pos,m,guard⟩:=o;unfold eI at i;cases op<;>simp[pQ]at hi<;>simp only at i
 case move x=>simp at i;exact⟨_,i.symm⟩
 case assign x=>simp at i;exact⟨_,i.symm⟩
 case pick c a b=>split at i<;>simp at i;exact⟨_,i.symm⟩
 case nilCheck x=>split at i<;>simp at i<;>exact⟨_,i.symm⟩
 case makeInterface t x=>split at i<;>simp at i;exact⟨_,i.symm⟩
 case makeFunc fn xs ys=>simp at i;exact⟨_,i.symm⟩
 case extract t k=>split at i<;>first|exact Vv i|simp at i
 case convert a b x=>
  cases aw:oc P a b (bK x) h with
  | some v=>
   rw[aw]at i;exact⟨v,(Option.some.inj i).symm⟩
  | none=>
   rw[aw]at i;have:yX P a b (bK x) h=none:=by
    unfold yX;split
    .rw[gQ (λe=>hi e.1)]
    .rfl
   rw[this]at i;cases i
 case call c=>
  have an:c.callee=.builtin .len\/c.callee=.builtin .min\/c.callee=.builtin .max:=by
   split at hi<;>simp_all
  have q:∀b,c.callee=.builtin b->(b=.len\/b=.min\/b=.max)->∃v,s=.val v h:=λb an aw=>by
   unfold k7 at i;rw[an]at i;have j:(match qD P b c.argTypes.toList type (wH c.args) (c.args.toList.map bK) h with|some (v,h')=>eL (Step.val v h')|none=>eN)=eL s:=by
    rcases aw with rfl|rfl|rfl<;>exact i
   cases aW:qD P b c.argTypes.toList type (wH c.args) (c.args.toList.map bK) h with
   | none=>rw[aW]at j;cases j
   | some p=>
    obtain⟨v,h'⟩:=p;rw[aW]at j;simp at j;subst j;have:h'=h:=by
     unfold qD at aW;rcases aw with rfl|rfl|rfl
     .split at aW
      .split at aW<;>simp at aW;exact aW.2.symm
      all_goals first
       | (simp at *;done)
       | (
         split at aW
         .split at aW<;>simp at aW;exact aW.2.symm
         .simp at aW)
     all_goals
      split at aW
      all_goals first
       | (simp at *;done)
       | (
         split at aW
         .split at aW<;>simp at aW;exact aW.2.symm
         .simp at aW)
    subst this;exact⟨v,rfl⟩
  rcases an with an|an|an
  .exact q _ an (.inl rfl)
  .exact q _ an (.inr (.inl rfl))
  .exact q _ an (.inr (.inr rfl))
 all_goals exact Vv i
def Ez(w:Option Bool)(o:aPl)(P:aPf)(ol:List aPl)(es:List Nat)(k:Nat)(l:List aPl)[K:fS](f:aj)(h:I):Prop :=
 match w with
 | some e6=>@e9 P o (fS.rest P ol es (k+1) l K) f h
 | some fr=>@Ew P ol es (k+1) l K (f.put o.dst (.tuple [])) h
 | none=>False
theorem anN{o:aPl}(hi:(pQ o.op||es.contains k)=e6)(j:@Ez (iI ol o.guard f) o P ol es k l K f h):@Ew P ol es k (o::l) K f h:=by
 unfold Ew nz;unfold Ez at j;by_cases i:es.contains k=e6
 .rw[gr i];cases q:iI ol o.guard f with
  | none=>simp[q]at j
  | some b=>cases b<;>simp only[q]at j⊢<;>exact j
 .rw[gQ i];have s:pQ o.op=true:=by
   simp only[azG]at hi;exact hi.resolve_right i
  cases q:iI ol o.guard f with
  | none=>simp[q]at j
  | some b=>
   cases b with
   | false=>simp only[q]at j⊢;exact j
   | true=>
    simp only[q]at j⊢;have z:iX P o (λA h'=>nz P ol es K.go K.exc (k+1) l A h') K.exc f h:=j;exact anM (λv h' i=>by obtain⟨u,m⟩:=Gr s i;cases m;rfl) z
     (λg a i=>by obtain⟨u,m⟩:=Gr s i;cases m) (λl i=>by obtain⟨u,m⟩:=Gr s i;cases m) (λi=>by obtain⟨u,m⟩:=Gr s i;cases m) (λl a i=>by obtain⟨u,m⟩:=Gr s i;cases m)
theorem zS{o:aPl}(hi:(pQ o.op||es.contains k)=e6):@Ew P ol es k (o::l) K f h=@Ez (iI ol o.guard f) o P ol es k l K f h:=by
 refine propext ⟨λi=>?_,anN hi⟩;unfold Ew nz at i;unfold Ez;by_cases q:es.contains k=e6
 .rw[gr q]at i;cases j:iI ol o.guard f with
  | none=>simp[j]at i
  | some b=>cases b<;>simp only[j]at i⊢<;>exact i
 .rw[gQ q]at i;have s:pQ o.op=true:=by
   simp only[azG]at hi;exact hi.resolve_right q
  cases j:iI ol o.guard f with
  | none=>simp[j]at i
  | some b=>
   cases b with
   | false=>simp only[j]at i⊢;exact i
   | true=>
    simp only[j]at i⊢;obtain⟨v,m,z⟩:=i;show iX P o (λA h'=>nz P ol es K.go K.exc (k+1) l A h') K.exc f h;unfold iX;rcases m with m|⟨g,a,m,_⟩
    .rw[m];exact z
    .obtain⟨u,B⟩:=Gr (h:=h) s m;cases B
theorem zT{o:aPl}:@Ez (eL e6) o P ol es k l K f h=@e9 P o (fS.rest P ol es (k+1) l K) f h:=nr rfl
theorem zU:iI ol eN f=eL true:=nr rfl
end
end Go.Proofs.YtemdgidnhgcafaaGreatDoor.Ab
