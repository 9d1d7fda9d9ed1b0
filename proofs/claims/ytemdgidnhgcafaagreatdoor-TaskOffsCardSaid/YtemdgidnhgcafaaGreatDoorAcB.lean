/-
  Rules of the machine on abstract states. Conditions: as each theorem says.
-/
import Derived.Test.YtemdgidnhgcafaaGreatDoorAcA
import Derived.Lib.Overlaps
import Derived.Laws.LoneSync
import Derived.LoopN
import Derived.ScopeJumps
import Derived.Deep.Quiet
import Derived.OrdersIn
import Derived.RangeFuncIn
import Derived.RangeFuncLeaves
import Derived.RangeFuncRecord
import Derived.IntWalk
open Array renaming ext'->azH,getElem?_eq_getElem->azd,getElem?_modify->azP,getElem?_toList->azI,getElem?_eq_some_iff->azj,getElem?_append_left->aE1,eq_empty_of_size_eq_zero->aAY,replicate->azZ,getElem?_eq_none->aCc
open List renaming getElem?_eq_some_iff->are,getElem?_take->azf,length_take->TY,getElem?_eq_getElem->IA,findIdx?_map->aE0,getElem?_modify->aDJ,take_of_length_le->ajz,length_nil->ayK,all_eq_true->ayL,mem_of_getElem?->azq,length_cons->axW,mapM_cons->aE3,getD->ayO,map_cons->axU,map_nil->azu,set_eq_take_append_cons_drop->aB7,eq_nil_of_length_eq_zero->azB,length->azx,drop_zero->azC,mem_cons->Iz,mem_append->ayN,mem_map->OF,map_congr_left->aA3,findIdx?_cons->aCa,find?_cons->az0
open Prod renaming mk->azn
open Nat renaming one_ne_zero->az7,le_refl->BY,lt_succ_self->az1,le_trans->ajy,lt_of_lt_of_le->IS,mul_le_mul_right->azl,le_mul_of_pos_right->aB8,add_mul->axY,zero_add->ayP,one_mul->aAJ,mul_eq_zero->aAF,lt_or_ge->aAy
open Bool renaming and_eq_true->ajC,false_eq_true->azs,or_eq_true->az2,false_ne_true->aE9
open Option renaming bind_some->azJ
open Go renaming FuncId->aOZ,Program->aOR,TypeId->aOS,Value->aOU,World->aOV,Builtin->aOY,IntKind->aOT,Operand->aOW,Result->aO3,Oper->aOX,PanicEntry->aPb,Fence->aPc,Code->aO4,ResultVar->aO8,TypeDesc->aO1
set_option linter.unusedVariables false
set_option linter.unusedSimpArgs false
namespace Go.Proofs.YtemdgidnhgcafaaGreatDoor.Ab
open Go Go.RowKit
inductive Step where
 | val (v:V) (h:I)
 | call (f:aOZ) (args:List V)
 | alts (l:List (V×I))
 | panic
 | round (l:Nat) (args:List V)
def mC(P:aOR)(f:aOZ):Bool :=
 match P.funcs[f]? with
 | some fn => fn.body.isSome && fn.name != "runtime.NumGoroutine"
 | none=>false
def DL(P:aOR)(t:aOS):Option Bool:=match P.underlying t with|some (.interface _)=>some true|some _=>some false|none=>none
def DM(P:aOR)(t:aOS)(x:V)(h:I):Option I :=
 match v7 P t,x with
 | some _,.ag=>some h
 | some _,.z0=>some h
 | some _,.af n _=>if n=0 then some h else none
 | some e,.bg i o a _=>
  match gV P e,h.get i with
  | some zs,.cells c bc j=>
   if a=0 then some h
   else if zs.all (·.one)=true/\o+(made zs a).length<=c.length then some (h.set i (.cells (lay c o (made zs a)) bc j))else none
  | _,_=>none
 | _,_=>none
theorem aka{α:Type}(p:α->Bool)(z:List α)(n:Nat)(h:z.all p=true):(made z n).all p=true:=by
 induction n with
 | zero=>rfl
 | succ n ih=>rw[IG,List.all_append,ih,h];rfl
theorem akb{P:aOR}{t ty:aOS}{x:V}{D:aOU}{h h':I}(j:DM P t x h=some h'){ρ:Ren}{B:Nat}{E w:aOV}(R:a1 ρ B E h w)(A:aE ρ x D) :
  ∃w',(aOY.clear_ #[t] ty #[D]).run P w=.ok (.tuple #[]) w'/\a1 ρ B E h' w':=by
 unfold DM at j;have s:∀e,v7 P t=some e->P.underlying t=some (.slice e):=λe q=>by
  unfold v7 at q;split at q
  ·rename_i F;rw[F];simpa using q
  ·cases q
 split at j
 ·rename_i e q;obtain rfl:h=h':=by simpa using j
  cases A;exact⟨w,by simp[aOY.clear_,run_underlying (s _ q)],R⟩
 ·rename_i e q;obtain rfl:h=h':=by simpa using j
  cases A with
  | z0 a aT=>cases a<;>exact⟨w,by simp[aOY.clear_,run_underlying (s _ q)],R⟩
 ·rename_i e n T q;split at j
  case isFalse=>cases j
  rename_i C;subst C;obtain rfl:h=h':=by simpa using j
  rcases A.k1 with⟨_,rfl,a,W,aT,rfl⟩|⟨b,o,cap,G,ak,X,Y,Z,rfl⟩
  ·cases a with
   | none=>
    obtain rfl:=aT rfl;exact⟨w,by simp[aOY.clear_,run_underlying (s _ q)],R⟩
   | some a=>exact⟨w,by simp[aOY.clear_,run_underlying (s _ q)],R⟩
  ·exact⟨w,by simp[aOY.clear_,run_underlying (s _ q)],R⟩
 ·rename_i e i o u cap q;split at j
  case h_2=>cases j
  rename_i zs c bc ex H L;obtain⟨b,bG,hi,ax,rfl⟩:=A.gW;split at j
  ·rename_i C;subst C;obtain rfl:h=h':=by simpa using j
   exact⟨w,by simp[aOY.clear_,run_underlying (s _ q)],R⟩
  ·rename_i C;split at j
   case isFalse=>cases j
   rename_i av;obtain rfl:_=h':=by simpa using j
   obtain⟨z,M,N⟩:=IE H;obtain⟨w',O,Q⟩:=JZ (P:=P) L R hi o ((N ρ).made u) (aka _ _ _ av.1) av.2;refine⟨w',?_,Q⟩;obtain⟨m,rfl⟩:∃m,u=m+1:=⟨u-1,by omega⟩
   have S:(aOY.zeroCells z.cells (m+1)).toList=made z.cells.toList (m+1):=Pr z.cells (m+1);simp[aOY.clear_,run_underlying (s _ q),Pw M,S,O]
 ·cases j
def vm(P:aOR)(t:aOS)(x:V):Option V :=
 match P.underlying t,x with
 | some (.slice _),.bg _ _ _ cap=>if cap<b7 then some (.int .i64 cap)else none
 | some (.slice _),.ag=>some (.int .i64 0)
 | some (.slice _),.z0=>some (.int .i64 0)
 | _,_=>none
theorem akc{P:aOR}{t ty:aOS}{x v:V}{q:aOU}{h:I}(a:vm P t x=some v){ρ:Ren}{B:Nat}{s w:aOV}(R:a1 ρ B s h w)(m:aE ρ x q) :
  b2 P (aOY.cap_ #[t] ty #[q]) ρ w v:=by
 unfold vm at a;split at a
 ·rename_i e i o u cap j;split at a
  case isFalse=>cases a
  rename_i av;obtain rfl:=Option.some.inj a;obtain⟨b,z,hi,C,rfl⟩:=m.gW;have A:gg z cap=cap:=by simp[gg,av]
  exact .mk (by simp[aOY.cap_,run_underlying j,A];rfl) (.int _ _)
 ·rename_i e j;obtain rfl:=Option.some.inj a;cases m;exact .mk (by simp[aOY.cap_,run_underlying j];rfl) (.int _ _)
 ·rename_i e j;obtain rfl:=Option.some.inj a;cases m;exact .mk (by simp[aOY.cap_,run_underlying j];rfl) (.int _ _)
 ·cases a
def p9(P:aOR)(b:aOY)(a:List aOS)(ty:aOS)(i:Array Bool)(args:List V)(h:I):Option (V×I) :=
 match b,a,args with
 | .len,[t],[x]=>match dJ P t x h with
  | some v=>some (v,h)
  | none=>none
 | .append,[t,j],[s,x]=>ki P t j s x h
 | .copy,[t,_],[d,s]=>xq P t d s h
 | .delete,[t,_],[m,k]=>(Cn P t m k h).map λh'=>(.tuple [],h')
 | .clear,[t],[x]=>(DM P t x h).map λh'=>(.tuple [],h')
 | .cap,[t],[x]=>match vm P t x with
  | some v=>some (v,h)
  | none=>none
 | _,_,_=>
  match jv args with
  | some as=>match ed P (builtin b a.toArray ty i as.toArray)with
   | some (.value v)=>some (gy v,h)
   | _=>none
  | none=>none
theorem Kf{ρ:Ren}{x y:V}{args':Array aOU}(aT:a6 ρ [x,y] args'.toList):∃a i,args'=#[a,i]/\aE ρ x a/\aE ρ y i:=by
 obtain⟨m,C,q,s,u⟩:=aT.dT;obtain⟨a,z,j,A,B⟩:=u.dT;rw[B.eq_nil]at j;exact⟨m,a,by apply azH;rw[q,j],s,A⟩
theorem Py{ρ:Ren}{x:V}{args':Array aOU}(aT:a6 ρ [x] args'.toList):∃a,args'=#[a]/\aE ρ x a:=by
 obtain⟨a,q,i,j,m⟩:=aT.dT;rw[m.eq_nil]at i;exact⟨a,by apply azH;simpa using i,j⟩
def xw(P : aOR)(bE : aOZ) : Prop := ∃fn, P.funcs[bE]? = some fn /\ (fn.name == "runtime.NumGoroutine") = false /\ fn.body.isNone = true /\ Extern.findNext fn = none /\ Extern.find fn = some (Extern.SlicesOverlaps.overlaps fn.params fn.resultTypes) /\
 ∃t e sz u,fn.params=#[t,t]/\fn.resultTypes=#[u]/\P.underlying t=some (.slice e)/\cH P e=some sz
def wh(h:I):List V->Option V
 | [.bg i _ _ _,.bg j _ _ _]=>match h.get i,h.get j with
  | .cells _ _ _,.cells (_::_) _ _=>if i≠j then some (.bool false)else none
  | _,_=>none
 | _=>none
theorem akd{P:aOR}{bE:aOZ}{args:List V}{args':Array aOU}{v:V}{h:I}(M:xw P bE)(a:wh h args=some v){ρ:Ren}{B:Nat}{N w:aOV}(R:a1 ρ B N h w)(aT:a6 ρ args args'.toList) :
  ∃v',(callFunc bE args').run P w=.ok (.value v') w/\aE ρ v v':=by
 obtain⟨fn,O,Q,S,T,W,t,e,sz,u,X,Y,Z,q⟩:=M;unfold wh at a;split at a
 case h_2=>cases a
 rename_i i o n c j p m d;split at a
 case h_2=>cases a
 rename_i lr dy ag ah pC wi yJ C D;split at a
 case isFalse=>cases a
 rename_i iL;obtain rfl:=Option.some.inj a;obtain⟨iD,cX,rfl,IW,IU⟩:=Kf aT;obtain⟨s,ZP,E,ai,rfl⟩:=IW.gW;obtain⟨F,ZQ,G,aq,rfl⟩:=IU.gW;have H:=R.heap.obj i;rw[C]at H;obtain⟨dH,ZR,FL,ay,_,_,z,_⟩:=H;rw[E]at ay;cases ay;have L:=R.heap.obj j;rw[D]at L;obtain⟨b8,ka,oM,bc,_,_,bT,dw,_⟩:=L;rw[G]at bc;cases bc;have bH:s≠F:=λU=>iL (R.heap.inj i j s ZP ZQ (by rw[C];simp) (by rw[D];simp) E (by rw[U];exact G))
 refine⟨.bool false,?_,.bool false⟩;rw[run_callFunc_extern O Q S T W,X,Y];rw[Lib.run_overlaps_apart w t u e Z sz (λw=>by
   unfold cH at q;cases A:P.info? e with
   | none=>simp[A]at q
   | some cp=>simp[A]at q;simp[sizeOf,typeInfo,A,q]) ⟨s,o,none⟩ ⟨F,p,none⟩ n _ m _ bH dy wi FL.size oM.size (by simp[aOV.shape?,z]) (by simp[aOV.shape?,bT]) (by simp at dw;omega) (by simp[aOV.frozen?,z]) (by simp[aOV.frozen?,z])]
 rfl
def Kg(P : aOR)(bE : aOZ) : Prop := ∃fn, P.funcs[bE]? = some fn /\ (fn.name == "runtime.NumGoroutine") = false /\ fn.body.isNone = true /\ Extern.findNext fn = none /\ Extern.find fn = some (Extern.Atomic.loadT (.int .i64)) /\ ∃a, fn.params = #[a]
def Kh(P : aOR)(bE : aOZ) : Prop := ∃fn, P.funcs[bE]? = some fn /\ (fn.name == "runtime.NumGoroutine") = false /\ fn.body.isNone = true /\ Extern.findNext fn = none /\ Extern.find fn = some (Extern.Atomic.update (Op.intArith .add) .i64 true) /\ ∃a b, fn.params = #[a, b] /\ a ≠ b
def Ki(h:I):List V->Option V
 | [.ptr i o]=>match h.get i with
  | .cells c _ _=>match c[o]? with
   | some (.int .i64 x)=>some (.int .i64 x)
   | _=>none
  | _=>none
 | _=>none
def Kj(h:I):List V->Option (V×I)
 | [.ptr i o,.int .i64 y]=>match h.get i with
  | .cells c e a=>match c[o]? with
   | some (.int .i64 x)=>some (.int .i64 (aOT.i64.wrap (x+y)),h.set i (.cells (lay c o [.int .i64 (aOT.i64.wrap (x+y))]) e a))
   | _=>none
  | _=>none
 | _=>none
theorem cell_of{ρ:Ren}{B:Nat}{h:I}{w:aOV}(H:qJ ρ B h w){i o:Nat}{c:List V}{e:aOS}{ex:Option Nat}(s:h.get i=.cells c e ex){k:aOT}{x:Int}(av:c[o]?=some (.int k x)){b u:Nat}(hi:ρ.ren i=some (b,u)) :
  w.cell? ⟨b,o,none⟩=some (.int k x)/\w.frozen? ⟨b,o,none⟩=false:=by
 have j:=H.obj i;rw[s]at j;obtain⟨G,L,a,z,M,N,m,O,A,Q⟩:=j;rw[z]at hi;simp at hi;obtain⟨rfl,rfl⟩:=hi;have C:o<c.length:=(are.1 av).1;have D:(a.toList.take c.length)[o]?=some a[o]:=by
  rw[azf,if_pos C];simp[azd (show o<a.size by omega)]
 have q:=A.2 o _ _ av D;generalize E:a[o]=v at q;cases q;have F:a[o]?=some (.int k x):=by rw[azd (show o<a.size by omega),E]
 exact⟨by simp[aOV.cell?,m,F],by simp[aOV.frozen?,m]⟩
theorem ake{P:aOR}{bE:aOZ}{args:List V}{args':Array aOU}{v:V}{h:I}(j:Kg P bE)(a:Ki h args=some v){ρ:Ren}{B:Nat}{m w:aOV}(R:a1 ρ B m h w)(aT:a6 ρ args args'.toList) :
  ∃v',(callFunc bE args').run P w=.ok (.value v') w/\aE ρ v v':=by
 obtain⟨fn,q,s,u,z,A,_⟩:=j;unfold Ki at a;split at a
 case h_2=>cases a
 rename_i i o;split at a
 case h_2=>cases a
 rename_i c e F C;split at a
 case h_2=>cases a
 rename_i x av;obtain rfl:=Option.some.inj a;obtain⟨G,rfl,D⟩:=Py aT;cases D with
 | ptr hi o=>
 rename_i b H;obtain⟨E,_⟩:=cell_of R.heap C av hi;exact⟨_,run_call_load q s u z .i64 A E,.int _ _⟩
theorem akf{P:aOR}{bE:aOZ}{args:List V}{args':Array aOU}{v:V}{h h':I}(z:Kh P bE)(a:Kj h args=some (v,h')){ρ:Ren}{B:Nat}{j w:aOV}(R:a1 ρ B j h w)(aT:a6 ρ args args'.toList) :
  ∃v' w',(callFunc bE args').run P w=.ok (.value v') w'/\aE ρ v v'/\a1 ρ B j h' w':=by
 obtain⟨fn,A,C,D,E,F,_⟩:=z;unfold Kj at a;split at a
 case h_2=>cases a
 rename_i i o y;split at a
 case h_2=>cases a
 rename_i c e T m;split at a
 case h_2=>cases a
 rename_i x av;simp only[Option.some.injEq,azn.injEq]at a;obtain⟨rfl,rfl⟩:=a;obtain⟨W,X,rfl,G,H⟩:=Kf aT;cases H;cases G with
 | ptr hi o=>
 rename_i b Y;obtain⟨q,s⟩:=cell_of R.heap m av hi;have L:o<c.length:=(are.1 av).1;have M:a6 ρ [.int .i64 (aOT.i64.wrap (x+y))] [.int .i64 (aOT.i64.wrap (x+y))]:=.cons (.int _ _) (.nil ρ);obtain⟨w',u,N⟩:=JZ (P:=P) m R hi o M rfl (show o+1<=c.length from L)
 have O:(storeCells ⟨b,o,none⟩ [.int .i64 (aOT.i64.wrap (x+y))]).run P w=.ok () (w.setCell ⟨b,o,none⟩ (.int .i64 (aOT.i64.wrap (x+y)))):=by
  have Q:(store ⟨b,o,none⟩ (.int .i64 (aOT.i64.wrap (x+y)))).run P w=.ok () (w.setCell ⟨b,o,none⟩ (.int .i64 (aOT.i64.wrap (x+y)))):=by
   rw[run_store P w ⟨b,o,none⟩ (.int .i64 (aOT.i64.wrap (x+y))) _ (by rfl),q]
   simp[s]
  simp[storeCells,Addr.add,Q]
 rw[O]at u;injection u with _ S;subst S;exact⟨_,_,run_call_add A C D E .i64 F q s (by simp[Op.intArith]),.int _ _,N⟩
open Classical in
noncomputable def x9(P:aOR)(bE:aOZ)(args:List V)(h:I):Option (V×I) :=
 if xw P bE then(match wh h args with|some v=>some (v,h)|none=>none)
 else if Kg P bE then(match Ki h args with|some v=>some (v,h)|none=>none)
 else if Kh P bE then Kj h args else none
theorem akg{P:aOR}{bE:aOZ}{args:List V}{h:I}{v:V}(a:xw P bE)(aT:wh h args=some v):x9 P bE args h=some (v,h):=by
 unfold x9;rw[if_pos a,aT]
theorem akh{P:aOR}{bE:aOZ}{args:List V}{args':Array aOU}{v:V}{h h':I}(a:x9 P bE args h=some (v,h')){ρ:Ren}{B:Nat}{m w:aOV}(R:a1 ρ B m h w)(aT:a6 ρ args args'.toList) :
  ∃v' w',(callFunc bE args').run P w=.ok (.value v') w'/\aE ρ v v'/\a1 ρ B m h' w':=by
 unfold x9 at a;split at a
 ·rename_i i;split at a
  case h_2=>cases a
  rename_i u j;simp only[Option.some.injEq,azn.injEq]at a;obtain⟨rfl,rfl⟩:=a;obtain⟨v',ay,bc⟩:=akd i j R aT;exact⟨v',w,ay,bc,R⟩
 split at a
 ·rename_i _ i;split at a
  case h_2=>cases a
  rename_i u j;simp only[Option.some.injEq,azn.injEq]at a;obtain⟨rfl,rfl⟩:=a;obtain⟨v',ay,bc⟩:=ake i j R aT;exact⟨v',w,ay,bc,R⟩
 split at a
 ·rename_i _ _ i;exact akf i a R aT
 ·cases a
def wj(a:Array aOW):Array Bool:=a.map λ| .const _=>true|_=>false
def tC(P:aOR)(t:aOS)(name:String)(f:aOZ):Prop:=(∀v w,(method (P.types.size+Made.depth) t v name).run P w=.ok (f,v) w)/\mC P f=true
theorem tC.uniq{P:aOR}{t:aOS}{name:String}{f g:aOZ}(i:tC P t name f)(j:tC P t name g):f=g:=by
 have:=(i.1 .nilIface default).symm.trans (j.1 .nilIface default);injection this with s;injection s
open Classical in
noncomputable def FM(P:aOR)(x:V)(name:String)(args:List V):Option Step :=
 match x with
 | .iface t v=>if h:∃f,tC P t name f then some (.call (Classical.choose h) (v::args))else none
 | _=>none
theorem Kk{P:aOR}{x:V}{name:String}{args:List V}{s:Step}(a:FM P x name args=some s):∃t v f,x=.iface t v/\tC P t name f/\s=.call f (v::args):=by
 unfold FM at a;split at a
 case h_2=>cases a
 rename_i t v;split at a
 case isFalse=>cases a
 rename_i U;simp only[Option.some.injEq]at a;exact⟨t,v,_,rfl,Classical.choose_spec U,a.symm⟩
open Classical in
noncomputable def k4(P:aOR)(c:Call)(ty:aOS)(bF:aOW->V)(h:I):Option Step :=
 match c.callee with
 | .builtin .panic=>match c.args.toList.map bF with
  | [.iface _ _]=>some .panic
  | _=>none
 | .builtin b=>
  match p9 P b c.argTypes.toList ty (wj c.args) (c.args.toList.map bF) h with
  | some (v,h')=>some (.val v h')
  | none=>none
 | .value f=>
  match bF f with
  | .func (.func bE) first captured=>if mC P bE then some (.call bE (first++c.args.toList.map bF++captured))else(match x9 P bE (first++c.args.toList.map bF++captured) h with|some (v,h')=>some (.val v h')|none=>none)
  | .func (.yield l) [] []=>some (.round l (c.args.toList.map bF))
  | _=>none
 | .invoke r name=>FM P (bF r) name (c.args.toList.map bF)
def hh(o:Option V)(h:I):Option Step:=match o with|some v=>some (.val v h)|none=>none
def gz(o:Option (V×I)):Option Step:=match o with|some (v,h)=>some (.val v h)|none=>none
def tD(o:Option I):Option Step:=match o with|some h=>some (.val .top h)|none=>none
def AU(P:aOR)(s d:aOS)(x:V)(h:I):Option (V×I) :=
 match P.underlying s,x with
 | some (.slice e),.bg i o n _=>
  if s=d/\xu P e=true then
   match h.get i with
   | .cells c _ _=>if o+n<=c.length then some (.af n ((c.drop o).take n),h.set i .dead)else none
   | _=>none
  else none
 | _,_=>none
theorem aki{P:aOR}{s d:aOS}{x v:V}{h h':I}(a:AU P s d x h=some (v,h')):h'≠h:=by
 unfold AU at a;split at a
 case h_2=>cases a
 split at a
 case isFalse=>cases a
 split at a
 case h_2=>cases a
 rename_i c bc q m;split at a
 case isFalse=>cases a
 simp only[Option.some.injEq,azn.injEq]at a;intro e;rename_i i _ _ _ _ _ _ _;have j:(h.set i .dead).get i=h.get i:=by rw[a.2,e]
 rw[m]at j;simp[I.set]at j
theorem a1.mark{ρ:Ren}{B:Nat}{F:aOV}{h:I}{w:aOV}(R:a1 ρ B F h w){b:Nat}{arr:Array aOU}(M:ρ.frz b=some arr)(T:B<=b)(k:Nat):a1 ρ B F h (w.freeze ⟨b,k,none⟩ 1):=by
 have C:∀j,b≠j->(w.freeze ⟨b,k,none⟩ 1).heap[j]?=w.heap[j]?:=λj s=>by
  simp only[aOV.freeze,az7,if_false,azP,if_neg s]
 have D:∀c e z,w.heap[b]?=some (.cells c e z)->∃E,(w.freeze ⟨b,k,none⟩ 1).heap[b]?=some (.cells c e E):=λc e z A=>by
  simp only[aOV.freeze,az7,if_false,azP,if_true,A,Option.map_some];exact⟨_,rfl⟩
 have bl:(w.freeze ⟨b,k,none⟩ 1).heap.size=w.heap.size:=by
  simp only[aOV.freeze,az7,if_false,Array.size_modify]
 refine⟨⟨R.heap.me,R.heap.inj,λi=>?_,λu N O=>?_,R.heap.glob,by rw[bl];exact R.heap.base⟩,R.below.trans ⟨?_,?_,?_,Nat.le_of_eq bl.symm,λj s=>C j (by omega),?_⟩⟩
 ·by_cases G:h.get i=.dead
  ·rw[G];trivial
  ·refine(R.heap.obj i).ai (Ren.le.refl ρ) λu c Q=>⟨C u ?_,λh=>h⟩;obtain⟨W,X,H,_,_,L,_⟩:=R.heap.live G;rw[Q]at H;cases H;intro e;subst e;rw[M]at L;cases L
 ·obtain⟨e,z,A⟩:=R.heap.frz u N O;by_cases s:b=u
  ·subst s;obtain⟨E,S⟩:=D _ _ _ A;exact⟨e,E,S⟩
  ·exact⟨e,z,(C u s).trans A⟩
 all_goals simp only[aOV.freeze,az7,if_false]
 exact BY _
theorem akj{P:aOR}{src m:aOS}{x v:V}{z:aOU}{h h':I}(a:AU P src m x h=some (v,h')){ρ:Ren}{B:Nat}{A w:aOV}(R:a1 ρ B A h w)(H:aE ρ x z) :
  Yields P (convert src m z) ρ B A w v h':=by
 unfold AU at a;split at a
 case h_2=>cases a
 rename_i e i o n cap L;split at a
 case isFalse=>cases a
 rename_i av;split at a
 case h_2=>cases a
 rename_i c bc ex C;split at a
 case isFalse=>cases a
 rename_i M;simp only[Option.some.injEq,azn.injEq]at a;obtain⟨rfl,rfl⟩:=a;obtain⟨rfl,N⟩:=av;have O:=IL N;obtain⟨ρ',D,E,b,Q,q,F,s,ax,S⟩:=R.freeze C;obtain⟨b8,ka,hi,T,rfl⟩:=H.gW;rw[F]at hi;cases hi;obtain⟨_,_,_,_,_,_,W⟩:=R.heap.live (i:=i) (by rw[C];simp)
 rename_i gQ X G _ _ _;rw[F]at G;cases G;obtain⟨Y,gh,Z⟩:=E.heap.frz _ _ s;have J8:w.shape? b=some (Y,q.size):=by simp[aOV.shape?,Z]
 refine⟨ρ',.slice (some ⟨b,o,none⟩) n (gg Q cap),w.freeze ⟨b,q.size,none⟩ 1,?_,.af o n _ s T ?_ λk u vg j ad=>?_,E.mark s W _,D⟩
 ·simp[convert,run_underlying L,run_underlying O,markStringish,J8]
 ·rw[TY,List.length_drop];omega
 ·rw[azf]at j;split at j
  case isFalse=>cases j
  rw[List.getElem?_drop]at j;refine(S.2 (o+k) u vg j ?_).mono D;have hk:o+k<c.length:=(are.1 j).1;rw[azf,if_pos hk,azI];exact ad
def Uh(P:aOR)(t:aOS)(m k:V)(h:I):Option (V×I) :=
 match eA P t,m with
 | some (u,A,d),.map i=>
  match h.get i with
  | .map q s=>
   if yI P false u k then
    match p8 P u d k q with
    | some (some j)=>
     match q[j]?,(q[j]?).bind λe=>p7 e.2.1,p7 k with
     | some e,some a,some b=>if Instr.sameBits 10000 a b=true then some (.tuple [e.2.2,.int .i64 (e.1:Nat)],h.set i (.map (q.modify j λe=>(e.1,k,e.2.2)) s))else none
     | _,_,_=>none
    | some none=>
     match mz P A with
     | some z=>some (.tuple [fC z,.int .i64 (s:Nat)],h.set i (.map (q++[(s,k,fC z)]) (s+1)))
     | none=>none
    | none=>none
   else none
  | _=>none
 | _,_=>none
def Ui(m s v:V)(h:I):Option I :=
 match m,s with
 | .map i,.int _ q=>
  match h.get i with
  | .map a u=>
   match a.findIdx? (λe=>(e.1:Int)==q)with
   | some j=>some (h.set i (.map (a.modify j λe=>(e.1,e.2.1,v)) u))
   | none=>none
  | _=>none
 | _,_=>none
theorem gO.find{ρ:Ren}{es:List (Nat×V×V)}{arr:Array MapEntry}(h:gO ρ es arr)(st:Int):arr.findIdx? (λe=>(e.born:Int)==st)=es.findIdx? (λe=>(e.1:Int)==st):=by
 have j:es.map (λe=>e.1)=arr.toList.map (λe=>e.born):=by
  apply List.ext_getElem
  ·simp[h.1]
  ·intro q i s;simp only[List.getElem_map,Array.getElem_toList];simp only[List.length_map]at i;exact(h.2 q _ _ (IA i) (azd (by rw[<-h.1];exact i))).1
 have ay:es.findIdx? (λe=>(e.1:Int)==st)=(es.map (λe=>e.1)).findIdx? (λn:Nat=>(n:Int)==st):=by rw[aE0];rfl
 have bc:arr.toList.findIdx? (λe=>(e.born:Int)==st)=(arr.toList.map (λe=>e.born)).findIdx? (λn:Nat=>(n:Int)==st):=by rw[aE0];rfl
 rw[ay,j,<-bc];cases arr;simp
theorem akk{P:aOR}{t:aOS}{m k v:V}{fY k':aOU}{h h':I}(s:Uh P t m k h=some (v,h')){ρ:Ren}{B:Nat}{aV w:aOV}(R:a1 ρ B aV h w)(hm:aE ρ m fY)(F:aE ρ k k') :
  Yields P (Instr.mapEntry t fY k') ρ B aV w v h':=by
 unfold Uh at s;split at s
 case h_2=>cases s
 rename_i c0 gG d i cr;obtain⟨hu,sR⟩:=ip cr;split at s
 case h_2=>cases s
 rename_i H E W;split at s
 case isFalse=>cases s
 rename_i o2;cases hm with
 | map hi=>
 have aO:=R.heap.obj i;rw[W]at aO;obtain⟨b,bG,A,L,om,Q,M,D⟩:=aO;rw[L]at hi;simp at hi;obtain⟨rfl,rfl⟩:=hi;have S:b<w.heap.size:=(azj.1 M).1;split at s
 ·rename_i j X;split at s
  case h_2=>cases s
  rename_i fk a c Y aT av;split at s
  case isFalse=>cases s
  rename_i Ka;simp only[Option.some.injEq,azn.injEq]at s;obtain⟨rfl,rfl⟩:=s;obtain⟨Z,ad⟩:=Cl (P:=P) (w:=w) sR F D X;have N:=ad j rfl;have T:j<H.length:=by rw[D.1];exact N
  obtain⟨ZS,gX,x7⟩:=D.2 j _ _ (IA T) (azd N);rw[IA T]at aT Y;simp at aT Y;subst Y;have ay:=zg gX aT;have bc:=zg F av;have eO:=R.setObj (o:=.map (H.modify j λe=>(e.1,k,e.2.2)) E) (ob:=.map (A.modify j λe=>{ e with key:=k' }) E) L (by rw[W];simp) Q S (by
   refine⟨b,bG,A.modify j (λe=>{ e with key:=k' }),L,om,Q,by simp[S],by simp[D.1],λq e ek u C=>?_⟩
   rw[aDJ]at u;rw[azP]at C;by_cases x8:j=q
   ·subst x8;rw[IA T]at u;rw[azd N]at C;simp at u C;subst u;subst C;obtain⟨aC,_,bM⟩:=D.2 j _ _ (IA T) (azd N);exact⟨aC,F,bM⟩
   ·simp[x8]at u C;exact D.2 q e ek u C)
  refine⟨ρ,.tuple #[A[j].val,goInt (A[j].born:Int)],_,?_,?_,eO,Ren.le.refl ρ⟩
  ·simp only[Instr.mapEntry,Sem.run_bind,run_underlying hu,run_getObj_map M,aO3.andThen_ok];rw[Cm o2 F w,aO3.andThen_ok,Z];have jo:(Instr.keyThatStays a c).run P w=.ok c w:=by unfold Instr.keyThatStays;rw[if_pos Ka];rfl
   simp[azd N,ay,bc,jo,run_setObj_map M]
  ·rw[ZS];exact((a6.cons x7 (.cons (.int _ _) (.nil ρ))).arr).tuple
 ·rename_i X;split at s
  case h_2=>cases s
  rename_i z bS;simp only[Option.some.injEq,azn.injEq]at s;obtain⟨rfl,rfl⟩:=s;obtain⟨Z,ad⟩:=Cl (P:=P) (w:=w) sR F D X;have eO:=R.setObj (o:=.map (H++[(E,k,fC z)]) (E+1)) (ob:=.map (A.push { key:=k',val:=z,born:=E }) (E+1)) L (by rw[W];simp) Q S (by
   refine⟨b,bG,A.push { key:=k',val:=z,born:=E },L,om,Q,by simp[S],by simp[D.1],λq e ek u C=>?_⟩
   rw[List.getElem?_append]at u;rw[Array.getElem?_push]at C;by_cases DF:q<H.length
   ·rw[if_pos DF]at u;rw[if_neg (by rw[<-D.1];omega)]at C
    exact D.2 q e ek u C
   ·rw[if_neg DF]at u;have Kb:q=H.length:=by
     have:=(are.1 u).1;simp at this;omega
    subst Kb;rw[if_pos D.1]at C;simp at u C;subst u;subst C;exact⟨rfl,F,FA ρ z⟩)
  refine⟨ρ,.tuple #[z,goInt (E:Int)],_,?_,?_,eO,Ren.le.refl ρ⟩
  ·simp only[Instr.mapEntry,Sem.run_bind,run_underlying hu,run_getObj_map M,aO3.andThen_ok];rw[Cm o2 F w,aO3.andThen_ok,Z];simp[Pw bS,run_setObj_map M]
  ·exact((a6.cons (FA ρ z) (.cons (.int _ _) (.nil ρ))).arr).tuple
 ·cases s
theorem akl{P:aOR}{t:aOS}{m s v:V}{G H v':aOU}{h h':I}(a:Ui m s v h=some h'){ρ:Ren}{B:Nat}{L w:aOV}(R:a1 ρ B L h w)(hm:aE ρ m G)(dk:aE ρ s H)(aI:aE ρ v v') :
  ∃w',(Instr.entryStore t G H v').run P w=.ok () w'/\a1 ρ B L h' w':=by
 unfold Ui at a;split at a
 case h_2=>cases a
 rename_i i kk st;split at a
 case h_2=>cases a
 rename_i M N O;split at a
 case h_2=>cases a
 rename_i j Q;obtain rfl:_=h':=by simpa using a
 cases dk;cases hm with
 | map hi=>
 have S:=R.heap.obj i;rw[O]at S;obtain⟨b,bG,u,D,om,T,E,C⟩:=S;rw[D]at hi;simp at hi;obtain⟨rfl,rfl⟩:=hi;have W:b<w.heap.size:=(azj.1 E).1;have X:=C.find st;rw[Q]at X;have F:j<M.length:=by
  have:=List.findIdx?_eq_some_iff_findIdx_eq.1 Q;omega
 have Y:j<u.size:=by rw[<-C.1];exact F
 have eO:=R.setObj (o:=.map (M.modify j λe=>(e.1,e.2.1,v)) N) (ob:=.map (u.modify j λe=>{ e with val:=v' }) N) D (by rw[O];simp) T W (by
  refine⟨b,bG,u.modify j (λe=>{ e with val:=v' }),D,om,T,by simp[W],by simp[C.1],λq e ek z A=>?_⟩
  rw[aDJ]at z;rw[azP]at A;by_cases Z:j=q
  ·subst Z;rw[IA F]at z;rw[azd Y]at A;simp at z A;subst z;subst A;obtain⟨aC,bn,_⟩:=C.2 j _ _ (IA F) (azd Y);exact⟨aC,bn,aI⟩
  ·simp[Z]at z A;exact C.2 q e ek z A)
 refine⟨_,?_,eO⟩;simp only[Instr.entryStore,Sem.run_bind,Sem.run_pure,run_getObj_map E,aO3.andThen_ok];simp[asInt,asIntOf,X,run_setObj_map E]
noncomputable def ey(P:aOR)(o:aOX)(bF:aOW->V)(h:I):Option Step :=
 match o.op with
 | .move x=>some (.val (bF x) h)
 | .assign x=>some (.val (bF x) h)
 | .pick c a b=>match bF c with
  | .bool t=>some (.val (if t then bF a else bF b) h)
  | _=>none
 | .alloc e=>gz (IF P e h)
 | .box e x=>gz (xn e (bF x) h)
 | .build t u=>hh (FJ P t (u.toList.map λp=>(p.1,bF p.2))) h
 | .buildSlice t z u=>gz (h3 P t z (u.toList.map λp=>(p.1,bF p.2)) h)
 | .load t a=>hh (m9 P t (bF a) h) h
 | .store t a x=>tD (ID P t (bF a) (bF x) h)
 | .nilCheck x=>match bF x with
  | .ptr i o=>some (.val (.ptr i o) h)
  | .at B=>some (.val (.at B) h)
  | .func (.func bE) C D=>some (.val (.func (.func bE) C D) h)
  | _=>none
 | .binOp op t x y _=>hh (cV P op t x y (bF x) (bF y)) h
 | .unOp op _ x=>hh (zn P op (bF x)) h
 | .convert s d x=>match oL P s d (bF x) h with
  | some v=>some (.val v h)
  | none=>gz (AU P s d (bF x) h)
 | .makeInterface t x=>match DL P t with
  | some false=>some (.val (.iface t (bF x)) h)
  | _=>none
 | .makeFunc fn first captured=>some (.val (.func fn (first.toList.map bF) (captured.toList.map bF)) h)
 | .makeMap t r=>gz (Kc P t (r.map bF) h)
 | .makeSlice t l c=>gz (AQ P t (bF l) (bF c) h)
 | .slice t x E F mx=>hh (kx P t (bF x) (E.map bF) (F.map bF) (mx.map bF)) h
 | .fieldAddr s x k=>hh (FC P s (bF x) k) h
 | .field t x k=>hh (IM P t (bF x) k) h
 | .indexAddr t x q=>hh (gP P t (bF x) (bF q)) h
 | .index t x q=>hh (FK P t (bF x) (bF q)) h
 | .lookup t x q ok=>hh (nB P t (bF x) (bF q) ok h) h
 | .mapUpdate t m k x=>tD (vl P t (bF m) (bF k) (bF x) h)
 | .insert t m k x=>tD (vl P t (bF m) (bF k) (bF x) h)
 | .mapEntry t m k=>gz (Uh P t (bF m) (bF k) h)
 | .entryStore _ m s x=>tD (Ui (bF m) (bF s) (bF x) h)
 | .range t x=>gz (IP P t (bF x) h)
 | .next A false=>match Co (bF A) h with
  | some l=>some (.alts l)
  | none=>none
 | .entry A=>hh (IQ (bF A) h) h
 | .typeAssert x _ j ok=>hh (jg P (bF x) j ok) h
 | .extract t k=>match bF t with
  | .tuple G=>hh G[k]? h
  | _=>none
 | .call c=>k4 P c o.type bF h
 | .panic x=>match bF x with
  | .iface _ _=>some .panic
  | _=>none
 | _=>none
theorem FN{ρ:Ren}{bF:aOW->V}{a:aOW->aOU}(i:∀x,aE ρ (bF x) (a x)):∀l:List aOW,a6 ρ (l.map bF) (l.map a)
 | []=>.nil ρ
 | x::l=>.cons (i x) (FN i l)
theorem ZT{ρ:Ren}{bF:aOW->V}{i:aOW->aOU}(j:∀x,aE ρ (bF x) (i x))(a:Array aOW):er ρ (a.toList.map bF) (a.map i):=by
 have:=FN j a.toList;exact a6.j0 (by simpa using this)
theorem Uj{ρ:Ren}{bF:aOW->V}{a:aOW->aOU}(i:∀x,aE ρ (bF x) (a x)):∀l:List (Nat×aOW),
  vi ρ (l.map λp=>(p.1,bF p.2)) (l.map λp=>(p.1,a p.2))
 | []=>trivial
 | x::l=>⟨rfl,i _,Uj i l⟩
def k5(P:aOR)(s:Sem Next)(ρ:Ren)(B:Nat)(i w:aOV)(v:V)(h':I):Prop :=
 ∃ ρ' a w',(s.run P w=.ok (.value a) w'\/(s.run P w=.ok .skip w'/\a=undef))/\aE ρ' v a/\a1 ρ' B i h' w'/\ρ.le ρ'
theorem Yields.next{P:aOR}{s:Sem aOU}{ρ:Ren}{B:Nat}{j w:aOV}{v:V}{h':I}(y:Yields P s ρ B j w v h') :
  k5 P (do pure (.value (<-s))) ρ B j w v h':=by
 obtain⟨ρ',u,w',z,A,R,i⟩:=y;exact⟨ρ',u,w',.inl (by simp[z]),A,R,i⟩
theorem k5.same{P:aOR}{s:Sem Next}{ρ:Ren}{B:Nat}{i w:aOV}{v:V}{v':aOU}{h:I}(R:a1 ρ B i h w)(j:s.run P w=.ok (.value v') w)(u:aE ρ v v') :
  k5 P s ρ B i w v h:=⟨ρ,v',w,.inl j,u,R,Ren.le.refl ρ⟩
theorem k5.skip{P:aOR}{s:Sem Unit}{ρ:Ren}{B:Nat}{i w:aOV}{h':I}(y:∃w',s.run P w=.ok () w'/\a1 ρ B i h' w'):k5 P (do s;pure .skip) ρ B i w .top h':=by
 obtain⟨w',j,R⟩:=y;exact⟨ρ,undef,w',.inr ⟨by simp[j],rfl⟩,.top _,R,Ren.le.refl ρ⟩
theorem Km(ρ:Ren):aE ρ (.tuple []) (.tuple #[]):=.tuple rfl (by simp)
theorem akm{P:aOR}{b:aOY}{a:Array aOS}{ty:aOS}{j:Array Bool}{args:List V}{args':Array aOU}{h h':I}{v:V}
  (i:p9 P b a.toList ty j args h=some (v,h')) {ρ:Ren} {B:Nat} {M w:aOV} (R:a1 ρ B M h w) (aT:a6 ρ args args'.toList) :
  k5 P (builtin b a ty j args') ρ B M w v h':=by
 unfold p9 at i;split at i
 ·rename_i t x m;obtain⟨q,rfl,C⟩:=Py aT;obtain rfl:a=#[t]:=by apply azH;simpa using m
  split at i
  case h_2=>cases i
  rename_i u D;simp at i;obtain⟨rfl,rfl⟩:=i;exact((aj0 D R C).h0 R).next
 ·rename_i t z s x m;obtain⟨G,q,rfl,E,F⟩:=Kf aT;obtain rfl:a=#[t,z]:=by apply azH;simpa using m
  exact(ajR i R E F).next
 ·rename_i t z s x m;obtain⟨G,q,rfl,E,F⟩:=Kf aT;obtain rfl:a=#[t,z]:=by apply azH;simpa using m
  exact(ajS i R E F).next
 ·rename_i t z s x m;obtain⟨G,q,rfl,E,F⟩:=Kf aT;obtain rfl:a=#[t,z]:=by apply azH;simpa using m
  cases A:Cn P t s x h with
  | none=>simp[A]at i
  | some N=>
   simp[A]at i;obtain⟨rfl,rfl⟩:=i;obtain⟨w',H,L⟩:=aj5 (P:=P) (ty:=ty) (ts:=#[t,z]) rfl A R E F;exact Yields.next (s:=aOY.delete_ #[t,z] ty #[G,q]) ⟨ρ,_,w',H,Km ρ,L,Ren.le.refl ρ⟩
 ·rename_i t x m;obtain⟨q,rfl,C⟩:=Py aT;obtain rfl:a=#[t]:=by apply azH;simpa using m
  cases A:DM P t x h with
  | none=>simp[A]at i
  | some N=>
   simp[A]at i;obtain⟨rfl,rfl⟩:=i;obtain⟨w',H,L⟩:=akb (P:=P) (ty:=ty) A R C;exact Yields.next (s:=aOY.clear_ #[t] ty #[q]) ⟨ρ,_,w',H,Km ρ,L,Ren.le.refl ρ⟩
 ·rename_i t x m;obtain⟨q,rfl,C⟩:=Py aT;obtain rfl:a=#[t]:=by apply azH;simpa using m
  split at i
  case h_2=>cases i
  rename_i u D;simp at i;obtain⟨rfl,rfl⟩:=i;exact((akc D R C).h0 R).next
 ·split at i
  case h_2=>cases i
  rename_i as has;have ay:=T1 aT has;split at i
  case h_2=>cases i
  rename_i u D;simp at i;obtain⟨rfl,rfl⟩:=i;refine .same R ?_ (Dz ρ u);have:=DD D w;rw[<-ay]at this;simpa using this
theorem DN{o:Option (V×I)}{v:V}{h:I}(a:gz o=some (.val v h)):o=some (v,h):=by
 unfold gz at a;split at a
 ·simp at a;obtain⟨rfl,rfl⟩:=a;rfl
 ·cases a
theorem vn{o:Option V}{v:V}{h h':I}(a:hh o h=some (.val v h')):o=some v/\h'=h:=by
 unfold hh at a;split at a
 ·simp at a;obtain⟨rfl,rfl⟩:=a;exact⟨rfl,rfl⟩
 ·cases a
theorem Pz{o:Option I}{v:V}{h':I}(a:tD o=some (.val v h')):o=some h'/\v=.top:=by
 unfold tD at a;split at a
 ·simp at a;obtain⟨rfl,rfl⟩:=a;exact⟨rfl,rfl⟩
 ·cases a
theorem PA{ρ:Ren}{bF:aOW->V}{a:aOW->aOU}(i:∀x,aE ρ (bF x) (a x))(o:Option aOW):Option.Rel (aE ρ) (o.map bF) (o.map a):=by
 cases o with
 | none=>exact .none
 | some x=>exact .some (i x)
theorem akn{P:aOR}{o:aOX}{bF:aOW->V}{E:aOW->aOU}{h h':I}{v:V}(j:ey P o bF h=some (.val v h')){ρ:Ren}{B:Nat}{T w:aOV}
  (R:a1 ρ B T h w) (z:∀x,aE ρ (bF x) (E x)):k5 P (execOp E o) ρ B T w v h':=by
 unfold ey at j;unfold execOp;split at j
 ·rename_i x q;simp only[q];simp at j;obtain⟨rfl,rfl⟩:=j;exact .same R (Sem.run_pure ..) (z x)
 ·rename_i x q;simp only[q];simp at j;obtain⟨rfl,rfl⟩:=j;exact .same R (Sem.run_pure ..) (z x)
 ·rename_i c a b q;simp only[q];split at j
  case h_2=>cases j
  rename_i t G;simp at j;obtain⟨rfl,rfl⟩:=j;have av:=z c;rw[G]at av;have iN:E c=.bool t:=zf av rfl;refine .same R (v':=if t then E a else E b) ?_ ?_
  ·simp[iN,asBool]
  ·cases t
   ·exact z b
   ·exact z a
 ·rename_i e q;simp only[q];exact(ajI (DN j) R).next
 ·rename_i e x q;simp only[q];exact(ajJ (DN j) R (z x)).next
 ·rename_i t ps q;simp only[q];obtain⟨A,C⟩:=vn j;subst C;refine((ajW A R ?_).h0 R).next;have:=Uj z ps.toList;simpa using this
 ·rename_i t ab ps q;simp only[q];refine(ajX (DN j) R ?_).next;have:=Uj z ps.toList;simpa using this
 ·rename_i t a q;simp only[q];obtain⟨A,C⟩:=vn j;subst C;exact((ZA A R (z a)).2.h0 R).next
 ·rename_i t a x q;simp only[q];obtain⟨A,C⟩:=Pz j;subst C;exact .skip (ajH A R (z a) (z x))
 ·rename_i x q;simp only[q];have D:=z x;split at j
  ·rename_i i o aT;simp at j;obtain⟨rfl,rfl⟩:=j;rw[aT]at D;generalize E x=Q at D;obtain⟨b,c,hi,rfl⟩:=D.rl;exact .same R (Sem.run_pure ..) (.ptr hi o)
  ·rename_i cs aT;simp at j;obtain⟨rfl,rfl⟩:=j;rw[aT]at D;generalize E x=Q at D;obtain⟨b,o,ag,ak,aO,dU,rfl⟩:=D.wb;exact .same R (Sem.run_pure ..) D
  ·rename_i bE xs ys aT;simp at j;obtain⟨rfl,rfl⟩:=j;rw[aT]at D;generalize E x=Q at D;have W:=D;cases D with
   | func fn S L aC bn=>exact .same R (Sem.run_pure ..) W
  ·cases j
 ·rename_i op t x y PB q;simp only[q];obtain⟨A,C⟩:=vn j;subst C;exact((ajT A R (z x) (z y)).h0 R).next
 ·rename_i op t x q;simp only[q];obtain⟨A,C⟩:=vn j;subst C;exact((ajU A R (z x)).h0 R).next
 ·rename_i s d x q;simp only[q];cases av:oL P s d (bF x) h with
  | some u=>
   rw[av]at j;cases j;exact(ajV av R (z x)).next
  | none=>
   rw[av]at j;exact(akj (DN j) R (z x)).next
 ·rename_i t x q;simp only[q];split at j
  case h_2=>cases j
  rename_i G;simp at j;obtain⟨rfl,rfl⟩:=j;refine Yields.next (.same R (v':=.iface t (E x)) ?_ (.iface t (z x)));unfold DL at G;split at G
  ·simp at G
  ·rename_i d uZ M;cases d with
   | interface ms=>exact absurd rfl (uZ ms)
   | _=>simp[Instr.makeInterface,run_underlying M]
  ·cases G
 ·rename_i fn first captured q
  simp only[q];simp at j;obtain⟨rfl,rfl⟩:=j;have S:=ZT z first
  have L:=ZT z captured;exact Yields.next (.same R (v':=.func fn (first.map E) (captured.map E)) (Sem.run_pure ..) (.func fn S.1 L.1 S.2 L.2))
 ·rename_i t r q;simp only[q];exact(aj6 (DN j) R (PA z r)).next
 ·rename_i t l c q;simp only[q];exact(ajO (DN j) R (z l) (z c)).next
 ·rename_i t x lo hi mx q;simp only[q];obtain⟨A,C⟩:=vn j;subst C;exact((ajM A R (z x) (PA z lo) (PA z hi) (PA z mx)).h0 R).next
 ·rename_i s x k q;simp only[q];obtain⟨A,C⟩:=vn j;subst C;exact((ajK A R (z x)).h0 R).next
 ·rename_i t x k q;simp only[q];obtain⟨A,C⟩:=vn j;subst C;exact((ajY A R (z x)).h0 R).next
 ·rename_i t x N q;simp only[q];obtain⟨A,C⟩:=vn j;subst C;exact((ajL A R (z x) (z N)).h0 R).next
 ·rename_i t x N q;simp only[q];obtain⟨A,C⟩:=vn j;subst C;exact((ajZ A R (z x) (z N)).h0 R).next
 ·rename_i t x N ok q;simp only[q];obtain⟨A,C⟩:=vn j;subst C;exact((aj3 A R (z x) (z N)).h0 R).next
 ·rename_i t m k x q;simp only[q];obtain⟨A,C⟩:=Pz j;subst C;exact .skip (pu A R (z m) (z k) (z x))
 ·rename_i t m k x q;simp only[q];obtain⟨A,C⟩:=Pz j;subst C;exact .skip (pu A R (z m) (z k) (z x))
 ·rename_i t m k q;simp only[q];exact(akk (DN j) R (z m) (z k)).next
 ·rename_i t m s x q;simp only[q];obtain⟨A,C⟩:=Pz j;subst C;exact .skip (akl A R (z m) (z s) (z x))
 ·rename_i t x q;simp only[q];exact(aj7 (DN j) R (z x)).next
 ·rename_i it q;split at j<;>simp at j
 ·rename_i it q;simp only[q];obtain⟨A,C⟩:=vn j;subst C;exact((aj8 A R (z it)).h0 R).next
 ·rename_i x J9 H ok q;simp only[q];obtain⟨A,C⟩:=vn j;subst C;exact((aj1 A R (z x)).h0 R).next
 ·rename_i t k q;simp only[q];split at j
  case h_2=>cases j
  rename_i vs tt;obtain⟨A,C⟩:=vn j;subst C;have D:=z t;rw[tt]at D;generalize W:E t=Q at D;cases D with
  | tuple bl D=>
   rename_i X;have aD:k<vs.length:=(are.1 A).1;have Y:k<X.size:=by rw[<-bl];exact aD
   refine Yields.next (.same R (v':=X[k]) ?_ (D k v _ A (azd Y)));simp[Instr.extract,azd Y]
 ·rename_i c q;simp only[q];unfold k4 at j;split at j
  ·split at j<;>simp at j
  ·rename_i b R0 ak;split at j
   case h_2=>cases j
   rename_i u L M;simp at j;obtain⟨rfl,rfl⟩:=j;have aT:=FN z c.args.toList;have:=akm (args':=c.args.map E) M R (by simpa using aT)
   have ay:(do let d <-resolve E c o.type;invoke d.target d.args)=builtin b c.argTypes o.type (wj c.args) (c.args.map E):=by
    simp[resolve,ak,invoke];rfl
   rw[ay];exact this
  ·rename_i Z az;split at j
   case h_2=>simp at j
   case h_3=>cases j
   rename_i bE first captured zr
   split at j
   ·cases j
   split at j
   case h_2=>cases j
   rename_i u L M;simp at j;obtain⟨rfl,rfl⟩:=j;have A:=z Z;rw[zr]at A;generalize zt:E Z=O at A;cases A with
   | func fn gb gd D bk=>
   rename_i pD kA;have aT:=FN z c.args.toList;have eD:a6 ρ first pD.toList:=er.list ⟨gb,D⟩
   have dw:a6 ρ captured kA.toList:=er.list ⟨gd,bk⟩;have wk:=eD.append (aT.append dw);obtain⟨di,w',aJ,zu,eO⟩:=akh (args':=pD++c.args.map E++kA) M R (by simpa using wk)
   refine⟨ρ,di,w',.inl ?_,zu,eO,Ren.le.refl ρ⟩;simp[resolve,az,zt,Deferred.ofValue,invoke];simpa using aJ
  ·obtain⟨_,_,_,_,_,bM⟩:=Kk j;cases bM
 ·split at j<;>simp at j
 ·cases j
theorem ako{P:aOR}{o:aOX}{bF:aOW->V}{i:aOW->aOU}{h:I}{g:aOZ}{args:List V}(a:ey P o bF h=some (.call g args)){ρ:Ren}{B:Nat}{N w:aOV}
  (R:a1 ρ B N h w) (s:∀x,aE ρ (bF x) (i x)):∃args',(execOp i o).run P w=.ok (.enter g args') w/\a6 ρ args args'.toList:=by
 have z:∃c,o.op=.call c/\k4 P c o.type bF h=some (.call g args):=by
  unfold ey at a;split at a
  all_goals first
   | (rename_i c u;exact⟨c,u,a⟩)
   | (simp[gz,hh,tD]at a;done)
   | (unfold gz at a;split at a<;>simp at a;done)
   | (unfold hh at a;split at a<;>simp at a;done)
   | (unfold tD at a;split at a<;>simp at a;done)
   | (split at a<;>(try (unfold gz at a;split at a))<;>simp at a;done)
   | (split at a<;>(try (unfold hh at a;split at a))<;>simp at a;done)
 obtain⟨c,u,av⟩:=z;unfold k4 at av;split at av
 ·split at av<;>simp at av
 ·split at av<;>simp at av
 ·rename_i F A;split at av
  case h_2=>simp at av
  case h_3=>cases av
  rename_i bE first captured O
  split at av
  case isFalse=>split at av<;>simp at av
  rename_i j;simp at av;obtain⟨rfl,rfl⟩:=av;have q:=s F;rw[O]at q;generalize C:i F=Q at q;cases q with
  | func fn S T D W=>
  rename_i G H;have aT:=FN s c.args.toList;refine⟨G++c.args.map i++H,?_,?_⟩
  ·unfold mC at j;split at j
   case h_2=>cases j
   rename_i fn E;simp only[ajC,bne_iff_ne,ne_eq]at j;have ak:fn.body.isNone=false:=by cases ak:fn.body<;>simp_all
   unfold execOp;simp only[u];simp[resolve,A,C,Deferred.ofValue,invoke,callFunc,E,j.2];intro U;simp[U]at j
  ·have X:a6 ρ first G.toList:=er.list ⟨S,D⟩
   have Y:a6 ρ captured H.toList:=er.list ⟨T,W⟩;have:=X.append (aT.append Y);simpa using this
 ·rename_i r name Z;obtain⟨t,v,f,aJ,L,M⟩:=Kk av;simp only[Step.call.injEq]at M;obtain⟨rfl,rfl⟩:=M;have q:=s r;rw[aJ]at q;generalize C:i r=Q at q;cases q with
  | iface t D=>
  rename_i m;have aT:=FN s c.args.toList;refine⟨#[m]++c.args.map i,?_,?_⟩
  ·have j:=L.2;unfold mC at j;split at j
   case h_2=>cases j
   rename_i fn E;simp only[ajC,bne_iff_ne,ne_eq]at j;have ak:fn.body.isNone=false:=by cases ak:fn.body<;>simp_all
   unfold execOp;simp only[u];have A:(callFunc g (#[m]++c.args.map i)).run P w=.ok (.enter g (#[m]++c.args.map i)) w:=by
    simp[callFunc,E,j.2];intro U;simp[U]at j
   have he:(Array.extract (#[aOU.iface t m]++c.args.map i) 1 (#[aOU.iface t m]++c.args.map i).size)=c.args.map i:=by
    apply azH;simp;exact ajz (by simp)
   have aG:(#[aOU.iface t m]++c.args.map i)[0]?=some (.iface t m):=by rw[aE1 (show 0<1 by decide)];rfl
   have ay:(do let d <-resolve i c o.type;invoke d.target d.args)=callMethod (.iface t m) name (c.args.map i):=by
    simp only[resolve,Z,C,pure_bind,invoke,aG,he]
   rw[ay];simp only[callMethod,Sem.run_bind,run_program,aO3.andThen_ok,L.1,A]
  ·simpa using a6.cons D aT
theorem akp{P:aOR}{o:aOX}{bF:aOW->V}{i:aOW->aOU}{h:I}{l:Nat}{args:List V}(a:ey P o bF h=some (.round l args)){ρ:Ren}{B:Nat}{z w:aOV}
  (R:a1 ρ B z h w) (s:∀x,aE ρ (bF x) (i x)):∃args',execOp i o=Instr.yield l args'/\a6 ρ args args'.toList:=by
 have j:∃c,o.op=.call c/\k4 P c o.type bF h=some (.round l args):=by
  unfold ey at a;split at a
  all_goals first
   | (rename_i c m;exact⟨c,m,a⟩)
   | (simp[gz,hh,tD]at a;done)
   | (unfold gz at a;split at a<;>simp at a;done)
   | (unfold hh at a;split at a<;>simp at a;done)
   | (unfold tD at a;split at a<;>simp at a;done)
   | (split at a<;>(try (unfold gz at a;split at a))<;>simp at a;done)
   | (split at a<;>(try (unfold hh at a;split at a))<;>simp at a;done)
 obtain⟨c,m,av⟩:=j;unfold k4 at av;split at av
 ·split at av<;>simp at av
 ·split at av<;>simp at av
 ·rename_i u A;split at av
  case h_1=>split at av<;>(try (split at av))<;>simp at av
  case h_3=>cases av
  rename_i O C;simp at av;obtain⟨rfl,rfl⟩:=av;have q:=s u;rw[C]at q;generalize D:i u=Q at q;cases q with
  | func fn E F S T=>
  rename_i G H;have aT:=FN s c.args.toList;have L:G=#[]:=aAY E.symm;have M:H=#[]:=aAY F.symm;subst L M;refine⟨c.args.map i,?_,by simpa using aT⟩
  unfold execOp;simp only[m];simp[resolve,A,D,Deferred.ofValue,invoke]
 ·obtain⟨_,_,_,_,_,N⟩:=Kk av;cases N
theorem akq{P:aOR}{o:aOX}{bF:aOW->V}{q:aOW->aOU}{h:I}{l:List (V×I)}(a:ey P o bF h=some (.alts l)){ρ:Ren}{B:Nat}{s w:aOV}
  (R:a1 ρ B s h w) (u:∀x,aE ρ (bF x) (q x)):∃v h',(v,h')∈l/\k5 P (execOp q o) ρ B s w v h':=by
 have j:∃it,o.op=.next it false/\Co (bF it) h=some l:=by
  unfold ey at a;split at a
  all_goals first
   | (rename_i it m;cases i:Co (bF it) h with
     | none=>simp[i]at a
     | some D=>simp[i]at a;subst a;exact⟨it,m,i⟩)
   | (simp[gz,hh,tD]at a;done)
   | (unfold gz at a;split at a<;>simp at a;done)
   | (unfold hh at a;split at a<;>simp at a;done)
   | (unfold tD at a;split at a<;>simp at a;done)
   | (unfold k4 at a;split at a<;>(split at a)<;>simp at a;done)
   | (split at a<;>(try (unfold gz at a;split at a))<;>simp at a;done)
   | (split at a<;>(try (unfold hh at a;split at a))<;>simp at a;done)
   | (
     exfalso;unfold k4 at a;split at a
     ·split at a<;>simp at a
     ·split at a<;>simp at a
     ·split at a
      ·split at a
       ·simp at a
       ·split at a<;>simp at a
      ·simp at a
      ·cases a
     ·obtain⟨_,_,_,_,_,z⟩:=Kk a;cases z)
 obtain⟨it,m,i⟩:=j;obtain⟨v,h',A,C⟩:=aj9 (P:=P) (ty:=o.type) i R (u it);refine⟨v,h',A,?_⟩;unfold execOp;simp only[m];exact C.next
theorem akr{P:aOR}{o:aOX}{bF:aOW->V}{q:aOW->aOU}{h:I}(a:ey P o bF h=some .panic){ρ:Ren}{B:Nat}{E w:aOV}
  (R:a1 ρ B E h w) (F:∀x,aE ρ (bF x) (q x)):∃t v',(execOp q o).run P w=.halt (.panic (.iface t v')) w:=by
 have u:(∃x,o.op=.panic x/\∃t v,bF x=.iface t v)\/(∃c x,o.op=.call c/\c.callee=.builtin .panic/\c.args.toList=[x]/\∃t v,bF x=.iface t v):=by
  unfold ey at a;split at a
  all_goals first
   | (rename_i x j;cases m:bF x<;>simp[m]at a;exact .inl ⟨x,j,_,_,m⟩)
   | (simp[gz,hh,tD]at a;done)
   | (unfold gz at a;split at a<;>simp at a;done)
   | (unfold hh at a;split at a<;>simp at a;done)
   | (unfold tD at a;split at a<;>simp at a;done)
   | (split at a<;>(try (unfold gz at a;split at a))<;>simp at a;done)
   | (split at a<;>(try (unfold hh at a;split at a))<;>simp at a;done)
   | (
     rename_i c j;unfold k4 at a;split at a
     ·rename_i z;split at a
      ·rename_i t v i;cases A:c.args.toList with
       | nil=>simp[A]at i
       | cons x r=>
        rw[A]at i;simp at i;obtain⟨C,rfl⟩:=i;exact .inr ⟨c,x,j,z,A,t,v,C⟩
      ·cases a
     ·split at a<;>simp at a
     ·split at a
      ·split at a
       ·simp at a
       ·split at a<;>simp at a
      ·simp at a
      ·cases a
     ·obtain⟨_,_,_,_,_,G⟩:=Kk a;cases G)
 have run:∀x t v,bF x=.iface t v->∃t v',q x=.iface t v'/\(Instr.panic (q x)).run P w=.halt (.panic (.iface t v')) w:=λx t v s=>by
  have m:=F x;rw[s]at m;generalize q x=L at m;cases m with
  | iface t M=>exact⟨t,_,rfl,by simp[Instr.panic,goPanic,Sem.run]⟩
 rcases u with⟨x,j,t,v,s⟩|⟨c,x,j,z,H,t,v,s⟩
 ·obtain⟨t,v',C,D⟩:=run x t v s;refine⟨t,v',?_⟩;unfold execOp;simp[j,D]
 ·obtain⟨t,v',C,D⟩:=run x t v s;refine⟨t,v',?_⟩;have aT:c.args=#[x]:=by apply azH;simpa using H
  unfold execOp;simp[j,resolve,z,aT,invoke,builtin,D]
class Kn where
 prop:Prop
def r8[p:Kn]:Prop:=p.prop
theorem ar{p:Prop}(h:p):@r8 ⟨p⟩:=h
inductive cC where
 | normal
 | exit (id:Nat)
 | goto (l:Nat)
 | ret
 | panic
def DP(i:List aPb):Prop:=∃t j,i=[{ v:=.iface t j,recovered:=false }]
def r9:cC->Exit->Prop
 | .normal,.normal=>True
 | .exit i,.exit j=>i=j
 | .goto i,.goto j=>i=j
 | .ret,.ret=>True
 | .panic,.panic a=>DP a
 | _,_=>False
def b4(P:aOR)(f:aOZ)(args:List V)(h:I)(R:V->I->Prop)(E:I->Prop):Prop :=
 ∀(ρ:Ren) (B:Nat) (i w:aOV) (a:Array aOU),a1 ρ B i h w->a6 ρ args a.toList ->
  Calls P f a w λe w'=>(∃(ρ':Ren) (r:V) (j:aOU) (h':I),e=.returned j/\aE ρ' r j/\a1 ρ' B i h' w'/\ρ.le ρ'/\R r h') \/
   (∃(ρ':Ren) (m:List aPb) (h':I),e=.panicked m/\DP m/\a1 ρ' B i h' w'/\ρ.le ρ'/\E h')
def au(P:aOR)(f:aOZ)(args:List V)(h:I)(R:V->I->Prop):Prop:=b4 P f args h R λ_=>False
def lI(P:aOR)(l:Nat)(args:List V)(h:I)(R:V->I->Prop):Prop :=
 ∀(ρ:Ren) (B:Nat) (j w:aOV) (a:Array aOU),a1 ρ B j h w->a6 ρ args a.toList ->
  ∃fn i assign body,(Instr.yield l a).run P w=.ok (.round l fn i assign body) w/\RoundIn aPc.wide 0 P l fn i assign body w λe w'=>
   ∃(ρ':Ren) (r:V) (m:aOU) (h':I),e=.returned m/\aE ρ' r m/\a1 ρ' B j h' w'/\ρ.le ρ'/\R r h'
theorem lI.mono{P:aOR}{l:Nat}{args:List V}{h:I}{R j:V->I->Prop}(av:lI P l args h R)(s:∀r h',R r h'->j r h'):lI P l args h j :=
 fun ρ B u w i z aT=>let ⟨fn,tmps,assign,body,A,C⟩:=av ρ B u w i z aT
  ⟨fn,tmps,assign,body,A,C.mono λ_ _ ⟨ρ',r,D,h',ay,bc,E,F,G⟩=>⟨ρ',r,D,h',ay,bc,E,F,s _ _ G⟩⟩
structure u2(F:aPc):Prop where
 fn:∀f,F.fn f
 depth:F.depth=none
 calls:∀{n:Nat} {P:aOR} {f:aOZ} {args:Array aOU} {w:aOV} {R:Ending->aOV->Prop},Calls P f args w R->CallsIn F n P f args w R
 round:∀{n:Nat} {P:aOR} {l:Nat} {f:aOZ} {tmps:Array aOU} {a b:aO4} {w:aOV} {R:Ending->aOV->Prop},RoundIn aPc.wide 0 P l f tmps a b w R->RoundIn F n P l f tmps a b w R
theorem u2.wide:u2 aPc.wide:=⟨λ_=>trivial,rfl,λh=>callsIn_wide.2 h,λh=>⟨trivial,λc i _=>h.2 c i (room_wide _)⟩⟩
theorem u2.inRound(l:Nat):u2 (aPc.wide.inRound l):=⟨λ_=>trivial,rfl,λ{n P f args w R} h=>show CallsIn aPc.wide n P f args w R from callsIn_wide.2 h,λh=>⟨trivial,λc i _=>h.2 c i (room_wide _)⟩⟩
theorem b4.mono{P:aOR}{f:aOZ}{args:List V}{h:I}{R C:V->I->Prop}{E D:I->Prop}(av:b4 P f args h R E)(F:∀r h',R r h'->C r h')(G:∀h',E h'->D h'):b4 P f args h C D :=
 fun ρ B H w i L aT=>(av ρ B H w i L aT).mono λ_ _ U=>by
  rcases U with⟨ρ',r,M,h',j,s,u,z,A⟩|⟨ρ',N,h',j,s,u,z,A⟩
  ·exact .inl ⟨ρ',r,M,h',j,s,u,z,F _ _ A⟩
  ·exact .inr ⟨ρ',N,h',j,s,u,z,G _ A⟩
theorem au.mono{P:aOR}{f:aOZ}{args:List V}{h:I}{R i:V->I->Prop}(av:au P f args h R)(j:∀r h',R r h'->i r h'):au P f args h i :=
 b4.mono av j λ_ h=>h
theorem au.e{P:aOR}{f:aOZ}{args:List V}{h:I}{R:V->I->Prop}{E:I->Prop}(av:au P f args h R):b4 P f args h R E :=
 b4.mono av (λ_ _ h=>h) λ_ h=>h.elim
def mM(n:Nat)(B:Nat)(i:aOV)(ρ:Ren)(Q:cC->aj->I->Prop)(e:Exit)(a:Act)(w:aOV):Prop :=
 ∃(ρ':Ren) (x:cC) (f:aj) (h:I),r9 x e/\a1 ρ' B i h w/\eE ρ' n f a/\ρ.le ρ'/\Q x f h
theorem mM.le{n B:Nat}{j:aOV}{ρ ρ1:Ren}(i:ρ.le ρ1){Q:cC->aj->I->Prop}{e:Exit}{a:Act}{w:aOV}(h:mM n B j ρ1 Q e a w):mM n B j ρ Q e a w :=
 let ⟨ρ',x,f,h',s,u,z,A,C⟩:=h
 ⟨ρ',x,f,h',s,u,z,i.trans A,C⟩
def aS(P:aOR)(n:Nat)(c:aO4)(Q:cC->aj->I->Prop)(f:aj)(h:I):Prop :=
 ∀(ρ:Ren) (B:Nat) (i:aOV) (a:Act) (w:aOV),a1 ρ B i h w->eE ρ n f a->c.wp P (mM n B i ρ Q) a w
theorem aS.mono{P:aOR}{n:Nat}{c:aO4}{Q i:cC->aj->I->Prop}{f:aj}{h:I}(j:aS P n c Q f h)(s:∀e f h,Q e f h->i e f h):aS P n c i f h :=
 fun ρ B u a w z A=>wp_mono (j ρ B u a w z A) λ_ _ _ ⟨ρ',x,C,h',D,E,F,G,H⟩=>⟨ρ',x,C,h',D,E,F,G,s _ _ _ H⟩
def sa(f:aj)(h:I)(j:aj)(m:I):Prop :=
 ∀(ρ:Ren) (B:Nat) (i w:aOV) (n:Nat) (a:Act),a1 ρ B i h w->eE ρ n f a->∃ ρ',ρ.le ρ'/\a1 ρ' B i m w/\eE ρ' n j a
theorem aS.cast{P:aOR}{n:Nat}{c:aO4}{Q:cC->aj->I->Prop}{f j:aj}{h s:I}(av:sa f h j s)(z:aS P n c Q j s):aS P n c Q f h :=
 fun ρ B u a w A C=>let ⟨ρ',i,D,E⟩:=av ρ B u w n a A C;wp_mono (z ρ' B u a w D E) λ_ _ _ F=>F.le i
def aF(r:V)(h:I)(dB:V)(j:I):Prop :=
 ∀(ρ:Ren) (B:Nat) (a w:aOV) (i:aOU),a1 ρ B a h w->aE ρ r i->∃ ρ',ρ.le ρ'/\a1 ρ' B a j w/\aE ρ' dB i
theorem b4.cast{P:aOR}{f:aOZ}{args:List V}{h:I}{R:V->I->Prop}{E:I->Prop}(av:b4 P f args h (λr h'=>∃dB j,aF r h' dB j/\R dB j) E):b4 P f args h R E :=
 fun ρ B u w i A aT=>(av ρ B u w i A aT).mono λ_ _ U=>by
  rcases U with⟨ρ',r,z,h',C,j,D,F,dB,G,H,L⟩|U
  ·obtain⟨ρ2,s,M,N⟩:=H ρ' B u _ z D j;exact .inl ⟨ρ2,dB,z,G,C,N,M,F.trans s,L⟩
  ·exact .inr U
theorem au.cast{P:aOR}{f:aOZ}{args:List V}{h:I}{R:V->I->Prop}(av:au P f args h (λr h'=>∃dB i,aF r h' dB i/\R dB i)):au P f args h R:=b4.cast av
def andThen(K:aj->I->Prop)(Q:cC->aj->I->Prop):cC->aj->I->Prop
 | .normal,f,h=>K f h
 | e,f,h=>Q e f h
theorem aS.seq{P:aOR}{n:Nat}{x y:aO4}{Q:cC->aj->I->Prop}{f:aj}{h:I}(D:aS P n x (andThen (aS P n y Q) Q) f h):aS P n (.seq x y) Q f h:=by
 intro ρ B C a w E F;refine wp_seq (wp_mono (D ρ B C a w E F) λe G w' ⟨ρ',x,z,h',A,i,j,s,u⟩=>?_);cases x<;>cases e<;>simp only[r9]at A
 ·exact wp_mono (u ρ' B C G w' i j) λ_ _ _ H=>H.le s
 ·exact⟨ρ',_,z,h',by exact A,i,j,s,u⟩
 ·exact⟨ρ',_,z,h',by exact A,i,j,s,u⟩
 ·exact⟨ρ',.ret,z,h',trivial,i,j,s,u⟩
 ·exact⟨ρ',.panic,z,h',by exact A,i,j,s,u⟩
theorem aS.cond{P:aOR}{n:Nat}{c:aOW}{x y:aO4}{Q:cC->aj->I->Prop}{f:aj}{h:I}{t:Bool}(av:f.eval h c=.bool t)
  (u:aS P n (if t then x else y) Q f h):aS P n (.cond c x y) Q f h:=by
 intro ρ B z a w i j;have s:=j.eval i.heap c;rw[av]at s;exact wp_cond (zf s rfl) (u ρ B z a w i j)
def IX(id:Nat)(Q:cC->aj->I->Prop):cC->aj->I->Prop
 | .exit j,f,h=>if j=id then Q .normal f h else Q (.exit j) f h
 | e,f,h=>Q e f h
theorem aS.block{P:aOR}{n id:Nat}{c:aO4}{Q:cC->aj->I->Prop}{f:aj}{h:I}(D:aS P n c (IX id Q) f h):aS P n (.block id c) Q f h:=by
 intro ρ B E a w F G;refine wp_block (wp_mono (D ρ B E a w F G) λe H w' ⟨ρ',x,j,h',A,s,u,z,i⟩=>?_);cases x<;>cases e<;>simp only[r9]at A
 ·exact⟨ρ',.normal,j,h',trivial,s,u,z,i⟩
 ·subst A;simp only[IX]at i;simp only[Exit.inBlock];split
  ·rename_i C;simp only[C,if_true]at i;exact⟨ρ',.normal,j,h',trivial,s,u,z,i⟩
  ·rename_i C;simp only[C,if_false]at i;exact⟨ρ',.exit _,j,h',rfl,s,u,z,i⟩
 ·exact⟨ρ',.goto _,j,h',A,s,u,z,i⟩
 ·exact⟨ρ',.ret,j,h',trivial,s,u,z,i⟩
 ·exact⟨ρ',.panic,j,h',A,s,u,z,i⟩
theorem aS.skip{P:aOR}{n:Nat}{Q:cC->aj->I->Prop}{f:aj}{h:I}(i:Q .normal f h):aS P n .skip Q f h :=
 fun ρ _ _ _ _ j s=>wp_skip ⟨ρ,.normal,f,h,trivial,j,s,Ren.le.refl ρ,i⟩
theorem aS.label{P:aOR}{n l:Nat}{Q:cC->aj->I->Prop}{f:aj}{h:I}(i:Q .normal f h):aS P n (.label l) Q f h :=
 fun ρ _ _ _ _ j s=>wp_label ⟨ρ,.normal,f,h,trivial,j,s,Ren.le.refl ρ,i⟩
theorem aS.exit{P:aOR}{n id:Nat}{Q:cC->aj->I->Prop}{f:aj}{h:I}(i:Q (.exit id) f h):aS P n (.exit id) Q f h :=
 fun ρ _ _ _ _ j s=>wp_exit ⟨ρ,.exit id,f,h,rfl,j,s,Ren.le.refl ρ,i⟩
theorem aS.goto{P:aOR}{n l:Nat}{Q:cC->aj->I->Prop}{f:aj}{h:I}(i:Q (.goto l) f h):aS P n (.goto l) Q f h :=
 fun ρ _ _ _ _ j s=>wp_goto ⟨ρ,.goto l,f,h,rfl,j,s,Ren.le.refl ρ,i⟩
theorem aS.ret{P:aOR}{n:Nat}{Q:cC->aj->I->Prop}{f:aj}{h:I}(i:Q .ret f h):aS P n .ret Q f h :=
 fun ρ _ _ _ _ j s=>wp_ret ⟨ρ,.ret,f,h,trivial,j,s,Ren.le.refl ρ,i⟩
theorem aS.loop{P:aOR}{n:Nat}{c:aO4}{Q:cC->aj->I->Prop}{f:aj}{h:I}(C:aj->I->Prop)(μ:aj->I->Nat)(H:C f h)
  (round:∀f h,C f h->aS P n c (andThen (λj h'=>@r8 ⟨C j h'/\μ j h'<μ f h⟩) Q) f h):aS P n (.loop c) Q f h:=by
 intro ρ B E a w F G;have key:∀m f h,C f h->μ f h<m->∀ ρ1:Ren,ρ.le ρ1->∀a w,a1 ρ1 B E h w->eE ρ1 n f a->aO4.rounds P c (mM n B E ρ Q) m a w:=by
  intro m
  induction m with
  | zero=>intro f h _ L;omega
  | succ m ih=>
   intro f h M L ρ1 i a w F G;rw[rounds_succ];refine wp_mono (round f h M ρ1 B E a w F G) λe N w' ⟨ρ',x,j,h',D,u,z,A,s⟩=>?_;cases x<;>cases e<;>simp only[r9]at D
   ·exact ih j h' s.1 (by have:=s.2;omega) ρ' (i.trans A) N w' u z
   ·exact⟨ρ',.exit _,j,h',D,u,z,i.trans A,s⟩
   ·exact⟨ρ',.goto _,j,h',D,u,z,i.trans A,s⟩
   ·exact⟨ρ',.ret,j,h',trivial,u,z,i.trans A,s⟩
   ·exact⟨ρ',.panic,j,h',D,u,z,i.trans A,s⟩
 exact wp_loop_rounds (μ f h+1) (key _ f h H (az1 _) ρ (Ren.le.refl ρ) a w F G)
theorem aS.bI{P:aOR}{n:Nat}{c:aO4}{Q:cC->aj->I->Prop}{f:aj}{h:I}{α:Type}(C:α->aj->I->Prop)(μ:α->Nat)(E:α)(L:C E f h)
  (round:∀x f h,C x f h->aS P n c (andThen (λj h'=>@r8 ⟨∃y,C y j h'/\μ y<μ x⟩) Q) f h):aS P n (.loop c) Q f h:=by
 intro ρ B F a w G H;have key:∀m x f h,C x f h->μ x<m->∀ ρ1:Ren,ρ.le ρ1->∀a w,a1 ρ1 B F h w->eE ρ1 n f a->aO4.rounds P c (mM n B F ρ Q) m a w:=by
  intro m
  induction m with
  | zero=>intro x f h _ M;omega
  | succ m ih=>
   intro x f h N M ρ1 i a w G H;rw[rounds_succ];refine wp_mono (round x f h N ρ1 B F a w G H) λe O w' ⟨ρ',R,j,h',D,s,u,z,A⟩=>?_;cases R<;>cases e<;>simp only[r9]at D
   ·obtain⟨y,S,T⟩:=A;exact ih y j h' S (by omega) ρ' (i.trans z) O w' s u
   ·exact⟨ρ',.exit _,j,h',D,s,u,i.trans z,A⟩
   ·exact⟨ρ',.goto _,j,h',D,s,u,i.trans z,A⟩
   ·exact⟨ρ',.ret,j,h',trivial,s,u,i.trans z,A⟩
   ·exact⟨ρ',.panic,j,h',D,s,u,i.trans z,A⟩
 exact wp_loop_rounds (μ E+1) (key _ E f h L (az1 _) ρ (Ren.le.refl ρ) a w G H)
def h4(i:List aOX)(g:Option (Nat×Bool))(f:aj):Option Bool :=
 match g with
 | none=>some true
 | some (j,a)=>match(i[j]?).bind (·.dst)with
  | some d=>match f d with
   | .top=>none
   | .bool b=>some (b==a)
   | _=>some false
  | none=>some false
theorem PD{ρ:Ren}{n:Nat}{f:aj}{a:Act}(C:eE ρ n f a)(i:Array aOX)(o:aOX){b:Bool}(ak:h4 i.toList o.guard f=some b):Region.wanted o (yielded i a.tmps)=b:=by
 unfold Region.wanted;unfold h4 at ak;cases z:o.guard with
 | none=>simp[z]at ak;simp[ak]
 | some p=>
  obtain⟨j,A⟩:=p;simp only[z]at ak⊢;have e:i.toList[j]?=i[j]?:=by simp
  rw[e]at ak;unfold yielded;cases B:(i[j]?).bind (·.dst)with
  | none=>simp[B]at ak;subst ak;rfl
  | some d=>
   simp only[B]at ak⊢;have m:=C.tmps d;cases q:a.tmps[d]? with
   | none=>
    have s:a.tmps.getD d undef=undef:=by simp[q]
    rw[s]at m;generalize f d=x at m ak;unfold undef at m;cases m with
    | top=>simp at ak
    | tuple D E=>simp at ak;subst ak;simp[q]
   | some u=>
    have s:a.tmps.getD d undef=u:=by simp[q]
    rw[s]at m;generalize f d=x at m ak;cases m<;>simp at ak<;>subst ak<;>simp[q]
def iE(P:aOR)(o:aOX)(next exc:aj->I->Prop)(f:aj)(h:I):Prop :=
 match ey P o (f.eval h) h with
 | some (.val v h')=>next (f.put o.dst v) h'
 | some (.call g args)=>b4 P g args h (λr h'=>next (f.put o.dst r) h') (λh'=>exc f h')
 | some (.alts l)=>∀v h',(v,h')∈l->next (f.put o.dst v) h'
 | some .panic=>exc f h
 | some (.round l args)=>lI P l args h (λr h'=>next (f.put o.dst r) h')
 | none=>False
def n0(P:aOR)(a:List aOX):List aOX->(aj->I->Prop)->(aj->I->Prop)->aj->I->Prop
 | [],K,_,f,h=>K f h
 | o::rest,K,E,f,h=>match h4 a o.guard f with
  | some true=>iE P o (n0 P a rest K E) E f h
  | some false=>n0 P a rest K E (f.put o.dst (.tuple [])) h
  | none=>False
def codeOk(n:Nat):aO4->Bool
 | .region _ i _=>i.toList.all λo=>s7 n o.dst
 | .seq a b=>codeOk n a&&codeOk n b
 | .cond c a b=>codeOk n a&&codeOk n b
 | .block _ b=>codeOk n b
 | .loop b=>codeOk n b
 | .scope b=>codeOk n b
 | .rangeFunc ..=>false
 | .refuse _=>false
 | _=>true
theorem aks{P:aOR}{o:aOX}{bF:aOW->V}{h:I}{s:Step}(a:ey P o bF h=some s)(j:Option Nat)(i:aOW->aOU):o.semAt j i=execOp i o :=
 aOX.semAt_eq j i o λc av=>by unfold ey at a;rw[av]at a;simp at a
theorem Uk{F:aPc}(Q:u2 F){rm:Nat}{P:aOR}{n:Nat}{o:aOX}(R:s7 n o.dst=true){ρ0 ρ:Ren}{B:Nat}{G w:aOV}{f:aj}{h:I}{a:Act}{next exc:aj->I->Prop}
  {i:Act->aOV->Prop} {W:Exit->Act->aOV->Prop} (m:ρ0.le ρ) (C:a1 ρ B G h w) (E:eE ρ n f a) (u:iE P o next exc f h)
  (S:∀ ρ f h a w,ρ0.le ρ->a1 ρ B G h w->eE ρ n f a->next f h->i a w) (Y:∀ ρ f h a w T,ρ0.le ρ->a1 ρ B G h w->eE ρ n f a->DP T->exc f h->W (.panic T) a w) :
  o.wpIn F rm P a w i W:=by
 unfold iE at u;unfold aOX.wpIn;refine⟨λf _=>Q.fn f,?_⟩;have L:=E.eval C.heap;have Z:F.depth.isSome=true->1<=rm:=λU=>by rw[Q.depth]at U;cases U
 have M:∀v h',k5 P (execOp a.eval o) ρ B G w v h'->next (f.put o.dst v) h'->aOX.uponIn F rm P o a i W ((execOp a.eval o).run P w):=λv h' N aB=>by
  obtain⟨ρ',v',w',A,H,D,q⟩:=N;rcases A with A|⟨A,rfl⟩
  ·rw[A,aOX.uponIn_value];exact S ρ' _ _ _ _ (m.trans q) D ((E.mono q).put H o.dst R) aB
  ·rw[A,aOX.uponIn_skip];exact S ρ' _ _ _ _ (m.trans q) D ((E.mono q).put H o.dst R) aB
 cases z:ey P o (f.eval h) h with
 | none=>simp[z]at u
 | some s=>
  rw[aks z];cases s with
  | val v h'=>simp only[z]at u;exact M v h' (akn z C L) u
  | alts l=>
   simp only[z]at u;obtain⟨v,h',hm,N⟩:=akq z C L;exact M v h' N (u v h' hm)
  | panic=>
   simp only[z]at u;obtain⟨t,v',A⟩:=akr z C L;rw[A,aOX.uponIn_panic];exact Y ρ f h a w _ m C E ⟨t,v',rfl⟩ u
  | call g args=>
   simp only[z]at u;obtain⟨j,A,aT⟩:=ako z C L;rw[A,aOX.uponIn_enter];refine⟨Z,(Q.calls (u ρ B G w j C aT)).mono λe w' U=>?_⟩;rcases U with⟨ρ',r,di,h',O,H,D,q,X⟩|⟨ρ',T,h',O,o3,D,q,bN⟩
   ·subst O;exact S ρ' _ _ _ _ (m.trans q) D ((E.mono q).put H o.dst R) X
   ·subst O;exact Y ρ' f h' a w' T (m.trans q) D (E.mono q) o3 bN
  | round l args=>
   simp only[z]at u;obtain⟨j,A,aT⟩:=akp z C L;obtain⟨fn,aa,assign,body,N,aJ⟩:=u ρ B G w j C aT;rw[A,N,aOX.uponIn_round];refine⟨Z,(Q.round aJ).mono λe w' U=>?_⟩;obtain⟨ρ',r,di,h',O,H,D,q,X⟩:=U;subst O;exact S ρ' _ _ _ _ (m.trans q) D ((E.mono q).put H o.dst R) X
theorem PE{F:aPc}(u:u2 F){rm:Nat}{P:aOR}{n:Nat}{i:Array aOX}(A:i.toList.all (λo=>s7 n o.dst)=true){Q:cC->aj->I->Prop}{ρ0:Ren}{B:Nat}{D:aOV} :
  ∀(l:List aOX) (k:Nat),l=i.toList.drop k->∀(ρ:Ren) (f:aj) (h:I) (a:Act) (w:aOV),ρ0.le ρ->a1 ρ B D h w->eE ρ n f a ->
   n0 P i.toList l (Q .normal) (Q .panic) f h->wpOpsIn F rm P i (mM n B D ρ0 Q) (List.range' k l.length) a w
 | [],k,C,ρ,f,h,a,w,j,q,m,s=>by
  simp only[ayK,List.range'_zero,wpOpsIn];exact⟨ρ,.normal,f,h,trivial,q,m,j,s⟩
 | o::rest,k,C,ρ,f,h,a,w,j,q,m,s=>by
  have E:i.toList[k]?=some o:=by
   have:=congrArg (·[0]?) C;simpa using this.symm
  have G:rest=i.toList.drop (k+1):=by
   have:=congrArg List.tail C;simpa [List.tail_drop]using this
  have L:i[k]?=some o:=by simpa using E
  have H:s7 n o.dst=true:=(ayL.1 A) o (azq E);simp only[axW,List.range'_succ,wpOpsIn,L];unfold n0 at s;cases z:h4 i.toList o.guard f with
  | none=>simp[z]at s
  | some b=>
   rw[PD m i o z];cases b with
   | true=>
    simp only[z]at s;simp only[if_true];exact Uk u H j q m s (fun ρ f h a w j q m M=>PE u A rest (k+1) G ρ f h a w j q m M)
     (fun ρ f h a w R j q m N O=>⟨ρ,.panic,f,h,N,q,m,j,O⟩)
   | false=>
    simp only[z]at s;simp only[azs,if_false];exact⟨λf _=>u.fn f,PE u A rest (k+1) G ρ _ _ _ _ j q (m.put (Km _) o.dst H) s⟩
theorem aS.region{P:aOR}{n id:Nat}{ops:Array aOX}(i:ops.toList.all (λo=>s7 n o.dst)=true){Q:cC->aj->I->Prop}{f:aj}{h:I}
  (j:n0 P ops.toList ops.toList (Q .normal) (Q .panic) f h):aS P n (.region id ops false) Q f h:=by
 intro ρ B z a w s u;refine wpIn_wide.1 (wpIn_region (n:=0) ?_);have:=PE u2.wide (rm:=0) (P:=P) i (ρ0:=ρ) ops.toList 0 (by simp) ρ f h a w (Ren.le.refl ρ) s u j
 rwa[Array.length_toList,<-List.range_eq_range']at this
def Pure(P:aOR)(bE:aOZ)(args:List V)(h:I)(v:V):Prop:=au P bE args h λr h'=>r=v/\h'=h
def DQ(P:aOR)(o:aOX)(h:I)(f:aj)(v:V):Prop :=
 ey P o (f.eval h) h=some (.val v h)\/∃g args,ey P o (f.eval h) h=some (.call g args)/\Pure P g args h v
def mN(P:aOR)(a:List aOX)(es:List Nat)(K E:aj->I->Prop):Nat->List aOX->aj->I->Prop
 | _,[],f,h=>K f h
 | k,o::rest,f,h=>if es.contains k then(match h4 a o.guard f with
   | some true=>iE P o (λi h'=>mN P a es K E (k+1) rest i h') E f h
   | some false=>mN P a es K E (k+1) rest (f.put o.dst (.tuple [])) h
   | none=>False)
  else(match h4 a o.guard f with
   | some true=>∃v,DQ P o h f v/\mN P a es K E (k+1) rest (f.put o.dst v) h
   | some false=>mN P a es K E (k+1) rest (f.put o.dst (.tuple [])) h
   | none=>False)
def sT(P:aOR)(n:Nat):aO4->(cC->aj->I->Prop)->aj->I->Prop
 | .skip,Q,f,h=>Q .normal f h
 | .region id i false,Q,f,h=>n0 P i.toList i.toList (Q .normal) (Q .panic) f h
 | .region id i true,Q,f,h=>aS P n (.region id i true) Q f h
 | .seq a b,Q,f,h=>sT P n a (andThen (λf h=>sT P n b Q f h) Q) f h
 | .cond c a b,Q,f,h=>match f.eval h c with
  | .bool true=>sT P n a Q f h
  | .bool false=>sT P n b Q f h
  | _=>False
 | .block id b,Q,f,h=>sT P n b (IX id Q) f h
 | .loop b,Q,f,h=>aS P n (.loop b) Q f h
 | .scope b,Q,f,h=>aS P n (.scope b) Q f h
 | .exit id,Q,f,h=>Q (.exit id) f h
 | .goto l,Q,f,h=>Q (.goto l) f h
 | .label _,Q,f,h=>Q .normal f h
 | .ret,Q,f,h=>Q .ret f h
 | _,_,_,_=>False
theorem FO{P:aOR}{n:Nat}:∀(c:aO4) (Q:cC->aj->I->Prop) (f:aj) (h:I),codeOk n c=true->sT P n c Q f h->aS P n c Q f h
 | .skip,Q,f,h,_,i=>.skip i
 | .region id m false,Q,f,h,j,i=>.region (by simpa [codeOk]using j) i
 | .region id m true,Q,f,h,_,i=>i
 | .seq a b,Q,f,h,j,i=>by
  simp only[codeOk,ajC]at j;refine .seq ((FO a _ f h j.1 i).mono λe q h' U=>?_);cases e with
  | normal=>exact FO b Q q h' j.2 U
  | _=>exact U
 | .cond c a b,Q,f,h,j,i=>by
  simp only[codeOk,ajC]at j;unfold sT at i;split at i
  ·rename_i av;exact .cond av (FO a Q f h j.1 i)
  ·rename_i av;exact .cond av (FO b Q f h j.2 i)
  ·exact i.elim
 | .block id b,Q,f,h,j,i=>.block (FO b _ f h (by simpa [codeOk]using j) i)
 | .loop b,Q,f,h,_,i=>i
 | .scope b,Q,f,h,_,i=>i
 | .exit id,Q,f,h,_,i=>.exit i
 | .goto l,Q,f,h,_,i=>.goto i
 | .label _,Q,f,h,_,i=>.label i
 | .ret,Q,f,h,_,i=>.ret i
 | .rangeFunc ..,Q,f,h,j,_=>by simp[codeOk]at j
 | .refuse _,Q,f,h,j,_=>by simp[codeOk]at j
def iO(args:List V):aj:=λt=>args.getD t .top
def qa(P:aOR)(f:aj)(h:I):aO8->Option V
 | .tmp t=>some (f t)
 | .cell a t=>m9 P t (f a) h
def sb(P:aOR)(rs:List aO8)(f:aj)(h:I):Option V :=
 match rs with
 | [r]=>qa P f h r
 | _=>match rs.mapM (qa P f h)with
  | some a=>some (.tuple a)
  | none=>none
def vo(P:aOR)(fn:Func)(R:V->I->Prop)(E:I->Prop):cC->aj->I->Prop
 | .normal,f,h | .ret,f,h=>match sb P fn.results.toList f h with
  | some r=>R r h
  | none=>False
 | .panic,f,h=>E h
 | _,_,_=>False
theorem akt{P:aOR}{ρ:Ren}{B n:Nat}{q w:aOV}{f:aj}{h:I}{a:Act}(s:a1 ρ B q h w)(j:eE ρ n f a){g:aO8->Sem aOU}
  (u:∀t,g (.tmp t)=pure (a.tmps.getD t undef)) (z:∀c t,g (.cell c t)=(do loadVar t (<-asAddr (a.tmps.getD c undef)))) {r:aO8} {v:V} (i:qa P f h r=some v) :
  ∃v',(g r).run P w=.ok v' w/\aE ρ v v':=by
 cases r with
 | tmp t=>
  obtain rfl:f t=v:=by simpa [qa]using i
  rw[u];exact⟨_,Sem.run_pure ..,j.tmps t⟩
 | cell c t=>
  simp only[qa]at i;obtain⟨⟨A,aT⟩,v',m,C⟩:=ZA i s (j.tmps c);refine⟨v',?_,C⟩;rw[z];rw[aT]at m⊢;simpa [Instr.loadAt,Instr.sureAddr,asAddr]using m
theorem Ul{P:aOR}{ρ:Ren}{B n:Nat}{C w:aOV}{f:aj}{h:I}{a:Act}(q:a1 ρ B C h w)(s:eE ρ n f a){g:aO8->Sem aOU}
  (u:∀t,g (.tmp t)=pure (a.tmps.getD t undef)) (z:∀c t,g (.cell c t)=(do loadVar t (<-asAddr (a.tmps.getD c undef)))):∀(rs:List aO8) (vs:List V),rs.mapM (qa P f h)=some vs ->
  vs.length=rs.length/\∃A,(rs.mapM g).run P w=.ok A w/\a6 ρ vs A
 | [],vs,i=>by
  simp at i;subst i;exact⟨rfl,[],by simp,.nil ρ⟩
 | r::rs,vs,i=>by
  simp only[aE3,Option.bind_eq_bind,Option.pure_def]at i;cases j:qa P f h r with
  | none=>simp[j]at i
  | some v=>
   cases m:rs.mapM (qa P f h)with
   | none=>simp[j,m]at i
   | some D=>
    simp[j,m]at i;subst i;obtain⟨E,F,G⟩:=akt q s u z j;obtain⟨H,L,M,N⟩:=Ul q s u z rs D m;refine⟨by simp[H],E::L,?_,.cons G N⟩
    simp only[aE3,Sem.run_bind,F,M,aO3.andThen_ok,Sem.run_pure]
def FP(tmps:Array aOU):aO8->Sem aOU
 | .tmp t=>pure (tmps.getD t undef)
 | .cell a t=>do loadVar t (<-asAddr (tmps.getD a undef))
theorem aku(fn:Func)(tmps:Array aOU):results fn tmps=(do let vs <-fn.results.mapM (FP tmps);pure (if h:vs.size=1 then vs[0]else .tuple vs)):=rfl
theorem Um{P:aOR}{ρ:Ren}{B n:Nat}{D w:aOV}{f:aj}{h:I}{a:Act}{fn:Func}(u:a1 ρ B D h w)(z:eE ρ n f a){r:V}(i:sb P fn.results.toList f h=some r) :
  ∃A,(results fn a.tmps).run P w=.ok A w/\aE ρ r A:=by
 rw[aku,Array.mapM_eq_mapM_toList];unfold sb at i;split at i
 ·rename_i C m;have E:[C].mapM (qa P f h)=some [r]:=by simp[i]
  rw[m];obtain⟨_,q,s,j⟩:=Ul u z (g:=FP a.tmps) (λ_=>rfl) (λ_ _=>rfl) [C] [r] E;obtain⟨F,S,rfl,G,H⟩:=j.dT;obtain rfl:=H.eq_nil;refine⟨F,?_,G⟩;simp only[Sem.run_bind,Sem.run_map,s,aO3.andThen_ok];simp
 ·rename_i L;split at i
  case h_2=>cases i
  rename_i M N;obtain rfl:_=r:=by simpa using i
  obtain⟨O,q,s,j⟩:=Ul u z (g:=FP a.tmps) (λ_=>rfl) (λ_ _=>rfl) _ M N;have Q:q.length≠1:=by
   rw[<-j.1,O];intro av;obtain⟨r,R⟩:=List.length_eq_one_iff.1 av;exact L r R
  refine⟨.tuple q.toArray,?_,.tuple j.arr.1 j.arr.2⟩;simp only[Sem.run_bind,Sem.run_map,s,aO3.andThen_ok];simp[Q]
theorem Un{ρ:Ren}{n:Nat}{args:List V}{args':Array aOU}(aT:a6 ρ args args'.toList)(i:args.length<=n)(q:ρ.dfr=[]):eE ρ n (iO args) { tmps:=args'++azZ (n-args'.size) undef,defers:=[] }:=by
 have bl:args'.size=args.length:=by have:=aT.1;simpa using this.symm
 refine⟨λt=>?_,by simp;omega,q.symm⟩
 simp only[iO];by_cases j:t<args.length
 ·obtain⟨m,s,u⟩:=aT.get (IA j);have z:args'[t]?=some m:=by simpa using s
  simp only[ayO,IA j,Option.getD_some];have:(args'++azZ (n-args'.size) undef).getD t undef=m:=by
   rw[Array.getD_eq_getD_getElem?,aE1 (by omega),z]
   rfl
  rw[this];exact u
 ·simp only[ayO,List.getElem?_eq_none (show args.length<=t by omega),Option.getD_none]
  exact .top _
theorem b4.enter{P:aOR}{bE:aOZ}{fn:Func}{c:aO4}(N:P.funcs[bE]?=some fn)(ak:fn.body=some c)(O:codeOk fn.ntmps c=true){args:List V}(A:args.length<=fn.ntmps)
  {h:I} {R:V->I->Prop} {E:I->Prop} (Q:sT P fn.ntmps c (vo P fn R E) (iO args) h):b4 P bE args h R E:=by
 intro ρ B F w G S aT;refine calls_of_wp N ak ?_;have C:∀(ρ':Ren) (f:aj) (h':I) (j:Act) (w':aOV),Ren.le { ρ with dfr:=[] } ρ'->a1 ρ' B F h' w'->eE ρ' fn.ntmps f j->(match sb P fn.results.toList f h' with|some r=>R r h'|none=>False) ->
   j.defers=[]/\∃v,(results fn j.tmps).run P w'=.ok v w'/\((∃(ρ':Ren) (r:V) (D:aOU) (h':I),Ending.returned v=.returned D/\aE ρ' r D/\a1 ρ' B F h' w'/\ρ.le ρ'/\R r h') \/
    (∃(ρ':Ren) (L:List aPb) (h':I),Ending.returned v=.panicked L/\DP L/\a1 ρ' B F h' w'/\ρ.le ρ'/\E h')):=by
  intro ρ' f h' j w' s u z i;refine⟨z.defers.trans s.dfr,?_⟩;cases H:sb P fn.results.toList f h' with
  | none=>simp[H]at i
  | some r=>
  simp only[H]at i;obtain⟨D,T,W⟩:=Um u z H;exact⟨D,T,.inl ⟨_,r,D,h',rfl,W.dfr ρ.dfr,u.dfr ρ.dfr,s.r5,i⟩⟩
 refine wp_mono (FO c _ _ h O Q { ρ with dfr:=[] } B F _ w (S.dfr []) (Un (aT.dfr []) A rfl)) λe j w' ⟨ρ',x,f,h',M,u,z,s,i⟩=>?_;cases x<;>cases e<;>simp only[r9]at M
 ·exact C ρ' f h' j w' s u z i
 ·exact i.elim
 ·exact i.elim
 ·exact C ρ' f h' j w' s u z i
 ·exact⟨z.defers.trans s.dfr,.inr ⟨_,_,h',rfl,M,u.dfr ρ.dfr,s.r5,i⟩⟩
theorem nr{α:Sort _}{a b:α}(h:a=b):a=b:=h
class inductive sc where
 | fn (run:cC->aj->I->Prop)
 | seq (P:aOR) (n:Nat) (b:aO4) (Q:sc)
 | hz (id:Nat) (Q:sc)
def sc.go:sc->cC->aj->I->Prop
 | .fn r=>r
 | .seq P n b Q=>andThen (λf h=>sT P n b Q.go f h) Q.go
 | .hz id Q=>IX id Q.go
class inductive fz where
 | fn (run exc:aj->I->Prop)
 | out (Q:sc)
 | ops (P:aOR) (ol l:List aOX) (K:fz)
 | rest (P:aOR) (ol:List aOX) (es:List Nat) (k:Nat) (l:List aOX) (K:fz)
def fz.exc:fz->aj->I->Prop
 | .fn _ e=>e
 | .out Q=>Q.go .panic
 | .ops _ _ _ K=>K.exc
 | .rest _ _ _ _ _ K=>K.exc
def fz.go:fz->aj->I->Prop
 | .fn r _=>r
 | .out Q=>Q.go .normal
 | .ops P i l K=>n0 P i l K.go K.exc
 | .rest P i es k l K=>mN P i es K.go K.exc k l
def lJ(P:aOR)(n:Nat)(c:aO4)[Q:sc](f:aj)(h:I):Prop:=sT P n c Q.go f h
def ik(P:aOR)(a l:List aOX)[K:fz](f:aj)(h:I):Prop:=n0 P a l K.go K.exc f h
def eW(P:aOR)(o:aOX)[K:fz](f:aj)(h:I):Prop:=iE P o K.go K.exc f h
def gi(x:cC)[Q:sc](f:aj)(h:I):Prop:=Q.go x f h
def jq[K:fz](f:aj)(h:I):Prop:=K.go f h
def PF(v:V)[p:Kn][q:Kn]:Prop:=match v with | .bool true=>p.prop | .bool false=>q.prop|_=>False
section
variable {P:aOR} {n id:Nat} {ops:Array aOX} {l:List aOX} {Q:sc} {K:fz} {f:aj} {h:I}
theorem akv:@lJ P n .skip Q f h=@gi .normal Q f h:=nr rfl
theorem akw:@lJ P n (.region id ops false) Q f h=@ik P ops.toList ops.toList (.out Q) f h:=nr rfl
theorem akx{a b:aO4}:@lJ P n (.seq a b) Q f h=@lJ P n a (.seq P n b Q) f h:=nr rfl
theorem aky{p q:Kn}:@PF (.bool true) p q=p.prop:=nr rfl
theorem akz{p q:Kn}:@PF (.bool false) p q=q.prop:=nr rfl
theorem akA{c:aOW}{a b:aO4}:@lJ P n (.cond c a b) Q f h=@PF (f.eval h c) ⟨@lJ P n a Q f h⟩ ⟨@lJ P n b Q f h⟩:=by
 show(match f.eval h c with | .bool true=>sT P n a Q.go f h | .bool false=>sT P n b Q.go f h|_=>False)=_
 unfold PF;cases f.eval h c with
 | bool t=>cases t<;>rfl
 | _=>rfl
theorem akB{b:aO4}:@lJ P n (.block id b) Q f h=@lJ P n b (.hz id Q) f h:=nr rfl
theorem akC:@lJ P n (.exit id) Q f h=@gi (.exit id) Q f h:=nr rfl
theorem akD:@lJ P n (.goto id) Q f h=@gi (.goto id) Q f h:=nr rfl
theorem akE:@lJ P n .ret Q f h=@gi .ret Q f h:=nr rfl
theorem akF{b:aO4}:@lJ P n (.loop b) Q f h=aS P n (.loop b) Q.go f h:=nr rfl
theorem akG{b:aO4}:@lJ P n (.scope b) Q f h=aS P n (.scope b) Q.go f h:=nr rfl
theorem akH:@lJ P n (.region id ops true) Q f h=aS P n (.region id ops true) Q.go f h:=nr rfl
theorem akI{b:aO4}:@gi .normal (.seq P n b Q) f h=@lJ P n b Q f h:=nr rfl
theorem akJ{b:aO4}{j:Nat}:@gi (.exit j) (.seq P n b Q) f h=@gi (.exit j) Q f h:=nr rfl
theorem akK{b:aO4}{j:Nat}:@gi (.goto j) (.seq P n b Q) f h=@gi (.goto j) Q f h:=nr rfl
theorem akL{b:aO4}:@gi .ret (.seq P n b Q) f h=@gi .ret Q f h:=nr rfl
theorem akM{b:aO4}:@gi .panic (.seq P n b Q) f h=@gi .panic Q f h:=nr rfl
theorem akN:@gi .normal (.hz id Q) f h=@gi .normal Q f h:=nr rfl
theorem akO{j:Nat}:@gi (.exit j) (.hz id Q) f h=if j=id then @gi .normal Q f h else @gi (.exit j) Q f h:=nr rfl
theorem akP:@gi .ret (.hz id Q) f h=@gi .ret Q f h:=nr rfl
theorem akQ:@gi .panic (.hz id Q) f h=@gi .panic Q f h:=nr rfl
theorem akR{x:cC}{Q:cC->aj->I->Prop}:@gi x (.fn Q) f h=Q x f h:=nr rfl
theorem akS:@jq (.out Q) f h=@gi .normal Q f h:=nr rfl
theorem akT{a:List aOX}:@jq (.ops P a l K) f h=@ik P a l K f h:=nr rfl
theorem akU{K E:aj->I->Prop}:@jq (.fn K E) f h=K f h:=nr rfl
theorem akV{a:List aOX}:@ik P a [] K f h=@jq K f h:=nr rfl
theorem ZV{x:cC}:sc.go Q x f h=@gi x Q f h:=nr rfl
theorem akW:fz.exc (.out Q) f h=@gi .panic Q f h:=nr rfl
theorem akX{a:List aOX}:fz.exc (.ops P a l K) f h=fz.exc K f h:=nr rfl
theorem akY{K:aj->I->Prop}{Q:cC->aj->I->Prop}:andThen K Q .normal f h=K f h:=nr rfl
theorem akZ{K:aj->I->Prop}{Q:cC->aj->I->Prop}:andThen K Q (.exit id) f h=Q (.exit id) f h:=nr rfl
theorem ak0{K:aj->I->Prop}{Q:cC->aj->I->Prop}:andThen K Q .ret f h=Q .ret f h:=nr rfl
theorem IY{c:aO4}{Q:cC->aj->I->Prop}(a:codeOk n c=true)(i:@lJ P n c (.fn Q) f h):aS P n c Q f h:=FO c Q f h a i
theorem b4.tG{bE:aOZ}{fn:Func}{c:aO4}(j:P.funcs[bE]?=some fn)(ak:fn.body=some c)(s:codeOk fn.ntmps c=true){args:List V}(i:args.length<=fn.ntmps)
  {h:I} {R:V->I->Prop} {E:I->Prop} (u:@lJ P fn.ntmps c (.fn (vo P fn (λr h=>@r8 ⟨R r h⟩) (λh=>@r8 ⟨E h⟩))) (iO args) h):b4 P bE args h R E:=b4.enter j ak s i u
theorem au.tG{bE:aOZ}{fn:Func}{c:aO4}(j:P.funcs[bE]?=some fn)(ak:fn.body=some c)(s:codeOk fn.ntmps c=true){args:List V}(i:args.length<=fn.ntmps)
  {h:I} {R:V->I->Prop} (u:@lJ P fn.ntmps c (.fn (vo P fn (λr h=>@r8 ⟨R r h⟩) λ_=>False)) (iO args) h):au P bE args h R:=b4.enter j ak s i u
variable {d:Option Tmp} {ty:aOS} {pos:String} {cw:Array Edge} {ol:List aOX}
def lK(o:Option V)(d:Option Tmp)[K:fz](f:aj)(h:I):Prop:=match o with|some v=>K.go (f.put d v) h|none=>False
def tH(o:Option (V×I))(d:Option Tmp)[K:fz](f:aj):Prop:=match o with|some (v,h)=>K.go (f.put d v) h|none=>False
def thenS(o:Option I)(d:Option Tmp)[K:fz](f:aj):Prop:=match o with|some h=>K.go (f.put d .top) h|none=>False
theorem ak1{v:V}:@lK (some v) d K f h=@jq K (f.put d v) h:=nr rfl
theorem ak2{v:V}{h':I}:@tH (some (v,h')) d K f=@jq K (f.put d v) h':=nr rfl
theorem ak3{h':I}:@thenS (some h') d K f=@jq K (f.put d .top) h':=nr rfl
theorem GT{op:Op}:@ik P ol (⟨d,op,ty,pos,cw,none⟩::l) K f h=@eW P ⟨d,op,ty,pos,cw,none⟩ (.ops P ol l K) f h:=nr rfl
def AV:List aOX->Nat->Option Tmp
 | [],_=>none
 | o::_,0=>o.dst
 | _::r,j+1=>AV r j
theorem Uo:∀(l:List aOX) (j:Nat),AV l j=(l[j]?).bind (·.dst)
 | [],j=>by simp[AV]
 | o::r,0=>by simp[AV]
 | o::r,j+1=>by simp[AV,Uo r j]
def BD(v:V)(o:aOX)(P:aOR)(ol l:List aOX)[K:fz](f:aj)(h:I):Prop :=
 match v,o.guard with
 | .bool c,some (_,b)=>if c=b then @eW P o (.ops P ol l K) f h else @ik P ol l K (f.put o.dst (.tuple [])) h
 | .top,_=>False
 | _,_=>@ik P ol l K (f.put o.dst (.tuple [])) h
theorem ak4{op:Op}{j:Nat}{b:Bool}:@ik P ol (⟨d,op,ty,pos,cw,some (j,b)⟩::l) K f h =
  (match AV ol j with|some t=>@BD (f t) ⟨d,op,ty,pos,cw,some (j,b)⟩ P ol l K f h|none=>@ik P ol l K (f.put d (.tuple [])) h):=by
 rw[Uo];show n0 P ol (⟨d,op,ty,pos,cw,some (j,b)⟩::l) K.go K.exc f h=_;simp only[n0,h4];cases a:(ol[j]?).bind (·.dst)with
 | none=>rfl
 | some t=>
  simp only[BD];cases i:f t<;>try rfl
  rename_i c;simp only;by_cases av:c=b
  ·subst av;simp only[beq_self_eq_true,if_true];rfl
  ·have:(c==b)=false:=by simp[av]
   simp only[this,if_neg av];rfl
theorem ak5{b:Bool}{op:Op}{j:Nat}:@BD (.bool b) ⟨d,op,ty,pos,cw,some (j,b)⟩ P ol l K f h=@eW P ⟨d,op,ty,pos,cw,some (j,b)⟩ (.ops P ol l K) f h:=if_pos rfl
theorem ak6{op:Op}{j:Nat}:@BD (.bool true) ⟨d,op,ty,pos,cw,some (j,false)⟩ P ol l K f h=@ik P ol l K (f.put d (.tuple [])) h:=nr rfl
theorem ak7{op:Op}{j:Nat}:@BD (.bool false) ⟨d,op,ty,pos,cw,some (j,true)⟩ P ol l K f h=@ik P ol l K (f.put d (.tuple [])) h:=nr rfl
theorem ak8{op:Op}{j:Nat}{b:Bool}{vs:List V}:@BD (.tuple vs) ⟨d,op,ty,pos,cw,some (j,b)⟩ P ol l K f h=@ik P ol l K (f.put d (.tuple [])) h:=nr rfl
theorem ak9{o:aOX}{r:List aOX}:AV (o::r) 0=o.dst:=nr rfl
theorem ala{o:aOX}{r:List aOX}{j:Nat}:AV (o::r) (j+1)=AV r j:=nr rfl
variable {g:Option (Nat×Bool)}
theorem tI{o:aOX}{x:Option V}(a:ey P o (f.eval h) h=hh x h):@eW P o K f h=@lK x o.dst K f h:=by
 unfold eW iE;rw[a]<;>cases x<;>rfl
theorem i5{o:aOX}{x:Option (V×I)}(a:ey P o (f.eval h) h=gz x):@eW P o K f h=@tH x o.dst K f:=by
 unfold eW iE;rw[a]<;>cases x<;>rfl
theorem ZW{o:aOX}{x:Option I}(a:ey P o (f.eval h) h=tD x):@eW P o K f h=@thenS x o.dst K f:=by
 unfold eW iE;rw[a]<;>cases x<;>rfl
theorem alb{x:aOW}:@eW P ⟨d,.move x,ty,pos,cw,g⟩ K f h=@jq K (f.put d (f.eval h x)) h:=nr rfl
theorem alc{x:aOW}:@eW P ⟨d,.assign x,ty,pos,cw,g⟩ K f h=@jq K (f.put d (f.eval h x)) h:=nr rfl
def IZ(c a b:V):Option V:=match c with | .bool t=>some (if t then a else b)|_=>none
theorem ald{c a b:aOW}:@eW P ⟨d,.pick c a b,ty,pos,cw,g⟩ K f h=@lK (IZ (f.eval h c) (f.eval h a) (f.eval h b)) d K f h:=by
 unfold eW iE ey IZ lK;simp only;cases f.eval h c<;>rfl
theorem ale{a b:V}:IZ (.bool true) a b=some a:=nr rfl
theorem alf{a b:V}:IZ (.bool false) a b=some b:=nr rfl
theorem alg{e:aOS}:@eW P ⟨d,.alloc e,ty,pos,cw,g⟩ K f h=@tH (IF P e h) d K f:=i5 rfl
theorem alh{e:aOS}{x:aOW}:@eW P ⟨d,.box e x,ty,pos,cw,g⟩ K f h=@tH (xn e (f.eval h x) h) d K f:=i5 rfl
theorem ali{t:aOS}{a:Array (Nat×aOW)}:@eW P ⟨d,.build t a,ty,pos,cw,g⟩ K f h=@lK (FJ P t (a.toList.map λp=>(p.1,f.eval h p.2))) d K f h:=tI rfl
theorem alj{t:aOS}{len:Nat}{a:Array (Nat×aOW)}:@eW P ⟨d,.buildSlice t len a,ty,pos,cw,g⟩ K f h=@tH (h3 P t len (a.toList.map λp=>(p.1,f.eval h p.2)) h) d K f:=i5 rfl
theorem alk{t:aOS}{a:aOW}:@eW P ⟨d,.load t a,ty,pos,cw,g⟩ K f h=@lK (m9 P t (f.eval h a) h) d K f h:=tI rfl
theorem alm{t:aOS}{a x:aOW}:@eW P ⟨d,.store t a x,ty,pos,cw,g⟩ K f h=@thenS (ID P t (f.eval h a) (f.eval h x) h) d K f:=ZW rfl
def zw(x:V):Option V:=match x with | .ptr i o=>some (.ptr i o) | .at a=>some (.at a) | .func (.func bE) j m=>some (.func (.func bE) j m)|_=>none
theorem aln{i o:Nat}:zw (.ptr i o)=some (.ptr i o):=nr rfl
theorem ws{x:aOW}:@eW P ⟨d,.nilCheck x,ty,pos,cw,g⟩ K f h=@lK (zw (f.eval h x)) d K f h:=by
 unfold eW iE ey zw lK;simp only;generalize f.eval h x=y;cases y<;>try rfl
 rename_i fn xs ys;cases fn<;>rfl
theorem alo{op:BinOp}{t a:aOS}{x y:aOW}:@eW P ⟨d,.binOp op t x y a,ty,pos,cw,g⟩ K f h=@lK (cV P op t x y (f.eval h x) (f.eval h y)) d K f h:=tI rfl
theorem alp{op:UnOp}{t:aOS}{x:aOW}:@eW P ⟨d,.unOp op t x,ty,pos,cw,g⟩ K f h=@lK (zn P op (f.eval h x)) d K f h:=tI rfl
def Up(o:Option V)(b:Option (V×I))(d:Option Tmp)[K:fz](f:aj)(h:I):Prop:=match o with|some v=>K.go (f.put d v) h|none=>@tH b d K f
theorem alq{v:V}{b:Option (V×I)}:@Up (some v) b d K f h=@jq K (f.put d v) h:=nr rfl
theorem alr{s t:aOS}{x:aOW}:@eW P ⟨d,.convert s t x,ty,pos,cw,g⟩ K f h=@Up (oL P s t (f.eval h x) h) (AU P s t (f.eval h x) h) d K f h:=by
 have a:ey P ⟨d,.convert s t x,ty,pos,cw,g⟩ (f.eval h) h=(match oL P s t (f.eval h x) h with|some v=>some (.val v h)|none=>gz (AU P s t (f.eval h x) h)):=rfl
 unfold Up;cases av:oL P s t (f.eval h x) h with
 | some v=>
  rw[av]at a;exact tI (x:=some v) a
 | none=>
  rw[av]at a;exact i5 a
theorem als{t:aOS}{r:Option aOW}:@eW P ⟨d,.makeMap t r,ty,pos,cw,g⟩ K f h=@tH (Kc P t (r.map (f.eval h)) h) d K f:=i5 rfl
theorem alu{t:aOS}{x y:aOW}:@eW P ⟨d,.makeSlice t x y,ty,pos,cw,g⟩ K f h=@tH (AQ P t (f.eval h x) (f.eval h y) h) d K f:=i5 rfl
theorem alv{t:aOS}{x:aOW}{a i mx:Option aOW}:@eW P ⟨d,.slice t x a i mx,ty,pos,cw,g⟩ K f h=@lK (kx P t (f.eval h x) (a.map (f.eval h)) (i.map (f.eval h)) (mx.map (f.eval h))) d K f h:=tI rfl
theorem alw{t:aOS}{x:aOW}{k:Nat}:@eW P ⟨d,.fieldAddr t x k,ty,pos,cw,g⟩ K f h=@lK (FC P t (f.eval h x) k) d K f h:=tI rfl
theorem alx{t:aOS}{x y:aOW}:@eW P ⟨d,.indexAddr t x y,ty,pos,cw,g⟩ K f h=@lK (gP P t (f.eval h x) (f.eval h y)) d K f h:=tI rfl
theorem aly{t:aOS}{x y:aOW}:@eW P ⟨d,.index t x y,ty,pos,cw,g⟩ K f h=@lK (FK P t (f.eval h x) (f.eval h y)) d K f h:=tI rfl
theorem alz{t:aOS}{x y:aOW}{ok:Bool}:@eW P ⟨d,.lookup t x y ok,ty,pos,cw,g⟩ K f h=@lK (nB P t (f.eval h x) (f.eval h y) ok h) d K f h:=tI rfl
theorem alA{t:aOS}{m k x:aOW}:@eW P ⟨d,.mapUpdate t m k x,ty,pos,cw,g⟩ K f h=@thenS (vl P t (f.eval h m) (f.eval h k) (f.eval h x) h) d K f:=ZW rfl
theorem alB{t:aOS}{x:aOW}:@eW P ⟨d,.range t x,ty,pos,cw,g⟩ K f h=@tH (IP P t (f.eval h x) h) d K f:=i5 rfl
def PG(l:Option (List (V×I)))(d:Option Tmp)[K:fz](f:aj):Prop:=match l with|some l=>∀v h',(v,h')∈l->@jq K (f.put d v) h'|none=>False
theorem alC{it:aOW}:@eW P ⟨d,.next it false,ty,pos,cw,g⟩ K f h=@PG (Co (f.eval h it) h) d K f:=by
 unfold eW iE ey PG;simp only;cases Co (f.eval h it) h<;>rfl
theorem alD{x:aOW}:@eW P ⟨d,.entry x,ty,pos,cw,g⟩ K f h=@lK (IQ (f.eval h x) h) d K f h:=tI rfl
theorem alE{x:aOW}{t e:aOS}{ok:Bool}:@eW P ⟨d,.typeAssert x t e ok,ty,pos,cw,g⟩ K f h=@lK (jg P (f.eval h x) e ok) d K f h:=tI rfl
def tJ(x:V)(k:Nat):Option V:=match x with | .tuple a=>a[k]? | _=>none
theorem alF{v:V}{vs:List V}:tJ (.tuple (v::vs)) 0=some v:=nr rfl
theorem alG{v:V}{vs:List V}{k:Nat}:tJ (.tuple (v::vs)) (k+1)=tJ (.tuple vs) k:=by simp[tJ]
theorem alH{x:aOW}{k:Nat}:@eW P ⟨d,.extract x k,ty,pos,cw,g⟩ K f h=@lK (tJ (f.eval h x) k) d K f h:=by
 unfold eW iE ey tJ lK;simp only;cases f.eval h x with
 | tuple a=>simp only;cases a[k]?<;>rfl
 | _=>rfl
def FQ(b:Option Bool)(t:aOS)(x:V):Option V:=match b with|some false=>some (.iface t x)|_=>none
theorem alI{t:aOS}{x:V}:FQ (some false) t x=some (.iface t x):=nr rfl
theorem alJ{t:aOS}{x:aOW}:@eW P ⟨d,.makeInterface t x,ty,pos,cw,g⟩ K f h=@lK (FQ (DL P t) t (f.eval h x)) d K f h:=by
 unfold eW iE ey FQ lK;simp only;cases DL P t with
 | none=>rfl
 | some b=>cases b<;>rfl
theorem wt{fn:Fn}{xs a:Array aOW}:@eW P ⟨d,.makeFunc fn xs a,ty,pos,cw,g⟩ K f h=@jq K (f.put d (.func fn (xs.toList.map (f.eval h)) (a.toList.map (f.eval h)))) h:=nr rfl
def FR(x:V)[K:fz](f:aj)(h:I):Prop:=match x with | .iface _ _=>K.exc f h|_=>False
theorem alK{t:aOS}{v:V}:@FR (.iface t v) K f h=K.exc f h:=nr rfl
theorem alL{x:aOW}:@eW P ⟨d,.panic x,ty,pos,cw,g⟩ K f h=@FR (f.eval h x) K f h:=by
 unfold eW iE ey FR;simp only;cases f.eval h x<;>rfl
theorem alM{t:aOS}{x:aOW}:@eW P ⟨d,.call ⟨.builtin .len,#[x],#[t]⟩,ty,pos,cw,g⟩ K f h=@lK (dJ P t (f.eval h x) h) d K f h:=by
 unfold eW iE ey k4 p9 lK;simp only[axU,azu];cases dJ P t (f.eval h x) h<;>rfl
theorem alN{t tx:aOS}{x y:aOW}:@eW P ⟨d,.call ⟨.builtin .append,#[x,y],#[t,tx]⟩,ty,pos,cw,g⟩ K f h=@tH (ki P t tx (f.eval h x) (f.eval h y) h) d K f:=by
 unfold eW iE ey k4 p9 tH;simp only[axU,azu];cases ki P t tx (f.eval h x) (f.eval h y) h<;>rfl
theorem alO{t tx:aOS}{x y:aOW}:@eW P ⟨d,.call ⟨.builtin .copy,#[x,y],#[t,tx]⟩,ty,pos,cw,g⟩ K f h=@tH (xq P t (f.eval h x) (f.eval h y) h) d K f:=by
 unfold eW iE ey k4 p9 tH;simp only[axU,azu];cases xq P t (f.eval h x) (f.eval h y) h<;>rfl
theorem alP{t:aOS}{x:aOW}:@eW P ⟨d,.call ⟨.builtin .cap,#[x],#[t]⟩,ty,pos,cw,g⟩ K f h=@lK (vm P t (f.eval h x)) d K f h:=by
 unfold eW iE ey k4 p9 lK;simp only[axU,azu];cases vm P t (f.eval h x)<;>rfl
theorem alQ{t tx:aOS}{x y:aOW}:@eW P ⟨d,.call ⟨.builtin .delete,#[x,y],#[t,tx]⟩,ty,pos,cw,g⟩ K f h=@tH ((Cn P t (f.eval h x) (f.eval h y) h).map λh'=>(.tuple [],h')) d K f:=by
 unfold eW iE ey k4 p9 tH;simp only[axU,azu];cases Cn P t (f.eval h x) (f.eval h y) h<;>rfl
theorem alR{t:aOS}{x:aOW}:@eW P ⟨d,.call ⟨.builtin .clear,#[x],#[t]⟩,ty,pos,cw,g⟩ K f h=@tH ((DM P t (f.eval h x) h).map λh'=>(.tuple [],h')) d K f:=by
 unfold eW iE ey k4 p9 tH;simp only[axU,azu];cases DM P t (f.eval h x) h<;>rfl
def rz(P:aOR)(a:aOY)(ts:Array aOS)(ty:aOS)(cs:Array Bool)(x y:V):Option V :=
 match jv [x,y]with
 | some as=>match ed P (builtin a ts ty cs as.toArray)with
  | some (.value v)=>some (gy v)
  | _=>none
 | none=>none
theorem alS{t a:aOS}{x y:aOW}:@eW P ⟨d,.call ⟨.builtin .min,#[x,y],#[t,a]⟩,ty,pos,cw,g⟩ K f h=@lK (rz P .min #[t,a] ty (wj #[x,y]) (f.eval h x) (f.eval h y)) d K f h :=
 tI (by
  unfold ey k4 p9 rz hh;simp only[axU,azu];cases jv [f.eval h x,f.eval h y]with
  | none=>rfl
  | some as=>
   simp only;generalize ed P _=r;cases r with
   | none=>rfl
   | some n=>cases n<;>rfl)
theorem alT{t a:aOS}{x y:aOW}:@eW P ⟨d,.call ⟨.builtin .max,#[x,y],#[t,a]⟩,ty,pos,cw,g⟩ K f h=@lK (rz P .max #[t,a] ty (wj #[x,y]) (f.eval h x) (f.eval h y)) d K f h :=
 tI (by
  unfold ey k4 p9 rz hh;simp only[axU,azu];cases jv [f.eval h x,f.eval h y]with
  | none=>rfl
  | some as=>
   simp only;generalize ed P _=r;cases r with
   | none=>rfl
   | some n=>cases n<;>rfl)
theorem NE{ts:Array aOS}{cs:Array Bool}{k:aOT}{a b:Int}:rz P .min ts ty cs (.int k a) (.int k b)=some (.int k (min a b)):=by
 have e:(if b<a then b else a)=min a b:=by rw[Int.min_def];split<;>split<;>omega
 rw[<-e];rfl
theorem alU{ts:Array aOS}{cs:Array Bool}{k:aOT}{a b:Int}:rz P .max ts ty cs (.int k a) (.int k b)=some (.int k (max a b)):=by
 have e:(if a<b then b else a)=max a b:=by rw[Int.max_def];split<;>split<;>omega
 rw[<-e];rfl
def Kr(P:aOR)(bE:aOZ)(args:List V)(h:I)(d:Option Tmp)[K:fz](f:aj):Prop:=mC P bE=false/\∃v h',x9 P bE args h=some (v,h')/\K.go (f.put d v) h'
def m8(P:aOR)(bE:aOZ)(args:List V)(h:I)(d:Option Tmp)[K:fz](f:aj):Prop:=(mC P bE=true/\b4 P bE args h (λr h'=>K.go (f.put d r) h') (λh'=>K.exc f h'))\/@Kr P bE args h d K f
open Classical in
theorem alV{bE:aOZ}{args:Array aOW}{ts:Array aOS}:@eW P ⟨d,.call ⟨.value (.func bE),args,ts⟩,ty,pos,cw,g⟩ K f h=@m8 P bE (args.toList.map (f.eval h)) h d K f:=by
 unfold eW iE ey k4 m8 Kr;simp only[aj.eval];by_cases av:mC P bE=true
 ·simp[av]
 ·cases aT:x9 P bE (args.toList.map (f.eval h)) h with
  | none=>simp[av,aT]
  | some p=>obtain⟨v,h'⟩:=p;simp[av,aT];exact⟨λU=>⟨v,h',⟨rfl,rfl⟩,U⟩,λ⟨_,_,⟨ay,bc⟩,U⟩=>by subst ay;subst bc;exact U⟩
def PH(P:aOR)(a:V)(args:List V)(h:I)(d:Option Tmp)[K:fz](f:aj):Prop:=match a with | .func (.func bE) i j=>@m8 P bE (i++args++j) h d K f | .func (.yield l) [] []=>lI P l args h (λr h'=>K.go (f.put d r) h')|_=>False
theorem alW{t:Tmp}{args:Array aOW}{ts:Array aOS}:@eW P ⟨d,.call ⟨.value (.tmp t),args,ts⟩,ty,pos,cw,g⟩ K f h=@PH P (f t) (args.toList.map (f.eval h)) h d K f:=by
 unfold eW iE ey k4 PH m8 Kr;simp only[aj.eval];generalize f t=v;cases v<;>try rfl
 rename_i fn xs ys;cases fn<;>try rfl
 case yield l=>cases xs<;>cases ys<;>rfl
 rename_i bE;simp only;by_cases av:mC P bE=true
 ·simp[av]
 ·cases aT:x9 P bE (xs++args.toList.map (f.eval h)++ys) h with
  | none=>simp at aT;simp[av,aT]
  | some p=>obtain⟨v,h'⟩:=p;simp at aT;simp[av,aT];exact⟨λU=>⟨v,h',⟨rfl,rfl⟩,U⟩,λ⟨_,_,⟨ay,bc⟩,U⟩=>by subst ay;subst bc;exact U⟩
theorem alX{bE:aOZ}{xs a args:List V}:@PH P (.func (.func bE) xs a) args h d K f=@m8 P bE (xs++args++a) h d K f:=nr rfl
theorem alY{l:Nat}{args:List V}{R:V->I->Prop}(a:lI P l args h R)(i:∀r h',R r h'->@jq K (f.put d r) h'):@PH P (.func (.yield l) [] []) args h d K f:=a.mono i
theorem Uq{bE:aOZ}{args:List V}{R:V->I->Prop}(av:mC P bE=true)(a:au P bE args h R)(i:∀r h',R r h'->@jq K (f.put d r) h'):@m8 P bE args h d K f :=
 .inl ⟨av,a.e.mono i λ_ h=>h⟩
theorem AW{bE:aOZ}{args:List V}{R:V->I->Prop}{E:I->Prop}(av:mC P bE=true)(a:b4 P bE args h R E)(i:∀r h',R r h'->@jq K (f.put d r) h')(j:∀h',E h'->fz.exc K f h'):@m8 P bE args h d K f :=
 .inl ⟨av,a.mono i j⟩
theorem wd{bE:aOZ}{args:List V}{v:V}(av:mC P bE=true)(a:Pure P bE args h v)(i:@jq K (f.put d v) h):@m8 P bE args h d K f :=
 Uq av a λr h' ⟨ay,bc⟩=>by subst ay;subst bc;exact i
theorem ZX{bE:aOZ}{args:List V}{v:V}(av:mC P bE=false)(a:xw P bE)(aT:wh h args=some v)(i:@jq K (f.put d v) h):@m8 P bE args h d K f:=.inr ⟨av,v,h,akg a aT,i⟩
theorem alZ{t:Tmp}{v:V}{k:Nat}:aj.put f (some t) v k=if k=t then v else f k:=nr rfl
theorem al0{v:V}{k:Nat}:aj.put f none v k=f k:=nr rfl
theorem al1{t:Tmp}:aj.eval f h (.tmp t)=f t:=nr rfl
theorem eval_const{v:aOU}:aj.eval f h (.const v)=fC v:=nr rfl
theorem eval_func{k:aOZ}:aj.eval f h (.func k)=.func (.func k) [] []:=nr rfl
theorem Ks{k:Nat}{cs:List V}(a:h.glob k=some cs):aj.eval f h (.global k)=.at cs:=by simp[aj.eval,a]
theorem al2{a:V}{l:List V}:iO (a::l) 0=a:=nr rfl
theorem al3{a:V}{l:List V}{n:Nat}:iO (a::l) (n+1)=iO l n:=nr rfl
end
theorem al4{k:aOT}{n:Int}:fC (.int k n)=.int k n:=nr rfl
theorem al5{b:Bool}:fC (.bool b)=.bool b:=nr rfl
theorem al6{s:ByteArray}:fC (.string s)=.string s:=nr rfl
theorem al7:fC (.pointer none)=.dx:=nr rfl
theorem al8:fC (.slice none 0 0)=.ag:=nr rfl
theorem al9:fC (.map none)=.fj:=nr rfl
theorem ama:fC .nilFunc=.nilFunc:=nr rfl
theorem amb:fC .nilIface=.nilIface:=nr rfl
section
variable {P:aOR} {fn:Func} {R:V->I->Prop} {E:I->Prop} {f:aj} {h:I}
theorem aP:vo P fn R E .ret f h=(match sb P fn.results.toList f h with|some r=>R r h|none=>False):=nr rfl
theorem k6:vo P fn R E .normal f h=(match sb P fn.results.toList f h with|some r=>R r h|none=>False):=nr rfl
theorem AX:vo P fn R E .panic f h=E h:=nr rfl
theorem ac{t:Tmp}:sb P [.tmp t] f h=some (f t):=nr rfl
theorem hK:sb P [] f h=some (.tuple []):=nr rfl
theorem da{t u:Tmp}:sb P [.tmp t,.tmp u] f h=some (.tuple [f t,f u]):=nr rfl
theorem xx{t u v:Tmp}:sb P [.tmp t,.tmp u,.tmp v] f h=some (.tuple [f t,f u,f v]):=nr rfl
end
theorem zx{P:aOR}{t:aOS}{d:aO1}(h:P.underlying t=some d):ed P (underlying t)=some d:=by
 unfold underlying program;rw[mB];simp only[ed,azJ,h];rfl
section
variable {P:aOR} {t:aOS} {xo yo:aOW} {k PI:aOT} {a b:Int}
theorem Kt{op:BinOp}{x y:V}{a b v:aOU}(i:p7 x=some a)(j:p7 y=some b)(m:eqGuard op t xo yo a b=pure ())(h:ed P (binOp op t a b)=some v):cV P op t xo yo x y=some (gy v):=by
 unfold cV;simp only[i,j];have e:(do eqGuard op t xo yo a b;binOp op t a b)=binOp op t a b:=by rw[m];rfl
 rw[e,h];rfl
theorem tK{op:BinOp}{v:aOU}(h:ed P (binOp op t (.int k a) (.int PI b))=some v):cV P op t xo yo (.int k a) (.int PI b)=some (gy v):=Kt rfl rfl (by cases op<;>rfl) h
theorem amc:cV P .add t xo yo (.int k a) (.int k b)=some (.int k (k.wrap (a+b))):=tK (v:=.int k (k.wrap (a+b))) (by simp[binOp,Op.intArith];rfl)
theorem amd:cV P .sub t xo yo (.int k a) (.int k b)=some (.int k (k.wrap (a-b))):=tK (v:=.int k (k.wrap (a-b))) (by simp[binOp,Op.intArith];rfl)
theorem ame:cV P .mul t xo yo (.int k a) (.int k b)=some (.int k (k.wrap (a*b))):=tK (v:=.int k (k.wrap (a*b))) (by simp[binOp,Op.intArith];rfl)
theorem amf:cV P .eql t xo yo (.int k a) (.int k b)=some (.bool (a==b)):=tK (v:=.bool (a==b)) (by simp[binOp,Op.intCmp];rfl)
theorem amg:cV P .neq t xo yo (.int k a) (.int k b)=some (.bool (a !=b)):=tK (v:=.bool (a !=b)) (by simp[binOp,Op.intCmp];rfl)
theorem amh:cV P .lss t xo yo (.int k a) (.int k b)=some (.bool (decide (a<b))):=tK (v:=.bool (decide (a<b))) (by simp[binOp,Op.intCmp];rfl)
theorem ami:cV P .leq t xo yo (.int k a) (.int k b)=some (.bool (decide (a<=b))):=tK (v:=.bool (decide (a<=b))) (by simp[binOp,Op.intCmp];rfl)
theorem amj:cV P .gtr t xo yo (.int k a) (.int k b)=some (.bool (decide (b<a))):=tK (v:=.bool (decide (b<a))) (by simp[binOp,Op.intCmp];rfl)
theorem amk:cV P .geq t xo yo (.int k a) (.int k b)=some (.bool (decide (b<=a))):=tK (v:=.bool (decide (b<=a))) (by simp[binOp,Op.intCmp];rfl)
theorem jp(ak:0<=b):cV P .shl t xo yo (.int k a) (.int PI b)=some (.int k (k.wrap (a*2^(min b.toNat k.bits)))) :=
 tK (v:=.int k (k.wrap (a*2^(min b.toNat k.bits)))) (by simp only[binOp,Op.shift,if_neg (show ¬b<0 by omega)];rfl)
theorem Ku(ak:0<=b):cV P .shr t xo yo (.int k a) (.int PI b)=some (.int k (a.fdiv (2^(min b.toNat k.bits)))) :=
 tK (v:=.int k (a.fdiv (2^(min b.toNat k.bits)))) (by simp only[binOp,Op.shift,if_neg (show ¬b<0 by omega)];rfl)
theorem ZY(ak:b≠0):cV P .quo t xo yo (.int k a) (.int k b)=some (.int k (k.wrap (a.tdiv b))) :=
 tK (v:=.int k (k.wrap (a.tdiv b))) (by simp only[binOp,Op.intDiv,ne_eq,not_true,if_false,if_neg ak];rfl)
theorem Cr(ak:b≠0):cV P .rem t xo yo (.int k a) (.int k b)=some (.int k (a.tmod b)) :=
 tK (v:=.int k (a.tmod b)) (by simp only[binOp,Op.intDiv,ne_eq,not_true,if_false,if_neg ak];rfl)
def Cs(k:aOT)(a b:Int):Int:=k.wrap ((BitVec.ofInt k.bits a &&& BitVec.ofInt k.bits b).toNat:Int)
def wm(k:aOT)(a b:Int):Int:=k.wrap ((BitVec.ofInt k.bits a ||| BitVec.ofInt k.bits b).toNat:Int)
def tL(k:aOT)(a b:Int):Int:=k.wrap ((BitVec.ofInt k.bits a ^^^ BitVec.ofInt k.bits b).toNat:Int)
def I0(k:aOT)(a b:Int):Int:=k.wrap ((BitVec.ofInt k.bits a &&& ~~~(BitVec.ofInt k.bits b)).toNat:Int)
theorem aml:cV P .and t xo yo (.int k a) (.int k b)=some (.int k (Cs k a b)):=tK (v:=.int k (Cs k a b)) (by simp only[binOp,ne_eq,not_true,if_false];rfl)
theorem amm:cV P .or t xo yo (.int k a) (.int k b)=some (.int k (wm k a b)):=tK (v:=.int k (wm k a b)) (by simp only[binOp,ne_eq,not_true,if_false];rfl)
theorem amn:cV P .xor t xo yo (.int k a) (.int k b)=some (.int k (tL k a b)):=tK (v:=.int k (tL k a b)) (by simp only[binOp,ne_eq,not_true,if_false];rfl)
theorem amo:cV P .andNot t xo yo (.int k a) (.int k b)=some (.int k (I0 k a b)):=tK (v:=.int k (I0 k a b)) (by simp only[binOp,ne_eq,not_true,if_false];rfl)
theorem amp{b:Bool}:zn P .not (.bool b)=some (.bool (!b)):=nr rfl
theorem amq:zn P .neg (.int k a)=some (.int k (k.wrap (0-a))):=nr rfl
def lZ(P:aOR)(t:aOS):Option aOT:=match P.underlying t with|some (.int k)=>some k|_=>none
theorem lL{src i:aOS}{h:I}{s k2:aOT}(j:lZ P src=some s)(m:lZ P i=some k2):oL P src i (.int k a) h=some (.int k2 (k2.wrap a)):=by
 have u:P.underlying src=some (.int s):=by
  unfold lZ at j;split at j
  ·rename_i q;simp at j;subst j;exact q
  ·cases j
 have z:P.underlying i=some (.int k2):=by
  unfold lZ at m;split at m
  ·rename_i q;simp at m;subst m;exact q
  ·cases m
 unfold oL;have e:(nW (.int k a)).bind (λx=>ed P (convert src i x))=some (.int k2 (k2.wrap a)):=by
  show ed P (convert src i (.int k a))=_;unfold convert;rw[mB,zx u,azJ,mB,zx z];rfl
 rw[e];rfl
def I1(P:aOR)(t:aOS):Bool:=match P.underlying t with|some .bool=>true|_=>false
theorem amr{t:aOS}(h:I1 P t=true):P.underlying t=some .bool:=by
 unfold I1 at h;split at h
 ·assumption
 ·cases h
theorem ZZ{t:aOS}(i:I1 P t=true)(x y:Bool):ed P (Op.equal t (.bool x) (.bool y))=some (x==y):=by
 unfold Op.equal Op.maxDepth Op.equalIn;rw[mB,zx (amr i)];rfl
theorem ams{x y:Bool}(i:I1 P t=true):cV P .eql t xo yo (.bool x) (.bool y)=some (.bool (x==y)):=by
 refine Kt (v:=.bool (x==y)) rfl rfl rfl ?_;show ed P (do pure (aOU.bool (<-Op.equal t (.bool x) (.bool y))))=_;rw[mB,ZZ i];rfl
theorem amt{x y:Bool}(i:I1 P t=true):cV P .neq t xo yo (.bool x) (.bool y)=some (.bool (x !=y)):=by
 refine Kt (v:=.bool (x !=y)) rfl rfl rfl ?_;show ed P (do pure (aOU.bool (!(<-Op.equal t (.bool x) (.bool y)))))=_;rw[mB,ZZ i];rfl
end
def et(P:aOR)(t:aOS):Option Nat:=(P.underlying t).bind xt
section
variable {P:aOR} {t:aOS} {xo yo:aOW} {x y:V} {k:Nat}
theorem DR(h:et P t=some k):∃d,P.underlying t=some d/\xt d=some k:=by
 unfold et at h;cases a:P.underlying t with
 | none=>simp[a]at h
 | some d=>simp[a]at h;exact⟨d,rfl,h⟩
theorem Kv(h:et P t=some k)(j:p7 x=none\/p7 y=none)(m:(IJ x=some k/\FH y=some k)\/(FH x=some k/\IJ y=some k)):cV P .eql t xo yo x y=some (.bool false):=by
 obtain⟨d,q,s⟩:=DR h;have aT:IK d x y=true:=by
  unfold IK;rw[s];rcases m with⟨a,i⟩|⟨a,i⟩<;>simp[a,i]
 unfold cV;split
 ·rename_i a i;rw[a,i]at j;simp at j
 ·rw[q];simp only[aT,if_true]
theorem Z0{i o:Nat}(h:et P t=some 0):cV P .eql t xo yo (.ptr i o) .dx=some (.bool false):=Kv h (.inl rfl) (.inr ⟨rfl,rfl⟩)
theorem amu(h:et P t=some 0):ed P (Op.equal t (.pointer none) (.pointer none))=some true:=by
 obtain⟨d,a,i⟩:=DR h;unfold Op.equal Op.maxDepth Op.equalIn;rw[mB,zx a];cases d<;>simp[xt]at i;rfl
theorem amv(h:et P t=some 0):cV P .eql t xo yo .dx .dx=some (.bool true):=by
 refine Kt (v:=.bool true) rfl rfl rfl ?_;show ed P (do pure (aOU.bool (<-Op.equal t (.pointer none) (.pointer none))))=_;rw[mB,amu h];rfl
end
theorem amw{k:aOT}{n:Int}:(V.int k n).cells=some [.int k n]:=nr rfl
theorem amx{b:Bool}:(V.bool b).cells=some [.bool b]:=nr rfl
theorem amy:V.ag.cells=some [.ag]:=nr rfl
theorem amz{i o:Nat}:(V.ptr i o).cells=some [.ptr i o]:=nr rfl
theorem amA{i o n m:Nat}:(V.bg i o n m).cells=some [.bg i o n m]:=nr rfl
theorem amB{n:Nat}{cs:List V}:(V.af n cs).cells=some [.af n cs]:=nr rfl
theorem amC{i:Nat}:(V.map i).cells=some [.map i]:=nr rfl
theorem amD{t:aOS}{v:V}:(V.iface t v).cells=some [.iface t v]:=nr rfl
theorem amE{cs:List V}:(V.agg cs).cells=some cs:=nr rfl
theorem PJ{k:aOT}{n:Int}:(V.int k n).one=true:=nr rfl
theorem amF{b:Bool}:(V.bool b).one=true:=nr rfl
theorem amG:V.ag.one=true:=nr rfl
theorem amH{i o n m:Nat}:(V.bg i o n m).one=true:=nr rfl
theorem amI{n:Nat}{cs:List V}:(V.af n cs).one=true:=nr rfl
theorem amJ{i:Nat}:(V.map i).one=true:=nr rfl
theorem all_nil:([]:List V).all (·.one)=true:=nr rfl
theorem all_cons{v:V}{l:List V}:(v::l).all (·.one)=(v.one&&l.all (·.one)):=nr rfl
section
variable {P:aOR} {t tx e:aOS} {x y v:V} {h:I} {k:Nat}
def db(P:aOR)(s:aOS)(k:Nat):Option Nat :=
 match P.underlying s with
 | some (.struct a)=>match a[k]? with
  | some f=>match cH P f.type with
   | some (_+1)=>some f.offset
   | _=>none
  | none=>none
 | _=>none
def I2(off:Option Nat)(x:V):Option V :=
 match off,x with
 | some off,.ptr i o=>some (.ptr i (o+off))
 | some off,.at a=>if off<=a.length then some (.at (a.drop off))else none
 | _,_=>none
theorem amK:FC P t x k=I2 (db P t k) x:=by
 unfold FC db;cases P.underlying t with
 | none=>rfl
 | some d=>
  cases d<;>try rfl
  rename_i a;simp only;cases a[k]? with
  | none=>rfl
  | some f=>
   simp only;cases cH P f.type with
   | none=>rfl
   | some n=>cases n<;>simp only[I2]<;>cases x<;>rfl
theorem amL{i o off:Nat}:I2 (some off) (.ptr i o)=some (.ptr i (o+off)):=nr rfl
theorem amM{cs:List V}{off:Nat}:I2 (some off) (.at cs)=if off<=cs.length then some (.at (cs.drop off))else none:=nr rfl
def loadT(P:aOR)(t:aOS):Option (Option Nat) :=
 match nX P t,cH P t with
 | some true,some n=>some (some n)
 | some false,some _=>some none
 | _,_=>none
def cJ(ty:Option (Option Nat))(p:Option (List V)):Option V :=
 match ty,p with
 | some (some n),some a=>if n<=a.length then some (.agg (a.take n))else none
 | some none,some (v::_)=>some v
 | _,_=>none
theorem Z1:m9 P t x h=cJ (loadT P t) (s8 h x):=by
 unfold m9 loadT;cases s8 h x with
 | none=>cases nX P t with
  | none=>rfl
  | some b=>cases b<;>cases cH P t<;>rfl
 | some a=>cases nX P t with
  | none=>cases a<;>rfl
  | some b=>cases b<;>cases cH P t<;>cases a<;>rfl
theorem amN{v:V}{r:List V}:cJ (some none) (some (v::r))=some v:=nr rfl
theorem Z2{n:Nat}{cs:List V}:cJ (some (some n)) (some cs)=if n<=cs.length then some (.agg (cs.take n))else none:=nr rfl
def cO(o:aR)(n:Nat):Option (List V):=match o with | .cells c _ _=>if n<=c.length then some (c.drop n)else none|_=>none
theorem amO{i o:Nat}:s8 h (.ptr i o)=cO (h.get i) o:=by
 simp only[s8,cO];cases h.get i<;>rfl
theorem amP{cs:List V}:s8 h (.at cs)=some cs:=nr rfl
theorem Kw{c:List V}{e:aOS}{ex:Option Nat}{n:Nat}:cO (.cells c e ex) n=if n<=c.length then some (c.drop n)else none:=nr rfl
def bA(n:Option Nat)(ob:aR)(o:Nat)(vs:List V):Option aR :=
 match n,ob with
 | some n,.cells c e a=>if vs.length=n/\vs.all (·.one)=true/\o+n<=c.length then some (.cells (lay c o vs) e a)else none
 | _,_=>none
def Ur(n:Option Nat)(x:V)(vs:Option (List V))(h:I):Option I :=
 match x,vs with
 | .ptr i o,some vs=>(bA n (h.get i) o vs).map λa=>h.set i a
 | _,_=>none
theorem amQ:ID P t x v h=Ur (cH P t) x v.cells h:=by
 unfold ID Ur;cases x<;>try rfl
 rename_i i o;cases v.cells with
 | none=>rfl
 | some a=>
  simp only[bA];cases h.get i<;>cases cH P t<;>simp;rename_i c e j n;by_cases U:a.length=n
  ·subst U;split<;>rfl
  ·simp[U]
theorem amR{i o:Nat}{n:Option Nat}{vs:List V}:Ur n (.ptr i o) (some vs) h=(bA n (h.get i) o vs).map λob=>h.set i ob:=nr rfl
theorem amS(c:List V)(o:Nat)(v:V)(a:o<c.length):lay c o [v]=c.set o v:=by
 unfold lay;rw[aB7,if_pos a];simp
theorem amT(v:V)(vs c:List V)(o:Nat)(j:o+(vs.length+1)<=c.length):lay c o (v::vs)=lay (c.set o v) (o+1) vs:=by
 have i:o<c.length:=by omega
 have av:c.set o v=c.take o++v::c.drop (o+1):=by rw[aB7,if_pos i]
 have a:(c.take o).length=o:=by simp;omega
 unfold lay;rw[av];have ay:(c.take o++v::c.drop (o+1)).take (o+1)=c.take o++[v]:=by
  rw[List.take_append,a,ajz (by omega),show o+1-o=1 by omega]
  rfl
 have bc:(c.take o++v::c.drop (o+1)).drop (o+1+vs.length)=c.drop (o+(vs.length+1)):=by
  rw[List.drop_append,a,List.drop_eq_nil_of_le (by omega),show o+1+vs.length-o=vs.length+1 by omega]
  rw[List.drop_succ_cons,List.drop_drop,List.nil_append]
  congr 1
  omega
 rw[ay,bc];simp
theorem Us:∀(vs c:List V) (o:Nat),o+vs.length<=c.length->lay c o vs=tA c o vs
 | [],c,o,_=>by simp[lay,tA]
 | v::vs,c,o,a=>by
  have i:o+(vs.length+1)<=c.length:=by simpa using a
  unfold tA;rw[amT v vs c o i,Us vs (c.set o v) (o+1) (by simp;omega)]
theorem rA{c:List V}{e:aOS}{ex:Option Nat}{o:Nat}(i:v.one=true):bA (some 1) (.cells c e ex) o [v]=if o<c.length then some (.cells (c.set o v) e ex)else none:=by
 simp only[bA,axW,ayK,all_cons,all_nil,i,Bool.and_self,true_and];by_cases a:o<c.length
 ·have:(0+1=1/\o+1<=c.length):=⟨rfl,a⟩;rw[if_pos a];simp[this.2,amS _ _ _ a]
 ·rw[if_neg a];simp;omega
theorem uR{c vs:List V}{e:aOS}{ex:Option Nat}{o n:Nat}(i:vs.length=n)(j:vs.all (·.one)=true):bA (some n) (.cells c e ex) o vs=if o+n<=c.length then some (.cells (tA c o vs) e ex)else none:=by
 simp only[bA,i,j,true_and];by_cases a:o+n<=c.length
 ·rw[if_pos a,if_pos a,Us _ _ _ (by omega)]
 ·rw[if_neg a,if_neg a]
theorem amU{c:List V}{o:Nat}:tA c o []=c:=nr rfl
theorem amV{c r:List V}{o:Nat}:tA c o (v::r)=tA (c.set o v) (o+1) r:=nr rfl
theorem amW:IF P e h=(gV P e).map λzs=>(.ptr h.n 0,h.push (.cells zs e none)):=by
 unfold IF;cases gV P e<;>rfl
theorem amX:xn e x h=x.cells.map λcs=>(.ptr h.n 0,h.push (.cells cs e none)):=by
 unfold xn;cases x.cells<;>rfl
def dC(P:aOR)(t:aOS):Option Nat:=match P.underlying t with|some (.slice e)=>cH P e|_=>none
def sd(P:aOR)(t:aOS):Option (Nat×Nat):=match P.underlying t with|some (.array n e)=>(cH P e).map λs=>(n,s)|_=>none
def qM(m:Option Nat)(q:Option (Nat×Nat))(x:V)(n:Int):Option V :=
 match m,q,x with
 | some sz,_,.bg i o a _=>if 0<=n/\n<a then some (.ptr i (o+n.toNat*sz))else none
 | some sz,_,.af a j=>if 0<=n/\n<a/\n.toNat*sz<=j.length then some (.at (j.drop (n.toNat*sz)))else none
 | _,some (a,sz),.ptr i o=>if 0<=n/\n<a then some (.ptr i (o+n.toNat*sz))else none
 | _,some (a,sz),.at j=>if 0<=n/\n<a/\n.toNat*sz<=j.length then some (.at (j.drop (n.toNat*sz)))else none
 | _,_,_=>none
theorem d6{kk:aOT}{n:Int}:gP P t x (.int kk n)=qM (dC P t) (sd P t) x n:=by
 unfold gP dC sd;cases P.underlying t with
 | none=>rfl
 | some d=>
  cases d<;>try rfl
  ·rename_i e;simp only;cases a:cH P e with
   | none=>cases x<;>simp[qM,a]
   | some sz=>cases x<;>simp[qM,a]
  ·rename_i i e;simp only;cases a:cH P e with
   | none=>cases x<;>simp[qM,a]
   | some sz=>cases x<;>simp[qM,a]
theorem Ut{i o len cap sz:Nat}{a:Option (Nat×Nat)}{n:Int}:qM (some sz) a (.bg i o len cap) n=if 0<=n/\n<len then some (.ptr i (o+n.toNat*sz))else none:=nr rfl
theorem Z3{len sz:Nat}{cs:List V}{a:Option (Nat×Nat)}{n:Int}:qM (some sz) a (.af len cs) n=if 0<=n/\n<len/\n.toNat*sz<=cs.length then some (.at (cs.drop (n.toNat*sz)))else none:=nr rfl
theorem amY{len sz:Nat}{cs:List V}{n:Int}:qM none (some (len,sz)) (.at cs) n=if 0<=n/\n<len/\n.toNat*sz<=cs.length then some (.at (cs.drop (n.toNat*sz)))else none:=nr rfl
def Z4(a:Option Nat)(x:V)(h:I):Option V :=
 match a,x with
 | some 1,.bg _ _ n _=>some (.int .i64 n)
 | some 1,.af n _=>some (.int .i64 n)
 | some 1,.ag=>some (.int .i64 0)
 | some 1,.z0=>some (.int .i64 0)
 | some 2,.fj=>some (.int .i64 0)
 | some 2,.map i=>match h.get i with
  | .map j _=>some (.int .i64 j.length)
  | _=>none
 | _,_=>none
theorem Ky{a:Nat}(j:et P t=some a)(m:a=1\/a=2):dJ P t x h=Z4 (some a) x h:=by
 obtain⟨d,q,i⟩:=DR j;unfold dJ;rw[q];cases d<;>simp[xt]at i<;>subst i<;>simp at m
 all_goals cases x<;>try rfl
theorem zy(a:et P t=some 1){i o n c:Nat}:dJ P t (.bg i o n c) h=some (.int .i64 n):=Ky a (.inl rfl)
theorem Z5(a:et P t=some 1){n:Nat}{cs:List V}:dJ P t (.af n cs) h=some (.int .i64 n):=Ky a (.inl rfl)
theorem yK(a:et P t=some 1):dJ P t .ag h=some (.int .i64 0):=Ky a (.inl rfl)
theorem zz(a:et P t=some 1):dJ P t .z0 h=some (.int .i64 0):=Ky a (.inl rfl)
theorem Uu(a:et P t=some 2){i:Nat}{es:List (Nat×V×V)}{c:Nat}(j:h.get i=.map es c):dJ P t (.map i) h=some (.int .i64 es.length):=by
 rw[Ky a (.inr rfl)];simp[Z4,j]
structure lM where
 e:aOS
 zs:List V
 sz:Nat
 aq:Nat
def gp(P:aOR)(t:aOS):Option lM :=
 match v7 P t with
 | none=>none
 | some e=>match gV P e,cH P e,IB P e with
  | some zs,some sz,some a=>if zs.length=sz then some ⟨e,zs,sz,a⟩else none
  | _,_,_=>none
theorem uS{T:lM}(a:gp P t=some T):v7 P t=some T.e/\gV P T.e=some T.zs/\cH P T.e=some T.sz/\IB P T.e=some T.aq/\T.zs.length=T.sz/\P.underlying t=some (.slice T.e):=by
 unfold gp at a;split at a
 ·cases a
 ·rename_i e i;split at a
  ·rename_i zs sz z j m q;split at a
   ·rename_i s;simp at a;subst a;refine⟨i,j,m,q,s,?_⟩;unfold v7 at i;split at i
    ·rename_i u;rw[u];simpa using i
    ·cases i
   ·cases a
  ·cases a
end
structure J(h h':I)(own:Nat->Prop):Prop where
 n:h.n<=h'.n
 get:∀j,j<h.n->¬own j->h'.get j=h.get j
 glob:h'.glob=h.glob
def none_:Nat->Prop:=λ_=>False
theorem J.refl(h:I)(own:Nat->Prop):J h h own:=⟨BY _,λ_ _ _=>rfl,rfl⟩
theorem J.trans{h s u:I}{o z:Nat->Prop}(a:J h s o)(b:J s u z)(B:∀k,k<h.n->z k->o k):J h u o :=
 ⟨ajy a.n b.n,λj i A=>(b.get j (IS i a.n) λav=>A (B j i av)).trans (a.get j i A),b.glob.trans a.glob⟩
theorem J.trans'{h i j:I}{o:Nat->Prop}(a:J h i o)(b:J i j o):J h j o:=a.trans b λ_ _ h=>h
theorem J.mono{h h':I}{o o':Nat->Prop}(a:J h h' o)(i:∀k,o k->o' k):J h h' o':=⟨a.n,λj s u=>a.get j s λav=>u (i j av),a.glob⟩
theorem J.up{h h':I}{o:Nat->Prop}(a:J h h' none_):J h h' o:=a.mono λ_ h=>h.elim
theorem J.push(h:I)(o:aR)(own:Nat->Prop):J h (h.push o) own:=⟨by simp[I.push],λj i _=>by simp[I.push,show j≠h.n by omega],rfl⟩
theorem J.set(h:I)(i:Nat)(o:aR):J h (h.set i o) (·=i):=⟨BY _,λj u s=>by simp[I.set];intro U;exact absurd U s,rfl⟩
theorem J.kB{s h:I}{own:Nat->Prop}(k:J s h own){i:Nat}(hi:s.n<=i)(o:aR):J s (h.set i o) own :=
 k.trans (J.set h i o) λj u av=>by omega
theorem J.bp{i h:I}{own:Nat->Prop}(k:J i h own)(o:aR):J i (h.push o) own:=k.trans' (J.push h o own)
def aU:V->Option Nat
 | .bg i _ _ _=>some i
 | _=>none
def a7(v:V):Nat->Prop:=λk=>aU v=some k
def Own(h:I)(e:aOS)(sz:Nat)(v:V)(cs:List V):Prop :=
 ((v=.ag\/v=.z0)/\cs=[]) \/
 ∃i a cap c j,v=.bg i 0 a cap/\i<h.n/\h.get i=.cells c e j/\cs.length=a*sz/\c.take (a*sz)=cs /\
  ((cap<b7/\cap*sz<=c.length/\a<=cap)\/(cap=b7/\j=some sz))
theorem Own.ag(h:I)(e:aOS)(sz:Nat):Own h e sz .ag []:=.inl ⟨.inl rfl,rfl⟩
theorem Own.z0(h:I)(e:aOS)(sz:Nat):Own h e sz .z0 []:=.inl ⟨.inr rfl,rfl⟩
theorem Own.ai{h h':I}{e:aOS}{sz:Nat}{v:V}{cs:List V}{own:Nat->Prop}(j:Own h e sz v cs)(s:J h h' own)(u:∀k,aU v=some k->¬own k):Own h' e sz v cs:=by
 rcases j with j|⟨i,len,cap,c,z,rfl,hi,A,rest⟩
 ·exact .inl j
 ·exact .inr ⟨i,len,cap,c,z,rfl,IS hi s.n,(s.get i hi (u i rfl)).trans A,rest⟩
theorem Own.ba{h h':I}{e:aOS}{sz:Nat}{v:V}{cs:List V}(i:Own h e sz v cs)(j:J h h' none_):Own h' e sz v cs:=i.ai j λ_ _ h=>h
theorem Own.lt{h:I}{e:aOS}{sz:Nat}{v:V}{cs:List V}(s:Own h e sz v cs):∀k,aU v=some k->k<h.n:=by
 intro k j;rcases s with⟨rfl|rfl,_⟩|⟨i,len,cap,c,u,rfl,hi,_⟩
 ·simp[aU]at j
 ·simp[aU]at j
 ·simp[aU]at j;omega
theorem Own.fresh{h:I}{e:aOS}{sz:Nat}(c:List V)(len cap:Nat)(av:c.length=cap*sz)(i:len<=cap)(j:cap<b7) :
  Own (h.push (.cells c e none)) e sz (.bg h.n 0 len cap) (c.take (len*sz)) :=
 .inr ⟨h.n,len,cap,c,none,rfl,by simp[I.push],by simp[I.push],by rw[TY,av];exact Nat.min_eq_left (azl _ i),rfl,.inl ⟨j,by omega,i⟩⟩
theorem Own.grown{h:I}{e:aOS}{sz i len:Nat}{cs:List V}(hi:i<h.n)(s:h.get i=.cells cs e (some sz))(j:cs.length=len*sz) :
  Own h e sz (.bg i 0 len b7) cs :=
 .inr ⟨i,len,b7,cs,some sz,rfl,hi,s,j,by rw[<-j];exact List.take_length,.inr ⟨rfl,rfl⟩⟩
def cu(h:I)(a b:V):Prop:=aU b=aU a\/∀k,aU b=some k->h.n<=k
theorem Z6{P:aOR}{t tx:aOS}{T:lM}(Y:gp P t=some T)(M:0<T.sz)
  {h:I} {s x:V} {cs:List V} (Z:Own h T.e T.sz s cs) {n:Nat} {a:List V} (c8:fS P T.sz tx x h=some (n,a)) (u:a.length=n*T.sz)
  (C:(cs.length+a.length)*T.aq<=lim) (N:cs.length+a.length<=lim) :
  ∃v h',ki P t tx s x h=some (v,h')/\Own h' T.e T.sz v (cs++a)/\J h h' (a7 s)/\cu h s v:=by
 obtain⟨he,bS,bl,jn,fw,_⟩:=uS Y;unfold ki;simp only[he,bS,bl,jn,fw,if_true,c8];have start:∀s:V,(s=.ag\/s=.z0)->cs=[]->∃v h',(if n=0 then some (s,h)else if n*T.aq<=lim/\n<=lim then some (.bg h.n 0 n b7,h.push (.cells a T.e (some T.sz)))else none)=some (v,h')/\Own h' T.e T.sz v (cs++a)/\J h h' (a7 s)/\cu h s v:=λs aa D=>by
  subst D;by_cases z:n=0
  ·subst z;have:a=[]:=azB (by simpa using u)
   subst this;exact⟨s,h,by simp,.inl ⟨aa,rfl⟩,J.refl _ _,.inl rfl⟩
  ·have O:n<=a.length:=by rw[u];exact aB8 n M
   have F:n*T.aq<=lim:=ajy (azl T.aq (by omega)) C
   have G:n<=lim:=by omega
   exact⟨.bg h.n 0 n b7,h.push (.cells a T.e (some T.sz)),by simp[z,F,G],Own.grown (by simp[I.push]) (by simp[I.push]) (by simpa using u),J.push _ _ _,.inr λk A=>by simp[aU]at A;omega⟩
 rcases Z with⟨rfl|rfl,D⟩|⟨i,m,cap,c,Q,rfl,hi,R,q,B,S⟩
 ·exact start _ (.inl rfl) D
 ·exact start _ (.inr rfl) D
 ·by_cases z:n=0
  ·subst z;have:a=[]:=azB (by simpa using u)
   subst this;exact⟨.bg i 0 m cap,h,by simp,by rw[List.append_nil];exact .inr ⟨i,m,cap,c,Q,rfl,hi,R,q,B,S⟩,J.refl _ _,.inl rfl⟩
  ·have O:m+n<=cs.length+a.length:=by
    rw[u,q,<-axY];exact aB8 _ M
   have F:(m+n)*T.aq<=lim:=ajy (azl T.aq O) C;have G:m+n<=lim:=by omega
   have cM:m*T.sz<=c.length:=by
    have:=congrArg azx B;rw[TY,q]at this;omega
   simp only[z,F,G,and_self,if_true,if_false,R];rcases S with⟨W,X,ab⟩|⟨rfl,rfl⟩
   ·simp only[W,if_true];by_cases E:m+n<=cap
    ·have fG:0+(m+n)*T.sz<=c.length:=by rw[ayP];exact ajy (azl _ E) X
     have hll:(lay c (m*T.sz) a).length=c.length:=r6 _ _ _ (by rw[u,<-axY];omega)
     simp only[E,if_true,fG];refine⟨_,_,rfl,.inr ⟨i,m+n,cap,lay c (0+m*T.sz) a,Q,rfl,hi,by simp[I.set],by simp[q,u,axY],?_,.inl ⟨W,?_,E⟩⟩,⟨BY _,λj aN H=>?_,rfl⟩,.inl rfl⟩
     ·simp only[ayP,lay,B,axY,<-u];have:(cs++a).length=m*T.sz+a.length:=by simp[q]
      rw[<-this];exact List.take_left
     ·rw[ayP,hll];exact X
     ·simp only[I.set];rw[if_neg (by intro L;subst L;simp[a7,aU]at H)]
    ·simp only[E,if_false];have Ct:0+m*T.sz<=c.length:=by omega
     simp only[Ct,if_true,azC,B];exact⟨_,_,rfl,Own.grown (by simp[I.push]) (by simp[I.push]) (by simp[q,u,axY]),J.push _ _ _,.inr λk A=>by simp[aU]at A;omega⟩
   ·simp only[Nat.lt_irrefl,if_false,true_and,cM,and_self,if_true];refine⟨_,_,rfl,Own.grown (by simp[I.push,I.set]) (by simp[I.push,I.set,B]) (by simp[q,u,axY]),⟨by simp[I.push,I.set],λj aN H=>?_,rfl⟩,.inr λk A=>by simp[aU]at A;omega⟩
    have C:j≠i:=by intro L;subst L;simp[a7,aU]at H
    have N:j≠h.n:=by omega
    simp[I.push,I.set,C,N]
theorem Own.src{P:aOR}{t e:aOS}{h:I}{sz:Nat}{v:V}{cs:List V}(z:Own h e sz v cs)(A:et P t=some 1)(B:cs.all (·.one)=true)(bl:0<sz) :
  ∃n,fS P sz t v h=some (n,cs)/\cs.length=n*sz:=by
 obtain⟨d,s,C⟩:=DR A;cases d<;>simp[xt]at C;rcases z with⟨rfl|rfl,rfl⟩|⟨i,len,cap,c,F,rfl,hi,D,j,u,_⟩
 ·exact⟨0,by simp[fS,s],by simp⟩
 ·exact⟨0,by simp[fS,s],by simp⟩
 ·refine⟨len,?_,j⟩;have E:len*sz<=c.length:=by
   have:=congrArg azx u;rw[TY,j]at this;omega
  simp only[fS,s,D,azC,u,B,ayP];rw[if_pos ⟨E,trivial⟩]
theorem I3{P:aOR}{t:aOS}{h:I}{sz n:Nat}{cs:List V}(a:et P t=some 1)(i:cs.length=n*sz)(j:cs.all (·.one)=true):fS P sz t (.af n cs) h=some (n,cs):=by
 obtain⟨d,m,q⟩:=DR a;cases d<;>simp[xt]at q;simp only[fS,m];rw[if_pos ⟨i,j⟩]
theorem amZ{α:Type}(z:List α):made z 1=z:=by simp[made]
theorem am0:∀(vs c:List V),vs.length=c.length->tA c 0 vs=vs:=by
 intro vs c a;rw[<-Us vs c 0 (by omega)]
 unfold lay;simp[a]
theorem PK{P:aOR}{t:aOS}{T:lM}(a:gp P t=some T){x:V}{xs:List V}(i:x.cells=some xs)(j:xs.length=T.sz)(u:T.sz<=16777216){h:I} :
  h3 P t 1 [(0,x)] h=some (.bg h.n 0 1 1,h.push (.cells xs T.e none)):=by
 obtain⟨m,q,bl,z,s,_⟩:=uS a;unfold h3;simp only[m,bl,q,s,amZ,aAJ];rw[if_pos ⟨trivial,by omega,by omega⟩]
 simp only[rp,i,Nat.zero_mul,ayP];rw[if_pos ⟨j,by omega⟩,am0 _ _ (by omega)]
theorem ls{P:aOR}{t:aOS}{T:lM}(a:gp P t=some T)(m:0<T.sz)
  {h:I} {s:V} {cs xs:List V} (q:Own h T.e T.sz s cs) (i:xs.length=T.sz) (u:xs.all (·.one)=true)
  (z:(cs.length+T.sz)*T.aq<=lim) (A:cs.length+T.sz<=lim) :
  ∃v h',ki P t t s (.bg h.n 0 1 1) (h.push (.cells xs T.e none))=some (v,h')/\Own h' T.e T.sz v (cs++xs)/\J h h' (a7 s)/\cu h s v:=by
 obtain⟨H,L,bl,M,N,B⟩:=uS a;have j:=J.push h (.cells xs T.e none) none_;have C:fS P T.sz t (.bg h.n 0 1 1) (h.push (.cells xs T.e none))=some (1,xs):=by
  simp only[fS,B,I.push,if_true,aAJ,ayP,azC];rw[ajz (by omega),if_pos ⟨by omega,u⟩]
 obtain⟨v,h',aT,D,E,F⟩:=Z6 (tx:=t) a m (q.ba j) C (by omega) (by rw[i];exact z) (by rw[i];exact A)
 refine⟨v,h',aT,D,(j.up).trans' E,F.imp id λU k G=>?_⟩;have:=U k G;simp[I.push]at this;omega
structure Acc(aG h:I)(e:aOS)(sz:Nat)(v:V)(cs:List V):Prop where
 own:Own h e sz v cs
 ai:J aG h none_
 new:∀k,aU v=some k->aG.n<=k
theorem Acc.nil{i h:I}{e:aOS}{sz:Nat}(k:J i h none_):Acc i h e sz .ag []:=⟨Own.ag _ _ _,k,by simp[aU]⟩
theorem Acc.elem{P:aOR}{t:aOS}{T:lM}(z:gp P t=some T){u h:I}{s:V}{cs xs:List V}(a:Acc u h T.e T.sz s cs)(A:0<T.sz)(B:xs.length=T.sz)(C:xs.all (·.one)=true)
  (D:(cs.length+T.sz)*T.aq<=lim) (E:cs.length+T.sz<=lim) :
  ∃v h',ki P t t s (.bg h.n 0 1 1) (h.push (.cells xs T.e none))=some (v,h')/\Acc u h' T.e T.sz v (cs++xs):=by
 obtain⟨v,h',aT,F,G,i⟩:=ls z A a.own B C D E;refine⟨v,h',aT,F,a.ai.trans G λk j av=>?_,λk j=>?_⟩
 ·have:=a.new k av;omega
 ·rcases i with i|i
  ·exact a.new k (i▸j)
  ·exact ajy a.ai.n (i k j)
theorem Acc.app{P:aOR}{t tx:aOS}{T:lM}(A:gp P t=some T){z h:I}{s x:V}{cs i:List V}(a:Acc z h T.e T.sz s cs)(B:0<T.sz){n:Nat}(C:fS P T.sz tx x h=some (n,i))(D:i.length=n*T.sz)
  (E:(cs.length+i.length)*T.aq<=lim) (F:cs.length+i.length<=lim) :
  ∃v h',ki P t tx s x h=some (v,h')/\Acc z h' T.e T.sz v (cs++i):=by
 obtain⟨v,h',aT,G,H,j⟩:=Z6 A B a.own C D E F;refine⟨v,h',aT,G,a.ai.trans H λk u av=>?_,λk u=>?_⟩
 ·have:=a.new k av;omega
 ·rcases j with j|j
  ·exact a.new k (j▸u)
  ·exact ajy a.ai.n (j k u)
theorem Own.length{h:I}{e:aOS}{v:V}{cs:List V}{sz:Nat}(u:Own h e sz v cs)(bl:0<sz)(P:aOR){t:aOS}(s:et P t=some 1):dJ P t v h=some (.int .i64 (cs.length / sz:Nat)):=by
 rcases u with⟨rfl|rfl,rfl⟩|⟨i,len,cap,c,z,rfl,hi,A,j,_⟩
 ·rw[yK s];simp
 ·rw[zz s];simp
 ·rw[zy s,j,Nat.mul_div_cancel _ bl]
theorem aF.refl(r:V)(h:I):aF r h r h:=fun ρ B s w u i j=>⟨ρ,Ren.le.refl ρ,i,j⟩
theorem aF.trans{r cL dB:V}{h i j:I}(a:aF r h cL i)(b:aF cL i dB j):aF r h dB j:=fun ρ B s w u z A=>
 let ⟨ρ1,C,D,E⟩:=a ρ B s w u z A
 let ⟨ρ2,F,G,H⟩:=b ρ1 B s w u D E
 ⟨ρ2,C.trans F,G,H⟩
theorem aF.own{h:I}{e:aOS}{sz:Nat}{v:V}{cs:List V}(N:Own h e sz v cs){n:Nat}(G:cs.length=n*sz)(bl:0<sz):∃A,aF v h (.af n cs) A/\J h A (a7 v):=by
 rcases N with⟨rfl|rfl,rfl⟩|⟨i,len,cap,c,Z,rfl,hi,O,j,H,dt⟩
 ·have C:n=0:=by
   have:n*sz=0:=by simpa using G.symm
   rcases aAF.1 this with h|h<;>omega
  subst C;refine⟨h,fun ρ B L w M s u=>⟨ρ,Ren.le.refl ρ,s,?_⟩,J.refl _ _⟩;cases u;exact .fD none 0 (by simp)
 ·have C:n=0:=by
   have:n*sz=0:=by simpa using G.symm
   rcases aAF.1 this with h|h<;>omega
  subst C;exact⟨h,fun ρ B L w M s u=>by
   cases u with
   | z0 a aT=>exact⟨ρ,Ren.le.refl ρ,s,.fD a 0 (by simp)⟩,J.refl _ _⟩
 ·have Q:n=len:=by
   have:n*sz=len*sz:=by omega
   exact Nat.eq_of_mul_eq_mul_right bl this
  subst Q;refine⟨h.set i .dead,fun ρ B L w M s u=>?_,(J.set h i .dead).mono λk D=>by subst D;rfl⟩
  obtain⟨ρ',z,R,b,bG,arr,S,T,av,W⟩:=s.freeze O;obtain⟨b8,ka,E,X,rfl⟩:=u.gW;rw[S]at E;simp at E;obtain⟨rfl,rfl⟩:=E;have cM:n*sz<=c.length:=by
   have:=congrArg azx H;rw[TY,j]at this;omega
  refine⟨ρ',z,R,.af 0 n _ T X (by rw[j];omega) λk v Y F A=>?_⟩
  have D:k<n*sz:=by rw[<-j];exact(are.1 F).1
  rw[<-H,azf,if_pos D]at F;refine(W.2 k v Y F ?_).mono z;rw[azf,if_pos (by omega),azI]
  simpa using A
def aA(l:List V)(h:I)(j:List V)(m:I):Prop :=
 ∀(ρ:Ren) (B:Nat) (a w:aOV) (i:List aOU),a1 ρ B a h w->a6 ρ l i->∃ ρ',ρ.le ρ'/\a1 ρ' B a m w/\a6 ρ' j i
theorem aA.refl(l:List V)(h:I):aA l h l h:=fun ρ B s w u i j=>⟨ρ,Ren.le.refl ρ,i,j⟩
theorem aA.cons{v j:V}{l i:List V}{h s u:I}(a:aF v h j s)(b:aA l s i u):aA (v::l) h (j::i) u:=fun ρ B z w O C D=>by
 obtain⟨E,F,rfl,G,H⟩:=D.dT;obtain⟨ρ1,A,L,M⟩:=a ρ B z w E C G;obtain⟨ρ2,i,N,j⟩:=b ρ1 B z w F L (H.mono A);exact⟨ρ2,A.trans i,N,.cons (M.mono i) j⟩
theorem aF.tuple{l i:List V}{h j:I}(a:aA l h i j):aF (.tuple l) h (.tuple i) j:=fun ρ B s w G u z=>by
 cases z with
 | tuple A C=>
  obtain⟨ρ1,D,E,F⟩:=a ρ B s w _ u (er.list ⟨A,C⟩);exact⟨ρ1,D,E,F.j0.tuple⟩
def a8(v:V):Prop:=∀(ρ ρ':Ren) (i:aOU),aE ρ v i->(∀b a,ρ.frz b=some a->ρ'.frz b=some a)->aE ρ' v i
def bb(l:List V):Prop:=∀v∈l,a8 v
theorem bb.nil:bb []:=by simp[bb]
theorem bb.cons{v:V}{l:List V}(h:a8 v)(g:bb l):bb (v::l):=by
 intro x i;rcases Iz.1 i with rfl|i
 ·exact h
 ·exact g x i
theorem bb.append{l m:List V}(h:bb l)(g:bb m):bb (l++m):=by
 intro x i;rcases ayN.1 i with i|i
 ·exact h x i
 ·exact g x i
theorem bb.flatMap{α:Type}{f:α->List V}{l:List α}(h:∀x∈l,bb (f x)):bb (l.flatMap f):=by
 intro v i;obtain⟨x,j,i⟩:=List.mem_flatMap.1 i;exact h x j v i
theorem bb.map{α:Type}{f:α->V}{l:List α}(h:∀x∈l,a8 (f x)):bb (l.map f):=by
 intro v i;obtain⟨x,j,rfl⟩:=OF.1 i;exact h x j
theorem a8.flat{v:V}{a:aOU}(h:nW v=some a):a8 v:=fun ρ ρ' s i _=>by
 have:=zf i h;subst this;cases i<;>simp[nW]at h<;>first|(constructor;done)|skip
 rename_i xs u j z;cases xs with
 | nil=>exact .tuple j (by simp)
 | cons x t=>simp at h
theorem a8.int(k:aOT)(n:Int):a8 (.int k n):=a8.flat rfl
theorem a8.bool(b:Bool):a8 (.bool b):=a8.flat rfl
theorem a8.string(s:ByteArray):a8 (.string s):=a8.flat rfl
theorem a8.dx:a8 .dx:=a8.flat rfl
theorem a8.ag:a8 .ag:=a8.flat rfl
theorem a8.top:a8 .top:=fun ρ ρ' i j _=>.top _
theorem a8.af{n:Nat}{cs:List V}(h:bb cs):a8 (.af n cs):=fun ρ ρ' i u j=>by
 rcases u.k1 with⟨rfl,rfl,a,D,aT,rfl⟩|⟨b,o,cap,arr,ak,z,A,B,rfl⟩
 ·exact .fD a _ aT
 ·exact .af o n cap (j _ _ ak) z A λk v i s C=>h v (azq s) ρ ρ' i (B k v i s C) j
theorem a8.at{cs:List V}(h:bb cs):a8 (.at cs):=fun ρ ρ' i u j=>by
 obtain⟨b,o,arr,ak,z,A,rfl⟩:=u.wb;exact .at o (j _ _ ak) z λk v i s B=>h v (azq s) ρ ρ' i (A k v i s B) j
theorem a8.agg{cs:List V}(h:bb cs):a8 (.agg cs):=fun ρ ρ' i s u=>by
 cases s with
 | agg z A=>exact .agg z λk v i j B=>h v (azq j) ρ ρ' i (A k v i j B) u
theorem a8.tuple{cs:List V}(h:bb cs):a8 (.tuple cs):=fun ρ ρ' i s u=>by
 cases s with
 | tuple z A=>exact .tuple z λk v i j B=>h v (azq j) ρ ρ' i (A k v i j B) u
theorem aE.join{ρ ρ':Ren}(A:ρ.le ρ'){v:V}{a:aOU}(h:aE ρ v a):∀{b:aOU},aE ρ' v b->aE ⟨ρ.ren,ρ'.frz,ρ.dfr⟩ v b:=by
 induction h with
 | ptr hi o=>
  intro b ak;obtain⟨H,W,j,rfl⟩:=ak.rl;rw[A.ren _ _ hi]at j;simp at j;obtain⟨rfl,rfl⟩:=j;exact aE.ptr (ρ:=⟨ρ.ren,ρ'.frz,ρ.dfr⟩) hi o
 | bg hi o len cap X=>
  intro b ak;obtain⟨H,W,j,h6,rfl⟩:=ak.gW;rw[A.ren _ _ hi]at j;simp at j;obtain⟨rfl,rfl⟩:=j;exact aE.bg (ρ:=⟨ρ.ren,ρ'.frz,ρ.dfr⟩) hi o len cap X
 | map hi=>
  intro b ak;cases ak with
  | map j=>
   rw[A.ren _ _ hi]at j;simp at j;obtain⟨rfl,rfl⟩:=j;exact .map hi
 | @af Y o n cap arr M ak aB Z L ih=>
  intro b N;rcases N.k1 with⟨rfl,rfl,a,R,aT,rfl⟩|⟨H,B,O,S,C,Q,D,z,rfl⟩
  ·exact .fD a _ aT
  ·refine .af B n O C Q D λk v s i u=>?_;have E:k<M.length:=(are.1 i).1;exact ih k v _ i (azd (by omega)) (z k v s i u)
 | @«at» Y o arr M ak Z L ih=>
  intro b N;obtain⟨H,B,S,C,D,z,rfl⟩:=N.wb;refine .at B C D λk v s i u=>?_;have E:k<M.length:=(are.1 i).1;exact ih k v _ i (azd (by omega)) (z k v s i u)
 | func fn T bB L bk F TZ=>
  intro b ak;cases ak with
  | func fn G KA z Z7=>
   refine .func fn G KA (λk v s i u=>?_) (λk v s i u=>?_)
   ·have E:=(are.1 i).1;exact F k v _ i (azd (by omega)) (z k v s i u)
   ·have E:=(are.1 i).1;exact TZ k v _ i (azd (by omega)) (Z7 k v s i u)
 | iface t h ih=>intro b ak;cases ak with|iface t g=>exact .iface t (ih g)
 | agg T L F=>
  intro b ak;cases ak with
  | agg G z=>
   refine .agg G λk v s i u=>?_;have E:=(are.1 i).1;exact F k v _ i (azd (by omega)) (z k v s i u)
 | tuple T L F=>
  intro b ak;cases ak with
  | tuple G z=>
   refine .tuple G λk v s i u=>?_;have E:=(are.1 i).1;exact F k v _ i (azd (by omega)) (z k v s i u)
 | fD a R aT=>
  intro b ak;rcases ak.k1 with⟨_,_,a,R,aT,rfl⟩|⟨H,B,O,S,C,Q,D,z,rfl⟩
  ·exact .fD a _ aT
  ·exact .af B 0 O C Q D (by simp)
 | z0 a aT=>intro b ak;cases ak with|z0 a aT=>exact .z0 a aT
 | top=>intro b ak;exact .top _
 | _=>intro b ak;cases ak;constructor
theorem a6.join{ρ ρ':Ren}(i:ρ.le ρ'){l:List V}{a b:List aOU}(h:a6 ρ l a)(g:a6 ρ' l b):a6 ⟨ρ.ren,ρ'.frz,ρ.dfr⟩ l b:=by
 refine⟨g.1,λk v s j u=>?_⟩;have z:k<l.length:=(are.1 j).1;exact(h.2 k v _ j (IA (by rw[<-h.1];exact z))).join i (g.2 k v s j u)
theorem a1.forget{ρ ρ':Ren}{B Y:Nat}{aV Z8 w w':aOV}{h h':I}(R:a1 ρ Y Z8 h w)(F:a1 ρ' B aV h' w')(j:ρ.le ρ')(N:J h h' none_):a1 ⟨ρ.ren,ρ'.frz,ρ.dfr⟩ B aV h w':=by
 have T:∀i,h.get i≠.dead->i<h.n:=λi hi=>by obtain⟨_,_,_,_,U,_⟩:=R.heap.live hi;exact U
 refine⟨⟨R.heap.me,R.heap.inj,λi=>?_,F.heap.frz,λg cs u=>?_,F.heap.base⟩,F.below⟩
 ·cases u:h.get i with
  | dead=>trivial
  | cells c e ex=>
   have hi:i<h.n:=T i (by rw[u];simp)
   have A:=R.heap.obj i;have C:=F.heap.obj i;rw[N.get i hi (by simp[none_]),u]at C
   rw[u]at A;obtain⟨b,Z,arr,z,O,b3,hw,av,ax,W⟩:=A;obtain⟨Q,G,H,E,D,L,M,qp,h6,dU⟩:=C;have:=j.ren i _ z;rw[E]at this;simp at this;obtain⟨rfl,rfl⟩:=this;exact⟨Q,G,H,z,D,L,M,qp,ax.join j h6,dU⟩
  | map es cl=>
   have hi:i<h.n:=T i (by rw[u];simp)
   have A:=R.heap.obj i;have C:=F.heap.obj i;rw[N.get i hi (by simp[none_]),u]at C
   rw[u]at A;obtain⟨b,Z,arr,z,O,b3,hw,S⟩:=A;obtain⟨Q,G,H,E,D,L,M,X⟩:=C;have:=j.ren i _ z;rw[E]at this;simp at this;obtain⟨rfl,rfl⟩:=this;refine⟨Q,G,H,z,D,L,M,X.1,λk x y W bk=>?_⟩;have gJ:k<es.length:=(are.1 W).1;obtain⟨_,cB,de⟩:=S.2 k x _ W (azd (by rw[<-S.1];exact gJ))
   obtain⟨xy,kC,rC⟩:=X.2 k x y W bk;exact⟨xy,cB.join j kC,de.join j rC⟩
  | kt b mk vs=>
   have hi:i<h.n:=T i (by rw[u];simp)
   have A:=R.heap.obj i;have C:=F.heap.obj i;rw[N.get i hi (by simp[none_]),u]at C
   rw[u]at A;obtain⟨Z,arr,z,O,b3,hw,ax⟩:=A;obtain⟨G,H,E,D,L,M,h6⟩:=C;have:=j.ren i _ z;rw[E]at this;simp at this;subst this;exact⟨G,H,z,D,L,M,ax.join j h6⟩
  | iter m s l st=>
   have hi:i<h.n:=T i (by rw[u];simp)
   have A:=R.heap.obj i;have C:=F.heap.obj i;rw[N.get i hi (by simp[none_]),u]at C
   rw[u]at A;obtain⟨b,Z,bm,vZ,z,O,b3,S,hw⟩:=A;obtain⟨Q,G,Z9,aa,E,D,L,X,M⟩:=C;have:=j.ren i _ z;rw[E]at this;simp at this;obtain⟨rfl,rfl⟩:=this;have:=j.ren m _ S;rw[X]at this;simp at this;obtain⟨rfl,rfl⟩:=this;exact⟨Q,G,Z9,aa,z,D,L,S,M⟩
 ·obtain⟨arr,O,z⟩:=R.heap.glob g cs u;obtain⟨H,D,E⟩:=F.heap.glob g cs (by rw[N.glob];exact u)
  have:=j.frz g _ O;rw[D]at this;simp at this;subst this;exact⟨H,D,(z.list.join j E.list).j0⟩
theorem b4.pure{P:aOR}{bE:aOZ}{args:List V}{h:I}{v:V}{E:I->Prop}(H:a8 v)(av:b4 P bE args h (λr h'=>∃s,aF r h' v s/\J h s none_) (λh'=>J h h' none_/\E h)) :
  b4 P bE args h (λr h'=>r=v/\h'=h) (λh'=>h'=h/\E h):=by
 intro ρ B D w j u aT;refine(av ρ B D w j u aT).mono λe w' U=>?_;rcases U with⟨ρ',r,F,h',z,L,A,i,s,M,C⟩|⟨ρ',N,h',z,O,A,i,C,Q⟩
 ·obtain⟨ρ2,R,S,T⟩:=M ρ' B D w' F A L;have G:=i.trans R;exact .inl ⟨⟨ρ.ren,ρ2.frz,ρ.dfr⟩,v,F,h,z,H _ _ _ T λ_ _ h=>h,u.forget S G C,⟨λ_ _ h=>h,G.frz,rfl⟩,rfl,rfl⟩
 ·exact .inr ⟨⟨ρ.ren,ρ'.frz,ρ.dfr⟩,N,h,z,O,u.forget A i C,⟨λ_ _ h=>h,i.frz,rfl⟩,rfl,Q⟩
theorem Pure.of{P:aOR}{bE:aOZ}{args:List V}{h:I}{v:V}(j:a8 v)(av:au P bE args h (λr h'=>∃i,aF r h' v i/\J h i none_)):Pure P bE args h v:=by
 have:=b4.pure (E:=λ_=>False) j (av.e);exact b4.mono this (λ_ _ h=>h) λ_ h=>h.2.elim
theorem Pure.val{P:aOR}{bE:aOZ}{args:List V}{h:I}{v:V}(i:a8 v)(av:au P bE args h (λr h'=>r=v/\J h h' none_)):Pure P bE args h v :=
 .of i (av.mono λr h' ⟨e,k⟩=>⟨h',by subst e;exact aF.refl _ _,k⟩)
theorem Acc.cast{j h:I}{e:aOS}{sz:Nat}{v:V}{cs:List V}(a:Acc j h e sz v cs){n:Nat}(s:cs.length=n*sz)(bl:0<sz):∃i,aF v h (.af n cs) i/\J j i none_:=by
 obtain⟨i,av,u⟩:=aF.own a.own s bl;exact⟨i,av,a.ai.trans u λk A z=>by have:=a.new k z;omega⟩
def I4(P:aOR)(a:List aOX)(h:I):List aOX->(aj->Prop)->aj->Prop
 | [],K,f=>K f
 | o::rest,K,f=>match h4 a o.guard f with
  | some true=>∃v,DQ P o h f v/\I4 P a h rest K (f.put o.dst v)
  | some false=>I4 P a h rest K (f.put o.dst (.tuple []))
  | none=>False
def gY(P:aOR)(a:List aOX)(h:I)(o:aOX)(v:V)(f:aj):Prop :=
 (h4 a o.guard f=some true/\DQ P o h f v)\/(h4 a o.guard f=some false/\v=.tuple [])
theorem am2{P:aOR}{c:Call}{ty:aOS}{bF a:aOW->V}{h:I}(i:∀x∈c.operands,bF x=a x):k4 P c ty bF h=k4 P c ty a h:=by
 have s:c.args.toList.map bF=c.args.toList.map a:=aA3 λx q=>i x (by simp at q;simp[Call.operands,q])
 unfold k4;rw[s];cases av:c.callee with
 | value f=>have j:bF f=a f:=i f (by simp[Call.operands,av]);simp only[j]
 | invoke r m=>have j:bF r=a r:=i r (by simp[Call.operands,av]);simp only[j]
 | builtin b=>cases b<;>rfl
theorem am3{P:aOR}{o:aOX}{bF j:aOW->V}{h:I}(i:∀x∈o.op.operands,bF x=j x):ey P o bF h=ey P o j h:=by
 obtain⟨u,op,type,pos,m,guard⟩:=o;have q:∀ps:Array (Nat×aOW),(∀x∈ps.toList.map (·.2),bF x=j x) ->
   (ps.toList.map λp=>(p.1,bF p.2))=(ps.toList.map λp=>(p.1,j p.2)):=λps z=>
  aA3 λp A=>by rw[z p.2 (OF.2 ⟨p,A,rfl⟩)]
 cases op<;>simp only[Op.operands]at i<;>simp only[ey]
 case build t ps=>rw[q ps λx a=>i x (by simpa using a)]
 case buildSlice t n ps=>rw[q ps λx a=>i x (by simpa using a)]
 case makeFunc fn first captured=>
  rw[aA3 (l:=first.toList) λx a=>i x (by simp at a;simp[a]),aA3 (l:=captured.toList) λx a=>i x (by simp at a;simp[a])]
 case call c=>exact am2 i
 case makeMap t r=>cases r<;>simp_all
 case slice t x lo hi mx=>cases lo<;>cases hi<;>cases mx<;>simp_all
 case next it s=>cases s<;>simp_all
 all_goals (first|rfl|(simp_all;done))
theorem aj.eval_put{f:aj}{h:I}{i:Option Tmp}{v:V}{x:aOW}(j:∀d,i=some d->x≠.tmp d):(f.put i v).eval h x=f.eval h x:=by
 cases i with
 | none=>rfl
 | some d=>
  cases x with
  | tmp t=>
   have s:t≠d:=λe=>j d rfl (e▸rfl);simp[aj.eval,aj.put,s]
  | _=>rfl
theorem aj.put_comm(f:aj){x y:Option Tmp}(v u:V)(h:∀d,x=some d->y≠some d):(f.put x v).put y u=(f.put y u).put x v:=by
 cases x with
 | none=>rfl
 | some d=>
  cases y with
  | none=>rfl
  | some e=>
   have j:d≠e:=λs=>h d rfl (s▸rfl)
   funext t
   simp only[aj.put];by_cases i:t=e
   ·subst i;simp[Ne.symm j]
   ·simp[i]
section
variable {P:aOR} {ops:Array aOX} {h:I} {md:Region.Mode}
theorem Uw(o:aOX)(f:aj)(a:Option Tmp)(v:V)(j:∀d,a=some d->d∉o.looksAt ops):ey P o ((f.put a v).eval h) h=ey P o (f.eval h) h :=
 am3 λx m=>aj.eval_put λd q i=>j d q (by
  subst i;exact List.mem_append_left _ (List.mem_filterMap.2 ⟨.tmp d,by simpa using m,rfl⟩))
theorem Ux(o:aOX)(f:aj)(a:Option Tmp)(v:V)(m:∀d,a=some d->d∉o.looksAt ops):h4 ops.toList o.guard (f.put a v)=h4 ops.toList o.guard f:=by
 cases a with
 | none=>rfl
 | some d=>
  unfold h4;cases q:o.guard with
  | none=>rfl
  | some i=>
   obtain⟨g,j⟩:=i;simp only;have e:ops.toList[g]?=ops[g]?:=by simp
   rw[e];cases s:(ops[g]?).bind (·.dst)with
   | none=>rfl
   | some t=>
    have u:t≠d:=λe=>m d rfl (by subst e;simp[aOX.looksAt,q,s])
    simp[aj.put,u]
theorem gY.put{o:aOX}{v:V}{f:aj}(s:gY P ops.toList h o v f)(i:Option Tmp)(u:V)(j:∀d,i=some d->d∉o.looksAt ops):gY P ops.toList h o v (f.put i u):=by
 unfold gY DQ at *;rw[Ux o f i u j,Uw o f i u j];exact s
theorem gY.Cu{o:aOX}{v:V}{f:aj}(i:Option Tmp)(u:V)(j:∀d,i=some d->d∉o.looksAt ops)(s:gY P ops.toList h o v (f.put i u)):gY P ops.toList h o v f:=by
 unfold gY DQ at *;rwa[Ux o f i u j,Uw o f i u j]at s
end
class KB where
 h:I
def s9(P:aOR)(a l:List aOX)[H:KB][K:fz](f:aj):Prop:=I4 P a H.h l (λf=>K.go f H.h) f
def qb(P:aOR)(o:aOX)(a l:List aOX)[H:KB][K:fz](f:aj):Prop:=∃v,DQ P o H.h f v/\@s9 P a l H K (f.put o.dst v)
section
variable {P:aOR} {ol l:List aOX} {H:KB} {K:fz} {f:aj} {d:Option Tmp} {ty:aOS} {pos:String} {cw:Array Edge} {op:Op} {g:Option (Nat×Bool)}
theorem am5:@s9 P ol [] H K f=@jq K f H.h:=nr rfl
theorem am6:@s9 P ol (⟨d,op,ty,pos,cw,none⟩::l) H K f=@qb P ⟨d,op,ty,pos,cw,none⟩ ol l H K f:=nr rfl
def BF(v:V)(o:aOX)(P:aOR)(ol l:List aOX)[H:KB][K:fz](f:aj):Prop :=
 match v,o.guard with
 | .bool c,some (_,b)=>if c=b then @qb P o ol l H K f else @s9 P ol l H K (f.put o.dst (.tuple []))
 | .top,_=>False
 | _,_=>@s9 P ol l H K (f.put o.dst (.tuple []))
theorem am7{j:Nat}{b:Bool}:@s9 P ol (⟨d,op,ty,pos,cw,some (j,b)⟩::l) H K f =
  (match AV ol j with|some t=>@BF (f t) ⟨d,op,ty,pos,cw,some (j,b)⟩ P ol l H K f|none=>@s9 P ol l H K (f.put d (.tuple []))):=by
 rw[Uo];show I4 P ol H.h (⟨d,op,ty,pos,cw,some (j,b)⟩::l) (λf=>K.go f H.h) f=_;simp only[I4,h4];cases a:(ol[j]?).bind (·.dst)with
 | none=>rfl
 | some t=>
  simp only[BF];cases i:f t<;>try rfl
  rename_i c;simp only;by_cases av:c=b
  ·subst av;simp only[beq_self_eq_true,if_true];rfl
  ·have:(c==b)=false:=by simp[av]
   simp only[this,if_neg av];rfl
theorem am8{b:Bool}{j:Nat}:@BF (.bool b) ⟨d,op,ty,pos,cw,some (j,b)⟩ P ol l H K f=@qb P ⟨d,op,ty,pos,cw,some (j,b)⟩ ol l H K f:=if_pos rfl
theorem am9{j:Nat}:@BF (.bool true) ⟨d,op,ty,pos,cw,some (j,false)⟩ P ol l H K f=@s9 P ol l H K (f.put d (.tuple [])):=nr rfl
theorem ana{j:Nat}:@BF (.bool false) ⟨d,op,ty,pos,cw,some (j,true)⟩ P ol l H K f=@s9 P ol l H K (f.put d (.tuple [])):=nr rfl
theorem anb{j:Nat}{b:Bool}{vs:List V}:@BF (.tuple vs) ⟨d,op,ty,pos,cw,some (j,b)⟩ P ol l H K f=@s9 P ol l H K (f.put d (.tuple [])):=nr rfl
def sf(o:Option V)(d:Option Tmp)(P:aOR)(ol l:List aOX)[H:KB][K:fz](f:aj):Prop:=match o with|some v=>@s9 P ol l H K (f.put d v)|none=>False
theorem anc{v:V}:@sf (some v) d P ol l H K f=@s9 P ol l H K (f.put d v):=nr rfl
theorem tM{o:aOX}{x:Option V}(a:ey P o (f.eval H.h) H.h=hh x H.h):@qb P o ol l H K f=@sf x o.dst P ol l H K f:=by
 unfold qb DQ;rw[a];cases x with
 | none=>simp[hh,sf]
 | some v=>
  simp[hh,sf]
theorem ane{x:aOW}:@qb P ⟨d,.move x,ty,pos,cw,g⟩ ol l H K f=@s9 P ol l H K (f.put d (f.eval H.h x)):=by
 rw[tM (x:=some (f.eval H.h x)) rfl];rfl
theorem anf{x:aOW}:@qb P ⟨d,.assign x,ty,pos,cw,g⟩ ol l H K f=@s9 P ol l H K (f.put d (f.eval H.h x)):=by
 rw[tM (x:=some (f.eval H.h x)) rfl];rfl
theorem ang{c a b:aOW}:@qb P ⟨d,.pick c a b,ty,pos,cw,g⟩ ol l H K f=@sf (IZ (f.eval H.h c) (f.eval H.h a) (f.eval H.h b)) d P ol l H K f :=
 tM (by unfold ey IZ hh;simp only;cases f.eval H.h c<;>rfl)
theorem anh{t:aOS}{a:aOW}:@qb P ⟨d,.load t a,ty,pos,cw,g⟩ ol l H K f=@sf (m9 P t (f.eval H.h a) H.h) d P ol l H K f:=tM rfl
theorem ani{t:aOS}{a:Array (Nat×aOW)}:@qb P ⟨d,.build t a,ty,pos,cw,g⟩ ol l H K f=@sf (FJ P t (a.toList.map λp=>(p.1,f.eval H.h p.2))) d P ol l H K f:=tM rfl
theorem anj{x:aOW}:@qb P ⟨d,.nilCheck x,ty,pos,cw,g⟩ ol l H K f=@sf (zw (f.eval H.h x)) d P ol l H K f :=
 tM (by
  unfold ey zw hh;simp only;generalize f.eval H.h x=y;cases y<;>try rfl
  rename_i fn xs ys;cases fn<;>rfl)
theorem ank{op:BinOp}{t a:aOS}{x y:aOW}:@qb P ⟨d,.binOp op t x y a,ty,pos,cw,g⟩ ol l H K f=@sf (cV P op t x y (f.eval H.h x) (f.eval H.h y)) d P ol l H K f:=tM rfl
theorem anl{op:UnOp}{t:aOS}{x:aOW}:@qb P ⟨d,.unOp op t x,ty,pos,cw,g⟩ ol l H K f=@sf (zn P op (f.eval H.h x)) d P ol l H K f:=tM rfl
theorem anm{t:aOS}{x:aOW}{a i mx:Option aOW}:@qb P ⟨d,.slice t x a i mx,ty,pos,cw,g⟩ ol l H K f=@sf (kx P t (f.eval H.h x) (a.map (f.eval H.h)) (i.map (f.eval H.h)) (mx.map (f.eval H.h))) d P ol l H K f:=tM rfl
theorem ann{t:aOS}{x:aOW}{k:Nat}:@qb P ⟨d,.fieldAddr t x k,ty,pos,cw,g⟩ ol l H K f=@sf (FC P t (f.eval H.h x) k) d P ol l H K f:=tM rfl
theorem ano{t:aOS}{x:aOW}{k:Nat}:@qb P ⟨d,.field t x k,ty,pos,cw,g⟩ ol l H K f=@sf (IM P t (f.eval H.h x) k) d P ol l H K f:=tM rfl
theorem anp{t:aOS}{x y:aOW}:@qb P ⟨d,.indexAddr t x y,ty,pos,cw,g⟩ ol l H K f=@sf (gP P t (f.eval H.h x) (f.eval H.h y)) d P ol l H K f:=tM rfl
theorem anq{t:aOS}{x y:aOW}{ok:Bool}:@qb P ⟨d,.lookup t x y ok,ty,pos,cw,g⟩ ol l H K f=@sf (nB P t (f.eval H.h x) (f.eval H.h y) ok H.h) d P ol l H K f:=tM rfl
theorem anr{x:aOW}{k:Nat}:@qb P ⟨d,.extract x k,ty,pos,cw,g⟩ ol l H K f=@sf (tJ (f.eval H.h x) k) d P ol l H K f :=
 tM (by unfold ey tJ hh;simp only;cases f.eval H.h x<;>rfl)
theorem ans{t:aOS}{x:aOW}:@qb P ⟨d,.call ⟨.builtin .len,#[x],#[t]⟩,ty,pos,cw,g⟩ ol l H K f=@sf (dJ P t (f.eval H.h x) H.h) d P ol l H K f :=
 tM (by unfold ey k4 p9 hh;simp only[axU,azu];cases dJ P t (f.eval H.h x) H.h<;>rfl)
theorem ant{t a:aOS}{x y:aOW}:@qb P ⟨d,.call ⟨.builtin .min,#[x,y],#[t,a]⟩,ty,pos,cw,g⟩ ol l H K f=@sf (rz P .min #[t,a] ty (wj #[x,y]) (f.eval H.h x) (f.eval H.h y)) d P ol l H K f :=
 tM (by
  unfold ey k4 p9 rz hh;simp only[axU,azu];cases jv [f.eval H.h x,f.eval H.h y]with
  | none=>rfl
  | some as=>
   simp only;generalize ed P _=r;cases r with
   | none=>rfl
   | some n=>cases n<;>rfl)
theorem anu{t a:aOS}{x y:aOW}:@qb P ⟨d,.call ⟨.builtin .max,#[x,y],#[t,a]⟩,ty,pos,cw,g⟩ ol l H K f=@sf (rz P .max #[t,a] ty (wj #[x,y]) (f.eval H.h x) (f.eval H.h y)) d P ol l H K f :=
 tM (by
  unfold ey k4 p9 rz hh;simp only[axU,azu];cases jv [f.eval H.h x,f.eval H.h y]with
  | none=>rfl
  | some as=>
   simp only;generalize ed P _=r;cases r with
   | none=>rfl
   | some n=>cases n<;>rfl)
end
section
variable {h:I} {o o':aR} {i j:Nat}
theorem df:(h.push o).n=h.n+1:=nr rfl
theorem kj:(h.set i o).n=h.n:=nr rfl
theorem FT:(h.push o).glob=h.glob:=nr rfl
theorem aac:(h.set i o).glob=h.glob:=nr rfl
theorem fv:(h.push o).get h.n=o:=by simp[I.push]
theorem iP(a:i<h.n):(h.push o).get i=h.get i:=by simp[I.push,show i≠h.n by omega]
theorem AY(i:Nat):(h.push o).get i=if i=h.n then o else h.get i:=nr rfl
theorem aL:(h.set i o).get i=o:=by simp[I.set]
theorem n1(a:i≠j):(h.set j o).get i=h.get i:=by simp[I.set,a]
theorem set_push:(h.push o).set h.n o'=h.push o':=by
 unfold I.push I.set;simp only
 congr 1
 funext k
 split<;>rfl
theorem set_set:(h.set i o).set i o'=h.set i o':=by
 unfold I.set;simp only
 congr 1
 funext k
 split<;>rfl
theorem Uy(a:h.get i=o):h.set i o=h:=by
 unfold I.set;cases h with
 | mk n get m=>
  simp only at a⊢
  congr 1
  funext k
  by_cases q:k=i
  ·subst q;simp[a]
  ·simp[q]
theorem zA{a b:aR}:((h.push a).push b).get (h.n+1)=b:=by
 have:=fv (h:=h.push a) (o:=b);rwa[df]at this
theorem yL{a b:aR}:((h.push a).push b).get h.n=a:=by
 rw[iP (by rw[df];omega),fv]
theorem anv{a b c:aR}:((h.push a).push b).set (h.n+1) c=(h.push a).push c:=by
 have:=set_push (h:=h.push a) (o:=b) (o':=c);rwa[df]at this
theorem anw{a b c:aR}:((h.push a).push b).set h.n c=(h.push c).push b:=by
 simp only[I.push,I.set,I.mk.injEq,true_and,and_true]
 funext k
 by_cases m:k=h.n
 ·subst m;simp
 ·simp[m]
end
def mapOf{α:Type}(kk:aOT)(enc:α->V)(l:List (Nat×Int×α)):List (Nat×V×V):=l.map λe=>(e.1,.int kk e.2.1,enc e.2.2)
def eu{α:Type}(l:List (Nat×Int×α))(k:Int):Option α:=(l.find? λe=>e.2.1==k).map (·.2.2)
def fm{α:Type}(cl:Nat)(l:List (Nat×Int×α))(k:Int)(a:α):List (Nat×Int×α) :=
 match l with
 | []=>[(cl,k,a)]
 | e::r=>if e.2.1=k then(e.1,k,a)::r else e::fm cl r k a
def oN{α:Type}(cl:Nat)(l:List (Nat×Int×α))(k:Int):Nat:=if(eu l k).isSome then cl else cl+1
section
variable {P:aOR} {t c0 gG:aOS} {kk:aOT} {α:Type} {enc:α->V}
theorem aad{a b:Int}{d:aO1}(i:d=.int kk):wg P c0 d (.int kk a) (.int kk b)=some (a==b):=by
 subst i;simp[wg,p7,nW,we,Instr.sameNow]
theorem sh{k:Int}:∀(l:List (Nat×Int×α)),p8 P c0 (.int kk) (.int kk k) (mapOf kk enc l)=some (l.findIdx? λe=>e.2.1==k)
 | []=>rfl
 | e::l=>by
  show(match wg P c0 (.int kk) (.int kk k) (.int kk e.2.1)with|some true=>some (some 0)|some false=>(p8 P c0 (.int kk) (.int kk k) (mapOf kk enc l)).map (λ(o:Option Nat)=>o.map (·+1))|none=>none)=_
  rw[aad rfl,sh l,aCa];by_cases a:k=e.2.1
  ·subst a;simp
  ·have i:(k==e.2.1)=false:=by simp[a]
   have j:(e.2.1==k)=false:=by simp[Ne.symm a]
   simp[i,j]
theorem Uz{b:Bool}{k:Int}{d:aO1}(a:P.underlying c0=some d)(i:d=.int kk):yI P b c0 (.int kk k)=true:=by
 subst i;unfold yI;simp only[p7,nW];unfold Instr.checkKey;rw[mB,zx a];rfl
theorem UA{l:List (Nat×Int×α)}{k:Int}:∀{j:Nat},(l.findIdx? λe=>e.2.1==k)=some j->∃e,l[j]?=some e/\e.2.1=k/\eu l k=some e.2.2:=by
 induction l with
 | nil=>intro j h;simp at h
 | cons a l ih=>
  intro j h;rw[aCa]at h;unfold eu;rw[az0];by_cases i:a.2.1=k
  ·have:(a.2.1==k)=true:=by simp[i]
   simp only[this,if_true,Option.some.injEq]at h;subst h;rw[this];exact⟨a,rfl,i,rfl⟩
  ·have:(a.2.1==k)=false:=by simp[i]
   simp[this]at h⊢;obtain⟨q,s,rfl⟩:=h;obtain⟨e,u,z,m⟩:=ih s;unfold eu at m;simp at m;exact⟨e.1,e.2.1,e.2.2,by simpa using u,z,by simpa using m⟩
theorem aae{l:List (Nat×Int×α)}{k:Int}(h:(l.findIdx? λe=>e.2.1==k)=none):eu l k=none:=by
 unfold eu;rw[List.findIdx?_eq_none_iff]at h;have:(l.find? λe=>e.2.1==k)=none:=by
  rw[List.find?_eq_none];intro e a;simp[h e a]
 rw[this];rfl
theorem aaf{cl:Nat}{a:α}{k:Int}:∀{l:List (Nat×Int×α)} {j:Nat},(l.findIdx? λe=>e.2.1==k)=some j->mapOf kk enc (fm cl l k a)=(mapOf kk enc l).modify j λe=>(e.1,.int kk k,enc a)
 | [],j,h=>by simp at h
 | e::l,j,h=>by
  rw[aCa]at h;unfold fm;by_cases i:e.2.1=k
  ·have:(e.2.1==k)=true:=by simp[i]
   simp[this]at h;subst h;simp[i,mapOf]
  ·have:(e.2.1==k)=false:=by simp[i]
   simp[this]at h;obtain⟨m,q,rfl⟩:=h;have:=aaf (cl:=cl) (a:=a) (l:=l) q;simp only[mapOf]at this;simp[i,mapOf,this]
theorem UB{cl:Nat}{a:α}{k:Int}:∀{l:List (Nat×Int×α)},(l.findIdx? λe=>e.2.1==k)=none->fm cl l k a=l++[(cl,k,a)]
 | [],h=>rfl
 | e::l,h=>by
  rw[aCa]at h;unfold fm;by_cases i:e.2.1=k
  ·have:(e.2.1==k)=true:=by simp[i]
   simp[this]at h
  ·have:(e.2.1==k)=false:=by simp[i]
   simp[this]at h;simp[i,UB (cl:=cl) (a:=a) (k:=k) (l:=l) (by simpa using h)]
theorem lookup_int{z:aOU}{h:I}{i:Nat}{l:List (Nat×Int×α)}{cl:Nat}{k:Int}{ok:Bool}(m:eA P t=some (c0,gG,.int kk))(s:mz P gG=some z)(u:h.get i=.map (mapOf kk enc l) cl) :
  nB P t (.map i) (.int kk k) ok h=some (match eu l k with|some a=>(if ok then .tuple [enc a,.bool true]else enc a)|none=>(if ok then .tuple [fC z,.bool false]else fC z)):=by
 obtain⟨_,A⟩:=ip m;unfold nB;simp only[m,s,u,Uz A rfl,if_true,sh];cases q:l.findIdx? λe=>e.2.1==k with
 | none=>rw[aae q]
 | some j=>
  obtain⟨e,B,D,C⟩:=UA q;rw[C];have:(mapOf kk enc l)[j]?=some (e.1,.int kk e.2.1,enc e.2.2):=by simp[mapOf,B]
  simp only[this];rfl
theorem UC{h:I}{i:Nat}{l:List (Nat×Int×α)}{cl:Nat}{k:Int}{a:α}{v:V}(q:eA P t=some (c0,gG,.int kk))(s:h.get i=.map (mapOf kk enc l) cl)(u:v=enc a) :
  vl P t (.map i) (.int kk k) v h=some (h.set i (.map (mapOf kk enc (fm cl l k a)) (oN cl l k))):=by
 subst u;obtain⟨_,z⟩:=ip q;unfold vl oN;simp only[q,s,Uz z rfl,if_true,sh];cases m:l.findIdx? λe=>e.2.1==k with
 | none=>
  rw[aae m,UB m];simp[mapOf]
 | some j=>
  obtain⟨e,A,B,C⟩:=UA m;have:(mapOf kk enc l)[j]?=some (e.1,.int kk e.2.1,enc e.2.2):=by simp[mapOf,A]
  rw[C];simp only[this,azJ,p7,nW];have D:Instr.sameBits 10000 (.int kk e.2.1) (.int kk k)=true:=by rw[B];simp[Instr.sameBits]
  rw[if_pos D,aaf m];rfl
end
def eg(es:List (Nat×V×V))(cl:Nat):Prop:=(∀e∈es,e.1<cl)/\(es.map (·.1)).Nodup
theorem eg.nil(cl:Nat):eg [] cl:=⟨by simp,by simp⟩
theorem eg.snoc{es:List (Nat×V×V)}{cl:Nat}(h:eg es cl)(k v:V):eg (es++[(cl,k,v)]) (cl+1):=by
 refine⟨λe i=>?_,?_⟩
 ·rcases ayN.1 i with i|i
  ·have:=h.1 e i;omega
  ·simp at i;subst i;simp
 ·rw[List.map_append,List.nodup_append];refine⟨h.2,by simp,λa aT b ak=>?_⟩
  obtain⟨e,i,rfl⟩:=OF.1 aT;have:=h.1 e i;simp at ak;omega
theorem KC{r m cl:Nat}{seen:List Nat}{es:List (Nat×V×V)}{h:I}{d:Option Tmp}{K:fz}{f:aj}(s:h.get r=.iter m cl seen cl)(u:h.get m=.map es cl)(j:eg es cl)
  (z:nZ es seen=[]->@jq K (f.put d (.tuple [.bool false])) h)
  (A:∀e∈nZ es seen,@jq K (f.put d (.tuple [.bool true,e.2.1,e.2.2])) (h.set r (.iter m cl (seen++[e.1]) cl))):@PG (Co (.ptr r 0) h) d K f:=by
 unfold Co;simp only[s,u];have B:¬((!seen.isEmpty&&!es.isEmpty&&es.all (λe=>decide (cl<=e.1)))=true):=by
  intro U;simp only[ajC,Bool.not_eq_true',ayL,decide_eq_true_eq]at U;cases es with
  | nil=>simp at U
  | cons e r=>
   have q:=U.2 e (by simp)
   have C:=j.1 e (by simp)
   omega
 rw[if_neg B];unfold PG;intro v h' a;rcases ayN.1 a with a|a
 ·split at a
  ·rename_i D;simp at a;obtain⟨rfl,rfl⟩:=a;refine z ?_;cases E:nZ es seen with
   | nil=>rfl
   | cons e r=>
    have a:e∈nZ es seen:=by rw[E];simp
    have q:=ayL.1 D e a;have C:=j.1 e (List.mem_filter.1 a).1;simp at q;omega
  ·simp at a
 ·obtain⟨e,F,i⟩:=OF.1 a;simp at i;obtain⟨rfl,rfl⟩:=i;exact A e F
theorem KD{r m cl:Nat}{seen:List Nat}{es:List (Nat×V×V)}{h:I}{e:Nat×V×V}(z:h.get r=.iter m cl (seen++[e.1]) cl)(j:h.get m=.map es cl)(q:eg es cl)(s:e∈es) :
  IQ (.ptr r 0) h=some (.tuple [e.2.1,e.2.2]):=by
 unfold IQ;have A:(seen++[e.1]).getLast?=some e.1:=by simp
 simp only[z,j,A,if_true];have B:es.find? (λx=>x.1==e.1)=some e:=by
  have i:=q.2;clear j q
  induction es with
  | nil=>simp at s
  | cons a es ih=>
   rw[az0];rw[axU,List.nodup_cons]at i;rcases Iz.1 s with rfl|u
   ·simp
   ·have:a.1≠e.1:=λU=>i.1 (by rw[U];exact OF.2 ⟨e,u,rfl⟩)
    rw[show(a.1==e.1)=false by simp[this]]
    exact ih u i.2
 rw[B];rfl
theorem PL{es:List (Nat×V×V)}{seen:List Nat}{e:Nat×V×V}(j:e∈nZ es seen):(nZ es (seen++[e.1])).length<(nZ es seen).length:=by
 unfold nZ at *;have a:(es.filter λx=>!(seen++[e.1]).contains x.1)=(es.filter λx=>!seen.contains x.1).filter λx=>x.1 !=e.1:=by
  rw[List.filter_filter]
  congr 1
  funext x
  by_cases a:seen.contains x.1=true
  ·simp at a;simp[a]
  ·by_cases i:x.1=e.1
   ·simp[i]
   ·simp at a;simp[a,i]
 rw[a];have:=List.length_filter_lt_length_iff_exists (p:=λx:Nat×V×V=>x.1 !=e.1) (l:=es.filter λx=>!seen.contains x.1);exact this.2 ⟨e,j,by simp⟩
theorem KE{P:aOR}{t:aOS}{q:aOS×aOS×aO1}{i:Nat}{h:I}{es:List (Nat×V×V)}{cl:Nat}(a:eA P t=some q)(j:h.get i=.map es cl):IP P t (.map i) h=some (.ptr h.n 0,h.push (.iter i cl [] cl)):=by
 unfold IP;simp[a,j]
theorem anz{P:aOR}{t:aOS}{h:I}:Kc P t none h=some (.map h.n,h.push (.map [] 0)):=nr rfl
def kl(w:aOV):Ren:={ ren:=λ_=>none,frz:=λb=>match w.heap[b]? with|some (.cells c _ _)=>some c|_=>none }
def xz:I:={ n:=0,get:=λ_=>.dead,glob:=λ_=>none }
theorem KF{w:aOV}{b:Nat}{c:Array aOU}{e:aOS}{a:Nat×Nat}(h:w.heap[b]?=some (.cells c e a)):(kl w).frz b=some c:=by simp[kl,h]
theorem UD(w:aOV):a1 (kl w) w.heap.size w xz w:=by
 refine⟨⟨λ_ _=>rfl,λ_ _ _ _ _ h=>by simp[xz]at h,λ_=>trivial,λb a ak=>?_,λg q i=>by simp[xz]at i,BY _⟩,hN.refl _ _⟩
 simp only[kl]at ak;split at ak
 ·rename_i c e j m;simp at ak;subst ak;exact⟨e,j,m⟩
 ·cases ak
theorem au.calls{P:aOR}{bE:aOZ}{args:List V}{v:V}{a:aOU}(av:au P bE args xz λr _=>r=v)(j:nW v=some a){w:aOV}
  {args':Array aOU} (aT:a6 (kl w) args args'.toList):Calls P bE args' w λe w'=>e=.returned a/\Below w.heap.size w w' :=
 (av (kl w) w.heap.size w w args' (UD w) aT).mono λe w' U=>by
  rcases U with⟨ρ',r,B,h',i,s,u,_,z⟩|⟨_,_,_,_,_,_,_,A⟩
  ·subst z;rw[zf s j]at i;exact⟨i,u.below.below⟩
  ·exact A.elim
def pF(a:Array aOX):Nat->Nat->Nat->Bool
 | 0,_,_=>false
 | n+1,k,i=>match a[k]? with
  | some o=>o.after.any λe=>Region.binds .any e&&(e.on==i||pF a n e.on i)
  | none=>false
def Down(i:Array aOX)(a:Array Bool):Prop:=∀k o,i[k]?=some o->a.getD k false=true->∀e∈o.after,Region.binds .any e=true->a.getD e.on false=true
theorem UE{m:Array aOX}{a:Array Bool}(u:Down m a):∀(n k i:Nat),(∀o,m[k]?=some o->∀e∈o.after,Region.binds .any e=true->a.getD e.on false=true)->pF m n k i=true->a.getD i false=true
 | 0,k,i,_,h=>by simp[pF]at h
 | n+1,k,i,A,h=>by
  unfold pF at h;cases q:m[k]? with
  | none=>simp[q]at h
  | some o=>
   simp only[q]at h;obtain⟨j,B,U⟩:=Array.any_eq_true.1 h;simp only[ajC,az2,beq_iff_eq]at U;have C:o.after[j]∈o.after:=Array.getElem_mem B;have z:=A o q _ C U.1;rcases U.2 with s|s
   ·rw[<-s];exact z
   ·exact UE u n _ i (λD E e F ak=>u _ D E z e F ak) s
theorem Down.add{ops:Array aOX}{j:Array Bool}(C:Down ops j){i:Nat}(D:i∈Region.ready .any ops j):Down ops (j.setIfInBounds i true):=by
 obtain⟨_,o,E,F⟩:=mem_ready.1 D;intro k u s z e A ak;by_cases B:k=i
 ·subst B;rw[E]at s;obtain rfl:o=u:=by simpa using s
  exact getD_set_true (F e A ak)
 ·rw[getD_set_ne false (Ne.symm B)]at z;exact getD_set_true (C k u s z e A ak)
def tN(P:aOR)(j:Array aOX)(es:List Nat)(K E:aj->I->Prop):Nat->Array Bool->aj->I->Prop
 | 0,a,f,h=>Region.ready .any j a=[]/\K f h
 | n+1,a,f,h=>(Region.ready .any j a=[]->K f h) /\
  ∀i∈Region.ready .any j a,∀o,j[i]?=some o ->
   if es.contains i then(match h4 j.toList o.guard f with
    | some true=>iE P o (λm h'=>tN P j es K E n (a.setIfInBounds i true) m h') E f h
    | some false=>tN P j es K E n (a.setIfInBounds i true) (f.put o.dst (.tuple [])) h
    | none=>False)
   else ∃v,gY P j.toList h o v f/\tN P j es K E n (a.setIfInBounds i true) (f.put o.dst v) h
theorem FU{P:aOR}{n:Nat}{q:Array aOX}{es:List Nat}(E:q.toList.all (λo=>s7 n o.dst)=true){ρ0:Ren}{B:Nat}{W:aOV}{Q:cC->aj->I->Prop} :
  ∀(m:Nat) (j:Array Bool) (f:aj) (h:I) (ρ:Ren) (a:Act) (w:aOV),ρ0.le ρ->a1 ρ B W h w->eE ρ n f a->tN P q es (Q .normal) (Q .panic) m j f h->wpAnyIn aPc.wide 0 P .any q (mM n B W ρ0 Q) m j a w
 | 0,j,f,h,ρ,a,w,s,C,u,F=>⟨F.1,⟨ρ,.normal,f,h,trivial,C,u,s,F.2⟩⟩
 | m+1,j,f,h,ρ,a,w,s,C,u,F=>by
  refine⟨λZ=>⟨ρ,.normal,f,h,trivial,C,u,s,F.1 Z⟩,λi hi=>?_⟩;unfold wpOpIn;cases S:q[i]? with
  | none=>
   obtain⟨_,o,X,_⟩:=mem_ready.1 hi;rw[S]at X;cases X
  | some o=>
   simp only;have z:=F.2 i hi o S;have N:s7 n o.dst=true:=(ayL.1 E) o (by rw[Array.mem_toList_iff];exact Array.mem_of_getElem? S)
   by_cases O:es.contains i=true
   ·rw[if_pos O]at z;cases A:h4 q.toList o.guard f with
    | none=>simp[A]at z
    | some b=>
     rw[PD u q o A];cases b with
     | true=>
      simp only[A]at z;simp only[if_true];exact Uk u2.wide N s C u z (fun ρ' D h' R w' G H L T=>FU E m _ D h' ρ' R w' G H L T)
       (fun ρ' D h' R w' jA G H L o3 bN=>⟨ρ',.panic,D,h',o3,H,L,G,bN⟩)
     | false=>
      simp only[A]at z;simp only[azs,if_false];exact⟨λ_ _=>trivial,FU E m _ _ h ρ _ w s C (u.put (Km _) o.dst N) z⟩
   ·rw[if_neg O]at z;obtain⟨v,bk,Y⟩:=z;rcases bk with⟨A,M⟩|⟨A,rfl⟩
    ·rw[PD u q o A];simp only[if_true];refine Uk u2.wide (next:=λD h'=>D=f.put o.dst v/\h'=h) (exc:=λ_ _=>False) N s C u ?_ (fun ρ' D h' R w' G H L T=>?_) (λ_ _ _ _ _ _ _ _ _ _ O=>O.elim)
     ·unfold iE;rcases M with M|⟨g,args,M,aW⟩
      ·rw[M];exact⟨rfl,rfl⟩
      ·rw[M];exact aW.e.mono (λr h' ⟨ay,bc⟩=>⟨by rw[ay],bc⟩) λ_ h=>h
     ·obtain⟨rfl,rfl⟩:=T;exact FU E m _ _ _ ρ' R w' G H L Y
    ·rw[PD u q o A];simp only[azs,if_false];exact⟨λ_ _=>trivial,FU E m _ _ h ρ _ w s C (u.put (Km _) o.dst N) Y⟩
section
variable {P:aOR} {ops:Array aOX} {es:List Nat} {K E:aj->I->Prop}
def xA(ops:Array aOX)(es:List Nat):Nat->Nat->Array Bool->Bool
 | 0,_,a=>(Region.ready .any ops a).isEmpty
 | i+1,k,a=>(if es.contains k then Region.ready .any ops a==[k]
   else(Region.ready .any ops a).contains k&&Region.free .any ops a k&&es.all λe=>a.getD e true||pF ops ops.size e k)&&xA ops es i (k+1) (a.setIfInBounds k true)
theorem anA{o:aOX}{K j E:aj->I->Prop}(i:∀f h,K f h->j f h){f:aj}{h:I}(a:iE P o K E f h):iE P o j E f h:=by
 unfold iE at *;split at a
 ·exact i _ _ a
 ·exact a.mono (λ_ _ h=>i _ _ h) λ_ h=>h
 ·exact λv h' m=>i _ _ (a v h' m)
 ·exact a
 ·exact a.mono (λ_ _ h=>i _ _ h)
 ·exact a.elim
theorem aag{a:Array Bool}{i e:Nat}(h:a.getD e true=true):(a.setIfInBounds i true).getD e true=true:=by
 by_cases j:i=e
 ·subst j;by_cases m:i<a.size
  ·simp[m]
  ·simp[m]
 ·rw[getD_set_ne true j];exact h
theorem PM:∀(l:List aOX) (k:Nat) (a:Array Bool) (f:aj) (h:I),(∀j,l[j]?=ops[k+j]?)->Down ops a ->
  xA ops es l.length k a=true->mN P ops.toList es K E k l f h->tN P ops es K E l.length a f h
 | [],_,_,_,_,_,_,S,m=>⟨by simpa [xA]using S,m⟩
 | o::l,k,a,f,h,ax,G,S,m=>by
  have L:ops[k]?=some o:=by simpa using(ax 0).symm
  have X:∀j,l[j]?=ops[k+1+j]?:=λj=>by have:=ax (j+1);simpa [Nat.add_assoc,Nat.add_comm 1 j]using this
  simp only[axW,xA,ajC]at S;obtain⟨av,Y⟩:=S;unfold mN at m;by_cases B:es.contains k=true
  ·rw[if_pos B]at av m;have z:Region.ready .any ops a=[k]:=by simpa using av
   refine⟨λh=>(by rw[z]at h;cases h),λi hi Z O=>?_⟩
   rw[z]at hi;obtain rfl:i=k:=by simpa using hi
   rw[L]at O;obtain rfl:o=Z:=by simpa using O
   rw[if_pos B];have zB:=G.add (show i∈Region.ready .any ops a by rw[z];simp)
   cases F:h4 ops.toList o.guard f with
   | none=>simp[F]at m
   | some b=>
    cases b with
    | true=>
     simp only[F]at m⊢;exact anA (λbU h' hk=>PM l (i+1) _ bU h' X zB Y hk) m
    | false=>
     simp only[F]at m⊢;exact PM l (i+1) _ _ h X zB Y m
  ·rw[if_neg B]at av m;simp only[ajC]at av;obtain⟨⟨z,az⟩,UF⟩:=av;have hy:k∈Region.ready .any ops a:=by simpa using z
   have:∃v,gY P ops.toList h o v f/\mN P ops.toList es K E (k+1) l (f.put o.dst v) h:=by
    split at m
    ·rename_i F;obtain⟨v,aa,m⟩:=m;exact⟨v,.inl ⟨F,aa⟩,m⟩
    ·rename_i F;exact⟨.tuple [],.inr ⟨F,rfl⟩,m⟩
    ·exact m.elim
   obtain⟨v,Q,ct⟩:=this;have rD:∀e∈es,a.getD e true=true\/pF ops ops.size e k=true:=λe tB=>by
    have:=ayL.1 UF e tB;simpa using this
   refine AZ L (by simpa using B) rD l.length a f h G (Region.free_spec L az) hy Q (λe s=>s)
    (PM l (k+1) _ _ h X (G.add hy) Y ct)
where
 AZ {i:Nat} {C:aOX} {v:V} (hi:ops[i]?=some C) (rq:es.contains i=false) {BG:Array Bool} (rD:∀e∈es,BG.getD e true=true\/pF ops ops.size e i=true)
   (q:Nat) (a:Array Bool) (f:aj) (h:I) (G:Down ops a) (lW:∀j A,ops[j]?=some A->j≠i->a.getD j true=false->(∀e∈A.after,Region.binds .any e=true->e.on≠i)->C.apart ops A=true)
   (z:i∈Region.ready .any ops a) (Q:gY P ops.toList h C v f) (oO:∀e,BG.getD e true=true->a.getD e true=true)
   (H:tN P ops es K E q (a.setIfInBounds i true) (f.put C.dst v) h):tN P ops es K E (q+1) a f h:=by
  induction q generalizing a f with
  | zero=>
   refine⟨λh=>(by rw[h]at z;cases z),λj R o aO=>?_⟩
   by_cases D:j=i
   ·subst D;rw[hi]at aO;obtain rfl:C=o:=by simpa using aO
    rw[if_neg (by rw[rq];exact aE9)]
    exact⟨v,Q,H⟩
   ·have:=ready_mono R D;rw[H.1]at this;cases this
  | succ q ih=>
   refine⟨λh=>(by rw[h]at z;cases z),λj R A M=>?_⟩
   by_cases D:j=i
   ·subst D;rw[hi]at M;obtain rfl:C=A:=by simpa using M
    rw[if_neg (by rw[rq];exact aE9)]
    exact⟨v,Q,H⟩
   ·have N:=(mem_ready.1 z).1;obtain⟨T,KH,zC,dq⟩:=mem_ready.1 R;rw[M]at zC;obtain rfl:A=KH:=by simpa using zC
    have DT:¬es.contains j=true:=λav=>by
     rcases rD j (by simpa using av)with s|s
     ·rw[oO j s]at T;cases T
     ·have W:=UE G _ j i (λZ O e B ak=>by
                                   rw[M]at O;obtain rfl:A=Z:=by simpa using O
                                   exact dq e B ak) s
      rcases aAy i a.size with h'|h'
      ·simp[h']at N W;rw[N]at W;cases W
      ·simp[aCc h']at W
    have hH:=H.2 j (ready_mono R D) A M;rw[if_neg DT]at hH⊢;obtain⟨u,KI,h5⟩:=hH;have xB:∀e∈A.after,Region.binds .any e=true->e.on≠i:=λe B ak ag=>by
     have s:=dq e B ak;have L:=N;rw[ag]at s;rcases aAy i a.size with h'|h'
     ·simp[h']at L s;rw[L]at s;cases s
     ·simp[aCc h']at s
    obtain⟨bZ,a2,a3⟩:=aOX.apart_spec (lW j A M D T xB);refine⟨u,KI.Cu C.dst v bZ,?_⟩;have wu:∀k ok,ops[k]?=some ok->k≠i->(a.setIfInBounds j true).getD k true=false ->
      (∀e∈ok.after,Region.binds .any e=true->e.on≠i)->C.apart ops ok=true:=λk ok hk qk N eR=>by
     refine lW k ok hk qk ?_ eR;by_cases DU:j=k
     ·subst DU;exact T
     ·rw[getD_set_ne true DU]at N;exact N
    refine ih (a.setIfInBounds j true) (f.put A.dst u) (G.add R) wu (ready_mono z (Ne.symm D)) (Q.put A.dst u a3) (λe s=>aag (oO e s)) ?_;rw[Array.setIfInBounds_comm _ _ D,<-aj.put_comm f v u a2];exact h5
end
theorem aS.drawn{P:aOR}{n id:Nat}{ops:Array aOX}(es:List Nat)(j:P.follows .mixedOrders=true)(s:xA ops es ops.size 0 (azZ ops.size false)=true)(u:ops.toList.all (λo=>s7 n o.dst)=true){Q:cC->aj->I->Prop}{f:aj}{h:I}
  (z:mN P ops.toList es (Q .normal) (Q .panic) 0 ops.toList f h):aS P n (.region id ops true) Q f h:=by
 intro ρ B D a w A C;refine wpIn_wide.1 (wpIn_region_any (n:=0) j (FU (ρ0:=ρ) (es:=es) u _ _ f h ρ a _ (Ren.le.refl ρ) A.drew C ?_));have:=PM (P:=P) (es:=es) ops.toList 0 (azZ ops.size false) f h (by simp) (λk o E i=>by simp[Array.getElem?_replicate]at i;split at i<;>simp_all) (by simpa using s) z
 simpa using this
def DV(P:aOR)(a:List aOX)(es:List Nat)(k:Nat)(l:List aOX)[K:fz](f:aj)(h:I):Prop:=mN P a es K.go K.exc k l f h
theorem aS.tP{P:aOR}{n id:Nat}{ops:Array aOX}(es:List Nat)(i:P.follows .mixedOrders=true)(j:xA ops es ops.size 0 (azZ ops.size false)=true)(s:ops.toList.all (λo=>s7 n o.dst)=true){Q:sc}{f:aj}{h:I}
  (u:@DV P ops.toList es 0 ops.toList (.out Q) f h):aS P n (.region id ops true) Q.go f h:=aS.drawn es i j s u
section
variable {P:aOR} {ol l:List aOX} {es:List Nat} {k:Nat} {K:fz} {f:aj} {h:I} {d:Option Tmp} {ty:aOS} {pos:String} {cw:Array Edge} {op:Op} {g:Option (Nat×Bool)}
theorem I5:@DV P ol es k [] K f h=@jq K f h:=nr rfl
theorem zD:@jq (fz.rest P ol es k l K) f h=@DV P ol es k l K f h:=nr rfl
theorem KJ:fz.exc (fz.rest P ol es k l K) f h=fz.exc K f h:=nr rfl
theorem anB{o:aOX}{h:I}{f:aj}{X E:aj->I->Prop}(u:∀v h',ey P o (f.eval h) h=some (.val v h')->h'=h)(j:iE P o X E f h)(z:∀g a,ey P o (f.eval h) h≠some (.call g a))(m:∀l,ey P o (f.eval h) h≠some (.alts l))(A:ey P o (f.eval h) h≠some .panic)(q:∀l a,ey P o (f.eval h) h≠some (.round l a)) :
  ∃v,DQ P o h f v/\X (f.put o.dst v) h:=by
 unfold iE at j;cases i:ey P o (f.eval h) h with
 | none=>simp[i]at j
 | some s=>
  cases s with
  | val v h'=>simp only[i]at j;have:=u v h' i;subst this;exact⟨v,.inl i,j⟩
  | call g a=>exact absurd i (z g a)
  | alts l=>exact absurd i (m l)
  | panic=>exact absurd i A
  | round l a=>exact absurd i (q l a)
def pk:Op->Bool
 | .move _ | .assign _ | .pick .. | .build .. | .load .. | .nilCheck _ | .binOp .. | .unOp .. | .makeInterface .. | .makeFunc .. | .slice .. | .fieldAddr .. | .field .. | .indexAddr .. | .index .. | .lookup .. | .entry _ | .typeAssert .. | .extract ..=>true
 | .convert s d _=>s !=d
 | .call ⟨.builtin .len,_,_⟩ | .call ⟨.builtin .min,_,_⟩ | .call ⟨.builtin .max,_,_⟩=>true
 | _=>false
theorem UG{x:Option V}{h:I}{s:Step}(a:hh x h=some s):∃v,s=.val v h:=by
 unfold hh at a;split at a
 ·simp at a;exact⟨_,a.symm⟩
 ·cases a
theorem FV{o:aOX}(hi:pk o.op=true){bF:aOW->V}{s:Step}(i:ey P o bF h=some s):∃v,s=.val v h:=by
 obtain⟨u,op,type,pos,m,guard⟩:=o;unfold ey at i;cases op<;>simp[pk]at hi<;>simp only at i
 case move x=>simp at i;exact⟨_,i.symm⟩
 case assign x=>simp at i;exact⟨_,i.symm⟩
 case pick c a b=>split at i<;>simp at i;exact⟨_,i.symm⟩
 case nilCheck x=>split at i<;>simp at i<;>exact⟨_,i.symm⟩
 case makeInterface t x=>split at i<;>simp at i;exact⟨_,i.symm⟩
 case makeFunc fn xs ys=>simp at i;exact⟨_,i.symm⟩
 case extract t k=>split at i<;>first|exact UG i|simp at i
 case convert a b x=>
  cases av:oL P a b (bF x) h with
  | some v=>
   rw[av]at i;exact⟨v,(Option.some.inj i).symm⟩
  | none=>
   rw[av]at i;have:AU P a b (bF x) h=none:=by
    unfold AU;split
    ·rw[if_neg (λe=>hi e.1)]
    ·rfl
   rw[this]at i;cases i
 case call c=>
  have ak:c.callee=.builtin .len\/c.callee=.builtin .min\/c.callee=.builtin .max:=by
   split at hi<;>simp_all
  have q:∀b,c.callee=.builtin b->(b=.len\/b=.min\/b=.max)->∃v,s=.val v h:=λb ak av=>by
   unfold k4 at i;rw[ak]at i;have j:(match p9 P b c.argTypes.toList type (wj c.args) (c.args.toList.map bF) h with|some (v,h')=>some (Step.val v h')|none=>none)=some s:=by
    rcases av with rfl|rfl|rfl<;>exact i
   cases aT:p9 P b c.argTypes.toList type (wj c.args) (c.args.toList.map bF) h with
   | none=>rw[aT]at j;cases j
   | some p=>
    obtain⟨v,h'⟩:=p;rw[aT]at j;simp at j;subst j;have:h'=h:=by
     unfold p9 at aT;rcases av with rfl|rfl|rfl
     ·split at aT
      ·split at aT<;>simp at aT;exact aT.2.symm
      all_goals first
       | (simp at *;done)
       | (
         split at aT
         ·split at aT<;>simp at aT;exact aT.2.symm
         ·simp at aT)
     all_goals
      split at aT
      all_goals first
       | (simp at *;done)
       | (
         split at aT
         ·split at aT<;>simp at aT;exact aT.2.symm
         ·simp at aT)
    subst this;exact⟨v,rfl⟩
  rcases ak with ak|ak|ak
  ·exact q _ ak (.inl rfl)
  ·exact q _ ak (.inr (.inl rfl))
  ·exact q _ ak (.inr (.inr rfl))
 all_goals exact UG i
def DX(w:Option Bool)(o:aOX)(P:aOR)(ol:List aOX)(es:List Nat)(k:Nat)(l:List aOX)[K:fz](f:aj)(h:I):Prop :=
 match w with
 | some true=>@eW P o (fz.rest P ol es (k+1) l K) f h
 | some false=>@DV P ol es (k+1) l K (f.put o.dst (.tuple [])) h
 | none=>False
theorem anC{o:aOX}(hi:(pk o.op||es.contains k)=true)(j:@DX (h4 ol o.guard f) o P ol es k l K f h):@DV P ol es k (o::l) K f h:=by
 unfold DV mN;unfold DX at j;by_cases i:es.contains k=true
 ·rw[if_pos i];cases q:h4 ol o.guard f with
  | none=>simp[q]at j
  | some b=>cases b<;>simp only[q]at j⊢<;>exact j
 ·rw[if_neg i];have s:pk o.op=true:=by
   simp only[az2]at hi;exact hi.resolve_right i
  cases q:h4 ol o.guard f with
  | none=>simp[q]at j
  | some b=>
   cases b with
   | false=>simp only[q]at j⊢;exact j
   | true=>
    simp only[q]at j⊢;have z:iE P o (λA h'=>mN P ol es K.go K.exc (k+1) l A h') K.exc f h:=j;exact anB (λv h' i=>by obtain⟨u,m⟩:=FV s i;cases m;rfl) z
     (λg a i=>by obtain⟨u,m⟩:=FV s i;cases m) (λl i=>by obtain⟨u,m⟩:=FV s i;cases m) (λi=>by obtain⟨u,m⟩:=FV s i;cases m) (λl a i=>by obtain⟨u,m⟩:=FV s i;cases m)
theorem zE{o:aOX}(hi:(pk o.op||es.contains k)=true):@DV P ol es k (o::l) K f h=@DX (h4 ol o.guard f) o P ol es k l K f h:=by
 refine propext ⟨λi=>?_,anC hi⟩;unfold DV mN at i;unfold DX;by_cases q:es.contains k=true
 ·rw[if_pos q]at i;cases j:h4 ol o.guard f with
  | none=>simp[j]at i
  | some b=>cases b<;>simp only[j]at i⊢<;>exact i
 ·rw[if_neg q]at i;have s:pk o.op=true:=by
   simp only[az2]at hi;exact hi.resolve_right q
  cases j:h4 ol o.guard f with
  | none=>simp[j]at i
  | some b=>
   cases b with
   | false=>simp only[j]at i⊢;exact i
   | true=>
    simp only[j]at i⊢;obtain⟨v,m,z⟩:=i;show iE P o (λA h'=>mN P ol es K.go K.exc (k+1) l A h') K.exc f h;unfold iE;rcases m with m|⟨g,a,m,_⟩
    ·rw[m];exact z
    ·obtain⟨u,B⟩:=FV (h:=h) s m;cases B
theorem zF{o:aOX}:@DX (some true) o P ol es k l K f h=@eW P o (fz.rest P ol es (k+1) l K) f h:=nr rfl
theorem zG:h4 ol none f=some true:=nr rfl
end
end Go.Proofs.YtemdgidnhgcafaaGreatDoor.Ab
