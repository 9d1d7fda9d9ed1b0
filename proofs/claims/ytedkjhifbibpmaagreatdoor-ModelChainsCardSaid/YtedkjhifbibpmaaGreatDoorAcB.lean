/-
  Rules of the machine on abstract states. Conditions: as each theorem says.
-/
import Derived.Test.YtedkjhifbibpmaaGreatDoorAcA
import Derived.Lib.Overlaps
import Derived.Laws.LoneSync
import Derived.LoopN
import Derived.ScopeJumps
import Derived.Deep.Quiet
import Derived.OrdersIn
import Derived.RangeFuncIn
import Derived.RangeFuncLeaves
import Derived.RangeFuncRecord
import Derived.IntWalk
set_option linter.unusedVariables false
set_option linter.unusedSimpArgs false
namespace Go.Proofs.YtedkjhifbibpmaaGreatDoor.Ab
open Go Go.RowKit
inductive Step where
 | val (v:V) (h:I)
 | call (f:FuncId) (args:List V)
 | alts (l:List (V×I))
 | panic
 | round (l:Nat) (args:List V)
def bT (P:Program) (f:FuncId):Bool :=
 match P.funcs[f]? with
 | some fn => fn.body.isSome && fn.name != "runtime.NumGoroutine"
 | none=>false
def Ae (P:Program) (t:TypeId):Option Bool:=match P.underlying t with | some (.interface _)=>some true | some _=>some false | none=>none
def xG (P:Program) (t:TypeId) (x:V) (h:I):Option I :=
 match s4 P t,x with
 | some _,.an=>some h
 | some _,.z0=>some h
 | some _,.ai n _=>if n=0 then some h else none
 | some e,.bc i o len _=>
  match hF P e,h.get i with
  | some zs,.cells c aW ex=>
   if len=0 then some h
   else if zs.all (·.one)=true∧o+(made zs len).length≤c.length then some (h.set i (.cells (lay c o (made zs len)) aW ex)) else none
  | _,_=>none
 | _,_=>none
theorem acj {α:Type} (p:α→Bool) (z:List α) (n:Nat) (h:z.all p=true):(made z n).all p=true:=by
 induction n with
 | zero=>rfl
 | succ n ih=>rw [Es,List.all_append,ih,h];rfl
theorem wr {P:Program} {t ty:TypeId} {x:V} {bS:Value} {h h':I} (U:xG P t x h=some h') {ρ:Ren} {B:Nat} {aK w:World} (R:aQ ρ B aK h w) (ag:aA ρ x bS) :
  ∃ w',(Builtin.clear_ #[t] ty #[bS]).run P w=.ok (.tuple #[]) w'∧aQ ρ B aK h' w':=by
 unfold xG at U
 have bF:∀ e,s4 P t=some e→P.underlying t=some (.slice e):=fun e he=>by
  unfold s4 at he
  split at he
  ·rename_i hu;rw [hu];simpa using he
  ·cases he
 split at U
 ·rename_i e he
  obtain rfl:h=h':=by simpa using U
  cases ag
  exact ⟨w,by simp [Builtin.clear_,run_underlying (bF _ he)],R⟩
 ·rename_i e he
  obtain rfl:h=h':=by simpa using U
  cases ag with
  | z0 a aO=>cases a<;>exact ⟨w,by simp [Builtin.clear_,run_underlying (bF _ he)],R⟩
 ·rename_i e n cs he
  split at U
  case isFalse=>cases U
  rename_i h0
  subst h0
  obtain rfl:h=h':=by simpa using U
  rcases ag.jX with ⟨_,rfl,a,qQ,aO,rfl⟩ | ⟨b,o,cap,arr,ak,aG,aR,dX,rfl⟩
  ·cases a with
   | none=>
    obtain rfl:=aO rfl
    exact ⟨w,by simp [Builtin.clear_,run_underlying (bF _ he)],R⟩
   | some a=>exact ⟨w,by simp [Builtin.clear_,run_underlying (bF _ he)],R⟩
  ·exact ⟨w,by simp [Builtin.clear_,run_underlying (bF _ he)],R⟩
 ·rename_i e i o len cap he
  split at U
  case h_2=>cases U
  rename_i zs c aW ex bK av
  obtain ⟨b,bw,hi,az,rfl⟩:=ag.fA
  split at U
  ·rename_i h0
   subst h0
   obtain rfl:h=h':=by simpa using U
   exact ⟨w,by simp [Builtin.clear_,run_underlying (bF _ he)],R⟩
  ·rename_i h0
   split at U
   case isFalse=>cases U
   rename_i au
   obtain rfl:_=h':=by simpa using U
   obtain ⟨z,Dy,eM⟩:=Ep bK
   obtain ⟨w',cR,eb⟩:=FD (P:=P) av R hi o ((eM ρ).made len) (acj _ _ _ au.1) au.2
   refine ⟨w',?_,eb⟩
   obtain ⟨m,rfl⟩:∃ m,len=m+1:=⟨len - 1,by omega⟩
   have r8:(Builtin.zeroCells z.cells (m+1)).toList=made z.cells.toList (m+1):=JF z.cells (m+1)
   simp [Builtin.clear_,run_underlying (bF _ he),JM Dy,r8,cR]
 ·cases U
def sB (P:Program) (t:TypeId) (x:V):Option V :=
 match P.underlying t,x with
 | some (.slice _),.bc _ _ _ cap=>if cap<b2 then some (.int .i64 cap) else none
 | some (.slice _),.an=>some (.int .i64 0)
 | some (.slice _),.z0=>some (.int .i64 0)
 | _,_=>none
theorem ack {P:Program} {t ty:TypeId} {x v:V} {bS:Value} {h:I} (U:sB P t x=some v) {ρ:Ren} {B:Nat} {aK w:World} (R:aQ ρ B aK h w) (ag:aA ρ x bS) :
  bH P (Builtin.cap_ #[t] ty #[bS]) ρ w v:=by
 unfold sB at U
 split at U
 ·rename_i e i o len cap hu
  split at U
  case isFalse=>cases U
  rename_i au
  obtain rfl:=Option.some.inj U
  obtain ⟨b,bw,hi,az,rfl⟩:=ag.fA
  have dj:fk bw cap=cap:=by simp [fk,au]
  exact .mk (by simp [Builtin.cap_,run_underlying hu,dj];rfl) (.int _ _)
 ·rename_i e hu
  obtain rfl:=Option.some.inj U
  cases ag
  exact .mk (by simp [Builtin.cap_,run_underlying hu];rfl) (.int _ _)
 ·rename_i e hu
  obtain rfl:=Option.some.inj U
  cases ag
  exact .mk (by simp [Builtin.cap_,run_underlying hu];rfl) (.int _ _)
 ·cases U
def oi (P:Program) (b:Builtin) (types:List TypeId) (ty:TypeId) (consts:Array Bool) (args:List V) (h:I):Option (V×I) :=
 match b,types,args with
 | .len,[t],[x]=>match dU P t x h with
  | some v=>some (v,h)
  | none=>none
 | .append,[t,tx],[s,x]=>ma P t tx s x h
 | .copy,[t,_],[d,s]=>xD P t d s h
 | .delete,[t,_],[m,k]=>(ip P t m k h).map fun h'=>(.tuple [],h')
 | .clear,[t],[x]=>(xG P t x h).map fun h'=>(.tuple [],h')
 | .cap,[t],[x]=>match sB P t x with
  | some v=>some (v,h)
  | none=>none
 | _,_,_=>
  match be args with
  | some as=>match cQ P (builtin b types.toArray ty consts as.toArray) with
   | some (.value v)=>some (fX v,h)
   | _=>none
  | none=>none
theorem FT {ρ:Ren} {x y:V} {args':Array Value} (aO:aT ρ [x,y] args'.toList):∃ bS oW,args'=#[bS,oW]∧aA ρ x bS∧aA ρ y oW:=by
 obtain ⟨cK,im,he,nF,iO⟩:=aO.di
 obtain ⟨bS,apq,sa,dX,Oq⟩:=iO.di
 rw [Oq.eq_nil] at sa
 exact ⟨cK,bS,by apply Array.ext';rw [he,sa],nF,dX⟩
theorem JO {ρ:Ren} {x:V} {args':Array Value} (aO:aT ρ [x] args'.toList):∃ bS,args'=#[bS]∧aA ρ x bS:=by
 obtain ⟨bS,im,he,ag,iO⟩:=aO.di
 rw [iO.eq_nil] at he
 exact ⟨bS,by apply Array.ext';simpa using he,ag⟩
def um (P : Program) (bt : FuncId) : Prop := ∃ fn, P.funcs[bt]? = some fn ∧ (fn.name == "runtime.NumGoroutine") = false ∧ fn.body.isNone = true ∧ Extern.findNext fn = none ∧ Extern.find fn = some (Extern.SlicesOverlaps.overlaps fn.params fn.resultTypes) ∧
 ∃ t e sz u,fn.params=#[t,t]∧fn.resultTypes=#[u]∧P.underlying t=some (.slice e)∧cI P e=some sz
def tc (h:I):List V→Option V
 | [.bc i _ _ _,.bc j _ _ _]=>match h.get i,h.get j with
  | .cells _ _ _,.cells (_::_) _ _=>if i≠j then some (.bool false) else none
  | _,_=>none
 | _=>none
theorem acm {P:Program} {bt:FuncId} {args:List V} {args':Array Value} {v:V} {h:I} (aR:um P bt) (U:tc h args=some v) {ρ:Ren} {B:Nat} {aK w:World} (R:aQ ρ B aK h w) (aO:aT ρ args args'.toList) :
  ∃ v',(callFunc bt args').run P w=.ok (.value v') w∧aA ρ v v':=by
 obtain ⟨fn,h1,aa,aC,bz,bY,t,e,sz,u,aZ,aH,hu,bK⟩:=aR
 unfold tc at U
 split at U
 case h_2=>cases U
 rename_i i o n c j p m d
 split at U
 case h_2=>cases U
 rename_i qQ fB ap6 apr JP Af ap7 k6 vC
 split at U
 case isFalse=>cases U
 rename_i hp
 obtain rfl:=Option.some.inj U
 obtain ⟨hB,cF,rfl,Ey,FQ⟩:=FT aO
 obtain ⟨Ot,To,L8,aps,rfl⟩:=Ey.fA
 obtain ⟨JQ,Tp,L9,apt,rfl⟩:=FQ.fA
 have mS:=R.heap.obj i
 rw [k6] at mS
 obtain ⟨ec,Ma,y7,aw,_,_,c2,_⟩:=mS
 rw [L8] at aw
 cases aw
 have ob:=R.heap.obj j
 rw [vC] at ob
 obtain ⟨bW,iI,mT,aW,_,_,bX,dm,_⟩:=ob
 rw [L9] at aW
 cases aW
 have bO:Ot≠JQ:=fun ab=>hp (R.heap.inj i j Ot To Tp (by rw [k6];simp) (by rw [vC];simp) L8 (by rw [ab];exact L9))
 refine ⟨.bool false,?_,.bool false⟩
 rw [run_callFunc_extern h1 aa aC bz bY,aZ,aH]
 rw [Lib.run_overlaps_apart w t u e hu sz (fun w=>by
   unfold cI at bK
   cases ad:P.info? e with
   | none=>simp [ad] at bK
   | some bZ=>simp [ad] at bK;simp [sizeOf,typeInfo,ad,bK]) ⟨Ot,o,none⟩ ⟨JQ,p,none⟩ n _ m _ bO fB Af y7.size mT.size (by simp [World.shape?,c2]) (by simp [World.shape?,bX]) (by simp at dm;omega) (by simp [World.frozen?,c2]) (by simp [World.frozen?,c2])]
 rfl
def FU (P : Program) (bt : FuncId) : Prop := ∃ fn, P.funcs[bt]? = some fn ∧ (fn.name == "runtime.NumGoroutine") = false ∧ fn.body.isNone = true ∧ Extern.findNext fn = none ∧ Extern.find fn = some (Extern.Atomic.loadT (.int .i64)) ∧ ∃ a, fn.params = #[a]
def FV (P : Program) (bt : FuncId) : Prop := ∃ fn, P.funcs[bt]? = some fn ∧ (fn.name == "runtime.NumGoroutine") = false ∧ fn.body.isNone = true ∧ Extern.findNext fn = none ∧ Extern.find fn = some (Extern.Atomic.update (Op.intArith .add) .i64 true) ∧ ∃ a b, fn.params = #[a, b] ∧ a ≠ b
def FW (h:I):List V→Option V
 | [.ptr i o]=>match h.get i with
  | .cells c _ _=>match c[o]? with
   | some (.int .i64 x)=>some (.int .i64 x)
   | _=>none
  | _=>none
 | _=>none
def FX (h:I):List V→Option (V×I)
 | [.ptr i o,.int .i64 y]=>match h.get i with
  | .cells c e ex=>match c[o]? with
   | some (.int .i64 x)=>some (.int .i64 (IntKind.i64.wrap (x+y)),h.set i (.cells (lay c o [.int .i64 (IntKind.i64.wrap (x+y))]) e ex))
   | _=>none
  | _=>none
 | _=>none
theorem cell_of {ρ:Ren} {B:Nat} {h:I} {w:World} (H:oV ρ B h w) {i o:Nat} {c:List V} {e:TypeId} {ex:Option Nat} (av:h.get i=.cells c e ex) {k:IntKind} {x:Int} (au:c[o]?=some (.int k x)) {b bw:Nat} (hi:ρ.ren i=some (b,bw)) :
  w.cell? ⟨b,o,none⟩=some (.int k x)∧w.frozen? ⟨b,o,none⟩=false:=by
 have aR:=H.obj i
 rw [av] at aR
 obtain ⟨bW,iI,arr,aH,aq,bM,hw,cw,az,ag⟩:=aR
 rw [aH] at hi;simp at hi
 obtain ⟨rfl,rfl⟩:=hi
 have aN:o<c.length:=(List.getElem?_eq_some_iff.1 au).1
 have h1:(arr.toList.take c.length)[o]?=some arr[o]:=by
  rw [List.getElem?_take,if_pos aN]
  simp [Array.getElem?_eq_getElem (show o<arr.size by omega)]
 have aa:=az.2 o _ _ au h1
 generalize aD:arr[o]=v at aa
 cases aa
 have aC:arr[o]?=some (.int k x):=by rw [Array.getElem?_eq_getElem (show o<arr.size by omega),aD]
 exact ⟨by simp [World.cell?,hw,aC],by simp [World.frozen?,hw]⟩
theorem acn {P:Program} {bt:FuncId} {args:List V} {args':Array Value} {v:V} {h:I} (aR:FU P bt) (U:FW h args=some v) {ρ:Ren} {B:Nat} {aK w:World} (R:aQ ρ B aK h w) (aO:aT ρ args args'.toList) :
  ∃ v',(callFunc bt args').run P w=.ok (.value v') w∧aA ρ v v':=by
 obtain ⟨fn,h1,aa,aC,bz,bY,_⟩:=aR
 unfold FW at U
 split at U
 case h_2=>cases U
 rename_i i o
 split at U
 case h_2=>cases U
 rename_i c e ex av
 split at U
 case h_2=>cases U
 rename_i x au
 obtain rfl:=Option.some.inj U
 obtain ⟨bS,rfl,ag⟩:=JO aO
 cases ag with
 | ptr hi o=>
 rename_i b bw
 obtain ⟨bh,_⟩:=cell_of R.heap av au hi
 exact ⟨_,run_call_load h1 aa aC bz .i64 bY bh,.int _ _⟩
theorem aco {P:Program} {bt:FuncId} {args:List V} {args':Array Value} {v:V} {h h':I} (aR:FV P bt) (U:FX h args=some (v,h')) {ρ:Ren} {B:Nat} {aK w:World} (R:aQ ρ B aK h w) (aO:aT ρ args args'.toList) :
  ∃ v' w',(callFunc bt args').run P w=.ok (.value v') w'∧aA ρ v v'∧aQ ρ B aK h' w':=by
 obtain ⟨fn,h1,aa,aC,bz,bY,_⟩:=aR
 unfold FX at U
 split at U
 case h_2=>cases U
 rename_i i o y
 split at U
 case h_2=>cases U
 rename_i c e ex av
 split at U
 case h_2=>cases U
 rename_i x au
 simp only [Option.some.injEq,Prod.mk.injEq] at U
 obtain ⟨rfl,rfl⟩:=U
 obtain ⟨hB,cF,rfl,Ey,FQ⟩:=FT aO
 cases FQ
 cases Ey with
 | ptr hi o=>
 rename_i b bw
 obtain ⟨bh,bD⟩:=cell_of R.heap av au hi
 have aN:o<c.length:=(List.getElem?_eq_some_iff.1 au).1
 have aD:aT ρ [.int .i64 (IntKind.i64.wrap (x+y))] [.int .i64 (IntKind.i64.wrap (x+y))]:=.cons (.int _ _) (.nil ρ)
 obtain ⟨w',cv,eb⟩:=FD (P:=P) av R hi o aD rfl (show o+1≤c.length from aN)
 have cR:(storeCells ⟨b,o,none⟩ [.int .i64 (IntKind.i64.wrap (x+y))]).run P w=.ok () (w.setCell ⟨b,o,none⟩ (.int .i64 (IntKind.i64.wrap (x+y)))):=by
  have da:(store ⟨b,o,none⟩ (.int .i64 (IntKind.i64.wrap (x+y)))).run P w=.ok () (w.setCell ⟨b,o,none⟩ (.int .i64 (IntKind.i64.wrap (x+y)))):=by
   rw [run_store P w ⟨b,o,none⟩ (.int .i64 (IntKind.i64.wrap (x+y))) _ (by rfl),bh]
   simp [bD]
  simp [storeCells,Addr.add,da]
 rw [cR] at cv
 injection cv with _ hw
 subst hw
 exact ⟨_,_,run_call_add h1 aa aC bz .i64 bY bh bD (by simp [Op.intArith]),.int _ _,eb⟩
open Classical in
noncomputable def va (P:Program) (bt:FuncId) (args:List V) (h:I):Option (V×I) :=
 if um P bt then (match tc h args with | some v=>some (v,h) | none=>none)
 else if FU P bt then (match FW h args with | some v=>some (v,h) | none=>none)
 else if FV P bt then FX h args else none
theorem acp {P:Program} {bt:FuncId} {args:List V} {h:I} {v:V} (aR:um P bt) (aO:tc h args=some v):va P bt args h=some (v,h):=by
 unfold va;rw [if_pos aR,aO]
theorem acq {P:Program} {bt:FuncId} {args:List V} {args':Array Value} {v:V} {h h':I} (U:va P bt args h=some (v,h')) {ρ:Ren} {B:Nat} {aK w:World} (R:aQ ρ B aK h w) (aO:aT ρ args args'.toList) :
  ∃ v' w',(callFunc bt args').run P w=.ok (.value v') w'∧aA ρ v v'∧aQ ρ B aK h' w':=by
 unfold va at U
 split at U
 ·rename_i aR
  split at U
  case h_2=>cases U
  rename_i u hu
  simp only [Option.some.injEq,Prod.mk.injEq] at U
  obtain ⟨rfl,rfl⟩:=U
  obtain ⟨v',aw,aW⟩:=acm aR hu R aO
  exact ⟨v',w,aw,aW,R⟩
 split at U
 ·rename_i _ aR
  split at U
  case h_2=>cases U
  rename_i u hu
  simp only [Option.some.injEq,Prod.mk.injEq] at U
  obtain ⟨rfl,rfl⟩:=U
  obtain ⟨v',aw,aW⟩:=acn aR hu R aO
  exact ⟨v',w,aw,aW,R⟩
 split at U
 ·rename_i _ _ aR
  exact aco aR U R aO
 ·cases U
def td (a:Array Operand):Array Bool:=a.map fun | .const _=>true | _=>false
def gQ (P:Program) (t:TypeId) (name:String) (f:FuncId):Prop:=(∀ v w,(method (P.types.size+Made.depth) t v name).run P w=.ok (f,v) w)∧bT P f=true
theorem gQ.uniq {P:Program} {t:TypeId} {name:String} {f g:FuncId} (aq:gQ P t name f) (av:gQ P t name g):f=g:=by
 have:=(aq.1 .nilIface default).symm.trans (av.1 .nilIface default)
 injection this with h1
 injection h1
open Classical in
noncomputable def sC (P:Program) (x:V) (name:String) (args:List V):Option Step :=
 match x with
 | .iface t v=>if h:∃ f,gQ P t name f then some (.call (Classical.choose h) (v::args)) else none
 | _=>none
theorem FY {P:Program} {x:V} {name:String} {args:List V} {s:Step} (U:sC P x name args=some s):∃ t v f,x=.iface t v∧gQ P t name f∧s=.call f (v::args):=by
 unfold sC at U
 split at U
 case h_2=>cases U
 rename_i t v
 split at U
 case isFalse=>cases U
 rename_i ab
 simp only [Option.some.injEq] at U
 exact ⟨t,v,_,rfl,Classical.choose_spec ab,U.symm⟩
theorem acr {P:Program} {t:TypeId} {v:V} {name:String} {args:List V} {f:FuncId} (hm:gQ P t name f):sC P (.iface t v) name args=some (.call f (v::args)):=by
 have ab:∃ f,gQ P t name f:=⟨f,hm⟩
 unfold sC
 simp only [dif_pos ab]
 rw [(Classical.choose_spec ab).uniq hm]
open Classical in
noncomputable def jC (P:Program) (c:Call) (ty:TypeId) (bu:Operand→V) (h:I):Option Step :=
 match c.callee with
 | .builtin .panic=>match c.args.toList.map bu with
  | [.iface _ _]=>some .panic
  | _=>none
 | .builtin b=>
  match oi P b c.argTypes.toList ty (td c.args) (c.args.toList.map bu) h with
  | some (v,h')=>some (.val v h')
  | none=>none
 | .value f=>
  match bu f with
  | .func (.func bt) first captured=>if bT P bt then some (.call bt (first++c.args.toList.map bu++captured)) else (match va P bt (first++c.args.toList.map bu++captured) h with | some (v,h')=>some (.val v h') | none=>none)
  | .func (.yield l) [] []=>some (.round l (c.args.toList.map bu))
  | _=>none
 | .invoke r name=>sC P (bu r) name (c.args.toList.map bu)
def fY (o:Option V) (h:I):Option Step:=match o with | some v=>some (.val v h) | none=>none
def eY (o:Option (V×I)):Option Step:=match o with | some (v,h)=>some (.val v h) | none=>none
def qW (o:Option I):Option Step:=match o with | some h=>some (.val .top h) | none=>none
def vD (P:Program) (s d:TypeId) (x:V) (h:I):Option (V×I) :=
 match P.underlying s,x with
 | some (.slice e),.bc i o n _=>
  if s=d∧uj P e=true then
   match h.get i with
   | .cells c _ _=>if o+n≤c.length then some (.ai n ((c.drop o).take n),h.set i .dead) else none
   | _=>none
  else none
 | _,_=>none
theorem Tq {P:Program} {s d:TypeId} {x v:V} {h h':I} (U:vD P s d x h=some (v,h')):h'≠h:=by
 unfold vD at U
 split at U
 case h_2=>cases U
 split at U
 case isFalse=>cases U
 split at U
 case h_2=>cases U
 rename_i c aW ex av
 split at U
 case isFalse=>cases U
 simp only [Option.some.injEq,Prod.mk.injEq] at U
 intro e
 rename_i i _ _ _ _ _ _ _
 have h1:(h.set i .dead).get i=h.get i:=by rw [U.2,e]
 rw [av] at h1
 simp [I.set] at h1
theorem aQ.mark {ρ:Ren} {B:Nat} {aK:World} {h:I} {w:World} (R:aQ ρ B aK h w) {b:Nat} {arr:Array Value} (aq:ρ.frz b=some arr) (bM:B≤b) (k:Nat):aQ ρ B aK h (w.freeze ⟨b,k,none⟩ 1):=by
 have bO:∀ j,b≠j→(w.freeze ⟨b,k,none⟩ 1).heap[j]?=w.heap[j]?:=fun j aS=>by
  simp only [World.freeze,Nat.one_ne_zero,if_false,Array.getElem?_modify,if_neg aS]
 have heq:∀ c e fl,w.heap[b]?=some (.cells c e fl)→∃ FZ,(w.freeze ⟨b,k,none⟩ 1).heap[b]?=some (.cells c e FZ):=fun c e fl ad=>by
  simp only [World.freeze,Nat.one_ne_zero,if_false,Array.getElem?_modify,if_true,ad,Option.map_some]
  exact ⟨_,rfl⟩
 have bf:(w.freeze ⟨b,k,none⟩ 1).heap.size=w.heap.size:=by
  simp only [World.freeze,Nat.one_ne_zero,if_false,Array.size_modify]
 refine ⟨⟨R.heap.kg,R.heap.inj,fun i=>?_,fun cF hB ic=>?_,R.heap.glob,by rw [bf];exact R.heap.base⟩,R.below.trans ⟨?_,?_,?_,Nat.le_of_eq bf.symm,fun j aS=>bO j (by omega),?_⟩⟩
 ·by_cases a7:h.get i=.dead
  ·rw [a7];trivial
  ·refine (R.heap.obj i).al (Ren.le.refl ρ) fun cF c aH=>⟨bO cF ?_,fun h=>h⟩
   obtain ⟨bW,bw,iH,_,_,h8,_⟩:=R.heap.live a7
   rw [aH] at iH
   cases iH
   intro e
   subst e
   rw [aq] at h8;cases h8
 ·obtain ⟨e,fl,ad⟩:=R.heap.frz cF hB ic
  by_cases aS:b=cF
  ·subst aS
   obtain ⟨FZ,h1⟩:=heq _ _ _ ad
   exact ⟨e,FZ,h1⟩
  ·exact ⟨e,fl,(bO cF aS).trans ad⟩
 all_goals simp only [World.freeze,Nat.one_ne_zero,if_false]
 exact Nat.le_refl _
theorem acs {P:Program} {src dst:TypeId} {x v:V} {bS:Value} {h h':I} (U:vD P src dst x h=some (v,h')) {ρ:Ren} {B:Nat} {aK w:World} (R:aQ ρ B aK h w) (ag:aA ρ x bS) :
  Yields P (convert src dst bS) ρ B aK w v h':=by
 unfold vD at U
 split at U
 case h_2=>cases U
 rename_i e i o n cap hu
 split at U
 case isFalse=>cases U
 rename_i au
 split at U
 case h_2=>cases U
 rename_i c aW ex av
 split at U
 case isFalse=>cases U
 rename_i hle
 simp only [Option.some.injEq,Prod.mk.injEq] at U
 obtain ⟨rfl,rfl⟩:=U
 obtain ⟨rfl,he⟩:=au
 have gh:=Eu he
 obtain ⟨ρ',le,eb,b,bw,arr,aH,aq,az,eM⟩:=R.freeze av
 obtain ⟨bW,iI,hi,dj,rfl⟩:=ag.fA
 rw [aH] at hi
 cases hi
 obtain ⟨_,_,_,_,_,_,bM⟩:=R.heap.live (i:=i) (by rw [av];simp)
 rename_i fK apu zV _ _ _
 rw [aH] at zV
 cases zV
 obtain ⟨cJ,fl,hw⟩:=eb.heap.frz _ _ aq
 have FK:w.shape? b=some (cJ,arr.size):=by simp [World.shape?,hw]
 refine ⟨ρ',.slice (some ⟨b,o,none⟩) n (fk bw cap),w.freeze ⟨b,arr.size,none⟩ 1,?_,.ai o n _ aq dj ?_ fun k u sv h1 aa=>?_,eb.mark aq bM _,le⟩
 ·simp [convert,run_underlying hu,run_underlying gh,markStringish,FK]
 ·rw [List.length_take,List.length_drop];omega
 ·rw [List.getElem?_take] at h1
  split at h1
  case isFalse=>cases h1
  rw [List.getElem?_drop] at h1
  refine (eM.2 (o+k) u sv h1 ?_).mono le
  have hk:o+k<c.length:=(List.getElem?_eq_some_iff.1 h1).1
  rw [List.getElem?_take,if_pos hk,Array.getElem?_toList]
  exact aa
def Ou (P:Program) (t:TypeId) (m k:V) (h:I):Option (V×I) :=
 match e9 P t,m with
 | some (dI,hY,d),.map i=>
  match h.get i with
  | .map es cl=>
   if vB P false dI k then
    match oh P dI d k es with
    | some (some j)=>
     match es[j]?,(es[j]?).bind fun e=>mz e.2.1,mz k with
     | some e,some a,some b=>if Instr.sameBits 10000 a b=true then some (.tuple [e.2.2,.int .i64 (e.1:Nat)],h.set i (.map (es.modify j fun e=>(e.1,k,e.2.2)) cl)) else none
     | _,_,_=>none
    | some none=>
     match lO P hY with
     | some z=>some (.tuple [fj z,.int .i64 (cl:Nat)],h.set i (.map (es++[(cl,k,fj z)]) (cl+1)))
     | none=>none
    | none=>none
   else none
  | _=>none
 | _,_=>none
def Ov (m s v:V) (h:I):Option I :=
 match m,s with
 | .map i,.int _ st=>
  match h.get i with
  | .map es cl=>
   match es.findIdx? (fun e=>(e.1:Int)==st) with
   | some j=>some (h.set i (.map (es.modify j fun e=>(e.1,e.2.1,v)) cl))
   | none=>none
  | _=>none
 | _,_=>none
theorem fS.find {ρ:Ren} {es:List (Nat×V×V)} {arr:Array MapEntry} (h:fS ρ es arr) (st:Int):arr.findIdx? (fun e=>(e.born:Int)==st)=es.findIdx? (fun e=>(e.1:Int)==st):=by
 have hm:es.map (fun e=>e.1)=arr.toList.map (fun e=>e.born):=by
  apply List.ext_getElem
  ·simp [h.1]
  ·intro q h1 aa
   simp only [List.getElem_map,Array.getElem_toList]
   simp only [List.length_map] at h1
   exact (h.2 q _ _ (List.getElem?_eq_getElem h1) (Array.getElem?_eq_getElem (by rw [←h.1];exact h1))).1
 have aw:es.findIdx? (fun e=>(e.1:Int)==st)=(es.map (fun e=>e.1)).findIdx? (fun n:Nat=>(n:Int)==st):=by rw [List.findIdx?_map];rfl
 have aW:arr.toList.findIdx? (fun e=>(e.born:Int)==st)=(arr.toList.map (fun e=>e.born)).findIdx? (fun n:Nat=>(n:Int)==st):=by rw [List.findIdx?_map];rfl
 rw [aw,hm,←aW]
 cases arr
 simp
theorem acu {P:Program} {t:TypeId} {m k v:V} {fz k':Value} {h h':I} (U:Ou P t m k h=some (v,h')) {ρ:Ren} {B:Nat} {aK w:World} (R:aQ ρ B aK h w) (hm:aA ρ m fz) (hk:aA ρ k k') :
  Yields P (Instr.mapEntry t fz k') ρ B aK w v h':=by
 unfold Ou at U
 split at U
 case h_2=>cases U
 rename_i dI hY d i cN
 obtain ⟨hu,qj⟩:=y2 cN
 split at U
 case h_2=>cases U
 rename_i es cl av
 split at U
 case isFalse=>cases U
 rename_i nD
 cases hm with
 | map hi=>
 have aR:=R.heap.obj i
 rw [av] at aR
 obtain ⟨b,bw,arr,aH,mC,bM,hw,dG⟩:=aR
 rw [aH] at hi
 simp at hi
 obtain ⟨rfl,rfl⟩:=hi
 have aN:b<w.heap.size:=(Array.getElem?_eq_some_iff.1 hw).1
 split at U
 ·rename_i j aq
  split at U
  case h_2=>cases U
  rename_i fi a c vb aO au
  split at U
  case isFalse=>cases U
  rename_i FM
  simp only [Option.some.injEq,Prod.mk.injEq] at U
  obtain ⟨rfl,rfl⟩:=U
  obtain ⟨h1,aa⟩:=y0 (P:=P) (w:=w) qj hk dG aq
  have aS:=aa j rfl
  have jj:j<es.length:=by rw [dG.1];exact aS
  obtain ⟨Tr,fU,u7⟩:=dG.2 j _ _ (List.getElem?_eq_getElem jj) (Array.getElem?_eq_getElem aS)
  rw [List.getElem?_eq_getElem jj] at aO vb
  simp at aO vb
  subst vb
  have aw:=vX fU aO
  have aW:=vX hk au
  have eb:=R.setObj (o:=.map (es.modify j fun e=>(e.1,k,e.2.2)) cl) (ob:=.map (arr.modify j fun e=>{ e with key:=k' }) cl) aH (by rw [av];simp) bM aN (by
   refine ⟨b,bw,arr.modify j (fun e=>{ e with key:=k' }),aH,mC,bM,by simp [aN],by simp [dG.1],fun q e dh ad dp=>?_⟩
   rw [List.getElem?_modify] at ad
   rw [Array.getElem?_modify] at dp
   by_cases u9:j=q
   ·subst u9
    rw [List.getElem?_eq_getElem jj] at ad
    rw [Array.getElem?_eq_getElem aS] at dp
    simp at ad dp
    subst ad;subst dp
    obtain ⟨aC,_,bY⟩:=dG.2 j _ _ (List.getElem?_eq_getElem jj) (Array.getElem?_eq_getElem aS)
    exact ⟨aC,hk,bY⟩
   ·simp [u9] at ad dp
    exact dG.2 q e dh ad dp)
  refine ⟨ρ,.tuple #[arr[j].val,goInt (arr[j].born:Int)],_,?_,?_,eb,Ren.le.refl ρ⟩
  ·simp only [Instr.mapEntry,Sem.run_bind,run_underlying hu,run_getObj_map hw,Result.andThen_ok]
   rw [y1 nD hk w,Result.andThen_ok,h1]
   have ib:(Instr.keyThatStays a c).run P w=.ok c w:=by unfold Instr.keyThatStays;rw [if_pos FM];rfl
   simp [Array.getElem?_eq_getElem aS,aw,aW,ib,run_setObj_map hw]
  ·rw [Tr]
   exact ((aT.cons u7 (.cons (.int _ _) (.nil ρ))).arr).tuple
 ·rename_i aq
  split at U
  case h_2=>cases U
  rename_i z bK
  simp only [Option.some.injEq,Prod.mk.injEq] at U
  obtain ⟨rfl,rfl⟩:=U
  obtain ⟨h1,aa⟩:=y0 (P:=P) (w:=w) qj hk dG aq
  have eb:=R.setObj (o:=.map (es++[(cl,k,fj z)]) (cl+1)) (ob:=.map (arr.push { key:=k',val:=z,born:=cl }) (cl+1)) aH (by rw [av];simp) bM aN (by
   refine ⟨b,bw,arr.push { key:=k',val:=z,born:=cl },aH,mC,bM,by simp [aN],by simp [dG.1],fun q e dh ad dp=>?_⟩
   rw [List.getElem?_append] at ad
   rw [Array.getElem?_push] at dp
   by_cases z7:q<es.length
   ·rw [if_pos z7] at ad
    rw [if_neg (by rw [←dG.1];omega)] at dp
    exact dG.2 q e dh ad dp
   ·rw [if_neg z7] at ad
    have FN:q=es.length:=by
     have:=(List.getElem?_eq_some_iff.1 ad).1
     simp at this;omega
    subst FN
    rw [if_pos dG.1] at dp
    simp at ad dp
    subst ad;subst dp
    exact ⟨rfl,hk,i6 ρ z⟩)
  refine ⟨ρ,.tuple #[z,goInt (cl:Int)],_,?_,?_,eb,Ren.le.refl ρ⟩
  ·simp only [Instr.mapEntry,Sem.run_bind,run_underlying hu,run_getObj_map hw,Result.andThen_ok]
   rw [y1 nD hk w,Result.andThen_ok,h1]
   simp [JM bK,run_setObj_map hw]
  ·exact ((aT.cons (i6 ρ z) (.cons (.int _ _) (.nil ρ))).arr).tuple
 ·cases U
theorem acv {P:Program} {t:TypeId} {m s v:V} {fz cK v':Value} {h h':I} (U:Ov m s v h=some h') {ρ:Ren} {B:Nat} {aK w:World} (R:aQ ρ B aK h w) (hm:aA ρ m fz) (cR:aA ρ s cK) (aD:aA ρ v v') :
  ∃ w',(Instr.entryStore t fz cK v').run P w=.ok () w'∧aQ ρ B aK h' w':=by
 unfold Ov at U
 split at U
 case h_2=>cases U
 rename_i i kk st
 split at U
 case h_2=>cases U
 rename_i es cl av
 split at U
 case h_2=>cases U
 rename_i j aq
 obtain rfl:_=h':=by simpa using U
 cases cR
 cases hm with
 | map hi=>
 have aR:=R.heap.obj i
 rw [av] at aR
 obtain ⟨b,bw,arr,aH,mC,bM,hw,dG⟩:=aR
 rw [aH] at hi
 simp at hi
 obtain ⟨rfl,rfl⟩:=hi
 have aN:b<w.heap.size:=(Array.getElem?_eq_some_iff.1 hw).1
 have qX:=dG.find st
 rw [aq] at qX
 have jj:j<es.length:=by
  have:=List.findIdx?_eq_some_iff_findIdx_eq.1 aq
  omega
 have aS:j<arr.size:=by rw [←dG.1];exact jj
 have eb:=R.setObj (o:=.map (es.modify j fun e=>(e.1,e.2.1,v)) cl) (ob:=.map (arr.modify j fun e=>{ e with val:=v' }) cl) aH (by rw [av];simp) bM aN (by
  refine ⟨b,bw,arr.modify j (fun e=>{ e with val:=v' }),aH,mC,bM,by simp [aN],by simp [dG.1],fun q e dh ad dp=>?_⟩
  rw [List.getElem?_modify] at ad
  rw [Array.getElem?_modify] at dp
  by_cases u9:j=q
  ·subst u9
   rw [List.getElem?_eq_getElem jj] at ad
   rw [Array.getElem?_eq_getElem aS] at dp
   simp at ad dp
   subst ad;subst dp
   obtain ⟨aC,bz,_⟩:=dG.2 j _ _ (List.getElem?_eq_getElem jj) (Array.getElem?_eq_getElem aS)
   exact ⟨aC,bz,aD⟩
  ·simp [u9] at ad dp
   exact dG.2 q e dh ad dp)
 refine ⟨_,?_,eb⟩
 simp only [Instr.entryStore,Sem.run_bind,Sem.run_pure,run_getObj_map hw,Result.andThen_ok]
 simp [asInt,asIntOf,qX,run_setObj_map hw]
noncomputable def dC (P:Program) (o:Oper) (bu:Operand→V) (h:I):Option Step :=
 match o.op with
 | .move x=>some (.val (bu x) h)
 | .assign x=>some (.val (bu x) h)
 | .pick c a b=>match bu c with
  | .bool t=>some (.val (if t then bu a else bu b) h)
  | _=>none
 | .alloc e=>eY (Er P e h)
 | .box e x=>eY (ug e (bu x) h)
 | .build t ps=>fY (BM P t (ps.toList.map fun p=>(p.1,bu p.2))) h
 | .buildSlice t len ps=>eY (kI P t len (ps.toList.map fun p=>(p.1,bu p.2)) h)
 | .load t a=>fY (ls P t (bu a) h) h
 | .store t a x=>qW (Eo P t (bu a) (bu x) h)
 | .nilCheck x=>match bu x with
  | .ptr i o=>some (.val (.ptr i o) h)
  | .at cs=>some (.val (.at cs) h)
  | .func (.func bt) xs ys=>some (.val (.func (.func bt) xs ys) h)
  | _=>none
 | .binOp op t x y _=>fY (c0 P op t x y (bu x) (bu y)) h
 | .unOp op _ x=>fY (we P op (bu x)) h
 | .convert s d x=>match lQ P s d (bu x) h with
  | some v=>some (.val v h)
  | none=>eY (vD P s d (bu x) h)
 | .makeInterface t x=>match Ae P t with
  | some false=>some (.val (.iface t (bu x)) h)
  | _=>none
 | .makeFunc fn first captured=>some (.val (.func fn (first.toList.map bu) (captured.toList.map bu)) h)
 | .makeMap t r=>eY (FO P t (r.map bu) h)
 | .makeSlice t l c=>eY (yY P t (bu l) (bu c) h)
 | .slice t x lo hi mx=>fY (iJ P t (bu x) (lo.map bu) (hi.map bu) (mx.map bu)) h
 | .fieldAddr s x k=>fY (BG P s (bu x) k) h
 | .field t x k=>fY (Om P t (bu x) k) h
 | .indexAddr t x lb=>fY (hA P t (bu x) (bu lb)) h
 | .index t x lb=>fY (JK P t (bu x) (bu lb)) h
 | .lookup t x lb ok=>fY (mD P t (bu x) (bu lb) ok h) h
 | .mapUpdate t m k x=>qW (uk P t (bu m) (bu k) (bu x) h)
 | .insert t m k x=>qW (uk P t (bu m) (bu k) (bu x) h)
 | .mapEntry t m k=>eY (Ou P t (bu m) (bu k) h)
 | .entryStore _ m s x=>qW (Ov (bu m) (bu s) (bu x) h)
 | .range t x=>eY (Ev P t (bu x) h)
 | .next it false=>match y5 (bu it) h with
  | some l=>some (.alts l)
  | none=>none
 | .entry it=>fY (Ew (bu it) h) h
 | .typeAssert x _ asserted ok=>fY (hX P (bu x) asserted ok) h
 | .extract t k=>match bu t with
  | .tuple vs=>fY vs[k]? h
  | _=>none
 | .call c=>jC P c o.type bu h
 | .panic x=>match bu x with
  | .iface _ _=>some .panic
  | _=>none
 | _=>none
theorem BN {ρ:Ren} {bu:Operand→V} {ct:Operand→Value} (b1:∀ x,aA ρ (bu x) (ct x)):∀ l:List Operand,aT ρ (l.map bu) (l.map ct)
 | []=>.nil ρ
 | x::l=>.cons (b1 x) (BN b1 l)
theorem Ts {ρ:Ren} {bu:Operand→V} {ct:Operand→Value} (b1:∀ x,aA ρ (bu x) (ct x)) (a:Array Operand):dH ρ (a.toList.map bu) (a.map ct):=by
 have:=BN b1 a.toList
 exact aT.iq (by simpa using this)
theorem Ow {ρ:Ren} {bu:Operand→V} {ct:Operand→Value} (b1:∀ x,aA ρ (bu x) (ct x)):∀ l:List (Nat×Operand),
  sy ρ (l.map fun p=>(p.1,bu p.2)) (l.map fun p=>(p.1,ct p.2))
 | []=>trivial
 | x::l=>⟨rfl,b1 _,Ow b1 l⟩
def jY (P:Program) (s:Sem Next) (ρ:Ren) (B:Nat) (aK w:World) (v:V) (h':I):Prop :=
 ∃ ρ' v' w',(s.run P w=.ok (.value v') w'∨(s.run P w=.ok .skip w'∧v'=undef))∧aA ρ' v v'∧aQ ρ' B aK h' w'∧ρ.le ρ'
theorem Yields.next {P:Program} {s:Sem Value} {ρ:Ren} {B:Nat} {aK w:World} {v:V} {h':I} (y:Yields P s ρ B aK w v h') :
  jY P (do pure (.value (←s))) ρ B aK w v h':=by
 obtain ⟨ρ',v',w',aH,aD,R,hle⟩:=y
 exact ⟨ρ',v',w',.inl (by simp [aH]),aD,R,hle⟩
theorem jY.same {P:Program} {s:Sem Next} {ρ:Ren} {B:Nat} {aK w:World} {v:V} {v':Value} {h:I} (R:aQ ρ B aK h w) (aH:s.run P w=.ok (.value v') w) (aD:aA ρ v v') :
  jY P s ρ B aK w v h:=⟨ρ,v',w,.inl aH,aD,R,Ren.le.refl ρ⟩
theorem jY.skip {P:Program} {s:Sem Unit} {ρ:Ren} {B:Nat} {aK w:World} {h':I} (y:∃ w',s.run P w=.ok () w'∧aQ ρ B aK h' w'):jY P (do s;pure .skip) ρ B aK w .top h':=by
 obtain ⟨w',aH,R⟩:=y
 exact ⟨ρ,undef,w',.inr ⟨by simp [aH],rfl⟩,.top _,R,Ren.le.refl ρ⟩
theorem i7 (ρ:Ren):aA ρ (.tuple []) (.tuple #[]):=.tuple rfl (by simp)
theorem acw {P:Program} {b:Builtin} {types:Array TypeId} {ty:TypeId} {consts:Array Bool} {args:List V} {args':Array Value} {h h':I} {v:V}
  (U:oi P b types.toList ty consts args h=some (v,h')) {ρ:Ren} {B:Nat} {aK w:World} (R:aQ ρ B aK h w) (aO:aT ρ args args'.toList) :
  jY P (builtin b types ty consts args') ρ B aK w v h':=by
 unfold oi at U
 split at U
 ·rename_i t x bq
  obtain ⟨bS,rfl,ag⟩:=JO aO
  obtain rfl:types=#[t]:=by apply Array.ext';simpa using bq
  split at U
  case h_2=>cases U
  rename_i u hu
  simp at U
  obtain ⟨rfl,rfl⟩:=U
  exact ((ab8 hu R ag).gO R).next
 ·rename_i t tx s x bq
  obtain ⟨cK,bS,rfl,nF,dX⟩:=FT aO
  obtain rfl:types=#[t,tx]:=by apply Array.ext';simpa using bq
  exact (abZ U R nF dX).next
 ·rename_i t tx s x bq
  obtain ⟨cK,bS,rfl,nF,dX⟩:=FT aO
  obtain rfl:types=#[t,tx]:=by apply Array.ext';simpa using bq
  exact (ab0 U R nF dX).next
 ·rename_i t tx s x bq
  obtain ⟨cK,bS,rfl,nF,dX⟩:=FT aO
  obtain rfl:types=#[t,tx]:=by apply Array.ext';simpa using bq
  cases a7:ip P t s x h with
  | none=>simp [a7] at U
  | some aa=>
   simp [a7] at U
   obtain ⟨rfl,rfl⟩:=U
   obtain ⟨w',aH,eb⟩:=ace (P:=P) (ty:=ty) (ts:=#[t,tx]) rfl a7 R nF dX
   exact Yields.next (s:=Builtin.delete_ #[t,tx] ty #[cK,bS]) ⟨ρ,_,w',aH,i7 ρ,eb,Ren.le.refl ρ⟩
 ·rename_i t x bq
  obtain ⟨bS,rfl,ag⟩:=JO aO
  obtain rfl:types=#[t]:=by apply Array.ext';simpa using bq
  cases a7:xG P t x h with
  | none=>simp [a7] at U
  | some aa=>
   simp [a7] at U
   obtain ⟨rfl,rfl⟩:=U
   obtain ⟨w',aH,eb⟩:=wr (P:=P) (ty:=ty) a7 R ag
   exact Yields.next (s:=Builtin.clear_ #[t] ty #[bS]) ⟨ρ,_,w',aH,i7 ρ,eb,Ren.le.refl ρ⟩
 ·rename_i t x bq
  obtain ⟨bS,rfl,ag⟩:=JO aO
  obtain rfl:types=#[t]:=by apply Array.ext';simpa using bq
  split at U
  case h_2=>cases U
  rename_i u hu
  simp at U
  obtain ⟨rfl,rfl⟩:=U
  exact ((ack hu R ag).gO R).next
 ·split at U
  case h_2=>cases U
  rename_i as has
  have aw:=Oa aO has
  split at U
  case h_2=>cases U
  rename_i u hu
  simp at U
  obtain ⟨rfl,rfl⟩:=U
  refine .same R ?_ (zR ρ u)
  have:=zX hu w
  rw [←aw] at this
  simpa using this
theorem Ag {o:Option (V×I)} {v:V} {h:I} (U:eY o=some (.val v h)):o=some (v,h):=by
 unfold eY at U
 split at U
 ·simp at U;obtain ⟨rfl,rfl⟩:=U;rfl
 ·cases U
theorem sD {o:Option V} {v:V} {h h':I} (U:fY o h=some (.val v h')):o=some v∧h'=h:=by
 unfold fY at U
 split at U
 ·simp at U;obtain ⟨rfl,rfl⟩:=U;exact ⟨rfl,rfl⟩
 ·cases U
theorem JR {o:Option I} {v:V} {h':I} (U:qW o=some (.val v h')):o=some h'∧v=.top:=by
 unfold qW at U
 split at U
 ·simp at U;obtain ⟨rfl,rfl⟩:=U;exact ⟨rfl,rfl⟩
 ·cases U
theorem JS {ρ:Ren} {bu:Operand→V} {ct:Operand→Value} (b1:∀ x,aA ρ (bu x) (ct x)) (o:Option Operand):Option.Rel (aA ρ) (o.map bu) (o.map ct):=by
 cases o with
 | none=>exact .none
 | some x=>exact .some (b1 x)
theorem acx {P:Program} {o:Oper} {bu:Operand→V} {ct:Operand→Value} {h h':I} {v:V} (U:dC P o bu h=some (.val v h')) {ρ:Ren} {B:Nat} {aK w:World}
  (R:aQ ρ B aK h w) (b1:∀ x,aA ρ (bu x) (ct x)):jY P (execOp ct o) ρ B aK w v h':=by
 unfold dC at U
 unfold execOp
 split at U
 ·rename_i x cb
  simp only [cb]
  simp at U;obtain ⟨rfl,rfl⟩:=U
  exact .same R (Sem.run_pure ..) (b1 x)
 ·rename_i x cb
  simp only [cb]
  simp at U;obtain ⟨rfl,rfl⟩:=U
  exact .same R (Sem.run_pure ..) (b1 x)
 ·rename_i c a b cb
  simp only [cb]
  split at U
  case h_2=>cases U
  rename_i t bq
  simp at U;obtain ⟨rfl,rfl⟩:=U
  have au:=b1 c
  rw [bq] at au
  have fM:ct c=.bool t:=vW au rfl
  refine .same R (v':=if t then ct a else ct b) ?_ ?_
  ·simp [fM,asBool]
  ·cases t
   ·exact b1 b
   ·exact b1 a
 ·rename_i e cb
  simp only [cb]
  exact (abR (Ag U) R).next
 ·rename_i e x cb
  simp only [cb]
  exact (abS (Ag U) R (b1 x)).next
 ·rename_i t ps cb
  simp only [cb]
  obtain ⟨aD,he⟩:=sD U
  subst he
  refine ((wt aD R ?_).gO R).next
  have:=Ow b1 ps.toList
  simpa using this
 ·rename_i t len ps cb
  simp only [cb]
  refine (ab5 (Ag U) R ?_).next
  have:=Ow b1 ps.toList
  simpa using this
 ·rename_i t a cb
  simp only [cb]
  obtain ⟨aD,he⟩:=sD U
  subst he
  exact ((S1 aD R (b1 a)).2.gO R).next
 ·rename_i t a x cb
  simp only [cb]
  obtain ⟨aD,he⟩:=JR U
  subst he
  exact .skip (abQ aD R (b1 a) (b1 x))
 ·rename_i x cb
  simp only [cb]
  have ag:=b1 x
  split at U
  ·rename_i i o aO
   simp at U;obtain ⟨rfl,rfl⟩:=U
   rw [aO] at ag
   generalize ct x=bS at ag
   obtain ⟨b,c,hi,rfl⟩:=ag.pe
   exact .same R (Sem.run_pure ..) (.ptr hi o)
  ·rename_i cs aO
   simp at U;obtain ⟨rfl,rfl⟩:=U
   rw [aO] at ag
   generalize ct x=bS at ag
   obtain ⟨b,o,arr,ak,aR,dX,rfl⟩:=ag.s6
   exact .same R (Sem.run_pure ..) ag
  ·rename_i bt xs ys aO
   simp at U;obtain ⟨rfl,rfl⟩:=U
   rw [aO] at ag
   generalize ct x=bS at ag
   have vc:=ag
   cases ag with
   | func fn h1 aa aC bz=>exact .same R (Sem.run_pure ..) vc
  ·cases U
 ·rename_i op t x y JT cb
  simp only [cb]
  obtain ⟨aD,he⟩:=sD U
  subst he
  exact ((ab2 aD R (b1 x) (b1 y)).gO R).next
 ·rename_i op t x cb
  simp only [cb]
  obtain ⟨aD,he⟩:=sD U
  subst he
  exact ((ab3 aD R (b1 x)).gO R).next
 ·rename_i s d x cb
  simp only [cb]
  cases au:lQ P s d (bu x) h with
  | some u=>
   rw [au] at U
   cases U
   exact (ab4 au R (b1 x)).next
  | none=>
   rw [au] at U
   exact (acs (Ag U) R (b1 x)).next
 ·rename_i t x cb
  simp only [cb]
  split at U
  case h_2=>cases U
  rename_i bq
  simp at U;obtain ⟨rfl,rfl⟩:=U
  refine Yields.next (.same R (v':=.iface t (ct x)) ?_ (.iface t (b1 x)))
  unfold Ae at bq
  split at bq
  ·simp at bq
  ·rename_i d r9 hu
   cases d with
   | interface ms=>exact absurd rfl (r9 ms)
   | _=>simp [Instr.makeInterface,run_underlying hu]
  ·cases bq
 ·rename_i fn first captured cb
  simp only [cb]
  simp at U;obtain ⟨rfl,rfl⟩:=U
  have h1:=Ts b1 first
  have aa:=Ts b1 captured
  exact Yields.next (.same R (v':=.func fn (first.map ct) (captured.map ct)) (Sem.run_pure ..) (.func fn h1.1 aa.1 h1.2 aa.2))
 ·rename_i t r cb
  simp only [cb]
  exact (acf (Ag U) R (JS b1 r)).next
 ·rename_i t l c cb
  simp only [cb]
  exact (abV (Ag U) R (b1 l) (b1 c)).next
 ·rename_i t x lo hi mx cb
  simp only [cb]
  obtain ⟨aD,he⟩:=sD U
  subst he
  exact ((abU aD R (b1 x) (JS b1 lo) (JS b1 hi) (JS b1 mx)).gO R).next
 ·rename_i s x k cb
  simp only [cb]
  obtain ⟨aD,he⟩:=sD U
  subst he
  exact ((wl aD R (b1 x)).gO R).next
 ·rename_i t x k cb
  simp only [cb]
  obtain ⟨aD,he⟩:=sD U
  subst he
  exact ((ab6 aD R (b1 x)).gO R).next
 ·rename_i t x lb cb
  simp only [cb]
  obtain ⟨aD,he⟩:=sD U
  subst he
  exact ((abT aD R (b1 x) (b1 lb)).gO R).next
 ·rename_i t x lb cb
  simp only [cb]
  obtain ⟨aD,he⟩:=sD U
  subst he
  exact ((ab7 aD R (b1 x) (b1 lb)).gO R).next
 ·rename_i t x lb ok cb
  simp only [cb]
  obtain ⟨aD,he⟩:=sD U
  subst he
  exact ((acb aD R (b1 x) (b1 lb)).gO R).next
 ·rename_i t m k x cb
  simp only [cb]
  obtain ⟨aD,he⟩:=JR U
  subst he
  exact .skip (Tk aD R (b1 m) (b1 k) (b1 x))
 ·rename_i t m k x cb
  simp only [cb]
  obtain ⟨aD,he⟩:=JR U
  subst he
  exact .skip (Tk aD R (b1 m) (b1 k) (b1 x))
 ·rename_i t m k cb
  simp only [cb]
  exact (acu (Ag U) R (b1 m) (b1 k)).next
 ·rename_i t m s x cb
  simp only [cb]
  obtain ⟨aD,he⟩:=JR U
  subst he
  exact .skip (acv aD R (b1 m) (b1 s) (b1 x))
 ·rename_i t x cb
  simp only [cb]
  exact (acg (Ag U) R (b1 x)).next
 ·rename_i it cb
  split at U<;>simp at U
 ·rename_i it cb
  simp only [cb]
  obtain ⟨aD,he⟩:=sD U
  subst he
  exact ((ach aD R (b1 it)).gO R).next
 ·rename_i x Th asserted ok cb
  simp only [cb]
  obtain ⟨aD,he⟩:=sD U
  subst he
  exact ((ab9 aD R (b1 x)).gO R).next
 ·rename_i t k cb
  simp only [cb]
  split at U
  case h_2=>cases U
  rename_i vs ji
  obtain ⟨aD,he⟩:=sD U
  subst he
  have ag:=b1 t
  rw [ji] at ag
  generalize vc:ct t=bS at ag
  cases ag with
  | tuple bf ag=>
   rename_i h9
   have aN:k<vs.length:=(List.getElem?_eq_some_iff.1 aD).1
   have sA:k<h9.size:=by rw [←bf];exact aN
   refine Yields.next (.same R (v':=h9[k]) ?_ (ag k v _ aD (Array.getElem?_eq_getElem sA)))
   simp [Instr.extract,Array.getElem?_eq_getElem sA]
 ·rename_i c cb
  simp only [cb]
  unfold jC at U
  split at U
  ·split at U<;>simp at U
  ·rename_i b Mb ak
   split at U
   case h_2=>cases U
   rename_i u aa hu
   simp at U;obtain ⟨rfl,rfl⟩:=U
   have aO:=BN b1 c.args.toList
   have:=acw (args':=c.args.map ct) hu R (by simpa using aO)
   have aw:(do let d ←resolve ct c o.type;invoke d.target d.args)=builtin b c.argTypes o.type (td c.args) (c.args.map ct):=by
    simp [resolve,ak,invoke]
    rfl
   rw [aw]
   exact this
  ·rename_i Ah aq
   split at U
   case h_2=>simp at U
   case h_3=>cases U
   rename_i bt first captured wj
   split at U
   ·cases U
   split at U
   case h_2=>cases U
   rename_i u aa hu
   simp at U
   obtain ⟨rfl,rfl⟩:=U
   have aD:=b1 Ah
   rw [wj] at aD
   generalize te:ct Ah=v' at aD
   cases aD with
   | func fn eZ ff ag bd=>
   rename_i nG jD
   have aO:=BN b1 c.args.toList
   have ey:aT ρ first nG.toList:=dH.list ⟨eZ,ag⟩
   have dm:aT ρ captured jD.toList:=dH.list ⟨ff,bd⟩
   have vE:=ey.append (aO.append dm)
   obtain ⟨cm,w',aH,wk,eb⟩:=acq (args':=nG++c.args.map ct++jD) hu R (by simpa using vE)
   refine ⟨ρ,cm,w',.inl ?_,wk,eb,Ren.le.refl ρ⟩
   simp [resolve,aq,te,Deferred.ofValue,invoke]
   simpa using aH
  ·obtain ⟨_,_,_,_,_,bY⟩:=FY U;cases bY
 ·split at U<;>simp at U
 ·cases U
theorem acy {P:Program} {o:Oper} {bu:Operand→V} {ct:Operand→Value} {h:I} {g:FuncId} {args:List V} (U:dC P o bu h=some (.call g args)) {ρ:Ren} {B:Nat} {aK w:World}
  (R:aQ ρ B aK h w) (b1:∀ x,aA ρ (bu x) (ct x)):∃ args',(execOp ct o).run P w=.ok (.enter g args') w∧aT ρ args args'.toList:=by
 have key:∃ c,o.op=.call c∧jC P c o.type bu h=some (.call g args):=by
  unfold dC at U
  split at U
  all_goals first
   | (rename_i c cb;exact ⟨c,cb,U⟩)
   | (simp [eY,fY,qW] at U;done)
   | (unfold eY at U;split at U<;>simp at U;done)
   | (unfold fY at U;split at U<;>simp at U;done)
   | (unfold qW at U;split at U<;>simp at U;done)
   | (split at U<;>(try (unfold eY at U;split at U))<;>simp at U;done)
   | (split at U<;>(try (unfold fY at U;split at U))<;>simp at U;done)
 obtain ⟨c,cb,au⟩:=key
 unfold jC at au
 split at au
 ·split at au<;>simp at au
 ·split at au<;>simp at au
 ·rename_i Ah aq
  split at au
  case h_2=>simp at au
  case h_3=>cases au
  rename_i bt first captured wj
  split at au
  case isFalse=>split at au<;>simp at au
  rename_i e0
  simp at au
  obtain ⟨rfl,rfl⟩:=au
  have aD:=b1 Ah
  rw [wj] at aD
  generalize te:ct Ah=v' at aD
  cases aD with
  | func fn eZ ff ag bd=>
  rename_i nG jD
  have aO:=BN b1 c.args.toList
  refine ⟨nG++c.args.map ct++jD,?_,?_⟩
  ·unfold bT at e0
   split at e0
   case h_2=>cases e0
   rename_i fn nH
   simp only [Bool.and_eq_true,bne_iff_ne,ne_eq] at e0
   have ak:fn.body.isNone=false:=by cases ak:fn.body<;>simp_all
   unfold execOp
   simp only [cb]
   simp [resolve,aq,te,Deferred.ofValue,invoke,callFunc,nH,e0.2]
   intro ab
   simp [ab] at e0
  ·have h1:aT ρ first nG.toList:=dH.list ⟨eZ,ag⟩
   have aa:aT ρ captured jD.toList:=dH.list ⟨ff,bd⟩
   have:=h1.append (aO.append aa)
   simpa using this
 ·rename_i r name gm
  obtain ⟨t,v,f,aH,hm,bY⟩:=FY au
  simp only [Step.call.injEq] at bY
  obtain ⟨rfl,rfl⟩:=bY
  have aD:=b1 r
  rw [aH] at aD
  generalize te:ct r=v' at aD
  cases aD with
  | iface t ag=>
  rename_i bS
  have aO:=BN b1 c.args.toList
  refine ⟨#[bS]++c.args.map ct,?_,?_⟩
  ·have e0:=hm.2
   unfold bT at e0
   split at e0
   case h_2=>cases e0
   rename_i fn nH
   simp only [Bool.and_eq_true,bne_iff_ne,ne_eq] at e0
   have ak:fn.body.isNone=false:=by cases ak:fn.body<;>simp_all
   unfold execOp
   simp only [cb]
   have aq:(callFunc g (#[bS]++c.args.map ct)).run P w=.ok (.enter g (#[bS]++c.args.map ct)) w:=by
    simp [callFunc,nH,e0.2]
    intro ab
    simp [ab] at e0
   have he:(Array.extract (#[Value.iface t bS]++c.args.map ct) 1 (#[Value.iface t bS]++c.args.map ct).size)=c.args.map ct:=by
    apply Array.ext'
    simp
    exact List.take_of_length_le (by simp)
   have h0:(#[Value.iface t bS]++c.args.map ct)[0]?=some (.iface t bS):=by rw [Array.getElem?_append_left (show 0<1 by decide)];rfl
   have aw:(do let d ←resolve ct c o.type;invoke d.target d.args)=callMethod (.iface t bS) name (c.args.map ct):=by
    simp only [resolve,gm,te,pure_bind,invoke,h0,he]
   rw [aw]
   simp only [callMethod,Sem.run_bind,run_program,Result.andThen_ok,hm.1,aq]
  ·simpa using aT.cons ag aO
theorem acz {P:Program} {o:Oper} {bu:Operand→V} {ct:Operand→Value} {h:I} {l:Nat} {args:List V} (U:dC P o bu h=some (.round l args)) {ρ:Ren} {B:Nat} {aK w:World}
  (R:aQ ρ B aK h w) (b1:∀ x,aA ρ (bu x) (ct x)):∃ args',execOp ct o=Instr.yield l args'∧aT ρ args args'.toList:=by
 have key:∃ c,o.op=.call c∧jC P c o.type bu h=some (.round l args):=by
  unfold dC at U
  split at U
  all_goals first
   | (rename_i c cb;exact ⟨c,cb,U⟩)
   | (simp [eY,fY,qW] at U;done)
   | (unfold eY at U;split at U<;>simp at U;done)
   | (unfold fY at U;split at U<;>simp at U;done)
   | (unfold qW at U;split at U<;>simp at U;done)
   | (split at U<;>(try (unfold eY at U;split at U))<;>simp at U;done)
   | (split at U<;>(try (unfold fY at U;split at U))<;>simp at U;done)
 obtain ⟨c,cb,au⟩:=key
 unfold jC at au
 split at au
 ·split at au<;>simp at au
 ·split at au<;>simp at au
 ·rename_i Ah aq
  split at au
  case h_1=>split at au<;>(try (split at au))<;>simp at au
  case h_3=>cases au
  rename_i b0 wj
  simp at au
  obtain ⟨rfl,rfl⟩:=au
  have aD:=b1 Ah
  rw [wj] at aD
  generalize te:ct Ah=v' at aD
  cases aD with
  | func fn eZ ff ag bd=>
  rename_i nG jD
  have aO:=BN b1 c.args.toList
  have h1:nG=#[]:=Array.eq_empty_of_size_eq_zero eZ.symm
  have aa:jD=#[]:=Array.eq_empty_of_size_eq_zero ff.symm
  subst h1 aa
  refine ⟨c.args.map ct,?_,by simpa using aO⟩
  unfold execOp
  simp only [cb]
  simp [resolve,aq,te,Deferred.ofValue,invoke]
 ·obtain ⟨_,_,_,_,_,bY⟩:=FY au;cases bY
theorem acA {P:Program} {o:Oper} {bu:Operand→V} {ct:Operand→Value} {h:I} {l:List (V×I)} (U:dC P o bu h=some (.alts l)) {ρ:Ren} {B:Nat} {aK w:World}
  (R:aQ ρ B aK h w) (b1:∀ x,aA ρ (bu x) (ct x)):∃ v h',(v,h') ∈ l∧jY P (execOp ct o) ρ B aK w v h':=by
 have key:∃ it,o.op=.next it false∧y5 (bu it) h=some l:=by
  unfold dC at U
  split at U
  all_goals first
   | (rename_i it cb;cases aG:y5 (bu it) h with
     | none=>simp [aG] at U
     | some b0=>simp [aG] at U;subst U;exact ⟨it,cb,aG⟩)
   | (simp [eY,fY,qW] at U;done)
   | (unfold eY at U;split at U<;>simp at U;done)
   | (unfold fY at U;split at U<;>simp at U;done)
   | (unfold qW at U;split at U<;>simp at U;done)
   | (unfold jC at U;split at U<;>(split at U)<;>simp at U;done)
   | (split at U<;>(try (unfold eY at U;split at U))<;>simp at U;done)
   | (split at U<;>(try (unfold fY at U;split at U))<;>simp at U;done)
   | (
     exfalso;unfold jC at U;split at U
     ·split at U<;>simp at U
     ·split at U<;>simp at U
     ·split at U
      ·split at U
       ·simp at U
       ·split at U<;>simp at U
      ·simp at U
      ·cases U
     ·obtain ⟨_,_,_,_,_,bY⟩:=FY U;cases bY)
 obtain ⟨it,cb,aG⟩:=key
 obtain ⟨v,h',hm,bd⟩:=aci (P:=P) (ty:=o.type) aG R (b1 it)
 refine ⟨v,h',hm,?_⟩
 unfold execOp
 simp only [cb]
 exact bd.next
theorem acB {P:Program} {o:Oper} {bu:Operand→V} {ct:Operand→Value} {h:I} (U:dC P o bu h=some .panic) {ρ:Ren} {B:Nat} {aK w:World}
  (R:aQ ρ B aK h w) (b1:∀ x,aA ρ (bu x) (ct x)):∃ t v',(execOp ct o).run P w=.halt (.panic (.iface t v')) w:=by
 have key:(∃ x,o.op=.panic x∧∃ t v,bu x=.iface t v)∨(∃ c x,o.op=.call c∧c.callee=.builtin .panic∧c.args.toList=[x]∧∃ t v,bu x=.iface t v):=by
  unfold dC at U
  split at U
  all_goals first
   | (rename_i x cb;cases ag:bu x<;>simp [ag] at U;exact .inl ⟨x,cb,_,_,ag⟩)
   | (simp [eY,fY,qW] at U;done)
   | (unfold eY at U;split at U<;>simp at U;done)
   | (unfold fY at U;split at U<;>simp at U;done)
   | (unfold qW at U;split at U<;>simp at U;done)
   | (split at U<;>(try (unfold eY at U;split at U))<;>simp at U;done)
   | (split at U<;>(try (unfold fY at U;split at U))<;>simp at U;done)
   | (
     rename_i c cb
     unfold jC at U
     split at U
     ·rename_i gm
      split at U
      ·rename_i t v heq
       cases az:c.args.toList with
       | nil=>simp [az] at heq
       | cons x r=>
        rw [az] at heq
        simp at heq
        obtain ⟨h1,rfl⟩:=heq
        exact .inr ⟨c,x,cb,gm,az,t,v,h1⟩
      ·cases U
     ·split at U<;>simp at U
     ·split at U
      ·split at U
       ·simp at U
       ·split at U<;>simp at U
      ·simp at U
      ·cases U
     ·obtain ⟨_,_,_,_,_,bY⟩:=FY U;cases bY)
 have run:∀ x t v,bu x=.iface t v→∃ t v',ct x=.iface t v'∧(Instr.panic (ct x)).run P w=.halt (.panic (.iface t v')) w:=fun x t v he=>by
  have ag:=b1 x
  rw [he] at ag
  generalize ct x=bS at ag
  cases ag with
  | iface t aD=>exact ⟨t,_,rfl,by simp [Instr.panic,goPanic,Sem.run]⟩
 rcases key with ⟨x,cb,t,v,he⟩ | ⟨c,x,cb,gm,oC,t,v,he⟩
 ·obtain ⟨t,v',h1,aa⟩:=run x t v he
  refine ⟨t,v',?_⟩
  unfold execOp
  simp [cb,aa]
 ·obtain ⟨t,v',h1,aa⟩:=run x t v he
  refine ⟨t,v',?_⟩
  have aO:c.args=#[x]:=by apply Array.ext';simpa using oC
  unfold execOp
  simp [cb,resolve,gm,aO,invoke,builtin,aa]
class F0 where
 prop:Prop
def qY [p:F0]:Prop:=p.prop
theorem aF {p:Prop} (h:p):@qY ⟨p⟩:=h
inductive cq where
 | normal
 | exit (id:Nat)
 | goto (l:Nat)
 | ret
 | panic
def Ai (iu:List PanicEntry):Prop:=∃ t v',iu=[{ v:=.iface t v',recovered:=false }]
def pR:cq→Exit→Prop
 | .normal,.normal=>True
 | .exit i,.exit j=>i=j
 | .goto i,.goto j=>i=j
 | .ret,.ret=>True
 | .panic,.panic iu=>Ai iu
 | _,_=>False
def ca (P:Program) (f:FuncId) (args:List V) (h:I) (R:V→I→Prop) (E:I→Prop):Prop :=
 ∀ (ρ:Ren) (B:Nat) (aK w:World) (args':Array Value),aQ ρ B aK h w→aT ρ args args'.toList →
  Calls P f args' w fun e w'=>(∃ (ρ':Ren) (r:V) (cm:Value) (h':I),e=.returned cm∧aA ρ' r cm∧aQ ρ' B aK h' w'∧ρ.le ρ'∧R r h') ∨
   (∃ (ρ':Ren) (iu:List PanicEntry) (h':I),e=.panicked iu∧Ai iu∧aQ ρ' B aK h' w'∧ρ.le ρ'∧E h')
def ae (P:Program) (f:FuncId) (args:List V) (h:I) (R:V→I→Prop):Prop:=ca P f args h R fun _=>False
def kl (P:Program) (l:Nat) (args:List V) (h:I) (R:V→I→Prop):Prop :=
 ∀ (ρ:Ren) (B:Nat) (aK w:World) (args':Array Value),aQ ρ B aK h w→aT ρ args args'.toList →
  ∃ fn tmps assign body,(Instr.yield l args').run P w=.ok (.round l fn tmps assign body) w∧RoundIn Fence.wide 0 P l fn tmps assign body w fun e w'=>
   ∃ (ρ':Ren) (r:V) (cm:Value) (h':I),e=.returned cm∧aA ρ' r cm∧aQ ρ' B aK h' w'∧ρ.le ρ'∧R r h'
theorem kl.mono {P:Program} {l:Nat} {args:List V} {h:I} {R eb:V→I→Prop} (au:kl P l args h R) (aH:∀ r h',R r h'→eb r h'):kl P l args h eb :=
 fun ρ B aK w args' hw aO=>let ⟨fn,tmps,assign,body,h1,aa⟩:=au ρ B aK w args' hw aO
  ⟨fn,tmps,assign,body,h1,aa.mono fun _ _ ⟨ρ',r,cm,h',aw,aW,cJ,km,nI⟩=>⟨ρ',r,cm,h',aw,aW,cJ,km,aH _ _ nI⟩⟩
structure sb (F:Fence):Prop where
 fn:∀ f,F.fn f
 depth:F.depth=none
 calls:∀ {n:Nat} {P:Program} {f:FuncId} {args:Array Value} {w:World} {R:Ending→World→Prop},Calls P f args w R→CallsIn F n P f args w R
 round:∀ {n:Nat} {P:Program} {l:Nat} {f:FuncId} {tmps:Array Value} {a b:Code} {w:World} {R:Ending→World→Prop},RoundIn Fence.wide 0 P l f tmps a b w R→RoundIn F n P l f tmps a b w R
theorem sb.wide:sb Fence.wide:=⟨fun _=>trivial,rfl,fun h=>callsIn_wide.2 h,fun h=>⟨trivial,fun c cs _=>h.2 c cs (room_wide _)⟩⟩
theorem sb.inRound (l:Nat):sb (Fence.wide.inRound l):=⟨fun _=>trivial,rfl,fun {n P f args w R} h=>show CallsIn Fence.wide n P f args w R from callsIn_wide.2 h,fun h=>⟨trivial,fun c cs _=>h.2 c cs (room_wide _)⟩⟩
theorem ca.mono {P:Program} {f:FuncId} {args:List V} {h:I} {R eb:V→I→Prop} {E F1:I→Prop} (au:ca P f args h R E) (aH:∀ r h',R r h'→eb r h') (he:∀ h',E h'→F1 h'):ca P f args h eb F1 :=
 fun ρ B aK w args' hw aO=>(au ρ B aK w args' hw aO).mono fun _ _ ab=>by
  rcases ab with ⟨ρ',r,cm,h',h1,aa,aC,bz,bY⟩ | ⟨ρ',iu,h',h1,aa,aC,bz,bY⟩
  ·exact .inl ⟨ρ',r,cm,h',h1,aa,aC,bz,aH _ _ bY⟩
  ·exact .inr ⟨ρ',iu,h',h1,aa,aC,bz,he _ bY⟩
theorem ae.mono {P:Program} {f:FuncId} {args:List V} {h:I} {R eb:V→I→Prop} (au:ae P f args h R) (aH:∀ r h',R r h'→eb r h'):ae P f args h eb :=
 ca.mono au aH fun _ h=>h
theorem ae.e {P:Program} {f:FuncId} {args:List V} {h:I} {R:V→I→Prop} {E:I→Prop} (au:ae P f args h R):ca P f args h R E :=
 ca.mono au (fun _ _ h=>h) fun _ h=>h.elim
def lh (n:Nat) (B:Nat) (aK:World) (ρ:Ren) (Q:cq→ah→I→Prop) (e:Exit) (a:Act) (w:World):Prop :=
 ∃ (ρ':Ren) (x:cq) (f:ah) (h:I),pR x e∧aQ ρ' B aK h w∧dS ρ' n f a∧ρ.le ρ'∧Q x f h
theorem lh.le {n B:Nat} {aK:World} {ρ ρ1:Ren} (hle:ρ.le ρ1) {Q:cq→ah→I→Prop} {e:Exit} {a:Act} {w:World} (h:lh n B aK ρ1 Q e a w):lh n B aK ρ Q e a w :=
 let ⟨ρ',x,f,h',ag,hw,aq,az,ad⟩:=h
 ⟨ρ',x,f,h',ag,hw,aq,hle.trans az,ad⟩
def aX (P:Program) (n:Nat) (c:Code) (Q:cq→ah→I→Prop) (f:ah) (h:I):Prop :=
 ∀ (ρ:Ren) (B:Nat) (aK:World) (a:Act) (w:World),aQ ρ B aK h w→dS ρ n f a→c.wp P (lh n B aK ρ Q) a w
theorem aX.mono {P:Program} {n:Nat} {c:Code} {Q y8:cq→ah→I→Prop} {f:ah} {h:I} (U:aX P n c Q f h) (ad:∀ e f h,Q e f h→y8 e f h):aX P n c y8 f h :=
 fun ρ B aK a w hw aq=>wp_mono (U ρ B aK a w hw aq) fun _ _ _ ⟨ρ',x,bI,h',ag,bL,b4,az,cX⟩=>⟨ρ',x,bI,h',ag,bL,b4,az,ad _ _ _ cX⟩
def nu (f:ah) (h:I) (f2:ah) (aa:I):Prop :=
 ∀ (ρ:Ren) (B:Nat) (aK w:World) (n:Nat) (a:Act),aQ ρ B aK h w→dS ρ n f a→∃ ρ',ρ.le ρ'∧aQ ρ' B aK aa w∧dS ρ' n f2 a
theorem aX.cast {P:Program} {n:Nat} {c:Code} {Q:cq→ah→I→Prop} {f f2:ah} {h aa:I} (au:nu f h f2 aa) (U:aX P n c Q f2 aa):aX P n c Q f h :=
 fun ρ B aK a w hw aq=>let ⟨ρ',hle,bL,b4⟩:=au ρ B aK w n a hw aq;wp_mono (U ρ' B aK a w bL b4) fun _ _ _ aZ=>aZ.le hle
def aM (r:V) (h:I) (cZ:V) (aa:I):Prop :=
 ∀ (ρ:Ren) (B:Nat) (aK w:World) (cm:Value),aQ ρ B aK h w→aA ρ r cm→∃ ρ',ρ.le ρ'∧aQ ρ' B aK aa w∧aA ρ' cZ cm
theorem ca.cast {P:Program} {f:FuncId} {args:List V} {h:I} {R:V→I→Prop} {E:I→Prop} (au:ca P f args h (fun r h'=>∃ cZ aa,aM r h' cZ aa∧R cZ aa) E):ca P f args h R E :=
 fun ρ B aK w args' hw aO=>(au ρ B aK w args' hw aO).mono fun _ _ ab=>by
  rcases ab with ⟨ρ',r,cm,h',h1,aa,aC,bz,cZ,fN,y9,eR⟩ | ab
  ·obtain ⟨ρ2,hle,iN,Aj⟩:=y9 ρ' B aK _ cm aC aa
   exact .inl ⟨ρ2,cZ,cm,fN,h1,Aj,iN,bz.trans hle,eR⟩
  ·exact .inr ab
theorem ae.cast {P:Program} {f:FuncId} {args:List V} {h:I} {R:V→I→Prop} (au:ae P f args h (fun r h'=>∃ cZ aa,aM r h' cZ aa∧R cZ aa)):ae P f args h R:=ca.cast au
def andThen (K:ah→I→Prop) (Q:cq→ah→I→Prop):cq→ah→I→Prop
 | .normal,f,h=>K f h
 | e,f,h=>Q e f h
theorem aX.seq {P:Program} {n:Nat} {x y:Code} {Q:cq→ah→I→Prop} {f:ah} {h:I} (U:aX P n x (andThen (aX P n y Q) Q) f h):aX P n (.seq x y) Q f h:=by
 intro ρ B aK a w hw aq
 refine wp_seq (wp_mono (U ρ B aK a w hw aq) fun e hB w' ⟨ρ',x,bI,h',ag,bL,b4,az,cX⟩=>?_)
 cases x<;>cases e<;>simp only [pR] at ag
 ·exact wp_mono (cX ρ' B aK hB w' bL b4) fun _ _ _ aZ=>aZ.le az
 ·exact ⟨ρ',_,bI,h',by exact ag,bL,b4,az,cX⟩
 ·exact ⟨ρ',_,bI,h',by exact ag,bL,b4,az,cX⟩
 ·exact ⟨ρ',.ret,bI,h',trivial,bL,b4,az,cX⟩
 ·exact ⟨ρ',.panic,bI,h',by exact ag,bL,b4,az,cX⟩
theorem aX.cond {P:Program} {n:Nat} {c:Operand} {x y:Code} {Q:cq→ah→I→Prop} {f:ah} {h:I} {t:Bool} (au:f.eval h c=.bool t)
  (U:aX P n (if t then x else y) Q f h):aX P n (.cond c x y) Q f h:=by
 intro ρ B aK a w hw aq
 have aD:=aq.eval hw.heap c
 rw [au] at aD
 exact wp_cond (vW aD rfl) (U ρ B aK a w hw aq)
def Ez (id:Nat) (Q:cq→ah→I→Prop):cq→ah→I→Prop
 | .exit j,f,h=>if j=id then Q .normal f h else Q (.exit j) f h
 | e,f,h=>Q e f h
theorem aX.block {P:Program} {n id:Nat} {c:Code} {Q:cq→ah→I→Prop} {f:ah} {h:I} (U:aX P n c (Ez id Q) f h):aX P n (.block id c) Q f h:=by
 intro ρ B aK a w hw aq
 refine wp_block (wp_mono (U ρ B aK a w hw aq) fun e hB w' ⟨ρ',x,bI,h',ag,bL,b4,az,cX⟩=>?_)
 cases x<;>cases e<;>simp only [pR] at ag
 ·exact ⟨ρ',.normal,bI,h',trivial,bL,b4,az,cX⟩
 ·subst ag
  simp only [Ez] at cX
  simp only [Exit.inBlock]
  split
  ·rename_i he
   simp only [he,if_true] at cX
   exact ⟨ρ',.normal,bI,h',trivial,bL,b4,az,cX⟩
  ·rename_i he
   simp only [he,if_false] at cX
   exact ⟨ρ',.exit _,bI,h',rfl,bL,b4,az,cX⟩
 ·exact ⟨ρ',.goto _,bI,h',ag,bL,b4,az,cX⟩
 ·exact ⟨ρ',.ret,bI,h',trivial,bL,b4,az,cX⟩
 ·exact ⟨ρ',.panic,bI,h',ag,bL,b4,az,cX⟩
theorem aX.skip {P:Program} {n:Nat} {Q:cq→ah→I→Prop} {f:ah} {h:I} (ad:Q .normal f h):aX P n .skip Q f h :=
 fun ρ _ _ _ _ hw aq=>wp_skip ⟨ρ,.normal,f,h,trivial,hw,aq,Ren.le.refl ρ,ad⟩
theorem aX.label {P:Program} {n l:Nat} {Q:cq→ah→I→Prop} {f:ah} {h:I} (ad:Q .normal f h):aX P n (.label l) Q f h :=
 fun ρ _ _ _ _ hw aq=>wp_label ⟨ρ,.normal,f,h,trivial,hw,aq,Ren.le.refl ρ,ad⟩
theorem aX.exit {P:Program} {n id:Nat} {Q:cq→ah→I→Prop} {f:ah} {h:I} (ad:Q (.exit id) f h):aX P n (.exit id) Q f h :=
 fun ρ _ _ _ _ hw aq=>wp_exit ⟨ρ,.exit id,f,h,rfl,hw,aq,Ren.le.refl ρ,ad⟩
theorem aX.goto {P:Program} {n l:Nat} {Q:cq→ah→I→Prop} {f:ah} {h:I} (ad:Q (.goto l) f h):aX P n (.goto l) Q f h :=
 fun ρ _ _ _ _ hw aq=>wp_goto ⟨ρ,.goto l,f,h,rfl,hw,aq,Ren.le.refl ρ,ad⟩
theorem aX.ret {P:Program} {n:Nat} {Q:cq→ah→I→Prop} {f:ah} {h:I} (ad:Q .ret f h):aX P n .ret Q f h :=
 fun ρ _ _ _ _ hw aq=>wp_ret ⟨ρ,.ret,f,h,trivial,hw,aq,Ren.le.refl ρ,ad⟩
theorem aX.loop {P:Program} {n:Nat} {c:Code} {Q:cq→ah→I→Prop} {f:ah} {h:I} (JU:ah→I→Prop) (μ:ah→I→Nat) (h0:JU f h)
  (round:∀ f h,JU f h→aX P n c (andThen (fun bI h'=>@qY ⟨JU bI h'∧μ bI h'<μ f h⟩) Q) f h):aX P n (.loop c) Q f h:=by
 intro ρ B aK a w hw aq
 have key:∀ m f h,JU f h→μ f h<m→∀ ρ1:Ren,ρ.le ρ1→∀ a w,aQ ρ1 B aK h w→dS ρ1 n f a→Code.rounds P c (lh n B aK ρ Q) m a w:=by
  intro m
  induction m with
  | zero=>intro f h _ hm;omega
  | succ m ih=>
   intro f h F2 hm ρ1 hle a w hw aq
   rw [rounds_succ]
   refine wp_mono (round f h F2 ρ1 B aK a w hw aq) fun e hB w' ⟨ρ',x,bI,h',ag,bL,b4,az,cX⟩=>?_
   cases x<;>cases e<;>simp only [pR] at ag
   ·exact ih bI h' cX.1 (by have:=cX.2;omega) ρ' (hle.trans az) hB w' bL b4
   ·exact ⟨ρ',.exit _,bI,h',ag,bL,b4,hle.trans az,cX⟩
   ·exact ⟨ρ',.goto _,bI,h',ag,bL,b4,hle.trans az,cX⟩
   ·exact ⟨ρ',.ret,bI,h',trivial,bL,b4,hle.trans az,cX⟩
   ·exact ⟨ρ',.panic,bI,h',ag,bL,b4,hle.trans az,cX⟩
 exact wp_loop_rounds (μ f h+1) (key _ f h h0 (Nat.lt_succ_self _) ρ (Ren.le.refl ρ) a w hw aq)
theorem aX.b9 {P:Program} {n:Nat} {c:Code} {Q:cq→ah→I→Prop} {f:ah} {h:I} {α:Type} (JU:α→ah→I→Prop) (μ:α→Nat) (gn:α) (h0:JU gn f h)
  (round:∀ x f h,JU x f h→aX P n c (andThen (fun bI h'=>@qY ⟨∃ y,JU y bI h'∧μ y<μ x⟩) Q) f h):aX P n (.loop c) Q f h:=by
 intro ρ B aK a w hw aq
 have key:∀ m x f h,JU x f h→μ x<m→∀ ρ1:Ren,ρ.le ρ1→∀ a w,aQ ρ1 B aK h w→dS ρ1 n f a→Code.rounds P c (lh n B aK ρ Q) m a w:=by
  intro m
  induction m with
  | zero=>intro x f h _ hm;omega
  | succ m ih=>
   intro x f h F2 hm ρ1 hle a w hw aq
   rw [rounds_succ]
   refine wp_mono (round x f h F2 ρ1 B aK a w hw aq) fun e hB w' ⟨ρ',bS,bI,h',ag,bL,b4,az,cX⟩=>?_
   cases bS<;>cases e<;>simp only [pR] at ag
   ·obtain ⟨y,bd,aN⟩:=cX
    exact ih y bI h' bd (by omega) ρ' (hle.trans az) hB w' bL b4
   ·exact ⟨ρ',.exit _,bI,h',ag,bL,b4,hle.trans az,cX⟩
   ·exact ⟨ρ',.goto _,bI,h',ag,bL,b4,hle.trans az,cX⟩
   ·exact ⟨ρ',.ret,bI,h',trivial,bL,b4,hle.trans az,cX⟩
   ·exact ⟨ρ',.panic,bI,h',ag,bL,b4,hle.trans az,cX⟩
 exact wp_loop_rounds (μ gn+1) (key _ gn f h h0 (Nat.lt_succ_self _) ρ (Ren.le.refl ρ) a w hw aq)
def gJ (ops:List Oper) (g:Option (Nat×Bool)) (f:ah):Option Bool :=
 match g with
 | none=>some true
 | some (j,want)=>match (ops[j]?).bind (·.dst) with
  | some d=>match f d with
   | .top=>none
   | .bool b=>some (b==want)
   | _=>some false
  | none=>some false
theorem JV {ρ:Ren} {n:Nat} {f:ah} {a:Act} (aq:dS ρ n f a) (ops:Array Oper) (o:Oper) {b:Bool} (ak:gJ ops.toList o.guard f=some b):Region.wanted o (yielded ops a.tmps)=b:=by
 unfold Region.wanted
 unfold gJ at ak
 cases av:o.guard with
 | none=>simp [av] at ak;simp [ak]
 | some p=>
  obtain ⟨j,want⟩:=p
  simp only [av] at ak⊢
  have e:ops.toList[j]?=ops[j]?:=by simp
  rw [e] at ak
  unfold yielded
  cases a7:(ops[j]?).bind (·.dst) with
  | none=>simp [a7] at ak;subst ak;rfl
  | some d=>
   simp only [a7] at ak⊢
   have aD:=aq.tmps d
   cases bq:a.tmps[d]? with
   | none=>
    have hu:a.tmps.getD d undef=undef:=by simp [bq]
    rw [hu] at aD
    generalize f d=x at aD ak
    unfold undef at aD
    cases aD with
    | top=>simp at ak
    | tuple U ag=>simp at ak;subst ak;simp [bq]
   | some u=>
    have hu:a.tmps.getD d undef=u:=by simp [bq]
    rw [hu] at aD
    generalize f d=x at aD ak
    cases aD<;>simp at ak<;>subst ak<;>simp [bq]
def hd (P:Program) (o:Oper) (next exc:ah→I→Prop) (f:ah) (h:I):Prop :=
 match dC P o (f.eval h) h with
 | some (.val v h')=>next (f.put o.dst v) h'
 | some (.call g args)=>ca P g args h (fun r h'=>next (f.put o.dst r) h') (fun h'=>exc f h')
 | some (.alts l)=>∀ v h',(v,h') ∈ l→next (f.put o.dst v) h'
 | some .panic=>exc f h
 | some (.round l args)=>kl P l args h (fun r h'=>next (f.put o.dst r) h')
 | none=>False
def mb (P:Program) (ops:List Oper):List Oper→(ah→I→Prop)→(ah→I→Prop)→ah→I→Prop
 | [],K,_,f,h=>K f h
 | o::rest,K,E,f,h=>match gJ ops o.guard f with
  | some true=>hd P o (mb P ops rest K E) E f h
  | some false=>mb P ops rest K E (f.put o.dst (.tuple [])) h
  | none=>False
def codeOk (n:Nat):Code→Bool
 | .region _ ops _=>ops.toList.all fun o=>sw n o.dst
 | .seq a b=>codeOk n a&&codeOk n b
 | .cond c a b=>codeOk n a&&codeOk n b
 | .block _ b=>codeOk n b
 | .loop b=>codeOk n b
 | .scope b=>codeOk n b
 | .rangeFunc ..=>false
 | .refuse _=>false
 | _=>true
theorem acC {P:Program} {o:Oper} {bu:Operand→V} {h:I} {s:Step} (U:dC P o bu h=some s) (ro:Option Nat) (ct:Operand→Value):o.semAt ro ct=execOp ct o :=
 Oper.semAt_eq ro ct o fun c au=>by unfold dC at U;rw [au] at U;simp at U
theorem Ox {F:Fence} (iv:sb F) {rm:Nat} {P:Program} {n:Nat} {o:Oper} (a7:sw n o.dst=true) {ρ0 ρ:Ren} {B:Nat} {aK w:World} {f:ah} {h:I} {a:Act} {next exc:ah→I→Prop}
  {next':Act→World→Prop} {y8:Exit→Act→World→Prop} (hle:ρ0.le ρ) (hw:aQ ρ B aK h w) (aq:dS ρ n f a) (ad:hd P o next exc f h)
  (rW:∀ ρ f h a w,ρ0.le ρ→aQ ρ B aK h w→dS ρ n f a→next f h→next' a w) (F3:∀ ρ f h a w iu,ρ0.le ρ→aQ ρ B aK h w→dS ρ n f a→Ai iu→exc f h→y8 (.panic iu) a w) :
  o.wpIn F rm P a w next' y8:=by
 unfold hd at ad
 unfold Oper.wpIn
 refine ⟨fun f _=>iv.fn f,?_⟩
 have b1:=aq.eval hw.heap
 have Mc:F.depth.isSome=true→1≤rm:=fun ab=>by rw [iv.depth] at ab;cases ab
 have fin:∀ v h',jY P (execOp a.eval o) ρ B aK w v h'→next (f.put o.dst v) h'→Oper.uponIn F rm P o a next' y8 ((execOp a.eval o).run P w):=fun v h' bd aG=>by
  obtain ⟨ρ',v',w',cv,aD,bL,fO⟩:=bd
  rcases cv with cv | ⟨cv,rfl⟩
  ·rw [cv,Oper.uponIn_value]
   exact rW ρ' _ _ _ _ (hle.trans fO) bL ((aq.mono fO).put aD o.dst a7) aG
  ·rw [cv,Oper.uponIn_skip]
   exact rW ρ' _ _ _ _ (hle.trans fO) bL ((aq.mono fO).put aD o.dst a7) aG
 cases he:dC P o (f.eval h) h with
 | none=>simp [he] at ad
 | some s=>
  rw [acC he]
  cases s with
  | val v h'=>simp only [he] at ad;exact fin v h' (acx he hw b1) ad
  | alts l=>
   simp only [he] at ad
   obtain ⟨v,h',hm,bd⟩:=acA he hw b1
   exact fin v h' bd (ad v h' hm)
  | panic=>
   simp only [he] at ad
   obtain ⟨t,v',cv⟩:=acB he hw b1
   rw [cv,Oper.uponIn_panic]
   exact F3 ρ f h a w _ hle hw aq ⟨t,v',rfl⟩ ad
  | call g args=>
   simp only [he] at ad
   obtain ⟨args',cv,aO⟩:=acy he hw b1
   rw [cv,Oper.uponIn_enter]
   refine ⟨Mc,(iv.calls (ad ρ B aK w args' hw aO)).mono fun e w' ab=>?_⟩
   rcases ab with ⟨ρ',r,cm,h',qZ,aD,bL,fO,eR⟩ | ⟨ρ',iu,h',qZ,nj,bL,fO,bF⟩
   ·subst qZ
    exact rW ρ' _ _ _ _ (hle.trans fO) bL ((aq.mono fO).put aD o.dst a7) eR
   ·subst qZ
    exact F3 ρ' f h' a w' iu (hle.trans fO) bL (aq.mono fO) nj bF
  | round l args=>
   simp only [he] at ad
   obtain ⟨args',cv,aO⟩:=acz he hw b1
   obtain ⟨fn,tmps,assign,body,bd,aH⟩:=ad ρ B aK w args' hw aO
   rw [cv,bd,Oper.uponIn_round]
   refine ⟨Mc,(iv.round aH).mono fun e w' ab=>?_⟩
   obtain ⟨ρ',r,cm,h',qZ,aD,bL,fO,eR⟩:=ab
   subst qZ
   exact rW ρ' _ _ _ _ (hle.trans fO) bL ((aq.mono fO).put aD o.dst a7) eR
theorem JW {F:Fence} (iv:sb F) {rm:Nat} {P:Program} {n:Nat} {ops:Array Oper} (a1:ops.toList.all (fun o=>sw n o.dst)=true) {Q:cq→ah→I→Prop} {ρ0:Ren} {B:Nat} {aK:World} :
  ∀ (l:List Oper) (k:Nat),l=ops.toList.drop k→∀ (ρ:Ren) (f:ah) (h:I) (a:Act) (w:World),ρ0.le ρ→aQ ρ B aK h w→dS ρ n f a →
   mb P ops.toList l (Q .normal) (Q .panic) f h→wpOpsIn F rm P ops (lh n B aK ρ0 Q) (List.range' k l.length) a w
 | [],k,az,ρ,f,h,a,w,hle,hw,aq,ad=>by
  simp only [List.length_nil,List.range'_zero,wpOpsIn]
  exact ⟨ρ,.normal,f,h,trivial,hw,aq,hle,ad⟩
 | o::rest,k,az,ρ,f,h,a,w,hle,hw,aq,ad=>by
  have hk:ops.toList[k]?=some o:=by
   have:=congrArg (·[0]?) az
   simpa using this.symm
  have gR:rest=ops.toList.drop (k+1):=by
   have:=congrArg List.tail az
   simpa [List.tail_drop] using this
  have aR:ops[k]?=some o:=by simpa using hk
  have a7:sw n o.dst=true:=(List.all_eq_true.1 a1) o (List.mem_of_getElem? hk)
  simp only [List.length_cons,List.range'_succ,wpOpsIn,aR]
  unfold mb at ad
  cases pn:gJ ops.toList o.guard f with
  | none=>simp [pn] at ad
  | some b=>
   rw [JV aq ops o pn]
   cases b with
   | true=>
    simp only [pn] at ad
    simp only [if_true]
    exact Ox iv a7 hle hw aq ad (fun ρ f h a w hle hw aq aG=>JW iv a1 rest (k+1) gR ρ f h a w hle hw aq aG)
     (fun ρ f h a w iu hle hw aq nj bF=>⟨ρ,.panic,f,h,nj,hw,aq,hle,bF⟩)
   | false=>
    simp only [pn] at ad
    simp only [Bool.false_eq_true,if_false]
    exact ⟨fun f _=>iv.fn f,JW iv a1 rest (k+1) gR ρ _ _ _ _ hle hw (aq.put (i7 _) o.dst a7) ad⟩
theorem aX.region {P:Program} {n id:Nat} {ops:Array Oper} (a1:ops.toList.all (fun o=>sw n o.dst)=true) {Q:cq→ah→I→Prop} {f:ah} {h:I}
  (ad:mb P ops.toList ops.toList (Q .normal) (Q .panic) f h):aX P n (.region id ops false) Q f h:=by
 intro ρ B aK a w hw aq
 refine wpIn_wide.1 (wpIn_region (n:=0) ?_)
 have:=JW sb.wide (rm:=0) (P:=P) a1 (ρ0:=ρ) ops.toList 0 (by simp) ρ f h a w (Ren.le.refl ρ) hw aq ad
 rwa [Array.length_toList,←List.range_eq_range'] at this
def Pure (P:Program) (bt:FuncId) (args:List V) (h:I) (v:V):Prop:=ae P bt args h fun r h'=>r=v∧h'=h
def za (P:Program) (o:Oper) (h:I) (f:ah) (v:V):Prop :=
 dC P o (f.eval h) h=some (.val v h)∨∃ g args,dC P o (f.eval h) h=some (.call g args)∧Pure P g args h v
def kJ (P:Program) (ops:List Oper) (es:List Nat) (K E:ah→I→Prop):Nat→List Oper→ah→I→Prop
 | _,[],f,h=>K f h
 | k,o::rest,f,h=>if es.contains k then (match gJ ops o.guard f with
   | some true=>hd P o (fun bI h'=>kJ P ops es K E (k+1) rest bI h') E f h
   | some false=>kJ P ops es K E (k+1) rest (f.put o.dst (.tuple [])) h
   | none=>False)
  else (match gJ ops o.guard f with
   | some true=>∃ v,za P o h f v∧kJ P ops es K E (k+1) rest (f.put o.dst v) h
   | some false=>kJ P ops es K E (k+1) rest (f.put o.dst (.tuple [])) h
   | none=>False)
def qm (P:Program) (n:Nat):Code→(cq→ah→I→Prop)→ah→I→Prop
 | .skip,Q,f,h=>Q .normal f h
 | .region id ops false,Q,f,h=>mb P ops.toList ops.toList (Q .normal) (Q .panic) f h
 | .region id ops true,Q,f,h=>aX P n (.region id ops true) Q f h
 | .seq a b,Q,f,h=>qm P n a (andThen (fun f h=>qm P n b Q f h) Q) f h
 | .cond c a b,Q,f,h=>match f.eval h c with
  | .bool true=>qm P n a Q f h
  | .bool false=>qm P n b Q f h
  | _=>False
 | .block id b,Q,f,h=>qm P n b (Ez id Q) f h
 | .loop b,Q,f,h=>aX P n (.loop b) Q f h
 | .scope b,Q,f,h=>aX P n (.scope b) Q f h
 | .exit id,Q,f,h=>Q (.exit id) f h
 | .goto l,Q,f,h=>Q (.goto l) f h
 | .label _,Q,f,h=>Q .normal f h
 | .ret,Q,f,h=>Q .ret f h
 | _,_,_,_=>False
theorem BO {P:Program} {n:Nat}:∀ (c:Code) (Q:cq→ah→I→Prop) (f:ah) (h:I),codeOk n c=true→qm P n c Q f h→aX P n c Q f h
 | .skip,Q,f,h,_,ad=>.skip ad
 | .region id ops false,Q,f,h,a1,ad=>.region (by simpa [codeOk] using a1) ad
 | .region id ops true,Q,f,h,_,ad=>ad
 | .seq a b,Q,f,h,a1,ad=>by
  simp only [codeOk,Bool.and_eq_true] at a1
  refine .seq ((BO a _ f h a1.1 ad).mono fun e bI h' ab=>?_)
  cases e with
  | normal=>exact BO b Q bI h' a1.2 ab
  | _=>exact ab
 | .cond c a b,Q,f,h,a1,ad=>by
  simp only [codeOk,Bool.and_eq_true] at a1
  unfold qm at ad
  split at ad
  ·rename_i au;exact .cond au (BO a Q f h a1.1 ad)
  ·rename_i au;exact .cond au (BO b Q f h a1.2 ad)
  ·exact ad.elim
 | .block id b,Q,f,h,a1,ad=>.block (BO b _ f h (by simpa [codeOk] using a1) ad)
 | .loop b,Q,f,h,_,ad=>ad
 | .scope b,Q,f,h,_,ad=>ad
 | .exit id,Q,f,h,_,ad=>.exit ad
 | .goto l,Q,f,h,_,ad=>.goto ad
 | .label _,Q,f,h,_,ad=>.label ad
 | .ret,Q,f,h,_,ad=>.ret ad
 | .rangeFunc ..,Q,f,h,a1,_=>by simp [codeOk] at a1
 | .refuse _,Q,f,h,a1,_=>by simp [codeOk] at a1
def iP (args:List V):ah:=fun t=>args.getD t .top
def oj (P:Program) (f:ah) (h:I):ResultVar→Option V
 | .tmp t=>some (f t)
 | .cell a t=>ls P t (f a) h
def pS (P:Program) (rs:List ResultVar) (f:ah) (h:I):Option V :=
 match rs with
 | [r]=>oj P f h r
 | _=>match rs.mapM (oj P f h) with
  | some vs=>some (.tuple vs)
  | none=>none
def uo (P:Program) (fn:Func) (R:V→I→Prop) (E:I→Prop):cq→ah→I→Prop
 | .normal,f,h | .ret,f,h=>match pS P fn.results.toList f h with
  | some r=>R r h
  | none=>False
 | .panic,f,h=>E h
 | _,_,_=>False
theorem acD {P:Program} {ρ:Ren} {B n:Nat} {aK w:World} {f:ah} {h:I} {a:Act} (hw:aQ ρ B aK h w) (aq:dS ρ n f a) {g:ResultVar→Sem Value}
  (ef:∀ t,g (.tmp t)=pure (a.tmps.getD t undef)) (lj:∀ c t,g (.cell c t)=(do loadVar t (←asAddr (a.tmps.getD c undef)))) {r:ResultVar} {v:V} (aH:oj P f h r=some v) :
  ∃ v',(g r).run P w=.ok v' w∧aA ρ v v':=by
 cases r with
 | tmp t=>
  obtain rfl:f t=v:=by simpa [oj] using aH
  rw [ef]
  exact ⟨_,Sem.run_pure ..,aq.tmps t⟩
 | cell c t=>
  simp only [oj] at aH
  obtain ⟨⟨ap8,aO⟩,v',cv,aD⟩:=S1 aH hw (aq.tmps c)
  refine ⟨v',?_,aD⟩
  rw [lj]
  rw [aO] at cv⊢
  simpa [Instr.loadAt,Instr.sureAddr,asAddr] using cv
theorem Oy {P:Program} {ρ:Ren} {B n:Nat} {aK w:World} {f:ah} {h:I} {a:Act} (hw:aQ ρ B aK h w) (aq:dS ρ n f a) {g:ResultVar→Sem Value}
  (ef:∀ t,g (.tmp t)=pure (a.tmps.getD t undef)) (lj:∀ c t,g (.cell c t)=(do loadVar t (←asAddr (a.tmps.getD c undef)))):∀ (rs:List ResultVar) (vs:List V),rs.mapM (oj P f h)=some vs →
  vs.length=rs.length∧∃ h9,(rs.mapM g).run P w=.ok h9 w∧aT ρ vs h9
 | [],vs,hm=>by
  simp at hm
  subst hm
  exact ⟨rfl,[],by simp,.nil ρ⟩
 | r::rs,vs,hm=>by
  simp only [List.mapM_cons,Option.bind_eq_bind,Option.pure_def] at hm
  cases aH:oj P f h r with
  | none=>simp [aH] at hm
  | some v=>
   cases F4:rs.mapM (oj P f h) with
   | none=>simp [aH,F4] at hm
   | some us=>
    simp [aH,F4] at hm
    subst hm
    obtain ⟨v',h1,aa⟩:=acD hw aq ef lj aH
    obtain ⟨az,Tt,aC,bz⟩:=Oy hw aq ef lj rs us F4
    refine ⟨by simp [az],v'::Tt,?_,.cons aa bz⟩
    simp only [List.mapM_cons,Sem.run_bind,h1,aC,Result.andThen_ok,Sem.run_pure]
def BP (tmps:Array Value):ResultVar→Sem Value
 | .tmp t=>pure (tmps.getD t undef)
 | .cell a t=>do loadVar t (←asAddr (tmps.getD a undef))
theorem acE (fn:Func) (tmps:Array Value):results fn tmps=(do let vs ←fn.results.mapM (BP tmps);pure (if h:vs.size=1 then vs[0] else .tuple vs)):=rfl
theorem Oz {P:Program} {ρ:Ren} {B n:Nat} {aK w:World} {f:ah} {h:I} {a:Act} {fn:Func} (hw:aQ ρ B aK h w) (aq:dS ρ n f a) {r:V} (oD:pS P fn.results.toList f h=some r) :
  ∃ cm,(results fn a.tmps).run P w=.ok cm w∧aA ρ r cm:=by
 rw [acE,Array.mapM_eq_mapM_toList]
 unfold pS at oD
 split at oD
 ·rename_i cT heq
  have hm:[cT].mapM (oj P f h)=some [r]:=by simp [oD]
  rw [heq]
  obtain ⟨_,h9,h1,aa⟩:=Oy hw aq (g:=BP a.tmps) (fun _=>rfl) (fun _ _=>rfl) [cT] [r] hm
  obtain ⟨v',im,rfl,aD,bq⟩:=aa.di
  obtain rfl:=bq.eq_nil
  refine ⟨v',?_,aD⟩
  simp only [Sem.run_bind,Sem.run_map,h1,Result.andThen_ok]
  simp
 ·rename_i bO
  split at oD
  case h_2=>cases oD
  rename_i vs ji
  obtain rfl:_=r:=by simpa using oD
  obtain ⟨JX,h9,h1,aa⟩:=Oy hw aq (g:=BP a.tmps) (fun _=>rfl) (fun _ _=>rfl) _ vs ji
  have ie:h9.length≠1:=by
   rw [←aa.1,JX]
   intro au
   obtain ⟨r,aH⟩:=List.length_eq_one_iff.1 au
   exact bO r aH
  refine ⟨.tuple h9.toArray,?_,.tuple aa.arr.1 aa.arr.2⟩
  simp only [Sem.run_bind,Sem.run_map,h1,Result.andThen_ok]
  simp [ie]
theorem OA {ρ:Ren} {n:Nat} {args:List V} {args':Array Value} (aO:aT ρ args args'.toList) (hlen:args.length≤n) (a7:ρ.dfr=[]):dS ρ n (iP args) { tmps:=args'++Array.replicate (n - args'.size) undef,defers:=[] }:=by
 have bf:args'.size=args.length:=by have:=aO.1;simpa using this.symm
 refine ⟨fun t=>?_,by simp;omega,a7.symm⟩
 simp only [iP]
 by_cases bq:t<args.length
 ·obtain ⟨v',h1,aa⟩:=aO.get (List.getElem?_eq_getElem bq)
  have qn:args'[t]?=some v':=by simpa using h1
  simp only [List.getD,List.getElem?_eq_getElem bq,Option.getD_some]
  have:(args'++Array.replicate (n - args'.size) undef).getD t undef=v':=by
   rw [Array.getD_eq_getD_getElem?,Array.getElem?_append_left (by omega),qn]
   rfl
  rw [this]
  exact aa
 ·simp only [List.getD,List.getElem?_eq_none (show args.length≤t by omega),Option.getD_none]
  exact .top _
theorem ca.enter {P:Program} {bt:FuncId} {fn:Func} {c:Code} (nH:P.funcs[bt]?=some fn) (ak:fn.body=some c) (a1:codeOk fn.ntmps c=true) {args:List V} (hlen:args.length≤fn.ntmps)
  {h:I} {R:V→I→Prop} {E:I→Prop} (ad:qm P fn.ntmps c (uo P fn R E) (iP args) h):ca P bt args h R E:=by
 intro ρ B aK w args' hw aO
 refine calls_of_wp nH ak ?_
 have fin:∀ (ρ':Ren) (f:ah) (h':I) (hB:Act) (w':World),Ren.le { ρ with dfr:=[] } ρ'→aQ ρ' B aK h' w'→dS ρ' fn.ntmps f hB→(match pS P fn.results.toList f h' with | some r=>R r h' | none=>False) →
   hB.defers=[]∧∃ v,(results fn hB.tmps).run P w'=.ok v w'∧((∃ (ρ':Ren) (r:V) (cm:Value) (h':I),Ending.returned v=.returned cm∧aA ρ' r cm∧aQ ρ' B aK h' w'∧ρ.le ρ'∧R r h') ∨
    (∃ (ρ':Ren) (iu:List PanicEntry) (h':I),Ending.returned v=.panicked iu∧Ai iu∧aQ ρ' B aK h' w'∧ρ.le ρ'∧E h')):=by
  intro ρ' f h' hB w' az bL b4 cX
  refine ⟨b4.defers.trans az.dfr,?_⟩
  cases oD:pS P fn.results.toList f h' with
  | none=>simp [oD] at cX
  | some r=>
  simp only [oD] at cX
  obtain ⟨cm,h1,aa⟩:=Oz bL b4 oD
  exact ⟨cm,h1,.inl ⟨_,r,cm,h',rfl,aa.dfr ρ.dfr,bL.dfr ρ.dfr,az.pP,cX⟩⟩
 refine wp_mono (BO c _ _ h a1 ad { ρ with dfr:=[] } B aK _ w (hw.dfr []) (OA (aO.dfr []) hlen rfl)) fun e hB w' ⟨ρ',x,f,h',ag,bL,b4,az,cX⟩=>?_
 cases x<;>cases e<;>simp only [pR] at ag
 ·exact fin ρ' f h' hB w' az bL b4 cX
 ·exact cX.elim
 ·exact cX.elim
 ·exact fin ρ' f h' hB w' az bL b4 cX
 ·exact ⟨b4.defers.trans az.dfr,.inr ⟨_,_,h',rfl,ag,bL.dfr ρ.dfr,az.pP,cX⟩⟩
theorem nr {α:Sort _} {a b:α} (h:a=b):a=b:=h
class inductive rY where
 | fn (run:cq→ah→I→Prop)
 | seq (P:Program) (n:Nat) (b:Code) (Q:rY)
 | hL (id:Nat) (Q:rY)
def rY.go:rY→cq→ah→I→Prop
 | .fn r=>r
 | .seq P n b Q=>andThen (fun f h=>qm P n b Q.go f h) Q.go
 | .hL id Q=>Ez id Q.go
class inductive e1 where
 | fn (run exc:ah→I→Prop)
 | out (Q:rY)
 | ops (P:Program) (ol l:List Oper) (K:e1)
 | rest (P:Program) (ol:List Oper) (es:List Nat) (k:Nat) (l:List Oper) (K:e1)
def e1.exc:e1→ah→I→Prop
 | .fn _ e=>e
 | .out Q=>Q.go .panic
 | .ops _ _ _ K=>K.exc
 | .rest _ _ _ _ _ K=>K.exc
def e1.go:e1→ah→I→Prop
 | .fn r _=>r
 | .out Q=>Q.go .normal
 | .ops P ol l K=>mb P ol l K.go K.exc
 | .rest P ol es k l K=>kJ P ol es K.go K.exc k l
def lk (P:Program) (n:Nat) (c:Code) [Q:rY] (f:ah) (h:I):Prop:=qm P n c Q.go f h
def hf (P:Program) (ol l:List Oper) [K:e1] (f:ah) (h:I):Prop:=mb P ol l K.go K.exc f h
def ed (P:Program) (o:Oper) [K:e1] (f:ah) (h:I):Prop:=hd P o K.go K.exc f h
def fo (x:cq) [Q:rY] (f:ah) (h:I):Prop:=Q.go x f h
def jl [K:e1] (f:ah) (h:I):Prop:=K.go f h
def JY (v:V) [p:F0] [q:F0]:Prop:=match v with | .bool true=>p.prop | .bool false=>q.prop | _=>False
section
variable {P:Program} {n id:Nat} {ops:Array Oper} {l:List Oper} {Q:rY} {K:e1} {f:ah} {h:I}
theorem acF:@lk P n .skip Q f h=@fo .normal Q f h:=nr rfl
theorem acG:@lk P n (.region id ops false) Q f h=@hf P ops.toList ops.toList (.out Q) f h:=nr rfl
theorem acH {a b:Code}:@lk P n (.seq a b) Q f h=@lk P n a (.seq P n b Q) f h:=nr rfl
theorem acI {p q:F0}:@JY (.bool true) p q=p.prop:=nr rfl
theorem acJ {p q:F0}:@JY (.bool false) p q=q.prop:=nr rfl
theorem acK {c:Operand} {a b:Code}:@lk P n (.cond c a b) Q f h=@JY (f.eval h c) ⟨@lk P n a Q f h⟩ ⟨@lk P n b Q f h⟩:=by
 show (match f.eval h c with | .bool true=>qm P n a Q.go f h | .bool false=>qm P n b Q.go f h | _=>False)=_
 unfold JY
 cases f.eval h c with
 | bool t=>cases t<;>rfl
 | _=>rfl
theorem acL {b:Code}:@lk P n (.block id b) Q f h=@lk P n b (.hL id Q) f h:=nr rfl
theorem acM:@lk P n (.exit id) Q f h=@fo (.exit id) Q f h:=nr rfl
theorem acN:@lk P n (.goto id) Q f h=@fo (.goto id) Q f h:=nr rfl
theorem acO:@lk P n .ret Q f h=@fo .ret Q f h:=nr rfl
theorem acP {b:Code}:@lk P n (.loop b) Q f h=aX P n (.loop b) Q.go f h:=nr rfl
theorem acQ {b:Code}:@lk P n (.scope b) Q f h=aX P n (.scope b) Q.go f h:=nr rfl
theorem acR:@lk P n (.region id ops true) Q f h=aX P n (.region id ops true) Q.go f h:=nr rfl
theorem acS {b:Code}:@fo .normal (.seq P n b Q) f h=@lk P n b Q f h:=nr rfl
theorem acT {b:Code} {j:Nat}:@fo (.exit j) (.seq P n b Q) f h=@fo (.exit j) Q f h:=nr rfl
theorem acU {b:Code} {j:Nat}:@fo (.goto j) (.seq P n b Q) f h=@fo (.goto j) Q f h:=nr rfl
theorem acV {b:Code}:@fo .ret (.seq P n b Q) f h=@fo .ret Q f h:=nr rfl
theorem acW {b:Code}:@fo .panic (.seq P n b Q) f h=@fo .panic Q f h:=nr rfl
theorem acX:@fo .normal (.hL id Q) f h=@fo .normal Q f h:=nr rfl
theorem acY {j:Nat}:@fo (.exit j) (.hL id Q) f h=if j=id then @fo .normal Q f h else @fo (.exit j) Q f h:=nr rfl
theorem GT:@fo .ret (.hL id Q) f h=@fo .ret Q f h:=nr rfl
theorem acZ:@fo .panic (.hL id Q) f h=@fo .panic Q f h:=nr rfl
theorem ac0 {x:cq} {Q:cq→ah→I→Prop}:@fo x (.fn Q) f h=Q x f h:=nr rfl
theorem ac1:@jl (.out Q) f h=@fo .normal Q f h:=nr rfl
theorem ac2 {ol:List Oper}:@jl (.ops P ol l K) f h=@hf P ol l K f h:=nr rfl
theorem ac3 {K E:ah→I→Prop}:@jl (.fn K E) f h=K f h:=nr rfl
theorem ac4 {ol:List Oper}:@hf P ol [] K f h=@jl K f h:=nr rfl
theorem Tu {x:cq}:rY.go Q x f h=@fo x Q f h:=nr rfl
theorem ac5:e1.exc (.out Q) f h=@fo .panic Q f h:=nr rfl
theorem ac6 {ol:List Oper}:e1.exc (.ops P ol l K) f h=e1.exc K f h:=nr rfl
theorem ac7 {K:ah→I→Prop} {Q:cq→ah→I→Prop}:andThen K Q .normal f h=K f h:=nr rfl
theorem ac8 {K:ah→I→Prop} {Q:cq→ah→I→Prop}:andThen K Q (.exit id) f h=Q (.exit id) f h:=nr rfl
theorem ac9 {K:ah→I→Prop} {Q:cq→ah→I→Prop}:andThen K Q .ret f h=Q .ret f h:=nr rfl
theorem am {c:Code} {Q:cq→ah→I→Prop} (a1:codeOk n c=true) (ad:@lk P n c (.fn Q) f h):aX P n c Q f h:=BO c Q f h a1 ad
theorem ca.ax {bt:FuncId} {fn:Func} {c:Code} (nH:P.funcs[bt]?=some fn) (ak:fn.body=some c) (a1:codeOk fn.ntmps c=true) {args:List V} (hlen:args.length≤fn.ntmps)
  {h:I} {R:V→I→Prop} {E:I→Prop} (ad:@lk P fn.ntmps c (.fn (uo P fn (fun r h=>@qY ⟨R r h⟩) (fun h=>@qY ⟨E h⟩))) (iP args) h):ca P bt args h R E:=ca.enter nH ak a1 hlen ad
theorem ae.ax {bt:FuncId} {fn:Func} {c:Code} (nH:P.funcs[bt]?=some fn) (ak:fn.body=some c) (a1:codeOk fn.ntmps c=true) {args:List V} (hlen:args.length≤fn.ntmps)
  {h:I} {R:V→I→Prop} (ad:@lk P fn.ntmps c (.fn (uo P fn (fun r h=>@qY ⟨R r h⟩) fun _=>False)) (iP args) h):ae P bt args h R:=ca.enter nH ak a1 hlen ad
variable {d:Option Tmp} {ty:TypeId} {pos:String} {cd:Array Edge} {ol:List Oper}
def ko (o:Option V) (d:Option Tmp) [K:e1] (f:ah) (h:I):Prop:=match o with | some v=>K.go (f.put d v) h | none=>False
def q0 (o:Option (V×I)) (d:Option Tmp) [K:e1] (f:ah):Prop:=match o with | some (v,h)=>K.go (f.put d v) h | none=>False
def thenS (o:Option I) (d:Option Tmp) [K:e1] (f:ah):Prop:=match o with | some h=>K.go (f.put d .top) h | none=>False
theorem ada {v:V}:@ko (some v) d K f h=@jl K (f.put d v) h:=nr rfl
theorem adb {v:V} {h':I}:@q0 (some (v,h')) d K f=@jl K (f.put d v) h':=nr rfl
theorem ade {h':I}:@thenS (some h') d K f=@jl K (f.put d .top) h':=nr rfl
theorem adf {op:Op}:@hf P ol (⟨d,op,ty,pos,cd,none⟩::l) K f h=@ed P ⟨d,op,ty,pos,cd,none⟩ (.ops P ol l K) f h:=nr rfl
def xH:List Oper→Nat→Option Tmp
 | [],_=>none
 | o::_,0=>o.dst
 | _::r,j+1=>xH r j
theorem OB:∀ (l:List Oper) (j:Nat),xH l j=(l[j]?).bind (·.dst)
 | [],j=>by simp [xH]
 | o::r,0=>by simp [xH]
 | o::r,j+1=>by simp [xH,OB r j]
def yl (v:V) (o:Oper) (P:Program) (ol l:List Oper) [K:e1] (f:ah) (h:I):Prop :=
 match v,o.guard with
 | .bool c,some (_,b)=>if c=b then @ed P o (.ops P ol l K) f h else @hf P ol l K (f.put o.dst (.tuple [])) h
 | .top,_=>False
 | _,_=>@hf P ol l K (f.put o.dst (.tuple [])) h
theorem adg {op:Op} {j:Nat} {b:Bool}:@hf P ol (⟨d,op,ty,pos,cd,some (j,b)⟩::l) K f h =
  (match xH ol j with | some t=>@yl (f t) ⟨d,op,ty,pos,cd,some (j,b)⟩ P ol l K f h | none=>@hf P ol l K (f.put d (.tuple [])) h):=by
 rw [OB]
 show mb P ol (⟨d,op,ty,pos,cd,some (j,b)⟩::l) K.go K.exc f h=_
 simp only [mb,gJ]
 cases bq:(ol[j]?).bind (·.dst) with
 | none=>rfl
 | some t=>
  simp only [yl]
  cases aq:f t<;>try rfl
  rename_i c
  simp only
  by_cases au:c=b
  ·subst au;simp only [beq_self_eq_true,if_true];rfl
  ·have:(c==b)=false:=by simp [au]
   simp only [this,if_neg au]
   rfl
theorem adh {b:Bool} {op:Op} {j:Nat}:@yl (.bool b) ⟨d,op,ty,pos,cd,some (j,b)⟩ P ol l K f h=@ed P ⟨d,op,ty,pos,cd,some (j,b)⟩ (.ops P ol l K) f h:=if_pos rfl
theorem adi {op:Op} {j:Nat}:@yl (.bool true) ⟨d,op,ty,pos,cd,some (j,false)⟩ P ol l K f h=@hf P ol l K (f.put d (.tuple [])) h:=nr rfl
theorem adj {op:Op} {j:Nat}:@yl (.bool false) ⟨d,op,ty,pos,cd,some (j,true)⟩ P ol l K f h=@hf P ol l K (f.put d (.tuple [])) h:=nr rfl
theorem adk {op:Op} {j:Nat} {b:Bool} {vs:List V}:@yl (.tuple vs) ⟨d,op,ty,pos,cd,some (j,b)⟩ P ol l K f h=@hf P ol l K (f.put d (.tuple [])) h:=nr rfl
theorem adl {o:Oper} {r:List Oper}:xH (o::r) 0=o.dst:=nr rfl
theorem adm {o:Oper} {r:List Oper} {j:Nat}:xH (o::r) (j+1)=xH r j:=nr rfl
variable {g:Option (Nat×Bool)}
theorem q1 {o:Oper} {x:Option V} (he:dC P o (f.eval h) h=fY x h):@ed P o K f h=@ko x o.dst K f h:=by
 unfold ed hd;rw [he];cases x<;>rfl
theorem BQ {o:Oper} {x:Option (V×I)} (he:dC P o (f.eval h) h=eY x):@ed P o K f h=@q0 x o.dst K f:=by
 unfold ed hd;rw [he];cases x<;>rfl
theorem Tv {o:Oper} {x:Option I} (he:dC P o (f.eval h) h=qW x):@ed P o K f h=@thenS x o.dst K f:=by
 unfold ed hd;rw [he];cases x<;>rfl
theorem adn {x:Operand}:@ed P ⟨d,.move x,ty,pos,cd,g⟩ K f h=@jl K (f.put d (f.eval h x)) h:=nr rfl
theorem ado {x:Operand}:@ed P ⟨d,.assign x,ty,pos,cd,g⟩ K f h=@jl K (f.put d (f.eval h x)) h:=nr rfl
def EA (c a b:V):Option V:=match c with | .bool t=>some (if t then a else b) | _=>none
theorem adp {c a b:Operand}:@ed P ⟨d,.pick c a b,ty,pos,cd,g⟩ K f h=@ko (EA (f.eval h c) (f.eval h a) (f.eval h b)) d K f h:=by
 unfold ed hd dC EA ko;simp only;cases f.eval h c<;>rfl
theorem adq {a b:V}:EA (.bool true) a b=some a:=nr rfl
theorem adr {a b:V}:EA (.bool false) a b=some b:=nr rfl
theorem ads {e:TypeId}:@ed P ⟨d,.alloc e,ty,pos,cd,g⟩ K f h=@q0 (Er P e h) d K f:=BQ rfl
theorem adt {e:TypeId} {x:Operand}:@ed P ⟨d,.box e x,ty,pos,cd,g⟩ K f h=@q0 (ug e (f.eval h x) h) d K f:=BQ rfl
theorem adu {t:TypeId} {ps:Array (Nat×Operand)}:@ed P ⟨d,.build t ps,ty,pos,cd,g⟩ K f h=@ko (BM P t (ps.toList.map fun p=>(p.1,f.eval h p.2))) d K f h:=q1 rfl
theorem adv {t:TypeId} {len:Nat} {ps:Array (Nat×Operand)}:@ed P ⟨d,.buildSlice t len ps,ty,pos,cd,g⟩ K f h=@q0 (kI P t len (ps.toList.map fun p=>(p.1,f.eval h p.2)) h) d K f:=BQ rfl
theorem adw {t:TypeId} {a:Operand}:@ed P ⟨d,.load t a,ty,pos,cd,g⟩ K f h=@ko (ls P t (f.eval h a) h) d K f h:=q1 rfl
theorem adx {t:TypeId} {a x:Operand}:@ed P ⟨d,.store t a x,ty,pos,cd,g⟩ K f h=@thenS (Eo P t (f.eval h a) (f.eval h x) h) d K f:=Tv rfl
def wm (x:V):Option V:=match x with | .ptr i o=>some (.ptr i o) | .at cs=>some (.at cs) | .func (.func bt) xs ys=>some (.func (.func bt) xs ys) | _=>none
theorem ady {i o:Nat}:wm (.ptr i o)=some (.ptr i o):=nr rfl
theorem adz {x:Operand}:@ed P ⟨d,.nilCheck x,ty,pos,cd,g⟩ K f h=@ko (wm (f.eval h x)) d K f h:=by
 unfold ed hd dC wm ko;simp only
 generalize f.eval h x=y
 cases y<;>try rfl
 rename_i fn xs ys
 cases fn<;>rfl
theorem adA {op:BinOp} {t JT:TypeId} {x y:Operand}:@ed P ⟨d,.binOp op t x y JT,ty,pos,cd,g⟩ K f h=@ko (c0 P op t x y (f.eval h x) (f.eval h y)) d K f h:=q1 rfl
theorem adB {op:UnOp} {t:TypeId} {x:Operand}:@ed P ⟨d,.unOp op t x,ty,pos,cd,g⟩ K f h=@ko (we P op (f.eval h x)) d K f h:=q1 rfl
def OC (o:Option V) (b:Option (V×I)) (d:Option Tmp) [K:e1] (f:ah) (h:I):Prop:=match o with | some v=>K.go (f.put d v) h | none=>@q0 b d K f
theorem adC {v:V} {b:Option (V×I)}:@OC (some v) b d K f h=@jl K (f.put d v) h:=nr rfl
theorem adD {s t:TypeId} {x:Operand}:@ed P ⟨d,.convert s t x,ty,pos,cd,g⟩ K f h=@OC (lQ P s t (f.eval h x) h) (vD P s t (f.eval h x) h) d K f h:=by
 have he:dC P ⟨d,.convert s t x,ty,pos,cd,g⟩ (f.eval h) h=(match lQ P s t (f.eval h x) h with | some v=>some (.val v h) | none=>eY (vD P s t (f.eval h x) h)):=rfl
 unfold OC
 cases au:lQ P s t (f.eval h x) h with
 | some v=>
  rw [au] at he
  exact q1 (x:=some v) he
 | none=>
  rw [au] at he
  exact BQ he
theorem adE {t:TypeId} {r:Option Operand}:@ed P ⟨d,.makeMap t r,ty,pos,cd,g⟩ K f h=@q0 (FO P t (r.map (f.eval h)) h) d K f:=BQ rfl
theorem adF {t:TypeId} {x y:Operand}:@ed P ⟨d,.makeSlice t x y,ty,pos,cd,g⟩ K f h=@q0 (yY P t (f.eval h x) (f.eval h y) h) d K f:=BQ rfl
theorem adG {t:TypeId} {x:Operand} {lo hi mx:Option Operand}:@ed P ⟨d,.slice t x lo hi mx,ty,pos,cd,g⟩ K f h=@ko (iJ P t (f.eval h x) (lo.map (f.eval h)) (hi.map (f.eval h)) (mx.map (f.eval h))) d K f h:=q1 rfl
theorem adH {t:TypeId} {x:Operand} {k:Nat}:@ed P ⟨d,.fieldAddr t x k,ty,pos,cd,g⟩ K f h=@ko (BG P t (f.eval h x) k) d K f h:=q1 rfl
theorem adI {t:TypeId} {x y:Operand}:@ed P ⟨d,.indexAddr t x y,ty,pos,cd,g⟩ K f h=@ko (hA P t (f.eval h x) (f.eval h y)) d K f h:=q1 rfl
theorem adJ {t:TypeId} {x y:Operand}:@ed P ⟨d,.index t x y,ty,pos,cd,g⟩ K f h=@ko (JK P t (f.eval h x) (f.eval h y)) d K f h:=q1 rfl
theorem adK {t:TypeId} {x y:Operand} {ok:Bool}:@ed P ⟨d,.lookup t x y ok,ty,pos,cd,g⟩ K f h=@ko (mD P t (f.eval h x) (f.eval h y) ok h) d K f h:=q1 rfl
theorem adL {t:TypeId} {m k x:Operand}:@ed P ⟨d,.mapUpdate t m k x,ty,pos,cd,g⟩ K f h=@thenS (uk P t (f.eval h m) (f.eval h k) (f.eval h x) h) d K f:=Tv rfl
theorem adM {t:TypeId} {x:Operand}:@ed P ⟨d,.range t x,ty,pos,cd,g⟩ K f h=@q0 (Ev P t (f.eval h x) h) d K f:=BQ rfl
def JZ (l:Option (List (V×I))) (d:Option Tmp) [K:e1] (f:ah):Prop:=match l with | some l=>∀ v h',(v,h') ∈ l→@jl K (f.put d v) h' | none=>False
theorem adN {it:Operand}:@ed P ⟨d,.next it false,ty,pos,cd,g⟩ K f h=@JZ (y5 (f.eval h it) h) d K f:=by
 unfold ed hd dC JZ;simp only;cases y5 (f.eval h it) h<;>rfl
theorem adO {x:Operand}:@ed P ⟨d,.entry x,ty,pos,cd,g⟩ K f h=@ko (Ew (f.eval h x) h) d K f h:=q1 rfl
theorem adP {x:Operand} {t e:TypeId} {ok:Bool}:@ed P ⟨d,.typeAssert x t e ok,ty,pos,cd,g⟩ K f h=@ko (hX P (f.eval h x) e ok) d K f h:=q1 rfl
def q2 (x:V) (k:Nat):Option V:=match x with | .tuple vs=>vs[k]? | _=>none
theorem adQ {v:V} {vs:List V}:q2 (.tuple (v::vs)) 0=some v:=nr rfl
theorem adR {v:V} {vs:List V} {k:Nat}:q2 (.tuple (v::vs)) (k+1)=q2 (.tuple vs) k:=by simp [q2]
theorem adS {x:Operand} {k:Nat}:@ed P ⟨d,.extract x k,ty,pos,cd,g⟩ K f h=@ko (q2 (f.eval h x) k) d K f h:=by
 unfold ed hd dC q2 ko;simp only
 cases f.eval h x with
 | tuple vs=>simp only;cases vs[k]?<;>rfl
 | _=>rfl
def BR (b:Option Bool) (t:TypeId) (x:V):Option V:=match b with | some false=>some (.iface t x) | _=>none
theorem adT {t:TypeId} {x:V}:BR (some false) t x=some (.iface t x):=nr rfl
theorem adU {t:TypeId} {x:Operand}:@ed P ⟨d,.makeInterface t x,ty,pos,cd,g⟩ K f h=@ko (BR (Ae P t) t (f.eval h x)) d K f h:=by
 unfold ed hd dC BR ko;simp only
 cases Ae P t with
 | none=>rfl
 | some b=>cases b<;>rfl
theorem adV {fn:Fn} {xs ys:Array Operand}:@ed P ⟨d,.makeFunc fn xs ys,ty,pos,cd,g⟩ K f h=@jl K (f.put d (.func fn (xs.toList.map (f.eval h)) (ys.toList.map (f.eval h)))) h:=nr rfl
def BS (x:V) [K:e1] (f:ah) (h:I):Prop:=match x with | .iface _ _=>K.exc f h | _=>False
theorem adW {t:TypeId} {v:V}:@BS (.iface t v) K f h=K.exc f h:=nr rfl
theorem adX {x:Operand}:@ed P ⟨d,.panic x,ty,pos,cd,g⟩ K f h=@BS (f.eval h x) K f h:=by
 unfold ed hd dC BS;simp only;cases f.eval h x<;>rfl
theorem adY {t:TypeId} {x:Operand}:@ed P ⟨d,.call ⟨.builtin .len,#[x],#[t]⟩,ty,pos,cd,g⟩ K f h=@ko (dU P t (f.eval h x) h) d K f h:=by
 unfold ed hd dC jC oi ko;simp only [List.map_cons,List.map_nil];cases dU P t (f.eval h x) h<;>rfl
theorem adZ {t tx:TypeId} {x y:Operand}:@ed P ⟨d,.call ⟨.builtin .append,#[x,y],#[t,tx]⟩,ty,pos,cd,g⟩ K f h=@q0 (ma P t tx (f.eval h x) (f.eval h y) h) d K f:=by
 unfold ed hd dC jC oi q0;simp only [List.map_cons,List.map_nil];cases ma P t tx (f.eval h x) (f.eval h y) h<;>rfl
theorem ad0 {t tx:TypeId} {x y:Operand}:@ed P ⟨d,.call ⟨.builtin .copy,#[x,y],#[t,tx]⟩,ty,pos,cd,g⟩ K f h=@q0 (xD P t (f.eval h x) (f.eval h y) h) d K f:=by
 unfold ed hd dC jC oi q0;simp only [List.map_cons,List.map_nil];cases xD P t (f.eval h x) (f.eval h y) h<;>rfl
theorem ad1 {t:TypeId} {x:Operand}:@ed P ⟨d,.call ⟨.builtin .cap,#[x],#[t]⟩,ty,pos,cd,g⟩ K f h=@ko (sB P t (f.eval h x)) d K f h:=by
 unfold ed hd dC jC oi ko;simp only [List.map_cons,List.map_nil];cases sB P t (f.eval h x)<;>rfl
theorem ad2 {t tx:TypeId} {x y:Operand}:@ed P ⟨d,.call ⟨.builtin .delete,#[x,y],#[t,tx]⟩,ty,pos,cd,g⟩ K f h=@q0 ((ip P t (f.eval h x) (f.eval h y) h).map fun h'=>(.tuple [],h')) d K f:=by
 unfold ed hd dC jC oi q0;simp only [List.map_cons,List.map_nil];cases ip P t (f.eval h x) (f.eval h y) h<;>rfl
theorem ad3 {t:TypeId} {x:Operand}:@ed P ⟨d,.call ⟨.builtin .clear,#[x],#[t]⟩,ty,pos,cd,g⟩ K f h=@q0 ((xG P t (f.eval h x) h).map fun h'=>(.tuple [],h')) d K f:=by
 unfold ed hd dC jC oi q0;simp only [List.map_cons,List.map_nil];cases xG P t (f.eval h x) h<;>rfl
def po (P:Program) (bi:Builtin) (ts:Array TypeId) (ty:TypeId) (cs:Array Bool) (x y:V):Option V :=
 match be [x,y] with
 | some as=>match cQ P (builtin bi ts ty cs as.toArray) with
  | some (.value v)=>some (fX v)
  | _=>none
 | none=>none
theorem ad4 {t t2:TypeId} {x y:Operand}:@ed P ⟨d,.call ⟨.builtin .min,#[x,y],#[t,t2]⟩,ty,pos,cd,g⟩ K f h=@ko (po P .min #[t,t2] ty (td #[x,y]) (f.eval h x) (f.eval h y)) d K f h :=
 q1 (by
  unfold dC jC oi po fY
  simp only [List.map_cons,List.map_nil]
  cases be [f.eval h x,f.eval h y] with
  | none=>rfl
  | some as=>
   simp only
   generalize cQ P _=r
   cases r with
   | none=>rfl
   | some n=>cases n<;>rfl)
theorem ad5 {t t2:TypeId} {x y:Operand}:@ed P ⟨d,.call ⟨.builtin .max,#[x,y],#[t,t2]⟩,ty,pos,cd,g⟩ K f h=@ko (po P .max #[t,t2] ty (td #[x,y]) (f.eval h x) (f.eval h y)) d K f h :=
 q1 (by
  unfold dC jC oi po fY
  simp only [List.map_cons,List.map_nil]
  cases be [f.eval h x,f.eval h y] with
  | none=>rfl
  | some as=>
   simp only
   generalize cQ P _=r
   cases r with
   | none=>rfl
   | some n=>cases n<;>rfl)
theorem ad6 {ts:Array TypeId} {cs:Array Bool} {k:IntKind} {a b:Int}:po P .min ts ty cs (.int k a) (.int k b)=some (.int k (min a b)):=by
 have e:(if b<a then b else a)=min a b:=by rw [Int.min_def];split<;>split<;>omega
 rw [←e]
 rfl
theorem ad7 {ts:Array TypeId} {cs:Array Bool} {k:IntKind} {a b:Int}:po P .max ts ty cs (.int k a) (.int k b)=some (.int k (max a b)):=by
 have e:(if a<b then b else a)=max a b:=by rw [Int.max_def];split<;>split<;>omega
 rw [←e]
 rfl
def F5 (P:Program) (bt:FuncId) (args:List V) (h:I) (d:Option Tmp) [K:e1] (f:ah):Prop:=bT P bt=false∧∃ v h',va P bt args h=some (v,h')∧K.go (f.put d v) h'
def lm (P:Program) (bt:FuncId) (args:List V) (h:I) (d:Option Tmp) [K:e1] (f:ah):Prop:=(bT P bt=true∧ca P bt args h (fun r h'=>K.go (f.put d r) h') (fun h'=>K.exc f h'))∨@F5 P bt args h d K f
open Classical in
theorem ad8 {bt:FuncId} {args:Array Operand} {ts:Array TypeId}:@ed P ⟨d,.call ⟨.value (.func bt),args,ts⟩,ty,pos,cd,g⟩ K f h=@lm P bt (args.toList.map (f.eval h)) h d K f:=by
 unfold ed hd dC jC lm F5
 simp only [ah.eval]
 by_cases au:bT P bt=true
 ·simp [au]
 ·cases aO:va P bt (args.toList.map (f.eval h)) h with
  | none=>simp [au,aO]
  | some p=>obtain ⟨v,h'⟩:=p;simp [au,aO];exact ⟨fun ab=>⟨v,h',⟨rfl,rfl⟩,ab⟩,fun ⟨_,_,⟨aw,aW⟩,ab⟩=>by subst aw;subst aW;exact ab⟩
def J0 (P:Program) (OD:V) (args:List V) (h:I) (d:Option Tmp) [K:e1] (f:ah):Prop:=match OD with | .func (.func bt) xs ys=>@lm P bt (xs++args++ys) h d K f | .func (.yield l) [] []=>kl P l args h (fun r h'=>K.go (f.put d r) h') | _=>False
theorem ad9 {t:Tmp} {args:Array Operand} {ts:Array TypeId}:@ed P ⟨d,.call ⟨.value (.tmp t),args,ts⟩,ty,pos,cd,g⟩ K f h=@J0 P (f t) (args.toList.map (f.eval h)) h d K f:=by
 unfold ed hd dC jC J0 lm F5
 simp only [ah.eval]
 generalize f t=v
 cases v<;>try rfl
 rename_i fn xs ys
 cases fn<;>try rfl
 case yield l=>cases xs<;>cases ys<;>rfl
 rename_i bt
 simp only
 by_cases au:bT P bt=true
 ·simp [au]
 ·cases aO:va P bt (xs++args.toList.map (f.eval h)++ys) h with
  | none=>simp at aO;simp [au,aO]
  | some p=>obtain ⟨v,h'⟩:=p;simp at aO;simp [au,aO];exact ⟨fun ab=>⟨v,h',⟨rfl,rfl⟩,ab⟩,fun ⟨_,_,⟨aw,aW⟩,ab⟩=>by subst aw;subst aW;exact ab⟩
def BT (P:Program) (x:V) (name:String) (args:List V) (h:I) (d:Option Tmp) [K:e1] (f:ah):Prop:=match x with | .iface t v=>∃ g,gQ P t name g∧@lm P g (v::args) h d K f | _=>False
theorem aea {r:Operand} {name:String} {args:Array Operand} {ts:Array TypeId}:@ed P ⟨d,.call ⟨.invoke r name,args,ts⟩,ty,pos,cd,g⟩ K f h=@BT P (f.eval h r) name (args.toList.map (f.eval h)) h d K f:=by
 unfold ed hd dC jC BT
 simp only
 generalize f.eval h r=v
 cases v<;>try rfl
 rename_i t x
 by_cases ab:∃ g,gQ P t name g
 ·obtain ⟨g,hm⟩:=ab
  rw [acr hm]
  refine propext ⟨fun U=>⟨g,hm,.inl ⟨hm.2,U⟩⟩,?_⟩
  rintro ⟨aeb,hq,au⟩
  have e:=hm.uniq hq
  subst e
  rcases au with ⟨_,au⟩ | ⟨au,_⟩
  ·exact au
  ·rw [hm.2] at au;cases au
 ·have:sC P (.iface t x) name (args.toList.map (f.eval h))=none:=by
   unfold sC
   simp only [dif_neg ab]
  rw [this]
  exact propext ⟨False.elim,fun ⟨g,hm,_⟩=>ab ⟨g,hm⟩⟩
theorem aec {t:TypeId} {x:V} {name:String} {args:List V} {bt:FuncId} (hm:gQ P t name bt):@BT P (.iface t x) name args h d K f=@lm P bt (x::args) h d K f:=by
 refine propext ⟨?_,fun au=>⟨bt,hm,au⟩⟩
 rintro ⟨g,av,au⟩
 have e:=hm.uniq av
 subst e
 exact au
theorem aed {bt:FuncId} {xs ys args:List V}:@J0 P (.func (.func bt) xs ys) args h d K f=@lm P bt (xs++args++ys) h d K f:=nr rfl
theorem aee {l:Nat} {args:List V} {R:V→I→Prop} (U:kl P l args h R) (hk:∀ r h',R r h'→@jl K (f.put d r) h'):@J0 P (.func (.yield l) [] []) args h d K f:=U.mono hk
theorem cy {bt:FuncId} {args:List V} {R:V→I→Prop} (au:bT P bt=true) (U:ae P bt args h R) (hk:∀ r h',R r h'→@jl K (f.put d r) h'):@lm P bt args h d K f :=
 .inl ⟨au,U.e.mono hk fun _ h=>h⟩
theorem xI {bt:FuncId} {args:List V} {R:V→I→Prop} {E:I→Prop} (au:bT P bt=true) (U:ca P bt args h R E) (hk:∀ r h',R r h'→@jl K (f.put d r) h') (he:∀ h',E h'→e1.exc K f h'):@lm P bt args h d K f :=
 .inl ⟨au,U.mono hk he⟩
theorem bU {bt:FuncId} {args:List V} {v:V} (au:bT P bt=true) (U:Pure P bt args h v) (hk:@jl K (f.put d v) h):@lm P bt args h d K f :=
 cy au U fun r h' ⟨aw,aW⟩=>by subst aw;subst aW;exact hk
theorem Tw {bt:FuncId} {args:List V} {v:V} (au:bT P bt=false) (aR:um P bt) (aO:tc h args=some v) (hk:@jl K (f.put d v) h):@lm P bt args h d K f:=.inr ⟨au,v,h,acp aR aO,hk⟩
theorem aef {t:Tmp} {v:V} {k:Nat}:ah.put f (some t) v k=if k=t then v else f k:=nr rfl
theorem aeg {v:V} {k:Nat}:ah.put f none v k=f k:=nr rfl
theorem aeh {t:Tmp}:ah.eval f h (.tmp t)=f t:=nr rfl
theorem eval_const {v:Value}:ah.eval f h (.const v)=fj v:=nr rfl
theorem eval_func {k:FuncId}:ah.eval f h (.func k)=.func (.func k) [] []:=nr rfl
theorem J1 {k:Nat} {cs:List V} (av:h.glob k=some cs):ah.eval f h (.global k)=.at cs:=by simp [ah.eval,av]
theorem aei {a:V} {l:List V}:iP (a::l) 0=a:=nr rfl
theorem aej {a:V} {l:List V} {n:Nat}:iP (a::l) (n+1)=iP l n:=nr rfl
end
theorem aek {k:IntKind} {n:Int}:fj (.int k n)=.int k n:=nr rfl
theorem ael {b:Bool}:fj (.bool b)=.bool b:=nr rfl
theorem aem {s:ByteArray}:fj (.string s)=.string s:=nr rfl
theorem aen:fj (.pointer none)=.c9:=nr rfl
theorem aeo:fj (.slice none 0 0)=.an:=nr rfl
theorem aep:fj (.map none)=.kF:=nr rfl
theorem wd:fj .nilFunc=.nilFunc:=nr rfl
theorem aeq:fj .nilIface=.nilIface:=nr rfl
section
variable {P:Program} {fn:Func} {R:V→I→Prop} {E:I→Prop} {f:ah} {h:I}
theorem aU:uo P fn R E .ret f h=(match pS P fn.results.toList f h with | some r=>R r h | none=>False):=nr rfl
theorem om:uo P fn R E .normal f h=(match pS P fn.results.toList f h with | some r=>R r h | none=>False):=nr rfl
theorem xJ:uo P fn R E .panic f h=E h:=nr rfl
theorem ac {t:Tmp}:pS P [.tmp t] f h=some (f t):=nr rfl
theorem ll:pS P [] f h=some (.tuple []):=nr rfl
theorem dn {t u:Tmp}:pS P [.tmp t,.tmp u] f h=some (.tuple [f t,f u]):=nr rfl
theorem sE {t u v:Tmp}:pS P [.tmp t,.tmp u,.tmp v] f h=some (.tuple [f t,f u,f v]):=nr rfl
end
theorem xK {P:Program} {t:TypeId} {d:TypeDesc} (h:P.underlying t=some d):cQ P (underlying t)=some d:=by
 unfold underlying program
 rw [gC]
 simp only [cQ,Option.bind_some,h]
 rfl
section
variable {P:Program} {t:TypeId} {xo yo:Operand} {k J2:IntKind} {a b:Int}
theorem J3 {op:BinOp} {x y:V} {a b v:Value} (ag:mz x=some a) (bd:mz y=some b) (av:eqGuard op t xo yo a b=pure ()) (h:cQ P (binOp op t a b)=some v):c0 P op t xo yo x y=some (fX v):=by
 unfold c0
 simp only [ag,bd]
 have e:(do eqGuard op t xo yo a b;binOp op t a b)=binOp op t a b:=by rw [av];rfl
 rw [e,h]
 rfl
theorem q3 {op:BinOp} {v:Value} (h:cQ P (binOp op t (.int k a) (.int J2 b))=some v):c0 P op t xo yo (.int k a) (.int J2 b)=some (fX v):=J3 rfl rfl (by cases op<;>rfl) h
theorem aer:c0 P .add t xo yo (.int k a) (.int k b)=some (.int k (k.wrap (a+b))):=q3 (v:=.int k (k.wrap (a+b))) (by simp [binOp,Op.intArith];rfl)
theorem aes:c0 P .sub t xo yo (.int k a) (.int k b)=some (.int k (k.wrap (a - b))):=q3 (v:=.int k (k.wrap (a - b))) (by simp [binOp,Op.intArith];rfl)
theorem aet:c0 P .mul t xo yo (.int k a) (.int k b)=some (.int k (k.wrap (a * b))):=q3 (v:=.int k (k.wrap (a * b))) (by simp [binOp,Op.intArith];rfl)
theorem aeu:c0 P .eql t xo yo (.int k a) (.int k b)=some (.bool (a==b)):=q3 (v:=.bool (a==b)) (by simp [binOp,Op.intCmp];rfl)
theorem aev:c0 P .neq t xo yo (.int k a) (.int k b)=some (.bool (a !=b)):=q3 (v:=.bool (a !=b)) (by simp [binOp,Op.intCmp];rfl)
theorem aew:c0 P .lss t xo yo (.int k a) (.int k b)=some (.bool (decide (a<b))):=q3 (v:=.bool (decide (a<b))) (by simp [binOp,Op.intCmp];rfl)
theorem aex:c0 P .leq t xo yo (.int k a) (.int k b)=some (.bool (decide (a≤b))):=q3 (v:=.bool (decide (a≤b))) (by simp [binOp,Op.intCmp];rfl)
theorem aey:c0 P .gtr t xo yo (.int k a) (.int k b)=some (.bool (decide (b<a))):=q3 (v:=.bool (decide (b<a))) (by simp [binOp,Op.intCmp];rfl)
theorem aez:c0 P .geq t xo yo (.int k a) (.int k b)=some (.bool (decide (b≤a))):=q3 (v:=.bool (decide (b≤a))) (by simp [binOp,Op.intCmp];rfl)
theorem Ak (ak:0≤b):c0 P .shl t xo yo (.int k a) (.int J2 b)=some (.int k (k.wrap (a * 2 ^ (min b.toNat k.bits)))) :=
 q3 (v:=.int k (k.wrap (a * 2 ^ (min b.toNat k.bits)))) (by simp only [binOp,Op.shift,if_neg (show ¬b<0 by omega)];rfl)
theorem F6 (ak:0≤b):c0 P .shr t xo yo (.int k a) (.int J2 b)=some (.int k (a.fdiv (2 ^ (min b.toNat k.bits)))) :=
 q3 (v:=.int k (a.fdiv (2 ^ (min b.toNat k.bits)))) (by simp only [binOp,Op.shift,if_neg (show ¬b<0 by omega)];rfl)
theorem aeA (ak:b≠0):c0 P .quo t xo yo (.int k a) (.int k b)=some (.int k (k.wrap (a.tdiv b))) :=
 q3 (v:=.int k (k.wrap (a.tdiv b))) (by simp only [binOp,Op.intDiv,ne_eq,not_true,if_false,if_neg ak];rfl)
theorem Tx (ak:b≠0):c0 P .rem t xo yo (.int k a) (.int k b)=some (.int k (a.tmod b)) :=
 q3 (v:=.int k (a.tmod b)) (by simp only [binOp,Op.intDiv,ne_eq,not_true,if_false,if_neg ak];rfl)
def zb (k:IntKind) (a b:Int):Int:=k.wrap ((BitVec.ofInt k.bits a &&& BitVec.ofInt k.bits b).toNat:Int)
def wo (k:IntKind) (a b:Int):Int:=k.wrap ((BitVec.ofInt k.bits a ||| BitVec.ofInt k.bits b).toNat:Int)
def q4 (k:IntKind) (a b:Int):Int:=k.wrap ((BitVec.ofInt k.bits a ^^^ BitVec.ofInt k.bits b).toNat:Int)
def J4 (k:IntKind) (a b:Int):Int:=k.wrap ((BitVec.ofInt k.bits a &&& ~~~(BitVec.ofInt k.bits b)).toNat:Int)
theorem aeB:c0 P .and t xo yo (.int k a) (.int k b)=some (.int k (zb k a b)):=q3 (v:=.int k (zb k a b)) (by simp only [binOp,ne_eq,not_true,if_false];rfl)
theorem aeC:c0 P .or t xo yo (.int k a) (.int k b)=some (.int k (wo k a b)):=q3 (v:=.int k (wo k a b)) (by simp only [binOp,ne_eq,not_true,if_false];rfl)
theorem aeD:c0 P .xor t xo yo (.int k a) (.int k b)=some (.int k (q4 k a b)):=q3 (v:=.int k (q4 k a b)) (by simp only [binOp,ne_eq,not_true,if_false];rfl)
theorem aeE:c0 P .andNot t xo yo (.int k a) (.int k b)=some (.int k (J4 k a b)):=q3 (v:=.int k (J4 k a b)) (by simp only [binOp,ne_eq,not_true,if_false];rfl)
theorem aeF {b:Bool}:we P .not (.bool b)=some (.bool (!b)):=nr rfl
theorem aeG:we P .neg (.int k a)=some (.int k (k.wrap (0 - a))):=nr rfl
def kK (P:Program) (t:TypeId):Option IntKind:=match P.underlying t with | some (.int k)=>some k | _=>none
theorem lR {src dst:TypeId} {h:I} {bB k2:IntKind} (U:kK P src=some bB) (a7:kK P dst=some k2):lQ P src dst (.int k a) h=some (.int k2 (k2.wrap a)):=by
 have h1:P.underlying src=some (.int bB):=by
  unfold kK at U;split at U
  ·rename_i hu;simp at U;subst U;exact hu
  ·cases U
 have aa:P.underlying dst=some (.int k2):=by
  unfold kK at a7;split at a7
  ·rename_i hu;simp at a7;subst a7;exact hu
  ·cases a7
 unfold lQ
 have e:(lN (.int k a)).bind (fun x=>cQ P (convert src dst x))=some (.int k2 (k2.wrap a)):=by
  show cQ P (convert src dst (.int k a))=_
  unfold convert
  rw [gC,xK h1,Option.bind_some,gC,xK aa]
  rfl
 rw [e]
 rfl
def J5 (P:Program) (t:TypeId):Bool:=match P.underlying t with | some .bool=>true | _=>false
theorem aeH {t:TypeId} (h:J5 P t=true):P.underlying t=some .bool:=by
 unfold J5 at h;split at h
 ·assumption
 ·cases h
theorem aeI {t:TypeId} (hu:J5 P t=true) (x y:Bool):cQ P (Op.equal t (.bool x) (.bool y))=some (x==y):=by
 unfold Op.equal Op.maxDepth Op.equalIn
 rw [gC,xK (aeH hu)]
 rfl
theorem aeJ {x y:Bool} (hu:J5 P t=true):c0 P .neq t xo yo (.bool x) (.bool y)=some (.bool (x !=y)):=by
 refine J3 (v:=.bool (x !=y)) rfl rfl rfl ?_
 show cQ P (do pure (Value.bool (!(←Op.equal t (.bool x) (.bool y)))))=_
 rw [gC,aeI hu]
 rfl
end
def eH (P:Program) (t:TypeId):Option Nat:=(P.underlying t).bind xE
section
variable {P:Program} {t:TypeId} {xo yo:Operand} {x y:V} {k:Nat}
theorem Al (h:eH P t=some k):∃ d,P.underlying t=some d∧xE d=some k:=by
 unfold eH at h
 cases hu:P.underlying t with
 | none=>simp [hu] at h
 | some d=>simp [hu] at h;exact ⟨d,rfl,h⟩
theorem ww (h:eH P t=some k) (aZ:mz x=none∨mz y=none) (aG:(zY x=some k∧zZ y=some k)∨(zZ x=some k∧zY y=some k)):c0 P .eql t xo yo x y=some (.bool false):=by
 obtain ⟨d,hu,a7⟩:=Al h
 have aO:z1 d x y=true:=by
  unfold z1
  rw [a7]
  rcases aG with ⟨h1,aa⟩ | ⟨h1,aa⟩<;>simp [h1,aa]
 unfold c0
 split
 ·rename_i h1 aa;rw [h1,aa] at aZ;simp at aZ
 ·rw [hu];simp only [aO,if_true]
theorem aeK (h:eH P t=some k) (aZ:mz x=none∨mz y=none) (aG:(zY x=some k∧zZ y=some k)∨(zZ x=some k∧zY y=some k)):c0 P .neq t xo yo x y=some (.bool true):=by
 obtain ⟨d,hu,a7⟩:=Al h
 have aO:z1 d x y=true:=by
  unfold z1
  rw [a7]
  rcases aG with ⟨h1,aa⟩ | ⟨h1,aa⟩<;>simp [h1,aa]
 unfold c0
 split
 ·rename_i h1 aa;rw [h1,aa] at aZ;simp at aZ
 ·rw [hu];simp only [aO,if_true]
theorem aeL {i o:Nat} (h:eH P t=some 0):c0 P .eql t xo yo (.ptr i o) .c9=some (.bool false):=ww h (.inl rfl) (.inr ⟨rfl,rfl⟩)
theorem aeM {i o:Nat} (h:eH P t=some 0):c0 P .neq t xo yo (.ptr i o) .c9=some (.bool true):=aeK h (.inl rfl) (.inr ⟨rfl,rfl⟩)
theorem Ty (h:eH P t=some 0):cQ P (Op.equal t (.pointer none) (.pointer none))=some true:=by
 obtain ⟨d,hu,a7⟩:=Al h
 unfold Op.equal Op.maxDepth Op.equalIn
 rw [gC,xK hu]
 cases d<;>simp [xE] at a7
 rfl
theorem aeN (h:eH P t=some 0):c0 P .eql t xo yo .c9 .c9=some (.bool true):=by
 refine J3 (v:=.bool true) rfl rfl rfl ?_
 show cQ P (do pure (Value.bool (←Op.equal t (.pointer none) (.pointer none))))=_
 rw [gC,Ty h]
 rfl
theorem aeO (h:eH P t=some 0):c0 P .neq t xo yo .c9 .c9=some (.bool false):=by
 refine J3 (v:=.bool false) rfl rfl rfl ?_
 show cQ P (do pure (Value.bool (!(←Op.equal t (.pointer none) (.pointer none)))))=_
 rw [gC,Ty h]
 rfl
end
theorem aeP {k:IntKind} {n:Int}:(V.int k n).cells=some [.int k n]:=nr rfl
theorem aeQ {b:Bool}:(V.bool b).cells=some [.bool b]:=nr rfl
theorem aeR:V.c9.cells=some [.c9]:=nr rfl
theorem aeS {i o:Nat}:(V.ptr i o).cells=some [.ptr i o]:=nr rfl
theorem aeT {i o n m:Nat}:(V.bc i o n m).cells=some [.bc i o n m]:=nr rfl
theorem aeU {n:Nat} {cs:List V}:(V.ai n cs).cells=some [.ai n cs]:=nr rfl
theorem aeV {i:Nat}:(V.map i).cells=some [.map i]:=nr rfl
theorem aeW {fn:Fn} {xs ys:List V}:(V.func fn xs ys).cells=some [.func fn xs ys]:=nr rfl
theorem aeX {t:TypeId} {v:V}:(V.iface t v).cells=some [.iface t v]:=nr rfl
theorem aeY {cs:List V}:(V.agg cs).cells=some cs:=nr rfl
theorem J6 {k:IntKind} {n:Int}:(V.int k n).one=true:=nr rfl
theorem aeZ {b:Bool}:(V.bool b).one=true:=nr rfl
theorem ae0:V.an.one=true:=nr rfl
theorem ae1 {i o n m:Nat}:(V.bc i o n m).one=true:=nr rfl
theorem ae2 {n:Nat} {cs:List V}:(V.ai n cs).one=true:=nr rfl
theorem ae3 {fn:Fn} {xs ys:List V}:(V.func fn xs ys).one=true:=nr rfl
theorem all_nil:([]:List V).all (·.one)=true:=nr rfl
theorem all_cons {v:V} {l:List V}:(v::l).all (·.one)=(v.one&&l.all (·.one)):=nr rfl
section
variable {P:Program} {t tx e:TypeId} {x y v:V} {h:I} {k:Nat}
def eT (P:Program) (s:TypeId) (k:Nat):Option Nat :=
 match P.underlying s with
 | some (.struct cr)=>match cr[k]? with
  | some f=>match cI P f.type with
   | some (_+1)=>some f.offset
   | _=>none
  | none=>none
 | _=>none
def J7 (off:Option Nat) (x:V):Option V :=
 match off,x with
 | some off,.ptr i o=>some (.ptr i (o+off))
 | some off,.at cs=>if off≤cs.length then some (.at (cs.drop off)) else none
 | _,_=>none
theorem ae4:BG P t x k=J7 (eT P t k) x:=by
 unfold BG eT
 cases P.underlying t with
 | none=>rfl
 | some d=>
  cases d<;>try rfl
  rename_i cr
  simp only
  cases cr[k]? with
  | none=>rfl
  | some f=>
   simp only
   cases cI P f.type with
   | none=>rfl
   | some n=>cases n<;>simp only [J7]<;>cases x<;>rfl
theorem ae5 {i o off:Nat}:J7 (some off) (.ptr i o)=some (.ptr i (o+off)):=nr rfl
theorem ae6 {cs:List V} {off:Nat}:J7 (some off) (.at cs)=if off≤cs.length then some (.at (cs.drop off)) else none:=nr rfl
def loadT (P:Program) (t:TypeId):Option (Option Nat) :=
 match pO P t,cI P t with
 | some true,some n=>some (some n)
 | some false,some _=>some none
 | _,_=>none
def dv (ty:Option (Option Nat)) (p:Option (List V)):Option V :=
 match ty,p with
 | some (some n),some cs=>if n≤cs.length then some (.agg (cs.take n)) else none
 | some none,some (v::_)=>some v
 | _,_=>none
theorem Tz:ls P t x h=dv (loadT P t) (qy h x):=by
 unfold ls loadT
 cases qy h x with
 | none=>cases pO P t with
  | none=>rfl
  | some b=>cases b<;>cases cI P t<;>rfl
 | some cs=>cases pO P t with
  | none=>cases cs<;>rfl
  | some b=>cases b<;>cases cI P t<;>cases cs<;>rfl
theorem ae7 {v:V} {r:List V}:dv (some none) (some (v::r))=some v:=nr rfl
theorem TA {n:Nat} {cs:List V}:dv (some (some n)) (some cs)=if n≤cs.length then some (.agg (cs.take n)) else none:=nr rfl
def dB (o:bb) (n:Nat):Option (List V):=match o with | .cells c _ _=>if n≤c.length then some (c.drop n) else none | _=>none
theorem ae8 {i o:Nat}:qy h (.ptr i o)=dB (h.get i) o:=by
 simp only [qy,dB]
 cases h.get i<;>rfl
theorem ae9 {cs:List V}:qy h (.at cs)=some cs:=nr rfl
theorem F7 {c:List V} {e:TypeId} {ex:Option Nat} {n:Nat}:dB (.cells c e ex) n=if n≤c.length then some (c.drop n) else none:=nr rfl
def bR (n:Option Nat) (ob:bb) (o:Nat) (vs:List V):Option bb :=
 match n,ob with
 | some n,.cells c e ex=>if vs.length=n∧vs.all (·.one)=true∧o+n≤c.length then some (.cells (lay c o vs) e ex) else none
 | _,_=>none
def OE (n:Option Nat) (x:V) (vs:Option (List V)) (h:I):Option I :=
 match x,vs with
 | .ptr i o,some vs=>(bR n (h.get i) o vs).map fun ob=>h.set i ob
 | _,_=>none
theorem afa:Eo P t x v h=OE (cI P t) x v.cells h:=by
 unfold Eo OE
 cases x<;>try rfl
 rename_i i o
 cases v.cells with
 | none=>rfl
 | some vs=>
  simp only [bR]
  cases h.get i<;>cases cI P t<;>simp
  rename_i c e ex n
  by_cases ab:vs.length=n
  ·subst ab;split<;>rfl
  ·simp [ab]
theorem afb {i o:Nat} {n:Option Nat} {vs:List V}:OE n (.ptr i o) (some vs) h=(bR n (h.get i) o vs).map fun ob=>h.set i ob:=nr rfl
theorem afc (c:List V) (o:Nat) (v:V) (aR:o<c.length):lay c o [v]=c.set o v:=by
 unfold lay
 rw [List.set_eq_take_append_cons_drop,if_pos aR]
 simp
theorem afd (v:V) (vs c:List V) (o:Nat) (az:o+(vs.length+1)≤c.length):lay c o (v::vs)=lay (c.set o v) (o+1) vs:=by
 have aR:o<c.length:=by omega
 have au:c.set o v=c.take o++v::c.drop (o+1):=by rw [List.set_eq_take_append_cons_drop,if_pos aR]
 have hlen:(c.take o).length=o:=by simp;omega
 unfold lay
 rw [au]
 have aw:(c.take o++v::c.drop (o+1)).take (o+1)=c.take o++[v]:=by
  rw [List.take_append,hlen,List.take_of_length_le (by omega),show o+1 - o=1 by omega]
  rfl
 have aW:(c.take o++v::c.drop (o+1)).drop (o+1+vs.length)=c.drop (o+(vs.length+1)):=by
  rw [List.drop_append,hlen,List.drop_eq_nil_of_le (by omega),show o+1+vs.length - o=vs.length+1 by omega]
  rw [List.drop_succ_cons,List.drop_drop,List.nil_append]
  congr 1
  omega
 rw [aw,aW]
 simp
theorem m4:∀ (vs c:List V) (o:Nat),o+vs.length≤c.length→lay c o vs=qU c o vs
 | [],c,o,_=>by simp [lay,qU]
 | v::vs,c,o,az=>by
  have fO:o+(vs.length+1)≤c.length:=by simpa using az
  unfold qU
  rw [afd v vs c o fO,m4 vs (c.set o v) (o+1) (by simp;omega)]
theorem tf {c:List V} {e:TypeId} {ex:Option Nat} {o:Nat} (aD:v.one=true):bR (some 1) (.cells c e ex) o [v]=if o<c.length then some (.cells (c.set o v) e ex) else none:=by
 simp only [bR,List.length_cons,List.length_nil,all_cons,all_nil,aD,Bool.and_self,true_and]
 by_cases aR:o<c.length
 ·have:(0+1=1∧o+1≤c.length):=⟨rfl,aR⟩
  rw [if_pos aR]
  simp [this.2,afc _ _ _ aR]
 ·rw [if_neg aR]
  simp
  omega
theorem sF {c vs:List V} {e:TypeId} {ex:Option Nat} {o n:Nat} (aG:vs.length=n) (aD:vs.all (·.one)=true):bR (some n) (.cells c e ex) o vs=if o+n≤c.length then some (.cells (qU c o vs) e ex) else none:=by
 simp only [bR,aG,aD,true_and]
 by_cases aR:o+n≤c.length
 ·rw [if_pos aR,if_pos aR,m4 _ _ _ (by omega)]
 ·rw [if_neg aR,if_neg aR]
theorem afe {c:List V} {o:Nat}:qU c o []=c:=nr rfl
theorem aff {c r:List V} {o:Nat}:qU c o (v::r)=qU (c.set o v) (o+1) r:=nr rfl
theorem afg:Er P e h=(hF P e).map fun zs=>(.ptr h.n 0,h.push (.cells zs e none)):=by
 unfold Er;cases hF P e<;>rfl
theorem afh:ug e x h=x.cells.map fun cs=>(.ptr h.n 0,h.push (.cells cs e none)):=by
 unfold ug;cases x.cells<;>rfl
def ek (P:Program) (t:TypeId):Option Nat:=match P.underlying t with | some (.slice e)=>cI P e | _=>none
def uq (P:Program) (t:TypeId):Option (Nat×Nat):=match P.underlying t with | some (.array n e)=>(cI P e).map fun s=>(n,s) | _=>none
def q5 (bc:Option Nat) (F8:Option (Nat×Nat)) (x:V) (n:Int):Option V :=
 match bc,F8,x with
 | some sz,_,.bc i o len _=>if 0≤n∧n<len then some (.ptr i (o+n.toNat * sz)) else none
 | some sz,_,.ai len cs=>if 0≤n∧n<len∧n.toNat * sz≤cs.length then some (.at (cs.drop (n.toNat * sz))) else none
 | _,some (len,sz),.ptr i o=>if 0≤n∧n<len then some (.ptr i (o+n.toNat * sz)) else none
 | _,some (len,sz),.at cs=>if 0≤n∧n<len∧n.toNat * sz≤cs.length then some (.at (cs.drop (n.toNat * sz))) else none
 | _,_,_=>none
theorem F9 {kk:IntKind} {n:Int}:hA P t x (.int kk n)=q5 (ek P t) (uq P t) x n:=by
 unfold hA ek uq
 cases P.underlying t with
 | none=>rfl
 | some d=>
  cases d<;>try rfl
  ·rename_i e
   simp only
   cases U:cI P e with
   | none=>cases x<;>simp [q5,U]
   | some sz=>cases x<;>simp [q5,U]
  ·rename_i len e
   simp only
   cases U:cI P e with
   | none=>cases x<;>simp [q5,U]
   | some sz=>cases x<;>simp [q5,U]
theorem J8 {i o len cap sz:Nat} {F8:Option (Nat×Nat)} {n:Int}:q5 (some sz) F8 (.bc i o len cap) n=if 0≤n∧n<len then some (.ptr i (o+n.toNat * sz)) else none:=nr rfl
theorem TB {len sz:Nat} {cs:List V} {F8:Option (Nat×Nat)} {n:Int}:q5 (some sz) F8 (.ai len cs) n=if 0≤n∧n<len∧n.toNat * sz≤cs.length then some (.at (cs.drop (n.toNat * sz))) else none:=nr rfl
theorem afi {len sz:Nat} {cs:List V} {n:Int}:q5 none (some (len,sz)) (.at cs) n=if 0≤n∧n<len∧n.toNat * sz≤cs.length then some (.at (cs.drop (n.toNat * sz))) else none:=nr rfl
def TC (kind:Option Nat) (x:V) (h:I):Option V :=
 match kind,x with
 | some 1,.bc _ _ n _=>some (.int .i64 n)
 | some 1,.ai n _=>some (.int .i64 n)
 | some 1,.an=>some (.int .i64 0)
 | some 1,.z0=>some (.int .i64 0)
 | some 2,.kF=>some (.int .i64 0)
 | some 2,.map i=>match h.get i with
  | .map es _=>some (.int .i64 es.length)
  | _=>none
 | _,_=>none
theorem Ga {kind:Nat} (hk:eH P t=some kind) (ym:kind=1∨kind=2):dU P t x h=TC (some kind) x h:=by
 obtain ⟨d,hu,a7⟩:=Al hk
 unfold dU
 rw [hu]
 cases d<;>simp [xE] at a7<;>subst a7<;>simp at ym
 all_goals cases x<;>try rfl
theorem BU (hk:eH P t=some 1) {i o n c:Nat}:dU P t (.bc i o n c) h=some (.int .i64 n):=Ga hk (.inl rfl)
theorem TD (hk:eH P t=some 1) {n:Nat} {cs:List V}:dU P t (.ai n cs) h=some (.int .i64 n):=Ga hk (.inl rfl)
theorem Am (hk:eH P t=some 1):dU P t .an h=some (.int .i64 0):=Ga hk (.inl rfl)
theorem BV (hk:eH P t=some 1):dU P t .z0 h=some (.int .i64 0):=Ga hk (.inl rfl)
theorem OG (hk:eH P t=some 2) {i:Nat} {es:List (Nat×V×V)} {c:Nat} (av:h.get i=.map es c):dU P t (.map i) h=some (.int .i64 es.length):=by
 rw [Ga hk (.inr rfl)];simp [TC,av]
structure ln where
 e:TypeId
 zs:List V
 sz:Nat
 ao:Nat
def hr (P:Program) (t:TypeId):Option ln :=
 match s4 P t with
 | none=>none
 | some e=>match hF P e,cI P e,Em P e with
  | some zs,some sz,some ao=>if zs.length=sz then some ⟨e,zs,sz,ao⟩ else none
  | _,_,_=>none
theorem rZ {T:ln} (cN:hr P t=some T):s4 P t=some T.e∧hF P T.e=some T.zs∧cI P T.e=some T.sz∧Em P T.e=some T.ao∧T.zs.length=T.sz∧P.underlying t=some (.slice T.e):=by
 unfold hr at cN
 split at cN
 ·cases cN
 ·rename_i e he
  split at cN
  ·rename_i zs sz ao h1 aa aC
   split at cN
   ·rename_i az
    simp at cN
    subst cN
    refine ⟨he,h1,aa,aC,az,?_⟩
    unfold s4 at he
    split at he
    ·rename_i hu;rw [hu];simpa using he
    ·cases he
   ·cases cN
  ·cases cN
end
structure J (h h':I) (own:Nat→Prop):Prop where
 n:h.n≤h'.n
 get:∀ j,j<h.n→¬own j→h'.get j=h.get j
 glob:h'.glob=h.glob
def none_:Nat→Prop:=fun _=>False
theorem J.refl (h:I) (own:Nat→Prop):J h h own:=⟨Nat.le_refl _,fun _ _ _=>rfl,rfl⟩
theorem J.trans {h h1 aa:I} {o js:Nat→Prop} (a:J h h1 o) (b:J h1 aa js) (aR:∀ k,k<h.n→js k→o k):J h aa o :=
 ⟨Nat.le_trans a.n b.n,fun j aS bO=>(b.get j (Nat.lt_of_lt_of_le aS a.n) fun au=>bO (aR j aS au)).trans (a.get j aS bO),b.glob.trans a.glob⟩
theorem J.trans' {h h1 aa:I} {o:Nat→Prop} (a:J h h1 o) (b:J h1 aa o):J h aa o:=a.trans b fun _ _ h=>h
theorem J.mono {h h':I} {o o':Nat→Prop} (a:J h h' o) (hm:∀ k,o k→o' k):J h h' o':=⟨a.n,fun j aS bO=>a.get j aS fun au=>bO (hm j au),a.glob⟩
theorem J.up {h h':I} {o:Nat→Prop} (a:J h h' none_):J h h' o:=a.mono fun _ h=>h.elim
theorem J.push (h:I) (o:bb) (own:Nat→Prop):J h (h.push o) own:=⟨by simp [I.push],fun j aS _=>by simp [I.push,show j≠h.n by omega],rfl⟩
theorem J.set (h:I) (i:Nat) (o:bb):J h (h.set i o) (·=i):=⟨Nat.le_refl _,fun j aS bO=>by simp [I.set];intro ab;exact absurd ab bO,rfl⟩
theorem J.iQ {h0 h:I} {own:Nat→Prop} (k:J h0 h own) {i:Nat} (hi:h0.n≤i) (o:bb):J h0 (h.set i o) own :=
 k.trans (J.set h i o) fun j aS au=>by omega
theorem J.bg {h0 h:I} {own:Nat→Prop} (k:J h0 h own) (o:bb):J h0 (h.push o) own:=k.trans' (J.push h o own)
def aV:V→Option Nat
 | .bc i _ _ _=>some i
 | _=>none
def bl (v:V):Nat→Prop:=fun k=>aV v=some k
def Own (h:I) (e:TypeId) (sz:Nat) (v:V) (cs:List V):Prop :=
 ((v=.an∨v=.z0)∧cs=[]) ∨
 ∃ i len cap c ex,v=.bc i 0 len cap∧i<h.n∧h.get i=.cells c e ex∧cs.length=len * sz∧c.take (len * sz)=cs ∧
  ((cap<b2∧cap * sz≤c.length∧len≤cap)∨(cap=b2∧ex=some sz))
theorem Own.an (h:I) (e:TypeId) (sz:Nat):Own h e sz .an []:=.inl ⟨.inl rfl,rfl⟩
theorem Own.z0 (h:I) (e:TypeId) (sz:Nat):Own h e sz .z0 []:=.inl ⟨.inr rfl,rfl⟩
theorem Own.al {h h':I} {e:TypeId} {sz:Nat} {v:V} {cs:List V} {own:Nat→Prop} (aR:Own h e sz v cs) (hk:J h h' own) (bO:∀ k,aV v=some k→¬own k):Own h' e sz v cs:=by
 rcases aR with aR | ⟨i,len,cap,c,ex,rfl,hi,av,rest⟩
 ·exact .inl aR
 ·exact .inr ⟨i,len,cap,c,ex,rfl,Nat.lt_of_lt_of_le hi hk.n,(hk.get i hi (bO i rfl)).trans av,rest⟩
theorem Own.ba {h h':I} {e:TypeId} {sz:Nat} {v:V} {cs:List V} (aR:Own h e sz v cs) (hk:J h h' none_):Own h' e sz v cs:=aR.al hk fun _ _ h=>h
theorem Own.lt {h:I} {e:TypeId} {sz:Nat} {v:V} {cs:List V} (aR:Own h e sz v cs):∀ k,aV v=some k→k<h.n:=by
 intro k hk
 rcases aR with ⟨rfl | rfl,_⟩ | ⟨i,len,cap,c,ex,rfl,hi,_⟩
 ·simp [aV] at hk
 ·simp [aV] at hk
 ·simp [aV] at hk;omega
theorem Own.fresh {h:I} {e:TypeId} {sz:Nat} (c:List V) (len cap:Nat) (au:c.length=cap * sz) (az:len≤cap) (hu:cap<b2) :
  Own (h.push (.cells c e none)) e sz (.bc h.n 0 len cap) (c.take (len * sz)) :=
 .inr ⟨h.n,len,cap,c,none,rfl,by simp [I.push],by simp [I.push],by rw [List.length_take,au];exact Nat.min_eq_left (Nat.mul_le_mul_right _ az),rfl,.inl ⟨hu,by omega,az⟩⟩
theorem Own.grown {h:I} {e:TypeId} {sz i len:Nat} {cs:List V} (hi:i<h.n) (av:h.get i=.cells cs e (some sz)) (az:cs.length=len * sz) :
  Own h e sz (.bc i 0 len b2) cs :=
 .inr ⟨i,len,b2,cs,some sz,rfl,hi,av,az,by rw [←az];exact List.take_length,.inr ⟨rfl,rfl⟩⟩
def bV (h:I) (a b:V):Prop:=aV b=aV a∨∀ k,aV b=some k→h.n≤k
theorem TE {P:Program} {t tx:TypeId} {T:ln} (cN:hr P t=some T) (dy:0<T.sz)
  {h:I} {s x:V} {cs:List V} (aR:Own h T.e T.sz s cs) {n:Nat} {news:List V} (dT:fm P T.sz tx x h=some (n,news)) (aG:news.length=n * T.sz)
  (h1:(cs.length+news.length) * T.ao≤lim) (aa:cs.length+news.length≤lim) :
  ∃ v h',ma P t tx s x h=some (v,h')∧Own h' T.e T.sz v (cs++news)∧J h h' (bl s)∧bV h s v:=by
 obtain ⟨he,bK,bf,hG,eX,_⟩:=rZ cN
 unfold ma
 simp only [he,bK,bf,hG,eX,if_true,dT]
 have start:∀ s:V,(s=.an∨s=.z0)→cs=[]→∃ v h',(if n=0 then some (s,h) else if n * T.ao≤lim∧n≤lim then some (.bc h.n 0 n b2,h.push (.cells news T.e (some T.sz))) else none)=some (v,h')∧Own h' T.e T.sz v (cs++news)∧J h h' (bl s)∧bV h s v:=fun s U cS=>by
  subst cS
  by_cases h0:n=0
  ·subst h0
   have:news=[]:=List.eq_nil_of_length_eq_zero (by simpa using aG)
   subst this
   exact ⟨s,h,by simp,.inl ⟨U,rfl⟩,J.refl _ _,.inl rfl⟩
  ·have DA:n≤news.length:=by rw [aG];exact Nat.le_mul_of_pos_right n dy
   have bh:n * T.ao≤lim:=Nat.le_trans (Nat.mul_le_mul_right T.ao (by omega)) h1
   have bD:n≤lim:=by omega
   exact ⟨.bc h.n 0 n b2,h.push (.cells news T.e (some T.sz)),by simp [h0,bh,bD],Own.grown (by simp [I.push]) (by simp [I.push]) (by simpa using aG),J.push _ _ _,.inr fun k hk=>by simp [aV] at hk;omega⟩
 rcases aR with ⟨rfl | rfl,cS⟩ | ⟨i,len,cap,c,ex,rfl,hi,av,hlen,bJ,dj⟩
 ·exact start _ (.inl rfl) cS
 ·exact start _ (.inr rfl) cS
 ·by_cases h0:n=0
  ·subst h0
   have:news=[]:=List.eq_nil_of_length_eq_zero (by simpa using aG)
   subst this
   exact ⟨.bc i 0 len cap,h,by simp,by rw [List.append_nil];exact .inr ⟨i,len,cap,c,ex,rfl,hi,av,hlen,bJ,dj⟩,J.refl _ _,.inl rfl⟩
  ·have DA:len+n≤cs.length+news.length:=by
    rw [aG,hlen,←Nat.add_mul];exact Nat.le_mul_of_pos_right _ dy
   have bh:(len+n) * T.ao≤lim:=Nat.le_trans (Nat.mul_le_mul_right T.ao DA) h1
   have bD:len+n≤lim:=by omega
   have cw:len * T.sz≤c.length:=by
    have:=congrArg List.length bJ
    rw [List.length_take,hlen] at this
    omega
   simp only [h0,bh,bD,and_self,if_true,if_false,av]
   rcases dj with ⟨lY,oB,hle⟩ | ⟨rfl,rfl⟩
   ·simp only [lY,if_true]
    by_cases eG:len+n≤cap
    ·have eW:0+(len+n) * T.sz≤c.length:=by rw [Nat.zero_add];exact Nat.le_trans (Nat.mul_le_mul_right _ eG) oB
     have hll:(lay c (len * T.sz) news).length=c.length:=pd _ _ _ (by rw [aG,←Nat.add_mul];omega)
     simp only [eG,if_true,eW]
     refine ⟨_,_,rfl,.inr ⟨i,len+n,cap,lay c (0+len * T.sz) news,ex,rfl,hi,by simp [I.set],by simp [hlen,aG,Nat.add_mul],?_,.inl ⟨lY,?_,eG⟩⟩,⟨Nat.le_refl _,fun j aS bO=>?_,rfl⟩,.inl rfl⟩
     ·simp only [Nat.zero_add,lay,bJ,Nat.add_mul,←aG]
      have:(cs++news).length=len * T.sz+news.length:=by simp [hlen]
      rw [←this]
      exact List.take_left
     ·rw [Nat.zero_add,hll];exact oB
     ·simp only [I.set]
      rw [if_neg (by intro cB;subst cB;simp [bl,aV] at bO)]
    ·simp only [eG,if_false]
     have zc:0+len * T.sz≤c.length:=by omega
     simp only [zc,if_true,List.drop_zero,bJ]
     exact ⟨_,_,rfl,Own.grown (by simp [I.push]) (by simp [I.push]) (by simp [hlen,aG,Nat.add_mul]),J.push _ _ _,.inr fun k hk=>by simp [aV] at hk;omega⟩
   ·simp only [Nat.lt_irrefl,if_false,true_and,cw,and_self,if_true]
    refine ⟨_,_,rfl,Own.grown (by simp [I.push,I.set]) (by simp [I.push,I.set,bJ]) (by simp [hlen,aG,Nat.add_mul]),⟨by simp [I.push,I.set],fun j aS bO=>?_,rfl⟩,.inr fun k hk=>by simp [aV] at hk;omega⟩
    have h1:j≠i:=by intro cB;subst cB;simp [bl,aV] at bO
    have aa:j≠h.n:=by omega
    simp [I.push,I.set,h1,aa]
theorem Own.src {P:Program} {t e:TypeId} {h:I} {sz:Nat} {v:V} {cs:List V} (aR:Own h e sz v cs) (hk:eH P t=some 1) (b5:cs.all (·.one)=true) (bf:0<sz) :
  ∃ n,fm P sz t v h=some (n,cs)∧cs.length=n * sz:=by
 obtain ⟨d,hu,a7⟩:=Al hk
 cases d<;>simp [xE] at a7
 rcases aR with ⟨rfl | rfl,rfl⟩ | ⟨i,len,cap,c,ex,rfl,hi,av,hlen,bJ,_⟩
 ·exact ⟨0,by simp [fm,hu],by simp⟩
 ·exact ⟨0,by simp [fm,hu],by simp⟩
 ·refine ⟨len,?_,hlen⟩
  have cw:len * sz≤c.length:=by
   have:=congrArg List.length bJ
   rw [List.length_take,hlen] at this
   omega
  simp only [fm,hu,av,List.drop_zero,bJ,b5,Nat.zero_add]
  rw [if_pos ⟨cw,trivial⟩]
theorem afj {P:Program} {t:TypeId} {h:I} {sz n:Nat} {cs:List V} (hk:eH P t=some 1) (az:cs.length=n * sz) (b5:cs.all (·.one)=true):fm P sz t (.ai n cs) h=some (n,cs):=by
 obtain ⟨d,hu,a7⟩:=Al hk
 cases d<;>simp [xE] at a7
 simp only [fm,hu]
 rw [if_pos ⟨az,b5⟩]
theorem afk {α:Type} (z:List α):made z 1=z:=by simp [made]
theorem afl:∀ (vs c:List V),vs.length=c.length→qU c 0 vs=vs:=by
 intro vs c az
 rw [←m4 vs c 0 (by omega)]
 unfold lay
 simp [az]
theorem J9 {P:Program} {t:TypeId} {T:ln} (cN:hr P t=some T) {x:V} {xs:List V} (ag:x.cells=some xs) (az:xs.length=T.sz) (U:T.sz≤16777216) {h:I} :
  kI P t 1 [(0,x)] h=some (.bc h.n 0 1 1,h.push (.cells xs T.e none)):=by
 obtain ⟨he,bK,bf,hG,eX,_⟩:=rZ cN
 unfold kI
 simp only [he,bf,bK,eX,afk,Nat.one_mul]
 rw [if_pos ⟨trivial,by omega,by omega⟩]
 simp only [pQ,ag,Nat.zero_mul,Nat.zero_add]
 rw [if_pos ⟨az,by omega⟩,afl _ _ (by omega)]
theorem Ka {P:Program} {t:TypeId} {T:ln} (cN:hr P t=some T) (dy:0<T.sz)
  {h:I} {s:V} {cs xs:List V} (aR:Own h T.e T.sz s cs) (az:xs.length=T.sz) (b5:xs.all (·.one)=true)
  (h1:(cs.length+T.sz) * T.ao≤lim) (aa:cs.length+T.sz≤lim) :
  ∃ v h',ma P t t s (.bc h.n 0 1 1) (h.push (.cells xs T.e none))=some (v,h')∧Own h' T.e T.sz v (cs++xs)∧J h h' (bl s)∧bV h s v:=by
 obtain ⟨he,bK,bf,hG,eX,hu⟩:=rZ cN
 have hk:=J.push h (.cells xs T.e none) none_
 have dT:fm P T.sz t (.bc h.n 0 1 1) (h.push (.cells xs T.e none))=some (1,xs):=by
  simp only [fm,hu,I.push,if_true,Nat.one_mul,Nat.zero_add,List.drop_zero]
  rw [List.take_of_length_le (by omega),if_pos ⟨by omega,b5⟩]
 obtain ⟨v,h',aO,hs,eB,c4⟩:=TE (tx:=t) cN dy (aR.ba hk) dT (by omega) (by rw [az];exact h1) (by rw [az];exact aa)
 refine ⟨v,h',aO,hs,(hk.up).trans' eB,c4.imp id fun ab k q6=>?_⟩
 have:=ab k q6
 simp [I.push] at this
 omega
structure Acc (h0 h:I) (e:TypeId) (sz:Nat) (v:V) (cs:List V):Prop where
 own:Own h e sz v cs
 al:J h0 h none_
 new:∀ k,aV v=some k→h0.n≤k
theorem Acc.nil {h0 h:I} {e:TypeId} {sz:Nat} (k:J h0 h none_):Acc h0 h e sz .an []:=⟨Own.an _ _ _,k,by simp [aV]⟩
theorem Acc.elem {P:Program} {t:TypeId} {T:ln} (cN:hr P t=some T) {h0 h:I} {s:V} {cs xs:List V} (a:Acc h0 h T.e T.sz s cs) (dy:0<T.sz) (az:xs.length=T.sz) (b5:xs.all (·.one)=true)
  (h1:(cs.length+T.sz) * T.ao≤lim) (aa:cs.length+T.sz≤lim) :
  ∃ v h',ma P t t s (.bc h.n 0 1 1) (h.push (.cells xs T.e none))=some (v,h')∧Acc h0 h' T.e T.sz v (cs++xs):=by
 obtain ⟨v,h',aO,hs,eB,c4⟩:=Ka cN dy a.own az b5 h1 aa
 refine ⟨v,h',aO,hs,a.al.trans eB fun k hk au=>?_,fun k hk=>?_⟩
 ·have:=a.new k au;omega
 ·rcases c4 with c4 | c4
  ·exact a.new k (c4 ▸ hk)
  ·exact Nat.le_trans a.al.n (c4 k hk)
theorem Acc.app {P:Program} {t tx:TypeId} {T:ln} (cN:hr P t=some T) {h0 h:I} {s x:V} {cs news:List V} (a:Acc h0 h T.e T.sz s cs) (dy:0<T.sz) {n:Nat} (dT:fm P T.sz tx x h=some (n,news)) (aG:news.length=n * T.sz)
  (h1:(cs.length+news.length) * T.ao≤lim) (aa:cs.length+news.length≤lim) :
  ∃ v h',ma P t tx s x h=some (v,h')∧Acc h0 h' T.e T.sz v (cs++news):=by
 obtain ⟨v,h',aO,hs,eB,c4⟩:=TE cN dy a.own dT aG h1 aa
 refine ⟨v,h',aO,hs,a.al.trans eB fun k hk au=>?_,fun k hk=>?_⟩
 ·have:=a.new k au;omega
 ·rcases c4 with c4 | c4
  ·exact a.new k (c4 ▸ hk)
  ·exact Nat.le_trans a.al.n (c4 k hk)
theorem Own.length {h:I} {e:TypeId} {v:V} {cs:List V} {sz:Nat} (aR:Own h e sz v cs) (bf:0<sz) (P:Program) {t:TypeId} (hk:eH P t=some 1):dU P t v h=some (.int .i64 (cs.length / sz:Nat)):=by
 rcases aR with ⟨rfl | rfl,rfl⟩ | ⟨i,len,cap,c,ex,rfl,hi,av,hlen,_⟩
 ·rw [Am hk];simp
 ·rw [BV hk];simp
 ·rw [BU hk,hlen,Nat.mul_div_cancel _ bf]
theorem aM.refl (r:V) (h:I):aM r h r h:=fun ρ B aK w cm hw aD=>⟨ρ,Ren.le.refl ρ,hw,aD⟩
theorem aM.trans {r cg cZ:V} {h h1 aa:I} (a:aM r h cg h1) (b:aM cg h1 cZ aa):aM r h cZ aa:=fun ρ B aK w cm hw aD=>
 let ⟨ρ1,ey,c2,v1⟩:=a ρ B aK w cm hw aD
 let ⟨ρ2,dm,bX,v2⟩:=b ρ1 B aK w cm c2 v1
 ⟨ρ2,ey.trans dm,bX,v2⟩
theorem aM.own {h:I} {e:TypeId} {sz:Nat} {v:V} {cs:List V} (aR:Own h e sz v cs) {n:Nat} (aG:cs.length=n * sz) (bf:0<sz):∃ aa,aM v h (.ai n cs) aa∧J h aa (bl v):=by
 rcases aR with ⟨rfl | rfl,rfl⟩ | ⟨i,len,cap,c,ex,rfl,hi,av,hlen,bJ,dj⟩
 ·have h0:n=0:=by
   have:n * sz=0:=by simpa using aG.symm
   rcases Nat.mul_eq_zero.1 this with h | h<;>omega
  subst h0
  refine ⟨h,fun ρ B aK w cm hw aD=>⟨ρ,Ren.le.refl ρ,hw,?_⟩,J.refl _ _⟩
  cases aD
  exact .eU none 0 (by simp)
 ·have h0:n=0:=by
   have:n * sz=0:=by simpa using aG.symm
   rcases Nat.mul_eq_zero.1 this with h | h<;>omega
  subst h0
  exact ⟨h,fun ρ B aK w cm hw aD=>by
   cases aD with
   | z0 a aO=>exact ⟨ρ,Ren.le.refl ρ,hw,.eU a 0 (by simp)⟩,J.refl _ _⟩
 ·have Gb:n=len:=by
   have:n * sz=len * sz:=by omega
   exact Nat.eq_of_mul_eq_mul_right bf this
  subst Gb
  refine ⟨h.set i .dead,fun ρ B aK w cm hw aD=>?_,(J.set h i .dead).mono fun k hk=>by subst hk;rfl⟩
  obtain ⟨ρ',hle,bL,b,bw,arr,aH,aq,au,az⟩:=hw.freeze av
  obtain ⟨bW,iI,jE,gp,rfl⟩:=aD.fA
  rw [aH] at jE
  simp at jE
  obtain ⟨rfl,rfl⟩:=jE
  have cw:n * sz≤c.length:=by
   have:=congrArg List.length bJ
   rw [List.length_take,hlen] at this
   omega
  refine ⟨ρ',hle,bL,.ai 0 n _ aq gp (by rw [hlen];omega) fun k v v' h1 aa=>?_⟩
  have hk:k<n * sz:=by rw [←hlen];exact (List.getElem?_eq_some_iff.1 h1).1
  rw [←bJ,List.getElem?_take,if_pos hk] at h1
  refine (az.2 k v v' h1 ?_).mono hle
  rw [List.getElem?_take,if_pos (by omega),Array.getElem?_toList]
  simpa using aa
def aB (l:List V) (h:I) (dm:List V) (aa:I):Prop :=
 ∀ (ρ:Ren) (B:Nat) (aK w:World) (b0:List Value),aQ ρ B aK h w→aT ρ l b0→∃ ρ',ρ.le ρ'∧aQ ρ' B aK aa w∧aT ρ' dm b0
theorem aB.refl (l:List V) (h:I):aB l h l h:=fun ρ B aK w b0 hw az=>⟨ρ,Ren.le.refl ρ,hw,az⟩
theorem aB.cons {v v2:V} {l dm:List V} {h h1 aa:I} (a:aM v h v2 h1) (b:aB l h1 dm aa):aB (v::l) h (v2::dm) aa:=fun ρ B aK w b0 hw az=>by
 obtain ⟨v',im,rfl,aD,bq⟩:=az.di
 obtain ⟨ρ1,ey,c2,v1⟩:=a ρ B aK w v' hw aD
 obtain ⟨ρ2,dm,bX,v2⟩:=b ρ1 B aK w im c2 (bq.mono ey)
 exact ⟨ρ2,ey.trans dm,bX,.cons (v1.mono dm) v2⟩
theorem aM.tuple {l dm:List V} {h aa:I} (a:aB l h dm aa):aM (.tuple l) h (.tuple dm) aa:=fun ρ B aK w cm hw aD=>by
 cases aD with
 | tuple U ag=>
  obtain ⟨ρ1,ey,c2,v1⟩:=a ρ B aK w _ hw (dH.list ⟨U,ag⟩)
  exact ⟨ρ1,ey,c2,v1.iq.tuple⟩
def bj (v:V):Prop:=∀ (ρ ρ':Ren) (v':Value),aA ρ v v'→(∀ b a,ρ.frz b=some a→ρ'.frz b=some a)→aA ρ' v v'
def bo (l:List V):Prop:=∀ v ∈ l,bj v
theorem bo.nil:bo []:=by simp [bo]
theorem bo.cons {v:V} {l:List V} (h:bj v) (g:bo l):bo (v::l):=by
 intro x ag
 rcases List.mem_cons.1 ag with rfl | ag
 ·exact h
 ·exact g x ag
theorem bo.append {l m:List V} (h:bo l) (g:bo m):bo (l++m):=by
 intro x ag
 rcases List.mem_append.1 ag with ag | ag
 ·exact h x ag
 ·exact g x ag
theorem bo.flatMap {α:Type} {f:α→List V} {l:List α} (h:∀ x ∈ l,bo (f x)):bo (l.flatMap f):=by
 intro v aD
 obtain ⟨x,ag,aD⟩:=List.mem_flatMap.1 aD
 exact h x ag v aD
theorem bo.map {α:Type} {f:α→V} {l:List α} (h:∀ x ∈ l,bj (f x)):bo (l.map f):=by
 intro v aD
 obtain ⟨x,ag,rfl⟩:=List.mem_map.1 aD
 exact h x ag
theorem bj.flat {v:V} {a:Value} (h:lN v=some a):bj v:=fun ρ ρ' v' aD _=>by
 have:=vW aD h
 subst this
 cases aD<;>simp [lN] at h<;>first | (constructor;done) | skip
 rename_i xs eV U ag
 cases xs with
 | nil=>exact .tuple U (by simp)
 | cons x t=>simp at h
theorem bj.int (k:IntKind) (n:Int):bj (.int k n):=bj.flat rfl
theorem bj.bool (b:Bool):bj (.bool b):=bj.flat rfl
theorem bj.string (s:ByteArray):bj (.string s):=bj.flat rfl
theorem bj.c9:bj .c9:=bj.flat rfl
theorem bj.an:bj .an:=bj.flat rfl
theorem bj.top:bj .top:=fun ρ ρ' v' aD _=>.top _
theorem bj.ai {n:Nat} {cs:List V} (h:bo cs):bj (.ai n cs):=fun ρ ρ' v' aD aq=>by
 rcases aD.jX with ⟨rfl,rfl,a,qQ,aO,rfl⟩ | ⟨b,o,cap,arr,ak,aG,aR,ag,rfl⟩
 ·exact .eU a _ aO
 ·exact .ai o n cap (aq _ _ ak) aG aR fun k v v' h1 aa=>h v (List.mem_of_getElem? h1) ρ ρ' v' (ag k v v' h1 aa) aq
theorem bj.at {cs:List V} (h:bo cs):bj (.at cs):=fun ρ ρ' v' aD aq=>by
 obtain ⟨b,o,arr,ak,aR,ag,rfl⟩:=aD.s6
 exact .at o (aq _ _ ak) aR fun k v v' h1 aa=>h v (List.mem_of_getElem? h1) ρ ρ' v' (ag k v v' h1 aa) aq
theorem bj.agg {cs:List V} (h:bo cs):bj (.agg cs):=fun ρ ρ' v' aD aq=>by
 cases aD with
 | agg U ag=>exact .agg U fun k v v' h1 aa=>h v (List.mem_of_getElem? h1) ρ ρ' v' (ag k v v' h1 aa) aq
theorem bj.tuple {cs:List V} (h:bo cs):bj (.tuple cs):=fun ρ ρ' v' aD aq=>by
 cases aD with
 | tuple U ag=>exact .tuple U fun k v v' h1 aa=>h v (List.mem_of_getElem? h1) ρ ρ' v' (ag k v v' h1 aa) aq
theorem aA.join {ρ ρ':Ren} (hle:ρ.le ρ') {v:V} {a:Value} (h:aA ρ v a):∀ {b:Value},aA ρ' v b→aA ⟨ρ.ren,ρ'.frz,ρ.dfr⟩ v b:=by
 induction h with
 | ptr hi o=>
  intro b ak
  obtain ⟨bW,bD,jE,rfl⟩:=ak.pe
  rw [hle.ren _ _ hi] at jE
  simp at jE
  obtain ⟨rfl,rfl⟩:=jE
  exact aA.ptr (ρ:=⟨ρ.ren,ρ'.frz,ρ.dfr⟩) hi o
 | bc hi o len cap az=>
  intro b ak
  obtain ⟨bW,bD,jE,gp,rfl⟩:=ak.fA
  rw [hle.ren _ _ hi] at jE
  simp at jE
  obtain ⟨rfl,rfl⟩:=jE
  exact aA.bc (ρ:=⟨ρ.ren,ρ'.frz,ρ.dfr⟩) hi o len cap az
 | map hi=>
  intro b ak
  cases ak with
  | map jE=>
   rw [hle.ren _ _ hi] at jE
   simp at jE
   obtain ⟨rfl,rfl⟩:=jE
   exact .map hi
 | @ai JQ o n cap arr cs ak aG aR ag ih=>
  intro b ic
  rcases ic.jX with ⟨rfl,rfl,a,qQ,aO,rfl⟩ | ⟨bW,ei,wq,mT,ki,DB,ni,dX,rfl⟩
  ·exact .eU a _ aO
  ·refine .ai ei n wq ki DB ni fun k v v' h1 aa=>?_
   have hk:k<cs.length:=(List.getElem?_eq_some_iff.1 h1).1
   exact ih k v _ h1 (Array.getElem?_eq_getElem (by omega)) (dX k v v' h1 aa)
 | @«at» JQ o arr cs ak aR ag ih=>
  intro b ic
  obtain ⟨bW,ei,mT,ki,ni,dX,rfl⟩:=ic.s6
  refine .at ei ki ni fun k v v' h1 aa=>?_
  have hk:k<cs.length:=(List.getElem?_eq_some_iff.1 h1).1
  exact ih k v _ h1 (Array.getElem?_eq_getElem (by omega)) (dX k v v' h1 aa)
 | func fn U bq ag bd lb N9=>
  intro b ak
  cases ak with
  | func fn ff Gc dX TF=>
   refine .func fn ff Gc (fun k v v' h1 aa=>?_) (fun k v v' h1 aa=>?_)
   ·have hk:=(List.getElem?_eq_some_iff.1 h1).1
    exact lb k v _ h1 (Array.getElem?_eq_getElem (by omega)) (dX k v v' h1 aa)
   ·have hk:=(List.getElem?_eq_some_iff.1 h1).1
    exact N9 k v _ h1 (Array.getElem?_eq_getElem (by omega)) (TF k v v' h1 aa)
 | iface t h ih=>intro b ak;cases ak with | iface t g=>exact .iface t (ih g)
 | agg U ag lb=>
  intro b ak
  cases ak with
  | agg ff dX=>
   refine .agg ff fun k v v' h1 aa=>?_
   have hk:=(List.getElem?_eq_some_iff.1 h1).1
   exact lb k v _ h1 (Array.getElem?_eq_getElem (by omega)) (dX k v v' h1 aa)
 | tuple U ag lb=>
  intro b ak
  cases ak with
  | tuple ff dX=>
   refine .tuple ff fun k v v' h1 aa=>?_
   have hk:=(List.getElem?_eq_some_iff.1 h1).1
   exact lb k v _ h1 (Array.getElem?_eq_getElem (by omega)) (dX k v v' h1 aa)
 | eU a qQ aO=>
  intro b ak
  rcases ak.jX with ⟨_,_,a,qQ,aO,rfl⟩ | ⟨bW,ei,wq,mT,ki,DB,ni,dX,rfl⟩
  ·exact .eU a _ aO
  ·exact .ai ei 0 wq ki DB ni (by simp)
 | z0 a aO=>intro b ak;cases ak with | z0 a aO=>exact .z0 a aO
 | top=>intro b ak;exact .top _
 | _=>intro b ak;cases ak;constructor
theorem aT.join {ρ ρ':Ren} (hle:ρ.le ρ') {l:List V} {a b:List Value} (h:aT ρ l a) (g:aT ρ' l b):aT ⟨ρ.ren,ρ'.frz,ρ.dfr⟩ l b:=by
 refine ⟨g.1,fun k v v' h1 aa=>?_⟩
 have hk:k<l.length:=(List.getElem?_eq_some_iff.1 h1).1
 exact (h.2 k v _ h1 (List.getElem?_eq_getElem (by rw [←h.1];exact hk))).join hle (g.2 k v v' h1 aa)
theorem aQ.forget {ρ ρ':Ren} {B afm:Nat} {aK TG w w':World} {h h':I} (R:aQ ρ afm TG h w) (eb:aQ ρ' B aK h' w') (hle:ρ.le ρ') (hk:J h h' none_):aQ ⟨ρ.ren,ρ'.frz,ρ.dfr⟩ B aK h w':=by
 have aN:∀ i,h.get i≠.dead→i<h.n:=fun i hi=>by obtain ⟨_,_,_,_,ab,_⟩:=R.heap.live hi;exact ab
 refine ⟨⟨R.heap.kg,R.heap.inj,fun i=>?_,eb.heap.frz,fun g cs av=>?_,eb.heap.base⟩,eb.below⟩
 ·cases av:h.get i with
  | dead=>trivial
  | cells c e ex=>
   have hi:i<h.n:=aN i (by rw [av];simp)
   have js:=R.heap.obj i
   have ei:=eb.heap.obj i
   rw [hk.get i hi (by simp [none_]),av] at ei
   rw [av] at js
   obtain ⟨b,bw,arr,aH,aq,bM,hw,au,az,ag⟩:=js
   obtain ⟨bW,iI,mT,iH,hK,j1,iN,ht,gp,dX⟩:=ei
   have:=hle.ren i _ aH
   rw [iH] at this
   simp at this
   obtain ⟨rfl,rfl⟩:=this
   exact ⟨bW,iI,mT,aH,hK,j1,iN,ht,az.join hle gp,dX⟩
  | map es cl=>
   have hi:i<h.n:=aN i (by rw [av];simp)
   have js:=R.heap.obj i
   have ei:=eb.heap.obj i
   rw [hk.get i hi (by simp [none_]),av] at ei
   rw [av] at js
   obtain ⟨b,bw,arr,aH,aq,bM,hw,hm⟩:=js
   obtain ⟨bW,iI,mT,iH,hK,j1,iN,oz⟩:=ei
   have:=hle.ren i _ aH
   rw [iH] at this
   simp at this
   obtain ⟨rfl,rfl⟩:=this
   refine ⟨bW,iI,mT,aH,hK,j1,iN,oz.1,fun k x y ag bd=>?_⟩
   have jF:k<es.length:=(List.getElem?_eq_some_iff.1 ag).1
   obtain ⟨_,cn,cO⟩:=hm.2 k x _ ag (Array.getElem?_eq_getElem (by rw [←hm.1];exact jF))
   obtain ⟨wu,hZ,oo⟩:=oz.2 k x y ag bd
   exact ⟨wu,cn.join hle hZ,cO.join hle oo⟩
  | jB b mk vs=>
   have hi:i<h.n:=aN i (by rw [av];simp)
   have js:=R.heap.obj i
   have ei:=eb.heap.obj i
   rw [hk.get i hi (by simp [none_]),av] at ei
   rw [av] at js
   obtain ⟨bw,arr,aH,aq,bM,hw,az⟩:=js
   obtain ⟨iI,mT,iH,hK,j1,iN,gp⟩:=ei
   have:=hle.ren i _ aH
   rw [iH] at this
   simp at this
   subst this
   exact ⟨iI,mT,aH,hK,j1,iN,az.join hle gp⟩
  | iter m s l st=>
   have hi:i<h.n:=aN i (by rw [av];simp)
   have js:=R.heap.obj i
   have ei:=eb.heap.obj i
   rw [hk.get i hi (by simp [none_]),av] at ei
   rw [av] at js
   obtain ⟨b,bw,bm,xC,aH,aq,bM,hm,hw⟩:=js
   obtain ⟨bW,iI,TH,TI,iH,hK,j1,oz,iN⟩:=ei
   have:=hle.ren i _ aH
   rw [iH] at this
   simp at this
   obtain ⟨rfl,rfl⟩:=this
   have:=hle.ren m _ hm
   rw [oz] at this
   simp at this
   obtain ⟨rfl,rfl⟩:=this
   exact ⟨bW,iI,TH,TI,aH,hK,j1,hm,iN⟩
 ·obtain ⟨arr,aq,aH⟩:=R.heap.glob g cs av
  obtain ⟨mT,hK,iH⟩:=eb.heap.glob g cs (by rw [hk.glob];exact av)
  have:=hle.frz g _ aq
  rw [hK] at this
  simp at this
  subst this
  exact ⟨mT,hK,(aH.list.join hle iH.list).iq⟩
theorem ca.pure {P:Program} {bt:FuncId} {args:List V} {h:I} {v:V} {E:I→Prop} (aD:bj v) (au:ca P bt args h (fun r h'=>∃ aa,aM r h' v aa∧J h aa none_) (fun h'=>J h h' none_∧E h)) :
  ca P bt args h (fun r h'=>r=v∧h'=h) (fun h'=>h'=h∧E h):=by
 intro ρ B aK w args' hw aO
 refine (au ρ B aK w args' hw aO).mono fun e w' ab=>?_
 rcases ab with ⟨ρ',r,cm,h',he,aH,bL,hle,aa,y9,hk⟩ | ⟨ρ',iu,h',he,nj,bL,hle,hk,bF⟩
 ·obtain ⟨ρ2,OH,iN,Aj⟩:=y9 ρ' B aK w' cm bL aH
  have az:=hle.trans OH
  exact .inl ⟨⟨ρ.ren,ρ2.frz,ρ.dfr⟩,v,cm,h,he,aD _ _ _ Aj fun _ _ h=>h,hw.forget iN az hk,⟨fun _ _ h=>h,az.frz,rfl⟩,rfl,rfl⟩
 ·exact .inr ⟨⟨ρ.ren,ρ'.frz,ρ.dfr⟩,iu,h,he,nj,hw.forget bL hle hk,⟨fun _ _ h=>h,hle.frz,rfl⟩,rfl,bF⟩
theorem Pure.of {P:Program} {bt:FuncId} {args:List V} {h:I} {v:V} (aD:bj v) (au:ae P bt args h (fun r h'=>∃ aa,aM r h' v aa∧J h aa none_)):Pure P bt args h v:=by
 have:=ca.pure (E:=fun _=>False) aD (au.e)
 exact ca.mono this (fun _ _ h=>h) fun _ h=>h.2.elim
theorem Pure.val {P:Program} {bt:FuncId} {args:List V} {h:I} {v:V} (aD:bj v) (au:ae P bt args h (fun r h'=>r=v∧J h h' none_)):Pure P bt args h v :=
 .of aD (au.mono fun r h' ⟨e,k⟩=>⟨h',by subst e;exact aM.refl _ _,k⟩)
theorem Acc.cast {h0 h:I} {e:TypeId} {sz:Nat} {v:V} {cs:List V} (a:Acc h0 h e sz v cs) {n:Nat} (aG:cs.length=n * sz) (bf:0<sz):∃ aa,aM v h (.ai n cs) aa∧J h0 aa none_:=by
 obtain ⟨aa,au,hk⟩:=aM.own a.own aG bf
 exact ⟨aa,au,a.al.trans hk fun k aN c4=>by have:=a.new k c4;omega⟩
def EB (P:Program) (ops:List Oper) (h:I):List Oper→(ah→Prop)→ah→Prop
 | [],K,f=>K f
 | o::rest,K,f=>match gJ ops o.guard f with
  | some true=>∃ v,za P o h f v∧EB P ops h rest K (f.put o.dst v)
  | some false=>EB P ops h rest K (f.put o.dst (.tuple []))
  | none=>False
def fV (P:Program) (ops:List Oper) (h:I) (o:Oper) (v:V) (f:ah):Prop :=
 (gJ ops o.guard f=some true∧za P o h f v)∨(gJ ops o.guard f=some false∧v=.tuple [])
theorem afn {P:Program} {c:Call} {ty:TypeId} {bu ct:Operand→V} {h:I} (he:∀ x ∈ c.operands,bu x=ct x):jC P c ty bu h=jC P c ty ct h:=by
 have oC:c.args.toList.map bu=c.args.toList.map ct:=List.map_congr_left fun x ag=>he x (by simp at ag;simp [Call.operands,ag])
 unfold jC
 rw [oC]
 cases au:c.callee with
 | value f=>have aq:bu f=ct f:=he f (by simp [Call.operands,au]);simp only [aq]
 | invoke r m=>have aq:bu r=ct r:=he r (by simp [Call.operands,au]);simp only [aq]
 | builtin b=>cases b<;>rfl
theorem afo {P:Program} {o:Oper} {bu ct:Operand→V} {h:I} (he:∀ x ∈ o.op.operands,bu x=ct x):dC P o bu h=dC P o ct h:=by
 obtain ⟨dst,op,type,pos,after,guard⟩:=o
 have DC:∀ ps:Array (Nat×Operand),(∀ x ∈ ps.toList.map (·.2),bu x=ct x) →
   (ps.toList.map fun p=>(p.1,bu p.2))=(ps.toList.map fun p=>(p.1,ct p.2)):=fun ps aZ=>
  List.map_congr_left fun p hm=>by rw [aZ p.2 (List.mem_map.2 ⟨p,hm,rfl⟩)]
 cases op<;>simp only [Op.operands] at he<;>simp only [dC]
 case build t ps=>rw [DC ps fun x ag=>he x (by simpa using ag)]
 case buildSlice t n ps=>rw [DC ps fun x ag=>he x (by simpa using ag)]
 case makeFunc fn first captured=>
  rw [List.map_congr_left (l:=first.toList) fun x ag=>he x (by simp at ag;simp [ag]),List.map_congr_left (l:=captured.toList) fun x ag=>he x (by simp at ag;simp [ag])]
 case call c=>exact afn he
 case makeMap t r=>cases r<;>simp_all
 case slice t x lo hi mx=>cases lo<;>cases hi<;>cases mx<;>simp_all
 case next it s=>cases s<;>simp_all
 all_goals (first | rfl | (simp_all;done))
theorem ah.eval_put {f:ah} {h:I} {dst:Option Tmp} {v:V} {x:Operand} (ag:∀ d,dst=some d→x≠.tmp d):(f.put dst v).eval h x=f.eval h x:=by
 cases dst with
 | none=>rfl
 | some d=>
  cases x with
  | tmp t=>
   have bO:t≠d:=fun e=>ag d rfl (e ▸ rfl)
   simp [ah.eval,ah.put,bO]
  | _=>rfl
theorem ah.put_comm (f:ah) {x y:Option Tmp} (v u:V) (h:∀ d,x=some d→y≠some d):(f.put x v).put y u=(f.put y u).put x v:=by
 cases x with
 | none=>rfl
 | some d=>
  cases y with
  | none=>rfl
  | some e=>
   have bO:d≠e:=fun he=>h d rfl (he ▸ rfl)
   funext t
   simp only [ah.put]
   by_cases h1:t=e
   ·subst h1;simp [Ne.symm bO]
   ·simp [h1]
section
variable {P:Program} {ops:Array Oper} {h:I} {md:Region.Mode}
theorem OI (o:Oper) (f:ah) (dst:Option Tmp) (v:V) (az:∀ d,dst=some d→d ∉ o.looksAt ops):dC P o ((f.put dst v).eval h) h=dC P o (f.eval h) h :=
 afo fun x ag=>ah.eval_put fun d a7 yn=>az d a7 (by
  subst yn
  exact List.mem_append_left _ (List.mem_filterMap.2 ⟨.tmp d,by simpa using ag,rfl⟩))
theorem OJ (o:Oper) (f:ah) (dst:Option Tmp) (v:V) (az:∀ d,dst=some d→d ∉ o.looksAt ops):gJ ops.toList o.guard (f.put dst v)=gJ ops.toList o.guard f:=by
 cases dst with
 | none=>rfl
 | some d=>
  unfold gJ
  cases av:o.guard with
  | none=>rfl
  | some afp=>
   obtain ⟨g,want⟩:=afp
   simp only
   have e:ops.toList[g]?=ops[g]?:=by simp
   rw [e]
   cases bq:(ops[g]?).bind (·.dst) with
   | none=>rfl
   | some t=>
    have bO:t≠d:=fun e=>az d rfl (by subst e;simp [Oper.looksAt,av,bq])
    simp [ah.put,bO]
theorem fV.put {o:Oper} {v:V} {f:ah} (bd:fV P ops.toList h o v f) (dst:Option Tmp) (u:V) (az:∀ d,dst=some d→d ∉ o.looksAt ops):fV P ops.toList h o v (f.put dst u):=by
 unfold fV za at *
 rw [OJ o f dst u az,OI o f dst u az]
 exact bd
theorem fV.zd {o:Oper} {v:V} {f:ah} (dst:Option Tmp) (u:V) (az:∀ d,dst=some d→d ∉ o.looksAt ops) (bd:fV P ops.toList h o v (f.put dst u)):fV P ops.toList h o v f:=by
 unfold fV za at *
 rwa [OJ o f dst u az,OI o f dst u az] at bd
end
class Gd where
 h:I
def qz (P:Program) (ol l:List Oper) [H:Gd] [K:e1] (f:ah):Prop:=EB P ol H.h l (fun f=>K.go f H.h) f
def nJ (P:Program) (o:Oper) (ol l:List Oper) [H:Gd] [K:e1] (f:ah):Prop:=∃ v,za P o H.h f v∧@qz P ol l H K (f.put o.dst v)
section
variable {P:Program} {ol l:List Oper} {H:Gd} {K:e1} {f:ah} {d:Option Tmp} {ty:TypeId} {pos:String} {cd:Array Edge} {op:Op} {g:Option (Nat×Bool)}
theorem afq:@qz P ol [] H K f=@jl K f H.h:=nr rfl
theorem afr:@qz P ol (⟨d,op,ty,pos,cd,none⟩::l) H K f=@nJ P ⟨d,op,ty,pos,cd,none⟩ ol l H K f:=nr rfl
def yp (v:V) (o:Oper) (P:Program) (ol l:List Oper) [H:Gd] [K:e1] (f:ah):Prop :=
 match v,o.guard with
 | .bool c,some (_,b)=>if c=b then @nJ P o ol l H K f else @qz P ol l H K (f.put o.dst (.tuple []))
 | .top,_=>False
 | _,_=>@qz P ol l H K (f.put o.dst (.tuple []))
theorem afs {j:Nat} {b:Bool}:@qz P ol (⟨d,op,ty,pos,cd,some (j,b)⟩::l) H K f =
  (match xH ol j with | some t=>@yp (f t) ⟨d,op,ty,pos,cd,some (j,b)⟩ P ol l H K f | none=>@qz P ol l H K (f.put d (.tuple []))):=by
 rw [OB]
 show EB P ol H.h (⟨d,op,ty,pos,cd,some (j,b)⟩::l) (fun f=>K.go f H.h) f=_
 simp only [EB,gJ]
 cases bq:(ol[j]?).bind (·.dst) with
 | none=>rfl
 | some t=>
  simp only [yp]
  cases aq:f t<;>try rfl
  rename_i c
  simp only
  by_cases au:c=b
  ·subst au;simp only [beq_self_eq_true,if_true];rfl
  ·have:(c==b)=false:=by simp [au]
   simp only [this,if_neg au]
   rfl
theorem aft {b:Bool} {j:Nat}:@yp (.bool b) ⟨d,op,ty,pos,cd,some (j,b)⟩ P ol l H K f=@nJ P ⟨d,op,ty,pos,cd,some (j,b)⟩ ol l H K f:=if_pos rfl
theorem afu {j:Nat}:@yp (.bool true) ⟨d,op,ty,pos,cd,some (j,false)⟩ P ol l H K f=@qz P ol l H K (f.put d (.tuple [])):=nr rfl
theorem afv {j:Nat}:@yp (.bool false) ⟨d,op,ty,pos,cd,some (j,true)⟩ P ol l H K f=@qz P ol l H K (f.put d (.tuple [])):=nr rfl
theorem afw {j:Nat} {b:Bool} {vs:List V}:@yp (.tuple vs) ⟨d,op,ty,pos,cd,some (j,b)⟩ P ol l H K f=@qz P ol l H K (f.put d (.tuple [])):=nr rfl
def pq (o:Option V) (d:Option Tmp) (P:Program) (ol l:List Oper) [H:Gd] [K:e1] (f:ah):Prop:=match o with | some v=>@qz P ol l H K (f.put d v) | none=>False
theorem afx {v:V}:@pq (some v) d P ol l H K f=@qz P ol l H K (f.put d v):=nr rfl
theorem q7 {o:Oper} {x:Option V} (he:dC P o (f.eval H.h) H.h=fY x H.h):@nJ P o ol l H K f=@pq x o.dst P ol l H K f:=by
 unfold nJ za
 rw [he]
 cases x with
 | none=>simp [fY,pq]
 | some v=>
  simp [fY,pq]
theorem afy {x:Operand}:@nJ P ⟨d,.move x,ty,pos,cd,g⟩ ol l H K f=@qz P ol l H K (f.put d (f.eval H.h x)):=by
 rw [q7 (x:=some (f.eval H.h x)) rfl];rfl
theorem afz {x:Operand}:@nJ P ⟨d,.assign x,ty,pos,cd,g⟩ ol l H K f=@qz P ol l H K (f.put d (f.eval H.h x)):=by
 rw [q7 (x:=some (f.eval H.h x)) rfl];rfl
theorem afA {c a b:Operand}:@nJ P ⟨d,.pick c a b,ty,pos,cd,g⟩ ol l H K f=@pq (EA (f.eval H.h c) (f.eval H.h a) (f.eval H.h b)) d P ol l H K f :=
 q7 (by unfold dC EA fY;simp only;cases f.eval H.h c<;>rfl)
theorem afB {t:TypeId} {a:Operand}:@nJ P ⟨d,.load t a,ty,pos,cd,g⟩ ol l H K f=@pq (ls P t (f.eval H.h a) H.h) d P ol l H K f:=q7 rfl
theorem afC {t:TypeId} {ps:Array (Nat×Operand)}:@nJ P ⟨d,.build t ps,ty,pos,cd,g⟩ ol l H K f=@pq (BM P t (ps.toList.map fun p=>(p.1,f.eval H.h p.2))) d P ol l H K f:=q7 rfl
theorem afD {x:Operand}:@nJ P ⟨d,.nilCheck x,ty,pos,cd,g⟩ ol l H K f=@pq (wm (f.eval H.h x)) d P ol l H K f :=
 q7 (by
  unfold dC wm fY;simp only
  generalize f.eval H.h x=y
  cases y<;>try rfl
  rename_i fn xs ys
  cases fn<;>rfl)
theorem afE {op:BinOp} {t JT:TypeId} {x y:Operand}:@nJ P ⟨d,.binOp op t x y JT,ty,pos,cd,g⟩ ol l H K f=@pq (c0 P op t x y (f.eval H.h x) (f.eval H.h y)) d P ol l H K f:=q7 rfl
theorem afF {op:UnOp} {t:TypeId} {x:Operand}:@nJ P ⟨d,.unOp op t x,ty,pos,cd,g⟩ ol l H K f=@pq (we P op (f.eval H.h x)) d P ol l H K f:=q7 rfl
theorem afG {s t:TypeId} {x:Operand}:@nJ P ⟨d,.convert s t x,ty,pos,cd,g⟩ ol l H K f=@pq (lQ P s t (f.eval H.h x) H.h) d P ol l H K f:=by
 have he:dC P ⟨d,.convert s t x,ty,pos,cd,g⟩ (f.eval H.h) H.h=(match lQ P s t (f.eval H.h x) H.h with | some v=>some (.val v H.h) | none=>eY (vD P s t (f.eval H.h x) H.h)):=rfl
 cases au:lQ P s t (f.eval H.h x) H.h with
 | some v=>
  rw [au] at he
  exact q7 (x:=some v) he
 | none=>
  rw [au] at he
  unfold nJ za pq
  rw [he]
  cases hm:vD P s t (f.eval H.h x) H.h with
  | none=>simp [eY]
  | some p=>
   obtain ⟨v,h'⟩:=p
   have:=Tq hm
   simp [eY,this]
theorem afH {t:TypeId} {x:Operand} {lo hi mx:Option Operand}:@nJ P ⟨d,.slice t x lo hi mx,ty,pos,cd,g⟩ ol l H K f=@pq (iJ P t (f.eval H.h x) (lo.map (f.eval H.h)) (hi.map (f.eval H.h)) (mx.map (f.eval H.h))) d P ol l H K f:=q7 rfl
theorem afI {t:TypeId} {x:Operand} {k:Nat}:@nJ P ⟨d,.fieldAddr t x k,ty,pos,cd,g⟩ ol l H K f=@pq (BG P t (f.eval H.h x) k) d P ol l H K f:=q7 rfl
theorem afJ {t:TypeId} {x y:Operand}:@nJ P ⟨d,.indexAddr t x y,ty,pos,cd,g⟩ ol l H K f=@pq (hA P t (f.eval H.h x) (f.eval H.h y)) d P ol l H K f:=q7 rfl
theorem afK {t:TypeId} {x y:Operand} {ok:Bool}:@nJ P ⟨d,.lookup t x y ok,ty,pos,cd,g⟩ ol l H K f=@pq (mD P t (f.eval H.h x) (f.eval H.h y) ok H.h) d P ol l H K f:=q7 rfl
theorem afL {x:Operand} {k:Nat}:@nJ P ⟨d,.extract x k,ty,pos,cd,g⟩ ol l H K f=@pq (q2 (f.eval H.h x) k) d P ol l H K f :=
 q7 (by unfold dC q2 fY;simp only;cases f.eval H.h x<;>rfl)
theorem afM {t:TypeId} {x:Operand}:@nJ P ⟨d,.call ⟨.builtin .len,#[x],#[t]⟩,ty,pos,cd,g⟩ ol l H K f=@pq (dU P t (f.eval H.h x) H.h) d P ol l H K f :=
 q7 (by unfold dC jC oi fY;simp only [List.map_cons,List.map_nil];cases dU P t (f.eval H.h x) H.h<;>rfl)
theorem afN {t t2:TypeId} {x y:Operand}:@nJ P ⟨d,.call ⟨.builtin .min,#[x,y],#[t,t2]⟩,ty,pos,cd,g⟩ ol l H K f=@pq (po P .min #[t,t2] ty (td #[x,y]) (f.eval H.h x) (f.eval H.h y)) d P ol l H K f :=
 q7 (by
  unfold dC jC oi po fY
  simp only [List.map_cons,List.map_nil]
  cases be [f.eval H.h x,f.eval H.h y] with
  | none=>rfl
  | some as=>
   simp only
   generalize cQ P _=r
   cases r with
   | none=>rfl
   | some n=>cases n<;>rfl)
theorem afO {t t2:TypeId} {x y:Operand}:@nJ P ⟨d,.call ⟨.builtin .max,#[x,y],#[t,t2]⟩,ty,pos,cd,g⟩ ol l H K f=@pq (po P .max #[t,t2] ty (td #[x,y]) (f.eval H.h x) (f.eval H.h y)) d P ol l H K f :=
 q7 (by
  unfold dC jC oi po fY
  simp only [List.map_cons,List.map_nil]
  cases be [f.eval H.h x,f.eval H.h y] with
  | none=>rfl
  | some as=>
   simp only
   generalize cQ P _=r
   cases r with
   | none=>rfl
   | some n=>cases n<;>rfl)
end
section
variable {h:I} {o o':bb} {i j:Nat}
theorem eI:(h.push o).n=h.n+1:=nr rfl
theorem jt:(h.set i o).n=h.n:=nr rfl
theorem EC:(h.push o).glob=h.glob:=nr rfl
theorem TJ:(h.set i o).glob=h.glob:=nr rfl
theorem cA:(h.push o).get h.n=o:=by simp [I.push]
theorem mc (hi:i<h.n):(h.push o).get i=h.get i:=by simp [I.push,show i≠h.n by omega]
theorem tg (i:Nat):(h.push o).get i=if i=h.n then o else h.get i:=nr rfl
theorem aP:(h.set i o).get i=o:=by simp [I.set]
theorem kL (bO:i≠j):(h.set j o).get i=h.get i:=by simp [I.set,bO]
theorem set_push:(h.push o).set h.n o'=h.push o':=by
 unfold I.push I.set
 simp only
 congr 1
 funext k
 split<;>rfl
theorem set_set:(h.set i o).set i o'=h.set i o':=by
 unfold I.set
 simp only
 congr 1
 funext k
 split<;>rfl
theorem Kb (av:h.get i=o):h.set i o=h:=by
 unfold I.set
 cases h with
 | mk n get glob=>
  simp only at av⊢
  congr 1
  funext k
  by_cases hk:k=i
  ·subst hk;simp [av]
  ·simp [hk]
theorem d9 {a b:bb}:((h.push a).push b).get (h.n+1)=b:=by
 have:=cA (h:=h.push a) (o:=b)
 rwa [eI] at this
theorem wv {a b:bb}:((h.push a).push b).get h.n=a:=by
 rw [mc (by rw [eI];omega),cA]
theorem afP {a b c:bb}:((h.push a).push b).set (h.n+1) c=(h.push a).push c:=by
 have:=set_push (h:=h.push a) (o:=b) (o':=c)
 rwa [eI] at this
theorem afQ {a b c:bb}:((h.push a).push b).set h.n c=(h.push c).push b:=by
 simp only [I.push,I.set,I.mk.injEq,true_and,and_true]
 funext k
 by_cases h1:k=h.n
 ·subst h1
  simp
 ·simp [h1]
end
def mapOf {α:Type} (kk:IntKind) (enc:α→V) (l:List (Nat×Int×α)):List (Nat×V×V):=l.map fun e=>(e.1,.int kk e.2.1,enc e.2.2)
def dr {α:Type} (l:List (Nat×Int×α)) (k:Int):Option α:=(l.find? fun e=>e.2.1==k).map (·.2.2)
def eN {α:Type} (cl:Nat) (l:List (Nat×Int×α)) (k:Int) (a:α):List (Nat×Int×α) :=
 match l with
 | []=>[(cl,k,a)]
 | e::r=>if e.2.1=k then (e.1,k,a)::r else e::eN cl r k a
def mU {α:Type} (cl:Nat) (l:List (Nat×Int×α)) (k:Int):Nat:=if (dr l k).isSome then cl else cl+1
section
variable {P:Program} {t dI hY:TypeId} {kk:IntKind} {α:Type} {enc:α→V}
theorem TK {a b:Int} {d:TypeDesc} (a7:d=.int kk):ta P dI d (.int kk a) (.int kk b)=some (a==b):=by
 subst a7
 simp [ta,mz,lN,s9,Instr.sameNow]
theorem OK {k:Int}:∀ (l:List (Nat×Int×α)),oh P dI (.int kk) (.int kk k) (mapOf kk enc l)=some (l.findIdx? fun e=>e.2.1==k)
 | []=>rfl
 | e::l=>by
  show (match ta P dI (.int kk) (.int kk k) (.int kk e.2.1) with | some true=>some (some 0) | some false=>(oh P dI (.int kk) (.int kk k) (mapOf kk enc l)).map (fun (o:Option Nat)=>o.map (·+1)) | none=>none)=_
  rw [TK rfl,OK l,List.findIdx?_cons]
  by_cases hk:k=e.2.1
  ·subst hk;simp
  ·have h1:(k==e.2.1)=false:=by simp [hk]
   have aa:(e.2.1==k)=false:=by simp [Ne.symm hk]
   simp [h1,aa]
theorem OL {b:Bool} {k:Int} {d:TypeDesc} (hu:P.underlying dI=some d) (a7:d=.int kk):vB P b dI (.int kk k)=true:=by
 subst a7
 unfold vB
 simp only [mz,lN]
 unfold Instr.checkKey
 rw [gC,xK hu]
 rfl
theorem OM {l:List (Nat×Int×α)} {k:Int}:∀ {j:Nat},(l.findIdx? fun e=>e.2.1==k)=some j→∃ e,l[j]?=some e∧e.2.1=k∧dr l k=some e.2.2:=by
 induction l with
 | nil=>intro j h;simp at h
 | cons a l ih=>
  intro j h
  rw [List.findIdx?_cons] at h
  unfold dr
  rw [List.find?_cons]
  by_cases hk:a.2.1=k
  ·have:(a.2.1==k)=true:=by simp [hk]
   simp only [this,if_true,Option.some.injEq] at h
   subst h
   rw [this]
   exact ⟨a,rfl,hk,rfl⟩
  ·have:(a.2.1==k)=false:=by simp [hk]
   simp [this] at h⊢
   obtain ⟨afR,jj,rfl⟩:=h
   obtain ⟨e,h1,aa,aC⟩:=ih jj
   unfold dr at aC
   simp at aC
   exact ⟨e.1,e.2.1,e.2.2,by simpa using h1,aa,by simpa using aC⟩
theorem TL {l:List (Nat×Int×α)} {k:Int} (h:(l.findIdx? fun e=>e.2.1==k)=none):dr l k=none:=by
 unfold dr
 rw [List.findIdx?_eq_none_iff] at h
 have:(l.find? fun e=>e.2.1==k)=none:=by
  rw [List.find?_eq_none]
  intro e he
  simp [h e he]
 rw [this]
 rfl
theorem TM {cl:Nat} {a:α} {k:Int}:∀ {l:List (Nat×Int×α)} {j:Nat},(l.findIdx? fun e=>e.2.1==k)=some j→mapOf kk enc (eN cl l k a)=(mapOf kk enc l).modify j fun e=>(e.1,.int kk k,enc a)
 | [],j,h=>by simp at h
 | e::l,j,h=>by
  rw [List.findIdx?_cons] at h
  unfold eN
  by_cases hk:e.2.1=k
  ·have:(e.2.1==k)=true:=by simp [hk]
   simp [this] at h
   subst h
   simp [hk,mapOf]
  ·have:(e.2.1==k)=false:=by simp [hk]
   simp [this] at h
   obtain ⟨afR,jj,rfl⟩:=h
   have:=TM (cl:=cl) (a:=a) (l:=l) jj
   simp only [mapOf] at this
   simp [hk,mapOf,this]
theorem ON {cl:Nat} {a:α} {k:Int}:∀ {l:List (Nat×Int×α)},(l.findIdx? fun e=>e.2.1==k)=none→eN cl l k a=l++[(cl,k,a)]
 | [],h=>rfl
 | e::l,h=>by
  rw [List.findIdx?_cons] at h
  unfold eN
  by_cases hk:e.2.1=k
  ·have:(e.2.1==k)=true:=by simp [hk]
   simp [this] at h
  ·have:(e.2.1==k)=false:=by simp [hk]
   simp [this] at h
   simp [hk,ON (cl:=cl) (a:=a) (k:=k) (l:=l) (by simpa using h)]
theorem lookup_int {z:Value} {h:I} {i:Nat} {l:List (Nat×Int×α)} {cl:Nat} {k:Int} {ok:Bool} (hm:e9 P t=some (dI,hY,.int kk)) (bK:lO P hY=some z) (av:h.get i=.map (mapOf kk enc l) cl) :
  mD P t (.map i) (.int kk k) ok h=some (match dr l k with | some a=>(if ok then .tuple [enc a,.bool true] else enc a) | none=>(if ok then .tuple [fj z,.bool false] else fj z)):=by
 obtain ⟨_,hu⟩:=y2 hm
 unfold mD
 simp only [hm,bK,av,OL hu rfl,if_true,OK]
 cases aq:l.findIdx? fun e=>e.2.1==k with
 | none=>rw [TL aq]
 | some j=>
  obtain ⟨e,h1,aa,aC⟩:=OM aq
  rw [aC]
  have:(mapOf kk enc l)[j]?=some (e.1,.int kk e.2.1,enc e.2.2):=by simp [mapOf,h1]
  simp only [this]
  rfl
theorem OO {h:I} {i:Nat} {l:List (Nat×Int×α)} {cl:Nat} {k:Int} {a:α} {v:V} (hm:e9 P t=some (dI,hY,.int kk)) (av:h.get i=.map (mapOf kk enc l) cl) (aD:v=enc a) :
  uk P t (.map i) (.int kk k) v h=some (h.set i (.map (mapOf kk enc (eN cl l k a)) (mU cl l k))):=by
 subst aD
 obtain ⟨_,hu⟩:=y2 hm
 unfold uk mU
 simp only [hm,av,OL hu rfl,if_true,OK]
 cases aq:l.findIdx? fun e=>e.2.1==k with
 | none=>
  rw [TL aq,ON aq]
  simp [mapOf]
 | some j=>
  obtain ⟨e,h1,aa,aC⟩:=OM aq
  have:(mapOf kk enc l)[j]?=some (e.1,.int kk e.2.1,enc e.2.2):=by simp [mapOf,h1]
  rw [aC]
  simp only [this,Option.bind_some,mz,lN]
  have U:Instr.sameBits 10000 (.int kk e.2.1) (.int kk k)=true:=by rw [aa];simp [Instr.sameBits]
  rw [if_pos U,TM aq]
  rfl
end
def eP (es:List (Nat×V×V)) (cl:Nat):Prop:=(∀ e ∈ es,e.1<cl)∧(es.map (·.1)).Nodup
theorem eP.nil (cl:Nat):eP [] cl:=⟨by simp,by simp⟩
theorem eP.snoc {es:List (Nat×V×V)} {cl:Nat} (h:eP es cl) (k v:V):eP (es++[(cl,k,v)]) (cl+1):=by
 refine ⟨fun e he=>?_,?_⟩
 ·rcases List.mem_append.1 he with he | he
  ·have:=h.1 e he;omega
  ·simp at he;subst he;simp
 ·rw [List.map_append,List.nodup_append]
  refine ⟨h.2,by simp,fun a aO b ak=>?_⟩
  obtain ⟨e,he,rfl⟩:=List.mem_map.1 aO
  have:=h.1 e he
  simp at ak
  omega
theorem OP {r m cl:Nat} {seen:List Nat} {es:List (Nat×V×V)} {h:I} {d:Option Tmp} {K:e1} {f:ah} (aH:h.get r=.iter m cl seen cl) (hm:h.get m=.map es cl) (U:eP es cl)
  (h0:oX es seen=[]→@jl K (f.put d (.tuple [.bool false])) h)
  (h1:∀ e ∈ oX es seen,@jl K (f.put d (.tuple [.bool true,e.2.1,e.2.2])) (h.set r (.iter m cl (seen++[e.1]) cl))):@JZ (y5 (.ptr r 0) h) d K f:=by
 unfold y5
 simp only [aH,hm]
 have hJ:¬((!seen.isEmpty&&!es.isEmpty&&es.all (fun e=>decide (cl≤e.1)))=true):=by
  intro ab
  simp only [Bool.and_eq_true,Bool.not_eq_true',List.all_eq_true,decide_eq_true_eq] at ab
  cases es with
  | nil=>simp at ab
  | cons e r=>
   have aa:=ab.2 e (by simp)
   have aC:=U.1 e (by simp)
   omega
 rw [if_neg hJ]
 unfold JZ
 intro v h' ej
 rcases List.mem_append.1 ej with ej | ej
 ·split at ej
  ·rename_i dt
   simp at ej
   obtain ⟨rfl,rfl⟩:=ej
   refine h0 ?_
   cases az:oX es seen with
   | nil=>rfl
   | cons e r=>
    have ej:e ∈ oX es seen:=by rw [az];simp
    have aa:=List.all_eq_true.1 dt e ej
    have aC:=U.1 e (List.mem_filter.1 ej).1
    simp at aa
    omega
  ·simp at ej
 ·obtain ⟨e,he,heq⟩:=List.mem_map.1 ej
  simp at heq
  obtain ⟨rfl,rfl⟩:=heq
  exact h1 e he
theorem OQ {r m cl:Nat} {seen:List Nat} {es:List (Nat×V×V)} {h:I} {e:Nat×V×V} (aH:h.get r=.iter m cl (seen++[e.1]) cl) (hm:h.get m=.map es cl) (U:eP es cl) (he:e ∈ es) :
  Ew (.ptr r 0) h=some (.tuple [e.2.1,e.2.2]):=by
 unfold Ew
 have az:(seen++[e.1]).getLast?=some e.1:=by simp
 simp only [aH,hm,az,if_true]
 have aq:es.find? (fun x=>x.1==e.1)=some e:=by
  have aa:=U.2
  clear hm U
  induction es with
  | nil=>simp at he
  | cons a es ih=>
   rw [List.find?_cons]
   rw [List.map_cons,List.nodup_cons] at aa
   rcases List.mem_cons.1 he with rfl | gh
   ·simp
   ·have:a.1≠e.1:=fun ab=>aa.1 (by rw [ab];exact List.mem_map.2 ⟨e,gh,rfl⟩)
    rw [show (a.1==e.1)=false by simp [this]]
    exact ih gh aa.2
 rw [aq]
 rfl
theorem TN {es:List (Nat×V×V)} {seen:List Nat} {e:Nat×V×V} (he:e ∈ oX es seen):(oX es (seen++[e.1])).length<(oX es seen).length:=by
 unfold oX at *
 have h1:(es.filter fun x=>!(seen++[e.1]).contains x.1)=(es.filter fun x=>!seen.contains x.1).filter fun x=>x.1 !=e.1:=by
  rw [List.filter_filter]
  congr 1
  funext x
  by_cases h1:seen.contains x.1=true
  ·simp at h1;simp [h1]
  ·by_cases aa:x.1=e.1
   ·simp [aa]
   ·simp at h1;simp [h1,aa]
 rw [h1]
 have:=List.length_filter_lt_length_iff_exists (p:=fun x:Nat×V×V=>x.1 !=e.1) (l:=es.filter fun x=>!seen.contains x.1)
 exact this.2 ⟨e,he,by simp⟩
theorem OR {P:Program} {t:TypeId} {q:TypeId×TypeId×TypeDesc} {i:Nat} {h:I} {es:List (Nat×V×V)} {cl:Nat} (hm:e9 P t=some q) (av:h.get i=.map es cl):Ev P t (.map i) h=some (.ptr h.n 0,h.push (.iter i cl [] cl)):=by
 unfold Ev
 simp [hm,av]
theorem afS {P:Program} {t:TypeId} {h:I}:FO P t none h=some (.map h.n,h.push (.map [] 0)):=nr rfl
def iw (w:World):Ren:={ ren:=fun _=>none,frz:=fun b=>match w.heap[b]? with | some (.cells c _ _)=>some c | _=>none }
def ze:I:={ n:=0,get:=fun _=>.dead,glob:=fun _=>none }
theorem Ge {w:World} {b:Nat} {c:Array Value} {e:TypeId} {fl:Nat×Nat} (h:w.heap[b]?=some (.cells c e fl)):(iw w).frz b=some c:=by simp [iw,h]
theorem pp (w:World):aQ (iw w) w.heap.size w ze w:=by
 refine ⟨⟨fun _ _=>rfl,fun _ _ _ _ _ h=>by simp [ze] at h,fun _=>trivial,fun b arr ak=>?_,fun g cs av=>by simp [ze] at av,Nat.le_refl _⟩,gD.refl _ _⟩
 simp only [iw] at ak
 split at ak
 ·rename_i c e fl ad
  simp at ak
  subst ak
  exact ⟨e,fl,ad⟩
 ·cases ak
theorem ae.calls {P:Program} {bt:FuncId} {args:List V} {v:V} {a:Value} (au:ae P bt args ze fun r _=>r=v) (aD:lN v=some a) {w:World}
  {args':Array Value} (aO:aT (iw w) args args'.toList):Calls P bt args' w fun e w'=>e=.returned a∧Below w.heap.size w w' :=
 (au (iw w) w.heap.size w w args' (pp w) aO).mono fun e w' ab=>by
  rcases ab with ⟨ρ',r,cm,h',he,wk,hw,_,eR⟩ | ⟨_,_,_,_,_,_,_,bF⟩
  ·subst eR
   rw [vW wk aD] at he
   exact ⟨he,hw.below.below⟩
  ·exact bF.elim
def nK (ops:Array Oper):Nat→Nat→Nat→Bool
 | 0,_,_=>false
 | n+1,k,i=>match ops[k]? with
  | some o=>o.after.any fun e=>Region.binds .any e&&(e.on==i||nK ops n e.on i)
  | none=>false
def Down (ops:Array Oper) (listed:Array Bool):Prop:=∀ k o,ops[k]?=some o→listed.getD k false=true→∀ e ∈ o.after,Region.binds .any e=true→listed.getD e.on false=true
theorem m6 {ops:Array Oper} {listed:Array Bool} (a7:Down ops listed):∀ (n k i:Nat),(∀ o,ops[k]?=some o→∀ e ∈ o.after,Region.binds .any e=true→listed.getD e.on false=true)→nK ops n k i=true→listed.getD i false=true
 | 0,k,i,_,h=>by simp [nK] at h
 | n+1,k,i,hk,h=>by
  unfold nK at h
  cases aR:ops[k]? with
  | none=>simp [aR] at h
  | some o=>
   simp only [aR] at h
   obtain ⟨j,aS,ab⟩:=Array.any_eq_true.1 h
   simp only [Bool.and_eq_true,Bool.or_eq_true,beq_iff_eq] at ab
   have hm:o.after[j] ∈ o.after:=Array.getElem_mem aS
   have h1:=hk o aR _ hm ab.1
   rcases ab.2 with aa | aa
   ·rw [←aa];exact h1
   ·exact m6 a7 n _ i (fun o' hs e he ak=>a7 _ o' hs h1 e he ak) aa
theorem Down.add {ops:Array Oper} {listed:Array Bool} (a7:Down ops listed) {i:Nat} (aH:i ∈ Region.ready .any ops listed):Down ops (listed.setIfInBounds i true):=by
 obtain ⟨_,o,aR,dt⟩:=mem_ready.1 aH
 intro k o' hs hk e he ak
 by_cases oy:k=i
 ·subst oy
  rw [aR] at hs
  obtain rfl:o=o':=by simpa using hs
  exact getD_set_true (dt e he ak)
 ·rw [getD_set_ne false (Ne.symm oy)] at hk
  exact getD_set_true (a7 k o' hs hk e he ak)
def q8 (P:Program) (ops:Array Oper) (es:List Nat) (K E:ah→I→Prop):Nat→Array Bool→ah→I→Prop
 | 0,listed,f,h=>Region.ready .any ops listed=[]∧K f h
 | n+1,listed,f,h=>(Region.ready .any ops listed=[]→K f h) ∧
  ∀ i ∈ Region.ready .any ops listed,∀ o,ops[i]?=some o →
   if es.contains i then (match gJ ops.toList o.guard f with
    | some true=>hd P o (fun bI h'=>q8 P ops es K E n (listed.setIfInBounds i true) bI h') E f h
    | some false=>q8 P ops es K E n (listed.setIfInBounds i true) (f.put o.dst (.tuple [])) h
    | none=>False)
   else ∃ v,fV P ops.toList h o v f∧q8 P ops es K E n (listed.setIfInBounds i true) (f.put o.dst v) h
theorem ED {P:Program} {n:Nat} {ops:Array Oper} {es:List Nat} (a1:ops.toList.all (fun o=>sw n o.dst)=true) {ρ0:Ren} {B:Nat} {aK:World} {Q:cq→ah→I→Prop} :
  ∀ (m:Nat) (listed:Array Bool) (f:ah) (h:I) (ρ:Ren) (a:Act) (w:World),ρ0.le ρ→aQ ρ B aK h w→dS ρ n f a→q8 P ops es (Q .normal) (Q .panic) m listed f h→wpAnyIn Fence.wide 0 P .any ops (lh n B aK ρ0 Q) m listed a w
 | 0,listed,f,h,ρ,a,w,hle,hw,aq,ad=>⟨ad.1,⟨ρ,.normal,f,h,trivial,hw,aq,hle,ad.2⟩⟩
 | m+1,listed,f,h,ρ,a,w,hle,hw,aq,ad=>by
  refine ⟨fun h0=>⟨ρ,.normal,f,h,trivial,hw,aq,hle,ad.1 h0⟩,fun i hi=>?_⟩
  unfold wpOpIn
  cases aR:ops[i]? with
  | none=>
   obtain ⟨_,o,Md,_⟩:=mem_ready.1 hi
   rw [aR] at Md;cases Md
  | some o=>
   simp only
   have cR:=ad.2 i hi o aR
   have a7:sw n o.dst=true:=(List.all_eq_true.1 a1) o (by rw [Array.mem_toList_iff];exact Array.mem_of_getElem? aR)
   by_cases he:es.contains i=true
   ·rw [if_pos he] at cR
    cases pn:gJ ops.toList o.guard f with
    | none=>simp [pn] at cR
    | some b=>
     rw [JV aq ops o pn]
     cases b with
     | true=>
      simp only [pn] at cR
      simp only [if_true]
      exact Ox sb.wide a7 hle hw aq cR (fun ρ' bI h' hB w' wx bL b4 aG=>ED a1 m _ bI h' ρ' hB w' wx bL b4 aG)
       (fun ρ' bI h' hB w' iu wx bL b4 nj bF=>⟨ρ',.panic,bI,h',nj,bL,b4,wx,bF⟩)
     | false=>
      simp only [pn] at cR
      simp only [Bool.false_eq_true,if_false]
      exact ⟨fun _ _=>trivial,ED a1 m _ _ h ρ _ w hle hw (aq.put (i7 _) o.dst a7) cR⟩
   ·rw [if_neg he] at cR
    obtain ⟨v,bd,gR⟩:=cR
    rcases bd with ⟨pn,U⟩ | ⟨pn,rfl⟩
    ·rw [JV aq ops o pn]
     simp only [if_true]
     refine Ox sb.wide (next:=fun bI h'=>bI=f.put o.dst v∧h'=h) (exc:=fun _ _=>False) a7 hle hw aq ?_ (fun ρ' bI h' hB w' wx bL b4 aG=>?_) (fun _ _ _ _ _ _ _ _ _ _ he=>he.elim)
     ·unfold hd
      rcases U with U | ⟨g,args,U,aZ⟩
      ·rw [U];exact ⟨rfl,rfl⟩
      ·rw [U]
       exact aZ.e.mono (fun r h' ⟨aw,aW⟩=>⟨by rw [aw],aW⟩) fun _ h=>h
     ·obtain ⟨rfl,rfl⟩:=aG
      exact ED a1 m _ _ _ ρ' hB w' wx bL b4 gR
    ·rw [JV aq ops o pn]
     simp only [Bool.false_eq_true,if_false]
     exact ⟨fun _ _=>trivial,ED a1 m _ _ h ρ _ w hle hw (aq.put (i7 _) o.dst a7) gR⟩
section
variable {P:Program} {ops:Array Oper} {es:List Nat} {K E:ah→I→Prop}
def ur (ops:Array Oper) (es:List Nat):Nat→Nat→Array Bool→Bool
 | 0,_,listed=>(Region.ready .any ops listed).isEmpty
 | fuel+1,k,listed=>(if es.contains k then Region.ready .any ops listed==[k]
   else (Region.ready .any ops listed).contains k&&Region.free .any ops listed k&&es.all fun e=>listed.getD e true||nK ops ops.size e k)&&ur ops es fuel (k+1) (listed.setIfInBounds k true)
theorem afT {o:Oper} {K An E:ah→I→Prop} (hk:∀ f h,K f h→An f h) {f:ah} {h:I} (U:hd P o K E f h):hd P o An E f h:=by
 unfold hd at *
 split at U
 ·exact hk _ _ U
 ·exact U.mono (fun _ _ h=>hk _ _ h) fun _ h=>h
 ·exact fun v h' hm=>hk _ _ (U v h' hm)
 ·exact U
 ·exact U.mono (fun _ _ h=>hk _ _ h)
 ·exact U.elim
theorem TO {listed:Array Bool} {i e:Nat} (h:listed.getD e true=true):(listed.setIfInBounds i true).getD e true=true:=by
 by_cases pj:i=e
 ·subst pj
  by_cases aN:i<listed.size
  ·simp [aN]
  ·simp [aN]
 ·rw [getD_set_ne true pj];exact h
theorem Kc:∀ (l:List Oper) (k:Nat) (listed:Array Bool) (f:ah) (h:I),(∀ j,l[j]?=ops[k+j]?)→Down ops listed →
  ur ops es l.length k listed=true→kJ P ops.toList es K E k l f h→q8 P ops es K E l.length listed f h
 | [],_,_,_,_,_,_,bM,ad=>⟨by simpa [ur] using bM,ad⟩
 | o::l,k,listed,f,h,az,gS,bM,ad=>by
  have h0:ops[k]?=some o:=by simpa using (az 0).symm
  have fO:∀ j,l[j]?=ops[k+1+j]?:=fun j=>by have:=az (j+1);simpa [Nat.add_assoc,Nat.add_comm 1 j] using this
  simp only [List.length_cons,ur,Bool.and_eq_true] at bM
  obtain ⟨au,Gf⟩:=bM
  unfold kJ at ad
  by_cases he:es.contains k=true
  ·rw [if_pos he] at au ad
   have aH:Region.ready .any ops listed=[k]:=by simpa using au
   refine ⟨fun h=>(by rw [aH] at h;cases h),fun i hi o' hs=>?_⟩
   rw [aH] at hi
   obtain rfl:i=k:=by simpa using hi
   rw [h0] at hs
   obtain rfl:o=o':=by simpa using hs
   rw [if_pos he]
   have wy:=gS.add (show i ∈ Region.ready .any ops listed by rw [aH];simp)
   cases hw:gJ ops.toList o.guard f with
   | none=>simp [hw] at ad
   | some b=>
    cases b with
    | true=>
     simp only [hw] at ad⊢
     exact afT (fun bI h' hk=>Kc l (i+1) _ bI h' fO wy Gf hk) ad
    | false=>
     simp only [hw] at ad⊢
     exact Kc l (i+1) _ _ h fO wy Gf ad
  ·rw [if_neg he] at au ad
   simp only [Bool.and_eq_true] at au
   obtain ⟨⟨aH,aq⟩,OS⟩:=au
   have gj:k ∈ Region.ready .any ops listed:=by simpa using aH
   have:∃ v,fV P ops.toList h o v f∧kJ P ops.toList es K E (k+1) l (f.put o.dst v) h:=by
    split at ad
    ·rename_i hw;obtain ⟨v,U,ad⟩:=ad;exact ⟨v,.inl ⟨hw,U⟩,ad⟩
    ·rename_i hw;exact ⟨.tuple [],.inr ⟨hw,rfl⟩,ad⟩
    ·exact ad.elim
   obtain ⟨v,bd,bQ⟩:=this
   have mE:∀ e ∈ es,listed.getD e true=true∨nK ops ops.size e k=true:=fun e qV=>by
    have:=List.all_eq_true.1 OS e qV
    simpa using this
   refine xL h0 (by simpa using he) mE l.length listed f h gS (Region.free_spec h0 aq) gj bd (fun e h1=>h1)
    (Kc l (k+1) _ _ h fO (gS.add gj) Gf bQ)
where
 xL {i:Nat} {lS:Oper} {v:V} (hi:ops[i]?=some lS) (pj:es.contains i=false) {yq:Array Bool} (mE:∀ e ∈ es,yq.getD e true=true∨nK ops ops.size e i=true)
   (fuel:Nat) (listed:Array Bool) (f:ah) (h:I) (gS:Down ops listed) (ti:∀ j hM,ops[j]?=some hM→j≠i→listed.getD j true=false→(∀ e ∈ hM.after,Region.binds .any e=true→e.on≠i)→lS.apart ops hM=true)
   (aH:i ∈ Region.ready .any ops listed) (bd:fV P ops.toList h lS v f) (mV:∀ e,yq.getD e true=true→listed.getD e true=true)
   (H:q8 P ops es K E fuel (listed.setIfInBounds i true) (f.put lS.dst v) h):q8 P ops es K E (fuel+1) listed f h:=by
  induction fuel generalizing listed f with
  | zero=>
   refine ⟨fun h=>(by rw [h] at aH;cases aH),fun j aS o aR=>?_⟩
   by_cases cB:j=i
   ·subst cB
    rw [hi] at aR
    obtain rfl:lS=o:=by simpa using aR
    rw [if_neg (by rw [pj];exact Bool.false_ne_true)]
    exact ⟨v,bd,H⟩
   ·have:=ready_mono aS cB
    rw [H.1] at this
    cases this
  | succ fuel ih=>
   refine ⟨fun h=>(by rw [h] at aH;cases aH),fun j aS hM kV=>?_⟩
   by_cases cB:j=i
   ·subst cB
    rw [hi] at kV
    obtain rfl:lS=hM:=by simpa using kV
    rw [if_neg (by rw [pj];exact Bool.false_ne_true)]
    exact ⟨v,bd,H⟩
   ·have oE:=(mem_ready.1 aH).1
    obtain ⟨q9,Gg,wz,dt⟩:=mem_ready.1 aS
    rw [kV] at wz
    obtain rfl:hM=Gg:=by simpa using wz
    have Ao:¬es.contains j=true:=fun au=>by
     rcases mE j (by simpa using au) with h1 | h1
     ·rw [mV j h1] at q9;cases q9
     ·have aa:=m6 gS _ j i (fun o' hs e he ak=>by
                                   rw [kV] at hs;obtain rfl:hM=o':=by simpa using hs
                                   exact dt e he ak) h1
      rcases Nat.lt_or_ge i listed.size with h' | h'
      ·simp [h'] at oE aa;rw [oE] at aa;cases aa
      ·simp [Array.getElem?_eq_none h'] at aa
    have hH:=H.2 j (ready_mono aS cB) hM kV
    rw [if_neg Ao] at hH⊢
    obtain ⟨u,Gh,gR⟩:=hH
    have uu:∀ e ∈ hM.after,Region.binds .any e=true→e.on≠i:=fun e he ak heq=>by
     have h1:=dt e he ak
     have h0:=oE
     rw [heq] at h1
     rcases Nat.lt_or_ge i listed.size with h' | h'
     ·simp [h'] at h0 h1;rw [h0] at h1;cases h1
     ·simp [Array.getElem?_eq_none h'] at h1
    obtain ⟨cG,a2,a3⟩:=Oper.apart_spec (ti j hM kV cB q9 uu)
    refine ⟨u,Gh.zd lS.dst v cG,?_⟩
    have tj:∀ k ok,ops[k]?=some ok→k≠i→(listed.setIfInBounds j true).getD k true=false →
      (∀ e ∈ ok.after,Region.binds .any e=true→e.on≠i)→lS.apart ops ok=true:=fun k ok hk oy oE hJ=>by
     refine ti k ok hk oy ?_ hJ
     by_cases Ap:j=k
     ·subst Ap;exact q9
     ·rw [getD_set_ne true Ap] at oE;exact oE
    refine ih (listed.setIfInBounds j true) (f.put hM.dst u) (gS.add aS) tj (ready_mono aH (Ne.symm cB)) (bd.put hM.dst u a3) (fun e h1=>TO (mV e h1)) ?_
    rw [Array.setIfInBounds_comm _ _ cB,←ah.put_comm f v u a2]
    exact gR
end
theorem aX.drawn {P:Program} {n id:Nat} {ops:Array Oper} (es:List Nat) (hm:P.follows .mixedOrders=true) (bM:ur ops es ops.size 0 (Array.replicate ops.size false)=true) (a1:ops.toList.all (fun o=>sw n o.dst)=true) {Q:cq→ah→I→Prop} {f:ah} {h:I}
  (ad:kJ P ops.toList es (Q .normal) (Q .panic) 0 ops.toList f h):aX P n (.region id ops true) Q f h:=by
 intro ρ B aK a w hw aq
 refine wpIn_wide.1 (wpIn_region_any (n:=0) hm (ED (ρ0:=ρ) (es:=es) a1 _ _ f h ρ a _ (Ren.le.refl ρ) hw.drew aq ?_))
 have:=Kc (P:=P) (es:=es) ops.toList 0 (Array.replicate ops.size false) f h (by simp) (fun k o aR hk=>by simp [Array.getElem?_replicate] at hk;split at hk<;>simp_all) (by simpa using bM) ad
 simpa using this
def wA (P:Program) (ol:List Oper) (es:List Nat) (k:Nat) (l:List Oper) [K:e1] (f:ah) (h:I):Prop:=kJ P ol es K.go K.exc k l f h
theorem aX.pr {P:Program} {n id:Nat} {ops:Array Oper} (es:List Nat) (hm:P.follows .mixedOrders=true) (bM:ur ops es ops.size 0 (Array.replicate ops.size false)=true) (a1:ops.toList.all (fun o=>sw n o.dst)=true) {Q:rY} {f:ah} {h:I}
  (ad:@wA P ops.toList es 0 ops.toList (.out Q) f h):aX P n (.region id ops true) Q.go f h:=aX.drawn es hm bM a1 ad
section
variable {P:Program} {ol l:List Oper} {es:List Nat} {k:Nat} {K:e1} {f:ah} {h:I} {d:Option Tmp} {ty:TypeId} {pos:String} {cd:Array Edge} {op:Op} {g:Option (Nat×Bool)}
theorem zf:@wA P ol es k [] K f h=@jl K f h:=nr rfl
theorem sG:@jl (e1.rest P ol es k l K) f h=@wA P ol es k l K f h:=nr rfl
theorem Gi:e1.exc (e1.rest P ol es k l K) f h=e1.exc K f h:=nr rfl
theorem afU {o:Oper} {h:I} {f:ah} {X E:ah→I→Prop} (aD:∀ v h',dC P o (f.eval h) h=some (.val v h')→h'=h) (U:hd P o X E f h) (Aq:∀ g a,dC P o (f.eval h) h≠some (.call g a)) (TP:∀ l,dC P o (f.eval h) h≠some (.alts l)) (Mb:dC P o (f.eval h) h≠some .panic) (TQ:∀ l a,dC P o (f.eval h) h≠some (.round l a)) :
  ∃ v,za P o h f v∧X (f.put o.dst v) h:=by
 unfold hd at U
 cases he:dC P o (f.eval h) h with
 | none=>simp [he] at U
 | some s=>
  cases s with
  | val v h'=>simp only [he] at U;have:=aD v h' he;subst this;exact ⟨v,.inl he,U⟩
  | call g a=>exact absurd he (Aq g a)
  | alts l=>exact absurd he (TP l)
  | panic=>exact absurd he Mb
  | round l a=>exact absurd he (TQ l a)
def lT:Op→Bool
 | .move _ | .assign _ | .pick .. | .build .. | .load .. | .nilCheck _ | .binOp .. | .unOp .. | .makeInterface .. | .makeFunc .. | .slice .. | .fieldAddr .. | .field .. | .indexAddr .. | .index .. | .lookup .. | .entry _ | .typeAssert .. | .extract ..=>true
 | .convert s d _=>s !=d
 | .call ⟨.builtin .len,_,_⟩ | .call ⟨.builtin .min,_,_⟩ | .call ⟨.builtin .max,_,_⟩=>true
 | _=>false
theorem OT {x:Option V} {h:I} {s:Step} (aS:fY x h=some s):∃ v,s=.val v h:=by
 unfold fY at aS
 split at aS
 ·simp at aS;exact ⟨_,aS.symm⟩
 ·cases aS
theorem BW {o:Oper} (hi:lT o.op=true) {bu:Operand→V} {s:Step} (he:dC P o bu h=some s):∃ v,s=.val v h:=by
 obtain ⟨dst,op,type,pos,after,guard⟩:=o
 unfold dC at he
 cases op<;>simp [lT] at hi<;>simp only at he
 case move x=>simp at he;exact ⟨_,he.symm⟩
 case assign x=>simp at he;exact ⟨_,he.symm⟩
 case pick c a b=>split at he<;>simp at he;exact ⟨_,he.symm⟩
 case nilCheck x=>split at he<;>simp at he<;>exact ⟨_,he.symm⟩
 case makeInterface t x=>split at he<;>simp at he;exact ⟨_,he.symm⟩
 case makeFunc fn xs ys=>simp at he;exact ⟨_,he.symm⟩
 case extract t k=>split at he<;>first | exact OT he | simp at he
 case convert a b x=>
  cases au:lQ P a b (bu x) h with
  | some v=>
   rw [au] at he
   exact ⟨v,(Option.some.inj he).symm⟩
  | none=>
   rw [au] at he
   have:vD P a b (bu x) h=none:=by
    unfold vD
    split
    ·rw [if_neg (fun e=>hi e.1)]
    ·rfl
   rw [this] at he
   cases he
 case call c=>
  have ak:c.callee=.builtin .len∨c.callee=.builtin .min∨c.callee=.builtin .max:=by
   split at hi<;>simp_all
  have Ar:∀ b,c.callee=.builtin b→(b=.len∨b=.min∨b=.max)→∃ v,s=.val v h:=fun b ak au=>by
   unfold jC at he
   rw [ak] at he
   have gh:(match oi P b c.argTypes.toList type (td c.args) (c.args.toList.map bu) h with | some (v,h')=>some (Step.val v h') | none=>none)=some s:=by
    rcases au with rfl | rfl | rfl<;>exact he
   cases aO:oi P b c.argTypes.toList type (td c.args) (c.args.toList.map bu) h with
   | none=>rw [aO] at gh;cases gh
   | some p=>
    obtain ⟨v,h'⟩:=p
    rw [aO] at gh
    simp at gh
    subst gh
    have:h'=h:=by
     unfold oi at aO
     rcases au with rfl | rfl | rfl
     ·split at aO
      ·split at aO<;>simp at aO;exact aO.2.symm
      all_goals first
       | (simp at *;done)
       | (
         split at aO
         ·split at aO<;>simp at aO;exact aO.2.symm
         ·simp at aO)
     all_goals
      split at aO
      all_goals first
       | (simp at *;done)
       | (
         split at aO
         ·split at aO<;>simp at aO;exact aO.2.symm
         ·simp at aO)
    subst this
    exact ⟨v,rfl⟩
  rcases ak with ak | ak | ak
  ·exact Ar _ ak (.inl rfl)
  ·exact Ar _ ak (.inr (.inl rfl))
  ·exact Ar _ ak (.inr (.inr rfl))
 all_goals exact OT he
def As (w:Option Bool) (o:Oper) (P:Program) (ol:List Oper) (es:List Nat) (k:Nat) (l:List Oper) [K:e1] (f:ah) (h:I):Prop :=
 match w with
 | some true=>@ed P o (e1.rest P ol es (k+1) l K) f h
 | some false=>@wA P ol es (k+1) l K (f.put o.dst (.tuple [])) h
 | none=>False
theorem afV {o:Oper} (hi:(lT o.op||es.contains k)=true) (U:@As (gJ ol o.guard f) o P ol es k l K f h):@wA P ol es k (o::l) K f h:=by
 unfold wA kJ
 unfold As at U
 by_cases he:es.contains k=true
 ·rw [if_pos he]
  cases hw:gJ ol o.guard f with
  | none=>simp [hw] at U
  | some b=>cases b<;>simp only [hw] at U⊢<;>exact U
 ·rw [if_neg he]
  have c4:lT o.op=true:=by
   simp only [Bool.or_eq_true] at hi
   exact hi.resolve_right he
  cases hw:gJ ol o.guard f with
  | none=>simp [hw] at U
  | some b=>
   cases b with
   | false=>simp only [hw] at U⊢;exact U
   | true=>
    simp only [hw] at U⊢
    have er:hd P o (fun bI h'=>kJ P ol es K.go K.exc (k+1) l bI h') K.exc f h:=U
    exact afU (fun v h' he=>by obtain ⟨u,hu⟩:=BW c4 he;cases hu;rfl) er
     (fun g a he=>by obtain ⟨u,hu⟩:=BW c4 he;cases hu) (fun l he=>by obtain ⟨u,hu⟩:=BW c4 he;cases hu) (fun he=>by obtain ⟨u,hu⟩:=BW c4 he;cases hu) (fun l a he=>by obtain ⟨u,hu⟩:=BW c4 he;cases hu)
theorem sH {o:Oper} (hi:(lT o.op||es.contains k)=true):@wA P ol es k (o::l) K f h=@As (gJ ol o.guard f) o P ol es k l K f h:=by
 refine propext ⟨fun av=>?_,afV hi⟩
 unfold wA kJ at av
 unfold As
 by_cases he:es.contains k=true
 ·rw [if_pos he] at av
  cases hw:gJ ol o.guard f with
  | none=>simp [hw] at av
  | some b=>cases b<;>simp only [hw] at av⊢<;>exact av
 ·rw [if_neg he] at av
  have c4:lT o.op=true:=by
   simp only [Bool.or_eq_true] at hi
   exact hi.resolve_right he
  cases hw:gJ ol o.guard f with
  | none=>simp [hw] at av
  | some b=>
   cases b with
   | false=>simp only [hw] at av⊢;exact av
   | true=>
    simp only [hw] at av⊢
    obtain ⟨v,ad,hk⟩:=av
    show hd P o (fun bI h'=>kJ P ol es K.go K.exc (k+1) l bI h') K.exc f h
    unfold hd
    rcases ad with ad | ⟨g,a,ad,_⟩
    ·rw [ad];exact hk
    ·obtain ⟨u,hu⟩:=BW (h:=h) c4 ad;cases hu
theorem sI {o:Oper}:@As (some true) o P ol es k l K f h=@ed P o (e1.rest P ol es (k+1) l K) f h:=nr rfl
theorem sJ:gJ ol none f=some true:=nr rfl
theorem afW {o:Oper} {bt:FuncId} {args:List V} {v:V} (he:es.contains k=false) (av:gJ ol o.guard f=some true) (aR:dC P o (f.eval h) h=some (.call bt args)) (aZ:Pure P bt args h v) (hk:@wA P ol es (k+1) l K (f.put o.dst v) h):@wA P ol es k (o::l) K f h:=by
 unfold wA kJ
 rw [if_neg (by simp only [he];simp),av]
 exact ⟨v,.inr ⟨bt,args,aR,aZ⟩,hk⟩
end
end Go.Proofs.YtedkjhifbibpmaaGreatDoor.Ab
